import PyProof.Rows.All
import Wide.All
import OpenK.AllK
import Wide.FinOn
import Lean
import PyProof.EqAt
import PyProof.EqKinds
import PyProof.TupleCall
import PyProof.CallType
import PyProof.WalkLemmas
import PyProof.StrOps
import PyProof.ForAny
import PyProof.IsInstanceH
import PyProof.IsiFacts
import PyProof.IsiFacts2
import PyProof.FactsAll.object
import PyProof.ListMulRoad
import PyProof.FactsAll.tuple_2
import PyProof.StrLawsIdx
import KE.KDictList
import PyProof.Rows.Range3
import PyProof.EnumMake
import PyProof.EnumFor
import PyProof.CompUse
import PyProof.ListStr
import PyProof.NeKinds
import KE.KDictOf
import KE.KEqDict
import KE.KDictSum
import PyProof.AttrMissHeap
import KE.KSortTup
import PyProof.IsInstanceT
import PyProof.FString5
import PyProof.Rows.SeqMore2
import PyProof.IsiPairs
import PyProof.DictWalks
import PyProof.Cells
import PyProof.StrCalls3
import PySem.Challenge.RW_shardask_k10_chosen_and_kept
set_option Elab.async false
set_option linter.all false
set_option maxRecDepth 100000
set_option maxHeartbeats 6400000
local macro_rules
  | `(tactic| trivial) => `(tactic| first | exact Or.inl rfl | exact Or.inr rfl | exact Or.inr (Or.inl rfl) | exact Or.inr (Or.inr rfl) | exact ⟨rfl, rfl, rfl, by decide +kernel, rfl, by decide +kernel, by decide +kernel⟩ | exact ⟨by decide +kernel, rfl, by decide +kernel, by decide +kernel⟩ | fail)
namespace L2
open PySem PySem.Spec PyProof.Rows
abbrev Key:=Sum Int Str
def yP:Key→Value→Bool
 |.inl k,v=>Value.isInt k v
 |.inr x,v=>Value.isStrOf x v
def aXo (w:World):Key→Int
 |.inl k=>hashInt k
 |.inr x=>hashStr w x
theorem cY:∀{k:Key} {v:Value},yP k v=true→(∃i t,k=Sum.inl i∧v=Value.int i t)∨(∃x t,k=Sum.inr x∧v=Value.str x t)
 |.inl i,v,h=>by
  obtain ⟨t,e⟩:=Value.isInt_shape (k:=i) (v:=v) h
  exact .inl ⟨i,t,rfl,e⟩
 |.inr x,v,h=>by
  obtain ⟨t,e⟩:=Value.isStrOf_shape (x:=x) (v:=v) h
  exact .inr ⟨x,t,rfl,e⟩
theorem aLy (i:Int) (t:Tok):yP (.inl i) (.int i t)=true:=by simp [yP,Value.isInt]
theorem aNg (x:Str) (t:Tok):yP (.inr x) (.str x t)=true:=by simp [yP,Value.isStrOf]
theorem aVt (a b:Int):decide ((Sum.inl a:Key)=Sum.inl b)=(a == b):=by
 by_cases e:a=b
 ·subst e;simp
 ·have h:¬ (Sum.inl a:Key)=Sum.inl b:=fun q=>e (Sum.inl.inj q)
  rw [decide_eq_false h]
  exact (beq_eq_false_iff_ne.mpr e).symm
theorem aT8 (a b:Str):decide ((Sum.inr a:Key)=Sum.inr b)=decide (a=b):=by
 by_cases e:a=b
 ·subst e;simp
 ·have h:¬ (Sum.inr a:Key)=Sum.inr b:=fun q=>e (Sum.inr.inj q)
  rw [decide_eq_false h,decide_eq_false e]
theorem aVw (a:Int) (b:Str):decide ((Sum.inl a:Key)=Sum.inr b)=false:=decide_eq_false (fun q=>nomatch q)
theorem aU2 (a:Str) (b:Int):decide ((Sum.inr a:Key)=Sum.inl b)=false:=decide_eq_false (fun q=>nomatch q)
def cJ (prog:Program) (w:World):PySem.KeyKind prog w Key where
 is:=yP
 hash:=aXo w
 inj:=fun v a b ha hb=>by
  rcases cY ha with ⟨i,t,rfl,rfl⟩|⟨x,t,rfl,rfl⟩
  ·rcases cY hb with ⟨j,u,rfl,e⟩|⟨y,u,rfl,e⟩
   ·injection e with e1 _;rw [e1]
   ·exact nomatch e
  ·rcases cY hb with ⟨j,u,rfl,e⟩|⟨y,u,rfl,e⟩
   ·exact nomatch e
   ·injection e with e1 _;rw [e1]
 byValue:=fun k v h=>by
  rcases cY h with ⟨i,t,rfl,rfl⟩|⟨x,t,rfl,rfl⟩ <;> rfl
 pyHash:=fun hv h=>by
  rcases cY hv with ⟨i,t,rfl,rfl⟩|⟨x,t,rfl,rfl⟩
  ·exact wpAny_pyHash_int h
  ·exact wpAny_pyHash_str h
 eqBool:=fun hu hv h=>by
  rcases cY hu with ⟨i,t,rfl,rfl⟩|⟨x,t,rfl,rfl⟩
  ·rcases cY hv with ⟨j,u,rfl,rfl⟩|⟨y,u,rfl,rfl⟩
   ·rw [aVt] at h;exact wpAny_eqBool_int h
   ·rw [aVw] at h;exact SeqAt.EqAt.int_str i t y u _ _ _ _ h
  ·rcases cY hv with ⟨j,u,rfl,rfl⟩|⟨y,u,rfl,rfl⟩
   ·rw [aU2] at h;exact SeqAt.EqAt.str_int x t j u _ _ _ _ h
   ·rw [aT8] at h;exact wpAny_eqBool_str h
 «strs»:=fun k x t v h=>by
  rcases cY h with ⟨i,u,rfl,e⟩|⟨y,u,rfl,e⟩
  ·exact nomatch e
  ·injection e with e1 _
   subst e1
   cases v <;> rfl
theorem aE3 (prog:Program) (w:World) (i:Int) (t:Tok):(cJ prog w).is (.inl i) (.int i t)=true:=aLy i t
theorem aFa (prog:Program) (w:World) (x:Str) (t:Tok):(cJ prog w).is (.inr x) (.str x t)=true:=aNg x t
inductive V where
 |non|bl (b:Bool)|int (i:Int)|str (x:Str)|byt (b:Array UInt8)|flt (b:UInt64)|ref (a:Addr)|ty (n:String)
 deriving DecidableEq
def RelV:V→Value→Prop
 |.non,u=>u=Value.none
 |.bl b,u=>u=Value.bool b
 |.int i,u=>∃t,u=Value.int i t
 |.str x,u=>∃t,u=Value.str x t
 |.byt b,u=>∃t,u=Value.bytes b t
 |.flt b,u=>∃t,u=Value.float b t
 |.ref a,u=>u=Value.ref a
 |.ty n,u=>u=Value.type n
abbrev Vals:List V→List Value→Prop:=Paired RelV
theorem Vals.length {xs:List V} {us:List Value} (r:Vals xs us):xs.length=us.length:=Paired.length r
theorem Vals.get:∀{xs:List V} {us:List Value} {i:Nat} {x:V},Vals xs us→xs[i]?=some x→∃u,us[i]?=some u∧RelV x u
 |_,_,_,_,.nil,e=>by simp at e
 |_,_,0,_,.cons r _,e=>by simp at e;subst e;exact ⟨_,rfl,r⟩
 |_,_,i+1,x,.cons _ t,e=>by
  obtain ⟨u,h1,h2⟩:=Vals.get (i:=i) (x:=x) t (by simpa using e)
  exact ⟨u,by simpa using h1,h2⟩
theorem Vals.set {x:V} {u:Value} (r:RelV x u):∀{xs:List V} {us:List Value} (i:Nat),Vals xs us→Vals (xs.set i x) (us.set i u)
 |_,_,_,.nil=>.nil
 |_,_,0,.cons _ t=>.cons r t
 |_,_,i+1,.cons q t=>.cons q (Vals.set r i t)
theorem Vals.append:∀{xs ys:List V} {us ws:List Value},Vals xs us→Vals ys ws→Vals (xs++ys) (us++ws)
 |_,_,_,_,.nil,s=>s
 |_,_,_,_,.cons r t,s=>.cons r (Vals.append t s)
theorem Vals.take:∀{xs:List V} {us:List Value} (n:Nat),Vals xs us→Vals (xs.take n) (us.take n)
 |_,_,0,_=>.nil
 |_,_,_+1,.nil=>.nil
 |_,_,n+1,.cons r t=>.cons r (Vals.take n t)
theorem Vals.drop:∀{xs:List V} {us:List Value} (n:Nat),Vals xs us→Vals (xs.drop n) (us.drop n)
 |_,_,0,r=>r
 |_,_,_+1,.nil=>.nil
 |_,_,n+1,.cons _ t=>Vals.drop n t
def zT:Option V→Option Value→Prop
 |some v,some u=>RelV v u
 |none,none=>True
 |_,_=>False
def KV {κ:Type}:List (κ × V)→List (κ × Value)→Prop:=Paired fun (p:κ × V) (q:κ × Value)=>p.1=q.1∧RelV p.2 q.2
def kV:Key→V
 |.inl i=>.int i
 |.inr x=>.str x
inductive HO where
  |lst (xs:List V)
  |tup (xs:List V)
  |dK (kvs:List (Key × V))|dT (kvs:List (List Key × V))
  |set (S:Int→Bool) (n:Nat)
  |ins (C dx:Addr) (fs:List (Str × V))
  |own (x:Addr)
  |xd (fs:List (Str × V))
  |met (f x:Addr)
  |rng (lo hi:Int)
  |frz (o:Obj) (u:HO)
  |tbl (ps:Array Value)
  |ext (φ:Heap→Prop)
abbrev Hp:=Addr→Option HO
def upd (H:Hp) (a:Addr) (o:HO):Hp:=fun b=>if b=a then some o else H b
theorem aH {H:Hp} {a:Addr} {o:HO}:upd H a o a=some o:=by unfold upd;rw [if_pos rfl]
theorem aU {H:Hp} {a b:Addr} {o:HO} (h:b≠a):upd H a o b=H b:=by unfold upd;rw [if_neg h]
theorem aS5 {H:Hp} {a:Addr} {o u:HO}:upd (upd H a o) a u=upd H a u:=by
 funext b;unfold upd;split <;> rfl
theorem aAw {H:Hp} {a b:Addr} {o u:HO} (h:H a=some o) (h':H b=some u) (d:o≠u):a≠b:=by
 intro e;subst e;rw [h] at h';exact d (Option.some.inj h')
theorem aZ {H:Hp} {a b:Addr} {o:HO} (h:H a=some o) (h':H b=none):a≠b:=by
 intro e;subst e;rw [h] at h';cases h'
def wA (h:Heap) (a:Addr) (items:Array Value):Prop:=IsTup h a items∧∀o,h.get? a=some o→o.dict=none
theorem wA.of {h:Heap} {a:Addr} {items:Array Value} {o:Obj} (e:h.get? a=some o) (d:o.dict=none) (x:IsTup h a items):wA h a items:=⟨x,fun o' e'=>by rw [e] at e';cases e';exact d⟩
theorem wA.new (h:Heap) (items:Array Value):wA (h.push { cls:=.type "tuple",data:=.seq items }) h.objs.size items:=.of (Heap.get?_push_size _ rfl) rfl (IsTup.new _ _)
theorem wA.keep {h h':Heap} {a:Addr} {items:Array Value} (x:wA h a items) (k:∀o,h.get? a=some o→h'.get? a=some o):wA h' a items:=by
 obtain ⟨⟨o,e,c⟩,d⟩:=x
 exact .of (k o e) (d o e) ⟨o,k o e,c⟩
section
variable (P:Program) (w:World)
def dJ (H:Hp) (h:Heap) (a:Addr):HO→Prop
 |.lst xs=>xs.length≤sizeLine∧∃(its:List Value) (n:Nat),Vals xs its∧h.get? a=some { cls:=.type "list",data:=.seq its.toArray n }
 |.tup xs=>xs.length≤sizeLine∧∃its:List Value,Vals xs its∧wA h a its.toArray
 |.dK kvs=>kvs.length≤sizeLine∧(a == sysModules)=false∧∃vs,KV kvs vs∧h.DictOf (cJ P w) a vs
 |.dT kvs=>kvs.length≤sizeLine∧(a == sysModules)=false∧∃xs:List (List Key × Addr × Value),
   Paired (fun (p:List Key × V) (q:List Key × Addr × Value)=>p.1=q.1∧H q.2.1=some (.tup (p.1.map kV))∧RelV p.2 q.2.2) kvs xs ∧
   ∃o es ep,h.get? a=some o∧o.ExactDict∧o.data=.dict es ep∧es.toList=xs.map (entryOfKey (tupleKind (cJ P w)))∧(xs.map (·.1)).Nodup
 |.set S n=>h.SetOf (intKind P w) a S n
 |.ins C dx fs=>H dx=some (.own a)∧fs.length≤1000∧dx≠a∧h.get? a=some (PySem.W.instObj C dx) ∧
   ∃mA,h.Ns1 dx mA∧(∀f,zT (fs.lookup f) (mA f))∧PySem.Within mA (fs.map (·.1))
 |.own _=>∃o,h.get? a=some o
 |.xd fs=>∃mA,h.Ns1 a mA∧∀f,zT (fs.lookup f) (mA f)
 |.rng lo hi=>∃t u v,h.get? a=some { cls:=.type "range",data:=.fields #[.int lo t,.int hi u,.int 1 v] }
 |.frz o u=>h.get? a=some o∧dJ H h a u
 |.tbl ps=>h.get? a=some { cls:=.none,data:=.fields ps }
 |.met f x=>h.get? a=some (PySem.W.methodObj (.ref f) (.ref x))
 |.ext φ=>φ h∧(∃o,h.get? a=some o)∧∀h1 h2:Heap,φ h1→(∀o,h1.get? a=some o→h2.get? a=some o)→φ h2
def HOk (H:Hp) (h:Heap):Prop:=∀a o,H a=some o→dJ P w H h a o
end
section
variable {P:Program} {w:World} {H H':Hp} {h h':Heap} {a:Addr} {o:HO}
theorem dJ.lt (x:dJ P w H h a o):a<h.objs.size:=by
 cases o with
 |lst xs=>obtain ⟨_,_,_,_,e⟩:=x;exact Heap.lt_size e
 |tup xs=>obtain ⟨_,_,_,p⟩:=x;exact p.1.lt
 |dK kvs=>obtain ⟨_,_,_,_,o,_,_,e,_⟩:=x;exact Heap.lt_size e
 |dT kvs=>obtain ⟨_,_,_,_,o,_,_,e,_⟩:=x;exact Heap.lt_size e
 |set S n=>obtain ⟨o,_,_,_,e,_⟩:=x;exact Heap.lt_size e
 |ins C dx fs=>obtain ⟨_,_,_,e,_⟩:=x;exact Heap.lt_size e
 |own y=>obtain ⟨_,e⟩:=x;exact Heap.lt_size e
 |xd fs=>obtain ⟨_,⟨_,_,_,e,_⟩,_⟩:=x;exact Heap.lt_size e
 |rng lo hi=>obtain ⟨_,_,_,e⟩:=x;exact Heap.lt_size e
 |frz ob u=>obtain ⟨e,_⟩:=x;exact Heap.lt_size e
 |tbl ps=>exact Heap.lt_size (show h.get? a=some _ from x)
 |met f y=>exact Heap.lt_size (show h.get? a=some _ from x)
 |ext φ=>obtain ⟨_,⟨_,e⟩,_⟩:=x;exact Heap.lt_size e
theorem Paired.aVs {α β:Type} {F G:α→β→Prop}:∀{l₁:List α} {l₂:List β},Paired F l₁ l₂→(∀a b,F a b→G a b)→Paired G l₁ l₂
 |_,_,.nil,_=>.nil
 |_,_,.cons r t,f=>.cons (f _ _ r) (Paired.aVs t f)
theorem dJ.stay (x:dJ P w H h a o) (k:∀b u,(b=a∨H b=some (.own a))→h.get? b=some u→h'.get? b=some u)
  (ho:∀b,H b=some (.own a)→H' b=some (.own a)) (ht:∀b xs,H b=some (.tup xs)→H' b=some (.tup xs)):dJ P w H' h' a o:=by
 induction o with
 |lst xs=>obtain ⟨z,its,n,r,e⟩:=x;exact ⟨z,its,n,r,k _ _ (.inl rfl) e⟩
 |tup xs=>obtain ⟨z,its,r,p⟩:=x;exact ⟨z,its,r,p.keep fun o e=>k _ _ (.inl rfl) e⟩
 |dK kvs=>obtain ⟨z,y,vs,r,ob,es,ep,e,c⟩:=x;exact ⟨z,y,vs,r,ob,es,ep,k _ _ (.inl rfl) e,c⟩
 |dT kvs=>
  obtain ⟨z,y,xs,r,ob,es,ep,e,c⟩:=x
  exact ⟨z,y,xs,Paired.aVs r fun p q z=>⟨z.1,ht _ _ z.2.1,z.2.2⟩,ob,es,ep,k _ _ (.inl rfl) e,c⟩
 |set S n=>obtain ⟨ob,es,ep,t,e,c⟩:=x;exact ⟨ob,es,ep,t,k _ _ (.inl rfl) e,c⟩
 |ins C dx fs=>
  obtain ⟨d,z,ne,e,mA,⟨od,es,ep,e2,c⟩,r⟩:=x
  exact ⟨ho _ d,z,ne,k _ _ (.inl rfl) e,mA,⟨od,es,ep,k _ _ (.inr d) e2,c⟩,r⟩
 |own y=>obtain ⟨ob,e⟩:=x;exact ⟨ob,k _ _ (.inl rfl) e⟩
 |xd fs=>obtain ⟨mA,⟨od,es,ep,e,c⟩,r⟩:=x;exact ⟨mA,⟨od,es,ep,k _ _ (.inl rfl) e,c⟩,r⟩
 |rng lo hi=>obtain ⟨t,u,v,e⟩:=x;exact ⟨t,u,v,k _ _ (.inl rfl) e⟩
 |frz ob u ih=>obtain ⟨e,q⟩:=x;exact ⟨k _ _ (.inl rfl) e,ih q⟩
 |tbl ps=>
  have e:h.get? a=some { cls:=.none,data:=.fields ps }:=x
  show h'.get? a=some { cls:=.none,data:=.fields ps }
  exact k a _ (.inl rfl) e
 |met f y=>
  have e:h.get? a=some (PySem.W.methodObj (.ref f) (.ref y)):=x
  show h'.get? a=some (PySem.W.methodObj (.ref f) (.ref y))
  exact k a _ (.inl rfl) e
 |ext φ=>obtain ⟨p,⟨o,e⟩,st⟩:=x;exact ⟨st _ _ p fun o q=>k _ _ (.inl rfl) q,⟨o,k _ _ (.inl rfl) e⟩,st⟩
theorem HOk.lt (x:HOk P w H h) (e:H a=some o):a<h.objs.size:=(x a o e).lt
theorem HOk.fresh (x:HOk P w H h) (e:h.objs.size≤a):H a=none:=by
 cases q:H a with
 |none=>rfl
 |some u=>exact absurd (Nat.lt_of_lt_of_le (x.lt q) e) (Nat.lt_irrefl _)
theorem HOk.kept (x:HOk P w H h) (k:∀b u,h.get? b=some u→h'.get? b=some u):HOk P w H h':=fun a o e=>
 (x a o e).stay (fun b u _ q=>k b u q) (fun _ q=>q) fun _ _ q=>q
theorem HOk.laid (x:HOk P w H h) (k:∀b u,h.get? b=some u→h'.get? b=some u) (hp:h.objs.size≤a) (new:dJ P w (upd H a o) h' a o):HOk P w (upd H a o) h':=fun b u e=>by
 have hn:=x.fresh hp
 by_cases hb:b=a
 ·subst hb;rw [aH] at e;cases e;exact new
 ·rw [aU hb] at e
  exact (x b u e).stay (fun c v _ q=>k c v q) (fun c q=>by rw [aU (aZ q hn)];exact q) fun c xs q=>by rw [aU (aZ q hn)];exact q
end
def Rd (H:Hp) (a:Addr) (u:HO):Prop:=H a=some u∨∃o,H a=some (.frz o u)
theorem Rd.ok {P:Program} {w:World} {H:Hp} {h:Heap} {a:Addr} {u:HO} (r:Rd H a u) (x:HOk P w H h):dJ P w H h a u:=by
 rcases r with r|⟨o,r⟩
 ·exact x a u r
 ·obtain ⟨_,q⟩:=x a _ r
  exact q
def Mut:Option HO→Prop
 |some (.lst _)=>True
 |some (.dK _)=>True
 |some (.dT _)=>True
 |some (.set _ _)=>True
 |some (.ins _ _ _)=>True
 |some (.ext _)=>True
 |_=>False
section
variable {P:Program} {w:World} {H:Hp} {h h':Heap} {x e:Addr} {o':HO}
theorem HOk.write (ok:HOk P w H h) (mu:Mut (H x)) (he:e=x∨H e=some (.own x)) (k:∀b u,b≠e→h.get? b=some u→h'.get? b=some u) (heo:∃u,h'.get? e=some u)
  (new:dJ P w (upd H x o') h' x o'):HOk P w (upd H x o') h':=fun b u q=>by
 have nown:∀c y,H c=some (.own y)→c≠x:=fun c y r z=>by subst z;rw [r] at mu;exact mu
 have ntup:∀c xs,H c=some (.tup xs)→c≠x:=fun c xs r z=>by subst z;rw [r] at mu;exact mu
 by_cases hb:b=x
 ·subst hb;rw [aH] at q;cases q;exact new
 ·rw [aU hb] at q
  by_cases hbe:b=e
  ·have q':H b=some (.own x):=by
    rcases he with z|z
    ·exact absurd (hbe.trans z) hb
    ·rw [hbe];exact z
   rw [q] at q';cases q'
   obtain ⟨v,hv⟩:=heo
   exact ⟨v,by rw [hbe];exact hv⟩
  ·refine (ok b u q).stay (fun c v hc r=>k c v ?_ r) (fun c r=>by rw [aU (nown c b r)];exact r) fun c xs r=>by rw [aU (ntup c xs r)];exact r
   rcases hc with rfl|hc
   ·exact hbe
   ·rintro rfl
    rcases he with z|z
    ·exact nown c b hc z
    ·rw [hc] at z;cases z;exact hb rfl
end
structure Un (fs ex:List Addr) (H H':Hp) (h h':Heap):Prop where
 keep:∀b o,h.get? b=some o→H b=none→b∉fs→b∉ex→h'.get? b=some o
 slot:∀b o,h.get? b=some o→H b=none→b∈fs→b∉ex→∃sl,h'.get? b=some { o with slots:=sl }
 free:∀b o,h.get? b=some o→H b=none→b∉ex→H' b=none
 there:∀b o,h.get? b=some o→b∉ex→∃o',h'.get? b=some o'
 tups:∀b xs,H b=some (.tup xs)→H' b=some (.tup xs)
 frzs:∀b o u,H b=some (.frz o u)→H' b=some (.frz o u)
 tbls:∀b ps,H b=some (.tbl ps)→∃more,H' b=some (.tbl (ps++more))
section
variable {fs fs' ex ex':List Addr} {H H1 H2:Hp} {h h1 h2 h':Heap} {a x e:Addr} {o:HO}
theorem Un.any (u:Un fs ex H H1 h h1) {b:Addr} {ob:Obj} (q:h.get? b=some ob) (n:H b=none) (hx:b∉ex):∃sl,h1.get? b=some { ob with slots:=sl }:=by
 by_cases hb:b∈fs
 ·exact u.slot b ob q n hb hx
 ·exact ⟨ob.slots,u.keep b ob q n hb hx⟩
theorem Un.kept (k:∀b u,h.get? b=some u→h'.get? b=some u):Un fs ex H H h h':=
 ⟨fun b ob q _ _ _=>k b ob q,fun b ob q _ _ _=>⟨ob.slots,k b ob q⟩,fun _ _ _ n _=>n,fun b ob q _=>⟨ob,k b ob q⟩,fun _ _ q=>q,fun _ _ _ q=>q,fun _ ps q=>⟨#[],by rw [q];simp⟩⟩
theorem Un.refl:Un fs ex H H h h:=Un.kept fun _ _ q=>q
theorem Un.laid (k:∀b u,h.get? b=some u→h'.get? b=some u) (hp:h.objs.size≤a) (hn:H a=none):Un fs ex H (upd H a o) h h' where
 keep:=fun b u q _ _ _=>k b u q
 slot:=fun b u q _ _ _=>⟨u.slots,k b u q⟩
 free:=fun b u q n _=>by rw [aU (Nat.ne_of_lt (Nat.lt_of_lt_of_le (Heap.lt_size q) hp))];exact n
 there:=fun b u q _=>⟨u,k b u q⟩
 tups:=fun b xs q=>by rw [aU (aZ q hn)];exact q
 frzs:=fun b u xs q=>by rw [aU (aZ q hn)];exact q
 tbls:=fun b ps q=>⟨#[],by rw [aU (aZ q hn),q];simp⟩
theorem Un.write (mu:Mut (H x)) (he:e=x∨H e=some (.own x)) (k:∀b u,b≠e→h.get? b=some u→h'.get? b=some u) (heo:∃u,h'.get? e=some u):Un fs ex H (upd H x o) h h':=by
 have hx:∀b,H b=none→b≠x:=fun b n z=>by subst z;rw [n] at mu;exact mu
 have hb:∀b,H b=none→b≠e:=fun b n z=>by
  subst z
  rcases he with r|r
  ·exact hx b n r
  ·rw [n] at r;cases r
 have hm:∀b u,H b=some u→¬ Mut (some u)→b≠x:=fun b u q nm z=>by subst z;rw [q] at mu;exact nm mu
 refine ⟨fun b u q n _ _=>k b u (hb b n) q,fun b u q n _ _=>⟨u.slots,k b u (hb b n) q⟩,fun b u q n _=>by rw [aU (hx b n)];exact n,fun b u q _=>?_,
  fun b xs q=>by rw [aU (hm b _ q fun z=>z)];exact q,fun b u xs q=>by rw [aU (hm b _ q fun z=>z)];exact q,fun b ps q=>⟨#[],by rw [aU (hm b _ q fun z=>z),q];simp⟩⟩
 by_cases hbe:b=e
 ·subst hbe;exact heo
 ·exact ⟨u,k b u hbe q⟩
end
def trk (h:Heap) (H:Hp):List Addr:=(List.range h.objs.size).filter fun a=>(H a).isSome
def aCn (h:Heap) (H:Hp):Heap:=PySem.W.hideAll h (trk h H)
theorem aNe (h:Heap) (H:Hp):(aCn h H).objs.size=h.objs.size:=PySem.W.hideAll_size _ _
theorem aN7 {h:Heap} {H:Hp} {b:Addr} {o:Obj} (e:h.get? b=some o) (n:H b=none):(aCn h H).get? b=some o:=
 PySem.W.hideAll_get _ e fun hm=>by
  have q:(H b).isSome=true:=(List.mem_filter.mp hm).2
  rw [n] at q;simp at q
theorem aSy {h:Heap} {H:Hp} {b:Addr} {o:Obj} (e:(aCn h H).get? b=some o):h.get? b=some o∧H b=none:=by
 have e':h.get? b=some o:=PySem.W.of_hideAll (trk h H) e
 refine ⟨e',?_⟩
 cases q:H b with
 |none=>rfl
 |some x=>
  have hm:b∈trk h H:=List.mem_filter.mpr ⟨List.mem_range.mpr (Heap.lt_size e'),by simp [q]⟩
  have z:(aCn h H).get? b=none:=PySem.W.hideAll_none (trk h H) hm
  rw [z] at e;cases e
structure Mod (K:PySem.W.Frag) (mg:Str→Option Value) (base:Heap):Prop where
 kin:K.In base
 glob:base.Ns mainGlobals mg
 blt:∃mb,base.Ns builtinsNs mb∧∀x:Str,x≠"__name__"→mb x=bootBuiltins x
 nolimit:base.NoLimit
structure Cx where
 prog:Program
 w:World
 K:PySem.W.Frag
 mg:Str→Option Value
 base:Heap
 A:Around
 N:List Str
 s₀:Shared
 H₀:Hp
 env:Env
 outer:List Env
 stack:List Env
 ex:List Addr
 fn:Str→Bool
 calm:Bool
 pn:List (Addr × Obj)
 xe:Value→Shared→Prop
def frs (l:List Env):List Addr:=l.filterMap (·.frame)
abbrev Cx.fs (X:Cx):List Addr:=frs X.outer
def Vis (sc:Scope) (x:Str):Prop:=sc.names.lookup x=some .local∨sc.names.lookup x=some .cell∨sc.names.lookup x=some .free
def Loc (sc:Scope) (x:Str):Prop:=sc.names.lookup x=some .local∨sc.names.lookup x=some .cell
def Look (env:Env) (h:Heap) (m:Str→Option Value) (x:Str) (u:Value):Prop:=
 (env.kindOf x=some .local∧m x=some u)∨((env.kindOf x=some .cell∨env.kindOf x=some .free)∧∃c,env.cells.lookup x=some c∧h.IsCell c (some u))
structure Cx.Ok (X:Cx):Prop where
 mod:Mod X.K X.mg X.base
 kind:X.env.scope.kind=.function
 glob:X.env.globals=mainGlobals
 blt:X.env.builtins=builtinsNs
 above:X.s₀.heap.objs.size≤X.env.locals
 inj:∀x y c,X.env.cells.lookup x=some c→X.env.cells.lookup y=some c→x=y
 has:∀x,(X.env.kindOf x=some .cell∨X.env.kindOf x=some .free)→∃c,X.env.cells.lookup x=some c
 cab:∀x c,X.fn x=true→X.env.cells.lookup x=some c→X.s₀.heap.objs.size≤c
 hd:X.calm=true→X.A.handled=none
 frames:X.A.frames=some X.stack
 stk:X.stack=X.outer∨(X.stack=X.env::X.outer∧X.env.frame=some X.env.locals)
 exf:∀b∈X.ex,b≠X.env.locals∧∀x c,X.env.cells.lookup x=some c→c≠b
 bs:∀b o,X.base.get? b=some o→X.s₀.heap.get? b=some o∧X.H₀ b=none
 bsz:X.base.objs.size≤X.s₀.heap.objs.size
 noex:∀b o,X.base.get? b=some o→b∉X.ex
 exfs:∀b∈X.ex,b∉X.fs
 funs:X.s₀.heap.FunFrames X.base X.outer
 frf:∀b∈X.fs,X.H₀ b=none
structure Inv (X:Cx) (pins:List (Addr × Obj)) (σ:List (Option V)) (H:Hp) (s:Shared):Prop where
 ok:X.Ok
 os:s.os=X.s₀.os
 bare:AllBare s.gens
 base:Un X.fs X.ex X.H₀ H X.s₀.heap s.heap
 loc:∃m,s.heap.Ns X.env.locals m∧∀(i:Nat) (x:Str) (v:V),X.N[i]?=some x→σ[i]?=some (some v)→Vis X.env.scope x→∃u,RelV v u∧Look X.env s.heap m x u
 cell:∀x c,X.env.cells.lookup x=some c→∃v,s.heap.IsCell c v
 free:H X.env.locals=none
 freeC:∀x c,X.env.cells.lookup x=some c→H c=none
 pin:∀p∈X.pn++pins,s.heap.get? p.1=some p.2∧H p.1=none∧p.1≠X.env.locals∧p.1∉X.fs∧∀v,p.2.data≠.cell v
 hok:HOk X.prog X.w H s.heap
 len:σ.length=X.N.length
section
variable {X:Cx} {pins:List (Addr × Obj)} {σ:List (Option V)} {H H':Hp} {s:Shared} {h':Heap}
theorem Cx.Ok.nofr (ok:X.Ok) {b:Addr} {o:Obj} (e:X.base.get? b=some o):b∉X.fs:=fun hb=>by
 have:=(ok.funs.mem hb).1
 rw [e] at this;cases this
theorem Inv.bs (I:Inv X pins σ H s):∀b o,X.base.get? b=some o→s.heap.get? b=some o∧H b=none:=fun b o e=>
 ⟨I.base.keep b o (I.ok.bs b o e).1 (I.ok.bs b o e).2 (I.ok.nofr e) (I.ok.noex b o e),I.base.free b o (I.ok.bs b o e).1 (I.ok.bs b o e).2 (I.ok.noex b o e)⟩
theorem Inv.bk (I:Inv X pins σ H s):∀b o,X.base.get? b=some o→s.heap.get? b=some o:=fun b o e=>(I.bs b o e).1
theorem Inv.mod (I:Inv X pins σ H s):Mod X.K X.mg X.base:=I.ok.mod
theorem Inv.kIn (I:Inv X pins σ H s):X.K.In s.heap:=I.ok.mod.kin.keeps I.bk
theorem Inv.lt (I:Inv X pins σ H s):X.env.locals<s.heap.objs.size:=let ⟨_,hn,_⟩:=I.loc;hn.lt
theorem Inv.sz (I:Inv X pins σ H s):X.s₀.heap.objs.size≤s.heap.objs.size:=Nat.le_trans I.ok.above (Nat.le_of_lt I.lt)
theorem Inv.nofs (I:Inv X pins σ H s) {a:Addr} (h:s.heap.objs.size≤a):a∉X.fs:=fun hb=>by
 obtain ⟨_,o,ho,_⟩:=I.ok.funs.mem hb
 exact absurd (Nat.lt_of_lt_of_le (Heap.lt_size ho) (Nat.le_trans I.sz h)) (Nat.lt_irrefl _)
theorem Inv.cne (I:Inv X pins σ H s):∀x c,X.env.cells.lookup x=some c→c≠X.env.locals:=fun x c e z=>by
 obtain ⟨v,o,ho,hd⟩:=I.cell x c e
 obtain ⟨m,⟨o',es,ep,ho',hd',_⟩,_⟩:=I.loc
 rw [z,ho'] at ho;cases ho;rw [hd'] at hd;cases hd
theorem Inv.funs (I:Inv X pins σ H s):s.heap.FunFrames X.base X.outer:=by
 have all:∀(l:List Env),(∀b∈frs l,b∈X.fs)→X.s₀.heap.FunFrames X.base l→s.heap.FunFrames X.base l:=by
  intro l
  induction l with
  |nil=>intro _ _;trivial
  |cons env r ih=>
   intro hs hl
   obtain ⟨hk,⟨L,o,hf,hn,ho,hd⟩,hr⟩:=hl
   have hL:L∈X.fs:=hs L (by unfold frs;rw [List.filterMap_cons,hf];exact List.mem_cons_self)
   obtain ⟨sl,e⟩:=I.base.slot L o ho (I.ok.frf L hL) hL fun z=>I.ok.exfs L z hL
   exact ⟨hk,⟨L,_,hf,hn,e,hd⟩,ih (fun b hb=>hs b (by unfold frs;rw [List.filterMap_cons,hf];exact List.mem_cons_of_mem _ hb)) hr⟩
 exact all X.outer (fun _ hb=>hb) I.ok.funs
theorem Inv.stack (I:Inv X pins σ H s):s.heap.FunFrames X.base X.stack:=by
 rcases I.ok.stk with e|⟨e,hf⟩
 ·rw [e];exact I.funs
 ·rw [e]
  obtain ⟨m,hn,_⟩:=I.loc
  refine .cons (by rw [I.ok.kind];decide) hf hn ?_ I.funs
  exact Heap.get?_none_of_le (Nat.le_trans I.ok.bsz I.ok.above)
theorem Inv.aD8 (I:Inv X pins σ H s):∀b∈frs X.stack,b∈X.env.locals::X.fs:=fun b hb=>by
 rcases I.ok.stk with e|⟨e,hf⟩
 ·rw [e] at hb;exact List.mem_cons_of_mem _ hb
 ·rw [e] at hb
  unfold frs at hb
  rw [List.filterMap_cons,hf] at hb
  exact hb
theorem Inv.aDb (I:Inv X pins σ H s):∀b∈frs X.stack,H b=none:=fun b hb=>by
 rcases List.mem_cons.mp (I.aD8 b hb) with e|hb
 ·rw [e];exact I.free
 ·obtain ⟨_,o,ho,_⟩:=I.ok.funs.mem hb
  exact I.base.free b o ho (I.ok.frf b hb) fun z=>I.ok.exfs b z hb
theorem Inv.step {g':Array GenState} {t':Nat} {d':Drawn} {ch:List Addr} (I:Inv X pins σ H s)
  (hch:∀b∈ch,(b∈X.ex∨X.s₀.heap.objs.size≤b)∧b≠X.env.locals∧(∀x c,X.env.cells.lookup x=some c→c≠b)∧∀p∈X.pn++pins,p.1≠b)
  (keep:∀b o,b≠X.env.locals→b∉X.fs→b∉ch→s.heap.get? b=some o→H b=none→h'.get? b=some o)
  (slot:∀b o,b≠X.env.locals→b∈X.fs→b∉ch→s.heap.get? b=some o→H b=none→∃sl,h'.get? b=some { o with slots:=sl }) (free:∀b o,b∉ch→s.heap.get? b=some o→H b=none→H' b=none)
  (there:∀b o,b∉ch→s.heap.get? b=some o→∃o',h'.get? b=some o')
  (tups:∀b xs,H b=some (.tup xs)→H' b=some (.tup xs)) (frzs:∀b o u,H b=some (.frz o u)→H' b=some (.frz o u)) (tbls:∀b ps,H b=some (.tbl ps)→∃more,H' b=some (.tbl (ps++more)))
  (ns:∀m,s.heap.Ns X.env.locals m→h'.Ns X.env.locals m) (hok:HOk X.prog X.w H' h') (hg:AllBare g') :
  Inv X pins σ H' { s with heap:=h',gens:=g',drawn:=d',toks:=t' }:=by
 have neL:∀b o,X.s₀.heap.get? b=some o→b≠X.env.locals:=fun b o e=>Nat.ne_of_lt (Nat.lt_of_lt_of_le (Heap.lt_size e) I.ok.above)
 have neC:∀b o,X.s₀.heap.get? b=some o→b∉X.ex→b∉ch:=fun b o e hx hb=>by
  rcases (hch b hb).1 with z|z
  ·exact hx z
  ·exact absurd (Nat.lt_of_lt_of_le (Heap.lt_size e) z) (Nat.lt_irrefl _)
 have cellK:∀x c,X.env.cells.lookup x=some c→∀v,s.heap.IsCell c v→h'.IsCell c v:=fun x c e v ⟨o,ho,hd⟩=>by
  have nch:c∉ch:=fun z=>(hch c z).2.2.1 x c e rfl
  by_cases hc:c∈X.fs
  ·obtain ⟨sl,q⟩:=slot c o (I.cne x c e) hc nch ho (I.freeC x c e)
   exact ⟨_,q,hd⟩
  ·exact ⟨o,keep c o (I.cne x c e) hc nch ho (I.freeC x c e),hd⟩
 refine ⟨I.ok,I.os,hg,⟨fun b o e n hb hx=>?_,fun b o e n hb hx=>?_,fun b o e n hx=>?_,fun b o e hx=>?_,fun b xs e=>tups b xs (I.base.tups b xs e),fun b o xs e=>frzs b o xs (I.base.frzs b o xs e),fun b ps e=>?_⟩,?_,fun x c e=>?_,?_,fun x c e=>?_,fun p hp=>?_,hok,I.len⟩
 ·exact keep b o (neL b o e) hb (neC b o e hx) (I.base.keep b o e n hb hx) (I.base.free b o e n hx)
 ·obtain ⟨sl,e1⟩:=I.base.slot b o e n hb hx
  obtain ⟨sl',e2⟩:=slot b _ (neL b o e) hb (neC b o e hx) e1 (I.base.free b o e n hx)
  exact ⟨sl',e2⟩
 ·obtain ⟨o',e1⟩:=I.base.there b o e hx
  exact free b o' (neC b o e hx) e1 (I.base.free b o e n hx)
 ·obtain ⟨o',e1⟩:=I.base.there b o e hx
  exact there b o' (neC b o e hx) e1
 ·obtain ⟨m1,e1⟩:=I.base.tbls b ps e
  obtain ⟨m2,e2⟩:=tbls b _ e1
  exact ⟨m1++m2,by rw [e2,Array.append_assoc]⟩
 ·obtain ⟨m,hn,hl⟩:=I.loc
  refine ⟨m,ns m hn,fun i x v e1 e2 e3=>?_⟩
  obtain ⟨u,r,l⟩:=hl i x v e1 e2 e3
  refine ⟨u,r,?_⟩
  rcases l with l|⟨k,c,e,z⟩
  ·exact .inl l
  ·exact .inr ⟨k,c,e,cellK x c e _ z⟩
 ·obtain ⟨v,z⟩:=I.cell x c e
  exact ⟨v,cellK x c e v z⟩
 ·obtain ⟨m,⟨o,_,_,ho,_⟩,_⟩:=I.loc
  exact free _ o (fun z=>(hch _ z).2.1 rfl) ho I.free
 ·obtain ⟨v,o,ho,hd⟩:=I.cell x c e
  exact free c o (fun z=>(hch c z).2.2.1 x c e rfl) ho (I.freeC x c e)
 ·obtain ⟨e,n,ne,nf,d⟩:=I.pin p hp
  have nch:p.1∉ch:=fun z=>(hch p.1 z).2.2.2 p hp rfl
  exact ⟨keep p.1 p.2 ne nf nch e n,free p.1 p.2 nch e n,ne,nf,d⟩
theorem Inv.un {t':Nat} (I:Inv X pins σ H s) (u:Un X.fs [] H H' s.heap h') (hok:HOk X.prog X.w H' h'):Inv X pins σ H' { s with heap:=h',toks:=t' }:=by
 obtain ⟨m,⟨o,es,ep,ho,r⟩,_⟩:=id I.loc
 obtain ⟨sl,hL⟩:=u.any ho I.free (by simp)
 exact I.step (g':=s.gens) (d':=s.drawn) (ch:=[]) (fun _ z=>nomatch z) (fun b o _ hb _ e n=>u.keep b o e n hb (by simp)) (fun b o _ hb _ e n=>u.slot b o e n hb (by simp)) (fun b o _ e n=>u.free b o e n (by simp)) (fun b o _ e=>u.there b o e (by simp)) u.tups u.frzs u.tbls (fun m' hm=>by
  obtain ⟨o',es',ep',ho',r'⟩:=hm
  rw [ho] at ho';cases ho'
  exact ⟨_,es',ep',hL,r'⟩) hok I.bare
theorem Inv.call {g':Array GenState} {t':Nat} {d':Drawn} {ch:List Addr} (I:Inv X pins σ H s) (u:Un (frs X.stack) ch H H' s.heap h') (hok:HOk X.prog X.w H' h') (hg:AllBare g')
  (hch:∀b∈ch,(b∈X.ex∨X.s₀.heap.objs.size≤b)∧b≠X.env.locals∧(∀x c,X.env.cells.lookup x=some c→c≠b)∧∀p∈X.pn++pins,p.1≠b) :
  Inv X pins σ H' { s with heap:=h',gens:=g',drawn:=d',toks:=t' }:=by
 obtain ⟨m,⟨o,es,ep,ho,r⟩,_⟩:=id I.loc
 obtain ⟨sl,hL⟩:=u.any ho I.free fun z=>(hch _ z).2.1 rfl
 exact I.step (ch:=ch) hch (fun b o hL hb hc e n=>u.keep b o e n (fun z=>(List.mem_cons.mp (I.aD8 b z)).elim hL hb) hc) (fun b o _ _ hc e n=>u.any e n hc) (fun b o hc e n=>u.free b o e n hc) (fun b o hc e=>u.there b o e hc) u.tups u.frzs u.tbls (fun m' hm=>by
  obtain ⟨o',es',ep',ho',r'⟩:=hm
  rw [ho] at ho';cases ho'
  exact ⟨_,es',ep',hL,r'⟩) hok hg
theorem Inv.turned {t':Nat} {it:Addr} (I:Inv X pins σ H s) (k:∀b o,b≠it→s.heap.get? b=some o→h'.get? b=some o) (hn:H it=none) (hL:it≠X.env.locals)
  (h1:it∈X.ex∨X.s₀.heap.objs.size≤it) (h2:∀x c,X.env.cells.lookup x=some c→c≠it) (h3:∀p∈X.pn++pins,p.1≠it):Inv X pins σ H { s with heap:=h',toks:=t' }:=by
 have nit:∀b u,H b=some u→b≠it:=fun b u e z=>by rw [z,hn] at e;cases e
 refine I.step (g':=s.gens) (d':=s.drawn) (ch:=[it]) (fun b hb=>?_) (fun b o _ _ hc e _=>k b o (fun z=>hc (by simp [z])) e) (fun b o _ _ hc e _=>⟨o.slots,k b o (fun z=>hc (by simp [z])) e⟩) (fun _ _ _ _ n=>n)
  (fun b o hc e=>⟨o,k b o (fun z=>hc (by simp [z])) e⟩) (fun _ _ e=>e) (fun _ _ _ e=>e) (fun b ps e=>⟨#[],by rw [e];simp⟩) (fun m hm=>?_) (fun b u e=>?_) I.bare
 ·have e:b=it:=by simpa using hb
  subst e
  exact ⟨h1,hL,h2,h3⟩
 ·obtain ⟨o,es,ep,ho,r⟩:=hm
  exact ⟨o,es,ep,k _ o (Ne.symm hL) ho,r⟩
 ·refine (I.hok b u e).stay (fun c v hc q=>k c v ?_ q) (fun _ q=>q) fun _ _ q=>q
  rcases hc with z|z
  ·rw [z];exact nit b u e
  ·exact nit c _ z
theorem Inv.tok (I:Inv X pins σ H s) (t:Nat):Inv X pins σ H { s with toks:=t }:=I.un (h':=s.heap) (t':=t) Un.refl I.hok
theorem Inv.kept {t':Nat} (I:Inv X pins σ H s) (k:∀b u,s.heap.get? b=some u→h'.get? b=some u):Inv X pins σ H { s with heap:=h',toks:=t' }:=I.un (Un.kept k) (I.hok.kept k)
theorem Inv.laid {a:Addr} {o:HO} {t':Nat} (I:Inv X pins σ H s) (k:∀b u,s.heap.get? b=some u→h'.get? b=some u) (hp:s.heap.objs.size≤a) (new:dJ X.prog X.w (upd H a o) h' a o) :
  Inv X pins σ (upd H a o) { s with heap:=h',toks:=t' }:=I.un (Un.laid k hp (I.hok.fresh hp)) (I.hok.laid k hp new)
theorem Inv.write {x e:Addr} {o:HO} {t':Nat} (I:Inv X pins σ H s) (mu:Mut (H x)) (he:e=x∨H e=some (.own x)) (k:∀b u,b≠e→s.heap.get? b=some u→h'.get? b=some u) (heo:∃u,h'.get? e=some u)
  (new:dJ X.prog X.w (upd H x o) h' x o):Inv X pins σ (upd H x o) { s with heap:=h',toks:=t' }:=I.un (Un.write mu he k heo) (I.hok.write mu he k heo new)
theorem Inv.aLe {pins':List (Addr × Obj)} (I:Inv X pins σ H s) (h:∀p∈pins',s.heap.get? p.1=some p.2∧H p.1=none∧p.1≠X.env.locals∧p.1∉X.fs∧∀v,p.2.data≠.cell v):Inv X pins' σ H s:=
 ⟨I.ok,I.os,I.bare,I.base,I.loc,I.cell,I.free,I.freeC,fun p hp=>(List.mem_append.mp hp).elim (fun z=>I.pin p (List.mem_append_left _ z)) (h p),I.hok,I.len⟩
theorem aFd {N:List Str} (hN:N.Nodup) {i j:Nat} {x:Str} (a:N[i]?=some x) (b:N[j]?=some x):i=j:=by
 obtain ⟨h1,e1⟩:=List.getElem?_eq_some_iff.mp a
 obtain ⟨h2,e2⟩:=List.getElem?_eq_some_iff.mp b
 exact (List.getElem_inj hN).mp (e1.trans e2.symm)
theorem aAp {M:Model} {A:Around} {E:Value→Shared→Prop} {i:Nat} {x:Str} {v:V} {u:Value} {Q:Unit→Shared→Prop} (I:Inv X pins σ H s) (hN:X.N.Nodup) (hi:X.N[i]?=some x) (hx:Loc X.env.scope x) (r:RelV v u)
  (h:∀s',Inv X pins (σ.set i (some v)) H s'→(∃a,Heap.SameBut a s.heap s'.heap∧(a=X.env.locals∨X.env.cells.lookup x=some a))→Q () s') (hf:X.fn x=true∨X.env.scope.names.lookup x=some .local:=by first|exact .inl rfl|exact .inr rfl|assumption):wpAny M A (storeName X.env x u) Q E s:=by
 obtain ⟨m,hn,hl⟩:=id I.loc
 have hcls:(X.env.scope.kind == .class || (X.env.scope.kind == .module && X.env.locals != X.env.globals))=false:=by rw [I.ok.kind];rfl
 have hiσ:i<σ.length:=by rw [I.len];exact (List.getElem?_eq_some_iff.mp hi).1
 have cne:=I.cne
 have tracked:∀{a:Addr} {h':Heap},(∃o,s.heap.get? a=some o∧H a=none)→Heap.SameBut a s.heap h'→HOk X.prog X.w H h':=fun {a h'} ha hs b ob e=>by
  obtain ⟨_,_,hfree⟩:=ha
  refine (I.hok b ob e).stay (fun c w' hc q=>(hs.2 c ?_).trans q) (fun _ q=>q) fun _ _ q=>q
  rintro rfl
  rcases hc with rfl|hc
  ·rw [hfree] at e;cases e
  ·rw [hfree] at hc;cases hc
 rcases hx with hk|hk
 ·refine wpAny_storeName_local hk hn (fun h' hn' hs=>?_) hcls
  obtain ⟨oL,_,_,hoL,_⟩:=id hn
  refine h _ ⟨I.ok,I.os,I.bare,⟨fun b o e n hb hx=>?_,fun b o e n hb hx=>?_,I.base.free,fun b o e hx=>?_,I.base.tups,I.base.frzs,I.base.tbls⟩,⟨_,hn',fun j y v' e1 e2 e3=>?_⟩,fun y c e=>?_,I.free,I.freeC,fun p hp=>?_,tracked ⟨oL,hoL,I.free⟩ hs,by simpa using I.len⟩ ⟨_,hs,.inl rfl⟩
  ·exact (hs.2 b (Nat.ne_of_lt (Nat.lt_of_lt_of_le (Heap.lt_size e) I.ok.above))).trans (I.base.keep b o e n hb hx)
  ·obtain ⟨sl,e1⟩:=I.base.slot b o e n hb hx
   exact ⟨sl,(hs.2 b (Nat.ne_of_lt (Nat.lt_of_lt_of_le (Heap.lt_size e) I.ok.above))).trans e1⟩
  ·obtain ⟨o',e1⟩:=I.base.there b o e hx
   exact ⟨o',(hs.2 b (Nat.ne_of_lt (Nat.lt_of_lt_of_le (Heap.lt_size e) I.ok.above))).trans e1⟩
  ·by_cases hj:j=i
   ·subst hj
    rw [hi] at e1;cases e1
    rw [List.getElem?_set_self hiσ] at e2
    cases e2
    exact ⟨u,r,.inl ⟨hk,by simp⟩⟩
   ·rw [List.getElem?_set_ne (Ne.symm hj)] at e2
    obtain ⟨u',r',q⟩:=hl j y v' e1 e2 e3
    refine ⟨u',r',?_⟩
    rcases q with ⟨k,e⟩|⟨k,c,e,z⟩
    ·refine .inl ⟨k,?_⟩
     have:y≠x:=fun e=>hj (aFd hN e1 (e ▸ hi))
     simp [this,e]
    ·exact .inr ⟨k,c,e,z.sameBut hs (cne y c e)⟩
  ·obtain ⟨w',z⟩:=I.cell y c e
   exact ⟨w',z.sameBut hs (cne y c e)⟩
  ·obtain ⟨e,n,ne,nf,d⟩:=I.pin p hp
   exact ⟨(hs.2 p.1 ne).trans e,n,ne,nf,d⟩
 ·have hfn:X.fn x=true:=by
   rcases hf with z|z
   ·exact z
   ·rw [z] at hk;cases hk
  obtain ⟨c,hc⟩:=I.ok.has x (.inl hk)
  obtain ⟨w',z⟩:=I.cell x c hc
  refine wpAny_storeName_cell I.ok.kind hk hc z (fun h' hc' hs=>?_)
  obtain ⟨oc,hoc,hocd⟩:=id z
  refine h { s with heap:=h' } ⟨I.ok,I.os,I.bare,⟨fun b o e n hb hx=>?_,fun b o e n hb hx=>?_,I.base.free,fun b o e hx=>?_,I.base.tups,I.base.frzs,I.base.tbls⟩,⟨m,hn.sameBut hs (Ne.symm (cne x c hc)),fun j y v' e1 e2 e3=>?_⟩,fun y c' e=>?_,I.free,I.freeC,fun p hp=>?_,tracked ⟨oc,hoc,I.freeC x c hc⟩ hs,by simpa using I.len⟩ ⟨c,hs,.inr hc⟩
  ·exact (hs.2 b (Nat.ne_of_lt (Nat.lt_of_lt_of_le (Heap.lt_size e) (I.ok.cab x c hfn hc)))).trans (I.base.keep b o e n hb hx)
  ·obtain ⟨sl,e1⟩:=I.base.slot b o e n hb hx
   exact ⟨sl,(hs.2 b (Nat.ne_of_lt (Nat.lt_of_lt_of_le (Heap.lt_size e) (I.ok.cab x c hfn hc)))).trans e1⟩
  ·obtain ⟨o',e1⟩:=I.base.there b o e hx
   exact ⟨o',(hs.2 b (Nat.ne_of_lt (Nat.lt_of_lt_of_le (Heap.lt_size e) (I.ok.cab x c hfn hc)))).trans e1⟩
  ·by_cases hj:j=i
   ·subst hj
    rw [hi] at e1;cases e1
    rw [List.getElem?_set_self hiσ] at e2
    cases e2
    exact ⟨u,r,.inr ⟨.inl hk,c,hc,hc'⟩⟩
   ·rw [List.getElem?_set_ne (Ne.symm hj)] at e2
    obtain ⟨u',r',q⟩:=hl j y v' e1 e2 e3
    refine ⟨u',r',?_⟩
    rcases q with q|⟨k,c',e,z'⟩
    ·exact .inl q
    ·refine .inr ⟨k,c',e,z'.sameBut hs ?_⟩
     rintro rfl
     exact hj (aFd hN e1 (I.ok.inj _ _ _ e hc ▸ hi))
  ·by_cases hcc:c'=c
   ·subst hcc;exact ⟨_,hc'⟩
   ·obtain ⟨w2,z2⟩:=I.cell y c' e
    exact ⟨w2,z2.sameBut hs hcc⟩
  ·obtain ⟨e,n,ne,nf,d⟩:=I.pin p hp
   refine ⟨(hs.2 p.1 ?_).trans e,n,ne,nf,d⟩
   intro q
   rw [q,hoc] at e
   have q':oc=p.2:=Option.some.inj e
   exact d w' (by rw [←q'];exact hocd)
theorem aGf {M:Model} {A:Around} {E:Value→Shared→Prop} {i:Nat} {x:Str} {v:V} {u:Value} {Q:Unit→Shared→Prop} (I:Inv X pins σ H s) (hN:X.N.Nodup) (hi:X.N[i]?=some x) (hx:Loc X.env.scope x) (r:RelV v u)
  (h:∀s',Inv X pins (σ.set i (some v)) H s'→Q () s') (hf:X.fn x=true∨X.env.scope.names.lookup x=some .local:=by first|exact .inl rfl|exact .inr rfl|assumption):wpAny M A (storeName X.env x u) Q E s:=
 aAp I hN hi hx r (fun s' I' _=>h s' I') hf
theorem Inv.call' {s':Shared} {ch:List Addr} (I:Inv X pins σ H s) (ho:s'.os=s.os) (u:Un (frs X.stack) ch H H' s.heap s'.heap) (hok:HOk X.prog X.w H' s'.heap) (hg:AllBare s'.gens)
  (hch:∀b∈ch,(b∈X.ex∨X.s₀.heap.objs.size≤b)∧b≠X.env.locals∧(∀x c,X.env.cells.lookup x=some c→c≠b)∧∀p∈X.pn++pins,p.1≠b):Inv X pins σ H' s':=by
 obtain ⟨h',g',d',t',o'⟩:=s'
 have e:o'=s.os:=ho
 subst e
 exact I.call (g':=g') (t':=t') (d':=d') u hok hg hch
end
abbrev XK:=Value→Option Addr→Hp→Prop
abbrev St:=List (Option V)
abbrev VK:=V→Hp→Prop
abbrev TE:=St→Hp→VK→Prop
abbrev TT:=St→Hp→(Bool→Hp→Prop)→Prop
abbrev TA:=St→Hp→(List V→Hp→Prop)→Prop
structure Ends where
 nx:St→Hp→Prop
 rt:VK
 bk:St→Hp→Prop:=fun _ _=>False
 ct:St→Hp→Prop:=fun _ _=>False
abbrev TS:=Ends→St→Hp→Prop
def EP (X:Cx) (pins:List (Addr × Obj)) (σ:St) (Q:VK) (u:Value) (s':Shared):Prop:=∃v H',Inv X pins σ H' s'∧RelV v u∧Q v H'
def TP (X:Cx) (pins:List (Addr × Obj)) (σ:St) (Q:Bool→Hp→Prop) (b:Bool) (s':Shared):Prop:=∃H',Inv X pins σ H' s'∧Q b H'
def AP (X:Cx) (pins:List (Addr × Obj)) (σ:St) (Q:List V→Hp→Prop) (us:List Value) (s':Shared):Prop:=∃vs H',Inv X pins σ H' s'∧Vals vs us∧Q vs H'
def SP (X:Cx) (pins:List (Addr × Obj)) (D:Ends) (f:Flow) (s':Shared):Prop:=
 match f with
 |.next=>∃σ' H',Inv X pins σ' H' s'∧D.nx σ' H'
 |.brk=>∃σ' H',Inv X pins σ' H' s'∧D.bk σ' H'
 |.cont=>∃σ' H',Inv X pins σ' H' s'∧D.ct σ' H'
 |.ret u=>∃v σ' H',Inv X pins σ' H' s'∧RelV v u∧D.rt v H'
def PE (X:Cx) (e:Expr) (t:TE):Prop:=
 ∀(pins:List (Addr × Obj)) (s:Shared) (σ:St) (H:Hp) (Q:VK),Inv X pins σ H s→t σ H Q→wpAny (model X.prog X.w) X.A (eval e X.env) (EP X pins σ Q) X.xe s
def PT (X:Cx) (e:Expr) (t:TT):Prop:=
 ∀(pins:List (Addr × Obj)) (s:Shared) (σ:St) (H:Hp) (Q:Bool→Hp→Prop),Inv X pins σ H s→t σ H Q→wpAny (model X.prog X.w) X.A (isTrue e X.env (eval e X.env)) (TP X pins σ Q) X.xe s
def PW (X:Cx) (e:Expr) (t:TT):Prop:=
 ∀(whole:Sem Value) (pins:List (Addr × Obj)) (s:Shared) (σ:St) (H:Hp) (Q:Bool→Hp→Prop),Inv X pins σ H s→t σ H Q→wpAny (model X.prog X.w) X.A (isTrue e X.env whole) (TP X pins σ Q) X.xe s
theorem PW.pt {X:Cx} {e:Expr} {t:TT} (h:PW X e t):PT X e t:=h _
def PA (X:Cx) (es:List Expr) (t:TA):Prop:=
 ∀(pos:Pos) (pins:List (Addr × Obj)) (s:Shared) (σ:St) (H:Hp) (Q:List V→Hp→Prop),Inv X pins σ H s→t σ H Q→wpAny (model X.prog X.w) X.A (spliced (backTo pos (starEach es X.env))) (AP X pins σ Q) X.xe s
def PS (X:Cx) (st:Stmt) (t:TS):Prop:=
 ∀(pins:List (Addr × Obj)) (s:Shared) (σ:St) (H:Hp) (D:Ends),Inv X pins σ H s→t D σ H→wpAny (model X.prog X.w) X.A (exec st X.env) (SP X pins D) X.xe s
def PSs (X:Cx) (st:List Stmt) (t:TS):Prop:=
 ∀(pins:List (Addr × Obj)) (s:Shared) (σ:St) (H:Hp) (D:Ends),Inv X pins σ H s→t D σ H→wpAny (model X.prog X.w) X.A (execs st X.env) (SP X pins D) X.xe s
theorem thn {α:Type} {t:Sem α} {Q Q':α→Shared→Prop} {M:Model} {A:Around} {E:Value→Shared→Prop} {s:Shared} (h:wpAny M A t Q E s) (hQ:∀a s,Q a s→Q' a s):wpAny M A t Q' E s:=wpAny_mono h hQ fun _ _ x=>x
section
variable {X:Cx}
def aJb (i:Nat):TE:=fun σ H Q=>∃v,σ[i]?=some (some v)∧Q v H
def tC (v:V):TE:=fun _ H Q=>Q v H
theorem aUt {i:Nat} {x:Str} {pos:Pos} (hN:X.N[i]?=some x) (hv:Vis X.env.scope x) (hd:(x == ("__debug__":Str))=false:=by decide) (hcd:(x == ("__classdict__":Str))=false:=by decide):PE X (.Name x pos) (aJb i):=by
 intro pins s σ H Q I h
 obtain ⟨v,e,h⟩:=h
 obtain ⟨m,hn,hl⟩:=I.loc
 obtain ⟨u,r,l⟩:=hl i x v hN e hv
 have fin:EP X pins σ Q u s:=⟨v,H,I,r,h⟩
 rcases l with ⟨hk,hm⟩|⟨hk,c,hc,hcell⟩
 ·exact wpAny_Name (wpAny_loadName_local I.ok.kind hk hn hm fin) hd
 ·rcases hk with hk|hk
  ·exact wpAny_Name (wpAny_loadName_cell I.ok.kind hk hc hcell fin) hd
  ·exact wpAny_Name (wpAny_loadName_free I.ok.kind hk hc hcell fin hcd) hd
theorem aVe {i j pos}:PE X (.Constant (.int i) j pos) (tC (.int i)):=fun _ _ _ H _ I h=>wpAny_Constant_int ⟨.int i,H,I.tok _,⟨_,rfl⟩,h⟩
theorem aXh {b j pos}:PE X (.Constant (.bool b) j pos) (tC (.bl b)):=fun _ _ _ H _ I h=>Constant_bool ⟨.bl b,H,I,rfl,h⟩
theorem aT7 {j pos}:PE X (.Constant .none j pos) (tC .non):=fun _ _ _ H _ I h=>Constant_none ⟨.non,H,I,rfl,h⟩
theorem aUv {x j pos}:PE X (.Constant (.str x) j pos) (tC (.str x)):=fun _ _ _ H _ I h=>Calls.Constant_str ⟨.str x,H,I.tok _,⟨_,rfl⟩,h⟩
def Gl (X:Cx) (x:Str):Prop:=X.env.kindOf x=some .globalImplicit
theorem aB9 {E:Value→Shared→Prop} {pins:List (Addr × Obj)} {s:Shared} {σ:St} {H:Hp} {x:Str} {u:Value} {pos:Pos} {Q:Value→Shared→Prop} (I:Inv X pins σ H s) (hg:Gl X x) (hm:X.mg x=some u) (h:Q u s)
  (hd:(x == ("__debug__":Str))=false:=by decide):wpAny (model X.prog X.w) X.A (eval (.Name x pos) X.env) Q E s:=
 Calls.Name_function_global I.ok.kind hg (Calls.loadGlobal_global (by rw [I.ok.glob];exact I.mod.glob.keeps I.bk) hm h) hd
theorem rH {E:Value→Shared→Prop} {pins:List (Addr × Obj)} {s:Shared} {σ:St} {H:Hp} {x:Str} {u:Value} {pos:Pos} {Q:Value→Shared→Prop} (I:Inv X pins σ H s) (hg:Gl X x) (hm:X.mg x=none) (hv:bootBuiltins x=some u) (h:Q u s)
  (hn:x≠"__name__":=by decide) (hd:(x == ("__debug__":Str))=false:=by decide):wpAny (model X.prog X.w) X.A (eval (.Name x pos) X.env) Q E s:=by
 obtain ⟨mb,h1,h2⟩:=I.mod.blt
 exact Calls.Name_function_global I.ok.kind hg (Calls.loadGlobal_builtin (by rw [I.ok.glob];exact I.mod.glob.keeps I.bk) hm (by rw [I.ok.blt];exact h1.keeps I.bk) ((h2 x hn).trans hv) h) hd
theorem aQ6 {x:Str} {v:V} {u:Value} {pos:Pos} (hg:Gl X x) (hm:X.mg x=some u) (r:RelV v u) (hd:(x == ("__debug__":Str))=false:=by decide):PE X (.Name x pos) (tC v):=
 fun _ _ _ H _ I h=>aB9 I hg hm ⟨v,H,I,r,h⟩ hd
theorem aRk {x:Str} {v:V} {u:Value} {pos:Pos} (hg:Gl X x) (hm:X.mg x=none) (hv:bootBuiltins x=some u) (r:RelV v u) (hn:x≠"__name__":=by decide) (hd:(x == ("__debug__":Str))=false:=by decide):PE X (.Name x pos) (tC v):=
 fun _ _ _ H _ I h=>rH I hg hm hv ⟨v,H,I,r,h⟩ hn hd
variable {a b:Expr} {ta tb:TE} {pos:Pos}
def PC (X:Cx) (op:CmpOp) (a b:Expr) (t:TE):Prop:=
 ∀(pins:List (Addr × Obj)) (s:Shared) (σ:St) (H:Hp) (Q:VK),Inv X pins σ H s→t σ H Q →
  wpAny (model X.prog X.w) X.A (eval a X.env) (fun v s₁=>wpAny (model X.prog X.w) X.A (eval b X.env) (fun u s₂=>wpAny (model X.prog X.w) X.A (compareOp op v u) (EP X pins σ Q) X.xe s₂) X.xe s₁) X.xe s
def tB (t:TE):TT:=fun σ H Q=>t σ H fun x H1=>∃c,x=.bl c∧Q c H1
theorem aU0 {op:CmpOp} {t:TE} (h:PC X op a b t) (h1:behindInMarks op b=false:=by first|exact nobehind _ (by decide) (by decide)|rfl):PT X (.Compare a [op] [b] pos) (tB t):=by
 intro pins s σ H Q I hw
 refine wpAny_isTrue_Compare1 (thn (h pins s σ H _ I hw) fun v s1 h1=>thn h1 fun u s2 h2=>thn h2 fun c s3 ⟨x,H1,I1,r1,q1⟩=>?_) h1
 obtain ⟨d,rfl,q⟩:=q1
 cases r1
 exact wpAny_truthy_bool ⟨H1,I1,q⟩
theorem aV1 {e:Expr} {t:TE} (h:PE X e t) (he:∀whole,isTrue e X.env whole=(do let v ←whole;standAt e.pos;holding [v] (truthy v)):=by intro _;rfl):PT X e (tB t):=by
 intro pins s σ H Q I hw
 refine isTrue_plain (thn (h pins s σ H _ I hw) fun v s1 ⟨x,H1,I1,r1,q1⟩=>?_) (he _)
 obtain ⟨d,rfl,q⟩:=q1
 cases r1
 exact wpAny_truthy_bool ⟨H1,I1,q⟩
variable {tA tB':TT} {rest:List Expr}
def aWc (t u:TT):TT:=fun σ H Q=>t σ H fun c H1=>if c=true then u σ H1 Q else Q false H1
def tOr (t u:TT):TT:=fun σ H Q=>t σ H fun c H1=>if c=true then Q true H1 else u σ H1 Q
def aV9 (t:TT):TT:=fun σ H Q=>t σ H fun c H1=>Q (!c) H1
theorem aSa (ha:PT X a tA):PW X (.BoolOp .And [a] pos) tA:=by
 intro wh pins s σ H Q I h
 refine isTrue_and (thn (ha pins s σ H Q I h) fun c s1 e=>?_)
 cases c with
 |true=>exact isTrue_and_nil e
 |false=>exact e
theorem aUk (ha:PT X a tA):PW X (.BoolOp .Or [a] pos) tA:=by
 intro wh pins s σ H Q I h
 refine isTrue_or (thn (ha pins s σ H Q I h) fun c s1 e=>?_)
 cases c with
 |false=>exact isTrue_or_nil e
 |true=>exact e
theorem aUa (ha:PT X a tA) (hb:PW X (.BoolOp .And (b::rest) pos) tB'):PW X (.BoolOp .And (a::b::rest) pos) (aWc tA tB'):=by
 intro wh pins s σ H Q I h
 refine isTrue_and (thn (ha pins s σ H _ I h) fun c s1 ⟨H1,I1,q1⟩=>?_)
 cases c with
 |true=>exact hb wh pins s1 σ H1 Q I1 q1
 |false=>exact ⟨H1,I1,q1⟩
theorem aXb (ha:PT X a tA) (hb:PW X (.BoolOp .Or (b::rest) pos) tB'):PW X (.BoolOp .Or (a::b::rest) pos) (tOr tA tB'):=by
 intro wh pins s σ H Q I h
 refine isTrue_or (thn (ha pins s σ H _ I h) fun c s1 ⟨H1,I1,q1⟩=>?_)
 cases c with
 |true=>exact ⟨H1,I1,q1⟩
 |false=>exact hb wh pins s1 σ H1 Q I1 q1
theorem aVq (ha:PT X a tA):PT X (.UnaryOp .Not a pos) (aV9 tA):=by
 intro pins s σ H Q I h
 exact isTrue_not (ha pins s σ H (fun c H1=>Q (!c) H1) I h)
def aTq (ta tb:TE):TE:=fun σ H Q=>ta σ H fun x H1=>∃c,x=.bl c∧if c=true then tb σ H1 Q else Q (.bl false) H1
def aWr (ta tb:TE):TE:=fun σ H Q=>ta σ H fun x H1=>∃c,x=.bl c∧if c=true then Q (.bl true) H1 else tb σ H1 Q
def aTu (ta:TE):TE:=fun σ H Q=>ta σ H fun x H1=>∃c,x=.bl c∧Q (.bl (!c)) H1
theorem aVi {op} {t:TE} (h:PE X a t):PE X (.BoolOp op [a] pos) t:=fun pins s σ H Q I hw=>BoolOp_one (h pins s σ H Q I hw)
theorem aVc (ha:PE X a ta) (hb:PE X (.BoolOp .And (b::rest) pos) tb):PE X (.BoolOp .And (a::b::rest) pos) (aTq ta tb):=by
 intro pins s σ H Q I h
 refine BoolOp_and (thn (ha pins s σ H _ I h) fun v s1 ⟨x,H1,I1,r1,q1⟩=>?_)
 obtain ⟨c,rfl,q1⟩:=q1
 cases r1
 refine wpAny_truthy_bool ?_
 cases c with
 |true=>exact hb pins s1 σ H1 Q I1 q1
 |false=>exact ⟨.bl false,H1,I1,rfl,q1⟩
theorem aWt (ha:PE X a ta) (hb:PE X (.BoolOp .Or (b::rest) pos) tb):PE X (.BoolOp .Or (a::b::rest) pos) (aWr ta tb):=by
 intro pins s σ H Q I h
 refine BoolOp_or (thn (ha pins s σ H _ I h) fun v s1 ⟨x,H1,I1,r1,q1⟩=>?_)
 obtain ⟨c,rfl,q1⟩:=q1
 cases r1
 refine wpAny_truthy_bool ?_
 cases c with
 |false=>exact hb pins s1 σ H1 Q I1 q1
 |true=>exact ⟨.bl true,H1,I1,rfl,q1⟩
theorem aVk (ha:PE X a ta):PE X (.UnaryOp .Not a pos) (aTu ta):=by
 intro pins s σ H Q I h
 refine UnaryOp_ (thn (ha pins s σ H _ I h) fun v s1 ⟨x,H1,I1,r1,q1⟩=>?_)
 obtain ⟨c,rfl,q1⟩:=q1
 cases r1
 exact not_of (wpAny_truthy_bool ⟨.bl (!c),H1,I1,rfl,q1⟩)
def tIf (t:TT) (ta tb:TE):TE:=fun σ H Q=>t σ H fun c H1=>if c=true then ta σ H1 Q else tb σ H1 Q
theorem aOc {c:Expr} (hc:PT X c tA) (ha:PE X a ta) (hb:PE X b tb):PE X (.IfExp c a b pos) (tIf tA ta tb):=by
 intro pins s σ H Q I h
 refine wpAny_IfExp (thn (hc pins s σ H _ I h) fun d s1 ⟨H1,I1,q1⟩=>?_)
 cases d with
 |true=>exact ha pins s1 σ H1 Q I1 q1
 |false=>exact hb pins s1 σ H1 Q I1 q1
end
def SqL (K:PySem.W.Frag) (H:Hp) (a:Addr) (xs:List V):Prop:=
 Rd H a (.lst xs) ∨
  ∃(o:Obj) (its:Array Value) (n:Nat),K.lookup a=some o∧o.cls=.type "list"∧o.dict=none∧o.data=.seq its n∧its.size≤sizeLine∧Vals xs its.toList
def SqT (K:PySem.W.Frag) (H:Hp) (a:Addr) (xs:List V):Prop:=
 Rd H a (.tup xs) ∨
  ∃(o:Obj) (its:Array Value) (n:Nat),K.lookup a=some o∧o.cls=.type "tuple"∧o.dict=none∧o.data=.seq its n∧its.size≤sizeLine∧Vals xs its.toList
def aXw:Value→Option V
 |.none=>some .non
 |.bool b=>some (.bl b)
 |.int i _=>some (.int i)
 |.str x _=>some (.str x)
 |.bytes b _=>some (.byt b)
 |.float b _=>some (.flt b)
 |.ref a=>some (.ref a)
 |.type n=>some (.ty n)
 |_=>none
theorem RelV.abs {x:V} {u:Value} (r:RelV x u):aXw u=some x:=by
 cases x with
 |non=>cases r;rfl
 |bl _=>cases r;rfl
 |int _=>obtain ⟨t,rfl⟩:=r;rfl
 |str _=>obtain ⟨t,rfl⟩:=r;rfl
 |byt _=>obtain ⟨t,rfl⟩:=r;rfl
 |flt _=>obtain ⟨t,rfl⟩:=r;rfl
 |ref _=>cases r;rfl
 |ty _=>cases r;rfl
theorem RelV.inj {x y:V} {u:Value} (r:RelV x u) (q:RelV y u):x=y:=Option.some.inj (r.abs.symm.trans q.abs)
theorem Vals.inj:∀{xs ys:List V} {us:List Value},Vals xs us→Vals ys us→xs=ys
 |_,_,_,.nil,.nil=>rfl
 |_,_,_,.cons r t,.cons r' t'=>by rw [r.inj r',Vals.inj t t']
section
variable {X:Cx} {pins:List (Addr × Obj)} {σ:St} {H:Hp} {s:Shared} {a:Addr} {xs ys:List V}
theorem SqL.of {K:PySem.W.Frag} (h:H a=some (.lst xs)):SqL K H a xs:=.inl (.inl h)
theorem SqT.of {K:PySem.W.Frag} (h:H a=some (.tup xs)):SqT K H a xs:=.inl (.inl h)
theorem Inv.list (I:Inv X pins σ H s) (h:SqL X.K H a xs):∃its:List Value,Vals xs its∧PlainL s.heap a its.toArray∧xs.length≤sizeLine:=by
 rcases h with h|⟨o,its,n,hk,hc,hd,hs,hz,r⟩
 ·obtain ⟨z,its,n,r,e⟩:=h.ok I.hok
  exact ⟨its,r,⟨_,n,e,rfl,rfl,rfl⟩,z⟩
 ·refine ⟨its.toList,r,⟨o,n,I.kIn a o hk,hc,hd,by simpa using hs⟩,?_⟩
  have e:=r.length
  simp only [Array.length_toList] at e
  omega
theorem Inv.tuple (I:Inv X pins σ H s) (h:SqT X.K H a xs):∃its:List Value,Vals xs its∧IsTup s.heap a its.toArray∧xs.length≤sizeLine:=by
 rcases h with h|⟨o,its,n,hk,hc,hd,hs,hz,r⟩
 ·obtain ⟨z,its,r,p⟩:=h.ok I.hok
  exact ⟨its,r,p.1,z⟩
 ·refine ⟨its.toList,r,⟨o,I.kIn a o hk,hc,n,by simpa using hs⟩,?_⟩
  have e:=r.length
  simp only [Array.length_toList] at e
  omega
theorem Inv.aNs (I:Inv X pins σ H s) (h:SqL X.K H a xs) (h':SqL X.K H a ys):xs=ys:=by
 obtain ⟨its,r,⟨o,n,e,_,_,d⟩,_⟩:=I.list h
 obtain ⟨its',r',⟨o',n',e',_,_,d'⟩,_⟩:=I.list h'
 rw [e] at e';cases e'
 rw [d] at d'
 injection d' with d1 _
 have:its=its':=by simpa using congrArg Array.toList d1
 subst this
 exact r.inj r'
theorem Inv.aBi (I:Inv X pins σ H s) (h:SqT X.K H a xs) (h':SqT X.K H a ys):xs=ys:=by
 obtain ⟨its,r,⟨o,e,_,n,d⟩,_⟩:=I.tuple h
 obtain ⟨its',r',⟨o',e',_,n',d'⟩,_⟩:=I.tuple h'
 rw [e] at e';cases e'
 rw [d] at d'
 injection d' with d1 _
 have:its=its':=by simpa using congrArg Array.toList d1
 subst this
 exact r.inj r'
end
abbrev Cx.wish (X:Cx) (E:Value→Shared→Prop):Cx:={ X with xe:=E }
abbrev Cx.nox (X:Cx):Cx:=X.wish fun _ _=>False
theorem Cx.Ok.wish {X:Cx} (ok:X.Ok) (E:Value→Shared→Prop):(X.wish E).Ok:=
 ⟨ok.mod,ok.kind,ok.glob,ok.blt,ok.above,ok.inj,ok.has,ok.cab,ok.hd,ok.frames,ok.stk,ok.exf,ok.bs,ok.bsz,ok.noex,ok.exfs,ok.funs,ok.frf⟩
theorem Cx.Ok.pG {X:Cx} {E:Value→Shared→Prop} (ok:(X.wish E).Ok):X.Ok:=
 ⟨ok.mod,ok.kind,ok.glob,ok.blt,ok.above,ok.inj,ok.has,ok.cab,ok.hd,ok.frames,ok.stk,ok.exf,ok.bs,ok.bsz,ok.noex,ok.exfs,ok.funs,ok.frf⟩
section
variable {X:Cx} {pins:List (Addr × Obj)} {σ:St} {H:Hp} {s:Shared} {E:Value→Shared→Prop}
theorem Inv.wish (I:Inv X pins σ H s) (E:Value→Shared→Prop):Inv (X.wish E) pins σ H s:=⟨I.ok.wish E,I.os,I.bare,I.base,I.loc,I.cell,I.free,I.freeC,I.pin,I.hok,I.len⟩
theorem Inv.pG (I:Inv (X.wish E) pins σ H s):Inv X pins σ H s:=⟨I.ok.pG,I.os,I.bare,I.base,I.loc,I.cell,I.free,I.freeC,I.pin,I.hok,I.len⟩
theorem SP.pG {D:Ends} {f:Flow} {s':Shared} (h:SP (X.wish E) pins D f s'):SP X pins D f s':=by
 cases f with
 |next=>obtain ⟨σ',H',I,q⟩:=h;exact ⟨σ',H',I.pG,q⟩
 |brk=>obtain ⟨σ',H',I,q⟩:=h;exact ⟨σ',H',I.pG,q⟩
 |cont=>obtain ⟨σ',H',I,q⟩:=h;exact ⟨σ',H',I.pG,q⟩
 |ret u=>obtain ⟨v,σ',H',I,r,q⟩:=h;exact ⟨v,σ',H',I.pG,r,q⟩
theorem PSs.nox {st:List Stmt} {t:TS} (h:PSs X.nox st t):PSs X st t:=fun pins s σ H D I hw=>
 wpAny_mono (h pins s σ H D (I.wish _) hw) (fun _ _ q=>q.pG) fun _ _ z=>False.elim z
end
section
variable {X:Cx} {st:Stmt} {rest:List Stmt} {t u:TS} {e:Expr} {te:TE} {pos:Pos}
def wX:TS:=fun D σ H=>D.nx σ H
def mL (t u:TS):TS:=fun D σ H=>t { D with nx:=u D } σ H
theorem aQw:PSs X [] wX:=fun _ _ σ H _ I h=>wpAny_execs_nil ⟨σ,H,I,h⟩
theorem aOk (h1:PS X st t) (h2:PSs X rest u):PSs X (st::rest) (mL t u):=by
 intro pins s σ H D I h
 refine wpAny_execs_cons (thn (h1 pins s σ H { D with nx:=u D } I h) fun f s1 q=>?_)
 cases f with
 |next=>
  obtain ⟨σ',H',I',q⟩:=q
  exact h2 pins s1 σ' H' D I' q
 |ret v=>exact q
 |brk=>exact q
 |cont=>exact q
theorem aSu (h1:PS X st t):PSs X [st] t:=by
 intro pins s σ H D I h
 refine wpAny_execs_cons (thn (h1 pins s σ H D I h) fun f s1 q=>?_)
 cases f with
 |next=>exact wpAny_execs_nil q
 |ret v=>exact q
 |brk=>exact q
 |cont=>exact q
theorem Inv.quiet {pins:List (Addr × Obj)} {σ:St} {H:Hp} {s:Shared} (I:Inv X pins σ H s):interactive X.env=false:=by simp [interactive,I.ok.kind]
def aKn (te:TE):TS:=fun D σ H=>te σ H fun _ H1=>D.nx σ H1
theorem aSk (he:PE X e te) (hs:swapsWith e none pos.line X.env=pure false:=by rfl):PS X (.Expr e pos) (aKn te):=by
 intro pins s σ H D I h
 exact wpAny_Expr_any (thn (he pins s σ H _ I h) fun v s1 ⟨x,H1,I1,r1,q1⟩=>⟨σ,H1,I1,q1⟩) I.quiet hs
def xU (te:TE):TS:=fun D σ H=>te σ H D.rt
theorem aUm (he:PE X e te):PS X (.Return (some e) pos) (xU te):=by
 intro pins s σ H D I h
 exact wpAny_Return_some (thn (he pins s σ H _ I h) fun v s1 ⟨x,H1,I1,r1,q1⟩=>⟨x,σ,H1,I1,r1,q1⟩)
def aRm (c:TT) (t u:TS):TS:=fun D σ H=>c σ H fun b H1=>if b=true then t D σ H1 else u D σ H1
theorem aWx {c:Expr} {a b:List Stmt} {tc:TT} (hc:PT X c tc) (ha:PSs X a t) (hb:PSs X b u):PS X (.If c a b pos) (aRm tc t u):=by
 intro pins s σ H D I h
 refine wpAny_If (thn (hc pins s σ H _ I h) fun d s1 ⟨H1,I1,q1⟩=>?_)
 cases d with
 |true=>exact ha pins s1 σ H1 D I1 q1
 |false=>exact hb pins s1 σ H1 D I1 q1
def aN4:TS:=fun _ _ _=>False
theorem aPi:PS X st aN4:=fun _ _ _ _ _ _ h=>h.elim
end
abbrev TG:=V→St→Hp→(St→Hp→Prop)→Prop
abbrev TGs:=List V→St→Hp→(St→Hp→Prop)→Prop
def PG (X:Cx) (target:Expr) (t:TG):Prop:=
 ∀(pins:List (Addr × Obj)) (s:Shared) (σ:St) (H:Hp) (v:V) (u:Value) (Q:St→Hp→Prop),Inv X pins σ H s→RelV v u→t v σ H Q →
  wpAny (model X.prog X.w) X.A (assign target X.env u) (fun _ s'=>∃σ' H',Inv X pins σ' H' s'∧Q σ' H') X.xe s
def PGs (X:Cx) (ts:List Expr) (t:TGs):Prop:=
 ∀(pins:List (Addr × Obj)) (s:Shared) (σ:St) (H:Hp) (vs:List V) (us:List Value) (Q:St→Hp→Prop),Inv X pins σ H s→Vals vs us→t vs σ H Q →
  wpAny (model X.prog X.w) X.A (assignInOrder ((assignEach ts X.env).map (·.2)) us) (fun _ s'=>∃σ' H',Inv X pins σ' H' s'∧Q σ' H') X.xe s
abbrev aSv:=V→V→V→Hp→(Hp→Prop)→Prop
def aVj (X:Cx) (t:aSv):Prop:=
 ∀(pins:List (Addr × Obj)) (s:Shared) (σ:St) (H:Hp) (o i v:V) (ov iv u:Value) (Q:Hp→Prop),Inv X pins σ H s→RelV o ov→RelV i iv→RelV v u→t o i v H Q →
  wpAny (model X.prog X.w) X.A (setItem ov iv u) (fun _ s'=>∃H',Inv X pins σ H' s'∧Q H') X.xe s
section
variable {X:Cx} {pos:Pos}
def bZ (i:Nat):TG:=fun v σ H Q=>Q (σ.set i (some v)) H
theorem aR9 {i:Nat} {x:Str} (hN:X.N.Nodup) (hi:X.N[i]?=some x) (hx:Loc X.env.scope x) (hf:X.fn x=true∨X.env.scope.names.lookup x=some .local:=by first|exact .inl rfl|exact .inr rfl|assumption):PG X (.Name x pos) (bZ i):=by
 intro pins s σ H v u Q I r h
 exact wpAny_assign_Name (aGf I hN hi hx r (fun s' I'=>⟨_,H,I',h⟩) hf)
def aPz:TGs:=fun vs σ H Q=>vs=[]∧Q σ H
def vW (t:TG) (u:TGs):TGs:=fun vs σ H Q=>∃v r,vs=v::r∧t v σ H fun σ' H'=>u r σ' H' Q
theorem aRn:PGs X [] aPz:=by
 intro pins s σ H vs us Q I r h
 obtain ⟨e,h⟩:=h
 subst e
 cases r
 exact assignInOrder_nil ⟨σ,H,I,h⟩
theorem aOv {e:Expr} {es:List Expr} {t:TG} {u:TGs} (h1:PG X e t) (h2:PGs X es u)
  (hs:(assignEach (e::es) X.env).map (·.2)=assign e X.env::(assignEach es X.env).map (·.2):=by rfl):PGs X (e::es) (vW t u):=by
 intro pins s σ H vs us Q I r h
 obtain ⟨v,vr,e1,h⟩:=h
 subst e1
 cases r with
 |cons r rr=>
  rw [hs]
  refine assignInOrder_cons (thn (h1 pins s σ H _ _ _ I r h) fun _ s1 ⟨σ1,H1,I1,q1⟩=>?_)
  exact h2 pins s1 σ1 H1 _ _ Q I1 rr q1
def aM0 (K:PySem.W.Frag) (n:Nat) (t:TGs):TG:=fun v σ H Q=>∃a xs,v=.ref a∧SqT K H a xs∧xs.length=n∧t xs σ H Q
theorem aVh {es:List Expr} {k:Nat} {t:TGs} {n:Nat} (hc:X.calm=true) (h:PGs X es t)
  (hn:(assignEach es X.env).length=n:=by rfl) (hst:(assignEach es X.env).findIdx? (·.1)=none:=by rfl):PG X (.Tuple es k pos) (aM0 X.K n t):=by
 intro pins s σ H v u Q I r hw
 obtain ⟨a,xs,e1,hq,hl,hw⟩:=hw
 subst e1
 cases r
 obtain ⟨its,rv,ht,hz⟩:=I.tuple hq
 refine assign_Tuple_tuple (I.ok.hd hc) ht (by simp [hn,←hl,rv.length]) hst fun h' hx=>?_
 have I1:Inv X pins σ H { s with heap:=h' }:=I.kept (t':=s.toks) fun b o e=>hx b o (Nat.ne_of_lt (Heap.lt_size e)) e
 exact h pins _ σ H xs _ Q I1 (by simpa using rv) hw
def aW5 (to ti:TE) (t:aSv):TG:=fun v σ H Q=>to σ H fun o H1=>ti σ H1 fun i H2=>t o i v H2 fun H3=>Q σ H3
theorem aVa {o i:Expr} {to ti:TE} {t:aSv} (ho:PE X o to) (hi:PE X i ti) (hs:aVj X t)
  (ha:∀v,assign (.Subscript o i pos) X.env v=(do
   let ov ←holding [v] (eval o X.env)
   let iv ←holding [v,ov] (eval i X.env)
   standAt pos
   holding [v,ov,iv] (setItem ov iv v)
   release [v,ov,iv] []):=by intro _;rfl):PG X (.Subscript o i pos) (aW5 to ti t):=by
 intro pins s σ H v u Q I r h
 rw [ha]
 refine wpAny_bind (wpAny_holding (thn (ho pins s σ H _ I h) fun ov s1 ⟨x,H1,I1,r1,q1⟩=>?_))
 refine wpAny_bind (wpAny_holding (thn (hi pins s1 σ H1 _ I1 q1) fun iv s2 ⟨y,H2,I2,r2,q2⟩=>?_))
 refine wpAny_bind (wpAny_standAt (wpAny_bind (wpAny_holding (thn (hs pins s2 σ H2 x y v ov iv u _ I2 r1 r2 r q2) fun _ s3 ⟨H3,I3,q3⟩=>?_))))
 exact wpAny_release ⟨σ,H3,I3,q3⟩
def mX (te:TE) (g:TG):TS:=fun D σ H=>te σ H fun x H1=>g x σ H1 D.nx
theorem aVz {tg e:Expr} {te:TE} {g:TG} (he:PE X e te) (hg:PG X tg g) (hs:swapsWithSole [tg] e pos.line X.env=pure false:=by rfl) (hw:swappedStores [tg] e X.env=pure none:=by rfl)
  (h1:(assignEach [tg] X.env).map (·.2)=[assign tg X.env]:=by rfl):PS X (.Assign [tg] e pos) (mX te g):=by
 intro pins s σ H D I h
 refine wpAny_Assign_stores (thn (he pins s σ H _ I h) fun v s1 ⟨x,H1,I1,r1,q1⟩=>?_) hs hw
 rw [h1]
 exact thn (hg pins s1 σ H1 x v _ I1 r1 q1) fun _ s2 q=>q
theorem aUi {i:Nat} {x:Str} {e:Expr} {te:TE} {pos':Pos} (hN:X.N.Nodup) (hi:X.N[i]?=some x) (hx:Loc X.env.scope x) (he:PE X e te) (hs:swapsWith e (some (.Name x pos')) pos.line X.env=pure false:=by rfl) (hf:X.fn x=true∨X.env.scope.names.lookup x=some .local:=by first|exact .inl rfl|exact .inr rfl|assumption) :
  PS X (.Assign [.Name x pos'] e pos) (mX te (bZ i)):=by
 intro pins s σ H D I h
 refine wpAny_Assign_Name (thn (he pins s σ H _ I h) fun v s1 ⟨y,H1,I1,r1,q1⟩=>?_) hs
 exact aGf I1 hN hi hx r1 (fun s2 I2=>⟨_,H1,I2,q1⟩) hf
end
section
variable {X:Cx} {pos:Pos}
def aN2 (c:TT) (tb:TS):TS:=fun D σ H=>∃W:Nat→St→Hp→Prop,(∃m,W m σ H)∧∀m σ H,W m σ H →
 c σ H fun b H1=>if b=true then ∃N:St→Hp→Prop,(∀σ' H',N σ' H'→∃m',m'<m∧W m' σ' H')∧tb { D with nx:=N,ct:=N,bk:=D.nx } σ H1 else D.nx σ H1
theorem aQh {c:Expr} {body:List Stmt} {tc:TT} {tb:TS} (hp:PassesOwn (model X.prog X.w) X.A X.env X.xe) (hc:PT X c tc) (hb:PSs X body tb):PS X (.While c body [] pos) (aN2 tc tb):=by
 intro pins s σ H D I h
 obtain ⟨W,⟨m0,w0⟩,turn⟩:=h
 refine wpAny_While (codeAny_whileLoop (fun n s'=>∃σ' H',Inv X pins σ' H' s'∧W n σ' H') ?_ m0 ⟨σ,H,I,w0⟩)
 rintro n s1 ⟨σ1,H1,I1,w1⟩
 refine wpAny_passesOwn hp (thn (hc pins s1 σ1 H1 _ I1 (turn n σ1 H1 w1)) fun b s2 ⟨H2,I2,q2⟩=>?_)
 cases b with
 |true=>
  obtain ⟨N,hN,q2⟩:=q2
  rw [if_pos rfl]
  refine wpAny_passesOwn hp (thn (hb pins s2 σ1 H2 _ I2 q2) fun f s3 q3=>?_)
  cases f with
  |next=>
   obtain ⟨σ3,H3,I3,n3⟩:=q3
   obtain ⟨m',hm,w3⟩:=hN σ3 H3 n3
   exact ⟨m',hm,σ3,H3,I3,w3⟩
  |cont=>
   obtain ⟨σ3,H3,I3,n3⟩:=q3
   obtain ⟨m',hm,w3⟩:=hN σ3 H3 n3
   exact ⟨m',hm,σ3,H3,I3,w3⟩
  |brk=>exact q3
  |ret v=>exact q3
 |false=>
  rw [if_neg Bool.false_ne_true]
  exact wpAny_execs_nil ⟨σ1,H2,I2,q2⟩
end
structure It where
 go:Nat→Hp→Prop
 yld:Nat→Hp→V→Hp→Prop
 stop:Nat→Hp→Prop
def oA (X:Cx) (pins:List (Addr × Obj)) (H:Hp) (b:Addr):Prop:=
 H b=none∧b≠X.env.locals∧b∉X.fs∧(b∈X.ex∨X.s₀.heap.objs.size≤b)∧(∀x c,X.env.cells.lookup x=some c→c≠b)∧∀p∈X.pn++pins,p.1≠b
theorem Inv.aB2 {X:Cx} {pins:List (Addr × Obj)} {σ:St} {H H':Hp} {s:Shared} {b:Addr} (I:Inv X pins σ H s) (hb:s.heap.objs.size≤b) (hn:H' b=none):oA X pins H' b:=by
 refine ⟨hn,Nat.ne_of_gt (Nat.lt_of_lt_of_le I.lt hb),I.nofs hb,.inr (Nat.le_trans I.sz hb),fun x c e z=>?_,fun p hp z=>?_⟩
 ·obtain ⟨v,q⟩:=I.cell x c e
  exact absurd (Nat.lt_of_lt_of_le q.lt (by rw [z];exact hb)) (Nat.lt_irrefl _)
 ·exact absurd (Nat.lt_of_lt_of_le (Heap.lt_size (I.pin p hp).1) (by rw [z];exact hb)) (Nat.lt_irrefl _)
structure Turn (P:Program) (w:World) (K:PySem.W.Frag) (tg:Expr) (J:It) (fp:List Addr) (it:Addr) (tn:Nat→Heap→Prop):Prop where
 mem:it∈fp
 obj:∀i h,tn i h→∀b∈fp,∃o,h.get? b=some o∧∀v,o.data≠.cell v
 keep:∀i h h',tn i h→(∀b∈fp,∀o,h.get? b=some o→h'.get? b=some o)→tn i h'
 item:∀(X:Cx),X.prog=P→X.w=w→X.K=K→X.calm=true→∀(i:Nat) (pins:List (Addr × Obj)) (s:Shared) (σ:St) (H:Hp) (E:Value→Shared→Prop),Inv X pins σ H s→(∀b∈fp,oA X pins H b)→tn i s.heap→J.go i H →
  wpAny (model P w) X.A (pyNext (.ref it)) (fun r s1=>∃u,r=some u ∧
   wpAny (model P w) X.A (letOwnedTupleGo tg (.ref it) u) (fun _ s2=>∃x H',Inv X pins σ H' s2∧RelV x u∧J.yld i H x H'∧tn (i+1) s2.heap∧∀b∈fp,H' b=none) E s1) E s
 done:∀(X:Cx),X.prog=P→X.w=w→X.K=K→X.calm=true→∀(i:Nat) (pins:List (Addr × Obj)) (s:Shared) (σ:St) (H:Hp) (E:Value→Shared→Prop),Inv X pins σ H s→(∀b∈fp,oA X pins H b)→tn i s.heap→J.stop i H →
  wpAny (model P w) X.A (pyNext (.ref it)) (fun r s1=>r=none∧Inv X pins σ H s1) E s
 self:∀(A:Around) (i:Nat) (s:Shared) (Q:Value→Shared→Prop) (E:Value→Shared→Prop),tn i s.heap→Q (.ref it) s→wpAny (model P w) A (pyIter (.ref it)) Q E s
abbrev TI:=St→Hp→(It→Hp→Prop)→Prop
def PIE (X:Cx) (pins:List (Addr × Obj)) (σ:St) (tg:Expr) (R:It→Hp→Prop) (itv:Value) (s2:Shared):Prop:=
 ∃(it:Addr) (fp:List Addr) (tn:Nat→Heap→Prop) (J:It) (H':Hp),itv=.ref it∧Inv X pins σ H' s2∧Turn X.prog X.w X.K tg J fp it tn∧tn 0 s2.heap∧(∀b∈fp,oA X pins H' b)∧R J H'
def PI (X:Cx) (tg iter:Expr) (wi:TI):Prop:=
 ∀(pins:List (Addr × Obj)) (s:Shared) (σ:St) (H:Hp) (R:It→Hp→Prop),Inv X pins σ H s→wi σ H R →
  wpAny (model X.prog X.w) X.A (eval iter X.env) (fun v s1=>wpAny (model X.prog X.w) X.A (pyIter v) (PIE X pins σ tg R) X.xe s1) X.xe s
theorem xK {M:Model} {A:Around} {E:Value→Shared→Prop} {s:Shared} {tg:Expr} {it:Addr} {u:Value} {o:Obj} {n:String} {vs:Array Value} {Q:Unit→Shared→Prop} (ho:s.heap.get? it=some o) (hc:o.cls=.type n) (hd:o.data=.fields vs)
  (hn:["enumerate","zip","dict_itemiterator","dict_reverseitemiterator","odict_iterator","itertools.zip_longest","itertools.pairwise"].contains n=false) (hQ:Q () s):wpAny M A (letOwnedTupleGo tg (.ref it) u) Q E s:=by
 unfold letOwnedTupleGo
 cases tg <;> first
  |exact wpAny_pure hQ
  |(cases u <;> first
    |exact wpAny_pure hQ
    |(refine wpAny_bind (wpAny_load ho ?_);rw [hc,hd];show wpAny M A (if (["enumerate","zip","dict_itemiterator","dict_reverseitemiterator","odict_iterator","itertools.zip_longest","itertools.pairwise"].contains n && vs[0]? == some (rawInt _))=true then _ else _) Q E s;rw [if_neg (by intro h;rw [hn,Bool.false_and] at h;cases h)];exact wpAny_pure hQ))
def Itl (K:PySem.W.Frag) (a:Addr):It:=
 ⟨fun i H=>∃xs x,SqL K H a xs∧xs[i]?=some x,fun i H x H'=>H'=H∧∀xs,SqL K H a xs→xs[i]?=some x,fun i H=>∃xs,SqL K H a xs∧xs.length≤i⟩
def Itt (K:PySem.W.Frag) (a:Addr):It:=
 ⟨fun i H=>∃xs x,SqT K H a xs∧xs[i]?=some x,fun i H x H'=>H'=H∧∀xs,SqT K H a xs→xs[i]?=some x,fun i H=>∃xs,SqT K H a xs∧xs.length≤i⟩
def Itr (lo:Int) (n:Nat):It:=⟨fun i _=>i<n,fun i H x H'=>H'=H∧x=.int (lo+i),fun i _=>n≤i⟩
theorem aL7 {P:Program} {w:World} {K:PySem.W.Frag} {tg:Expr} (a it:Addr):Turn P w K tg (Itl K a) [it] it (fun i h=>h.IsListIter it a i) where
 mem:=by simp
 obj:=fun i h st b hb=>by
  have e:b=it:=by simpa using hb
  subst e
  obtain ⟨o,e,c,d⟩:=st
  exact ⟨o,e,fun v z=>by rw [d] at z;cases z⟩
 keep:=fun i h h' st k=>st.at fun o e=>k it (by simp) o e
 item:=by
  intro X hP hw hK hc i pins s σ H E I hf st hg
  subst hP hw hK
  obtain ⟨xs,x,hq,hx⟩:=hg
  obtain ⟨its,rv,p,hz⟩:=I.list hq
  obtain ⟨u,hu,ru⟩:=rv.get hx
  obtain ⟨f0,f1,f2,f3,f4,f5⟩:=hf it (by simp)
  refine wpAny_pyNext_list_item st p.isList (x:=u) (by simpa using hu) fun h' st' sb=>?_
  have I1:Inv X pins σ H { s with heap:=h' }:=I.turned (t':=s.toks) (fun b o hb e=>(sb.2 b hb).trans e) f0 f1 f3 f4 f5
  obtain ⟨o,e,c,d⟩:=id st'
  exact ⟨u,rfl,xK (s:={ s with heap:=h' }) e c d (by decide) ⟨x,H,I1,ru,⟨rfl,fun ys hy=>by rw [I.aNs hy hq];exact hx⟩,st',fun b hb=>(hf b hb).1⟩⟩
 done:=by
  intro X hP hw hK hc i pins s σ H E I hf st hg
  subst hP hw hK
  obtain ⟨xs,hq,hx⟩:=hg
  obtain ⟨its,rv,p,hz⟩:=I.list hq
  obtain ⟨f0,f1,f2,f3,f4,f5⟩:=hf it (by simp)
  have hl:=rv.length
  exact wpAny_pyNext_list_end (I.ok.hd hc) st p.isList (by simp;omega) fun h' eb=>⟨rfl,I.turned (t':=s.toks) (fun b o hb e=>eb b o hb e) f0 f1 f3 f4 f5⟩
 self:=fun _ _ _ _ _ st h=>wpAny_pyIter_listiter st h
theorem aIw {P:Program} {w:World} {K:PySem.W.Frag} {tg:Expr} (a it:Addr):Turn P w K tg (Itt K a) [it] it (fun i h=>h.IsTupleIter it a i) where
 mem:=by simp
 obj:=fun i h st b hb=>by
  have e:b=it:=by simpa using hb
  subst e
  obtain ⟨o,e,c,d⟩:=st
  exact ⟨o,e,fun v z=>by rw [d] at z;cases z⟩
 keep:=fun i h h' st k=>st.at fun o e=>k it (by simp) o e
 item:=by
  intro X hP hw hK hc i pins s σ H E I hf st hg
  subst hP hw hK
  obtain ⟨xs,x,hq,hx⟩:=hg
  obtain ⟨its,rv,p,hz⟩:=I.tuple hq
  obtain ⟨u,hu,ru⟩:=rv.get hx
  obtain ⟨f0,f1,f2,f3,f4,f5⟩:=hf it (by simp)
  refine wpAny_pyNext_tuple_item st (show s.heap.IsTuple a its.toArray from p) (x:=u) (by simpa using hu) fun h' st' sb=>?_
  have I1:Inv X pins σ H { s with heap:=h' }:=I.turned (t':=s.toks) (fun b o hb e=>(sb.2 b hb).trans e) f0 f1 f3 f4 f5
  obtain ⟨o,e,c,d⟩:=id st'
  exact ⟨u,rfl,xK (s:={ s with heap:=h' }) e c d (by decide) ⟨x,H,I1,ru,⟨rfl,fun ys hy=>by rw [I.aBi hy hq];exact hx⟩,st',fun b hb=>(hf b hb).1⟩⟩
 done:=by
  intro X hP hw hK hc i pins s σ H E I hf st hg
  subst hP hw hK
  obtain ⟨xs,hq,hx⟩:=hg
  obtain ⟨its,rv,p,hz⟩:=I.tuple hq
  obtain ⟨f0,f1,f2,f3,f4,f5⟩:=hf it (by simp)
  have hl:=rv.length
  exact wpAny_pyNext_tuple_end (I.ok.hd hc) st (show s.heap.IsTuple a its.toArray from p) (by simp;omega) fun h' eb=>⟨rfl,I.turned (t':=s.toks) (fun b o hb e=>eb b o hb e) f0 f1 f3 f4 f5⟩
 self:=fun _ _ _ _ _ st h=>wpAny_pyIter_tupleiter st h
theorem aH1 {P:Program} {w:World} {K:PySem.W.Frag} {tg:Expr} (it:Addr) (lo:Int) (n:Nat):Turn P w K tg (Itr lo n) [it] it (fun i h=>IsRangeIter h it (lo+(i:Nat) * 1) ((n:Int) - (i:Nat)) 1) where
 mem:=by simp
 obj:=fun i h st b hb=>by
  have e:b=it:=by simpa using hb
  subst e
  exact ⟨_,st,fun v z=>by
   have z':Data.fields _=Data.cell v:=z
   cases z'⟩
 keep:=fun i h h' st k=>k it (by simp) _ st
 item:=by
  intro X hP hw hK hc i pins s σ H E I hf st hg
  subst hP hw hK
  obtain ⟨f0,f1,f2,f3,f4,f5⟩:=hf it (by simp)
  have W:=Walks.range (prog:=X.prog) (w:=X.w) (I.ok.hd hc) it lo 1 n
  refine W.item i s _ _ hg st fun v h' tk hv st' kk=>?_
  obtain ⟨t,rfl⟩:=hv
  have I1:Inv X pins σ H { s with heap:=h',toks:=tk }:=I.turned (fun b o hb e=>kk b o (by simpa using hb) e) f0 f1 f3 f4 f5
  refine ⟨_,rfl,xK (s:={ s with heap:=h',toks:=tk }) (n:="range_iterator") st' rfl rfl (by decide) ⟨.int (lo+i),H,I1,⟨t,?_⟩,⟨rfl,rfl⟩,st',fun b hb=>(hf b hb).1⟩⟩
  rw [Int.mul_one]
 done:=by
  intro X hP hw hK hc i pins s σ H E I hf st hg
  subst hP hw hK
  obtain ⟨f0,f1,f2,f3,f4,f5⟩:=hf it (by simp)
  exact wpAny_pyNext_range_end (I.ok.hd hc) st (by have:n≤i:=hg;omega) fun h' eb=>⟨rfl,I.turned (t':=s.toks) (fun b o hb e=>eb b o hb e) f0 f1 f3 f4 f5⟩
 self:=fun _ _ _ _ _ st h=>wpAny_pyIter_rangeiter st h
section
variable {X:Cx} {tg:Expr}
def sG (K:PySem.W.Frag) (tl:TE):TI:=fun σ H R=>tl σ H fun x H1=>∃a,x=.ref a∧(∃xs,SqL K H1 a xs)∧R (Itl K a) H1
def aGb (K:PySem.W.Frag) (tl:TE):TI:=fun σ H R=>tl σ H fun x H1=>∃a,x=.ref a∧(∃xs,SqT K H1 a xs)∧R (Itt K a) H1
theorem aKg {l:Expr} {tl:TE} (hl:PE X l tl):PI X tg l (sG X.K tl):=by
 intro pins s σ H R I h
 refine thn (hl pins s σ H _ I h) fun v s1 ⟨x,H1,I1,r1,q1⟩=>?_
 obtain ⟨a,e,⟨xs,hq⟩,q⟩:=q1
 subst e
 cases r1
 obtain ⟨its,rv,p,hz⟩:=I1.list hq
 refine wpAny_pyIter_list p.isList ?_
 refine ⟨s1.heap.objs.size,[s1.heap.objs.size],_,_,H1,rfl,I1.kept (t':=s1.toks) fun b o e=>Heap.get?_push_of_some _ e,aL7 a _,⟨_,Heap.get?_push_size _ rfl,rfl,rfl⟩,fun b hb=>?_,q⟩
 have e:b=s1.heap.objs.size:=by simpa using hb
 subst e
 exact I1.aB2 (Nat.le_refl _) (I1.hok.fresh (Nat.le_refl _))
theorem aN3 {l:Expr} {tl:TE} (hl:PE X l tl):PI X tg l (aGb X.K tl):=by
 intro pins s σ H R I h
 refine thn (hl pins s σ H _ I h) fun v s1 ⟨x,H1,I1,r1,q1⟩=>?_
 obtain ⟨a,e,⟨xs,hq⟩,q⟩:=q1
 subst e
 cases r1
 obtain ⟨its,rv,p,hz⟩:=I1.tuple hq
 refine wpAny_pyIter_tuple (show s1.heap.IsTuple a its.toArray from p) ?_
 refine ⟨s1.heap.objs.size,[s1.heap.objs.size],_,_,H1,rfl,I1.kept (t':=s1.toks) fun b o e=>Heap.get?_push_of_some _ e,aIw a _,⟨_,Heap.get?_push_size _ rfl,rfl,rfl⟩,fun b hb=>?_,q⟩
 have e:b=s1.heap.objs.size:=by simpa using hb
 subst e
 exact I1.aB2 (Nat.le_refl _) (I1.hok.fresh (Nat.le_refl _))
theorem aP8 {pins:List (Addr × Obj)} {σ:St} {H:Hp} {s:Shared} {R:It→Hp→Prop} {E:Value→Shared→Prop} {lo hi:Int} {t u v:Tok} {tk:Nat} (I:Inv X pins σ H s) (h1:-(2 ^ 62)≤lo) (h2:lo<2 ^ 62) (h3:-(2 ^ 62)≤hi) (h4:hi<2 ^ 62)
  (q:R (Itr lo (hi - lo).toNat) H):wpAny (model X.prog X.w) X.A (pyIter (.ref s.heap.objs.size)) (PIE X pins σ tg R) E { s with heap:=s.heap.push { cls:=.type "range",data:=.fields #[.int lo t,.int hi u,.int 1 v] },toks:=tk }:=by
 refine wpAny_pyIter_range (IsRange.new ..) (small_one h1 h2 h3 h4) ?_
 have I1:Inv X pins σ H { s with heap:=s.heap.push { cls:=.type "range",data:=.fields #[.int lo t,.int hi u,.int 1 v] },toks:=tk }:=I.kept fun b o e=>Heap.get?_push_of_some _ e
 refine ⟨(s.heap.push { cls:=.type "range",data:=.fields #[.int lo t,.int hi u,.int 1 v] }).objs.size,[(s.heap.push { cls:=.type "range",data:=.fields #[.int lo t,.int hi u,.int 1 v] }).objs.size],_,_,H,rfl,
  I1.kept (t':=tk) fun b o e=>Heap.get?_push_of_some _ e,aH1 _ lo (hi - lo).toNat,?_,fun b hb=>?_,q⟩
 ·have e1:lo+((0:Nat):Int) * 1=lo:=by simp
  have e2:(((hi - lo).toNat:Nat):Int) - ((0:Nat):Int)=Builtin.Range.rangeSize lo hi 1:=by rw [rangeSize_one];split <;> omega
  show IsRangeIter _ _ (lo+((0:Nat):Int) * 1) ((((hi - lo).toNat:Nat):Int) - ((0:Nat):Int)) 1
  rw [e1,e2]
  exact Heap.get?_push_size _ rfl
 ·have e:b=(s.heap.push { cls:=.type "range",data:=.fields #[.int lo t,.int hi u,.int 1 v] }).objs.size:=by simpa using hb
  subst e
  exact I1.aB2 (Nat.le_refl _) (I1.hok.fresh (Nat.le_refl _))
def aLi (ta:TA):TI:=fun σ H R=>ta σ H fun vs H1=>∃j:Int,vs=[.int j]∧-(2 ^ 62)≤j∧j<2 ^ 62∧R (Itr 0 j.toNat) H1
theorem aLu {a:Expr} {ta:TA} {p pos:Pos} (hg:Gl X "range") (hm:X.mg "range"=none) (ha:PA X [a] ta) (hs:starEach [a] X.env=[(false,eval a X.env)]:=by rfl):PI X tg (.Call (.Name "range" p) [a] [] pos) (aLi ta):=by
 intro pins s σ H R I h
 refine Call_ (rH I hg hm boot_range (PyProof.Rows.callWith_type1 (thn (ha pos pins s σ H _ I h) fun us s1 ⟨vs,H1,I1,r1,q1⟩=>?_) hs rfl))
 obtain ⟨j,e,q1,q2,q⟩:=q1
 subst e
 cases r1 with
 |cons r rr=>
  cases rr
  obtain ⟨t,rfl⟩:=r
  exact call_range_1 (aP8 I1 (by omega) (by omega) q1 q2 (by simpa using q))
def aWk (wi:TI) (g:TG) (tb:TS):TS:=fun D σ H=>wi σ H fun J H1=>∃W:Nat→Nat→St→Hp→Prop,(∃m,W 0 m σ H1)∧∀i m σ H,W i m σ H →
 (J.stop i H∧D.nx σ H)∨(J.go i H∧∃N:St→Hp→Prop,(∀σ' H',N σ' H'→∃m',m'<m∧W (i+1) m' σ' H')∧∀x H',J.yld i H x H'→g x σ H' fun σ2 H2=>tb { D with nx:=N,ct:=N,bk:=D.nx } σ2 H2)
def qY (fp:List Addr) (h:Heap):List (Addr × Obj):=fp.filterMap fun b=>(h.get? b).map fun o=>(b,o)
theorem eG {fp:List Addr} {h:Heap} {b:Addr} {o:Obj} (hb:b∈fp) (e:h.get? b=some o):(b,o)∈qY fp h:=List.mem_filterMap.mpr ⟨b,hb,by rw [e];rfl⟩
theorem aM7 {fp:List Addr} {h:Heap} {p:Addr × Obj} (hp:p∈qY fp h):p.1∈fp∧h.get? p.1=some p.2:=by
 obtain ⟨b,hb,e⟩:=List.mem_filterMap.mp hp
 cases q:h.get? b with
 |none=>rw [q] at e;cases e
 |some o=>
  rw [q] at e
  have e':(b,o)=p:=Option.some.inj e
  subst e'
  exact ⟨hb,q⟩
theorem Inv.pinned {pins:List (Addr × Obj)} {σ:St} {H:Hp} {s:Shared} {fp:List Addr} (I:Inv X pins σ H s) (hf:∀b∈fp,oA X pins H b) (ho:∀b∈fp,∃o,s.heap.get? b=some o∧∀v,o.data≠.cell v):Inv X (pins++qY fp s.heap) σ H s:=
 I.aLe fun p hp=>(List.mem_append.mp hp).elim (fun z=>I.pin p (List.mem_append_right _ z)) fun z=>by
  obtain ⟨hb,e⟩:=aM7 z
  obtain ⟨f0,f1,f2,_⟩:=hf p.1 hb
  obtain ⟨o,e',d⟩:=ho p.1 hb
  rw [e] at e';cases e'
  exact ⟨e,f0,f1,f2,d⟩
theorem Inv.gB {pins pl:List (Addr × Obj)} {σ:St} {H:Hp} {s:Shared} (I:Inv X (pins++pl) σ H s):Inv X pins σ H s:=I.aLe fun p hp=>I.pin p (List.mem_append_right _ (List.mem_append_left _ hp))
theorem aVv {iter:Expr} {body:List Stmt} {wi:TI} {g:TG} {tb:TS} {pos:Pos} (hp:PassesOwn (model X.prog X.w) X.A X.env X.xe) (hc:X.calm=true) (hi:PI X tg iter wi) (hg:PG X tg g) (hb:PSs X body tb)
  (hs:∀x,foldedSetIterable iter X.env x=pure x:=by intro _;rfl):PS X (.For tg iter body [] pos) (aWk wi g tb):=by
 intro pins s σ H D I h
 refine wpAny_For (thn (hi pins s σ H _ I h) fun v s1 h1=>thn h1 fun itv s2 h2=>?_) hs
 obtain ⟨it,fp,tn,J,H2,e,I2,T,st2,f2,W,⟨m0,w0⟩,turn⟩:=h2
 subst e
 have stat:∀{H':Hp},(∀b∈fp,H' b=none)→∀b∈fp,oA X pins H' b:=fun hn b hb=>⟨hn b hb,(f2 b hb).2⟩
 refine codeAny_forLoop_any (fun n s'=>∃i σ' H',Inv X pins σ' H' s'∧tn i s'.heap∧(∀b∈fp,H' b=none)∧W i n σ' H') ?_ m0 ⟨0,σ,H2,I2,st2,fun b hb=>(f2 b hb).1,w0⟩
 rintro n s3 ⟨i,σ3,H3,I3,st3,fr3,w3⟩
 rcases turn i n σ3 H3 w3 with ⟨stop,qn⟩|⟨go,N,hN,step⟩
 ·refine wpAny_passesOwn hp (thn (T.done X rfl rfl rfl hc i pins s3 σ3 H3 X.xe I3 (stat fr3) st3 stop) fun r s4 ⟨hr,I4⟩=>?_)
  subst hr
  exact wpAny_execs_nil ⟨σ3,H3,I4,qn⟩
 ·refine wpAny_passesOwn hp (thn (T.item X rfl rfl rfl hc i pins s3 σ3 H3 X.xe I3 (stat fr3) st3 go) fun r s4 ⟨u,hr,h4⟩=>?_)
  subst hr
  refine wpAny_passesOwn hp (thn h4 fun _ s5 ⟨x,H5,I5,r5,y5,st5,fr5⟩=>?_)
  have I5':=I5.pinned (stat fr5) (T.obj _ _ st5)
  refine wpAny_passesOwn hp (thn (hg _ s5 σ3 H5 x u _ I5' r5 (step x H5 y5)) fun _ s6 ⟨σ6,H6,I6,q6⟩=>?_)
  refine wpAny_passesOwn hp (thn (hb _ s6 σ6 H6 _ I6 q6) fun f s7 q7=>?_)
  have again:∀{σ7:St} {H7:Hp},Inv X (pins++qY fp s5.heap) σ7 H7 s7→N σ7 H7→∃m,m<n∧∃i σ' H',Inv X pins σ' H' s7∧tn i s7.heap∧(∀b∈fp,H' b=none)∧W i m σ' H':=fun {σ7 H7} I7 n7=>by
   obtain ⟨m',hm,w7⟩:=hN σ7 H7 n7
   refine ⟨m',hm,i+1,σ7,H7,I7.gB,T.keep _ _ _ st5 fun b hb o e=>(I7.pin (b,o) (List.mem_append_right _ (List.mem_append_right _ (eG hb e)))).1,fun b hb=>?_,w7⟩
   obtain ⟨o,e,d⟩:=T.obj _ _ st5 b hb
   exact (I7.pin (b,o) (List.mem_append_right _ (List.mem_append_right _ (eG hb e)))).2.1
  cases f with
  |next=>obtain ⟨σ7,H7,I7,n7⟩:=q7;exact again I7 n7
  |cont=>obtain ⟨σ7,H7,I7,n7⟩:=q7;exact again I7 n7
  |brk=>obtain ⟨σ7,H7,I7,q7⟩:=q7;exact ⟨σ7,H7,I7.gB,q7⟩
  |ret v=>obtain ⟨x7,σ7,H7,I7,r7,q7⟩:=q7;exact ⟨x7,σ7,H7,I7.gB,r7,q7⟩
end
theorem aRg {K:PySem.W.Frag} {a:Addr} {xs:List V} {g:TG} {tb:TS} {D:Ends} {σ:St} {H:Hp} (Pv:Nat→St→Hp→Prop) (h0:Pv 0 σ H) (hl:∀i σ H,i≤xs.length→Pv i σ H→SqT K H a xs)
  (hs:∀i x σ H,xs[i]?=some x→Pv i σ H→g x σ H fun σ2 H2=>tb { D with nx:=Pv (i+1),ct:=Pv (i+1),bk:=D.nx } σ2 H2) (hd:∀σ H,Pv xs.length σ H→D.nx σ H) :
  ∃W:Nat→Nat→St→Hp→Prop,(∃m,W 0 m σ H)∧∀i m σ H,W i m σ H →
   ((Itt K a).stop i H∧D.nx σ H)∨((Itt K a).go i H∧∃N:St→Hp→Prop,(∀σ' H',N σ' H'→∃m',m'<m∧W (i+1) m' σ' H')∧∀x H',(Itt K a).yld i H x H'→g x σ H' fun σ2 H2=>tb { D with nx:=N,ct:=N,bk:=D.nx } σ2 H2):=by
 refine ⟨fun i m σ H=>m=xs.length - i∧i≤xs.length∧Pv i σ H,⟨xs.length,by simp,Nat.zero_le _,h0⟩,?_⟩
 rintro i m σ H ⟨rfl,hi,p⟩
 have q:=hl i σ H hi p
 by_cases hlt:i<xs.length
 ·refine .inr ⟨⟨xs,xs[i],q,by simp [hlt]⟩,Pv (i+1),fun σ' H' p'=>⟨xs.length - (i+1),by omega,rfl,hlt,p'⟩,fun x H' y=>?_⟩
  obtain ⟨e,y⟩:=y
  subst e
  exact hs i x σ _ (y xs q) p
 ·have e:i=xs.length:=by omega
  subst e
  exact .inl ⟨⟨xs,q,Nat.le_refl _⟩,hd σ H p⟩
theorem iG {lo:Int} {n:Nat} {g:TG} {tb:TS} {D:Ends} {σ:St} {H:Hp} (Pv:Nat→St→Hp→Prop) (h0:Pv 0 σ H)
  (hs:∀i σ H,i<n→Pv i σ H→g (.int (lo+i)) σ H fun σ2 H2=>tb { D with nx:=Pv (i+1),ct:=Pv (i+1),bk:=D.nx } σ2 H2) (hd:∀σ H,Pv n σ H→D.nx σ H) :
  ∃W:Nat→Nat→St→Hp→Prop,(∃m,W 0 m σ H)∧∀i m σ H,W i m σ H →
   ((Itr lo n).stop i H∧D.nx σ H)∨((Itr lo n).go i H∧∃N:St→Hp→Prop,(∀σ' H',N σ' H'→∃m',m'<m∧W (i+1) m' σ' H')∧∀x H',(Itr lo n).yld i H x H'→g x σ H' fun σ2 H2=>tb { D with nx:=N,ct:=N,bk:=D.nx } σ2 H2):=by
 refine ⟨fun i m σ H=>m=n - i∧i≤n∧Pv i σ H,⟨n,by simp,Nat.zero_le _,h0⟩,?_⟩
 rintro i m σ H ⟨rfl,hi,p⟩
 by_cases hlt:i<n
 ·refine .inr ⟨hlt,Pv (i+1),fun σ' H' p'=>⟨n - (i+1),by omega,rfl,hlt,p'⟩,fun x H' y=>?_⟩
  obtain ⟨e,y⟩:=y
  subst e y
  exact hs i σ _ hlt p
 ·have e:i=n:=by omega
  subst e
  exact .inl ⟨Nat.le_refl _,hd σ H p⟩
abbrev R2:=V→V→Hp→VK→Prop
def OpR (X:Cx) (f:Value→Value→Sem Value) (r:R2):Prop:=
 ∀(pins:List (Addr × Obj)) (s:Shared) (σ:St) (H:Hp) (x y:V) (v u:Value) (Q:VK),Inv X pins σ H s→RelV x v→RelV y u→r x y H Q →
  wpAny (model X.prog X.w) X.A (f v u) (EP X pins σ Q) X.xe s
def cD (X:Cx) (f:Value) (r:List V→Hp→VK→Prop):Prop:=
 ∀(pins:List (Addr × Obj)) (s:Shared) (σ:St) (H:Hp) (xs:List V) (us:List Value) (Q:VK),Inv X pins σ H s→Vals xs us→r xs H Q →
  wpAny (model X.prog X.w) X.A (call f us) (EP X pins σ Q) X.xe s
def aXt (X:Cx) (r:V→Hp→(Bool→Hp→Prop)→Prop):Prop:=
 ∀(pins:List (Addr × Obj)) (s:Shared) (σ:St) (H:Hp) (x:V) (v:Value) (Q:Bool→Hp→Prop),Inv X pins σ H s→RelV x v→r x H Q →
  wpAny (model X.prog X.w) X.A (truthy v) (TP X pins σ Q) X.xe s
def tOp (r:R2) (ta tb:TE):TE:=fun σ H Q=>ta σ H fun x H1=>tb σ H1 fun y H2=>r x y H2 Q
def rI (C:Int→Int→Prop) (g:Int→Int→V):R2:=fun x y H Q=>∃i j,x=.int i∧y=.int j∧C i j∧Q (g i j) H
def rI0 (g:Int→Int→V):R2:=fun x y H Q=>∃i j,x=.int i∧y=.int j∧Q (g i j) H
section
variable {X:Cx} {a b c:Expr} {ta tb tc:TE} {pos:Pos}
theorem aRp (ha:PE X a ta) (hb:PE X b tb) {pins:List (Addr × Obj)} {s:Shared} {σ:St} {H:Hp} {R:V→V→Hp→Prop} (I:Inv X pins σ H s)
  (h:ta σ H fun x H1=>tb σ H1 fun y H2=>R x y H2) {Q:Value→Shared→Prop} {f:Value→Value→Sem Value}
  (hf:∀v u s2 x y H2,Inv X pins σ H2 s2→RelV x v→RelV y u→R x y H2→wpAny (model X.prog X.w) X.A (f v u) Q X.xe s2) :
  wpAny (model X.prog X.w) X.A (eval a X.env) (fun v s₁=>wpAny (model X.prog X.w) X.A (eval b X.env) (fun u s₂=>wpAny (model X.prog X.w) X.A (f v u) Q X.xe s₂) X.xe s₁) X.xe s:=by
 refine thn (ha pins s σ H _ I h) fun v s1 ⟨x,H1,I1,r1,q1⟩=>?_
 refine thn (hb pins s1 σ H1 _ I1 q1) fun u s2 ⟨y,H2,I2,r2,q2⟩=>?_
 exact hf v u s2 x y H2 I2 r1 r2 q2
theorem aWh {op:Operator} {r:R2} (ho:OpR X (binaryOp op) r) (ha:PE X a ta) (hb:PE X b tb):PE X (.BinOp a op b pos) (tOp r ta tb):=by
 intro pins s σ H Q I h
 exact wpAny_BinOp (aRp ha hb I h fun v u s2 x y H2 I2 rx ry q=>ho pins s2 σ H2 x y v u Q I2 rx ry q)
theorem opI {f:Value→Value→Sem Value} {C:Int→Int→Prop} {g:Int→Int→Int}
  (rule:∀(i j:Int) (t u:Tok) (s:Shared) (Q:Value→Shared→Prop) (E:Value→Shared→Prop),C i j→Q (.int (g i j) s.toks) { s with toks:=s.toks+1 }→wpAny (model X.prog X.w) X.A (f (.int i t) (.int j u)) Q E s) :
  OpR X f (rI C fun i j=>.int (g i j)):=by
 intro pins s σ H x y v u Q I rx ry h
 obtain ⟨i,j,rfl,rfl,hc,q⟩:=h
 obtain ⟨t,rfl⟩:=rx
 obtain ⟨t',rfl⟩:=ry
 exact rule i j t t' s _ _ hc ⟨.int (g i j),H,I.tok _,⟨_,rfl⟩,q⟩
theorem aWu {f:Value→Value→Sem Value} {g:Int→Int→Int}
  (rule:∀(i j:Int) (t u:Tok) (s:Shared) (Q:Value→Shared→Prop) (E:Value→Shared→Prop),Q (.int (g i j) s.toks) { s with toks:=s.toks+1 }→wpAny (model X.prog X.w) X.A (f (.int i t) (.int j u)) Q E s) :
  OpR X f (rI0 fun i j=>.int (g i j)):=by
 intro pins s σ H x y v u Q I rx ry h
 obtain ⟨i,j,rfl,rfl,q⟩:=h
 obtain ⟨t,rfl⟩:=rx
 obtain ⟨t',rfl⟩:=ry
 exact rule i j t t' s _ _ ⟨.int (g i j),H,I.tok _,⟨_,rfl⟩,q⟩
theorem aU3 {f:Value→Value→Sem Value} {g:Int→Int→Bool}
  (rule:∀(i j:Int) (t u:Tok) (s:Shared) (Q:Value→Shared→Prop) (E:Value→Shared→Prop),Q (.bool (g i j)) s→wpAny (model X.prog X.w) X.A (f (.int i t) (.int j u)) Q E s) :
  OpR X f (rI0 fun i j=>.bl (g i j)):=by
 intro pins s σ H x y v u Q I rx ry h
 obtain ⟨i,j,rfl,rfl,q⟩:=h
 obtain ⟨t,rfl⟩:=rx
 obtain ⟨t',rfl⟩:=ry
 exact rule i j t t' s _ _ ⟨.bl (g i j),H,I,rfl,q⟩
def aX6 (i j:Int):Prop:=0<j∧j<1073741824
def aX0 (i j:Int):Prop:=0≤j∧j≤1000000∧i.natAbs<2 ^ 64
def aUz (i j:Int):Prop:=(-(2 ^ 64)<i∧i<2 ^ 64)∨(-(2 ^ 64)<j∧j<2 ^ 64)
theorem aUz.ok {i j:Int} (h:aUz i j):IntMulOk i j:=by
 rcases h with ⟨h1,h2⟩|⟨h1,h2⟩
 ·exact .of_left (intBits_le_64 h1 h2)
 ·exact .of_right (intBits_le_64 h1 h2)
theorem eF:OpR X (binaryOp .Add) (rI0 fun i j=>.int (i+j)):=aWu fun _ _ _ _ _ _ _ q=>add_int q
theorem aI4:OpR X (binaryOp .Sub) (rI0 fun i j=>.int (i - j)):=aWu fun _ _ _ _ _ _ _ q=>sub_int q
theorem aD9:OpR X (binaryOp .Mult) (rI aUz fun i j=>.int (i * j)):=opI fun _ _ _ _ _ _ _ hc q=>mul_int q hc.ok
theorem aK2:OpR X (binaryOp .FloorDiv) (rI aX6 fun i j=>.int (i / j)):=opI fun i j _ _ _ _ _ hc q=>by
 have h1:(0:Int)<j:=hc.1
 have h2:j<1073741824:=hc.2
 exact floordiv_int (by omega) (by rw [Int.fdiv_eq_ediv_of_nonneg i (by omega)];exact q) (.inl (PyProof.noPylong_small (by omega)))
theorem pC:OpR X (binaryOp .Mod) (rI (fun _ j=>0<j) fun i j=>.int (i % j)):=opI fun i j _ _ _ _ _ hc q=>by
 have h1:(0:Int)<j:=hc
 exact mod_int' (by omega) (by rw [Int.fmod_eq_emod_of_nonneg i (by omega)];exact q)
theorem aJk:OpR X (binaryOp .Pow) (rI aX0 fun i j=>.int (i ^ j.toNat)):=opI fun _ _ _ _ _ _ _ hc q=>pow_int_small hc.1 hc.2.1 hc.2.2 q
end
def scal:V→V→Bool
 |.non,.non=>true|.non,.int _=>true|.int _,.non=>true|.non,.bl _=>true|.bl _,.non=>true|.non,.str _=>true|.str _,.non=>true
 |.int _,.int _=>true|.bl _,.bl _=>true|.str _,.str _=>true|.byt _,.byt _=>true
 |.int _,.str _=>true|.str _,.int _=>true|.bl _,.str _=>true|.str _,.bl _=>true
 |_,_=>false
def rEq:R2:=fun x y H Q=>scal x y=true∧Q (.bl (decide (x=y))) H
def rNe:R2:=fun x y H Q=>scal x y=true∧Q (.bl (!decide (x=y))) H
theorem aK4 {i j:Int}:decide (V.int i=V.int j)=(i == j):=by
 rw [Bool.eq_iff_iff]
 simp
theorem aPm {i j:Bool}:decide (V.bl i=V.bl j)=(i == j):=by
 rw [Bool.eq_iff_iff]
 simp
theorem aKp {i j:Str}:decide (V.str i=V.str j)=(i == j):=by
 rw [Bool.eq_iff_iff]
 simp
theorem aJ6 {i j:Array UInt8}:decide (V.byt i=V.byt j)=(i.toList == j.toList):=by
 rw [Bool.eq_iff_iff]
 cases i
 cases j
 simp
section
variable {X:Cx} {a b c:Expr} {ta tb tc:TE} {pos:Pos}
theorem bU {pins:List (Addr × Obj)} {σ:St} {H:Hp} {s:Shared} {Q:VK} {k k':Bool} (I:Inv X pins σ H s) (q:Q (.bl k) H) (e:k=k'):EP X pins σ Q (.bool k') s:=by
 subst e
 exact ⟨.bl k,H,I,rfl,q⟩
theorem cB:OpR X (compareOp .Eq) rEq:=by
 intro pins s σ H x y v u Q I rx ry h
 obtain ⟨hs,q⟩:=h
 cases x with
 |non=>
  cases rx
  cases y with
  |non=>cases ry;exact PySem.EqNone.eq_none_none (bU I q (by simp))
  |bl j=>cases ry;exact PySem.EqNone.eq_none_bool (bU I q (by simp))
  |int j=>obtain ⟨t',rfl⟩:=ry;exact PySem.EqNone.eq_none_int (bU I q (by simp))
  |str j=>obtain ⟨t',rfl⟩:=ry;exact PySem.EqNone.eq_none_str (bU I q (by simp))
  |_=>exact absurd (show false=true from hs) Bool.false_ne_true
 |bl i=>
  cases rx
  cases y with
  |non=>cases ry;exact PySem.EqNone.eq_bool_none (bU I q (by simp))
  |bl j=>cases ry;exact eq_bool (bU I q aPm)
  |str j=>obtain ⟨t',rfl⟩:=ry;exact PySem.EqMixed.eq_bool_str (bU I q (by simp))
  |_=>exact absurd (show false=true from hs) Bool.false_ne_true
 |int i=>
  obtain ⟨t,rfl⟩:=rx
  cases y with
  |non=>cases ry;exact PySem.EqNone.eq_int_none (bU I q (by simp))
  |int j=>obtain ⟨t',rfl⟩:=ry;exact eq_int (bU I q aK4)
  |str j=>obtain ⟨t',rfl⟩:=ry;exact PySem.EqMixed.eq_int_str (bU I q (by simp))
  |_=>exact absurd (show false=true from hs) Bool.false_ne_true
 |str i=>
  obtain ⟨t,rfl⟩:=rx
  cases y with
  |non=>cases ry;exact PySem.EqNone.eq_str_none (bU I q (by simp))
  |bl j=>cases ry;exact PySem.EqMixed.eq_str_bool (bU I q (by simp))
  |int j=>obtain ⟨t',rfl⟩:=ry;exact PySem.EqMixed.eq_str_int (bU I q (by simp))
  |str j=>obtain ⟨t',rfl⟩:=ry;exact eq_str (bU I q aKp)
  |_=>exact absurd (show false=true from hs) Bool.false_ne_true
 |byt i=>
  obtain ⟨t,rfl⟩:=rx
  cases y with
  |byt j=>obtain ⟨t',rfl⟩:=ry;exact PySem.W.eq_bytes (bU I q aJ6)
  |_=>exact absurd (show false=true from hs) Bool.false_ne_true
 |_=>cases y <;> exact absurd (show false=true from hs) Bool.false_ne_true
theorem qG:OpR X (compareOp .NotEq) rNe:=by
 intro pins s σ H x y v u Q I rx ry h
 obtain ⟨hs,q⟩:=h
 cases x with
 |non=>
  cases rx
  cases y with
  |non=>cases ry;exact PySem.EqNone.ne_none_none (bU I q (by simp))
  |bl j=>cases ry;exact PySem.EqNone.ne_none_bool (bU I q (by simp))
  |int j=>obtain ⟨t',rfl⟩:=ry;exact PySem.EqNone.ne_none_int (bU I q (by simp))
  |str j=>obtain ⟨t',rfl⟩:=ry;exact PySem.EqNone.ne_none_str (bU I q (by simp))
  |_=>exact absurd (show false=true from hs) Bool.false_ne_true
 |bl i=>
  cases rx
  cases y with
  |non=>cases ry;exact PySem.EqNone.ne_bool_none (bU I q (by simp))
  |bl j=>cases ry;exact ne_bool (bU I q (congrArg not aPm))
  |str j=>obtain ⟨t',rfl⟩:=ry;exact PySem.EqMixed.ne_bool_str (bU I q (by simp))
  |_=>exact absurd (show false=true from hs) Bool.false_ne_true
 |int i=>
  obtain ⟨t,rfl⟩:=rx
  cases y with
  |non=>cases ry;exact PySem.EqNone.ne_int_none (bU I q (by simp))
  |int j=>obtain ⟨t',rfl⟩:=ry;exact ne_int (bU I q (congrArg not aK4))
  |str j=>obtain ⟨t',rfl⟩:=ry;exact PySem.EqMixed.ne_int_str (bU I q (by simp))
  |_=>exact absurd (show false=true from hs) Bool.false_ne_true
 |str i=>
  obtain ⟨t,rfl⟩:=rx
  cases y with
  |non=>cases ry;exact PySem.EqNone.ne_str_none (bU I q (by simp))
  |bl j=>cases ry;exact PySem.EqMixed.ne_str_bool (bU I q (by simp))
  |int j=>obtain ⟨t',rfl⟩:=ry;exact PySem.EqMixed.ne_str_int (bU I q (by simp))
  |str j=>obtain ⟨t',rfl⟩:=ry;exact ne_str (bU I q (congrArg not aKp))
  |_=>exact absurd (show false=true from hs) Bool.false_ne_true
 |byt i=>
  obtain ⟨t,rfl⟩:=rx
  cases y with
  |byt j=>obtain ⟨t',rfl⟩:=ry;exact PySem.W.ne_bytes (bU I q (congrArg not aJ6))
  |_=>exact absurd (show false=true from hs) Bool.false_ne_true
 |_=>cases y <;> exact absurd (show false=true from hs) Bool.false_ne_true
theorem aTk:OpR X (compareOp .Lt) (rI0 fun i j=>.bl (decide (i<j))):=aU3 fun _ _ _ _ _ _ _ q=>lt_int q
theorem aAt:OpR X (compareOp .LtE) (rI0 fun i j=>.bl (decide (i≤j))):=aU3 fun _ _ _ _ _ _ _ q=>le_int q
theorem aKo:OpR X (compareOp .Gt) (rI0 fun i j=>.bl (decide (j<i))):=aU3 fun _ _ _ _ _ _ _ q=>gt_int q
theorem aMp:OpR X (compareOp .In) (fun x y H Q=>∃i j,x=.str i∧y=.str j∧Q (.bl (!(Builtin.Str.occurrences j i 0 j.length 1).isEmpty)) H):=by
 intro pins s σ H x y v u Q I rx ry h
 obtain ⟨i,j,rfl,rfl,q⟩:=h
 obtain ⟨t,rfl⟩:=rx
 obtain ⟨t',rfl⟩:=ry
 exact in_str (bU I q rfl)
theorem aUr:OpR X (compareOp .Is) (fun x y H Q=>y=.non∧Q (.bl (decide (x=.non))) H):=by
 intro pins s σ H x y v u Q I rx ry h
 obtain ⟨rfl,q⟩:=h
 cases ry
 refine is_none_gen (bU I q ?_)
 cases x <;> first
  |(cases rx;rfl)
  |(obtain ⟨t,rfl⟩:=rx;rfl)
theorem OpR.or {f:Value→Value→Sem Value} {r r':R2} (h:OpR X f r) (h':OpR X f r'):OpR X f (fun x y H Q=>r x y H Q∨r' x y H Q):=by
 intro pins s σ H x y v u Q I rx ry q
 rcases q with q|q
 ·exact h pins s σ H x y v u Q I rx ry q
 ·exact h' pins s σ H x y v u Q I rx ry q
theorem aY (b:Expr) {op:CmpOp} (h:op≠.In:=by decide) (h2:op≠.NotIn:=by decide):behindInMarks op b=false:=by
 have e1:(op == CmpOp.In)=false:=by cases op <;> first|rfl|exact absurd rfl h
 have e2:(op == CmpOp.NotIn)=false:=by cases op <;> first|rfl|exact absurd rfl h2
 cases b <;> simp [behindInMarks,e1,e2]
theorem aQ0 {op:CmpOp} {r:R2} (ho:OpR X (compareOp op) r) (ha:PE X a ta) (hb:PE X b tb) (hm:behindInMarks op b=false):PE X (.Compare a [op] [b] pos) (tOp r ta tb):=by
 intro pins s σ H Q I h
 exact wpAny_Compare1 (aRp ha hb I h fun v u s2 x y H2 I2 rx ry q=>ho pins s2 σ H2 x y v u Q I2 rx ry q) hm
def aLf (t:TE):TT:=fun σ H Q=>t σ H fun x H'=>∃k,x=.bl k∧Q k H'
theorem aQz {op:CmpOp} {r:R2} (ho:OpR X (compareOp op) r) (ha:PE X a ta) (hb:PE X b tb) (hm:behindInMarks op b=false):PT X (.Compare a [op] [b] pos) (aLf (tOp r ta tb)):=by
 intro pins s σ H Q I h
 refine wpAny_isTrue_Compare1 (thn (ha pins s σ H _ I h) fun v s1 ⟨x,H1,I1,r1,q1⟩=>thn (hb pins s1 σ H1 _ I1 q1) fun u s2 ⟨y,H2,I2,r2,q2⟩=>
  thn (ho pins s2 σ H2 x y v u _ I2 r1 r2 q2) fun c s3 ⟨z,H3,I3,r3,k,e,q3⟩=>?_) hm
 subst e
 cases r3
 exact wpAny_truthy_bool ⟨H3,I3,q3⟩
def aCp (r r':R2) (ta tb tc:TE):TE:=fun σ H Q=>ta σ H fun x H1=>tb σ H1 fun y H2=>r x y H2 fun z H3=>∃k,z=.bl k ∧
 (if k=true then tc σ H3 fun w' H4=>r' y w' H4 Q else Q (.bl false) H3)
theorem aOy {op op':CmpOp} {r r':R2} (ho:OpR X (compareOp op) r) (ho':OpR X (compareOp op') r') (ha:PE X a ta) (hb:PE X b tb) (hc:PE X c tc)
  (hm:lastMarks [op,op'] [b,c]=false:=by with_unfolding_all rfl):PE X (.Compare a [op,op'] [b,c] pos) (aCp r r' ta tb tc):=by
 intro pins s σ H Q I h
 refine Compare_chain (thn (ha pins s σ H _ I h) fun v s1 ⟨x,H1,I1,r1,q1⟩=>chain_link (thn (hb pins s1 σ H1 _ I1 q1) fun u s2 ⟨y,H2,I2,r2,q2⟩=>
  thn (ho pins s2 σ H2 x y v u _ I2 r1 r2 q2) fun d s3 ⟨z,H3,I3,r3,k,e,q3⟩=>?_)) hm
 subst e
 cases r3
 refine wpAny_truthy_bool ?_
 cases k with
 |false=>exact ite_ff ⟨.bl false,H3,I3,rfl,q3⟩
 |true=>exact ite_tt (chain_last (thn (hc pins s3 σ H3 _ I3 q3) fun w' s4 ⟨z',H4,I4,r4,q4⟩=>ho' pins s4 σ H4 y z' u w' Q I4 r2 r4 q4))
theorem aNp {op op':CmpOp} {r r':R2} (ho:OpR X (compareOp op) r) (ho':OpR X (compareOp op') r') (ha:PE X a ta) (hb:PE X b tb) (hc:PE X c tc)
  (hm:lastMarks [op,op'] [b,c]=false:=by with_unfolding_all rfl):PT X (.Compare a [op,op'] [b,c] pos) (aLf (aCp r r' ta tb tc)):=by
 intro pins s σ H Q I h
 refine isTrue_chain (thn (ha pins s σ H _ I h) fun v s1 ⟨x,H1,I1,r1,q1⟩=>test_link (thn (hb pins s1 σ H1 _ I1 q1) fun u s2 ⟨y,H2,I2,r2,q2⟩=>
  thn (ho pins s2 σ H2 x y v u _ I2 r1 r2 q2) fun d s3 ⟨z,H3,I3,r3,k,e,q3⟩=>?_)) hm
 subst e
 cases r3
 refine wpAny_truthy_bool ?_
 cases k with
 |false=>
  obtain ⟨k',e',q'⟩:=q3
  cases e'
  exact ite_ff ⟨H3,I3,q'⟩
 |true=>
  refine ite_tt (test_last (thn (hc pins s3 σ H3 _ I3 q3) fun w' s4 ⟨z',H4,I4,r4,q4⟩=>thn (ho' pins s4 σ H4 y z' u w' _ I4 r2 r4 q4) fun d' s5 ⟨z2,H5,I5,r5,k2,e2,q5⟩=>?_))
  subst e2
  cases r5
  exact wpAny_truthy_bool ⟨H5,I5,q5⟩
def aT5 (K:PySem.W.Frag) (x:V) (H:Hp) (k:Bool):Prop:=
 match x with
 |.non=>k=false
 |.bl b=>k=b
 |.int i=>k=(i != 0)
 |.str y=>y.length≤sizeLine∧k=((y.length:Int) != 0)
 |.byt y=>y.size≤sizeLine∧k=((y.size:Int) != 0)
 |.ref p=>(∃xs,SqL K H p xs∧k=!xs.isEmpty)∨(∃xs,SqT K H p xs∧k=!xs.isEmpty)∨∃kvs,H p=some (.dK kvs)∧k=!kvs.isEmpty
 |_=>False
theorem aIl {κ:Type} {kvs:List (κ × V)} {vs:List (κ × Value)} (r:KV kvs vs):(!vs.isEmpty)=!kvs.isEmpty:=by
 cases r <;> rfl
theorem wY {xs:List V} {its:List Value} (r:Vals xs its):(!its.toArray.isEmpty)=!xs.isEmpty:=by
 cases r <;> simp
theorem qN:(sizeLine:Nat)<2 ^ 63:=by rw [sizeLine_eq];decide
theorem aU7:aXt X (fun x H Q=>∃k,aT5 X.K x H k∧Q k H):=by
 intro pins s σ H x v Q I rx h
 obtain ⟨k,e,q⟩:=h
 have hl:=qN
 have hs:sizeLine=16777216:=sizeLine_eq
 cases x with
 |non=>
  cases rx
  have e':k=false:=e
  subst e'
  exact truthy_none ⟨H,I,q⟩
 |bl b=>
  cases rx
  have e':k=b:=e
  subst e'
  exact wpAny_truthy_bool ⟨H,I,q⟩
 |int i=>
  obtain ⟨t,rfl⟩:=rx
  have e':k=(i != 0):=e
  subst e'
  exact PySem.P.truthy_int ⟨H,I,q⟩
 |str y=>
  obtain ⟨t,rfl⟩:=rx
  obtain ⟨hy,e'⟩:y.length≤sizeLine∧k=((y.length:Int) != 0):=e
  subst e'
  exact PySem.P.truthy_str (by omega) ⟨H,I.tok _,q⟩
 |byt y=>
  obtain ⟨t,rfl⟩:=rx
  obtain ⟨hy,e'⟩:y.size≤sizeLine∧k=((y.size:Int) != 0):=e
  subst e'
  exact PySem.W.truthy_bytes (by omega) ⟨H,I.tok _,q⟩
 |ref p=>
  cases rx
  have e':(∃xs,SqL X.K H p xs∧k=!xs.isEmpty)∨(∃xs,SqT X.K H p xs∧k=!xs.isEmpty)∨∃kvs,H p=some (.dK kvs)∧k=!kvs.isEmpty:=e
  rcases e' with ⟨xs,hx,e'⟩|⟨xs,hx,e'⟩|⟨kvs,hx,e'⟩
  ·subst e'
   obtain ⟨its,r,pl,hz⟩:=I.list hx
   have hlen:=r.length
   exact wpAny_truthy_list pl.isList (by simp only [List.size_toArray];omega) ⟨H,I.tok _,by rw [wY r];exact q⟩
  ·subst e'
   obtain ⟨its,r,pl,hz⟩:=I.tuple hx
   have hlen:=r.length
   exact truthy_tuple pl (by simp only [List.size_toArray];omega) ⟨H,I.tok _,by rw [wY r];exact q⟩
  ·subst e'
   obtain ⟨hz,hS,vs,r,m⟩:kvs.length≤sizeLine∧(p == sysModules)=false∧∃vs,KV kvs vs∧s.heap.DictOf (cJ X.prog X.w) p vs:=I.hok p _ hx
   have hlen:kvs.length=vs.length:=Paired.length r
   exact wpAny_truthy_dict hS m (by omega) ⟨H,I.tok _,by rw [aIl r];exact q⟩
 |_=>exact (show False from e).elim
theorem aQe (ha:PE X a ta) (he:∀whole,isTrue a X.env whole=(do let v ←whole;standAt a.pos;holding [v] (truthy v))) :
  PT X a (fun σ H Q=>ta σ H fun x H'=>∃k,aT5 X.K x H' k∧Q k H'):=by
 intro pins s σ H Q I h
 exact isTrue_plain (thn (ha pins s σ H _ I h) fun v s1 ⟨x,H1,I1,r1,q1⟩=>aU7 pins s1 σ H1 x v Q I1 r1 q1) (he _)
theorem nQ:OpR X (binaryOp .Add) (fun x y H Q=>∃i j,x=.str i∧y=.str j∧i.length+j.length≤sizeLine∧Q (.str (i++j)) H):=by
 intro pins s σ H x y v u Q I rx ry h
 obtain ⟨i,j,rfl,rfl,hz,q⟩:=h
 obtain ⟨t,rfl⟩:=rx
 obtain ⟨t',rfl⟩:=ry
 exact add_str (fun t' tk=>⟨.str (i++j),H,I.tok _,⟨_,rfl⟩,q⟩) hz
def aE9 (b:Expr):Prop:=∀o i,subscripted b false o i=operate [o,i] (getItem o i)
theorem aFx (ha:PE X a ta) (hb:PE X b tb) (hs:aE9 b) :
  PE X (.Subscript a b pos) (tOp (fun x y H Q=>∃z i c,x=.str z∧y=.int i∧0≤i∧i<2 ^ 63∧i<z.length∧z.cps[i.toNat]?=some c∧Q (.str ⟨#[c]⟩) H) ta tb):=by
 intro pins s σ H Q I h
 refine Subscript_ (aRp ha hb I h fun v u s2 x y H2 I2 rx ry q=>?_)
 obtain ⟨z,i,c,rfl,rfl,h0,h63,h1,hc,q⟩:=q
 obtain ⟨t,rfl⟩:=rx
 obtain ⟨t',rfl⟩:=ry
 have e:seqIndex? i z.length=some i.toNat:=PySem.StrLaws.seqIndex_nonneg h0 h1
 exact tail_any (typeIs_str s2 z t) slot_str_getitem.lookup (getItem_str (c:=c) (by
  have e1:decide (i < -(2 ^ 63:Int))=false:=decide_eq_false (by omega)
  have e2:decide (i ≥ 2 ^ 63)=false:=decide_eq_false (by omega)
  rw [e1,e2] <;> rfl) (by rw [e];exact hc) ⟨.str ⟨#[c]⟩,H2,I2.tok _,⟨_,rfl⟩,q⟩) (hs _ _)
theorem vals1 {x:V} {us:List Value} (r:Vals [x] us):∃u,us=[u]∧RelV x u:=by
 cases r with
 |cons r1 r2=>cases r2;exact ⟨_,rfl,r1⟩
theorem vals2 {x y:V} {us:List Value} (r:Vals [x,y] us):∃u w',us=[u,w']∧RelV x u∧RelV y w':=by
 cases r with
 |cons r1 r2=>
  cases r2 with
  |cons r3 r4=>cases r4;exact ⟨_,_,rfl,r1,r3⟩
theorem aOx:cD X (.builtin "abs") (fun xs H Q=>∃i,xs=[.int i]∧Q (.int (if i<0 then -i else i)) H):=by
 intro pins s σ H xs us Q I r h
 obtain ⟨i,rfl,q⟩:=h
 obtain ⟨u,rfl,t,rfl⟩:=vals1 r
 exact call_abs_int fun u tk=>⟨.int (if i<0 then -i else i),H,I.tok _,⟨_,rfl⟩,q⟩
theorem aL3:cD X (.type "int") (fun xs H Q=>(∃i,xs=[.int i]∧Q (.int i) H)∨∃k,xs=[.bl k]∧Q (.int (if k then 1 else 0)) H):=by
 intro pins s σ H xs us Q I r h
 rcases h with ⟨i,rfl,q⟩|⟨k,rfl,q⟩
 ·obtain ⟨u,rfl,t,rfl⟩:=vals1 r
  exact call_int_int ⟨.int i,H,I,⟨_,rfl⟩,q⟩
 ·obtain ⟨u,rfl,r1⟩:=vals1 r
  cases r1
  exact call_int_bool ⟨.int (if k then 1 else 0),H,I.tok _,⟨_,rfl⟩,q⟩
end
section
variable {prog:Program} {w:World} {A:Around} {E:Value→Shared→Prop} {s:Shared} {K:PySem.W.Frag} {x dx C f:Addr} {mA:Str→Option Value} {name:Str} {v:Value}
end
theorem zT.some_of {v:V} {o:Option Value} (r:zT (some v) o):∃u,o=some u∧RelV v u:=by
 cases o with
 |none=>exact (show False from r).elim
 |some u=>exact ⟨u,rfl,r⟩
section
variable {P:Program} {w:World} {H H':Hp} {h h':Heap} {a C dx:Addr} {fs fs':List (Str × V)}
end
section
variable {X:Cx} {pins:List (Addr × Obj)} {σ:St} {H:Hp} {s:Shared} {a C dx:Addr} {fs:List (Str × V)} {f:Str} {v:V} {A:Around} {E:Value→Shared→Prop}
end
section
variable {X:Cx} {o e value:Expr} {f:Str} {pos pos' tpos:Pos} {ta tv:TE}
end
section
variable {X:Cx} {pins:List (Addr × Obj)} {σ:St} {H:Hp} {s:Shared} {A:Around} {E:Value→Shared→Prop} {Q:Value→Shared→Prop} {c:Value} {b:Bool}
end
structure Room (k:Nat) (A:Around):Prop where
 hd:A.handled=none
 dp:A.depth+3 * k+5<recursionLimit
 un:A.units+16 * k+200<cLine
theorem Room.mono {j k:Nat} {A:Around} (r:Room k A) (h:j≤k):Room j A:=⟨r.hd,by have:=r.dp;omega,by have:=r.un;omega⟩
theorem Room.deeper {k:Nat} {A:Around} (r:Room (k+1) A) (env:Env):Room k (A.deeper env):=
 ⟨r.hd,by have:=r.dp;show A.depth+1+3 * k+5<_;omega,by have:=r.un;show A.units+3+16 * k+200<_;omega⟩
theorem Room.depth {k:Nat} {A:Around} (r:Room k A):A.depth<recursionLimit:=by have:=r.dp;omega
theorem Room.units {k:Nat} {A:Around} (r:Room k A):A.units+64<cLine:=by have:=r.un;omega
def aIt:TA:=fun _ H Q=>Q [] H
def dH (ta:TE) (tr:TA):TA:=fun σ H Q=>ta σ H fun x H1=>tr σ H1 fun xs H2=>Q (x::xs) H2
section
variable {X:Cx} {e:Expr} {es:List Expr} {te:TE} {t:TA} {pos:Pos}
theorem aT6:PA X [] aIt:=fun _ _ _ _ H Q I h=>Calls.spliced_nil ⟨[],H,I,.nil,h⟩
theorem aR1 (ha:PE X e te) (hr:PA X es t) (hs:starEach (e::es) X.env=(false,eval e X.env)::starEach es X.env:=by rfl):PA X (e::es) (dH te t):=by
 intro pos pins s σ H Q I h
 rw [hs]
 show wpAny _ _ (spliced ((false,eval e X.env)::backTo pos (starEach es X.env))) _ _ s
 refine Calls.spliced_cons (thn (ha pins s σ H _ I h) fun u s1 ⟨x,H1,I1,r1,q1⟩=>?_)
 exact thn (hr pos pins s1 σ H1 _ I1 q1) fun us s2 ⟨xs,H2,I2,r2,q2⟩=>⟨x::xs,H2,I2,.cons r1 r2,q2⟩
def aXl (t:TA):TE:=fun σ H Q=>t σ H fun xs H1=>xs.length≤sizeLine∧∀p,H1 p=none→Q (.ref p) (upd H1 p (.tup xs))
theorem aUj {x1} (h:PA X es t):PE X (.Tuple es x1 pos) (aXl t):=by
 intro pins s σ H Q I hq
 refine wpAny_Tuple_spliced (thn (h pos pins s σ H _ I hq) fun us s1 ⟨xs,H1,I1,r,z,q⟩=>⟨by rw [←r.length];exact z,?_⟩)
 have hf:H1 s1.heap.objs.size=none:=I1.hok.fresh (Nat.le_refl _)
 refine ⟨.ref s1.heap.objs.size,upd H1 s1.heap.objs.size (.tup xs),I1.laid (t':=s1.toks) (fun b u e=>Heap.get?_push_of_some _ e) (Nat.le_refl _) ?_,rfl,q _ hf⟩
 exact ⟨z,us,r,.of (Heap.get?_push_size _ rfl) rfl ⟨_,Heap.get?_push_size _ rfl,rfl,_,rfl⟩⟩
end
abbrev Sp:=List V→Hp→VK→XK→Prop
abbrev CXT:=List Env→Hp→Shared→XK→Value→Shared→Prop
structure aSj (P:Program) (w:World) (K:PySem.W.Frag) (mg:Str→Option Value) (base:Heap) (A:Around) (outer:List Env) (s:Shared) (H:Hp):Prop where
 frames:A.frames=some outer
 mod:Mod K mg base
 bs:∀b o,base.get? b=some o→s.heap.get? b=some o∧H b=none
 bsz:base.objs.size≤s.heap.objs.size
 funs:s.heap.FunFrames base outer
 frf:∀b∈frs outer,H b=none
 hok:HOk P w H s.heap
 bare:AllBare s.gens
def CE (outer:List Env) (P:Program) (w:World) (H:Hp) (s:Shared) (Q:VK) (u:Value) (s':Shared):Prop:=
 ∃v H',s'.os=s.os∧AllBare s'.gens∧Un (frs outer) [] H H' s.heap s'.heap∧HOk P w H' s'.heap∧RelV v u∧Q v H'
def CR (CX:CXT) (outer:List Env) (P:Program) (w:World) (H:Hp) (s:Shared) (Q:VK) (E:XK) (r:Result) (s':Shared):Prop:=
 match r with
 |.ok (.ret u)=>CE outer P w H s Q u s'
 |.ok _=>False
 |.error e=>CX outer H s E e s'
structure lW (P:Program) (w:World) (K:PySem.W.Frag) (mg:Str→Option Value) (base:Heap) (CX:CXT) (k:Nat) (f:Addr) (fd:FuncData) (ps:List Str) (sp:Sp):Prop where
 len:∀vs H Q E,sp vs H Q E→vs.length=ps.length
 run:∀(A:Around) (outer:List Env) (s:Shared) (H:Hp) (args:Args) (us:List Value) (vs:List V) (Q:VK) (E:XK),Room k A→aSj P w K mg base A outer s H→BindsTo s fd args (ps.zip us)→Vals vs us→sp vs H Q E →
  codeAny (model P w) A (.call (.ref f) args) (CR CX outer P w H s Q E) s
theorem lW.mono {P:Program} {w:World} {K:PySem.W.Frag} {mg:Str→Option Value} {base:Heap} {CX:CXT} {j k:Nat} {f:Addr} {fd:FuncData} {ps:List Str} {sp:Sp} (F:lW P w K mg base CX j f fd ps sp) (h:j≤k) :
  lW P w K mg base CX k f fd ps sp:=⟨F.len,fun A outer s H args us vs Q E hr=>F.run A outer s H args us vs Q E (hr.mono h)⟩
theorem lW.imp {P:Program} {w:World} {K:PySem.W.Frag} {mg:Str→Option Value} {base:Heap} {CX:CXT} {k:Nat} {f:Addr} {fd:FuncData} {ps:List Str} {sp sp':Sp} (F:lW P w K mg base CX k f fd ps sp)
  (h:∀vs H Q E,sp' vs H Q E→sp vs H Q E):lW P w K mg base CX k f fd ps sp':=
 ⟨fun vs H Q E q=>F.len vs H Q E (h _ _ _ _ q),fun A outer s H args us vs Q E hr he hb hv hs=>F.run A outer s H args us vs Q E hr he hb hv (h _ _ _ _ hs)⟩
section
variable {X:Cx} {pins:List (Addr × Obj)} {σ:St} {H:Hp} {s s':Shared}
theorem Inv.env0 (I:Inv X pins σ H s):aSj X.prog X.w X.K X.mg X.base X.A X.stack s H:=
 ⟨I.ok.frames,I.ok.mod,I.bs,Nat.le_trans I.ok.bsz I.sz,I.stack,I.aDb,I.hok,I.bare⟩
theorem Inv.after {Q:VK} {u:Value} (I:Inv X pins σ H s) (h:CE X.stack X.prog X.w H s Q u s'):EP X pins σ Q u s':=by
 obtain ⟨v,H',os,bare,un,hok,r,q⟩:=h
 obtain ⟨hh,g,d,t,os'⟩:=s'
 obtain rfl:os'=s.os:=os
 exact ⟨v,H',I.call (h':=hh) (g':=g) (d':=d) (t':=t) (ch:=[]) un hok bare (fun b z=>absurd z (by simp)),r,q⟩
end
def tL (sp:Sp) (dvs:List V) (E:XK) (t:TA):TE:=fun σ H Q=>t σ H fun vs H1=>sp (vs++dvs) H1 Q E
def Binds (K:PySem.W.Frag) (fd:FuncData) (ps:List Str) (ds:List Value):Prop:=
 ∀(s:Shared) (us:List Value),K.In s.heap→(us++ds).length=ps.length→BindsTo s fd ⟨us,[]⟩ (ps.zip (us++ds))
theorem Binds.all {K:PySem.W.Frag} {fd:FuncData} {ps:List Str} (h:∀us:List Value,us.length=ps.length→bindArgs fd ⟨us,[]⟩=pure (ps.zip us)):Binds K fd ps []:=fun s us _ hl=>by
 rw [List.append_nil] at hl ⊢
 exact .of_eq (h us hl)
def aD5 (CX:CXT) (X:Cx) (E:XK):Prop:=∀(pins:List (Addr × Obj)) (σ:St) (H:Hp) (s:Shared) (e:Value) (s':Shared),Inv X pins σ H s→CX X.stack H s E e s'→X.xe e s'
section
variable {X:Cx} {CX:CXT} {k:Nat} {f C:Addr} {fd:FuncData} {ps:List Str} {sp:Sp} {dvs:List V} {ds:List Value} {E:XK} {x m:Str} {p pos apos:Pos} {e o:Expr} {es:List Expr} {ta:TE} {t:TA}
theorem aIn {pins:List (Addr × Obj)} {σ:St} {H:Hp} {s:Shared} {Q:VK} {us:List Value} {vs:List V} (F:lW X.prog X.w X.K X.mg X.base CX k f fd ps sp) (hr:Room k X.A) (hb:Binds X.K fd ps ds) (hd:Vals dvs ds) (hx:aD5 CX X E)
  (I:Inv X pins σ H s) (r:Vals vs us) (h:sp (vs++dvs) H Q E):wpAny (model X.prog X.w) X.A (call (.ref f) us) (EP X pins σ Q) X.xe s:=by
 have r2:Vals (vs++dvs) (us++ds):=r.append hd
 have hl:(us++ds).length=ps.length:=by rw [←r2.length];exact F.len _ _ _ _ h
 refine wpAny_call (codeAny_mono (F.run X.A X.stack s H ⟨us,[]⟩ (us++ds) (vs++dvs) Q E hr I.env0 (hb s us I.kIn hl) r2 h) fun r s' hq=>?_)
 cases r with
 |error e=>exact hx pins σ H s e s' I hq
 |ok fl=>
  cases fl with
  |ret u=>exact I.after hq
  |next=>exact False.elim hq
  |brk=>exact False.elim hq
  |cont=>exact False.elim hq
theorem aRa (F:lW X.prog X.w X.K X.mg X.base CX k f fd ps sp) (hr:Room k X.A) (hg:Gl X x) (hm:X.mg x=some (.ref f)) (hk:PySem.W.keepIn X.K (.ref f)=true) (hb:Binds X.K fd ps ds) (hd:Vals dvs ds) (hx:aD5 CX X E)
  (ha:PA X (e::es) t) (hdb:(x == ("__debug__":Str))=false:=by decide) (he:starEach (e::es) X.env=(false,eval e X.env)::starEach es X.env:=by rfl) (hpl:(backTo pos (starEach es X.env)).any (·.1)=false:=by rfl) :
  PE X (.Call (.Name x p) (e::es) [] pos) (tL sp dvs E t):=by
 intro pins s σ H Q I h
 refine wpAny_Call_Name_kw (aB9 I hg hm ?_ hdb)
 refine PySem.W.callWith_K (h₀:=X.base) I.ok.mod.kin hk (thn (ha pos pins s σ H _ I h) fun us s1 ⟨vs,H1,I1,r,q⟩=>⟨I1.kIn,?_⟩) he hpl
 exact aIn F hr hb hd hx I1 r q
theorem aP4 (F:lW X.prog X.w X.K X.mg X.base CX k f fd ps sp) (hr:Room k X.A) (hg:Gl X x) (hm:X.mg x=some (.ref f)) (hk:PySem.W.keepIn X.K (.ref f)=true) (hb:Binds X.K fd ps ds) (hd:Vals dvs ds) (hx:aD5 CX X E)
  (hdb:(x == ("__debug__":Str))=false:=by decide):PE X (.Call (.Name x p) [] [] pos) (tL sp dvs E aIt):=by
 intro pins s σ H Q I h
 refine wpAny_Call_Name_kw (aB9 I hg hm ?_ hdb)
 exact PySem.W.callWith_K0 I.kIn hk (aIn (us:=[]) F hr hb hd hx I .nil h)
end
section
variable {X:Cx} {CX:CXT} {k:Nat} {f C:Addr} {fd:FuncData} {ps ks:List Str} {sp:Sp} {E:XK} {x m:Str} {p pos apos kpos:Pos} {e o:Expr} {es:List Expr} {kws:List Keyword} {te ta:TE} {t tk:TA} {nm:Option Str}
variable {g:List Value→List Value→List Value} {gV:List V→List V→List V}
end
structure aK (N P:List Str) (sc:Scope):Prop where
 kind:sc.kind=.function
 co:sc.isCoroutine=false
 gen:sc.isGenerator=false
 nd:N.Nodup
 pre:N.take P.length=P
 par:∀x∈P,sc.names.lookup x=some .local∨sc.names.lookup x=some .cell
 nofree:∀y∈sc.names,y.2≠.free
theorem aBl {kindOf:Str→Option NameKind} {x:Str}:∀{binds:List (Str × Value)} {m:Str→Option Value},(∀v,(x,v)∉binds)→bindL kindOf binds m x=m x
 |[],_,_=>rfl
 |(n,v)::r,m,h=>by
  unfold bindL
  rw [aBl fun w hw=>h w (List.mem_cons_of_mem _ hw)]
  split
  ·have:x≠n:=by rintro rfl;exact h v List.mem_cons_self
   simp [this]
  ·rfl
theorem aAr {kindOf:Str→Option NameKind} {x:Str}:∀{binds:List (Str × Value)} {m:Str→Option Value},(∀v,(x,v)∉binds)→bindC kindOf binds m x=m x
 |[],_,_=>rfl
 |(n,v)::r,m,h=>by
  unfold bindC
  rw [aAr fun w hw=>h w (List.mem_cons_of_mem _ hw)]
  split
  ·rfl
  ·have:x≠n:=by rintro rfl;exact h v List.mem_cons_self
   simp [this]
theorem aAy {kindOf:Str→Option NameKind} {x:Str} {v:Value}:∀{P:List Str} {vs:List Value} {i:Nat} {m:Str→Option Value},P.Nodup→P[i]?=some x→vs[i]?=some v→kindOf x=some .local →
  bindL kindOf (P.zip vs) m x=some v
 |[],_,_,_,_,h,_,_=>by simp at h
 |_::_,[],_,_,_,_,h,_=>by simp at h
 |p::P,w::vs,0,m,nd,h1,h2,hk=>by
  simp at h1 h2;subst h1;subst h2
  show bindL kindOf ((p,w)::P.zip vs) m p=_
  unfold bindL
  rw [aBl fun v hv=>(List.nodup_cons.mp nd).1 (List.of_mem_zip hv).1,if_pos hk]
  simp
 |p::P,w::vs,i+1,m,nd,h1,h2,hk=>by
  show bindL kindOf ((p,w)::P.zip vs) m x=_
  unfold bindL
  exact aAy (i:=i) (List.nodup_cons.mp nd).2 (by simpa using h1) (by simpa using h2) hk
theorem aBc {kindOf:Str→Option NameKind} {x:Str} {v:Value}:∀{P:List Str} {vs:List Value} {i:Nat} {m:Str→Option Value},P.Nodup→P[i]?=some x→vs[i]?=some v→kindOf x≠some .local →
  bindC kindOf (P.zip vs) m x=some v
 |[],_,_,_,_,h,_,_=>by simp at h
 |_::_,[],_,_,_,_,h,_=>by simp at h
 |p::P,w::vs,0,m,nd,h1,h2,hk=>by
  simp at h1 h2;subst h1;subst h2
  show bindC kindOf ((p,w)::P.zip vs) m p=_
  unfold bindC
  rw [aAr fun v hv=>(List.nodup_cons.mp nd).1 (List.of_mem_zip hv).1,if_neg hk]
  simp
 |p::P,w::vs,i+1,m,nd,h1,h2,hk=>by
  show bindC kindOf ((p,w)::P.zip vs) m x=_
  unfold bindC
  exact aBc (i:=i) (List.nodup_cons.mp nd).2 (by simpa using h1) (by simpa using h2) hk
def start (N:List Str) (vs:List V):St:=vs.map some++List.replicate (N.length - vs.length) none
def aB5 (CX:CXT) (P:Program) (w:World) (K:PySem.W.Frag) (mg:Str→Option Value) (base:Heap) (N:List Str) (qual:Str) (scope:Scope) (f:Addr) (cd:Value) (A:Around) (outer:List Env) (s:Shared) (H:Hp) (E:XK):Cx where
 prog:=P
 w:=w
 K:=K
 mg:=mg
 base:=base
 A:=A.deeper (envOfC qual scope s.heap.objs.size f cd)
 N:=N
 s₀:=s
 H₀:=H
 env:=envOfC qual scope s.heap.objs.size f cd
 outer:=outer
 stack:=envOfC qual scope s.heap.objs.size f cd::outer
 ex:=[]
 calm:=true
 fn:=fun _=>true
 pn:=[]
 xe:=fun e s'=>wpAny (model P w) (A.deeper (envOfC qual scope s.heap.objs.size f cd)) (leaving (envOfC qual scope s.heap.objs.size f cd) e) (fun _ s''=>CX outer H s E e s'') (fun e' s''=>CX outer H s E e' s'') s'
theorem aEr {sc:Scope} {n:Nat} {x:Str} (h:sc.names.lookup x=some .cell):∃c,(cellsFrom n sc.names []).lookup x=some c:=by
 have q:=PySem.W.cellsFrom_some sc.names n [] (.inl h)
 exact Option.isSome_iff_exists.mp q
theorem aNj {CX:CXT} {P:Program} {w:World} {K:PySem.W.Frag} {mg:Str→Option Value} {base:Heap} {N ps:List Str} {qual:Str} {scope:Scope} {f:Addr} {cd:Value} {A:Around} {outer:List Env} {s s1:Shared} {H:Hp} {E:XK} {us:List Value} {vs:List V}
  (S:aK N ps scope) (hd:A.handled=none) (e0:aSj P w K mg base A outer s H) (hl:vs.length=ps.length) (r:Vals vs us)
  (x:InCallC s s.heap.objs.size (bindL (envOfC qual scope s.heap.objs.size f cd).kindOf (ps.zip us) fun _=>none) (cellsFrom (s.heap.objs.size+1) scope.names []) (bindC (envOfC qual scope s.heap.objs.size f cd).kindOf (ps.zip us) fun _=>none) s1) :
  Inv (aB5 CX P w K mg base N qual scope f cd A outer s H E) [] (start N vs) H s1:=by
 have hpl:ps.length≤N.length:=by have:=congrArg List.length S.pre;rw [List.length_take] at this;omega
 obtain ⟨h1,tk,rfl,hk⟩:=x.done
 have noA:∀b:Addr,b∉(aB5 CX P w K mg base N qual scope f cd A outer s H E).ex:=fun b z=>absurd (show b∈([]:List Addr) from z) (by simp)
 refine ⟨⟨e0.mod,S.kind,rfl,rfl,Nat.le_refl _,fun y z c h1 h2=>?_,fun y hy=>?_,fun y c _ h=>?_,fun _=>hd,Around.frames_deeper e0.frames,.inr ⟨rfl,rfl⟩,fun b z=>absurd z (noA b),e0.bs,e0.bsz,fun b _ _=>noA b,fun b z=>absurd z (noA b),e0.funs,e0.frf⟩,
  rfl,e0.bare,Un.kept hk,⟨_,x.toInCall.ns,fun i y v h1 h2 h3=>?_⟩,fun y c h=>⟨_,x.cell y c h⟩,e0.hok.fresh (Nat.le_refl _),fun y c h=>?_,fun p hp=>absurd (show p∈([]:List (Addr × Obj)) from hp) (by simp),e0.hok.kept hk,?_⟩
 ·exact name_of_addr x.apart (PySem.mem_of_lookup h1) (PySem.mem_of_lookup h2)
 ·have hy:scope.names.lookup y=some .cell∨scope.names.lookup y=some .free:=hy
  rcases hy with hy|hy
  ·exact aEr hy
  ·exact absurd rfl (S.nofree _ (PySem.mem_of_lookup hy))
 ·exact Nat.le_of_lt (x.above y c (PySem.mem_of_lookup h))
 ·have hi:i<vs.length:=by
   unfold start at h2
   by_cases hi:i<vs.length
   ·exact hi
   ·rw [List.getElem?_append_right (by simpa using hi)] at h2
    rw [List.getElem?_replicate] at h2
    split at h2 <;> cases h2
  have ha:vs[i]?=some v:=by
   unfold start at h2
   rw [List.getElem?_append_left (by simpa using hi),List.getElem?_map] at h2
   cases e:vs[i]? with
   |none=>rw [e] at h2;cases h2
   |some a=>rw [e] at h2;cases h2;rfl
  obtain ⟨u,hu,rv⟩:=r.get ha
  have hp:ps[i]?=some y:=by
   rw [←S.pre,List.getElem?_take_of_lt (by omega)];exact h1
  have ndP:ps.Nodup:=by rw [←S.pre];exact S.nd.sublist (List.take_sublist _ _)
  refine ⟨u,rv,?_⟩
  rcases S.par y (List.mem_of_getElem? hp) with k|k
  ·exact .inl ⟨k,aAy ndP hp hu k⟩
  ·obtain ⟨c,e⟩:=aEr (n:=s.heap.objs.size+1) k
   refine .inr ⟨.inl k,c,e,?_⟩
   have q:=x.cell y c e
   rw [aBc ndP hp hu (by show scope.names.lookup y≠_;rw [k];decide)] at q
   exact q
 ·exact e0.hok.fresh (Nat.le_of_lt (x.above y c (PySem.mem_of_lookup h)))
 ·unfold start
  show _=N.length
  rw [List.length_append,List.length_map,List.length_replicate]
  omega
theorem aWl {CX:CXT} {P:Program} {w:World} {K:PySem.W.Frag} {mg:Str→Option Value} {base:Heap} {k:Nat} {f:Addr} {name qual:Str} {params:Arguments} {body:List Stmt} {scope:Scope} {dV kV doc pm cdv ct oc:Value} {an od:Option Addr}
  {osl:Array (Option Value)} {N ps:List Str} {sp:Sp} (lk:K.lookup f=some ⟨oc,od,.func (PySem.W.fnOf name qual params body scope dV kV doc pm an cdv ct),osl⟩) (hcd:PySem.W.codeIn K cdv qual=true) (S:aK N ps scope)
  (len:∀vs H Q E,sp vs H Q E→vs.length=ps.length)
  (hbody:∀(A:Around) (outer:List Env) (s:Shared) (H:Hp) (vs:List V) (Q:VK) (E:XK),Room k (A.deeper (envOfC qual scope s.heap.objs.size f cdv))→sp vs H Q E →
   ∃t,PSs (aB5 CX P w K mg base N qual scope f cdv A outer s H E) body t∧t { nx:=fun _ H'=>Q .non H',rt:=Q } (start N vs) H) :
  lW P w K mg base CX (k+1) f (PySem.W.fnOf name qual params body scope dV kV doc pm an cdv ct) ps sp:=by
 refine ⟨len,fun A outer s H args us vs Q E hr e0 hb r hsp=>?_⟩
 have hl:=len _ _ _ _ hsp
 have KX:K.In s.heap:=e0.mod.kin.keeps fun b o e=>(e0.bs b o e).1
 have lim:s.heap.NoLimit:=e0.mod.nolimit.keeps fun b o e=>(e0.bs b o e).1
 have hkind:∀y∈ps.zip us,scope.names.lookup y.1=some .local∨(scope.names.lookup y.1=some .cell∧((cellsFrom (s.heap.objs.size+1) scope.names []).lookup y.1).isSome=true):=fun ⟨n,v⟩ hy=>by
  rcases S.par n (List.of_mem_zip hy).1 with q|q
  ·exact .inl q
  ·exact .inr ⟨q,PySem.W.cellsFrom_some _ _ _ (.inl q)⟩
 refine codeAny_call_function hr.depth (KX _ _ lk) rfl S.co S.gen rfl (PySem.W.codeRec_of KX hcd) (hb _ _ _ _ ?_)
 refine wpAny_newFunctionEnv_cells S.kind hkind fun env he s1 x=>?_
 subst he
 refine ⟨lim.keeps x.toInCall.keep,codeAny_func ?_⟩
 obtain ⟨t,ht,hq⟩:=hbody A outer s H vs Q E (hr.deeper _) hsp
 have I:Inv (aB5 CX P w K mg base N qual scope f cdv A outer s H E) [] (start N vs) H s1:=aNj S hr.hd e0 hl r x
 refine wpAny_mono (ht [] s1 (start N vs) H _ I hq) (fun fl s' hs=>?_) fun e s' hs=>hs
 have fin:∀{σ':St} {H':Hp} {v:V} {u:Value},Inv (aB5 CX P w K mg base N qual scope f cdv A outer s H E) [] σ' H' s'→RelV v u→Q v H'→CE outer P w H s Q u s':=
  fun {σ' H' v u} J rv q=>⟨v,H',J.os,J.bare,J.base,J.hok,rv,q⟩
 cases fl with
 |ret u=>
  obtain ⟨v,σ',H',J,rv,q⟩:=hs
  exact fin J rv q
 |next=>
  obtain ⟨σ',H',J,q⟩:=hs
  exact fin (v:=V.non) (u:=Value.none) J rfl q
 |brk=>
  obtain ⟨_,_,_,q⟩:=hs
  exact False.elim q
 |cont=>
  obtain ⟨_,_,_,q⟩:=hs
  exact False.elim q
section
variable {X:Cx} {x:Str} {p pos:Pos} {e:Expr} {es:List Expr} {t:TA} {id T:String} {r:List V→Hp→VK→Prop}
def tCB (r:List V→Hp→VK→Prop) (t:TA):TE:=fun σ H Q=>t σ H fun vs H1=>r vs H1 Q
theorem aOp (hc:cD X (.builtin id) r) (hg:Gl X x) (hm:X.mg x=none) (hv:bootBuiltins x=some (.builtin id)) (ha:PA X (e::es) t) (hn:x≠"__name__":=by decide) (hdb:(x == ("__debug__":Str))=false:=by decide)
  (he:starEach (e::es) X.env=(false,eval e X.env)::starEach es X.env:=by rfl) (hpl:(backTo pos (starEach es X.env)).any (·.1)=false:=by rfl):PE X (.Call (.Name x p) (e::es) [] pos) (tCB r t):=by
 intro pins s σ H Q I h
 refine wpAny_Call_Name_kw (rH I hg hm hv ?_ hn hdb)
 exact PyProof.Rows.callWith_builtin1 (thn (ha pos pins s σ H _ I h) fun us s1 ⟨vs,H1,I1,r1,q1⟩=>hc pins s1 σ H1 vs us Q I1 r1 q1) he hpl
theorem aMc (hc:cD X (.type T) r) (hg:Gl X x) (hm:X.mg x=none) (hv:bootBuiltins x=some (.type T)) (ha:PA X (e::es) t) (hn:x≠"__name__":=by decide) (hdb:(x == ("__debug__":Str))=false:=by decide)
  (he:starEach (e::es) X.env=(false,eval e X.env)::starEach es X.env:=by rfl) (hpl:(backTo pos (starEach es X.env)).any (·.1)=false:=by rfl):PE X (.Call (.Name x p) (e::es) [] pos) (tCB r t):=by
 intro pins s σ H Q I h
 refine wpAny_Call_Name_kw (rH I hg hm hv ?_ hn hdb)
 exact PyProof.Rows.callWith_type1 (thn (ha pos pins s σ H _ I h) fun us s1 ⟨vs,H1,I1,r1,q1⟩=>hc pins s1 σ H1 vs us Q I1 r1 q1) he hpl
end
end L2
namespace HT
open PySem PyProof.Rows
section
open PySem.SeqAt
open PySem.AutoSeq1 (wpAny_loadPart')
open PySem.MeetsSeq PySem.MeetsSeq2 PySem.MeetsSeq3
end
section
variable {prog:Program} {w:World} {A:Around} {E:Value→Shared→Prop} {s:Shared}
theorem aQ9 {t b:Addr} {vs ws:List Value} {Q:Value→Shared→Prop} (ht:IsTup s.heap t vs.toArray) (hb:IsTup s.heap b ws.toArray) (hv:vs≠[])
  (h1:ws=[]→Q (.ref t) s) (h2:ws≠[]→Q (.ref s.heap.objs.size) { s with heap:=s.heap.push { cls:=.type "tuple",data:=.seq (vs++ws).toArray } })
  (hsz:vs.length+ws.length≤sizeLine):wpAny (model prog w) A (binaryOp .Add (.ref t) (.ref b)) Q E s:=by
 obtain ⟨⟨cls,dd,data,sl⟩,ho,hc,n,hd⟩:=id ht
 obtain ⟨⟨cls2,dd2,data2,sl2⟩,ho2,hc2,n2,hd2⟩:=id hb
 simp only at hc hd hc2 hd2
 subst hc hd hc2 hd2
 have e:vs.toArray++ws.toArray=(vs++ws).toArray:=by simp
 by_cases hw:ws=[]
 ·exact concat_meets ⟨_,ho,rfl⟩ ⟨_,ho2,rfl⟩ noFill_tuple_add seq_tuple_add PySem.F.slot_tuple_add PySem.F.entry_tuple_add (PySem.F.args_tuple_add_2 _ _)
   (tuple_addW1 t b vs.toArray ws.toArray n n2 dd dd2 sl sl2 (by simpa using hv) (by simp [hw])) ⟨ho,ho2,h1 hw⟩
 ·refine concat_meets ⟨_,ho,rfl⟩ ⟨_,ho2,rfl⟩ noFill_tuple_add seq_tuple_add PySem.F.slot_tuple_add PySem.F.entry_tuple_add (PySem.F.args_tuple_add_2 _ _)
   (tuple_addW2 t b vs.toArray ws.toArray n n2 dd dd2 sl sl2 (by simpa using hv) (by simpa using hw) (by rw [List.size_toArray,List.size_toArray];exact hsz)) ⟨ho,ho2,?_⟩
  rw [e]
  exact h2 hw
def sIx (n d:Nat):Option Int→Nat
 |none=>d
 |some v=>if v<0 then (v+(n:Int)).toNat else min v.toNat n
theorem aFb (n d:Nat):sIx n d none=d:=rfl
theorem aD0 (n d k:Nat):sIx n d (some (k:Int))=min k n:=by
 show (if (k:Int)<0 then ((k:Int)+(n:Int)).toNat else min (k:Int).toNat n)=min k n
 rw [if_neg (by omega),Int.toNat_natCast]
theorem aU6 (n d:Nat) (hd:d≤n) (o:Option Int):sIx n d o≤n:=by
 cases o with
 |none=>exact hd
 |some v=>
  show (if v<0 then (v+(n:Int)).toNat else min v.toNat n)≤n
  by_cases hv:v<0
  ·rw [if_pos hv];omega
  ·rw [if_neg hv];exact Nat.min_le_right _ _
theorem aKh (v:Int) (n d:Nat):(if v<0 then max (v+(n:Int)) 0 else min v (n:Int))=((sIx n d (some v):Nat):Int):=by
 show (if v<0 then max (v+(n:Int)) 0 else min v (n:Int))=(((if v<0 then (v+(n:Int)).toNat else min v.toNat n):Nat):Int)
 by_cases hv:v<0
 ·simp only [if_pos hv];omega
 ·simp only [if_neg hv];omega
theorem aJa (lo hi:Option Int) (n:Nat):Builtin.Slice.sliceAdjust lo hi 1 (n:Int)=(((sIx n 0 lo:Nat):Int),((sIx n n hi:Nat):Int)):=by
 have h1:¬ ((1:Int)<0):=by omega
 unfold Builtin.Slice.sliceAdjust
 simp only [h1,if_false]
 refine Prod.ext ?_ ?_
 ·cases lo with
  |none=>rfl
  |some v=>exact aKh v n 0
 ·cases hi with
  |none=>rfl
  |some v=>exact aKh v n n
theorem aH2 (i j:Nat):Builtin.Slice.slicePlaces (i:Int) (j:Int) 1=j - i:=by
 unfold Builtin.Slice.slicePlaces
 have h1:(1:Int) > 0:=by omega
 simp only [h1,if_true,Int.ediv_one]
 split <;> omega
theorem yR {v:Value} {o:Option Int} {Q:Option Int→Shared→Prop} (p:IsPart v o) (h:Q o s):wpAny (model prog w) A (Builtin.Slice.slicePartIndex v) Q E s:=by
 cases p with
 |none=>exact slicePart_none h
 |int i t=>exact slicePart_int h
theorem lH {sl:Addr} {vl vu:Value} {lo hi:Option Int} {n:Nat} {Q:Int × Int × Nat→Shared→Prop} (hs:s.heap.IsSliceOf sl vl vu .none) (pl:IsPart vl lo) (pu:IsPart vu hi)
  (h:Q (((sIx n 0 lo:Nat):Int),1,sIx n n hi - sIx n 0 lo) s):wpAny (model prog w) A (Builtin.Slice.sliceApplied (.ref sl) (pure (n:Int))) Q E s:=by
 obtain ⟨os,hos,hcs,hds⟩:=id hs
 unfold Builtin.Slice.sliceApplied Builtin.Slice.sliceFields
 refine wpAny_bind (wpAny_bind (wpAny_field hos hds (x:=vl) rfl (wpAny_bind (wpAny_field hos hds (x:=vu) rfl (wpAny_bind (wpAny_field hos hds (x:=.none) rfl (wpAny_pure ?_)))))))
 refine wpAny_bind (slicePart_none ?_)
 show wpAny _ _ (if ((1:Int) == 0)=true then _ else _) _ _ s
 rw [if_neg (by decide)]
 refine wpAny_bind (yR pl (wpAny_bind (yR pu (wpAny_bind (wpAny_pure ?_)))))
 show wpAny _ _ (match Builtin.Slice.sliceAdjust lo hi 1 (n:Int) with|(lo,hi)=>pure (lo,(1:Int),Builtin.Slice.slicePlaces lo hi 1)) _ _ s
 rw [aJa lo hi n]
 show wpAny _ _ (pure (((sIx n 0 lo:Nat):Int),(1:Int),Builtin.Slice.slicePlaces ((sIx n 0 lo:Nat):Int) ((sIx n n hi:Nat):Int) 1)) _ _ s
 rw [aH2]
 exact wpAny_pure h
theorem aQi (xs:Array Value) (i k:Nat):((List.range k).filterMap fun (m:Nat)=>xs[((i:Int)+(m:Int) * 1).toNat]?).toArray=((xs.toList.drop i).take k).toArray:=by
 have e:(fun (m:Nat)=>xs[((i:Int)+(m:Int) * 1).toNat]?)=fun m=>xs[i+m]?:=by
  funext m
  have:((i:Int)+(m:Int) * 1).toNat=i+m:=by omega
  rw [this]
 rw [e]
 have:=pick_run xs i k
 rw [List.filterMap_map] at this
 have e2:((fun x=>xs[x]?) ∘ fun x=>i+x)=fun m=>xs[i+m]?:=rfl
 rw [e2] at this
 rw [this]
theorem sE {t sl:Addr} {items:Array Value} {vl vu:Value} {lo hi:Option Int} {Q:Value→Shared→Prop} (ht:IsTup s.heap t items) (hs:s.heap.IsSliceOf sl vl vu .none) (pl:IsPart vl lo) (pu:IsPart vu hi)
  (hw:¬ (sIx items.size 0 lo=0∧sIx items.size items.size hi=items.size))
  (h:Q (.ref s.heap.objs.size) { s with heap:=s.heap.push { cls:=.type "tuple",data:=.seq ((items.toList.drop (sIx items.size 0 lo)).take (sIx items.size items.size hi - sIx items.size 0 lo)).toArray } })
  (hsz:items.size≤sizeLine):wpAny (model prog w) A (getItem (.ref t) (.ref sl)) Q E s:=by
 have htake:sizeOk (.seq ((items.toList.drop (sIx items.size 0 lo)).take (sIx items.size items.size hi - sIx items.size 0 lo)).toArray):=by
  show ((items.toList.drop (sIx items.size 0 lo)).take (sIx items.size items.size hi - sIx items.size 0 lo)).toArray.size≤sizeLine
  rw [List.size_toArray,List.length_take,List.length_drop,Array.length_toList]
  omega
 have hj:sIx items.size items.size hi≤items.size:=aU6 _ _ (Nat.le_refl _) hi
 obtain ⟨os,hos,hcs,hds⟩:=id hs
 have hTs:s.TypeIs (.ref sl) "slice":=⟨os,hos,hcs⟩
 unfold getItem
 try with_reducible refine wpAny_holding ?_
 first|refine wpAny_bind (wpAny_pure ?_)|skip
 refine wpAny_bind (wpAny_sequenceKey ht.typeIs (by decide) ?_)
 refine wpAny_bind (wpAny_callSpecial?_slot (name:=Str.ofString "__getitem__") ht.typeIs PyProof.Rows.slot_tuple_getitem
  (wpAny_call_entry PyProof.Rows.slot_tuple_getitem ht.typeIs entry_tuple_getitem ?_ (args_tuple_getitem _ _)))
 show wpAny _ _ (Builtin.Tuple.tupleItemsOf (.ref t) >>= _) _ _ s
 refine wpAny_bind (tupleItemsOf_ ht ?_)
 refine wpAny_bind (wpAny_typeOf hTs ?_)
 rw [if_pos (by decide)]
 refine wpAny_bind (lH hs pl pu ?_)
 have hno:¬ ((((sIx items.size 0 lo:Nat):Int) == 0 && (1:Int) == 1 && (sIx items.size items.size hi - sIx items.size 0 lo) == items.size)=true):=by
  intro q
  rw [Bool.and_eq_true,Bool.and_eq_true] at q
  have q1:((sIx items.size 0 lo:Nat):Int)=0:=eq_of_beq q.1.1
  have q2:sIx items.size items.size hi - sIx items.size 0 lo=items.size:=eq_of_beq q.2
  exact hw ⟨by omega,by omega⟩
 show wpAny _ _ (if (((sIx items.size 0 lo:Nat):Int) == 0 && (1:Int) == 1 && (sIx items.size items.size hi - sIx items.size 0 lo) == items.size)=true then _ else _) _ _ s
 rw [if_neg hno,aQi]
 first
  |exact wpAny_bind (m:=Builtin.Tuple.tupleExact _) (wpAny_newObj_type (wpAny_pure ⟨_,rfl,wpAny_pure h⟩) htake)
  |exact wpAny_bind (m:=Builtin.Tuple.tupleExact _) (wpAny_newObj_type (wpAny_bind (wpAny_pure (wpAny_pure ⟨_,rfl,wpAny_pure h⟩))) htake)
  |exact wpAny_bind (wpAny_bind (m:=Builtin.Tuple.tupleExact _) (wpAny_newObj_type (wpAny_pure (wpAny_pure ⟨_,rfl,wpAny_pure h⟩)) htake))
  |exact wpAny_bind (wpAny_bind (m:=Builtin.Tuple.tupleExact _) (wpAny_newObj_type (wpAny_pure ⟨_,rfl,wpAny_pure h⟩) htake))
end
end HT
namespace L2
open PySem PySem.Spec PyProof.Rows
abbrev TO:=St→Hp→(Option Int→Hp→Prop)→Prop
def PO (X:Cx) (e:Option Expr) (t:TO):Prop:=
 ∀(pins:List (Addr × Obj)) (s:Shared) (σ:St) (H:Hp) (Q:Option Int→Hp→Prop),Inv X pins σ H s→t σ H Q →
  wpAny (model X.prog X.w) X.A (evalPart e X.env) (fun u s'=>∃o H',Inv X pins σ H' s'∧IsPart u o∧Q o H') X.xe s
def aK3:TO:=fun _ H Q=>Q none H
def aTo (t:TE):TO:=fun σ H Q=>t σ H fun x H1=>∃i,x=.int i∧Q (some i) H1
section
variable {X:Cx} {e:Expr} {te:TE} {lo hi:Option Expr} {tl th:TO} {pos p2:Pos}
theorem aRu:PO X none aK3:=by
 intro pins s σ H Q I h
 rw [evalPart_none]
 exact wpAny_pure ⟨none,H,I,.none,h⟩
theorem aQ8 (h:PE X e te):PO X (some e) (aTo te):=by
 intro pins s σ H Q I hw
 rw [evalPart_some]
 refine thn (h pins s σ H _ I hw) fun u s1 ⟨x,H1,I1,r1,q1⟩=>?_
 obtain ⟨i,rfl,q⟩:=q1
 obtain ⟨t,rfl⟩:=r1
 exact ⟨some i,H1,I1,.int i t,q⟩
def SlR (X:Cx) (r:V→Option Int→Option Int→Hp→VK→Prop):Prop:=
 ∀(pins:List (Addr × Obj)) (s:Shared) (σ:St) (H:Hp) (x:V) (v vl vu:Value) (lo hi:Option Int) (sl:Addr) (Q:VK),Inv X pins σ H s→RelV x v→s.heap.IsSliceOf sl vl vu .none→IsPart vl lo→IsPart vu hi→r x lo hi H Q →
  ∃T id,typeLookup (.type T) "__getitem__"=pure (some (.builtin id))∧s.TypeIs v T∧wpAny (model X.prog X.w) X.A (getItem v (.ref sl)) (EP X pins σ Q) X.xe s
def tSl (r:V→Option Int→Option Int→Hp→VK→Prop) (te:TE) (tl th:TO):TE:=fun σ H Q=>te σ H fun x H1=>tl σ H1 fun l H2=>th σ H2 fun u H3=>r x l u H3 Q
theorem aP2 {r:V→Option Int→Option Int→Hp→VK→Prop} (hr:SlR X r) (he:PE X e te) (hl:PO X lo tl) (hu:PO X hi th):PE X (.Subscript e (.Slice lo hi none p2) pos) (tSl r te tl th):=by
 intro pins s σ H Q I h
 refine Subscript_ (thn (he pins s σ H _ I h) fun v s1 ⟨x,H1,I1,r1,q1⟩=>?_)
 refine wpAny_Slice (thn (hl pins s1 σ H1 _ I1 q1) fun vl s2 ⟨l,H2,I2,pl,q2⟩=>thn (hu pins s2 σ H2 _ I2 q2) fun vu s3 ⟨u,H3,I3,pu,q3⟩=>?_)
 rw [evalPart_none]
 refine wpAny_pure ?_
 have I4:Inv X pins σ H3 { s3 with heap:=s3.heap.push { cls:=.type "slice",data:=.fields #[vl,vu,.none] } }:=I3.kept (t':=s3.toks) fun b ob q=>Heap.get?_push_of_some _ q
 obtain ⟨T,id,hT,ht,hg⟩:=hr pins { s3 with heap:=s3.heap.push { cls:=.type "slice",data:=.fields #[vl,vu,.none] } } σ H3 x v vl vu l u s3.heap.objs.size Q I4 r1 (Heap.IsSliceOf.new ..) pl pu q3
 show wpAny (model X.prog X.w) X.A (subscriptTail e (.Slice lo hi none p2) v (.ref s3.heap.objs.size)) (EP X pins σ Q) X.xe { s3 with heap:=s3.heap.push { cls:=.type "slice",data:=.fields #[vl,vu,.none] } }
 exact tail_any (ops:=[.ref s3.heap.objs.size,v]) ht hT hg (by with_unfolding_all rfl)
def wF (xs:List V) (lo hi:Option Int):List V:=(xs.drop (HT.sIx xs.length 0 lo)).take (HT.sIx xs.length xs.length hi - HT.sIx xs.length 0 lo)
theorem aFf (xs:List V) (lo hi:Option Int):(wF xs lo hi).length≤xs.length:=by
 unfold wF
 rw [List.length_take,List.length_drop]
 omega
def aX2 (K:PySem.W.Frag):V→Option Int→Option Int→Hp→VK→Prop:=fun x lo hi H Q=>∃a xs,x=.ref a∧SqT K H a xs ∧
 ¬ (HT.sIx xs.length 0 lo=0∧HT.sIx xs.length xs.length hi=xs.length)∧∀p,H p=none→Q (.ref p) (upd H p (.tup (wF xs lo hi)))
theorem aUy:SlR X (aX2 X.K):=by
 intro pins s σ H x v vl vu lo hi sl Q I rx hs pl pu h
 obtain ⟨a,xs,rfl,hx,hw,q⟩:=h
 cases rx
 obtain ⟨its,r,ht,hz⟩:=I.tuple hx
 have hlen:its.toArray.size=xs.length:=by rw [List.size_toArray];exact r.length.symm
 refine ⟨"tuple",_,PyProof.Rows.slot_tuple_getitem.lookup,ht.typeIs,?_⟩
 refine HT.sE ht hs pl pu (by rw [hlen];exact hw) ?_ (by rw [hlen];exact hz)
 rw [hlen]
 refine ⟨.ref s.heap.objs.size,_,I.laid (t':=s.toks) (o:=.tup (wF xs lo hi)) (fun b ob q=>Heap.get?_push_of_some _ q) (Nat.le_refl _) ?_,rfl,q _ (I.hok.fresh (Nat.le_refl _))⟩
 exact ⟨Nat.le_trans (aFf xs lo hi) hz,_,(r.drop (HT.sIx xs.length 0 lo)).take (HT.sIx xs.length xs.length hi - HT.sIx xs.length 0 lo),wA.new _ _⟩
def aXm (K:PySem.W.Frag):R2:=fun x y H Q=>∃a b xs ys,x=.ref a∧y=.ref b∧SqT K H a xs∧SqT K H b ys∧xs≠[]∧xs.length+ys.length≤sizeLine ∧
 (ys=[]→Q (.ref a) H)∧(ys≠[]→∀p,H p=none→Q (.ref p) (upd H p (.tup (xs++ys))))
theorem Vals.aD2 {xs:List V} {us:List Value} (r:Vals xs us):us=[]↔xs=[]:=by
 cases r with
 |nil=>simp
 |cons _ _=>simp
theorem aR4:OpR X (binaryOp .Add) (aXm X.K):=by
 intro pins s σ H x y v u Q I rx ry h
 obtain ⟨a,b,xs,ys,rfl,rfl,ha,hb,hx,hz,q1,q2⟩:=h
 cases rx
 cases ry
 obtain ⟨its,r1,p1,_⟩:=I.tuple ha
 obtain ⟨its2,r2,p2,_⟩:=I.tuple hb
 refine HT.aQ9 p1 p2 (fun z=>hx (r1.aD2.mp z)) (fun z=>⟨.ref a,H,I,rfl,q1 (r2.aD2.mp z)⟩) (fun z=>?_) (by rw [←r1.length,←r2.length];exact hz)
 refine ⟨.ref s.heap.objs.size,_,I.laid (t':=s.toks) (o:=.tup (xs++ys)) (fun b ob q=>Heap.get?_push_of_some _ q) (Nat.le_refl _) ?_,rfl,q2 (fun w=>z (r2.aD2.mpr w)) _ (I.hok.fresh (Nat.le_refl _))⟩
 exact ⟨by rw [List.length_append];exact hz,_,r1.append r2,wA.new _ _⟩
end
def ixN (n:Nat) (i:Int):Option Nat:=if 0≤i then (if i<n then some i.toNat else none) else if -(n:Int)≤i then some (i+n).toNat else none
def atI {α:Type} (xs:List α) (i:Int):Option α:=(ixN xs.length i).bind fun j=>xs[j]?
theorem aLh {n:Nat} {i:Int} {j:Nat} (h:ixN n i=some j):seqIndex? i n=some j∧j<n∧-(n:Int)≤i∧i<n:=by
 unfold ixN at h
 by_cases h0:0≤i
 ·rw [if_pos h0] at h
  by_cases h1:i<n
  ·rw [if_pos h1] at h
   have e:i.toNat=j:=Option.some.inj h
   exact ⟨by rw [seqIndex_of h0 h1,e],by omega,by omega,h1⟩
  ·rw [if_neg h1] at h;cases h
 ·rw [if_neg h0] at h
  by_cases h1:-(n:Int)≤i
  ·rw [if_pos h1] at h
   have e:(i+n).toNat=j:=Option.some.inj h
   exact ⟨by rw [seqIndex_neg (by omega) h1,e],by omega,h1,by omega⟩
  ·rw [if_neg h1] at h;cases h
theorem aKx {α:Type} {xs:List α} {i:Int} {v:α} (h:atI xs i=some v):∃j,seqIndex? i xs.length=some j∧xs[j]?=some v∧j<xs.length∧-(xs.length:Int)≤i∧i<xs.length:=by
 unfold atI at h
 cases e:ixN xs.length i with
 |none=>rw [e] at h;cases h
 |some j=>
  rw [e] at h
  obtain ⟨h1,h2,h3,h4⟩:=aLh e
  exact ⟨j,h1,h,h2,h3,h4⟩
theorem dO {α:Type} {xs:List α} {j:Nat} {v:α} (h:xs[j]?=some v):atI xs (j:Int)=some v:=by
 have hj:j<xs.length:=(List.getElem?_eq_some_iff.mp h).1
 have e:ixN xs.length (j:Int)=some j:=by
  unfold ixN
  rw [if_pos (by omega),if_pos (by omega)];simp
 unfold atI;rw [e];exact h
def aK5 (b:Expr):Prop:=∀o i,subscripted b false o i=operate [o,i] (getItem o i)
def IxR (X:Cx) (r:R2):Prop:=
 ∀(value slice:Expr) (pins:List (Addr × Obj)) (s:Shared) (σ:St) (H:Hp) (x y:V) (v u:Value) (Q:VK),Inv X pins σ H s→RelV x v→RelV y u→r x y H Q →
  subscripted slice false v u=operate [v,u] (getItem v u)→wpAny (model X.prog X.w) X.A (subscriptTail value slice v u) (EP X pins σ Q) X.xe s
def MtR (X:Cx) (id:String) (r:V→List V→Hp→VK→Prop):Prop:=
 ∀(pins:List (Addr × Obj)) (s:Shared) (σ:St) (H:Hp) (x:V) (xs:List V) (v:Value) (us:List Value) (Q:VK),Inv X pins σ H s→RelV x v→Vals xs us→r x xs H Q →
  wpAny (model X.prog X.w) X.A (call (.builtin id) (v::us)) (EP X pins σ Q) X.xe s
section
variable {X:Cx} {a b:Expr} {ta tb:TE} {pos:Pos}
theorem aWz {r:R2} (hr:IxR X r) (ha:PE X a ta) (hb:PE X b tb) (hs:aK5 b):PE X (.Subscript a b pos) (tOp r ta tb):=by
 intro pins s σ H Q I h
 exact Subscript_ (aRp ha hb I h fun v u s2 x y H2 I2 rx ry q=>hr a b pins s2 σ H2 x y v u Q I2 rx ry q (hs _ _))
def aWe (K:PySem.W.Frag):R2:=fun x y H Q=>∃p xs i v,x=.ref p∧y=.int i∧SqL K H p xs∧atI xs i=some v∧Q v H
def aW1 (K:PySem.W.Frag):R2:=fun x y H Q=>∃p xs i v,x=.ref p∧y=.int i∧SqT K H p xs∧atI xs i=some v∧Q v H
theorem bD:IxR X (aWe X.K):=by
 intro value slice pins s σ H x y v u Q I rx ry h hs
 obtain ⟨p,xs,i,z,rfl,rfl,hq,he,q⟩:=h
 cases rx
 obtain ⟨t,rfl⟩:=ry
 obtain ⟨its,r,pl,hz⟩:=I.list hq
 obtain ⟨j,h1,h2,h3,h4,h5⟩:=aKx he
 obtain ⟨w,ew,rw'⟩:=r.get h2
 have hl:=r.length
 have hn:=qN
 have fin:EP X pins σ Q w s:=⟨z,H,I,rw',q⟩
 by_cases h0:0≤i
 ·have hj:i.toNat=j:=by
   rw [seqIndex_of h0 h5] at h1
   exact Option.some.inj h1
  exact item_listR pl.isList h0 (by omega) (by rw [hj];simpa using ew) fin hs
 ·have hj:(i+(its.toArray.size:Int)).toNat=j:=by
   rw [seqIndex_neg (by omega) h4] at h1
   rw [List.size_toArray,←hl]
   exact Option.some.inj h1
  exact subscriptTail_builtinR (x:=w) pl.isList.typeIs slot_list_getitem.lookup
   (wpAny_getItem_list_neg (Q:=fun r s'=>r=w∧EP X pins σ Q r s') pl.isList (by omega) (by rw [List.size_toArray] <;> omega) (by omega) (by rw [hj];simpa using ew) ⟨rfl,fin⟩) hs
theorem aV:IxR X (aW1 X.K):=by
 intro value slice pins s σ H x y v u Q I rx ry h hs
 obtain ⟨p,xs,i,z,rfl,rfl,hq,he,q⟩:=h
 cases rx
 obtain ⟨t,rfl⟩:=ry
 obtain ⟨its,r,pl,hz⟩:=I.tuple hq
 obtain ⟨j,h1,h2,h3,h4,h5⟩:=aKx he
 obtain ⟨w,ew,rw'⟩:=r.get h2
 have hl:=r.length
 have hn:=qN
 have fin:EP X pins σ Q w s:=⟨z,H,I,rw',q⟩
 exact subscriptTail_builtinR (x:=w) pl.typeIs slot_tuple_getitem.lookup
  (getItem_tuple (j:=j) (Q:=fun r s'=>r=w∧EP X pins σ Q r s') pl (by omega) (by omega) (by rw [List.size_toArray,←hl];exact h1) (by simpa using ew) ⟨rfl,fin⟩) hs
theorem aHw (its:List Value) (n j:Nat) (u:Value):Obj.mapSeq (·.setIfInBounds j u) { cls:=.type "list",data:=.seq its.toArray n }={ cls:=.type "list",data:=.seq (its.set j u).toArray n }:=by
 simp [Obj.mapSeq]
theorem Inv.lst {pins:List (Addr × Obj)} {σ:St} {H:Hp} {s:Shared} {p:Addr} {xs:List V} (I:Inv X pins σ H s) (h:H p=some (.lst xs)) :
  ∃(its:List Value) (n:Nat),Vals xs its∧s.heap.get? p=some { cls:=.type "list",data:=.seq its.toArray n }∧xs.length≤sizeLine:=by
 obtain ⟨z,its,n,r,e⟩:=I.hok p _ h
 exact ⟨its,n,r,e,z⟩
theorem Inv.aU9 {pins:List (Addr × Obj)} {σ:St} {H:Hp} {s:Shared} {p:Addr} {xs ys:List V} {its its':List Value} {n n':Nat} {f:Obj→Obj} (I:Inv X pins σ H s) (h:H p=some (.lst xs))
  (ho:s.heap.get? p=some { cls:=.type "list",data:=.seq its.toArray n }) (hf:f { cls:=.type "list",data:=.seq its.toArray n }={ cls:=.type "list",data:=.seq its'.toArray n' }) (r:Vals ys its') (hz:ys.length≤sizeLine) (t:Nat) :
  Inv X pins σ (upd H p (.lst ys)) { s with heap:=s.heap.update p f,toks:=t }:=by
 have e:(s.heap.update p f).get? p=some { cls:=.type "list",data:=.seq its'.toArray n' }:=by
  rw [Heap.get?_update_self f ho (by rw [hf] <;> rfl),hf]
 refine I.write (x:=p) (e:=p) (by rw [h];trivial) (.inl rfl) (fun b u hb q=>(Heap.get?_update_other _ _ (Ne.symm hb)).trans q) ⟨_,e⟩ ?_
 exact ⟨hz,its',n',r,e⟩
def aWv:V→V→V→Hp→(Hp→Prop)→Prop:=fun o i v H Q=>∃p xs k j,o=.ref p∧i=.int k∧H p=some (.lst xs)∧ixN xs.length k=some j∧Q (upd H p (.lst (xs.set j v)))
theorem set_list:aVj X aWv:=by
 intro pins s σ H o i v ov iv u Q I ro ri rv h
 obtain ⟨p,xs,k,j,rfl,rfl,hp,hj,q⟩:=h
 cases ro
 obtain ⟨t,rfl⟩:=ri
 obtain ⟨its,n,r,ho,hz⟩:=I.lst hp
 obtain ⟨h1,h2,h3,h4⟩:=aLh hj
 have hl:=r.length
 have hn:=qN
 have I':Inv X pins σ (upd H p (.lst (xs.set j v))) { s with heap:=s.heap.update p (Obj.mapSeq (·.setIfInBounds j u)) }:=
  I.aU9 hp ho (aHw its n j u) (r.set rv j) (by rw [List.length_set];exact hz) s.toks
 by_cases h0:0≤k
 ·have hk:k.toNat=j:=by
   rw [seqIndex_of h0 h4] at h1
   exact Option.some.inj h1
  exact PySem.W.ki_setAt ho h0 (by omega) (by rw [List.size_toArray,←hl];exact h4) (by rw [hk];exact ⟨_,I',q⟩)
 ·have hk:(k+(its.toArray.size:Int)).toNat=j:=by
   rw [seqIndex_neg (by omega) h3] at h1
   rw [List.size_toArray,←hl]
   exact Option.some.inj h1
  exact PySem.W.ki_setBack ho (by omega) (by rw [List.size_toArray,←hl];exact h3) (by omega) (by rw [hk];exact ⟨_,I',q⟩)
def iY:V→Bool
 |.non=>true
 |.bl _=>true
 |.int _=>true
 |.str _=>true
 |_=>false
def eqV:V→V→Bool
 |.non,.non=>true
 |.bl a,.bl b=>a == b
 |.bl a,.int b=>(if a then 1 else 0) == b
 |.int a,.bl b=>a == (if b then 1 else 0)
 |.int a,.int b=>a == b
 |.str a,.str b=>a == b
 |_,_=>false
theorem aUe {A:Around} {s:Shared} {y x:V} {u v:Value} (ry:RelV y u) (rx:RelV x v) (fy:iY y=true) (fx:iY x=true):SeqAt.EqAt A s u v (eqV y x):=by
 cases y with
 |non=>
  cases ry
  cases x with
  |non=>cases rx;exact SeqAt.EqAt.same _
  |bl b=>cases rx;exact SeqAt.EqAt.none_bool b
  |int b=>obtain ⟨t,rfl⟩:=rx;exact SeqAt.EqAt.none_int b t
  |str b=>obtain ⟨t,rfl⟩:=rx;exact SeqAt.EqAt.none_str b t
  |_=>exact absurd (show false=true from fx) Bool.false_ne_true
 |bl a=>
  cases ry
  cases x with
  |non=>cases rx;exact SeqAt.EqAt.bool_none a
  |bl b=>cases rx;exact SeqAt.EqAt.bool_bool a b
  |int b=>obtain ⟨t,rfl⟩:=rx;exact SeqAt.EqAt.bool_int a b t
  |str b=>obtain ⟨t,rfl⟩:=rx;exact SeqAt.EqAt.bool_str a b t
  |_=>exact absurd (show false=true from fx) Bool.false_ne_true
 |int a=>
  obtain ⟨t',rfl⟩:=ry
  cases x with
  |non=>cases rx;exact SeqAt.EqAt.int_none a t'
  |bl b=>cases rx;exact SeqAt.EqAt.int_bool a t' b
  |int b=>obtain ⟨t,rfl⟩:=rx;exact SeqAt.EqAt.int_int a t' b t
  |str b=>obtain ⟨t,rfl⟩:=rx;exact SeqAt.EqAt.int_str a t' b t
  |_=>exact absurd (show false=true from fx) Bool.false_ne_true
 |str a=>
  obtain ⟨t',rfl⟩:=ry
  cases x with
  |non=>cases rx;exact SeqAt.EqAt.str_none a t'
  |bl b=>cases rx;exact SeqAt.EqAt.str_bool a t' b
  |int b=>obtain ⟨t,rfl⟩:=rx;exact SeqAt.EqAt.str_int a t' b t
  |str b=>obtain ⟨t,rfl⟩:=rx;exact SeqAt.EqAt.str_str a t' b t
  |_=>exact absurd (show false=true from fx) Bool.false_ne_true
 |_=>exact absurd (show false=true from fy) Bool.false_ne_true
def eqU (x:V) (u:Value):Bool:=match u with
 |.none=>eqV .non x
 |.bool b=>eqV (.bl b) x
 |.int i _=>eqV (.int i) x
 |.str z _=>eqV (.str z) x
 |_=>false
theorem aPu {x y:V} {u:Value} (r:RelV y u) (f:iY y=true):eqU x u=eqV y x:=by
 cases y with
 |non=>cases r;rfl
 |bl b=>cases r;rfl
 |int i=>obtain ⟨t,rfl⟩:=r;rfl
 |str z=>obtain ⟨t,rfl⟩:=r;rfl
 |_=>exact absurd (show false=true from f) Bool.false_ne_true
theorem rQ {x:V}:∀{xs:List V} {us:List Value},Vals xs us→xs.all iY=true→us.any (eqU x)=xs.any fun y=>eqV y x
 |_,_,.nil,_=>rfl
 |y::xs,u::us,.cons r t,f=>by
  rw [List.all_cons,Bool.and_eq_true] at f
  rw [List.any_cons,List.any_cons,aPu r f.1,rQ t f.2]
theorem oG {A:Around} {s:Shared} {x:V} {v:Value} (rx:RelV x v) (fx:iY x=true):∀{xs:List V} {us:List Value},Vals xs us→xs.all iY=true→∀u∈us,SeqAt.EqAt A s u v (eqU x u)
 |_,_,.nil,_=>fun u hu=>by cases hu
 |y::xs,u::us,.cons r t,f=>fun u' hu=>by
  rw [List.all_cons,Bool.and_eq_true] at f
  rcases List.mem_cons.mp hu with rfl|hu
  ·rw [aPu r f.1];exact aUe r rx f.1 fx
  ·exact oG rx fx t f.2 u' hu
def inV (x:V) (xs:List V):Bool:=xs.any fun y=>eqV y x
def rIn (K:PySem.W.Frag) (neg:Bool):R2:=fun x y H Q=>∃p xs,y=.ref p∧(SqL K H p xs∨SqT K H p xs)∧iY x=true∧xs.all iY=true∧Q (.bl (if neg then !inV x xs else inV x xs)) H
theorem aA4:OpR X (compareOp .In) (rIn X.K false):=by
 intro pins s σ H x y v u Q I rx ry h
 obtain ⟨p,xs,rfl,hq,fx,fs,q⟩:=h
 cases ry
 rcases hq with hq|hq
 ·obtain ⟨its,r,pl,hz⟩:=I.list hq
  refine SeqAt.in_listAt (eqU x) pl.isList (fun w hw=>oG rx fx r fs w (by simpa using hw)) ⟨.bl _,H,I,rfl,?_⟩
  rw [show its.toArray.any (eqU x)=its.any (eqU x) by simp,rQ r fs]
  exact q
 ·obtain ⟨its,r,pl,hz⟩:=I.tuple hq
  refine SeqAt.in_tupleAt (eqU x) pl (fun w hw=>oG rx fx r fs w (by simpa using hw)) ⟨.bl _,H,I,rfl,?_⟩
  rw [show its.toArray.any (eqU x)=its.any (eqU x) by simp,rQ r fs]
  exact q
theorem uB:OpR X (compareOp .NotIn) (rIn X.K true):=by
 intro pins s σ H x y v u Q I rx ry h
 obtain ⟨p,xs,rfl,hq,fx,fs,q⟩:=h
 cases ry
 rcases hq with hq|hq
 ·obtain ⟨its,r,pl,hz⟩:=I.list hq
  refine SeqAt.notIn_listAt (eqU x) pl.isList (fun w hw=>oG rx fx r fs w (by simpa using hw)) ⟨.bl _,H,I,rfl,?_⟩
  rw [show its.toArray.any (eqU x)=its.any (eqU x) by simp,rQ r fs]
  exact q
 ·obtain ⟨its,r,pl,hz⟩:=I.tuple hq
  refine SeqAt.notIn_tupleAt (eqU x) pl (fun w hw=>oG rx fx r fs w (by simpa using hw)) ⟨.bl _,H,I,rfl,?_⟩
  rw [show its.toArray.any (eqU x)=its.any (eqU x) by simp,rQ r fs]
  exact q
theorem bC:cD X (.builtin "len") (fun xs H Q=>∃p ys,xs=[.ref p]∧(SqL X.K H p ys∨SqT X.K H p ys)∧Q (.int ys.length) H):=by
 intro pins s σ H xs us Q I r h
 obtain ⟨p,ys,rfl,hq,q⟩:=h
 obtain ⟨u,rfl,rx⟩:=vals1 r
 cases rx
 have hn:=qN
 rcases hq with hq|hq
 ·obtain ⟨its,r',pl,hz⟩:=I.list hq
  have hlen:=r'.length
  exact Calls.call_len_list pl.isList (by simp only [List.size_toArray] <;> omega) ⟨.int ys.length,H,I.tok _,⟨s.toks+1,by rw [List.size_toArray,hlen]⟩,q⟩
 ·obtain ⟨its,r',pl,hz⟩:=I.tuple hq
  have hlen:=r'.length
  exact len_tuple pl (by simp only [List.size_toArray] <;> omega) ⟨.int ys.length,H,I.tok _,⟨s.toks+1,by rw [List.size_toArray,hlen]⟩,q⟩
theorem uG:cD X (.builtin "len") (fun xs H Q=>∃z,xs=[.str z]∧z.length≤sizeLine∧Q (.int z.length) H):=by
 intro pins s σ H xs us Q I r h
 obtain ⟨z,rfl,hz,q⟩:=h
 obtain ⟨u,rfl,t,rfl⟩:=vals1 r
 have hn:=qN
 exact len_str (by omega) ⟨.int z.length,H,I.tok _,⟨_,rfl⟩,q⟩
theorem cD.or {f:Value} {r r':List V→Hp→VK→Prop} (h:cD X f r) (h':cD X f r'):cD X f (fun xs H Q=>r xs H Q∨r' xs H Q):=by
 intro pins s σ H xs us Q I rs q
 rcases q with q|q
 ·exact h pins s σ H xs us Q I rs q
 ·exact h' pins s σ H xs us Q I rs q
theorem aDm:cD X (.type "list") (fun xs H Q=>∃p ys,xs=[.ref p]∧(SqL X.K H p ys∨SqT X.K H p ys)∧∀l,H l=none→Q (.ref l) (upd H l (.lst ys))):=by
 intro pins s σ H xs us Q I r h
 obtain ⟨p,ys,rfl,hq,q⟩:=h
 obtain ⟨u,rfl,rx⟩:=vals1 r
 cases rx
 have fin:∀(its:List Value),Vals ys its→ys.length≤sizeLine→∀(h':Heap) (c':Nat),(∀b o',s.heap.get? b=some o'→h'.get? b=some o') →
   h'.get? s.heap.objs.size=some { cls:=.type "list",dict:=none,data:=.seq its.toArray c',slots:=#[] }→EP X pins σ Q (.ref s.heap.objs.size) { s with heap:=h' }:=fun its r' hz h' c' kp e=>
  ⟨.ref s.heap.objs.size,_,I.laid (t':=s.toks) kp (Nat.le_refl _) (show dJ X.prog X.w _ h' _ (.lst ys) from ⟨hz,its,c',r',e⟩),rfl,q _ (I.hok.fresh (Nat.le_refl _))⟩
 rcases hq with hq|hq
 ·obtain ⟨its,r',pl,hz⟩:=I.list hq
  have hlen:=r'.length
  obtain ⟨o,ho,hc,n,hd⟩:=pl.isList
  exact call_list_seq p (.inl rfl) ho hc hd (fun h' c' kp e=>fin its r' hz h' c' kp e) (by simp only [List.size_toArray] <;> omega)
 ·obtain ⟨its,r',pl,hz⟩:=I.tuple hq
  have hlen:=r'.length
  obtain ⟨o,ho,hc,n,hd⟩:=pl
  exact call_list_seq p (.inr rfl) ho hc hd (fun h' c' kp e=>fin its r' hz h' c' kp e) (by simp only [List.size_toArray] <;> omega)
theorem aAk:cD X (.type "tuple") (fun xs H Q=>∃p ys,xs=[.ref p]∧((SqL X.K H p ys∧∀l,H l=none→Q (.ref l) (upd H l (.tup ys)))∨(SqT X.K H p ys∧Q (.ref p) H))):=by
 intro pins s σ H xs us Q I r h
 obtain ⟨p,ys,rfl,h⟩:=h
 obtain ⟨u,rfl,rx⟩:=vals1 r
 cases rx
 rcases h with ⟨hq,q⟩|⟨hq,q⟩
 ·obtain ⟨its,r',pl,hz⟩:=I.list hq
  have hlen:=r'.length
  refine call_tuple_list pl.isList (fun h' kp=>?_) (by simp only [List.size_toArray] <;> omega)
  have I1:Inv X pins σ H { s with heap:=h' }:=I.kept (t':=s.toks) kp
  have I2:Inv X pins σ (upd H h'.objs.size (.tup ys)) { s with heap:=h'.push { cls:=.type "tuple",data:=.seq its.toArray } }:=
   I1.laid (t':=s.toks) (fun b o e=>Heap.get?_push_of_some _ e) (Nat.le_refl _) (show dJ X.prog X.w _ _ _ (.tup ys) from ⟨hz,its,r',wA.new _ _⟩)
  exact ⟨.ref h'.objs.size,_,I2,rfl,q _ (I1.hok.fresh (Nat.le_refl _))⟩
 ·obtain ⟨its,r',pl,hz⟩:=I.tuple hq
  exact call_tuple_same pl ⟨.ref p,H,I,rfl,q⟩
def tyV (K:PySem.W.Frag) (T:String) (x:V) (H:Hp):Prop:=match x with
 |.str _=>T = "str"
 |.int _=>T = "int"
 |.ref p=>(T = "list"∧∃xs,SqL K H p xs)∨(T = "tuple"∧∃o,K.lookup p=some o∧o.cls=.type "tuple"∧o.dict=none) ∨
   (T = "dict"∧((∃kvs,H p=some (.dK kvs))∨∃kvs,H p=some (.dT kvs)))∨(T = "set"∧∃S n,H p=some (.set S n))
 |_=>False
theorem aOr {pins:List (Addr × Obj)} {σ:St} {H:Hp} {s:Shared} {T:String} {x:V} {v:Value} (I:Inv X pins σ H s) (r:RelV x v) (ty:tyV X.K T x H) :
  s.TypeIs v T∧∀a,v=.ref a→∃ob,s.heap.get? a=some ob∧ob.dict=none:=by
 cases x with
 |str z=>
  obtain ⟨t,rfl⟩:=r
  cases (show T = "str" from ty)
  exact ⟨typeIs_str s z t,fun _ e=>nomatch e⟩
 |int i=>
  obtain ⟨t,rfl⟩:=r
  cases (show T = "int" from ty)
  exact ⟨typeIs_int s i t,fun _ e=>nomatch e⟩
 |ref p=>
  cases r
  rcases ty with ⟨rfl,xs,hq⟩|⟨rfl,o,hk,hc,hd⟩|⟨rfl,hk⟩|⟨rfl,S,n,hk⟩
  ·obtain ⟨its,_,pl,_⟩:=I.list hq
   refine ⟨pl.isList.typeIs,fun a e=>?_⟩
   cases e
   obtain ⟨o,n,e,c,hd,_⟩:=pl
   exact ⟨o,e,hd⟩
  ·refine ⟨⟨o,I.kIn p o hk,hc⟩,fun a e=>?_⟩
   cases e
   exact ⟨o,I.kIn _ o hk,hd⟩
  ·have z:∃o,s.heap.get? p=some o∧o.ExactDict:=by
    rcases hk with ⟨kvs,hk⟩|⟨kvs,hk⟩
    ·obtain ⟨_,_,_,_,o,_,_,e,ex,_⟩:=I.hok p _ hk
     exact ⟨o,e,ex⟩
    ·obtain ⟨_,_,_,_,o,_,_,e,ex,_⟩:=I.hok p _ hk
     exact ⟨o,e,ex⟩
   obtain ⟨o,e,ex⟩:=z
   refine ⟨⟨o,e,ex.1⟩,fun a e2=>?_⟩
   cases e2
   exact ⟨o,e,ex.2.1⟩
  ·obtain ⟨o,_,_,_,e,ex,_⟩:=I.hok p _ hk
   refine ⟨⟨o,e,ex.1⟩,fun a e2=>?_⟩
   cases e2
   exact ⟨o,e,ex.2.1⟩
 |_=>exact False.elim ty
def aWa (K:PySem.W.Frag) (T:String) (r:V→List V→Hp→VK→Prop) (to:TE):TE:=fun σ H Q=>to σ H fun x H1=>tyV K T x H1∧r x [] H1 Q
def tBM (K:PySem.W.Frag) (T:String) (r:V→List V→Hp→VK→Prop) (to:TE) (t:TA):TE:=fun σ H Q=>to σ H fun x H1=>tyV K T x H1∧t σ H1 fun xs H2=>r x xs H2 Q
variable {o e:Expr} {es:List Expr} {to:TE} {t:TA} {name:Str} {apos cpos:Pos} {T id:String} {r:V→List V→Hp→VK→Prop}
theorem aVr (pa:PlainAttrs T) (slot:Slot T name id) (hty:typeOf (.builtin id)=pure (.type "method_descriptor")) (hm:MtR X id r) (ho:PE X o to)
  (hbase:attributeBase o name X.env (eval o X.env)=eval o X.env:=by rfl) (hline:(apos.endLine == cpos.line)=true:=by rfl):PE X (.Call (.Attribute o name apos) [] [] cpos) (aWa X.K T r to):=by
 intro pins s σ H Q I h
 refine wpAny_Call_method0_late hbase hline (thn (ho pins s σ H _ I h) fun v s1 ⟨x,H1,I1,r1,ty,q1⟩=>?_)
 obtain ⟨h1,h2⟩:=aOr I1 r1 ty
 exact ⟨T,id,pa,slot,hty,h1,h2,Calls.callWith_builtin rfl (PySem.evalArgs_none (hm pins s1 σ H1 x [] v [] Q I1 r1 .nil q1))⟩
theorem aW8 (pa:PlainAttrs T) (slot:Slot T name id) (hty:typeOf (.builtin id)=pure (.type "method_descriptor")) (hm:MtR X id r) (ho:PE X o to) (ha:PA X (e::es) t)
  (hbase:attributeBase o name X.env (eval o X.env)=eval o X.env:=by rfl)
  (hfew:((backTo cpos (starEach (e::es) X.env)).all (fun x=>!x.1) && (backToKw cpos (keywordEach [] X.env)).all (fun x=>x.1.isSome)
   && decide ((e::es).length+([]:List Keyword).length+(if ([]:List Keyword).isEmpty then 0 else 1)<30))=true:=by rfl)
  (hline:(apos.endLine == cpos.line)=true:=by rfl) (hs:starEach (e::es) X.env=(false,eval e X.env)::starEach es X.env:=by rfl) (hplain:(backTo cpos (starEach es X.env)).any (·.1)=false:=by rfl) :
  PE X (.Call (.Attribute o name apos) (e::es) [] cpos) (tBM X.K T r to t):=by
 intro pins s σ H Q I h
 refine wpAny_Call_method_late hbase hfew hline rfl (thn (ho pins s σ H _ I h) fun v s1 ⟨x,H1,I1,r1,ty,q1⟩=>?_)
 obtain ⟨h1,h2⟩:=aOr I1 r1 ty
 refine ⟨T,id,pa,slot,hty,h1,h2,?_⟩
 have hA:=ha cpos pins s1 σ H1 _ I1 q1
 rw [hs] at hA ⊢
 refine Calls.callWith_builtin (by show (false || (backTo cpos (starEach es X.env)).any (·.1))=false;rw [hplain] <;> rfl) (Calls.evalArgs_plain ?_)
 exact thn hA fun us s2 ⟨vs,H2,I2,r2,q2⟩=>hm pins s2 σ H2 x vs v us Q I2 r1 r2 q2
end
def MtM (X:Cx) (id:String) (r:V→List V→Hp→VK→Prop):Prop:=
 ∀(pins:List (Addr × Obj)) (s:Shared) (σ:St) (H:Hp) (x:V) (xs:List V) (v:Value) (us:List Value) (Q:VK),Inv X pins σ H s→RelV x v→Vals xs us→r x xs H Q →
  wpAny (model X.prog X.w) X.A (call (.builtin id) (v::us)) (EP X pins σ Q) X.xe s
theorem Vals.one:∀{x:V} {us:List Value},Vals [x] us→∃u,us=[u]∧RelV x u
 |_,_,.cons r .nil=>⟨_,rfl,r⟩
theorem Vals.two:∀{x y:V} {us:List Value},Vals [x,y] us→∃u v,us=[u,v]∧RelV x u∧RelV y v
 |_,_,_,.cons r (.cons q .nil)=>⟨_,_,rfl,r,q⟩
theorem Vals.zero:∀{us:List Value},Vals [] us→us=[]
 |_,.nil=>rfl
theorem Vals.dropLast {xs:List V} {us:List Value} (h:Vals xs us):Vals xs.dropLast us.dropLast:=by
 induction h with
 |nil=>exact .nil
 |cons r t ih=>
  cases t with
  |nil=>exact .nil
  |cons q t'=>exact .cons r ih
theorem Vals.reverse {xs:List V} {us:List Value} (h:Vals xs us):Vals xs.reverse us.reverse:=by
 induction h with
 |nil=>exact .nil
 |cons r t ih=>rw [List.reverse_cons,List.reverse_cons];exact Vals.append ih (.cons r .nil)
theorem aJn {α:Type} (l:List α):l.eraseIdx (l.length - 1)=l.dropLast:=by
 induction l with
 |nil=>rfl
 |cons a r ih=>
  cases r with
  |nil=>rfl
  |cons b r=>
   have e:(a::b::r).length - 1=((b::r).length - 1)+1:=by
    have h1:(a::b::r).length=r.length+2:=rfl
    have h2:(b::r).length=r.length+1:=rfl
    omega
   rw [e,List.eraseIdx_cons_succ,ih]
   all_goals rfl
section
variable {X:Cx} {pins:List (Addr × Obj)} {σ:St} {H:Hp} {s:Shared} {l b:Addr} {xs ys zs:List V}
theorem Inv.lset {its its':List Value} {n:Nat} {f:Array Value→Array Value} {t':Nat} (I:Inv X pins σ H s) (hH:H l=some (.lst xs))
  (e:s.heap.get? l=some { cls:=.type "list",data:=.seq its.toArray n }) (hf:f its.toArray=its'.toArray) (hv:Vals ys its') (hz:ys.length≤sizeLine) :
  Inv X pins σ (upd H l (.lst ys)) { s with heap:=s.heap.update l (Obj.mapSeq f),toks:=t' }:=by
 have q:=PySem.IsL.update e f
 rw [hf] at q
 refine I.write (x:=l) (e:=l) (by rw [hH];exact trivial) (.inl rfl) (fun b' u hb hu=>(Heap.get?_update_other s.heap (Obj.mapSeq f) (Ne.symm hb)).trans hu) ⟨_,q⟩ ?_
 exact ⟨hz,its',_,hv,q⟩
theorem Inv.lnew {its:List Value} {t':Nat} (I:Inv X pins σ H s) (hv:Vals ys its) (hz:ys.length≤sizeLine) :
  Inv X pins σ (upd H s.heap.objs.size (.lst ys)) { s with heap:=s.heap.push { cls:=.type "list",data:=.seq its.toArray },toks:=t' }:=
 I.laid (fun _ _ q=>Heap.get?_push_of_some _ q) (Nat.le_refl _) ⟨hz,its,0,hv,Heap.get?_push_size _ rfl⟩
theorem Inv.fresh (I:Inv X pins σ H s):H s.heap.objs.size=none:=I.hok.fresh (Nat.le_refl _)
theorem Inv.aI5 (I:Inv X pins σ H s) (hH:H l=some (.lst xs)):xs.length≤sizeLine∧∃(its:List Value) (n:Nat),Vals xs its∧xs.length=its.length∧s.heap.get? l=some { cls:=.type "list",data:=.seq its.toArray n }:=by
 obtain ⟨z,its,n,r,e⟩:=I.hok l _ hH
 exact ⟨z,its,n,r,r.length,e⟩
theorem aNz {n:Nat} (h:n≤sizeLine):Builtin.List.listTooLong n=false:=by
 unfold Builtin.List.listTooLong
 exact decide_eq_false (by omega)
end
section
variable {X:Cx}
def aLg:V→List V→Hp→VK→Prop:=fun x vs H Q=>∃l xs y,x=.ref l∧vs=[y]∧H l=some (.lst xs)∧xs.length<sizeLine∧Q .non (upd H l (.lst (xs++[y])))
theorem pQ:MtM X "list.append" aLg:=by
 intro pins s σ H x vs v us Q I rx rv h
 obtain ⟨l,xs,y,rfl,rfl,hH,hz,q⟩:=h
 cases rx
 obtain ⟨u,rfl,ru⟩:=rv.one
 obtain ⟨z,its,n,r,hl,e⟩:=I.aI5 hH
 refine call_meets F.slot_list_append ⟨_,e,rfl⟩ F.entry_list_append (F.args_list_append_2 _ _) (PySem.list_append l its.toArray n u (by rw [List.size_toArray];omega)) ⟨e,?_⟩
 refine ⟨.non,_,I.lset (its':=its++[u]) hH e (by simp) (r.append (.cons ru .nil)) ?_,rfl,q⟩
 rw [List.length_append,List.length_singleton]
 omega
def aKa:V→List V→Hp→VK→Prop:=fun x vs H Q=>∃l b xs zs,x=.ref l∧vs=[.ref b]∧H l=some (.lst xs)∧H b=some (.lst zs)∧xs.length+zs.length≤sizeLine∧Q .non (upd H l (.lst (xs++zs)))
theorem aLo:MtM X "list.extend" aKa:=by
 intro pins s σ H x vs v us Q I rx rv h
 obtain ⟨l,b,xs,zs,rfl,rfl,hH,hB,hz,q⟩:=h
 cases rx
 obtain ⟨u,rfl,ru⟩:=rv.one
 cases ru
 obtain ⟨z,its,n,r,hl,e⟩:=I.aI5 hH
 obtain ⟨z2,its2,n2,r2,hl2,e2⟩:=I.aI5 hB
 have hsz:its.toArray.size+its2.toArray.size≤sizeLine:=by rw [List.size_toArray,List.size_toArray];omega
 have hlong:¬ (!its.toArray.isEmpty && Builtin.List.listTooLong (its.toArray.size+its2.toArray.size))=true:=by
  rw [aNz hsz,Bool.and_false]
  exact Bool.false_ne_true
 refine call_meets F.slot_list_extend ⟨_,e,rfl⟩ F.entry_list_extend (F.args_list_extend_2 _ _)
  (AutoSeq1.list_extend_list_list_0 l its.toArray n b its2.toArray n2 hlong (by rw [List.size_toArray];omega) (by omega)) ⟨e,e2,?_⟩
 refine ⟨.non,_,I.lset (its':=its++its2) hH e (by simp) (r.append r2) ?_,rfl,q⟩
 rw [List.length_append]
 omega
def aXa:V→List V→Hp→VK→Prop:=fun x vs H Q=>∃l xs y,x=.ref l∧vs=[]∧H l=some (.lst xs)∧xs[xs.length - 1]?=some y∧Q y (upd H l (.lst xs.dropLast))
theorem aVg:MtM X "list.pop" aXa:=by
 intro pins s σ H x vs v us Q I rx rv h
 obtain ⟨l,xs,y,rfl,rfl,hH,hy,q⟩:=h
 cases rx
 have hus:=rv.zero
 subst hus
 obtain ⟨z,its,n,r,hl,e⟩:=I.aI5 hH
 obtain ⟨u,hu,ru⟩:=r.get hy
 have hy':its.toArray[its.toArray.size - 1]?=some u:=by
  show its.toArray[its.length - 1]?=some u
  rw [←Array.getElem?_toList,←hl]
  exact hu
 refine call_meets F.slot_list_pop ⟨_,e,rfl⟩ F.entry_list_pop (F.args_list_pop_1 _) (MeetsSeq.list_pop_last l its.toArray n u hy' (by rw [List.size_toArray];omega)) ⟨e,?_⟩
 refine ⟨y,_,I.lset (its':=its.dropLast) hH e ?_ r.dropLast ?_,ru,q⟩
 ·show its.toArray.eraseIdxIfInBounds (its.toArray.size - 1)=its.dropLast.toArray
  rw [List.size_toArray,List.eraseIdxIfInBounds_toArray,aJn]
 ·rw [List.length_dropLast]
  omega
def aG1:V→List V→Hp→VK→Prop:=fun x vs H Q=>∃l xs,x=.ref l∧vs=[]∧H l=some (.lst xs)∧Q .non (upd H l (.lst xs.reverse))
theorem aHp:MtM X "list.reverse" aG1:=by
 intro pins s σ H x vs v us Q I rx rv h
 obtain ⟨l,xs,rfl,rfl,hH,q⟩:=h
 cases rx
 have hus:=rv.zero
 subst hus
 obtain ⟨z,its,n,r,hl,e⟩:=I.aI5 hH
 refine call_meets F.slot_list_reverse ⟨_,e,rfl⟩ F.entry_list_reverse (F.args_list_reverse_1 _) (AutoSeq1.list_reverse_list_0 l its.toArray n (by rw [List.size_toArray];omega)) ⟨e,?_⟩
 refine ⟨.non,_,I.lset (its':=its.reverse) hH e (by simp) r.reverse ?_,rfl,q⟩
 rw [List.length_reverse]
 omega
def aXy:R2:=fun x y H Q=>∃l b xs zs,x=.ref l∧y=.ref b∧H l=some (.lst xs)∧H b=some (.lst zs)∧xs.length+zs.length≤sizeLine∧∀p,H p=none→Q (.ref p) (upd H p (.lst (xs++zs)))
theorem aV2:OpR X (binaryOp .Add) aXy:=by
 intro pins s σ H x y v u Q I rx ry h
 obtain ⟨l,b,xs,zs,rfl,rfl,hH,hB,hz,q⟩:=h
 cases rx
 cases ry
 obtain ⟨z,its,n,r,hl,e⟩:=I.aI5 hH
 obtain ⟨z2,its2,n2,r2,hl2,e2⟩:=I.aI5 hB
 refine PySem.P.add_list e e2 ?_ (by rw [List.size_toArray,List.size_toArray];omega)
 have ea:its.toArray++its2.toArray=(its++its2).toArray:=by simp
 rw [ea]
 exact ⟨.ref _,_,I.lnew (t':=s.toks) (r.append r2) (by rw [List.length_append];omega),rfl,q _ I.fresh⟩
end
section
variable {prog:Program} {w:World} {A:Around} {E:Value→Shared→Prop} {s:Shared}
end
section
variable {X:Cx}
end
end L2
namespace Att
open PySem PySem.W PySem.Calls PyProof.Rows
theorem wK {P:Params} {h:Heap}:∀(ns:List Int) (vs:List Value),WellAll P h vs (ns.map WData.int)→IntsAre vs ns:=by
 intro ns
 induction ns with
 |nil=>
  intro vs w
  rw [List.map_nil] at w
  cases w
  exact .nil
 |cons n ns ih=>
  intro vs w
  rw [List.map_cons] at w
  cases w with
  |cons a b=>
   cases a
   exact .cons _ _ (ih _ b)
theorem aLp {l:OpenLaw} {n:Nat} (hn:l.most=some n) {P:Params} {h:Heap} {args:List WData} {vals:List Value}
  (hpre:l.row.toRowW.claim.pre args=true) (hwl:WellAll P h vals args) :
  ∃a vs ns,vals=[Value.ref a]∧args=[WData.list (ns.map WData.int)]∧h.get? a=some { cls:=.type "list",data:=.seq vs.toArray }∧IntsAre vs ns∧ns.length≤n:=by
 have hsh:WShape.hasAll [] args [.list .int]=true:=(pre_splitW hpre).1
 have hc:l.pre.holds [] { args:=args }=true:=(pre_splitW hpre).2
 obtain ⟨d,r,rfl,h1,h2⟩:=hasAllW_cons hsh
 obtain rfl:=hasAllW_nil h2
 obtain ⟨xs,rfl,h3⟩:=hasW_list h1
 obtain ⟨ns,rfl⟩:=items_int h3
 have hlen:ns.length≤n:=by
  unfold OpenLaw.pre at hc
  have h4:(WTm.not (.lt (.lit (.int (n:Int))) (.len (.arg 0)))).holds [] { args:=[.list (ns.map .int)] }=true:=by
   have h4:=(holds_andW hc).1
   rw [hn] at h4
   exact h4
  have h5:=condW_of h4 (w_not (w_lt w_lit (w_len_list (w_arg rfl))))
  rw [List.length_map] at h5
  refine Nat.le_of_not_lt fun q=>?_
  have q':(n:Int)<((ns.length:Nat):Int):=by omega
  first
   |(rw [decide_eq_true q'] at h5;exact absurd h5 (by decide))
   |(simp at h5;omega)
 cases hwl with
 |cons w1 w2=>
  cases w2
  cases w1 with
  |list ho hall=>exact ⟨_,_,ns,rfl,rfl,ho,wK ns _ hall,hlen⟩
theorem aMe (l:OpenLaw) (args:List WData):l.row.toRowW.claim.post args (.bool true) args=true:=
 postW_of (r:=l.row.toRowW) (X:=(true == true))
  (show WShape.has [] (.bool true) .bool=true by first|rfl|decide|simp [WShape.has,WShape.arms,WShape.armsAll])
  (show (WTm.eq .res (.lit (.bool true))).value [] { args:=args,res:=some (.bool true),after:=args }=some (.bool (true == true)) from w_eq_bool (w_res rfl) w_lit) rfl
theorem aG5 {l:OpenLaw} {n:Nat} {q:Program} {loose:List Str} {XP:(Str→Option Value)→Heap→Prop} {YP:World→Heap→Prop} {d:DefRec}
  (hn:l.most=some n) (hdf:d.params.defaults=[])
  (call:∀(w:World) (s₀ s₁:Shared) (mg mb:Str→Option Value) (fa:Addr) (o:Obj) (pm cd doc:Value) (a:Addr) (vs:List Value) (ns:List Int),
   Ground q loose [] XP w s₀ mg mb s₁.heap→YP w s₁.heap →
   s₁.heap.get? fa=some o→o.data=.func (docDef d.name d.params d.body d.scope pm cd doc)→s₁.heap.CodeRec cd d.name→mg d.name=some (.ref fa) →
   s₁.heap.get? a=some { cls:=.type "list",data:=.seq vs.toArray }→IntsAre vs ns→ns.length≤n→s₁.gens=#[] →
   codeAny (model l.prog w) callerA (.call (.ref fa) ⟨[.ref a],[]⟩) (fun r s'=>r=.ok (.ret (.bool true))∧OldK s₁.heap s'.heap∧s'.os=s₁.os∧AllBare s'.gens) s₁) :
  WalkO q loose XP YP l.row.toRowW d [] (fun f vs=>PySem.call f vs):=by
 intro w s₀ s₁ mg mb G Y fa o pm cd doc dV kV ho hd hcd hD hmg hg args vals as hpre hlay hrd hwl hlo
 obtain rfl:dV=.none:=Dflts.none hD hdf
 obtain rfl:kV=.none:=Dflts.noKw hD
 obtain ⟨a,vs,ns,rfl,rfl,hobj,hints,hlen⟩:=aLp hn hpre hwl
 refine enter_call (codeAny_mono (call w s₀ s₁ mg mb fa o pm cd doc a vs ns G Y ho (fd_plain hd) hcd hmg hobj hints hlen hg) fun r s' hq=>?_)
 obtain ⟨rfl,h2,h3,h4⟩:=hq
 exact ⟨.inl ⟨.bool true,.bool true,[],rfl,fun _=>rfl,.bool true,aMe l _,fun _=>⟨List.Pairwise.nil,fun _ hm=>(nomatch hm)⟩⟩,h2,h3,h4⟩
section
variable {prog:Program} {w:World} {A:Around} {E:Value→Shared→Prop} {s:Shared} {K:Frag}
end
end Att
namespace L2
open PySem PySem.Spec PyProof.Rows
theorem aBa:∀{vs:List Value} {ns:List Int},IntsAre vs ns→Vals (ns.map V.int) vs
 |_,_,.nil=>.nil
 |_,_,.cons n t h=>.cons ⟨t,rfl⟩ (aBa h)
def Only (H:Hp):Prop:=∀b,H b=none∨∃o xs,H b=some (.frz o (.lst xs))
theorem aPx {P:Program} {w:World} {K:PySem.W.Frag} {mg mb:Str→Option Value} {CX:CXT} {k:Nat} {fa a:Addr} {fd:FuncData} {x:Str} {sp:Sp} {s₁:Shared} {vs:List Value} {ns:List Int}
  (KX:K.In s₁.heap) (hns:s₁.heap.Ns mainGlobals mg) (hb:s₁.heap.Ns builtinsNs mb) (hbb:∀x:Str,x≠"__name__"→mb x=bootBuiltins x) (hlim:s₁.heap.NoLimit) (hg:s₁.gens=#[])
  (ha:s₁.heap.get? a=some { cls:=.type "list",data:=.seq vs.toArray }) (hi:IntsAre vs ns) (hl:ns.length≤sizeLine) (hr:Room k callerA)
  (F:∀base:Heap,K.In base→base.Ns mainGlobals mg→lW P w K mg base CX k fa fd [x] sp) (hbind:∀(s:Shared) (u:Value),BindsTo s fd ⟨[u],[]⟩ [(x,u)])
  (hsp:∀H:Hp,Only H→SqL K H a (ns.map V.int)→sp [.ref a] H (fun v _=>v=.bl true) fun _ _ _=>False)
  (hCX:∀H e s',CX [] H s₁ (fun _ _ _=>False) e s'→False) :
  codeAny (model P w) callerA (.call (.ref fa) ⟨[.ref a],[]⟩) (fun r s'=>r=.ok (.ret (.bool true))∧OldK s₁.heap s'.heap∧s'.os=s₁.os∧AllBare s'.gens) s₁:=by
 have rv:=aBa hi
 have lenV:=hi.length
 have core:∀H:Hp,Only H→SqL K H a (ns.map V.int)→HOk P w H s₁.heap→(∀b,H b≠none→b=a)→(H a≠none→K.lookup a=none) →
   codeAny (model P w) callerA (.call (.ref fa) ⟨[.ref a],[]⟩) (fun r s'=>r=.ok (.ret (.bool true))∧OldK s₁.heap s'.heap∧s'.os=s₁.os∧AllBare s'.gens) s₁:=by
  intro H hO hS hok hA hK
  have base_of:∀{b:Addr} {o:Obj},s₁.heap.get? b=some o→H b=none→(aCn s₁.heap H).get? b=some o:=fun e n=>aN7 e n
  have noA:∀{b:Addr} {o:Obj} {es:Array DictEntry} {ep:Nat},s₁.heap.get? b=some o→o.data=.dict es ep→H b=none:=fun {b o es ep} e d=>by
   cases q:H b with
   |none=>rfl
   |some u=>
    have e':b=a:=hA b (by rw [q];simp)
    subst e'
    rw [ha] at e;cases e
    have d':Data.seq vs.toArray _=Data.dict es ep:=d
    cases d'
  have nsK:∀{b:Addr} {m:Str→Option Value},s₁.heap.Ns b m→(aCn s₁.heap H).Ns b m:=fun {b m} ⟨o,es,ep,e,d,r⟩=>⟨o,es,ep,base_of e (noA e d),d,r⟩
  have hKb:K.In (aCn s₁.heap H):=fun b o e=>base_of (KX b o e) (by
   cases q:H b with
   |none=>rfl
   |some u=>
    have e':b=a:=hA b (by rw [q];simp)
    subst e'
    rw [hK (by rw [q];simp)] at e;cases e)
  have hM:Mod K mg (aCn s₁.heap H):=⟨hKb,nsK hns,⟨mb,nsK hb,hbb⟩,let ⟨mc,h1,h2⟩:=hlim;⟨mc,nsK h1,h2⟩⟩
  have e0:aSj P w K mg (aCn s₁.heap H) callerA [] s₁ H:=⟨rfl,hM,fun b o e=>aSy e,Nat.le_of_eq (aNe _ _),trivial,fun b hb=>absurd (show b∈([]:List Addr) from hb) (by simp),hok,.of_eq hg⟩
  refine codeAny_mono ((F _ hKb (nsK hns)).run callerA [] s₁ H ⟨[.ref a],[]⟩ [.ref a] [.ref a] _ _ hr e0 (hbind s₁ (.ref a)) (.cons rfl .nil) (hsp H hO hS)) fun r s' h=>?_
  cases r with
  |error e=>exact (hCX H e s' h).elim
  |ok fl=>
   cases fl with
   |next=>exact False.elim h
   |brk=>exact False.elim h
   |cont=>exact False.elim h
   |ret u=>
    obtain ⟨v,H',os,bare,un,hok',r',q⟩:=h
    have q':v=.bl true:=q
    subst q'
    obtain rfl:u=Value.bool true:=r'
    refine ⟨rfl,OldK.of_keep fun b o e=>?_,os,bare⟩
    cases q:H b with
    |none=>exact un.keep b o e q (by intro z;exact absurd (show b∈([]:List Addr) from z) (by simp)) (by simp)
    |some u=>
     rcases hO b with z|⟨ob,xs,z⟩
     ·rw [q] at z;cases z
     ·have z2:=un.frzs b ob _ z
      obtain ⟨e1,_⟩:=hok b _ z
      obtain ⟨e2,_⟩:=hok' b _ z2
      rw [e] at e1;cases e1
      exact e2
 cases hk:K.lookup a with
 |some o=>
  have e:=KX a o hk
  rw [ha] at e
  cases e
  refine core (fun _=>none) (fun _=>.inl rfl) (.inr ⟨_,vs.toArray,_,hk,rfl,rfl,rfl,by rw [List.size_toArray,lenV];exact hl,by simpa using rv⟩) (fun b u z=>by have z':(none:Option HO)=some u:=z;cases z') (fun b z=>absurd rfl z) fun z=>absurd rfl z
 |none=>
  refine core (fun b=>if b=a then some (.frz { cls:=.type "list",data:=.seq vs.toArray } (.lst (ns.map V.int))) else none) (fun b=>?_) (.inl (.inr ⟨{ cls:=.type "list",data:=.seq vs.toArray },if_pos rfl⟩)) (fun b u z=>?_) (fun b z=>?_) fun _=>hk
  ·by_cases hb:b=a
   ·exact .inr ⟨_,_,if_pos hb⟩
   ·exact .inl (if_neg hb)
  ·by_cases hb:b=a
   ·have z':=(if_pos hb).symm.trans z
    cases z'
    subst hb
    exact ⟨ha,by rw [List.length_map];exact hl,vs,_,rv,ha⟩
   ·have z':=(if_neg hb).symm.trans z
    cases z'
  ·by_cases hb:b=a
   ·exact hb
   ·exact absurd (if_neg hb) z
abbrev KOf {K:PySem.W.Frag} {h:Heap} (_:K.In h):PySem.W.Frag:=K
theorem aSf {l:PySem.W.OpenLaw} {n k:Nat} {q:Program} {loose:List Str} {XP:(Str→Option Value)→Heap→Prop} {YP:World→Heap→Prop} {d:DefRec} {K:Params→PySem.W.Frag} {CX:World→CXT} {sp:World→Sp} {x:Str}
  (hn:l.most=some n) (hn2:n≤sizeLine) (hdf:d.params.defaults=[]) (hr:Room k callerA)
  (hY:∀(w:World) (h:Heap),YP w h→(K w.params).In h)
  (F:∀(w:World) (mg:Str→Option Value) (fa:Addr) (h:Heap),(K w.params).In h→h.Ns mainGlobals mg→mg d.name=some (.ref fa) →
   ∃fd:FuncData,(∀(s:Shared) (u:Value),BindsTo s fd ⟨[u],[]⟩ [(x,u)]) ∧
    ∀base:Heap,(K w.params).In base→base.Ns mainGlobals mg→lW l.prog w (K w.params) mg base (CX w) k fa fd [x] (sp w))
  (hsp:∀(w:World) (H:Hp) (a:Addr) (ns:List Int),ns.length≤n→Only H→SqL (K w.params) H a (ns.map V.int)→sp w [.ref a] H (fun v _=>v=.bl true) fun _ _ _=>False)
  (hCX:∀(w:World) (H:Hp) (s:Shared) (e:Value) (s':Shared),CX w [] H s (fun _ _ _=>False) e s'→False) :
  PySem.W.WalkO q loose XP YP l.row.toRowW d [] (fun f vs=>PySem.call f vs):=by
 refine Att.aG5 hn hdf fun w s₀ s₁ mg mb fa o pm cd doc a vs ns G Y ho hd hcd hmg hobj hints hlen hg=>?_
 have KX:=hY w _ Y
 obtain ⟨fd,hb,hF⟩:=F w mg fa _ KX G.T.g hmg
 exact aPx KX G.T.g G.T.b G.T.builtins G.T.nolimit hg hobj hints (Nat.le_trans hlen hn2) hr hF hb (fun H hO hS=>hsp w H a ns hlen hO hS) fun H e s'=>hCX w H s₁ e s'
theorem aP3 {l:PySem.W.OpenLaw} {n k:Nat} {q:Program} {loose:List Str} {XP:(Str→Option Value)→Heap→Prop} {YP:World→Heap→Prop} {d:DefRec} {K:Params→PySem.W.Frag} {CX:CXT} {sp:PySem.W.Frag→Sp} {x:Str}
  (hn:l.most=some n) (hn2:n≤sizeLine) (hdf:d.params.defaults=[]) (hr:Room k callerA)
  (hY:∀(w:World) (h:Heap),YP w h→(K w.params).In h)
  (F:∀(w:World) (mg:Str→Option Value) (fa:Addr) (h:Heap),(K w.params).In h→h.Ns mainGlobals mg→mg d.name=some (.ref fa) →
   ∃fd:FuncData,(∀(s:Shared) (u:Value),BindsTo s fd ⟨[u],[]⟩ [(x,u)]) ∧
    ∀base:Heap,(K w.params).In base→base.Ns mainGlobals mg→lW l.prog w (K w.params) mg base CX k fa fd [x] (sp (K w.params)))
  (hsp:∀(K:PySem.W.Frag) (H:Hp) (a:Addr) (ns:List Int),ns.length≤n→Only H→SqL K H a (ns.map V.int)→sp K [.ref a] H (fun v _=>v=.bl true) fun _ _ _=>False)
  (hCX:∀(H:Hp) (s:Shared) (e:Value) (s':Shared),CX [] H s (fun _ _ _=>False) e s'→False) :
  PySem.W.WalkO q loose XP YP l.row.toRowW d [] (fun f vs=>PySem.call f vs):=
 aSf (K:=K) (CX:=fun _=>CX) (sp:=fun w=>sp (K w.params)) hn hn2 hdf hr hY F (fun w H a ns h1 h2 h3=>hsp (K w.params) H a ns h1 h2 h3) fun _ H s e s'=>hCX H s e s'
def pW (s:Stmt):Arguments:=match s with
 |.FunctionDef _ a _ _ _ _ _ _ _ _=>a
 |_=>{ posonlyargs:=[],args:=[],vararg:=none,kwonlyargs:=[],kw_defaults:=[],kwarg:=none,defaults:=[] }
def iQ (s:Stmt):List Stmt:=match s with
 |.FunctionDef _ _ b _ _ _ _ _ _ _=>b
 |_=>[]
def aF (s:Stmt):Scope:=match s with
 |.FunctionDef _ _ _ _ _ _ sc _ _ _=>sc
 |_=>{ kind:=.function,names:=[],isGenerator:=false,isCoroutine:=false }
abbrev CX0:CXT:=fun _ _ _ _ _ _=>False
abbrev E0:XK:=fun _ _ _=>False
theorem aOt {X:Cx}:aD5 CX0 X E0:=fun _ _ _ _ _ _ _ h=>h.elim
structure Fun (K:PySem.W.Frag) (x qual:Str) (st:Stmt) (f:Addr) (fd:FuncData):Prop where
 ex:∃(oc:Value) (od:Option Addr) (kV doc pm:Value) (an:Option Addr) (cdv ct:Value) (osl:Array (Option Value)),
  fd=PySem.W.fnOf x qual (pW st) (iQ st) (aF st) .none kV doc pm an cdv ct∧K.lookup f=some ⟨oc,od,.func fd,osl⟩∧PySem.W.codeIn K cdv qual=true
 kp:PySem.W.keepIn K (.ref f)=true
section
variable {P:Program} {w:World} {K:PySem.W.Frag} {mg:Str→Option Value} {base:Heap}
theorem Fun.ok {x qual:Str} {st:Stmt} {f:Addr} {fd:FuncData} {N ps:List Str} {k:Nat} {sp:Sp} (F:Fun K x qual st f fd) (S:aK N ps (aF st)) (len:∀vs H Q E,sp vs H Q E→vs.length=ps.length)
  (hbody:∀(cdv:Value) (A:Around) (outer:List Env) (s:Shared) (H:Hp) (vs:List V) (Q:VK) (E:XK),Room k (A.deeper (envOfC qual (aF st) s.heap.objs.size f cdv))→sp vs H Q E →
   ∃t,PSs (aB5 CX0 P w K mg base N qual (aF st) f cdv A outer s H E).nox (iQ st) t∧t { nx:=fun _ H'=>Q .non H',rt:=Q } (start N vs) H):lW P w K mg base CX0 (k+1) f fd ps sp:=by
 obtain ⟨oc,od,kV,doc,pm,an,cdv,ct,osl,rfl,lk,hcd⟩:=F.ex
 refine aWl lk hcd S len fun A outer s H vs Q E hr hsp=>?_
 obtain ⟨t,h,q⟩:=hbody cdv A outer s H vs Q E hr hsp
 exact ⟨t,h.nox,q⟩
theorem Fun.binds {x qual:Str} {st:Stmt} {f:Addr} {fd:FuncData} {ps:List Str} (F:Fun K x qual st f fd)
  (h:∀(kV doc pm:Value) (an:Option Addr) (cdv ct:Value) (us:List Value),us.length=ps.length→bindArgs (PySem.W.fnOf x qual (pW st) (iQ st) (aF st) .none kV doc pm an cdv ct) ⟨us,[]⟩=pure (ps.zip us)):Binds K fd ps []:=by
 obtain ⟨oc,od,kV,doc,pm,an,cdv,ct,osl,rfl,lk,hcd⟩:=F.ex
 exact .all (h kV doc pm an cdv ct)
theorem aPe {x qual:Str} {st:Stmt} {f:Addr} {oc:Value} {od an:Option Addr} {osl:Array (Option Value)} {kV doc pm cdv ct:Value} (l:K.lookup f=some ⟨oc,od,.func (PySem.W.fnOf x qual (pW st) (iQ st) (aF st) .none kV doc pm an cdv ct),osl⟩)
  (c:PySem.W.codeIn K cdv qual=true) (k:PySem.W.keepIn K (.ref f)=true):Fun K x qual st f (PySem.W.fnOf x qual (pW st) (iQ st) (aF st) .none kV doc pm an cdv ct):=⟨⟨oc,od,kV,doc,pm,an,cdv,ct,osl,rfl,l,c⟩,k⟩
end
theorem aFq {A:Around} {k:Nat} (hr:Room k A):A.units+1<cLine:=Nat.lt_of_le_of_lt (Nat.add_le_add_left (by decide:1≤64) _) hr.units
theorem lN {n:Nat} (h:n≤1000):n<sizeLine:=Nat.lt_of_le_of_lt h (by decide)
section
variable {X:Cx}
theorem pv (i:Nat) {x:Str} {pos:Pos} (hN:X.N[i]?=some x:=by rfl) (hv:Vis X.env.scope x:=by trivial) (hd:(x == ("__debug__":Str))=false:=by decide)
  (hcd:(x == ("__classdict__":Str))=false:=by decide):PE X (.Name x pos) (aJb i):=aUt hN hv hd hcd
end
theorem bF {A B:Prop} (h:B):if false=true then A else B:=by
 rw [if_neg Bool.false_ne_true]
 exact h
theorem cV {A B:Prop} (h:A):if true=true then A else B:=by
 rw [if_pos rfl]
 exact h
theorem sO {c A B:Prop} [Decidable c] (h1:c→A) (h2:¬ c→B):if c then A else B:=by
 by_cases h:c
 ·rw [if_pos h]
  exact h1 h
 ·rw [if_neg h]
  exact h2 h
def Same (H H':Hp):Prop:=∀b o,H b=some o→H' b=some o
theorem Same.refl (H:Hp):Same H H:=fun _ _ h=>h
theorem Same.trans {H H1 H2:Hp} (a:Same H H1) (b:Same H1 H2):Same H H2:=fun c o h=>b c o (a c o h)
theorem Same.free {H H':Hp} (e:Same H H') {l:Addr} (h:H' l=Option.none):H l=Option.none:=by
 cases q:H l with
 |none=>rfl
 |some o=>
  rw [e l o q] at h
  cases h
theorem Same.seq {K:PySem.W.Frag} {H H':Hp} {a:Addr} {xs:List V} (e:Same H H') (h:SqL K H a xs):SqL K H' a xs:=by
 rcases h with (h|⟨o,h⟩)|h
 ·exact .inl (.inl (e _ _ h))
 ·exact .inl (.inr ⟨o,e _ _ h⟩)
 ·exact .inr h
end L2
namespace PySem
namespace RvF
theorem slot_next:Slot "reversed" "__next__" "reversed.__next__":=
 .of (owner:="reversed") (n:="__next__") (by rw [typeLookup_type,builtinLookup_eq_fast];kernel_rfl) (by decide +kernel) (by decide +kernel) (by decide +kernel)
  (by first|exact .inl (by decide +kernel)|exact .inr (by decide +kernel)) (by rw [isSubtype_type];kernel_rfl)
theorem aAu:Slot "reversed" "__iter__" "reversed.__iter__":=
 .of (owner:="reversed") (n:="__iter__") (by rw [typeLookup_type,builtinLookup_eq_fast];kernel_rfl) (by decide +kernel) (by decide +kernel) (by decide +kernel)
  (by first|exact .inl (by decide +kernel)|exact .inr (by decide +kernel)) (by rw [isSubtype_type];kernel_rfl)
theorem aMw:Slot "reversed" "__init__" "object.__init__":=
 .of (owner:="object") (n:="__init__") (by rw [typeLookup_type,builtinLookup_eq_fast];kernel_rfl) (by decide +kernel) (by decide +kernel) (by decide +kernel)
  (by first|exact .inl (by decide +kernel)|exact .inr (by decide +kernel)) (by rw [isSubtype_type];kernel_rfl)
theorem entry_next:entryFor table "reversed.__next__"=some Builtin.«reversed.__next__»:=entryFor_of_tree (by kernel_rfl)
theorem aJd:entryFor table "reversed.__iter__"=some Builtin.«dict_keyiterator.__iter__»:=
 entryFor_alias (id':="dict_keyiterator.__iter__") (by kernel_rfl) (by first|rfl|decide +kernel|(unfold String.splitOn;simp +decide [String.splitOnAux])) (by decide +kernel) (by kernel_rfl)
theorem aM4:entryFor table "reversed.__new__"=some Builtin.«reversed.__new__»:=entryFor_of_tree (by kernel_rfl)
theorem owner:Manifest.owners.lookup (String.ofList ['d','e','s','r','e','v','e','r'].reverse)=some Manifest.sig_reversed:=by kernel_rfl
theorem vX (a:Value):argsOk "reversed.__next__" ⟨[a],[]⟩:=by
 unfold argsOk;rw [signature?_of (id:="reversed.__next__") (n:=['_','_','t','x','e','n','_','_']) (o:=['d','e','s','r','e','v','e','r']) (by kernel_rfl) owner];kernel_rfl
theorem aGm (a:Value):argsOk "reversed.__iter__" ⟨[a],[]⟩:=by
 unfold argsOk;rw [signature?_of (id:="reversed.__iter__") (n:=['_','_','r','e','t','i','_','_']) (o:=['d','e','s','r','e','v','e','r']) (by kernel_rfl) owner];kernel_rfl
theorem mro:mroOf (.type "reversed")=pure [.type "reversed",.type "object"]:=by rw [mroOf_type];kernel_rfl
theorem aJz:typeLookup (.type "reversed") "__new__"=pure (some (.builtin "reversed.__new__")):=by rw [typeLookup_type,builtinLookup_eq_fast];kernel_rfl
theorem sub_self:isSubtype (.type "reversed") (.type "reversed")=pure true:=by rw [isSubtype_type];kernel_rfl
theorem called:TypeCalled "reversed" "reversed.__new__" "object.__init__":=
 ⟨by decide +kernel,by decide +kernel,⟨_,_,mro⟩,madeBy_type mro aJz (by decide +kernel),by decide +kernel,sub_self,aMw⟩
theorem aJu (a:Value):checkTypeCall "reversed" ⟨[a],[]⟩=pure ():=by kernel_rfl
theorem aMx (a:Value):checkBuiltinCall "reversed.__new__" ⟨[.type "reversed",a],[]⟩=pure ():=by kernel_rfl
end RvF
theorem aGe (a:Value):Builtin.SmallTypes.newClass "reversed" ⟨[.type "reversed",a],[]⟩=pure (.type "reversed",[a]):=by
 unfold Builtin.SmallTypes.newClass
 simp only [isType,RvF.sub_self,pure_bind,Bool.not_true,Bool.false_eq_true,if_false]
section
variable {prog:Program} {w:World} {A:Around} {E:Value→Shared→Prop} {s:Shared}
end
end PySem
namespace L2
open PySem PySem.Spec PyProof.Rows
theorem aI6:bootBuiltins "int"=some (.type "int"):=by decide +kernel
theorem aJ8:bootBuiltins "bool"=some (.type "bool"):=by decide +kernel
theorem aIo:bootBuiltins "str"=some (.type "str"):=by decide +kernel
theorem wU:bootBuiltins "list"=some (.type "list"):=by decide +kernel
theorem cC:bootBuiltins "tuple"=some (.type "tuple"):=by decide +kernel
theorem aRe:bootBuiltins "dict"=some (.type "dict"):=by decide +kernel
theorem aVm:bootBuiltins "set"=some (.type "set"):=by decide +kernel
theorem aHf:bootBuiltins "reversed"=some (.type "reversed"):=by decide +kernel
theorem aU1:bootBuiltins "zip"=some (.type "zip"):=by decide +kernel
theorem aDd:bootBuiltins "enumerate"=some (.type "enumerate"):=by decide +kernel
theorem bJ:bootBuiltins "isinstance"=some (.builtin "isinstance"):=by decide +kernel
theorem cI:bootBuiltins "len"=some (.builtin "len"):=by decide +kernel
theorem yE:bootBuiltins "all"=some (.builtin "all"):=by decide +kernel
theorem aP0:bootBuiltins "any"=some (.builtin "any"):=by decide +kernel
theorem jK:bootBuiltins "sorted"=some (.builtin "sorted"):=by decide +kernel
theorem aVf:bootBuiltins "abs"=some (.builtin "abs"):=by decide +kernel
def sgn (x:Str) (i:Nat):Str:=⟨#[x.cps.getD i 0]⟩
theorem aNq {x:Str} {i c:Nat} (h:x.cps[i]?=some c):(⟨#[c]⟩:Str)=sgn x i:=by
 unfold sgn
 rw [Array.getD_eq_getD_getElem?,h]
 rfl
def Its (x:Str):It:=⟨fun i _=>i<x.cps.size,fun i H v H'=>H'=H∧v=.str (sgn x i),fun i _=>x.cps.size≤i⟩
theorem aMi {P:Program} {w:World} {K:PySem.W.Frag} {tg:Expr} (it:Addr) (x:Str) (t:Tok):Turn P w K tg (Its x) [it] it (fun i h=>h.IsStrIter it "str_ascii_iterator" x t i) where
 mem:=by simp
 obj:=fun i h st b hb=>by
  have e:b=it:=by simpa using hb
  subst e
  obtain ⟨o,e,c,d⟩:=st
  exact ⟨o,e,fun v z=>by rw [d] at z;cases z⟩
 keep:=fun i h h' st k=>let ⟨o,ho,r⟩:=st;⟨o,k it (by simp) o ho,r⟩
 item:=by
  intro X hP hw hK hc i pins s σ H E I hf st hg
  subst hP hw hK
  obtain ⟨f0,f1,f2,f3,f4,f5⟩:=hf it (by simp)
  refine (Walks.strAscii (prog:=X.prog) (w:=X.w) (I.ok.hd hc) it x t).item i s _ _ hg st fun v h' tk hv st' kk=>?_
  obtain ⟨c,u,hcx,rfl⟩:=hv
  have I1:Inv X pins σ H { s with heap:=h',toks:=tk }:=I.turned (fun b o hb e=>kk b o (by simpa using hb) e) f0 f1 f3 f4 f5
  obtain ⟨o,e,c',d⟩:=id st'
  exact ⟨_,rfl,xK (s:={ s with heap:=h',toks:=tk }) e c' d (by decide) ⟨.str ⟨#[c]⟩,H,I1,⟨u,rfl⟩,⟨rfl,by rw [aNq hcx]⟩,st',fun b hb=>(hf b hb).1⟩⟩
 done:=by
  intro X hP hw hK hc i pins s σ H E I hf st hg
  subst hP hw hK
  obtain ⟨f0,f1,f2,f3,f4,f5⟩:=hf it (by simp)
  exact wpAny_pyNext_ascii_end (I.ok.hd hc) st (Array.getElem?_eq_none_iff.mpr hg) fun h' eb=>⟨rfl,I.turned (t':=s.toks) (fun b o hb e=>eb b o hb e) f0 f1 f3 f4 f5⟩
 self:=fun _ _ _ _ _ st h=>wpAny_pyIter_striter_ascii st h
theorem aMk {P:Program} {w:World} {K:PySem.W.Frag} {tg:Expr} (it:Addr) (x:Str) (t:Tok):Turn P w K tg (Its x) [it] it (fun i h=>h.IsStrIter it "str_iterator" x t i) where
 mem:=by simp
 obj:=fun i h st b hb=>by
  have e:b=it:=by simpa using hb
  subst e
  obtain ⟨o,e,c,d⟩:=st
  exact ⟨o,e,fun v z=>by rw [d] at z;cases z⟩
 keep:=fun i h h' st k=>let ⟨o,ho,r⟩:=st;⟨o,k it (by simp) o ho,r⟩
 item:=by
  intro X hP hw hK hc i pins s σ H E I hf st hg
  subst hP hw hK
  obtain ⟨f0,f1,f2,f3,f4,f5⟩:=hf it (by simp)
  refine (Walks.strWide (prog:=X.prog) (w:=X.w) (I.ok.hd hc) it x t).item i s _ _ hg st fun v h' tk hv st' kk=>?_
  obtain ⟨c,u,hcx,rfl⟩:=hv
  have I1:Inv X pins σ H { s with heap:=h',toks:=tk }:=I.turned (fun b o hb e=>kk b o (by simpa using hb) e) f0 f1 f3 f4 f5
  obtain ⟨o,e,c',d⟩:=id st'
  exact ⟨_,rfl,xK (s:={ s with heap:=h',toks:=tk }) e c' d (by decide) ⟨.str ⟨#[c]⟩,H,I1,⟨u,rfl⟩,⟨rfl,by rw [aNq hcx]⟩,st',fun b hb=>(hf b hb).1⟩⟩
 done:=by
  intro X hP hw hK hc i pins s σ H E I hf st hg
  subst hP hw hK
  obtain ⟨f0,f1,f2,f3,f4,f5⟩:=hf it (by simp)
  exact wpAny_pyNext_wide_end (I.ok.hd hc) st (Array.getElem?_eq_none_iff.mpr hg) fun h' eb=>⟨rfl,I.turned (t':=s.toks) (fun b o hb e=>eb b o hb e) f0 f1 f3 f4 f5⟩
 self:=fun _ _ _ _ _ st h=>wpAny_pyIter_striter_wide st h
section
variable {X:Cx} {tg:Expr}
def aVy (tl:TE):TI:=fun σ H R=>tl σ H fun x H1=>∃z,x=.str z∧R (Its z) H1
theorem aUo {l:Expr} {tl:TE} (hl:PE X l tl):PI X tg l (aVy tl):=by
 intro pins s σ H R I h
 refine thn (hl pins s σ H _ I h) fun v s1 ⟨x,H1,I1,r1,q1⟩=>?_
 obtain ⟨z,e,q⟩:=q1
 subst e
 obtain ⟨t,rfl⟩:=r1
 have fp:∀b∈[s1.heap.objs.size],oA X pins H1 b:=fun b hb=>by
  have e:b=s1.heap.objs.size:=by simpa using hb
  subst e
  exact I1.aB2 (Nat.le_refl _) (I1.hok.fresh (Nat.le_refl _))
 cases ha:z.cps.all (·<128)
 ·exact wpAny_pyIter_wide ha ⟨s1.heap.objs.size,[s1.heap.objs.size],_,_,H1,rfl,I1.kept (t':=s1.toks) fun b o e=>Heap.get?_push_of_some _ e,aMk _ z t,⟨_,Heap.get?_push_size _ rfl,rfl,rfl⟩,fp,q⟩
 ·exact wpAny_pyIter_ascii ha ⟨s1.heap.objs.size,[s1.heap.objs.size],_,_,H1,rfl,I1.kept (t':=s1.toks) fun b o e=>Heap.get?_push_of_some _ e,aMi _ z t,⟨_,Heap.get?_push_size _ rfl,rfl,rfl⟩,fp,q⟩
def aHu (x:V) (T:String):Option Bool:=match x with
 |.int _=>if T = "int" then some true else if T = "bool" then some false else if T = "str" then some false else none
 |.str _=>if T = "int" then some false else if T = "bool" then some false else if T = "str" then some true else none
 |.bl _=>if T = "int" then some true else if T = "bool" then some true else if T = "str" then some false else none
 |_=>none
def aW3:List V→Hp→VK→Prop:=fun xs H Q=>∃x T b,xs=[x,.ty T]∧aHu x T=some b∧Q (.bl b) H
theorem oW:cD X (.builtin "isinstance") aW3:=by
 intro pins s σ H xs us Q I r h
 obtain ⟨x,T,b,rfl,e,q⟩:=h
 obtain ⟨u,v,rfl,rx,rT⟩:=r.two
 cases rT
 have f0:∀{k:Bool},some k=some b→EP X pins σ Q (.bool k) s:=fun e=>by cases e;exact ⟨.bl _,H,I,rfl,q⟩
 have f1:∀{k:Bool},some k=some b→EP X pins σ Q (.bool k) { s with toks:=s.toks+1 }:=fun e=>by cases e;exact ⟨.bl _,H,I.tok _,rfl,q⟩
 cases x with
 |int i=>
  obtain ⟨t,rfl⟩:=rx
  unfold aHu at e
  dsimp only at e
  split at e
  ·rename_i hT;subst hT;exact IsiPair.int_int (f0 e)
  split at e
  ·rename_i hT;subst hT;exact IsiPair.int_bool (f1 e)
  split at e
  ·rename_i hT;subst hT;exact IsiPair.int_str (f1 e)
  ·cases e
 |str z=>
  obtain ⟨t,rfl⟩:=rx
  unfold aHu at e
  dsimp only at e
  split at e
  ·rename_i hT;subst hT;exact IsiPair.str_int (f1 e)
  split at e
  ·rename_i hT;subst hT;exact IsiPair.str_bool (f1 e)
  split at e
  ·rename_i hT;subst hT;exact IsiPair.str_str (f0 e)
  ·cases e
 |bl z=>
  cases rx
  unfold aHu at e
  dsimp only at e
  split at e
  ·rename_i hT;subst hT;exact IsiPair.bool_int (f0 e)
  split at e
  ·rename_i hT;subst hT;exact IsiPair.bool_bool (f0 e)
  split at e
  ·rename_i hT;subst hT;exact IsiPair.bool_str (f1 e)
  ·cases e
 |_=>cases (show (none:Option Bool)=some b from e)
end
theorem small {n:Nat} (h:n≤1000):n≤sizeLine:=Nat.le_of_lt (lN h)
theorem cT:Vals [] []:=.nil
theorem bH {x:V} {u:Value} {xs:List V} {us:List Value} (r:RelV x u) (t:Vals xs us):Vals (x::xs) (u::us):=.cons r t
def gJ:Expr→Bool
 |.Starred ..=>false
 |_=>true
theorem bO {e:Expr} {es:List Expr} {env:Env} (h:gJ e=true):starEach (e::es) env=(false,eval e env)::starEach es env:=by
 cases e <;> first|rfl|cases h
theorem aXv {X:Cx} {e:Expr} {es:List Expr} {te:TE} {t:TA} (ha:PE X e te) (hr:PA X es t) (hp:gJ e=true:=by rfl) :
  PA X (e::es) (dH te t):=aR1 ha hr (bO hp)
theorem aW0 {X:Cx} {x:Str} {v:V} {pos:Pos} (hg:Gl X x) (hm:∃u,X.mg x=some u∧RelV v u) (hd:(x == ("__debug__":Str))=false:=by decide):PE X (.Name x pos) (tC v):=by
 obtain ⟨u,hm,r⟩:=hm
 exact aQ6 hg hm r hd
section
variable {P:Program} {w:World} {K:PySem.W.Frag} {mg:Str→Option Value} {base:Heap}
def Dn (K:PySem.W.Frag) (mg:Str→Option Value) (x:Str) (st:Stmt) (ps:List Str):Prop:=∃f fd,Fun K x x st f fd∧Binds K fd ps []∧mg x=some (.ref f)
def Ok (P:Program) (w:World) (K:PySem.W.Frag) (mg:Str→Option Value) (base:Heap) (k:Nat) (x:Str) (ps:List Str) (sp:Sp):Prop:=
 ∃f fd,mg x=some (.ref f)∧PySem.W.keepIn K (.ref f)=true∧Binds K fd ps []∧lW P w K mg base CX0 k f fd ps sp
theorem Ok.mono {j k:Nat} {x:Str} {ps:List Str} {sp:Sp} (h:Ok P w K mg base j x ps sp) (hj:j≤k):Ok P w K mg base k x ps sp:=by
 obtain ⟨f,fd,h1,h2,h3,h4⟩:=h
 exact ⟨f,fd,h1,h2,h3,h4.mono hj⟩
theorem Ok.of {x:Str} {st:Stmt} {N ps:List Str} {k:Nat} {sp:Sp} (D:Dn K mg x st ps) (S:aK N ps (aF st)) (len:∀vs H Q E,sp vs H Q E→vs.length=ps.length)
  (hbody:∀(f:Addr) (cdv:Value) (A:Around) (outer:List Env) (s:Shared) (H:Hp) (vs:List V) (Q:VK) (E:XK),Room k (A.deeper (envOfC x (aF st) s.heap.objs.size f cdv))→sp vs H Q E →
   ∃t,PSs (aB5 CX0 P w K mg base N x (aF st) f cdv A outer s H E).nox (iQ st) t∧t { nx:=fun _ H'=>Q .non H',rt:=Q } (start N vs) H):Ok P w K mg base (k+1) x ps sp:=by
 obtain ⟨f,fd,F,B,m⟩:=D
 exact ⟨f,fd,m,F.kp,B,F.ok S len fun cdv A outer s H vs Q E hr h=>hbody f cdv A outer s H vs Q E hr h⟩
end
section
variable {X:Cx} {k:Nat} {ps:List Str} {sp:Sp} {x:Str} {p pos:Pos} {e:Expr} {es:List Expr} {t:TA}
theorem aXi (G:Ok X.prog X.w X.K X.mg X.base k x ps sp) (hr:Room k X.A) (hg:Gl X x) (ha:PA X (e::es) t) (hdb:(x == ("__debug__":Str))=false:=by decide)
  (he:starEach (e::es) X.env=(false,eval e X.env)::starEach es X.env:=by rfl) (hpl:(backTo pos (starEach es X.env)).any (·.1)=false:=by rfl) :
  PE X (.Call (.Name x p) (e::es) [] pos) (tL sp [] E0 t):=by
 obtain ⟨f,fd,h1,h2,h3,h4⟩:=G
 exact aRa h4 hr hg h1 h2 h3 .nil aOt ha hdb he hpl
theorem aT4 (G:Ok X.prog X.w X.K X.mg X.base k x ps sp) (hr:Room k X.A) (hg:Gl X x) (hdb:(x == ("__debug__":Str))=false:=by decide) :
  PE X (.Call (.Name x p) [] [] pos) (tL sp [] E0 aIt):=by
 obtain ⟨f,fd,h1,h2,h3,h4⟩:=G
 exact aP4 h4 hr hg h1 h2 h3 .nil aOt hdb
end
theorem rN {env:Env} (f:Str × NameKind→List (Str × Addr)→Sem (ForInStep (List (Str × Addr))))
  (h1:∀n r,f (n,.free) r=(cellOf env n >>= fun a=>pure (.yield ((n,a)::r)))) (h2:∀n k r,k≠.free→f (n,k) r=pure (.yield r)) :
  ∀(names:List (Str × NameKind)) (acc:List (Str × Addr)),(∀y∈names,y.2=.free→∃c,env.cells.lookup y.1=some c) →
  ∃cl,forIn names acc f=(pure (cl++acc):Sem _)∧(∀p∈cl,env.cells.lookup p.1=some p.2∧(p.1,NameKind.free)∈names)∧∀y,(y,NameKind.free)∈names→∃c,(y,c)∈cl
 |[],acc,_=>⟨[],by simp,fun _ h=>(nomatch h),fun _ h=>(nomatch h)⟩
 |(n,k)::r,acc,h=>by
  by_cases hk:k=.free
  ·subst hk
   obtain ⟨c,hc⟩:=h (n,.free) List.mem_cons_self rfl
   obtain ⟨cl,e,p1,p2⟩:=rN f h1 h2 r ((n,c)::acc) fun y hy=>h y (List.mem_cons_of_mem _ hy)
   refine ⟨cl++[(n,c)],?_,fun p hp=>?_,fun y hy=>?_⟩
   ·rw [List.forIn_cons,h1]
    have e0:cellOf env n=pure c:=by unfold cellOf;rw [hc]
    rw [e0,pure_bind,pure_bind]
    show forIn r ((n,c)::acc) f=_
    rw [e,List.append_assoc]
    rfl
   ·rcases List.mem_append.mp hp with hp|hp
    ·exact ⟨(p1 p hp).1,List.mem_cons_of_mem _ (p1 p hp).2⟩
    ·obtain rfl:=List.mem_singleton.mp hp
     exact ⟨hc,List.mem_cons_self⟩
   ·rcases List.mem_cons.mp hy with e|hy
    ·cases e
     exact ⟨c,by simp⟩
    ·obtain ⟨c',q⟩:=p2 y hy
     exact ⟨c',List.mem_append_left _ q⟩
  ·obtain ⟨cl,e,p1,p2⟩:=rN f h1 h2 r acc fun y hy=>h y (List.mem_cons_of_mem _ hy)
   refine ⟨cl,?_,fun p hp=>⟨(p1 p hp).1,List.mem_cons_of_mem _ (p1 p hp).2⟩,fun y hy=>?_⟩
   ·rw [List.forIn_cons,h2 n k acc hk,pure_bind]
    exact e
   ·rcases List.mem_cons.mp hy with e|hy
    ·cases e
     exact absurd rfl hk
    ·exact p2 y hy
theorem qW {scope:Scope} {env:Env} (h:∀y∈scope.names,y.2=.free→∃c,env.cells.lookup y.1=some c) :
  ∃cl,closureFor scope env=pure cl∧(∀p∈cl,env.cells.lookup p.1=some p.2∧(p.1,NameKind.free)∈scope.names)∧∀y,(y,NameKind.free)∈scope.names→∃c,(y,c)∈cl:=by
 unfold closureFor
 obtain ⟨cl,e,p1,p2⟩:=rN (env:=env) (fun x r=>match x with|(name,kind)=>if (kind == NameKind.free)=true then do let a ←cellOf env name;pure (.yield ((name,a)::r)) else pure (.yield r))
  (fun n r=>rfl) (fun n k r hk=>by
   have:(k == NameKind.free)=false:=by simpa using hk
   simp only [this,Bool.false_eq_true,if_false]) scope.names [] h
 refine ⟨cl,?_,p1,p2⟩
 rw [List.append_nil] at e
 refine Eq.trans ?_ e
 first
 |rfl
 |simp
theorem lookup_mem {α β:Type} [BEq α] [LawfulBEq α] {a:α} {b:β}:∀{l:List (α × β)},(a,b)∈l→∃b',l.lookup a=some b'
 |(x,y)::r,h=>by
  rw [List.lookup_cons]
  by_cases e:(a == x)=true
  ·exact ⟨y,by rw [e]⟩
  ·have e':(a == x)=false:=by simpa using e
   rw [e']
   rcases List.mem_cons.mp h with z|z
   ·cases z
    simp at e
   ·exact lookup_mem z
theorem mW {env:Env} {y:Str} {k:NameKind}:∀{names:List (Str × NameKind)},names.lookup y=some .free →
  (names.map fun (x:Str × NameKind)=>match x with|(n,k)=>if (k == NameKind.free && env.scope.kind == ScopeKind.function && env.kindOf n == some NameKind.cell) then (n,NameKind.cell) else (n,k)).lookup y=some .cell ∨
  (names.map fun (x:Str × NameKind)=>match x with|(n,k)=>if (k == NameKind.free && env.scope.kind == ScopeKind.function && env.kindOf n == some NameKind.cell) then (n,NameKind.cell) else (n,k)).lookup y=some .free
 |[],h=>by simp at h
 |(n,k')::r,h=>by
  rw [List.map_cons]
  rw [List.lookup_cons] at h
  by_cases e:(y == n)=true
  ·rw [e] at h
   cases h
   by_cases q:((NameKind.free == NameKind.free) && env.scope.kind == ScopeKind.function && env.kindOf n == some NameKind.cell)=true
   ·left
    simp only [q,if_true,List.lookup_cons,e]
   ·right
    have q':=Bool.eq_false_iff.mpr q
    simp only [q',Bool.false_eq_true,if_false,List.lookup_cons,e]
  ·have e':(y == n)=false:=by simpa using e
   rw [e'] at h
   have ih:=mW (env:=env) (k:=k) h
   have key:∀z:Str × NameKind,z.1=n→(List.lookup y (z::(r.map fun (x:Str × NameKind)=>match x with|(n,k)=>if (k == NameKind.free && env.scope.kind == ScopeKind.function && env.kindOf n == some NameKind.cell) then (n,NameKind.cell) else (n,k)))) =
     List.lookup y (r.map fun (x:Str × NameKind)=>match x with|(n,k)=>if (k == NameKind.free && env.scope.kind == ScopeKind.function && env.kindOf n == some NameKind.cell) then (n,NameKind.cell) else (n,k)):=fun z hz=>by
    obtain ⟨z1,z2⟩:=z
    cases hz
    rw [List.lookup_cons,e']
   have kz:(match ((n,k'):Str × NameKind) with|(n,k)=>if (k == NameKind.free && env.scope.kind == ScopeKind.function && env.kindOf n == some NameKind.cell) then (n,NameKind.cell) else (n,k)).1=n:=by
    dsimp only
    split <;> rfl
   rw [key _ kz]
   exact ih
theorem sU {env:Env} {y:Str}:∀{names:List (Str × NameKind)},(∀z∈names,z.2≠.cell) →
  ((names.map fun (x:Str × NameKind)=>match x with|(n,k)=>if (k == NameKind.free && env.scope.kind == ScopeKind.function && env.kindOf n == some NameKind.cell) then (n,NameKind.cell) else (n,k)).lookup y=some .cell ∨
  (names.map fun (x:Str × NameKind)=>match x with|(n,k)=>if (k == NameKind.free && env.scope.kind == ScopeKind.function && env.kindOf n == some NameKind.cell) then (n,NameKind.cell) else (n,k)).lookup y=some .free)→(y,NameKind.free)∈names
 |[],_,h=>by simp at h
 |(n,k')::r,hc,h=>by
  rw [List.map_cons] at h
  by_cases e:(y == n)=true
  ·have ey:y=n:=by simpa using e
   subst ey
   have hk:k'=.free:=by
    by_cases q:((k' == NameKind.free) && env.scope.kind == ScopeKind.function && env.kindOf y == some NameKind.cell)=true
    ·rw [Bool.and_eq_true,Bool.and_eq_true] at q
     simpa using q.1.1
    ·have q':=Bool.eq_false_iff.mpr q
     simp only [q',Bool.false_eq_true,if_false,List.lookup_cons,e] at h
     rcases h with h|h
     ·cases h
      exact absurd rfl (hc (y,.cell) List.mem_cons_self)
     ·cases h;rfl
   subst hk
   exact List.mem_cons_self
  ·have e':(y == n)=false:=by simpa using e
   have key:∀z:Str × NameKind,z.1=n→(List.lookup y (z::(r.map fun (x:Str × NameKind)=>match x with|(n,k)=>if (k == NameKind.free && env.scope.kind == ScopeKind.function && env.kindOf n == some NameKind.cell) then (n,NameKind.cell) else (n,k)))) =
     List.lookup y (r.map fun (x:Str × NameKind)=>match x with|(n,k)=>if (k == NameKind.free && env.scope.kind == ScopeKind.function && env.kindOf n == some NameKind.cell) then (n,NameKind.cell) else (n,k)):=fun z hz=>by
    obtain ⟨z1,z2⟩:=z
    cases hz
    rw [List.lookup_cons,e']
   have kz:(match ((n,k'):Str × NameKind) with|(n,k)=>if (k == NameKind.free && env.scope.kind == ScopeKind.function && env.kindOf n == some NameKind.cell) then (n,NameKind.cell) else (n,k)).1=n:=by
    dsimp only
    split <;> rfl
   rw [key _ kz] at h
   exact List.mem_cons_of_mem _ (sU (fun z hz=>hc z (List.mem_cons_of_mem _ hz)) h)
section
variable {prog:Program} {w:World} {A:Around} {E:Value→Shared→Prop} {R:Result→Shared→Prop} {s:Shared}
theorem uR {elt target iter:Expr} {ifs:List Expr} {scope:Scope} {pos:Pos} {it acc:Value} {env:Env} (I:Nat→Shared→Prop)
  (turn:∀n s,I n s→wpAny (model prog w) A (pyNext it) (fun r s₁=>match r with
   |none=>R (.ok .next) s₁
   |some v=>wpAny (model prog w) A (letOwnedTupleGo target it v) (fun _ s'=>wpAny (model prog w) A (assign target env v) (fun _ s₂=>
     wpAny (model prog w) A (forIn ifs true fun c r=>if r=true then do let ok ←isTrue c env (eval c env);pure (ForInStep.yield ok) else pure (ForInStep.yield r)) (fun ok s₃=>
      if ok=true then wpAny (model prog w) A (eval elt env) (fun x s₄=>
       wpAny (model prog w) A (call (.builtin "list.append") [acc,x]) (fun _ s₅=>∃m,m<n∧I m s₅) (notedBy (model prog w) A env fun e s'=>R (.error e) s') s₄) (notedBy (model prog w) A env fun e s'=>R (.error e) s') s₃
      else ∃m,m<n∧I m s₃) (notedBy (model prog w) A env fun e s'=>R (.error e) s') s₂) (notedBy (model prog w) A env fun e s'=>R (.error e) s') s') (notedBy (model prog w) A env fun e s'=>R (.error e) s') s₁)
   (notedBy (model prog w) A env fun e s'=>R (.error e) s') s)
  (n:Nat) (h:I n s):codeAny (model prog w) A (.compLoop (.ListComp elt [⟨target,iter,ifs,0⟩] scope pos) 0 it acc env) R s:=by
 refine codeAny_loop rfl I (fun n s hI=>?_) n h
 show wpAny _ A ((compTurn (.ListComp elt [⟨target,iter,ifs,0⟩] scope pos) 0 it acc env).onRaise (fun x=>do noteFrame x env;theTreesLotGoes x)) _ _ s
 refine wpAny_noted ?_
 rw [compTurn_list]
 refine wpAny_bind (wpAny_standAt (wpAny_bind (wpAny_mono (turn n s hI) (fun r s₁ h₁=>?_) fun _ _ h'=>h')))
 cases r with
 |none=>exact wpAny_pure h₁
 |some v=>
  refine wpAny_bind (wpAny_mono h₁ (fun _ s' h₁'=>wpAny_bind (wpAny_mono h₁' (fun _ s₂ h₂=>wpAny_bind (wpAny_mono h₂ (fun ok s₃ h₃=>?_) fun _ _ h'=>h')) fun _ _ h'=>h')) fun _ _ h'=>h')
  cases ok with
  |false=>exact wpAny_pure ⟨rfl,h₃⟩
  |true=>
   exact wpAny_bind (wpAny_bind (wpAny_mono h₃ (fun x s₄ h₄=>wpAny_bind (wpAny_mono h₄ (fun _ s₅ h₅=>wpAny_pure (wpAny_pure ⟨rfl,h₅⟩)) fun _ _ h'=>h')) fun _ _ h'=>h'))
end
def cxC (X:Cx) (N:List Str) (scope:Scope) (cl:List (Str × Addr)) (s:Shared) (H:Hp) (fp:List Addr):Cx:=
 { X with N:=N,s₀:=s,H₀:=H,env:=compEnvC scope cl s.heap.objs.size X.env,outer:=X.stack,stack:=X.stack,ex:=fp,fn:=fun _=>false,pn:=[],xe:=fun _ _=>False }
def aM5 (X:Cx) (ifs:List Expr) (tt:TT):Prop:=
 ∀(pins:List (Addr × Obj)) (s:Shared) (σ:St) (H:Hp) (Q:Bool→Hp→Prop),Inv X pins σ H s→tt σ H Q →
  wpAny (model X.prog X.w) X.A (forIn ifs true fun c r=>if r=true then do let ok ←isTrue c X.env (eval c X.env);pure (ForInStep.yield ok) else pure (ForInStep.yield r)) (TP X pins σ Q) X.xe s
def nA:TT:=fun _ H Q=>Q true H
theorem aV6 {X:Cx}:aM5 X [] nA:=fun _ _ _ H _ I h=>wpAny_tests_nil ⟨H,I,h⟩
theorem aVb {X:Cx} {c:Expr} {tc:TT} (h:PT X c tc):aM5 X [c] tc:=fun pins s σ H Q I q=>wpAny_tests_one (h pins s σ H Q I q)
structure uL (scope:Scope) (N:List Str):Prop where
 cell:∀y∈scope.names,y.2≠.cell
 kind:scope.kind=.function
 names:∀y∈scope.names,y.2=.local→scope.names.lookup y.1=some .local
 free:∀y∈scope.names,y.2=.free→scope.names.lookup y.1=some .free
def Cap (X:Cx) (scope:Scope) (N:List Str) (σ σ':St):Prop:=
 σ'.length=N.length∧∀(i:Nat) (y:Str) (v:V),N[i]?=some y→σ'[i]?=some (some v)→(y,NameKind.free)∈scope.names∧∃j:Nat,X.N[j]?=some y∧σ[j]?=some (some v)∧Vis X.env.scope y
theorem aFo {X:Cx} {pins:List (Addr × Obj)} {σ σ':St} {H:Hp} {s:Shared} {scope:Scope} {N:List Str} {cl:List (Str × Addr)} {fp:List Addr} {h1:Heap} {tk:Nat} {m1:Str→Option Value}
  (I:Inv X pins σ H s) (C:uL scope N) (hfr:∀y,(y,NameKind.free)∈scope.names→X.env.kindOf y=some .cell∨X.env.kindOf y=some .free)
  (p1:∀p∈cl,X.env.cells.lookup p.1=some p.2∧(p.1,NameKind.free)∈scope.names) (p2:∀y,(y,NameKind.free)∈scope.names→∃c,(y,c)∈cl)
  (cap:Cap X scope N σ σ') (hf:∀b∈fp,oA X pins H b) (hfl:∀b∈fp,b<s.heap.objs.size)
  (hn:h1.Ns s.heap.objs.size m1) (hk:∀b o,s.heap.get? b=some o→h1.get? b=some o) :
  Inv (cxC X N scope cl s H fp) [] σ' H { s with heap:=h1,toks:=tk }:=by
 have ok:=I.ok
 have lk:∀y c,cl.lookup y=some c→X.env.cells.lookup y=some c:=fun y c e=>(p1 _ (PySem.mem_of_lookup e)).1
 have lk2:∀y,(y,NameKind.free)∈scope.names→∃c,cl.lookup y=some c∧X.env.cells.lookup y=some c:=fun y hy=>by
  obtain ⟨c,hc⟩:=p2 y hy
  obtain ⟨c',e⟩:=lookup_mem hc
  exact ⟨c',e,lk y c' e⟩
 have fsub:∀b∈fp,b∉frs X.stack:=fun b hb z=>by
  obtain ⟨f0,f1,f2,_⟩:=hf b hb
  rcases List.mem_cons.mp (I.aD8 b z) with e|e
  ·exact f1 e
  ·exact f2 e
 have ok':(cxC X N scope cl s H fp).Ok:=by
  refine ⟨ok.mod,C.kind,ok.glob,ok.blt,Nat.le_refl _,fun x y c h1 h2=>ok.inj x y c (lk x c h1) (lk y c h2),fun y hy=>?_,fun y c h _=>?_,ok.hd,ok.frames,.inl rfl,fun b hb=>?_,I.bs,Nat.le_trans ok.bsz I.sz,
   fun b o e hb=>?_,fsub,I.stack,I.aDb⟩
  ·obtain ⟨c,e,_⟩:=lk2 y (sU (env:=X.env) C.cell hy)
   exact ⟨c,e⟩
  ·exact absurd (show false=true from h) Bool.false_ne_true
  ·obtain ⟨f0,f1,f2,f3,f4,f5⟩:=hf b hb
   exact ⟨Nat.ne_of_lt (hfl b hb),fun x c e=>f4 x c (lk x c e)⟩
  ·obtain ⟨f0,f1,f2,f3,f4,f5⟩:=hf b hb
   rcases f3 with z|z
   ·exact ok.noex b o e z
   ·exact absurd (Nat.lt_of_lt_of_le (Heap.lt_size e) (Nat.le_trans ok.bsz z)) (Nat.lt_irrefl _)
 refine ⟨ok',rfl,I.bare,Un.kept hk,⟨m1,hn,fun i y v e1 e2 e3=>?_⟩,fun y c e=>?_,I.hok.fresh (Nat.le_refl _),fun y c e=>I.freeC y c (lk y c e),fun p hp=>absurd (show p∈([]:List (Addr × Obj)) from hp) (by simp),I.hok.kept hk,cap.1⟩
 ·obtain ⟨hy,j,e4,e5,e6⟩:=cap.2 i y v e1 e2
  obtain ⟨m,_,hl⟩:=I.loc
  obtain ⟨u,r,l⟩:=hl j y v e4 e5 e6
  refine ⟨u,r,.inr ?_⟩
  rcases l with ⟨k,_⟩|⟨k,c,e,z⟩
  ·rcases hfr y hy with q|q <;> (rw [k] at q;cases q)
  ·obtain ⟨c',e',e''⟩:=lk2 y hy
   rw [e] at e''
   cases e''
   have rl:=mW (env:=X.env) (k:=.free) (C.free (y,.free) hy rfl)
   refine ⟨rl,c,e',?_⟩
   obtain ⟨o,ho,hd⟩:=z
   exact ⟨o,hk _ _ ho,hd⟩
 ·obtain ⟨v,o,ho,hd⟩:=I.cell y c (lk y c e)
  exact ⟨v,o,hk _ _ ho,hd⟩
def gR (X:Cx) (scope:Scope) (N:List Str) (wi:TI) (g:TG) (tt:TT) (te:TE):TE:=fun σ H Q=>∃σ0,Cap X scope N σ σ0∧wi σ H fun J H1=>∀D,H1 D=none→∃W:Nat→Nat→St→Hp→List V→Prop,(∃m,W 0 m σ0 (upd H1 D (.lst [])) []) ∧
 ∀i m σ' H' ys,W i m σ' H' ys→H' D=some (.lst ys)∧((J.stop i H'∧Q (.ref D) H')∨(J.go i H'∧∀x H2,J.yld i H' x H2→g x σ' H2 fun σ3 H3=>tt σ3 H3 fun b H4=>
  if b=true then te σ3 H4 fun y H5=>H5 D=some (.lst ys)∧ys.length<sizeLine∧∃m',m'<m∧W (i+1) m' σ3 (upd H5 D (.lst (ys++[y]))) (ys++[y]) else H4 D=some (.lst ys)∧∃m',m'<m∧W (i+1) m' σ3 H4 ys))
theorem aRf {X:Cx} {elt target iter:Expr} {ifs:List Expr} {scope:Scope} {pos:Pos} {N:List Str} {wi:TI} {g:TG} {tt:TT} {te:TE}
  (C:uL scope N) (hfr:∀y,(y,NameKind.free)∈scope.names→X.env.kindOf y=some .cell∨X.env.kindOf y=some .free) (hc:X.calm=true)
  (hi:PI X target iter wi)
  (hb:∀cl s H fp,PG (cxC X N scope cl s H fp) target g∧aM5 (cxC X N scope cl s H fp) ifs tt∧PE (cxC X N scope cl s H fp) elt te)
  (hs:∀x,foldedSetIterable iter X.env x=pure x:=by intro _;rfl) :
  PE X (.ListComp elt [⟨target,iter,ifs,0⟩] scope pos) (gR X scope N wi g tt te):=by
 intro pins s σ H Q I hq
 obtain ⟨σ0,cap,hq⟩:=hq
 obtain ⟨cl,hcl,p1,p2⟩:=qW (scope:=scope) (env:=X.env) (fun y hy hk=>by
  obtain ⟨n,k⟩:=y
  cases hk
  exact I.ok.has n (hfr n hy))
 rw [eval_ListComp]
 refine wpAny_comprehension_free (use:=none) rfl hs hcl C.kind C.names (thn (hi pins s σ H _ I hq) fun xv s1 h1=>thn h1 fun itv s2 h2=>?_)
 obtain ⟨it,fp,tn,J,H2,rfl,I2,T,st2,f2,q2⟩:=h2
 refine wpAny_newObj_type (wpAny_newFunctionEnv C.cell (by intro y hy;simp at hy) (fun h₁ hns₁ hsb₁=>?_) C.kind)
 dsimp only at hns₁ hsb₁ ⊢
 have hD:H2 s2.heap.objs.size=none:=I2.hok.fresh (Nat.le_refl _)
 have I3:Inv X pins σ (upd H2 s2.heap.objs.size (.lst [])) { s2 with heap:=s2.heap.push { cls:=.type "list",dict:=none,data:=.seq ([]:List Value).toArray } }:=
  I2.laid (t':=s2.toks) (fun b u e=>Heap.get?_push_of_some _ e) (Nat.le_refl _) ⟨Nat.zero_le _,[],0,.nil,Heap.get?_push_size _ rfl⟩
 generalize hs3:({ s2 with heap:=s2.heap.push { cls:=.type "list",dict:=none,data:=.seq ([]:List Value).toArray } }:Shared)=s3 at I3
 have hh3:s2.heap.push { cls:=.type "list",dict:=none,data:=.seq ([]:List Value).toArray }=s3.heap:=by rw [←hs3]
 rw [hh3] at hns₁ hsb₁
 have fl2:∀b∈fp,b<s2.heap.objs.size:=fun b hb=>by
  obtain ⟨o,e,_⟩:=T.obj _ _ st2 b hb
  exact Heap.lt_size e
 have fl3:∀b∈fp,b<s3.heap.objs.size:=fun b hb=>by
  rw [←hh3,Heap.size_push]
  exact Nat.lt_succ_of_lt (fl2 b hb)
 have f3:∀b∈fp,oA X pins (upd H2 s2.heap.objs.size (.lst [])) b:=fun b hb=>by
  obtain ⟨f0,fr⟩:=f2 b hb
  exact ⟨by rw [aU (Nat.ne_of_lt (fl2 b hb))];exact f0,fr⟩
 have keep3:∀b o,s3.heap.get? b=some o→h₁.get? b=some o:=fun b o e=>hsb₁.extBut b o (Nat.ne_of_lt (Heap.lt_size e)) (Heap.get?_push_of_some _ e)
 have I4:=aFo (tk:=s3.toks) I3 C hfr p1 p2 cap f3 fl3 hns₁ keep3
 have st4:tn 0 h₁:=T.keep _ _ _ st2 fun b hb o e=>keep3 b o (by rw [←hh3];exact Heap.get?_push_of_some _ e)
 obtain ⟨W,⟨m0,w0⟩,turn⟩:=q2 s2.heap.objs.size hD
 have fpc:∀{H':Hp},(∀b∈fp,H' b=none)→∀b∈fp,oA (cxC X N scope cl s3 (upd H2 s2.heap.objs.size (.lst [])) fp) [] H' b:=fun {H'} hn b hb=>by
  obtain ⟨e1,e2⟩:=I4.ok.exf b hb
  exact ⟨hn b hb,e1,I4.ok.exfs b hb,.inl hb,e2,fun p hp=>absurd (show p∈([]:List (Addr × Obj)) from hp) (by simp)⟩
 have loop:∀s4:Shared,s4={ s3 with heap:=h₁,toks:=s3.toks } →
   codeAny (model X.prog X.w) X.A (.compLoop (.ListComp elt [⟨target,iter,ifs,0⟩] scope pos) 0 (.ref it) (.ref s2.heap.objs.size) (compEnvC scope cl s3.heap.objs.size X.env))
    (compPost (model X.prog X.w) X.A X.xe none (EP X pins σ Q) (.ref s2.heap.objs.size) s3.heap.objs.size) s4:=by
  rintro s4 rfl
  refine uR (fun n s'=>∃i σ' H' ys,Inv (cxC X N scope cl s3 (upd H2 s2.heap.objs.size (.lst [])) fp) [] σ' H' s'∧tn i s'.heap∧(∀b∈fp,H' b=none)∧W i n σ' H' ys) ?_ m0 ⟨0,σ0,_,[],I4,st4,fun b hb=>(f3 b hb).1,w0⟩
  rintro n s5 ⟨i,σ5,H5,ys,I5,st5,fr5,w5⟩
  obtain ⟨hacc,w5⟩:=turn i n σ5 H5 ys w5
  have noE:∀{α:Type} {t:Sem α} {Q':α→Shared→Prop} {E':Value→Shared→Prop} {s':Shared},wpAny (model X.prog X.w) X.A t Q' (fun _ _=>False) s'→wpAny (model X.prog X.w) X.A t Q' E' s':=fun h=>wpAny_mono h (fun _ _ q=>q) fun _ _ z=>z.elim
  rcases w5 with ⟨stop,qn⟩|⟨go,step⟩
  ·refine noE (thn (T.done (cxC X N scope cl s3 (upd H2 s2.heap.objs.size (.lst [])) fp) rfl rfl rfl hc i [] s5 σ5 H5 _ I5 (fpc fr5) st5 stop) fun r s6 ⟨hr,I6⟩=>?_)
   subst hr
   obtain ⟨m6,hn6,_⟩:=I6.loc
   refine ⟨m6,hn6,fun h' sb=>?_⟩
   have kp:∀b o,b≠s3.heap.objs.size→s6.heap.get? b=some o→h'.get? b=some o:=fun b o hb e=>sb.extBut b o hb e
   have ne3:∀b o,s3.heap.get? b=some o→b≠s3.heap.objs.size:=fun b o e=>Nat.ne_of_lt (Heap.lt_size e)
   have un:Un (frs X.stack) fp (upd H2 s2.heap.objs.size (.lst [])) H5 s3.heap h':=by
    have u:=I6.base
    exact ⟨fun b o e n hb hx=>kp b o (ne3 b o e) (u.keep b o e n hb hx),fun b o e n hb hx=>by
     obtain ⟨sl,e1⟩:=u.slot b o e n hb hx
     exact ⟨sl,kp b _ (ne3 b o e) e1⟩,u.free,fun b o e hx=>by
     obtain ⟨o',e1⟩:=u.there b o e hx
     exact ⟨o',kp b _ (ne3 b o e) e1⟩,u.tups,u.frzs,u.tbls⟩
   have hok:HOk X.prog X.w H5 h':=fun b u e=>by
    refine (I6.hok b u e).stay (fun c v hc' q=>kp c v ?_ q) (fun _ q=>q) fun _ _ q=>q
    have hfree:H5 s3.heap.objs.size=none:=I6.free
    rintro rfl
    rcases hc' with z|z
    ·rw [z] at hfree;rw [hfree] at e;cases e
    ·rw [hfree] at z;cases z
   have I7:Inv X pins σ H5 { s6 with heap:=h' }:=by
    refine I3.call' (s':={ s6 with heap:=h' }) I6.os un hok I6.bare fun b hb=>?_
    obtain ⟨f0,f1,f2',f3',f4,f5⟩:=f3 b hb
    exact ⟨f3',f1,f4,f5⟩
   exact ⟨.ref s2.heap.objs.size,H5,I7,rfl,qn⟩
  ·refine noE (thn (T.item (cxC X N scope cl s3 (upd H2 s2.heap.objs.size (.lst [])) fp) rfl rfl rfl hc i [] s5 σ5 H5 (fun _ _=>False) I5 (fpc fr5) st5 go) fun r s6 ⟨u,hr,h6⟩=>?_)
   subst hr
   refine noE (thn h6 fun _ s7 ⟨x,H7,I7,r7,y7,st7,fr7⟩=>?_)
   obtain ⟨hg,ht,he⟩:=hb cl s3 (upd H2 s2.heap.objs.size (.lst [])) fp
   have I7':=I7.pinned (fpc fr7) (T.obj _ _ st7)
   have back:∀{σ8:St} {H8:Hp} {s8:Shared},Inv (cxC X N scope cl s3 (upd H2 s2.heap.objs.size (.lst [])) fp) ([]++qY fp s7.heap) σ8 H8 s8→tn (i+1) s8.heap∧∀b∈fp,H8 b=none:=fun {σ8 H8 s8} I8=>
    ⟨T.keep _ _ _ st7 fun b hb o e=>(I8.pin (b,o) (List.mem_append_right _ (List.mem_append_right _ (eG hb e)))).1,fun b hb=>by
     obtain ⟨o,e,d⟩:=T.obj _ _ st7 b hb
     exact (I8.pin (b,o) (List.mem_append_right _ (List.mem_append_right _ (eG hb e)))).2.1⟩
   refine noE (thn (hg _ s7 σ5 H7 x u _ I7' r7 (step x H7 y7)) fun _ s8 ⟨σ8,H8,I8,q8⟩=>?_)
   refine noE (thn (ht _ s8 σ8 H8 _ I8 q8) fun b s9 ⟨H9,I9,q9⟩=>?_)
   cases b with
   |false=>
    rw [if_neg Bool.false_ne_true] at q9 ⊢
    obtain ⟨_,m',hm,w9⟩:=q9
    exact ⟨m',hm,i+1,σ8,H9,ys,I9.gB,(back I9).1,(back I9).2,w9⟩
   |true=>
    rw [if_pos rfl] at q9 ⊢
    refine noE (thn (he _ s9 σ8 H9 _ I9 q9) fun yv s10 ⟨y,H10,I10,r10,hacc10,hlen,m',hm,w10⟩=>?_)
    refine noE (thn (pQ _ s10 σ8 H10 (.ref s2.heap.objs.size) [y] (.ref s2.heap.objs.size) [yv] (fun _ H11=>H11=upd H10 s2.heap.objs.size (.lst (ys++[y]))) I10 rfl (.cons r10 .nil) ⟨_,_,_,rfl,rfl,hacc10,hlen,rfl⟩) fun _ s11 ⟨z,H11,I11,_,e11⟩=>?_)
    subst e11
    exact ⟨m',hm,i+1,σ8,_,ys++[y],I11.gB,(back I11).1,(back I11).2,w10⟩
 have fin:=codeAny_compStart_list (loop { s3 with heap:=h₁,toks:=s3.toks } rfl) (T.self _ _ _ _ _ st4 (loop { s3 with heap:=h₁,toks:=s3.toks } rfl))
 subst hs3
 exact fin
end L2
namespace PySem
open Sem (wp)
namespace IfF
theorem aNn:typeLookup (.type "function") "__class__"=pure (some (.builtin "object.__class__")):=by rw [typeLookup_type,builtinLookup_eq_fast];kernel_rfl
theorem wM:Slot "function" "__getattribute__" "object.__getattribute__":=
 .of (owner:="object") (n:="__getattribute__") (by rw [typeLookup_type,builtinLookup_eq_fast];kernel_rfl) (by decide +kernel) (by decide +kernel) (by decide +kernel)
  (by first|exact .inl (by decide +kernel)|exact .inr (by decide +kernel)) (by rw [isSubtype_type];kernel_rfl)
theorem aPw:entryFor table "object.__getattribute__"=some Builtin.«object.__getattribute__»:=entryFor_of_tree (by kernel_rfl)
theorem wJ:isSubtype (.type "function") (.type (".".intercalate ("object.__class__".cutAt '.').dropLast))=pure true:=by
 rw [F.owner_object_class,isSubtype_type];kernel_rfl
theorem sub_int:isSubtype (.type "function") (.type "int")=pure false:=by rw [isSubtype_type];kernel_rfl
theorem sub_bool:isSubtype (.type "function") (.type "bool")=pure false:=by rw [isSubtype_type];kernel_rfl
theorem aR2:isSubtype (.type "function") (.type "str")=pure false:=by rw [isSubtype_type];kernel_rfl
end IfF
section
variable {prog:Program} {w:World} {A:Around} {E:Value→Shared→Prop} {h:Heap} {g:Array GenState} {d:Drawn} {t:Nat} {os:OsState} {a:Addr} {o:Obj}
theorem aDx {R:Result→Shared→Prop} (hx:h.get? a=some o) (hc:o.cls=.type "function") (hq:R (.ok (.ret (.type "function"))) ⟨h,g,d,t,os⟩) :
  codeAny (model prog w) A (.call (.builtin "getset_descriptor.__get__") ⟨[.builtin "object.__class__",.ref a,.type "function"],[]⟩) R ⟨h,g,d,t,os⟩:=by
 have hT:(⟨h,g,d,t,os⟩:Shared).TypeIs (.ref a) "function":=⟨_,hx,hc⟩
 have hT5:(⟨h,g,d,t,os⟩:Shared).TypeIs (.builtin "object.__class__") "getset_descriptor":=F.typeOf_object_class
 have f8:=IfF.wJ
 refine codeAny_call_builtin F.slot_gs_get.plain F.entry_gs_get (F.slot_gs_get.check _ _ _ _ _ _ _ _ hT5 (F.args_gs_get _ _ _) ?_)
 repeat (any_goals (first|assumption|wp_step))
 refine ⟨Code.quiet_builtin _ (by decide +kernel),codeAny_builtin F.entry_object_class ?_⟩
 repeat (any_goals (first|assumption|wp_step))
theorem wZ {tk:Tok} {Q:Fin→Shared→Prop} (hx:h.get? a=some o) (hc:o.cls=.type "function") (hq:Q (.done (.ret (.type "function"))) ⟨h,g,d,t,os⟩) :
  wpAny (model prog w) A (Builtin.«object.__getattribute__» ⟨[.ref a,.str "__class__" tk],[]⟩) Q E ⟨h,g,d,t,os⟩:=by
 have hT:(⟨h,g,d,t,os⟩:Shared).TypeIs (.ref a) "function":=⟨_,hx,hc⟩
 have hT5:(⟨h,g,d,t,os⟩:Shared).TypeIs (.builtin "object.__class__") "getset_descriptor":=F.typeOf_object_class
 have f4:=IfF.aNn
 have f5:=F.typeOf_object_class
 have f6:=F.slot_gs_get.lookup
 have f7:=F.slot_gs_set.lookup
 repeat (any_goals (first|assumption|wp_step))
 refine aDx hx hc ?_
 repeat (any_goals (first|assumption|wp_step))
theorem aGq {tk:Tok} {Q:Value→Shared→Prop} (hx:h.get? a=some o) (hc:o.cls=.type "function") (hq:Q (.type "function") ⟨h,g,d,t,os⟩):wpAny (model prog w) A (getAttrBy (.ref a) (.str "__class__" tk) false) Q E ⟨h,g,d,t,os⟩:=by
 have hT:(⟨h,g,d,t,os⟩:Shared).TypeIs (.ref a) "function":=⟨_,hx,hc⟩
 have f2:=IfF.wM.lookup
 have f3:=IfF.wM.bind (.ref a)
 repeat (any_goals (first|assumption|wp_step))
 refine codeAny_call_builtin IfF.wM.plain IfF.aPw (IfF.wM.check _ _ _ _ _ _ _ _ hT (F.args_object_getattribute_2 _ _) (wZ hx hc ?_))
 repeat (any_goals (first|assumption|wp_step))
theorem zM {Q:Option Value→Shared→Prop} (hx:h.get? a=some o) (hc:o.cls=.type "function") (hq:Q (some (.type "function")) ⟨h,g,d,t+1,os⟩):wpAny (model prog w) A (getAttr? (.ref a) "__class__") Q E ⟨h,g,d,t,os⟩:=by
 unfold getAttr? getAttrBy?
 repeat (any_goals (first|assumption|with_reducible apply aGq hx hc|wp_step))
theorem yX {T:String} {dep:Int} {tk:Tok} {Q:Fin→Shared→Prop} (hx:h.get? a=some o) (hc:o.cls=.type "function") (hne:(Value.type "function" == Value.type T)=false) (hty:typeOf (.type T)=pure (.type "type"))
  (hsub:isSubtype (.type "function") (.type T)=pure false) (hq:Q (.done (.ret (.bool false))) ⟨h,g,d,t+1,os⟩) :
  wpAny (model prog w) A (Builtin.«isinstance.nested» ⟨[.ref a,.type T,.int dep tk],[]⟩) Q E ⟨h,g,d,t,os⟩:=by
 have hT:(⟨h,g,d,t,os⟩:Shared).TypeIs (.ref a) "function":=⟨_,hx,hc⟩
 repeat (any_goals (first|assumption|with_reducible apply zM hx hc|wp_step))
end
theorem nP {a:Addr} {T:String} (hne:(Value.type "function" == Value.type T)=false) (hty:typeOf (.type T)=pure (.type "type")) (hsub:isSubtype (.type "function") (.type T)=pure false) :
  Meets (Builtin.«isinstance» ⟨[.ref a,.type T],[]⟩) (fun _ R s=>(∃o,s.heap.get? a=some o∧o.cls=.type "function")∧R (.ok (.ret (.bool false))) { s with toks:=s.toks+1 }):=
 fun _ _ _ _ s hs=>by
  obtain ⟨h,g,d,t,os⟩:=s
  obtain ⟨⟨o,hx,hc⟩,hq⟩:=hs
  exact isinstance_outer (yX hx hc hne hty hsub hq)
section
variable {prog:Program} {w:World} {A:Around} {E:Value→Shared→Prop} {s:Shared} {Q:Value→Shared→Prop} {a:Addr} {o:Obj}
theorem aIk (hx:s.heap.get? a=some o) (hc:o.cls=.type "function") (h:Q (.bool false) { s with toks:=s.toks+1 }):wpAny (model prog w) A (call (.builtin "isinstance") [.ref a,.type "int"]) Q E s:=
 call_isinstance (nP (by decide) F.isi_meta_int IfF.sub_int) ⟨⟨o,hx,hc⟩,h⟩
theorem aG4 (hx:s.heap.get? a=some o) (hc:o.cls=.type "function") (h:Q (.bool false) { s with toks:=s.toks+1 }):wpAny (model prog w) A (call (.builtin "isinstance") [.ref a,.type "bool"]) Q E s:=
 call_isinstance (nP (by decide) F.isi_meta_bool IfF.sub_bool) ⟨⟨o,hx,hc⟩,h⟩
theorem aIy (hx:s.heap.get? a=some o) (hc:o.cls=.type "function") (h:Q (.bool false) { s with toks:=s.toks+1 }):wpAny (model prog w) A (call (.builtin "isinstance") [.ref a,.type "str"]) Q E s:=
 call_isinstance (nP (by decide) F.isi_meta_str IfF.aR2) ⟨⟨o,hx,hc⟩,h⟩
end
end PySem
namespace L2
open PySem PySem.Spec PyProof.Rows
section
variable {X:Cx}
theorem PE.imp {e:Expr} {t t':TE} (h:PE X e t) (k:∀σ H Q,t' σ H Q→t σ H Q):PE X e t':=fun pins s σ H Q I q=>h pins s σ H Q I (k σ H Q q)
def aW4 (K:PySem.W.Frag):List V→Hp→VK→Prop:=fun xs H Q=>∃(p:Addr) (bs:List Bool),xs=[.ref p]∧SqL K H p (bs.map V.bl)∧Q (.bl (bs.all id)) H
theorem all_range (bs:List Bool):(List.range bs.length).all (fun i=>bs.getD i false)=bs.all id:=by
 rw [Bool.eq_iff_iff,List.all_eq_true,List.all_eq_true]
 constructor
 ·intro h b hb
  obtain ⟨i,hi,e⟩:=List.mem_iff_getElem.mp hb
  have:=h i (List.mem_range.mpr hi)
  rw [List.getD_eq_getElem?_getD,List.getElem?_eq_getElem hi] at this
  rw [←e]
  exact this
 ·intro h i hi
  have hi:=List.mem_range.mp hi
  rw [List.getD_eq_getElem?_getD,List.getElem?_eq_getElem hi]
  exact h _ (List.getElem_mem hi)
theorem tY (hc:X.calm=true):cD X (.builtin "all") (aW4 X.K):=by
 intro pins s σ H xs us Q I r h
 obtain ⟨p,bs,rfl,hq,q⟩:=h
 obtain ⟨u,rfl,rx⟩:=r.one
 cases rx
 obtain ⟨its,rv,pl,hz⟩:=I.list hq
 have hl:=rv.length
 rw [List.length_map] at hl
 have hne:p≠s.heap.objs.size:=by
  obtain ⟨o,ho,_⟩:=pl.isList
  exact Nat.ne_of_lt (Heap.lt_size ho)
 refine call_all_walk (wpAny_pyIter_list pl.isList ?_)
 refine ⟨s.heap.objs.size,_,_,_,_,_,fun i=>bs.getD i false,rfl,Walks.list (show X.A.in1.handled=none from I.ok.hd hc) _ p hne its.toArray,⟨⟨_,Heap.get?_push_size _ rfl,rfl,rfl⟩,?_⟩,?_,fun h' tk kp=>?_⟩
 ·exact pl.isList.at fun o e=>Heap.get?_push_of_some _ e
 ·intro i v s' Q' E' hv hq'
  have hv':its[i]?=some v:=by simpa using hv
  have hi:i<bs.length:=by rw [hl];exact (List.getElem?_eq_some_iff.mp hv').1
  obtain ⟨u,hu,ru⟩:=rv.get (i:=i) (x:=.bl bs[i]) (by rw [List.getElem?_map,List.getElem?_eq_getElem hi];rfl)
  rw [hv'] at hu
  cases hu
  cases ru
  have e:bs.getD i false=bs[i]:=by rw [List.getD_eq_getElem?_getD,List.getElem?_eq_getElem hi];rfl
  replace hq':Q' (bs.getD i false) s':=hq'
  rw [e] at hq'
  exact wpAny_truthy_bool hq'
 ·have e:(List.range its.toArray.size).all (fun i=>bs.getD i false)=bs.all id:=by
   rw [List.size_toArray,←hl];exact all_range bs
  rw [e]
  refine ⟨.bl (bs.all id),H,?_,rfl,q⟩
  exact I.kept fun b o eo=>kp b o (by
   intro z
   have:b=s.heap.objs.size:=by simpa using z
   rw [this] at eo
   exact absurd (Heap.lt_size eo) (Nat.lt_irrefl _)) (Heap.get?_push_of_some _ eo)
inductive Rk (K:PySem.W.Frag) (H:Hp):V→String→Prop
 |non:Rk K H .non "NoneType"
 |lst {a xs}:SqL K H a xs→Rk K H (.ref a) "list"
 |tup {a xs}:SqT K H a xs→Rk K H (.ref a) "tuple"
 |dct {a kvs}:H a=some (.dK kvs)→Rk K H (.ref a) "dict"
 |fn {a o}:K.lookup a=some o→o.cls=.type "function"→Rk K H (.ref a) "function"
def aTf (K:PySem.W.Frag):List V→Hp→VK→Prop:=fun xs H Q=>∃x k T,xs=[x,.ty T]∧Rk K H x k∧(T = "int"∨T = "bool"∨T = "str")∧Q (.bl false) H
theorem pP:cD X (.builtin "isinstance") (aTf X.K):=by
 intro pins s σ H xs us Q I r h
 obtain ⟨x,k,T,rfl,hx,hT,q⟩:=h
 obtain ⟨u,v,rfl,rx,rT⟩:=r.two
 cases rT
 have f1:EP X pins σ Q (.bool false) { s with toks:=s.toks+1 }:=⟨.bl _,H,I.tok _,rfl,q⟩
 cases hx with
 |non=>
  cases rx
  rcases hT with rfl|rfl|rfl
  ·exact IsiPair.NoneType_int f1
  ·exact IsiPair.NoneType_bool f1
  ·exact IsiPair.NoneType_str f1
 |lst hq=>
  cases rx
  obtain ⟨its,rv,⟨o,n,e,c,_⟩,hz⟩:=I.list hq
  rcases hT with rfl|rfl|rfl
  ·exact IsiPair.list_int e c f1
  ·exact IsiPair.list_bool e c f1
  ·exact IsiPair.list_str e c f1
 |tup hq=>
  cases rx
  obtain ⟨its,rv,⟨o,e,c,_⟩,hz⟩:=I.tuple hq
  rcases hT with rfl|rfl|rfl
  ·exact IsiPair.tuple_int e c f1
  ·exact IsiPair.tuple_bool e c f1
  ·exact IsiPair.tuple_str e c f1
 |dct hq=>
  cases rx
  obtain ⟨_,_,_,_,o,_,_,e,ex,_⟩:=I.hok _ _ hq
  rcases hT with rfl|rfl|rfl
  ·exact IsiPair.dict_int e ex.1 f1
  ·exact IsiPair.dict_bool e ex.1 f1
  ·exact IsiPair.dict_str e ex.1 f1
 |fn hk hc=>
  cases rx
  have e:=I.kIn _ _ hk
  rcases hT with rfl|rfl|rfl
  ·exact aIk e hc f1
  ·exact aG4 e hc f1
  ·exact aIy e hc f1
end
theorem eZ {X:Cx} {scope:Scope} (h:∀z∈scope.names,z.2≠.free):∀y,(y,NameKind.free)∈scope.names→X.env.kindOf y=some .cell∨X.env.kindOf y=some .free:=fun y hy=>absurd rfl (h _ hy)
theorem cF {X:Cx} {scope:Scope} (sc:Scope) (e:X.env.scope=sc) (h:∀z∈scope.names,z.2=.free→sc.names.lookup z.1=some .cell∨sc.names.lookup z.1=some .free) :
  ∀y,(y,NameKind.free)∈scope.names→X.env.kindOf y=some .cell∨X.env.kindOf y=some .free:=fun y hy=>by
 show X.env.scope.names.lookup y=some .cell∨X.env.scope.names.lookup y=some .free
 rw [e]
 exact h _ hy rfl
theorem Same.aP {K:PySem.W.Frag} {H H':Hp} {a:Addr} {xs:List V} (e:Same H H') (h:SqT K H a xs):SqT K H' a xs:=by
 rcases h with (h|⟨o,h⟩)|h
 ·exact .inl (.inl (e _ _ h))
 ·exact .inl (.inr ⟨o,e _ _ h⟩)
 ·exact .inr h
theorem bG {H:Hp} {p:Addr} (h:H p=none) (o:HO):Same H (upd H p o):=fun b u q=>by rw [aU (aZ q h)];exact q
theorem Rk.same {K:PySem.W.Frag} {H H':Hp} {v:V} {k:String} (e:Same H H') (h:Rk K H v k):Rk K H' v k:=by
 cases h with
 |non=>exact .non
 |lst q=>exact .lst (e.seq q)
 |tup q=>exact .tup (e.aP q)
 |dct q=>exact .dct (e _ _ q)
 |fn q c=>exact .fn q c
theorem jL {X:Cx} {scope:Scope} {x:Str} {σ:St}:Cap X scope [x] σ [none]:=⟨rfl,fun i y v _ h2=>by
 cases i with
 |zero=>cases h2
 |succ i=>cases h2⟩
section
theorem aLl {X:Cx} {scope:Scope} {N:List Str} {wi:TI} {te:TE} {σ:St} {H:Hp} {Q:VK} (xs:List V) (f:V→V) (σ0:St) (cap:Cap X scope N σ σ0) (hsz:xs.length≤sizeLine)
  (hw:∀R:It→Hp→Prop,(∀J:It,(∀H' i x,Same H H'→xs[i]?=some x→J.go i H'∧∀y H2,J.yld i H' y H2→H2=H'∧y=x)→(∀H',Same H H'→J.stop xs.length H')→R J H)→wi σ H R)
  (he:∀x∈xs,∀H' R l,Same H H'→R (f x) H'→te ((σ0.set 0 l).set 0 (some x)) H' R) (h0:σ0[0]?=some none)
  (q:∀D,H D=none→Q (.ref D) (upd H D (.lst (xs.map f)))) :
  gR X scope N wi (bZ 0) nA te σ H Q:=by
 refine ⟨σ0,cap,hw _ fun J go stop D hD=>?_⟩
 have sm:∀ys:List V,Same H (upd H D (.lst ys)):=fun ys b o e=>by rw [aU (aZ e hD)];exact e
 refine ⟨fun i m σ' H' ys=>i≤xs.length∧m=xs.length - i∧(∃l,σ'=σ0.set 0 l)∧H'=upd H D (.lst ys)∧ys=(xs.take i).map f,⟨xs.length,Nat.zero_le _,rfl,⟨none,?_⟩,rfl,rfl⟩,?_⟩
 ·refine (List.ext_getElem? fun j=>?_)
  rw [List.getElem?_set]
  split
  ·rename_i hj
   subst hj
   split
   ·exact h0
   ·rename_i hlt
    exact List.getElem?_eq_none_iff.mpr (by omega)
  ·rfl
 ·rintro i m σ' H' ys ⟨hi,rfl,⟨l,rfl⟩,rfl,rfl⟩
  refine ⟨aH,?_⟩
  by_cases hlt:i<xs.length
  ·right
   obtain ⟨g1,g2⟩:=go (upd H D (.lst ((xs.take i).map f))) i xs[i] (sm _) (List.getElem?_eq_getElem hlt)
   refine ⟨g1,fun x H2 hy=>?_⟩
   obtain ⟨rfl,rfl⟩:=g2 x H2 hy
   unfold bZ nA
   dsimp only
   rw [if_pos rfl]
   refine he xs[i] (List.getElem_mem hlt) _ _ l (sm _) ⟨aH,?_,xs.length - (i+1),by omega,hlt,rfl,⟨some xs[i],?_⟩,?_,?_⟩
   ·rw [List.length_map,List.length_take];omega
   ·rw [List.set_set]
   ·rw [aS5]
   ·rw [List.take_add_one,List.getElem?_eq_getElem hlt,List.map_append]
    rfl
  ·left
   have e:i=xs.length:=by omega
   subst e
   refine ⟨stop _ (sm _),?_⟩
   rw [List.take_length]
   exact q D hD
theorem aUx {z:Str} {tl:TE} {σ:St} {H:Hp} (h:∀R:VK,R (.str z) H→tl σ H R) (R:It→Hp→Prop)
  (q:∀J:It,(∀H' i x,Same H H'→((List.range z.cps.size).map fun i=>V.str (sgn z i))[i]?=some x→J.go i H'∧∀y H2,J.yld i H' y H2→H2=H'∧y=x) →
   (∀H',Same H H'→J.stop ((List.range z.cps.size).map fun i=>V.str (sgn z i)).length H')→R J H):aVy tl σ H R:=by
 refine h _ ⟨z,rfl,q _ (fun H' i x _ e=>?_) fun H' _=>?_⟩
 ·rw [List.getElem?_map] at e
  have hi:i<z.cps.size:=by
   cases hr:(List.range z.cps.size)[i]? with
   |none=>rw [hr] at e;cases e
   |some j=>have:=(List.getElem?_eq_some_iff.mp hr).1;rwa [List.length_range] at this
  rw [List.getElem?_range hi] at e
  cases e
  exact ⟨hi,fun y H2 hy=>hy⟩
 ·rw [List.length_map,List.length_range]
  exact Nat.le_refl _
theorem pO {K:PySem.W.Frag} {a:Addr} {xs:List V} {tl:TE} {σ:St} {H:Hp} (hS:∀H',Same H H'→SqL K H' a xs) (h:∀R:VK,R (.ref a) H→tl σ H R) (R:It→Hp→Prop)
  (q:∀J:It,(∀H' i x,Same H H'→xs[i]?=some x→J.go i H'∧∀y H2,J.yld i H' y H2→H2=H'∧y=x)→(∀H',Same H H'→J.stop xs.length H')→R J H):sG K tl σ H R:=by
 refine h _ ⟨a,rfl,⟨xs,hS H (Same.refl H)⟩,q _ (fun H' i x s e=>⟨⟨xs,x,hS H' s,e⟩,fun y H2 hy=>?_⟩) fun H' s=>⟨xs,hS H' s,Nat.le_refl _⟩⟩
 obtain ⟨e1,e2⟩:=hy
 have e3:=e2 xs (hS H' s)
 rw [e] at e3
 cases e3
 exact ⟨e1,rfl⟩
end
end L2
namespace PySem
abbrev pY (t:Addr) (i:Nat):Obj:={ cls:=.type "tuple_iterator",data:=.fields #[.ref t,.int (i:Int) 0] }
abbrev uM (f0:Value) (TI TO:Addr):Obj:={ cls:=.type "zip",dict:=none,data:=.fields #[f0,.bool false,.bool false,.ref TI,.ref TO],slots:=#[] }
abbrev nO (a b:Value):Obj:={ cls:=.type "tuple",data:=.seq #[a,b] }
section
variable {prog:Program} {w:World} {A:Around} {E:Value→Shared→Prop} {s:Shared}
theorem yM {it t:Addr} {i:Nat} {its:Array Value} {x:Value} {Q:Value→Shared→Prop} (ho:s.heap.get? it=some (pY t i)) (ht:s.heap.IsTuple t its) (hx:its[i]?=some x)
  (q:∀h',h'.get? it=some (pY t (i+1))→Heap.SameBut it s.heap h'→Q x { s with heap:=h' }):wpAny (model prog w) A (Builtin.SmallTypes.nextOf (.ref it)) Q E s:=by
 have hT:s.TypeIs (.ref it) "tuple_iterator":=⟨_,ho,rfl⟩
 obtain ⟨ol,hol,_,nl,hdl⟩:=ht
 unfold Builtin.SmallTypes.nextOf
 refine wpAny_bind (wpAny_callSpecial?_slot (name:=Str.ofString "__next__") hT F.slot_tuple_iterator_next (wpAny_call_entry F.slot_tuple_iterator_next hT F.entry_tuple_iterator_next ?_ (F.args_tuple_iterator_next_1 _)))
 refine wpAny_bind (m:=field (.ref it) 0) (wpAny_field ho rfl (x:=.ref t) rfl ?_)
 refine (if_neg (show ¬ ((Value.ref t == Value.none)=true) from Bool.false_ne_true)).symm ▸ ?_
 refine wpAny_bind (m:=field (.ref it) 1) (wpAny_field ho rfl (x:=.int i 0) rfl ?_)
 refine wpAny_bind (m:=seqItems? (.ref t)) (wpAny_seqItems hol hdl ?_)
 simp only [Int.toNat_natCast,hx]
 refine wpAny_bind (wpAny_setField ho rfl (by simp) (wpAny_pure ⟨x,rfl,wpAny_pure (q _ ?_ (Heap.SameBut.update ..))⟩))
 exact Heap.get?_update_self _ ho rfl
theorem xJ {it t:Addr} {i:Nat} {its:Array Value} {Q:Value→Shared→Prop} (hh:A.handled=none) (ho:s.heap.get? it=some (pY t i)) (ht:s.heap.IsTuple t its) (hx:its[i]?=none)
  (q:∀h' e,Heap.ExtBut it s.heap h'→(∃o,h'.get? e=some o∧o.cls=.type "StopIteration")→E (.ref e) { s with heap:=h' }):wpAny (model prog w) A (Builtin.SmallTypes.nextOf (.ref it)) Q E s:=by
 have hT:s.TypeIs (.ref it) "tuple_iterator":=⟨_,ho,rfl⟩
 obtain ⟨ol,hol,_,nl,hdl⟩:=ht
 unfold Builtin.SmallTypes.nextOf
 refine wpAny_bind (wpAny_callSpecial?_slot (name:=Str.ofString "__next__") hT F.slot_tuple_iterator_next (wpAny_call_entry F.slot_tuple_iterator_next hT F.entry_tuple_iterator_next ?_ (F.args_tuple_iterator_next_1 _)))
 refine wpAny_bind (m:=field (.ref it) 0) (wpAny_field ho rfl (x:=.ref t) rfl ?_)
 refine (if_neg (show ¬ ((Value.ref t == Value.none)=true) from Bool.false_ne_true)).symm ▸ ?_
 refine wpAny_bind (m:=field (.ref it) 1) (wpAny_field ho rfl (x:=.int i 0) rfl ?_)
 refine wpAny_bind (m:=seqItems? (.ref t)) (wpAny_seqItems hol hdl ?_)
 simp only [Int.toNat_natCast,hx]
 refine wpAny_bind (wpAny_rule (wpAny_bind (wpAny_setField ho rfl (by simp) ?_)))
 unfold Builtin.SmallTypes.stopIteration
 refine wpAny_bind ?_
 simp only [newExc,newTuple]
 refine wpAny_bind (wpAny_newObj_type ?_ (by size_fits))
 refine wpAny_bind (m:=firstArgMember _ _) (wpAny_of_eq (a:=Value.none) (by first|rfl|(simp only [firstArgMember];rfl)) ?_)
 refine wpAny_newObj_type ?_ (by size_fits)
 simp only [raiseNew]
 refine wpAny_bind (wpAny_handled ?_)
 first|rw [show A.in1.handled=none from hh]|rw [hh]
 refine wpAny_bind (wpAny_pure (wpAny_throw ?_))
 exact q _ _ (((Heap.SameBut.update ..).extBut.push _).push _) ⟨_,Heap.get?_push_size _ rfl,rfl⟩
structure aEm (z TI TO a b:Addr):Prop where
 h1:TI≠z
 h2:TO≠z
 h3:a≠z
 h4:b≠z
 h5:TI≠TO
 h6:TI≠a
 h7:TI≠b
 h8:TO≠a
 h9:TO≠b
 h10:a≠b
theorem aKy {T:Addr} {a b x:Value} {k:Nat} {Q:Unit→Shared→Prop} (hT:s.heap.get? T=some (nO a b))
  (q:∀h',h'.get? T=some { cls:=.type "tuple",data:=.seq ((#[a,b]:Array Value).setIfInBounds k x) }→Heap.SameBut T s.heap h'→Q () { s with heap:=h' }) :
  wpAny (model prog w) A (updateSeq T (·.setIfInBounds k x)) Q E s:=by
 refine wpAny_updateSeq hT rfl (q _ ?_ (Heap.SameBut.update ..))
 rw [Heap.get?_update_self _ hT rfl]
 simp [Obj.mapSeq]
theorem aL8 {z TI TO i1 i2 t u:Addr} {k:Nat} {xs ys:Array Value} {x y a b:Value} {Q:Option Value→Shared→Prop} (D:aEm z TI TO i1 i2)
  (hz:s.heap.get? z=some (uM .none TI TO)) (hTI:s.heap.get? TI=some (nO (.ref i1) (.ref i2))) (hTO:s.heap.get? TO=some (nO a b))
  (g1:s.heap.get? i1=some (pY t k)) (g2:s.heap.get? i2=some (pY u k)) (ht:s.heap.IsTuple t xs) (hu:s.heap.IsTuple u ys) (hx:xs[k]?=some x) (hy:ys[k]?=some y)
  (t1:t≠z) (t2:t≠TO) (t3:t≠i1) (t4:t≠i2) (u1:u≠z) (u2:u≠TO) (u3:u≠i1) (u4:u≠i2)
  (q:∀h',h'.get? z=some (uM (rawInt s.heap.objs.size) TI TO)→h'.get? TO=some (nO x y)→h'.get? i1=some (pY t (k+1))→h'.get? i2=some (pY u (k+1))→h'.get? s.heap.objs.size=some (nO x y) →
   (∀c o,c≠z→c≠TO→c≠i1→c≠i2→s.heap.get? c=some o→h'.get? c=some o)→Q (some (.ref s.heap.objs.size)) { s with heap:=h' }) :
  wpAny (model prog w) A (pyNext (.ref z)) Q E s:=by
 have hT:s.TypeIs (.ref z) "zip":=⟨_,hz,rfl⟩
 unfold pyNext
 refine wpAny_bind (wpAny_attempt (wpAny_callSpecial?_slot (name:=Str.ofString "__next__") hT F.slot_zip_next (wpAny_call_entry F.slot_zip_next hT F.entry_zip_next ?_ (F.args_zip_next_1 _))))
 refine wpAny_bind (m:=field (.ref z) 2) (wpAny_field hz rfl (x:=.bool false) rfl ?_)
 refine wpAny_bind (m:=field (.ref z) 3) (wpAny_field hz rfl (x:=.ref TI) rfl (wpAny_bind (wpAny_seqItems hTI rfl ?_)))
 refine wpAny_bind (m:=Builtin.SmallTypes.ownedTupleIsFree (.ref z)) ?_
 unfold Builtin.SmallTypes.ownedTupleIsFree
 refine wpAny_bind (wpAny_field hz rfl (x:=.none) rfl (wpAny_pure ?_))
 simp only [if_true]
 refine wpAny_bind (wpAny_rule (wpAny_bind (wpAny_field hz rfl (x:=.ref TO) rfl (wpAny_bind (wpAny_setField_rec hz (by simp) fun h1 z1 s1=>?_)))))
 replace z1:h1.get? z=some (uM .ellipsis TI TO):=z1
 refine wpAny_bind ?_
 simp only [List.zipIdx_cons,List.zipIdx_nil,List.forIn_cons,List.forIn_nil]
 refine wpAny_bind (wpAny_bind (wpAny_onRaise ?_))
 refine wpAny_bind (m:=Builtin.SmallTypes.nextOf (.ref i1)) (yM (s:={ s with heap:=h1 }) (s1.extBut _ _ D.h3 g1) (ht.extBut s1.extBut t1) hx fun h2 g12 s2=>wpAny_pure ?_)
 have TO2:h2.get? TO=some (nO a b):=s2.extBut _ _ D.h8 (s1.extBut _ _ D.h2 hTO)
 refine wpAny_bind (wpAny_seqItems TO2 rfl (wpAny_bind (aKy (s:={ s with heap:=h2 }) TO2 fun h3 TO3 s3=>wpAny_bind (wpAny_letGo (wpAny_pure ?_)))))
 replace TO3:h3.get? TO=some (nO x b):=TO3
 refine wpAny_bind (wpAny_bind (wpAny_onRaise ?_))
 refine wpAny_bind (m:=Builtin.SmallTypes.nextOf (.ref i2)) (yM (s:={ s with heap:=h3 }) (s3.extBut _ _ D.h9.symm (s2.extBut _ _ D.h10.symm (s1.extBut _ _ D.h4 g2))) (((hu.extBut s1.extBut u1).extBut s2.extBut u3).extBut s3.extBut u2) hy fun h4 g24 s4=>wpAny_pure ?_)
 have TO4:h4.get? TO=some (nO x b):=s4.extBut _ _ D.h9 TO3
 refine wpAny_bind (wpAny_seqItems TO4 rfl (wpAny_bind (aKy (s:={ s with heap:=h4 }) TO4 fun h5 TO5 s5=>wpAny_bind (wpAny_letGo (wpAny_pure (wpAny_pure ?_))))))
 replace TO5:h5.get? TO=some (nO x y):=TO5
 refine wpAny_bind (wpAny_seqItems TO5 rfl (wpAny_bind (wpAny_newTuple ?_)))
 have hsz:h5.objs.size=s.heap.objs.size:=by rw [s5.1,s4.1,s3.1,s2.1,s1.1]
 have z5:h5.get? z=some (uM .ellipsis TI TO):=s5.extBut _ _ D.h2.symm (s4.extBut _ _ D.h4.symm (s3.extBut _ _ D.h2.symm (s2.extBut _ _ D.h3.symm z1)))
 have kp:∀c o,c≠z→c≠TO→c≠i1→c≠i2→s.heap.get? c=some o→h5.get? c=some o:=fun c o c1 c2 c3 c4 e=>s5.extBut _ _ c2 (s4.extBut _ _ c4 (s3.extBut _ _ c2 (s2.extBut _ _ c3 (s1.extBut _ _ c1 e))))
 have g15:h5.get? i1=some (pY t (k+1)):=s5.extBut _ _ D.h8.symm (s4.extBut _ _ D.h10 (s3.extBut _ _ D.h8.symm g12))
 have g25:h5.get? i2=some (pY u (k+1)):=s5.extBut _ _ D.h9.symm g24
 refine wpAny_bind (m:=Builtin.SmallTypes.ownedTupleHandOut (.ref z) (.ref h5.objs.size)) ?_
 unfold Builtin.SmallTypes.ownedTupleHandOut
 have z6:(h5.push (nO x y)).get? z=some (uM .ellipsis TI TO):=Heap.get?_push_of_some _ z5
 refine wpAny_bind (wpAny_setField_rec z6 (by simp) fun h7 z7 s7=>?_)
 replace z7:h7.get? z=some (uM (rawInt h5.objs.size) TI TO):=z7
 refine wpAny_setField_rec z7 (by simp) fun h8 z8 s8=>?_
 replace z8:h8.get? z=some (uM (rawInt h5.objs.size) TI TO):=z8
 have up:∀c o,c≠z→h5.get? c=some o→h8.get? c=some o:=fun c o c1 e=>s8.extBut _ _ c1 (s7.extBut _ _ c1 (Heap.get?_push_of_some _ e))
 have nz:h5.objs.size≠z:=Nat.ne_of_gt (Heap.lt_size z5)
 have T8:h8.get? h5.objs.size=some (nO x y):=s8.extBut _ _ nz (s7.extBut _ _ nz (Heap.get?_push_size _ rfl))
 rw [hsz] at z8 T8
 refine wpAny_pure ⟨_,rfl,wpAny_pure ?_⟩
 show Q (some (.ref h5.objs.size)) _
 rw [hsz]
 exact q h8 z8 (up _ _ D.h2 TO5) (up _ _ D.h3 g15) (up _ _ D.h4 g25) T8 fun c o c1 c2 c3 c4 e=>up c o c1 (kp c o c1 c2 c3 c4 e)
theorem aO1 {z TI TO i1 i2 t:Addr} {k:Nat} {xs:Array Value} {a b:Value} {Q:Option Value→Shared→Prop} (hh:A.handled=none) (D:aEm z TI TO i1 i2)
  (hz:s.heap.get? z=some (uM .none TI TO)) (hTI:s.heap.get? TI=some (nO (.ref i1) (.ref i2))) (hTO:s.heap.get? TO=some (nO a b))
  (g1:s.heap.get? i1=some (pY t k)) (ht:s.heap.IsTuple t xs) (hx:xs[k]?=none) (t1:t≠z)
  (q:∀h',(∀c o,c≠z→c≠TO→c≠i1→c≠i2→s.heap.get? c=some o→h'.get? c=some o)→Q none { s with heap:=h' }) :
  wpAny (model prog w) A (pyNext (.ref z)) Q E s:=by
 have hT:s.TypeIs (.ref z) "zip":=⟨_,hz,rfl⟩
 unfold pyNext
 refine wpAny_bind (wpAny_attempt (wpAny_callSpecial?_slot (name:=Str.ofString "__next__") hT F.slot_zip_next (wpAny_call_entry F.slot_zip_next hT F.entry_zip_next ?_ (F.args_zip_next_1 _))))
 refine wpAny_bind (m:=field (.ref z) 2) (wpAny_field hz rfl (x:=.bool false) rfl ?_)
 refine wpAny_bind (m:=field (.ref z) 3) (wpAny_field hz rfl (x:=.ref TI) rfl (wpAny_bind (wpAny_seqItems hTI rfl ?_)))
 refine wpAny_bind (m:=Builtin.SmallTypes.ownedTupleIsFree (.ref z)) ?_
 unfold Builtin.SmallTypes.ownedTupleIsFree
 refine wpAny_bind (wpAny_field hz rfl (x:=.none) rfl (wpAny_pure ?_))
 simp only [if_true]
 refine wpAny_bind (wpAny_rule (wpAny_bind (wpAny_field hz rfl (x:=.ref TO) rfl (wpAny_bind (wpAny_setField_rec hz (by simp) fun h1 z1 s1=>?_)))))
 replace z1:h1.get? z=some (uM .ellipsis TI TO):=z1
 refine wpAny_bind ?_
 simp only [List.zipIdx_cons,List.zipIdx_nil,List.forIn_cons,List.forIn_nil]
 refine wpAny_bind (wpAny_bind (wpAny_onRaise ?_))
 refine wpAny_bind (m:=Builtin.SmallTypes.nextOf (.ref i1)) (xJ (s:={ s with heap:=h1 }) hh (s1.extBut _ _ D.h3 g1) (ht.extBut s1.extBut t1) hx fun h2 e s2 he=>?_)
 obtain ⟨oe,hoe,hce⟩:=he
 have z2:h2.get? z=some (uM .ellipsis TI TO):=s2 _ _ D.h3.symm z1
 have hez:e≠z:=fun x=>by subst x;rw [z2] at hoe;cases hoe;simp at hce
 refine wpAny_setField_rec z2 (by simp) fun h3 _ s3=>?_
 refine wpAny_bind (wpAny_isInstance (T:="StopIteration") (b:=true) ⟨oe,s3.extBut _ _ hez hoe,hce⟩ isSubtype_stop ?_)
 exact wpAny_pure (q _ fun c o c1 _ c3 _ x=>s3.extBut _ _ c1 (s2 _ _ c3 (s1.extBut _ _ c1 x)))
end
end PySem
namespace PySem
section
variable {prog:Program} {w:World} {A:Around} {E:Value→Shared→Prop} {s:Shared}
abbrev zT1 (h:Heap) (t:Addr):Heap:=h.push (pY t 0)
abbrev zT2 (h:Heap) (t u:Addr):Heap:=(zT1 h t).push (pY u 0)
abbrev zT3 (h:Heap) (t u:Addr):Heap:=(zT2 h t u).push (nO (.ref h.objs.size) (.ref (zT1 h t).objs.size))
abbrev zT4 (h:Heap) (t u:Addr):Heap:=(zT3 h t u).push (nO .none .none)
abbrev zT5 (h:Heap) (t u:Addr):Heap:=(zT4 h t u).push (uM .none (zT2 h t u).objs.size (zT3 h t u).objs.size)
theorem aIm (t u:Addr) (xs ys:Array Value):Meets (Builtin.«zip.__new__» ⟨[.type "zip",.ref t,.ref u],[]⟩)
  (fun _ R s=>s.heap.IsTuple t xs∧s.heap.IsTuple u ys∧R (.ok (.ret (.ref (zT4 s.heap t u).objs.size))) { s with heap:=zT5 s.heap t u }):=
 .of_wp fun prog w A R s h=>by
  obtain ⟨hp,g,d,tk,os⟩:=s
  obtain ⟨a1,a2,h⟩:=h
  have hsub:=sub_zip
  have b1:Heap.IsTuple (Shared.heap ⟨hp,g,d,tk,os⟩) t xs:=a1
  have b2:Heap.IsTuple (Shared.heap ⟨hp.push { cls:=.type "tuple_iterator",data:=.fields #[.ref t,.int 0 0] },g,d,tk,os⟩) u ys:=by
   obtain ⟨o,ho,r⟩:=a2
   exact ⟨o,Heap.get?_push_of_some _ ho,r⟩
  wp_walk using wpAny_pyIter_tuple b1,wpAny_pyIter_tuple b2
  exact ⟨_,rfl,h⟩
theorem aM9 {t u:Addr} {xs ys:Array Value} {Q:Value→Shared→Prop} (ht:s.heap.IsTuple t xs) (hu:s.heap.IsTuple u ys) (q:Q (.ref (zT4 s.heap t u).objs.size) { s with heap:=zT5 s.heap t u }) :
  wpAny (model prog w) A (call (.type "zip") [.ref t,.ref u]) Q E s:=by
 refine callType_new F.called_zip (by decide) (F.typeCall_zip_2 _ _) (F.newCall_zip_2 _ _) (fun obj=>F.args_object_init_3 obj _ _) F.entry_zip_new (aIm t u xs ys) ⟨ht,hu,?_⟩
 exact ⟨⟨_,Heap.get?_push_size _ rfl,rfl⟩,q⟩
end
end PySem
namespace L2
open PySem PySem.Spec PyProof.Rows
section
variable {X:Cx} {pins:List (Addr × Obj)} {σ:St} {H:Hp} {s:Shared}
theorem Inv.tup_ne {t b:Addr} {xs:List V} (I:Inv X pins σ H s) (h:SqT X.K H t xs) (f:oA X pins H b):t≠b:=by
 rintro rfl
 obtain ⟨f0,f1,f2,f3,_⟩:=f
 rcases h with (h|⟨o,h⟩)|⟨o,its,n,hk,_⟩
 ·rw [f0] at h;cases h
 ·rw [f0] at h;cases h
 ·have e:=I.ok.mod.kin t o hk
  rcases f3 with z|z
  ·exact I.ok.noex t o e z
  ·exact absurd (Nat.lt_of_lt_of_le (Heap.lt_size e) (Nat.le_trans I.ok.bsz z)) (Nat.lt_irrefl _)
theorem Inv.drawn {ch:List Addr} {h':Heap} {vs:List V} {its:List Value} {T:Addr} (I:Inv X pins σ H s) (hch:∀b∈ch,oA X pins H b) (kp:∀b o,b∉ch→s.heap.get? b=some o→h'.get? b=some o)
  (hT:s.heap.objs.size≤T) (hv:Vals vs its) (hz:vs.length≤sizeLine) (ho:wA h' T its.toArray) (hth:∀b∈ch,∃o,h'.get? b=some o):Inv X pins σ (upd H T (.tup vs)) { s with heap:=h' }:=by
 have fT:H T=none:=I.hok.fresh hT
 have nT:∀b o,s.heap.get? b=some o→b≠T:=fun b o e=>Nat.ne_of_lt (Nat.lt_of_lt_of_le (Heap.lt_size e) hT)
 have nch:∀b u,H b=some u→b∉ch:=fun b u e z=>by rw [(hch b z).1] at e;cases e
 refine I.step (g':=s.gens) (d':=s.drawn) (t':=s.toks) (ch:=ch) (fun b hb=>?_) (fun b o _ _ hc e _=>kp b o hc e) (fun b o _ _ hc e _=>⟨o.slots,kp b o hc e⟩) (fun b o hc e n=>by rw [aU (nT b o e)];exact n)
  (fun b o hc e=>⟨o,kp b o hc e⟩) (fun b xs e=>by rw [aU (aZ e fT)];exact e) (fun b o u e=>by rw [aU (aZ e fT)];exact e) (fun b ps e=>⟨#[],by rw [aU (aZ e fT),e];simp⟩) (fun m hm=>?_) (fun b u e=>?_) I.bare
 ·obtain ⟨_,f1,_,f3,f4,f5⟩:=hch b hb
  exact ⟨f3,f1,f4,f5⟩
 ·obtain ⟨o,es,ep,ho',r⟩:=hm
  exact ⟨o,es,ep,kp _ o (fun z=>(hch _ z).2.1 rfl) ho',r⟩
 ·by_cases hb:b=T
  ·subst hb
   rw [aH] at e
   cases e
   exact ⟨hz,its,hv,ho⟩
  ·rw [aU hb] at e
   refine (I.hok b u e).stay (fun c v hc' q=>kp c v ?_ q) (fun c q=>by rw [aU (aZ q fT)];exact q) fun c xs q=>by rw [aU (aZ q fT)];exact q
   rcases hc' with z|z
   ·rw [z];exact nch b u e
   ·exact nch c _ z
theorem Inv.aK9 {ch:List Addr} {h':Heap} (I:Inv X pins σ H s) (hch:∀b∈ch,oA X pins H b) (kp:∀b o,b∉ch→s.heap.get? b=some o→h'.get? b=some o):Inv X pins σ H { s with heap:=h' }:=by
 have nch:∀b u,H b=some u→b∉ch:=fun b u e z=>by rw [(hch b z).1] at e;cases e
 refine I.step (g':=s.gens) (d':=s.drawn) (t':=s.toks) (ch:=ch) (fun b hb=>?_) (fun b o _ _ hc e _=>kp b o hc e) (fun b o _ _ hc e _=>⟨o.slots,kp b o hc e⟩) (fun _ _ _ _ n=>n)
  (fun b o hc e=>⟨o,kp b o hc e⟩) (fun _ _ e=>e) (fun _ _ _ e=>e) (fun b ps e=>⟨#[],by rw [e];simp⟩) (fun m hm=>?_) (fun b u e=>?_) I.bare
 ·obtain ⟨_,f1,_,f3,f4,f5⟩:=hch b hb
  exact ⟨f3,f1,f4,f5⟩
 ·obtain ⟨o,es,ep,ho',r⟩:=hm
  exact ⟨o,es,ep,kp _ o (fun z=>(hch _ z).2.1 rfl) ho',r⟩
 ·refine (I.hok b u e).stay (fun c v hc' q=>kp c v ?_ q) (fun _ q=>q) fun _ _ q=>q
  rcases hc' with z|z
  ·rw [z];exact nch b u e
  ·exact nch c _ z
end
def Itz (K:PySem.W.Frag) (t u:Addr) (xs ys:List V):It:=
 ⟨fun i H=>SqT K H t xs∧SqT K H u ys∧i<xs.length∧i<ys.length,fun i H v H'=>∃T a b,H T=none∧v=.ref T∧H'=upd H T (.tup [a,b])∧xs[i]?=some a∧ys[i]?=some b,fun i H=>SqT K H t xs∧xs.length≤i⟩
def ztn (z TI TO i1 i2 t u:Addr) (i:Nat) (h:Heap):Prop:=
 h.get? z=some (uM .none TI TO)∧h.get? TI=some (nO (.ref i1) (.ref i2))∧(∃a b,h.get? TO=some (nO a b))∧h.get? i1=some (pY t i)∧h.get? i2=some (pY u i)
theorem aQt {P:Program} {w:World} {K:PySem.W.Frag} {elts:List Expr} {kt:Nat} {pos:Pos} {z TI TO i1 i2 t u:Addr} {xs ys:List V} (D:aEm z TI TO i1 i2) :
  Turn P w K (.Tuple elts kt pos) (Itz K t u xs ys) [z,TI,TO,i1,i2] z (ztn z TI TO i1 i2 t u) where
 mem:=by simp
 obj:=fun i h st b hb=>by
  obtain ⟨e1,e2,⟨a,c,e3⟩,e4,e5⟩:=st
  simp only [List.mem_cons,List.not_mem_nil,or_false] at hb
  rcases hb with rfl|rfl|rfl|rfl|rfl
  ·exact ⟨_,e1,fun v z=>by cases (show Data.fields _=Data.cell v from z)⟩
  ·exact ⟨_,e2,fun v z=>by cases (show Data.seq _ _=Data.cell v from z)⟩
  ·exact ⟨_,e3,fun v z=>by cases (show Data.seq _ _=Data.cell v from z)⟩
  ·exact ⟨_,e4,fun v z=>by cases (show Data.fields _=Data.cell v from z)⟩
  ·exact ⟨_,e5,fun v z=>by cases (show Data.fields _=Data.cell v from z)⟩
 keep:=fun i h h' st k=>by
  obtain ⟨e1,e2,⟨a,c,e3⟩,e4,e5⟩:=st
  exact ⟨k z (by simp) _ e1,k TI (by simp) _ e2,⟨a,c,k TO (by simp) _ e3⟩,k i1 (by simp) _ e4,k i2 (by simp) _ e5⟩
 item:=by
  intro X hP hw hK hc i pins s σ H E I hf st hg
  subst hP hw hK
  obtain ⟨e1,e2,⟨a0,c0,e3⟩,e4,e5⟩:=st
  obtain ⟨ht,hu,l1,l2⟩:=hg
  obtain ⟨its,rv,pt,hz⟩:=I.tuple ht
  obtain ⟨jts,rw',pu,hz'⟩:=I.tuple hu
  obtain ⟨x,hx,rx⟩:=rv.get (List.getElem?_eq_getElem l1)
  obtain ⟨y,hy,ry⟩:=rw'.get (List.getElem?_eq_getElem l2)
  have fz:=hf z (by simp)
  have fO:=hf TO (by simp)
  have f1:=hf i1 (by simp)
  have f2:=hf i2 (by simp)
  refine aL8 D e1 e2 e3 e4 e5 (show s.heap.IsTuple t its.toArray from pt) (show s.heap.IsTuple u jts.toArray from pu) (by simpa using hx) (by simpa using hy) (I.tup_ne ht fz) (I.tup_ne ht fO) (I.tup_ne ht f1) (I.tup_ne ht f2)
   (I.tup_ne hu fz) (I.tup_ne hu fO) (I.tup_ne hu f1) (I.tup_ne hu f2) fun h' a1 a2 a3 a4 a5 kp=>?_
  refine ⟨_,rfl,?_⟩
  have fT:H s.heap.objs.size=none:=I.hok.fresh (Nat.le_refl _)
  have I1:Inv X pins σ (upd H s.heap.objs.size (.tup [xs[i],ys[i]])) { s with heap:=h' }:=by
   refine I.drawn (ch:=[z,TO,i1,i2]) (its:=[x,y]) (fun b hb=>?_) (fun b o hb e=>?_) (Nat.le_refl _) (.cons rx (.cons ry .nil)) (small (by simp)) (.of a5 rfl ⟨_,a5,rfl,_,rfl⟩) (fun b hb=>?_)
   ·refine hf b ?_
    simp only [List.mem_cons,List.not_mem_nil,or_false] at hb ⊢
    rcases hb with h|h|h|h <;> simp [h]
   ·simp only [List.mem_cons,List.not_mem_nil,or_false,not_or] at hb
    exact kp b o hb.1 hb.2.1 hb.2.2.1 hb.2.2.2 e
   ·simp only [List.mem_cons,List.not_mem_nil,or_false] at hb
    rcases hb with rfl|rfl|rfl|rfl
    ·exact ⟨_,a1⟩
    ·exact ⟨_,a2⟩
    ·exact ⟨_,a3⟩
    ·exact ⟨_,a4⟩
  have nT:∀b∈[z,TI,TO,i1,i2],b≠s.heap.objs.size:=fun b hb=>by
   have e:∃o,s.heap.get? b=some o:=by
    simp only [List.mem_cons,List.not_mem_nil,or_false] at hb
    rcases hb with rfl|rfl|rfl|rfl|rfl
    ·exact ⟨_,e1⟩
    ·exact ⟨_,e2⟩
    ·exact ⟨_,e3⟩
    ·exact ⟨_,e4⟩
    ·exact ⟨_,e5⟩
   obtain ⟨o,e⟩:=e
   exact Nat.ne_of_lt (Heap.lt_size e)
  refine wpAny_letOwnedTupleGo_zip (s:={ s with heap:=h' }) a1 fun h2 z2 s2=>?_
  obtain ⟨g0,g1,g2,g3,g4,g5⟩:=fz
  have I2:Inv X pins σ (upd H s.heap.objs.size (.tup [xs[i],ys[i]])) { s with heap:=h2 }:=Inv.turned (s:={ s with heap:=h' }) I1 (t':=s.toks) (it:=z) (fun b o hb e=>(s2.2 b hb).trans e) (by rw [aU (nT z (by simp))];exact g0) g1 g3 g4 g5
  refine ⟨.ref s.heap.objs.size,_,I2,rfl,⟨_,_,_,fT,rfl,rfl,List.getElem?_eq_getElem l1,List.getElem?_eq_getElem l2⟩,?_,fun b hb=>by rw [aU (nT b hb)];exact (hf b hb).1⟩
  exact ⟨z2,s2.extBut _ _ D.h1 (kp TI _ D.h1 D.h5 D.h6 D.h7 e2),⟨_,_,s2.extBut _ _ D.h2 a2⟩,s2.extBut _ _ D.h3 a3,s2.extBut _ _ D.h4 a4⟩
 done:=by
  intro X hP hw hK hc i pins s σ H E I hf st hg
  subst hP hw hK
  obtain ⟨e1,e2,⟨a0,c0,e3⟩,e4,e5⟩:=st
  obtain ⟨ht,hl⟩:=hg
  obtain ⟨its,rv,pt,hz⟩:=I.tuple ht
  have hlen:=rv.length
  refine aO1 (I.ok.hd hc) D e1 e2 e3 e4 (show s.heap.IsTuple t its.toArray from pt) (by simp;omega) (I.tup_ne ht (hf z (by simp))) fun h' kp=>⟨rfl,?_⟩
  refine Inv.aK9 (ch:=[z,TO,i1,i2]) I (fun b hb=>hf b ?_) fun b o hb e=>?_
  ·simp only [List.mem_cons,List.not_mem_nil,or_false] at hb ⊢
   rcases hb with h|h|h|h <;> simp [h]
  ·simp only [List.mem_cons,List.not_mem_nil,or_false,not_or] at hb
   exact kp b o hb.1 hb.2.1 hb.2.2.1 hb.2.2.2 e
 self:=fun _ _ _ _ _ st h=>wpAny_pyIter_zip st.1 h
section
variable {X:Cx}
def aKz (K:PySem.W.Frag) (ta:TA):TI:=fun σ H R=>ta σ H fun vs H1=>∃t u xs ys,vs=[.ref t,.ref u]∧SqT K H1 t xs∧SqT K H1 u ys∧R (Itz K t u xs ys) H1
theorem aSc {elts:List Expr} {kt:Nat} {tp:Pos} {a b:Expr} {ta:TA} {p pos:Pos} (hg:Gl X "zip") (hm:X.mg "zip"=none) (ha:PA X [a,b] ta) (hs:starEach [a,b] X.env=(false,eval a X.env)::starEach [b] X.env:=by rfl)
  (hs2:starEach [b] X.env=[(false,eval b X.env)]:=by rfl):PI X (.Tuple elts kt tp) (.Call (.Name "zip" p) [a,b] [] pos) (aKz X.K ta):=by
 intro pins s σ H R I h
 refine Call_ (rH I hg hm aU1 (PyProof.Rows.callWith_type1 (thn (ha pos pins s σ H _ I h) fun us s1 ⟨vs,H1,I1,r1,q1⟩=>?_) hs (by rw [hs2];rfl)))
 obtain ⟨t,u,xs,ys,e,ht,hu,q⟩:=q1
 subst e
 obtain ⟨its,rv,pt,hz⟩:=I1.tuple ht
 obtain ⟨jts,rw',pu,hz'⟩:=I1.tuple hu
 cases r1 with
 |cons r rr=>
  cases rr with
  |cons r' rr'=>
   cases rr'
   cases r
   cases r'
   refine aM9 (show s1.heap.IsTuple t its.toArray from pt) (show s1.heap.IsTuple u jts.toArray from pu) ?_
   have z1:(zT1 s1.heap t).objs.size=s1.heap.objs.size+1:=Heap.size_push ..
   have z2:(zT2 s1.heap t u).objs.size=s1.heap.objs.size+2:=by rw [Heap.size_push,z1]
   have z3:(zT3 s1.heap t u).objs.size=s1.heap.objs.size+3:=by rw [Heap.size_push,z2]
   have z4:(zT4 s1.heap t u).objs.size=s1.heap.objs.size+4:=by rw [Heap.size_push,z3]
   have D:aEm (zT4 s1.heap t u).objs.size (zT2 s1.heap t u).objs.size (zT3 s1.heap t u).objs.size s1.heap.objs.size (zT1 s1.heap t).objs.size:=by
    constructor <;> (show (_:Nat)≠(_:Nat);rw [Ne];intro h;simp only [z1,z2,z3,z4] at h;omega)
   have g5:(zT5 s1.heap t u).get? (zT4 s1.heap t u).objs.size=some (uM .none (zT2 s1.heap t u).objs.size (zT3 s1.heap t u).objs.size):=Heap.get?_push_size _ rfl
   have g4:(zT5 s1.heap t u).get? (zT3 s1.heap t u).objs.size=some (nO .none .none):=Heap.get?_push_of_some _ (Heap.get?_push_size _ rfl)
   have g3:(zT5 s1.heap t u).get? (zT2 s1.heap t u).objs.size=some (nO (.ref s1.heap.objs.size) (.ref (zT1 s1.heap t).objs.size)):=Heap.get?_push_of_some _ (Heap.get?_push_of_some _ (Heap.get?_push_size _ rfl))
   have g2:(zT5 s1.heap t u).get? (zT1 s1.heap t).objs.size=some (pY u 0):=Heap.get?_push_of_some _ (Heap.get?_push_of_some _ (Heap.get?_push_of_some _ (Heap.get?_push_size _ rfl)))
   have g1:(zT5 s1.heap t u).get? s1.heap.objs.size=some (pY t 0):=Heap.get?_push_of_some _ (Heap.get?_push_of_some _ (Heap.get?_push_of_some _ (Heap.get?_push_of_some _ (Heap.get?_push_size _ rfl))))
   have I2:Inv X pins σ H1 { s1 with heap:=zT5 s1.heap t u }:=I1.kept (t':=s1.toks) fun b o e=>Heap.get?_push_of_some _ (Heap.get?_push_of_some _ (Heap.get?_push_of_some _ (Heap.get?_push_of_some _ (Heap.get?_push_of_some _ e))))
   refine wpAny_pyIter_zip (s:={ s1 with heap:=zT5 s1.heap t u }) g5 ⟨_,_,_,_,H1,rfl,I2,aQt (xs:=xs) (ys:=ys) D,⟨g5,g3,⟨_,_,g4⟩,g1,g2⟩,fun b hb=>?_,q⟩
   have hb':s1.heap.objs.size≤b:=by
    simp only [List.mem_cons,List.not_mem_nil,or_false] at hb
    rcases hb with rfl|rfl|rfl|rfl|rfl
    ·rw [z4];exact Nat.le_add_right ..
    ·rw [z2];exact Nat.le_add_right ..
    ·rw [z3];exact Nat.le_add_right ..
    ·exact Nat.le_refl _
    ·rw [z1];exact Nat.le_add_right ..
   exact I1.aB2 hb' (I1.hok.fresh hb')
end
section
variable {X:Cx}
inductive Tk (K:PySem.W.Frag) (H:Hp):V→Bool→Prop
 |int {i}:Tk K H (.int i) false
 |str {x}:Tk K H (.str x) false
 |bl {b}:Tk K H (.bl b) false
 |non:Tk K H .non false
 |lst {a xs}:SqL K H a xs→Tk K H (.ref a) false
 |dct {a kvs}:H a=some (.dK kvs)→Tk K H (.ref a) false
 |tup {a xs}:SqT K H a xs→Tk K H (.ref a) true
def aW2 (K:PySem.W.Frag):List V→Hp→VK→Prop:=fun xs H Q=>∃x b,xs=[x,.ty "tuple"]∧Tk K H x b∧Q (.bl b) H
theorem iD:cD X (.builtin "isinstance") (aW2 X.K):=by
 intro pins s σ H xs us Q I r h
 obtain ⟨x,b,rfl,hx,q⟩:=h
 obtain ⟨u,v,rfl,rx,rT⟩:=r.two
 cases rT
 have f0:EP X pins σ Q (.bool b) s:=⟨.bl _,H,I,rfl,q⟩
 have f1:EP X pins σ Q (.bool b) { s with toks:=s.toks+1 }:=⟨.bl _,H,I.tok _,rfl,q⟩
 cases hx with
 |int=>obtain ⟨t,rfl⟩:=rx;exact IsiPair.int_tuple f1
 |str=>obtain ⟨t,rfl⟩:=rx;exact IsiPair.str_tuple f1
 |bl=>cases rx;exact IsiPair.bool_tuple f1
 |non=>cases rx;exact IsiPair.NoneType_tuple f1
 |lst hq=>
  cases rx
  obtain ⟨its,rv,⟨o,n,e,c,_⟩,hz⟩:=I.list hq
  exact IsiPair.list_tuple e c f1
 |dct hq=>
  cases rx
  obtain ⟨_,_,_,_,o,_,_,e,ex,_⟩:=I.hok _ _ hq
  exact IsiPair.dict_tuple e ex.1 f1
 |tup hq=>
  cases rx
  obtain ⟨its,rv,⟨o,e,c,_⟩,hz⟩:=I.tuple hq
  exact IsiPair.tuple_tuple e c f0
end
section
variable {X:Cx} {scope:Scope} {N:List Str} {wi:TI} {te:TE} {σ:St} {H:Hp} {Q:VK}
theorem dG {σ0:St} {j:Nat} (h0:σ0[j]?=some none):σ0=σ0.set j none:=by
 refine (List.ext_getElem? fun i=>?_)
 rw [List.getElem?_set]
 split
 ·rename_i hj
  subst hj
  split
  ·exact h0
  ·rename_i hlt
   exact List.getElem?_eq_none_iff.mpr (by omega)
 ·rfl
theorem aMq (xs:List V) (f:V→V) (σ0:St) (cap:Cap X scope N σ σ0) (hsz:xs.length≤sizeLine)
  (hw:∀R:It→Hp→Prop,(∀J:It,(∀H' i x,Same H H'→xs[i]?=some x→J.go i H'∧∀y H2,J.yld i H' y H2→H2=H'∧y=x)→(∀H',Same H H'→J.stop xs.length H')→R J H)→wi σ H R)
  (he:∀x∈xs,∀H' R l,Same H H'→(∀H2,Same H' H2→R (f x) H2)→te ((σ0.set 0 l).set 0 (some x)) H' R) (h0:σ0[0]?=some none)
  (q:∀D H',Same H H'→H' D=some (.lst (xs.map f))→Q (.ref D) H') :
  gR X scope N wi (bZ 0) nA te σ H Q:=by
 refine ⟨σ0,cap,hw _ fun J go stop D hD=>?_⟩
 refine ⟨fun i m σ' H' ys=>i≤xs.length∧m=xs.length - i∧(∃l,σ'=σ0.set 0 l)∧Same H H'∧H' D=some (.lst ys)∧ys=(xs.take i).map f,⟨xs.length,Nat.zero_le _,rfl,⟨none,dG h0⟩,bG hD _,aH,rfl⟩,?_⟩
 rintro i m σ' H' ys ⟨hi,rfl,⟨l,rfl⟩,sm,hL,rfl⟩
 refine ⟨hL,?_⟩
 by_cases hlt:i<xs.length
 ·right
  obtain ⟨g1,g2⟩:=go H' i xs[i] sm (List.getElem?_eq_getElem hlt)
  refine ⟨g1,fun x H2 hy=>?_⟩
  obtain ⟨rfl,rfl⟩:=g2 x H2 hy
  unfold bZ nA
  dsimp only
  rw [if_pos rfl]
  refine he xs[i] (List.getElem_mem hlt) _ _ l sm fun H3 s3=>⟨s3 _ _ hL,?_,xs.length - (i+1),by omega,hlt,rfl,⟨some xs[i],?_⟩,?_,aH,?_⟩
  ·rw [List.length_map,List.length_take];omega
  ·rw [List.set_set]
  ·intro b o e
   rw [aU (aZ e hD)]
   exact s3 _ _ (sm _ _ e)
  ·rw [List.take_add_one,List.getElem?_eq_getElem hlt,List.map_append]
   rfl
 ·left
  have e:i=xs.length:=by omega
  subst e
  refine ⟨stop _ sm,?_⟩
  rw [List.take_length] at hL
  exact q D _ sm hL
theorem iV {K:PySem.W.Frag} {a:Addr} {xs:List V} {tl:TE} (hS:SqT K H a xs) (h:∀R:VK,R (.ref a) H→tl σ H R) (R:It→Hp→Prop)
  (q:∀J:It,(∀H' i x,Same H H'→xs[i]?=some x→J.go i H'∧∀y H2,J.yld i H' y H2→H2=H'∧y=x)→(∀H',Same H H'→J.stop xs.length H')→R J H):aGb K tl σ H R:=by
 refine h _ ⟨a,rfl,⟨xs,hS⟩,q _ (fun H' i x s e=>⟨⟨xs,x,s.aP hS,e⟩,fun y H2 hy=>?_⟩) fun H' s=>⟨xs,s.aP hS,Nat.le_refl _⟩⟩
 obtain ⟨e1,e2⟩:=hy
 have e3:=e2 xs (s.aP hS)
 rw [e] at e3
 cases e3
 exact ⟨e1,rfl⟩
end
section
variable {κ:Type} [DecidableEq κ]
def pK (kvs:List (κ × V)) (k:κ):Option V:=(kvs.find? fun kv=>decide (kv.1=k)).map (·.2)
def putK (kvs:List (κ × V)) (k:κ) (v:V):List (κ × V):=
 if (kvs.any fun kv=>decide (kv.1=k))=true then kvs.map (fun kv=>if kv.1=k then (kv.1,v) else kv) else kvs++[(k,v)]
theorem xQ {p:κ × V} {r:List (κ × V)} {k:κ} (e:p.1=k):pK (p::r) k=some p.2:=by simp [pK,List.find?_cons,e]
theorem yN {p:κ × V} {r:List (κ × V)} {k:κ} (e:¬ p.1=k):pK (p::r) k=pK r k:=by simp [pK,List.find?_cons,e]
theorem aHo (k:κ):∀kvs:List (κ × V),(kvs.any fun kv=>decide (kv.1=k))=(pK kvs k).isSome
 |[]=>rfl
 |p::r=>by
  rw [List.any_cons]
  by_cases e:p.1=k
  ·simp only [xQ e,decide_eq_true e,Bool.true_or,Option.isSome_some]
  ·rw [yN e,decide_eq_false e,Bool.false_or];exact aHo k r
theorem oO (kvs:List (κ × V)) (k:κ) (v:V):(putK kvs k v).length≤kvs.length+1:=by
 unfold putK
 split
 ·rw [List.length_map];omega
 ·rw [List.length_append,List.length_cons,List.length_nil];omega
theorem zT.vG {o:Option V} {u:Option Value} (r:zT o u):o.isSome=u.isSome:=by
 cases o with
 |none=>cases u with
  |none=>rfl
  |some _=>exact (show False from r).elim
 |some _=>cases u with
  |none=>exact (show False from r).elim
  |some _=>rfl
theorem KV.val {kvs:List (κ × V)} {vs:List (κ × Value)} (r:KV kvs vs) (k:κ):zT (pK kvs k) (valueAt vs k):=by
 unfold KV at r
 induction r with
 |nil=>exact True.intro
 |@cons p q ps qs h t ih=>
  obtain ⟨h1,h2⟩:=h
  by_cases e:p.1=k
  ·have e':q.1=k:=h1.symm.trans e
   have b:valueAt (q::qs) k=some q.2:=by simp [valueAt,List.find?_cons,e']
   rw [xQ e,b];exact h2
  ·have e':¬ q.1=k:=fun z=>e (h1.trans z)
   have b:valueAt (q::qs) k=valueAt qs k:=by simp [valueAt,List.find?_cons,e']
   rw [yN e,b];exact ih
theorem KV.any {kvs:List (κ × V)} {vs:List (κ × Value)} (r:KV kvs vs) (k:κ):(kvs.any fun kv=>decide (kv.1=k))=vs.any fun kv=>decide (kv.1=k):=by
 unfold KV at r
 induction r with
 |nil=>rfl
 |cons h t ih=>rw [List.any_cons,List.any_cons,ih,h.1]
theorem KV.repl {kvs:List (κ × V)} {vs:List (κ × Value)} (r:KV kvs vs) (k:κ) {y:V} {u:Value} (ry:RelV y u) :
  KV (kvs.map fun kv=>if kv.1=k then (kv.1,y) else kv) (vs.map fun kv=>if kv.1=k then (kv.1,u) else kv):=by
 unfold KV at r ⊢
 induction r with
 |nil=>exact .nil
 |@cons p q ps qs h t ih=>
  rw [List.map_cons,List.map_cons]
  refine .cons ?_ ih
  obtain ⟨h1,h2⟩:=h
  by_cases e:p.1=k
  ·rw [if_pos e,if_pos (h1.symm.trans e)];exact ⟨h1,ry⟩
  ·rw [if_neg e,if_neg (fun z=>e (h1.trans z))];exact ⟨h1,h2⟩
theorem KV.put {kvs:List (κ × V)} {vs:List (κ × Value)} (r:KV kvs vs) (k:κ) {y:V} {u:Value} (ry:RelV y u):KV (putK kvs k y) (stored vs k u):=by
 unfold putK stored
 rw [r.any k]
 by_cases e:(vs.any fun kv=>decide (kv.1=k))=true
 ·rw [if_pos e,if_pos e];exact r.repl k ry
 ·rw [if_neg e,if_neg e];exact Paired.snoc r ⟨rfl,ry⟩
theorem KV.keys {kvs:List (κ × V)} {vs:List (κ × Value)} (r:KV kvs vs):kvs.map (·.1)=vs.map (·.1):=by
 unfold KV at r
 induction r with
 |nil=>rfl
 |cons h t ih=>rw [List.map_cons,List.map_cons,ih,h.1]
theorem KV.length {kvs:List (κ × V)} {vs:List (κ × Value)} (r:KV kvs vs):kvs.length=vs.length:=Paired.length r
end
theorem aGd {P:Program} {w:World} {k:Key} {u:Value} (r:RelV (kV k) u):(cJ P w).is k u=true:=by
 cases k with
 |inl i=>obtain ⟨t,e⟩:=(show ∃t,u=Value.int i t from r);subst e;exact aE3 P w i t
 |inr x=>obtain ⟨t,e⟩:=(show ∃t,u=Value.str x t from r);subst e;exact aFa P w x t
theorem aBd {P:Program} {w:World}:∀{ks:List Key} {us:List Value},Vals (ks.map kV) us→ItemsAre (cJ P w) ks us
 |[],_,r=>by rw [List.map_nil] at r;cases r;exact .nil
 |k::ks,_,r=>by
  rw [List.map_cons] at r
  cases r with
  |cons h t=>exact .cons (aGd h) (aBd t)
abbrev KT (H:Hp):List (List Key × V)→List (List Key × Addr × Value)→Prop:=Paired fun p q=>p.1=q.1∧H q.2.1=some (.tup (p.1.map kV))∧RelV p.2 q.2.2
theorem KT.val {H:Hp} {kvs:List (List Key × V)} {xs:List (List Key × Addr × Value)} (r:KT H kvs xs) (k:List Key):zT (pK kvs k) ((atKey xs k).map (·.2)):=by
 induction r with
 |nil=>exact True.intro
 |@cons p q ps qs h t ih=>
  obtain ⟨h1,_,h2⟩:=h
  by_cases e:p.1=k
  ·have e':q.1=k:=h1.symm.trans e
   have b:atKey (q::qs) k=some q.2:=by simp [atKey,List.find?_cons,e']
   rw [xQ e,b];exact h2
  ·have e':¬ q.1=k:=fun z=>e (h1.trans z)
   have b:atKey (q::qs) k=atKey qs k:=by simp [atKey,List.find?_cons,e']
   rw [yN e,b];exact ih
theorem KT.repl {H:Hp} {kvs:List (List Key × V)} {xs:List (List Key × Addr × Value)} (r:KT H kvs xs) (k:List Key) {y:V} {u:Value} (ry:RelV y u) :
  KT H (kvs.map fun kv=>if kv.1=k then (kv.1,y) else kv) (xs.map (putAt k u)):=by
 induction r with
 |nil=>exact .nil
 |@cons p q ps qs h t ih=>
  rw [List.map_cons,List.map_cons]
  refine .cons ?_ ih
  obtain ⟨h1,h2,h3⟩:=h
  unfold putAt
  by_cases e:p.1=k
  ·rw [if_pos e,if_pos (h1.symm.trans e)];exact ⟨h1,h2,ry⟩
  ·rw [if_neg e,if_neg (fun z=>e (h1.trans z))];exact ⟨h1,h2,h3⟩
theorem KT.put {H:Hp} {kvs:List (List Key × V)} {xs:List (List Key × Addr × Value)} (r:KT H kvs xs) (k:List Key) {b:Addr} {y:V} {u:Value} (hb:H b=some (.tup (k.map kV))) (ry:RelV y u) :
  KT H (putK kvs k y) (storedH xs k b u):=by
 have e:(kvs.any fun kv=>decide (kv.1=k))=(atKey xs k).isSome:=by
  rw [aHo,(r.val k).vG,Option.isSome_map]
 unfold putK storedH
 rw [e]
 by_cases q:(atKey xs k).isSome=true
 ·rw [if_pos q,if_pos q];exact r.repl k ry
 ·rw [if_neg q,if_neg q];exact Paired.snoc r ⟨rfl,hb,ry⟩
theorem KT.keeps {H H':Hp} {kvs:List (List Key × V)} {xs:List (List Key × Addr × Value)} (r:KT H kvs xs) (ht:∀b ys,H b=some (.tup ys)→H' b=some (.tup ys)):KT H' kvs xs:=
 Paired.aVs r fun _ _ z=>⟨z.1,ht _ _ z.2.1,z.2.2⟩
section
variable {P:Program} {w:World} {H:Hp} {h:Heap} {a:Addr}
theorem aTy {u:HO} (ok:HOk P w H h) (e:Rd H a u):dJ P w H h a u:=e.ok ok
theorem aLc {kvs:List (Key × V)} (ok:HOk P w H h) (e:Rd H a (.dK kvs)):kvs.length≤sizeLine∧(a == sysModules)=false∧∃vs,KV kvs vs∧h.DictOf (cJ P w) a vs:=
 show dJ P w H h a (.dK kvs) from aTy ok e
theorem aBb {kvs:List (Key × V)} (ok:HOk P w H h) (e:H a=some (.dK kvs)):kvs.length≤sizeLine∧(a == sysModules)=false∧∃vs,KV kvs vs∧h.DictOf (cJ P w) a vs:=aLc ok (.inl e)
theorem aD7 {ks:List Key} (ok:HOk P w H h) (e:H a=some (.tup (ks.map kV))):(tupleKind (cJ P w)).is h ks a:=by
 obtain ⟨_,its,r,⟨o,h1,h2,n,h3⟩,_⟩:=(show dJ P w H h a (.tup (ks.map kV)) from ok a _ e)
 exact ⟨o,its.toArray,n,h1,h2,h3,by simpa using aBd r⟩
theorem aK1 {kvs:List (List Key × V)} (ok:HOk P w H h) (e:Rd H a (.dT kvs)):kvs.length≤sizeLine∧(a == sysModules)=false ∧
  ∃xs,KT H kvs xs∧h.DictOfH (tupleKind (cJ P w)) a xs:=by
 obtain ⟨z,y,xs,r,o,es,ep,h1,h2,h3,h4,h5⟩:=(show dJ P w H h a (.dT kvs) from aTy ok e)
 refine ⟨z,y,xs,r,o,es,ep,h1,h2,h3,h4,fun x hx=>?_,h5⟩
 have all:∀{l:List (List Key × V)} {m:List (List Key × Addr × Value)},KT H l m→∀x∈m,(tupleKind (cJ P w)).is h x.1 x.2.1:=by
  intro l m q
  induction q with
  |nil=>intro x hx;exact nomatch hx
  |@cons p q ps qs hq t ih=>
   intro x hx
   rcases List.mem_cons.mp hx with e|hx
   ·subst e
    exact aD7 ok (by rw [←hq.1];exact hq.2.1)
   ·exact ih x hx
 exact all r x hx
theorem aXd {kvs:List (List Key × V)} (ok:HOk P w H h) (e:H a=some (.dT kvs)):kvs.length≤sizeLine∧(a == sysModules)=false ∧
  ∃xs,KT H kvs xs∧h.DictOfH (tupleKind (cJ P w)) a xs:=aK1 ok (.inl e)
end
def xW (H:Hp) (a:Addr) (y:V) (r:Option V):Prop:=
 (∃kvs k,Rd H a (.dK kvs)∧y=kV k∧r=pK kvs k)∨∃kvs k b,Rd H a (.dT kvs)∧y=.ref b∧H b=some (.tup (k.map kV))∧r=pK kvs k
def aPh (H:Hp) (a:Addr) (y v:V) (H':Hp):Prop:=
 (∃kvs k,H a=some (.dK kvs)∧y=kV k∧kvs.length<sizeLine∧H'=upd H a (.dK (putK kvs k v))) ∨
 ∃kvs k b,H a=some (.dT kvs)∧y=.ref b∧H b=some (.tup (k.map kV))∧kvs.length<sizeLine∧H'=upd H a (.dT (putK kvs k v))
theorem xW.k {H:Hp} {a:Addr} {kvs:List (Key × V)} {k:Key} (e:H a=some (.dK kvs)):xW H a (kV k) (pK kvs k):=.inl ⟨kvs,k,.inl e,rfl,rfl⟩
theorem aPh.k {H:Hp} {a:Addr} {kvs:List (Key × V)} {k:Key} {v:V} (e:H a=some (.dK kvs)) (hl:kvs.length<sizeLine):aPh H a (kV k) v (upd H a (.dK (putK kvs k v))):=.inl ⟨kvs,k,e,rfl,hl,rfl⟩
section
variable {X:Cx} {pins:List (Addr × Obj)} {σ:St} {H:Hp} {s:Shared} {a:Addr} {y v:V} {u r:Value} {o:Option V} {A:Around} {E:Value→Shared→Prop}
theorem Inv.big (I:Inv X pins σ H s):sysModules<s.heap.objs.size:=by
 have h:mainGlobals<s.heap.objs.size:=(I.mod.glob.keeps I.bk).lt
 exact Nat.lt_trans (by decide) h
theorem aL4 {Q:Value→Shared→Prop} (hu:A.units+1<cLine) (I:Inv X pins σ H s) (g:xW H a y (some v)) (ry:RelV y u) (h:∀w' s',Inv X pins σ H s'→RelV v w'→Q w' s') :
  wpAny (model X.prog X.w) A (getItem (.ref a) u) Q E s:=by
 rcases g with ⟨kvs,k,e,ey,l⟩|⟨kvs,k,b,e,ey,eb,l⟩
 ·subst ey
  obtain ⟨z,hd,vs,rel,dd⟩:=aLc I.hok e
  obtain ⟨w',hw,rw'⟩:=zT.some_of (v:=v) (o:=valueAt vs k) (by rw [l];exact rel.val k)
  exact wpAny_getItem_of (aGd ry) dd.mapOf hw (h w' _ (I.tok _) rw')
 ·subst ey
  cases (show u=Value.ref b from ry)
  obtain ⟨z,hd,xs,rel,dd⟩:=aK1 I.hok e
  obtain ⟨w',hw,rw'⟩:=zT.some_of (v:=v) (o:=(atKey xs k).map (·.2)) (by rw [l];exact rel.val k)
  obtain ⟨p,hp,hp2⟩:=Option.map_eq_some_iff.mp hw
  refine wpAny_getItem_heap (tupleKind_room_in1 hu) (aD7 I.hok eb) dd hp ?_
  rw [hp2]
  exact h w' _ (I.tok _) rw'
theorem aQ2 {Q:Value→Shared→Prop} (hu:A.units+1<cLine) (I:Inv X pins σ H s) (g:xW H a y o) (ry:RelV y u) (h:∀s',Inv X pins σ H s'→Q (.bool (!o.isSome)) s') :
  wpAny (model X.prog X.w) A (compareOp .NotIn u (.ref a)) Q E s:=by
 rcases g with ⟨kvs,k,e,ey,l⟩|⟨kvs,k,b,e,ey,eb,l⟩
 ·subst ey
  obtain ⟨z,hd,vs,rel,dd⟩:=aLc I.hok e
  refine wpAny_notIn_of (aGd ry) hd dd.mapOf ?_
  rw [←(rel.val k).vG,←l]
  exact h _ (I.tok _)
 ·subst ey
  cases (show u=Value.ref b from ry)
  obtain ⟨z,hd,xs,rel,dd⟩:=aK1 I.hok e
  refine wpAny_notIn_heap (tupleKind_room_in1 hu) (aD7 I.hok eb) hd dd ?_
  have q:=(rel.val k).vG
  rw [Option.isSome_map] at q
  rw [←q,←l]
  exact h _ (I.tok _)
theorem aBw {h':Heap} {t':Nat} {ob:HO} (I:Inv X pins σ H s) (mu:Mut (H a)) (hs:Heap.SameBut a s.heap h') (he:∃q,h'.get? a=some q) (new:dJ X.prog X.w (upd H a ob) h' a ob) :
  Inv X pins σ (upd H a ob) { s with heap:=h',toks:=t' }:=
 I.write (x:=a) (e:=a) mu (.inl rfl) (fun b q hb z=>(hs.2 b hb).trans z) he new
theorem aQs {P:Program} {w:World} {H':Hp} {h':Heap} {kvs:List (Key × V)} {vs:List (Key × Value)} (z:kvs.length≤sizeLine) (hd:(a == sysModules)=false) (rel:KV kvs vs) (dd:h'.DictOf (cJ P w) a vs) :
  dJ P w H' h' a (.dK kvs):=⟨z,hd,vs,rel,dd⟩
theorem aLw {H':Hp} {Q:Unit→Shared→Prop} (hu:A.units+1<cLine) (I:Inv X pins σ H s) (g:aPh H a y v H') (ry:RelV y u) (rv:RelV v r) (h:∀s',Inv X pins σ H' s'→Q () s') :
  wpAny (model X.prog X.w) A (setItem (.ref a) u r) Q E s:=by
 rcases g with ⟨kvs,k,e,ey,l,eH⟩|⟨kvs,k,b,e,ey,eb,l,eH⟩
 ·subst ey eH
  obtain ⟨z,hd,vs,rel,dd⟩:=aBb I.hok e
  have hz:vs.length≤sizeLine:=by rw [←rel.length];exact z
  have hl:(putK kvs k v).length≤sizeLine:=by have:=oO kvs k v;omega
  refine wpAny_setItem_pairs (hsz:=hz) (aGd ry) dd fun h' dd' hs=>h _ ?_
  have he:∃q,h'.get? a=some q:=let ⟨q,_,_,hq,_⟩:=dd';⟨q,hq⟩
  exact aBw I (by rw [e];exact True.intro) hs he (aQs hl hd (rel.put k rv) dd')
 ·subst ey eH
  cases (show u=Value.ref b from ry)
  obtain ⟨z,hd,xs,rel,dd⟩:=aXd I.hok e
  have hz:xs.length≤sizeLine:=by rw [←Paired.length rel];exact z
  have hl:(putK kvs k v).length≤sizeLine:=by have:=oO kvs k v;omega
  refine wpAny_setItem_heap (hsz:=hz) (tupleKind_room_in1 hu) (aD7 I.hok eb) dd fun h' dd' hs=>h _ ?_
  obtain ⟨q,es,ep,hq,h2,h3,h4,_,h5⟩:=dd'
  refine aBw I (by rw [e];exact True.intro) hs ⟨q,hq⟩ ⟨hl,hd,_,(rel.put k eb rv).keeps fun c ys ec=>?_,q,es,ep,hq,h2,h3,h4,h5⟩
  rw [aU (aAw ec e (fun z=>nomatch z))]
  exact ec
end
section
variable {X:Cx} {pins:List (Addr × Obj)} {σ:St} {H:Hp} {s:Shared} {a:Addr} {kvs:List (Key × V)} {k:Key} {u:Value} {A:Around} {E:Value→Shared→Prop}
end
def aUq (i:Expr):Prop:=∀ov iv,subscripted i false ov iv=operate [ov,iv] (getItem ov iv)
theorem aRh {prog:Program} {w:World} {A:Around} {E:Value→Shared→Prop} {s:Shared} {env:Env} {value slice:Expr} {pos:Pos} {T id:String} {Q:Value→Shared→Prop}
  (hl:typeLookup (.type T) "__getitem__"=pure (some (.builtin id))) (hs:aUq slice)
  (h:wpAny (model prog w) A (eval value env) (fun o s₁=>wpAny (model prog w) A (eval slice env) (fun i s₂=>s₂.TypeIs o T∧wpAny (model prog w) A (getItem o i) Q E s₂) E s₁) E s) :
  wpAny (model prog w) A (eval (.Subscript value slice pos) env) Q E s:=by
 refine Subscript_ (wpAny_mono h (fun o s₁ h₁=>wpAny_mono h₁ (fun i s₂ h₂=>?_) fun _ _ x=>x) fun _ _ x=>x)
 obtain ⟨hT,h₂⟩:=h₂
 unfold subscriptTail
 refine wpAny_bind ?_
 rw [getitemInPython_of_ne hT.not_modules]
 refine wpAny_bind (wpAny_specialOf hT hl ?_)
 have fin:wpAny (model prog w) A (subscripted slice false o i) (fun r s₃=>wpAny (model prog w) A (letTemporaryGo value o r >>= fun _=>pure r) Q E s₃) E s₂:=by
  rw [hs o i]
  exact wpAny_operating (wpAny_mono h₂ (fun r s₃ h₃=>wpAny_bind (wpAny_letTemporaryGo (wpAny_pure h₃))) fun _ _ x=>x)
 first
  |exact wpAny_pure (wpAny_bind fin)
  |exact wpAny_bind (wpAny_pure (wpAny_bind fin))
  |exact wpAny_bind fin
theorem aEq {X:Cx} {pins:List (Addr × Obj)} {σ:St} {H:Hp} {s:Shared} {a:Addr} {y:V} {o:Option V} (I:Inv X pins σ H s) (g:xW H a y o):s.TypeIs (.ref a) "dict":=by
 rcases g with ⟨kvs,k,e,_,_⟩|⟨kvs,k,b,e,_,_,_⟩
 ·obtain ⟨_,_,vs,_,dd⟩:=aLc I.hok e
  exact dd.typeIs
 ·obtain ⟨_,_,xs,_,dd⟩:=aK1 I.hok e
  exact dd.typeIs
def aTs (td ty:TE):TE:=fun σ H Q=>td σ H fun x H1=>ty σ H1 fun y H2=>∃a v,x=.ref a∧xW H2 a y (some v)∧Q v H2
def aK8 (ty td:TE):TE:=fun σ H Q=>ty σ H fun y H1=>td σ H1 fun x H2=>∃a o,x=.ref a∧xW H2 a y o∧Q (.bl (!o.isSome)) H2
def aTh (td ty tv:TE):TS:=fun D σ H=>tv σ H fun v H1=>td σ H1 fun x H2=>ty σ H2 fun y H3=>∃a H4,x=.ref a∧aPh H3 a y v H4∧D.nx σ H4
section
variable {X:Cx} {o i e value:Expr} {pos pos' tpos:Pos} {td ty tv:TE}
theorem aSh (hu:X.A.units+1<cLine) (ho:PE X o td) (hi:PE X i ty) (hs:aUq i):PE X (.Subscript o i pos) (aTs td ty):=by
 intro pins s σ H Q I h
 refine aRh PySem.F.slot_dict_getitem.lookup hs (thn (ho pins s σ H _ I h) fun u s1 ⟨x,H1,I1,rx,q1⟩=>thn (hi pins s1 σ H1 _ I1 q1) fun iv s2 ⟨y,H2,I2,ry,a,v,ex,g,q2⟩=>?_)
 subst ex
 obtain rfl:u=Value.ref a:=rx
 exact ⟨aEq I2 g,aL4 hu I2 g ry fun w' s3 I3 rw'=>⟨v,H2,I3,rw',q2⟩⟩
theorem aLz (hu:X.A.units+1<cLine) (hi:PE X i ty) (ho:PE X o td):PC X .NotIn i o (aK8 ty td):=by
 intro pins s σ H Q I h
 refine thn (hi pins s σ H _ I h) fun iv s1 ⟨y,H1,I1,ry,q1⟩=>thn (ho pins s1 σ H1 _ I1 q1) fun u s2 ⟨x,H2,I2,rx,a,ov,ex,g,q2⟩=>?_
 subst ex
 obtain rfl:u=Value.ref a:=rx
 exact aQ2 hu I2 g ry fun s3 I3=>⟨.bl (!ov.isSome),H2,I3,rfl,q2⟩
theorem aQx (hu:X.A.units+1<cLine) (ho:PE X o td) (hi:PE X i ty) (hv:PE X value tv) (hs:swapsWith value (some (.Subscript o i pos')) pos.line X.env=pure false) :
  PS X (.Assign [.Subscript o i pos'] value pos) (aTh td ty tv):=by
 intro pins s σ H D I h
 refine wpAny_Assign_Subscript (thn (hv pins s σ H _ I h) fun r s1 ⟨v,H1,I1,rv,q1⟩=>thn (ho pins s1 σ H1 _ I1 q1) fun u s2 ⟨x,H2,I2,rx,q2⟩=>thn (hi pins s2 σ H2 _ I2 q2) fun iv s3 ⟨y,H3,I3,ry,a,H4,ex,g,q3⟩=>?_) hs
 subst ex
 obtain rfl:u=Value.ref a:=rx
 exact aLw hu I3 g ry rv fun s4 I4=>⟨σ,H4,I4,q3⟩
end
theorem aFk {P:Program} {w:World} {H:Hp} (h:Heap) (hb:sysModules<h.objs.size):dJ P w H (h.push { cls:=.type "dict",data:=.dict #[] }) h.objs.size (.dK []):=
 ⟨Nat.zero_le _,beq_eq_false_iff_ne.mpr (Ne.symm (Nat.ne_of_lt hb)),[],.nil,Heap.DictOf.new h⟩
def aPg:TE:=fun _ H Q=>∀p,H p=none→Q (.ref p) (upd H p (.dK []))
section
variable {X:Cx} {pos:Pos}
theorem aPv:PE X (.Dict [] [] pos) aPg:=fun pins s σ H Q I h=>
 wpAny_Dict_empty ⟨.ref s.heap.objs.size,_,I.laid (a:=s.heap.objs.size) (o:=.dK []) (t':=s.toks) (fun _ _ q=>Heap.get?_push_of_some _ q) (Nat.le_refl _) (aFk s.heap I.big),rfl,h _ (I.hok.fresh (Nat.le_refl _))⟩
end
def aHt:List (TE × TE)→St→Hp→(List (V × V)→Hp→Prop)→Prop
 |[],_,H,Q=>Q [] H
 |(tk,tv)::r,σ,H,Q=>tk σ H fun x H1=>tv σ H1 fun y H2=>aHt r σ H2 fun ps H3=>Q ((x,y)::ps) H3
abbrev VV:List (V × V)→List (Value × Value)→Prop:=Paired fun p q=>RelV p.1 q.1∧RelV p.2 q.2
def PPs (X:Cx) (pos:Pos) (keys:List (Option Expr)) (values:List Expr) (trs:List (TE × TE)):Prop:=
 ∀(pins:List (Addr × Obj)) (s:Shared) (σ:St) (H:Hp) (Q:List (V × V)→Hp→Prop),Inv X pins σ H s→aHt trs σ H Q →
  wpAny (model X.prog X.w) X.A (evalPairs (pairTrees keys values X.env pos)) (fun vs s'=>∃ps H',Inv X pins σ H' s'∧VV ps vs∧Q ps H') X.xe s
theorem aS3 {X:Cx} {pos:Pos}:PPs X pos [] [] []:=fun pins s σ H Q I h=>pairTrees_nil_walk ⟨[],H,I,.nil,h⟩
theorem aO0 {X:Cx} {pos:Pos} {k v:Expr} {ks:List (Option Expr)} {vs:List Expr} {tk tv:TE} {trs:List (TE × TE)} (hk:PE X k tk) (hv:PE X v tv) (hr:PPs X pos ks vs trs) :
  PPs X pos (some k::ks) (v::vs) ((tk,tv)::trs):=fun pins s σ H Q I h=>
 pairTrees_cons_walk (thn (hk pins s σ H _ I h) fun u s1 ⟨x,H1,I1,rx,q1⟩=>thn (hv pins s1 σ H1 _ I1 q1) fun w2 s2 ⟨y,H2,I2,ry,q2⟩=>
  thn (hr pins s2 σ H2 _ I2 q2) fun ws s3 ⟨ps,H3,I3,rel,q3⟩=>⟨(x,y)::ps,H3,I3,.cons ⟨rx,ry⟩ rel,q3⟩)
def jT (kvs more:List (Key × V)):List (Key × V):=more.foldl (fun acc kv=>putK acc kv.1 kv.2) kvs
theorem KV.merge:∀{more:List (Key × V)} {rs:List (Key × Value)} {kvs:List (Key × V)} {vs:List (Key × Value)},KV more rs→KV kvs vs→KV (jT kvs more) (merged vs rs):=by
 intro more rs kvs vs r
 unfold KV at r
 induction r generalizing kvs vs with
 |nil=>intro q;exact q
 |@cons p q ps qs h t ih=>
  intro r0
  have e:KV (putK kvs p.1 p.2) (stored vs q.1 q.2):=by
   have:=r0.put p.1 h.2
   rw [←h.1];exact this
  exact ih e
theorem qL:∀(more kvs:List (Key × V)),(jT kvs more).length≤kvs.length+more.length
 |[],kvs=>by show kvs.length≤kvs.length+0;omega
 |p::r,kvs=>by
  have h1:=qL r (putK kvs p.1 p.2)
  have h2:=oO kvs p.1 p.2
  show (jT (putK kvs p.1 p.2) r).length≤_
  rw [List.length_cons];omega
theorem yH {P:Program} {w:World}:∀{kvs:List (Key × V)} {ws:List (Value × Value)},VV (kvs.map fun kv=>(kV kv.1,kv.2)) ws→∃rs,Carries (cJ P w) ws rs∧KV kvs rs
 |[],_,r=>by rw [List.map_nil] at r;cases r;exact ⟨[],True.intro,.nil⟩
 |p::kvs,_,r=>by
  rw [List.map_cons] at r
  cases r with
  |@cons a b as bs h t=>
   obtain ⟨rs,c,q⟩:=yH (P:=P) (w:=w) t
   obtain ⟨b1,b2⟩:=b
   exact ⟨(p.1,b2)::rs,⟨aGd h.1,rfl,c⟩,.cons ⟨rfl,h.2⟩ q⟩
def aTn (trs:List (TE × TE)):TE:=fun σ H Q=>∀p,H p=none→aHt trs σ (upd H p (.dK [])) fun ps H2=>H2 p=some (.dK [])∧∃kvs:List (Key × V),ps=kvs.map (fun kv=>(kV kv.1,kv.2))∧kvs.length≤15∧Q (.ref p) (upd H2 p (.dK (jT [] kvs)))
theorem aSo {X:Cx} {pos:Pos} {keys:List (Option Expr)} {values:List Expr} {trs:List (TE × TE)} (h:PPs X pos keys values trs) (hall:keys.all (·.isSome)=true) (hl:keys.length=values.length) (h0:keys≠[])
  (h15:keys.length≤15):PE X (.Dict keys values pos) (aTn trs):=by
 intro pins s σ H Q I q
 have hn:=I.hok.fresh (Nat.le_refl s.heap.objs.size)
 have I1:=I.laid (a:=s.heap.objs.size) (o:=.dK []) (h':=s.heap.push { cls:=.type "dict",data:=.dict #[] }) (t':=s.toks) (fun _ _ q=>Heap.get?_push_of_some _ q) (Nat.le_refl _) (aFk s.heap I.big)
 refine wpAny_Dict_walk (knd:=cJ X.prog X.w) hall hl h0 h15 (thn (h pins _ σ _ _ I1 (q _ hn)) fun ws s2 ⟨ps,H2,I2,rel,e,kvs,ep,lk,q2⟩=>?_)
 subst ep
 obtain ⟨rs,c,rk⟩:=yH (P:=X.prog) (w:=X.w) rel
 obtain ⟨z,hd,vs0,r0,dd⟩:=aBb I2.hok e
 cases r0
 refine ⟨rs,c,dd,fun h' dd' hs=>⟨.ref s.heap.objs.size,_,?_,rfl,q2⟩⟩
 have hz:(jT [] kvs).length≤sizeLine:=by
  have h1:=qL kvs []
  rw [List.length_nil] at h1
  rw [sizeLine_eq];omega
 have he:∃q,h'.get? s.heap.objs.size=some q:=let ⟨q,_,_,hq,_⟩:=dd';⟨q,hq⟩
 exact aBw I2 (by rw [e];exact True.intro) hs he (aQs hz hd (rk.merge .nil) dd')
section
variable {X:Cx} {pins:List (Addr × Obj)} {σ:St} {H:Hp} {s:Shared} {a:Addr} {y d:V} {u r:Value} {o:Option V} {A:Around} {E:Value→Shared→Prop}
end
section
variable {X:Cx} {o e f:Expr} {apos cpos:Pos} {td ty tx:TE}
end
section
variable {X:Cx} {pins:List (Addr × Obj)} {σ:St} {H:Hp} {s:Shared} {a:Addr} {kvs:List (Key × V)} {A:Around} {E:Value→Shared→Prop}
end
section
variable {X:Cx} {pins:List (Addr × Obj)} {σ:St} {H:Hp} {s:Shared} {a:Addr} {y:V} {u:Value} {A:Around} {E:Value→Shared→Prop}
end
section
variable {X:Cx}
end
section
variable {κ:Type} [DecidableEq κ]
end
structure VE (X:Cx) (e:Expr) (t:TE):Prop where
 out:PE X e t
structure VT (X:Cx) (e:Expr) (t:TT):Prop where
 out:PT X e t
structure VW (X:Cx) (e:Expr) (t:TT):Prop where
 out:PW X e t
structure VA (X:Cx) (es:List Expr) (t:TA):Prop where
 out:PA X es t
structure VS (X:Cx) (st:Stmt) (t:TS):Prop where
 out:PS X st t
structure VSs (X:Cx) (st:List Stmt) (t:TS):Prop where
 out:PSs X st t
structure VI (X:Cx) (tg iter:Expr) (t:TI):Prop where
 out:PI X tg iter t
structure VG (X:Cx) (tg:Expr) (t:TG):Prop where
 out:PG X tg t
structure VGs (X:Cx) (tg:List Expr) (t:TGs):Prop where
 out:PGs X tg t
structure VO (X:Cx) (e:Option Expr) (t:TO):Prop where
 out:PO X e t
structure VF (X:Cx) (ifs:List Expr) (t:TT):Prop where
 out:aM5 X ifs t
structure VP (X:Cx) (pos:Pos) (keys:List (Option Expr)) (values:List Expr) (trs:List (TE × TE)):Prop where
 out:PPs X pos keys values trs
section
variable {X:Cx} {a b c e:Expr} {es:List Expr} {ta tb tc te:TE} {t:TA} {tA tB':TT} {pos p:Pos} {x:Str}
theorem vv (i:Nat) {x:Str} {pos:Pos} (hN:X.N[i]?=some x:=by rfl) (hv:Vis X.env.scope x:=by trivial) (hd:(x == ("__debug__":Str))=false:=by decide)
  (hcd:(x == ("__classdict__":Str))=false:=by decide):VE X (.Name x pos) (aJb i):=⟨pv i hN hv hd hcd⟩
theorem dZ {v:V} (hg:Gl X x) (hm:∃u,X.mg x=some u∧RelV v u) (hd:(x == ("__debug__":Str))=false:=by decide):VE X (.Name x pos) (tC v):=⟨aW0 hg hm hd⟩
theorem dN {v:V} {u:Value} (hg:Gl X x) (hm:X.mg x=none) (hv:bootBuiltins x=some u) (r:RelV v u) (hn:x≠"__name__":=by decide) (hd:(x == ("__debug__":Str))=false:=by decide):VE X (.Name x pos) (tC v):=⟨aRk hg hm hv r hn hd⟩
theorem aD {i j}:VE X (.Constant (.int i) j pos) (tC (.int i)):=⟨aVe⟩
theorem gW {b j}:VE X (.Constant (.bool b) j pos) (tC (.bl b)):=⟨aXh⟩
theorem aT3 {j}:VE X (.Constant .none j pos) (tC .non):=⟨aT7⟩
theorem aQ {x j}:VE X (.Constant (.str x) j pos) (tC (.str x)):=⟨aUv⟩
theorem bR {op:Operator} {r:R2} (ho:OpR X (binaryOp op) r) (ha:VE X a ta) (hb:VE X b tb):VE X (.BinOp a op b pos) (tOp r ta tb):=⟨aWh ho ha.1 hb.1⟩
theorem dC {op:CmpOp} {r:R2} (ho:OpR X (compareOp op) r) (ha:VE X a ta) (hb:VE X b tb) (hm:behindInMarks op b=false):VE X (.Compare a [op] [b] pos) (tOp r ta tb):=⟨aQ0 ho ha.1 hb.1 hm⟩
theorem aW {op:CmpOp} {r:R2} (ho:OpR X (compareOp op) r) (ha:VE X a ta) (hb:VE X b tb) (hm:behindInMarks op b=false):VT X (.Compare a [op] [b] pos) (aLf (tOp r ta tb)):=⟨aQz ho ha.1 hb.1 hm⟩
theorem aNx {op op':CmpOp} {r r':R2} (ho:OpR X (compareOp op) r) (ho':OpR X (compareOp op') r') (ha:VE X a ta) (hb:VE X b tb) (hc:VE X c tc)
  (hm:lastMarks [op,op'] [b,c]=false:=by with_unfolding_all rfl):VE X (.Compare a [op,op'] [b,c] pos) (aCp r r' ta tb tc):=⟨aOy ho ho' ha.1 hb.1 hc.1 hm⟩
theorem aHd {op op':CmpOp} {r r':R2} (ho:OpR X (compareOp op) r) (ho':OpR X (compareOp op') r') (ha:VE X a ta) (hb:VE X b tb) (hc:VE X c tc)
  (hm:lastMarks [op,op'] [b,c]=false:=by with_unfolding_all rfl):VT X (.Compare a [op,op'] [b,c] pos) (aLf (aCp r r' ta tb tc)):=⟨aNp ho ho' ha.1 hb.1 hc.1 hm⟩
theorem mY {op} (h:VE X a te):VE X (.BoolOp op [a] pos) te:=⟨aVi h.1⟩
theorem mQ {rest:List Expr} (ha:VE X a ta) (hb:VE X (.BoolOp .And (b::rest) pos) tb):VE X (.BoolOp .And (a::b::rest) pos) (aTq ta tb):=⟨aVc ha.1 hb.1⟩
theorem aTz {rest:List Expr} (ha:VE X a ta) (hb:VE X (.BoolOp .Or (b::rest) pos) tb):VE X (.BoolOp .Or (a::b::rest) pos) (aWr ta tb):=⟨aWt ha.1 hb.1⟩
theorem aQb (ha:VE X a ta):VE X (.UnaryOp .Not a pos) (aTu ta):=⟨aVk ha.1⟩
theorem fQ (hc:VT X c tA) (ha:VE X a ta) (hb:VE X b tb):VE X (.IfExp c a b pos) (tIf tA ta tb):=⟨aOc hc.1 ha.1 hb.1⟩
theorem aA:VA X [] aIt:=⟨aT6⟩
theorem aB (ha:VE X e te) (hr:VA X es t) (hp:gJ e=true:=by rfl):VA X (e::es) (dH te t):=⟨aXv ha.1 hr.1 hp⟩
theorem aL {k:Nat} {ps:List Str} {sp:Sp} (G:Ok X.prog X.w X.K X.mg X.base k x ps sp) (hr:Room k X.A) (hg:Gl X x) (ha:VA X (e::es) t) (hdb:(x == ("__debug__":Str))=false:=by decide)
  (hp:gJ e=true:=by rfl) (hpl:(backTo pos (starEach es X.env)).any (·.1)=false:=by rfl) :
  VE X (.Call (.Name x p) (e::es) [] pos) (tL sp [] E0 t):=⟨aXi G hr hg ha.1 hdb (bO hp) hpl⟩
theorem aU4 {k:Nat} {ps:List Str} {sp:Sp} (G:Ok X.prog X.w X.K X.mg X.base k x ps sp) (hr:Room k X.A) (hg:Gl X x) (hdb:(x == ("__debug__":Str))=false:=by decide) :
  VE X (.Call (.Name x p) [] [] pos) (tL sp [] E0 aIt):=⟨aT4 G hr hg hdb⟩
theorem aN {id:String} {r:List V→Hp→VK→Prop} (hc:cD X (.builtin id) r) (hg:Gl X x) (hm:X.mg x=none) (hv:bootBuiltins x=some (.builtin id)) (ha:VA X (e::es) t) (hn:x≠"__name__":=by decide) (hdb:(x == ("__debug__":Str))=false:=by decide)
  (hp:gJ e=true:=by rfl) (hpl:(backTo pos (starEach es X.env)).any (·.1)=false:=by rfl):VE X (.Call (.Name x p) (e::es) [] pos) (tCB r t):=⟨aOp hc hg hm hv ha.1 hn hdb (bO hp) hpl⟩
theorem bT {T:String} {r:List V→Hp→VK→Prop} (hc:cD X (.type T) r) (hg:Gl X x) (hm:X.mg x=none) (hv:bootBuiltins x=some (.type T)) (ha:VA X (e::es) t) (hn:x≠"__name__":=by decide) (hdb:(x == ("__debug__":Str))=false:=by decide)
  (hp:gJ e=true:=by rfl) (hpl:(backTo pos (starEach es X.env)).any (·.1)=false:=by rfl):VE X (.Call (.Name x p) (e::es) [] pos) (tCB r t):=⟨aMc hc hg hm hv ha.1 hn hdb (bO hp) hpl⟩
theorem vR {o:Expr} {to:TE} {name:Str} {apos cpos:Pos} {T id:String} {r:V→List V→Hp→VK→Prop} (pa:PlainAttrs T) (slot:Slot T name id) (hty:typeOf (.builtin id)=pure (.type "method_descriptor")) (hm:MtR X id r) (ho:VE X o to) (ha:VA X (e::es) t)
  (hbase:attributeBase o name X.env (eval o X.env)=eval o X.env:=by rfl)
  (hfew:((backTo cpos (starEach (e::es) X.env)).all (fun x=>!x.1) && (backToKw cpos (keywordEach [] X.env)).all (fun x=>x.1.isSome)
   && decide ((e::es).length+([]:List Keyword).length+(if ([]:List Keyword).isEmpty then 0 else 1)<30))=true:=by rfl)
  (hline:(apos.endLine == cpos.line)=true:=by rfl) (hp:gJ e=true:=by rfl) (hplain:(backTo cpos (starEach es X.env)).any (·.1)=false:=by rfl) :
  VE X (.Call (.Attribute o name apos) (e::es) [] cpos) (tBM X.K T r to t):=⟨aW8 pa slot hty hm ho.1 ha.1 hbase hfew hline (bO hp) hplain⟩
theorem jX (ha:VE X a ta) (hb:VE X b tb) (hs:aE9 b) :
  VE X (.Subscript a b pos) (tOp (fun x y H Q=>∃z i c,x=.str z∧y=.int i∧0≤i∧i<2 ^ 63∧i<z.length∧z.cps[i.toNat]?=some c∧Q (.str ⟨#[c]⟩) H) ta tb):=⟨aFx ha.1 hb.1 hs⟩
theorem wQ:VO X none aK3:=⟨aRu⟩
theorem kO (h:VE X e te):VO X (some e) (aTo te):=⟨aQ8 h.1⟩
theorem lL {r:V→Option Int→Option Int→Hp→VK→Prop} {lo hi:Option Expr} {tl th:TO} {p2:Pos} (hr:SlR X r) (he:VE X e te) (hl:VO X lo tl) (hu:VO X hi th):VE X (.Subscript e (.Slice lo hi none p2) pos) (tSl r te tl th):=⟨aP2 hr he.1 hl.1 hu.1⟩
theorem aM {r:R2} (hr:IxR X r) (ha:VE X a ta) (hb:VE X b tb) (hs:aK5 b):VE X (.Subscript a b pos) (tOp r ta tb):=⟨aWz hr ha.1 hb.1 hs⟩
theorem aUh {x1} (h:VA X es t):VE X (.Tuple es x1 pos) (aXl t):=⟨aUj h.1⟩
theorem aPo:VE X (.Dict [] [] pos) aPg:=⟨aPv⟩
theorem aJ7:VP X pos [] [] []:=⟨aS3⟩
theorem aHb {k v:Expr} {ks:List (Option Expr)} {vs:List Expr} {tk tv:TE} {trs:List (TE × TE)} (hk:VE X k tk) (hv:VE X v tv) (hr:VP X pos ks vs trs):VP X pos (some k::ks) (v::vs) ((tk,tv)::trs):=⟨aO0 hk.1 hv.1 hr.1⟩
theorem aKj {keys:List (Option Expr)} {values:List Expr} {trs:List (TE × TE)} (h:VP X pos keys values trs) (hall:keys.all (·.isSome)=true) (hl:keys.length=values.length) (h0:keys≠[]) (h15:keys.length≤15):VE X (.Dict keys values pos) (aTn trs):=⟨aSo h.1 hall hl h0 h15⟩
theorem VE.imp {t t':TE} (h:VE X e t) (k:∀σ H Q,t' σ H Q→t σ H Q):VE X e t':=⟨PE.imp h.1 k⟩
theorem aKc (ha:VT X a tA):VW X (.BoolOp .And [a] pos) tA:=⟨aSa ha.1⟩
theorem jV (ha:VT X a tA):VW X (.BoolOp .Or [a] pos) tA:=⟨aUk ha.1⟩
theorem aO9 {rest:List Expr} (ha:VT X a tA) (hb:VW X (.BoolOp .And (b::rest) pos) tB'):VW X (.BoolOp .And (a::b::rest) pos) (aWc tA tB'):=⟨aUa ha.1 hb.1⟩
theorem nU {rest:List Expr} (ha:VT X a tA) (hb:VW X (.BoolOp .Or (b::rest) pos) tB'):VW X (.BoolOp .Or (a::b::rest) pos) (tOr tA tB'):=⟨aXb ha.1 hb.1⟩
theorem VW.pt (h:VW X e tA):VT X e tA:=⟨h.1.pt⟩
theorem dI (ha:VT X a tA):VT X (.UnaryOp .Not a pos) (aV9 tA):=⟨aVq ha.1⟩
theorem cM (h:VE X e te) (he:∀whole,isTrue e X.env whole=(do let v ←whole;standAt e.pos;holding [v] (truthy v)):=by intro _;rfl):VT X e (tB te):=⟨aV1 h.1 he⟩
theorem aPc (ha:VE X a ta) (he:∀whole,isTrue a X.env whole=(do let v ←whole;standAt a.pos;holding [v] (truthy v)):=by intro _;rfl) :
  VT X a (fun σ H Q=>ta σ H fun x H'=>∃k,aT5 X.K x H' k∧Q k H'):=⟨aQe ha.1 he⟩
variable {st:Stmt} {rest:List Stmt} {u w':TS}
theorem aX:VSs X [] wX:=⟨aQw⟩
theorem aC (h1:VS X st u) (h2:VSs X rest w'):VSs X (st::rest) (mL u w'):=⟨aOk h1.1 h2.1⟩
theorem aG (h1:VS X st u):VSs X [st] u:=⟨aSu h1.1⟩
theorem aJ (he:VE X e te):VS X (.Return (some e) pos) (xU te):=⟨aUm he.1⟩
theorem bL {a b:List Stmt} (hc:VT X c tA) (ha:VSs X a u) (hb:VSs X b w'):VS X (.If c a b pos) (aRm tA u w'):=⟨aWx hc.1 ha.1 hb.1⟩
theorem bA {i:Nat} {pos':Pos} (hN:X.N.Nodup) (hi:X.N[i]?=some x) (hx:Loc X.env.scope x) (he:VE X e te) (hs:swapsWith e (some (.Name x pos')) pos.line X.env=pure false:=by rfl) (hf:X.fn x=true∨X.env.scope.names.lookup x=some .local:=by first|exact .inl rfl|exact .inr rfl|assumption) :
  VS X (.Assign [.Name x pos'] e pos) (mX te (bZ i)):=⟨aUi hN hi hx he.1 hs hf⟩
theorem dD (he:VE X e te) (hs:swapsWith e none pos.line X.env=pure false:=by rfl):VS X (.Expr e pos) (aKn te):=⟨aSk he.1 hs⟩
theorem iW {tg iter:Expr} {body:List Stmt} {wi:TI} {g:TG} {tb:TS} (hp:PassesOwn (model X.prog X.w) X.A X.env X.xe) (hc:X.calm=true) (hi:VI X tg iter wi) (hg:VG X tg g) (hb:VSs X body tb)
  (hs:∀x,foldedSetIterable iter X.env x=pure x:=by intro _;rfl):VS X (.For tg iter body [] pos) (aWk wi g tb):=⟨aVv hp hc hi.1 hg.1 hb.1 hs⟩
theorem aO {i:Nat} (hN:X.N.Nodup) (hi:X.N[i]?=some x) (hx:Loc X.env.scope x) (hf:X.fn x=true∨X.env.scope.names.lookup x=some .local:=by first|exact .inl rfl|exact .inr rfl|assumption):VG X (.Name x pos) (bZ i):=⟨aR9 hN hi hx hf⟩
theorem fH:VGs X [] aPz:=⟨aRn⟩
theorem bK {t:TG} {u:TGs} (h1:VG X e t) (h2:VGs X es u) (hs:(assignEach (e::es) X.env).map (·.2)=assign e X.env::(assignEach es X.env).map (·.2):=by rfl):VGs X (e::es) (vW t u):=⟨aOv h1.1 h2.1 hs⟩
theorem uU {k:Nat} {t:TGs} {n:Nat} (hc:X.calm=true) (h:VGs X es t) (hn:(assignEach es X.env).length=n:=by rfl) (hst:(assignEach es X.env).findIdx? (·.1)=none:=by rfl):VG X (.Tuple es k pos) (aM0 X.K n t):=⟨aVh hc h.1 hn hst⟩
variable {tg:Expr}
theorem dY (h:VE X e te):VI X tg e (sG X.K te):=⟨aKg h.1⟩
theorem eE (h:VE X e te):VI X tg e (aGb X.K te):=⟨aN3 h.1⟩
theorem aT9 (h:VE X e te):VI X tg e (aVy te):=⟨aUo h.1⟩
theorem eN (hg:Gl X "range") (hm:X.mg "range"=none) (ha:VA X [a] t) (hp:gJ a=true:=by rfl):VI X tg (.Call (.Name "range" p) [a] [] pos) (aLi t):=⟨aLu hg hm ha.1 (bO (es:=[]) hp)⟩
theorem bW:VF X [] nA:=⟨aV6⟩
theorem wW (h:VT X c tA):VF X [c] tA:=⟨aVb h.1⟩
theorem bY {elt target iter:Expr} {ifs:List Expr} {scope:Scope} {N:List Str} {wi:TI} {g:TG} {tt:TT}
  (C:uL scope N) (hfr:∀y,(y,NameKind.free)∈scope.names→X.env.kindOf y=some .cell∨X.env.kindOf y=some .free) (hc:X.calm=true)
  (hi:VI X target iter wi)
  (hb:∀cl s H fp,VG (cxC X N scope cl s H fp) target g∧VF (cxC X N scope cl s H fp) ifs tt∧VE (cxC X N scope cl s H fp) elt te)
  (hs:∀x,foldedSetIterable iter X.env x=pure x:=by intro _;rfl) :
  VE X (.ListComp elt [⟨target,iter,ifs,0⟩] scope pos) (gR X scope N wi g tt te):=
 ⟨aRf C hfr hc hi.1 (fun cl s H fp=>⟨(hb cl s H fp).1.1,(hb cl s H fp).2.1.1,(hb cl s H fp).2.2.1⟩) hs⟩
end
section
variable {P:Program} {w:World} {K:PySem.W.Frag} {mg:Str→Option Value} {base:Heap}
theorem Fun.okV {x qual:Str} {st:Stmt} {f:Addr} {fd:FuncData} {N ps:List Str} {k:Nat} {sp:Sp} (F:Fun K x qual st f fd) (S:aK N ps (aF st)) (len:∀vs H Q E,sp vs H Q E→vs.length=ps.length)
  (hbody:∀(cdv:Value) (A:Around) (outer:List Env) (s:Shared) (H:Hp) (vs:List V) (Q:VK) (E:XK),Room k (A.deeper (envOfC qual (aF st) s.heap.objs.size f cdv))→sp vs H Q E →
   ∃t,VSs (aB5 CX0 P w K mg base N qual (aF st) f cdv A outer s H E).nox (iQ st) t∧t { nx:=fun _ H'=>Q .non H',rt:=Q } (start N vs) H):lW P w K mg base CX0 (k+1) f fd ps sp:=
 F.ok S len fun cdv A outer s H vs Q E hr h=>let ⟨t,h1,h2⟩:=hbody cdv A outer s H vs Q E hr h;⟨t,h1.1,h2⟩
theorem Ok.ofV {x:Str} {st:Stmt} {N ps:List Str} {k:Nat} {sp:Sp} (D:Dn K mg x st ps) (S:aK N ps (aF st)) (len:∀vs H Q E,sp vs H Q E→vs.length=ps.length)
  (hbody:∀(f:Addr) (cdv:Value) (A:Around) (outer:List Env) (s:Shared) (H:Hp) (vs:List V) (Q:VK) (E:XK),Room k (A.deeper (envOfC x (aF st) s.heap.objs.size f cdv))→sp vs H Q E →
   ∃t,VSs (aB5 CX0 P w K mg base N x (aF st) f cdv A outer s H E).nox (iQ st) t∧t { nx:=fun _ H'=>Q .non H',rt:=Q } (start N vs) H):Ok P w K mg base (k+1) x ps sp:=
 Ok.of D S len fun f cdv A outer s H vs Q E hr h=>let ⟨t,h1,h2⟩:=hbody f cdv A outer s H vs Q E hr h;⟨t,h1.1,h2⟩
end
def Held (P:Program) (w:World) (K:PySem.W.Frag) (mg:Str→Option Value) (base:Heap) (k:Nat) (f:Addr) (ps:List Str) (sp:Sp):Prop:=
 ∃fd,PySem.W.keepIn K (.ref f)=true∧Binds K fd ps []∧lW P w K mg base CX0 k f fd ps sp
theorem Ok.held {P:Program} {w:World} {K:PySem.W.Frag} {mg:Str→Option Value} {base:Heap} {k:Nat} {x:Str} {ps:List Str} {sp:Sp} (G:Ok P w K mg base k x ps sp):∃f,mg x=some (.ref f)∧Held P w K mg base k f ps sp:=by
 obtain ⟨f,fd,h1,h2,h3,h4⟩:=G
 exact ⟨f,h1,fd,h2,h3,h4⟩
theorem Held.mono {P:Program} {w:World} {K:PySem.W.Frag} {mg:Str→Option Value} {base:Heap} {j k:Nat} {f:Addr} {ps:List Str} {sp:Sp} (h:Held P w K mg base j f ps sp) (hj:j≤k):Held P w K mg base k f ps sp:=by
 obtain ⟨fd,h1,h2,h3⟩:=h
 exact ⟨fd,h1,h2,h3.mono hj⟩
section
variable {X:Cx} {x:Str} {p pos:Pos} {e:Expr} {es:List Expr} {te:TE} {t:TA}
def aO5 (P:Program) (w:World) (K:PySem.W.Frag) (mg:Str→Option Value) (base:Heap) (k:Nat) (te:TE) (t:TA):TE:=fun σ H Q=>te σ H fun v H1=>∃f ps sp,v=.ref f∧Held P w K mg base k f ps sp∧t σ H1 fun vs H2=>sp vs H2 Q E0
theorem aRz {k:Nat} (hr:Room k X.A) (hf:PE X (.Name x p) te) (ha:PA X (e::es) t)
  (he:starEach (e::es) X.env=(false,eval e X.env)::starEach es X.env:=by rfl) (hpl:(backTo pos (starEach es X.env)).any (·.1)=false:=by rfl) :
  PE X (.Call (.Name x p) (e::es) [] pos) (aO5 X.prog X.w X.K X.mg X.base k te t):=by
 intro pins s σ H Q I h
 refine wpAny_Call_Name_kw (thn (hf pins s σ H _ I h) fun u s1 ⟨v,H1,I1,r1,q1⟩=>?_)
 obtain ⟨f,ps,sp,rfl,⟨fd,hk,hb,F⟩,q⟩:=q1
 obtain rfl:u=Value.ref f:=r1
 refine PySem.W.callWith_K (h₀:=X.base) I1.ok.mod.kin hk (thn (ha pos pins s1 σ H1 _ I1 q) fun us s2 ⟨vs,H2,I2,r,q2⟩=>⟨I2.kIn,?_⟩) he hpl
 exact aIn F hr hb .nil aOt I2 r (by simpa using q2)
end
end L2
namespace PySem
end PySem
namespace L2
open PySem PySem.Spec PyProof.Rows
section
variable {X:Cx}
theorem aSq:OpR X (binaryOp .Add) (fun x y H Q=>∃a b ys,x=.ref a∧y=.ref b∧SqT X.K H a []∧SqT X.K H b ys∧Q (.ref b) H):=by
 intro pins s σ H x y v u Q I rx ry h
 obtain ⟨a,b,ys,rfl,rfl,ha,hb,q⟩:=h
 cases rx
 cases ry
 obtain ⟨its,r1,p1,_⟩:=I.tuple ha
 obtain ⟨its2,r2,p2,_⟩:=I.tuple hb
 cases r1
 obtain ⟨⟨cls,dd,data,sl⟩,ho,hc,n,hd⟩:=id p1
 obtain ⟨⟨cls2,dd2,data2,sl2⟩,ho2,hc2,n2,hd2⟩:=id p2
 simp only at hc hd hc2 hd2
 subst hc hd hc2 hd2
 exact concat_meets ⟨_,ho,rfl⟩ ⟨_,ho2,rfl⟩ noFill_tuple_add seq_tuple_add PySem.F.slot_tuple_add PySem.F.entry_tuple_add (PySem.F.args_tuple_add_2 _ _)
  (tuple_addW0 a b #[] its2.toArray n n2 dd dd2 sl sl2 rfl) ⟨ho,ho2,⟨.ref b,H,I,rfl,q⟩⟩
end
end L2
namespace PySem
def vJ (σ:List Str) (v:Str):List Str:=if v∈σ then σ else σ++[v]
def lJ (ss:List Str):List Str:=ss.foldl vJ []
theorem aBg (ss:List Str) (v:Str):lJ (ss++[v])=vJ (lJ ss) v:=by
 unfold lJ
 rw [List.foldl_append]
 rfl
theorem aOw (σ:List Str) (v k:Str):k∈vJ σ v↔k∈σ∨k=v:=by
 unfold vJ
 by_cases h:v∈σ
 ·rw [if_pos h]
  exact ⟨.inl,fun q=>q.elim id fun e=>e ▸ h⟩
 ·rw [if_neg h]
  simp
theorem aF2 (σ:List Str) (v:Str):(vJ σ v).length=if v∈σ then σ.length else σ.length+1:=by
 unfold vJ
 split <;> simp
theorem vL:∀(ss σ:List Str),(ss.foldl vJ σ).length≤σ.length+ss.length
 |[],σ=>by simp
 |v::r,σ=>by
  rw [List.foldl_cons,List.length_cons]
  have h:=vL r (vJ σ v)
  rw [aF2] at h
  split at h <;> omega
theorem aO3 (ss:List Str):(lJ ss).length≤ss.length:=by
 have h:=vL ss []
 unfold lJ
 simpa using h
section
variable {prog:Program} {w:World}
def cW (prog:Program) (w:World) (h:Heap) (D:Addr) (ss:List Str):Prop:=h.SetOf (strKind prog w) D (fun y=>decide (y∈lJ ss)) (lJ ss).length
theorem cW.at {h h':Heap} {D:Addr} {ss:List Str} (x:cW prog w h D ss) (e:∀o,h.get? D=some o→h'.get? D=some o):cW prog w h' D ss:=by
 obtain ⟨o,es,ep,t,ho,r⟩:=x
 exact ⟨o,es,ep,t,e o ho,r⟩
theorem cW.congr {h:Heap} {D:Addr} {S:Str→Bool} {n:Nat} {ss:List Str} (x:h.SetOf (strKind prog w) D S n) (e1:∀y,S y=decide (y∈lJ ss)) (e2:n=(lJ ss).length):cW prog w h D ss:=by
 have e:S=fun y=>decide (y∈lJ ss):=funext e1
 subst e e2
 exact x
theorem xP {A:Around} {R:Result→Shared→Prop} {I:Addr} {fp wr:List Addr} {n:Nat} {P:Nat→Value→Prop} {St:Nat→Heap→Prop} (W:Walks prog w A.in1 I fp wr n P St) (D:Addr) (hD:D∉fp)
  (ss:List Str) (hss:ss.length=n) (hval:∀i v,P i v→∃t,v=.str (ss.getD i "") t) (hb:n+1<scanBound) :
  ∀(k i:Nat) (s:Shared),i+k=n→St i s.heap→cW prog w s.heap D (ss.take i) →
   (∀h' tk,(∀b o,b∉D::wr→s.heap.get? b=some o→h'.get? b=some o)→cW prog w h' D ss→R (.ok (.ret .none)) { s with heap:=h',toks:=tk }) →
   codeAny (model prog w) A (.builtin "set.update.loop" ⟨[.ref D,.ref I],[]⟩) R s:=by
 have hDw:D∉wr:=fun q=>hD (W.sub _ q)
 intro k
 induction k with
 |zero=>
  intro i s hi st hS q
  obtain rfl:i=n:=by omega
  refine codeAny_builtin PyProof.Rows.F.entry_set_update_loop ?_
  rw [Around.under_plainId PyProof.Rows.F.plain_set_update_loop _]
  show wpAny _ A.in1 (pyNext (.ref I) >>= _) _ _ _
  refine wpAny_bind (W.done s _ _ st fun h' tk kp=>?_)
  refine wpAny_pure (q h' tk (fun b o nb e=>kp b o (fun z=>nb (List.mem_cons_of_mem _ z)) e) ?_)
  rw [List.take_of_length_le (Nat.le_of_eq hss)] at hS
  exact hS.at fun o e=>kp D o hDw e
 |succ k ih=>
  intro i s hi st hS q
  refine codeAny_builtin PyProof.Rows.F.entry_set_update_loop ?_
  rw [Around.under_plainId PyProof.Rows.F.plain_set_update_loop _]
  show wpAny _ A.in1 (pyNext (.ref I) >>= _) _ _ _
  refine wpAny_bind (W.item i s _ _ (by omega) st fun v h1 tk1 hP st1 kp1=>?_)
  obtain ⟨t,rfl⟩:=hval i v hP
  have hS1:cW prog w h1 D (ss.take i):=hS.at fun o e=>kp1 D o hDw e
  show wpAny _ A.in1 (holding [Value.str (ss.getD i "") t] (setAdd D (.str (ss.getD i "") t)) >>= _) _ _ _
  refine wpAny_bind (wpAny_holding ?_)
  unfold setAdd
  refine wpAny_holding (wpAny_bind ((strKind prog w).pyHash (k:=ss.getD i "") (strKind_is _ _ _ _) ?_))
  have room:(lJ (ss.take i)).length+1<scanBound:=by
   have h1:=aO3 (ss.take i)
   have h2:(ss.take i).length≤ss.length:=by rw [List.length_take];exact Nat.min_le_right _ _
   omega
  refine wpAny_setAddHashed_of (knd:=strKind prog w) (strKind_is _ _ _ _) rfl hS1 room fun h2 sb2 hS2=>?_
  have hlt:i<ss.length:=by omega
  have et:ss.take (i+1)=ss.take i++[ss.getD i ""]:=by
   rw [List.take_add_one,List.getElem?_eq_getElem hlt,List.getD_eq_getElem?_getD,List.getElem?_eq_getElem hlt]
   rfl
  have hS3:cW prog w h2 D (ss.take (i+1)):=by
   refine cW.congr hS2 (fun y=>?_) ?_
   ·rw [et,aBg,Bool.eq_iff_iff,Bool.or_eq_true,decide_eq_true_eq,decide_eq_true_eq,decide_eq_true_eq,aOw]
   ·rw [et,aBg,aF2]
    by_cases z:ss.getD i ""∈lJ (ss.take i)
    ·rw [if_pos z,if_pos (decide_eq_true z)]
    ·rw [if_neg z,if_neg (by rw [decide_eq_false z];exact Bool.false_ne_true)]
  have kp2:∀b o,b∉D::wr→s.heap.get? b=some o→h2.get? b=some o:=fun b o nb e=>by
   rw [sb2.2 b (fun z=>nb (by rw [z];exact List.mem_cons_self))]
   exact kp1 b o (fun z=>nb (List.mem_cons_of_mem _ z)) e
  refine wpAny_pure ⟨plainId_quiet PyProof.Rows.F.plain_set_update_loop _,ih (i+1) _ (by omega) (W.frame _ _ _ st1 fun b hb o e=>?_) hS3 fun h' tk kp hS'=>q h' tk (fun b o nb e=>kp b o nb (kp2 b o nb e)) hS'⟩
  rw [sb2.2 b (fun z=>hD (by rw [←z];exact hb))]
  exact e
variable {A:Around} {E:Value→Shared→Prop} {s:Shared}
abbrev cP (led:Bool):Obj:={ cls:=.type "set",dict:=none,data:=.set #[] 0 (.fresh 0 0 led) }
theorem aIa {A:Around} {R:Fin→Shared→Prop} {E:Value→Shared→Prop} {s:Shared} {l:Addr} {its:Array Value} {ss:List Str} (led:Bool) (hh:A.handled=none) (hl:s.heap.IsList l its) (hlen:ss.length=its.size)
  (hval:∀(i:Nat) (v:Value),its[i]?=some v→∃t,v=Value.str (ss.getD i "") t) (hb:its.size+1<scanBound)
  (q:∀h' tk,cW prog w h' s.heap.objs.size ss→(∀b o,b<s.heap.objs.size→s.heap.get? b=some o→h'.get? b=some o)→R (.done (.ret .none)) { s with heap:=h',toks:=tk }) :
  wpAny (model prog w) A (Builtin.«set.__init__» ⟨[.ref s.heap.objs.size,.ref l],[]⟩) R E { s with heap:=s.heap.push (cP led) }:=by
 obtain ⟨⟨oc,od,ox,osl⟩,hol,hcl,nl,hdl⟩:=id hl
 simp only at hcl hdl
 subst hcl hdl
 have hS:(s.heap.push (cP led)).get? s.heap.objs.size=some (cP led):=Heap.get?_push_size _ rfl
 have hT:Shared.TypeIs { s with heap:=s.heap.push (cP led) } (.ref s.heap.objs.size) "set":=⟨_,hS,rfl⟩
 have hol':(s.heap.push (cP led)).get? l=some { cls:=.type "list",dict:=od,data:=.seq its nl,slots:=osl }:=Heap.get?_push_of_some _ hol
 have f1:=F.sub_list_set
 have f2:=F.sub_list_frozenset
 have f3:(Value.type "list" == Value.type "dict")=false:=by decide
 have hl1:(s.heap.push (cP led)).IsList l its:=⟨_,hol',rfl,nl,rfl⟩
 have hlt:l<s.heap.objs.size:=Heap.lt_size hol
 unfold Builtin.«set.__init__» noKeywords Builtin.Frozenset.updateFrom
 generalize hPI:pyIter=PI
 wp_walk
 subst hPI
 refine wpAny_pyIter_list hl1 ?_
 refine wpAny_bind (wpAny_runValue ?_)
 have hz:(s.heap.push (cP led)).objs.size=s.heap.objs.size+1:=Heap.size_push ..
 have hne:l≠(s.heap.push (cP led)).objs.size:=by rw [hz];exact Nat.ne_of_lt (Nat.lt_succ_of_lt hlt)
 have hSf:s.heap.objs.size∉[(s.heap.push (cP led)).objs.size,l]:=by
  rw [hz]
  simp only [List.mem_cons,List.not_mem_nil,or_false,not_or]
  exact ⟨Nat.ne_of_lt (Nat.lt_succ_self _),Nat.ne_of_gt hlt⟩
 refine xP (Walks.list (by first|exact hh|simp [hh]) _ l hne its) s.heap.objs.size hSf ss hlen hval hb its.size 0 _ (by omega) ⟨⟨_,Heap.get?_push_size _ rfl,rfl,rfl⟩,hl1.push _⟩ ?_ fun h' tk kp hS'=>?_
 ·have hg:((s.heap.push (cP led)).push { cls:=.type "list_iterator",data:=.fields #[.ref l,.int 0 0] }).get? s.heap.objs.size=some (cP led):=Heap.get?_push_of_some _ hS
  exact cW.congr ((PyProof.Rows.setObjOf_fresh (knd:=strKind prog w) led).setOf hg (by unfold scanBound;omega)) (fun _=>rfl) rfl
 ·refine wpAny_pure (wpAny_pure (q h' tk hS' fun b o hb' e=>kp b o ?_ (Heap.get?_push_of_some _ (Heap.get?_push_of_some _ e))))
  rw [hz]
  simp only [List.mem_cons,List.not_mem_nil,or_false,not_or]
  exact ⟨Nat.ne_of_lt hb',Nat.ne_of_lt (Nat.lt_succ_of_lt hb')⟩
theorem xR {l:Addr} {its:Array Value} {ss:List Str} {Q:Value→Shared→Prop} (hh:A.handled=none) (hl:s.heap.IsList l its) (hlen:ss.length=its.size)
  (hval:∀(i:Nat) (v:Value),its[i]?=some v→∃t,v=Value.str (ss.getD i "") t) (hb:its.size+1<scanBound)
  (q:∀h' tk,cW prog w h' s.heap.objs.size ss→(∀b o,b<s.heap.objs.size→s.heap.get? b=some o→h'.get? b=some o)→Q (.ref s.heap.objs.size) { s with heap:=h',toks:=tk }) :
  wpAny (model prog w) A (call (.type "set") [.ref l]) Q E s:=by
 have ft:=F.called_set
 obtain ⟨c,tl,hmro⟩:=ft.mro
 have g1:=ft.made
 have g2:=ft.sub
 have g3:=ft.notType
 have g4:=ft.canCreate
 have g5:=F.typeCall_set_1 (.ref l)
 refine wpAny_call (codeAny_of_tree (show wpAny _ _ (callAny (.type "set") _) _ _ _ from wpAny_pure ⟨Code.quiet_builtin _ (by decide +kernel),codeAny_builtin F.entry_type_call ?_⟩))
 rw [Around.under_plain (weight_type_call_type "set" [.ref l] []) (by rfl)]
 repeat (any_goals (first|assumption|wp_step))
 refine codeAny_mono (code_set_new_1 (.ref l) (Q₁:=fun obj s1=>∃led:Bool,obj=.ref s.heap.objs.size∧s1={ s with heap:=s.heap.push (cP led) }) (E:=E) fun led=>⟨led,rfl,rfl⟩) fun r s1 hr=>?_
 rcases r with e|fl
 ·exact hr
 rcases fl with _|_|_|obj
 ·exact hr.elim
 ·exact hr.elim
 ·exact hr.elim
 obtain ⟨led,rfl,rfl⟩:=hr
 have hT:Shared.TypeIs { s with heap:=s.heap.push (cP led) } (.ref s.heap.objs.size) "set":=⟨_,Heap.get?_push_size _ rfl,rfl⟩
 have g6:=ft.init.lookup
 have g7:=ft.init.bind (.ref s.heap.objs.size)
 repeat (any_goals (first|assumption|wp_step))
 refine codeAny_mono (codeAny_call_builtin (R:=wants (fun r s2=>r=.none∧∃h' tk,s2={ s with heap:=h',toks:=tk }∧cW prog w h' s.heap.objs.size ss∧∀b o,b<s.heap.objs.size→s.heap.get? b=some o→h'.get? b=some o) E)
  ft.init.plain F.entry_set_init (check_set_init_1 hT (aIa led (by first|exact hh|simp [hh]) hl hlen hval hb fun h' tk x kp=>⟨rfl,h',tk,rfl,x,kp⟩))) fun r2 s2 hr2=>?_
 rcases r2 with e|fl
 ·exact hr2
 rcases fl with _|_|_|v
 ·exact hr2.elim
 ·exact hr2.elim
 ·exact hr2.elim
 obtain ⟨rfl,h',tk,rfl,x,kp⟩:=hr2
 repeat (any_goals (first|assumption|wp_step))
 exact q h' tk x kp
theorem aLk {D:Addr} {ss:List Str} {Q:Value→Shared→Prop} (x:cW prog w s.heap D ss) (q:Q (.int ((lJ ss).length:Nat) (s.toks+1)) { s with toks:=s.toks+1+1 }):wpAny (model prog w) A (call (.builtin "len") [.ref D]) Q E s:=by
 obtain ⟨o,es,ep,t,ho,hex,hd,hel,hmem,hb,hf,hn⟩:=x
 refine call_len_set ho hex hd hf ?_ ?_
 ·unfold scanBound at hb
  omega
 ·rw [hn]
  exact q
end
end PySem
namespace L2
open PySem PySem.Spec PyProof.Rows
def aOg (P:Program) (w:World) (D:Addr) (ss:List Str):HO:=.ext fun h=>cW P w h D ss
section
variable {X:Cx}
def aV3 (P:Program) (w:World) (K:PySem.W.Frag):List V→Hp→VK→Prop:=fun xs H Q=>∃(p:Addr) (ss:List Str),xs=[.ref p]∧SqL K H p (ss.map V.str)∧ss.length≤1000∧∀D,H D=none→Q (.ref D) (upd H D (aOg P w D ss))
theorem aIv (hc:X.calm=true):cD X (.type "set") (aV3 X.prog X.w X.K):=by
 intro pins s σ H xs us Q I r h
 obtain ⟨p,ss,rfl,hq,hl,q⟩:=h
 obtain ⟨u,rfl,rx⟩:=r.one
 cases rx
 obtain ⟨its,rv,pl,hz⟩:=I.list hq
 have hlen:=rv.length
 rw [List.length_map] at hlen
 refine xR (I.ok.hd hc) pl.isList (by rw [List.size_toArray];exact hlen) (fun i v hv=>?_) (by rw [List.size_toArray,←hlen];unfold scanBound;omega) fun h' tk x kp=>?_
 ·have hv':its[i]?=some v:=by simpa using hv
  have hi:i<ss.length:=by rw [hlen];exact (List.getElem?_eq_some_iff.mp hv').1
  obtain ⟨u,hu,t,rfl⟩:=rv.get (i:=i) (x:=.str ss[i]) (by rw [List.getElem?_map,List.getElem?_eq_getElem hi];rfl)
  rw [hv'] at hu
  cases hu
  exact ⟨t,by rw [List.getD_eq_getElem?_getD,List.getElem?_eq_getElem hi];rfl⟩
 ·have e:∃o,h'.get? s.heap.objs.size=some o:=by
   obtain ⟨o,_,_,_,ho,_⟩:=x
   exact ⟨o,ho⟩
  exact ⟨.ref s.heap.objs.size,_,I.laid (o:=aOg X.prog X.w s.heap.objs.size ss) (fun b o eo=>kp b o (Heap.lt_size eo) eo) (Nat.le_refl _) (show cW X.prog X.w h' s.heap.objs.size ss∧_∧_ from ⟨x,e,fun h1 h2 y k=>y.at k⟩),rfl,q _ (I.hok.fresh (Nat.le_refl _))⟩
theorem aIu:cD X (.builtin "len") (fun xs H Q=>∃(D:Addr) (ss:List Str),xs=[.ref D]∧H D=some (aOg X.prog X.w D ss)∧Q (.int ((lJ ss).length:Nat)) H):=by
 intro pins s σ H xs us Q I r h
 obtain ⟨D,ss,rfl,hD,q⟩:=h
 obtain ⟨u,rfl,rx⟩:=r.one
 cases rx
 obtain ⟨x,_⟩:=I.hok D _ hD
 exact aLk x ⟨.int ((lJ ss).length:Nat),H,I.tok _,⟨_,rfl⟩,q⟩
end
theorem dF {X:Cx} {scope:Scope} {x y:Str} {σ:St} {v:V} (j:Nat) (hf:(y,NameKind.free)∈scope.names) (hj:X.N[j]?=some y) (hs:σ[j]?=some (some v)) (hv:Vis X.env.scope y):Cap X scope [x,y] σ [none,some v]:=
 ⟨rfl,fun i z u h1 h2=>by
  match i,h1,h2 with
  |0,_,h2=>cases h2
  |1,h1,h2=>cases h1;cases h2;exact ⟨hf,j,hj,hs,hv⟩
  |i+2,h1,_=>cases h1⟩
theorem pR {X:Cx} {scope:Scope} {x y:Str} {σ:St}:Cap X scope [x,y] σ [none,none]:=⟨rfl,fun i z u h1 h2=>by
  match i,h1,h2 with
  |0,_,h2=>cases h2
  |1,_,h2=>cases h2
  |i+2,h1,_=>cases h1⟩
section
variable {X:Cx} {a b e:Expr} {es:List Expr} {te:TE} {t:TA} {pos p:Pos} {x:Str}
theorem aS7 {k:Nat} (hr:Room k X.A) (hf:VE X (.Name x p) te) (ha:VA X (e::es) t) (hp:gJ e=true:=by rfl) (hpl:(backTo pos (starEach es X.env)).any (·.1)=false:=by rfl) :
  VE X (.Call (.Name x p) (e::es) [] pos) (aO5 X.prog X.w X.K X.mg X.base k te t):=⟨aRz hr hf.1 ha.1 (bO hp) hpl⟩
theorem aF0 {P:Program} {w:World} {K:PySem.W.Frag} {mg:Str→Option Value} {base:Heap} {k:Nat} (hr:Room k X.A) (hf:VE X (.Name x p) te) (ha:VA X (e::es) t) (hp:gJ e=true:=by rfl) (hpl:(backTo pos (starEach es X.env)).any (·.1)=false:=by rfl)
  (h1:X.prog=P:=by rfl) (h2:X.w=w:=by rfl) (h3:X.K=K:=by rfl) (h4:X.mg=mg:=by rfl) (h5:X.base=base:=by rfl) :
  VE X (.Call (.Name x p) (e::es) [] pos) (aO5 P w K mg base k te t):=by
 subst h1 h2 h3 h4 h5
 exact aS7 hr hf ha hp hpl
theorem eO {K:PySem.W.Frag} (h:X.K=K:=by rfl):IxR X (aW1 K):=by subst h;exact aV
theorem nD {K:PySem.W.Frag} {k:Nat} {u:TGs} {n:Nat} (hc:X.calm=true) (h:VGs X es u) (hn:(assignEach es X.env).length=n:=by rfl) (hst:(assignEach es X.env).findIdx? (·.1)=none:=by rfl) (hK:X.K=K:=by rfl):VG X (.Tuple es k pos) (aM0 K n u):=by
 subst hK
 exact uU hc h hn hst
theorem aCz {elts:List Expr} {kt:Nat} {tp:Pos} (hg:Gl X "zip") (hm:X.mg "zip"=none) (ha:VA X [a,b] t) (hp:gJ a=true:=by rfl) (hp2:gJ b=true:=by rfl) :
  VI X (.Tuple elts kt tp) (.Call (.Name "zip" p) [a,b] [] pos) (aKz X.K t):=⟨aSc hg hm ha.1 (bO hp) (bO (es:=[]) hp2)⟩
theorem aDp {tg:Expr} {g:TG} (he:VE X e te) (hg:VG X tg g) (hs:swapsWithSole [tg] e pos.line X.env=pure false:=by rfl) (hw:swappedStores [tg] e X.env=pure none:=by rfl)
  (h1:(assignEach [tg] X.env).map (·.2)=[assign tg X.env]:=by rfl):VS X (.Assign [tg] e pos) (mX te g):=⟨aVz he.1 hg.1 hs hw h1⟩
end
section
variable {X:Cx}
def aX4:V→Option Int→Option Int→Hp→VK→Prop:=fun x lo hi H Q=>∃z,x=.str z∧z.length≤sizeLine∧Q (.str (Txt.slice z lo hi)) H
theorem aDw:SlR X aX4:=by
 intro pins s σ H x v vl vu lo hi sl Q I rx hs pl pu h
 obtain ⟨z,rfl,hz,q⟩:=h
 obtain ⟨t,rfl⟩:=rx
 have fin:∀l u:Option (Int × Tok),l.map (·.1)=lo→u.map (·.1)=hi→s.heap.IsSlice sl l u none→wpAny (model X.prog X.w) X.A (getItem (.str z t) (.ref sl)) (EP X pins σ Q) X.xe s:=fun l u e1 e2 hsl=>by
  subst e1 e2
  refine wpAny_getItem_str_slice (st:=none) hsl rfl ?_
  unfold sliceMade
  have hle:=Txt.slice_le z (l.map (·.1)) (u.map (·.1))
  exact post_val_or_str ⟨Nat.le_trans hle hz,fun t' k=>⟨.str (Txt.slice z (l.map (·.1)) (u.map (·.1))),H,I.tok _,⟨_,rfl⟩,q⟩⟩
 refine ⟨"str",_,F.slot_str_getitem.lookup,typeIs_str _ _ _,?_⟩
 obtain ⟨o,ho,hc,hd⟩:=hs
 cases pl with
 |none=>
  cases pu with
  |none=>exact fin none none rfl rfl ⟨o,ho,hc,hd⟩
  |int j u=>exact fin none (some (j,u)) rfl rfl ⟨o,ho,hc,hd⟩
 |int i t=>
  cases pu with
  |none=>exact fin (some (i,t)) none rfl rfl ⟨o,ho,hc,hd⟩
  |int j u=>exact fin (some (i,t)) (some (j,u)) rfl rfl ⟨o,ho,hc,hd⟩
end
theorem aRy {ta:TA} {σ:St} {H:Hp} (n:Nat) (h:∀R:List V→Hp→Prop,R [.int n] H→ta σ H R) (hn:(n:Int)<2 ^ 62) (R:It→Hp→Prop)
  (q:∀J:It,(∀H' i x,Same H H'→((List.range n).map fun i:Nat=>V.int (0+(i:Int)))[i]?=some x→J.go i H'∧∀y H2,J.yld i H' y H2→H2=H'∧y=x) →
   (∀H',Same H H'→J.stop ((List.range n).map fun i:Nat=>V.int (0+(i:Int))).length H')→R J H):aLi ta σ H R:=by
 refine h _ ⟨n,rfl,by omega,hn,?_⟩
 refine q _ (fun H' i x _ e=>?_) fun H' _=>?_
 ·rw [List.getElem?_map] at e
  have hi:i<n:=by
   cases hr:(List.range n)[i]? with
   |none=>rw [hr] at e;cases e
   |some j=>have:=(List.getElem?_eq_some_iff.mp hr).1;rwa [List.length_range] at this
  rw [List.getElem?_range hi] at e
  cases e
  exact ⟨show i<((n:Int)).toNat from by omega,fun y H2 hy=>hy⟩
 ·rw [List.length_map,List.length_range]
  simp [Itr]
theorem aNr {x:Str} {j:Nat} (h:j≤x.length):(Txt.slice x none (some (j:Int))).cps.toList=x.cps.toList.take j:=by
 have e:=StrLaws.sliceText_to (x:=x) (j:=(j:Int)) ⟨by omega,by rw [Array.length_toList];exact Int.ofNat_le.mpr h⟩
 show (StrLaws.sliceText x none (some (j:Int))).cps.toList=_
 rw [e]
 simp
theorem aJm {x:Str} {j:Nat} (h:j≤x.length):(Txt.slice x (some (j:Int)) none).cps.toList=x.cps.toList.drop j:=by
 have e:=StrLaws.sliceText_from (x:=x) (i:=(j:Int)) ⟨by omega,by rw [Array.length_toList];exact Int.ofNat_le.mpr h⟩
 show (StrLaws.sliceText x (some (j:Int)) none).cps.toList=_
 rw [e]
 simp only [Int.toNat_natCast]
 refine List.take_of_length_le ?_
 rw [List.length_drop]
 omega
def put (x:Str) (a:Nat) (c:Nat):Str:=Txt.slice x none (some (a:Int))++⟨#[c]⟩++Txt.slice x (some (a:Int)) none
theorem aBs {x:Str} {a c:Nat} (h:a≤x.length):(put x a c).cps.toList=x.cps.toList.take a++c::x.cps.toList.drop a:=by
 show ((Txt.slice x none (some (a:Int))).cps++#[c]++(Txt.slice x (some (a:Int)) none).cps).toList=_
 rw [Array.toList_append,Array.toList_append,aNr h,aJm h]
 simp
theorem aRx {x:Str} {a c d:Nat} (h:a≤x.length) (e:put x a c=put x a d):c=d:=by
 have e1:=congrArg (fun y:Str=>y.cps.toList) e
 simp only [aBs h] at e1
 have e2:=List.append_cancel_left e1
 exact (List.cons.inj e2).1
theorem aR6 {x:Str} {a c:Nat} (h:a≤x.length):(put x a c).length=x.length+1:=by
 have e:=congrArg List.length (aBs (c:=c) h)
 have l:x.length=x.cps.toList.length:=by rw [Array.length_toList];rfl
 rw [Array.length_toList,List.length_append,List.length_cons,List.length_take,List.length_drop] at e
 show (put x a c).cps.size=_
 omega
theorem aSt {x:Str} {a c d:Nat} (h:a≤x.length) (m:d∈(put x a c).cps):d=c∨d∈x.cps:=by
 have m1:d∈(put x a c).cps.toList:=Array.mem_toList_iff.mpr m
 rw [aBs h] at m1
 rcases List.mem_append.mp m1 with z|z
 ·exact .inr (Array.mem_toList_iff.mp (List.mem_of_mem_take z))
 ·rcases List.mem_cons.mp z with z|z
  ·exact .inl z
  ·exact .inr (Array.mem_toList_iff.mp (List.mem_of_mem_drop z))
section
variable {X:Cx} {scope:Scope} {N:List Str} {wi:TI} {te:TE} {σ:St} {H:Hp} {Q:VK}
theorem aPk {K:PySem.W.Frag} (h:X.K=K:=by rfl):IxR X (aWe K):=by subst h;exact bD
end
section
variable {X:Cx} {scope:Scope} {N:List Str} {wi:TI} {te:TE} {σ:St} {H:Hp} {Q:VK}
theorem aNk {K:PySem.W.Frag} {tl:TA} (xs ys:List V) (f:V→V→V) (σ0:St) (cap:Cap X scope N σ σ0) (hsz:xs.length≤sizeLine) (hl:xs.length=ys.length)
  (hw:∀R:List V→Hp→Prop,(∀t u H1,Same H H1→SqT K H1 t xs→SqT K H1 u ys→R [.ref t,.ref u] H1)→tl σ H R)
  (he:∀(i:Nat) (x y:V),xs[i]?=some x→ys[i]?=some y→∀H' R l1 l2,Same H H'→(∀H2,Same H' H2→R (f x y) H2)→te ((((σ0.set 0 l1).set 1 l2).set 0 (some x)).set 1 (some y)) H' R) (h0:σ0[0]?=some none) (h1:σ0[1]?=some none)
  (q:∀D H',Same H H'→H' D=some (.lst (List.zipWith f xs ys))→Q (.ref D) H') :
  gR X scope N (aKz K tl) (aM0 K 2 (vW (bZ 0) (vW (bZ 1) aPz))) nA te σ H Q:=by
 refine ⟨σ0,cap,hw _ fun t u H1 s1 ht hu=>⟨t,u,xs,ys,rfl,ht,hu,fun D hD=>?_⟩⟩
 refine ⟨fun i m σ' H' zs=>i≤xs.length∧m=xs.length - i∧(∃l1 l2,σ'=(σ0.set 0 l1).set 1 l2)∧Same H1 H'∧H' D=some (.lst zs)∧zs=(List.zipWith f xs ys).take i,⟨xs.length,Nat.zero_le _,rfl,⟨none,none,?_⟩,bG hD _,aH,rfl⟩,?_⟩
 ·rw [←dG h0];exact dG h1
 rintro i m σ' H' zs ⟨hi,rfl,⟨l1,l2,rfl⟩,sm,hL,rfl⟩
 refine ⟨hL,?_⟩
 by_cases hlt:i<xs.length
 ·right
  refine ⟨⟨sm.aP ht,sm.aP hu,hlt,by omega⟩,fun v H2 hy=>?_⟩
  obtain ⟨T,a,b,hT,rfl,rfl,ha,hb⟩:=hy
  have s2:Same H' (upd H' T (.tup [a,b])):=bG hT _
  refine ⟨T,[a,b],rfl,.inl (.inl aH),rfl,a,[b],rfl,b,[],rfl,rfl,?_⟩
  unfold nA
  dsimp only
  rw [if_pos rfl]
  refine he i a b ha hb _ _ l1 l2 (fun b o e=>s2 _ _ (sm _ _ (s1 _ _ e))) fun H3 s3=>⟨s3 _ _ (s2 _ _ hL),?_,xs.length - (i+1),by omega,hlt,rfl,⟨some a,some b,?_⟩,?_,aH,?_⟩
  ·rw [List.length_take,List.length_zipWith];omega
  ·rw [List.set_comm _ _ (show (1:Nat)≠0 by decide),List.set_set,List.set_set]
  ·intro c o e
   rw [aU (aZ e hD)]
   exact s3 _ _ (s2 _ _ (sm _ _ e))
  ·rw [List.take_add_one,List.getElem?_zipWith,ha,hb]
   rfl
 ·left
  have e:i=xs.length:=by omega
  subst e
  refine ⟨⟨sm.aP ht,Nat.le_refl _⟩,?_⟩
  rw [List.take_of_length_le (by rw [List.length_zipWith];omega)] at hL
  exact q D _ (s1.trans sm) hL
end
section
variable {X:Cx} {e:Expr} {es:List Expr} {t:TA} {pos:Pos}
def aWi (t:TA):TE:=fun σ H Q=>t σ H fun xs H1=>xs.length≤sizeLine∧∀p H',H1 p=none→Same H1 H'→H' p=some (.tup xs)→Q (.ref p) H'
def aTv (t:TA):TE:=fun σ H Q=>t σ H fun xs H1=>xs.length≤sizeLine∧∀p H',H1 p=none→Same H1 H'→H' p=some (.lst xs)→Q (.ref p) H'
def aVx:TE:=fun _ H Q=>∀p H',H p=none→Same H H'→H' p=some (.dK [])→Q (.ref p) H'
theorem cU {x1} (h:VA X es t):VE X (.Tuple es x1 pos) (aWi t):=⟨by
 intro pins s σ H Q I hq
 refine wpAny_Tuple_spliced (thn (h.1 pos pins s σ H _ I hq) fun us s1 ⟨xs,H1,I1,r,z,q⟩=>⟨by rw [←r.length];exact z,?_⟩)
 have hf:H1 s1.heap.objs.size=none:=I1.hok.fresh (Nat.le_refl _)
 refine ⟨.ref s1.heap.objs.size,upd H1 s1.heap.objs.size (.tup xs),I1.laid (t':=s1.toks) (fun b u e=>Heap.get?_push_of_some _ e) (Nat.le_refl _) ?_,rfl,q _ _ hf (bG hf _) aH⟩
 exact ⟨z,us,r,.of (Heap.get?_push_size _ rfl) rfl ⟨_,Heap.get?_push_size _ rfl,rfl,_,rfl⟩⟩⟩
theorem dR (h:VA X es t):VE X (.List es pos) (aTv t):=⟨by
 intro pins s σ H Q I hq
 refine wpAny_List_spliced (thn (h.1 pos pins s σ H _ I hq) fun us s1 ⟨xs,H1,I1,r,z,q⟩=>⟨by rw [←r.length];exact z,?_⟩)
 have hf:H1 s1.heap.objs.size=none:=I1.hok.fresh (Nat.le_refl _)
 refine ⟨.ref s1.heap.objs.size,upd H1 s1.heap.objs.size (.lst xs),I1.laid (t':=s1.toks) (fun b u e=>Heap.get?_push_of_some _ e) (Nat.le_refl _) ?_,rfl,q _ _ hf (bG hf _) aH⟩
 exact ⟨z,us,0,r,Heap.get?_push_size _ rfl⟩⟩
theorem aQg:VE X (.Dict [] [] pos) aVx:=VE.imp aPo fun σ H Q h p hp=>h p _ hp (bG hp _) aH
theorem OpR.imp {f:Value→Value→Sem Value} {r r':R2} (h:OpR X f r) (k:∀x y H Q,r' x y H Q→r x y H Q):OpR X f r':=fun pins s σ H x y v u Q I rx ry q=>h pins s σ H x y v u Q I rx ry (k _ _ _ _ q)
theorem cD.imp {f:Value} {r r':List V→Hp→VK→Prop} (h:cD X f r) (k:∀xs H Q,r' xs H Q→r xs H Q):cD X f r':=fun pins s σ H xs us Q I rv q=>h pins s σ H xs us Q I rv (k _ _ _ q)
def aXg (K:PySem.W.Frag):R2:=fun x y H Q=>∃a b xs ys,x=.ref a∧y=.ref b∧SqT K H a xs∧SqT K H b ys∧xs.length+ys.length≤sizeLine∧∀r H',Same H H'→SqT K H' r (xs++ys)→Q (.ref r) H'
theorem aCu:OpR X (binaryOp .Add) (aXg X.K):=OpR.imp (aR4.or aSq) fun x y H Q ⟨a,b,xs,ys,ex,ey,ha,hb,hz,q⟩=>by
 by_cases h:xs=[]
 ·subst h
  exact .inr ⟨a,b,ys,ex,ey,ha,hb,q b H (Same.refl H) hb⟩
 ·refine .inl ⟨a,b,xs,ys,ex,ey,ha,hb,h,hz,fun z=>?_,fun _ p hp=>q p _ (bG hp _) (SqT.of aH)⟩
  subst z
  exact q a H (Same.refl H) (by rw [List.append_nil];exact ha)
def aXs (K:PySem.W.Frag):V→Option Int→Option Int→Hp→VK→Prop:=fun x lo hi H Q=>∃a xs,x=.ref a∧SqT K H a xs ∧
 ¬ (HT.sIx xs.length 0 lo=0∧HT.sIx xs.length xs.length hi=xs.length)∧∀p H',Same H H'→H' p=some (.tup (wF xs lo hi))→Q (.ref p) H'
theorem aEi:SlR X (aXs X.K):=fun pins s σ H x v vl vu lo hi sl Q I rx hs pl pu ⟨a,xs,e,ha,hn,q⟩=>
 aUy pins s σ H x v vl vu lo hi sl Q I rx hs pl pu ⟨a,xs,e,ha,hn,fun p hp=>q p _ (bG hp _) aH⟩
def aVd:R2:=fun x y H Q=>∃l b xs zs,x=.ref l∧y=.ref b∧H l=some (.lst xs)∧H b=some (.lst zs)∧xs.length+zs.length≤sizeLine∧∀p H',H p=none→Same H H'→H' p=some (.lst (xs++zs))→Q (.ref p) H'
theorem aOd:OpR X (binaryOp .Add) aVd:=OpR.imp aV2 fun x y H Q ⟨l,b,xs,zs,ex,ey,hl,hb,hz,q⟩=>⟨l,b,xs,zs,ex,ey,hl,hb,hz,fun p hp=>q p _ hp (bG hp _) aH⟩
def aUg (K:PySem.W.Frag):List V→Hp→VK→Prop:=fun xs H Q=>∃p ys,xs=[.ref p]∧(SqL K H p ys∨SqT K H p ys)∧∀l H',H l=none→Same H H'→H' l=some (.lst ys)→Q (.ref l) H'
theorem yQ:cD X (.type "list") (aUg X.K):=cD.imp aDm fun xs H Q ⟨p,ys,e,h,q⟩=>⟨p,ys,e,h,fun l hl=>q l _ hl (bG hl _) aH⟩
def aKe (K:PySem.W.Frag):List V→Hp→VK→Prop:=fun xs H Q=>∃p ys,xs=[.ref p]∧SqL K H p ys∧∀l H',H l=none→Same H H'→H' l=some (.tup ys)→Q (.ref l) H'
theorem cG:cD X (.type "tuple") (aKe X.K):=cD.imp aAk fun xs H Q ⟨p,ys,e,h,q⟩=>⟨p,ys,e,.inl ⟨h,fun l hl=>q l _ hl (bG hl _) aH⟩⟩
theorem mZ:MtR X "list.append" aLg:=pQ
theorem gO {H H':Hp} {D:Addr} {o:HO} (f:H D=none) (s:Same H H'):Same H (upd H' D o):=fun b u e=>by rw [aU (aZ e f)];exact s _ _ e
end
end L2
namespace PySem
section
variable {prog:Program} {w:World} {A:Around} {E:Value→Shared→Prop} {s:Shared} {T:String} {r d:Addr} {n:Nat} {P:Nat→Value→Prop} {OK:Heap→Prop}
theorem aE4 {Q:List Value→Shared→Prop} (Kd:PySem.W.KdlSrc prog w T r d n P OK) (hh:A.handled=none) (hok:OK s.heap)
  (hQ:∀h' tk acc,(∀b o,s.heap.get? b=some o→h'.get? b=some o)→ItemsOf P acc n→Q acc.toList { s with heap:=h',toks:=tk }) (hn:n≤sizeLine) :
  wpAny (model prog w) A (collect (.ref r)) Q E s:=by
 unfold collect
 refine wpAny_bind (wpAny_runValue (codeAny_builtin F.entry_proto_collect ?_))
 rw [Around.under_plainId F.plain_proto_collect _]
 show wpAny _ A.in1 (newList [] >>= fun l=>again (.builtin "list.__iadd__" ⟨[l,.ref r],[]⟩)) _ _ s
 refine wpAny_bind (wpAny_newObj_type ?_)
 refine wpAny_pure ⟨plainId_quiet F.plain_list_iadd _,codeAny_builtin F.entry_list_iadd ?_⟩
 rw [Around.under_plainId F.plain_list_iadd _]
 show wpAny _ A.in1 (Builtin.List.listExtendWith (.ref s.heap.objs.size) (.ref r) (.ref s.heap.objs.size)) _ _ _
 have hS:(s.heap.push { cls:=.type "list",data:=.seq ([]:List Value).toArray }).get? s.heap.objs.size=some { cls:=.type "list",data:=.seq #[] 0 }:=Heap.get?_push_size _ rfl
 have hlt:=Kd.there _ hok
 have fin':∀h' tk acc' c',(∀b o,b≠s.heap.objs.size→(s.heap.push { cls:=.type "list",data:=.seq ([]:List Value).toArray }).get? b=some o→h'.get? b=some o) →
   h'.get? s.heap.objs.size=some { cls:=.type "list",dict:=none,data:=.seq acc' c',slots:=#[] }→ItemsOf P acc' n →
   wpAny (model prog w) A (match Value.ref s.heap.objs.size with
   |Value.ref a=>do
    match (←load a).data with
     |Data.seq xs _=>pure xs.toList
     |_=>unsupported "internal:collect"
   |_=>unsupported "internal:collect") Q E { s with heap:=h',toks:=tk }:=by
  intro h' tk acc' c' kp hS' hacc
  show wpAny _ A (load s.heap.objs.size >>= _) _ _ _
  refine wpAny_bind (wpAny_load hS' ?_)
  refine wpAny_pure ?_
  exact hQ h' tk acc' (fun b o e=>kp b o (Nat.ne_of_lt (Heap.lt_size e)) (Heap.get?_push_of_some _ e)) hacc
 refine wpAny_mono (PySem.W.kdl_extend (A:=A) (R:=fun q s'=>∃h' tk acc' c',q=.ok (.ret (.ref s.heap.objs.size))∧s'={ s with heap:=h',toks:=tk }∧(∀b o,b≠s.heap.objs.size→(s.heap.push { cls:=.type "list",data:=.seq ([]:List Value).toArray }).get? b=some o→h'.get? b=some o) ∧
   h'.get? s.heap.objs.size=some { cls:=.type "list",dict:=none,data:=.seq acc' c',slots:=#[] }∧ItemsOf P acc' n)
  (s:={ s with heap:=s.heap.push { cls:=.type "list",data:=.seq ([]:List Value).toArray } }) Kd hh (Kd.keep _ _ hok fun b _ o e=>Heap.get?_push_of_some _ e) s.heap.objs.size (Nat.ne_of_gt hlt.1) (Nat.ne_of_gt hlt.2) (.ref s.heap.objs.size) 0 hS
   (fun h' tk acc' c' kp hS' hacc=>⟨h',tk,acc',c',rfl,rfl,kp,hS',hacc⟩) hn) (fun fin s' h=>?_) (fun e s' h=>?_)
 ·cases fin with
  |done f=>
   obtain ⟨h',tk,acc',c',e,rfl,kp,hS',hacc⟩:=h
   cases e
   exact fin' h' tk acc' c' kp hS' hacc
  |again c'=>exact ⟨h.1,codeAny_mono h.2 fun q s'' hr=>by
    obtain ⟨h',tk,acc',c',rfl,rfl,kp,hS',hacc⟩:=hr
    exact fin' h' tk acc' c' kp hS' hacc⟩
 ·obtain ⟨_,_,_,_,e,_⟩:=h
  cases e
end
theorem pD {prog:Program} {w:World} (d:Addr) (kvs:List (Str × Value)) (lo:(d == sysModules)=false) (hn:kvs.length≤sizeLine) :
  MeetsIn prog w (Builtin.«tuple.__new__» ⟨[.type "tuple",.ref d],[]⟩)
   (fun A R s=>A.handled=none∧(s.heap.DictOf (strKind prog w) d kvs)∧∀(h':Heap) (tk:Nat) (acc:Array Value),(∀b o,s.heap.get? b=some o→h'.get? b=some o) →
    ItemsOf (fun i v=>∃k x t,kvs[i]?=some (k,x)∧v=.str k t) acc kvs.length→R (.ok (.ret (.ref h'.objs.size))) { s with heap:=h'.push { cls:=.type "tuple",data:=.seq acc },toks:=tk }):=
 .of_wp fun A R s h=>by
  obtain ⟨hh,hm,h⟩:=h
  have hsub:=sub_tuple_self
  have hinit:=init_tuple_lookup
  have hmh:=madeHere_tuple
  have hT:s.TypeIs (.ref d) "dict":=hm.typeIs
  have hh1:A.in1.handled=none:=hh
  obtain ⟨ep,hat⟩:=hm.dictAt
  obtain ⟨o,es,ho,hx⟩:=id hat
  wp_walk using AutoSeq1.wpAny_loadPart' ho,wpAny_typeOf hT,aE4 (hn:=hn) (PySem.W.kdl_dict (knd:=strKind prog w) (kvs:=kvs) (ep:=ep) lo) hh1 hat
  intro h' tk acc kp hacc
  show wpAny _ _ (Builtin.Tuple.tupleExact acc.toList.toArray >>= fun v=>ret v) _ _ _
  unfold Builtin.Tuple.tupleExact
  refine wpAny_bind (wpAny_newObj_type ?_ (show acc.toList.toArray.size≤sizeLine by simp only [Array.toArray_toList];rw [hacc.1];exact hn))
  refine wpAny_pure ⟨_,rfl,?_⟩
  have e:acc.toList.toArray=acc:=by simp
  rw [e]
  refine h h' tk acc kp ⟨hacc.1,fun j v hv=>?_⟩
  obtain ⟨k,x,e1,e2⟩:=hacc.2 j v hv
  obtain ⟨t,rfl⟩:=Value.isStrOf_shape (x:=k) (v:=v) e2
  exact ⟨k,x,t,e1,rfl⟩
end PySem
namespace L2
open PySem PySem.Spec PyProof.Rows
def aSx (w:World) (K:PySem.W.Frag) (d:Addr) (kvs:List (Str × Addr)):Prop:=∃o,K.lookup d=some o∧(d == sysModules)=false∧∀P:Program,o.IsDictOf (strKind P w) (kvs.map fun p=>(p.1,Value.ref p.2))
section
variable {X:Cx}
def aX5 (w:World) (K:PySem.W.Frag):R2:=fun x y H Q=>∃d kvs k p,x=.ref d∧y=.str k∧aSx w K d kvs∧(kvs.find? fun q=>decide (q.1=k)).map (·.2)=some p∧Q (.ref p) H
theorem aNw (kvs:List (Str × Addr)) (k:Str) {p:Addr} (h:(kvs.find? fun q=>decide (q.1=k)).map (·.2)=some p):valueAt (kvs.map fun q=>(q.1,Value.ref q.2)) k=some (.ref p):=by
 unfold valueAt
 rw [List.find?_map]
 cases e:kvs.find? fun q=>decide (q.1=k) with
 |none=>rw [e] at h;cases h
 |some q=>
  rw [e] at h
  have h:q.2=p:=Option.some.inj h
  have e':kvs.find? ((fun kv:Str × Value=>decide (kv.1=k)) ∘ fun q=>(q.1,Value.ref q.2))=some q:=e
  rw [e',←h]
  rfl
theorem aS1:IxR X (aX5 X.w X.K):=by
 intro value slice pins s σ H x y v u Q I rx ry h hs
 obtain ⟨d,kvs,k,p,rfl,rfl,⟨o,hk,lo,hd⟩,hp,q⟩:=h
 cases rx
 obtain ⟨t,rfl⟩:=ry
 have hm:s.heap.DictOf (strKind X.prog X.w) d (kvs.map fun p=>(p.1,Value.ref p.2)):=Heap.dictOf_iff.mpr ⟨o,I.kIn _ _ hk,hd _⟩
 exact tail_any hm.typeIs slot_dict_getitem.lookup (wpAny_getItem_of (strKind_is _ _ _ _) hm.mapOf (aNw kvs k hp) ⟨.ref p,H,I.tok _,rfl,q⟩) hs
def aWo (w:World) (K:PySem.W.Frag):List V→Hp→VK→Prop:=fun xs H Q=>∃d kvs,xs=[.ref d]∧aSx w K d kvs∧kvs.length≤1000∧∀p H',Same H H'→H' p=some (.tup (kvs.map fun q=>V.str q.1))→Q (.ref p) H'
theorem aA7:∀(kvs:List (Str × Value)) (vs:List Value),vs.length=kvs.length→(∀(j:Nat) (v:Value),vs[j]?=some v→∃k x t,kvs[j]?=some (k,x)∧v=.str k t)→Vals (kvs.map fun q=>V.str q.1) vs
 |[],[],_,_=>.nil
 |(k,x)::r,v::vs,hl,h=>by
  obtain ⟨k',x',t,e,rfl⟩:=h 0 v rfl
  cases e
  exact .cons ⟨t,rfl⟩ (aA7 r vs (by simpa using hl) fun j u e=>h (j+1) u e)
theorem aNa (hc:X.calm=true):cD X (.type "tuple") (aWo X.w X.K):=by
 intro pins s σ H xs us Q I r h
 obtain ⟨d,kvs,rfl,⟨o,hk,lo,hd⟩,hl,q⟩:=h
 obtain ⟨u,rfl,ru⟩:=vals1 r
 cases ru
 have hm:s.heap.DictOf (strKind X.prog X.w) d (kvs.map fun p=>(p.1,Value.ref p.2))  :=Heap.dictOf_iff.mpr ⟨o,I.kIn _ _ hk,hd _⟩
 have hn:(kvs.map fun p=>(p.1,Value.ref p.2)).length≤sizeLine:=small (by rw [List.length_map];exact hl)
 refine callType_newIn F.called_tuple (by decide) (F.typeCall_tuple_1 _) (F.newCall_tuple_1 _) (fun obj=>F.args_object_init_2 obj _) F.entry_tuple_new
  (pD d _ lo hn) ⟨I.ok.hd hc,hm,fun h' tk acc kp hacc=>⟨⟨_,Heap.get?_push_size _ rfl,rfl⟩,?_⟩⟩
 have hv:=aA7 (kvs.map fun p=>(p.1,Value.ref p.2)) acc.toList (by rw [Array.length_toList];exact hacc.1) fun j v e=>hacc.2 j v (by rw [←Array.getElem?_toList];exact e)
 rw [List.map_map] at hv
 have hv:Vals (kvs.map fun q=>V.str q.1) acc.toList:=hv
 have I1:Inv X pins σ H { s with heap:=h',toks:=tk }:=I.kept (t':=tk) kp
 refine ⟨.ref h'.objs.size,_,I1.laid (t':=tk) (o:=.tup (kvs.map fun q=>V.str q.1)) (fun b ob e=>Heap.get?_push_of_some _ e) (Nat.le_refl _) ?_,rfl,q _ _ (bG (I1.hok.fresh (Nat.le_refl _)) _) aH⟩
 have ea:acc.toList.toArray=acc:=by simp
 refine ⟨small (by rw [List.length_map];exact hl),acc.toList,hv,?_⟩
 rw [ea]
 exact .of (Heap.get?_push_size _ rfl) rfl ⟨_,Heap.get?_push_size _ rfl,rfl,_,rfl⟩
end
section
variable {X:Cx} {pins:List (Addr × Obj)} {σ:St} {H:Hp} {s:Shared}
end
def Ite (K:PySem.W.Frag) (l:Addr) (xs:List V):It:=
 ⟨fun i H=>SqL K H l xs∧i<xs.length,fun i H v H'=>∃T a,H T=none∧v=.ref T∧H'=upd H T (.tup [.int (i:Nat),a])∧xs[i]?=some a,fun i H=>SqL K H l xs∧xs.length≤i⟩
def etn (e it l:Addr) (i:Nat) (h:Heap):Prop:=(∃old,IsEnum h e it (i:Int) old)∧h.IsListIter it l i
theorem aNh {P:Program} {w:World} {K:PySem.W.Frag} {elts:List Expr} {kt:Nat} {pos:Pos} {e it l:Addr} {xs:List V} (hne:e≠it) :
  Turn P w K (.Tuple elts kt pos) (Ite K l xs) [e,it] e (etn e it l) where
 mem:=by simp
 obj:=fun i h st b hb=>by
  obtain ⟨⟨old,e1⟩,o,e2,c2,d2⟩:=st
  simp only [List.mem_cons,List.not_mem_nil,or_false] at hb
  rcases hb with rfl|rfl
  ·exact ⟨_,e1,fun v z=>by cases (show Data.fields _=Data.cell v from z)⟩
  ·exact ⟨_,e2,fun v z=>by rw [d2] at z;cases z⟩
 keep:=fun i h h' st k=>by
  obtain ⟨⟨old,e1⟩,o,e2,r⟩:=st
  exact ⟨⟨old,k e (by simp) _ e1⟩,o,k it (by simp) _ e2,r⟩
 item:=by
  intro X hP hw hK hc i pins s σ H E I hf st hg
  subst hP hw hK
  obtain ⟨⟨old,e1⟩,e2⟩:=st
  obtain ⟨hl,l1⟩:=hg
  obtain ⟨its,rv,pl,hz⟩:=I.list hl
  obtain ⟨x,hx,rx⟩:=rv.get (List.getElem?_eq_getElem l1)
  have fe:=hf e (by simp)
  have fi:=hf it (by simp)
  refine wpAny_pyNext_enum_item e1 e2 pl.isList (by simpa using hx) hne fun h' a1 a2 a3 a4 kp=>?_
  refine ⟨_,rfl,?_⟩
  have fT:H s.heap.objs.size=none:=I.hok.fresh (Nat.le_refl _)
  obtain ⟨oi,e2',_⟩:=id e2
  obtain ⟨oi2,a2',_⟩:=id a2
  have I1:Inv X pins σ (upd H s.heap.objs.size (.tup [.int (i:Nat),xs[i]])) { s with heap:=h' }:=by
   refine I.drawn (ch:=[e,it]) (its:=[.int i s.toks,x]) (fun b hb=>hf b hb) (fun b o hb z=>?_) (Nat.le_refl _) (.cons ⟨_,rfl⟩ (.cons rx .nil)) (small (by simp)) (.of a3 rfl ⟨_,a3,rfl,_,rfl⟩) (fun b hb=>?_)
   ·simp only [List.mem_cons,List.not_mem_nil,or_false,not_or] at hb
    exact kp b o hb.1 hb.2 z
   ·simp only [List.mem_cons,List.not_mem_nil,or_false] at hb
    rcases hb with rfl|rfl
    ·exact ⟨_,a1⟩
    ·exact ⟨_,a2'⟩
  have I1':Inv X pins σ (upd H s.heap.objs.size (.tup [.int (i:Nat),xs[i]])) { s with heap:=h',toks:=s.toks+1 }:=I1.tok _
  have nT:∀b∈[e,it],b≠s.heap.objs.size:=fun b hb=>by
   simp only [List.mem_cons,List.not_mem_nil,or_false] at hb
   rcases hb with rfl|rfl
   ·exact Nat.ne_of_lt (Heap.lt_size e1)
   ·exact Nat.ne_of_lt (Heap.lt_size e2')
  refine wpAny_letOwnedTupleGo_enum (s:={ s with heap:=h',toks:=s.toks+1 }) a1 fun h2 z2 s2=>?_
  obtain ⟨g0,g1,g2,g3,g4,g5⟩:=fe
  have I2:Inv X pins σ (upd H s.heap.objs.size (.tup [.int (i:Nat),xs[i]])) { s with heap:=h2,toks:=s.toks+1 }:=Inv.turned (s:={ s with heap:=h',toks:=s.toks+1 }) I1' (t':=s.toks+1) (it:=e) (fun b o hb z=>(s2.2 b hb).trans z) (by rw [aU (nT e (by simp))];exact g0) g1 g3 g4 g5
  refine ⟨.ref s.heap.objs.size,_,I2,rfl,⟨_,_,fT,rfl,rfl,List.getElem?_eq_getElem l1⟩,⟨⟨x,?_⟩,?_⟩,fun b hb=>by rw [aU (nT b hb)];exact (hf b hb).1⟩
  ·rw [show ((i+1:Nat):Int)=(i:Int)+1 from by omega]
   exact z2
  ·obtain ⟨o,ho,r⟩:=a2
   exact ⟨o,(s2.2 it (Ne.symm hne)).trans ho,r⟩
 done:=by
  intro X hP hw hK hc i pins s σ H E I hf st hg
  subst hP hw hK
  obtain ⟨⟨old,e1⟩,e2⟩:=st
  obtain ⟨hl,hi⟩:=hg
  obtain ⟨its,rv,pl,hz⟩:=I.list hl
  have hlen:=rv.length
  refine wpAny_pyNext_enum_end (I.ok.hd hc) e1 e2 pl.isList (by simp;omega) fun h' kp=>⟨rfl,?_⟩
  refine Inv.aK9 (ch:=[it]) I (fun b hb=>hf b (List.mem_cons_of_mem _ hb)) fun b o hb z=>kp b o (by simpa using hb) z
 self:=fun _ _ _ _ _ st h=>by
  obtain ⟨⟨old,e1⟩,_⟩:=st
  exact wpAny_pyIter_enum e1 h
section
variable {X:Cx}
def aS9 (K:PySem.W.Frag) (ta:TA):TI:=fun σ H R=>ta σ H fun vs H1=>∃l xs,vs=[.ref l]∧SqL K H1 l xs∧R (Ite K l xs) H1
theorem aQy {elts:List Expr} {kt:Nat} {tp:Pos} {a:Expr} {ta:TA} {p pos:Pos} (hg:Gl X "enumerate") (hm:X.mg "enumerate"=none) (ha:PA X [a] ta) (hs:starEach [a] X.env=[(false,eval a X.env)]:=by rfl) :
  PI X (.Tuple elts kt tp) (.Call (.Name "enumerate" p) [a] [] pos) (aS9 X.K ta):=by
 intro pins s σ H R I h
 refine Call_ (rH I hg hm aDd (PyProof.Rows.callWith_type1 (thn (ha pos pins s σ H _ I h) fun us s1 ⟨vs,H1,I1,r1,q1⟩=>?_) hs (by rfl)))
 obtain ⟨l,xs,e,hl,q⟩:=q1
 subst e
 obtain ⟨its,rv,pl,hz⟩:=I1.list hl
 obtain ⟨u,rfl,ru⟩:=vals1 r1
 cases ru
 refine call_enumerate_list pl.isList fun h' a1 a2 a3 kp=>?_
 have I2:Inv X pins σ H1 { s1 with heap:=h' }:=I1.kept (t':=s1.toks) kp
 refine wpAny_pyIter_enum (s:={ s1 with heap:=h' }) a1 ⟨_,_,_,_,H1,rfl,I2,aNh (xs:=xs) (l:=l) (Nat.ne_of_gt (Nat.lt_succ_self _)),⟨⟨_,a1⟩,a2⟩,fun b hb=>?_,q⟩
 have hb':s1.heap.objs.size≤b:=by
  simp only [List.mem_cons,List.not_mem_nil,or_false] at hb
  rcases hb with rfl|rfl
  ·exact Nat.le_succ _
  ·exact Nat.le_refl _
 exact I1.aB2 hb' (I1.hok.fresh hb')
theorem aOj {K:PySem.W.Frag} {l:Addr} {xs:List V} {g:TG} {tb:TS} {D:Ends} {σ:St} {H:Hp} (Pv:Nat→St→Hp→Prop) (h0:Pv 0 σ H) (hl:∀i σ H,i≤xs.length→Pv i σ H→SqL K H l xs)
  (hs:∀i σ H a T H',xs[i]?=some a→Pv i σ H→H T=none→H'=upd H T (.tup [.int (i:Nat),a])→g (.ref T) σ H' fun σ2 H2=>tb { D with nx:=Pv (i+1),ct:=Pv (i+1),bk:=D.nx } σ2 H2) (hd:∀σ H,Pv xs.length σ H→D.nx σ H) :
  ∃W:Nat→Nat→St→Hp→Prop,(∃m,W 0 m σ H)∧∀i m σ H,W i m σ H →
   ((Ite K l xs).stop i H∧D.nx σ H)∨((Ite K l xs).go i H∧∃N:St→Hp→Prop,(∀σ' H',N σ' H'→∃m',m'<m∧W (i+1) m' σ' H')∧∀x H',(Ite K l xs).yld i H x H'→g x σ H' fun σ2 H2=>tb { D with nx:=N,ct:=N,bk:=D.nx } σ2 H2):=by
 refine ⟨fun i m σ H=>m=xs.length - i∧i≤xs.length∧Pv i σ H,⟨xs.length,by simp,Nat.zero_le _,h0⟩,?_⟩
 rintro i m σ H ⟨rfl,hi,p⟩
 by_cases hlt:i<xs.length
 ·refine .inr ⟨⟨hl i σ H hi p,hlt⟩,Pv (i+1),fun σ' H' p'=>⟨xs.length - (i+1),by omega,rfl,hlt,p'⟩,fun x H' y=>?_⟩
  obtain ⟨T,a,hT,rfl,e,ha⟩:=y
  exact hs i σ H a T H' ha p hT e
 ·have e:i=xs.length:=by omega
  subst e
  exact .inl ⟨⟨hl _ σ H hi p,Nat.le_refl _⟩,hd σ H p⟩
end
section
variable {X:Cx} {a c e:Expr} {st:Stmt} {body:List Stmt} {tc:TT} {tb:TS} {t:TA} {te:TE} {pos p:Pos}
theorem gP:VS X st aN4:=⟨aPi⟩
theorem aOb (hp:PassesOwn (model X.prog X.w) X.A X.env X.xe) (hc:VT X c tc) (hb:VSs X body tb):VS X (.While c body [] pos) (aN2 tc tb):=⟨aQh hp hc.1 hb.1⟩
theorem aQ1 {elts:List Expr} {kt:Nat} {tp:Pos} (hg:Gl X "enumerate") (hm:X.mg "enumerate"=none) (ha:VA X [a] t) (hp:gJ a=true:=by rfl) :
  VI X (.Tuple elts kt tp) (.Call (.Name "enumerate" p) [a] [] pos) (aS9 X.K t):=⟨aQy hg hm ha.1 (bO (es:=[]) hp)⟩
theorem aS2:MtR X "list.pop" aXa:=aVg
theorem aJs:MtR X "list.extend" aKa:=aLo
theorem aDs {o:Expr} {to:TE} {name:Str} {apos cpos:Pos} {T id:String} {r:V→List V→Hp→VK→Prop} (pa:PlainAttrs T) (slot:Slot T name id) (hty:typeOf (.builtin id)=pure (.type "method_descriptor")) (hm:MtR X id r) (ho:VE X o to)
  (hbase:attributeBase o name X.env (eval o X.env)=eval o X.env:=by rfl) (hline:(apos.endLine == cpos.line)=true:=by rfl):VE X (.Call (.Attribute o name apos) [] [] cpos) (aWa X.K T r to):=⟨aVr pa slot hty hm ho.1 hbase hline⟩
end
section
variable {P:Program} {w:World} {K:PySem.W.Frag} {mg:Str→Option Value} {base:Heap}
theorem Ok.aQa {k:Nat} {x:Str} {ps:List Str} {sp:Sp} {f:Addr} (G:Ok P w K mg base k x ps sp) (m:mg x=some (.ref f)):Held P w K mg base k f ps sp:=by
 obtain ⟨g,m',h⟩:=G.held
 rw [m] at m'
 cases m'
 exact h
end
section
variable {X:Cx} {scope:Scope} {N:List Str} {wi:TI} {te:TE} {σ:St} {H:Hp} {Q:VK}
theorem vO (xs:List V) (Rel:Nat→Hp→V→Prop) (st:∀{i H1 H2 y},Same H1 H2→Rel i H1 y→Rel i H2 y) (su:∀{i H1 D ys zs y},H1 D=some (.lst ys)→Rel i H1 y→Rel i (upd H1 D (.lst zs)) y)
  (σ0:St) (cap:Cap X scope N σ σ0) (hsz:xs.length≤sizeLine)
  (hw:∀R:It→Hp→Prop,(∀J:It,(∀H' i x,Same H H'→xs[i]?=some x→J.go i H'∧∀y H2,J.yld i H' y H2→H2=H'∧y=x)→(∀H',Same H H'→J.stop xs.length H')→R J H)→wi σ H R)
  (he:∀(i:Nat) (x:V),xs[i]?=some x→∀H' R l,Same H H'→(∀y H2,Same H' H2→Rel i H2 y→R y H2)→te ((σ0.set 0 l).set 0 (some x)) H' R) (h0:σ0[0]?=some none)
  (q:∀D H' ys,Same H H'→H' D=some (.lst ys)→ys.length=xs.length→(∀(i:Nat) (y:V),ys[i]?=some y→Rel i H' y)→Q (.ref D) H') :
  gR X scope N wi (bZ 0) nA te σ H Q:=by
 refine ⟨σ0,cap,hw _ fun J go stop D hD=>?_⟩
 refine ⟨fun i m σ' H' ys=>i≤xs.length∧m=xs.length - i∧(∃l,σ'=σ0.set 0 l)∧Same H H'∧H' D=some (.lst ys)∧ys.length=i∧∀(j:Nat) (y:V),ys[j]?=some y→Rel j H' y,⟨xs.length,Nat.zero_le _,rfl,⟨none,dG h0⟩,bG hD _,aH,rfl,fun j y e=>by simp at e⟩,?_⟩
 rintro i m σ' H' ys ⟨hi,rfl,⟨l,rfl⟩,sm,hL,hl,hR⟩
 refine ⟨hL,?_⟩
 by_cases hlt:i<xs.length
 ·right
  obtain ⟨g1,g2⟩:=go H' i xs[i] sm (List.getElem?_eq_getElem hlt)
  refine ⟨g1,fun x H2 hy=>?_⟩
  obtain ⟨rfl,rfl⟩:=g2 x H2 hy
  unfold bZ nA
  dsimp only
  rw [if_pos rfl]
  refine he i xs[i] (List.getElem?_eq_getElem hlt) _ _ l sm fun y H3 s3 r3=>⟨s3 _ _ hL,by omega,xs.length - (i+1),by omega,hlt,rfl,⟨some xs[i],?_⟩,?_,aH,?_,?_⟩
  ·rw [List.set_set]
  ·intro b o e
   rw [aU (aZ e hD)]
   exact s3 _ _ (sm _ _ e)
  ·rw [List.length_append,List.length_singleton,hl]
  ·intro j z ez
   refine su (s3 _ _ hL) ?_
   by_cases hj:j<ys.length
   ·rw [List.getElem?_append_left hj] at ez
    exact st s3 (hR j z ez)
   ·rw [List.getElem?_append_right (by omega)] at ez
    have hj0:j - ys.length=0:=by
     by_cases z0:j - ys.length=0
     ·exact z0
     ·rw [List.getElem?_eq_none (by simp;omega)] at ez;cases ez
    have hj1:j=i:=by omega
    subst hj1
    rw [hj0] at ez
    cases ez
    exact r3
 ·left
  have e:i=xs.length:=by omega
  subst e
  exact ⟨stop _ sm,q D _ ys sm hL hl hR⟩
theorem fG (xs ys:List V) (hly:ys.length=xs.length) (σ0:St) (cap:Cap X scope N σ σ0) (hsz:xs.length≤sizeLine)
  (hw:∀R:It→Hp→Prop,(∀J:It,(∀H' i x,Same H H'→xs[i]?=some x→J.go i H'∧∀y H2,J.yld i H' y H2→H2=H'∧y=x)→(∀H',Same H H'→J.stop xs.length H')→R J H)→wi σ H R)
  (he:∀(i:Nat) (x y:V),xs[i]?=some x→ys[i]?=some y→∀H' R l,Same H H'→(∀H2,Same H' H2→R y H2)→te ((σ0.set 0 l).set 0 (some x)) H' R) (h0:σ0[0]?=some none)
  (q:∀D H',Same H H'→H' D=some (.lst ys)→Q (.ref D) H') :
  gR X scope N wi (bZ 0) nA te σ H Q:=by
 refine vO xs (fun i _ y=>ys[i]?=some y) (fun _ h=>h) (fun _ h=>h) σ0 cap hsz hw (fun i x ex H' R l sm r=>?_) h0 fun D H' zs sm hD hl hR=>?_
 ·have hi:i<ys.length:=by rw [hly];exact (List.getElem?_eq_some_iff.mp ex).1
  exact he i x ys[i] ex (List.getElem?_eq_getElem hi) H' R l sm fun H2 s2=>r _ H2 s2 (List.getElem?_eq_getElem hi)
 ·have e:zs=ys:=by
   refine List.ext_getElem? fun i=>?_
   by_cases hi:i<zs.length
   ·rw [hR i zs[i] (List.getElem?_eq_getElem hi),List.getElem?_eq_getElem hi]
   ·rw [List.getElem?_eq_none (by omega),List.getElem?_eq_none (by omega)]
  subst e
  exact q D H' sm hD
theorem aM8 {K:PySem.W.Frag} {tl:TA} (xs ys:List V) (Rel:Nat→Hp→V→Prop) (st:∀{i H1 H2 y},Same H1 H2→Rel i H1 y→Rel i H2 y) (su:∀{i H1 D ys zs y},H1 D=some (.lst ys)→Rel i H1 y→Rel i (upd H1 D (.lst zs)) y)
  (σ0:St) (cap:Cap X scope N σ σ0) (hsz:xs.length≤sizeLine) (hl:xs.length=ys.length)
  (hw:∀R:List V→Hp→Prop,(∀t u H1,Same H H1→SqT K H1 t xs→SqT K H1 u ys→R [.ref t,.ref u] H1)→tl σ H R)
  (he:∀(i:Nat) (x y:V),xs[i]?=some x→ys[i]?=some y→∀H' R l1 l2,Same H H'→(∀z H2,Same H' H2→Rel i H2 z→R z H2)→te ((((σ0.set 0 l1).set 1 l2).set 0 (some x)).set 1 (some y)) H' R) (h0:σ0[0]?=some none) (h1:σ0[1]?=some none)
  (q:∀D H' zs,Same H H'→H' D=some (.lst zs)→zs.length=xs.length→(∀(i:Nat) (z:V),zs[i]?=some z→Rel i H' z)→Q (.ref D) H') :
  gR X scope N (aKz K tl) (aM0 K 2 (vW (bZ 0) (vW (bZ 1) aPz))) nA te σ H Q:=by
 refine ⟨σ0,cap,hw _ fun t u H1 s1 ht hu=>⟨t,u,xs,ys,rfl,ht,hu,fun D hD=>?_⟩⟩
 refine ⟨fun i m σ' H' zs=>i≤xs.length∧m=xs.length - i∧(∃l1 l2,σ'=(σ0.set 0 l1).set 1 l2)∧Same H1 H'∧H' D=some (.lst zs)∧zs.length=i∧∀(j:Nat) (z:V),zs[j]?=some z→Rel j H' z,⟨xs.length,Nat.zero_le _,rfl,⟨none,none,?_⟩,bG hD _,aH,rfl,fun j y e=>by simp at e⟩,?_⟩
 ·rw [←dG h0];exact dG h1
 rintro i m σ' H' zs ⟨hi,rfl,⟨l1,l2,rfl⟩,sm,hL,hlz,hR⟩
 refine ⟨hL,?_⟩
 by_cases hlt:i<xs.length
 ·right
  refine ⟨⟨sm.aP ht,sm.aP hu,hlt,by omega⟩,fun v H2 hy=>?_⟩
  obtain ⟨T,a,b,hT,rfl,rfl,ha,hb⟩:=hy
  have s2:Same H' (upd H' T (.tup [a,b])):=bG hT _
  refine ⟨T,[a,b],rfl,.inl (.inl aH),rfl,a,[b],rfl,b,[],rfl,rfl,?_⟩
  unfold nA
  dsimp only
  rw [if_pos rfl]
  refine he i a b ha hb _ _ l1 l2 (fun b o e=>s2 _ _ (sm _ _ (s1 _ _ e))) fun y H3 s3 r3=>⟨s3 _ _ (s2 _ _ hL),by omega,xs.length - (i+1),by omega,hlt,rfl,⟨some a,some b,?_⟩,?_,aH,?_,?_⟩
  ·rw [List.set_comm _ _ (show (1:Nat)≠0 by decide),List.set_set,List.set_set]
  ·intro c o e
   rw [aU (aZ e hD)]
   exact s3 _ _ (s2 _ _ (sm _ _ e))
  ·rw [List.length_append,List.length_singleton,hlz]
  ·intro j z ez
   refine su (s3 _ _ (s2 _ _ hL)) ?_
   by_cases hj:j<zs.length
   ·rw [List.getElem?_append_left hj] at ez
    exact st s3 (st s2 (hR j z ez))
   ·rw [List.getElem?_append_right (by omega)] at ez
    have hj0:j - zs.length=0:=by
     by_cases z0:j - zs.length=0
     ·exact z0
     ·rw [List.getElem?_eq_none (by simp;omega)] at ez;cases ez
    have hj1:j=i:=by omega
    subst hj1
    rw [hj0] at ez
    cases ez
    exact r3
 ·left
  have e:i=xs.length:=by omega
  subst e
  exact ⟨⟨sm.aP ht,Nat.le_refl _⟩,q D _ zs (s1.trans sm) hL hlz hR⟩
end
section
variable {X:Cx} {tg e o i:Expr} {te td ty:TE} {pos:Pos}
theorem aVo (h:VE X e te):VI X tg e (fun σ H R=>sG X.K te σ H R∨aGb X.K te σ H R):=⟨fun pins s σ H R I q=>q.elim (aKg h.1 pins s σ H R I) (aN3 h.1 pins s σ H R I)⟩
theorem aB0 (hu:X.A.units+1<cLine) (ho:VE X o td) (hi:VE X i ty) (hs:aUq i):VE X (.Subscript o i pos) (aTs td ty):=⟨aSh hu ho.1 hi.1 hs⟩
def aXp (K:PySem.W.Frag):R2:=fun x y H Q=>∃(a b:Addr) (xs:List Str),x=.ref a∧y=.ref b∧SqL K H a (xs.map V.str)∧SqL K H b (xs.map V.str)∧Q (.bl false) H
theorem aUc (hu:X.A.units<cLine):OpR X (compareOp .NotEq) (aXp X.K):=by
 intro pins s σ H x y v u Q I rx ry h
 obtain ⟨a,b,xs,rfl,rfl,ha,hb,q⟩:=h
 cases rx
 cases ry
 obtain ⟨its,rv,pl,hz⟩:=I.list ha
 obtain ⟨jts,rw',pm,hw⟩:=I.list hb
 have e1:=rv.length
 have e2:=rw'.length
 rw [List.length_map] at e1 e2
 refine SeqAt.RcNeAt.lists (e:=fun _=>true) pl.isList pm.isList (by rw [List.size_toArray,List.size_toArray];omega) hu (fun j h1 h2=>?_) _ _ _ _ ?_
 ·have hj1:j<xs.length:=by rw [List.size_toArray] at h1;omega
  obtain ⟨u1,hu1,t1,rfl⟩:=rv.get (i:=j) (x:=.str xs[j]) (by rw [List.getElem?_map,List.getElem?_eq_getElem hj1];rfl)
  obtain ⟨u2,hu2,t2,rfl⟩:=rw'.get (i:=j) (x:=.str xs[j]) (by rw [List.getElem?_map,List.getElem?_eq_getElem hj1];rfl)
  have g1:its.toArray[j]=Value.str xs[j] t1:=by
   rw [List.getElem_toArray]
   exact (List.getElem?_eq_some_iff.mp hu1).2
  have g2:jts.toArray[j]=Value.str xs[j] t2:=by
   rw [List.getElem_toArray]
   exact (List.getElem?_eq_some_iff.mp hu2).2
  rw [g1,g2]
  have z:=SeqAt.EqAt.str_str (A:=X.A.in1) (s:=s) xs[j] t1 xs[j] t2
  simpa using z
 ·have z:(List.range its.toArray.size).all (fun _=>true)=true:=by rw [List.all_eq_true];intro _ _;rfl
  rw [z]
  exact ⟨.bl _,H,I,rfl,q⟩
end
theorem aR7 {K:PySem.W.Frag} {t u:Addr} {xs ys:List V} {g:TG} {tb:TS} {D:Ends} {σ:St} {H:Hp} (Pv:Nat→St→Hp→Prop) (hxy:xs.length=ys.length) (h0:Pv 0 σ H) (hl:∀i σ H,i≤xs.length→Pv i σ H→SqT K H t xs∧SqT K H u ys)
  (hs:∀i σ H a b T H',xs[i]?=some a→ys[i]?=some b→Pv i σ H→H T=none→H'=upd H T (.tup [a,b])→g (.ref T) σ H' fun σ2 H2=>tb { D with nx:=Pv (i+1),ct:=Pv (i+1),bk:=D.nx } σ2 H2) (hd:∀σ H,Pv xs.length σ H→D.nx σ H) :
  ∃W:Nat→Nat→St→Hp→Prop,(∃m,W 0 m σ H)∧∀i m σ H,W i m σ H →
   ((Itz K t u xs ys).stop i H∧D.nx σ H)∨((Itz K t u xs ys).go i H∧∃N:St→Hp→Prop,(∀σ' H',N σ' H'→∃m',m'<m∧W (i+1) m' σ' H')∧∀x H',(Itz K t u xs ys).yld i H x H'→g x σ H' fun σ2 H2=>tb { D with nx:=N,ct:=N,bk:=D.nx } σ2 H2):=by
 refine ⟨fun i m σ H=>m=xs.length - i∧i≤xs.length∧Pv i σ H,⟨xs.length,by simp,Nat.zero_le _,h0⟩,?_⟩
 rintro i m σ H ⟨rfl,hi,p⟩
 by_cases hlt:i<xs.length
 ·refine .inr ⟨⟨(hl i σ H hi p).1,(hl i σ H hi p).2,hlt,by omega⟩,Pv (i+1),fun σ' H' p'=>⟨xs.length - (i+1),by omega,rfl,hlt,p'⟩,fun x H' y=>?_⟩
  obtain ⟨T,a,b,hT,rfl,e,ha,hb⟩:=y
  exact hs i σ H a b T H' ha hb p hT e
 ·have e:i=xs.length:=by omega
  subst e
  exact .inl ⟨⟨(hl _ σ H hi p).1,Nat.le_refl _⟩,hd σ H p⟩
theorem aMu {X:Cx} {i o:Expr} {td ty:TE} {pos:Pos} (hu:X.A.units+1<cLine) (hi:VE X i ty) (ho:VE X o td) (h1:behindInMarks .NotIn o=false:=by first|exact nobehind _ (by decide) (by decide)|rfl):VT X (.Compare i [.NotIn] [o] pos) (tB (aK8 ty td)):=⟨aU0 (aLz hu hi.1 ho.1) h1⟩
theorem zF {X:Cx} {K:PySem.W.Frag} (h:X.K=K:=by rfl):OpR X (compareOp .NotIn) (rIn K true):=by subst h;exact uB
def sel {α:Type} (p:Nat→Bool):Nat→List α→List α
 |_,[]=>[]
 |i,x::r=>if p i then x::sel p (i+1) r else sel p (i+1) r
theorem sJ {α:Type} (p:Nat→Bool) (x:α):∀(k:Nat) (xs:List α),sel p k (xs++[x])=sel p k xs++(if p (k+xs.length) then [x] else [])
 |k,[]=>by
  show (if p k then x::sel p (k+1) [] else sel p (k+1) [])=[]++(if p (k+0) then [x] else [])
  rw [Nat.add_zero,List.nil_append]
  rfl
 |k,y::r=>by
  show (if p k then y::sel p (k+1) (r++[x]) else sel p (k+1) (r++[x]))=(if p k then y::sel p (k+1) r else sel p (k+1) r)++_
  rw [sJ p x (k+1) r,List.length_cons,show k+1+r.length=k+(r.length+1) by omega]
  split <;> rfl
theorem pU {α:Type} (p:Nat→Bool):∀(k:Nat) (xs:List α),(sel p k xs).length≤xs.length
 |_,[]=>Nat.le_refl _
 |k,y::r=>by
  have:=pU p (k+1) r
  show (if p k then y::sel p (k+1) r else sel p (k+1) r).length≤r.length+1
  split
  ·rw [List.length_cons];omega
  ·omega
section
variable {X:Cx} {scope:Scope} {N:List Str} {wi:TI} {te:TE} {σ:L2.St} {H:Hp} {Q:VK}
theorem aQc {tt:TT} (xs:List V) (p:Nat→Bool) (σ0:L2.St) (cap:Cap X scope N σ σ0) (hsz:xs.length≤sizeLine)
  (hw:∀R:It→Hp→Prop,(∀J:It,(∀H' i x,Same H H'→xs[i]?=some x→J.go i H'∧∀y H2,J.yld i H' y H2→H2=H'∧y=x)→(∀H',Same H H'→J.stop xs.length H')→R J H)→wi σ H R)
  (ht:∀(i:Nat) (x:V),xs[i]?=some x→∀H' R l,Same H H'→(∀H2,Same H' H2→R (p i) H2)→tt ((σ0.set 0 l).set 0 (some x)) H' R) (h0:σ0[0]?=some none)
  (q:∀D H',Same H H'→H' D=some (.lst (sel p 0 xs))→Q (.ref D) H') :
  gR X scope N wi (bZ 0) tt (aJb 0) σ H Q:=by
 refine ⟨σ0,cap,hw _ fun J go stop D hD=>?_⟩
 refine ⟨fun i m σ' H' ys=>i≤xs.length∧m=xs.length - i∧(∃l,σ'=σ0.set 0 l)∧Same H H'∧H' D=some (.lst ys)∧ys=sel p 0 (xs.take i),⟨xs.length,Nat.zero_le _,rfl,⟨none,dG h0⟩,bG hD _,aH,rfl⟩,?_⟩
 rintro i m σ' H' ys ⟨hi,rfl,⟨l,rfl⟩,sm,hL,rfl⟩
 refine ⟨hL,?_⟩
 by_cases hlt:i<xs.length
 ·right
  obtain ⟨g1,g2⟩:=go H' i xs[i] sm (List.getElem?_eq_getElem hlt)
  refine ⟨g1,fun x H2 hy=>?_⟩
  obtain ⟨rfl,rfl⟩:=g2 x H2 hy
  unfold bZ
  dsimp only
  have hj:0<σ0.length:=by
   by_cases z:0<σ0.length
   ·exact z
   ·rw [List.getElem?_eq_none (by omega)] at h0;cases h0
  have tk:sel p 0 (xs.take (i+1))=sel p 0 (xs.take i)++(if p i then [xs[i]] else []):=by
   rw [List.take_add_one,List.getElem?_eq_getElem hlt]
   show sel p 0 (xs.take i++[xs[i]])=_
   rw [sJ,List.length_take,Nat.zero_add,Nat.min_eq_left (Nat.le_of_lt hlt)]
  refine ht i xs[i] (List.getElem?_eq_getElem hlt) _ _ l sm fun H3 s3=>?_
  cases hp:p i with
  |true=>
   rw [if_pos rfl]
   refine ⟨xs[i],by rw [List.set_set,List.getElem?_set_self hj],s3 _ _ hL,?_,xs.length - (i+1),by omega,hlt,rfl,⟨some xs[i],by rw [List.set_set]⟩,?_,aH,?_⟩
   ·have:=pU p 0 (xs.take i)
    rw [List.length_take] at this
    omega
   ·intro b o e
    rw [aU (aZ e hD)]
    exact s3 _ _ (sm _ _ e)
   ·rw [tk,hp];rfl
  |false=>
   rw [if_neg (by simp)]
   refine ⟨s3 _ _ hL,xs.length - (i+1),by omega,hlt,rfl,⟨some xs[i],by rw [List.set_set]⟩,sm.trans s3,s3 _ _ hL,?_⟩
   rw [tk,hp]
   simp
 ·left
  have e:i=xs.length:=by omega
  subst e
  refine ⟨stop _ sm,?_⟩
  rw [List.take_length] at hL
  exact q D _ sm hL
end
theorem aR5 {X:Cx} {i0:Nat} {x0:Str} {pos' spos:Pos} {elt target iter:Expr} {ifs:List Expr} {scope:Scope} {pos:Pos} {N:List Str} {wi:TI} {g:TG} {tt:TT} {te:TE}
  (hN:X.N.Nodup) (hi0:X.N[i0]?=some x0) (hx0:Loc X.env.scope x0) (C:uL scope N) (hfr:∀y,(y,NameKind.free)∈scope.names→X.env.kindOf y=some .cell∨X.env.kindOf y=some .free) (hc:X.calm=true)
  (hi:PI X target iter wi)
  (hb:∀cl s H fp,PG (cxC X N scope cl s H fp) target g∧aM5 (cxC X N scope cl s H fp) ifs tt∧PE (cxC X N scope cl s H fp) elt te)
  (hs:∀x,foldedSetIterable iter X.env x=pure x:=by intro _;rfl) (hsw:swapsWith (.ListComp elt [⟨target,iter,ifs,0⟩] scope pos) (some (.Name x0 pos')) spos.line X.env=pure true:=by rfl)
  (hf:X.fn x0=true∨X.env.scope.names.lookup x0=some .local:=by first|exact .inl rfl|exact .inr rfl|assumption) :
  PS X (.Assign [.Name x0 pos'] (.ListComp elt [⟨target,iter,ifs,0⟩] scope pos) spos) (mX (gR X scope N wi g tt te) (bZ i0)):=by
 intro pins s σ H Dn I hq
 obtain ⟨σ0,cap,hq⟩:=hq
 obtain ⟨cl,hcl,p1,p2⟩:=qW (scope:=scope) (env:=X.env) (fun y hy hk=>by
  obtain ⟨n,k⟩:=y
  cases hk
  exact I.ok.has n (hfr n hy))
 rw [exec_Assign_Name_used _ _ _ _ hsw]
 refine wpAny_bind (wpAny_standAt (wpAny_bind ?_))
 show wpAny _ X.A (do let _ ←comprehension (.ListComp elt [⟨target,iter,ifs,0⟩] scope pos) scope X.env _ (newList []) false (eval iter X.env) (some (assign (.Name x0 pos') X.env))) _ _ s
 refine wpAny_bind (wpAny_mono (wpAny_comprehension_free (use:=some (assign (.Name x0 pos') X.env)) (Q:=fun _ s'=>SP X pins Dn .next s') rfl hs hcl C.kind C.names (thn (hi pins s σ H _ I hq) fun xv s1 h1=>thn h1 fun itv s2 h2=>?_))
  (fun _ s' hq=>wpAny_pure (wpAny_pure hq)) fun _ _ e=>e)
 obtain ⟨it,fp,tn,J,H2,rfl,I2,T,st2,f2,q2⟩:=h2
 refine wpAny_newObj_type (wpAny_newFunctionEnv C.cell (by intro y hy;simp at hy) (fun h₁ hns₁ hsb₁=>?_) C.kind)
 dsimp only at hns₁ hsb₁ ⊢
 have hD:H2 s2.heap.objs.size=none:=I2.hok.fresh (Nat.le_refl _)
 have I3:Inv X pins σ (upd H2 s2.heap.objs.size (.lst [])) { s2 with heap:=s2.heap.push { cls:=.type "list",dict:=none,data:=.seq ([]:List Value).toArray } }:=
  I2.laid (t':=s2.toks) (fun b u e=>Heap.get?_push_of_some _ e) (Nat.le_refl _) ⟨Nat.zero_le _,[],0,.nil,Heap.get?_push_size _ rfl⟩
 generalize hs3:({ s2 with heap:=s2.heap.push { cls:=.type "list",dict:=none,data:=.seq ([]:List Value).toArray } }:Shared)=s3 at I3
 have hh3:s2.heap.push { cls:=.type "list",dict:=none,data:=.seq ([]:List Value).toArray }=s3.heap:=by rw [←hs3]
 rw [hh3] at hns₁ hsb₁
 have fl2:∀b∈fp,b<s2.heap.objs.size:=fun b hb=>by
  obtain ⟨o,e,_⟩:=T.obj _ _ st2 b hb
  exact Heap.lt_size e
 have fl3:∀b∈fp,b<s3.heap.objs.size:=fun b hb=>by
  rw [←hh3,Heap.size_push]
  exact Nat.lt_succ_of_lt (fl2 b hb)
 have f3:∀b∈fp,oA X pins (upd H2 s2.heap.objs.size (.lst [])) b:=fun b hb=>by
  obtain ⟨f0,fr⟩:=f2 b hb
  exact ⟨by rw [aU (Nat.ne_of_lt (fl2 b hb))];exact f0,fr⟩
 have keep3:∀b o,s3.heap.get? b=some o→h₁.get? b=some o:=fun b o e=>hsb₁.extBut b o (Nat.ne_of_lt (Heap.lt_size e)) (Heap.get?_push_of_some _ e)
 have I4:=aFo (tk:=s3.toks) I3 C hfr p1 p2 cap f3 fl3 hns₁ keep3
 have st4:tn 0 h₁:=T.keep _ _ _ st2 fun b hb o e=>keep3 b o (by rw [←hh3];exact Heap.get?_push_of_some _ e)
 obtain ⟨W,⟨m0,w0⟩,turn⟩:=q2 s2.heap.objs.size hD
 have fpc:∀{H':Hp},(∀b∈fp,H' b=none)→∀b∈fp,oA (cxC X N scope cl s3 (upd H2 s2.heap.objs.size (.lst [])) fp) [] H' b:=fun {H'} hn b hb=>by
  obtain ⟨e1,e2⟩:=I4.ok.exf b hb
  exact ⟨hn b hb,e1,I4.ok.exfs b hb,.inl hb,e2,fun p hp=>absurd (show p∈([]:List (Addr × Obj)) from hp) (by simp)⟩
 have loop:∀s4:Shared,s4={ s3 with heap:=h₁,toks:=s3.toks } →
   codeAny (model X.prog X.w) X.A (.compLoop (.ListComp elt [⟨target,iter,ifs,0⟩] scope pos) 0 (.ref it) (.ref s2.heap.objs.size) (compEnvC scope cl s3.heap.objs.size X.env))
    (compPost (model X.prog X.w) X.A X.xe (some (assign (.Name x0 pos') X.env)) (fun _ s'=>SP X pins Dn .next s') (.ref s2.heap.objs.size) s3.heap.objs.size) s4:=by
  rintro s4 rfl
  refine uR (fun n s'=>∃i σ' H' ys,Inv (cxC X N scope cl s3 (upd H2 s2.heap.objs.size (.lst [])) fp) [] σ' H' s'∧tn i s'.heap∧(∀b∈fp,H' b=none)∧W i n σ' H' ys) ?_ m0 ⟨0,σ0,_,[],I4,st4,fun b hb=>(f3 b hb).1,w0⟩
  rintro n s5 ⟨i,σ5,H5,ys,I5,st5,fr5,w5⟩
  obtain ⟨hacc,w5⟩:=turn i n σ5 H5 ys w5
  have noE:∀{α:Type} {t:Sem α} {Q':α→Shared→Prop} {E':Value→Shared→Prop} {s':Shared},wpAny (model X.prog X.w) X.A t Q' (fun _ _=>False) s'→wpAny (model X.prog X.w) X.A t Q' E' s':=fun h=>wpAny_mono h (fun _ _ q=>q) fun _ _ z=>z.elim
  rcases w5 with ⟨stop,qn⟩|⟨go,step⟩
  ·refine noE (thn (T.done (cxC X N scope cl s3 (upd H2 s2.heap.objs.size (.lst [])) fp) rfl rfl rfl hc i [] s5 σ5 H5 _ I5 (fpc fr5) st5 stop) fun r s6 ⟨hr,I6⟩=>?_)
   subst hr
   obtain ⟨m6,hn6,_⟩:=I6.loc
   have kp:∀b o,b≠s3.heap.objs.size→s6.heap.get? b=some o→s6.heap.get? b=some o:=fun b o hb e=>e
   have ne3:∀b o,s3.heap.get? b=some o→b≠s3.heap.objs.size:=fun b o e=>Nat.ne_of_lt (Heap.lt_size e)
   have un:Un (frs X.stack) fp (upd H2 s2.heap.objs.size (.lst [])) H5 s3.heap s6.heap:=by
    have u:=I6.base
    exact ⟨fun b o e n hb hx=>kp b o (ne3 b o e) (u.keep b o e n hb hx),fun b o e n hb hx=>by
     obtain ⟨sl,e1⟩:=u.slot b o e n hb hx
     exact ⟨sl,kp b _ (ne3 b o e) e1⟩,u.free,fun b o e hx=>by
     obtain ⟨o',e1⟩:=u.there b o e hx
     exact ⟨o',kp b _ (ne3 b o e) e1⟩,u.tups,u.frzs,u.tbls⟩
   have hok:HOk X.prog X.w H5 s6.heap:=fun b u e=>by
    refine (I6.hok b u e).stay (fun c v hc' q=>kp c v ?_ q) (fun _ q=>q) fun _ _ q=>q
    have hfree:H5 s3.heap.objs.size=none:=I6.free
    rintro rfl
    rcases hc' with z|z
    ·rw [z] at hfree;rw [hfree] at e;cases e
    ·rw [hfree] at z;cases z
   have I7:Inv X pins σ H5 s6:=by
    refine I3.call' (s':=s6) I6.os un hok I6.bare fun b hb=>?_
    obtain ⟨f0,f1,f2',f3',f4,f5⟩:=f3 b hb
    exact ⟨f3',f1,f4,f5⟩
   have hfree:H5 s3.heap.objs.size=none:=I6.free
   obtain ⟨g0,g1,g2,g3,g4,g5⟩:=I3.aB2 (Nat.le_refl _) hfree
   show wpAny (model X.prog X.w) X.A (assign (.Name x0 pos') X.env (.ref s2.heap.objs.size)) _ _ s6
   refine wpAny_assign_Name (aAp I7 hN hi0 hx0 (v:=.ref s2.heap.objs.size) rfl (fun s8 I8 ⟨a,sb,ha⟩=>?_) hf)
   have nea:s3.heap.objs.size≠a:=by
    rcases ha with z|z
    ·rw [z];exact g1
    ·exact fun e=>g4 x0 a z e.symm
   refine ⟨m6,hn6.sameBut sb nea,fun h' sb'=>?_⟩
   exact ⟨_,H5,Inv.turned I8 (t':=s8.toks) (it:=s3.heap.objs.size) (fun b o hb e=>sb'.extBut b o hb e) g0 g1 g3 g4 g5,qn⟩
  ·refine noE (thn (T.item (cxC X N scope cl s3 (upd H2 s2.heap.objs.size (.lst [])) fp) rfl rfl rfl hc i [] s5 σ5 H5 (fun _ _=>False) I5 (fpc fr5) st5 go) fun r s6 ⟨u,hr,h6⟩=>?_)
   subst hr
   refine noE (thn h6 fun _ s7 ⟨x,H7,I7,r7,y7,st7,fr7⟩=>?_)
   obtain ⟨hg,ht,he⟩:=hb cl s3 (upd H2 s2.heap.objs.size (.lst [])) fp
   have I7':=I7.pinned (fpc fr7) (T.obj _ _ st7)
   have back:∀{σ8:St} {H8:Hp} {s8:Shared},Inv (cxC X N scope cl s3 (upd H2 s2.heap.objs.size (.lst [])) fp) ([]++qY fp s7.heap) σ8 H8 s8→tn (i+1) s8.heap∧∀b∈fp,H8 b=none:=fun {σ8 H8 s8} I8=>
    ⟨T.keep _ _ _ st7 fun b hb o e=>(I8.pin (b,o) (List.mem_append_right _ (List.mem_append_right _ (eG hb e)))).1,fun b hb=>by
     obtain ⟨o,e,d⟩:=T.obj _ _ st7 b hb
     exact (I8.pin (b,o) (List.mem_append_right _ (List.mem_append_right _ (eG hb e)))).2.1⟩
   refine noE (thn (hg _ s7 σ5 H7 x u _ I7' r7 (step x H7 y7)) fun _ s8 ⟨σ8,H8,I8,q8⟩=>?_)
   refine noE (thn (ht _ s8 σ8 H8 _ I8 q8) fun b s9 ⟨H9,I9,q9⟩=>?_)
   cases b with
   |false=>
    rw [if_neg Bool.false_ne_true] at q9 ⊢
    obtain ⟨_,m',hm,w9⟩:=q9
    exact ⟨m',hm,i+1,σ8,H9,ys,I9.gB,(back I9).1,(back I9).2,w9⟩
   |true=>
    rw [if_pos rfl] at q9 ⊢
    refine noE (thn (he _ s9 σ8 H9 _ I9 q9) fun yv s10 ⟨y,H10,I10,r10,hacc10,hlen,m',hm,w10⟩=>?_)
    refine noE (thn (pQ _ s10 σ8 H10 (.ref s2.heap.objs.size) [y] (.ref s2.heap.objs.size) [yv] (fun _ H11=>H11=upd H10 s2.heap.objs.size (.lst (ys++[y]))) I10 rfl (.cons r10 .nil) ⟨_,_,_,rfl,rfl,hacc10,hlen,rfl⟩) fun _ s11 ⟨z,H11,I11,_,e11⟩=>?_)
    subst e11
    exact ⟨m',hm,i+1,σ8,_,ys++[y],I11.gB,(back I11).1,(back I11).2,w10⟩
 have fin:=codeAny_compStart_list (loop { s3 with heap:=h₁,toks:=s3.toks } rfl) (T.self _ _ _ _ _ st4 (loop { s3 with heap:=h₁,toks:=s3.toks } rfl))
 subst hs3
 exact fin
theorem mJ {X:Cx} {i0:Nat} {x0:Str} {pos' spos:Pos} {elt target iter:Expr} {ifs:List Expr} {scope:Scope} {pos:Pos} {N:List Str} {wi:TI} {g:TG} {tt:TT} {te:TE}
  (hN:X.N.Nodup) (hi0:X.N[i0]?=some x0) (hx0:Loc X.env.scope x0) (C:uL scope N) (hfr:∀y,(y,NameKind.free)∈scope.names→X.env.kindOf y=some .cell∨X.env.kindOf y=some .free) (hc:X.calm=true)
  (hi:VI X target iter wi)
  (hb:∀cl s H fp,VG (cxC X N scope cl s H fp) target g∧VF (cxC X N scope cl s H fp) ifs tt∧VE (cxC X N scope cl s H fp) elt te)
  (hs:∀x,foldedSetIterable iter X.env x=pure x:=by intro _;rfl) (hsw:swapsWith (.ListComp elt [⟨target,iter,ifs,0⟩] scope pos) (some (.Name x0 pos')) spos.line X.env=pure true:=by rfl)
  (hf:X.fn x0=true∨X.env.scope.names.lookup x0=some .local:=by first|exact .inl rfl|exact .inr rfl|assumption) :
  VS X (.Assign [.Name x0 pos'] (.ListComp elt [⟨target,iter,ifs,0⟩] scope pos) spos) (mX (gR X scope N wi g tt te) (bZ i0)):=
 ⟨aR5 hN hi0 hx0 C hfr hc hi.1 (fun cl s H fp=>⟨(hb cl s H fp).1.1,(hb cl s H fp).2.1.1,(hb cl s H fp).2.2.1⟩) hs hsw hf⟩
section
variable {te:TE} {H:Hp} {Q:VK}
theorem aJe (xs:List V) (Rel:Nat→Hp→V→Prop) (st:∀{i H1 H2 y},Same H1 H2→Rel i H1 y→Rel i H2 y) (su:∀{i H1 D ys zs y},H1 D=some (.lst ys)→Rel i H1 y→Rel i (upd H1 D (.lst zs)) y)
  (σ0:St) (hsz:xs.length≤sizeLine)
  (J:It) (go:∀H' i x,Same H H'→xs[i]?=some x→J.go i H'∧∀y H2,J.yld i H' y H2→H2=H'∧y=x) (stop:∀H',Same H H'→J.stop xs.length H')
  (he:∀(i:Nat) (x:V),xs[i]?=some x→∀H' R l,Same H H'→(∀y H2,Same H' H2→Rel i H2 y→R y H2)→te ((σ0.set 0 l).set 0 (some x)) H' R) (h0:σ0[0]?=some none)
  (q:∀D H' ys,Same H H'→H' D=some (.lst ys)→ys.length=xs.length→(∀(i:Nat) (y:V),ys[i]?=some y→Rel i H' y)→Q (.ref D) H') :
  ∀D,H D=none→∃W:Nat→Nat→St→Hp→List V→Prop,(∃m,W 0 m σ0 (upd H D (.lst [])) []) ∧
   ∀i m σ' H' ys,W i m σ' H' ys→H' D=some (.lst ys)∧((J.stop i H'∧Q (.ref D) H')∨(J.go i H'∧∀x H2,J.yld i H' x H2→bZ 0 x σ' H2 fun σ3 H3=>nA σ3 H3 fun b H4=>
    if b=true then te σ3 H4 fun y H5=>H5 D=some (.lst ys)∧ys.length<sizeLine∧∃m',m'<m∧W (i+1) m' σ3 (upd H5 D (.lst (ys++[y]))) (ys++[y]) else H4 D=some (.lst ys)∧∃m',m'<m∧W (i+1) m' σ3 H4 ys)):=by
 intro D hD
 refine ⟨fun i m σ' H' ys=>i≤xs.length∧m=xs.length - i∧(∃l,σ'=σ0.set 0 l)∧Same H H'∧H' D=some (.lst ys)∧ys.length=i∧∀(j:Nat) (y:V),ys[j]?=some y→Rel j H' y,⟨xs.length,Nat.zero_le _,rfl,⟨none,dG h0⟩,bG hD _,aH,rfl,fun j y e=>by simp at e⟩,?_⟩
 rintro i m σ' H' ys ⟨hi,rfl,⟨l,rfl⟩,sm,hL,hl,hR⟩
 refine ⟨hL,?_⟩
 by_cases hlt:i<xs.length
 ·right
  obtain ⟨g1,g2⟩:=go H' i xs[i] sm (List.getElem?_eq_getElem hlt)
  refine ⟨g1,fun x H2 hy=>?_⟩
  obtain ⟨rfl,rfl⟩:=g2 x H2 hy
  unfold bZ nA
  dsimp only
  rw [if_pos rfl]
  refine he i xs[i] (List.getElem?_eq_getElem hlt) _ _ l sm fun y H3 s3 r3=>⟨s3 _ _ hL,by omega,xs.length - (i+1),by omega,hlt,rfl,⟨some xs[i],?_⟩,?_,aH,?_,?_⟩
  ·rw [List.set_set]
  ·intro b o e
   rw [aU (aZ e hD)]
   exact s3 _ _ (sm _ _ e)
  ·rw [List.length_append,List.length_singleton,hl]
  ·intro j z ez
   refine su (s3 _ _ hL) ?_
   by_cases hj:j<ys.length
   ·rw [List.getElem?_append_left hj] at ez
    exact st s3 (hR j z ez)
   ·rw [List.getElem?_append_right (by omega)] at ez
    have hj0:j - ys.length=0:=by
     by_cases z0:j - ys.length=0
     ·exact z0
     ·rw [List.getElem?_eq_none (by simp;omega)] at ez;cases ez
    have hj1:j=i:=by omega
    subst hj1
    rw [hj0] at ez
    cases ez
    exact r3
 ·left
  have e:i=xs.length:=by omega
  subst e
  exact ⟨stop _ sm,q D _ ys sm hL hl hR⟩
end
section
variable {K:PySem.W.Frag}
theorem aV5 {a:Addr} {xs:List V} {H:Hp} (hS:∀H',Same H H'→SqL K H' a xs):∀H' i x,Same H H'→xs[i]?=some x→(Itl K a).go i H'∧∀y H2,(Itl K a).yld i H' y H2→H2=H'∧y=x:=fun H' i x s e=>
 ⟨⟨xs,x,hS H' s,e⟩,fun y H2 hy=>by
  obtain ⟨e1,e2⟩:=hy
  have e3:=e2 xs (hS H' s)
  rw [e] at e3
  cases e3
  exact ⟨e1,rfl⟩⟩
theorem aO7 {a:Addr} {xs:List V} {H:Hp} (hS:∀H',Same H H'→SqL K H' a xs):∀H',Same H H'→(Itl K a).stop xs.length H':=fun H' s=>⟨xs,hS H' s,Nat.le_refl _⟩
end
section
variable {X:Cx} {K:PySem.W.Frag} {scope:Scope} {N:List Str} {tl te:TE} {σ:L2.St} {H:Hp} {Q:VK}
theorem aA6 (Pr:List V→Prop) (Rel:Nat→Hp→V→Prop) (st:∀{i H1 H2 y},Same H1 H2→Rel i H1 y→Rel i H2 y) (su:∀{i H1 D ys zs y},H1 D=some (.lst ys)→Rel i H1 y→Rel i (upd H1 D (.lst zs)) y)
  (σ0:L2.St) (cap:Cap X scope N σ σ0) (h0:σ0[0]?=some none)
  (hw:∀R:VK,(∀D H1 us,Same H H1→H1 D=some (.lst us)→Pr us→R (.ref D) H1)→tl σ H R)
  (hsz:∀us,Pr us→us.length≤sizeLine)
  (he:∀us,Pr us→∀(i:Nat) (x:V),us[i]?=some x→∀H' R l,Same H H'→(∀y H2,Same H' H2→Rel i H2 y→R y H2)→te ((σ0.set 0 l).set 0 (some x)) H' R)
  (q:∀us,Pr us→∀D H' ys,Same H H'→H' D=some (.lst ys)→ys.length=us.length→(∀(i:Nat) (y:V),ys[i]?=some y→Rel i H' y)→Q (.ref D) H') :
  gR X scope N (sG K tl) (bZ 0) nA te σ H Q:=
 ⟨σ0,cap,hw _ fun D H1 us s1 g1 p=>⟨D,rfl,⟨us,SqL.of g1⟩,aJe us Rel st su σ0 (hsz us p) (Itl K D) (aV5 fun H' sm=>SqL.of (sm _ _ g1)) (aO7 fun H' sm=>SqL.of (sm _ _ g1))
  (fun i x ex H' R l sm r=>he us p i x ex H' R l (s1.trans sm) r) h0 fun D2 H' ys sm=>q us p D2 H' ys (s1.trans sm)⟩⟩
end
theorem SqT.wH {K:PySem.W.Frag} {H:Hp} {a D:Addr} {xs ys zs:List V} (hD:H D=some (.lst ys)) (h:SqT K H a xs):SqT K (upd H D (.lst zs)) a xs:=by
 rcases h with (h|⟨o,h⟩)|h
 ·exact .inl (.inl (by rw [aU (aAw h hD (by intro z;cases z))];exact h))
 ·exact .inl (.inr ⟨o,by rw [aU (aAw h hD (by intro z;cases z))];exact h⟩)
 ·exact .inr h
end L2
namespace PySem
theorem aFs:∀(ss σ:List Str),(ss.foldl vJ σ).length=σ.length+ss.length↔ss.Nodup∧∀k∈ss,k∉σ
 |[],σ=>by simp
 |v::r,σ=>by
  rw [List.foldl_cons,List.length_cons,List.nodup_cons]
  by_cases h:v∈σ
  ·have e:vJ σ v=σ:=by unfold vJ;rw [if_pos h]
   rw [e]
   have l:=vL r σ
   constructor
   ·intro z;omega
   ·intro z;exact absurd h (z.2 v (by simp))
  ·have e:vJ σ v=σ++[v]:=by unfold vJ;rw [if_neg h]
   rw [e]
   have ih:=aFs r (σ++[v])
   rw [List.length_append,List.length_singleton] at ih
   rw [show σ.length+(r.length+1)=σ.length+1+r.length by omega,ih]
   constructor
   ·rintro ⟨a,b⟩
    refine ⟨⟨fun z=>(b v z) (by simp),a⟩,fun k hk=>?_⟩
    rcases List.mem_cons.mp hk with rfl|hk
    ·exact h
    ·exact fun z=>b k hk (by simp [z])
   ·rintro ⟨⟨a,b⟩,c⟩
    refine ⟨b,fun k hk z=>?_⟩
    rcases List.mem_append.mp z with z|z
    ·exact c k (by simp [hk]) z
    ·have:k=v:=by simpa using z
     subst this
     exact a hk
theorem aSr (ss:List Str):(lJ ss).length=ss.length↔ss.Nodup:=by
 have h:=aFs ss []
 simp only [List.length_nil,Nat.zero_add,List.not_mem_nil,not_false_eq_true,implies_true,and_true] at h
 exact h
end PySem
namespace My
open PySem PySem.Spec PyProof.Rows L2
def top (i:Nat):Stmt:=PySem.Challenge.pw_shardask_k10_chosen_and_kept.main.body.getD i (.Pass ⟨0,0,0,0⟩)
abbrev qX:Stmt:=top 13
abbrev uY:Stmt:=top 14
abbrev oR:Stmt:=top 15
abbrev iI:Stmt:=top 16
abbrev mF:Stmt:=top 17
abbrev rB:Stmt:=top 18
abbrev uZ:Stmt:=top 19
abbrev rK:Stmt:=top 20
abbrev uP:Stmt:=top 21
abbrev rG:Stmt:=top 33
abbrev uQ:Stmt:=top 34
abbrev vB:Stmt:=top 35
abbrev xG:Stmt:=top 36
abbrev yL:Stmt:=top 37
abbrev uN:Stmt:=top 38
abbrev pA:Stmt:=top 39
abbrev oV:Stmt:=top 40
abbrev gG:Stmt:=top 41
abbrev oN:Stmt:=top 42
abbrev rD:Stmt:=top 43
abbrev rA:Stmt:=top 44
abbrev gA:Stmt:=top 45
abbrev rJ:Stmt:=top 47
abbrev jO:Stmt:=top 48
abbrev qU:Stmt:=top 49
abbrev vP:Stmt:=top 50
abbrev uT:Stmt:=top 51
abbrev fX:Stmt:=top 52
abbrev lC:Stmt:=top 53
abbrev lX:Stmt:=top 54
abbrev mK:Stmt:=top 55
abbrev gQ:Stmt:=top 56
abbrev kJ:Stmt:=top 57
abbrev mR:Stmt:=top 58
abbrev fK:Stmt:=top 59
abbrev rC:Stmt:=top 60
abbrev jA:Stmt:=top 61
abbrev lY:Stmt:=top 62
abbrev pL:Stmt:=top 63
abbrev iK:Stmt:=top 64
abbrev vC:Stmt:=top 65
abbrev rE:Stmt:=top 67
abbrev kE:Stmt:=top 68
abbrev uE:Stmt:=top 69
abbrev aA3:Stmt:=top 70
abbrev rM:Stmt:=top 71
abbrev aC7:Stmt:=top 72
abbrev jG:Stmt:=top 73
abbrev kW:Stmt:=top 74
abbrev pM:Stmt:=top 75
abbrev aG9:Stmt:=top 76
abbrev mD:Stmt:=top 77
abbrev oU:Stmt:=top 78
abbrev vQ:Stmt:=top 79
abbrev nJ:Stmt:=top 80
abbrev oJ:Stmt:=top 81
abbrev eV:Stmt:=top 82
abbrev fU:Stmt:=top 83
abbrev uW:Stmt:=top 84
abbrev aDi:Stmt:=top 85
abbrev oE:Stmt:=top 87
abbrev nC:Stmt:=top 88
abbrev oK:Stmt:=top 89
abbrev nM:Stmt:=top 90
abbrev jF:Stmt:=top 91
abbrev nH:Stmt:=top 92
abbrev mH:Stmt:=top 93
abbrev oY:Stmt:=top 94
abbrev mV:Stmt:=top 95
abbrev jD:Stmt:=top 96
abbrev jZ:Stmt:=top 97
abbrev vA:Stmt:=top 98
abbrev mO:Stmt:=top 99
abbrev oH:Stmt:=top 100
abbrev lZ:Stmt:=top 101
abbrev rR:Stmt:=top 102
structure Txt (w:World) (K:PySem.W.Frag) (mg:Str→Option Value):Prop where
 aWw:mg "abs"=none
 aFe:mg "all"=none
 aTt:mg "any"=none
 aP6:mg "bool"=none
 aV4:mg "dict"=none
 aO6:mg "divmod"=none
 aEx:mg "enumerate"=none
 aOu:mg "int"=none
 bN:mg "isinstance"=none
 dU:mg "len"=none
 aDg:mg "list"=none
 aX8:mg "max"=none
 aX7:mg "min"=none
 jC:mg "range"=none
 aJh:mg "reversed"=none
 aV8:mg "set"=none
 lM:mg "sorted"=none
 aPy:mg "str"=none
 aX9:mg "sum"=none
 cL:mg "tuple"=none
 aP5:mg "zip"=none
 iC:∃a,mg "QUESTION_WORDS"=some (.ref a)∧∀H,SqT K H a [.str "and",.str "by",.str "count",.str "down",.str "first",.str "group",.str "join",.str "keep",.str "least",.str "most",.str "named",.str "on",.str "sum",.str "table",.str "up",.str "where",.str "with"]
 aMa:∃u,mg "LETTERS"=some u∧RelV (.str "abcdefghijklmnopqrstuvwxyz") u
 yO:∃u,mg "MOST_LETTERS"=some u∧RelV (.int 8) u
 xX:∃u,mg "MOST_COLUMNS"=some u∧RelV (.int 8) u
 aCa:∃a,mg "SIGNS"=some (.ref a)∧∀H,SqT K H a [.str "=",.str "<",.str ">",.str "!"]
 oX:∃a,mg "SUM_WORDS"=some (.ref a)∧∀H,SqT K H a [.str "count",.str "sum",.str "least",.str "most"]
 aJ0:∃a,mg "WAYS"=some (.ref a)∧∀H,SqT K H a [.str "up",.str "down"]
 aCh:∃u,mg "MOST_TESTS"=some u∧RelV (.int 3) u
 rU:∃u,mg "MOST_NAMES"=some u∧RelV (.int 8) u
 aB3:∃u,mg "MOST_PAIRS"=some u∧RelV (.int 3) u
 aF8:∃u,mg "MOST_SUMS"=some u∧RelV (.int 4) u
 aHh:∃u,mg "MOST_KEYS"=some u∧RelV (.int 3) u
 aG2:∃u,mg "MOST_ROWS"=some u∧RelV (.int 60) u
 aF4:∃u,mg "MOST_SIZE"=some u∧RelV (.int 20) u
 wO:∃d t0 t1 t2 t3 t4 t5 t6:Addr,mg "FORMS"=some (.ref d)∧aSx w K d [("table",t0),("where",t1),("keep",t2),("named",t3),("join",t4),("group",t5),("first",t6)]∧(∃f0:Addr,(∀H,SqT K H t0 [.ref f0])∧mg "is_name"=some (.ref f0))∧(∃f0 f1:Addr,(∀H,SqT K H t1 [.ref f0,.ref f1])∧mg "may_be_question"=some (.ref f0)∧mg "are_tests"=some (.ref f1))∧(∃f0 f1:Addr,(∀H,SqT K H t2 [.ref f0,.ref f1])∧mg "may_be_question"=some (.ref f0)∧mg "are_names"=some (.ref f1))∧(∃f0 f1:Addr,(∀H,SqT K H t3 [.ref f0,.ref f1])∧mg "may_be_question"=some (.ref f0)∧mg "are_names"=some (.ref f1))∧(∃f0 f1 f2:Addr,(∀H,SqT K H t4 [.ref f0,.ref f1,.ref f2])∧mg "may_be_question"=some (.ref f0)∧mg "may_be_question"=some (.ref f1)∧mg "are_pairs"=some (.ref f2))∧(∃f0 f1 f2:Addr,(∀H,SqT K H t5 [.ref f0,.ref f1,.ref f2])∧mg "may_be_question"=some (.ref f0)∧mg "are_group_names"=some (.ref f1)∧mg "are_sums"=some (.ref f2))∧(∃f0 f1 f2:Addr,(∀H,SqT K H t6 [.ref f0,.ref f1,.ref f2])∧mg "may_be_question"=some (.ref f0)∧mg "are_keys"=some (.ref f1)∧mg "is_many"=some (.ref f2))
 jJ:∃f o,(∃u,mg "is_name"=some u∧RelV (.ref f) u)∧K.lookup f=some o∧o.cls=.type "function"
 aA5:∃f o,(∃u,mg "is_test"=some u∧RelV (.ref f) u)∧K.lookup f=some o∧o.cls=.type "function"
 aBh:∃f o,(∃u,mg "is_pair"=some u∧RelV (.ref f) u)∧K.lookup f=some o∧o.cls=.type "function"
 aEs:∃f o,(∃u,mg "is_sum"=some u∧RelV (.ref f) u)∧K.lookup f=some o∧o.cls=.type "function"
 aEt:∃f o,(∃u,mg "is_key"=some u∧RelV (.ref f) u)∧K.lookup f=some o∧o.cls=.type "function"
 aIi:Dn K mg "is_whole" qX ["thing"]
 aM2:Dn K mg "is_word" uY ["thing"]
 aGu:Dn K mg "is_one_of" oR ["thing","texts"]
 zL:Dn K mg "is_tuple_of" iI ["thing","least","most","is_part"]
 aDu:Dn K mg "are_unlike" mF ["names"]
 aHz:Dn K mg "names_of" rB ["head"]
 aL1:Dn K mg "is_name" uZ ["thing"]
 aI0:Dn K mg "is_value" rK ["thing"]
 aMs:Dn K mg "kind_of" uP ["value"]
 aJc:Dn K mg "is_other" rG ["thing"]
 aL6:Dn K mg "is_test" uQ ["thing"]
 aNi:Dn K mg "is_pair" vB ["thing"]
 aOn:Dn K mg "is_sum" xG ["thing"]
 aQu:Dn K mg "is_key" yL ["thing"]
 aMh:Dn K mg "is_many" uN ["thing"]
 aEv:Dn K mg "are_tests" pA ["thing"]
 aG7:Dn K mg "are_names" oV ["thing"]
 uJ:Dn K mg "are_group_names" gG ["thing"]
 aE5:Dn K mg "are_pairs" oN ["thing"]
 aH4:Dn K mg "are_sums" rD ["thing"]
 aJ4:Dn K mg "are_keys" rA ["thing"]
 tZ:Dn K mg "may_be_question" gA ["thing"]
 aI1:Dn K mg "has_form" rJ ["thing"]
 yU:Dn K mg "questions_in" jO ["question"]
 aIp:Dn K mg "own_size" qU ["question"]
 aMl:Dn K mg "checked" vP ["thing"]
 aLs:Dn K mg "kind_in" uT ["head","name"]
 tK:Dn K mg "need_like_kinds" fX ["kinds","others"]
 zU:Dn K mg "need_unlike" lC ["names"]
 aCl:Dn K mg "table_head" lX ["heads","name"]
 aDj:Dn K mg "other_kind" mK ["head","other"]
 aEn:Dn K mg "where_head" gQ ["head","tests"]
 aFn:Dn K mg "keep_head" kJ ["head","names"]
 aC2:Dn K mg "named_head" mR ["head","names"]
 aGn:Dn K mg "join_head" fK ["head","other","pairs"]
 aH8:Dn K mg "sum_kind" rC ["head","part"]
 aC4:Dn K mg "group_head" jA ["head","names","sums"]
 aDk:Dn K mg "first_head" lY ["head","keys"]
 aG6:Dn K mg "head_here" pL ["heads","question","inner"]
 qK:Dn K mg "head_within" iK ["heads","question"]
 aLt:Dn K mg "head_of" vC ["heads","question"]
 aI9:Dn K mg "place_of" rE ["head","name"]
 aHk:Dn K mg "places_of" kE ["head","names"]
 aP7:Dn K mg "picked" uE ["row","places"]
 aV7:Dn K mg "rows_by" aA3 ["rows","places"]
 aHr:Dn K mg "compares" rM ["value","sign","other"]
 aS0:Dn K mg "holds" aC7 ["head","row","test"]
 aBq:Dn K mg "where_rows" jG ["head","rows","tests"]
 aHc:Dn K mg "keep_rows" kW ["head","rows","names"]
 aGh:Dn K mg "join_rows" pM ["head","rows","other_head","other_rows","pairs"]
 aWj:Dn K mg "summed" aG9 ["head","rows","part"]
 aDv:Dn K mg "group_rows" mD ["head","rows","names","sums"]
 aF6:Dn K mg "sorted_by" oU ["rows","place","way"]
 aLq:Dn K mg "ordered" vQ ["head","rows","keys"]
 aB4:Dn K mg "first_rows" nJ ["head","rows","keys","many"]
 aGz:Dn K mg "rows_here" oJ ["question","heads","rows"]
 qF:Dn K mg "rows_within" eV ["heads","tables","question"]
 tV:Dn K mg "in_answer_order" fU ["head","rows","question"]
 aMf:Dn K mg "rows_of" uW ["heads","tables","question"]
 aSs:Dn K mg "whole" aDi ["heads","tables","question"]
 aGr:Dn K mg "_law_seed" oE ["_law_script"]
 aDn:Dn K mg "_law_begin" nC ["_law_script"]
 aG0:Dn K mg "_law_next" oK ["_law_state","_law_many"]
 aCw:Dn K mg "_law_words" nM []
 aDq:Dn K mg "_law_names" jF ["_law_state","_law_many"]
 aCq:Dn K mg "_law_great" nH ["_law_state"]
 aDl:Dn K mg "_law_value" mH ["_law_state","_law_kind"]
 aF9:Dn K mg "_law_head" oY ["_law_state","_law_names_here"]
 aI7:Dn K mg "_law_row" mV ["_law_state","_law_head_here"]
 aCg:Dn K mg "_law_tests" jD ["_law_state","_law_head_here"]
 aEy:Dn K mg "_law_some" jZ ["_law_state","_law_head_here","_law_least"]
 aLj:Dn K mg "_law_at" vA ["_law_head_here","_law_name"]
 aCf:Dn K mg "_law_holds" mO ["_law_head_here","_law_row_here","_law_test"]
 aHi:Dn K mg "_law_same" oH ["_law_found","_law_due"]
 aBx:Dn K mg "_law_asked" lZ ["_law_heads","_law_tables","_law_question","_law_due"]
 aWd:Dn K mg "law" rR ["_law_script"]
abbrev abc:Str:="abcdefghijklmnopqrstuvwxyz"
abbrev words:List V:=[.str "and",.str "by",.str "count",.str "down",.str "first",.str "group",.str "join",.str "keep",.str "least",.str "most",.str "named",.str "on",.str "sum",.str "table",.str "up",.str "where",.str "with"]
def Th (K:PySem.W.Frag) (H:Hp) (v:V):Prop:=(∃x,v=.str x∧x.length≤1000)∨(∃i,v=.int i)∨(∃b,v=.bl b)∨∃k,Rk K H v k
theorem Th.same {K:PySem.W.Frag} {H H':Hp} {v:V} (e:Same H H') (h:Th K H v):Th K H' v:=by
 rcases h with h|h|h|⟨k,h⟩
 ·exact .inl h
 ·exact .inr (.inl h)
 ·exact .inr (.inr (.inl h))
 ·exact .inr (.inr (.inr ⟨k,h.same e⟩))
def aRq:V→String→Bool
 |.int _,T=>T == "int"
 |.str _,T=>T == "str"
 |.bl _,T=>T == "int" || T == "bool"
 |_,_=>false
def isS:V→Bool
 |.str _=>true
 |_=>false
def whole:V→Bool
 |.int _=>true
 |_=>false
theorem tE {K:PySem.W.Frag} {H:Hp} {v:V} {T:String} {Q:VK} (hv:Th K H v) (hT:T = "int"∨T = "bool"∨T = "str") (q:Q (.bl (aRq v T)) H):aW3 [v,.ty T] H Q∨aTf K [v,.ty T] H Q:=by
 rcases hv with ⟨x,rfl,_⟩|⟨i,rfl⟩|⟨b,rfl⟩|⟨k,h⟩
 ·refine .inl ⟨_,_,_,rfl,?_,q⟩
  rcases hT with rfl|rfl|rfl <;> simp [aHu,aRq]
 ·refine .inl ⟨_,_,_,rfl,?_,q⟩
  rcases hT with rfl|rfl|rfl <;> simp [aHu,aRq]
 ·refine .inl ⟨_,_,_,rfl,?_,q⟩
  rcases hT with rfl|rfl|rfl <;> simp [aHu,aRq]
 ·refine .inr ⟨_,_,_,rfl,h,hT,?_⟩
  cases h <;> exact q
def inA (y:Str):Bool:=!(Builtin.Str.occurrences abc y 0 abc.length 1).isEmpty
def allIn (x:Str):Bool:=((List.range x.cps.size).map fun i=>inA (sgn x i)).all id
def pI (l:Nat):V→Bool
 |.str x=>decide (l≤x.length) && (decide (x.length≤8) && allIn x)
 |_=>false
def nameB (v:V):Bool:=pI 1 v && !inV v words
def aGt (v:V):Bool:=whole v || pI 0 v
def uA (K:PySem.W.Frag):Sp:=fun vs H Q _=>∃v,vs=[v]∧Th K H v∧Q (.bl (whole v)) H
def yC (K:PySem.W.Frag) (f:V→Bool):Sp:=fun vs H Q _=>∃v,vs=[v]∧Th K H v∧∀H',Same H H'→Q (.bl (f v)) H'
def aKk (K:PySem.W.Frag):Sp:=fun vs H Q _=>∃v,vs=[v]∧Th K H v∧Q (.str (if whole v then "number" else "word")) H
def aC8 (K:PySem.W.Frag):Sp:=fun vs H Q _=>∃(a:Addr) (ns:List Int),vs=[.ref a]∧SqL K H a (ns.map V.int)∧ns.length≤63∧∀H',Q (.bl true) H'
theorem aNf {K:PySem.W.Frag} {H:Hp} {a:Addr} {ns:List Int} (h:ns.length≤63) (hS:SqL K H a (ns.map V.int)):aC8 K [.ref a] H (fun v _=>v=.bl true) fun _ _ _=>False:=
 ⟨a,ns,rfl,hS,h,fun _=>rfl⟩
theorem aE2:aK ["thing"] ["thing"] (aF qX):=by trivial
theorem aHv:aK ["thing"] ["thing"] (aF uY):=by trivial
theorem aCy:aK ["thing","texts"] ["thing","texts"] (aF oR):=by trivial
theorem xV:aK ["thing","least","most","is_part"] ["thing","least","most","is_part"] (aF iI):=by trivial
theorem aAc:aK ["names"] ["names"] (aF mF):=by trivial
theorem aE8:aK ["head"] ["head"] (aF rB):=by trivial
theorem aI2:aK ["thing"] ["thing"] (aF uZ):=by trivial
theorem aFv:aK ["thing"] ["thing"] (aF rK):=by trivial
theorem aJr:aK ["value"] ["value"] (aF uP):=by trivial
theorem aFi:aK ["thing"] ["thing"] (aF rG):=by trivial
theorem aIh:aK ["thing"] ["thing"] (aF uQ):=by trivial
theorem aH9:aK ["thing"] ["thing"] (aF vB):=by trivial
theorem aMo:aK ["thing"] ["thing"] (aF xG):=by trivial
theorem aMz:aK ["thing"] ["thing"] (aF yL):=by trivial
theorem aJ3:aK ["thing"] ["thing"] (aF uN):=by trivial
theorem aBp:aK ["thing"] ["thing"] (aF pA):=by trivial
theorem aEa:aK ["thing"] ["thing"] (aF oV):=by trivial
theorem qT:aK ["thing"] ["thing"] (aF gG):=by trivial
theorem aDc:aK ["thing"] ["thing"] (aF oN):=by trivial
theorem aFg:aK ["thing"] ["thing"] (aF rD):=by trivial
theorem aFj:aK ["thing"] ["thing"] (aF rA):=by trivial
theorem qR:aK ["thing"] ["thing"] (aF gA):=by trivial
theorem vU:aK ["thing","form"] ["thing"] (aF rJ):=by trivial
theorem wB:aK ["question"] ["question"] (aF jO):=by trivial
theorem aHm:aK ["question"] ["question"] (aF qU):=by trivial
theorem jN:aK ["thing","size","waiting","part"] ["thing"] (aF vP):=by trivial
theorem xO:aK ["head","name","column"] ["head","name"] (aF uT):=by trivial
theorem qO:aK ["kinds","others"] ["kinds","others"] (aF fX):=by trivial
theorem yK:aK ["names"] ["names"] (aF lC):=by trivial
theorem zG:aK ["heads","name"] ["heads","name"] (aF lX):=by trivial
theorem zY:aK ["head","other"] ["head","other"] (aF mK):=by trivial
theorem aAj:aK ["head","tests"] ["head","tests"] (aF gQ):=by trivial
theorem aCi:aK ["head","names"] ["head","names"] (aF kJ):=by trivial
theorem aAb:aK ["head","names"] ["head","names"] (aF mR):=by trivial
theorem nR:aK ["head","other","pairs","here","there"] ["head","other","pairs"] (aF fK):=by trivial
theorem aHe:aK ["head","part"] ["head","part"] (aF rC):=by trivial
theorem fC:aK ["head","names","sums","kept","made","part","column"] ["head","names","sums"] (aF jA):=by trivial
theorem qJ:aK ["head","keys","names"] ["head","keys"] (aF lY):=by trivial
theorem uD:aK ["heads","question","inner","sort"] ["heads","question","inner"] (aF pL):=by trivial
theorem fV:aK ["heads","question","inner","head"] ["heads","question"] (aF iK):=by trivial
theorem aJx:aK ["heads","question"] ["heads","question"] (aF vC):=by trivial
theorem aGx:aK ["head","name"] ["head","name"] (aF rE):=by trivial
theorem aEo:aK ["head","names"] ["head","names"] (aF kE):=by trivial
theorem aNc:aK ["row","places"] ["row","places"] (aF uE):=by trivial
theorem aFw:aK ["value","sign","other"] ["value","sign","other"] (aF rM):=by trivial
theorem xM:aK ["head","row","test","other","against"] ["head","row","test"] (aF aC7):=by trivial
theorem zA:aK ["head","rows","tests"] ["head","rows","tests"] (aF jG):=by trivial
theorem sV:aK ["head","rows","names","places"] ["head","rows","names"] (aF kW):=by trivial
theorem aEh:aK ["head","rows","other_head","other_rows","pairs","here","there","left_over","lots","joined","row","other"] ["head","rows","other_head","other_rows","pairs"] (aF pM):=by trivial
theorem aAg:aK ["head","rows","names","sums","lots"] ["head","rows","names","sums"] (aF mD):=by trivial
theorem aD1:aK ["rows","place","way"] ["rows","place","way"] (aF oU):=by trivial
theorem mU:aK ["head","rows","keys","told","key"] ["head","rows","keys"] (aF vQ):=by trivial
theorem zR:aK ["head","rows","keys","many"] ["head","rows","keys","many"] (aF nJ):=by trivial
theorem sI:aK ["question","heads","rows","sort"] ["question","heads","rows"] (aF oJ):=by trivial
theorem gH:aK ["heads","tables","question","inner","rows"] ["heads","tables","question"] (aF eV):=by trivial
theorem qP:aK ["head","rows","question"] ["head","rows","question"] (aF fU):=by trivial
theorem aHs:aK ["heads","tables","question"] ["heads","tables","question"] (aF uW):=by trivial
theorem aGw:aK ["heads","tables","question","head"] ["heads","tables","question"] (aF aDi):=by trivial
theorem gK:aK ["_law_script","_law_seed_here","_law_k","_law_cell"] ["_law_script"] (aF oE):=by trivial
theorem lD:aK ["_law_script","_law_digits"] ["_law_script"] (aF nC):=by trivial
theorem uI:aK ["_law_state","_law_many","_law_digit"] ["_law_state","_law_many"] (aF oK):=by trivial
theorem qI:aK ["_law_words_here"] [] (aF nM):=by trivial
theorem cA:aK ["_law_state","_law_many","_law_small","_law_odd","_law_base","_law_k","_law_at_here","_law_names_here"] ["_law_state","_law_many"] (aF jF):=by trivial
theorem iM:aK ["_law_state","_law_number","_law_k"] ["_law_state"] (aF nH):=by trivial
theorem eX:aK ["_law_state","_law_kind","_law_way","_law_word","_law_k"] ["_law_state","_law_kind"] (aF mH):=by trivial
theorem gM:aK ["_law_state","_law_names_here","_law_start","_law_head_here","_law_k","_law_kind"] ["_law_state","_law_names_here"] (aF oY):=by trivial
theorem aE0:aK ["_law_state","_law_head_here"] ["_law_state","_law_head_here"] (aF mV):=by trivial
theorem cO:aK ["_law_state","_law_head_here","_law_tests_here","_law_k","_law_name","_law_kind","_law_other","_law_alike"] ["_law_state","_law_head_here"] (aF jD):=by trivial
theorem mG:aK ["_law_state","_law_head_here","_law_least","_law_some_here"] ["_law_state","_law_head_here","_law_least"] (aF jZ):=by trivial
theorem aIe:aK ["_law_head_here","_law_name"] ["_law_head_here","_law_name"] (aF vA):=by trivial
theorem cZ:aK ["_law_head_here","_law_row_here","_law_test","_law_name","_law_sign","_law_other","_law_one","_law_two"] ["_law_head_here","_law_row_here","_law_test"] (aF mO):=by trivial
theorem uK:aK ["_law_found","_law_due","_law_k"] ["_law_found","_law_due"] (aF oH):=by trivial
theorem iJ:aK ["_law_heads","_law_tables","_law_question","_law_due","_law_handed","_law_name","_law_found"] ["_law_heads","_law_tables","_law_question","_law_due"] (aF lZ):=by trivial
theorem fZ:aK ["_law_script","_law_state","_law_names_here","_law_head_here","_law_rows","_law_heads","_law_tables","_law_tests_here","_law_due","_law_some_here","_law_spots","_law_turn","_law_fresh"] ["_law_script"] (aF rR):=by trivial
section
variable {P:Program} {w:World} {K:PySem.W.Frag} {mg:Str→Option Value} {base:Heap}
theorem aHl (T:Txt w K mg):Ok P w K mg base 1 "is_whole" ["thing"] (uA K):=by
 refine Ok.ofV T.aIi aE2 (fun vs H Q E h=>?_) (fun f cdv A outer s H vs Q E hr h=>?_)
 ·obtain ⟨v,rfl,_⟩:=h;rfl
 obtain ⟨v,rfl,hv,q⟩:=h
 refine ⟨_,(aG (aJ (mQ (aN (oW.or pP) (by rfl) T.bN bJ (aB (vv 0) (aB (dN (v:=.ty "int") (by rfl) T.aOu aI6 rfl) aA))) (mY (aQb (aN (oW.or pP) (by rfl) T.bN bJ (aB (vv 0) (aB (dN (v:=.ty "bool") (by rfl) T.aP6 aJ8 rfl) aA)))))))),?_⟩
 refine ⟨_,rfl,tE hv (.inl rfl) ⟨_,rfl,?_⟩⟩
 rcases id hv with ⟨x,rfl,_⟩|⟨i,rfl⟩|⟨b,rfl⟩|⟨k,h⟩
 ·exact bF q
 ·exact cV ⟨_,rfl,tE hv (.inr (.inl rfl)) ⟨_,rfl,q⟩⟩
 ·exact cV ⟨_,rfl,tE hv (.inr (.inl rfl)) ⟨_,rfl,q⟩⟩
 ·cases h <;> exact bF q
theorem aPd (x:Str):(((List.range x.cps.size).map fun i=>V.str (sgn x i)).map fun v=>match v with|.str y=>V.bl (inA y)|_=>.bl false)=(((List.range x.cps.size).map fun i=>inA (sgn x i)).map V.bl):=by
 rw [List.map_map,List.map_map]
 rfl
theorem aIc (T:Txt w K mg):Ok P w K mg base 1 "is_word" ["thing"] (yC K (pI 0)):=by
 refine Ok.ofV T.aM2 aHv (fun vs H Q E h=>?_) (fun f cdv A outer s H vs Q E hr h=>?_)
 ·obtain ⟨v,rfl,_⟩:=h;rfl
 obtain ⟨v,rfl,hv,q⟩:=h
 refine ⟨_,(aC (bL (VW.pt (nU (dI (cM (aN (oW.or pP) (by rfl) T.bN bJ (aB (vv 0) (aB (dN (v:=.ty "str") (by rfl) T.aPy aIo rfl) aA))))) (jV (aW aKo (aN uG (by rfl) T.dU cI (aB (vv 0) aA)) (dZ (by rfl) T.yO) (aY _))))) (aG (aJ gW)) aX) (aG (aJ (aN (tY rfl) (by rfl) T.aFe yE (aB (bY (N:=["sign"]) (by trivial) (eZ (by decide +kernel)) rfl (aT9 (vv 0)) (fun cl s' H' fp=>⟨(aO (i:=0) (show (["sign"]:List Str).Nodup from by decide +kernel) rfl (Or.inl rfl)),bW,(dC aMp (vv 0) (dZ (by rfl) T.aMa) (by with_unfolding_all rfl))⟩)) aA))))),?_⟩
 refine ⟨_,rfl,tE hv (.inr (.inr rfl)) ⟨_,rfl,?_⟩⟩
 have no:isS v=false→Q (.bl false) H:=fun e=>by
  have z:pI 0 v=false:=by cases v <;> first|rfl|cases e
  rw [←z];exact q H (Same.refl H)
 rcases id hv with ⟨x,rfl,hx⟩|⟨i,rfl⟩|⟨b,rfl⟩|⟨k,h⟩
 ·refine bF ⟨_,rfl,_,rfl,small hx,_,_,rfl,rfl,_,rfl,?_⟩
  refine sO (fun c=>?_) (fun c=>?_)
  ·have c':(8:Int)<x.length:=of_decide_eq_true c
   have z:pI 0 (.str x)=false:=by
    show (decide (0≤x.length) && (decide (x.length≤8) && allIn x))=false
    rw [decide_eq_false (p:=x.length≤8) (by omega)]
    simp
   rw [←z];exact q H (Same.refl H)
  ·have c':¬ (8:Int)<x.length:=of_decide_eq_false (Bool.eq_false_iff.mpr c)
   dsimp only [wX,xU,tCB,dH]
   refine aLl ((List.range x.cps.size).map fun i=>V.str (sgn x i)) (fun v=>match v with|.str y=>V.bl (inA y)|_=>.bl false) [none] jL ?_
    (fun R r=>aUx (z:=x) (fun R' r'=>⟨_,rfl,r'⟩) R r) (fun v hv' H' R l sm r=>?_) rfl fun D hD=>?_
   ·rw [List.length_map,List.length_range];exact small hx
   ·obtain ⟨i,_,rfl⟩:=List.mem_map.mp hv'
    exact ⟨_,rfl,_,_,rfl,rfl,r⟩
   ·refine ⟨D,(List.range x.cps.size).map fun i=>inA (sgn x i),rfl,SqL.of (by rw [aH,aPd]),?_⟩
    have z:pI 0 (.str x)=allIn x:=by
     show (decide (0≤x.length) && (decide (x.length≤8) && allIn x))=allIn x
     rw [decide_eq_true (p:=x.length≤8) (by omega)]
     simp
    show Q (.bl (allIn x)) _
    rw [←z]
    exact q _ (bG hD _)
 ·exact cV (no rfl)
 ·exact cV (no rfl)
 ·cases h <;> exact cV (no rfl)
theorem wN {v:V} {l:Nat} (h:pI l v=true):∃x,v=.str x∧l≤x.length∧x.length≤8∧allIn x=true:=by
 cases v with
 |str x=>
  have h:(decide (l≤x.length) && (decide (x.length≤8) && allIn x))=true:=h
  rw [Bool.and_eq_true,Bool.and_eq_true] at h
  exact ⟨x,rfl,of_decide_eq_true h.1,of_decide_eq_true h.2.1,h.2.2⟩
 |_=>cases h
theorem aAx {x:Str}:x=("":Str)↔x.length=0:=by
 constructor
 ·rintro rfl;decide +kernel
 ·intro h
  obtain ⟨cps⟩:=x
  have h:cps.size=0:=h
  rw [Array.size_eq_zero_iff] at h
  subst h
  decide +kernel
theorem xH:words.all iY=true:=rfl
theorem aIr (T:Txt w K mg) (vH:Ok P w K mg base 1 "is_word" ["thing"] (yC K (pI 0))):Ok P w K mg base 2 "is_name" ["thing"] (yC K nameB):=by
 refine Ok.ofV T.aL1 aI2 (fun vs H Q E h=>?_) (fun f cdv A outer s H vs Q E hr h=>?_)
 ·obtain ⟨v,rfl,_⟩:=h;rfl
 obtain ⟨v,rfl,hv,q⟩:=h
 obtain ⟨qa,mq,hqa⟩:=T.iC
 have iC:∃u,mg "QUESTION_WORDS"=some u∧RelV (.ref qa) u:=⟨_,mq,rfl⟩
 refine ⟨_,(aG (aJ (mQ (aL (vH.mono (by decide)) hr (by rfl) (aB (vv 0) aA)) (mQ (dC qG (vv 0) aQ (aY _)) (mY (dC uB (vv 0) (dZ (by rfl) iC) (by with_unfolding_all rfl))))))),?_⟩
 refine ⟨_,rfl,_,rfl,hv,fun H1 s1=>⟨_,rfl,?_⟩⟩
 refine sO (fun c=>?_) (fun c=>?_)
 ·obtain ⟨x,rfl,_,h8,ha⟩:=wN c
  refine ⟨_,rfl,rfl,_,rfl,?_⟩
  by_cases e:x.length=0
  ·have ex:=aAx.mpr e
   subst ex
   refine bF ?_
   have z:nameB (.str "")=false:=by decide +kernel
   rw [←z];exact q H1 s1
  ·have ne:¬ (V.str x=V.str ""):=fun z=>e (aAx.mp (V.str.inj z))
   have e2:(!decide (V.str x=V.str ""))=true:=by rw [decide_eq_false ne];rfl
   rw [e2]
   refine cV ⟨_,rfl,qa,words,rfl,.inr (hqa _),rfl,xH,?_⟩
   have z:nameB (.str x)=!inV (.str x) words:=by
    show ((decide (1≤x.length) && (decide (x.length≤8) && allIn x)) && !inV (.str x) words)=!inV (.str x) words
    rw [decide_eq_true (p:=1≤x.length) (by omega),decide_eq_true h8,ha]
    rfl
   show Q (.bl (!inV (.str x) words)) H1
   rw [←z];exact q H1 s1
 ·have z:nameB v=false:=by
   show (pI 1 v && !inV v words)=false
   cases hv1:pI 1 v with
   |false=>rfl
   |true=>
    obtain ⟨x,rfl,h1,h8,ha⟩:=wN hv1
    refine absurd ?_ c
    show (decide (0≤x.length) && (decide (x.length≤8) && allIn x))=true
    rw [decide_eq_true h8,ha,decide_eq_true (Nat.zero_le _)]
    rfl
  rw [←z];exact q H1 s1
theorem aEz (T:Txt w K mg) (jR:Ok P w K mg base 1 "is_whole" ["thing"] (uA K)) (vH:Ok P w K mg base 1 "is_word" ["thing"] (yC K (pI 0))) :
  Ok P w K mg base 2 "is_value" ["thing"] (yC K aGt):=by
 refine Ok.ofV T.aI0 aFv (fun vs H Q E h=>?_) (fun f cdv A outer s H vs Q E hr h=>?_)
 ·obtain ⟨v,rfl,_⟩:=h;rfl
 obtain ⟨v,rfl,hv,q⟩:=h
 refine ⟨_,(aG (aJ (aTz (aL (jR.mono (by decide)) hr (by rfl) (aB (vv 0) aA)) (mY (aL (vH.mono (by decide)) hr (by rfl) (aB (vv 0) aA)))))),?_⟩
 refine ⟨_,rfl,_,rfl,hv,_,rfl,?_⟩
 cases hw:whole v with
 |true=>
  refine cV ?_
  have z:aGt v=true:=by show (whole v || pI 0 v)=true;rw [hw];rfl
  rw [←z];exact q H (Same.refl H)
 |false=>
  refine bF ⟨_,rfl,_,rfl,hv,fun H1 s1=>?_⟩
  have z:aGt v=pI 0 v:=by show (whole v || pI 0 v)=pI 0 v;rw [hw];rfl
  rw [←z];exact q H1 s1
theorem aIx (T:Txt w K mg) (jR:Ok P w K mg base 1 "is_whole" ["thing"] (uA K)):Ok P w K mg base 2 "kind_of" ["value"] (aKk K):=by
 refine Ok.ofV T.aMs aJr (fun vs H Q E h=>?_) (fun f cdv A outer s H vs Q E hr h=>?_)
 ·obtain ⟨v,rfl,_⟩:=h;rfl
 obtain ⟨v,rfl,hv,q⟩:=h
 refine ⟨_,(aG (aJ (fQ (cM (aL (jR.mono (by decide)) hr (by rfl) (aB (vv 0) aA))) aQ aQ))),?_⟩
 refine ⟨_,rfl,_,rfl,hv,_,rfl,?_⟩
 cases hw:whole v with
 |true=>rw [hw] at q;exact cV q
 |false=>rw [hw] at q;exact bF q
theorem at0 (x:V) (r:List V):atI (x::r) 0=some x:=by
 unfold atI ixN
 simp
theorem at1 (x y:V) (r:List V):atI (x::y::r) 1=some y:=by
 unfold atI ixN
 simp only [List.length_cons]
 rw [if_pos (by omega),if_pos (by omega)]
 rfl
structure Tells (R:Hp→V→Bool→Prop):Prop where
 same:∀{H H' v b},Same H H'→R H v b→R H' v b
def fJ (R:Hp→V→Bool→Prop):Sp:=fun vs H Q _=>∃v b,vs=[v]∧R H v b∧∀H',Same H H'→Q (.bl b) H'
inductive aBk (K:PySem.W.Frag) (R:Hp→V→Bool→Prop) (lo hi:Nat) (H:Hp):V→Bool→Prop
 |no {v}:Tk K H v false→aBk K R lo hi H v false
 |len {a xs}:SqT K H a xs→¬ (lo≤xs.length∧xs.length≤hi)→aBk K R lo hi H (.ref a) false
 |yes {a xs} (f:V→Bool):SqT K H a xs→lo≤xs.length→xs.length≤hi→(∀x∈xs,R H x (f x))→aBk K R lo hi H (.ref a) (xs.all f)
def vD (K:PySem.W.Frag):Sp:=fun vs H Q _=>∃v a xs,vs=[v,.ref a]∧Th K H v∧SqT K H a xs∧xs.all iY=true∧Q (.bl (isS v && inV v xs)) H
def iT (P:Program) (w:World) (K:PySem.W.Frag) (mg:Str→Option Value) (base:Heap) (k:Nat):Sp:=fun vs H Q _=>∃v lo hi f ps R b,vs=[v,.int (lo:Nat),.int (hi:Nat),.ref f]∧hi≤1000∧Held P w K mg base k f ps (fJ R)∧Tells R∧aBk K R lo hi H v b∧∀H',Same H H'→Q (.bl b) H'
def aAv (K:PySem.W.Frag):Sp:=fun vs H Q _=>∃a ss,vs=[.ref a]∧SqL K H a (ss.map V.str)∧ss.length≤1000∧∀H',Same H H'→Q (.bl (decide ((lJ ss).length=ss.length))) H'
theorem aEp (T:Txt w K mg):Ok P w K mg base 1 "is_one_of" ["thing","texts"] (vD K):=by
 refine Ok.ofV T.aGu aCy (fun vs H Q E h=>?_) (fun f cdv A outer s H vs Q E hr h=>?_)
 ·obtain ⟨v,a,xs,rfl,_⟩:=h;rfl
 obtain ⟨v,a,xs,rfl,hv,ha,hf,q⟩:=h
 refine ⟨_,(aG (aJ (mQ (aN (oW.or pP) (by rfl) T.bN bJ (aB (vv 0) (aB (dN (v:=.ty "str") (by rfl) T.aPy aIo rfl) aA))) (mY (dC aA4 (vv 0) (vv 1) (by with_unfolding_all rfl)))))),?_⟩
 refine ⟨_,rfl,tE hv (.inr (.inr rfl)) ⟨_,rfl,?_⟩⟩
 rcases id hv with ⟨x,rfl,_⟩|⟨i,rfl⟩|⟨b,rfl⟩|⟨k,h⟩
 ·exact cV ⟨_,rfl,_,rfl,a,xs,rfl,.inr ha,rfl,hf,q⟩
 ·exact bF q
 ·exact bF q
 ·cases h <;> exact bF q
theorem cQ {k:Nat} (T:Txt w K mg):Ok P w K mg base (k+1) "is_tuple_of" ["thing","least","most","is_part"] (iT P w K mg base k):=by
 refine Ok.ofV T.zL xV (fun vs H Q E h=>?_) (fun f cdv A outer s H vs Q E hr h=>?_)
 ·obtain ⟨v,lo,hi,f,ps,R,b,rfl,_⟩:=h;rfl
 obtain ⟨v,lo,hi,g,ps,R,b,rfl,h1000,hg,hR,hv,q⟩:=h
 refine ⟨_,(aC (bL (VW.pt (nU (dI (cM (aN iD (by rfl) T.bN bJ (aB (vv 0) (aB (dN (v:=.ty "tuple") (by rfl) T.cL cC rfl) aA))))) (jV (dI (aHd aAt aAt (vv 1) (aN bC (by rfl) T.dU cI (aB (vv 0) aA)) (vv 2)))))) (aG (aJ gW)) aX) (aG (aJ (aN (tY rfl) (by rfl) T.aFe yE (aB (bY (N:=["part","is_part"]) (by trivial) (cF (aF iI) rfl (by decide +kernel)) rfl (eE (vv 0)) (fun cl s' H' fp=>⟨(aO (i:=0) (show (["part","is_part"]:List Str).Nodup from by decide +kernel) rfl (Or.inl rfl)),bW,(aF0 (P:=P) (w:=w) (K:=K) (mg:=mg) (base:=base) hr (vv 1) (aB (vv 0) aA))⟩)) aA))))),?_⟩
 cases hv with
 |no h=>
  exact ⟨_,rfl,_,_,rfl,h,_,rfl,cV (q H (Same.refl H))⟩
 |@len a xs ha hn=>
  refine ⟨_,rfl,_,_,rfl,.tup ha,_,rfl,bF ?_⟩
  refine ⟨_,rfl,_,rfl,_,_,rfl,.inr ha,_,_,rfl,rfl,_,rfl,?_⟩
  refine sO (fun c=>⟨_,rfl,_,_,rfl,rfl,_,rfl,?_⟩) (fun c=>⟨_,rfl,cV (q H (Same.refl H))⟩)
  have c':(lo:Int)≤xs.length:=of_decide_eq_true c
  have e:decide ((xs.length:Int)≤(hi:Int))=false:=decide_eq_false fun z=>hn ⟨by omega,by omega⟩
  rw [e]
  exact cV (q H (Same.refl H))
 |@yes a xs t ha h1 h2 hx=>
  refine ⟨_,rfl,_,_,rfl,.tup ha,_,rfl,bF ?_⟩
  refine ⟨_,rfl,_,rfl,_,_,rfl,.inr ha,_,_,rfl,rfl,_,rfl,?_⟩
  have e1:decide ((lo:Int)≤(xs.length:Int))=true:=decide_eq_true (by omega)
  have e2:decide ((xs.length:Int)≤(hi:Int))=true:=decide_eq_true (by omega)
  rw [e1]
  refine cV ⟨_,rfl,_,_,rfl,rfl,_,rfl,?_⟩
  rw [e2]
  refine bF ?_
  dsimp only [wX,xU,tCB,dH]
  refine aMq xs (fun x=>.bl (t x)) [none,some (.ref g)] ?_ (small (by omega)) (fun R r=>iV ha (fun R' r'=>⟨_,rfl,r'⟩) R r) (fun x hx' H' R l sm r=>?_) rfl fun D H' sm hD=>?_
  ·exact dF 3 (by decide +kernel) rfl rfl (by trivial)
  ·exact ⟨_,rfl,g,ps,_,rfl,hg,_,rfl,x,t x,rfl,hR.same sm (hx x hx'),r⟩
  ·refine ⟨D,xs.map t,rfl,SqL.of (by rw [hD,List.map_map];rfl),?_⟩
   rw [List.all_map]
   exact q H' sm
theorem zO (T:Txt w K mg):Ok P w K mg base 1 "are_unlike" ["names"] (aAv K):=by
 refine Ok.ofV T.aDu aAc (fun vs H Q E h=>?_) (fun f cdv A outer s H vs Q E hr h=>?_)
 ·obtain ⟨a,ss,rfl,_⟩:=h;rfl
 obtain ⟨a,ss,rfl,ha,hl,q⟩:=h
 refine ⟨_,(aG (aJ (dC cB (aN aIu (by rfl) T.dU cI (aB (bT (aIv rfl) (by rfl) T.aV8 aVm (aB (vv 0) aA)) aA)) (aN bC (by rfl) T.dU cI (aB (vv 0) aA)) (aY _)))),?_⟩
 refine ⟨_,rfl,a,ss,rfl,ha,hl,fun D hD=>⟨D,ss,rfl,aH,_,rfl,a,_,rfl,.inl ((bG hD _).seq ha),rfl,?_⟩⟩
 have e:decide (V.int ((lJ ss).length:Nat)=V.int (ss.map V.str).length)=decide ((lJ ss).length=ss.length):=by
  rw [List.length_map]
  by_cases z:(lJ ss).length=ss.length
  ·rw [z];simp
  ·rw [decide_eq_false z,decide_eq_false (by intro y;apply z;have:=V.int.inj y;omega)]
 rw [e]
 exact q _ (bG hD _)
theorem at2 (x y z:V) (r:List V):atI (x::y::z::r) 2=some z:=by
 unfold atI ixN
 simp only [List.length_cons]
 rw [if_pos (by omega),if_pos (by omega)]
 rfl
theorem lE {K:PySem.W.Frag} {H:Hp} {x:Str} (h:x.length≤8):Th K H (.str x):=.inl ⟨x,rfl,by omega⟩
def Nm (x:Str):Prop:=nameB (.str x)=true
theorem aP9 {x:Str} (h:nameB (.str x)=true):x.length≤8:=by
 have h:(pI 1 (.str x) && !inV (.str x) words)=true:=h
 rw [Bool.and_eq_true] at h
 obtain ⟨y,e,_,h8,_⟩:=wN h.1
 cases e
 exact h8
theorem Nm.th {K:PySem.W.Frag} {H:Hp} {x:Str} (h:Nm x):Th K H (.str x):=lE (aP9 h)
abbrev signs:List V:=[.str "=",.str "<",.str ">",.str "!"]
abbrev xY:List V:=[.str "count",.str "sum",.str "least",.str "most"]
abbrev aOf:List V:=[.str "up",.str "down"]
inductive Oth where
 |val (x:V)
 |col (d:Str)
structure Tst where
 c:Str
 sg:Str
 o:Oth
structure Sm where
 wd:Str
 c:Option Str
 new:Str
def IsO (K:PySem.W.Frag) (H:Hp) (v:V):Oth→Prop
 |.val x=>∃a,v=.ref a∧SqT K H a [.str "value",x]∧Th K H x∧aGt x=true
 |.col d=>∃a,v=.ref a∧SqT K H a [.str "column",.str d]∧Nm d
def aRd (x:Str):Prop:=x = "="∨x = "<"∨x = ">"∨x = "!"
def IsT (K:PySem.W.Frag) (H:Hp) (v:V) (t:Tst):Prop:=∃a w,v=.ref a∧SqT K H a [.str t.c,.str t.sg,w]∧Nm t.c∧aRd t.sg∧IsO K H w t.o
def xN (K:PySem.W.Frag) (H:Hp) (v:V) (p:Str × Str):Prop:=∃a,v=.ref a∧SqT K H a [.str p.1,.str p.2]∧Nm p.1∧Nm p.2
def yG (K:PySem.W.Frag) (H:Hp) (v:V) (p:Str × Str):Prop:=∃a,v=.ref a∧SqT K H a [.str p.1,.str p.2]∧Nm p.1∧(p.2 = "up"∨p.2 = "down")
def aXf (x:Str):Prop:=x = "sum"∨x = "least"∨x = "most"
def uV (K:PySem.W.Frag) (H:Hp) (v:V) (s:Sm):Prop:=∃a,v=.ref a∧Nm s.new∧((s.wd = "count"∧s.c=none∧SqT K H a [.str "count",.non,.str s.new])∨(∃c,s.c=some c∧Nm c∧aXf s.wd∧SqT K H a [.str s.wd,.str c,.str s.new]))
def IsN (v:V) (x:Str):Prop:=v=.str x∧Nm x
inductive bQ {α β:Type} (R:α→β→Prop):List α→List β→Prop
 |nil:bQ R [] []
 |cons {a b as bs}:R a b→bQ R as bs→bQ R (a::as) (b::bs)
theorem bQ.len {α β:Type} {R:α→β→Prop} {as:List α} {bs:List β} (h:bQ R as bs):as.length=bs.length:=by
 induction h with
 |nil=>rfl
 |cons _ _ ih=>rw [List.length_cons,List.length_cons,ih]
theorem bQ.imp {α β:Type} {R S:α→β→Prop} {as:List α} {bs:List β} (h:bQ R as bs) (k:∀a b,R a b→S a b):bQ S as bs:=by
 induction h with
 |nil=>exact .nil
 |cons r _ ih=>exact .cons (k _ _ r) ih
theorem bQ.mem {α β:Type} {R:α→β→Prop} {as:List α} {bs:List β} (h:bQ R as bs) {a:α} (m:a∈as):∃b,b∈bs∧R a b:=by
 induction h with
 |nil=>cases m
 |cons r _ ih=>
  rcases List.mem_cons.mp m with rfl|m
  ·exact ⟨_,List.mem_cons_self ..,r⟩
  ·obtain ⟨b,hb,q⟩:=ih m
   exact ⟨b,List.mem_cons_of_mem _ hb,q⟩
theorem bQ.app {α β:Type} {R:α→β→Prop} {as cs:List α} {bs ds:List β} (h:bQ R as bs) (k:bQ R cs ds):bQ R (as++cs) (bs++ds):=by
 induction h with
 |nil=>exact k
 |cons r _ ih=>exact .cons r ih
def tG {α:Type} (K:PySem.W.Frag) (H:Hp) (R:V→α→Prop) (v:V) (xs:List α):Prop:=∃a vs,v=.ref a∧SqT K H a vs∧bQ R vs xs
theorem tG.same {α:Type} {K:PySem.W.Frag} {H H':Hp} {R S:V→α→Prop} {v:V} {xs:List α} (e:Same H H') (k:∀a b,R a b→S a b) (h:tG K H R v xs):tG K H' S v xs:=by
 obtain ⟨a,vs,rfl,ha,hr⟩:=h
 exact ⟨a,vs,rfl,e.aP ha,hr.imp k⟩
theorem IsO.same {K:PySem.W.Frag} {H H':Hp} {v:V} {o:Oth} (e:Same H H') (h:IsO K H v o):IsO K H' v o:=by
 cases o with
 |val x=>obtain ⟨a,rfl,ha,hx,hv⟩:=h;exact ⟨a,rfl,e.aP ha,hx.same e,hv⟩
 |col d=>obtain ⟨a,rfl,ha,hd⟩:=h;exact ⟨a,rfl,e.aP ha,hd⟩
theorem IsT.same {K:PySem.W.Frag} {H H':Hp} {v:V} {t:Tst} (e:Same H H') (h:IsT K H v t):IsT K H' v t:=by
 obtain ⟨a,w,rfl,ha,h1,h2,h3⟩:=h
 exact ⟨a,w,rfl,e.aP ha,h1,h2,h3.same e⟩
theorem xN.same {K:PySem.W.Frag} {H H':Hp} {v:V} {t:Str × Str} (e:Same H H') (h:xN K H v t):xN K H' v t:=by
 obtain ⟨a,rfl,ha,h1⟩:=h
 exact ⟨a,rfl,e.aP ha,h1⟩
theorem yG.same {K:PySem.W.Frag} {H H':Hp} {v:V} {t:Str × Str} (e:Same H H') (h:yG K H v t):yG K H' v t:=by
 obtain ⟨a,rfl,ha,h1⟩:=h
 exact ⟨a,rfl,e.aP ha,h1⟩
theorem uV.same {K:PySem.W.Frag} {H H':Hp} {v:V} {t:Sm} (e:Same H H') (h:uV K H v t):uV K H' v t:=by
 obtain ⟨a,rfl,hn,h1⟩:=h
 refine ⟨a,rfl,hn,?_⟩
 rcases h1 with ⟨x,y,z⟩|⟨c,x,y,z,u⟩
 ·exact .inl ⟨x,y,e.aP z⟩
 ·exact .inr ⟨c,x,y,z,e.aP u⟩
def eU {α:Type} (K:PySem.W.Frag) (S:PySem.W.Frag→Hp→V→α→Prop):Hp→V→Bool→Prop:=fun H v b=>b=true∧∃t,S K H v t
theorem gZ {α:Type} {K:PySem.W.Frag} {S:PySem.W.Frag→Hp→V→α→Prop} (st:∀{H H' v t},Same H H'→S K H v t→S K H' v t):Tells (eU K S):=⟨fun e h=>⟨h.1,let ⟨t,q⟩:=h.2;⟨t,st e q⟩⟩⟩
def fM (_:PySem.W.Frag) (_:Hp) (v:V) (x:Str):Prop:=IsN v x
theorem tupof {α:Type} {S:PySem.W.Frag→Hp→V→α→Prop} {lo hi:Nat} {H:Hp} {v:V} {xs:List α} (h:tG K H (S K H) v xs) (h1:lo≤xs.length) (h2:xs.length≤hi):aBk K (eU K S) lo hi H v true:=by
 obtain ⟨a,vs,rfl,ha,hr⟩:=h
 have z:=aBk.yes (K:=K) (R:=eU K S) (lo:=lo) (hi:=hi) (fun _=>true) ha (by rw [hr.len];exact h1) (by rw [hr.len];exact h2) (fun x hx=>by
  obtain ⟨b,_,q⟩:=hr.mem hx
  exact ⟨rfl,b,q⟩)
 have e:vs.all (fun _=>true)=true:=by rw [List.all_eq_true];intro _ _;rfl
 rw [e] at z
 exact z
def jH {α:Type} (S:PySem.W.Frag→Hp→V→α→Prop) (lo hi:Nat):PySem.W.Frag→Hp→V→List α→Prop:=fun K H v xs=>tG K H (S K H) v xs∧lo≤xs.length∧xs.length≤hi
theorem aE7 (T:Txt w K mg) (cN:Ok P w K mg base 1 "is_one_of" ["thing","texts"] (vD K)) (aJp:Ok P w K mg base 2 "is_value" ["thing"] (yC K aGt)) (cH:Ok P w K mg base 2 "is_name" ["thing"] (yC K nameB)) :
  Ok P w K mg base 3 "is_other" ["thing"] (fJ (eU K IsO)):=by
 refine Ok.ofV T.aJc aFi (fun vs H Q E h=>?_) (fun f cdv A outer s H vs Q E hr h=>?_)
 ·obtain ⟨v,b,rfl,_⟩:=h;rfl
 obtain ⟨v,b,rfl,⟨rfl,o,ho⟩,q⟩:=h
 refine ⟨_,(aC (bL (VW.pt (nU (dI (cM (aN iD (by rfl) T.bN bJ (aB (vv 0) (aB (dN (v:=.ty "tuple") (by rfl) T.cL cC rfl) aA))))) (jV (aW qG (aN bC (by rfl) T.dU cI (aB (vv 0) aA)) aD (aY _))))) (aG (aJ gW)) aX) (aC (bL (cM (aL (cN.mono (by decide)) hr (by rfl) (aB (aM aV (vv 0) aD (fun _ _=>rfl)) (aB (cU (aB aQ aA)) aA)))) (aG (aJ (aL (aJp.mono (by decide)) hr (by rfl) (aB (aM aV (vv 0) aD (fun _ _=>rfl)) aA)))) aX) (aG (aJ (mQ (aL (cN.mono (by decide)) hr (by rfl) (aB (aM aV (vv 0) aD (fun _ _=>rfl)) (aB (cU (aB aQ aA)) aA))) (mY (aL (cH.mono (by decide)) hr (by rfl) (aB (aM aV (vv 0) aD (fun _ _=>rfl)) aA)))))))),?_⟩
 cases o with
 |val x=>
  obtain ⟨a,rfl,ha,hx,hv⟩:=ho
  refine ⟨_,rfl,_,_,rfl,.tup ha,_,rfl,bF ?_⟩
  refine ⟨_,rfl,_,_,rfl,.inr ha,rfl,_,rfl,bF ?_⟩
  refine ⟨_,rfl,a,_,0,_,rfl,rfl,ha,at0 _ _,(by show 1≤sizeLine;decide),fun p1 H1 _ s1 g1=>⟨_,p1,_,rfl,lE (by decide +kernel),SqT.of g1,rfl,_,rfl,cV ?_⟩⟩
  refine ⟨_,rfl,a,_,1,_,rfl,rfl,s1.aP ha,at1 _ _ _,x,rfl,hx.same s1,fun H2 s2=>?_⟩
  rw [hv]
  exact q H2 (s1.trans s2)
 |col d=>
  obtain ⟨a,rfl,ha,hd⟩:=ho
  refine ⟨_,rfl,_,_,rfl,.tup ha,_,rfl,bF ?_⟩
  refine ⟨_,rfl,_,_,rfl,.inr ha,rfl,_,rfl,bF ?_⟩
  refine ⟨_,rfl,a,_,0,_,rfl,rfl,ha,at0 _ _,(by show 1≤sizeLine;decide),fun p1 H1 _ s1 g1=>⟨_,p1,_,rfl,lE (by decide +kernel),SqT.of g1,rfl,_,rfl,bF ?_⟩⟩
  refine ⟨_,rfl,a,_,0,_,rfl,rfl,s1.aP ha,at0 _ _,(by show 1≤sizeLine;decide),fun p2 H2 _ s2 g2=>⟨_,p2,_,rfl,lE (by decide +kernel),SqT.of g2,rfl,_,rfl,cV ?_⟩⟩
  refine ⟨_,rfl,a,_,1,_,rfl,rfl,s2.aP (s1.aP ha),at1 _ _ _,_,rfl,hd.th,fun H3 s3=>?_⟩
  rw [show nameB (.str d)=true from hd]
  exact q H3 (s1.trans (s2.trans s3))
theorem aTg {x:Str} (h:aRd x):(isS (.str x) && inV (.str x) signs)=true∧x.length≤8:=by
 rcases h with rfl|rfl|rfl|rfl <;> exact ⟨by decide +kernel,by decide +kernel⟩
theorem aI8 (T:Txt w K mg) (cN:Ok P w K mg base 1 "is_one_of" ["thing","texts"] (vD K)) (cH:Ok P w K mg base 2 "is_name" ["thing"] (yC K nameB)) (aIz:Ok P w K mg base 3 "is_other" ["thing"] (fJ (eU K IsO))) :
  Ok P w K mg base 4 "is_test" ["thing"] (fJ (eU K IsT)):=by
 refine Ok.ofV T.aL6 aIh (fun vs H Q E h=>?_) (fun f cdv A outer s H vs Q E hr h=>?_)
 ·obtain ⟨v,b,rfl,_⟩:=h;rfl
 obtain ⟨v,b,rfl,⟨rfl,t,a,o,rfl,ha,hc,hs,ho⟩,q⟩:=h
 obtain ⟨ka,mk,hka⟩:=T.aCa
 have aCa:∃u,mg "SIGNS"=some u∧RelV (.ref ka) u:=⟨_,mk,rfl⟩
 refine ⟨_,(aC (bL (VW.pt (nU (dI (cM (aN iD (by rfl) T.bN bJ (aB (vv 0) (aB (dN (v:=.ty "tuple") (by rfl) T.cL cC rfl) aA))))) (jV (aW qG (aN bC (by rfl) T.dU cI (aB (vv 0) aA)) aD (aY _))))) (aG (aJ gW)) aX) (aG (aJ (mQ (aL (cH.mono (by decide)) hr (by rfl) (aB (aM aV (vv 0) aD (fun _ _=>rfl)) aA)) (mQ (aL (cN.mono (by decide)) hr (by rfl) (aB (aM aV (vv 0) aD (fun _ _=>rfl)) (aB (dZ (by rfl) aCa) aA))) (mY (aL (aIz.mono (by decide)) hr (by rfl) (aB (aM aV (vv 0) aD (fun _ _=>rfl)) aA)))))))),?_⟩
 refine ⟨_,rfl,_,_,rfl,.tup ha,_,rfl,bF ?_⟩
 refine ⟨_,rfl,_,_,rfl,.inr ha,rfl,_,rfl,bF ?_⟩
 refine ⟨_,rfl,a,_,0,_,rfl,rfl,ha,at0 _ _,_,rfl,hc.th,fun H1 s1=>⟨_,rfl,?_⟩⟩
 rw [show nameB (.str t.c)=true from hc]
 refine cV ⟨_,rfl,a,_,1,_,rfl,rfl,s1.aP ha,at1 _ _ _,_,ka,signs,rfl,lE (aTg hs).2,hka _,rfl,_,rfl,?_⟩
 rw [(aTg hs).1]
 refine cV ⟨_,rfl,a,_,2,_,rfl,rfl,s1.aP ha,at2 _ _ _ _,o,true,rfl,⟨rfl,_,ho.same s1⟩,fun H2 s2=>q H2 (s1.trans s2)⟩
theorem aH5 (T:Txt w K mg) (cH:Ok P w K mg base 2 "is_name" ["thing"] (fJ (eU K fM))) (bM:Ok P w K mg base 3 "is_tuple_of" ["thing","least","most","is_part"] (iT P w K mg base 2)) :
  Ok P w K mg base 4 "is_pair" ["thing"] (fJ (eU K xN)):=by
 refine Ok.ofV T.aNi aH9 (fun vs H Q E h=>?_) (fun f cdv A outer s H vs Q E hr h=>?_)
 ·obtain ⟨v,b,rfl,_⟩:=h;rfl
 obtain ⟨v,b,rfl,⟨rfl,p,a,rfl,ha,h1,h2⟩,q⟩:=h
 obtain ⟨fa,mf,hf⟩:=cH.held
 have jJ:∃u,mg "is_name"=some u∧RelV (.ref fa) u:=⟨_,mf,rfl⟩
 refine ⟨_,(aG (aJ (aL (bM.mono (by decide)) hr (by rfl) (aB (vv 0) (aB aD (aB aD (aB (dZ (by rfl) jJ) aA))))))),?_⟩
 exact ⟨_,rfl,_,2,2,fa,_,_,_,rfl,by decide,hf,gZ (S:=fM) (fun _ h=>h),tupof (S:=fM) (xs:=[p.1,p.2]) ⟨a,_,rfl,ha,.cons ⟨rfl,h1⟩ (.cons ⟨rfl,h2⟩ .nil)⟩ (Nat.le_refl _) (Nat.le_refl _),fun H1 s1=>q H1 s1⟩
theorem aNd (T:Txt w K mg) (cN:Ok P w K mg base 1 "is_one_of" ["thing","texts"] (vD K)) (cH:Ok P w K mg base 2 "is_name" ["thing"] (yC K nameB)):Ok P w K mg base 3 "is_key" ["thing"] (fJ (eU K yG)):=by
 refine Ok.ofV T.aQu aMz (fun vs H Q E h=>?_) (fun f cdv A outer s H vs Q E hr h=>?_)
 ·obtain ⟨v,b,rfl,_⟩:=h;rfl
 obtain ⟨v,b,rfl,⟨rfl,⟨c,wy⟩,a,rfl,ha,hc,hw⟩,q⟩:=h
 obtain ⟨ka,mk,hka⟩:=T.aJ0
 have aJ0:∃u,mg "WAYS"=some u∧RelV (.ref ka) u:=⟨_,mk,rfl⟩
 refine ⟨_,(aC (bL (VW.pt (nU (dI (cM (aN iD (by rfl) T.bN bJ (aB (vv 0) (aB (dN (v:=.ty "tuple") (by rfl) T.cL cC rfl) aA))))) (jV (aW qG (aN bC (by rfl) T.dU cI (aB (vv 0) aA)) aD (aY _))))) (aG (aJ gW)) aX) (aG (aJ (mQ (aL (cH.mono (by decide)) hr (by rfl) (aB (aM aV (vv 0) aD (fun _ _=>rfl)) aA)) (mY (aL (cN.mono (by decide)) hr (by rfl) (aB (aM aV (vv 0) aD (fun _ _=>rfl)) (aB (dZ (by rfl) aJ0) aA)))))))),?_⟩
 refine ⟨_,rfl,_,_,rfl,.tup ha,_,rfl,bF ?_⟩
 refine ⟨_,rfl,_,_,rfl,.inr ha,rfl,_,rfl,bF ?_⟩
 refine ⟨_,rfl,a,_,0,_,rfl,rfl,ha,at0 _ _,_,rfl,hc.th,fun H1 s1=>⟨_,rfl,?_⟩⟩
 rw [show nameB (.str c)=true from hc]
 have e:(isS (.str wy) && inV (.str wy) aOf)=true∧wy.length≤8:=by
  rcases hw with e|e <;> (have e:wy=_:=e;subst e;exact ⟨by decide +kernel,by decide +kernel⟩)
 refine cV ⟨_,rfl,a,_,1,_,rfl,rfl,s1.aP ha,at1 _ _ _,_,ka,aOf,rfl,lE e.2,hka _,rfl,?_⟩
 show Q (.bl (isS (.str wy) && inV (.str wy) aOf)) H1
 rw [e.1]
 exact q H1 s1
theorem aM6 (T:Txt w K mg) (cN:Ok P w K mg base 1 "is_one_of" ["thing","texts"] (vD K)) (cH:Ok P w K mg base 2 "is_name" ["thing"] (yC K nameB)):Ok P w K mg base 3 "is_sum" ["thing"] (fJ (eU K uV)):=by
 refine Ok.ofV T.aOn aMo (fun vs H Q E h=>?_) (fun f cdv A outer s H vs Q E hr h=>?_)
 ·obtain ⟨v,b,rfl,_⟩:=h;rfl
 obtain ⟨v,b,rfl,⟨rfl,⟨wd,oc,new⟩,a,rfl,hn,hs⟩,q⟩:=h
 obtain ⟨ka,mk,hka⟩:=T.oX
 have oX:∃u,mg "SUM_WORDS"=some u∧RelV (.ref ka) u:=⟨_,mk,rfl⟩
 refine ⟨_,(aC (bL (VW.pt (nU (dI (cM (aN iD (by rfl) T.bN bJ (aB (vv 0) (aB (dN (v:=.ty "tuple") (by rfl) T.cL cC rfl) aA))))) (jV (aW qG (aN bC (by rfl) T.dU cI (aB (vv 0) aA)) aD (aY _))))) (aG (aJ gW)) aX) (aC (bL (VW.pt (nU (dI (cM (aL (cN.mono (by decide)) hr (by rfl) (aB (aM aV (vv 0) aD (fun _ _=>rfl)) (aB (dZ (by rfl) oX) aA))))) (jV (dI (cM (aL (cH.mono (by decide)) hr (by rfl) (aB (aM aV (vv 0) aD (fun _ _=>rfl)) aA))))))) (aG (aJ gW)) aX) (aG (aJ (fQ (aW cB (aM aV (vv 0) aD (fun _ _=>rfl)) aQ (aY _)) (dC aUr (aM aV (vv 0) aD (fun _ _=>rfl)) aT3 (aY _)) (aL (cH.mono (by decide)) hr (by rfl) (aB (aM aV (vv 0) aD (fun _ _=>rfl)) aA))))))),?_⟩
 have hn':nameB (.str new)=true:=hn
 rcases hs with ⟨e,_,ha⟩|⟨c,e,hc,hw,ha⟩
 ·refine ⟨_,rfl,_,_,rfl,.tup ha,_,rfl,bF ?_⟩
  refine ⟨_,rfl,_,_,rfl,.inr ha,rfl,_,rfl,bF ?_⟩
  refine ⟨_,rfl,a,_,0,_,rfl,rfl,ha,at0 _ _,_,ka,xY,rfl,lE (by decide +kernel),hka _,rfl,_,rfl,bF ?_⟩
  refine ⟨_,rfl,a,_,2,_,rfl,rfl,ha,at2 _ _ _ _,_,rfl,hn.th,fun H1 s1=>⟨_,rfl,?_⟩⟩
  rw [hn']
  refine bF ⟨_,rfl,a,_,0,_,rfl,rfl,s1.aP ha,at0 _ _,rfl,_,rfl,cV ?_⟩
  exact ⟨_,rfl,a,_,1,_,rfl,rfl,s1.aP ha,at1 _ _ _,rfl,q H1 s1⟩
 ·have ew:(isS (.str wd) && inV (.str wd) xY)=true∧wd.length≤8∧decide (V.str wd=V.str "count")=false:=by
   rcases hw with e|e|e <;> (have e:wd=_:=e;subst e;exact ⟨by decide +kernel,by decide +kernel,by decide +kernel⟩)
  refine ⟨_,rfl,_,_,rfl,.tup ha,_,rfl,bF ?_⟩
  refine ⟨_,rfl,_,_,rfl,.inr ha,rfl,_,rfl,bF ?_⟩
  refine ⟨_,rfl,a,_,0,_,rfl,rfl,ha,at0 _ _,_,ka,xY,rfl,lE ew.2.1,hka _,rfl,_,rfl,?_⟩
  rw [ew.1]
  refine bF ⟨_,rfl,a,_,2,_,rfl,rfl,ha,at2 _ _ _ _,_,rfl,hn.th,fun H1 s1=>⟨_,rfl,?_⟩⟩
  rw [hn']
  refine bF ⟨_,rfl,a,_,0,_,rfl,rfl,s1.aP ha,at0 _ _,rfl,_,rfl,?_⟩
  rw [ew.2.2]
  refine bF ⟨_,rfl,a,_,1,_,rfl,rfl,s1.aP ha,at1 _ _ _,_,rfl,hc.th,fun H2 s2=>?_⟩
  rw [show nameB (.str c)=true from hc]
  exact q H2 (s1.trans s2)
def aTa (_:PySem.W.Frag) (_:Hp) (v:V) (n:Nat):Prop:=v=.int n∧n≤60
theorem aJ2 (T:Txt w K mg) (jR:Ok P w K mg base 1 "is_whole" ["thing"] (uA K)):Ok P w K mg base 2 "is_many" ["thing"] (fJ (eU K aTa)):=by
 refine Ok.ofV T.aMh aJ3 (fun vs H Q E h=>?_) (fun f cdv A outer s H vs Q E hr h=>?_)
 ·obtain ⟨v,b,rfl,_⟩:=h;rfl
 obtain ⟨v,b,rfl,⟨rfl,n,rfl,hn⟩,q⟩:=h
 refine ⟨_,(aG (aJ (mQ (aL (jR.mono (by decide)) hr (by rfl) (aB (vv 0) aA)) (mY (aNx aAt aAt aD (vv 0) (dZ (by rfl) T.aG2)))))),?_⟩
 refine ⟨_,rfl,_,rfl,.inr (.inl ⟨_,rfl⟩),_,rfl,cV ?_⟩
 refine ⟨_,rfl,_,_,rfl,rfl,_,rfl,?_⟩
 have e1:decide ((0:Int)≤(n:Int))=true:=decide_eq_true (by omega)
 have e2:decide ((n:Int)≤60)=true:=decide_eq_true (by omega)
 rw [e1]
 refine cV ⟨_,_,rfl,rfl,?_⟩
 show Q (.bl (decide ((n:Int)≤60))) H
 rw [e2]
 exact q H (Same.refl H)
theorem rF (T:Txt w K mg):Ok P w K mg base 1 "may_be_question" ["thing"] (fun vs H Q _=>∃v,vs=[v]∧Q (.bl true) H):=by
 refine Ok.ofV T.tZ qR (fun vs H Q E h=>?_) (fun f cdv A outer s H vs Q E hr h=>?_)
 ·obtain ⟨v,rfl,_⟩:=h;rfl
 obtain ⟨v,rfl,q⟩:=h
 exact ⟨_,(aG (aJ gW)),q⟩
theorem aUb {k:Nat} {x:Str} {ps:List Str} {sp sp':Sp} (G:Ok P w K mg base k x ps sp) (h:∀vs H Q E,sp' vs H Q E→sp vs H Q E):Ok P w K mg base k x ps sp':=
 let ⟨f,fd,h1,h2,h3,h4⟩:=G;⟨f,fd,h1,h2,h3,h4.imp h⟩
theorem aQq (G:Ok P w K mg base 2 "is_name" ["thing"] (yC K nameB)):Ok P w K mg base 2 "is_name" ["thing"] (fJ (eU K fM)):=
 aUb G fun vs H Q E h=>by
  obtain ⟨v,b,rfl,⟨rfl,x,rfl,hx⟩,q⟩:=h
  exact ⟨_,rfl,Nm.th hx,fun H' s'=>by rw [show nameB (.str x)=true from hx];exact q H' s'⟩
theorem aD3 (T:Txt w K mg) (aLx:Ok P w K mg base 4 "is_test" ["thing"] (fJ (eU K IsT))) (bM:Ok P w K mg base 5 "is_tuple_of" ["thing","least","most","is_part"] (iT P w K mg base 4)) :
  Ok P w K mg base 6 "are_tests" ["thing"] (fJ (eU K (jH IsT 1 3))):=by
 refine Ok.ofV T.aEv aBp (fun vs H Q E h=>?_) (fun f cdv A outer s H vs Q E hr h=>?_)
 ·obtain ⟨v,b,rfl,_⟩:=h;rfl
 obtain ⟨v,b,rfl,⟨rfl,xs,hx,l1,l2⟩,q⟩:=h
 obtain ⟨fa,mf,hf⟩:=aLx.held
 have aA5:∃u,mg "is_test"=some u∧RelV (.ref fa) u:=⟨_,mf,rfl⟩
 refine ⟨_,(aG (aJ (aL (bM.mono (by decide)) hr (by rfl) (aB (vv 0) (aB aD (aB (dZ (by rfl) T.aCh) (aB (dZ (by rfl) aA5) aA))))))),?_⟩
 exact ⟨_,rfl,_,1,3,fa,_,_,_,rfl,by decide,hf,gZ (S:=IsT) (fun e h=>h.same e),tupof (S:=IsT) hx l1 l2,fun H1 s1=>q H1 s1⟩
theorem aEe (T:Txt w K mg) (cH:Ok P w K mg base 2 "is_name" ["thing"] (fJ (eU K fM))) (bM:Ok P w K mg base 3 "is_tuple_of" ["thing","least","most","is_part"] (iT P w K mg base 2)) :
  Ok P w K mg base 4 "are_names" ["thing"] (fJ (eU K (jH fM 1 8))):=by
 refine Ok.ofV T.aG7 aEa (fun vs H Q E h=>?_) (fun f cdv A outer s H vs Q E hr h=>?_)
 ·obtain ⟨v,b,rfl,_⟩:=h;rfl
 obtain ⟨v,b,rfl,⟨rfl,xs,hx,l1,l2⟩,q⟩:=h
 obtain ⟨fa,mf,hf⟩:=cH.held
 have jJ:∃u,mg "is_name"=some u∧RelV (.ref fa) u:=⟨_,mf,rfl⟩
 refine ⟨_,(aG (aJ (aL (bM.mono (by decide)) hr (by rfl) (aB (vv 0) (aB aD (aB (dZ (by rfl) T.rU) (aB (dZ (by rfl) jJ) aA))))))),?_⟩
 exact ⟨_,rfl,_,1,8,fa,_,_,_,rfl,by decide,hf,gZ (S:=fM) (fun e h=>h),tupof (S:=fM) hx l1 l2,fun H1 s1=>q H1 s1⟩
theorem qQ (T:Txt w K mg) (cH:Ok P w K mg base 2 "is_name" ["thing"] (fJ (eU K fM))) (bM:Ok P w K mg base 3 "is_tuple_of" ["thing","least","most","is_part"] (iT P w K mg base 2)) :
  Ok P w K mg base 4 "are_group_names" ["thing"] (fJ (eU K (jH fM 0 8))):=by
 refine Ok.ofV T.uJ qT (fun vs H Q E h=>?_) (fun f cdv A outer s H vs Q E hr h=>?_)
 ·obtain ⟨v,b,rfl,_⟩:=h;rfl
 obtain ⟨v,b,rfl,⟨rfl,xs,hx,l1,l2⟩,q⟩:=h
 obtain ⟨fa,mf,hf⟩:=cH.held
 have jJ:∃u,mg "is_name"=some u∧RelV (.ref fa) u:=⟨_,mf,rfl⟩
 refine ⟨_,(aG (aJ (aL (bM.mono (by decide)) hr (by rfl) (aB (vv 0) (aB aD (aB (dZ (by rfl) T.rU) (aB (dZ (by rfl) jJ) aA))))))),?_⟩
 exact ⟨_,rfl,_,0,8,fa,_,_,_,rfl,by decide,hf,gZ (S:=fM) (fun e h=>h),tupof (S:=fM) hx l1 l2,fun H1 s1=>q H1 s1⟩
theorem aEc (T:Txt w K mg) (aLm:Ok P w K mg base 4 "is_pair" ["thing"] (fJ (eU K xN))) (bM:Ok P w K mg base 5 "is_tuple_of" ["thing","least","most","is_part"] (iT P w K mg base 4)) :
  Ok P w K mg base 6 "are_pairs" ["thing"] (fJ (eU K (jH xN 1 3))):=by
 refine Ok.ofV T.aE5 aDc (fun vs H Q E h=>?_) (fun f cdv A outer s H vs Q E hr h=>?_)
 ·obtain ⟨v,b,rfl,_⟩:=h;rfl
 obtain ⟨v,b,rfl,⟨rfl,xs,hx,l1,l2⟩,q⟩:=h
 obtain ⟨fa,mf,hf⟩:=aLm.held
 have aBh:∃u,mg "is_pair"=some u∧RelV (.ref fa) u:=⟨_,mf,rfl⟩
 refine ⟨_,(aG (aJ (aL (bM.mono (by decide)) hr (by rfl) (aB (vv 0) (aB aD (aB (dZ (by rfl) T.aB3) (aB (dZ (by rfl) aBh) aA))))))),?_⟩
 exact ⟨_,rfl,_,1,3,fa,_,_,_,rfl,by decide,hf,gZ (S:=xN) (fun e h=>h.same e),tupof (S:=xN) hx l1 l2,fun H1 s1=>q H1 s1⟩
theorem aFc (T:Txt w K mg) (aPp:Ok P w K mg base 3 "is_sum" ["thing"] (fJ (eU K uV))) (bM:Ok P w K mg base 4 "is_tuple_of" ["thing","least","most","is_part"] (iT P w K mg base 3)) :
  Ok P w K mg base 5 "are_sums" ["thing"] (fJ (eU K (jH uV 0 4))):=by
 refine Ok.ofV T.aH4 aFg (fun vs H Q E h=>?_) (fun f cdv A outer s H vs Q E hr h=>?_)
 ·obtain ⟨v,b,rfl,_⟩:=h;rfl
 obtain ⟨v,b,rfl,⟨rfl,xs,hx,l1,l2⟩,q⟩:=h
 obtain ⟨fa,mf,hf⟩:=aPp.held
 have aEs:∃u,mg "is_sum"=some u∧RelV (.ref fa) u:=⟨_,mf,rfl⟩
 refine ⟨_,(aG (aJ (aL (bM.mono (by decide)) hr (by rfl) (aB (vv 0) (aB aD (aB (dZ (by rfl) T.aF8) (aB (dZ (by rfl) aEs) aA))))))),?_⟩
 exact ⟨_,rfl,_,0,4,fa,_,_,_,rfl,by decide,hf,gZ (S:=uV) (fun e h=>h.same e),tupof (S:=uV) hx l1 l2,fun H1 s1=>q H1 s1⟩
theorem aHn (T:Txt w K mg) (aN6:Ok P w K mg base 3 "is_key" ["thing"] (fJ (eU K yG))) (bM:Ok P w K mg base 4 "is_tuple_of" ["thing","least","most","is_part"] (iT P w K mg base 3)) :
  Ok P w K mg base 5 "are_keys" ["thing"] (fJ (eU K (jH yG 0 3))):=by
 refine Ok.ofV T.aJ4 aFj (fun vs H Q E h=>?_) (fun f cdv A outer s H vs Q E hr h=>?_)
 ·obtain ⟨v,b,rfl,_⟩:=h;rfl
 obtain ⟨v,b,rfl,⟨rfl,xs,hx,l1,l2⟩,q⟩:=h
 obtain ⟨fa,mf,hf⟩:=aN6.held
 have aEt:∃u,mg "is_key"=some u∧RelV (.ref fa) u:=⟨_,mf,rfl⟩
 refine ⟨_,(aG (aJ (aL (bM.mono (by decide)) hr (by rfl) (aB (vv 0) (aB aD (aB (dZ (by rfl) T.aHh) (aB (dZ (by rfl) aEt) aA))))))),?_⟩
 exact ⟨_,rfl,_,0,3,fa,_,_,_,rfl,by decide,hf,gZ (S:=yG) (fun e h=>h.same e),tupof (S:=yG) hx l1 l2,fun H1 s1=>q H1 s1⟩
inductive Qn where
 |table (T:Str)
 |whr (q:Qn) (ts:List Tst)
 |keep (q:Qn) (ns:List Str)
 |nmd (q:Qn) (ns:List Str)
 |join (q r:Qn) (ps:List (Str × Str))
 |group (q:Qn) (ns:List Str) (ss:List Sm)
 |first (q:Qn) (ks:List (Str × Str)) (m:Nat)
inductive IsQ (K:PySem.W.Frag) (H:Hp):V→Qn→Prop
 |table {a T}:SqT K H a [.str "table",.str T]→Nm T→IsQ K H (.ref a) (.table T)
 |whr {a v q w ts}:SqT K H a [.str "where",v,w]→IsQ K H v q→jH IsT 1 3 K H w ts→IsQ K H (.ref a) (.whr q ts)
 |keep {a v q w ns}:SqT K H a [.str "keep",v,w]→IsQ K H v q→jH fM 1 8 K H w ns→IsQ K H (.ref a) (.keep q ns)
 |nmd {a v q w ns}:SqT K H a [.str "named",v,w]→IsQ K H v q→jH fM 1 8 K H w ns→IsQ K H (.ref a) (.nmd q ns)
 |join {a v q u r w ps}:SqT K H a [.str "join",v,u,w]→IsQ K H v q→IsQ K H u r→jH xN 1 3 K H w ps→IsQ K H (.ref a) (.join q r ps)
 |group {a v q w ns u ss}:SqT K H a [.str "group",v,w,u]→IsQ K H v q→jH fM 0 8 K H w ns→jH uV 0 4 K H u ss→IsQ K H (.ref a) (.group q ns ss)
 |first {a v q w ks m}:SqT K H a [.str "first",v,w,.int (m:Nat)]→IsQ K H v q→jH yG 0 3 K H w ks→m≤60→IsQ K H (.ref a) (.first q ks m)
theorem jH.same {α:Type} {S:PySem.W.Frag→Hp→V→α→Prop} {lo hi:Nat} {K:PySem.W.Frag} {H H':Hp} {v:V} {xs:List α} (e:Same H H') (k:∀{v t},S K H v t→S K H' v t) (h:jH S lo hi K H v xs):jH S lo hi K H' v xs:=
 ⟨h.1.same e fun _ _=>k,h.2⟩
theorem IsQ.same {K:PySem.W.Frag} {H H':Hp} {v:V} {q:Qn} (e:Same H H') (h:IsQ K H v q):IsQ K H' v q:=by
 induction h with
 |table a b=>exact .table (e.aP a) b
 |whr a _ c ih=>exact .whr (e.aP a) ih (c.same e fun h=>h.same e)
 |keep a _ c ih=>exact .keep (e.aP a) ih (c.same e fun h=>h)
 |nmd a _ c ih=>exact .nmd (e.aP a) ih (c.same e fun h=>h)
 |join a _ _ c ih1 ih2=>exact .join (e.aP a) ih1 ih2 (c.same e fun h=>h.same e)
 |group a _ c d ih=>exact .group (e.aP a) ih (c.same e fun h=>h) (d.same e fun h=>h.same e)
 |first a _ c d ih=>exact .first (e.aP a) ih (c.same e fun h=>h.same e) d
def Part (P:Program) (w:World) (K:PySem.W.Frag) (mg:Str→Option Value) (base:Heap) (H:Hp) (f x:V):Prop:=∃fa ps sp,f=.ref fa∧Held P w K mg base 6 fa ps sp∧∀H' Q,Same H H'→(∀H2,Same H' H2→Q (.bl true) H2)→sp [x] H' Q E0
theorem fY {k:Nat} {x:Str} {ps:List Str} {α:Type} {S:PySem.W.Frag→Hp→V→α→Prop} {f:Addr} {H:Hp} {v:V} {t:α} (G:Ok P w K mg base k x ps (fJ (eU K S))) (hk:k≤6) (m:mg x=some (.ref f)) (st:∀{H H' v t},Same H H'→S K H v t→S K H' v t) (h:S K H v t):Part P w K mg base H (.ref f) v:=
 ⟨f,_,_,rfl,(G.aQa m).mono hk,fun H' Q s' q=>⟨v,true,rfl,⟨rfl,t,st s' h⟩,q⟩⟩
abbrev forms:List Str:=["table","where","keep","named","join","group","first"]
def aXk (K:PySem.W.Frag):Sp:=fun vs H Q _=>∃v q,vs=[v]∧IsQ K H v q∧∀H',Same H H'→Q (.bl true) H'
theorem jQ {f:Addr} {H:Hp} {v:V} (G:Ok P w K mg base 1 "may_be_question" ["thing"] (fun vs H Q _=>∃v,vs=[v]∧Q (.bl true) H)) (m:mg "may_be_question"=some (.ref f)):Part P w K mg base H (.ref f) v:=
 ⟨f,_,_,rfl,(G.aQa m).mono (by decide),fun H' Q s' q=>⟨v,rfl,q H' (Same.refl H')⟩⟩
structure Forms (P:Program) (w:World) (K:PySem.W.Frag) (mg:Str→Option Value) (base:Heap):Prop where
 name:Ok P w K mg base 2 "is_name" ["thing"] (fJ (eU K fM))
 any:Ok P w K mg base 1 "may_be_question" ["thing"] (fun vs H Q _=>∃v,vs=[v]∧Q (.bl true) H)
 tests:Ok P w K mg base 6 "are_tests" ["thing"] (fJ (eU K (jH IsT 1 3)))
 names:Ok P w K mg base 4 "are_names" ["thing"] (fJ (eU K (jH fM 1 8)))
 gnames:Ok P w K mg base 4 "are_group_names" ["thing"] (fJ (eU K (jH fM 0 8)))
 pairs:Ok P w K mg base 6 "are_pairs" ["thing"] (fJ (eU K (jH xN 1 3)))
 sums:Ok P w K mg base 5 "are_sums" ["thing"] (fJ (eU K (jH uV 0 4)))
 keys:Ok P w K mg base 5 "are_keys" ["thing"] (fJ (eU K (jH yG 0 3)))
 many:Ok P w K mg base 2 "is_many" ["thing"] (fJ (eU K aTa))
theorem aSb (T:Txt w K mg) (F:Forms P w K mg base):∃d kvs,mg "FORMS"=some (.ref d)∧aSx w K d kvs∧kvs.length≤1000∧(kvs.map fun q=>V.str q.1).all iY=true ∧
  ∀H v q,IsQ K H v q→∃a k xs t fs,v=.ref a∧SqT K H a (.str k::xs)∧k.length≤8∧inV (.str k) (kvs.map fun q=>V.str q.1)=true∧(kvs.find? fun z=>decide (z.1=k)).map (·.2)=some t∧(∀H,SqT K H t fs)∧fs.length≤8∧bQ (Part P w K mg base H) fs xs:=by
 obtain ⟨d,t0,t1,t2,t3,t4,t5,t6,md,hd,⟨f00,h0,m00⟩,⟨f10,f11,h1,m10,m11⟩,⟨f20,f21,h2,m20,m21⟩,⟨f30,f31,h3,m30,m31⟩,⟨f40,f41,f42,h4,m40,m41,m42⟩,⟨f50,f51,f52,h5,m50,m51,m52⟩,⟨f60,f61,f62,h6,m60,m61,m62⟩⟩:=T.wO
 refine ⟨d,_,md,hd,(by show 7≤1000;decide),rfl,fun H v q hq=>?_⟩
 cases hq with
 |table a b=>exact ⟨_,_,_,t0,_,rfl,a,by decide +kernel,(by show inV (.str "table") (forms.map V.str)=true;decide +kernel),rfl,h0,(by show 1≤8;decide),.cons (fY F.name (by decide) m00 (fun _ h=>h) ⟨rfl,b⟩) .nil⟩
 |whr a _ c=>exact ⟨_,_,_,t1,_,rfl,a,by decide +kernel,(by show inV (.str "where") (forms.map V.str)=true;decide +kernel),rfl,h1,(by show 2≤8;decide),.cons (jQ F.any m10) (.cons (fY F.tests (by decide) m11 (fun e h=>h.same e fun q=>q.same e) c) .nil)⟩
 |keep a _ c=>exact ⟨_,_,_,t2,_,rfl,a,by decide +kernel,(by show inV (.str "keep") (forms.map V.str)=true;decide +kernel),rfl,h2,(by show 2≤8;decide),.cons (jQ F.any m20) (.cons (fY F.names (by decide) m21 (fun e h=>h.same e fun q=>q) c) .nil)⟩
 |nmd a _ c=>exact ⟨_,_,_,t3,_,rfl,a,by decide +kernel,(by show inV (.str "named") (forms.map V.str)=true;decide +kernel),rfl,h3,(by show 2≤8;decide),.cons (jQ F.any m30) (.cons (fY F.names (by decide) m31 (fun e h=>h.same e fun q=>q) c) .nil)⟩
 |join a _ _ c=>exact ⟨_,_,_,t4,_,rfl,a,by decide +kernel,(by show inV (.str "join") (forms.map V.str)=true;decide +kernel),rfl,h4,(by show 3≤8;decide),.cons (jQ F.any m40) (.cons (jQ F.any m41) (.cons (fY F.pairs (by decide) m42 (fun e h=>h.same e fun q=>q.same e) c) .nil))⟩
 |group a _ c e=>exact ⟨_,_,_,t5,_,rfl,a,by decide +kernel,(by show inV (.str "group") (forms.map V.str)=true;decide +kernel),rfl,h5,(by show 3≤8;decide),.cons (jQ F.any m50) (.cons (fY F.gnames (by decide) m51 (fun e h=>h.same e fun q=>q) c) (.cons (fY F.sums (by decide) m52 (fun e h=>h.same e fun q=>q.same e) e) .nil))⟩
 |first a _ c e=>exact ⟨_,_,_,t6,_,rfl,a,by decide +kernel,(by show inV (.str "first") (forms.map V.str)=true;decide +kernel),rfl,h6,(by show 3≤8;decide),.cons (jQ F.any m60) (.cons (fY F.keys (by decide) m61 (fun e h=>h.same e fun q=>q.same e) c) (.cons (fY F.many (by decide) m62 (fun _ h=>h) ⟨rfl,e⟩) .nil))⟩
theorem iR {α β:Type} {R:α→β→Prop}:∀{as:List α} {bs:List β},bQ R as bs→∀{i:Nat} {a:α} {b:β},as[i]?=some a→bs[i]?=some b→R a b
 |_,_,.cons r t,0,_,_,h1,h2=>by cases h1;cases h2;exact r
 |_,_,.cons r t,i+1,a,b,h1,h2=>iR t (i:=i) (by simpa using h1) (by simpa using h2)
theorem aRj {xs ys:List V}:(List.zipWith (fun _ _:V=>V.bl true) xs ys)=(List.zipWith (fun _ _:V=>true) xs ys).map V.bl:=by
 rw [List.map_zipWith]
theorem aOm:∀(xs ys:List V),((List.zipWith (fun _ _:V=>true) xs ys).all id)=true
 |[],_=>by simp
 |_::_,[]=>by simp
 |x::xs,y::ys=>by rw [List.zipWith_cons_cons,List.all_cons,aOm xs ys];rfl
theorem aXq (x:V) (xs:List V):wF (x::xs) (some 1) none=xs:=by
 unfold wF
 have e:HT.sIx (x::xs).length 0 (some 1)=1:=by
  rw [show (1:Int)=((1:Nat):Int) from rfl,HT.aD0,List.length_cons]
  omega
 rw [e,HT.aFb,List.length_cons]
 simp
theorem nw1 (x:V) (xs:List V):¬ (HT.sIx (x::xs).length 0 (some 1)=0∧HT.sIx (x::xs).length (x::xs).length none=(x::xs).length):=by
 rw [show (1:Int)=((1:Nat):Int) from rfl,HT.aD0,List.length_cons]
 omega
theorem aGo (T:Txt w K mg) (F:Forms P w K mg base) (cN:Ok P w K mg base 1 "is_one_of" ["thing","texts"] (vD K)):Ok P w K mg base 7 "has_form" ["thing"] (aXk K):=by
 refine Ok.ofV T.aI1 vU (fun vs H Q E h=>?_) (fun f cdv A outer s H vs Q E hr h=>?_)
 ·obtain ⟨v,q,rfl,_⟩:=h;rfl
 obtain ⟨v,q0,rfl,hq,q⟩:=h
 obtain ⟨d,kvs,md,hd,hl,hfl,hat⟩:=aSb T F
 have wO:∃u,mg "FORMS"=some u∧RelV (.ref d) u:=⟨_,md,rfl⟩
 obtain ⟨a,k,xs,t,fs,rfl,ha,hk8,hin,hf,ht,hf8,hp⟩:=hat H v q0 hq
 have hlen:=hp.len
 refine ⟨_,(aC (bL (VW.pt (nU (dI (cM (aN iD (by rfl) T.bN bJ (aB (vv 0) (aB (dN (v:=.ty "tuple") (by rfl) T.cL cC rfl) aA))))) (nU (aW cB (aN bC (by rfl) T.dU cI (aB (vv 0) aA)) aD (aY _)) (jV (dI (cM (aL (cN.mono (by decide)) hr (by rfl) (aB (aM aV (vv 0) aD (fun _ _=>rfl)) (aB (bT (aNa rfl) (by rfl) T.cL cC (aB (dZ (by rfl) wO) aA)) aA))))))))) (aG (aJ gW)) aX) (aC (bA (i:=1) vU.nd rfl (by trivial) (aM aS1 (dZ (by rfl) wO) (aM aV (vv 0) aD (fun _ _=>rfl)) (fun _ _=>rfl))) (aC (bL (aW qG (aN bC (by rfl) T.dU cI (aB (vv 0) aA)) (bR eF (aN bC (by rfl) T.dU cI (aB (vv 1) aA)) aD) (aY _)) (aG (aJ gW)) aX) (aG (aJ (aN (tY rfl) (by rfl) T.aFe yE (aB (bY (N:=["is_part","part"]) (by trivial) (eZ (by decide +kernel)) rfl (aCz (by rfl) T.aP5 (aB (vv 1) (aB (lL aEi (vv 0) (kO aD) wQ) aA))) (fun cl s' H' fp=>⟨(nD (K:=K) (n:=2) rfl (bK (aO (i:=0) (show (["is_part","part"]:List Str).Nodup from by decide +kernel) rfl (Or.inl rfl)) (bK (aO (i:=1) (show (["is_part","part"]:List Str).Nodup from by decide +kernel) rfl (Or.inl rfl)) fH))),bW,(aF0 (P:=P) (w:=w) (K:=K) (mg:=mg) (base:=base) hr (vv 0) (aB (vv 1) aA))⟩)) aA))))))),?_⟩
 refine ⟨_,rfl,_,_,rfl,.tup ha,_,rfl,bF ?_⟩
 refine ⟨_,rfl,_,_,rfl,.inr ha,rfl,_,rfl,?_⟩
 have e0:decide (V.int (((V.str k::xs).length:Nat):Int)=V.int 0)=false:=decide_eq_false (by intro z;have:=V.int.inj z;rw [List.length_cons] at this;omega)
 rw [e0]
 refine bF ⟨_,rfl,a,_,0,_,rfl,rfl,ha,at0 _ _,d,kvs,rfl,hd,hl,fun p1 H1 s1 g1=>⟨_,p1,_,rfl,lE hk8,SqT.of g1,hfl,_,rfl,?_⟩⟩
 have e1:(isS (.str k) && inV (.str k) (kvs.map fun q=>V.str q.1))=true:=by rw [hin];rfl
 rw [e1]
 refine bF ⟨_,rfl,a,_,0,_,rfl,rfl,s1.aP ha,at0 _ _,d,kvs,k,t,rfl,rfl,hd,hf,?_⟩
 refine ⟨_,rfl,_,_,rfl,.inr (s1.aP ha),_,rfl,_,_,rfl,.inr (ht _),_,_,rfl,rfl,rfl,_,rfl,?_⟩
 have e2:(!decide (V.int (((V.str k::xs).length:Nat):Int)=V.int ((fs.length:Nat)+1:Int)))=false:=by rw [List.length_cons,hlen];simp
 rw [e2]
 refine bF ?_
 dsimp only [wX,xU,tCB,dH]
 refine aNk fs xs (fun _ _=>.bl true) [none,none] pR (small (by omega)) hlen (fun R r=>⟨_,rfl,_,rfl,_,rfl,a,_,rfl,s1.aP ha,nw1 _ _,fun p2 H2 s2 g2=>?_⟩) (fun i fv x ef ex H' R l1 l2 sm r=>?_) rfl rfl fun D H' sm hD=>?_
 ·rw [aXq] at g2
  exact r t p2 H2 s2 (ht _) (SqT.of g2)
 ·obtain ⟨fa,ps,sp,rfl,hh,hc⟩:=iR hp ef ex
  exact ⟨_,rfl,fa,ps,sp,rfl,hh,_,rfl,hc H' R (s1.trans sm) fun H2 s2=>r H2 s2⟩
 ·refine ⟨D,List.zipWith (fun _ _=>true) fs xs,rfl,SqL.of (by rw [hD,aRj]),?_⟩
  rw [aOm]
  exact q H' (s1.trans sm)
def kids:Qn→List Qn
 |.table _=>[]
 |.whr q _=>[q]
 |.keep q _=>[q]
 |.nmd q _=>[q]
 |.join q r _=>[q,r]
 |.group q _ _=>[q]
 |.first q _ _=>[q]
def own:Qn→Nat
 |.whr _ ts=>ts.length
 |_=>1
def size:Qn→Nat
 |.table _=>1
 |.whr q ts=>size q+ts.length
 |.keep q _=>size q+1
 |.nmd q _=>size q+1
 |.join q r _=>size q+size r+1
 |.group q _ _=>size q+1
 |.first q _ _=>size q+1
def sizes (qs:List Qn):Nat:=(qs.map size).sum
theorem oM (q:Qn):size q=own q+sizes (kids q):=by
 cases q <;> simp [size,own,sizes,kids] <;> omega
theorem uH {K:PySem.W.Frag} {H:Hp} {v:V} {q:Qn} (h:IsQ K H v q):1≤own q:=by
 cases h with
 |whr _ _ c=>exact c.2.1
 |_=>exact Nat.le_refl _
def aKq (K:PySem.W.Frag):Sp:=fun vs H Q _=>∃v q H0,vs=[v]∧Same H0 H∧IsQ K H0 v q∧∀D H' us,H D=none→Same H H'→H' D=some (.lst us)→bQ (IsQ K H0) us (kids q)→Q (.ref D) H'
theorem nW (T:Txt w K mg):Ok P w K mg base 1 "questions_in" ["question"] (aKq K):=by
 refine Ok.ofV T.yU wB (fun vs H Q E h=>?_) (fun f cdv A outer s H vs Q E hr h=>?_)
 ·obtain ⟨v,q,H0,rfl,_⟩:=h;rfl
 obtain ⟨v,q0,H0,rfl,e,hq,q⟩:=h
 refine ⟨_,(aC (bL (aW cB (aM aV (vv 0) aD (fun _ _=>rfl)) aQ (aY _)) (aG (aJ (dR aA))) aX) (aG (aJ (fQ (aW cB (aM aV (vv 0) aD (fun _ _=>rfl)) aQ (aY _)) (bT yQ (by rfl) T.aDg wU (aB (lL aEi (vv 0) (kO aD) (kO aD)) aA)) (dR (aB (aM aV (vv 0) aD (fun _ _=>rfl)) aA)))))),?_⟩
 cases hq with
 |table a b=>exact ⟨_,rfl,_,_,0,_,rfl,rfl,(e.aP a),at0 _ _,rfl,_,rfl,cV ⟨(by show 0≤sizeLine;decide),fun D H' f s' g=>q D H' _ f s' g .nil⟩⟩
 |whr a b c=>exact ⟨_,rfl,_,_,0,_,rfl,rfl,(e.aP a),at0 _ _,rfl,_,rfl,bF ⟨_,rfl,_,_,0,_,rfl,rfl,(e.aP a),at0 _ _,rfl,_,rfl,bF ⟨_,rfl,_,_,1,_,rfl,rfl,(e.aP a),at1 _ _ _,(by show 1≤sizeLine;decide),fun D H' f s' g=>q D H' _ f s' g (.cons b .nil)⟩⟩⟩
 |keep a b c=>exact ⟨_,rfl,_,_,0,_,rfl,rfl,(e.aP a),at0 _ _,rfl,_,rfl,bF ⟨_,rfl,_,_,0,_,rfl,rfl,(e.aP a),at0 _ _,rfl,_,rfl,bF ⟨_,rfl,_,_,1,_,rfl,rfl,(e.aP a),at1 _ _ _,(by show 1≤sizeLine;decide),fun D H' f s' g=>q D H' _ f s' g (.cons b .nil)⟩⟩⟩
 |nmd a b c=>exact ⟨_,rfl,_,_,0,_,rfl,rfl,(e.aP a),at0 _ _,rfl,_,rfl,bF ⟨_,rfl,_,_,0,_,rfl,rfl,(e.aP a),at0 _ _,rfl,_,rfl,bF ⟨_,rfl,_,_,1,_,rfl,rfl,(e.aP a),at1 _ _ _,(by show 1≤sizeLine;decide),fun D H' f s' g=>q D H' _ f s' g (.cons b .nil)⟩⟩⟩
 |group a b c d=>exact ⟨_,rfl,_,_,0,_,rfl,rfl,(e.aP a),at0 _ _,rfl,_,rfl,bF ⟨_,rfl,_,_,0,_,rfl,rfl,(e.aP a),at0 _ _,rfl,_,rfl,bF ⟨_,rfl,_,_,1,_,rfl,rfl,(e.aP a),at1 _ _ _,(by show 1≤sizeLine;decide),fun D H' f s' g=>q D H' _ f s' g (.cons b .nil)⟩⟩⟩
 |first a b c d=>exact ⟨_,rfl,_,_,0,_,rfl,rfl,(e.aP a),at0 _ _,rfl,_,rfl,bF ⟨_,rfl,_,_,0,_,rfl,rfl,(e.aP a),at0 _ _,rfl,_,rfl,bF ⟨_,rfl,_,_,1,_,rfl,rfl,(e.aP a),at1 _ _ _,(by show 1≤sizeLine;decide),fun D H' f s' g=>q D H' _ f s' g (.cons b .nil)⟩⟩⟩
 |join a b c d=>
  refine ⟨_,rfl,_,_,0,_,rfl,rfl,(e.aP a),at0 _ _,rfl,_,rfl,bF ⟨_,rfl,_,_,0,_,rfl,rfl,(e.aP a),at0 _ _,rfl,_,rfl,cV ⟨_,rfl,_,rfl,_,rfl,_,_,rfl,(e.aP a),(by show ¬ (HT.sIx 4 0 (some 1)=0∧HT.sIx 4 4 (some 3)=4);decide),fun p H1 s1 g1=>⟨p,_,rfl,.inr (SqT.of g1),fun D H' f s' g=>q D H' _ (s1.free f) (s1.trans s') g (.cons b (.cons c .nil))⟩⟩⟩⟩
def aOe (K:PySem.W.Frag):Sp:=fun vs H Q _=>∃v q,vs=[v]∧IsQ K H v q∧Q (.int (own q:Nat)) H
theorem aF3 (T:Txt w K mg):Ok P w K mg base 1 "own_size" ["question"] (aOe K):=by
 refine Ok.ofV T.aIp aHm (fun vs H Q E h=>?_) (fun f cdv A outer s H vs Q E hr h=>?_)
 ·obtain ⟨v,q,rfl,_⟩:=h;rfl
 obtain ⟨v,q0,rfl,hq,q⟩:=h
 refine ⟨_,(aG (aJ (fQ (aW cB (aM aV (vv 0) aD (fun _ _=>rfl)) aQ (aY _)) (aN bC (by rfl) T.dU cI (aB (aM aV (vv 0) aD (fun _ _=>rfl)) aA)) aD))),?_⟩
 cases hq with
 |whr a b c=>
  obtain ⟨⟨p,us,rfl,hp,hr'⟩,_⟩:=c
  refine ⟨_,rfl,_,_,0,_,rfl,rfl,a,at0 _ _,rfl,_,rfl,cV ⟨_,rfl,_,_,2,_,rfl,rfl,a,at2 _ _ _ _,_,_,rfl,.inr hp,?_⟩⟩
  rw [hr'.len]
  exact q
 |table a b=>exact ⟨_,rfl,_,_,0,_,rfl,rfl,a,at0 _ _,rfl,_,rfl,bF q⟩
 |keep a b c=>exact ⟨_,rfl,_,_,0,_,rfl,rfl,a,at0 _ _,rfl,_,rfl,bF q⟩
 |nmd a b c=>exact ⟨_,rfl,_,_,0,_,rfl,rfl,a,at0 _ _,rfl,_,rfl,bF q⟩
 |group a b c d=>exact ⟨_,rfl,_,_,0,_,rfl,rfl,a,at0 _ _,rfl,_,rfl,bF q⟩
 |first a b c d=>exact ⟨_,rfl,_,_,0,_,rfl,rfl,a,at0 _ _,rfl,_,rfl,bF q⟩
 |join a b c d=>exact ⟨_,rfl,_,_,0,_,rfl,rfl,a,at0 _ _,rfl,_,rfl,bF q⟩
def aO8 (K:PySem.W.Frag):Sp:=fun vs H Q _=>∃v q,vs=[v]∧IsQ K H v q∧size q≤20∧∀H',Same H H'→Q v H'
theorem aNl {α β:Type} {R:α→β→Prop} {as:List α} {bs:List β} (h:bQ R as bs) (ne:as≠[]):∃as' a bs' b,as=as'++[a]∧bs=bs'++[b]∧bQ R as' bs'∧R a b:=by
 induction h with
 |nil=>exact absurd rfl ne
 |@cons a b as bs r t ih=>
  cases t with
  |nil=>exact ⟨[],a,[],b,rfl,rfl,.nil,r⟩
  |cons r' t'=>
   obtain ⟨as',x,bs',y,e1,e2,h1,h2⟩:=ih (by simp)
   exact ⟨a::as',x,b::bs',y,by rw [e1];rfl,by rw [e2];rfl,.cons r h1,h2⟩
theorem uX (xs ys:List Qn):sizes (xs++ys)=sizes xs+sizes ys:=by unfold sizes;rw [List.map_append,List.sum_append]
theorem aMy {K:PySem.W.Frag} {H:Hp} {us:List V} {qs:List Qn} (h:bQ (IsQ K H) us qs):us.length≤sizes qs:=by
 induction h with
 |nil=>exact Nat.le_refl _
 |@cons v q us qs r _ ih=>
  have:=uH r
  have e:=oM q
  show us.length+1≤(((q::qs).map size).sum)
  rw [List.map_cons,List.sum_cons]
  unfold sizes at ih
  omega
theorem aJw (T:Txt w K mg) (aIb:Ok P w K mg base 7 "has_form" ["thing"] (aXk K)) (cR:Ok P w K mg base 1 "questions_in" ["question"] (aKq K)) (aH0:Ok P w K mg base 1 "own_size" ["question"] (aOe K)):Ok P w K mg base 8 "checked" ["thing"] (aO8 K):=by
 refine Ok.ofV T.aMl jN (fun vs H Q E h=>?_) (fun f cdv A outer s H vs Q E hr h=>?_)
 ·obtain ⟨v,q,rfl,_⟩:=h;rfl
 obtain ⟨v,q0,rfl,hq,h20,q⟩:=h
 refine ⟨_,(aC (bA (i:=1) jN.nd rfl (by trivial) aD) (aC (bA (i:=2) jN.nd rfl (by trivial) (dR (aB (vv 0) aA))) (aC (aOb PassesOwn.never (aPc (vv 2)) (aC (bA (i:=3) jN.nd rfl (by trivial) (aDs PySem.F.plainAttrs_list PySem.F.slot_list_pop PySem.F.type_list_pop aS2 (vv 2))) (aC (bL (dI (cM (aL (aIb.mono (by decide)) hr (by rfl) (aB (vv 3) aA)))) (aG gP) aX) (aC (bA (i:=1) jN.nd rfl (by trivial) (bR eF (vv 1) (aL (aH0.mono (by decide)) hr (by rfl) (aB (vv 3) aA)))) (aC (bL (aW aKo (vv 1) (dZ (by rfl) T.aF4) (aY _)) (aG gP) aX) (aG (dD (vR PySem.F.plainAttrs_list PySem.F.slot_list_extend PySem.F.type_list_extend aJs (vv 2) (aB (aL (cR.mono (by decide)) hr (by rfl) (aB (vv 3) aA)) aA))))))))) (aG (aJ (vv 0)))))),?_⟩
 refine ⟨_,rfl,(by show 1≤sizeLine;decide),fun W H1 fW s1 g1=>?_⟩
 refine ⟨fun m σ H'=>∃sz us qs l,σ=[some v,some (.int (sz:Nat)),some (.ref W),l]∧Same H H'∧H' W=some (.lst us)∧bQ (IsQ K H) us qs∧sz+sizes qs=size q0∧m=sizes qs,⟨_,0,_,[q0],_,rfl,s1,g1,.cons hq .nil,by simp [sizes],rfl⟩,?_⟩
 rintro m σ H' ⟨sz,us,qs,l,rfl,sm,eW,hu,hs,rfl⟩
 by_cases hne:us=[]
 ·subst hne
  refine ⟨_,rfl,false,.inl ⟨[],SqL.of eW,rfl⟩,?_⟩
  refine bF ?_
  exact ⟨_,rfl,q H' sm⟩
 ·obtain ⟨us',u,qs',p,rfl,rfl,hu',hp⟩:=aNl hu hne
  refine ⟨_,rfl,true,.inl ⟨_,SqL.of eW,by cases us' <;> rfl⟩,?_⟩
  refine cV ?_
  have hso:=oM p
  have hop:=uH hp
  have hsz:sizes (qs'++[p])=sizes qs'+size p:=by rw [uX];simp [sizes]
  refine ⟨fun σ' H''=>∃m',m'<sizes (qs'++[p])∧∃sz us qs l,σ'=[some v,some (.int (sz:Nat)),some (.ref W),l]∧Same H H''∧H'' W=some (.lst us)∧bQ (IsQ K H) us qs∧sz+sizes qs=size q0∧m'=sizes qs,fun σ' H'' h=>h,?_⟩
  refine ⟨_,rfl,.inl ⟨rfl,_,SqL.of eW⟩,W,_,u,rfl,rfl,eW,?_,?_⟩
  ·rw [List.length_append,List.length_singleton,Nat.add_sub_cancel,List.getElem?_append_right (Nat.le_refl _),Nat.sub_self]
   rfl
  rw [List.dropLast_concat]
  have sx:Same H (upd H' W (.lst us')):=gO fW sm
  have ex:upd H' W (.lst us') W=some (.lst us'):=aH
  generalize upd H' W (.lst us')=Hx at sx ex
  refine ⟨_,rfl,u,p,rfl,hp.same sx,fun H2 s2=>⟨_,rfl,bF ?_⟩⟩
  refine ⟨_,rfl,_,rfl,u,p,rfl,hp.same (sx.trans s2),_,_,rfl,rfl,?_⟩
  refine ⟨_,rfl,_,_,rfl,rfl,_,rfl,?_⟩
  have e20:decide ((20:Int)<(sz:Int)+(own p:Int))=false:=decide_eq_false (by omega)
  rw [e20]
  refine bF ?_
  refine ⟨_,rfl,.inl ⟨rfl,_,SqL.of (s2 _ _ ex)⟩,?_⟩
  refine ⟨_,rfl,u,p,H,rfl,sx.trans s2,hp,fun D H3 ws fD s3 gD hw=>?_⟩
  have lw:=hw.len
  have lu:=aMy hu'
  have lk:(kids p).length≤2:=by cases p <;> simp [kids]
  refine ⟨W,D,_,_,rfl,rfl,s3 _ _ (s2 _ _ ex),gD,small (by omega),?_⟩
  refine ⟨_,?_,sz+own p,us'++ws,qs'++kids p,some u,?_,gO fW (sx.trans (s2.trans s3)),aH,hu'.app hw,?_,rfl⟩
  ·rw [uX];omega
  ·rw [show ((sz+own p:Nat):Int)=(sz:Int)+(own p:Int) from by omega];rfl
  ·rw [uX];omega
abbrev Hdr:=List (Str × Str)
def IsC (K:PySem.W.Frag) (H:Hp) (v:V) (c:Str × Str):Prop:=∃p,v=.ref p∧SqT K H p [.str c.1,.str c.2]
theorem IsC.same {K:PySem.W.Frag} {H H':Hp} {v:V} {c:Str × Str} (e:Same H H') (h:IsC K H v c):IsC K H' v c:=by
 obtain ⟨p,rfl,hp⟩:=h
 exact ⟨p,rfl,e.aP hp⟩
def cX (K:PySem.W.Frag) (H:Hp) (v:V) (hd:Hdr):Prop:=tG K H (IsC K H) v hd
theorem cX.same {K:PySem.W.Frag} {H H':Hp} {v:V} {hd:Hdr} (e:Same H H') (h:cX K H v hd):cX K H' v hd:=tG.same e (fun _ _ q=>q.same e) h
def look (hd:Hdr) (n:Str):Option Str:=(hd.find? fun c=>decide (c.1=n)).map (·.2)
theorem aKs {n k:Str}:∀{hd:Hdr},look hd n=some k→∃i,hd[i]?=some (n,k)∧∀(j:Nat) (c:Str × Str),j<i→hd[j]?=some c→c.1≠n
 |[],h=>by cases h
 |(m,j)::r,h=>by
  unfold look at h
  rw [List.find?_cons] at h
  by_cases e:m=n
  ·rw [decide_eq_true (p:=(m,j).1=n) e] at h
   have h':j=k:=Option.some.inj h
   subst e h'
   exact ⟨0,rfl,fun j c hj=>absurd hj (Nat.not_lt_zero _)⟩
  ·rw [decide_eq_false (p:=(m,j).1=n) e] at h
   obtain ⟨i,h1,h2⟩:=aKs (hd:=r) h
   refine ⟨i+1,by simpa using h1,fun j' c hj hc=>?_⟩
   cases j' with
   |zero=>cases hc;exact e
   |succ j'=>exact h2 j' c (by omega) (by simpa using hc)
theorem bI {α β:Type} {R:α→β→Prop}:∀{as:List α} {bs:List β},bQ R as bs→∀{i:Nat} {a:α},as[i]?=some a→∃b,bs[i]?=some b∧R a b
 |_,_,.cons r t,0,_,h1=>by cases h1;exact ⟨_,rfl,r⟩
 |_,_,.cons r t,i+1,a,h1=>by
  obtain ⟨b,e,q⟩:=bI t (i:=i) (a:=a) (by simpa using h1)
  exact ⟨b,by simpa using e,q⟩
theorem aCs {α β:Type} {R:α→β→Prop}:∀{as:List α} {bs:List β},as.length=bs.length→(∀(i:Nat) (a:α) (b:β),as[i]?=some a→bs[i]?=some b→R a b)→bQ R as bs
 |[],[],_,_=>.nil
 |a::as,b::bs,hl,h=>.cons (h 0 a b rfl rfl) (aCs (by simpa using hl) fun i x y h1 h2=>h (i+1) x y (by simpa using h1) (by simpa using h2))
theorem aC3 {us:List V} {ns:List Str} (h:bQ (fM K H) us ns):us=ns.map V.str:=by
 induction h with
 |nil=>rfl
 |cons r _ ih=>rw [List.map_cons,ih,r.1]
def uO (K:PySem.W.Frag):Sp:=fun vs H Q _=>∃vh n hd k,vs=[vh,.str n]∧cX K H vh hd∧look hd n=some k∧Q (.str k) H
theorem aJg (T:Txt w K mg):Ok P w K mg base 1 "kind_in" ["head","name"] (uO K):=by
 refine Ok.ofV T.aLs xO (fun vs H Q E h=>?_) (fun f cdv A outer s H vs Q E hr h=>?_)
 ·obtain ⟨vh,n,hd,k,rfl,_⟩:=h;rfl
 obtain ⟨vh,n,hd,k,rfl,⟨a,us,rfl,ha,hu⟩,hk,q⟩:=h
 refine ⟨_,(aC (iW PassesOwn.never rfl (eE (vv 0)) (aO (i:=2) xO.nd rfl (by trivial)) (aG (bL (aW cB (aM (eO (K:=K)) (vv 2) aD (fun _ _=>rfl)) (vv 1) (aY _)) (aG (aJ (aM (eO (K:=K)) (vv 2) aD (fun _ _=>rfl)))) aX))) (aG gP)),?_⟩
 obtain ⟨i0,h0,hf⟩:=aKs hk
 have hi0:i0<us.length:=by rw [hu.len];exact (List.getElem?_eq_some_iff.mp h0).1
 refine ⟨_,rfl,a,rfl,⟨_,ha⟩,aRg (xs:=us) (fun i σ H'=>H'=H∧i≤i0∧∃l,σ=[some (.ref a),some (.str n),l]) ⟨rfl,Nat.zero_le _,_,rfl⟩ (fun i σ H' _ ⟨e,_⟩=>by rw [e];exact ha) ?_ ?_⟩
 ·rintro i x σ H' hx ⟨rfl,hi,l,rfl⟩
  obtain ⟨c,hc,p,rfl,hp⟩:=bI hu hx
  refine ⟨_,rfl,p,_,0,_,rfl,rfl,hp,at0 _ _,_,rfl,rfl,_,rfl,?_⟩
  by_cases e:i=i0
  ·subst e
   rw [h0] at hc
   cases hc
   rw [decide_eq_true rfl]
   exact cV ⟨_,rfl,p,_,1,_,rfl,rfl,hp,at1 _ _ _,q⟩
  ·have hn:=hf i c (by omega) hc
   rw [decide_eq_false (by intro z;exact hn (V.str.inj z))]
   exact bF ⟨rfl,by omega,_,rfl⟩
 ·rintro σ H' ⟨rfl,hi,_⟩
  omega
def aCm (K:PySem.W.Frag):Sp:=fun vs H Q _=>∃(a b:Addr) (xs:List Str),vs=[.ref a,.ref b]∧SqL K H a (xs.map V.str)∧SqL K H b (xs.map V.str)∧Q .non H
theorem qM (T:Txt w K mg):Ok P w K mg base 1 "need_like_kinds" ["kinds","others"] (aCm K):=by
 refine Ok.ofV T.tK qO (fun vs H Q E h=>?_) (fun f cdv A outer s H vs Q E hr h=>?_)
 ·obtain ⟨a,b,xs,rfl,_⟩:=h;rfl
 obtain ⟨a,b,xs,rfl,ha,hb,q⟩:=h
 have hu:=aFq hr
 exact ⟨_,(aG (bL (aW (aUc (Nat.lt_of_succ_lt hu)) (vv 0) (vv 1) (aY _)) (aG gP) aX)),⟨_,rfl,_,rfl,a,b,xs,rfl,rfl,ha,hb,_,rfl,bF q⟩⟩
def aCt (K:PySem.W.Frag):Sp:=fun vs H Q _=>∃(a:Addr) (ss:List Str),vs=[.ref a]∧SqL K H a (ss.map V.str)∧ss.length≤1000∧ss.Nodup∧∀H',Same H H'→Q .non H'
theorem xT (T:Txt w K mg) (aC0:Ok P w K mg base 1 "are_unlike" ["names"] (aAv K)):Ok P w K mg base 2 "need_unlike" ["names"] (aCt K):=by
 refine Ok.ofV T.zU yK (fun vs H Q E h=>?_) (fun f cdv A outer s H vs Q E hr h=>?_)
 ·obtain ⟨a,ss,rfl,_⟩:=h;rfl
 obtain ⟨a,ss,rfl,ha,hl,nd,q⟩:=h
 refine ⟨_,(aG (bL (dI (cM (aL (aC0.mono (by decide)) hr (by rfl) (aB (vv 0) aA)))) (aG gP) aX)),?_⟩
 refine ⟨_,rfl,a,ss,rfl,ha,hl,fun H1 s1=>⟨_,rfl,?_⟩⟩
 rw [decide_eq_true ((aSr ss).mpr nd)]
 exact bF (q H1 s1)
def aTx:Sp:=fun vs H Q _=>∃d n v kvs,vs=[.ref d,.str n]∧H d=some (.dK kvs)∧pK kvs (Sum.inr n)=some v∧Q v H
theorem aAi (T:Txt w K mg):Ok P w K mg base 1 "table_head" ["heads","name"] aTx:=by
 refine Ok.ofV T.aCl zG (fun vs H Q E h=>?_) (fun f cdv A outer s H vs Q E hr h=>?_)
 ·obtain ⟨d,n,v,kvs,rfl,_⟩:=h;rfl
 obtain ⟨d,n,v,kvs,rfl,hd,hv,q⟩:=h
 have hu:=aFq hr
 refine ⟨_,(aC (bL (aMu hu (vv 1) (vv 0)) (aG gP) aX) (aG (aJ (aB0 hu (vv 0) (vv 1) (fun _ _=>rfl))))),?_⟩
 have g:=xW.k (k:=Sum.inr n) hd
 rw [hv] at g
 exact ⟨_,rfl,_,rfl,d,_,rfl,g,_,rfl,bF ⟨_,rfl,_,rfl,d,v,rfl,g,q⟩⟩
def kindS (v:V):Str:=if whole v then "number" else "word"
def aRv (hd:Hdr):Oth→Option Str
 |.val x=>some (kindS x)
 |.col d=>look hd d
def aOz (K:PySem.W.Frag):Sp:=fun vs H Q _=>∃vh u hd o k,vs=[vh,u]∧cX K H vh hd∧IsO K H u o∧aRv hd o=some k∧Q (.str k) H
theorem yZ (T:Txt w K mg) (aM3:Ok P w K mg base 2 "kind_of" ["value"] (aKk K)) (dW:Ok P w K mg base 1 "kind_in" ["head","name"] (uO K)):Ok P w K mg base 3 "other_kind" ["head","other"] (aOz K):=by
 refine Ok.ofV T.aDj zY (fun vs H Q E h=>?_) (fun f cdv A outer s H vs Q E hr h=>?_)
 ·obtain ⟨vh,u,hd,o,k,rfl,_⟩:=h;rfl
 obtain ⟨vh,u,hd,o,k,rfl,hh,ho,hk,q⟩:=h
 refine ⟨_,(aG (aJ (fQ (aW cB (aM aV (vv 1) aD (fun _ _=>rfl)) aQ (aY _)) (aL (aM3.mono (by decide)) hr (by rfl) (aB (aM aV (vv 1) aD (fun _ _=>rfl)) aA)) (aL (dW.mono (by decide)) hr (by rfl) (aB (vv 0) (aB (aM aV (vv 1) aD (fun _ _=>rfl)) aA)))))),?_⟩
 cases o with
 |val x=>
  obtain ⟨a,rfl,ha,hx,_⟩:=ho
  cases hk
  exact ⟨_,rfl,a,_,0,_,rfl,rfl,ha,at0 _ _,rfl,_,rfl,cV ⟨_,rfl,a,_,1,_,rfl,rfl,ha,at1 _ _ _,x,rfl,hx,q⟩⟩
 |col d=>
  obtain ⟨a,rfl,ha,_⟩:=ho
  exact ⟨_,rfl,a,_,0,_,rfl,rfl,ha,at0 _ _,rfl,_,rfl,bF ⟨_,rfl,_,rfl,a,_,1,_,rfl,rfl,ha,at1 _ _ _,_,_,hd,k,rfl,hh,hk,q⟩⟩
def oF (hd:Hdr) (t:Tst):Prop:=∃k,look hd t.c=some k∧aRv hd t.o=some k
def aT0 (K:PySem.W.Frag):Sp:=fun vs H Q _=>∃vh u hd ts,vs=[vh,u]∧cX K H vh hd∧tG K H (IsT K H) u ts∧ts.length≤8∧(∀t∈ts,oF hd t)∧∀H',Same H H'→Q vh H'
theorem kinds_of {α:Type} {p:α→Str→Prop}:∀{ts:List α},(∀t∈ts,∃k,p t k)→∃ks,bQ p ts ks
 |[],_=>⟨[],.nil⟩
 |t::r,h=>by
  obtain ⟨k,hk⟩:=h t (List.mem_cons_self ..)
  obtain ⟨ks,hks⟩:=kinds_of (ts:=r) fun u hu=>h u (List.mem_cons_of_mem _ hu)
  exact ⟨k::ks,.cons hk hks⟩
theorem gC {α:Type} {f:α→V} {xs:List α} {i:Nat} {y:V} (h:(xs.map f)[i]?=some y):∃x,xs[i]?=some x∧y=f x:=by
 rw [List.getElem?_map] at h
 cases e:xs[i]? with
 |none=>rw [e] at h;cases h
 |some x=>rw [e] at h;cases h;exact ⟨x,rfl,rfl⟩
theorem aAl (T:Txt w K mg) (fP:Ok P w K mg base 1 "need_like_kinds" ["kinds","others"] (aCm K)) (dW:Ok P w K mg base 1 "kind_in" ["head","name"] (uO K)) (aDz:Ok P w K mg base 3 "other_kind" ["head","other"] (aOz K)) :
  Ok P w K mg base 4 "where_head" ["head","tests"] (aT0 K):=by
 refine Ok.ofV T.aEn aAj (fun vs H Q E h=>?_) (fun f cdv A outer s H vs Q E hr h=>?_)
 ·obtain ⟨vh,u,hd,ts,rfl,_⟩:=h;rfl
 obtain ⟨vh,u,hd,ts,rfl,hh,⟨a,us,rfl,ha,hu⟩,hl8,hok,q⟩:=h
 refine ⟨_,(aC (dD (aL (fP.mono (by decide)) hr (by rfl) (aB (bY (N:=["test","head"]) (by trivial) (cF (aF gQ) rfl (by decide +kernel)) rfl (eE (vv 1)) (fun cl s' H' fp=>⟨(aO (i:=0) (show (["test","head"]:List Str).Nodup from by decide +kernel) rfl (Or.inl rfl)),bW,(aL (dW.mono (by decide)) hr (by rfl) (aB (vv 1) (aB (aM (eO (K:=K)) (vv 0) aD (fun _ _=>rfl)) aA)))⟩)) (aB (bY (N:=["test","head"]) (by trivial) (cF (aF gQ) rfl (by decide +kernel)) rfl (eE (vv 1)) (fun cl s' H' fp=>⟨(aO (i:=0) (show (["test","head"]:List Str).Nodup from by decide +kernel) rfl (Or.inl rfl)),bW,(aL (aDz.mono (by decide)) hr (by rfl) (aB (vv 1) (aB (aM (eO (K:=K)) (vv 0) aD (fun _ _=>rfl)) aA)))⟩)) aA)))) (aG (aJ (vv 0)))),?_⟩
 obtain ⟨ks,hks⟩:=kinds_of hok
 have l1:=hu.len
 have l2:=hks.len
 dsimp only [mL,aKn,tL,dH]
 refine fG us (ks.map V.str) (by rw [List.length_map];omega) [none,some vh] ?_ (small (by omega)) (fun R r=>iV ha (fun R' r'=>⟨_,rfl,r'⟩) R r) (fun i x y ex ey H' R l sm r=>?_) rfl fun D1 H1 s1 g1=>?_
 ·exact dF 0 (by decide +kernel) rfl rfl (by trivial)
 ·obtain ⟨t,ht,p,w',rfl,hp,_,_,ho⟩:=bI hu ex
  obtain ⟨k,hk,rfl⟩:=gC ey
  have hq:=iR hks ht hk
  exact ⟨_,rfl,_,rfl,p,_,0,_,rfl,rfl,sm.aP hp,at0 _ _,_,_,hd,k,rfl,hh.same sm,hq.1,r H' (Same.refl H')⟩
 refine fG us (ks.map V.str) (by rw [List.length_map];omega) [none,some vh] ?_ (small (by omega)) (fun R r=>iV (s1.aP ha) (fun R' r'=>⟨_,rfl,r'⟩) R r) (fun i x y ex ey H' R l sm r=>?_) rfl fun D2 H2 s2 g2=>?_
 ·exact dF 0 (by decide +kernel) rfl rfl (by trivial)
 ·obtain ⟨t,ht,p,w',rfl,hp,_,_,ho⟩:=bI hu ex
  obtain ⟨k,hk,rfl⟩:=gC ey
  have hq:=iR hks ht hk
  exact ⟨_,rfl,_,rfl,p,_,2,_,rfl,rfl,sm.aP (s1.aP hp),at2 _ _ _ _,_,_,hd,t.o,k,rfl,hh.same (s1.trans sm),ho.same (s1.trans sm),hq.2,r H' (Same.refl H')⟩
 exact ⟨D1,D2,ks,rfl,SqL.of (s2 _ _ g1),SqL.of g2,⟨_,rfl,q H2 (s1.trans s2)⟩⟩
def aN0 (K:PySem.W.Frag) (H:Hp) (v:V) (ns:List Str):Prop:=∃a,v=.ref a∧(SqL K H a (ns.map V.str)∨SqT K H a (ns.map V.str))
theorem aOl {lo hi:Nat} {H:Hp} {v:V} {ns:List Str} (h:jH fM lo hi K H v ns):aN0 K H v ns:=by
 obtain ⟨⟨a,us,rfl,ha,hr⟩,_⟩:=h
 rw [aC3 hr] at ha
 exact ⟨a,rfl,.inr ha⟩
def Looks (hd:Hdr) (ns ks:List Str):Prop:=bQ (fun n k=>look hd n=some k) ns ks
def aKl (K:PySem.W.Frag):Sp:=fun vs H Q _=>∃vh u hd ns ks,vs=[vh,u]∧cX K H vh hd∧aN0 K H u ns∧ns.length≤1000∧Looks hd ns ks∧∀v H',Same H H'→cX K H' v (ns.zip ks)→Q v H'
theorem aUf {K:PySem.W.Frag} {a:Addr} {xs:List V} {tl:TE} {σ:L2.St} {H:Hp} (hS:SqL K H a xs∨SqT K H a xs) (h:∀R:VK,R (.ref a) H→tl σ H R) (R:It→Hp→Prop)
  (q:∀J:It,(∀H' i x,Same H H'→xs[i]?=some x→J.go i H'∧∀y H2,J.yld i H' y H2→H2=H'∧y=x)→(∀H',Same H H'→J.stop xs.length H')→R J H):sG K tl σ H R∨aGb K tl σ H R:=by
 rcases hS with hS|hS
 ·exact .inl (pO (fun H' sm=>sm.seq hS) h R q)
 ·exact .inr (iV hS h R q)
def eQ (K:PySem.W.Frag) (cs:Hdr):Nat→Hp→V→Prop:=fun i H y=>∃c p,cs[i]?=some c∧y=.ref p∧H p=some (.tup [.str c.1,.str c.2])
theorem eQ.st {cs:Hdr} {i:Nat} {H1 H2:Hp} {y:V} (e:Same H1 H2) (h:eQ K cs i H1 y):eQ K cs i H2 y:=by
 obtain ⟨c,p,h1,h2,h3⟩:=h
 exact ⟨c,p,h1,h2,e _ _ h3⟩
theorem eQ.su {cs:Hdr} {i:Nat} {H1:Hp} {D:Addr} {ys zs:List V} {y:V} (hD:H1 D=some (.lst ys)) (h:eQ K cs i H1 y):eQ K cs i (upd H1 D (.lst zs)) y:=by
 obtain ⟨c,p,h1,h2,h3⟩:=h
 exact ⟨c,p,h1,h2,by rw [aU (aAw h3 hD (by intro z;cases z))];exact h3⟩
theorem aBy {cs:Hdr} {H:Hp} {a:Addr} {ys:List V} (ha:SqT K H a ys) (hl:ys.length=cs.length) (h:∀(i:Nat) (y:V),ys[i]?=some y→eQ K cs i H y):cX K H (.ref a) cs:=by
 refine ⟨a,ys,rfl,ha,aCs hl fun i y c e1 e2=>?_⟩
 obtain ⟨c',p,h1,h2,h3⟩:=h i y e1
 rw [e2] at h1
 cases h1
 exact ⟨p,h2,SqT.of h3⟩
theorem aIq {ns ks:List Str} {i:Nat} {n k:Str} (h1:ns[i]?=some n) (h2:ks[i]?=some k):(ns.zip ks)[i]?=some (n,k):=by
 rw [List.zip,List.getElem?_zipWith,h1,h2]
theorem aCv (T:Txt w K mg) (dW:Ok P w K mg base 1 "kind_in" ["head","name"] (uO K)):Ok P w K mg base 2 "keep_head" ["head","names"] (aKl K):=by
 refine Ok.ofV T.aFn aCi (fun vs H Q E h=>?_) (fun f cdv A outer s H vs Q E hr h=>?_)
 ·obtain ⟨vh,u,hd,ns,ks,rfl,_⟩:=h;rfl
 obtain ⟨vh,u,hd,ns,ks,rfl,hh,⟨a,rfl,ha⟩,hl,hk,q⟩:=h
 refine ⟨_,(aG (aJ (bT cG (by rfl) T.cL cC (aB (bY (N:=["name","head"]) (by trivial) (cF (aF kJ) rfl (by decide +kernel)) rfl (aVo (vv 1)) (fun cl s' H' fp=>⟨(aO (i:=0) (show (["name","head"]:List Str).Nodup from by decide +kernel) rfl (Or.inl rfl)),bW,(cU (aB (vv 0) (aB (aL (dW.mono (by decide)) hr (by rfl) (aB (vv 1) (aB (vv 0) aA))) aA)))⟩)) aA)))),?_⟩
 have hln:=hk.len
 dsimp only [xU,tCB,dH]
 refine vO (ns.map V.str) (eQ K (ns.zip ks)) eQ.st eQ.su [none,some vh] ?_ (small (by rw [List.length_map];exact hl)) (fun R r=>aUf ha (fun R' r'=>⟨_,rfl,r'⟩) R r) (fun i x ex H' R l sm r=>?_) rfl fun D H' ys sm hD hly hR=>?_
 ·exact dF 0 (by decide +kernel) rfl rfl (by trivial)
 ·obtain ⟨n,hn,rfl⟩:=gC ex
  obtain ⟨k,hkk,hlk⟩:=bI hk hn
  exact ⟨_,rfl,_,rfl,_,rfl,_,_,hd,k,rfl,hh.same sm,hlk,(by show 2≤sizeLine;decide),fun p H2 _ s2 g2=>r _ _ s2 ⟨(n,k),p,aIq hn hkk,rfl,g2⟩⟩
 ·refine ⟨D,_,rfl,SqL.of hD,fun t H2 _ s2 g2=>q _ _ (sm.trans s2) (aBy (SqT.of g2) ?_ fun i y e=>(hR i y e).st s2)⟩
  rw [hly,List.length_map,List.length_zip]
  omega
def aOh (K:PySem.W.Frag):Sp:=fun vs H Q _=>∃vh u hd ns,vs=[vh,u]∧cX K H vh hd∧(∃a,u=.ref a∧SqT K H a (ns.map V.str))∧ns.length≤1000∧ns.length=hd.length∧∀v H',Same H H'→cX K H' v (List.zipWith (fun n c=>(n,c.2)) ns hd)→Q v H'
theorem aAa (T:Txt w K mg):Ok P w K mg base 1 "named_head" ["head","names"] (aOh K):=by
 refine Ok.ofV T.aC2 aAb (fun vs H Q E h=>?_) (fun f cdv A outer s H vs Q E hr h=>?_)
 ·obtain ⟨vh,u,hd,ns,rfl,_⟩:=h;rfl
 obtain ⟨vh,u,hd,ns,rfl,⟨b,us,rfl,hb,hu⟩,⟨a,rfl,ha⟩,hl,hle,q⟩:=h
 refine ⟨_,(aC (bL (aW qG (aN bC (by rfl) T.dU cI (aB (vv 1) aA)) (aN bC (by rfl) T.dU cI (aB (vv 0) aA)) (aY _)) (aG gP) aX) (aG (aJ (bT cG (by rfl) T.cL cC (aB (bY (N:=["name","column"]) (by trivial) (eZ (by decide +kernel)) rfl (aCz (by rfl) T.aP5 (aB (vv 1) (aB (vv 0) aA))) (fun cl s' H' fp=>⟨(nD (K:=K) (n:=2) rfl (bK (aO (i:=0) (show (["name","column"]:List Str).Nodup from by decide +kernel) rfl (Or.inl rfl)) (bK (aO (i:=1) (show (["name","column"]:List Str).Nodup from by decide +kernel) rfl (Or.inl rfl)) fH))),bW,(cU (aB (vv 0) (aB (aM (eO (K:=K)) (vv 1) aD (fun _ _=>rfl)) aA)))⟩)) aA))))),?_⟩
 have hlu:=hu.len
 refine ⟨_,rfl,_,_,rfl,.inr ha,_,rfl,_,_,rfl,.inr hb,rfl,_,rfl,?_⟩
 have e:(!decide (V.int ((ns.map V.str).length:Nat)=V.int (us.length:Nat)))=false:=by rw [List.length_map,hle,hlu];simp
 rw [e]
 refine bF ?_
 dsimp only [wX,xU,tCB,dH]
 refine aM8 (ns.map V.str) us (eQ K (List.zipWith (fun n c=>(n,c.2)) ns hd)) eQ.st eQ.su [none,none] pR (small (by rw [List.length_map];exact hl)) (by rw [List.length_map];omega) (fun R r=>⟨_,rfl,_,rfl,r a b H (Same.refl H) ha hb⟩) (fun i x y ex ey H' R l1 l2 sm r=>?_) rfl rfl fun D H' zs sm hD hlz hR=>?_
 ·obtain ⟨n,hn,rfl⟩:=gC ex
  obtain ⟨c,hc,p,rfl,hp⟩:=bI hu ey
  refine ⟨_,rfl,_,rfl,p,_,1,_,rfl,rfl,sm.aP hp,at1 _ _ _,(by show 2≤sizeLine;decide),fun t H2 _ s2 g2=>r _ _ s2 ⟨(n,c.2),t,?_,rfl,g2⟩⟩
  rw [List.getElem?_zipWith,hn,hc]
 ·refine ⟨D,_,rfl,SqL.of hD,fun t H2 _ s2 g2=>q _ _ (sm.trans s2) (aBy (SqT.of g2) ?_ fun i y e=>(hR i y e).st s2)⟩
  rw [hlz,List.length_map,List.length_zipWith]
  omega
def aTc (K:PySem.W.Frag):Sp:=fun vs H Q _=>∃vh vo u hd ho ps ks,vs=[vh,vo,u]∧cX K H vh hd∧cX K H vo ho∧tG K H (xN K H) u ps∧ps.length≤8∧hd.length≤100∧ho.length≤100∧bQ (fun p k=>look hd p.1=some k∧look ho p.2=some k) ps ks∧(ps.map (·.1)).Nodup∧(ps.map (·.2)).Nodup ∧
 ∀v H',Same H H'→cX K H' v (hd++ho.filter fun c=>!decide (c.1∈ps.map (·.2)))→Q v H'
theorem aKm {n:Str} {ss:List Str}:inV (.str n) (ss.map V.str)=decide (n∈ss):=by
 unfold inV
 rw [Bool.eq_iff_iff,List.any_eq_true,decide_eq_true_eq]
 constructor
 ·rintro ⟨v,hv,e⟩
  obtain ⟨z,hz,rfl⟩:=List.mem_map.mp hv
  have e2:(z == n)=true:=e
  have e3:z=n:=by simpa using e2
  rw [←e3];exact hz
 ·intro h
  refine ⟨.str n,List.mem_map.mpr ⟨n,h,rfl⟩,?_⟩
  show (n == n)=true
  simp
theorem aF1 {ss:List Str}:(ss.map V.str).all iY=true:=by
 rw [List.all_eq_true]
 intro v hv
 obtain ⟨z,_,rfl⟩:=List.mem_map.mp hv
 rfl
theorem lV {α:Type} {p:Nat→Bool} {p':α→Bool}:∀{k:Nat} {xs:List α},(∀(i:Nat) (x:α),xs[i]?=some x→p (k+i)=p' x)→sel p k xs=xs.filter p'
 |_,[],_=>rfl
 |k,x::r,h=>by
  have h0:=h 0 x rfl
  rw [Nat.add_zero] at h0
  show (if p k then x::sel p (k+1) r else sel p (k+1) r)=_
  rw [List.filter_cons,h0,lV (k:=k+1) (xs:=r) fun i y e=>by rw [show k+1+i=k+(i+1) by omega];exact h (i+1) y (by simpa using e)]
theorem yV {α β:Type} {R:α→β→Prop} {p:Nat→Bool} {as:List α} {bs:List β} (h:bQ R as bs):∀k,bQ R (sel p k as) (sel p k bs):=by
 induction h with
 |nil=>exact fun _=>.nil
 |@cons a b as bs r _ ih=>
  intro k
  show bQ R (if p k then a::sel p (k+1) as else sel p (k+1) as) (if p k then b::sel p (k+1) bs else sel p (k+1) bs)
  split
  ·exact .cons r (ih _)
  ·exact ih _
def aAq (ho:Hdr) (ss:List Str) (i:Nat):Bool:=match ho[i]? with
 |some c=>!decide (c.1∈ss)
 |none=>false
theorem aCd (T:Txt w K mg) (fP:Ok P w K mg base 1 "need_like_kinds" ["kinds","others"] (aCm K)) (dW:Ok P w K mg base 1 "kind_in" ["head","name"] (uO K)) (dB:Ok P w K mg base 2 "need_unlike" ["names"] (aCt K)) :
  Ok P w K mg base 3 "join_head" ["head","other","pairs"] (aTc K):=by
 refine Ok.ofV T.aGn nR (fun vs H Q E h=>?_) (fun f cdv A outer s H vs Q E hr h=>?_)
 ·obtain ⟨vh,vo,u,hd,ho,ps,ks,rfl,_⟩:=h;rfl
 obtain ⟨vh,vo,u,hd,ho,ps,ks,rfl,hh,hho,⟨a,us,rfl,ha,hu⟩,hl8,hl1,hl2,hks,nd1,nd2,q⟩:=h
 refine ⟨_,(aC (mJ (i0:=3) nR.nd rfl (by trivial) (N:=["pair"]) (by trivial) (eZ (by decide +kernel)) rfl (eE (vv 2)) (fun cl s' H' fp=>⟨(aO (i:=0) (show (["pair"]:List Str).Nodup from by decide +kernel) rfl (Or.inl rfl)),bW,(aM (eO (K:=K)) (vv 0) aD (fun _ _=>rfl))⟩)) (aC (bA (i:=4) nR.nd rfl (by trivial) (bY (N:=["pair"]) (by trivial) (eZ (by decide +kernel)) rfl (eE (vv 2)) (fun cl s' H' fp=>⟨(aO (i:=0) (show (["pair"]:List Str).Nodup from by decide +kernel) rfl (Or.inl rfl)),bW,(aM (eO (K:=K)) (vv 0) aD (fun _ _=>rfl))⟩))) (aC (dD (aL (fP.mono (by decide)) hr (by rfl) (aB (bY (N:=["name","head"]) (by trivial) (cF (aF fK) rfl (by decide +kernel)) rfl (dY (vv 3)) (fun cl s' H' fp=>⟨(aO (i:=0) (show (["name","head"]:List Str).Nodup from by decide +kernel) rfl (Or.inl rfl)),bW,(aL (dW.mono (by decide)) hr (by rfl) (aB (vv 1) (aB (vv 0) aA)))⟩)) (aB (bY (N:=["name","other"]) (by trivial) (cF (aF fK) rfl (by decide +kernel)) rfl (dY (vv 4)) (fun cl s' H' fp=>⟨(aO (i:=0) (show (["name","other"]:List Str).Nodup from by decide +kernel) rfl (Or.inl rfl)),bW,(aL (dW.mono (by decide)) hr (by rfl) (aB (vv 1) (aB (vv 0) aA)))⟩)) aA)))) (aC (dD (aL (dB.mono (by decide)) hr (by rfl) (aB (vv 3) aA))) (aC (dD (aL (dB.mono (by decide)) hr (by rfl) (aB (vv 4) aA))) (aG (aJ (bR aCu (vv 0) (bT cG (by rfl) T.cL cC (aB (bY (N:=["column","there"]) (by trivial) (cF (aF fK) rfl (by decide +kernel)) rfl (eE (vv 1)) (fun cl s' H' fp=>⟨(aO (i:=0) (show (["column","there"]:List Str).Nodup from by decide +kernel) rfl (Or.inl rfl)),(wW (aW (zF (K:=K)) (aM (eO (K:=K)) (vv 0) aD (fun _ _=>rfl)) (vv 1) (by with_unfolding_all rfl))),(vv 0)⟩)) aA)))))))))),?_⟩
 have lu:=hu.len
 have lk:=hks.len
 dsimp only [mL,mX]
 refine fG us ((ps.map (·.1)).map V.str) (by rw [List.length_map,List.length_map];omega) [none] jL (small (by omega)) (fun R r=>iV ha (fun R' r'=>⟨_,rfl,r'⟩) R r) (fun i x y ex ey H' R l sm r=>?_) rfl fun D1 H1 s1 g1=>?_
 ·obtain ⟨p,hp,b,rfl,hb,_⟩:=bI hu ex
  obtain ⟨n,hn,rfl⟩:=gC ey
  rw [List.getElem?_map,hp] at hn
  cases hn
  exact ⟨_,rfl,b,_,0,_,rfl,rfl,sm.aP hb,at0 _ _,r H' (Same.refl H')⟩
 dsimp only [bZ,mL,mX]
 refine fG us ((ps.map (·.2)).map V.str) (by rw [List.length_map,List.length_map];omega) [none] jL (small (by omega)) (fun R r=>iV (s1.aP ha) (fun R' r'=>⟨_,rfl,r'⟩) R r) (fun i x y ex ey H' R l sm r=>?_) rfl fun D2 H2 s2 g2=>?_
 ·obtain ⟨p,hp,b,rfl,hb,_⟩:=bI hu ex
  obtain ⟨n,hn,rfl⟩:=gC ey
  rw [List.getElem?_map,hp] at hn
  cases hn
  exact ⟨_,rfl,b,_,1,_,rfl,rfl,sm.aP (s1.aP hb),at1 _ _ _,r H' (Same.refl H')⟩
 dsimp only [bZ,mL,mX,aKn,tL,dH]
 refine fG ((ps.map (·.1)).map V.str) (ks.map V.str) (by rw [List.length_map,List.length_map,List.length_map];omega) [none,some vh] ?_ (small (by rw [List.length_map,List.length_map];omega)) (fun R r=>pO (fun H' sm=>SqL.of (sm _ _ (s2 _ _ g1))) (fun R' r'=>⟨_,rfl,r'⟩) R r) (fun i x y ex ey H' R l sm r=>?_) rfl fun D3 H3 s3 g3=>?_
 ·exact dF 0 (by decide +kernel) rfl rfl (by trivial)
 ·obtain ⟨n,hn,rfl⟩:=gC ex
  obtain ⟨k,hk,rfl⟩:=gC ey
  obtain ⟨p,hp,rfl⟩:∃p,ps[i]?=some p∧n=p.1:=by
   rw [List.getElem?_map] at hn
   cases e:ps[i]? with
   |none=>rw [e] at hn;cases hn
   |some p=>rw [e] at hn;cases hn;exact ⟨p,rfl,rfl⟩
  exact ⟨_,rfl,_,rfl,_,_,hd,k,rfl,hh.same (s1.trans (s2.trans sm)),(iR hks hp hk).1,r H' (Same.refl H')⟩
 refine fG ((ps.map (·.2)).map V.str) (ks.map V.str) (by rw [List.length_map,List.length_map,List.length_map];omega) [none,some vo] ?_ (small (by rw [List.length_map,List.length_map];omega)) (fun R r=>pO (fun H' sm=>SqL.of (sm _ _ (s3 _ _ g2))) (fun R' r'=>⟨_,rfl,r'⟩) R r) (fun i x y ex ey H' R l sm r=>?_) rfl fun D4 H4 s4 g4=>?_
 ·exact dF 1 (by decide +kernel) rfl rfl (by trivial)
 ·obtain ⟨n,hn,rfl⟩:=gC ex
  obtain ⟨k,hk,rfl⟩:=gC ey
  obtain ⟨p,hp,rfl⟩:∃p,ps[i]?=some p∧n=p.2:=by
   rw [List.getElem?_map] at hn
   cases e:ps[i]? with
   |none=>rw [e] at hn;cases hn
   |some p=>rw [e] at hn;cases hn;exact ⟨p,rfl,rfl⟩
  exact ⟨_,rfl,_,rfl,_,_,ho,k,rfl,hho.same (s1.trans (s2.trans (s3.trans sm))),(iR hks hp hk).2,r H' (Same.refl H')⟩
 refine ⟨D3,D4,ks,rfl,SqL.of (s4 _ _ g3),SqL.of g4,?_⟩
 have t4:=s1.trans (s2.trans (s3.trans s4))
 refine ⟨_,rfl,D1,_,rfl,SqL.of ((s2.trans (s3.trans s4)) _ _ g1),(by rw [List.length_map];omega),nd1,fun H5 s5=>?_⟩
 refine ⟨_,rfl,D2,_,rfl,SqL.of ((s3.trans (s4.trans s5)) _ _ g2),(by rw [List.length_map];omega),nd2,fun H6 s6=>?_⟩
 have t6:=t4.trans (s5.trans s6)
 have g6:=(s3.trans (s4.trans (s5.trans s6))) _ _ g2
 obtain ⟨b,ws,rfl,hb,hw⟩:=hho
 obtain ⟨c,zs,rfl,hc,hz⟩:=hh
 have lw:=hw.len
 have lz:=hz.len
 refine ⟨_,rfl,?_⟩
 dsimp only [mL,tCB,dH]
 refine aQc ws (aAq ho (ps.map (·.2))) [none,some (.ref D2)] ?_ (small (by omega)) (fun R r=>iV (t6.aP hb) (fun R' r'=>⟨_,rfl,r'⟩) R r) (fun i x ex H' R l sm r=>?_) rfl fun D7 H7 s7 g7=>?_
 ·exact dF 4 (by decide +kernel) rfl rfl (by trivial)
 ·obtain ⟨d,hd',p,rfl,hp⟩:=bI hw ex
  refine ⟨_,rfl,p,_,0,_,rfl,rfl,sm.aP (t6.aP hp),at0 _ _,_,rfl,D2,_,rfl,.inl (SqL.of (sm _ _ g6)),rfl,aF1,_,rfl,?_⟩
  have e:aAq ho (ps.map (·.2)) i=!decide (d.1∈ps.map (·.2)):=by unfold aAq;rw [hd']
  rw [aKm]
  rw [e] at r
  exact r H' (Same.refl H')
 refine ⟨D7,_,rfl,SqL.of g7,fun t H8 _ s8 g8=>?_⟩
 have t8:=t6.trans (s7.trans s8)
 have lsel:=pU (aAq ho (ps.map (·.2))) 0 ws
 refine ⟨c,t,_,_,rfl,rfl,t8.aP hc,SqT.of g8,small (by omega),fun r H9 s9 g9=>?_⟩
 refine q _ _ (t8.trans s9) ⟨r,_,rfl,g9,(hz.imp fun _ _ h=>h.same (t8.trans s9)).app ?_⟩
 have e:sel (aAq ho (ps.map (·.2))) 0 ho=ho.filter fun c=>!decide (c.1∈ps.map (·.2)):=lV fun i x ex=>by
  unfold aAq
  rw [Nat.zero_add,ex]
 rw [←e]
 exact (yV hw 0).imp fun _ _ h=>h.same (t8.trans s9)
def smK (hd:Hdr) (s:Sm):Option Str:=match s.c with
 |none=>some "number"
 |some c=>look hd c
def aTm (K:PySem.W.Frag):Sp:=fun vs H Q _=>∃vh u hd s k,vs=[vh,u]∧cX K H vh hd∧uV K H u s∧smK hd s=some k∧Q (.str k) H
theorem aXe {x:Str} (h:aXf x):decide (V.str x=V.str "count")=false:=by
 rcases h with rfl|rfl|rfl <;> decide +kernel
theorem aFt (T:Txt w K mg) (dW:Ok P w K mg base 1 "kind_in" ["head","name"] (uO K)):Ok P w K mg base 2 "sum_kind" ["head","part"] (aTm K):=by
 refine Ok.ofV T.aH8 aHe (fun vs H Q E h=>?_) (fun f cdv A outer s H vs Q E hr h=>?_)
 ·obtain ⟨vh,u,hd,s,k,rfl,_⟩:=h;rfl
 obtain ⟨vh,u,hd,sm,k,rfl,hh,⟨a,rfl,hn,hs⟩,hk,q⟩:=h
 refine ⟨_,(aG (aJ (fQ (aW cB (aM aV (vv 1) aD (fun _ _=>rfl)) aQ (aY _)) aQ (aL (dW.mono (by decide)) hr (by rfl) (aB (vv 0) (aB (aM aV (vv 1) aD (fun _ _=>rfl)) aA)))))),?_⟩
 rcases hs with ⟨e,ec,ha⟩|⟨c,ec,hc,hw,ha⟩
 ·have ek:k = "number":=by
   unfold smK at hk
   rw [ec] at hk
   exact (Option.some.inj hk).symm
  subst ek
  exact ⟨_,rfl,a,_,0,_,rfl,rfl,ha,at0 _ _,rfl,_,rfl,cV q⟩
 ·have hk':look hd c=some k:=by
   unfold smK at hk
   rw [ec] at hk
   exact hk
  refine ⟨_,rfl,a,_,0,_,rfl,rfl,ha,at0 _ _,rfl,_,rfl,?_⟩
  rw [aXe hw]
  exact bF ⟨_,rfl,_,rfl,a,_,1,_,rfl,rfl,ha,at1 _ _ _,_,_,hd,k,rfl,hh,hk',q⟩
theorem aTe {H:Hp} {u:V} {s:Sm} (h:uV K H u s):∃a x,u=.ref a∧SqT K H a [.str s.wd,x,.str s.new]:=by
 obtain ⟨a,rfl,hn,hs⟩:=h
 rcases hs with ⟨e,ec,ha⟩|⟨c,ec,hc,hw,ha⟩
 ·exact ⟨a,_,rfl,by rw [e];exact ha⟩
 ·exact ⟨a,_,rfl,ha⟩
def aPr (hd:Hdr) (ss:List Sm) (js:List Str):Prop:=bQ (fun s j=>smK hd s=some j∧(s.wd = "sum"→j≠"word")) ss js
def aTw (K:PySem.W.Frag):Sp:=fun vs H Q _=>∃vh u x hd ns ss ks js,vs=[vh,u,x]∧cX K H vh hd∧aN0 K H u ns∧ns.length≤100∧tG K H (uV K H) x ss∧ss.length≤100∧Looks hd ns ks∧aPr hd ss js ∧
 ∀v H',Same H H'→cX K H' v (ns.zip ks++(ss.map Sm.new).zip js)→Q v H'
theorem zH (T:Txt w K mg) (iU:Ok P w K mg base 2 "keep_head" ["head","names"] (aKl K)) (aI3:Ok P w K mg base 2 "sum_kind" ["head","part"] (aTm K)):Ok P w K mg base 3 "group_head" ["head","names","sums"] (aTw K):=by
 refine Ok.ofV T.aC4 fC (fun vs H Q E h=>?_) (fun f cdv A outer s H vs Q E hr h=>?_)
 ·obtain ⟨vh,u,x,hd,ns,ss,ks,js,rfl,_⟩:=h;rfl
 obtain ⟨vh,u,x,hd,ns,ss,ks,js,rfl,hh,hns,hl,⟨a,us,rfl,ha,hu⟩,hl2,hks,hjs,q⟩:=h
 refine ⟨_,(aC (bA (i:=3) fC.nd rfl (by trivial) (aL (iU.mono (by decide)) hr (by rfl) (aB (vv 0) (aB (vv 1) aA)))) (aC (bA (i:=4) fC.nd rfl (by trivial) (bT cG (by rfl) T.cL cC (aB (bY (N:=["part","head"]) (by trivial) (cF (aF jA) rfl (by decide +kernel)) rfl (eE (vv 2)) (fun cl s' H' fp=>⟨(aO (i:=0) (show (["part","head"]:List Str).Nodup from by decide +kernel) rfl (Or.inl rfl)),bW,(cU (aB (aM (eO (K:=K)) (vv 0) aD (fun _ _=>rfl)) (aB (aL (aI3.mono (by decide)) hr (by rfl) (aB (vv 1) (aB (vv 0) aA))) aA)))⟩)) aA))) (aC (iW PassesOwn.never rfl (aCz (by rfl) T.aP5 (aB (vv 2) (aB (vv 4) aA))) (uU rfl (bK (aO (i:=5) fC.nd rfl (by trivial)) (bK (aO (i:=6) fC.nd rfl (by trivial)) fH))) (aG (bL (VW.pt (aO9 (aW cB (aM aV (vv 5) aD (fun _ _=>rfl)) aQ (aY _)) (aKc (aW cB (aM aV (vv 6) aD (fun _ _=>rfl)) aQ (aY _))))) (aG gP) aX))) (aG (aJ (bR aCu (vv 3) (vv 4))))))),?_⟩
 have lu:=hu.len
 have lj:=hjs.len
 have lk:=hks.len
 refine ⟨_,rfl,_,rfl,vh,u,hd,ns,ks,rfl,hh,hns,by omega,hks,fun kept H1 s1 hkept=>?_⟩
 dsimp only [bZ,mL,mX,tCB,dH]
 refine vO us (eQ K ((ss.map Sm.new).zip js)) eQ.st eQ.su [none,some vh] ?_ (small (by omega)) (fun R r=>iV (s1.aP ha) (fun R' r'=>⟨_,rfl,r'⟩) R r) (fun i y ey H' R l sm r=>?_) rfl fun D H2 ys s2 hD hly hR=>?_
 ·exact dF 0 (by decide +kernel) rfl rfl (by trivial)
 ·obtain ⟨p,hp,hsm⟩:=bI hu ey
  obtain ⟨j,hj,hjk,_⟩:=bI hjs hp
  obtain ⟨b,z,rfl,hb⟩:=aTe hsm
  refine ⟨_,rfl,b,_,2,_,rfl,rfl,sm.aP (s1.aP hb),at2 _ _ _ _,_,rfl,_,rfl,_,_,hd,p,j,rfl,hh.same (s1.trans sm),hsm.same (s1.trans sm),hjk,(by show 2≤sizeLine;decide),fun t H3 _ s3 g3=>r _ _ s3 ⟨(p.new,j),t,aIq (by rw [List.getElem?_map,hp];rfl) hj,rfl,g3⟩⟩
 refine ⟨D,_,rfl,SqL.of hD,fun t H3 _ s3 g3=>?_⟩
 have lz:((ss.map Sm.new).zip js).length=ss.length:=by rw [List.length_zip,List.length_map];omega
 have hmade:cX K H3 (.ref t) ((ss.map Sm.new).zip js):=aBy (SqT.of g3) (by rw [hly,lz];exact lu) fun i y e=>(hR i y e).st s3
 have t3:=s1.trans (s2.trans s3)
 dsimp only [bZ,mL]
 refine ⟨_,rfl,_,rfl,a,t,us,ys,rfl,t3.aP ha,SqT.of g3,aR7 (fun i σ H'=>Same H3 H'∧∃l5 l6,σ=[some vh,some u,some (.ref a),some kept,some (.ref t),l5,l6]) (by rw [hly]) ⟨Same.refl _,_,_,rfl⟩ (fun i σ H' _ ⟨e,_⟩=>⟨e.aP (t3.aP ha),e.aP (SqT.of g3)⟩) ?_ ?_⟩
 ·rintro i σ H' x y Tp H'' ex ey ⟨sm,l5,l6,rfl⟩ hT rfl
  have s4:Same H' (upd H' Tp (.tup [x,y])):=bG hT _
  have t4:=sm.trans s4
  obtain ⟨p,hp,hsm⟩:=bI hu ex
  obtain ⟨j,hj,hjk,hjw⟩:=bI hjs hp
  obtain ⟨b,z,rfl,hb⟩:=aTe hsm
  obtain ⟨c,p2,e1,rfl,g5⟩:=hR i y ey
  have ec:c=(p.new,j):=by
   rw [aIq (n:=p.new) (k:=j) (by rw [List.getElem?_map,hp];rfl) hj] at e1
   exact (Option.some.inj e1).symm
  subst ec
  refine ⟨Tp,_,rfl,SqT.of aH,rfl,_,_,rfl,_,_,rfl,rfl,?_⟩
  refine ⟨_,rfl,b,_,0,_,rfl,rfl,t4.aP (t3.aP hb),at0 _ _,rfl,_,rfl,?_⟩
  refine sO (fun cs=>?_) (fun cs=>bF ⟨t4,_,_,rfl⟩)
  have ew:p.wd = "sum":=V.str.inj (of_decide_eq_true cs)
  refine ⟨_,rfl,p2,_,1,_,rfl,rfl,SqT.of (t4 _ _ (s3 _ _ g5)),at1 _ _ _,rfl,_,rfl,?_⟩
  rw [decide_eq_false (by intro zz;exact hjw ew (V.str.inj zz))]
  exact bF ⟨t4,_,_,rfl⟩
 ·rintro σ H' ⟨sm,l5,l6,rfl⟩
  obtain ⟨c,zs,rfl,hc,hz⟩:=hkept
  obtain ⟨c2,zs2,e2,hc2,hz2⟩:=hmade
  cases e2
  have l1:=hz.len
  have l2:=hz2.len
  have l3:(ns.zip ks).length≤100:=by rw [List.length_zip];omega
  refine ⟨_,rfl,_,rfl,c,t,_,_,rfl,rfl,(s2.trans (s3.trans sm)).aP hc,sm.aP hc2,small (by omega),fun r H5 s5 g5=>?_⟩
  refine q _ _ (t3.trans (sm.trans s5)) ⟨r,_,rfl,g5,(hz.imp fun _ _ h=>h.same (s2.trans (s3.trans (sm.trans s5)))).app (hz2.imp fun _ _ h=>h.same (sm.trans s5))⟩
def aTp (K:PySem.W.Frag):Sp:=fun vs H Q _=>∃vh u hd ps ks,vs=[vh,u]∧cX K H vh hd∧tG K H (yG K H) u ps∧ps.length≤100∧Looks hd (ps.map (·.1)) ks∧(ps.map (·.1)).Nodup∧∀H',Same H H'→Q vh H'
theorem aAf (T:Txt w K mg) (iU:Ok P w K mg base 2 "keep_head" ["head","names"] (aKl K)) (dB:Ok P w K mg base 2 "need_unlike" ["names"] (aCt K)):Ok P w K mg base 3 "first_head" ["head","keys"] (aTp K):=by
 refine Ok.ofV T.aDk qJ (fun vs H Q E h=>?_) (fun f cdv A outer s H vs Q E hr h=>?_)
 ·obtain ⟨vh,u,hd,ps,ks,rfl,_⟩:=h;rfl
 obtain ⟨vh,u,hd,ps,ks,rfl,hh,⟨a,us,rfl,ha,hu⟩,hl,hks,nd,q⟩:=h
 refine ⟨_,(aC (mJ (i0:=2) qJ.nd rfl (by trivial) (N:=["key"]) (by trivial) (eZ (by decide +kernel)) rfl (eE (vv 1)) (fun cl s' H' fp=>⟨(aO (i:=0) (show (["key"]:List Str).Nodup from by decide +kernel) rfl (Or.inl rfl)),bW,(aM (eO (K:=K)) (vv 0) aD (fun _ _=>rfl))⟩)) (aC (dD (aL (iU.mono (by decide)) hr (by rfl) (aB (vv 0) (aB (vv 2) aA)))) (aC (dD (aL (dB.mono (by decide)) hr (by rfl) (aB (vv 2) aA))) (aG (aJ (vv 0)))))),?_⟩
 have lu:=hu.len
 dsimp only [bZ,mL,mX]
 refine fG us ((ps.map (·.1)).map V.str) (by rw [List.length_map,List.length_map];omega) [none] jL (small (by omega)) (fun R r=>iV ha (fun R' r'=>⟨_,rfl,r'⟩) R r) (fun i x y ex ey H' R l sm r=>?_) rfl fun D1 H1 s1 g1=>?_
 ·obtain ⟨p,hp,b,rfl,hb,_⟩:=bI hu ex
  obtain ⟨n,hn,rfl⟩:=gC ey
  rw [List.getElem?_map,hp] at hn
  cases hn
  exact ⟨_,rfl,b,_,0,_,rfl,rfl,sm.aP hb,at0 _ _,r H' (Same.refl H')⟩
 refine ⟨_,rfl,_,rfl,vh,_,hd,_,ks,rfl,hh.same s1,⟨D1,rfl,.inl (SqL.of g1)⟩,by rw [List.length_map];omega,hks,fun v H2 s2 _=>?_⟩
 refine ⟨_,rfl,D1,_,rfl,SqL.of (s2 _ _ g1),by rw [List.length_map];omega,nd,fun H3 s3=>?_⟩
 exact ⟨_,rfl,q H3 (s1.trans (s2.trans s3))⟩
def Good (hd:Hdr):Prop:=(hd.map (·.1)).Nodup∧1≤hd.length∧hd.length≤8
inductive HH (hs:Str→Option Hdr):Qn→List Hdr→Hdr→Prop
 |table {T hd}:hs T=some hd→HH hs (.table T) [] hd
 |whr {q ts hd}:(∀t∈ts,oF hd t)→HH hs (.whr q ts) [hd] hd
 |keep {q ns hd ks}:Looks hd ns ks→HH hs (.keep q ns) [hd] (ns.zip ks)
 |nmd {q ns hd}:ns.length=hd.length→HH hs (.nmd q ns) [hd] (List.zipWith (fun n c=>(n,c.2)) ns hd)
 |join {q r ps hd ho ks}:bQ (fun p k=>look hd p.1=some k∧look ho p.2=some k) ps ks→(ps.map (·.1)).Nodup→(ps.map (·.2)).Nodup→HH hs (.join q r ps) [hd,ho] (hd++ho.filter fun c=>!decide (c.1∈ps.map (·.2)))
 |group {q ns ss hd ks js}:Looks hd ns ks→aPr hd ss js→HH hs (.group q ns ss) [hd] (ns.zip ks++(ss.map Sm.new).zip js)
 |first {q ps m hd ks}:Looks hd (ps.map (·.1)) ks→(ps.map (·.1)).Nodup→HH hs (.first q ps m) [hd] hd
def jB (K:PySem.W.Frag) (H:Hp) (d:Addr) (hs:Str→Option Hdr):Prop:=∃kvs,H d=some (.dK kvs)∧∀n hd,hs n=some hd→∃v,pK kvs (Sum.inr n)=some v∧cX K H v hd
theorem jB.same {H H':Hp} {d:Addr} {hs:Str→Option Hdr} (e:Same H H') (h:jB K H d hs):jB K H' d hs:=by
 obtain ⟨kvs,hd,hh⟩:=h
 refine ⟨kvs,e _ _ hd,fun n hd hn=>?_⟩
 obtain ⟨v,h1,h2⟩:=hh n hd hn
 exact ⟨v,h1,h2.same e⟩
def aTl (K:PySem.W.Frag):Sp:=fun vs H Q _=>∃d v x us hs q ihds hd,vs=[.ref d,v,.ref x]∧jB K H d hs∧IsQ K H v q∧SqL K H x us∧bQ (cX K H) us ihds∧(∀h∈ihds,h.length≤100)∧HH hs q ihds hd∧∀v' H',Same H H'→cX K H' v' hd→Q v' H'
theorem aDe (T:Txt w K mg) (aDt:Ok P w K mg base 1 "table_head" ["heads","name"] aTx) (aC9:Ok P w K mg base 4 "where_head" ["head","tests"] (aT0 K)) (iU:Ok P w K mg base 2 "keep_head" ["head","names"] (aKl K))
  (aEk:Ok P w K mg base 1 "named_head" ["head","names"] (aOh K)) (aGg:Ok P w K mg base 3 "join_head" ["head","other","pairs"] (aTc K)) (aEf:Ok P w K mg base 3 "group_head" ["head","names","sums"] (aTw K))
  (aBv:Ok P w K mg base 3 "first_head" ["head","keys"] (aTp K)):Ok P w K mg base 5 "head_here" ["heads","question","inner"] (aTl K):=by
 refine Ok.ofV T.aG6 uD (fun vs H Q E h=>?_) (fun f cdv A outer s H vs Q E hr h=>?_)
 ·obtain ⟨d,v,x,us,hs,q,ihds,hd,rfl,_⟩:=h;rfl
 obtain ⟨d,v,x,us,hs,q0,ihds,hd,rfl,hds,hq,hx,hu,hlen,hh,q⟩:=h
 refine ⟨_,(aC (bA (i:=3) uD.nd rfl (by trivial) (aM aV (vv 1) aD (fun _ _=>rfl))) (aC (bL (aW cB (vv 3) aQ (aY _)) (aG (aJ (aL (aDt.mono (by decide)) hr (by rfl) (aB (vv 0) (aB (aM aV (vv 1) aD (fun _ _=>rfl)) aA))))) aX) (aC (bL (aW cB (vv 3) aQ (aY _)) (aG (aJ (aL (aC9.mono (by decide)) hr (by rfl) (aB (aM bD (vv 2) aD (fun _ _=>rfl)) (aB (aM aV (vv 1) aD (fun _ _=>rfl)) aA))))) aX) (aC (bL (aW cB (vv 3) aQ (aY _)) (aG (aJ (aL (iU.mono (by decide)) hr (by rfl) (aB (aM bD (vv 2) aD (fun _ _=>rfl)) (aB (aM aV (vv 1) aD (fun _ _=>rfl)) aA))))) aX) (aC (bL (aW cB (vv 3) aQ (aY _)) (aG (aJ (aL (aEk.mono (by decide)) hr (by rfl) (aB (aM bD (vv 2) aD (fun _ _=>rfl)) (aB (aM aV (vv 1) aD (fun _ _=>rfl)) aA))))) aX) (aC (bL (aW cB (vv 3) aQ (aY _)) (aG (aJ (aL (aGg.mono (by decide)) hr (by rfl) (aB (aM bD (vv 2) aD (fun _ _=>rfl)) (aB (aM bD (vv 2) aD (fun _ _=>rfl)) (aB (aM aV (vv 1) aD (fun _ _=>rfl)) aA)))))) aX) (aC (bL (aW cB (vv 3) aQ (aY _)) (aG (aJ (aL (aEf.mono (by decide)) hr (by rfl) (aB (aM bD (vv 2) aD (fun _ _=>rfl)) (aB (aM aV (vv 1) aD (fun _ _=>rfl)) (aB (aM aV (vv 1) aD (fun _ _=>rfl)) aA)))))) aX) (aG (aJ (aL (aBv.mono (by decide)) hr (by rfl) (aB (aM bD (vv 2) aD (fun _ _=>rfl)) (aB (aM aV (vv 1) aD (fun _ _=>rfl)) aA)))))))))))),?_⟩
 cases hh with
 |table hT=>
  cases hq with
  |table a b=>
   obtain ⟨kvs,hd',hmem⟩:=hds
   obtain ⟨v',hv',hI⟩:=hmem _ _ hT
   refine ⟨_,rfl,_,_,0,_,rfl,rfl,a,at0 _ _,?_⟩
   exact ⟨_,rfl,rfl,_,rfl,cV ⟨_,rfl,_,rfl,_,_,1,_,rfl,rfl,a,at1 _ _ _,d,_,v',kvs,rfl,hd',hv',q _ _ (Same.refl H) hI⟩⟩
 |whr ht=>
  cases hq with
  |whr a b c=>
   cases hu with
   |cons h1 t1=>
    cases t1
    refine ⟨_,rfl,_,_,0,_,rfl,rfl,a,at0 _ _,?_⟩
    refine ⟨_,rfl,rfl,_,rfl,bF ⟨_,rfl,rfl,_,rfl,cV ?_⟩⟩
    exact ⟨_,rfl,x,_,0,_,rfl,rfl,hx,at0 _ _,_,rfl,_,_,2,_,rfl,rfl,a,at2 _ _ _ _,_,_,_,_,rfl,h1,c.1,by have:=c.2.2;omega,ht,fun H' s'=>q _ _ s' (h1.same s')⟩
 |keep hk=>
  cases hq with
  |keep a b c=>
   cases hu with
   |cons h1 t1=>
    cases t1
    refine ⟨_,rfl,_,_,0,_,rfl,rfl,a,at0 _ _,?_⟩
    refine ⟨_,rfl,rfl,_,rfl,bF ⟨_,rfl,rfl,_,rfl,bF ⟨_,rfl,rfl,_,rfl,cV ?_⟩⟩⟩
    exact ⟨_,rfl,x,_,0,_,rfl,rfl,hx,at0 _ _,_,rfl,_,_,2,_,rfl,rfl,a,at2 _ _ _ _,_,_,_,_,_,rfl,h1,aOl c,by have:=c.2.2;omega,hk,fun v' H' s' h'=>q _ _ s' h'⟩
 |nmd hl=>
  cases hq with
  |nmd a b c=>
   cases hu with
   |cons h1 t1=>
    cases t1
    obtain ⟨⟨n,ws,rfl,hn,hw⟩,c1,c2⟩:=c
    rw [aC3 hw] at hn
    refine ⟨_,rfl,_,_,0,_,rfl,rfl,a,at0 _ _,?_⟩
    refine ⟨_,rfl,rfl,_,rfl,bF ⟨_,rfl,rfl,_,rfl,bF ⟨_,rfl,rfl,_,rfl,bF ⟨_,rfl,rfl,_,rfl,cV ?_⟩⟩⟩⟩
    exact ⟨_,rfl,x,_,0,_,rfl,rfl,hx,at0 _ _,_,rfl,_,_,2,_,rfl,rfl,a,at2 _ _ _ _,_,_,_,_,rfl,h1,⟨n,rfl,hn⟩,by omega,hl,fun v' H' s' h'=>q _ _ s' h'⟩
 |join hk n1 n2=>
  cases hq with
  |join a b c e=>
   cases hu with
   |cons h1 t1=>
    cases t1 with
    |cons h2 t2=>
     cases t2
     refine ⟨_,rfl,_,_,0,_,rfl,rfl,a,at0 _ _,?_⟩
     refine ⟨_,rfl,rfl,_,rfl,bF ⟨_,rfl,rfl,_,rfl,bF ⟨_,rfl,rfl,_,rfl,bF ⟨_,rfl,rfl,_,rfl,bF ⟨_,rfl,rfl,_,rfl,cV ?_⟩⟩⟩⟩⟩
     exact ⟨_,rfl,x,_,0,_,rfl,rfl,hx,at0 _ _,_,rfl,x,_,1,_,rfl,rfl,hx,at1 _ _ _,_,rfl,_,_,3,_,rfl,rfl,a,dO (j:=3) rfl,_,_,_,_,_,_,_,rfl,h1,h2,e.1,by have:=e.2.2;omega,hlen _ (by simp),hlen _ (by simp),hk,n1,n2,fun v' H' s' h'=>q _ _ s' h'⟩
 |group hk hj=>
  cases hq with
  |group a b c e=>
   cases hu with
   |cons h1 t1=>
    cases t1
    refine ⟨_,rfl,_,_,0,_,rfl,rfl,a,at0 _ _,?_⟩
    refine ⟨_,rfl,rfl,_,rfl,bF ⟨_,rfl,rfl,_,rfl,bF ⟨_,rfl,rfl,_,rfl,bF ⟨_,rfl,rfl,_,rfl,bF ⟨_,rfl,rfl,_,rfl,bF ⟨_,rfl,rfl,_,rfl,cV ?_⟩⟩⟩⟩⟩⟩
    exact ⟨_,rfl,x,_,0,_,rfl,rfl,hx,at0 _ _,_,rfl,_,_,2,_,rfl,rfl,a,at2 _ _ _ _,_,rfl,_,_,3,_,rfl,rfl,a,dO (j:=3) rfl,_,_,_,_,_,_,_,_,rfl,h1,aOl c,by have:=c.2.2;omega,e.1,by have:=e.2.2;omega,hk,hj,fun v' H' s' h'=>q _ _ s' h'⟩
 |first hk nd=>
  cases hq with
  |first a b c e=>
   cases hu with
   |cons h1 t1=>
    cases t1
    refine ⟨_,rfl,_,_,0,_,rfl,rfl,a,at0 _ _,?_⟩
    refine ⟨_,rfl,rfl,_,rfl,bF ⟨_,rfl,rfl,_,rfl,bF ⟨_,rfl,rfl,_,rfl,bF ⟨_,rfl,rfl,_,rfl,bF ⟨_,rfl,rfl,_,rfl,bF ⟨_,rfl,rfl,_,rfl,bF ?_⟩⟩⟩⟩⟩⟩
    exact ⟨_,rfl,x,_,0,_,rfl,rfl,hx,at0 _ _,_,rfl,_,_,2,_,rfl,rfl,a,at2 _ _ _ _,_,_,_,_,_,rfl,h1,c.1,by have:=c.2.2;omega,hk,nd,fun H' s'=>q _ _ s' (h1.same s')⟩
inductive HQ (hs:Str→Option Hdr):Qn→Hdr→Prop
 |mk0 {q hd}:kids q=[]→HH hs q [] hd→Good hd→HQ hs q hd
 |mk1 {q k h1 hd}:kids q=[k]→HQ hs k h1→HH hs q [h1] hd→Good hd→HQ hs q hd
 |mk2 {q k l h1 h2 hd}:kids q=[k,l]→HQ hs k h1→HQ hs l h2→HH hs q [h1,h2] hd→Good hd→HQ hs q hd
theorem HQ.good {hs:Str→Option Hdr} {q:Qn} {hd:Hdr} (h:HQ hs q hd):Good hd:=by cases h <;> assumption
theorem HQ.in {hs:Str→Option Hdr} {q:Qn} {hd:Hdr} (h:HQ hs q hd):∃ihds,bQ (HQ hs) (kids q) ihds∧HH hs q ihds hd∧Good hd:=by
 cases h with
 |mk0 e a b=>exact ⟨[],by rw [e];exact .nil,a,b⟩
 |mk1 e k a b=>exact ⟨[_],by rw [e];exact .cons k .nil,a,b⟩
 |mk2 e k l a b=>exact ⟨[_,_],by rw [e];exact .cons k (.cons l .nil),a,b⟩
def aH7 (K:PySem.W.Frag):Sp:=fun vs H Q _=>∃v hd,vs=[v]∧cX K H v hd∧hd.length≤1000∧∀D H',Same H H'→H' D=some (.lst ((hd.map (·.1)).map V.str))→Q (.ref D) H'
theorem tU (T:Txt w K mg):Ok P w K mg base 1 "names_of" ["head"] (aH7 K):=by
 refine Ok.ofV T.aHz aE8 (fun vs H Q E h=>?_) (fun f cdv A outer s H vs Q E hr h=>?_)
 ·obtain ⟨v,hd,rfl,_⟩:=h;rfl
 obtain ⟨v,hd,rfl,⟨a,us,rfl,ha,hu⟩,hl,q⟩:=h
 refine ⟨_,(aG (aJ (bY (N:=["column"]) (by trivial) (eZ (by decide +kernel)) rfl (eE (vv 0)) (fun cl s' H' fp=>⟨(aO (i:=0) (show (["column"]:List Str).Nodup from by decide +kernel) rfl (Or.inl rfl)),bW,(aM (eO (K:=K)) (vv 0) aD (fun _ _=>rfl))⟩)))),?_⟩
 have lu:=hu.len
 refine fG us ((hd.map (·.1)).map V.str) (by rw [List.length_map,List.length_map];omega) [none] jL (small (by omega)) (fun R r=>iV ha (fun R' r'=>⟨_,rfl,r'⟩) R r) (fun i x y ex ey H' R l sm r=>?_) rfl fun D H' sm hD=>q D H' sm hD
 obtain ⟨c,hc,p,rfl,hp⟩:=bI hu ex
 obtain ⟨n,hn,rfl⟩:=gC ey
 rw [List.getElem?_map,hc] at hn
 cases hn
 exact ⟨_,rfl,p,_,0,_,rfl,rfl,sm.aP hp,at0 _ _,r H' (Same.refl H')⟩
def aTd (K:PySem.W.Frag) (n:Nat):Sp:=fun vs H Q _=>∃d v hs q hd,vs=[.ref d,v]∧jB K H d hs∧IsQ K H v q∧size q≤n∧HQ hs q hd∧∀v' H',Same H H'→cX K H' v' hd→Q v' H'
theorem aBn {k:Qn}:∀{qs:List Qn},k∈qs→size k≤sizes qs
 |q::qs,h=>by
  show size k≤(((q::qs).map size).sum)
  rw [List.map_cons,List.sum_cons]
  rcases List.mem_cons.mp h with rfl|h
  ·omega
  ·have:=aBn h
   unfold sizes at this
   omega
theorem aG8 {q k:Qn} (h:k∈kids q) {K:PySem.W.Frag} {H:Hp} {v:V} (hq:IsQ K H v q):size k<size q:=by
 have e:=oM q
 have o:=uH hq
 have:size k≤sizes (kids q):=by
  exact aBn h
 omega
theorem aT2 {α:Type} {l:List α} {i:Nat} {x:α} (h:l[i]?=some x):x∈l:=List.mem_of_getElem? h
theorem pF (T:Txt w K mg) (cR:Ok P w K mg base 1 "questions_in" ["question"] (aKq K)) (vZ:Ok P w K mg base 5 "head_here" ["heads","question","inner"] (aTl K)) (dB:Ok P w K mg base 2 "need_unlike" ["names"] (aCt K)) (lU:Ok P w K mg base 1 "names_of" ["head"] (aH7 K)) :
  ∀n:Nat,Ok P w K mg base (n+6) "head_within" ["heads","question"] (aTd K n)
 |0=>by
  refine Ok.ofV T.qK fV (fun vs H Q E h=>?_) (fun f cdv A outer s H vs Q E hr h=>?_)
  ·obtain ⟨d,v,hs,q,hd,rfl,_⟩:=h;rfl
  ·obtain ⟨d,v,hs,q,hd,rfl,_,hq,hz,_⟩:=h
   have e:=oM q
   have o:=uH hq
   omega
 |n+1=>by
  have lB:=pF T cR vZ dB lU n
  refine Ok.ofV T.qK fV (fun vs H Q E h=>?_) (fun f cdv A outer s H vs Q E hr h=>?_)
  ·obtain ⟨d,v,hs,q,hd,rfl,_⟩:=h;rfl
  obtain ⟨d,v,hs,q0,hd,rfl,hds,hq,hz,hh,q⟩:=h
  obtain ⟨ihds,hin,hone,hgood⟩:=hh.in
  refine ⟨_,(aC (mJ (i0:=2) fV.nd rfl (by trivial) (N:=["part","heads"]) (by trivial) (cF (aF iK) rfl (by decide +kernel)) rfl (dY (aL (cR.mono (by omega)) hr (by rfl) (aB (vv 1) aA))) (fun cl s' H' fp=>⟨(aO (i:=0) (show (["part","heads"]:List Str).Nodup from by decide +kernel) rfl (Or.inl rfl)),bW,(aL (lB.mono (by omega)) hr (by rfl) (aB (vv 1) (aB (vv 0) aA)))⟩)) (aC (bA (i:=3) fV.nd rfl (by trivial) (aL (vZ.mono (by omega)) hr (by rfl) (aB (vv 0) (aB (vv 1) (aB (vv 2) aA))))) (aC (dD (aL (dB.mono (by omega)) hr (by rfl) (aB (aL (lU.mono (by omega)) hr (by rfl) (aB (vv 3) aA)) aA))) (aC (bL (dI (aHd aAt aAt aD (aN bC (by rfl) T.dU cI (aB (vv 3) aA)) (dZ (by rfl) T.xX))) (aG gP) aX) (aG (aJ (vv 3))))))),?_⟩
  have l2:=hin.len
  have lk:(kids q0).length≤2:=by cases q0 <;> simp [kids]
  dsimp only [mL,mX]
  refine aA6 (K:=K) (fun us=>bQ (IsQ K H) us (kids q0)) (fun i H y=>∃h,ihds[i]?=some h∧cX K H y h) (fun e h=>?_) (fun e h=>?_) [none,some (.ref d)] ?_ rfl (fun R r=>⟨_,rfl,v,q0,H,rfl,Same.refl H,hq,fun D H1 us fD s1 gD hus=>r D H1 us s1 gD hus⟩) (fun us hus=>small (by have:=hus.len;omega)) (fun us hus i x ex H' R l sm r=>?_) fun us hus D2 H2 ys t2 g2 hly hR=>?_
  ·obtain ⟨h,h1,h2⟩:=h
   exact ⟨h,h1,h2.same e⟩
  ·obtain ⟨h,h1,⟨a,vs,rfl,ha,hv⟩⟩:=h
   exact ⟨h,h1,a,vs,rfl,ha.wH e,hv.imp fun _ _ ⟨p,ep,hp⟩=>⟨p,ep,hp.wH e⟩⟩
  ·exact dF 0 (by decide +kernel) rfl rfl (by trivial)
  ·obtain ⟨k,hk,hkq⟩:=bI hus ex
   obtain ⟨h,hh',hkh⟩:=bI hin hk
   have hkz:=aG8 (aT2 hk) hq
   exact ⟨_,rfl,_,rfl,d,x,hs,k,h,rfl,hds.same sm,hkq.same sm,by omega,hkh,fun v' H3 s3 h3=>r _ _ s3 ⟨h,hh',h3⟩⟩
  have l1:=hus.len
  have hall:bQ (cX K H2) ys ihds:=aCs (by omega) fun i y h e1 e2=>by
   obtain ⟨h',e3,q3⟩:=hR i y e1
   rw [e2] at e3
   cases e3
   exact q3
  have hl100:∀h∈ihds,h.length≤100:=fun h hm=>by
   obtain ⟨i,hi,e⟩:=List.getElem_of_mem hm
   have hi':i<(kids q0).length:=by omega
   have:=(iR hin (List.getElem?_eq_getElem hi') (by rw [List.getElem?_eq_getElem hi,e])).good
   have:=this.2.2
   omega
  refine ⟨_,rfl,_,rfl,_,rfl,d,v,D2,ys,hs,q0,ihds,hd,rfl,hds.same t2,hq.same t2,SqL.of g2,hall,hl100,hone,fun v' H3 s3 h3=>?_⟩
  obtain ⟨g1,g2',g3⟩:=hgood
  refine ⟨_,rfl,v',hd,rfl,h3,by omega,fun D4 H4 s4 g4=>?_⟩
  refine ⟨D4,hd.map (·.1),rfl,SqL.of g4,(by rw [List.length_map];omega),g1,fun H5 s5=>?_⟩
  obtain ⟨a,zs,rfl,ha,hz'⟩:=h3
  have lz:=hz'.len
  refine ⟨_,rfl,_,_,rfl,.inr ((s4.trans s5).aP ha),_,_,rfl,rfl,_,rfl,?_⟩
  have e1:decide ((1:Int)≤(zs.length:Int))=true:=decide_eq_true (by omega)
  have e2:decide ((zs.length:Int)≤8)=true:=decide_eq_true (by omega)
  rw [e1]
  refine cV ⟨_,_,rfl,rfl,_,rfl,?_⟩
  rw [e2]
  exact bF ⟨_,rfl,q _ _ (t2.trans (s3.trans (s4.trans s5))) ⟨a,zs,rfl,(s4.trans s5).aP ha,hz'.imp fun _ _ h=>h.same (s4.trans s5)⟩⟩
def aFl (K:PySem.W.Frag):Sp:=fun vs H Q _=>∃d v hs q hd,vs=[.ref d,v]∧jB K H d hs∧IsQ K H v q∧size q≤20∧HQ hs q hd∧∀v' H',Same H H'→cX K H' v' hd→Q v' H'
theorem aIs (T:Txt w K mg) (lB:Ok P w K mg base 26 "head_within" ["heads","question"] (aTd K 20)) (aL2:Ok P w K mg base 8 "checked" ["thing"] (aO8 K)):Ok P w K mg base 27 "head_of" ["heads","question"] (aFl K):=by
 refine Ok.ofV T.aLt aJx (fun vs H Q E h=>?_) (fun f cdv A outer s H vs Q E hr h=>?_)
 ·obtain ⟨d,v,hs,q,hd,rfl,_⟩:=h;rfl
 obtain ⟨d,v,hs,q0,hd,rfl,hds,hq,hz,hh,q⟩:=h
 refine ⟨_,(aG (aJ (aL (lB.mono (by decide)) hr (by rfl) (aB (vv 0) (aB (aL (aL2.mono (by decide)) hr (by rfl) (aB (vv 1) aA)) aA))))),?_⟩
 exact ⟨_,rfl,_,rfl,v,q0,rfl,hq,hz,fun H1 s1=>⟨d,v,hs,q0,hd,rfl,hds.same s1,hq.same s1,hz,hh,fun v' H2 s2 h2=>q _ _ (s1.trans s2) h2⟩⟩
end
end My
namespace L2
open PySem PySem.Spec PyProof.Rows
section
variable {X:Cx}
def aX3 (K:PySem.W.Frag):List V→Hp→VK→Prop:=fun xs H Q=>∃(p:Addr) (bs:List Bool),xs=[.ref p]∧SqL K H p (bs.map V.bl)∧Q (.bl (bs.any id)) H
theorem any_range (bs:List Bool):(List.range bs.length).any (fun i=>bs.getD i false)=bs.any id:=by
 rw [Bool.eq_iff_iff,List.any_eq_true,List.any_eq_true]
 constructor
 ·rintro ⟨i,hi,h⟩
  have hi:=List.mem_range.mp hi
  rw [List.getD_eq_getElem?_getD,List.getElem?_eq_getElem hi] at h
  exact ⟨_,List.getElem_mem hi,h⟩
 ·rintro ⟨b,hb,h⟩
  obtain ⟨i,hi,e⟩:=List.mem_iff_getElem.mp hb
  refine ⟨i,List.mem_range.mpr hi,?_⟩
  rw [List.getD_eq_getElem?_getD,List.getElem?_eq_getElem hi]
  show bs[i]=true
  rw [e]
  exact h
theorem aFu (hc:X.calm=true):cD X (.builtin "any") (aX3 X.K):=by
 intro pins s σ H xs us Q I r h
 obtain ⟨p,bs,rfl,hq,q⟩:=h
 obtain ⟨u,rfl,rx⟩:=r.one
 cases rx
 obtain ⟨its,rv,pl,hz⟩:=I.list hq
 have hl:=rv.length
 rw [List.length_map] at hl
 have hne:p≠s.heap.objs.size:=by
  obtain ⟨o,ho,_⟩:=pl.isList
  exact Nat.ne_of_lt (Heap.lt_size ho)
 refine call_any_walk (wpAny_pyIter_list pl.isList ?_)
 refine ⟨s.heap.objs.size,_,_,_,_,_,fun i=>bs.getD i false,rfl,Walks.list (show X.A.in1.handled=none from I.ok.hd hc) _ p hne its.toArray,⟨⟨_,Heap.get?_push_size _ rfl,rfl,rfl⟩,?_⟩,?_,fun h' tk kp=>?_⟩
 ·exact pl.isList.at fun o e=>Heap.get?_push_of_some _ e
 ·intro i v s' Q' E' hv hq'
  have hv':its[i]?=some v:=by simpa using hv
  have hi:i<bs.length:=by rw [hl];exact (List.getElem?_eq_some_iff.mp hv').1
  obtain ⟨u,hu,ru⟩:=rv.get (i:=i) (x:=.bl bs[i]) (by rw [List.getElem?_map,List.getElem?_eq_getElem hi];rfl)
  rw [hv'] at hu
  cases hu
  cases ru
  have e:bs.getD i false=bs[i]:=by rw [List.getD_eq_getElem?_getD,List.getElem?_eq_getElem hi];rfl
  replace hq':Q' (bs.getD i false) s':=hq'
  rw [e] at hq'
  exact wpAny_truthy_bool hq'
 ·have e:(List.range its.toArray.size).any (fun i=>bs.getD i false)=bs.any id:=by
   rw [List.size_toArray,←hl];exact any_range bs
  rw [e]
  refine ⟨.bl (bs.any id),H,?_,rfl,q⟩
  exact I.kept fun b o eo=>kp b o (by
   intro z
   have:b=s.heap.objs.size:=by simpa using z
   rw [this] at eo
   exact absurd (Heap.lt_size eo) (Nat.lt_irrefl _)) (Heap.get?_push_of_some _ eo)
def aU5:List V→Hp→VK→Prop:=fun xs H Q=>∃z:Str,xs=[.str z]∧z.length≤1000∧∀l H',H l=none→Same H H'→H' l=some (.lst ((List.range z.cps.size).map fun i=>V.str (sgn z i)))→Q (.ref l) H'
theorem wV (z:Str):∀(n k:Nat) (vs:List Value),vs.length=n→(∀(j:Nat) (v:Value),vs[j]?=some v→∃t,v=.str (sgn z (k+j)) t)→Vals ((List.range' k n).map fun i=>V.str (sgn z i)) vs
 |0,k,[],_,_=>.nil
 |n+1,k,v::vs,hl,h=>by
  obtain ⟨t,rfl⟩:=h 0 v rfl
  rw [List.range'_succ,List.map_cons]
  refine .cons ⟨t,rfl⟩ (wV z n (k+1) vs (by simpa using hl) fun j u e=>?_)
  obtain ⟨t',e'⟩:=h (j+1) u e
  exact ⟨t',by rw [e',show k+(j+1)=k+1+j by omega]⟩
theorem aJf (hc:X.calm=true):cD X (.type "list") aU5:=by
 intro pins s σ H xs us Q I r h
 obtain ⟨z,rfl,hl,q⟩:=h
 obtain ⟨u,rfl,t,rfl⟩:=vals1 r
 refine call_list_str (I.ok.hd hc) z t (fun h' tk acc' c' kp hS hacc=>?_) (small hl)
 have hv:=wV z z.cps.size 0 acc'.toList (by rw [Array.length_toList];exact hacc.1) fun j v e=>by
  have hj:=hacc.2 j v (by rw [←Array.getElem?_toList];exact e)
  obtain ⟨c,t',e1,e2⟩:=hj
  refine ⟨t',?_⟩
  rw [e2]
  unfold sgn
  rw [Nat.zero_add,Array.getD_eq_getD_getElem?,e1]
  rfl
 rw [←List.range_eq_range'] at hv
 have ea:acc'.toList.toArray=acc':=by simp
 have hf:H s.heap.objs.size=none:=I.hok.fresh (Nat.le_refl _)
 refine ⟨.ref s.heap.objs.size,_,I.laid (t':=tk) (o:=.lst ((List.range z.cps.size).map fun i=>V.str (sgn z i))) kp (Nat.le_refl _) ?_,rfl,q _ _ hf (bG hf _) aH⟩
 refine ⟨by rw [List.length_map,List.length_range];exact small hl,acc'.toList,c',hv,?_⟩
 rw [ea]
 exact hS
end
theorem aJo {X:Cx} {K:PySem.W.Frag} (h:X.K=K:=by rfl):OpR X (compareOp .In) (rIn K false):=by subst h;exact aA4
structure aSd (E:Hp→Hp→Prop) (H:Hp):Prop where
 new:∀D o,H D=none→E H (upd H D o)
 trans:∀{H1 H2},E H H1→E H1 H2→E H H2
 upd:∀D o H',H D=none→E H H'→E H (upd H' D o)
 keep:∀D H1 H2 xs,H D=none→E H H1→H1 D=some (.lst xs)→E H1 H2→H2 D=some (.lst xs)
theorem jY (H:Hp):aSd Same H:=⟨fun D o h=>bG h o,fun a b=>a.trans b,fun D o H' h s=>gO h s,fun D H1 H2 xs _ _ h s=>s _ _ h⟩
def aBo (J:It) (H1:Hp) (σ0:L2.St) (g:TG) (tt:TT) (te:TE) (Q:VK):Prop:=∀D,H1 D=none→∃W:Nat→Nat→L2.St→Hp→List V→Prop,(∃m,W 0 m σ0 (L2.upd H1 D (.lst [])) []) ∧
 ∀i m σ' H' ys,W i m σ' H' ys→H' D=some (.lst ys)∧((J.stop i H'∧Q (.ref D) H')∨(J.go i H'∧∀x H2,J.yld i H' x H2→g x σ' H2 fun σ3 H3=>tt σ3 H3 fun b H4=>
  if b=true then te σ3 H4 fun y H5=>H5 D=some (.lst ys)∧ys.length<sizeLine∧∃m',m'<m∧W (i+1) m' σ3 (L2.upd H5 D (.lst (ys++[y]))) (ys++[y]) else H4 D=some (.lst ys)∧∃m',m'<m∧W (i+1) m' σ3 H4 ys))
section
variable {X:Cx} {K:PySem.W.Frag} {scope:Scope} {N:List Str} {tl te:TE} {tt:TT} {g:TG} {σ:L2.St} {H:Hp} {Q:VK}
theorem lG (σ0:L2.St) (cap:Cap X scope N σ σ0) (h:tl σ H fun v H1=>∃a,v=.ref a∧(∃xs,SqL K H1 a xs)∧aBo (Itl K a) H1 σ0 g tt te Q):gR X scope N (sG K tl) g tt te σ H Q:=⟨σ0,cap,h⟩
theorem tW (σ0:L2.St) (cap:Cap X scope N σ σ0) (h:tl σ H fun v H1=>∃a,v=.ref a∧(∃xs,SqT K H1 a xs)∧aBo (Itt K a) H1 σ0 g tt te Q):gR X scope N (aGb K tl) g tt te σ H Q:=⟨σ0,cap,h⟩
theorem yJ {a:Addr} {xs:List V} {E:Hp→Hp→Prop} (hS:∀H',E H H'→SqT K H' a xs):∀H' i x,E H H'→xs[i]?=some x→(Itt K a).go i H'∧∀y H2,(Itt K a).yld i H' y H2→H2=H'∧y=x:=fun H' i x s e=>
 ⟨⟨xs,x,hS H' s,e⟩,fun y H2 hy=>by
  obtain ⟨e1,e2⟩:=hy
  have e3:=e2 xs (hS H' s)
  rw [e] at e3
  cases e3
  exact ⟨e1,rfl⟩⟩
theorem pH {a:Addr} {xs:List V} {E:Hp→Hp→Prop} (hS:∀H',E H H'→SqT K H' a xs):∀H',E H H'→(Itt K a).stop xs.length H':=fun H' s=>⟨xs,hS H' s,Nat.le_refl _⟩
theorem rW {a:Addr} {xs:List V} {E:Hp→Hp→Prop} (hS:∀H',E H H'→SqL K H' a xs):∀H' i x,E H H'→xs[i]?=some x→(Itl K a).go i H'∧∀y H2,(Itl K a).yld i H' y H2→H2=H'∧y=x:=fun H' i x s e=>
 ⟨⟨xs,x,hS H' s,e⟩,fun y H2 hy=>by
  obtain ⟨e1,e2⟩:=hy
  have e3:=e2 xs (hS H' s)
  rw [e] at e3
  cases e3
  exact ⟨e1,rfl⟩⟩
theorem lO {a:Addr} {xs:List V} {E:Hp→Hp→Prop} (hS:∀H',E H H'→SqL K H' a xs):∀H',E H H'→(Itl K a).stop xs.length H':=fun H' s=>⟨xs,hS H' s,Nat.le_refl _⟩
inductive lF (R:Nat→V→Prop):List Nat→List V→Prop
 |nil:lF R [] []
 |cons {i y is ys}:R i y→lF R is ys→lF R (i::is) (y::ys)
theorem lF.snoc {R:Nat→V→Prop} {is:List Nat} {ys:List V} {i:Nat} {y:V} (h:lF R is ys) (r:R i y):lF R (is++[i]) (ys++[y]):=by
 induction h with
 |nil=>exact .cons r .nil
 |cons r' _ ih=>exact .cons r' ih
theorem lF.imp {R S:Nat→V→Prop} {is:List Nat} {ys:List V} (h:lF R is ys) (k:∀i y,R i y→S i y):lF S is ys:=by
 induction h with
 |nil=>exact .nil
 |cons r _ ih=>exact .cons (k _ _ r) ih
theorem lF.len {R:Nat→V→Prop} {is:List Nat} {ys:List V} (h:lF R is ys):is.length=ys.length:=by
 induction h with
 |nil=>rfl
 |cons _ _ ih=>rw [List.length_cons,List.length_cons,ih]
theorem qD {σ0:L2.St} (E:Hp→Hp→Prop) (eo:aSd E H) (xs:List V) (p:Nat→Bool) (Rel:Nat→Hp→V→Prop)
  (st:∀{i H1 H2 y},E H H1→E H1 H2→Rel i H1 y→Rel i H2 y) (su:∀{i H1 D ys zs y},H D=none→E H H1→H1 D=some (.lst ys)→Rel i H1 y→Rel i (L2.upd H1 D (.lst zs)) y)
  (At:Nat→L2.St→Prop) (Ps:L2.St→Prop) (h0:Ps σ0) (hsz:xs.length≤sizeLine)
  (J:It) (go:∀H' i x,E H H'→xs[i]?=some x→J.go i H'∧∀y H2,J.yld i H' y H2→H2=H'∧y=x) (stop:∀H',E H H'→J.stop xs.length H')
  (hg:∀(i:Nat) (x:V) σ' H' Q',xs[i]?=some x→Ps σ'→E H H'→(∀σ2,Ps σ2→At i σ2→Q' σ2 H')→g x σ' H' Q')
  (ht:∀(i:Nat) (x:V) σ2,xs[i]?=some x→At i σ2→∀H' R,E H H'→(∀H2,E H' H2→R (p i) H2)→tt σ2 H' R)
  (he:∀(i:Nat) (x:V) σ2,xs[i]?=some x→At i σ2→p i=true→∀H' R,E H H'→(∀y H2,E H' H2→Rel i H2 y→R y H2)→te σ2 H' R)
  (q:∀D H' ys,E H H'→H D=none→H' D=some (.lst ys)→lF (fun i y=>Rel i H' y) (sel p 0 (List.range xs.length)) ys→Q (.ref D) H'):aBo J H σ0 g tt te Q:=by
 intro D hD
 refine ⟨fun i m σ' H' ys=>i≤xs.length∧m=xs.length - i∧Ps σ'∧E H H'∧H' D=some (.lst ys)∧lF (fun i y=>Rel i H' y) (sel p 0 (List.range i)) ys,⟨xs.length,Nat.zero_le _,rfl,h0,eo.new _ _ hD,aH,.nil⟩,?_⟩
 rintro i m σ' H' ys ⟨hi,rfl,hps,sm,hL,hR⟩
 refine ⟨hL,?_⟩
 by_cases hlt:i<xs.length
 ·right
  have hx:=List.getElem?_eq_getElem hlt
  obtain ⟨g1,g2⟩:=go H' i xs[i] sm hx
  refine ⟨g1,fun x H2 hy=>?_⟩
  obtain ⟨rfl,rfl⟩:=g2 x H2 hy
  have tk:sel p 0 (List.range (i+1))=sel p 0 (List.range i)++(if p i then [i] else []):=by
   rw [List.range_succ,sJ,List.length_range,Nat.zero_add]
  have lR:=hR.len
  have lS:=pU p 0 (List.range i)
  rw [List.length_range] at lS
  refine hg i xs[i] σ' _ _ hx hps sm fun σ2 hp2 hat=>?_
  refine ht i xs[i] σ2 hx hat _ _ sm fun H3 s3=>?_
  have sm3:=eo.trans sm s3
  have hL3:=eo.keep D _ _ _ hD sm hL s3
  cases hp:p i with
  |true=>
   rw [if_pos rfl]
   refine he i xs[i] σ2 hx hat hp _ _ sm3 fun y H4 s4 r4=>?_
   have sm4:=eo.trans sm3 s4
   have hL4:=eo.keep D _ _ _ hD sm3 hL3 s4
   refine ⟨hL4,by omega,xs.length - (i+1),by omega,hlt,rfl,hp2,eo.upd D _ _ hD sm4,aH,?_⟩
   rw [tk,hp]
   exact lF.snoc (hR.imp fun j z r=>su hD sm4 hL4 (st sm3 s4 (st sm s3 r))) (su hD sm4 hL4 r4)
  |false=>
   rw [if_neg (by simp)]
   refine ⟨hL3,xs.length - (i+1),by omega,hlt,rfl,hp2,sm3,hL3,?_⟩
   rw [tk,hp]
   simp only [Bool.false_eq_true,if_false,List.append_nil]
   exact hR.imp fun j z r=>st sm s3 r
 ·left
  have e:i=xs.length:=by omega
  subst e
  exact ⟨stop _ sm,q D _ ys sm hD hL hR⟩
theorem aWg {σ0:L2.St} (E:Hp→Hp→Prop) (eo:aSd E H) (xs:List V) (Rel:Nat→Hp→V→Prop)
  (st:∀{i H1 H2 y},E H H1→E H1 H2→Rel i H1 y→Rel i H2 y) (su:∀{i H1 D ys zs y},H D=none→E H H1→H1 D=some (.lst ys)→Rel i H1 y→Rel i (L2.upd H1 D (.lst zs)) y)
  (At:Nat→L2.St→Prop) (Ps:L2.St→Prop) (h0:Ps σ0) (hsz:xs.length≤sizeLine)
  (J:It) (go:∀H' i x,E H H'→xs[i]?=some x→J.go i H'∧∀y H2,J.yld i H' y H2→H2=H'∧y=x) (stop:∀H',E H H'→J.stop xs.length H')
  (hg:∀(i:Nat) (x:V) σ' H' Q',xs[i]?=some x→Ps σ'→E H H'→(∀σ2,Ps σ2→At i σ2→Q' σ2 H')→g x σ' H' Q')
  (ht:∀(i:Nat) (x:V) σ2,xs[i]?=some x→At i σ2→∀H' R,E H H'→(∀b H2,E H' H2→R b H2)→tt σ2 H' R)
  (he:∀(i:Nat) (x:V) σ2,xs[i]?=some x→At i σ2→∀H' R,E H H'→(∀y H2,E H' H2→Rel i H2 y→R y H2)→te σ2 H' R)
  (q:∀D H' ys,E H H'→H D=none→H' D=some (.lst ys)→(∃is:List Nat,is.Sublist (List.range xs.length)∧lF (fun i y=>Rel i H' y) is ys)→Q (.ref D) H'):aBo J H σ0 g tt te Q:=by
 intro D hD
 refine ⟨fun i m σ' H' ys=>i≤xs.length∧m=xs.length - i∧Ps σ'∧E H H'∧H' D=some (.lst ys)∧∃is:List Nat,is.Sublist (List.range i)∧lF (fun i y=>Rel i H' y) is ys,⟨xs.length,Nat.zero_le _,rfl,h0,eo.new _ _ hD,aH,[],List.nil_sublist _,.nil⟩,?_⟩
 rintro i m σ' H' ys ⟨hi,rfl,hps,sm,hL,is,hsub,hR⟩
 refine ⟨hL,?_⟩
 by_cases hlt:i<xs.length
 ·right
  have hx:=List.getElem?_eq_getElem hlt
  obtain ⟨g1,g2⟩:=go H' i xs[i] sm hx
  refine ⟨g1,fun x H2 hy=>?_⟩
  obtain ⟨rfl,rfl⟩:=g2 x H2 hy
  have lR:=hR.len
  have lS:=hsub.length_le
  rw [List.length_range] at lS
  refine hg i xs[i] σ' _ _ hx hps sm fun σ2 hp2 hat=>?_
  refine ht i xs[i] σ2 hx hat _ _ sm fun bb H3 s3=>?_
  have sm3:=eo.trans sm s3
  have hL3:=eo.keep D _ _ _ hD sm hL s3
  cases bb with
  |true=>
   rw [if_pos rfl]
   refine he i xs[i] σ2 hx hat _ _ sm3 fun y H4 s4 r4=>?_
   have sm4:=eo.trans sm3 s4
   have hL4:=eo.keep D _ _ _ hD sm3 hL3 s4
   refine ⟨hL4,by omega,xs.length - (i+1),by omega,hlt,rfl,hp2,eo.upd D _ _ hD sm4,aH,is++[i],by rw [List.range_succ];exact hsub.append (List.Sublist.refl _),?_⟩
   exact lF.snoc (hR.imp fun j z r=>su hD sm4 hL4 (st sm3 s4 (st sm s3 r))) (su hD sm4 hL4 r4)
  |false=>
   rw [if_neg (by simp)]
   refine ⟨hL3,xs.length - (i+1),by omega,hlt,rfl,hp2,sm3,hL3,is,by rw [List.range_succ];exact hsub.trans (List.sublist_append_left _ _),?_⟩
   exact hR.imp fun j z r=>st sm s3 r
 ·left
  have e:i=xs.length:=by omega
  subst e
  exact ⟨stop _ sm,q D _ ys sm hD hL ⟨is,hsub,hR⟩⟩
end
def At1 (σ0:L2.St) (v:V) (σ:L2.St):Prop:=∃l,σ=(σ0.set 0 l).set 0 (some v)
def Ps1 (σ0:L2.St) (σ:L2.St):Prop:=∃l,σ=σ0.set 0 l
def At2 (σ0:L2.St) (a b:V) (σ:L2.St):Prop:=σ=(σ0.set 0 (some a)).set 1 (some b)
def Ps2 (σ0:L2.St) (σ:L2.St):Prop:=∃l m,σ=(σ0.set 0 l).set 1 m
theorem hg1 {σ0:L2.St} {i:Nat} {x:V} {σ':L2.St} {H':Hp} {Q':L2.St→Hp→Prop} (h:Ps1 σ0 σ') (q:∀σ2,Ps1 σ0 σ2→At1 σ0 x σ2→Q' σ2 H'):bZ 0 x σ' H' Q':=by
 obtain ⟨l,rfl⟩:=h
 exact q _ ⟨some x,by rw [List.set_set]⟩ ⟨l,rfl⟩
theorem hg2 {K:PySem.W.Frag} {σ0:L2.St} {p:Addr} {a b:V} {σ':L2.St} {H':Hp} {Q':L2.St→Hp→Prop} (hp:SqT K H' p [a,b]) (h:Ps2 σ0 σ') (q:∀σ2,Ps2 σ0 σ2→At2 σ0 a b σ2→Q' σ2 H'):aM0 K 2 (vW (bZ 0) (vW (bZ 1) aPz)) (.ref p) σ' H' Q':=by
 obtain ⟨l,m,rfl⟩:=h
 have e:(((σ0.set 0 l).set 1 m).set 0 (some a)).set 1 (some b)=(σ0.set 0 (some a)).set 1 (some b):=by
  rw [List.set_comm _ _ (show (1:Nat)≠0 by decide),List.set_set,List.set_set]
 refine ⟨p,_,rfl,hp,rfl,_,_,rfl,_,_,rfl,rfl,?_⟩
 show Q' ((((σ0.set 0 l).set 1 m).set 0 (some a)).set 1 (some b)) H'
 rw [e]
 exact q _ ⟨some a,some b,rfl⟩ rfl
end L2
namespace L2
open PySem PySem.Spec PyProof.Rows
end L2
namespace HT
open PySem PySem.Spec PyProof.Rows L2
section
variable {prog:Program} {w:World} {A:Around} {E:Value→Shared→Prop} {s:Shared}
theorem pZ {t sl:Addr} {items:Array Value} {vl vu:Value} {lo hi:Option Int} {Q:Value→Shared→Prop} (ht:IsTup s.heap t items) (hs:s.heap.IsSliceOf sl vl vu .none) (pl:IsPart vl lo) (pu:IsPart vu hi)
  (hw:sIx items.size 0 lo=0∧sIx items.size items.size hi=items.size) (h:Q (.ref t) s):wpAny (model prog w) A (getItem (.ref t) (.ref sl)) Q E s:=by
 obtain ⟨os,hos,hcs,hds⟩:=id hs
 have hTs:s.TypeIs (.ref sl) "slice":=⟨os,hos,hcs⟩
 obtain ⟨⟨cls,dd,data,slt⟩,ho,hc,n,hd⟩:=id ht
 simp only at hc hd
 subst hc hd
 unfold getItem
 try with_reducible refine wpAny_holding ?_
 first|refine wpAny_bind (wpAny_pure ?_)|skip
 refine wpAny_bind (wpAny_sequenceKey ht.typeIs (by decide) ?_)
 refine wpAny_bind (wpAny_callSpecial?_slot (name:=Str.ofString "__getitem__") ht.typeIs PyProof.Rows.slot_tuple_getitem
  (wpAny_call_entry PyProof.Rows.slot_tuple_getitem ht.typeIs entry_tuple_getitem ?_ (args_tuple_getitem _ _)))
 show wpAny _ _ (Builtin.Tuple.tupleItemsOf (.ref t) >>= _) _ _ s
 refine wpAny_bind (tupleItemsOf_ ht ?_)
 refine wpAny_bind (wpAny_typeOf hTs ?_)
 rw [if_pos (by decide)]
 refine wpAny_bind (lH hs pl pu ?_)
 have hyes:((((sIx items.size 0 lo:Nat):Int) == 0 && (1:Int) == 1 && (sIx items.size items.size hi - sIx items.size 0 lo) == items.size)=true):=by
  rw [hw.1,hw.2]
  simp
 show wpAny _ _ (if (((sIx items.size 0 lo:Nat):Int) == 0 && (1:Int) == 1 && (sIx items.size items.size hi - sIx items.size 0 lo) == items.size)=true then _ else _) _ _ s
 rw [if_pos hyes]
 obtain ⟨hp,g,d,tk,os'⟩:=s
 wp_walk using AutoSeq1.wpAny_loadPart' ho
 exact ⟨_,rfl,wpAny_pure h⟩
end
end HT
namespace L2
open PySem PySem.Spec PyProof.Rows
def aXr (K:PySem.W.Frag):V→Option Int→Option Int→Hp→VK→Prop:=fun x lo hi H Q=>∃a xs,x=.ref a∧SqT K H a xs∧∀p H',Same H H'→SqT K H' p (wF xs lo hi)→Q (.ref p) H'
theorem aQ3 {X:Cx}:SlR X (aXr X.K):=by
 intro pins s σ H x v vl vu lo hi sl Q I rx hs pl pu h
 obtain ⟨a,xs,rfl,hx,q⟩:=h
 by_cases hw:HT.sIx xs.length 0 lo=0∧HT.sIx xs.length xs.length hi=xs.length
 ·cases rx
  obtain ⟨its,r,ht,hz⟩:=I.tuple hx
  have hlen:its.toArray.size=xs.length:=by rw [List.size_toArray];exact r.length.symm
  refine ⟨"tuple",_,PyProof.Rows.slot_tuple_getitem.lookup,ht.typeIs,?_⟩
  refine HT.pZ ht hs pl pu (by rw [hlen];exact hw) ⟨.ref a,H,I,rfl,q a H (Same.refl H) ?_⟩
  have e:wF xs lo hi=xs:=by
   unfold wF
   rw [hw.1,hw.2,List.drop_zero,Nat.sub_zero,List.take_length]
  rw [e]
  exact hx
 ·exact aEi pins s σ H _ v vl vu lo hi sl Q I rx hs pl pu ⟨a,xs,rfl,hx,hw,fun p H' s' g'=>q p H' s' (SqT.of g')⟩
end L2
namespace L2
open PySem PySem.Spec PyProof.Rows
section
variable {X:Cx}
def aVl:List V→Hp→VK→Prop:=fun xs H Q=>∃d kvs,xs=[.ref d]∧H d=some (.dK kvs)∧∀p H',H p=none→Same H H'→H' p=some (.dK kvs)→Q (.ref p) H'
theorem aJl:cD X (.type "dict") aVl:=by
 intro pins s σ H xs us Q I r h
 obtain ⟨d,kvs,rfl,hd,q⟩:=h
 obtain ⟨u,rfl,ru⟩:=vals1 r
 cases ru
 obtain ⟨z,hm,vs,rel,dd⟩:=aBb I.hok hd
 have hl:vs.length≤sizeLine:=by
  have:=Paired.length rel
  omega
 refine kt_call_dict hm dd hl fun h' hd' hs'=>?_
 have hf:H s.heap.objs.size=none:=I.hok.fresh (Nat.le_refl _)
 refine ⟨.ref s.heap.objs.size,_,I.laid (t':=s.toks) (o:=.dK kvs) (fun b o e=>hs'.extBut b o (Nat.ne_of_lt (Heap.lt_size e)) (Heap.get?_push_of_some _ e)) (Nat.le_refl _) ?_,rfl,q _ _ hf (bG hf _) aH⟩
 exact ⟨z,beq_eq_false_iff_ne.mpr (Ne.symm (Nat.ne_of_lt I.big)),vs,rel,hd'⟩
end
inductive PH (P:Program) (w:World):List DictEntry→List (Str × Value)→Prop
 |nil:PH P w [] []
 |cons {e:DictEntry} {kv:Str × Value} {es:List DictEntry} {kvs:List (Str × Value)}:(strKind P w).is kv.1 e.key=true→e.hash=(strKind P w).hash kv.1→e.val=kv.2→PH P w es kvs→PH P w (e::es) (kv::kvs)
theorem PH.keys {P:Program} {w:World} {es:List DictEntry} {kvs:List (Str × Value)} (h:PH P w es kvs):∀e∈es,∃k,(strKind P w).is k e.key=true∧e.hash=(strKind P w).hash k:=by
 induction h with
 |nil=>intro e he;cases he
 |cons a b c _ ih=>
  intro e he
  rcases List.mem_cons.mp he with rfl|he
  ·exact ⟨_,a,b⟩
  ·exact ih e he
theorem PH.pairs {P:Program} {w:World} {es:List DictEntry} {kvs:List (Str × Value)} (h:PH P w es kvs):Pairs (strKind P w) es kvs:=by
 induction h with
 |nil=>exact .nil
 |cons a b c _ ih=>exact .cons a c ih
theorem aMd {P:Program} {w:World} {o:Obj} {es:Array DictEntry} {ep:Nat} {kvs:List (Str × Value)} (hx:o.ExactDict) (hd:o.data=.dict es ep) (h:PH P w es.toList kvs) (nd:(kvs.map (·.1)).Nodup):o.IsDictOf (strKind P w) kvs:=
 ⟨es,ep,hx,hd,fun e he=>h.keys e (Array.mem_toList_iff.mpr he),h.pairs,nd⟩
end L2
namespace PySem
section
variable {prog:Program} {w:World} {A:Around} {E:Value→Shared→Prop} {s:Shared}
end
end PySem
namespace PySem
section
variable {prog:Program} {w:World} {κ:Type} [DecidableEq κ] {knd:KeyKind prog w κ}
end
end PySem
namespace PySem
section
variable {prog:Program} {w:World} {κ:Type} [DecidableEq κ] {knd:KeyKind prog w κ} {A:Around} {E:Value→Shared→Prop} {s:Shared}
end
end PySem
namespace PySem
open PySem.Calls PyProof.Rows
section
variable {prog:Program} {w:World} {κ:Type} [DecidableEq κ] {knd:PySem.KeyKind prog w κ} {A:Around} {E:Value→Shared→Prop} {s:Shared}
end
end PySem
namespace L2
open PySem PySem.Spec PyProof.Rows
section
variable {X:Cx}
end
section
variable {X:Cx} {e st:Expr} {te ts:TE} {pos p2:Pos}
end
section
variable {X:Cx} {o i value:Expr} {td ty tv:TE} {pos pos':Pos}
theorem aSg (hu:X.A.units+1<cLine) (ho:VE X o td) (hi:VE X i ty) (hv:VE X value tv) (hs:swapsWith value (some (.Subscript o i pos')) pos.line X.env=pure false:=by rfl):VS X (.Assign [.Subscript o i pos'] value pos) (aTh td ty tv):=⟨aQx hu ho.1 hi.1 hv.1 hs⟩
end
theorem aQn {X:Cx} {pos:Pos} {o i:Expr} {to ti:TE} {t:aSv} (ho:VE X o to) (hi:VE X i ti) (hs:aVj X t)
  (ha:∀v,assign (.Subscript o i pos) X.env v=(do
   let ov ←holding [v] (eval o X.env)
   let iv ←holding [v,ov] (eval i X.env)
   standAt pos
   holding [v,ov,iv] (setItem ov iv v)
   release [v,ov,iv] []):=by intro _;rfl):VG X (.Subscript o i pos) (aW5 to ti t):=⟨aVa ho.1 hi.1 hs ha⟩
theorem pJ {X:Cx}:MtR X "list.reverse" aG1:=aHp
abbrev M61:Int:=2305843009213693951
def jW (H:Hp) (a:Addr):Prop:=∃s d:Int,H a=some (.lst [.int s,.int d])∧(0≤s∧s<M61)∧0≤d
structure Fx (a:Addr) (H H':Hp):Prop where
 same:∀b o,b≠a→H b=some o→H' b=some o
 st:jW H' a
theorem Fx.trans {a:Addr} {H H1 H2:Hp} (f:Fx a H H1) (g:Fx a H1 H2):Fx a H H2:=⟨fun b o n e=>g.same b o n (f.same b o n e),g.st⟩
theorem jW.same {a:Addr} {H H':Hp} (h:jW H a) (e:Same H H'):jW H' a:=by
 obtain ⟨s,d,h1,h2⟩:=h
 exact ⟨s,d,e _ _ h1,h2⟩
theorem Fx.of {a:Addr} {H H':Hp} (h:jW H a) (e:Same H H'):Fx a H H':=⟨fun b o _ q=>e b o q,h.same e⟩
theorem Fx.refl {a:Addr} {H:Hp} (h:jW H a):Fx a H H:=.of h (Same.refl H)
theorem Fx.sm {a:Addr} {H H1 H2:Hp} (f:Fx a H H1) (e:Same H1 H2):Fx a H H2:=f.trans (.of f.st e)
theorem jW.ne {a p:Addr} {H:Hp} (h:jW H a) (f:H p=none):p≠a:=by
 obtain ⟨s,d,h1,_⟩:=h
 exact (aZ h1 f).symm
theorem Fx.aP {K:PySem.W.Frag} {a p:Addr} {H H':Hp} {xs:List V} (f:Fx a H H') (h:jW H a) (e:SqT K H p xs):SqT K H' p xs:=by
 obtain ⟨s,d,h1,_⟩:=h
 rcases e with (e|⟨o,e⟩)|e
 ·exact .inl (.inl (f.same p _ (aAw e h1 (by intro z;cases z)) e))
 ·exact .inl (.inr ⟨o,f.same p _ (aAw e h1 (by intro z;cases z)) e⟩)
 ·exact .inr e
theorem Fx.upd {a D:Addr} {H H':Hp} {o:HO} (f:Fx a H H') (hD:H D=none) (ne:D≠a):Fx a H (L2.upd H' D o):=⟨fun b u n e=>by rw [aU (aZ e hD)];exact f.same b u n e,by
 obtain ⟨s,d,h1,h2⟩:=f.st
 exact ⟨s,d,by rw [aU ne.symm];exact h1,h2⟩⟩
theorem Fx.free {a p:Addr} {H H':Hp} (f:Fx a H H') (h:H' p=none):H p=none:=by
 cases e:H p with
 |none=>rfl
 |some o=>
  by_cases z:p=a
  ·subst z
   obtain ⟨s,d,hs,_⟩:=f.st
   rw [hs] at h;cases h
  ·rw [f.same p o z e] at h;cases h
theorem aQo {a:Addr} {H:Hp} (h:jW H a):aSd (Fx a) H:=⟨fun D o hD=>.of h (bG hD o),fun a b=>a.trans b,fun D o H' hD f=>f.upd hD (h.ne hD),fun D H1 H2 xs hD _ e f=>f.same _ _ (h.ne hD) e⟩
theorem aL9:bootBuiltins "divmod"=some (.builtin "divmod"):=by decide +kernel
def aW9:List V→Hp→VK→Prop:=fun xs H Q=>∃i j,xs=[.int i,.int j]∧(0<j∧j<2 ^ 64)∧∀p H',H p=none→Same H H'→H' p=some (.tup [.int (i / j),.int (i % j)])→Q (.ref p) H'
theorem aNb {X:Cx}:cD X (.builtin "divmod") aW9:=by
 intro pins s σ H xs us Q I r h
 obtain ⟨i,j,rfl,⟨h1,h2⟩,q⟩:=h
 obtain ⟨u,w',rfl,⟨t,rfl⟩,⟨t',rfl⟩⟩:=vals2 r
 have h64:j.natAbs<2 ^ 64:=by omega
 have hlog:j.natAbs.log2<9000:=by
  have:=(Nat.log2_lt (show j.natAbs≠0 by omega)).mpr h64
  omega
 refine divmod_int (by omega) ?_ (.inl (PyProof.noPylong_of_log2 hlog))
 rw [Int.fdiv_eq_ediv_of_nonneg i (by omega),Int.fmod_eq_emod_of_nonneg i (by omega)]
 have hn:H s.heap.objs.size=none:=I.hok.fresh (Nat.le_refl _)
 refine ⟨.ref s.heap.objs.size,upd H s.heap.objs.size (.tup [.int (i / j),.int (i % j)]),?_,rfl,q _ _ hn (bG hn _) aH⟩
 refine I.laid (fun b o e=>Heap.get?_push_of_some _ e) (Nat.le_refl _) ⟨by simp only [List.length_cons,List.length_nil];rw [sizeLine_eq];decide,[.int (i / j) s.toks,.int (i % j) (s.toks+1)],.cons ⟨_,rfl⟩ (.cons ⟨_,rfl⟩ .nil),?_⟩
 exact .of (Heap.get?_push_size s.heap rfl) rfl ⟨_,Heap.get?_push_size s.heap rfl,rfl,0,rfl⟩
end L2
namespace PySem
section
variable {prog:Program} {w:World} {A:Around} {E:Value→Shared→Prop} {s:Shared}
end
section
variable {prog:Program} {w:World} {κ:Type} [DecidableEq κ] {knd:KeyKind prog w κ}
end
end PySem
namespace PySem
section
variable {prog:Program} {w:World} {A:Around} {E:Value→Shared→Prop} {s:Shared}
end
section
variable {prog:Program} {w:World} {κ:Type} [DecidableEq κ] {knd:KeyKind prog w κ} {A:Around} {E:Value→Shared→Prop} {s:Shared}
end
end PySem
namespace L2
open PySem PySem.Spec PyProof.Rows
section
variable {X:Cx} {a b:Expr} {ta:TA} {pos p pos2 p2:Pos}
end
end L2
namespace My
open PySem PySem.Spec PyProof.Rows L2
section
variable {P:Program} {w:World} {K:PySem.W.Frag} {mg:Str→Option Value} {base:Heap}
theorem aLa {z:Str} {j:Int} (h0:0≤j) (h1:j<z.length):∃c,z.cps[j.toNat]?=some c:=
 ⟨_,Array.getElem?_eq_getElem (by show j.toNat<z.length;omega)⟩
theorem aCr (x y:Str):(x++y).length=x.length+y.length:=by
 show (x.cps++y.cps).size=_
 rw [Array.size_append]
 rfl
theorem at_of {xs:List V} {j:Int} (h0:0≤j) (h1:j<xs.length):∃v,atI xs j=some v∧v∈xs:=by
 have hj:j.toNat<xs.length:=by omega
 refine ⟨xs[j.toNat],?_,List.getElem_mem hj⟩
 have e2:atI xs ((j.toNat:Nat):Int)=some xs[j.toNat]:=dO (List.getElem?_eq_getElem hj)
 rw [show ((j.toNat:Nat):Int)=j by omega] at e2
 exact e2
def Lets (x:Str):Prop:=∀c∈x.cps,97≤c∧c≤122
theorem aR3:∀k:_root_.Fin 26,inA ⟨#[97+k.val]⟩=true:=by decide +kernel
theorem aUn {c:Nat} (h1:97≤c) (h2:c≤122):inA ⟨#[c]⟩=true:=by
 have:=aR3 ⟨c - 97,by omega⟩
 simp only at this
 rw [show 97+(c - 97)=c by omega] at this
 exact this
theorem allIn_of {x:Str} (h:Lets x):allIn x=true:=by
 unfold allIn
 rw [List.all_eq_true]
 intro b hb
 obtain ⟨i,hi,rfl⟩:=List.mem_map.mp hb
 have hi':i<x.cps.size:=List.mem_range.mp hi
 have e:x.cps.getD i 0=x.cps[i]:=by rw [Array.getD_eq_getD_getElem?,Array.getElem?_eq_getElem hi'];rfl
 obtain ⟨h1,h2⟩:=h _ (Array.getElem_mem hi')
 show inA (sgn x i)=true
 unfold sgn
 rw [e]
 exact aUn h1 h2
theorem Lets.add {x y:Str} (hx:Lets x) (hy:Lets y):Lets (x++y):=fun c hc=>by
 have hc:c∈x.cps++y.cps:=hc
 rcases Array.mem_append.mp hc with h|h
 ·exact hx c h
 ·exact hy c h
theorem Lets.one {z:Str} {i c:Nat} (hz:Lets z) (h:z.cps[i]?=some c):Lets ⟨#[c]⟩:=fun d hd=>by
 have hd:d∈#[c]:=hd
 have e:d=c:=by simpa using hd
 subst e
 exact hz _ (Array.mem_of_getElem? h)
theorem aEu:Lets abc:=by
 have h:(abc.cps.all fun c=>decide (97≤c) && decide (c≤122))=true:=by decide +kernel
 intro c hc
 have:=(Array.all_eq_true_iff_forall_mem.mp h) c hc
 rw [Bool.and_eq_true] at this
 exact ⟨of_decide_eq_true this.1,of_decide_eq_true this.2⟩
inductive qZ:Str→V→Prop
 |num {i}:qZ "number" (.int i)
 |wrd {x}:Lets x→x.length≤8→qZ "word" (.str x)
def aDy (K:PySem.W.Frag):Sp:=fun vs H Q _=>∃(a:Addr) (ns:List Int),vs=[.ref a]∧SqL K H a (ns.map V.int)∧ns.length≤63∧∀c H',Same H H'→0≤c→c<M61→Q (.int c) H'
theorem aCb (T:Txt w K mg):Ok P w K mg base 1 "_law_seed" ["_law_script"] (aDy K):=by
 refine Ok.ofV T.aGr gK (fun vs H Q E h=>?_) (fun f cdv A outer s H vs Q E hr h=>?_)
 ·obtain ⟨a,ns,rfl,_⟩:=h;rfl
 obtain ⟨a,ns,rfl,ha,h63,q⟩:=h
 refine ⟨_,(aC (bA (i:=1) gK.nd rfl (by trivial) aD) (aC (iW PassesOwn.never rfl (aQ1 (by rfl) T.aEx (aB (vv 0) aA)) (uU rfl (bK (aO (i:=2) gK.nd rfl (by trivial)) (bK (aO (i:=3) gK.nd rfl (by trivial)) fH))) (aG (bA (i:=1) gK.nd rfl (by trivial) (bR pC (bR eF (bR eF (bR eF (bR aD9 (vv 1) aD) (bR pC (vv 3) (bR aJk aD aD))) (bR aD9 aD (vv 2))) aD) aD)))) (aG (aJ (vv 1))))),?_⟩
 refine ⟨_,rfl,a,ns.map V.int,rfl,ha,aOj (fun i σ H'=>Same H H'∧∃(c:Int) (l2 l3:Option V),0≤c∧c<M61∧σ=[some (.ref a),some (.int c),l2,l3]) ⟨Same.refl H,7,_,_,by decide,by decide,rfl⟩ (fun i σ H' _ ⟨e,_⟩=>e.seq ha) ?_ ?_⟩
 ·rintro i σ H' x Tp H'' ex ⟨sm,c,l2,l3,c0,c1,rfl⟩ hT rfl
  obtain ⟨z,hz,rfl⟩:=gC ex
  refine ⟨Tp,_,rfl,SqT.of aH,rfl,_,_,rfl,_,_,rfl,rfl,?_⟩
  refine ⟨_,rfl,_,_,rfl,rfl,.inr ⟨by decide,by decide⟩,_,rfl,_,_,rfl,rfl,⟨by decide,by decide,by decide⟩,_,_,rfl,rfl,(by show (0:Int)<10 ^ 30;decide),_,_,rfl,rfl,_,rfl,_,_,rfl,rfl,.inl ⟨by decide,by decide⟩,_,_,rfl,rfl,_,_,rfl,rfl,_,_,rfl,rfl,(by show (0:Int)<2305843009213693951;decide),?_⟩
  exact ⟨sm.trans (bG hT _),_,_,_,Int.emod_nonneg _ (by decide),Int.emod_lt_of_pos _ (by decide),rfl⟩
 ·rintro σ H' ⟨sm,c,l2,l3,c0,c1,rfl⟩
  exact ⟨_,rfl,q c H' sm c0 c1⟩
def kZ:Sp:=fun vs H Q _=>∃(a:Addr) (m:Int),vs=[.ref a,.int m]∧jW H a∧(0<m∧m<2 ^ 64)∧∀c H',Fx a H H'→0≤c→c<m→Q (.int c) H'
theorem aDa (T:Txt w K mg):Ok P w K mg base 1 "_law_next" ["_law_state","_law_many"] kZ:=by
 refine Ok.ofV T.aG0 uI (fun vs H Q E h=>?_) (fun f cdv A outer s H vs Q E hr h=>?_)
 ·obtain ⟨a,m,rfl,_⟩:=h;rfl
 obtain ⟨a,m,rfl,⟨st,dg,hs,s0,d0⟩,⟨hm,hm2⟩,q⟩:=h
 refine ⟨_,(aC (bL (aW aKo (aM bD (vv 0) aD (fun _ _=>rfl)) aD (aY _)) (aC (aDp (aN aNb (by rfl) T.aO6 aL9 (aB (aM bD (vv 0) aD (fun _ _=>rfl)) (aB (vv 1) aA))) (uU rfl (bK (aQn (vv 0) aD set_list) (bK (aO (i:=2) uI.nd rfl (by trivial)) fH)))) (aG (aJ (vv 2)))) aX) (aC (aDp (bR pC (bR eF (bR aD9 (aM bD (vv 0) aD (fun _ _=>rfl)) aD) aD) aD) (aQn (vv 0) aD set_list)) (aG (aJ (bR pC (bR aK2 (aM bD (vv 0) aD (fun _ _=>rfl)) aD) (vv 1)))))),?_⟩
 refine ⟨_,rfl,a,_,1,_,rfl,rfl,SqL.of hs,at1 _ _ _,_,_,rfl,rfl,_,rfl,sO (fun c=>?_) fun c=>?_⟩
 ·refine ⟨_,rfl,a,_,1,_,rfl,rfl,SqL.of hs,at1 _ _ _,_,rfl,_,_,rfl,⟨hm,hm2⟩,fun p H1 fp s1 g1=>?_⟩
  refine ⟨p,_,rfl,SqT.of g1,rfl,_,_,rfl,⟨_,rfl,a,_,1,1,rfl,rfl,s1 _ _ hs,rfl,?_⟩⟩
  refine ⟨_,_,rfl,rfl,_,rfl,?_⟩
  exact q _ _ ⟨fun b o n h=>by rw [aU n];exact s1 _ _ h,st,dg / m,aH,s0,Int.ediv_nonneg d0 (by omega)⟩ (Int.emod_nonneg _ (by omega)) (Int.emod_lt_of_pos _ hm)
 ·refine ⟨_,rfl,a,_,0,_,rfl,rfl,SqL.of hs,at0 _ _,_,_,rfl,rfl,.inr ⟨by decide,by decide⟩,_,_,rfl,rfl,_,_,rfl,rfl,(by show (0:Int)<2305843009213693951;decide),?_⟩
  refine ⟨_,rfl,a,_,0,0,rfl,rfl,hs,rfl,?_⟩
  refine ⟨_,rfl,a,[.int ((st * 1181783497276652981+12345678910987) % 2305843009213693951),.int dg],0,_,rfl,rfl,SqL.of aH,at0 _ _,_,_,rfl,rfl,⟨by decide,by decide⟩,_,rfl,_,_,rfl,rfl,hm,?_⟩
  exact q _ _ ⟨fun b o n h=>by rw [aU n];exact h,(st * 1181783497276652981+12345678910987) % 2305843009213693951,dg,aH,⟨Int.emod_nonneg _ (by decide),Int.emod_lt_of_pos _ (by decide)⟩,d0⟩ (Int.emod_nonneg _ (by omega)) (Int.emod_lt_of_pos _ hm)
def aHj (K:PySem.W.Frag):Sp:=fun vs H Q _=>∃(a:Addr) (ns:List Int),vs=[.ref a]∧SqL K H a (ns.map V.int)∧ns.length≤63∧∀p H',H p=none→Same H H'→jW H' p→Q (.ref p) H'
theorem zQ (T:Txt w K mg) (aE1:Ok P w K mg base 1 "_law_seed" ["_law_script"] (aDy K)):Ok P w K mg base 2 "_law_begin" ["_law_script"] (aHj K):=by
 refine Ok.ofV T.aDn lD (fun vs H Q E h=>?_) (fun f cdv A outer s H vs Q E hr h=>?_)
 ·obtain ⟨a,ns,rfl,_⟩:=h;rfl
 obtain ⟨a,ns,rfl,ha,h63,q⟩:=h
 refine ⟨_,(aC (bA (i:=1) lD.nd rfl (by trivial) aD) (aC (bL (VW.pt (aO9 (aW aKo (aN bC (by rfl) T.dU cI (aB (vv 0) aA)) aD (aY _)) (aKc (aW cB (bR pC (aM bD (vv 0) aD (fun _ _=>rfl)) aD) aD (aY _))))) (aG (bA (i:=1) lD.nd rfl (by trivial) (bR aK2 (aN aOx (by rfl) T.aWw aVf (aB (aM bD (vv 0) aD (fun _ _=>rfl)) aA)) aD))) aX) (aG (aJ (dR (aB (aL (aE1.mono (by decide)) hr (by rfl) (aB (vv 0) aA)) (aB (vv 1) aA))))))),?_⟩
 have fin:∀dg:Int,0≤dg→∀(σ:L2.St),σ=[some (.ref a),some (.int dg)]→(xU (aTv (dH (tL (aDy K) [] E0 (dH (aJb 0) aIt)) (dH (aJb 1) aIt)))) { nx:=fun _ H'=>Q V.non H',rt:=Q } σ H:=by
  rintro dg d0 σ rfl
  exact ⟨_,rfl,a,ns,rfl,ha,h63,fun c H1 s1 c0 c1=>⟨_,rfl,(by show 2≤sizeLine;decide),fun p H2 fp s2 g2=>q p H2 (s1.free fp) (s1.trans s2) ⟨c,dg,g2,⟨c0,c1⟩,d0⟩⟩⟩
 refine ⟨_,rfl,a,_,rfl,.inl ha,_,_,rfl,rfl,_,rfl,?_⟩
 cases ns with
 |nil=>exact bF (fin 0 (by decide) _ rfl)
 |cons n r=>
  have e1:decide ((0:Int)<((n::r).map V.int).length)=true:=decide_eq_true (by simp)
  rw [show (decide (((((n::r).map V.int).length:Nat):Int) > 0))=true from e1]
  refine cV ⟨_,rfl,a,_,0,.int n,rfl,rfl,ha,at0 _ _,_,_,rfl,rfl,(by show (0:Int)<2;decide),rfl,_,rfl,sO (fun c=>?_) fun c=>?_⟩
  ·exact ⟨_,rfl,a,_,0,.int n,rfl,rfl,ha,at0 _ _,_,rfl,_,_,rfl,rfl,⟨by decide,by decide⟩,fin _ (Int.ediv_nonneg (by split <;> omega) (by decide)) _ rfl⟩
  ·exact fin 0 (by decide) _ rfl
def aGl:Sp:=fun vs H Q _=>∃a:Addr,vs=[.ref a]∧jW H a∧∀i H',Fx a H H'→Q (.int i) H'
theorem zP (T:Txt w K mg) (aR:Ok P w K mg base 1 "_law_next" ["_law_state","_law_many"] kZ):Ok P w K mg base 2 "_law_great" ["_law_state"] aGl:=by
 refine Ok.ofV T.aCq iM (fun vs H Q E h=>?_) (fun f cdv A outer s H vs Q E hr h=>?_)
 ·obtain ⟨a,rfl,_⟩:=h;rfl
 obtain ⟨a,rfl,hs,q⟩:=h
 refine ⟨_,(aC (bA (i:=1) iM.nd rfl (by trivial) aD) (aC (iW PassesOwn.never rfl (eN (by rfl) T.jC (aB aD aA)) (aO (i:=2) iM.nd rfl (by trivial)) (aG (bA (i:=1) iM.nd rfl (by trivial) (bR eF (bR aD9 (vv 1) (bR aJk aD aD)) (aL (aR.mono (by decide)) hr (by rfl) (aB (vv 0) (aB (bR aJk aD aD) aA))))))) (aG (aJ (aM bD (dR (aB (vv 1) (aB (bR aI4 aD (vv 1)) aA))) (aL (aR.mono (by decide)) hr (by rfl) (aB (vv 0) (aB aD aA))) (fun _ _=>rfl)))))),?_⟩
 refine ⟨_,rfl,by decide,by decide,iG (n:=4) (fun i σ H'=>Fx a H H'∧∃(c:Int) (l2:Option V),σ=[some (.ref a),some (.int c),l2]) ⟨.refl hs,0,_,rfl⟩ ?_ ?_⟩
 ·rintro i σ H' hi ⟨fx,c,l2,rfl⟩
  refine ⟨_,rfl,_,_,rfl,rfl,⟨by decide,by decide,by decide⟩,_,_,rfl,rfl,.inr ⟨by decide,by decide⟩,_,rfl,_,_,rfl,rfl,⟨by decide,by decide,by decide⟩,a,_,rfl,fx.st,(by show (0:Int)<10 ^ 15∧(10:Int) ^ 15<2 ^ 64;decide),fun d H1 f1 _ _=>?_⟩
  exact ⟨_,_,rfl,rfl,fx.trans f1,_,_,rfl⟩
 ·rintro σ H' ⟨fx,c,l2,rfl⟩
  refine ⟨_,rfl,_,rfl,_,_,rfl,rfl,(by show 2≤sizeLine;decide),fun p H1 fp s1 g1=>?_⟩
  refine ⟨_,rfl,a,2,rfl,fx.st.same s1,by decide,fun d H2 f2 d0 d1=>?_⟩
  obtain ⟨v,hv,mv⟩:=at_of (xs:=[.int c,.int (0 - c)]) d0 (by show d<2;omega)
  refine ⟨p,_,_,v,rfl,rfl,SqL.of (f2.same _ _ (fx.st.ne fp) g1),hv,?_⟩
  simp only [List.mem_cons,List.not_mem_nil,or_false] at mv
  rcases mv with rfl|rfl
  ·exact q _ _ ((fx.sm s1).trans f2)
  ·exact q _ _ ((fx.sm s1).trans f2)
abbrev aJ1:List V:=[.str "",.str "a",.str "b",.str "ab"]
def aQ7 (k:Str):Prop:=k = "number"∨k = "word"
def aBt:Sp:=fun vs H Q _=>∃(a:Addr) (kd:Str),vs=[.ref a,.str kd]∧jW H a∧aQ7 kd∧∀v H',Fx a H H'→qZ kd v→Q v H'
theorem aIg {v:V} (h:v∈aJ1):qZ "word" v:=by
 simp only [aJ1,List.mem_cons,List.not_mem_nil,or_false] at h
 have le:∀x:Str,(x.cps.all fun c=>decide (97≤c) && decide (c≤122))=true→Lets x:=fun x hx c hc=>by
  have:=(Array.all_eq_true_iff_forall_mem.mp hx) c hc
  rw [Bool.and_eq_true] at this
  exact ⟨of_decide_eq_true this.1,of_decide_eq_true this.2⟩
 rcases h with rfl|rfl|rfl|rfl
 ·exact .wrd (le _ (by decide +kernel)) (by decide +kernel)
 ·exact .wrd (le _ (by decide +kernel)) (by decide +kernel)
 ·exact .wrd (le _ (by decide +kernel)) (by decide +kernel)
 ·exact .wrd (le _ (by decide +kernel)) (by decide +kernel)
theorem aAd (T:Txt w K mg) (aR:Ok P w K mg base 1 "_law_next" ["_law_state","_law_many"] kZ) (aD4:Ok P w K mg base 2 "_law_great" ["_law_state"] aGl):Ok P w K mg base 3 "_law_value" ["_law_state","_law_kind"] aBt:=by
 refine Ok.ofV T.aDl eX (fun vs H Q E h=>?_) (fun f cdv A outer s H vs Q E hr h=>?_)
 ·obtain ⟨a,kd,rfl,_⟩:=h;rfl
 obtain ⟨a,kd,rfl,hs,hk,q⟩:=h
 refine ⟨_,(aC (bA (i:=2) eX.nd rfl (by trivial) (aL (aR.mono (by decide)) hr (by rfl) (aB (vv 0) (aB aD aA)))) (aC (bL (aW cB (vv 1) aQ (aY _)) (aG (aJ (aM bD (dR (aB (bR aI4 (aL (aR.mono (by decide)) hr (by rfl) (aB (vv 0) (aB aD aA))) aD) (aB (aL (aD4.mono (by decide)) hr (by rfl) (aB (vv 0) aA)) aA))) (bT aL3 (by rfl) T.aOu aI6 (aB (dC cB (vv 2) aD (aY _)) aA)) (fun _ _=>rfl)))) aX) (aC (bL (aW aTk (vv 2) aD (aY _)) (aG (aJ (aM bD (dR (aB aQ (aB aQ (aB aQ (aB aQ aA))))) (bR pC (vv 2) aD) (fun _ _=>rfl)))) aX) (aC (bA (i:=3) eX.nd rfl (by trivial) aQ) (aC (iW PassesOwn.never rfl (eN (by rfl) T.jC (aB (aL (aR.mono (by decide)) hr (by rfl) (aB (vv 0) (aB aD aA))) aA)) (aO (i:=4) eX.nd rfl (by trivial)) (aG (bA (i:=3) eX.nd rfl (by trivial) (bR nQ (vv 3) (jX aQ (aL (aR.mono (by decide)) hr (by rfl) (aB (vv 0) (aB aD aA))) (fun _ _=>rfl)))))) (aG (aJ (vv 3)))))))),?_⟩
 refine ⟨_,rfl,a,10,rfl,hs,by decide,fun way H1 f1 w0 w1=>?_⟩
 rcases hk with rfl|rfl
 ·refine ⟨_,rfl,rfl,_,rfl,cV ?_⟩
  refine ⟨_,rfl,a,4,rfl,f1.st,by decide,fun d H2 f2 d0 d1=>?_⟩
  refine ⟨_,_,rfl,rfl,_,rfl,a,rfl,f2.st,fun g H3 f3=>?_⟩
  refine ⟨(by show 2≤sizeLine;decide),fun p H4 _ s4 g4=>?_⟩
  have fx:=(f1.trans (f2.trans f3)).sm s4
  refine ⟨_,rfl,rfl,.inr ⟨_,rfl,?_⟩⟩
  by_cases e:way=9
  ·rw [decide_eq_true (congrArg V.int e)]
   exact ⟨p,_,_,_,rfl,rfl,SqL.of g4,dO (j:=1) rfl,q _ _ fx .num⟩
  ·rw [decide_eq_false (by intro z;exact e (V.int.inj z))]
   exact ⟨p,_,_,_,rfl,rfl,SqL.of g4,dO (j:=0) rfl,q _ _ fx .num⟩
 ·refine ⟨_,rfl,rfl,_,rfl,bF ?_⟩
  refine ⟨_,rfl,_,_,rfl,rfl,_,rfl,sO (fun _=>?_) (fun _=>?_)⟩
  ·refine ⟨(by show 4≤sizeLine;decide),fun p H4 _ s4 g4=>?_⟩
   obtain ⟨v,hv,mv⟩:=at_of (xs:=aJ1) (j:=way % 4) (by omega) (by show way % 4<4;omega)
   exact ⟨_,rfl,_,_,rfl,rfl,(by show (0:Int)<4;decide),p,_,_,v,rfl,rfl,SqL.of g4,hv,q _ _ (f1.sm s4) (aIg mv)⟩
  ·refine ⟨_,rfl,a,9,rfl,f1.st,by decide,fun n H2 f2 n0 n1=>?_⟩
   refine ⟨_,rfl,by omega,by omega,iG (n:=n.toNat) (fun i σ H'=>Fx a H H'∧∃(x:Str) (l4:Option V),σ=[some (.ref a),some (.str "word"),some (.int way),some (.str x),l4]∧x.length≤i∧Lets x) ⟨f1.trans f2,_,_,rfl,by decide +kernel,fun d hd=>by simp [show (("":Str).cps)=#[] from rfl] at hd⟩ ?_ ?_⟩
   ·rintro i σ H' hi ⟨fx,x,l4,rfl,hl,hx⟩
    have al:abc.length=26:=by decide +kernel
    refine ⟨_,rfl,_,rfl,a,26,rfl,fx.st,by decide,fun d H3 f3 d0 d1=>?_⟩
    obtain ⟨ch,hch⟩:=aLa (z:=abc) d0 (by rw [al];exact d1)
    refine ⟨_,_,_,rfl,rfl,d0,(by omega),(by rw [al];exact d1),hch,_,_,rfl,rfl,?_,fx.trans f3,_,_,rfl,?_,hx.add (aEu.one hch)⟩
    ·show x.length+1≤sizeLine
     exact small (by omega)
    ·rw [aCr]
     show x.length+1≤i+1
     omega
   ·rintro σ H' ⟨fx,x,l4,rfl,hl,hx⟩
    exact ⟨_,rfl,q _ _ fx (.wrd hx (by omega))⟩
def aA8:Sp:=fun vs H Q _=>vs=[]∧∀p H',H p=none→Same H H'→H' p=some (.lst words)→Q (.ref p) H'
theorem zW (T:Txt w K mg):Ok P w K mg base 1 "_law_words" [] aA8:=by
 refine Ok.ofV T.aCw qI (fun vs H Q E h=>?_) (fun f cdv A outer s H vs Q E hr h=>?_)
 ·obtain ⟨rfl,_⟩:=h;rfl
 obtain ⟨rfl,q⟩:=h
 refine ⟨_,(aC (bA (i:=0) qI.nd rfl (by trivial) (dR (aB aQ (aB aQ (aB aQ (aB aQ (aB aQ (aB aQ (aB aQ (aB aQ (aB aQ aA))))))))))) (aG (aJ (bR aOd (vv 0) (dR (aB aQ (aB aQ (aB aQ (aB aQ (aB aQ (aB aQ (aB aQ (aB aQ aA))))))))))))),?_⟩
 refine ⟨(by show 9≤sizeLine;decide),fun p1 H1 _ s1 g1=>?_⟩
 refine ⟨_,rfl,(by show 8≤sizeLine;decide),fun p2 H2 _ s2 g2=>?_⟩
 exact ⟨p1,p2,_,_,rfl,rfl,s2 _ _ g1,g2,(by show 9+8≤sizeLine;decide),fun p H3 f3 s3 g3=>q p H3 ((s1.trans s2).free f3) (s1.trans (s2.trans s3)) g3⟩
def qC (ns:List Str):Prop:=ns.length=17∧(∀n∈ns,Nm n)∧ns.Nodup
theorem qC.rev {ns:List Str} (h:qC ns):qC ns.reverse:=⟨by rw [List.length_reverse];exact h.1,fun n hn=>h.2.1 n (List.mem_reverse.mp hn),List.pairwise_reverse.mpr (h.2.2.imp fun q=>Ne.symm q)⟩
theorem aUw:∀j:_root_.Fin 26,abc.cps[j.val]?=some (97+j.val):=by decide +kernel
theorem aRb {j:Nat} (h:j<26):abc.cps[j]?=some (97+j):=aUw ⟨j,h⟩
def sgl (o:Nat):List Str:=(List.range 17).map fun k=>⟨#[97+(o+k)]⟩
theorem aK6:∀o:_root_.Fin 10,((sgl o.val).all fun n=>nameB (.str n))=true∧(Txt.slice abc (some (o.val:Int)) (some ((o.val:Int)+17))).cps.size=17∧((List.range 17).all fun i=>decide (sgn (Txt.slice abc (some (o.val:Int)) (some ((o.val:Int)+17))) i=⟨#[97+(o.val+i)]⟩))=true:=by decide +kernel
theorem aPt {a b:Nat} (h:(⟨#[a]⟩:Str)=⟨#[b]⟩):a=b:=by
 have:=congrArg (fun x:Str=>x.cps.toList) h
 simpa using this
theorem aPl {o:Nat} (h:o<10):qC (sgl o):=by
 refine ⟨by simp [sgl],fun n hn=>?_,?_⟩
 ·have:=(aK6 ⟨o,h⟩).1
  rw [List.all_eq_true] at this
  exact this n hn
 ·refine List.pairwise_map.mpr (List.Pairwise.imp_of_mem ?_ List.nodup_range)
  intro k l _ _ ne e
  have:=aPt e
  exact ne (by omega)
theorem aR0 {o:Nat} (h:o<10):((List.range (Txt.slice abc (some (o:Int)) (some ((o:Int)+17))).cps.size).map fun i=>V.str (sgn (Txt.slice abc (some (o:Int)) (some ((o:Int)+17))) i))=(sgl o).map V.str:=by
 obtain ⟨_,h2,h3⟩:=aK6 ⟨o,h⟩
 have h2:(Txt.slice abc (some (o:Int)) (some ((o:Int)+17))).cps.size=17:=h2
 rw [h2]
 unfold sgl
 rw [List.map_map]
 refine List.map_congr_left fun i hi=>?_
 rw [List.all_eq_true] at h3
 have:=of_decide_eq_true (h3 i hi)
 show V.str _=V.str _
 exact congrArg V.str this
def stm (b:Str) (a o:Nat):Nat→List Str:=fun i=>(List.range i).map fun k=>put b a (97+(o+k))
theorem aUd {b:Str} {a o:Nat} (hb:Lets b) (hl:b.length≤7) (ha:a≤b.length) (ho:o<10) (hw:∀w∈words,inV w ((stm b a o 17).map V.str)=false):qC (stm b a o 17):=by
 refine ⟨by simp [stm],fun n hn=>?_,?_⟩
 ·obtain ⟨k,hk,rfl⟩:=List.mem_map.mp hn
  have hk:=List.mem_range.mp hk
  have hin:inV (.str (put b a (97+(o+k)))) words=false:=by
   cases e:inV (.str (put b a (97+(o+k)))) words with
   |false=>rfl
   |true=>
    exfalso
    unfold inV at e
    rw [List.any_eq_true] at e
    obtain ⟨v,hv,ev⟩:=e
    have hvs:∃z:Str,v=.str z:=by
     simp only [words,List.mem_cons,List.not_mem_nil,or_false] at hv
     rcases hv with rfl|rfl|rfl|rfl|rfl|rfl|rfl|rfl|rfl|rfl|rfl|rfl|rfl|rfl|rfl|rfl|rfl <;> exact ⟨_,rfl⟩
    obtain ⟨z,rfl⟩:=hvs
    have e2:(z == put b a (97+(o+k)))=true:=ev
    have e3:z=put b a (97+(o+k)):=by simpa using e2
    have:=hw _ hv
    rw [aKm,decide_eq_false_iff_not] at this
    exact this (by rw [e3];exact hn)
  show ((decide (1≤(put b a (97+(o+k))).length) && (decide ((put b a (97+(o+k))).length≤8) && allIn (put b a (97+(o+k))))) && !inV (.str (put b a (97+(o+k)))) words)=true
  have hL:Lets (put b a (97+(o+k))):=fun c hc=>by
   rcases aSt ha hc with rfl|z
   ·omega
   ·exact hb c z
  rw [aR6 ha,decide_eq_true (p:=1≤b.length+1) (by omega),decide_eq_true (p:=b.length+1≤8) (by omega),allIn_of hL,hin]
  rfl
 ·refine List.pairwise_map.mpr (List.Pairwise.imp_of_mem ?_ List.nodup_range)
  intro k l _ _ ne e
  have:=aRx ha e
  exact ne (by omega)
def aPq:Sp:=fun vs H Q _=>∃a:Addr,vs=[.ref a,.int 17]∧jW H a∧∀p H' ns,Fx a H H'→H p=none→H' p=some (.lst (ns.map V.str))→qC ns→Q (.ref p) H'
theorem zX (T:Txt w K mg) (aR:Ok P w K mg base 1 "_law_next" ["_law_state","_law_many"] kZ) (aC1:Ok P w K mg base 1 "_law_words" [] aA8):Ok P w K mg base 2 "_law_names" ["_law_state","_law_many"] aPq:=by
 refine Ok.ofV T.aDq cA (fun vs H Q E h=>?_) (fun f cdv A outer s H vs Q E hr h=>?_)
 ·obtain ⟨a,rfl,_⟩:=h;rfl
 obtain ⟨a,rfl,hs,q⟩:=h
 refine ⟨_,(aC (bA (i:=2) cA.nd rfl (by trivial) aQ) (aC (bA (i:=3) cA.nd rfl (by trivial) (aL (aR.mono (by decide)) hr (by rfl) (aB (vv 0) (aB (bR aI4 aD (vv 1)) aA)))) (aC (bA (i:=4) cA.nd rfl (by trivial) aQ) (aC (iW PassesOwn.never rfl (eN (by rfl) T.jC (aB (aL (aR.mono (by decide)) hr (by rfl) (aB (vv 0) (aB aD aA))) aA)) (aO (i:=5) cA.nd rfl (by trivial)) (aG (bA (i:=4) cA.nd rfl (by trivial) (bR nQ (vv 4) (jX (vv 2) (aL (aR.mono (by decide)) hr (by rfl) (aB (vv 0) (aB aD aA))) (fun _ _=>rfl)))))) (aC (bA (i:=6) cA.nd rfl (by trivial) (aL (aR.mono (by decide)) hr (by rfl) (aB (vv 0) (aB (bR eF (aN uG (by rfl) T.dU cI (aB (vv 4) aA)) aD) aA)))) (aC (bA (i:=7) cA.nd rfl (by trivial) (dR aA)) (aC (iW PassesOwn.never rfl (eN (by rfl) T.jC (aB (vv 1) aA)) (aO (i:=5) cA.nd rfl (by trivial)) (aG (dD (vR PySem.F.plainAttrs_list PySem.F.slot_list_append PySem.F.type_list_append mZ (vv 7) (aB (bR nQ (bR nQ (lL aDw (vv 4) wQ (kO (vv 6))) (jX (vv 2) (bR eF (vv 3) (vv 5)) (fun _ _=>rfl))) (lL aDw (vv 4) (kO (vv 6)) wQ)) aA))))) (aC (bL (cM (aN (aFu rfl) (by rfl) T.aTt aP0 (aB (bY (N:=["_law_word","_law_names_here"]) (by trivial) (cF (aF jF) rfl (by decide +kernel)) rfl (dY (aU4 (aC1.mono (by decide)) hr (by rfl))) (fun cl s' H' fp=>⟨(aO (i:=0) (show (["_law_word","_law_names_here"]:List Str).Nodup from by decide +kernel) rfl (Or.inl rfl)),bW,(dC (aJo (K:=K)) (vv 0) (vv 1) (by with_unfolding_all rfl))⟩)) aA))) (aG (bA (i:=7) cA.nd rfl (by trivial) (bT (aJf rfl) (by rfl) T.aDg wU (aB (lL aDw (vv 2) (kO (vv 3)) (kO (bR eF (vv 3) (vv 1)))) aA)))) aX) (aC (bL (aW cB (aL (aR.mono (by decide)) hr (by rfl) (aB (vv 0) (aB aD aA))) aD (aY _)) (aG (dD (aDs PySem.F.plainAttrs_list PySem.F.slot_list_reverse PySem.F.type_list_reverse pJ (vv 7)))) aX) (aG (aJ (vv 7)))))))))))),?_⟩
 have al:abc.length=26:=by decide +kernel
 refine ⟨_,rfl,_,rfl,_,_,rfl,rfl,a,10,rfl,hs,by decide,fun od H1 f1 o0 o1=>?_⟩
 obtain ⟨o,rfl⟩:∃o:Nat,od=o:=⟨od.toNat,by omega⟩
 have ho:o<10:=by omega
 refine ⟨_,rfl,a,8,rfl,f1.st,by decide,fun n H2 f2 n0 n1=>?_⟩
 refine ⟨_,rfl,by omega,by omega,iG (n:=n.toNat) (fun i σ H'=>Fx a H H'∧∃(x:Str) (l5:Option V),σ=[some (.ref a),some (.int 17),some (.str abc),some (.int (o:Nat)),some (.str x),l5,none,none]∧x.length≤i∧Lets x) ⟨f1.trans f2,_,_,rfl,by decide +kernel,fun d hd=>by simp [show (("":Str).cps)=#[] from rfl] at hd⟩ ?_ ?_⟩
 ·rintro i σ H' hi ⟨fx,x,l5,rfl,hl,hx⟩
  refine ⟨_,rfl,_,rfl,_,rfl,a,26,rfl,fx.st,by decide,fun d H3 f3 d0 d1=>?_⟩
  obtain ⟨ch,hch⟩:=aLa (z:=abc) d0 (by rw [al];exact d1)
  refine ⟨_,_,_,rfl,rfl,d0,(by omega),(by rw [al];exact d1),hch,_,_,rfl,rfl,?_,fx.trans f3,_,_,rfl,?_,hx.add (aEu.one hch)⟩
  ·show x.length+1≤sizeLine
   exact small (by omega)
  ·rw [aCr]
   show x.length+1≤i+1
   omega
 rintro σ H3 ⟨f3,b,l5,rfl,hl,hb⟩
 have hb7:b.length≤7:=by omega
 refine ⟨_,rfl,_,rfl,_,rfl,small (by omega),_,_,rfl,rfl,a,_,rfl,f3.st,(by show (0:Int)<(b.length:Int)+1∧(b.length:Int)+1<2 ^ 64;omega),fun ai H4 f4 a0 a1=>?_⟩
 obtain ⟨at',rfl⟩:∃at':Nat,ai=at':=⟨ai.toNat,by omega⟩
 have ha:at'≤b.length:=by
  have:(at':Int)<(b.length:Int)+1:=a1
  omega
 have fx4:=f3.trans f4
 refine ⟨(by show 0≤sizeLine;decide),fun p H5 fp s5 g5=>?_⟩
 have fp0:H p=none:=fx4.free fp
 have npa:p≠a:=hs.ne fp0
 refine ⟨_,rfl,_,rfl,by decide,by decide,iG (n:=17) (fun i σ H'=>Fx a H H'∧H' p=some (.lst ((stm b at' o i).map V.str))∧∃l5,σ=[some (.ref a),some (.int 17),some (.str abc),some (.int (o:Nat)),some (.str b),l5,some (.int (at':Nat)),some (.ref p)]) ⟨fx4.sm s5,g5,_,rfl⟩ ?_ ?_⟩
 ·rintro i σ H' hi ⟨fx,gp,l5,rfl⟩
  have s1:=Txt.slice_le b none (some ((at':Nat):Int))
  have s2:=Txt.slice_le b (some ((at':Nat):Int)) none
  have ej:((o:Int)+(0+(i:Int))).toNat=o+i:=by omega
  have hch:abc.cps[((o:Int)+(0+(i:Int))).toNat]?=some (97+(o+i)):=by rw [ej];exact aRb (by omega)
  refine ⟨_,rfl,.inl ⟨rfl,_,SqL.of gp⟩,_,rfl,_,rfl,_,rfl,_,rfl,small (by omega),_,rfl,_,rfl,_,rfl,_,_,rfl,rfl,_,_,_,rfl,rfl,(by show 0≤(o:Int)+(0+(i:Int));omega),(by show (o:Int)+(0+(i:Int))<2 ^ 63;omega),(by rw [al];show (o:Int)+(0+(i:Int))<26;omega),hch,_,_,rfl,rfl,?_,_,rfl,_,rfl,_,rfl,_,rfl,small (by omega),_,_,rfl,rfl,?_,?_⟩
  ·show (Txt.slice b none (some ((at':Nat):Int))).length+1≤sizeLine
   exact small (by omega)
  ·rw [aCr]
   show (Txt.slice b none (some ((at':Nat):Int))).length+1+_≤sizeLine
   exact small (by omega)
  refine ⟨p,_,_,rfl,rfl,gp,?_,fx.upd fp0 npa,?_,_,rfl⟩
  ·rw [List.length_map]
   exact lN (by simp [stm];omega)
  ·rw [aH]
   unfold stm
   rw [List.range_succ,List.map_append,List.map_append]
   rfl
 rintro σ H6 ⟨f6,g6,l5',rfl⟩
 dsimp only [mL,aRm,tB,tCB,dH]
 refine aA6 (K:=K) (fun us=>us=words) (fun i _ y=>∃w',words[i]?=some w'∧y=.bl (inV w' ((stm b at' o 17).map V.str))) (fun _ h=>h) (fun _ h=>h) [none,some (.ref p)] ?_ rfl (fun R r=>⟨rfl,fun W H7 _ s7 g7=>r W H7 _ s7 g7 rfl⟩) (fun us e=>by subst e;exact small (by decide)) (fun us e i x ex H' R l sm r=>?_) fun us e D H7 ys s7 g7 hly hR=>?_
 ·exact dF 7 (by decide +kernel) rfl rfl (by trivial)
 ·subst e
  have fl:iY x=true:=by
   have:=xH
   rw [List.all_eq_true] at this
   exact this x (List.mem_of_getElem? ex)
  exact ⟨_,rfl,_,rfl,p,_,rfl,.inl (SqL.of (sm _ _ g6)),fl,aF1,r _ _ (Same.refl _) ⟨x,ex,rfl⟩⟩
 subst e
 have ey:ys=(words.map fun w'=>inV w' ((stm b at' o 17).map V.str)).map V.bl:=by
  rw [List.map_map]
  refine List.ext_getElem? fun i=>?_
  by_cases hi:i<ys.length
  ·obtain ⟨w',h1,h2⟩:=hR i ys[i] (List.getElem?_eq_getElem hi)
   rw [List.getElem?_eq_getElem hi,List.getElem?_map,h1,h2]
   rfl
  ·rw [List.getElem?_eq_none (by omega),List.getElem?_eq_none (by rw [List.length_map];omega)]
 rw [ey] at g7
 refine ⟨D,_,rfl,SqL.of g7,_,rfl,?_⟩
 have f7:=f6.sm s7
 refine sO (fun c=>?_) (fun c=>?_)
 ·refine ⟨_,rfl,_,rfl,_,rfl,_,rfl,_,rfl,_,_,rfl,rfl,_,rfl,abc,rfl,small (by rw [al];decide),?_⟩
  refine ⟨_,rfl,?_,fun p2 H8 fp2 s8 g8=>?_⟩
  ·have:=Txt.slice_le abc (some (o:Int)) (some ((o:Int)+17))
   rw [al] at this
   exact Nat.le_trans this (by decide)
  have g8':H8 p2=some (.lst ((sgl o).map V.str)):=by rw [g8];exact congrArg (fun z=>some (HO.lst z)) (aR0 ho)
  have f8:=f7.sm s8
  have fp20:H p2=none:=f7.free fp2
  refine ⟨_,rfl,a,2,rfl,f8.st,by decide,fun d H9 f9 d0 d1=>?_⟩
  have g9:=f9.same _ _ (hs.ne fp20) g8'
  refine ⟨rfl,_,rfl,sO (fun _=>?_) (fun _=>?_)⟩
  ·refine ⟨_,rfl,.inl ⟨rfl,_,SqL.of g9⟩,p2,_,rfl,rfl,g9,?_⟩
   refine ⟨_,rfl,q p2 _ (sgl o).reverse ((f8.trans f9).upd fp20 (hs.ne fp20)) fp20 ?_ (aPl ho).rev⟩
   rw [aH,List.map_reverse]
  ·exact ⟨_,rfl,q p2 _ (sgl o) (f8.trans f9) fp20 g9 (aPl ho)⟩
 ·have hw:∀w'∈words,inV w' ((stm b at' o 17).map V.str)=false:=fun w' hw'=>by
   cases e:inV w' ((stm b at' o 17).map V.str) with
   |false=>rfl
   |true=>
    exfalso
    apply c
    rw [List.any_eq_true]
    exact ⟨true,List.mem_map.mpr ⟨w',hw',e⟩,rfl⟩
  have hn:=aUd hb hb7 ha ho hw
  refine ⟨_,rfl,a,2,rfl,f7.st,by decide,fun d H9 f9 d0 d1=>?_⟩
  have g9:=f9.same _ _ npa (s7 _ _ g6)
  refine ⟨rfl,_,rfl,sO (fun _=>?_) (fun _=>?_)⟩
  ·refine ⟨_,rfl,.inl ⟨rfl,_,SqL.of g9⟩,p,_,rfl,rfl,g9,?_⟩
   refine ⟨_,rfl,q p _ (stm b at' o 17).reverse ((f7.trans f9).upd fp0 npa) fp0 ?_ hn.rev⟩
   rw [aH,List.map_reverse]
  ·exact ⟨_,rfl,q p _ (stm b at' o 17) (f7.trans f9) fp0 g9 hn⟩
def aU8 (hd:Hdr):Prop:=Good hd∧∀c∈hd,Nm c.1∧aQ7 c.2
def aFh (K:PySem.W.Frag):Sp:=fun vs H Q _=>∃(a N:Addr) (ns:List Str),vs=[.ref a,.ref N]∧jW H a∧H N=some (.lst (ns.map V.str))∧N≠a∧qC ns∧∀v H' hd,Fx a H H'→cX K H' v hd→aU8 hd→hd.length≤7→Q v H'
theorem aOo {α:Type} {l:List α} (h:l.Nodup) {i j:Nat} {x:α} (h1:l[i]?=some x) (h2:l[j]?=some x):i=j:=by
 have hp:=List.pairwise_iff_getElem.mp h
 obtain ⟨hi,e1⟩:=List.getElem?_eq_some_iff.mp h1
 obtain ⟨hj,e2⟩:=List.getElem?_eq_some_iff.mp h2
 rcases Nat.lt_trichotomy i j with q|q|q
 ·exact absurd (e1.trans e2.symm) (hp i j hi hj q)
 ·exact q
 ·exact absurd (e2.trans e1.symm) (hp j i hj hi q)
theorem aWn {α:Type} {l:List α} (h:∀(i j:Nat) (x:α),l[i]?=some x→l[j]?=some x→i=j):l.Nodup:=by
 refine List.pairwise_iff_getElem.mpr fun i j hi hj hij e=>?_
 have:=h i j l[i] (List.getElem?_eq_getElem hi) (by rw [List.getElem?_eq_getElem hj,e])
 omega
theorem aQf {ns:List Str} (hn:qC ns) {st:Nat} {hd:Hdr} (hl:hd.length≤8) (h:∀(j:Nat) (c:Str × Str),hd[j]?=some c→ns[3+(st+j) % 8]?=some c.1):(hd.map (·.1)).Nodup:=by
 refine aWn fun i j x h1 h2=>?_
 have g:∀k,(hd.map (·.1))[k]?=some x→k<hd.length∧ns[3+(st+k) % 8]?=some x:=fun k hk=>by
  rw [List.getElem?_map] at hk
  cases e:hd[k]? with
  |none=>rw [e] at hk;cases hk
  |some c=>
   rw [e] at hk
   cases hk
   exact ⟨(List.getElem?_eq_some_iff.mp e).1,h k c e⟩
 obtain ⟨l1,g1⟩:=g i h1
 obtain ⟨l2,g2⟩:=g j h2
 have:=aOo hn.2.2 g1 g2
 omega
theorem aCo (T:Txt w K mg) (aR:Ok P w K mg base 1 "_law_next" ["_law_state","_law_many"] kZ):Ok P w K mg base 2 "_law_head" ["_law_state","_law_names_here"] (aFh K):=by
 refine Ok.ofV T.aF9 gM (fun vs H Q E h=>?_) (fun f cdv A outer s H vs Q E hr h=>?_)
 ·obtain ⟨a,N,ns,rfl,_⟩:=h;rfl
 obtain ⟨a,N,ns,rfl,hs,hN,nN,hn,q⟩:=h
 refine ⟨_,(aC (bA (i:=2) gM.nd rfl (by trivial) (aL (aR.mono (by decide)) hr (by rfl) (aB (vv 0) (aB aD aA)))) (aC (bA (i:=3) gM.nd rfl (by trivial) (dR aA)) (aC (iW PassesOwn.never rfl (eN (by rfl) T.jC (aB (bR eF aD (aL (aR.mono (by decide)) hr (by rfl) (aB (vv 0) (aB aD aA)))) aA)) (aO (i:=4) gM.nd rfl (by trivial)) (aC (bA (i:=5) gM.nd rfl (by trivial) (aM bD (dR (aB aQ (aB aQ (aB aQ aA)))) (aL (aR.mono (by decide)) hr (by rfl) (aB (vv 0) (aB aD aA))) (fun _ _=>rfl))) (aG (dD (vR PySem.F.plainAttrs_list PySem.F.slot_list_append PySem.F.type_list_append mZ (vv 3) (aB (cU (aB (aM bD (vv 1) (bR eF aD (bR pC (bR eF (vv 2) (vv 4)) aD)) (fun _ _=>rfl)) (aB (vv 5) aA))) aA)))))) (aG (aJ (bT cG (by rfl) T.cL cC (aB (vv 3) aA))))))),?_⟩
 have l17:=hn.1
 refine ⟨_,rfl,a,8,rfl,hs,by decide,fun st0 H1 f1 st00 st01=>?_⟩
 obtain ⟨st,rfl⟩:∃st:Nat,st0=st:=⟨st0.toNat,by omega⟩
 refine ⟨(by show 0≤sizeLine;decide),fun p H2 fp s2 g2=>?_⟩
 have f2:=f1.sm s2
 have fp0:H p=none:=f1.free fp
 have npa:p≠a:=hs.ne fp0
 refine ⟨_,rfl,a,4,rfl,f2.st,by decide,fun m H3 f3 m0 m1=>?_⟩
 have f4':=f2.trans f3
 have g4:=f3.same _ _ npa g2
 obtain ⟨z,ez,z1,z7⟩:∃z:Nat,1+m=(z:Int)∧1≤z∧z≤4:=⟨(1+m).toNat,by omega,by omega,by omega⟩
 refine ⟨_,_,rfl,rfl,(z:Int),?_,by omega,by omega,?_⟩
 ·show [V.int (1+m)]=_
  rw [ez]
 rw [Int.toNat_natCast]
 refine iG (n:=z) (fun i σ H'=>Fx a H H'∧∃(us:List V) (hd:Hdr) (l4 l5:Option V),H' p=some (.lst us)∧hd.length=i∧bQ (IsC K H') us hd∧(∀(j:Nat) (c:Str × Str),hd[j]?=some c→ns[3+(st+j) % 8]?=some c.1∧aQ7 c.2)∧σ=[some (.ref a),some (.ref N),some (.int (st:Nat)),some (.ref p),l4,l5]) ⟨f4',[],[],_,_,g4,rfl,.nil,fun j c h=>by simp at h,rfl⟩ ?_ ?_
 ·rintro i σ H' hi ⟨fx,us,hd,l4,l5,gp,hl,hu,hc,rfl⟩
  have lu:=hu.len
  refine ⟨(by show 3≤sizeLine;decide),fun p1 H5 fp1 s5 g5=>?_⟩
  refine ⟨_,rfl,a,3,rfl,fx.st.same s5,by decide,fun d H6 f6 d0 d1=>?_⟩
  obtain ⟨kv,hkv,mkv⟩:=at_of (xs:=[.str "number",.str "number",.str "word"]) d0 (by show d<3;omega)
  obtain ⟨kd,rfl,hkd⟩:∃kd:Str,kv=.str kd∧aQ7 kd:=by
   simp only [List.mem_cons,List.not_mem_nil,or_false] at mkv
   rcases mkv with rfl|rfl|rfl
   ·exact ⟨_,rfl,.inl rfl⟩
   ·exact ⟨_,rfl,.inl rfl⟩
   ·exact ⟨_,rfl,.inr rfl⟩
  have f6':=(fx.sm s5).trans f6
  refine ⟨p1,_,_,_,rfl,rfl,SqL.of (f6.same _ _ (fx.st.ne fp1) g5),hkv,?_⟩
  have gp6:=f6.same _ _ npa (s5 _ _ gp)
  have hN6:=f6'.same _ _ nN hN
  have hu6:bQ (IsC K H6) us hd:=hu.imp fun _ _ ⟨p',ep,hp⟩=>⟨p',ep,f6.aP (fx.st.same s5) (s5.aP hp)⟩
  have hix:3+(st+i) % 8<ns.length:=by omega
  refine ⟨_,rfl,.inl ⟨rfl,_,SqL.of gp6⟩,?_⟩
  refine ⟨_,rfl,_,rfl,_,rfl,_,_,rfl,rfl,_,_,rfl,rfl,(by show (0:Int)<8;decide),_,_,rfl,rfl,N,_,_,.str ns[3+(st+i) % 8],rfl,rfl,SqL.of hN6,?_,_,rfl,(by show 2≤sizeLine;decide),fun t H7 ft s7 g7=>?_⟩
  ·have e8:(3:Int)+((st:Int)+(0+(i:Int))) % 8=((3+(st+i) % 8:Nat):Int):=by omega
   show atI (ns.map V.str) ((3:Int)+((st:Int)+(0+(i:Int))) % 8)=_
   rw [e8]
   exact dO (by rw [List.getElem?_map,List.getElem?_eq_getElem hix];rfl)
  refine ⟨p,_,_,rfl,rfl,s7 _ _ gp6,lN (by omega),?_⟩
  have ntp:t≠p:=(aZ gp6 ft).symm
  refine ⟨(f6'.sm s7).upd fp0 npa,us++[.ref t],hd++[(ns[3+(st+i) % 8],kd)],_,_,aH,by rw [List.length_append,hl];rfl,?_,fun j c h=>?_,rfl⟩
  ·refine (hu6.imp fun _ _ ⟨p',ep,hp⟩=>⟨p',ep,(s7.aP hp).wH (s7 _ _ gp6)⟩).app (.cons ⟨t,rfl,SqT.of (by rw [aU ntp];exact g7)⟩ .nil)
  ·by_cases hj:j<hd.length
   ·rw [List.getElem?_append_left hj] at h
    exact hc j c h
   ·rw [List.getElem?_append_right (by omega)] at h
    have hj0:j - hd.length=0:=by
     by_cases z0:j - hd.length=0
     ·exact z0
     ·rw [List.getElem?_eq_none (by simp;omega)] at h;cases h
    rw [hj0] at h
    cases h
    have:j=i:=by omega
    subst this
    exact ⟨List.getElem?_eq_getElem hix,hkd⟩
 ·rintro σ H' ⟨fx,us,hd,l4,l5,gp,hl,hu,hc,rfl⟩
  refine ⟨_,rfl,p,us,rfl,SqL.of gp,fun t H5 _ s5 g5=>q _ _ hd (fx.sm s5) ⟨t,us,rfl,SqT.of g5,hu.imp fun _ _ h=>h.same s5⟩ ⟨⟨aQf hn (by omega) fun j c h=>(hc j c h).1,by omega,by omega⟩,fun c hcm=>?_⟩ (by omega)⟩
  obtain ⟨j,hj,e⟩:=List.getElem_of_mem hcm
  have h2:=hc j c (by rw [List.getElem?_eq_getElem hj,e])
  exact ⟨hn.2.1 _ (List.mem_of_getElem? h2.1),h2.2⟩
def TK (K:PySem.W.Frag) (H H':Hp):Prop:=∀p xs,SqT K H p xs→SqT K H' p xs
theorem _root_.L2.Fx.tk {K:PySem.W.Frag} {a:Addr} {H H':Hp} (f:Fx a H H') (h:jW H a):TK K H H':=fun _ _ e=>f.aP h e
theorem IsC.tk {K:PySem.W.Frag} {H H':Hp} {v:V} {c:Str × Str} (e:TK K H H') (h:IsC K H v c):IsC K H' v c:=by
 obtain ⟨p,rfl,hp⟩:=h
 exact ⟨p,rfl,e _ _ hp⟩
theorem aS6 {α:Type} {K:PySem.W.Frag} {H H':Hp} {R S:V→α→Prop} {v:V} {xs:List α} (e:TK K H H') (k:∀a b,R a b→S a b) (h:tG K H R v xs):tG K H' S v xs:=by
 obtain ⟨a,vs,rfl,ha,hr⟩:=h
 exact ⟨a,vs,rfl,e _ _ ha,hr.imp k⟩
theorem cX.tk {K:PySem.W.Frag} {H H':Hp} {v:V} {hd:Hdr} (e:TK K H H') (h:cX K H v hd):cX K H' v hd:=aS6 e (fun _ _ q=>q.tk e) h
theorem aOs {K:PySem.W.Frag} {H:Hp} {x:V} (h:aGt x=true):Th K H x:=by
 cases x with
 |int i=>exact .inr (.inl ⟨i,rfl⟩)
 |str z=>
  have h:(false || pI 0 (.str z))=true:=h
  rw [Bool.false_or] at h
  obtain ⟨y,e,_,h8,_⟩:=wN h
  cases e
  exact lE h8
 |_=>cases h
theorem IsO.tk {K:PySem.W.Frag} {H H':Hp} {v:V} {o:Oth} (e:TK K H H') (h:IsO K H v o):IsO K H' v o:=by
 cases o with
 |val x=>obtain ⟨a,rfl,ha,hx,hv⟩:=h;exact ⟨a,rfl,e _ _ ha,aOs hv,hv⟩
 |col d=>obtain ⟨a,rfl,ha,hd⟩:=h;exact ⟨a,rfl,e _ _ ha,hd⟩
theorem IsT.tk {K:PySem.W.Frag} {H H':Hp} {v:V} {t:Tst} (e:TK K H H') (h:IsT K H v t):IsT K H' v t:=by
 obtain ⟨a,w,rfl,ha,h1,h2,h3⟩:=h
 exact ⟨a,w,rfl,e _ _ ha,h1,h2,h3.tk e⟩
theorem rP {hd:Hdr} (nd:(hd.map (·.1)).Nodup) {c:Str × Str} (h:c∈hd):look hd c.1=some c.2:=by
 induction hd with
 |nil=>cases h
 |cons x r ih=>
  rw [List.map_cons,List.nodup_cons] at nd
  unfold look
  rw [List.find?_cons]
  rcases List.mem_cons.mp h with rfl|h
  ·rw [decide_eq_true rfl];rfl
  ·have ne:¬ x.1=c.1:=fun z=>nd.1 (by rw [z];exact List.mem_map.mpr ⟨c,h,rfl⟩)
   rw [decide_eq_false ne]
   exact ih nd.2 h
theorem aJq {k:Str} {x:V} (h:qZ k x):aGt x=true∧kindS x=k:=by
 cases h with
 |num=>exact ⟨rfl,rfl⟩
 |@wrd y hx hl=>
  refine ⟨?_,rfl⟩
  show (false || (decide (0≤y.length) && (decide (y.length≤8) && allIn y)))=true
  rw [decide_eq_true (Nat.zero_le _),decide_eq_true hl,allIn_of hx]
  rfl
def kp (hd:Hdr) (k:Str) (i:Nat):Bool:=match hd[i]? with
 |some c=>decide (c.2=k)
 |none=>false
abbrev sgs:Str:="=<>!"
theorem aTi:∀j:_root_.Fin 4,∃c,sgs.cps[j.val]?=some c∧((⟨#[c]⟩:Str) = "="∨(⟨#[c]⟩:Str) = "<"∨(⟨#[c]⟩:Str) = ">"∨(⟨#[c]⟩:Str) = "!"):=by
 intro j
 match j with
 |⟨0,_⟩=>exact ⟨61,(by show sgs.cps[0]?=some 61;decide +kernel),.inl (by decide +kernel)⟩
 |⟨1,_⟩=>exact ⟨60,(by show sgs.cps[1]?=some 60;decide +kernel),.inr (.inl (by decide +kernel))⟩
 |⟨2,_⟩=>exact ⟨62,(by show sgs.cps[2]?=some 62;decide +kernel),.inr (.inr (.inl (by decide +kernel)))⟩
 |⟨3,_⟩=>exact ⟨33,(by show sgs.cps[3]?=some 33;decide +kernel),.inr (.inr (.inr (by decide +kernel)))⟩
 |⟨n+4,h⟩=>exact absurd h (by omega)
def aAs (K:PySem.W.Frag):Sp:=fun vs H Q _=>∃(a:Addr) (vh:V) (hd:Hdr),vs=[.ref a,vh]∧jW H a∧cX K H vh hd∧aU8 hd∧∀v H' ts,Fx a H H'→jH IsT 1 2 K H' v ts→(∀t∈ts,oF hd t)→Q v H'
theorem aNu {R:Nat→V→Prop} {is:List Nat} {ys:List V} (h:lF R is ys):∀y∈ys,∃i∈is,R i y:=by
 induction h with
 |nil=>intro y hy;cases hy
 |cons r _ ih=>
  intro z hz
  rcases List.mem_cons.mp hz with rfl|hz
  ·exact ⟨_,List.mem_cons_self ..,r⟩
  ·obtain ⟨i,hi,q⟩:=ih z hz
   exact ⟨i,List.mem_cons_of_mem _ hi,q⟩
theorem aC6 {p:Nat→Bool}:∀{k n:Nat} {i:Nat},i∈sel p k (List.range' k n)→p i=true∧k≤i∧i<k+n
 |k,0,i,h=>by cases h
 |k,n+1,i,h=>by
  rw [List.range'_succ] at h
  have h:i∈(if p k then k::sel p (k+1) (List.range' (k+1) n) else sel p (k+1) (List.range' (k+1) n)):=h
  split at h
  ·rcases List.mem_cons.mp h with rfl|h
   ·exact ⟨by assumption,by omega,by omega⟩
   ·obtain ⟨a,b,c⟩:=aC6 h;exact ⟨a,by omega,by omega⟩
  ·obtain ⟨a,b,c⟩:=aC6 h;exact ⟨a,by omega,by omega⟩
theorem aKt {p:Nat→Bool}:∀{k n:Nat} {i:Nat},p i=true→k≤i→i<k+n→i∈sel p k (List.range' k n)
 |k,0,i,_,_,_=>by omega
 |k,n+1,i,h,h1,h2=>by
  rw [List.range'_succ]
  show i∈(if p k then k::sel p (k+1) (List.range' (k+1) n) else sel p (k+1) (List.range' (k+1) n))
  by_cases e:i=k
  ·subst e
   rw [if_pos h]
   exact List.mem_cons_self ..
  ·have:=aKt (k:=k+1) (n:=n) h (by omega) (by omega)
   split
   ·exact List.mem_cons_of_mem _ this
   ·exact this
theorem zB (T:Txt w K mg) (aR:Ok P w K mg base 1 "_law_next" ["_law_state","_law_many"] kZ) (mC:Ok P w K mg base 3 "_law_value" ["_law_state","_law_kind"] aBt):Ok P w K mg base 4 "_law_tests" ["_law_state","_law_head_here"] (aAs K):=by
 refine Ok.ofV T.aCg cO (fun vs H Q E h=>?_) (fun f cdv A outer s H vs Q E hr h=>?_)
 ·obtain ⟨a,vh,hd,rfl,_⟩:=h;rfl
 obtain ⟨a,vh,hd,rfl,hs,⟨b,us,rfl,hb,hu⟩,⟨⟨nd,l1,l8⟩,hc⟩,q⟩:=h
 refine ⟨_,(aC (bA (i:=2) cO.nd rfl (by trivial) (dR aA)) (aC (iW PassesOwn.never rfl (eN (by rfl) T.jC (aB (bR eF aD (aL (aR.mono (by decide)) hr (by rfl) (aB (vv 0) (aB aD aA)))) aA)) (aO (i:=3) cO.nd rfl (by trivial)) (aC (aDp (aM aV (vv 1) (aL (aR.mono (by decide)) hr (by rfl) (aB (vv 0) (aB (aN bC (by rfl) T.dU cI (aB (vv 1) aA)) aA))) (fun _ _=>rfl)) (uU rfl (bK (aO (i:=4) cO.nd rfl (by trivial)) (bK (aO (i:=5) cO.nd rfl (by trivial)) fH)))) (aC (bA (i:=6) cO.nd rfl (by trivial) (cU (aB aQ (aB (aL (mC.mono (by decide)) hr (by rfl) (aB (vv 0) (aB (vv 5) aA))) aA)))) (aC (mJ (i0:=7) cO.nd rfl (by trivial) (N:=["_law_column","_law_sort","_law_kind"]) (by trivial) (cF (aF jD) rfl (by decide +kernel)) rfl (eE (vv 1)) (fun cl s' H' fp=>⟨(nD (K:=K) (n:=2) rfl (bK (aO (i:=0) (show (["_law_column","_law_sort","_law_kind"]:List Str).Nodup from by decide +kernel) rfl (Or.inl rfl)) (bK (aO (i:=1) (show (["_law_column","_law_sort","_law_kind"]:List Str).Nodup from by decide +kernel) rfl (Or.inl rfl)) fH))),(wW (aW cB (vv 1) (vv 2) (aY _))),(vv 0)⟩)) (aC (bL (aW cB (aL (aR.mono (by decide)) hr (by rfl) (aB (vv 0) (aB aD aA))) aD (aY _)) (aG (bA (i:=6) cO.nd rfl (by trivial) (cU (aB aQ (aB (aM bD (vv 7) (aL (aR.mono (by decide)) hr (by rfl) (aB (vv 0) (aB (aN bC (by rfl) T.dU cI (aB (vv 7) aA)) aA))) (fun _ _=>rfl)) aA))))) aX) (aG (dD (vR PySem.F.plainAttrs_list PySem.F.slot_list_append PySem.F.type_list_append mZ (vv 2) (aB (cU (aB (vv 4) (aB (jX aQ (aL (aR.mono (by decide)) hr (by rfl) (aB (vv 0) (aB aD aA))) (fun _ _=>rfl)) (aB (vv 6) aA)))) aA))))))))) (aG (aJ (bT cG (by rfl) T.cL cC (aB (vv 2) aA)))))),?_⟩
 have lu:=hu.len
 refine ⟨(by show 0≤sizeLine;decide),fun p H1 fp s1 g1=>?_⟩
 have f1:=Fx.of hs s1
 have npa:p≠a:=hs.ne fp
 refine ⟨_,rfl,a,2,rfl,f1.st,by decide,fun m H2 f2 m0 m1=>?_⟩
 have f2':=f1.trans f2
 have g2:=f2.same _ _ npa g1
 refine ⟨_,_,rfl,rfl,_,rfl,(by show -(2 ^ 62)≤1+m;omega),(by show 1+m<2 ^ 62;omega),?_⟩
 refine iG (n:=(1+m).toNat) (fun i σ H'=>Fx a H H'∧∃(ws:List V) (ts:List Tst) (l3 l4 l5 l6 l7:Option V),H' p=some (.lst ws)∧ts.length=i∧bQ (IsT K H') ws ts∧(∀t∈ts,oF hd t)∧σ=[some (.ref a),some (.ref b),some (.ref p),l3,l4,l5,l6,l7]) ⟨f2',[],[],_,_,_,_,_,g2,rfl,.nil,(fun t h=>by cases h),rfl⟩ ?_ ?_
 ·rintro i σ H' hi ⟨fx,ws,ts,l3,l4,l5,l6,l7,gp,hl,hw,hts,rfl⟩
  have lw:=hw.len
  have tk0:TK K H H':=fx.tk hs
  refine ⟨_,rfl,_,rfl,_,rfl,_,_,rfl,.inr (tk0 _ _ hb),a,_,rfl,fx.st,(by show (0:Int)<(us.length:Int)∧(us.length:Int)<2 ^ 64;omega),fun d H3 f3 d0 d1=>?_⟩
  obtain ⟨u,hat,hmem⟩:=at_of (xs:=us) d0 d1
  obtain ⟨c,hcm,pc,rfl,hpc⟩:=hu.mem hmem
  obtain ⟨hcn,hck⟩:=hc c hcm
  have fl3:=f3
  have fx3:=fx.trans f3
  have tk3:TK K H H3:=fx3.tk hs
  refine ⟨b,_,_,_,rfl,rfl,tk3 _ _ hb,hat,pc,_,rfl,tk3 _ _ hpc,rfl,_,_,rfl,_,_,rfl,rfl,?_⟩
  refine ⟨_,rfl,_,rfl,a,c.2,rfl,fx3.st,hck,fun v H4 f4 hv=>?_⟩
  refine ⟨(by show 2≤sizeLine;decide),fun t1 H5 ft1 s5 g5=>?_⟩
  have fl5:=(f3.trans f4).sm s5
  have fx5:=(fx3.trans f4).sm s5
  have tk5:TK K H H5:=fx5.tk hs
  have hO1:IsO K H5 (.ref t1) (.val v):=⟨t1,rfl,SqT.of g5,aOs (aJq hv).1,(aJq hv).1⟩
  have hT1:aRv hd (.val v)=some c.2:=by
   show some (kindS v)=some c.2
   rw [(aJq hv).2]
  have gp5:=s5 _ _ (f4.same _ _ npa (f3.same _ _ npa gp))
  dsimp only [mL,mX,bZ]
  refine tW [none,none,some (.str c.2)] ?_ ⟨_,rfl,b,rfl,⟨_,tk5 _ _ hb⟩,qD Same (jY H5) us (kp hd c.2) (fun i _ y=>∃c',hd[i]?=some c'∧y=.str c'.1) (fun _ _ h=>h) (fun _ _ _ h=>h) (fun i σ=>∃c',hd[i]?=some c'∧At2 [none,none,some (.str c.2)] (.str c'.1) (.str c'.2) σ) (Ps2 [none,none,some (.str c.2)]) ⟨none,none,rfl⟩ (small (by omega)) _ (yJ fun H' s'=>s'.aP (tk5 _ _ hb)) (pH fun H' s'=>s'.aP (tk5 _ _ hb)) (fun i x σ' H' Q' ex hps s' qq=>?_) (fun i x σ2 ex hA H' R s' r=>?_) (fun i x σ2 ex hA hp H' R s' r=>?_) fun D H6 ys s6 fD g6 hys=>?_⟩
  ·refine ⟨rfl,fun i y v h1 h2=>?_⟩
   match i,h1,h2 with
   |0,_,h2=>cases h2
   |1,_,h2=>cases h2
   |2,h1,h2=>cases h1;cases h2;exact ⟨by decide +kernel,5,rfl,rfl,by trivial⟩
   |i+3,h1,_=>cases h1
  ·obtain ⟨c',hc',p',rfl,hp'⟩:=bI hu ex
   exact hg2 (s'.aP (tk5 _ _ hp')) hps fun σ2 h1 h2=>qq σ2 h1 ⟨c',hc',h2⟩
  ·obtain ⟨c',hc',rfl⟩:=hA
   refine ⟨_,rfl,_,rfl,rfl,_,rfl,?_⟩
   have e:kp hd c.2 i=decide (V.str c'.2=V.str c.2):=by
    unfold kp
    rw [hc']
    exact decide_eq_decide.mpr ⟨fun z=>congrArg V.str z,fun z=>V.str.inj z⟩
   rw [←e]
   exact r H' (Same.refl H')
  ·obtain ⟨c',hc',rfl⟩:=hA
   exact ⟨_,rfl,r _ _ (Same.refl H') ⟨c',hc',rfl⟩⟩
  have fl6:=fl5.sm s6
  have fx6:=fx5.sm s6
  have tk6:TK K H H6:=fx6.tk hs
  have nDa:D≠a:=fx5.st.ne fD
  obtain ⟨j0,hj0,ej0⟩:=List.getElem_of_mem hcm
  have hne:0<ys.length:=by
   have hin:j0∈sel (kp hd c.2) 0 (List.range us.length):=by
    rw [List.range_eq_range']
    refine aKt ?_ (Nat.zero_le _) (by omega)
    unfold kp
    rw [List.getElem?_eq_getElem hj0,ej0]
    exact decide_eq_true rfl
   rw [←hys.len]
   exact List.length_pos_of_mem hin
  have hyk:∀y∈ys,∃c'∈hd,y=.str c'.1∧c'.2=c.2:=fun y hy=>by
   obtain ⟨i,hi,c',hc',rfl⟩:=aNu hys y hy
   rw [List.range_eq_range'] at hi
   have hp:=(aC6 hi).1
   unfold kp at hp
   rw [hc'] at hp
   exact ⟨c',List.mem_of_getElem? hc',rfl,of_decide_eq_true hp⟩
  have lys:ys.length≤8:=by
   have:=pU (kp hd c.2) 0 (List.range us.length)
   rw [List.length_range,hys.len] at this
   omega
  have lcc:look hd c.1=some c.2:=rP nd hcm
  refine ⟨_,rfl,a,3,rfl,fx6.st,by decide,fun d3 H7 f7 _ _=>⟨rfl,_,rfl,?_⟩⟩
  have fl7:=fl6.trans f7
  have fx7:=fx6.trans f7
  have gp7:=f7.same _ _ npa (s6 _ _ gp5)
  have gD7:=f7.same _ _ nDa g6
  refine sO (fun _=>?_) (fun _=>?_)
  ·refine ⟨_,rfl,_,rfl,_,rfl,D,_,rfl,.inl (SqL.of gD7),a,_,rfl,fx7.st,(by show (0:Int)<(ys.length:Int)∧(ys.length:Int)<2 ^ 64;omega),fun d8 H8 f8 d80 d81=>?_⟩
   obtain ⟨y,hy,my⟩:=at_of (xs:=ys) d80 d81
   obtain ⟨c',hcm',rfl,hck'⟩:=hyk y my
   refine ⟨D,_,_,_,rfl,rfl,SqL.of (f8.same _ _ nDa gD7),hy,(by show 2≤sizeLine;decide),fun t2 H9 ft2 s9 g9=>?_⟩
   have fl9:=(fl7.trans f8).sm s9
   have fx9:=(fx7.trans f8).sm s9
   have hO2:IsO K H9 (.ref t2) (.col c'.1):=⟨t2,rfl,SqT.of g9,(hc c' hcm').1⟩
   have hT2:aRv hd (.col c'.1)=some c.2:=by
    show look hd c'.1=some c.2
    rw [rP nd hcm',hck']
   have gp9:=s9 _ _ (f8.same _ _ npa gp7)
   refine ⟨_,rfl,.inl ⟨rfl,_,SqL.of gp9⟩,_,rfl,_,rfl,a,4,rfl,fl9.st,by decide,fun dz Hz fz dz0 dz1=>?_⟩
   obtain ⟨ch,hch,hsg⟩:=aTi ⟨dz.toNat,by omega⟩
   have sl:sgs.length=4:=by decide +kernel
   refine ⟨_,_,_,rfl,rfl,dz0,(by omega),(by rw [sl];exact dz1),hch,_,rfl,(by show 3≤sizeLine;decide),fun tz Hy ftz sy gy=>?_⟩
   have flz:=(fl9.trans fz).sm sy
   have gpy:=sy _ _ (fz.same _ _ npa gp9)
   have ntp:tz≠p:=(aZ (fz.same _ _ npa gp9) ftz).symm
   have tku:∀zs,TK K Hy (upd Hy p (.lst zs)):=fun zs _ _ e=>e.wH gpy
   have hOy:=(hO2.tk (fun _ _ e=>sy.aP (fz.aP fl9.st e))).tk (tku (ws++[.ref tz]))
   refine ⟨p,_,_,rfl,rfl,gpy,lN (by omega),?_⟩
   refine ⟨(fx.trans flz).upd fp npa,ws++[.ref tz],ts++[⟨c.1,⟨#[ch]⟩,(.col c'.1)⟩],_,_,_,_,_,aH,by rw [List.length_append,hl];rfl,(hw.imp fun _ _ h=>(h.tk (flz.tk fx.st)).tk (tku _)).app (.cons (b:=(⟨c.1,⟨#[ch]⟩,.col c'.1⟩:Tst)) ⟨tz,_,rfl,SqT.of (by rw [aU ntp];exact gy),hcn,hsg,hOy⟩ .nil),fun t ht=>?_,rfl⟩
   rcases List.mem_append.mp ht with ht|ht
   ·exact hts t ht
   ·rw [List.mem_singleton.mp ht]
    exact ⟨c.2,lcc,hT2⟩
  ·have hO3:IsO K H7 (.ref t1) (.val v):=hO1.tk fun _ _ e=>f7.aP fx6.st (s6.aP e)
   refine ⟨_,rfl,.inl ⟨rfl,_,SqL.of gp7⟩,_,rfl,_,rfl,a,4,rfl,fl7.st,by decide,fun dz Hz fz dz0 dz1=>?_⟩
   obtain ⟨ch,hch,hsg⟩:=aTi ⟨dz.toNat,by omega⟩
   have sl:sgs.length=4:=by decide +kernel
   refine ⟨_,_,_,rfl,rfl,dz0,(by omega),(by rw [sl];exact dz1),hch,_,rfl,(by show 3≤sizeLine;decide),fun tz Hy ftz sy gy=>?_⟩
   have flz:=(fl7.trans fz).sm sy
   have gpy:=sy _ _ (fz.same _ _ npa gp7)
   have ntp:tz≠p:=(aZ (fz.same _ _ npa gp7) ftz).symm
   have tku:∀zs,TK K Hy (upd Hy p (.lst zs)):=fun zs _ _ e=>e.wH gpy
   have hOy:=(hO3.tk (fun _ _ e=>sy.aP (fz.aP fl7.st e))).tk (tku (ws++[.ref tz]))
   refine ⟨p,_,_,rfl,rfl,gpy,lN (by omega),?_⟩
   refine ⟨(fx.trans flz).upd fp npa,ws++[.ref tz],ts++[⟨c.1,⟨#[ch]⟩,(.val v)⟩],_,_,_,_,_,aH,by rw [List.length_append,hl];rfl,(hw.imp fun _ _ h=>(h.tk (flz.tk fx.st)).tk (tku _)).app (.cons (b:=(⟨c.1,⟨#[ch]⟩,.val v⟩:Tst)) ⟨tz,_,rfl,SqT.of (by rw [aU ntp];exact gy),hcn,hsg,hOy⟩ .nil),fun t ht=>?_,rfl⟩
   rcases List.mem_append.mp ht with ht|ht
   ·exact hts t ht
   ·rw [List.mem_singleton.mp ht]
    exact ⟨c.2,lcc,hT1⟩
 ·rintro σ H' ⟨fx,ws,ts,l3,l4,l5,l6,l7,gp,hl,hw,hts,rfl⟩
  exact ⟨_,rfl,p,ws,rfl,SqL.of gp,fun t H5 _ s5 g5=>q _ _ ts (fx.sm s5) ⟨⟨t,ws,rfl,SqT.of g5,hw.imp fun _ _ h=>h.same s5⟩,by omega,by omega⟩ hts⟩
theorem aP1 {α:Type} (l:List α):∀n,(List.range n).filterMap (fun i=>l[i]?)=l.take n
 |0=>by simp
 |n+1=>by
  rw [List.range_succ,List.filterMap_append,aP1 l n,List.take_add_one]
  cases e:l[n]? with
  |none=>simp [e]
  |some x=>simp [e]
theorem aMj {H:Hp} {us:List V} {hd:Hdr} (hu:bQ (IsC K H) us hd) {is:List Nat} {ys:List V} (h:lF (fun i y=>us[i]?=some y) is ys):bQ (IsC K H) ys (is.filterMap fun i=>hd[i]?):=by
 induction h with
 |nil=>exact .nil
 |@cons i y is ys r _ ih=>
  obtain ⟨c,hc,q⟩:=bI hu r
  rw [List.filterMap_cons,hc]
  exact .cons q ih
theorem aN1 {α β:Type} {R:α→β→Prop} {as:List α} {bs:List β} (h:bQ R as bs):bQ R as.reverse bs.reverse:=by
 induction h with
 |nil=>exact .nil
 |cons r _ ih=>
  rw [List.reverse_cons,List.reverse_cons]
  exact ih.app (.cons r .nil)
theorem aMv {α β:Type} {R:α→β→Prop} {as:List α} {bs:List β} (h:bQ R as bs):∀n,bQ R (as.take n) (bs.take n):=by
 induction h with
 |nil=>intro n;rw [List.take_nil,List.take_nil];exact .nil
 |cons r _ ih=>
  intro n
  cases n with
  |zero=>exact .nil
  |succ n=>exact .cons r (ih n)
def aHq (hd' hd:Hdr):Prop:=(∀c∈hd',c∈hd)∧(hd'.map (·.1)).Nodup∧hd'.length≤hd.length
theorem aNo {hd' hd:Hdr} (h:hd'.Sublist hd) (nd:(hd.map (·.1)).Nodup):aHq hd' hd:=⟨fun c hc=>h.subset hc,nd.sublist (h.map _),h.length_le⟩
theorem aHq.rev {hd' hd:Hdr} (h:aHq hd' hd):aHq hd'.reverse hd:=⟨fun c hc=>h.1 c (List.mem_reverse.mp hc),by
 rw [List.map_reverse];exact List.pairwise_reverse.mpr (h.2.1.imp fun q=>Ne.symm q),by rw [List.length_reverse];exact h.2.2⟩
def aK7 (K:PySem.W.Frag):Sp:=fun vs H Q _=>∃(a:Addr) (vh:V) (hd:Hdr) (n:Nat),vs=[.ref a,vh,.int (n:Nat)]∧jW H a∧cX K H vh hd∧Good hd∧n≤1 ∧
 ∀D H' us hd',Fx a H H'→H D=none→H' D=some (.lst us)→bQ (IsC K H') us hd'→aHq hd' hd→n≤hd'.length→Q (.ref D) H'
theorem aEg (T:Txt w K mg) (aR:Ok P w K mg base 1 "_law_next" ["_law_state","_law_many"] kZ):Ok P w K mg base 2 "_law_some" ["_law_state","_law_head_here","_law_least"] (aK7 K):=by
 refine Ok.ofV T.aEy mG (fun vs H Q E h=>?_) (fun f cdv A outer s H vs Q E hr h=>?_)
 ·obtain ⟨a,vh,hd,n,rfl,_⟩:=h;rfl
 obtain ⟨a,vh,hd,n,rfl,hs,⟨b,us,rfl,hb,hu⟩,⟨nd,l1,l8⟩,hn,q⟩:=h
 refine ⟨_,(aC (mJ (i0:=3) mG.nd rfl (by trivial) (N:=["_law_column","_law_state"]) (by trivial) (cF (aF jZ) rfl (by decide +kernel)) rfl (eE (vv 1)) (fun cl s' H' fp=>⟨(aO (i:=0) (show (["_law_column","_law_state"]:List Str).Nodup from by decide +kernel) rfl (Or.inl rfl)),(wW (aW cB (aL (aR.mono (by decide)) hr (by rfl) (aB (vv 1) (aB aD aA))) aD (aY _))),(vv 0)⟩)) (aC (bL (aW aTk (aN bC (by rfl) T.dU cI (aB (vv 3) aA)) (vv 2) (aY _)) (aG (bA (i:=3) mG.nd rfl (by trivial) (dR (aB (aM aV (vv 1) (aL (aR.mono (by decide)) hr (by rfl) (aB (vv 0) (aB (aN bC (by rfl) T.dU cI (aB (vv 1) aA)) aA))) (fun _ _=>rfl)) aA)))) aX) (aC (bL (aW cB (aL (aR.mono (by decide)) hr (by rfl) (aB (vv 0) (aB aD aA))) aD (aY _)) (aG (dD (aDs PySem.F.plainAttrs_list PySem.F.slot_list_reverse PySem.F.type_list_reverse pJ (vv 3)))) aX) (aG (aJ (vv 3)))))),?_⟩
 have lu:=hu.len
 have fin:∀D H' zs hd',Fx a H H'→H D=none→H' D=some (.lst zs)→bQ (IsC K H') zs hd'→aHq hd' hd→n≤hd'.length→∀H2,Fx a H' H2→Q (.ref D) H2∧Q (.ref D) (upd H2 D (.lst zs.reverse)):=by
  intro D H' zs hd' fx hD gD hz hsub hle H2 f2
  have nDa:D≠a:=hs.ne hD
  have g2:=f2.same _ _ nDa gD
  have hz2:bQ (IsC K H2) zs hd':=hz.imp fun _ _ h=>h.tk (f2.tk fx.st)
  refine ⟨q D H2 zs hd' (fx.trans f2) hD g2 hz2 hsub hle,q D _ zs.reverse hd'.reverse ((fx.trans f2).upd hD nDa) hD aH ?_ hsub.rev (by rw [List.length_reverse];exact hle)⟩
  exact aN1 (hz2.imp fun _ _ h=>h.tk fun _ _ e=>e.wH g2)
 dsimp only [mL,mX]
 refine tW [none,some (.ref a)] ?_ ⟨_,rfl,b,rfl,⟨_,hb⟩,aWg (Fx a) (aQo hs) us (fun i _ y=>us[i]?=some y) (fun _ _ h=>h) (fun _ _ _ h=>h) (fun i σ=>∃x,us[i]?=some x∧At1 [none,some (.ref a)] x σ) (Ps1 [none,some (.ref a)]) ⟨none,rfl⟩ (small (by omega)) _ (yJ fun H' f'=>f'.aP hs hb) (pH fun H' f'=>f'.aP hs hb) (fun i x σ' H' Q' ex hps s' qq=>hg1 (i:=i) hps fun σ2 h1 h2=>qq σ2 h1 ⟨x,ex,h2⟩) (fun i x σ2 ex hA H' R s' r=>?_) (fun i x σ2 ex hA H' R s' r=>?_) fun D H1 ys f1 fD g1 hys=>?_⟩
 ·exact dF 0 (by decide +kernel) rfl rfl (by trivial)
 ·obtain ⟨x',_,l,rfl⟩:=hA
  exact ⟨_,rfl,a,2,rfl,s'.st,by decide,fun d H2 f2 _ _=>⟨rfl,_,rfl,r _ _ f2⟩⟩
 ·obtain ⟨x',hx',l,rfl⟩:=hA
  rw [ex] at hx'
  cases hx'
  exact ⟨_,rfl,r _ _ (.refl s'.st) ex⟩
 obtain ⟨is,hsub,hys⟩:=hys
 have hu1:bQ (IsC K H1) us hd:=hu.imp fun _ _ h=>h.tk (f1.tk hs)
 have hcol:=aMj hu1 hys
 have hsubH:aHq (is.filterMap fun i=>hd[i]?) hd:=by
  refine aNo ?_ nd
  have:=hsub.filterMap (fun i=>hd[i]?)
  rw [aP1,lu,List.take_length] at this
  exact this
 have lcol:=hcol.len
 dsimp only [bZ]
 refine ⟨_,rfl,D,_,rfl,.inl (SqL.of g1),_,rfl,_,_,rfl,rfl,_,rfl,sO (fun c=>?_) (fun c=>?_)⟩
 ·refine ⟨_,rfl,_,rfl,_,rfl,_,_,rfl,.inr (f1.aP hs hb),a,_,rfl,f1.st,(by show (0:Int)<(us.length:Int)∧(us.length:Int)<2 ^ 64;omega),fun d H2 f2 d0 d1=>?_⟩
  obtain ⟨u,hat,hm⟩:=at_of (xs:=us) d0 d1
  obtain ⟨cc,hcm,hcc⟩:=hu.mem hm
  have fx2:=f1.trans f2
  refine ⟨b,_,_,u,rfl,rfl,fx2.aP hs hb,hat,(by show 1≤sizeLine;decide),fun p H3 fp s3 g3=>?_⟩
  have fx3:=fx2.sm s3
  have fp0:H p=none:=fx2.free fp
  have key:=fin p H3 [u] [cc] fx3 fp0 g3 (.cons (hcc.tk (fx3.tk hs)) .nil) ⟨fun c' hc'=>by rw [List.mem_singleton.mp hc'];exact hcm,by simp,by show 1≤hd.length;exact l1⟩ (by show n≤1;exact hn)
  refine ⟨_,rfl,a,2,rfl,fx3.st,by decide,fun e H4 f4 _ _=>⟨rfl,_,rfl,?_⟩⟩
  refine sO (fun _=>?_) (fun _=>⟨_,rfl,(key H4 f4).1⟩)
  have g4:=f4.same _ _ (hs.ne fp0) g3
  exact ⟨_,rfl,.inl ⟨rfl,_,SqL.of g4⟩,p,_,rfl,rfl,g4,_,rfl,(key H4 f4).2⟩
 ·have c':¬ (ys.length:Int)<(n:Int):=of_decide_eq_false (Bool.eq_false_iff.mpr c)
  have key:=fin D H1 ys _ f1 fD g1 hcol hsubH (by omega)
  refine ⟨_,rfl,a,2,rfl,f1.st,by decide,fun e H4 f4 _ _=>⟨rfl,_,rfl,?_⟩⟩
  refine sO (fun _=>?_) (fun _=>⟨_,rfl,(key H4 f4).1⟩)
  have g4:=f4.same _ _ (hs.ne fD) g1
  exact ⟨_,rfl,.inl ⟨rfl,_,SqL.of g4⟩,D,_,rfl,rfl,g4,_,rfl,(key H4 f4).2⟩
theorem aOq {hd hd':Hdr} (nd:(hd.map (·.1)).Nodup) (h:∀c∈hd',c∈hd):Looks hd (hd'.map (·.1)) (hd'.map (·.2)):=by
 induction hd' with
 |nil=>exact .nil
 |cons c r ih=>exact .cons (rP nd (h c (List.mem_cons_self ..))) (ih fun x hx=>h x (List.mem_cons_of_mem _ hx))
end
end My
namespace PySem.W
open PySem PySem.Calls PyProof.Rows
def KasT.ev {α:Type} (f:Nat→Nat→Bool):KasT α→α
 |.ret a=>a
 |.ask i j k=>(k (f i j)).ev f
inductive KasT.Low {α:Type} (n:Nat) (P:α→Prop):KasT α→Prop
 |ret {a}:P a→KasT.Low n P (.ret a)
 |ask {i j k}:i<n→j<n→(∀b,KasT.Low n P (k b))→KasT.Low n P (.ask i j k)
theorem KasT.Low.bind {α β:Type} {n:Nat} {P:α→Prop} {R:β→Prop} {t:KasT α} {f:α→KasT β} (h:t.Low n P) (hf:∀a,P a→(f a).Low n R):(t.bind f).Low n R:=by
 induction h with
 |ret h=>exact hf _ h
 |ask a b _ ih=>exact .ask a b ih
theorem KasT.Low.of {α:Type} {n:Nat} {P:α→Prop} {t:KasT α} (h:t.Low n P) (f:Nat→Nat→Bool):P (t.ev f):=by
 induction h with
 |ret h=>exact h
 |@ask i j k a b _ ih=>exact ih (f i j)
theorem aUu {α:Type} {n:Nat} {P:α→Prop} {f:Nat→Nat→Bool} {cmp:Nat→Nat→(Bool→Shared→Prop)→Shared→Prop} {s:Shared} (hc:∀i j C,i<n→j<n→C (f i j) s→cmp i j C s) {t:KasT α} (h:t.Low n P) {Q:α→Shared→Prop} (q:Q (t.ev f) s):t.kasWp cmp Q s:=by
 induction h with
 |ret h=>exact q
 |@ask i j k a b _ ih=>exact hc i j _ a b (ih (f i j) q)
def Pl (n:Nat) (p:Array Nat):Prop:=p.size=n∧∀k,p.getD k 0<n
theorem Pl.perm {n:Nat} {p q:Array Nat} (h:Pl n p) (e:q.Perm p) (h0:0<n):Pl n q:=by
 refine ⟨e.size_eq.trans h.1,fun k=>?_⟩
 by_cases hk:k<q.size
 ·have hm:q[k]∈p.toList:=(Array.perm_iff_toList_perm.mp e).mem_iff.mp (by simp)
  obtain ⟨j,hj,ej⟩:=List.getElem_of_mem hm
  have hj':j<p.size:=by simpa using hj
  have:=h.2 j
  rw [Array.getD_eq_getD_getElem?,Array.getElem?_eq_getElem hj',Option.getD_some] at this
  rw [Array.getD_eq_getD_getElem?,Array.getElem?_eq_getElem hk,Option.getD_some,←ej]
  simpa using this
 ·rw [Array.getD_eq_getD_getElem?,Array.getElem?_eq_none (by omega)]
  exact h0
theorem aCk {n:Nat} {p:Array Nat} (h:Pl n p):∀f m,(kas_asc p f m).Low n (fun r=>m≤r∧r≤m+f)
 |0,m=>.ret ⟨Nat.le_refl _,Nat.le_refl _⟩
 |f+1,m=>by
  refine .ask (h.2 _) (h.2 _) fun c=>?_
  by_cases e:c=true
  ·rw [if_pos e];exact .ret ⟨Nat.le_refl _,by omega⟩
  ·rw [if_neg e]
   have z:=aCk h f (m+1)
   generalize kas_asc p f (m+1)=t at z
   induction z with
   |ret q=>exact .ret ⟨by omega,by omega⟩
   |ask a b _ ih=>exact .ask a b ih
theorem sS {n:Nat} (h0:0<n):∀(f:Nat) (p:Array Nat) (m q:Nat),Pl n p→(kas_desc f p m q).Low n (fun r=>Pl n r.1)
 |0,p,m,q,h=>.ret h
 |f+1,p,m,q,h=>by
  refine .ask (h.2 _) (h.2 _) fun c=>?_
  by_cases e:c=true
  ·rw [if_pos e]
   by_cases e2:q > 0
   ·rw [if_pos e2];exact sS h0 f _ _ _ (h.perm (mirror_perm _ _ _ _) h0)
   ·rw [if_neg e2];exact sS h0 f _ _ _ h
  ·rw [if_neg e]
   refine .ask (h.2 _) (h.2 _) fun d=>?_
   by_cases e3:d=true
   ·rw [if_pos e3];exact .ret h
   ·rw [if_neg e3];exact sS h0 f _ _ _ h
theorem aA1 {n:Nat} (h0:0<n) {p:Array Nat} (h:Pl n p) (m nrem:Nat):(kas_tail3 m nrem p).Low n (fun r=>Pl n r.2):=by
 have h':Pl n (kas_rev p 0 m):=h.perm (mirror_perm _ _ _ _) h0
 exact (aCk h' _ _).bind fun _ _=>.ret h'
theorem rY {n:Nat} (h0:0<n) {p:Array Nat} (h:Pl n p) (m nrem:Nat):(kas_descPart m nrem p).Low n (fun r=>Pl n r.2):=by
 refine (sS h0 _ _ _ _ h).bind fun r hr=>?_
 by_cases e:r.2.2 > 0
 ·rw [if_pos e];exact aA1 h0 (hr.perm (mirror_perm _ _ _ _) h0) _ _
 ·rw [if_neg e];exact aA1 h0 hr _ _
theorem aMt {n:Nat} (h0:0<n) {p:Array Nat} (h:Pl n p) (nrem:Nat):(kas_count nrem p).Low n (fun r=>Pl n r.2):=by
 refine (aCk h _ _).bind fun m _=>?_
 by_cases e:(m == nrem)=true
 ·rw [if_pos e];exact .ret h
 ·rw [if_neg e]
  by_cases e2:m > 1
  ·rw [if_pos e2]
   refine .ask (h.2 _) (h.2 _) fun c=>?_
   by_cases e3:c=true
   ·rw [if_pos e3];exact .ret h
   ·rw [if_neg e3];exact rY h0 (h.perm (mirror_perm _ _ _ _) h0) _ _
  ·rw [if_neg e2];exact rY h0 h _ _
theorem vI {n:Nat} {p:Array Nat} (h:Pl n p) (k:Nat):∀f l r,(kas_place p k f l r).Low n (fun _=>True)
 |0,l,r=>.ret trivial
 |f+1,l,r=>by
  unfold kas_place
  by_cases e:l ≥ r
  ·rw [if_pos e];exact .ret trivial
  ·rw [if_neg e]
   refine .ask (h.2 _) (h.2 _) fun c=>?_
   by_cases e2:c=true
   ·rw [if_pos e2];exact vI h k f _ _
   ·rw [if_neg e2];exact vI h k f _ _
theorem aK0 {n:Nat} (h0:0<n):∀(f:Nat) (p:Array Nat) (k:Nat),Pl n p→(kas_bin f p k).Low n (Pl n)
 |0,p,k,h=>.ret h
 |f+1,p,k,h=>(vI h k k 0 k).bind fun l _=>aK0 h0 f _ _ (h.perm (bubble_perm _ _ _) h0)
theorem aN8 {n:Nat} (h0:0<n):Pl n (List.toArray (List.range n)):=by
 refine ⟨by simp,fun k=>?_⟩
 rw [Array.getD_eq_getD_getElem?,List.getElem?_toArray]
 by_cases h:k<n
 ·rw [List.getElem?_range h];exact h
 ·rw [List.getElem?_eq_none (by simpa using h)];exact h0
theorem yD {n:Nat} (h0:0<n):(kas_sort n).Low n (Pl n):=by
 refine (aMt h0 (aN8 h0) n).bind fun r hr=>?_
 by_cases e:r.1<n
 ·rw [if_pos e];exact aK0 h0 _ _ _ hr
 ·rw [if_neg e];exact .ret hr
def lQ (n:Nat) (f:Nat→Nat→Bool):List Nat:=if n<2 then List.range n else ((kas_sort n).ev f).toList
theorem aBe (n:Nat) (f:Nat→Nat→Bool):(lQ n f).length=n:=by
 unfold lQ
 by_cases h:n<2
 ·rw [if_pos h,List.length_range]
 ·rw [if_neg h,Array.length_toList]
  exact ((yD (by omega)).of f).1
theorem vK {n:Nat} {f:Nat→Nat→Bool} {i:Nat} (h:i∈lQ n f):i<n:=by
 unfold lQ at h
 by_cases h2:n<2
 ·rw [if_pos h2] at h;exact List.mem_range.mp h
 ·rw [if_neg h2] at h
  have z:=(yD (n:=n) (by omega)).of f
  obtain ⟨j,hj,e⟩:=List.getElem_of_mem h
  have hj':j<((kas_sort n).ev f).size:=by simpa using hj
  have:=z.2 j
  rw [Array.getD_eq_getD_getElem?,Array.getElem?_eq_getElem hj',Option.getD_some] at this
  rw [←e]
  simpa using this
section
variable {prog:Program} {w:World} {A:Around} {E:Value→Shared→Prop} {s:Shared} {f:Nat→Nat→Bool}
theorem wI {a:Addr} {vs:List Value} {n:Nat} {P:PySem.Fin→Shared→Prop} (ho:s.heap.get? a=some (seqObj "list" vs.toArray n)) (h64:vs.length<64)
  (hk:2≤vs.length→∀h',(∀b o,b≠a→s.heap.get? b=some o→h'.get? b=some o)→∃κ,(∀(Q:SortKind→Shared→Prop),Q κ { s with heap:=h' }→wpAny (model prog w) A (keyKind' vs.toArray) Q (fun _ _=>False) { s with heap:=h' })∧∀i j (C:Bool→Shared→Prop),i<vs.length→j<vs.length→C (f i j) { s with heap:=h' }→kas_ask prog w A κ vs i j C { s with heap:=h' })
  (h:P (.done (.ret .none)) { s with heap:=sortedHeap s.heap a vs (List.toArray ((lQ vs.length f).map fun i=>vs.getD i Value.none)) }) :
  wpAny (model prog w) A (Builtin.«list.sort» ⟨[.ref a],[]⟩) P E s:=by
 rw [list_sort_plain]
 have ha:a<s.heap.objs.size:=Heap.lt_size ho
 refine wpAny_bind (listItems_at ho rfl ?_)
 refine wpAny_bind (listUpdate_at ho rfl ?_ (by rw [List.size_toArray,sizeLine_eq];omega) (Nat.zero_le _))
 obtain ⟨e1,ho1⟩:∃e1,(s.heap.update a (Obj.mapSeq fun _=>#[])).get? a=some (seqObj "list" #[] e1):=⟨_,get?_update_seq ho (fun _=>#[])⟩
 refine wpAny_bind (seqEpoch_at ho1 rfl ?_)
 refine wpAny_bind (wpAny_newTuple ?_ (by show vs.length≤_;rw [sizeLine_eq];omega))
 refine wpAny_bind (wpAny_newList ?_ (Nat.zero_le _))
 refine wpAny_holding ?_
 have ho6:(((s.heap.update a (Obj.mapSeq fun _=>#[])).push (seqObj "tuple" vs.toArray 0)).push (seqObj "list" #[] 0)).get? a=some (seqObj "list" #[] e1):=by
  rw [Heap.get?_push_ne _ _ _ (by rw [size_push',Heap.size_update];exact Nat.ne_of_lt (Nat.lt_succ_of_lt ha)),Heap.get?_push_ne _ _ _ (by rw [Heap.size_update];exact Nat.ne_of_lt ha)]
  exact ho1
 have keep:∀b o,b≠a→s.heap.get? b=some o→(((s.heap.update a (Obj.mapSeq fun _=>(#[]:Array Value))).push (seqObj "tuple" vs.toArray 0)).push (seqObj "list" #[] 0)).get? b=some o:=fun b o ne q=>by
  refine Heap.get?_push_of_some _ (Heap.get?_push_of_some _ ?_)
  rw [Heap.get?_update_ne _ _ _ _ ne]
  exact q
 show wpAny (model prog w) A _ P E { s with heap:=((s.heap.update a (Obj.mapSeq fun _=>#[])).push (seqObj "tuple" vs.toArray 0)).push (seqObj "list" #[] 0) }
 dsimp only
 have hsz:vs.toArray.size=vs.length:=by simp
 by_cases h2:vs.toArray.size<2
 ·rw [if_pos h2,if_pos h2]
  refine wpAny_bind (wpAny_pure ?_)
  rw [StateT.run_pure]
  refine wpAny_bind (wpAny_pure ?_)
  dsimp only
  refine wpAny_bind (seqEpoch_at ho6 rfl ?_)
  refine wpAny_bind (listUpdate_at ho6 rfl ?_ (hsz2:=by rw [Array.size_map];show (pairsOf vs).size≤_;rw [pairsOf_size,sizeLine_eq];omega))
  simp only [bne_self_eq_false,Bool.false_eq_true,if_false]
  refine wpAny_pure ?_
  have e:((arrOf (SortSt.mk' general' (vs.toArray.zip vs.toArray) #[] 7 none)).map (·.2))=List.toArray ((lQ vs.length f).map fun i=>vs.getD i Value.none):=by
   show ((vs.toArray.zip vs.toArray).map (·.2))=_
   unfold lQ
   rw [if_pos (by omega)]
   match vs,hsz,h2 with
   |[],_,_=>simp
   |[x],_,_=>simp [List.range,List.range.loop]
   |_::_::_,hsz,h2=>rw [hsz,List.length_cons,List.length_cons] at h2;omega
  rw [e]
  exact h
 ·rw [if_neg h2,if_neg h2]
  have h2':2≤vs.length:=by omega
  obtain ⟨κ,hk1,hk2⟩:=hk h2' _ keep
  refine wpAny_bind (wpAny_mono (hk1 (fun κ' s'=>(kas_sort vs.length).kasWp (kas_ask prog w A κ' vs) (fun p s'=>s'={ s with heap:=((s.heap.update a (Obj.mapSeq fun _=>#[])).push (seqObj "tuple" vs.toArray 0)).push (seqObj "list" #[] 0) }∧p=(kas_sort vs.length).ev f) s') (aUu (n:=vs.length) (P:=Pl vs.length) (f:=f) (cmp:=kas_ask prog w A κ vs) (t:=kas_sort vs.length) hk2 (yD (by omega)) (Q:=fun p s'=>s'={ s with heap:=((s.heap.update a (Obj.mapSeq fun _=>#[])).push (seqObj "tuple" vs.toArray 0)).push (seqObj "list" #[] 0) }∧p=(kas_sort vs.length).ev f) ⟨rfl,rfl⟩)) (fun κ' s0 hk=>?_) fun _ _ x=>x.elim)
  refine wpAny_bind (wpAny_mono (kat_run (Q:=fun st' s'=>∃p:Array Nat,p.size=vs.length∧arrOf st'=p.map (kas_item (vs.toArray.zip vs.toArray))∧failedOf st'=none∧s'={ s with heap:=((s.heap.update a (Obj.mapSeq fun _=>#[])).push (seqObj "tuple" vs.toArray 0)).push (seqObj "list" #[] 0) }∧p=(kas_sort vs.length).ev f)
   rfl h2' h64 (fun p' st' s' a1 a2 a3 a4=>⟨p',a1,a2,a3,a4⟩) hk) ?_ fun _ _ e=>e)
  rintro ⟨⟨⟩,st'⟩ s' ⟨p,hp,har,hf,rfl,rfl⟩
  dsimp only
  have hout:=kat_snds rfl har
  rw [hout]
  refine wpAny_bind (seqEpoch_at ho6 rfl ?_)
  refine wpAny_bind (listUpdate_at ho6 rfl ?_ (Nat.zero_le _) (by rw [List.size_toArray,List.length_map,Array.length_toList,hp,sizeLine_eq];omega))
  rw [hf]
  simp only [bne_self_eq_false,Bool.false_eq_true,if_false]
  refine wpAny_pure ?_
  have e:lQ vs.length f=((kas_sort vs.length).ev f).toList:=by unfold lQ;rw [if_neg (by omega)]
  rw [e] at h
  exact h
theorem aEb {l:Addr} {vs:List Value} {Q:Value→Shared→Prop} (hl:s.heap.IsList l vs.toArray) (h64:vs.length<64)
  (hk:2≤vs.length→∀h',(∀b o,s.heap.get? b=some o→h'.get? b=some o)→∃κ,(∀(Q:SortKind→Shared→Prop),Q κ { s with heap:=h' }→wpAny (model prog w) A.in1.in1 (keyKind' vs.toArray) Q (fun _ _=>False) { s with heap:=h' })∧∀i j (C:Bool→Shared→Prop),i<vs.length→j<vs.length→C (f i j) { s with heap:=h' }→kas_ask prog w A.in1.in1 κ vs i j C { s with heap:=h' })
  (h:Q (.ref (s.heap.objs.size+1)) { s with heap:=sortedAll s.heap vs (List.toArray ((lQ vs.length f).map fun i=>vs.getD i Value.none)) }) :
  wpAny (model prog w) A (call (.builtin "sorted") [.ref l]) Q E s:=by
 refine Calls.call_function_entry kind_sorted plain_sorted entry_sorted (args_sorted1 _) ?_
 unfold Builtin.«sorted»
 refine wpAny_bind (m:=checkCount "sorted" 1 1 _) (wpAny_pure ?_)
 refine wpAny_bind (collect_list hl ?_ (by rw [sizeLine_eq];omega))
 refine wpAny_bind (wpAny_newList ?_ (by rw [sizeLine_eq];omega))
 have hsz:((s.heap.push (seqObj "list" #[] 0)).update s.heap.objs.size (Obj.mapSeq (·++vs.toArray))).objs.size=s.heap.objs.size+1:=by
  rw [Heap.size_update,size_push']
 have hoL:(((s.heap.push (seqObj "list" #[] 0)).update s.heap.objs.size (Obj.mapSeq (·++vs.toArray))).push (seqObj "list" vs.toArray 0)).get? (s.heap.objs.size+1)=some (seqObj "list" vs.toArray 0):=by
  rw [←hsz];exact Heap.get?_push_size _ rfl
 have keep:∀b o,s.heap.get? b=some o→(((s.heap.push (seqObj "list" #[] 0)).update s.heap.objs.size (Obj.mapSeq (·++vs.toArray))).push (seqObj "list" vs.toArray 0)).get? b=some o:=fun b o q=>by
  have hlt:b<s.heap.objs.size:=Heap.lt_size q
  rw [Heap.get?_push_ne _ _ _ (by rw [hsz];exact Nat.ne_of_lt (Nat.lt_succ_of_lt hlt)),Heap.get?_update_ne _ _ _ _ (Nat.ne_of_lt hlt),Heap.get?_push_ne _ _ _ (Nat.ne_of_lt hlt)]
  exact q
 show wpAny _ _ _ _ _ { s with heap:=((s.heap.push (seqObj "list" #[] 0)).update s.heap.objs.size (Obj.mapSeq (·++vs.toArray))).push (seqObj "list" vs.toArray 0) }
 rw [hsz]
 refine wpAny_bind (wpAny_holding (wpAny_call_entry slot_list_sort ⟨_,hoL,rfl⟩ entry_list_sort (wI (f:=f) (s:={ s with heap:=((s.heap.push (seqObj "list" #[] 0)).update s.heap.objs.size (Obj.mapSeq (·++vs.toArray))).push (seqObj "list" vs.toArray 0) }) hoL h64 (fun h2 h' kp=>hk h2 h' fun b o q=>kp b o (Nat.ne_of_lt (Nat.lt_succ_of_lt (Heap.lt_size q))) (keep b o q)) ⟨_,rfl,?_⟩) (args_list_sort _)))
 exact wpAny_pure ⟨_,rfl,h⟩
end
end PySem.W
namespace L2
open PySem PySem.Spec PyProof.Rows
inductive Al2 {α β:Type} (R:α→β→Prop):List α→List β→Prop
 |nil:Al2 R [] []
 |cons {a b as bs}:R a b→Al2 R as bs→Al2 R (a::as) (b::bs)
theorem Al2.len {α β:Type} {R:α→β→Prop} {as:List α} {bs:List β} (h:Al2 R as bs):as.length=bs.length:=by
 induction h with
 |nil=>rfl
 |cons _ _ ih=>rw [List.length_cons,List.length_cons,ih]
theorem Al2.at {α β:Type} {R:α→β→Prop} {as:List α} {bs:List β} (h:Al2 R as bs):∀{j:Nat} {a:α},as[j]?=some a→∃b,bs[j]?=some b∧R a b:=by
 induction h with
 |nil=>intro j a e;simp at e
 |cons r _ ih=>
  intro j a e
  cases j with
  |zero=>cases e;exact ⟨_,rfl,r⟩
  |succ j=>exact ih (by simpa using e)
def DEq (K:PySem.W.Frag) (H:Hp):Nat→V→V→Prop
 |0,x,y=>iY x=true∧x=y
 |n+1,x,y=>(iY x=true∧x=y)∨∃a b xs ys,x=.ref a∧y=.ref b∧SqT K H a xs∧SqT K H b ys∧Al2 (DEq K H n) xs ys
theorem aAn {A:Around} {s:Shared} {x:V} {v u:Value} (h:iY x=true) (rv:RelV x v) (ru:RelV x u):SeqAt.EqAt A s v u true:=by
 cases x with
 |non=>cases rv;cases ru;exact SeqAt.EqAt.same _
 |bl b=>cases rv;cases ru;exact SeqAt.EqAt.same _
 |int i=>
  obtain ⟨t,rfl⟩:=rv
  obtain ⟨t',rfl⟩:=ru
  have z:=SeqAt.EqAt.int_int (A:=A) (s:=s) i t i t'
  simpa using z
 |str y=>
  obtain ⟨t,rfl⟩:=rv
  obtain ⟨t',rfl⟩:=ru
  have z:=SeqAt.EqAt.str_str (A:=A) (s:=s) y t y t'
  simpa using z
 |_=>cases h
section
variable {X:Cx} {pins:List (Addr × Obj)} {σ:L2.St} {H:Hp} {s:Shared}
theorem yS (I:Inv X pins σ H s) {n:Nat} {A:Around} {xs ys:List V} {its jts:List Value} (rv:Vals xs its) (rw':Vals ys jts) (h:Al2 (DEq X.K H n) xs ys)
  (ih:∀{x y v u},DEq X.K H n x y→RelV x v→RelV y u→SeqAt.EqAt A s v u true):∀(j:Nat) (h1:j<its.toArray.size) (h2:j<jts.toArray.size),SeqAt.EqAt A s its.toArray[j] jts.toArray[j] ((fun _=>true) j):=fun j h1 h2=>by
 have e1:=rv.length
 have hj1:j<xs.length:=by rw [List.size_toArray] at h1;omega
 obtain ⟨y,hy,d⟩:=h.at (List.getElem?_eq_getElem hj1)
 obtain ⟨u1,hu1,r1⟩:=rv.get (List.getElem?_eq_getElem hj1)
 obtain ⟨u2,hu2,r2⟩:=rw'.get hy
 have g1:its.toArray[j]=u1:=by
  rw [List.getElem_toArray]
  exact (List.getElem?_eq_some_iff.mp hu1).2
 have g2:jts.toArray[j]=u2:=by
  rw [List.getElem_toArray]
  exact (List.getElem?_eq_some_iff.mp hu2).2
 rw [g1,g2]
 exact ih d r1 r2
theorem uF (n:Nat):(List.range n).all (fun _=>true)=true:=by rw [List.all_eq_true];intro _ _;rfl
theorem aBm (I:Inv X pins σ H s):∀(n:Nat) {A:Around} {x y:V} {v u:Value},DEq X.K H n x y→RelV x v→RelV y u→A.units+n<cLine→SeqAt.EqAt A s v u true
 |0,A,x,y,v,u,h,rv,ru,_=>by
  obtain ⟨h,rfl⟩:=h
  exact aAn h rv ru
 |n+1,A,x,y,v,u,h,rv,ru,hu=>by
  rcases h with ⟨h,rfl⟩|⟨a,b,xs,ys,rfl,rfl,ha,hb,h⟩
  ·exact aAn h rv ru
  cases rv
  cases ru
  by_cases e:a=b
  ·subst e;exact SeqAt.EqAt.same _
  obtain ⟨its,r1,pl,hz⟩:=I.tuple ha
  obtain ⟨jts,r2,pm,hw⟩:=I.tuple hb
  refine SeqAt.EqAt.of_refs e ?_
  have z:=SeqAt.RcAt.tuples (A:=A) (e:=fun _=>true) (show s.heap.IsTuple a its.toArray from pl) (show s.heap.IsTuple b jts.toArray from pm) (by omega) (yS I r1 r2 h fun d q1 q2=>aBm I n d q1 q2 (by show A.units+1+n<cLine;omega))
  have z2:(its.toArray.size == jts.toArray.size)=true:=by rw [List.size_toArray,List.size_toArray];have:=r1.length;have:=r2.length;have:=h.len;simp;omega
  rw [uF,z2] at z
  exact z
end
def aXu (K:PySem.W.Frag) (r:Bool):R2:=fun x y H Q=>∃a b xs ys,x=.ref a∧y=.ref b∧SqT K H a xs∧SqT K H b ys∧Al2 (DEq K H 40) xs ys∧Q (.bl r) H
theorem aUs {X:Cx} (hu:X.A.units+64<cLine):OpR X (compareOp .NotEq) (aXu X.K false):=by
 intro pins s σ H x y v u Q I rx ry h
 obtain ⟨a,b,xs,ys,rfl,rfl,ha,hb,h,q⟩:=h
 cases rx
 cases ry
 obtain ⟨its,r1,pl,hz⟩:=I.tuple ha
 obtain ⟨jts,r2,pm,hw⟩:=I.tuple hb
 refine SeqAt.RcNeAt.tuples (e:=fun _=>true) (show s.heap.IsTuple a its.toArray from pl) (show s.heap.IsTuple b jts.toArray from pm) (by omega) (yS I r1 r2 h fun d q1 q2=>aBm I 40 d q1 q2 (by show X.A.units+1+40<cLine;omega)) _ _ _ _ ?_
 have z2:(its.toArray.size == jts.toArray.size)=true:=by rw [List.size_toArray,List.size_toArray];have:=r1.length;have:=r2.length;have:=h.len;simp;omega
 rw [uF,z2]
 exact ⟨.bl _,H,I,rfl,q⟩
def nZ (K:PySem.W.Frag) (H:Hp) (u:V) (r:List V):Prop:=∃a,u=.ref a∧SqT K H a r
theorem nZ.same {K:PySem.W.Frag} {H H':Hp} {u:V} {r:List V} (e:Same H H') (h:nZ K H u r):nZ K H' u r:=by
 obtain ⟨a,rfl,ha⟩:=h
 exact ⟨a,rfl,e.aP ha⟩
def KdV:Bool→V→Prop
 |true,x=>∃i,x=.int i
 |false,x=>∃z,x=.str z
def KdR (ks:List Bool) (r:List V):Prop:=Al2 KdV ks r
def rlt:List V→List V→Bool
 |.int a::xs,.int b::ys=>if (a == b)=true then rlt xs ys else decide (a<b)
 |.str a::xs,.str b::ys=>if (a == b)=true then rlt xs ys else decide (a.cps.toList<b.cps.toList)
 |_,_=>false
def srt (rs:List (List V)):List (List V):=(PySem.W.lQ rs.length fun i j=>rlt (rs.getD i []) (rs.getD j [])).map fun i=>rs.getD i []
theorem aRo (rs:List (List V)):(srt rs).length=rs.length:=by unfold srt;rw [List.length_map,PySem.W.aBe]
theorem aSi {rs:List (List V)} {r:List V} (h:r∈srt rs):r∈rs:=by
 obtain ⟨i,hi,rfl⟩:=List.mem_map.mp h
 have:=PySem.W.vK hi
 have e:rs.getD i []=rs[i]:=by simp [this]
 rw [e]
 exact List.getElem_mem this
theorem Al2.get {α β:Type} {R:α→β→Prop} {as:List α} {bs:List β} (h:Al2 R as bs) {i:Nat} {a:α} {b:β} (h1:as[i]?=some a) (h2:bs[i]?=some b):R a b:=by
 obtain ⟨b',e,r⟩:=h.at h1
 rw [h2] at e
 cases e
 exact r
section
variable {prog:Program} {w:World} {A:Around} {s:Shared} {b:Bool} {Q:Bool→Shared→Prop}
theorem aRl (ks:List Bool):∀{r1 r2:List V} {i1 i2:List Value},KdR ks r1→KdR ks r2→Vals r1 i1→Vals r2 i2→∀i:Nat,Q (rlt r1 r2) s→PySem.W.KatLex prog w A b false Q (i1.zip i2) i s:=by
 induction ks with
 |nil=>
  intro r1 r2 i1 i2 h1 h2 v1 v2 i q
  cases h1;cases h2;cases v1;cases v2
  exact q
 |cons k ks ih=>
  intro r1 r2 i1 i2 h1 h2 v1 v2 i q
  cases h1 with
  |cons a1 t1=>
   cases h2 with
   |cons a2 t2=>
    cases v1 with
    |cons p1 w1=>
     cases v2 with
     |cons p2 w2=>
      cases k with
      |true=>
       obtain ⟨x,rfl⟩:=a1
       obtain ⟨y,rfl⟩:=a2
       obtain ⟨t,rfl⟩:=p1
       obtain ⟨u,rfl⟩:=p2
       refine (SeqAt.EqAt.int_int x t y u) prog w _ _ ?_
       unfold rlt at q
       by_cases e:(x == y)=true
       ·rw [e,if_pos rfl]
        rw [if_pos e] at q
        exact ih t1 t2 w1 w2 (i+1) q
       ·rw [if_neg e] at q
        rw [Bool.not_eq_true] at e
        rw [e,if_neg (by decide)]
        cases hb:(b && i == 0) with
        |true=>exact oneLt_int q
        |false=>exact PySem.W.kat_one _ _ (lt_int q)
      |false=>
       obtain ⟨x,rfl⟩:=a1
       obtain ⟨y,rfl⟩:=a2
       obtain ⟨t,rfl⟩:=p1
       obtain ⟨u,rfl⟩:=p2
       refine (SeqAt.EqAt.str_str x t y u) prog w _ _ ?_
       unfold rlt at q
       by_cases e:(x == y)=true
       ·rw [e,if_pos rfl]
        rw [if_pos e] at q
        exact ih t1 t2 w1 w2 (i+1) q
       ·rw [if_neg e] at q
        rw [Bool.not_eq_true] at e
        rw [e,if_neg (by decide)]
        cases hb:(b && i == 0) with
        |true=>exact oneLt_str q
        |false=>exact PySem.W.kat_one _ _ (lt_str q)
end
section
variable {X:Cx}
def aVn (K:PySem.W.Frag):List V→Hp→VK→Prop:=fun xs H Q=>∃(l:Addr) (us:List V) (rs:List (List V)) (ks:List Bool),xs=[.ref l]∧SqL K H l us∧Al2 (nZ K H) us rs∧us.length<64∧ks≠[]∧(∀r∈rs,KdR ks r) ∧
 ∀D H' us',H D=none→Same H H'→H' D=some (.lst us')→Al2 (nZ K H) us' (srt rs)→Q (.ref D) H'
theorem aKr {pins:List (Addr × Obj)} {σ:L2.St} {H:Hp} {s:Shared} {h':Heap} {k:Bool} {ks:List Bool} (I:Inv X pins σ H s) (kp:∀b o,s.heap.get? b=some o→h'.get? b=some o):∀{us:List V} {rs:List (List V)} {its:List Value},Al2 (nZ X.K H) us rs→Vals us its→(∀r∈rs,KdR (k::ks) r) →
  ∃fs,PySem.W.KatTups h' its fs∧fs.length=its.length∧∀f∈fs,∀M:Model,PySem.W.Looks M h' (typeOf f) (.type (if k=true then "int" else "str"))
 |_,_,_,.nil,.nil,_=>⟨[],.nil,rfl,fun f h=>by cases h⟩
 |_,_,_,.cons (b:=r) hr t,.cons q z,hk=>by
  obtain ⟨fs,h1,h2,h3⟩:=aKr I kp t z fun r m=>hk r (List.mem_cons_of_mem _ m)
  obtain ⟨a,rfl,ha⟩:=hr
  cases q
  obtain ⟨ks',rv,⟨o,ho,hc,n,hd⟩,_⟩:=I.tuple ha
  have hkr:=hk r (List.mem_cons_self ..)
  cases hkr with
  |cons hx _=>
   cases rv with
   |@cons _ f _ fr rx _=>
    refine ⟨f::fs,.cons (kp _ _ ho) hc hd (by simp) h1,by rw [List.length_cons,List.length_cons,h2],fun g hg M=>?_⟩
    rcases List.mem_cons.mp hg with rfl|hg
    ·cases k with
     |true=>
      obtain ⟨i,rfl⟩:=hx
      obtain ⟨tk,rfl⟩:=rx
      exact .now
     |false=>
      obtain ⟨i,rfl⟩:=hx
      obtain ⟨tk,rfl⟩:=rx
      exact .now
    ·exact h3 g hg M
theorem iB:cD X (.builtin "sorted") (aVn X.K):=by
 intro pins s σ H xs us0 Q I r h
 obtain ⟨l,us,rs,ks,rfl,hl,hr,h64,hne,hk,q⟩:=h
 obtain ⟨u,rfl,ru⟩:=vals1 r
 cases ru
 obtain ⟨its,rv,pl,hz⟩:=I.list hl
 have e1:=rv.length
 have e2:=hr.len
 obtain ⟨k,ks',rfl⟩:∃k ks',ks=k::ks':=by
  cases ks with
  |nil=>exact absurd rfl hne
  |cons k ks'=>exact ⟨k,ks',rfl⟩
 refine PySem.W.aEb (f:=fun i j=>rlt (rs.getD i []) (rs.getD j [])) pl.isList (by omega) (fun h2 h' kp=>?_) ?_
 ·obtain ⟨fs,t1,t2,t3⟩:=aKr I kp hr rv hk
  refine ⟨_,fun Q hq=>PySem.W.kat_kind (s:={ s with heap:=h' }) (T:=.type (if k=true then "int" else "str")) t1 (by omega) (fun v hv=>t3 v hv _) (by simp) hq,fun i j C hi hj hC=>?_⟩
  have row:∀{i:Nat},i<its.length→∃a o r xs n,its.getD i Value.none=.ref a∧h'.get? a=some o∧o.data=.seq (List.toArray xs) n∧Vals r xs∧rs.getD i []=r∧KdR (k::ks') r:=fun {i} hi=>by
   have hiu:i<us.length:=by omega
   have hir:i<rs.length:=by omega
   obtain ⟨a,ea,ha⟩:=hr.get (List.getElem?_eq_getElem hiu) (List.getElem?_eq_getElem hir)
   obtain ⟨v,hv,rx⟩:=rv.get (List.getElem?_eq_getElem hiu)
   rw [ea] at rx
   cases rx
   obtain ⟨xs,rr,⟨o,ho,hc,n,hd⟩,_⟩:=I.tuple ha
   refine ⟨a,o,rs[i],xs,n,?_,kp _ _ ho,hd,rr,by simp [hir],hk _ (List.getElem_mem hir)⟩
   rw [List.getD_eq_getElem?_getD,hv]
   rfl
  obtain ⟨a,o,r1,x1,n1,g1,g2,g3,g4,g5,g6⟩:=row hi
  obtain ⟨b,o',r2,x2,n2,g1',g2',g3',g4',g5',g6'⟩:=row hj
  show wpAny _ _ (keyLt' _ (its.getD i Value.none) (its.getD j Value.none)) C _ _
  rw [g1,g1']
  refine PySem.W.kat_lt (s:={ s with heap:=h' }) g2 g3 g2' g3' ?_
  have hsz:decide ((List.toArray x1).size<(List.toArray x2).size)=false:=by
   rw [List.size_toArray,List.size_toArray]
   have:=g4.length
   have:=g4'.length
   have:=Al2.len g6
   have:=Al2.len g6'
   exact decide_eq_false (by omega)
  rw [hsz]
  refine aRl (k::ks') g6 g6' g4 g4' 0 ?_
  have hC:C (rlt (rs.getD i []) (rs.getD j [])) { s with heap:=h' }:=hC
  rw [g5,g5'] at hC
  exact hC
 ·obtain ⟨e,he⟩:=sortedAll_at s.heap its (List.toArray ((PySem.W.lQ its.length fun i j=>rlt (rs.getD i []) (rs.getD j [])).map fun i=>its.getD i Value.none))
  have hf:H (s.heap.objs.size+1)=none:=I.hok.fresh (Nat.le_succ _)
  have el:its.length=rs.length:=by omega
  refine ⟨.ref (s.heap.objs.size+1),_,I.laid (t':=s.toks) (o:=.lst ((PySem.W.lQ rs.length fun i j=>rlt (rs.getD i []) (rs.getD j [])).map fun i=>us.getD i .non)) (fun b o q=>sortedAll_old q) (Nat.le_succ _) ?_,rfl,q _ _ _ hf (bG hf _) aH ?_⟩
  ·refine ⟨small (by rw [List.length_map,PySem.W.aBe];omega),_,e,?_,he⟩
   rw [el]
   have aux:∀L:List Nat,(∀i∈L,i<us.length)→Vals (L.map fun i=>us.getD i .non) (L.map fun i=>its.getD i Value.none):=by
    intro L
    induction L with
    |nil=>intro _;exact .nil
    |cons i L ih=>
     intro hL
     have hi:=hL i (List.mem_cons_self ..)
     obtain ⟨v,hv,rx⟩:=rv.get (List.getElem?_eq_getElem hi)
     refine .cons ?_ (ih fun j hj=>hL j (List.mem_cons_of_mem _ hj))
     show RelV (us.getD i .non) (its.getD i Value.none)
     rw [List.getD_eq_getElem?_getD,List.getElem?_eq_getElem hi,List.getD_eq_getElem?_getD,hv]
     exact rx
   exact aux _ fun i hi=>by have:=PySem.W.vK hi;omega
  ·unfold srt
   have aux:∀L:List Nat,(∀i∈L,i<us.length)→Al2 (nZ X.K H) (L.map fun i=>us.getD i .non) (L.map fun i=>rs.getD i []):=by
    intro L
    induction L with
    |nil=>intro _;exact .nil
    |cons i L ih=>
     intro hL
     have hi:=hL i (List.mem_cons_self ..)
     have hir:i<rs.length:=by omega
     refine .cons ?_ (ih fun j hj=>hL j (List.mem_cons_of_mem _ hj))
     show nZ X.K H (us.getD i .non) (rs.getD i [])
     rw [List.getD_eq_getElem?_getD,List.getElem?_eq_getElem hi,List.getD_eq_getElem?_getD,List.getElem?_eq_getElem hir]
     exact hr.get (List.getElem?_eq_getElem hi) (List.getElem?_eq_getElem hir)
   exact aux _ fun i hi=>by have:=PySem.W.vK hi;omega
end
section
variable {X:Cx}
def aWb:R2:=fun x y H Q=>(∃a b,x=.int a∧y=.int b∧Q (.bl (decide (a<b))) H)∨∃a b:Str,x=.str a∧y=.str b∧Q (.bl (decide (a.cps.toList<b.cps.toList))) H
theorem aOi:OpR X (compareOp .Lt) aWb:=by
 intro pins s σ H x y v u Q I rx ry h
 rcases h with ⟨a,b,rfl,rfl,q⟩|⟨a,b,rfl,rfl,q⟩
 ·obtain ⟨t,rfl⟩:=rx
  obtain ⟨t',rfl⟩:=ry
  exact lt_int ⟨.bl _,H,I,rfl,q⟩
 ·obtain ⟨t,rfl⟩:=rx
  obtain ⟨t',rfl⟩:=ry
  exact lt_str ⟨.bl _,H,I,rfl,q⟩
def aW7:R2:=fun x y H Q=>(∃a b,x=.int a∧y=.int b∧Q (.bl (decide (b<a))) H)∨∃a b:Str,x=.str a∧y=.str b∧Q (.bl (decide (b.cps.toList<a.cps.toList))) H
theorem aPs:OpR X (compareOp .Gt) aW7:=by
 intro pins s σ H x y v u Q I rx ry h
 rcases h with ⟨a,b,rfl,rfl,q⟩|⟨a,b,rfl,rfl,q⟩
 ·obtain ⟨t,rfl⟩:=rx
  obtain ⟨t',rfl⟩:=ry
  exact PyProof.Rows.gt_int ⟨.bl _,H,I,rfl,q⟩
 ·obtain ⟨t,rfl⟩:=rx
  obtain ⟨t',rfl⟩:=ry
  exact P.gt_str ⟨.bl _,H,I,rfl,q⟩
def aSz (K:PySem.W.Frag):V→List V→Hp→VK→Prop:=fun x vs H Q=>∃(l:Addr) (ss:List Str) (n:Str) (i:Nat),x=.ref l∧vs=[.str n]∧SqL K H l (ss.map V.str)∧ss.length≤1000∧ss[i]?=some n∧(∀(j:Nat) (m:Str),j<i→ss[j]?=some m→m≠n)∧Q (.int (i:Nat)) H
def aJv (n:Str):Value→Bool
 |.str x _=>x == n
 |_=>false
theorem aA9:MtR X "list.index" (aSz X.K):=by
 intro pins s σ H x vs v us Q I rx rv h
 obtain ⟨l,ss,n,i,rfl,rfl,hH,h1000,hi,hno,q⟩:=h
 cases rx
 obtain ⟨u,rfl,ru⟩:=rv.one
 obtain ⟨t,rfl⟩:=ru
 obtain ⟨its,r,pl,hz⟩:=I.list hH
 have el:=r.length
 rw [List.length_map] at el
 obtain ⟨⟨cls,dd,data,sl⟩,ho,hc,nn,hd⟩:=id pl.isList
 simp only at hc hd
 subst hc hd
 have hil:=(List.getElem?_eq_some_iff.mp hi).1
 have get:∀{j:Nat} (hj:j<its.length),∃m t',ss[j]?=some m∧its[j]=.str m t':=fun {j} hj=>by
  have hj':j<ss.length:=by omega
  obtain ⟨w,hw,rw'⟩:=r.get (show (ss.map V.str)[j]?=some (.str ss[j]) by rw [List.getElem?_map,List.getElem?_eq_getElem hj'];rfl)
  obtain ⟨t',rfl⟩:=rw'
  exact ⟨ss[j],t',List.getElem?_eq_getElem hj',(List.getElem?_eq_some_iff.mp hw).2⟩
 refine call_meets PySem.F.slot_list_index ⟨_,ho,rfl⟩ PySem.F.entry_list_index (PySem.F.args_list_index_2 _ _)
  (SeqAt.list_indexAt l its.toArray nn dd sl (.str n t) (aJv n) i (by rw [List.size_toArray];omega) (by omega) ?_ ?_) ⟨ho,fun y hy=>?_,⟨.int _,H,I.tok _,⟨_,rfl⟩,q⟩⟩
 ·obtain ⟨m,t',h1,h2⟩:=get (j:=i) (by omega)
  rw [hi] at h1
  cases h1
  show aJv n its[i]=true
  rw [h2]
  show (n == n)=true
  simp
 ·intro j hj hlt
  obtain ⟨m,t',h1,h2⟩:=get (j:=j) (by simpa using hj)
  show aJv n its[j]=false
  rw [h2]
  have:=hno j m hlt h1
  show (m == n)=false
  simpa using this
 ·have hy:y∈its:=by simpa using hy
  obtain ⟨j,hj,rfl⟩:=List.getElem_of_mem hy
  obtain ⟨m,t',h1,h2⟩:=get (j:=j) hj
  rw [h2]
  exact SeqAt.EqAt.str_str m t' n t
end
end L2
namespace L2
open PySem PySem.Spec PyProof.Rows Builtin
section
variable {prog:Program} {w:World} {A:Around} {E:Value→Shared→Prop} {s:Shared}
theorem aGj {x Tx:Value} {P:Shared→Prop} (hP:∀s tk,P s→P { s with toks:=tk }) {tp:Addr} {o:Obj} {n:Nat} {tk:Tok} {cs:List Value} {vs:List Bool} {Q:PySem.Fin→Shared→Prop}
  (T:PySem.W.Looks (model prog w) s.heap (typeOf x) Tx) (ne:¬ (Tx == Value.ref tp)=true) (ho:s.heap.get? tp=some o) (hc:o.cls=.type "tuple") (hd:o.data=.seq cs.toArray n) (ha:AnswersAll P x cs vs) (hp:P s)
  (hq:∀t,Q (.done (.ret (.bool (vs.any id)))) { s with toks:=t }) :
  wpAny (model prog w) A (Builtin.«isinstance.nested» ⟨[x,.ref tp,.int 0 tk],[]⟩) Q E s:=by
 obtain ⟨h,g,d,t,os⟩:=s
 have T2:PySem.W.Looks (model prog w) h (typeOf (.ref tp)) (.type "tuple"):=hc ▸ (PySem.W.Looks.ld ho).andThen .now
 unfold Builtin.«isinstance.nested»
 refine wpAny_bind (T.at ?_)
 rw [if_neg ne]
 refine wpAny_bind (T2.at ?_)
 rw [if_neg (by decide)]
 unfold Builtins.unionMembers
 refine wpAny_bind (wpAny_bind (T2.at ?_))
 rw [if_neg (by decide)]
 refine wpAny_pure ?_
 have LI:PySem.W.Looks (model prog w) h (isInstance (.ref tp) (.type "tuple")) true:=T2.andThen (PySem.W.Looks.of_pure F.isi_sub_tuple)
 have SI:PySem.W.Looks (model prog w) h (seqItems? (.ref tp)) (some cs.toArray):=(PySem.W.Looks.ld ho).andThen (by rw [hd];exact .now)
 refine wpAny_bind (LI.at ?_)
 rw [if_pos rfl]
 dsimp only
 rw [if_neg (by decide)]
 refine wpAny_bind (SI.at (wpAny_bind ?_))
 rw [Option.getD_some]
 have e0:∀{F:Value→Option Fin × Unit→Sem (ForInStep (Option Fin × Unit))} {b:Option Fin × Unit},forIn cs.toArray b F=forIn cs b F:=by intros;simp
 rw [e0]
 refine isinstance_items (dep:=0) (P:=P) hP cs vs _ _ ha hp fun tk'=>?_
 cases hv:vs.any id with
 |true=>
  rw [if_pos rfl]
  exact wpAny_pure (hv ▸ hq tk')
 |false=>
  rw [if_neg (by decide)]
  exact wpAny_pure (hv ▸ hq tk')
end
section
variable {X:Cx}
def aTj (K:PySem.W.Frag):List V→Hp→VK→Prop:=fun xs H Q=>∃x t,xs=[x,.ref t]∧SqT K H t [.ty "int",.ty "str"]∧((∃i,x=.int i)∨∃z,x=.str z)∧Q (.bl true) H
theorem aMn:cD X (.builtin "isinstance") (aTj X.K):=by
 intro pins s σ H xs us Q I r h
 obtain ⟨x,t,rfl,ht,hx,q⟩:=h
 obtain ⟨u,v,rfl,rx,rT⟩:=r.two
 obtain rfl:v=Value.ref t:=rT
 obtain ⟨its,rv,⟨o,ho,hoc,n,hod⟩,_⟩:=I.tuple ht
 have ei:its=[.type "int",.type "str"]:=by
  cases rv with
  |cons a b=>cases b with
   |cons c d=>cases d;rw [show _=Value.type "int" from a,show _=Value.type "str" from c]
 subst ei
 rcases hx with ⟨i,rfl⟩|⟨z,rfl⟩
 ·obtain ⟨tk,rfl⟩:=rx
  have ha:AnswersAll (fun s=>s.TypeIs (.int i tk) "int") (.int i tk) [.type "int",.type "str"] [true,false]:=⟨Answers.of_true F.isi_meta_int F.isi_self_int,Answers.of_false_int (by decide +kernel) F.isi_meta_str F.sub_int_str,trivial⟩
  have g:Meets (Builtin.«isinstance» ⟨[.int i tk,.ref t],[]⟩) (fun _ R s=>s.heap.get? t=some o∧∀t,R (.ok (.ret (.bool true))) { s with toks:=t }):=
   fun prog w A R s hs=>isinstance_outer (aGj (vs:=[true,false]) (fun _ _ h=>h) (.now) (by intro z;exact absurd (beq_iff_eq.mp z) (by intro y;cases y)) hs.1 hoc hod ha (typeIs_int s i tk) fun t=>hs.2 t) (by intro z;cases z)
  exact call_isinstance g ⟨ho,fun t=>⟨.bl true,H,I.tok t,rfl,q⟩⟩
 ·obtain ⟨tk,rfl⟩:=rx
  have ha:AnswersAll (fun s=>s.TypeIs (.str z tk) "str") (.str z tk) [.type "int",.type "str"] [false,true]:=⟨Answers.of_false_str (by decide +kernel) F.isi_meta_int F.sub_str_int,Answers.of_true F.isi_meta_str F.isi_self_str,trivial⟩
  have g:Meets (Builtin.«isinstance» ⟨[.str z tk,.ref t],[]⟩) (fun _ R s=>s.heap.get? t=some o∧∀t,R (.ok (.ret (.bool true))) { s with toks:=t }):=
   fun prog w A R s hs=>isinstance_outer (aGj (vs:=[false,true]) (fun _ _ h=>h) (.now) (by intro z;exact absurd (beq_iff_eq.mp z) (by intro y;cases y)) hs.1 hoc hod ha (typeIs_str s z tk) fun t=>hs.2 t) (by intro z;cases z)
  exact call_isinstance g ⟨ho,fun t=>⟨.bl true,H,I.tok t,rfl,q⟩⟩
theorem aIj {K:PySem.W.Frag} (hK:X.K=K:=by rfl):cD X (.builtin "isinstance") (aTj K):=by subst hK;exact aMn
def aXn (K:PySem.W.Frag):List V→Hp→VK→Prop:=fun xs H Q=>∃l us,xs=[.ref l,.ty "list"]∧SqL K H l us∧Q (.bl true) H
theorem aMg:cD X (.builtin "isinstance") (aXn X.K):=by
 intro pins s σ H xs us Q I r h
 obtain ⟨l,zs,rfl,hl,q⟩:=h
 obtain ⟨u,v,rfl,rx,rT⟩:=r.two
 obtain rfl:v=Value.type "list":=rT
 obtain rfl:u=Value.ref l:=rx
 obtain ⟨its,rv,pl,_⟩:=I.list hl
 obtain ⟨o,ho,hc,_⟩:=id pl.isList
 exact call_isinstance (isinstance_true F.isi_meta_list F.isi_self_list) ⟨⟨o,ho,hc⟩,⟨.bl true,H,I,rfl,q⟩⟩
end
section
variable {X:Cx} {pins:List (Addr × Obj)} {σ:L2.St} {H:Hp} {s:Shared} {d:Addr} {o:Obj} {kvs:List (Key × V)}
theorem aQ4 {u u':HO} (ok:HOk X.prog X.w H s.heap) (hd:H d=some u) (nt:∀xs,u≠.tup xs) (no:∀a,u≠.own a) (h:dJ X.prog X.w H s.heap d u'):HOk X.prog X.w (upd H d u') s.heap:=by
 have st:∀{b v},dJ X.prog X.w H s.heap b v→dJ X.prog X.w (upd H d u') s.heap b v:=fun {b v} z=>z.stay (fun _ _ _ q=>q) (fun c q=>by
  rw [aU (fun e=>by subst e;rw [hd] at q;exact no _ (Option.some.inj q))]
  exact q) fun c xs q=>by
  rw [aU (fun e=>by subst e;rw [hd] at q;exact nt _ (Option.some.inj q))]
  exact q
 intro b v e
 by_cases hb:b=d
 ·subst hb
  rw [aH] at e
  cases e
  exact st h
 ·rw [aU hb] at e
  exact st (ok b v e)
theorem Inv.setd {u u':HO} (I:Inv X pins σ H s) (hd:H d=some u) (nt:∀xs,u≠.tup xs) (no:∀a,u≠.own a) (nb:∀ps,u≠.tbl ps) (nf:∀ob v,X.H₀ d≠some (.frz ob v)) (h:dJ X.prog X.w H s.heap d u'):Inv X pins σ (upd H d u') s:=by
 have ne:∀{b},H b=none→upd H d u' b=none:=fun {b} e=>by
  rw [aU (fun z=>by subst z;rw [hd] at e;cases e)]
  exact e
 refine ⟨I.ok,I.os,I.bare,⟨I.base.keep,I.base.slot,fun b ob e n hx=>ne (I.base.free b ob e n hx),I.base.there,fun b xs e=>?_,fun b ob v e=>?_,fun b ps e=>?_⟩,I.loc,I.cell,ne I.free,fun x c e=>ne (I.freeC x c e),fun p hp=>?_,aQ4 I.hok hd nt no h,I.len⟩
 ·have q:=I.base.tups b xs e
  rw [aU (fun z=>by subst z;rw [hd] at q;exact nt _ (Option.some.inj q))]
  exact q
 ·have q:=I.base.frzs b ob v e
  rw [aU (fun z=>by subst z;exact nf _ _ e)]
  exact q
 ·obtain ⟨more,q⟩:=I.base.tbls b ps e
  refine ⟨more,?_⟩
  rw [aU (fun z=>by subst z;rw [hd] at q;exact nb _ (Option.some.inj q))]
  exact q
 ·obtain ⟨h1,h2,h3⟩:=I.pin p hp
  exact ⟨h1,ne h2,h3⟩
end
def Itd (d:Addr) (o:Obj) (kvs:List (Key × V)):It:=
 ⟨fun i H=>H d=some (.frz o (.dK kvs))∧i<kvs.length,fun i H x H'=>H'=H∧∀kv,kvs[i]?=some kv→x=kV kv.1,fun i H=>H d=some (.frz o (.dK kvs))∧i=kvs.length⟩
theorem aLd {P:Program} {w:World} {H:Hp} {h:Heap} {d:Addr} {o:Obj} {kvs:List (Key × V)} {es:Array DictEntry} {ep:Nat} (hep:o.data=.dict es ep) (ok:dJ P w H h d (.frz o (.dK kvs))):∃vs,KV kvs vs∧h.DictAt (cJ P w) d vs ep:=by
 obtain ⟨ho,_,_,vs,rel,⟨o',es',ep',h1,h2,h3,h4⟩⟩:=ok
 rw [ho] at h1
 cases h1
 rw [hep] at h3
 cases h3
 exact ⟨vs,rel,o,es,ho,h2,hep,h4⟩
theorem aNy {P:Program} {w:World} {K:PySem.W.Frag} {tg:Expr} (d it:Addr) (o:Obj) (kvs:List (Key × V)) (es:Array DictEntry) (ep:Nat) (hep:o.data=.dict es ep) (hk:∀kv∈kvs,∃n,kv.1=Sum.inr n):Turn P w K tg (Itd d o kvs) [it] it (fun i h=>h.IsKeyIter it d i kvs.length ep) where
 mem:=by simp
 obj:=fun i h st b hb=>by
  have e:b=it:=by simpa using hb
  subst e
  obtain ⟨ob,h1,h2,h3⟩:=st
  exact ⟨ob,h1,fun v z=>by rw [h3] at z;cases z⟩
 keep:=fun i h h' st k=>st.at fun ob e=>k it (by simp) ob e
 item:=by
  intro X hP hw hK hc i pins s σ H E I hf st hg
  subst hP hw hK
  obtain ⟨hd,hi⟩:=hg
  obtain ⟨vs,rel,da⟩:=aLd hep (I.hok d _ hd)
  have lk:=KV.length rel
  obtain ⟨f0,f1,f2,f3,f4,f5⟩:=hf it (by simp)
  have hkv:kvs[i]?=some kvs[i]:=List.getElem?_eq_getElem hi
  have hiv:i<vs.length:=by omega
  have hvs:vs[i]?=some (vs[i].1,vs[i].2):=List.getElem?_eq_getElem hiv
  have ek:kvs[i].1=vs[i].1:=by
   have:=congrArg (fun l=>l[i]?) (KV.keys rel)
   simp only [List.getElem?_map,hkv,hvs,Option.map_some] at this
   exact Option.some.inj this
  rw [lk] at st
  refine wpAny_pyNext_dict_item st da hvs fun key h' hkey hit' hs'=>?_
  obtain ⟨n,en⟩:=hk _ (List.getElem_mem hi)
  have I1:Inv X pins σ H { s with heap:=h',toks:=s.toks }:=I.turned (fun b ob hb e=>(hs'.2 b hb).trans e) f0 f1 f3 f4 f5
  rw [←ek,en] at hkey
  obtain ⟨t,rfl⟩:∃t,key=.str n t:=by
   cases key with
   |str x t=>
    have e:x=n:=by simpa [cJ,yP,Value.isStrOf] using hkey
    exact ⟨t,by rw [e]⟩
   |_=>exact absurd (show false=true from hkey) Bool.false_ne_true
  obtain ⟨oi,hoi,ci,di⟩:=hit'
  refine ⟨_,rfl,xK (s:={ s with heap:=h' }) (n:="dict_keyiterator") hoi ci di (by decide) ⟨.str n,H,I1,⟨t,rfl⟩,⟨rfl,fun kv e=>?_⟩,?_,fun b hb=>(hf b hb).1⟩⟩
  ·rw [hkv] at e
   cases e
   rw [en]
   rfl
  ·rw [lk]
   exact ⟨oi,hoi,ci,di⟩
 done:=by
  intro X hP hw hK hc i pins s σ H E I hf st hg
  subst hP hw hK
  obtain ⟨f0,f1,f2,f3,f4,f5⟩:=hf it (by simp)
  obtain ⟨hd,hi⟩:=hg
  obtain ⟨vs,rel,da⟩:=aLd hep (I.hok d _ hd)
  have lk:=KV.length rel
  rw [lk] at st
  exact wpAny_pyNext_dict_end (I.ok.hd hc) st da (List.getElem?_eq_none (by omega)) fun h' eb=>⟨rfl,I.turned (t':=s.toks) (fun b o hb e=>eb b o hb e) f0 f1 f3 f4 f5⟩
 self:=fun _ _ _ _ _ st h=>wpAny_pyIter_keyiter st h
section
variable {X:Cx} {tg:Expr}
def aXz (te:TE):TI:=fun σ H R=>te σ H fun v H1=>∃d kvs,v=.ref d∧H1 d=some (.dK kvs)∧(∀kv∈kvs,∃n,kv.1=Sum.inr n)∧(∀ob u,X.H₀ d≠some (.frz ob u))∧∀o,R (Itd d o kvs) (upd H1 d (.frz o (.dK kvs)))
end
section
variable {X:Cx} {tg:Expr}
theorem aUp {e:Expr} {te:TE} (h:VE X e te):VI X tg e (aXz (X:=X) te):=⟨by
 intro pins s σ H R I hh
 refine thn (h.1 pins s σ H _ I hh) fun v s1 ⟨x,H1,I1,r1,q1⟩=>?_
 obtain ⟨d,kvs,e,hd,hk,nf,q⟩:=q1
 subst e
 cases r1
 obtain ⟨z,hm,vs,rel,⟨o,es,ep,h1,h2,h3,h4⟩⟩:=aBb I1.hok hd
 have lk:=KV.length rel
 have da:s1.heap.DictAt (cJ X.prog X.w) d vs ep:=⟨o,es,h1,h2,h3,h4⟩
 have I2:Inv X pins σ (upd H1 d (.frz o (.dK kvs))) s1:=I1.setd hd (fun _ z=>by cases z) (fun _ z=>by cases z) (fun _ z=>by cases z) nf ⟨h1,I1.hok d _ hd⟩
 refine wpAny_pyIter_dict hm da ?_
 refine ⟨s1.heap.objs.size,[s1.heap.objs.size],_,_,_,rfl,I2.kept (t':=s1.toks) fun b o e=>Heap.get?_push_of_some _ e,aNy d _ o kvs es ep h3 hk,?_,fun b hb=>?_,q o⟩
 ·rw [lk]
  exact ⟨_,Heap.get?_push_size _ rfl,rfl,rfl⟩
 ·have e:b=s1.heap.objs.size:=by simpa using hb
  subst e
  exact I2.aB2 (Nat.le_refl _) (I2.hok.fresh (Nat.le_refl _))⟩
def aW6 (d:Addr) (kvs:List (Key × V)) (D:Ends):Ends:={ nx:=fun σ H=>(∃o,H d=some (.frz o (.dK kvs)))∧D.nx σ (upd H d (.dK kvs)),rt:=fun v H=>(∃o,H d=some (.frz o (.dK kvs)))∧D.rt v (upd H d (.dK kvs)) }
def aXc (X:Cx) (t:TS):TS:=fun D σ H=>∃d kvs,H d=some (.dK kvs)∧((∀ob u,X.H₀ d≠some (.frz ob u))→t (aW6 d kvs D) σ H)
theorem aSe {st:Stmt} {t:TS} (h:VS X st t):VS X st (aXc X t):=⟨by
 intro pins s σ H D I ⟨d,kvs,hd,q⟩
 have nf:∀ob u,X.H₀ d≠some (.frz ob u):=fun ob u e=>by
  have:=I.base.frzs d ob u e
  rw [hd] at this
  cases this
 have thaw:∀{σ' H' s' o},Inv X pins σ' H' s'→H' d=some (.frz o (.dK kvs))→Inv X pins σ' (upd H' d (.dK kvs)) s':=fun {σ' H' s' o} I' ho=>I'.setd ho (fun _ z=>by cases z) (fun _ z=>by cases z) (fun _ z=>by cases z) nf (I'.hok d _ ho).2
 refine thn (h.1 pins s σ H _ I (q nf)) fun f s' hf=>?_
 cases f with
 |next=>obtain ⟨σ',H',I',⟨o,ho⟩,q'⟩:=hf;exact ⟨σ',_,thaw I' ho,q'⟩
 |brk=>obtain ⟨_,_,_,z⟩:=hf;exact z.elim
 |cont=>obtain ⟨_,_,_,z⟩:=hf;exact z.elim
 |ret u=>obtain ⟨v,σ',H',I',r,⟨o,ho⟩,q'⟩:=hf;exact ⟨v,σ',_,thaw I' ho,r,q'⟩⟩
end
theorem aRt {d:Addr} {o:Obj} {kvs:List (Key × V)} {g:TG} {tb:TS} {D:Ends} {σ:L2.St} {H:Hp} (Pv:Nat→L2.St→Hp→Prop) (h0:Pv 0 σ H) (hl:∀i σ H,i≤kvs.length→Pv i σ H→H d=some (.frz o (.dK kvs)))
  (hs:∀i kv σ H,kvs[i]?=some kv→Pv i σ H→g (kV kv.1) σ H fun σ2 H2=>tb { D with nx:=Pv (i+1),ct:=Pv (i+1),bk:=D.nx } σ2 H2) (hd:∀σ H,Pv kvs.length σ H→D.nx σ H) :
  ∃W:Nat→Nat→L2.St→Hp→Prop,(∃m,W 0 m σ H)∧∀i m σ H,W i m σ H →
   ((Itd d o kvs).stop i H∧D.nx σ H)∨((Itd d o kvs).go i H∧∃N:L2.St→Hp→Prop,(∀σ' H',N σ' H'→∃m',m'<m∧W (i+1) m' σ' H')∧∀x H',(Itd d o kvs).yld i H x H'→g x σ H' fun σ2 H2=>tb { D with nx:=N,ct:=N,bk:=D.nx } σ2 H2):=by
 refine ⟨fun i m σ H=>m=kvs.length - i∧i≤kvs.length∧Pv i σ H,⟨kvs.length,by simp,Nat.zero_le _,h0⟩,?_⟩
 rintro i m σ H ⟨rfl,hi,p⟩
 have q:=hl i σ H hi p
 by_cases hlt:i<kvs.length
 ·right
  refine ⟨⟨q,hlt⟩,Pv (i+1),fun σ' H' h=>⟨kvs.length - (i+1),by omega,rfl,by omega,h⟩,?_⟩
  rintro x H' ⟨rfl,hy⟩
  have e:=hy _ (List.getElem?_eq_getElem hlt)
  subst e
  exact hs i _ σ H' (List.getElem?_eq_getElem hlt) p
 ·left
  have e:i=kvs.length:=by omega
  subst e
  exact ⟨⟨q,rfl⟩,hd σ H p⟩
theorem vN:∀{xs:List V} {is js:List Value},(∀x∈xs,∃a,x=.ref a)→Vals xs is→Vals xs js→is=js
 |_,_,_,_,.nil,.nil=>rfl
 |_,_,_,h,.cons r t,.cons r' t'=>by
  obtain ⟨a,rfl⟩:=h _ (List.mem_cons_self ..)
  cases r
  cases r'
  rw [vN (fun x hx=>h x (List.mem_cons_of_mem _ hx)) t t']
def aWs (K:PySem.W.Frag):R2:=fun x y H Q=>∃(d e:Addr) (k:Key) (a b:Addr) (xs:List V),x=.ref d∧y=.ref e∧H d=some (.dK [(k,.ref a)])∧H e=some (.dK [(k,.ref b)])∧SqL K H a xs∧SqL K H b xs∧(∀x∈xs,∃p,x=.ref p)∧Q (.bl false) H
theorem aRs {X:Cx} (hu:X.A.units+64<cLine):OpR X (compareOp .NotEq) (aWs X.K):=by
 intro pins s σ H x y v u Q I rx ry h
 obtain ⟨d,e,k,a,b,xs,rfl,rfl,hd,he,ha,hb,hr,q⟩:=h
 cases rx
 cases ry
 obtain ⟨z,hm,vs,rel,dd⟩:=aBb I.hok hd
 obtain ⟨z',hm',us,rel',de⟩:=aBb I.hok he
 obtain ⟨rfl⟩:vs=[(k,Value.ref a)]:=by
  cases rel with
  |cons q t=>cases t;obtain ⟨k1,r1⟩:=q;exact congrArg (·::[]) (Prod.ext k1.symm r1)
 obtain ⟨rfl⟩:us=[(k,Value.ref b)]:=by
  cases rel' with
  |cons q t=>cases t;obtain ⟨k1,r1⟩:=q;exact congrArg (·::[]) (Prod.ext k1.symm r1)
 have eq:SeqAt.EqAt X.A.in1 s (.ref a) (.ref b) true:=by
  by_cases e:a=b
  ·subst e;exact SeqAt.EqAt.same _
  obtain ⟨its,r1,pl,_⟩:=I.list ha
  obtain ⟨jts,r2,pm,_⟩:=I.list hb
  obtain rfl:=vN hr r1 r2
  refine SeqAt.EqAt.of_refs e ?_
  have zz:=SeqAt.RcAt.lists (A:=X.A.in1) (e:=fun _=>true) pl.isList pm.isList rfl (by show X.A.units+1<cLine;omega) (fun j h1 h2=>SeqAt.EqAt.same _)
  rw [uF] at zz
  exact zz
 have eq':SeqAt.EqAt X.A.in1 s (.ref b) (.ref a) true:=by
  by_cases e:b=a
  ·subst e;exact SeqAt.EqAt.same _
  obtain ⟨its,r1,pl,_⟩:=I.list ha
  obtain ⟨jts,r2,pm,_⟩:=I.list hb
  obtain rfl:=vN hr r1 r2
  refine SeqAt.EqAt.of_refs e ?_
  have zz:=SeqAt.RcAt.lists (A:=X.A.in1) (e:=fun _=>true) pm.isList pl.isList rfl (by show X.A.units+1<cLine;omega) (fun j h1 h2=>SeqAt.EqAt.same _)
  rw [uF] at zz
  exact zz
 have hv:valueAt [(k,Value.ref b)] k=some (.ref b):=by simp [valueAt]
 refine PySem.W.keq_ne (r:=true) hm hm' dd de (by omega) (fun _=>by
  first
   |exact PySem.W.KeqHits.hit (e:=true) (b:=true) hv eq .nil
   |exact PySem.W.KeqHits.hit (e:=true) (b:=true) hv eq' .nil) ?_
 exact ⟨.bl false,H,I,rfl,q⟩
theorem qH {env:Env} {c y:Str}:∀{names:List (Str × NameKind)},(∀z∈names,z.2=.cell→z.1=c) →
  ((names.map fun (x:Str × NameKind)=>match x with|(n,k)=>if (k == NameKind.free && env.scope.kind == ScopeKind.function && env.kindOf n == some NameKind.cell) then (n,NameKind.cell) else (n,k)).lookup y=some .cell ∨
  (names.map fun (x:Str × NameKind)=>match x with|(n,k)=>if (k == NameKind.free && env.scope.kind == ScopeKind.function && env.kindOf n == some NameKind.cell) then (n,NameKind.cell) else (n,k)).lookup y=some .free)→y=c∨(y,NameKind.free)∈names
 |[],_,h=>by simp at h
 |(n,k')::r,hc,h=>by
  rw [List.map_cons] at h
  by_cases e:(y == n)=true
  ·have ey:y=n:=by simpa using e
   subst ey
   have hk:y=c∨k'=.free:=by
    by_cases q:((k' == NameKind.free) && env.scope.kind == ScopeKind.function && env.kindOf y == some NameKind.cell)=true
    ·rw [Bool.and_eq_true,Bool.and_eq_true] at q
     exact .inr (by simpa using q.1.1)
    ·have q':=Bool.eq_false_iff.mpr q
     simp only [q',Bool.false_eq_true,if_false,List.lookup_cons,e] at h
     rcases h with h|h
     ·cases h
      exact .inl (hc (y,.cell) List.mem_cons_self rfl)
     ·cases h;exact .inr rfl
   rcases hk with hk|hk
   ·exact .inl hk
   subst hk
   exact .inr List.mem_cons_self
  ·have e':(y == n)=false:=by simpa using e
   have key:∀z:Str × NameKind,z.1=n→(List.lookup y (z::(r.map fun (x:Str × NameKind)=>match x with|(n,k)=>if (k == NameKind.free && env.scope.kind == ScopeKind.function && env.kindOf n == some NameKind.cell) then (n,NameKind.cell) else (n,k)))) =
     List.lookup y (r.map fun (x:Str × NameKind)=>match x with|(n,k)=>if (k == NameKind.free && env.scope.kind == ScopeKind.function && env.kindOf n == some NameKind.cell) then (n,NameKind.cell) else (n,k)):=fun z hz=>by
    obtain ⟨z1,z2⟩:=z
    cases hz
    rw [List.lookup_cons,e']
   have kz:(match ((n,k'):Str × NameKind) with|(n,k)=>if (k == NameKind.free && env.scope.kind == ScopeKind.function && env.kindOf n == some NameKind.cell) then (n,NameKind.cell) else (n,k)).1=n:=by
    dsimp only
    split <;> rfl
   rw [key _ kz] at h
   exact (qH (fun z hz=>hc z (List.mem_cons_of_mem _ hz)) h).imp id (List.mem_cons_of_mem _)
structure wL (scope:Scope) (N:List Str) (y0:Str):Prop where
 one:∀y∈scope.names,y.2=.cell→y.1=y0
 cf:∀n acc,cellsFrom n scope.names acc=(y0,n)::acc
 pc:∀h,pushCells h scope.names=h.push { cls:=.type "cell",data:=.cell none }
 ny:(y0,NameKind.free)∉scope.names
 kind:scope.kind=.function
 names:∀y∈scope.names,y.2=.local→scope.names.lookup y.1=some .local
 free:∀y∈scope.names,y.2=.free→scope.names.lookup y.1=some .free
def cxY (X:Cx) (N:List Str) (scope:Scope) (y0:Str) (cl:List (Str × Addr)) (s:Shared) (H:Hp) (fp:List Addr):Cx:=
 { cxC X N scope ((y0,s.heap.objs.size+1)::cl) s H fp with fn:=fun x=>x == y0 }
theorem aSn {M:Model} {A:Around} {E:Value→Shared→Prop} {s:Shared} {scope:Scope} {N:List Str} {y0:Str} {globals:Addr} {cl:List (Str × Addr)} {qual:Str} {env:Env} {Q:Env→Shared→Prop} (C:wL scope N y0)
  (hQ:∀h',h'.Ns s.heap.objs.size (fun _=>none)→h'.IsCell (s.heap.objs.size+1) none→(∀b o,s.heap.get? b=some o→h'.get? b=some o) →
   Q { scope:=scope,locals:=s.heap.objs.size,globals:=globals,cells:=(y0,s.heap.objs.size+1)::cl,qual:=qual,func:=none,code:=env.code,frame:=env.frame,builtins:=env.builtins } { s with heap:=h' }) :
  wpAny M A (newFunctionEnv scope globals cl [] qual none .none (some env)) Q E s:=by
 simp only [newFunctionEnv,Option.isSome_some,if_true]
 refine wpAny_bind (wpAny_alloc ?_)
 refine wpAny_bind (wpAny_layCells _ (fun name kind cells=>by cases hkc:kind == NameKind.cell <;> simp [hkc]) _ _ _ _ ?_)
 rw [C.cf,C.pc]
 have hz:(s.heap.push { cls:=.type "dict",data:=.dict #[] }).objs.size=s.heap.objs.size+1:=Heap.size_push ..
 show wpAny M A _ Q E { s with heap:=(s.heap.push { cls:=.type "dict",data:=.dict #[] }).push { cls:=.type "cell",data:=.cell none } }
 simp only [List.forIn_nil]
 refine wpAny_bind (wpAny_pure (wpAny_pure ?_))
 have hz':({ s with heap:=s.heap.push { cls:=.type "dict",data:=.dict #[] } }:Shared).heap.objs.size=s.heap.objs.size+1:=hz
 rw [hz']
 refine hQ _ ((Heap.Ns.new s.heap (.type "dict")).keeps fun b o e=>Heap.get?_push_of_some _ e) ?_ fun b o e=>Heap.get?_push_of_some _ (Heap.get?_push_of_some _ e)
 refine ⟨{ cls:=.type "cell",data:=.cell none },?_,rfl⟩
 rw [←hz]
 exact Heap.get?_push_size _ rfl
theorem aMb {X:Cx} {pins:List (Addr × Obj)} {σ σ':St} {H:Hp} {s:Shared} {scope:Scope} {N:List Str} {y0:Str} {cl:List (Str × Addr)} {fp:List Addr} {h1:Heap} {tk:Nat} {m1:Str→Option Value}
  (I:Inv X pins σ H s) (C:wL scope N y0) (hfr:∀y,(y,NameKind.free)∈scope.names→X.env.kindOf y=some .cell∨X.env.kindOf y=some .free)
  (p1:∀p∈cl,X.env.cells.lookup p.1=some p.2∧(p.1,NameKind.free)∈scope.names) (p2:∀y,(y,NameKind.free)∈scope.names→∃c,(y,c)∈cl)
  (cap:Cap X scope N σ σ') (hf:∀b∈fp,oA X pins H b) (hfl:∀b∈fp,b<s.heap.objs.size)
  (hn:h1.Ns s.heap.objs.size m1) (hcl:h1.IsCell (s.heap.objs.size+1) none) (hk:∀b o,s.heap.get? b=some o→h1.get? b=some o) :
  Inv (cxY X N scope y0 cl s H fp) [] σ' H { s with heap:=h1,toks:=tk }:=by
 have ok:=I.ok
 have lk:∀y c,cl.lookup y=some c→X.env.cells.lookup y=some c:=fun y c e=>(p1 _ (PySem.mem_of_lookup e)).1
 have lk2:∀y,(y,NameKind.free)∈scope.names→∃c,cl.lookup y=some c∧X.env.cells.lookup y=some c:=fun y hy=>by
  obtain ⟨c,hc⟩:=p2 y hy
  obtain ⟨c',e⟩:=lookup_mem hc
  exact ⟨c',e,lk y c' e⟩
 have old:∀x c,X.env.cells.lookup x=some c→c<s.heap.objs.size:=fun x c e=>by
  obtain ⟨v,o,ho,_⟩:=I.cell x c e
  exact Heap.lt_size ho
 have lkY:∀x c,List.lookup x ((y0,s.heap.objs.size+1)::cl)=some c→(x=y0∧c=s.heap.objs.size+1)∨(x≠y0∧cl.lookup x=some c):=fun x c e=>by
  rw [List.lookup_cons] at e
  by_cases q:(x == y0)=true
  ·rw [q] at e
   cases e
   exact .inl ⟨by simpa using q,rfl⟩
  ·have q':(x == y0)=false:=by simpa using q
   rw [q'] at e
   exact .inr ⟨by simpa using q,e⟩
 have lkN:∀x c,x≠y0→cl.lookup x=some c→List.lookup x ((y0,s.heap.objs.size+1)::cl)=some c:=fun x c n e=>by
  rw [List.lookup_cons,show (x == y0)=false by simpa using n]
  exact e
 have fsub:∀b∈fp,b∉frs X.stack:=fun b hb z=>by
  obtain ⟨f0,f1,f2,_⟩:=hf b hb
  rcases List.mem_cons.mp (I.aD8 b z) with e|e
  ·exact f1 e
  ·exact f2 e
 have ok':(cxY X N scope y0 cl s H fp).Ok:=by
  refine ⟨ok.mod,C.kind,ok.glob,ok.blt,Nat.le_refl _,fun x y c h1 h2=>?_,fun y hy=>?_,fun y c h h2=>?_,ok.hd,ok.frames,.inl rfl,fun b hb=>?_,I.bs,Nat.le_trans ok.bsz I.sz,
   fun b o e hb=>?_,fsub,I.stack,I.aDb⟩
  ·rcases lkY x c h1 with ⟨a1,a2⟩|⟨a1,a2⟩
   ·rcases lkY y c h2 with ⟨b1,b2⟩|⟨b1,b2⟩
    ·rw [a1,b1]
    ·have:=old y c (lk y c b2)
     rw [a2] at this
     exact absurd this (Nat.not_lt_of_le (Nat.le_succ _))
   ·rcases lkY y c h2 with ⟨b1,b2⟩|⟨b1,b2⟩
    ·have:=old x c (lk x c a2)
     rw [b2] at this
     exact absurd this (Nat.not_lt_of_le (Nat.le_succ _))
    ·exact ok.inj x y c (lk x c a2) (lk y c b2)
  ·rcases qH (env:=X.env) (c:=y0) C.one hy with e|e
   ·subst e
    exact ⟨s.heap.objs.size+1,by show List.lookup y ((y,s.heap.objs.size+1)::cl)=_;rw [List.lookup_cons,beq_self_eq_true]⟩
   ·obtain ⟨c,e',_⟩:=lk2 y e
    exact ⟨c,lkN y c (fun z=>C.ny (by rw [←z];exact e)) e'⟩
  ·rcases lkY y c h2 with ⟨a1,a2⟩|⟨a1,a2⟩
   ·rw [a2];exact Nat.le_succ _
   ·have h:(y == y0)=true:=h
    exact absurd (by simpa using h) a1
  ·obtain ⟨f0,f1,f2,f3,f4,f5⟩:=hf b hb
   refine ⟨Nat.ne_of_lt (hfl b hb),fun x c e=>?_⟩
   rcases lkY x c e with ⟨a1,a2⟩|⟨a1,a2⟩
   ·have:=hfl b hb
    rw [a2]
    intro z
    rw [←z] at this
    exact absurd this (Nat.not_lt_of_le (Nat.le_succ _))
   ·exact f4 x c (lk x c a2)
  ·obtain ⟨f0,f1,f2,f3,f4,f5⟩:=hf b hb
   rcases f3 with z|z
   ·exact ok.noex b o e z
   ·exact absurd (Nat.lt_of_lt_of_le (Heap.lt_size e) (Nat.le_trans ok.bsz z)) (Nat.lt_irrefl _)
 refine ⟨ok',rfl,I.bare,Un.kept hk,⟨m1,hn,fun i y v e1 e2 e3=>?_⟩,fun y c e=>?_,I.hok.fresh (Nat.le_refl _),fun y c e=>?fc,fun p hp=>absurd (show p∈([]:List (Addr × Obj)) from hp) (by simp),I.hok.kept hk,cap.1⟩
 ·obtain ⟨hy,j,e4,e5,e6⟩:=cap.2 i y v e1 e2
  obtain ⟨m,_,hl⟩:=I.loc
  obtain ⟨u,r,l⟩:=hl j y v e4 e5 e6
  refine ⟨u,r,.inr ?_⟩
  rcases l with ⟨k,_⟩|⟨k,c,e,z⟩
  ·rcases hfr y hy with q|q <;> (rw [k] at q;cases q)
  ·obtain ⟨c',e',e''⟩:=lk2 y hy
   rw [e] at e''
   cases e''
   have rl:=mW (env:=X.env) (k:=.free) (C.free (y,.free) hy rfl)
   refine ⟨rl,c,lkN y c (fun z=>C.ny (by rw [←z];exact hy)) e',?_⟩
   obtain ⟨o,ho,hd⟩:=z
   exact ⟨o,hk _ _ ho,hd⟩
 ·rcases lkY y c e with ⟨a1,a2⟩|⟨a1,a2⟩
  ·rw [a2];exact ⟨none,hcl⟩
  ·obtain ⟨v,o,ho,hd⟩:=I.cell y c (lk y c a2)
   exact ⟨v,o,hk _ _ ho,hd⟩
 case fc=>
  rcases lkY y c e with ⟨a1,a2⟩|⟨a1,a2⟩
  ·rw [a2];exact I.hok.fresh (Nat.le_succ _)
  ·exact I.freeC y c (lk y c a2)
theorem aNm {X:Cx} {elt target iter:Expr} {ifs:List Expr} {scope:Scope} {pos:Pos} {N:List Str} {y0:Str} {wi:TI} {g:TG} {tt:TT} {te:TE}
  (C:wL scope N y0) (hfr:∀y,(y,NameKind.free)∈scope.names→X.env.kindOf y=some .cell∨X.env.kindOf y=some .free) (hc:X.calm=true)
  (hi:PI X target iter wi)
  (hb:∀cl s H fp,PG (cxY X N scope y0 cl s H fp) target g∧aM5 (cxY X N scope y0 cl s H fp) ifs tt∧PE (cxY X N scope y0 cl s H fp) elt te)
  (hs:∀x,foldedSetIterable iter X.env x=pure x:=by intro _;rfl) :
  PE X (.ListComp elt [⟨target,iter,ifs,0⟩] scope pos) (gR X scope N wi g tt te):=by
 intro pins s σ H Q I hq
 obtain ⟨σ0,cap,hq⟩:=hq
 obtain ⟨cl,hcl,p1,p2⟩:=qW (scope:=scope) (env:=X.env) (fun y hy hk=>by
  obtain ⟨n,k⟩:=y
  cases hk
  exact I.ok.has n (hfr n hy))
 rw [eval_ListComp]
 refine wpAny_comprehension_free (use:=none) rfl hs hcl C.kind C.names (thn (hi pins s σ H _ I hq) fun xv s1 h1=>thn h1 fun itv s2 h2=>?_)
 obtain ⟨it,fp,tn,J,H2,rfl,I2,T,st2,f2,q2⟩:=h2
 refine wpAny_newObj_type (aSn C fun h₁ hns₁ hcl₁ hkp₁=>?_)
 dsimp only at hns₁ hcl₁ hkp₁ ⊢
 have hD:H2 s2.heap.objs.size=none:=I2.hok.fresh (Nat.le_refl _)
 have I3:Inv X pins σ (upd H2 s2.heap.objs.size (.lst [])) { s2 with heap:=s2.heap.push { cls:=.type "list",dict:=none,data:=.seq ([]:List Value).toArray } }:=
  I2.laid (t':=s2.toks) (fun b u e=>Heap.get?_push_of_some _ e) (Nat.le_refl _) ⟨Nat.zero_le _,[],0,.nil,Heap.get?_push_size _ rfl⟩
 generalize hs3:({ s2 with heap:=s2.heap.push { cls:=.type "list",dict:=none,data:=.seq ([]:List Value).toArray } }:Shared)=s3 at I3
 have hh3:s2.heap.push { cls:=.type "list",dict:=none,data:=.seq ([]:List Value).toArray }=s3.heap:=by rw [←hs3]
 rw [hh3] at hns₁ hcl₁ hkp₁
 have fl2:∀b∈fp,b<s2.heap.objs.size:=fun b hb=>by
  obtain ⟨o,e,_⟩:=T.obj _ _ st2 b hb
  exact Heap.lt_size e
 have fl3:∀b∈fp,b<s3.heap.objs.size:=fun b hb=>by
  rw [←hh3,Heap.size_push]
  exact Nat.lt_succ_of_lt (fl2 b hb)
 have f3:∀b∈fp,oA X pins (upd H2 s2.heap.objs.size (.lst [])) b:=fun b hb=>by
  obtain ⟨f0,fr⟩:=f2 b hb
  exact ⟨by rw [aU (Nat.ne_of_lt (fl2 b hb))];exact f0,fr⟩
 have keep3:∀b o,s3.heap.get? b=some o→h₁.get? b=some o:=hkp₁
 have I4:=aMb (tk:=s3.toks) I3 C hfr p1 p2 cap f3 fl3 hns₁ hcl₁ keep3
 have st4:tn 0 h₁:=T.keep _ _ _ st2 fun b hb o e=>keep3 b o (by rw [←hh3];exact Heap.get?_push_of_some _ e)
 obtain ⟨W,⟨m0,w0⟩,turn⟩:=q2 s2.heap.objs.size hD
 have fpc:∀{H':Hp},(∀b∈fp,H' b=none)→∀b∈fp,oA (cxY X N scope y0 cl s3 (upd H2 s2.heap.objs.size (.lst [])) fp) [] H' b:=fun {H'} hn b hb=>by
  obtain ⟨e1,e2⟩:=I4.ok.exf b hb
  exact ⟨hn b hb,e1,I4.ok.exfs b hb,.inl hb,e2,fun p hp=>absurd (show p∈([]:List (Addr × Obj)) from hp) (by simp)⟩
 have loop:∀s4:Shared,s4={ s3 with heap:=h₁,toks:=s3.toks } →
   codeAny (model X.prog X.w) X.A (.compLoop (.ListComp elt [⟨target,iter,ifs,0⟩] scope pos) 0 (.ref it) (.ref s2.heap.objs.size) (compEnvC scope ((y0,s3.heap.objs.size+1)::cl) s3.heap.objs.size X.env))
    (compPost (model X.prog X.w) X.A X.xe none (EP X pins σ Q) (.ref s2.heap.objs.size) s3.heap.objs.size) s4:=by
  rintro s4 rfl
  refine uR (fun n s'=>∃i σ' H' ys,Inv (cxY X N scope y0 cl s3 (upd H2 s2.heap.objs.size (.lst [])) fp) [] σ' H' s'∧tn i s'.heap∧(∀b∈fp,H' b=none)∧W i n σ' H' ys) ?_ m0 ⟨0,σ0,_,[],I4,st4,fun b hb=>(f3 b hb).1,w0⟩
  rintro n s5 ⟨i,σ5,H5,ys,I5,st5,fr5,w5⟩
  obtain ⟨hacc,w5⟩:=turn i n σ5 H5 ys w5
  have noE:∀{α:Type} {t:Sem α} {Q':α→Shared→Prop} {E':Value→Shared→Prop} {s':Shared},wpAny (model X.prog X.w) X.A t Q' (fun _ _=>False) s'→wpAny (model X.prog X.w) X.A t Q' E' s':=fun h=>wpAny_mono h (fun _ _ q=>q) fun _ _ z=>z.elim
  rcases w5 with ⟨stop,qn⟩|⟨go,step⟩
  ·refine noE (thn (T.done (cxY X N scope y0 cl s3 (upd H2 s2.heap.objs.size (.lst [])) fp) rfl rfl rfl hc i [] s5 σ5 H5 _ I5 (fpc fr5) st5 stop) fun r s6 ⟨hr,I6⟩=>?_)
   subst hr
   obtain ⟨m6,hn6,_⟩:=I6.loc
   refine ⟨m6,hn6,fun h' sb=>?_⟩
   have kp:∀b o,b≠s3.heap.objs.size→s6.heap.get? b=some o→h'.get? b=some o:=fun b o hb e=>sb.extBut b o hb e
   have ne3:∀b o,s3.heap.get? b=some o→b≠s3.heap.objs.size:=fun b o e=>Nat.ne_of_lt (Heap.lt_size e)
   have un:Un (frs X.stack) fp (upd H2 s2.heap.objs.size (.lst [])) H5 s3.heap h':=by
    have u:=I6.base
    exact ⟨fun b o e n hb hx=>kp b o (ne3 b o e) (u.keep b o e n hb hx),fun b o e n hb hx=>by
     obtain ⟨sl,e1⟩:=u.slot b o e n hb hx
     exact ⟨sl,kp b _ (ne3 b o e) e1⟩,u.free,fun b o e hx=>by
     obtain ⟨o',e1⟩:=u.there b o e hx
     exact ⟨o',kp b _ (ne3 b o e) e1⟩,u.tups,u.frzs,u.tbls⟩
   have hok:HOk X.prog X.w H5 h':=fun b u e=>by
    refine (I6.hok b u e).stay (fun c v hc' q=>kp c v ?_ q) (fun _ q=>q) fun _ _ q=>q
    have hfree:H5 s3.heap.objs.size=none:=I6.free
    rintro rfl
    rcases hc' with z|z
    ·rw [z] at hfree;rw [hfree] at e;cases e
    ·rw [hfree] at z;cases z
   have I7:Inv X pins σ H5 { s6 with heap:=h' }:=by
    refine I3.call' (s':={ s6 with heap:=h' }) I6.os un hok I6.bare fun b hb=>?_
    obtain ⟨f0,f1,f2',f3',f4,f5⟩:=f3 b hb
    exact ⟨f3',f1,f4,f5⟩
   exact ⟨.ref s2.heap.objs.size,H5,I7,rfl,qn⟩
  ·refine noE (thn (T.item (cxY X N scope y0 cl s3 (upd H2 s2.heap.objs.size (.lst [])) fp) rfl rfl rfl hc i [] s5 σ5 H5 (fun _ _=>False) I5 (fpc fr5) st5 go) fun r s6 ⟨u,hr,h6⟩=>?_)
   subst hr
   refine noE (thn h6 fun _ s7 ⟨x,H7,I7,r7,y7,st7,fr7⟩=>?_)
   obtain ⟨hg,ht,he⟩:=hb cl s3 (upd H2 s2.heap.objs.size (.lst [])) fp
   have I7':=I7.pinned (fpc fr7) (T.obj _ _ st7)
   have back:∀{σ8:St} {H8:Hp} {s8:Shared},Inv (cxY X N scope y0 cl s3 (upd H2 s2.heap.objs.size (.lst [])) fp) ([]++qY fp s7.heap) σ8 H8 s8→tn (i+1) s8.heap∧∀b∈fp,H8 b=none:=fun {σ8 H8 s8} I8=>
    ⟨T.keep _ _ _ st7 fun b hb o e=>(I8.pin (b,o) (List.mem_append_right _ (List.mem_append_right _ (eG hb e)))).1,fun b hb=>by
     obtain ⟨o,e,d⟩:=T.obj _ _ st7 b hb
     exact (I8.pin (b,o) (List.mem_append_right _ (List.mem_append_right _ (eG hb e)))).2.1⟩
   refine noE (thn (hg _ s7 σ5 H7 x u _ I7' r7 (step x H7 y7)) fun _ s8 ⟨σ8,H8,I8,q8⟩=>?_)
   refine noE (thn (ht _ s8 σ8 H8 _ I8 q8) fun b s9 ⟨H9,I9,q9⟩=>?_)
   cases b with
   |false=>
    rw [if_neg Bool.false_ne_true] at q9 ⊢
    obtain ⟨_,m',hm,w9⟩:=q9
    exact ⟨m',hm,i+1,σ8,H9,ys,I9.gB,(back I9).1,(back I9).2,w9⟩
   |true=>
    rw [if_pos rfl] at q9 ⊢
    refine noE (thn (he _ s9 σ8 H9 _ I9 q9) fun yv s10 ⟨y,H10,I10,r10,hacc10,hlen,m',hm,w10⟩=>?_)
    refine noE (thn (pQ _ s10 σ8 H10 (.ref s2.heap.objs.size) [y] (.ref s2.heap.objs.size) [yv] (fun _ H11=>H11=upd H10 s2.heap.objs.size (.lst (ys++[y]))) I10 rfl (.cons r10 .nil) ⟨_,_,_,rfl,rfl,hacc10,hlen,rfl⟩) fun _ s11 ⟨z,H11,I11,_,e11⟩=>?_)
    subst e11
    exact ⟨m',hm,i+1,σ8,_,ys++[y],I11.gB,(back I11).1,(back I11).2,w10⟩
 have fin:=codeAny_compStart_list (loop { s3 with heap:=h₁,toks:=s3.toks } rfl) (T.self _ _ _ _ _ st4 (loop { s3 with heap:=h₁,toks:=s3.toks } rfl))
 subst hs3
 exact fin
theorem xF {X:Cx} {elt target iter:Expr} {ifs:List Expr} {scope:Scope} {pos:Pos} {N:List Str} {y0:Str} {wi:TI} {g:TG} {tt:TT} {te:TE}
  (C:wL scope N y0) (hfr:∀y,(y,NameKind.free)∈scope.names→X.env.kindOf y=some .cell∨X.env.kindOf y=some .free) (hc:X.calm=true)
  (hi:VI X target iter wi)
  (hb:∀cl s H fp,VG (cxY X N scope y0 cl s H fp) target g∧VF (cxY X N scope y0 cl s H fp) ifs tt∧VE (cxY X N scope y0 cl s H fp) elt te)
  (hs:∀x,foldedSetIterable iter X.env x=pure x:=by intro _;rfl) :
  VE X (.ListComp elt [⟨target,iter,ifs,0⟩] scope pos) (gR X scope N wi g tt te):=
 ⟨aNm C hfr hc hi.1 (fun cl s H fp=>⟨(hb cl s H fp).1.1,(hb cl s H fp).2.1.1,(hb cl s H fp).2.2.1⟩) hs⟩
def aN5 (M:List Str) (sc scope:Scope) (N:List Str) (σ σ':St):Prop:=
 σ'.length=N.length∧∀(i:Nat) (y:Str) (v:V),N[i]?=some y→σ'[i]?=some (some v)→(y,NameKind.free)∈scope.names∧∃j:Nat,M[j]?=some y∧σ[j]?=some (some v)∧Vis sc y
def aJy (M:List Str) (sc scope:Scope) (N:List Str) (wi:TI) (g:TG) (tt:TT) (te:TE):TE:=fun σ H Q=>∃σ0,aN5 M sc scope N σ σ0∧wi σ H fun J H1=>∀D,H1 D=none→∃W:Nat→Nat→St→Hp→List V→Prop,(∃m,W 0 m σ0 (upd H1 D (.lst [])) []) ∧
 ∀i m σ' H' ys,W i m σ' H' ys→H' D=some (.lst ys)∧((J.stop i H'∧Q (.ref D) H')∨(J.go i H'∧∀x H2,J.yld i H' x H2→g x σ' H2 fun σ3 H3=>tt σ3 H3 fun b H4=>
  if b=true then te σ3 H4 fun y H5=>H5 D=some (.lst ys)∧ys.length<sizeLine∧∃m',m'<m∧W (i+1) m' σ3 (upd H5 D (.lst (ys++[y]))) (ys++[y]) else H4 D=some (.lst ys)∧∃m',m'<m∧W (i+1) m' σ3 H4 ys))
theorem yF {X:Cx} {M:List Str} {sc:Scope} {elt target iter:Expr} {ifs:List Expr} {scope:Scope} {pos:Pos} {N:List Str} {wi:TI} {g:TG} {tt:TT} {te:TE} (hM:X.N=M) (hS:X.env.scope=sc)
  (C:uL scope N) (hfr:∀y,(y,NameKind.free)∈scope.names→X.env.kindOf y=some .cell∨X.env.kindOf y=some .free) (hc:X.calm=true)
  (hi:VI X target iter wi)
  (hb:∀cl s H fp,VG (cxC X N scope cl s H fp) target g∧VF (cxC X N scope cl s H fp) ifs tt∧VE (cxC X N scope cl s H fp) elt te)
  (hs:∀x,foldedSetIterable iter X.env x=pure x:=by intro _;rfl) :
  VE X (.ListComp elt [⟨target,iter,ifs,0⟩] scope pos) (aJy M sc scope N wi g tt te):=by
 subst hM hS
 exact bY C hfr hc hi hb hs
variable {X:Cx}
def aRi:V→List V→Hp→VK→Prop:=fun x xs H Q=>∃(z y:Str) (i:Nat) (rest:List Nat),x=.str z∧xs=[.str y]∧Builtin.Str.occurrences z y 0 z.length 1=i::rest∧Q (.int (i:Nat)) H
theorem aM1:MtR X "str.index" aRi:=by
 intro pins s σ H x vs v us Q I rx rv h
 obtain ⟨z,y,i,rest,rfl,rfl,ho,q⟩:=h
 obtain ⟨t,rfl⟩:=rx
 obtain ⟨u,rfl,ru⟩:=rv.one
 obtain ⟨t',rfl⟩:=ru
 exact PySem.SC.index ho ⟨.int _,H,I.tok _,⟨_,rfl⟩,q⟩
end L2
namespace PySem
open PySem.Spec
section
variable {prog:Program} {w:World} {A:Around} {R:Result→Shared→Prop} {s:Shared} {l:Addr} {items:Array Value} {n:Nat} {dd:Option Addr} {sl:Array (Option Value)} {x:Value} {j:Nat}
end
end PySem
namespace L2
open PySem PySem.Spec PyProof.Rows
end L2
namespace PySem
open PySem.Spec
section
variable {prog:Program} {w:World} {κ:Type} [DecidableEq κ] {knd:KeyKind prog w κ}
end
end PySem
namespace L2
open PySem PySem.Spec PyProof.Rows
section
variable {X:Cx} {i o:Expr} {ty td:TE} {apos cpos:Pos}
end
end L2
namespace PySem
namespace RvF
theorem aHx:typeLookup (.type "tuple") "__reversed__"=pure none:=by rw [typeLookup_type,builtinLookup_eq_fast];kernel_rfl
theorem aB8:isSubtype (.type "tuple") (.type "dict")=pure false:=by rw [isSubtype_type];kernel_rfl
end RvF
def rvT (u:Addr) (i:Int):Obj:={ cls:=.type "reversed",data:=.fields #[.ref u,rawInt i] }
theorem aX1 {prog:Program} {w:World} {A:Around} {E:Value→Shared→Prop} {s:Shared} {u:Addr} {items:Array Value} {Q:Value→Shared→Prop} (ht:s.heap.IsTuple u items) (hfit:(items.size:Int)<2 ^ 63) (h:Q (.int items.size (s.toks+1)) { s with toks:=s.toks+1+1 }) :
  wpAny (model prog w) A (call (.builtin "len") [.ref u]) Q E s:=PyProof.Rows.len_tuple ht hfit h
theorem zZ (u:Addr) (items:Array Value) (hfit:(items.size:Int)<2 ^ 63) :
  Meets (Builtin.«reversed.__new__» ⟨[.type "reversed",.ref u],[]⟩) (fun _ R s=>s.heap.IsTuple u items ∧
   ∀tk,R (.ok (.ret (.ref s.heap.objs.size))) { s with heap:=s.heap.push (rvT u ((items.size:Int) - 1)),toks:=tk }):=
 .of_wp fun prog w A R s ⟨ht,h⟩=>by
  obtain ⟨hp,g,d,tk,os⟩:=s
  have f1:=RvF.aHx
  have f2:=RvF.aB8
  have f3:=F.slot_tuple_getitem.lookup
  have hT:(⟨hp,g,d,tk,os⟩:Shared).TypeIs (.ref u) "tuple":=PyProof.Rows.IsTup.typeIs ht
  unfold Builtin.«reversed.__new__»
  refine wpAny_bind (wpAny_of_eq (aGe _) ?_)
  wp_walk using aX1 ht hfit
  exact ⟨_,rfl,h _⟩
section
variable {prog:Program} {w:World} {A:Around} {E:Value→Shared→Prop} {s:Shared}
theorem tO {u:Addr} {items:Array Value} {Q:Value→Shared→Prop} (ht:s.heap.IsTuple u items) (hfit:(items.size:Int)<2 ^ 63)
  (h:∀tk,Q (.ref s.heap.objs.size) { s with heap:=s.heap.push (rvT u ((items.size:Int) - 1)),toks:=tk }):wpAny (model prog w) A (call (.type "reversed") [.ref u]) Q E s:=by
 refine callType_new RvF.called (by decide) (RvF.aJu _) (RvF.aMx _) (fun obj=>F.args_object_init_2 obj _) RvF.aM4 (zZ u items hfit) ?_
 refine ⟨ht,fun tk=>?_⟩
 exact ⟨⟨_,Heap.get?_push_size _ rfl,rfl⟩,h tk⟩
theorem xZ {it u:Addr} {i:Int} {Q:Value→Shared→Prop} (hit:s.heap.get? it=some (rvT u i)) (h:Q (.ref it) s):wpAny (model prog w) A (pyIter (.ref it)) Q E s:=by
 have hT:s.TypeIs (.ref it) "reversed":=⟨_,hit,rfl⟩
 refine wpAny_pyIter_slot hT RvF.aAu (wpAny_call_entry RvF.aAu hT RvF.aJd ?_ (RvF.aGm _))
 show wpAny _ _ (ret (.ref it)) _ _ s
 exact wpAny_pure ⟨_,rfl,"reversed",_,hT,RvF.slot_next.lookup,h⟩
theorem aXx {hp:Heap} {g:Array GenState} {d:Drawn} {tk:Nat} {os:_} {u:Addr} {items:Array Value} {k:Int} {t:Tok} {j:Nat} {x:Value} {Q:Value→Shared→Prop} (ht:hp.IsTuple u items)
  (hlo:-(2 ^ 63)≤k) (hhi:k<2 ^ 63) (hj:seqIndex? k items.size=some j) (hx:items[j]?=some x) (h:Q x ⟨hp,g,d,tk,os⟩):wpAny (model prog w) A (getItem (.ref u) (.int k t)) Q E ⟨hp,g,d,tk,os⟩:=PyProof.Rows.getItem_tuple (s:=⟨hp,g,d,tk,os⟩) ht hlo hhi hj hx h
theorem wD {it u:Addr} {i:Nat} {items:Array Value} {y:Value} {Q:Option Value→Shared→Prop} (hit:s.heap.get? it=some (rvT u (i:Int))) (ht:s.heap.IsTuple u items) (hx:items[i]?=some y) (hfit:items.size≤sizeLine)
  (hQ:∀h' tk,h'.get? it=some (rvT u ((i:Int) - 1))→Heap.SameBut it s.heap h'→Q (some y) { s with heap:=h',toks:=tk }):wpAny (model prog w) A (pyNext (.ref it)) Q E s:=by
 have hT0:s.TypeIs (.ref it) "reversed":=⟨_,hit,rfl⟩
 obtain ⟨hp,g,d,tk,os⟩:=s
 have hi:i<items.size:=(Array.getElem?_eq_some_iff.mp hx).1
 have hz:sizeLine<2 ^ 62:=by decide
 have f3:=F.slot_tuple_getitem.lookup
 have hT:(⟨hp,g,d,tk,os⟩:Shared).TypeIs (.ref u) "tuple":=PyProof.Rows.IsTup.typeIs ht
 have ho:hp.get? it=some { cls:=.type "reversed",data:=.fields #[.ref u,rawInt (i:Int)] }:=hit
 unfold pyNext
 refine wpAny_bind (wpAny_attempt (wpAny_callSpecial?_slot (name:=Str.ofString "__next__") hT0 RvF.slot_next
  (wpAny_call_entry RvF.slot_next hT0 RvF.entry_next ?_ (RvF.vX _))))
 unfold Builtin.«reversed.__next__»
 refine wpAny_bind (wpAny_of_eq (a:=(Value.ref it,[])) rfl ?_)
 try dsimp only
 refine wpAny_bind (wpAny_field ho rfl (x:=.ref u) rfl ?_)
 refine wpAny_bind (wpAny_field ho rfl (x:=rawInt (i:Int)) rfl ?_)
 show wpAny _ _ (if (i:Int)<0 then _ else _) _ _ _
 rw [if_neg (by omega)]
 have hj:seqIndex? (i:Int) items.size=some i:=by
  unfold seqIndex?
  have h1:¬ ((i:Int)<0):=by omega
  simp [h1,hi]
 wp_walk using aXx ht (by omega) (by omega) hj hx
 refine ⟨_,rfl,wpAny_pure (hQ _ _ ?_ (Heap.SameBut.update ..))⟩
 exact Heap.get?_update_self _ ho rfl
theorem yI {it u:Addr} {Q:Option Value→Shared→Prop} (hh:A.handled=none) (hit:s.heap.get? it=some (rvT u (-1)))
  (hQ:∀h',Heap.ExtBut it s.heap h'→Q none { s with heap:=h' }):wpAny (model prog w) A (pyNext (.ref it)) Q E s:=by
 have ho:s.heap.get? it=some { cls:=.type "reversed",data:=.fields #[.ref u,rawInt (-1)] }:=hit
 unfold pyNext
 refine wpAny_bind (wpAny_attempt (wpAny_callSpecial?_slot (name:=Str.ofString "__next__") (⟨_,hit,rfl⟩:s.TypeIs (.ref it) "reversed") RvF.slot_next
  (wpAny_call_entry RvF.slot_next (⟨_,hit,rfl⟩:s.TypeIs (.ref it) "reversed") RvF.entry_next ?_ (RvF.vX _))))
 unfold Builtin.«reversed.__next__»
 refine wpAny_bind (wpAny_of_eq (a:=(Value.ref it,[])) rfl ?_)
 try dsimp only
 refine wpAny_bind (wpAny_field ho rfl (x:=.ref u) rfl ?_)
 refine wpAny_bind (wpAny_field ho rfl (x:=rawInt (-1)) rfl ?_)
 show wpAny _ _ (if (-1:Int)<0 then _ else _) _ _ _
 rw [if_pos (by decide)]
 refine wpAny_bind (wpAny_rule ?_)
 refine wpAny_bind ?_
 refine wpAny_bind (wpAny_setField ho rfl (by simp) ?_)
 have ho2:(s.heap.update it (Obj.mapFields (·.setIfInBounds 1 (rawInt (-1))))).get? it=some { cls:=.type "reversed",data:=.fields #[.ref u,rawInt (-1)] }:=Heap.get?_update_self _ ho rfl
 refine wpAny_setField (s:={ s with heap:=s.heap.update it (Obj.mapFields (·.setIfInBounds 1 (rawInt (-1)))) }) ho2 rfl (by simp) ?_
 first
 |show wpAny _ _ (newExc (.type "StopIteration") [] >>= _) _ _ _
 |(refine wpAny_bind ?_;show wpAny _ _ (newExc (.type "StopIteration") [] >>= _) _ _ _)
 refine wpAny_bind ?_
 simp only [newExc,newTuple]
 refine wpAny_bind (wpAny_newObj_type ?_ (by size_fits))
 refine wpAny_bind (m:=firstArgMember _ _) (wpAny_of_eq (a:=Value.none) (by first|rfl|(simp only [firstArgMember];rfl)) ?_)
 refine wpAny_newObj_type ?_ (by size_fits)
 simp only [raiseNew]
 refine wpAny_bind (wpAny_handled ?_)
 first|rw [show A.in1.handled=none from hh]|rw [hh]
 refine wpAny_bind (wpAny_pure (wpAny_throw ?_))
 refine wpAny_bind (wpAny_isInstance (T:="StopIteration") (b:=true) ⟨_,Heap.get?_push_size _ rfl,rfl⟩ isSubtype_stop ?_)
 exact wpAny_pure (hQ _ ((((Heap.SameBut.update ..).trans (Heap.SameBut.update ..)).extBut.push _).push _))
end
end PySem
namespace L2
open PySem PySem.Spec PyProof.Rows
def Itu (K:PySem.W.Frag) (a:Addr) (n:Nat):It:=
 ⟨fun i H=>∃xs x,SqT K H a xs∧xs.length=n∧i<n∧xs[n - 1 - i]?=some x,fun i H x H'=>H'=H∧∀xs,SqT K H a xs→xs[n - 1 - i]?=some x,fun i _=>i=n⟩
theorem aQm {P:Program} {w:World} {K:PySem.W.Frag} {tg:Expr} (a it:Addr) (n:Nat):Turn P w K tg (Itu K a n) [it] it (fun i h=>h.get? it=some (rvT a ((n:Int) - 1 - (i:Int)))) where
 mem:=by simp
 obj:=fun i h st b hb=>by
  have e:b=it:=by simpa using hb
  subst e
  exact ⟨_,st,fun v z=>by
   have z':Data.fields _=Data.cell v:=z
   cases z'⟩
 keep:=fun i h h' st k=>k it (by simp) _ st
 item:=by
  intro X hP hw hK hc i pins s σ H E I hf st hg
  subst hP hw hK
  obtain ⟨xs,x,hq,hl,hi,hx⟩:=hg
  obtain ⟨its,rv,p,hz⟩:=I.tuple hq
  obtain ⟨u,hu,ru⟩:=rv.get hx
  obtain ⟨f0,f1,f2,f3,f4,f5⟩:=hf it (by simp)
  have lr:=rv.length
  have e:(n:Int) - 1 - (i:Int)=((n - 1 - i:Nat):Int):=by omega
  rw [e] at st
  refine wD st (show s.heap.IsTuple a its.toArray from p) (y:=u) (by simpa using hu) (by rw [List.size_toArray];omega) fun h' tk st' sb=>?_
  have e2:((n - 1 - i:Nat):Int) - 1=(n:Int) - 1 - ((i+1:Nat):Int):=by omega
  rw [e2] at st'
  have I1:Inv X pins σ H { s with heap:=h',toks:=tk }:=I.turned (fun b o hb e=>(sb.2 b hb).trans e) f0 f1 f3 f4 f5
  exact ⟨_,rfl,xK (s:={ s with heap:=h',toks:=tk }) (n:="reversed") st' rfl rfl (by decide) ⟨x,H,I1,ru,⟨rfl,fun ys hy=>by rw [I.aBi hy hq];exact hx⟩,st',fun b hb=>(hf b hb).1⟩⟩
 done:=by
  intro X hP hw hK hc i pins s σ H E I hf st hg
  subst hP hw hK
  obtain ⟨f0,f1,f2,f3,f4,f5⟩:=hf it (by simp)
  have hi:i=n:=hg
  rw [hi,show (n:Int) - 1 - (n:Int)=-1 by omega] at st
  exact yI (I.ok.hd hc) st fun h' eb=>⟨rfl,I.turned (t':=s.toks) (fun b o hb e=>eb b o hb e) f0 f1 f3 f4 f5⟩
 self:=fun _ _ _ _ _ st h=>xZ st h
section
variable {X:Cx} {tg:Expr}
def aWy (K:PySem.W.Frag) (ta:TA):TI:=fun σ H R=>ta σ H fun vs H1=>∃a xs,vs=[.ref a]∧SqT K H1 a xs∧R (Itu K a xs.length) H1
theorem aSl {a:Expr} {ta:TA} {p pos:Pos} (hg:Gl X "reversed") (hm:X.mg "reversed"=none) (ha:VA X [a] ta) (hp:gJ a=true:=by rfl):VI X tg (.Call (.Name "reversed" p) [a] [] pos) (aWy X.K ta):=⟨by
 intro pins s σ H R I h
 refine Call_ (rH I hg hm aHf (PyProof.Rows.callWith_type1 (thn (ha.1 pos pins s σ H _ I h) fun us s1 ⟨vs,H1,I1,r1,q1⟩=>?_) (bO (es:=[]) hp) rfl))
 obtain ⟨z,xs,e,hz,q⟩:=q1
 subst e
 cases r1 with
 |cons r rr=>
  cases rr
  cases r
  obtain ⟨its,rv,pt,hsz⟩:=I1.tuple hz
  have lr:=rv.length
  have h63:=qN
  refine tO (show s1.heap.IsTuple z its.toArray from pt) (by rw [List.size_toArray];omega) fun tk=>?_
  have I2:Inv X pins σ H1 { s1 with heap:=s1.heap.push (rvT z ((its.toArray.size:Int) - 1)),toks:=tk }:=I1.kept fun b o e=>Heap.get?_push_of_some _ e
  refine xZ (s:={ s1 with heap:=s1.heap.push (rvT z ((its.toArray.size:Int) - 1)),toks:=tk }) (Heap.get?_push_size _ rfl) ?_
  refine ⟨s1.heap.objs.size,[s1.heap.objs.size],_,_,H1,rfl,I2,aQm z _ xs.length,?_,fun b hb=>?_,q⟩
  ·show (s1.heap.push (rvT z ((its.toArray.size:Int) - 1))).get? s1.heap.objs.size=some (rvT z ((xs.length:Int) - 1 - ((0:Nat):Int)))
   rw [show (xs.length:Int) - 1 - ((0:Nat):Int)=(its.toArray.size:Int) - 1 by rw [List.size_toArray];omega]
   exact Heap.get?_push_size _ rfl
  ·have e:b=s1.heap.objs.size:=by simpa using hb
   subst e
   exact I1.aB2 (Nat.le_refl _) (I1.hok.fresh (Nat.le_refl _))⟩
end
theorem aPj {K:PySem.W.Frag} {a:Addr} {xs:List V} {g:TG} {tb:TS} {D:Ends} {σ:L2.St} {H:Hp} (Pv:Nat→L2.St→Hp→Prop) (h0:Pv 0 σ H) (hl:∀i σ H,i≤xs.length→Pv i σ H→SqT K H a xs)
  (hs:∀i x σ H,i<xs.length→xs[xs.length - 1 - i]?=some x→Pv i σ H→g x σ H fun σ2 H2=>tb { D with nx:=Pv (i+1),ct:=Pv (i+1),bk:=D.nx } σ2 H2) (hd:∀σ H,Pv xs.length σ H→D.nx σ H) :
  ∃W:Nat→Nat→L2.St→Hp→Prop,(∃m,W 0 m σ H)∧∀i m σ H,W i m σ H →
   ((Itu K a xs.length).stop i H∧D.nx σ H)∨((Itu K a xs.length).go i H∧∃N:L2.St→Hp→Prop,(∀σ' H',N σ' H'→∃m',m'<m∧W (i+1) m' σ' H')∧∀x H',(Itu K a xs.length).yld i H x H'→g x σ H' fun σ2 H2=>tb { D with nx:=N,ct:=N,bk:=D.nx } σ2 H2):=by
 refine ⟨fun i m σ H=>m=xs.length - i∧i≤xs.length∧Pv i σ H,⟨xs.length,by simp,Nat.zero_le _,h0⟩,?_⟩
 rintro i m σ H ⟨rfl,hi,p⟩
 have q:=hl i σ H hi p
 by_cases hlt:i<xs.length
 ·right
  have hx:xs[xs.length - 1 - i]?=some (xs[xs.length - 1 - i]'(by omega)):=List.getElem?_eq_getElem (by omega)
  refine ⟨⟨xs,_,q,rfl,hlt,hx⟩,Pv (i+1),fun σ' H' h=>⟨xs.length - (i+1),by omega,rfl,by omega,h⟩,?_⟩
  rintro x H' ⟨rfl,hy⟩
  exact hs i x σ H' hlt (hy xs q) p
 ·left
  have e:i=xs.length:=by omega
  subst e
  exact ⟨rfl,hd σ H p⟩
section
variable {X:Cx} {scope:Scope} {N:List Str} {wi:TI} {te:TE} {σ:L2.St} {H:Hp} {Q:VK}
theorem aAo {tt:TT} (xs:List V) (p:Nat→Bool) (σ0:L2.St) (cap:Cap X scope N σ σ0) (hsz:xs.length≤sizeLine)
  (hw:∀R:It→Hp→Prop,(∀J:It,(∀H' i x,Same H H'→xs[i]?=some x→J.go i H'∧∀y H2,J.yld i H' y H2→H2=H'∧y=x)→(∀H',Same H H'→J.stop xs.length H')→R J H)→wi σ H R)
  (ht:∀(i:Nat) (x:V),xs[i]?=some x→∀H' R l,Same H H'→(∀H2,Same H' H2→R (p i) H2)→tt ((σ0.set 0 l).set 0 (some x)) H' R) (h0:σ0[0]?=some none)
  (q:∀D H',H D=none→Same H H'→H' D=some (.lst (sel p 0 xs))→Q (.ref D) H') :
  gR X scope N wi (bZ 0) tt (aJb 0) σ H Q:=by
 refine ⟨σ0,cap,hw _ fun J go stop D hD=>?_⟩
 refine ⟨fun i m σ' H' ys=>i≤xs.length∧m=xs.length - i∧(∃l,σ'=σ0.set 0 l)∧Same H H'∧H' D=some (.lst ys)∧ys=sel p 0 (xs.take i),⟨xs.length,Nat.zero_le _,rfl,⟨none,dG h0⟩,bG hD _,aH,rfl⟩,?_⟩
 rintro i m σ' H' ys ⟨hi,rfl,⟨l,rfl⟩,sm,hL,rfl⟩
 refine ⟨hL,?_⟩
 by_cases hlt:i<xs.length
 ·right
  obtain ⟨g1,g2⟩:=go H' i xs[i] sm (List.getElem?_eq_getElem hlt)
  refine ⟨g1,fun x H2 hy=>?_⟩
  obtain ⟨rfl,rfl⟩:=g2 x H2 hy
  unfold bZ
  dsimp only
  have hj:0<σ0.length:=by
   by_cases z:0<σ0.length
   ·exact z
   ·rw [List.getElem?_eq_none (by omega)] at h0;cases h0
  have tk:sel p 0 (xs.take (i+1))=sel p 0 (xs.take i)++(if p i then [xs[i]] else []):=by
   rw [List.take_add_one,List.getElem?_eq_getElem hlt]
   show sel p 0 (xs.take i++[xs[i]])=_
   rw [sJ,List.length_take,Nat.zero_add,Nat.min_eq_left (Nat.le_of_lt hlt)]
  refine ht i xs[i] (List.getElem?_eq_getElem hlt) _ _ l sm fun H3 s3=>?_
  cases hp:p i with
  |true=>
   rw [if_pos rfl]
   refine ⟨xs[i],by rw [List.set_set,List.getElem?_set_self hj],s3 _ _ hL,?_,xs.length - (i+1),by omega,hlt,rfl,⟨some xs[i],by rw [List.set_set]⟩,?_,aH,?_⟩
   ·have:=pU p 0 (xs.take i)
    rw [List.length_take] at this
    omega
   ·intro b o e
    rw [aU (aZ e hD)]
    exact s3 _ _ (sm _ _ e)
   ·rw [tk,hp];rfl
  |false=>
   rw [if_neg (by simp)]
   refine ⟨s3 _ _ hL,xs.length - (i+1),by omega,hlt,rfl,⟨some xs[i],by rw [List.set_set]⟩,sm.trans s3,s3 _ _ hL,?_⟩
   rw [tk,hp]
   simp
 ·left
  have e:i=xs.length:=by omega
  subst e
  refine ⟨stop _ sm,?_⟩
  rw [List.take_length] at hL
  exact q D _ hD sm hL
end
end L2
namespace My
open PySem PySem.Spec PyProof.Rows L2
section
variable {P:Program} {w:World} {K:PySem.W.Frag} {mg:Str→Option Value} {base:Heap}
def plc:Hdr→Str→Nat
 |[],_=>0
 |c::r,n=>if c.1=n then 0 else plc r n+1
theorem lA {n k:Str}:∀{hd:Hdr},look hd n=some k→hd[plc hd n]?=some (n,k)∧∀(j:Nat) (c:Str × Str),j<plc hd n→hd[j]?=some c→c.1≠n
 |[],h=>by cases h
 |(m,q)::r,h=>by
  unfold look at h
  rw [List.find?_cons] at h
  by_cases e:m=n
  ·rw [decide_eq_true (p:=(m,q).1=n) e] at h
   have h':q=k:=Option.some.inj h
   subst e h'
   have z:plc ((m,q)::r) m=0:=if_pos rfl
   rw [z]
   exact ⟨rfl,fun j c hj=>absurd hj (Nat.not_lt_zero _)⟩
  ·rw [decide_eq_false (p:=(m,q).1=n) e] at h
   obtain ⟨h1,h2⟩:=lA (hd:=r) h
   have z:plc ((m,q)::r) n=plc r n+1:=if_neg e
   rw [z]
   refine ⟨by simpa using h1,fun j c hj hc=>?_⟩
   cases j with
   |zero=>cases hc;exact e
   |succ j=>exact h2 j c (by omega) (by simpa using hc)
def jU (K:PySem.W.Frag):Sp:=fun vs H Q _=>∃vh n hd k,vs=[vh,.str n]∧cX K H vh hd∧hd.length≤1000∧look hd n=some k∧∀H',Same H H'→Q (.int (plc hd n:Nat)) H'
theorem aFp (T:Txt w K mg) (lU:Ok P w K mg base 1 "names_of" ["head"] (aH7 K)):Ok P w K mg base 2 "place_of" ["head","name"] (jU K):=by
 refine Ok.ofV T.aI9 aGx (fun vs H Q E h=>?_) (fun f cdv A outer s H vs Q E hr h=>?_)
 ·obtain ⟨vh,n,hd,k,rfl,_⟩:=h;rfl
 obtain ⟨vh,n,hd,k,rfl,hI,hl,hk,q⟩:=h
 obtain ⟨h1,h2⟩:=lA hk
 refine ⟨_,(aG (aJ (vR PySem.F.plainAttrs_list PySem.F.slot_list_index PySem.F.type_list_index aA9 (aL (lU.mono (by decide)) hr (by rfl) (aB (vv 0) aA)) (aB (vv 1) aA)))),?_⟩
 refine ⟨_,rfl,vh,hd,rfl,hI,hl,fun D H1 s1 g1=>?_⟩
 refine ⟨.inl ⟨rfl,_,SqL.of g1⟩,_,rfl,D,hd.map (·.1),n,plc hd n,rfl,rfl,SqL.of g1,by rw [List.length_map];exact hl,by rw [List.getElem?_map,h1];rfl,fun j m hj hm=>?_,q H1 s1⟩
 rw [List.getElem?_map] at hm
 obtain ⟨c,hc,rfl⟩:=Option.map_eq_some_iff.mp hm
 exact h2 j c hj hc
def aA0 (K:PySem.W.Frag):Sp:=fun vs H Q _=>∃(vh:V) (hd:Hdr) (t:Addr) (ns ks:List Str),vs=[vh,.ref t]∧cX K H vh hd∧hd.length≤1000∧SqT K H t (ns.map V.str)∧ns.length≤1000∧Looks hd ns ks∧∀D H',Same H H'→H' D=some (.lst (ns.map fun n=>.int (plc hd n:Nat)))→Q (.ref D) H'
theorem aEd (T:Txt w K mg) (iH:Ok P w K mg base 2 "place_of" ["head","name"] (jU K)):Ok P w K mg base 3 "places_of" ["head","names"] (aA0 K):=by
 refine Ok.ofV T.aHk aEo (fun vs H Q E h=>?_) (fun f cdv A outer s H vs Q E hr h=>?_)
 ·obtain ⟨vh,hd,t,ns,ks,rfl,_⟩:=h;rfl
 obtain ⟨vh,hd,t,ns,ks,rfl,hI,hl,ht,hn,hk,q⟩:=h
 refine ⟨_,(aG (aJ (bY (N:=["name","head"]) (by trivial) (cF (aF kE) rfl (by decide +kernel)) rfl (eE (vv 1)) (fun cl s' H' fp=>⟨(aO (i:=0) (show (["name","head"]:List Str).Nodup from by decide +kernel) rfl (Or.inl rfl)),bW,(aL (iH.mono (by decide)) hr (by rfl) (aB (vv 1) (aB (vv 0) aA)))⟩)))),?_⟩
 refine fG (ns.map V.str) (ns.map fun n=>.int (plc hd n:Nat)) (by rw [List.length_map,List.length_map]) [none,some vh] (dF 0 (by decide +kernel) rfl rfl (by trivial)) (small (by rw [List.length_map];exact hn)) (fun R r=>iV ht (fun R' r'=>⟨_,rfl,r'⟩) R r) (fun i x y ex ey H' R l sm r=>?_) rfl fun D H' sm hD=>q D H' sm hD
 rw [List.getElem?_map] at ex ey
 obtain ⟨n,en,rfl⟩:=Option.map_eq_some_iff.mp ex
 rw [en] at ey
 cases ey
 obtain ⟨k,ek,lk⟩:=bI hk en
 exact ⟨_,rfl,_,rfl,vh,n,hd,k,rfl,hI.same sm,hl,lk,fun H2 s2=>r H2 s2⟩
def nY (is:List Nat) (r:List V):List V:=is.map fun i=>r.getD i .non
def aA2 (K:PySem.W.Frag):Sp:=fun vs H Q _=>∃(vr:V) (D:Addr) (r:List V) (is:List Nat),vs=[vr,.ref D]∧nZ K H vr r∧SqL K H D (is.map fun i=>V.int (i:Nat))∧is.length≤1000∧(∀i∈is,i<r.length)∧∀t H',Same H H'→H' t=some (.tup (nY is r))→Q (.ref t) H'
theorem aMm (T:Txt w K mg):Ok P w K mg base 1 "picked" ["row","places"] (aA2 K):=by
 refine Ok.ofV T.aP7 aNc (fun vs H Q E h=>?_) (fun f cdv A outer s H vs Q E hr h=>?_)
 ·obtain ⟨vr,D,r,is,rfl,_⟩:=h;rfl
 obtain ⟨vr,D,r,is,rfl,⟨a,rfl,ha⟩,hD,hl,hi,q⟩:=h
 refine ⟨_,(aG (aJ (bT cG (by rfl) T.cL cC (aB (bY (N:=["place","row"]) (by trivial) (cF (aF uE) rfl (by decide +kernel)) rfl (dY (vv 1)) (fun cl s' H' fp=>⟨(aO (i:=0) (show (["place","row"]:List Str).Nodup from by decide +kernel) rfl (Or.inl rfl)),bW,(aM (eO (K:=K)) (vv 1) (vv 0) (fun _ _=>rfl))⟩)) aA)))),?_⟩
 dsimp only [xU,tCB,dH]
 refine fG (is.map fun i=>V.int (i:Nat)) (nY is r) (by unfold nY;rw [List.length_map,List.length_map]) [none,some (.ref a)] (dF 0 (by decide +kernel) rfl rfl (by trivial)) (small (by rw [List.length_map];exact hl)) (fun R r=>pO (fun H' sm=>sm.seq hD) (fun R' r'=>⟨_,rfl,r'⟩) R r) (fun i x y ex ey H' R l sm rr=>?_) rfl fun D2 H2 s2 g2=>?_
 ·unfold nY at ey
  rw [List.getElem?_map] at ex ey
  obtain ⟨n,en,rfl⟩:=Option.map_eq_some_iff.mp ex
  rw [en] at ey
  cases ey
  have hn:=hi n (List.mem_of_getElem? en)
  refine ⟨_,rfl,_,rfl,a,r,_,_,rfl,rfl,sm.aP ha,?_,rr H' (Same.refl _)⟩
  have e:r.getD n .non=r[n]:=by simp [hn]
  show atI r ((n:Nat):Int)=some (r.getD n .non)
  rw [e]
  exact dO (List.getElem?_eq_getElem hn)
 ·exact ⟨D2,_,rfl,SqL.of g2,fun t H3 _ s3 g3=>q t H3 (s2.trans s3) g3⟩
def vlt:V→V→Bool
 |.int a,.int b=>decide (a<b)
 |.str a,.str b=>decide (a.cps.toList<b.cps.toList)
 |_,_=>false
def aV0 (sg:Str) (x y:V):Bool:=if sg = "=" then decide (x=y) else if sg = "!" then !decide (x=y) else if sg = "<" then vlt x y else vlt y x
def Alike (x y:V):Prop:=(∃a b,x=.int a∧y=.int b)∨∃a b,x=.str a∧y=.str b
theorem Alike.scal {x y:V} (h:Alike x y):scal x y=true:=by
 rcases h with ⟨a,b,rfl,rfl⟩|⟨a,b,rfl,rfl⟩ <;> rfl
theorem Alike.lt {x y:V} {H:Hp} {Q:VK} (h:Alike x y) (q:Q (.bl (vlt x y)) H):aWb x y H Q:=by
 rcases h with ⟨a,b,rfl,rfl⟩|⟨a,b,rfl,rfl⟩
 ·exact .inl ⟨a,b,rfl,rfl,q⟩
 ·exact .inr ⟨a,b,rfl,rfl,q⟩
theorem Alike.gt {x y:V} {H:Hp} {Q:VK} (h:Alike x y) (q:Q (.bl (vlt y x)) H):aW7 x y H Q:=by
 rcases h with ⟨a,b,rfl,rfl⟩|⟨a,b,rfl,rfl⟩
 ·exact .inl ⟨a,b,rfl,rfl,q⟩
 ·exact .inr ⟨a,b,rfl,rfl,q⟩
def aIf:Sp:=fun vs H Q _=>∃x sg y,vs=[x,.str sg,y]∧Alike x y∧aRd sg∧Q (.bl (aV0 sg x y)) H
theorem aGc (T:Txt w K mg):Ok P w K mg base 1 "compares" ["value","sign","other"] aIf:=by
 refine Ok.ofV T.aHr aFw (fun vs H Q E h=>?_) (fun f cdv A outer s H vs Q E hr h=>?_)
 ·obtain ⟨x,sg,y,rfl,_⟩:=h;rfl
 obtain ⟨x,sg,y,rfl,ha,hs,q⟩:=h
 refine ⟨_,(aC (bL (aW cB (vv 1) aQ (aY _)) (aG (aJ (dC cB (vv 0) (vv 2) (aY _)))) aX) (aC (bL (aW cB (vv 1) aQ (aY _)) (aG (aJ (dC qG (vv 0) (vv 2) (aY _)))) aX) (aG (aJ (fQ (aW cB (vv 1) aQ (aY _)) (dC aOi (vv 0) (vv 2) (aY _)) (dC aPs (vv 0) (vv 2) (aY _))))))),?_⟩
 rcases hs with rfl|rfl|rfl|rfl
 ·exact ⟨_,rfl,rfl,_,rfl,cV ⟨_,rfl,_,rfl,ha.scal,q⟩⟩
 ·exact ⟨_,rfl,rfl,_,rfl,bF ⟨_,rfl,rfl,_,rfl,bF ⟨_,rfl,rfl,_,rfl,cV ⟨_,rfl,_,rfl,ha.lt q⟩⟩⟩⟩
 ·exact ⟨_,rfl,rfl,_,rfl,bF ⟨_,rfl,rfl,_,rfl,bF ⟨_,rfl,rfl,_,rfl,bF ⟨_,rfl,_,rfl,ha.gt q⟩⟩⟩⟩
 ·exact ⟨_,rfl,rfl,_,rfl,bF ⟨_,rfl,rfl,_,rfl,cV ⟨_,rfl,_,rfl,ha.scal,q⟩⟩⟩
def aGk (k:Str):Bool:=decide (k = "number")
def knds (hd:Hdr):List Bool:=hd.map fun c=>aGk c.2
def aVp (hd:Hdr) (r:List V):Oth→V
 |.val x=>x
 |.col d=>r.getD (plc hd d) .non
def oZ (hd:Hdr) (r:List V) (t:Tst):Bool:=aV0 t.sg (r.getD (plc hd t.c) .non) (aVp hd r t.o)
theorem yW {hd:Hdr} {r:List V} (h:KdR (knds hd) r) {i:Nat} {c:Str × Str} (hc:hd[i]?=some c):i<r.length∧KdV (aGk c.2) (r.getD i .non):=by
 obtain ⟨x,hx,hk⟩:=Al2.at h (show (knds hd)[i]?=some (aGk c.2) by unfold knds;rw [List.getElem?_map,hc];rfl)
 have hi:=(List.getElem?_eq_some_iff.mp hx).1
 refine ⟨hi,?_⟩
 rw [List.getD_eq_getElem?_getD,hx]
 exact hk
theorem uC {b:Bool} {x y:V} (h1:KdV b x) (h2:KdV b y):Alike x y:=by
 cases b with
 |true=>obtain ⟨i,rfl⟩:=h1;obtain ⟨j,rfl⟩:=h2;exact .inl ⟨i,j,rfl,rfl⟩
 |false=>obtain ⟨i,rfl⟩:=h1;obtain ⟨j,rfl⟩:=h2;exact .inr ⟨i,j,rfl,rfl⟩
theorem aN9 {H:Hp} {x:V} (ht:Th K H x) (hv:aGt x=true):KdV (aGk (kindS x)) x:=by
 rcases ht with ⟨z,rfl,_⟩|⟨i,rfl⟩|⟨b,rfl⟩|⟨k,hk⟩
 ·exact ⟨z,rfl⟩
 ·exact ⟨i,rfl⟩
 ·cases hv
 ·cases hk <;> cases hv
def sW (K:PySem.W.Frag):Sp:=fun vs H Q _=>∃vh vr vt hd r t,vs=[vh,vr,vt]∧cX K H vh hd∧hd.length≤1000∧nZ K H vr r∧KdR (knds hd) r∧IsT K H vt t∧oF hd t∧∀H',Same H H'→Q (.bl (oZ hd r t)) H'
theorem aNt (T:Txt w K mg) (iH:Ok P w K mg base 2 "place_of" ["head","name"] (jU K)) (aJ5:Ok P w K mg base 1 "compares" ["value","sign","other"] aIf):Ok P w K mg base 3 "holds" ["head","row","test"] (sW K):=by
 refine Ok.ofV T.aS0 xM (fun vs H Q E h=>?_) (fun f cdv A outer s H vs Q E hr h=>?_)
 ·obtain ⟨vh,vr,vt,hd,r,t,rfl,_⟩:=h;rfl
 obtain ⟨vh,vr,vt,hd,r,t,rfl,hI,hl,⟨a,rfl,ha⟩,hk,⟨p,wo,rfl,hp,hn,hs,ho⟩,⟨k,tk1,tk2⟩,q⟩:=h
 refine ⟨_,(aC (bA (i:=3) xM.nd rfl (by trivial) (aM aV (vv 2) aD (fun _ _=>rfl))) (aC (bA (i:=4) xM.nd rfl (by trivial) (fQ (aW cB (aM aV (vv 3) aD (fun _ _=>rfl)) aQ (aY _)) (aM aV (vv 3) aD (fun _ _=>rfl)) (aM aV (vv 1) (aL (iH.mono (by decide)) hr (by rfl) (aB (vv 0) (aB (aM aV (vv 3) aD (fun _ _=>rfl)) aA))) (fun _ _=>rfl)))) (aG (aJ (aL (aJ5.mono (by decide)) hr (by rfl) (aB (aM aV (vv 1) (aL (iH.mono (by decide)) hr (by rfl) (aB (vv 0) (aB (aM aV (vv 2) aD (fun _ _=>rfl)) aA))) (fun _ _=>rfl)) (aB (aM aV (vv 2) aD (fun _ _=>rfl)) (aB (vv 4) aA)))))))),?_⟩
 obtain ⟨c1,c2⟩:=lA tk1
 obtain ⟨l1,k1⟩:=yW hk c1
 have e1:r.getD (plc hd t.c) .non=r[plc hd t.c]:=by simp [l1]
 have at1':atI r ((plc hd t.c:Nat):Int)=some (r.getD (plc hd t.c) .non):=by rw [e1];exact dO (List.getElem?_eq_getElem l1)
 refine ⟨_,rfl,p,_,2,_,rfl,rfl,hp,at2 _ _ _ _,?_⟩
 have fin:∀y H1,Same H H1→Alike (r.getD (plc hd t.c) .non) y→y=aVp hd r t.o→∀H2,Same H1 H2→aIf [r.getD (plc hd t.c) .non,.str t.sg,y] H2 (fun v H3=>Q v H3) E0:=fun y H1 s1 al ey H2 s2=>⟨_,_,_,rfl,al,hs,by rw [ey];exact q H2 (s1.trans s2)⟩
 cases ot:t.o with
 |val x=>
  rw [ot] at ho fin tk2
  obtain ⟨b,rfl,hb,hx,hv⟩:=ho
  have al:Alike (r.getD (plc hd t.c) .non) x:=by
   have:=aN9 hx hv
   have e:kindS x=k:=Option.some.inj tk2
   rw [e] at this
   exact uC k1 this
  refine ⟨_,rfl,b,_,0,_,rfl,rfl,hb,at0 _ _,rfl,_,rfl,cV ⟨_,rfl,b,_,1,_,rfl,rfl,hb,at1 _ _ _,?_⟩⟩
  refine ⟨_,rfl,_,rfl,_,rfl,p,_,0,_,rfl,rfl,hp,at0 _ _,vh,t.c,hd,k,rfl,hI,hl,tk1,fun H1 s1=>?_⟩
  refine ⟨a,r,_,_,rfl,rfl,s1.aP ha,at1',_,rfl,p,_,1,_,rfl,rfl,s1.aP hp,at1 _ _ _,_,rfl,?_⟩
  exact fin x H1 s1 al rfl H1 (Same.refl _)
 |col dd=>
  rw [ot] at ho fin tk2
  obtain ⟨b,rfl,hb,hnd⟩:=ho
  have tk2:look hd dd=some k:=tk2
  obtain ⟨d1,d2⟩:=lA tk2
  obtain ⟨l2,k2⟩:=yW hk d1
  have e2:r.getD (plc hd dd) .non=r[plc hd dd]:=by simp [l2]
  have at2':atI r ((plc hd dd:Nat):Int)=some (r.getD (plc hd dd) .non):=by rw [e2];exact dO (List.getElem?_eq_getElem l2)
  have al:Alike (r.getD (plc hd t.c) .non) (r.getD (plc hd dd) .non):=uC k1 k2
  refine ⟨_,rfl,b,_,0,_,rfl,rfl,hb,at0 _ _,rfl,_,rfl,bF ⟨_,rfl,_,rfl,_,rfl,b,_,1,_,rfl,rfl,hb,at1 _ _ _,vh,dd,hd,k,rfl,hI,hl,tk2,fun H0 s0=>⟨a,r,_,_,rfl,rfl,s0.aP ha,at2',?_⟩⟩⟩
  refine ⟨_,rfl,_,rfl,_,rfl,p,_,0,_,rfl,rfl,s0.aP hp,at0 _ _,vh,t.c,hd,k,rfl,hI.same s0,hl,tk1,fun H1 s1=>?_⟩
  refine ⟨a,r,_,_,rfl,rfl,(s0.trans s1).aP ha,at1',_,rfl,p,_,1,_,rfl,rfl,(s0.trans s1).aP hp,at1 _ _ _,_,rfl,?_⟩
  exact fin _ H0 s0 al rfl H1 s1
theorem eY {α:Type}:∀(k:Nat) (xs:List α),sel (fun _=>true) k xs=xs
 |_,[]=>rfl
 |k,x::r=>by
  show (if true=true then x::sel (fun _=>true) (k+1) r else _)=_
  rw [if_pos rfl,eY (k+1) r]
theorem dM {R:Nat→V→Prop} {n:Nat} {ys:List V} (h:lF R (List.range n) ys):ys.length=n∧∀(i:Nat) (y:V),ys[i]?=some y→R i y:=by
 have aux:∀{is:List Nat} {ys:List V},lF R is ys→∀(i:Nat) (y:V),ys[i]?=some y→∃j,is[i]?=some j∧R j y:=by
  intro is ys h
  induction h with
  |nil=>intro i y e;simp at e
  |cons r _ ih=>
   intro i y e
   cases i with
   |zero=>cases e;exact ⟨_,rfl,r⟩
   |succ i=>obtain ⟨j,h1,h2⟩:=ih i y (by simpa using e);exact ⟨j,by simpa using h1,h2⟩
 have l:=h.len
 rw [List.length_range] at l
 refine ⟨l.symm,fun i y e=>?_⟩
 obtain ⟨j,h1,h2⟩:=aux h i y e
 have hi:i<n:=by
  have:=(List.getElem?_eq_some_iff.mp e).1
  omega
 rw [List.getElem?_range hi] at h1
 cases h1
 exact h2
theorem aBf {X:Cx} {K:PySem.W.Frag} (hK:X.K=K) (hc:X.calm=true):cD X (.builtin "all") (aW4 K):=by subst hK;exact tY hc
theorem aKf {X:Cx} {K:PySem.W.Frag} {tg e:Expr} {te:TE} (h:VE X e te) (hK:X.K=K:=by rfl):VI X tg e (aGb K te):=by subst hK;exact eE h
theorem aQv {X:Cx} {K:PySem.W.Frag} {tg e:Expr} {te:TE} (h:VE X e te) (hK:X.K=K:=by rfl):VI X tg e (sG K te):=by subst hK;exact dY h
theorem aTr {M:List Str} {sc scope:Scope} {x y z:Str} {σ:L2.St} {u v:V} (i j:Nat) (hf:(y,NameKind.free)∈scope.names) (hg:(z,NameKind.free)∈scope.names) (hi:M[i]?=some y) (hj:M[j]?=some z) (hs:σ[i]?=some (some u)) (ht:σ[j]?=some (some v)) (hv:Vis sc y) (hw:Vis sc z):aN5 M sc scope [x,y,z] σ [none,some u,some v]:=
 ⟨rfl,fun n q r h1 h2=>by
  match n,h1,h2 with
  |0,_,h2=>cases h2
  |1,h1,h2=>cases h1;cases h2;exact ⟨hf,i,hi,hs,hv⟩
  |2,h1,h2=>cases h1;cases h2;exact ⟨hg,j,hj,ht,hw⟩
  |n+3,h1,_=>cases h1⟩
theorem sY {X:Cx} {scope:Scope} {x y z:Str} {σ:L2.St} {u v:V} (i j:Nat) (hf:(y,NameKind.free)∈scope.names) (hg:(z,NameKind.free)∈scope.names) (hi:X.N[i]?=some y) (hj:X.N[j]?=some z) (hs:σ[i]?=some (some u)) (ht:σ[j]?=some (some v)) (hv:Vis X.env.scope y) (hw:Vis X.env.scope z):Cap X scope [x,y,z] σ [none,some u,some v]:=
 ⟨rfl,fun n q r h1 h2=>by
  match n,h1,h2 with
  |0,_,h2=>cases h2
  |1,h1,h2=>cases h1;cases h2;exact ⟨hf,i,hi,hs,hv⟩
  |2,h1,h2=>cases h1;cases h2;exact ⟨hg,j,hj,ht,hw⟩
  |n+3,h1,_=>cases h1⟩
def scW:Scope:={ kind:=.function,names:=[(".0",.local),("row",.cell),("all",.globalImplicit),("head",.cell),("tests",.cell)],isGenerator:=false,isCoroutine:=false }
theorem aGs {M:List Str} {sc scope:Scope} {N:List Str} {K:PySem.W.Frag} {tl te:TE} {σ:L2.St} {H:Hp} {Q:VK} {a:Addr} (xs ys:List V) (hly:ys.length=xs.length) (σ0:L2.St) (cap:aN5 M sc scope N σ σ0) (hsz:xs.length≤sizeLine) (ha:SqT K H a xs) (hl:∀R:VK,R (.ref a) H→tl σ H R)
  (he:∀(i:Nat) (x y:V),xs[i]?=some x→ys[i]?=some y→∀H' R l,Same H H'→(∀H2,Same H' H2→R y H2)→te ((σ0.set 0 l).set 0 (some x)) H' R) (h0:σ0[0]?=some none)
  (q:∀D H',Same H H'→H' D=some (.lst ys)→Q (.ref D) H'):aJy M sc scope N (aGb K tl) (bZ 0) nA te σ H Q:=by
 refine ⟨σ0,cap,hl _ ⟨a,rfl,⟨xs,ha⟩,?_⟩⟩
 refine qD Same (jY H) xs (fun _=>true) (fun i _ y=>ys[i]?=some y) (fun _ _ h=>h) (fun _ _ _ h=>h) (fun i σ=>∃x l,xs[i]?=some x∧σ=(σ0.set 0 l).set 0 (some x)) (fun σ=>∃l,σ=σ0.set 0 l) ⟨none,dG h0⟩ hsz (Itt K a) (yJ fun H' e=>e.aP ha) (pH fun H' e=>e.aP ha) (fun i x σ' H' Q' ex ps sm r=>?_) (fun i x σ2 ex at2 H' R sm r=>r H' (Same.refl _)) (fun i x σ2 ex at2 _ H' R sm r=>?_) fun D H' zs sm hD hz al=>?_
 ·obtain ⟨l,rfl⟩:=ps
  have z:(σ0.set 0 l).set 0 (some x)=σ0.set 0 (some x):=List.set_set ..
  have:=r ((σ0.set 0 l).set 0 (some x)) ⟨some x,z⟩ ⟨x,l,ex,rfl⟩
  exact this
 ·obtain ⟨x',l,ex',rfl⟩:=at2
  rw [ex] at ex'
  cases ex'
  have hi:i<ys.length:=by rw [hly];exact (List.getElem?_eq_some_iff.mp ex).1
  exact he i x ys[i] ex (List.getElem?_eq_getElem hi) H' R l sm fun H2 s2=>r _ H2 s2 (List.getElem?_eq_getElem hi)
 ·rw [eY] at al
  obtain ⟨l1,l2⟩:=dM al
  have e:zs=ys:=List.ext_getElem? fun i=>by
   cases ez:zs[i]? with
   |some z=>exact (l2 i z ez).symm
   |none=>
    have:=List.getElem?_eq_none_iff.mp ez
    exact (List.getElem?_eq_none (by omega)).symm
  rw [e] at hz
  exact q D H' sm hz
theorem none_of {H H':Hp} {D:Addr} (e:Same H H') (h:H' D=none):H D=none:=by
 cases z:H D with
 |none=>rfl
 |some o=>rw [e _ _ z] at h;cases h
def tR (hd:Hdr) (ts:List Tst) (rs:List (List V)):List (List V):=rs.filter fun r=>ts.all (oZ hd r)
def bV (K:PySem.W.Frag) (H:Hp) (D:Addr) (rs:List (List V)):Prop:=∃us,H D=some (.lst us)∧bQ (nZ K H) us rs
theorem bV.same {H H':Hp} {D:Addr} {rs:List (List V)} (e:Same H H') (h:bV K H D rs):bV K H' D rs:=by
 obtain ⟨us,h1,h2⟩:=h
 exact ⟨us,e _ _ h1,h2.imp fun _ _ r=>r.same e⟩
def aGa (K:PySem.W.Frag):Sp:=fun vs H Q _=>∃vh D vt hd rs ts,vs=[vh,.ref D,vt]∧cX K H vh hd∧hd.length≤1000∧bV K H D rs∧rs.length≤sizeLine∧(∀r∈rs,KdR (knds hd) r)∧tG K H (IsT K H) vt ts∧ts.length≤8∧(∀t∈ts,oF hd t)∧∀D' H',H D'=none→Same H H'→bV K H' D' (tR hd ts rs)→Q (.ref D') H'
theorem zJ (T:Txt w K mg) (aRw:Ok P w K mg base 3 "holds" ["head","row","test"] (sW K)):Ok P w K mg base 4 "where_rows" ["head","rows","tests"] (aGa K):=by
 refine Ok.ofV T.aBq zA (fun vs H Q E h=>?_) (fun f cdv A outer s H vs Q E hr h=>?_)
 ·obtain ⟨vh,D,vt,hd,rs,ts,rfl,_⟩:=h;rfl
 obtain ⟨vh,D,vt,hd,rs,ts,rfl,hI,hl,⟨us,hD,hu⟩,hsz,hk,⟨t,vs,rfl,ht,hv⟩,h8,hok,q⟩:=h
 refine ⟨_,(aG (aJ (xF (N:=["row","head","tests"]) (y0:="row") ⟨by decide +kernel,fun _ _=>rfl,fun _=>rfl,by decide +kernel,rfl,by decide +kernel,by decide +kernel⟩ (cF (aF jG) rfl (by decide +kernel)) rfl (dY (vv 1)) (fun cl s' H' fp=>⟨(aO (i:=0) (show (["row","head","tests"]:List Str).Nodup from by decide +kernel) rfl (Or.inr rfl) (Or.inl rfl)),(wW (cM (aN (aBf (K:=K) rfl rfl) (by rfl) T.aFe yE (aB (yF (M:=["row","head","tests"]) (sc:=scW) (N:=["test","head","row"]) rfl rfl (by trivial) (cF scW rfl (by decide +kernel)) rfl (aKf (K:=K) (vv 2)) (fun cl2 s2' H2' fp2=>⟨(aO (i:=0) (show (["test","head","row"]:List Str).Nodup from by decide +kernel) rfl (Or.inl rfl)),bW,(aL (aRw.mono (by decide)) hr (by rfl) (aB (vv 1) (aB (vv 2) (aB (vv 0) aA))))⟩)) aA)))),(vv 0)⟩)))),?_⟩
 have lu:=hu.len
 have lv:=hv.len
 refine aAo us (fun i=>ts.all (oZ hd (rs.getD i []))) [none,some vh,some (.ref t)] ?_ (by omega) (fun R r=>pO (fun H' sm=>SqL.of (sm _ _ hD)) (fun R' r'=>⟨_,rfl,r'⟩) R r) (fun i u ex H' R l sm rr=>?_) rfl fun D' H' hN sm hD'=>?_
 ·exact sY 0 2 (by decide +kernel) (by decide +kernel) rfl rfl rfl rfl (by trivial) (by trivial)
 ·obtain ⟨r,er,hr'⟩:=bI hu ex
  have hkr:=hk r (List.mem_of_getElem? er)
  have eg:rs.getD i []=r:=by rw [List.getD_eq_getElem?_getD,er];rfl
  rw [eg] at rr
  dsimp only [tB,tCB,dH]
  refine aGs vs (ts.map fun t=>V.bl (oZ hd r t)) (by rw [List.length_map];omega) [none,some vh,some u] ?_ (small (by omega)) (sm.aP ht) (fun R' r'=>⟨_,rfl,r'⟩) (fun j x y ex ey H2 R2 l2 s2 r2=>?_) rfl fun D2 H2 s2 g2=>?_
  ·exact aTr 1 0 (by decide +kernel) (by decide +kernel) rfl rfl rfl rfl (by trivial) (by trivial)
  ·obtain ⟨tt,et,htt⟩:=bI hv ex
   rw [List.getElem?_map,et] at ey
   cases ey
   exact ⟨_,rfl,_,rfl,_,rfl,vh,u,x,hd,r,tt,rfl,hI.same (sm.trans s2),hl,hr'.same (sm.trans s2),hkr,htt.same (sm.trans s2),hok tt (List.mem_of_getElem? et),fun H3 s3=>r2 H3 s3⟩
  ·refine ⟨D2,ts.map (oZ hd r),rfl,SqL.of (by rw [g2,List.map_map];rfl),?_⟩
   rw [List.all_map]
   exact ⟨_,rfl,rr H2 s2⟩
 ·refine q D' H' hN sm ⟨_,hD',?_⟩
  have e:tR hd ts rs=sel (fun i=>ts.all (oZ hd (rs.getD i []))) 0 rs:=(lV fun i r er=>by rw [Nat.zero_add,List.getD_eq_getElem?_getD,er];rfl).symm
  rw [e]
  exact (yV hu 0).imp fun _ _ r=>r.same sm
theorem gY {α β:Type} {R:α→β→Prop}:∀{as:List α} {bs:List β},as.length=bs.length→(∀(i:Nat) (a:α) (b:β),as[i]?=some a→bs[i]?=some b→R a b)→bQ R as bs
 |[],[],_,_=>.nil
 |[],_::_,h,_=>by cases h
 |_::_,[],h,_=>by cases h
 |a::as,b::bs,h,k=>.cons (k 0 a b rfl rfl) (gY (by simpa using h) fun i x y e1 e2=>k (i+1) x y (by simpa using e1) (by simpa using e2))
def keepR (hd:Hdr) (ns:List Str) (rs:List (List V)):List (List V):=rs.map (nY (ns.map (plc hd)))
def aGi (K:PySem.W.Frag):Sp:=fun vs H Q _=>∃vh D t hd rs ns ks,vs=[vh,.ref D,.ref t]∧cX K H vh hd∧hd.length≤1000∧bV K H D rs∧rs.length≤sizeLine∧(∀r∈rs,KdR (knds hd) r)∧SqT K H t (ns.map V.str)∧ns.length≤1000∧Looks hd ns ks∧∀D' H',H D'=none→Same H H'→bV K H' D' (keepR hd ns rs)→Q (.ref D') H'
theorem aEj (T:Txt w K mg) (aGy:Ok P w K mg base 3 "places_of" ["head","names"] (aA0 K)) (aPa:Ok P w K mg base 1 "picked" ["row","places"] (aA2 K)):Ok P w K mg base 4 "keep_rows" ["head","rows","names"] (aGi K):=by
 refine Ok.ofV T.aHc sV (fun vs H Q E h=>?_) (fun f cdv A outer s H vs Q E hr h=>?_)
 ·obtain ⟨vh,D,t,hd,rs,ns,ks,rfl,_⟩:=h;rfl
 obtain ⟨vh,D,t,hd,rs,ns,ks,rfl,hI,hl,⟨us,hD,hu⟩,hsz,hk,ht,hn,hlk,q⟩:=h
 refine ⟨_,(aC (bA (i:=3) sV.nd rfl (by trivial) (aL (aGy.mono (by decide)) hr (by rfl) (aB (vv 0) (aB (vv 2) aA)))) (aG (aJ (bY (N:=["row","places"]) (by trivial) (cF (aF kW) rfl (by decide +kernel)) rfl (dY (vv 1)) (fun cl s' H' fp=>⟨(aO (i:=0) (show (["row","places"]:List Str).Nodup from by decide +kernel) rfl (Or.inl rfl)),bW,(aL (aPa.mono (by decide)) hr (by rfl) (aB (vv 0) (aB (vv 1) aA)))⟩))))),?_⟩
 have lu:=hu.len
 refine ⟨_,rfl,_,rfl,vh,hd,t,ns,ks,rfl,hI,hl,ht,hn,hlk,fun C H1 s1 g1=>?_⟩
 refine lG [none,some (.ref C)] (dF 3 (by decide +kernel) rfl rfl (by trivial)) ⟨_,rfl,D,rfl,⟨us,SqL.of (s1 _ _ hD)⟩,?_⟩
 refine qD Same (jY H1) us (fun _=>true) (fun i H' y=>∃r,rs[i]?=some r∧nZ K H' y (nY (ns.map (plc hd)) r)) (fun _ s2 ⟨r,e,h⟩=>⟨r,e,h.same s2⟩) (fun hD0 _ hL ⟨r,e,a,ea,h⟩=>⟨r,e,a,ea,?_⟩) (fun i σ=>∃u l,us[i]?=some u∧σ=(List.set [none,some (.ref C)] 0 l).set 0 (some u)) (fun σ=>∃l,σ=List.set [none,some (.ref C)] 0 l) ⟨none,rfl⟩ (by omega) (Itl K D) (rW fun H' e=>SqL.of (e _ _ (s1 _ _ hD))) (lO fun H' e=>SqL.of (e _ _ (s1 _ _ hD))) (fun i x σ' H' Q' ex ps sm r=>?_) (fun i x σ2 ex at2 H' R sm r=>r H' (Same.refl _)) (fun i x σ2 ex at2 _ H' R sm rr=>?_) fun D' H' zs sm hD0 hz al=>?_
 ·exact SqT.wH hL h
 ·obtain ⟨l,rfl⟩:=ps
  exact r _ ⟨some x,rfl⟩ ⟨x,l,ex,rfl⟩
 ·obtain ⟨x',l,ex',rfl⟩:=at2
  rw [ex] at ex'
  cases ex'
  obtain ⟨r,er,hr'⟩:=bI hu ex
  have hkr:=hk r (List.mem_of_getElem? er)
  refine ⟨_,rfl,_,rfl,x,C,r,ns.map (plc hd),rfl,hr'.same (s1.trans sm),?_,by rw [List.length_map];exact hn,?_,fun t2 H2 s2 g2=>rr _ H2 s2 ⟨r,er,t2,rfl,.inl (.inl g2)⟩⟩
  ·exact SqL.of (by rw [List.map_map];exact sm _ _ g1)
  ·intro i hi
   obtain ⟨n,hn',rfl⟩:=List.mem_map.mp hi
   obtain ⟨j,hj⟩:=List.mem_iff_getElem?.mp hn'
   obtain ⟨k,ek,lk⟩:=bI hlk hj
   exact (yW hkr (lA lk).1).1
 ·rw [eY] at al
  obtain ⟨l1,l2⟩:=dM al
  refine q D' H' (none_of s1 hD0) (s1.trans sm) ⟨zs,hz,?_⟩
  refine gY (by unfold keepR;rw [List.length_map];omega) fun i z y ez ey=>?_
  obtain ⟨r,er,hz'⟩:=l2 i z ez
  unfold keepR at ey
  rw [List.getElem?_map,er] at ey
  cases ey
  exact hz'
def aWf (K:PySem.W.Frag) (H:Hp) (v:V) (rs:List (List V)):Prop:=∃D,v=.ref D∧bV K H D rs
def Fit (hd:Hdr) (rs:List (List V)):Prop:=rs.length≤63∧∀r∈rs,KdR (knds hd) r
inductive RH:Qn→List Hdr→List (List (List V))→List (List V)→Prop
 |whr {q ts hd rs}:(∀t∈ts,oF hd t)→RH (.whr q ts) [hd] [rs] (tR hd ts rs)
 |keep {q ns hd ks rs}:Looks hd ns ks→RH (.keep q ns) [hd] [rs] (keepR hd ns rs)
 |nmd {q ns hd rs}:RH (.nmd q ns) [hd] [rs] rs
def aKv:Sp:=fun _ _ _ _=>False
theorem aCc (T:Txt w K mg):Ok P w K mg base 1 "join_rows" ["head","rows","other_head","other_rows","pairs"] aKv:=Ok.ofV T.aGh aEh (fun _ _ _ _ h=>h.elim) (fun _ _ _ _ _ _ _ _ _ _ h=>h.elim)
theorem zK (T:Txt w K mg):Ok P w K mg base 1 "group_rows" ["head","rows","names","sums"] aKv:=Ok.ofV T.aDv aAg (fun _ _ _ _ h=>h.elim) (fun _ _ _ _ _ _ _ _ _ _ h=>h.elim)
theorem zE (T:Txt w K mg):Ok P w K mg base 1 "first_rows" ["head","rows","keys","many"] aKv:=Ok.ofV T.aB4 zR (fun _ _ _ _ h=>h.elim) (fun _ _ _ _ _ _ _ _ _ _ h=>h.elim)
theorem aBr (T:Txt w K mg):Ok P w K mg base 1 "sorted_by" ["rows","place","way"] aKv:=Ok.ofV T.aF6 aD1 (fun _ _ _ _ h=>h.elim) (fun _ _ _ _ _ _ _ _ _ _ h=>h.elim)
def aS8 (K:PySem.W.Frag):Sp:=fun vs H Q _=>∃v x y us ws q ihds irs rs,vs=[v,.ref x,.ref y]∧IsQ K H v q∧SqL K H x us∧bQ (cX K H) us ihds∧(∀h∈ihds,h.length≤100)∧SqL K H y ws∧bQ (aWf K H) ws irs∧bQ Fit ihds irs∧RH q ihds irs rs∧∀D' H',(H D'=none∨.ref D'∈ws)→Same H H'→bV K H' D' rs→Q (.ref D') H'
theorem aCx (T:Txt w K mg) (aDo:Ok P w K mg base 4 "where_rows" ["head","rows","tests"] (aGa K)) (aFr:Ok P w K mg base 4 "keep_rows" ["head","rows","names"] (aGi K)):Ok P w K mg base 5 "rows_here" ["question","heads","rows"] (aS8 K):=by
 have aFy:=aCc (P:=P) (base:=base) T
 have aD6:=zK (P:=P) (base:=base) T
 have aDh:=zE (P:=P) (base:=base) T
 refine Ok.ofV T.aGz sI (fun vs H Q E h=>?_) (fun f cdv A outer s H vs Q E hr h=>?_)
 ·obtain ⟨v,x,y,us,ws,q0,ihds,irs,rs,rfl,_⟩:=h;rfl
 obtain ⟨v,x,y,us,ws,q0,ihds,irs,rs,rfl,hq,hx,hu,hlen,hy,hw,hf,hh,q⟩:=h
 refine ⟨_,(aC (bA (i:=3) sI.nd rfl (by trivial) (aM aV (vv 0) aD (fun _ _=>rfl))) (aC (bL (aW cB (vv 3) aQ (aY _)) (aG (aJ (aL (aDo.mono (by decide)) hr (by rfl) (aB (aM bD (vv 1) aD (fun _ _=>rfl)) (aB (aM bD (vv 2) aD (fun _ _=>rfl)) (aB (aM aV (vv 0) aD (fun _ _=>rfl)) aA)))))) aX) (aC (bL (aW cB (vv 3) aQ (aY _)) (aG (aJ (aL (aFr.mono (by decide)) hr (by rfl) (aB (aM bD (vv 1) aD (fun _ _=>rfl)) (aB (aM bD (vv 2) aD (fun _ _=>rfl)) (aB (aM aV (vv 0) aD (fun _ _=>rfl)) aA)))))) aX) (aC (bL (aW cB (vv 3) aQ (aY _)) (aG (aJ (aM bD (vv 2) aD (fun _ _=>rfl)))) aX) (aC (bL (aW cB (vv 3) aQ (aY _)) (aG (aJ (aL (aD6.mono (by decide)) hr (by rfl) (aB (aM bD (vv 1) aD (fun _ _=>rfl)) (aB (aM bD (vv 2) aD (fun _ _=>rfl)) (aB (aM aV (vv 0) aD (fun _ _=>rfl)) (aB (aM aV (vv 0) aD (fun _ _=>rfl)) aA))))))) aX) (aC (bL (aW cB (vv 3) aQ (aY _)) (aG (aJ (aL (aDh.mono (by decide)) hr (by rfl) (aB (aM bD (vv 1) aD (fun _ _=>rfl)) (aB (aM bD (vv 2) aD (fun _ _=>rfl)) (aB (aM aV (vv 0) aD (fun _ _=>rfl)) (aB (aM aV (vv 0) aD (fun _ _=>rfl)) aA))))))) aX) (aG (aJ (aL (aFy.mono (by decide)) hr (by rfl) (aB (aM bD (vv 1) aD (fun _ _=>rfl)) (aB (aM bD (vv 2) aD (fun _ _=>rfl)) (aB (aM bD (vv 1) aD (fun _ _=>rfl)) (aB (aM bD (vv 2) aD (fun _ _=>rfl)) (aB (aM aV (vv 0) aD (fun _ _=>rfl)) aA)))))))))))))),?_⟩
 cases hh with
 |whr ht=>
  cases hq with
  |whr a b c=>
   cases hu with
   |cons h1 t1=>
    cases t1
    cases hw with
    |cons w1 t2=>
     cases t2
     cases hf with
     |cons f1 _=>
      obtain ⟨D,rfl,hD⟩:=w1
      have hl:=hlen _ List.mem_cons_self
      refine ⟨_,rfl,_,_,0,_,rfl,rfl,a,at0 _ _,?_⟩
      refine ⟨_,rfl,rfl,_,rfl,cV ?_⟩
      exact ⟨_,rfl,x,_,0,_,rfl,rfl,hx,at0 _ _,_,rfl,y,_,0,_,rfl,rfl,hy,at0 _ _,_,rfl,_,_,2,_,rfl,rfl,a,at2 _ _ _ _,_,D,_,_,_,_,rfl,h1,by omega,hD,by have:=f1.1;exact small (by omega),f1.2,c.1,by have:=c.2.2;omega,ht,fun D' H' n' s' h'=>q D' H' (.inl n') s' h'⟩
 |keep hk=>
  cases hq with
  |keep a b c=>
   cases hu with
   |cons h1 t1=>
    cases t1
    cases hw with
    |cons w1 t2=>
     cases t2
     cases hf with
     |cons f1 _=>
      obtain ⟨D,rfl,hD⟩:=w1
      have hl:=hlen _ List.mem_cons_self
      refine ⟨_,rfl,_,_,0,_,rfl,rfl,a,at0 _ _,?_⟩
      refine ⟨_,rfl,rfl,_,rfl,bF ⟨_,rfl,rfl,_,rfl,cV ?_⟩⟩
      have l8:=c.2.2
      obtain ⟨⟨t,us',rfl,ht,hr'⟩,_⟩:=c
      rw [aC3 hr'] at ht
      exact ⟨_,rfl,x,_,0,_,rfl,rfl,hx,at0 _ _,_,rfl,y,_,0,_,rfl,rfl,hy,at0 _ _,_,rfl,_,_,2,_,rfl,rfl,a,at2 _ _ _ _,_,D,t,_,_,_,_,rfl,h1,by omega,hD,by have:=f1.1;exact small (by omega),f1.2,ht,by omega,hk,fun D' H' n' s' h'=>q D' H' (.inl n') s' h'⟩
 |nmd=>
  cases hq with
  |nmd a b c=>
   cases hw with
   |cons w1 t2=>
    cases t2
    obtain ⟨D,rfl,hD⟩:=w1
    refine ⟨_,rfl,_,_,0,_,rfl,rfl,a,at0 _ _,?_⟩
    refine ⟨_,rfl,rfl,_,rfl,bF ⟨_,rfl,rfl,_,rfl,bF ⟨_,rfl,rfl,_,rfl,cV ?_⟩⟩⟩
    exact ⟨_,rfl,y,_,0,_,rfl,rfl,hy,at0 _ _,q D H (.inr List.mem_cons_self) (Same.refl H) hD⟩
def TabsAt (K:PySem.W.Frag) (H:Hp) (tb:Addr) (tabs:Str→Option (Addr × List (List V))):Prop:=∃kvs,H tb=some (.dK kvs)∧∀n D rs,tabs n=some (D,rs)→pK kvs (Sum.inr n)=some (.ref D)∧bV K H D rs
theorem TabsAt.same {H H':Hp} {tb:Addr} {tabs:Str→Option (Addr × List (List V))} (e:Same H H') (h:TabsAt K H tb tabs):TabsAt K H' tb tabs:=by
 obtain ⟨kvs,h1,h2⟩:=h
 exact ⟨kvs,e _ _ h1,fun n D rs h=>⟨(h2 n D rs h).1,(h2 n D rs h).2.same e⟩⟩
inductive RQ (hs:Str→Option Hdr) (tabs:Str→Option (Addr × List (List V))):Qn→List (List V)→Prop
 |table {n D rs}:tabs n=some (D,rs)→RQ hs tabs (.table n) rs
 |one {q k h1 r1 rs}:kids q=[k]→HQ hs k h1→RQ hs tabs k r1→Fit h1 r1→RH q [h1] [r1] rs→RQ hs tabs q rs
theorem aRr {K:PySem.W.Frag} {H:Hp} {v:V} {q:Qn} {i1:List Hdr} {i2:List (List (List V))} {rs:List (List V)} (h:RH q i1 i2 rs) (hq:IsQ K H v q):∃a s xs,v=.ref a∧SqT K H a (.str s::xs)∧decide (V.str s=V.str "table")=false:=by
 cases h <;> cases hq
 ·exact ⟨_,"where",_,rfl,by assumption,by decide +kernel⟩
 ·exact ⟨_,"keep",_,rfl,by assumption,by decide +kernel⟩
 ·exact ⟨_,"named",_,rfl,by assumption,by decide +kernel⟩
theorem aBj {K:PySem.W.Frag} {Dk:Addr} {u:V} {H1:Hp} {σ0:L2.St} {te:TE} {Q:VK} (gD:H1 Dk=some (.lst [u]))
  (h:∀D R,H1 D=none→(∀y H5,Same (L2.upd H1 D (.lst [])) H5→Q (.ref D) (L2.upd H5 D (.lst [y]))→R y H5)→te (σ0.set 0 (some u)) (L2.upd H1 D (.lst [])) R):aBo (Itl K Dk) H1 σ0 (bZ 0) nA te Q:=by
 intro D hD
 refine ⟨fun i m σ' H' ys=>(i=0∧m=1∧σ'=σ0∧H'=L2.upd H1 D (.lst [])∧ys=[])∨(i=1∧m=0∧H' Dk=some (.lst [u])∧H' D=some (.lst ys)∧Q (.ref D) H'),⟨1,.inl ⟨rfl,rfl,rfl,rfl,rfl⟩⟩,?_⟩
 rintro i m σ' H' ys (⟨rfl,rfl,rfl,rfl,rfl⟩|⟨rfl,rfl,g1,g2,g3⟩)
 ·have hn:=aZ gD hD
  have g:L2.upd H1 D (.lst []) Dk=some (.lst [u]):=by rw [aU hn];exact gD
  refine ⟨aH,.inr ⟨⟨[u],u,SqL.of g,rfl⟩,fun x H2 hy=>?_⟩⟩
  obtain ⟨rfl,e2⟩:=hy
  have e3:=e2 [u] (SqL.of g)
  cases e3
  show te _ _ _
  refine h D _ hD fun y H5 s5 q5=>⟨s5 _ _ aH,by decide,0,by decide,.inr ⟨rfl,rfl,?_,aH,q5⟩⟩
  rw [aU hn]
  exact s5 _ _ g
 ·exact ⟨g2,.inl ⟨⟨[u],SqL.of g1,Nat.le_refl _⟩,g3⟩⟩
theorem aRc {H:Hp} {tb:Addr} {kvs:List (Key × V)} {k:Key} {v:V} (hk:H tb=some (.dK kvs)) (e:pK kvs k=some v):xW H tb (kV k) (some v):=by rw [←e];exact xW.k hk
theorem aKu {c:Bool} {A B:Prop} (h:c=false) (b:B):if c=true then A else B:=by subst h;exact b
def aOa (K:PySem.W.Frag) (n:Nat):Sp:=fun vs H Q _=>∃d tb v hs tabs q rs,vs=[.ref d,.ref tb,v]∧jB K H d hs∧TabsAt K H tb tabs∧IsQ K H v q∧size q≤n∧size q≤20∧RQ hs tabs q rs∧∀D' H',(H D'=none∨∃n rs,tabs n=some (D',rs))→Same H H'→bV K H' D' rs→Q (.ref D') H'
theorem pB (T:Txt w K mg) (cR:Ok P w K mg base 1 "questions_in" ["question"] (aKq K)) (vV:Ok P w K mg base 5 "rows_here" ["question","heads","rows"] (aS8 K)) (jM:Ok P w K mg base 27 "head_of" ["heads","question"] (aFl K)) :
  ∀n:Nat,Ok P w K mg base (n+28) "rows_within" ["heads","tables","question"] (aOa K n)
 |0=>by
  refine Ok.ofV T.qF gH (fun vs H Q E h=>?_) (fun f cdv A outer s H vs Q E hr h=>?_)
  ·obtain ⟨d,tb,v,hs,tabs,q0,rs,rfl,_⟩:=h;rfl
  ·obtain ⟨d,tb,v,hs,tabs,q0,rs,rfl,_,_,hq,hz,_⟩:=h
   have e:=oM q0
   have o:=uH hq
   omega
 |n+1=>by
  have fB:=pB T cR vV jM n
  refine Ok.ofV T.qF gH (fun vs H Q E h=>?_) (fun f cdv A outer s H vs Q E hr h=>?_)
  ·obtain ⟨d,tb,v,hs,tabs,q0,rs,rfl,_⟩:=h;rfl
  obtain ⟨d,tb,v,hs,tabs,q0,rs,rfl,hds,htb,hq,hz,h20,hh,q⟩:=h
  have hu:=aFq hr
  refine ⟨_,(aC (bL (aW cB (aM aV (vv 2) aD (fun _ _=>rfl)) aQ (aY _)) (aG (aJ (aB0 hu (vv 1) (aM aV (vv 2) aD (fun _ _=>rfl)) (fun _ _=>rfl)))) aX) (aC (bA (i:=3) gH.nd rfl (by trivial) (aL (cR.mono (by omega)) hr (by rfl) (aB (vv 2) aA))) (aC (mJ (i0:=4) gH.nd rfl (by trivial) (N:=["part","heads","tables"]) (by trivial) (cF (aF eV) rfl (by decide +kernel)) rfl (dY (vv 3)) (fun cl s' H' fp=>⟨(aO (i:=0) (show (["part","heads","tables"]:List Str).Nodup from by decide +kernel) rfl (Or.inl rfl)),bW,(aL (fB.mono (by omega)) hr (by rfl) (aB (vv 1) (aB (vv 2) (aB (vv 0) aA))))⟩)) (aG (aJ (aL (vV.mono (by omega)) hr (by rfl) (aB (vv 2) (aB (bY (N:=["part","heads"]) (by trivial) (cF (aF eV) rfl (by decide +kernel)) rfl (dY (vv 3)) (fun cl s' H' fp=>⟨(aO (i:=0) (show (["part","heads"]:List Str).Nodup from by decide +kernel) rfl (Or.inl rfl)),bW,(aL (jM.mono (by omega)) hr (by rfl) (aB (vv 1) (aB (vv 0) aA)))⟩)) (aB (vv 4) aA))))))))),?_⟩
  cases hh with
  |table ht=>
   cases hq with
   |table a b=>
    obtain ⟨kvs,hk,hv⟩:=htb
    obtain ⟨v1,v2⟩:=hv _ _ _ ht
    have g:=aRc hk v1
    exact ⟨_,rfl,_,_,0,_,rfl,rfl,a,at0 _ _,rfl,_,rfl,cV ⟨_,rfl,_,rfl,_,_,1,_,rfl,rfl,a,at1 _ _ _,tb,_,rfl,g,q _ H (.inr ⟨_,_,ht⟩) (Same.refl H) v2⟩⟩
  |@one _ k1 h1 r1 _ hk hh1 hr1 hf hrh=>
   obtain ⟨a,z,zs,rfl,ha,hne⟩:=aRr hrh hq
   refine ⟨_,rfl,_,_,0,_,rfl,rfl,ha,at0 _ _,rfl,_,rfl,aKu hne ?_⟩
   refine ⟨_,rfl,_,q0,H,rfl,Same.refl H,hq,fun Dk H1 us fD s1 gD hus=>?_⟩
   rw [hk] at hus
   cases hus with
   |cons hu0 t0=>
   cases t0
   have kz:=aG8 (by rw [hk];exact List.mem_cons_self) hq
   dsimp only [bZ,mL,mX]
   refine lG [none,some (.ref d),some (.ref tb)] (sY 0 1 (by decide +kernel) (by decide +kernel) rfl rfl rfl rfl (by trivial) (by trivial)) ⟨_,rfl,Dk,rfl,⟨_,SqL.of gD⟩,aBj gD fun D R hD r=>?_⟩
   have s2:Same H1 (L2.upd H1 D (.lst [])):=bG hD _
   refine ⟨_,rfl,_,rfl,_,rfl,d,tb,_,hs,tabs,_,_,rfl,hds.same (s1.trans s2),htb.same (s1.trans s2),hu0.same (s1.trans s2),by omega,by omega,hr1,fun D' H5 fr s5 hrs=>r _ H5 s5 ?_⟩
   have hDD:D'≠D:=by
    rcases fr with fr|⟨n',rs',e⟩
    ·rintro rfl
     rw [aH] at fr
     cases fr
    ·obtain ⟨kvs,_,hv⟩:=htb.same s1
     obtain ⟨us',g',_⟩:=(hv _ _ _ e).2
     exact aZ g' hD
   have s6:Same H1 (L2.upd H5 D (.lst [.ref D'])):=gO hD (s2.trans s5)
   have hrs6:bV K (L2.upd H5 D (.lst [.ref D'])) D' r1:=by
    obtain ⟨us',g',hg⟩:=hrs
    exact ⟨us',by rw [aU hDD];exact g',hg.imp fun _ _ ⟨p,ep,hp⟩=>⟨p,ep,SqT.wH (s5 _ _ aH) hp⟩⟩
   have gDD:L2.upd H5 D (.lst [.ref D']) D=some (.lst [.ref D']):=aH
   generalize L2.upd H5 D (.lst [.ref D'])=H6 at s6 hrs6 gDD ⊢
   refine ⟨_,rfl,?_⟩
   dsimp only [dH]
   refine lG [none,some (.ref d)] (dF 0 (by decide +kernel) rfl rfl (by trivial)) ⟨_,rfl,Dk,rfl,⟨_,SqL.of (s6 _ _ gD)⟩,aBj (s6 _ _ gD) fun D2 R2 hD2 r2=>?_⟩
   have s7:Same H6 (L2.upd H6 D2 (.lst [])):=bG hD2 _
   have sA:=s1.trans (s6.trans s7)
   refine ⟨_,rfl,_,rfl,d,_,hs,k1,h1,rfl,hds.same sA,hu0.same sA,by omega,hh1,fun v' H7 s8 hI=>r2 _ H7 s8 ?_⟩
   have s9:Same H6 (L2.upd H7 D2 (.lst [v'])):=gO hD2 (s7.trans s8)
   have hI9:cX K (L2.upd H7 D2 (.lst [v'])) v' h1:=by
    obtain ⟨b,vs',rfl,hb,hv⟩:=hI
    exact ⟨b,vs',rfl,SqT.wH (s8 _ _ aH) hb,hv.imp fun _ _ ⟨p,ep,hp⟩=>⟨p,ep,SqT.wH (s8 _ _ aH) hp⟩⟩
   have g9:L2.upd H7 D2 (.lst [v']) D2=some (.lst [v']):=aH
   generalize L2.upd H7 D2 (.lst [v'])=H9 at s9 hI9 g9 ⊢
   have s0:=s1.trans (s6.trans s9)
   have gd:=hh1.good
   refine ⟨_,rfl,_,D2,D,[v'],[.ref D'],q0,[h1],[r1],rs,rfl,hq.same s0,SqL.of g9,.cons hI9 .nil,fun h hm=>?_,SqL.of (s9 _ _ gDD),.cons ⟨D',rfl,hrs6.same s9⟩ .nil,.cons hf .nil,hrh,fun D3 H3 fr3 s3 h3=>q D3 H3 ?_ (s0.trans s3) h3⟩
   ·cases hm with
    |head=>have:=gd.2.2;omega
    |tail _ z=>cases z
   ·rcases fr3 with z|z
    ·exact .inl (none_of s0 z)
    ·cases z with
     |head=>
      rcases fr with fr|fr
      ·exact .inl (none_of (s1.trans s2) fr)
      ·exact .inr fr
     |tail _ z=>cases z
theorem jP {α β:Type} {R:α→β→Prop} {as:List α} {bs:List β} (h:bQ R as bs):Al2 R as bs:=by
 induction h with
 |nil=>exact .nil
 |cons r _ ih=>exact .cons r ih
theorem lK {α β:Type} {R:α→β→Prop} {as:List α} {bs:List β} (h:Al2 R as bs):bQ R as bs:=by
 induction h with
 |nil=>exact .nil
 |cons r _ ih=>exact .cons r ih
theorem aS4 {K:PySem.W.Frag} {H:Hp} {v:V} {q:Qn} {hs:Str→Option Hdr} {tabs:Str→Option (Addr × List (List V))} {rs:List (List V)} (h:RQ hs tabs q rs) (hq:IsQ K H v q):∃a s xs,v=.ref a∧SqT K H a (.str s::xs)∧decide (V.str s=V.str "first")=false:=by
 cases h with
 |table _=>cases hq;exact ⟨_,"table",_,rfl,by assumption,by decide +kernel⟩
 |one _ _ _ _ h=>
  cases h <;> cases hq
  ·exact ⟨_,"where",_,rfl,by assumption,by decide +kernel⟩
  ·exact ⟨_,"keep",_,rfl,by assumption,by decide +kernel⟩
  ·exact ⟨_,"named",_,rfl,by assumption,by decide +kernel⟩
def aNv (K:PySem.W.Frag):Sp:=fun vs H Q _=>∃vh D t rs ks,vs=[vh,.ref D,.ref t]∧SqT K H t []∧bV K H D rs∧rs.length≤63∧ks≠[]∧(∀r∈rs,KdR ks r)∧∀D' H',H D'=none→Same H H'→bV K H' D' (srt rs)→Q (.ref D') H'
theorem aJj (T:Txt w K mg) (iH:Ok P w K mg base 2 "place_of" ["head","name"] (jU K)):Ok P w K mg base 3 "ordered" ["head","rows","keys"] (aNv K):=by
 have aFz:=aBr (P:=P) (base:=base) T
 refine Ok.ofV T.aLq mU (fun vs H Q E h=>?_) (fun f cdv A outer s H vs Q E hr h=>?_)
 ·obtain ⟨vh,D,t,rs,ks,rfl,_⟩:=h;rfl
 obtain ⟨vh,D,t,rs,ks,rfl,ht,⟨us,hD,hu⟩,h63,hne,hk,q⟩:=h
 refine ⟨_,(aC (bA (i:=3) mU.nd rfl (by trivial) (aN iB (by rfl) T.lM jK (aB (vv 1) aA))) (aC (iW PassesOwn.never rfl (aSl (by rfl) T.aJh (aB (vv 2) aA)) (aO (i:=4) mU.nd rfl (by trivial)) (aG (bA (i:=3) mU.nd rfl (by trivial) (aL (aFz.mono (by decide)) hr (by rfl) (aB (vv 3) (aB (aL (iH.mono (by decide)) hr (by rfl) (aB (vv 0) (aB (aM aV (vv 4) aD (fun _ _=>rfl)) aA))) (aB (aM aV (vv 4) aD (fun _ _=>rfl)) aA))))))) (aG (aJ (vv 3))))),?_⟩
 have lu:=hu.len
 refine ⟨_,rfl,D,us,rs,ks,rfl,SqL.of hD,jP hu,by omega,hne,hk,fun D' H' us' hN sm hD' hu'=>?_⟩
 refine ⟨_,rfl,t,[],rfl,sm.aP ht,?_⟩
 refine aPj (xs:=[]) (fun i σ H2=>H2=H'∧σ[3]?=some (some (.ref D'))) ⟨rfl,rfl⟩ (fun i σ H2 _ p=>by rw [p.1];exact sm.aP ht) (fun i x σ H2 hi=>absurd hi (Nat.not_lt_zero _)) fun σ H2 ⟨e1,e2⟩=>?_
 subst e1
 exact ⟨_,e2,q D' _ hN sm ⟨us',hD',(lK hu').imp fun _ _ r=>r.same sm⟩⟩
def aQj (K:PySem.W.Frag):Sp:=fun vs H Q _=>∃vh D v rs ks a z zs,vs=[vh,.ref D,v]∧v=.ref a∧SqT K H a (.str z::zs)∧decide (V.str z=V.str "first")=false∧bV K H D rs∧rs.length≤63∧ks≠[]∧(∀r∈rs,KdR ks r)∧∀D' H',H D'=none→Same H H'→bV K H' D' (srt rs)→Q (.ref D') H'
theorem rO (T:Txt w K mg) (aLn:Ok P w K mg base 3 "ordered" ["head","rows","keys"] (aNv K)):Ok P w K mg base 4 "in_answer_order" ["head","rows","question"] (aQj K):=by
 refine Ok.ofV T.tV qP (fun vs H Q E h=>?_) (fun f cdv A outer s H vs Q E hr h=>?_)
 ·obtain ⟨vh,D,v,rs,ks,a,z,zs,rfl,_⟩:=h;rfl
 obtain ⟨vh,D,v,rs,ks,a,z,zs,rfl,rfl,ha,hz,hD,h63,hne,hk,q⟩:=h
 refine ⟨_,(aG (aJ (aL (aLn.mono (by decide)) hr (by rfl) (aB (vv 0) (aB (vv 1) (aB (fQ (aW cB (aM aV (vv 2) aD (fun _ _=>rfl)) aQ (aY _)) (aM aV (vv 2) aD (fun _ _=>rfl)) (aUh aA)) aA)))))),?_⟩
 refine ⟨_,rfl,_,rfl,_,rfl,_,_,0,_,rfl,rfl,ha,at0 _ _,rfl,_,rfl,aKu hz ?_⟩
 refine ⟨Nat.zero_le _,fun t hN0=>?_⟩
 have s1:Same H (L2.upd H t (.tup [])):=bG hN0 _
 exact ⟨vh,D,t,rs,ks,rfl,SqT.of aH,hD.same s1,h63,hne,hk,fun D' H' hN s2 h2=>q D' H' (none_of s1 hN) (s1.trans s2) h2⟩
def vM (K:PySem.W.Frag):Sp:=fun vs H Q _=>∃d tb v hs tabs q hd rs,vs=[.ref d,.ref tb,v]∧jB K H d hs∧TabsAt K H tb tabs∧IsQ K H v q∧size q≤20∧HQ hs q hd∧RQ hs tabs q rs∧Fit hd rs∧∀D' H',H D'=none→Same H H'→bV K H' D' (srt rs)→Q (.ref D') H'
theorem pX {hd:Hdr} (h:Good hd):knds hd≠[]:=fun z=>by
 have:=congrArg List.length z
 unfold knds at this
 rw [List.length_map] at this
 have h1:=h.2.1
 rw [this] at h1
 exact absurd h1 (by decide)
theorem aH3 (T:Txt w K mg) (jM:Ok P w K mg base 27 "head_of" ["heads","question"] (aFl K)) (fB:Ok P w K mg base 48 "rows_within" ["heads","tables","question"] (aOa K 20)):Ok P w K mg base 49 "rows_of" ["heads","tables","question"] (vM K):=by
 refine Ok.ofV T.aMf aHs (fun vs H Q E h=>?_) (fun f cdv A outer s H vs Q E hr h=>?_)
 ·obtain ⟨d,tb,v,hs,tabs,q0,hd,rs,rfl,_⟩:=h;rfl
 obtain ⟨d,tb,v,hs,tabs,q0,hd,rs,rfl,hds,htb,hq,hz,hh,hr1,hf,q⟩:=h
 refine ⟨_,(aC (dD (aL (jM.mono (by decide)) hr (by rfl) (aB (vv 0) (aB (vv 2) aA)))) (aG (aJ (aN iB (by rfl) T.lM jK (aB (aL (fB.mono (by decide)) hr (by rfl) (aB (vv 0) (aB (vv 1) (aB (vv 2) aA)))) aA))))),?_⟩
 refine ⟨_,rfl,_,rfl,d,v,hs,q0,hd,rfl,hds,hq,hz,hh,fun v' H1 s1 _=>?_⟩
 refine ⟨_,rfl,_,rfl,_,rfl,d,tb,v,hs,tabs,q0,rs,rfl,hds.same s1,htb.same s1,hq.same s1,hz,hz,hr1,fun D H2 _ s2 ⟨us,hD,hu⟩=>?_⟩
 have lu:=hu.len
 refine ⟨D,us,rs,knds hd,rfl,SqL.of hD,jP hu,by have:=hf.1;omega,pX hh.good,hf.2,fun D' H3 us' hN s3 hD' hu'=>?_⟩
 exact q D' H3 (none_of (s1.trans s2) hN) (s1.trans (s2.trans s3)) ⟨us',hD',(lK hu').imp fun _ _ r=>r.same s3⟩
theorem aQk (T:Txt w K mg) (jM:Ok P w K mg base 27 "head_of" ["heads","question"] (aFl K)) (fB:Ok P w K mg base 48 "rows_within" ["heads","tables","question"] (aOa K 20)) (tD:Ok P w K mg base 4 "in_answer_order" ["head","rows","question"] (aQj K)):Ok P w K mg base 49 "whole" ["heads","tables","question"] (vM K):=by
 refine Ok.ofV T.aSs aGw (fun vs H Q E h=>?_) (fun f cdv A outer s H vs Q E hr h=>?_)
 ·obtain ⟨d,tb,v,hs,tabs,q0,hd,rs,rfl,_⟩:=h;rfl
 obtain ⟨d,tb,v,hs,tabs,q0,hd,rs,rfl,hds,htb,hq,hz,hh,hr1,hf,q⟩:=h
 refine ⟨_,(aC (bA (i:=3) aGw.nd rfl (by trivial) (aL (jM.mono (by decide)) hr (by rfl) (aB (vv 0) (aB (vv 2) aA)))) (aG (aJ (aL (tD.mono (by decide)) hr (by rfl) (aB (vv 3) (aB (aL (fB.mono (by decide)) hr (by rfl) (aB (vv 0) (aB (vv 1) (aB (vv 2) aA)))) (aB (vv 2) aA))))))),?_⟩
 refine ⟨_,rfl,_,rfl,d,v,hs,q0,hd,rfl,hds,hq,hz,hh,fun v' H1 s1 _=>?_⟩
 refine ⟨_,rfl,_,rfl,_,rfl,_,rfl,d,tb,v,hs,tabs,q0,rs,rfl,hds.same s1,htb.same s1,hq.same s1,hz,hz,hr1,fun D H2 _ s2 hD=>?_⟩
 obtain ⟨a,z,zs,rfl,ha,hne⟩:=aS4 hr1 hq
 exact ⟨_,rfl,v',D,_,rs,knds hd,a,z,zs,rfl,rfl,(s1.trans s2).aP ha,hne,hD,hf.1,pX hh.good,hf.2,fun D' H3 hN s3 h3=>q D' H3 (none_of (s1.trans s2) hN) (s1.trans (s2.trans s3)) h3⟩
theorem aXj {kd:Str} {v:V} (h:qZ kd v):KdV (aGk kd) v:=by
 cases h with
 |num=>exact ⟨_,rfl⟩
 |wrd _ _=>exact ⟨_,rfl⟩
def aKw (K:PySem.W.Frag):Sp:=fun vs H Q _=>∃(a:Addr) (vh:V) (hd:Hdr),vs=[.ref a,vh]∧jW H a∧cX K H vh hd∧aU8 hd∧∀t H' r,Fx a H H'→H' t=some (.tup r)→KdR (knds hd) r→Q (.ref t) H'
theorem aAz {α β:Type} {R:α→β→Prop} {as:List α} {bs:List β} (hl:as.length=bs.length) (h:∀(i:Nat) (a:α) (b:β),as[i]?=some a→bs[i]?=some b→R a b):Al2 R as bs:=jP (gY hl h)
theorem aGv (T:Txt w K mg) (mC:Ok P w K mg base 3 "_law_value" ["_law_state","_law_kind"] aBt):Ok P w K mg base 4 "_law_row" ["_law_state","_law_head_here"] (aKw K):=by
 refine Ok.ofV T.aI7 aE0 (fun vs H Q E h=>?_) (fun f cdv A outer s H vs Q E hr h=>?_)
 ·obtain ⟨a,vh,hd,rfl,_⟩:=h;rfl
 obtain ⟨a,vh,hd,rfl,hs,⟨b,us,rfl,hb,hu⟩,⟨hgd,hok⟩,q⟩:=h
 refine ⟨_,(aG (aJ (bT cG (by rfl) T.cL cC (aB (bY (N:=["_law_name","_law_kind","_law_state"]) (by trivial) (cF (aF mV) rfl (by decide +kernel)) rfl (eE (vv 1)) (fun cl s' H' fp=>⟨(nD (K:=K) (n:=2) rfl (bK (aO (i:=0) (show (["_law_name","_law_kind","_law_state"]:List Str).Nodup from by decide +kernel) rfl (Or.inl rfl)) (bK (aO (i:=1) (show (["_law_name","_law_kind","_law_state"]:List Str).Nodup from by decide +kernel) rfl (Or.inl rfl)) fH))),bW,(aL (mC.mono (by decide)) hr (by rfl) (aB (vv 2) (aB (vv 1) aA)))⟩)) aA)))),?_⟩
 have lu:=hu.len
 have l8:=hgd.2.2
 dsimp only [xU,tCB,dH]
 refine tW [none,none,some (.ref a)] ?_ ⟨_,rfl,b,rfl,⟨_,hb⟩,qD (Fx a) (aQo hs) us (fun _=>true) (fun i _ y=>∃c',hd[i]?=some c'∧qZ c'.2 y) (fun _ _ h=>h) (fun _ _ _ h=>h) (fun i σ=>∃c',hd[i]?=some c'∧At2 [none,none,some (.ref a)] (.str c'.1) (.str c'.2) σ) (Ps2 [none,none,some (.ref a)]) ⟨none,none,rfl⟩ (small (by omega)) _ (yJ fun H' f'=>f'.aP hs hb) (pH fun H' f'=>f'.aP hs hb) (fun i x σ' H' Q' ex hps f' qq=>?_) (fun i x σ2 ex hA H' R f' r=>r H' (Fx.refl f'.st)) (fun i x σ2 ex hA hp H' R f' r=>?_) fun D H6 ys f6 fD g6 hys=>?_⟩
 ·refine ⟨rfl,fun i y v h1 h2=>?_⟩
  match i,h1,h2 with
  |0,_,h2=>cases h2
  |1,_,h2=>cases h2
  |2,h1,h2=>cases h1;cases h2;exact ⟨by decide +kernel,0,rfl,rfl,by trivial⟩
  |i+3,h1,_=>cases h1
 ·obtain ⟨c',hc',p',rfl,hp'⟩:=bI hu ex
  exact hg2 (f'.aP hs hp') hps fun σ2 h1 h2=>qq σ2 h1 ⟨c',hc',h2⟩
 ·obtain ⟨c',hc',rfl⟩:=hA
  exact ⟨_,rfl,_,rfl,a,c'.2,rfl,f'.st,(hok c' (List.mem_of_getElem? hc')).2,fun v H2 f2 hv=>r v H2 f2 ⟨c',hc',hv⟩⟩
 ·rw [eY] at hys
  obtain ⟨l1,l2⟩:=dM hys
  refine ⟨D,_,rfl,SqL.of g6,fun t H3 _ s3 g3=>q t H3 ys (f6.sm s3) g3 (aAz (by unfold knds;rw [List.length_map];omega) fun i k y ek ey=>?_)⟩
  obtain ⟨c',hc',hv⟩:=l2 i y ey
  unfold knds at ek
  rw [List.getElem?_map,hc'] at ek
  cases ek
  exact aXj hv
theorem aHy (T:Txt w K mg):Ok P w K mg base 1 "_law_at" ["_law_head_here","_law_name"] (jU K):=by
 refine Ok.ofV T.aLj aIe (fun vs H Q E h=>?_) (fun f cdv A outer s H vs Q E hr h=>?_)
 ·obtain ⟨vh,n,hd,k,rfl,_⟩:=h;rfl
 obtain ⟨vh,n,hd,k,rfl,⟨b,us,rfl,hb,hu⟩,hl,hk,q⟩:=h
 obtain ⟨h1,h2⟩:=lA hk
 refine ⟨_,(aG (aJ (vR PySem.F.plainAttrs_list PySem.F.slot_list_index PySem.F.type_list_index aA9 (bY (N:=["_law_column","_law_kind"]) (by trivial) (eZ (by decide +kernel)) rfl (eE (vv 0)) (fun cl s' H' fp=>⟨(nD (K:=K) (n:=2) rfl (bK (aO (i:=0) (show (["_law_column","_law_kind"]:List Str).Nodup from by decide +kernel) rfl (Or.inl rfl)) (bK (aO (i:=1) (show (["_law_column","_law_kind"]:List Str).Nodup from by decide +kernel) rfl (Or.inl rfl)) fH))),bW,(vv 0)⟩)) (aB (vv 1) aA)))),?_⟩
 have lu:=hu.len
 dsimp only [xU,tBM]
 refine tW [none,none] pR ⟨_,rfl,b,rfl,⟨_,hb⟩,qD Same (jY H) us (fun _=>true) (fun i _ y=>∃c',hd[i]?=some c'∧y=.str c'.1) (fun _ _ h=>h) (fun _ _ _ h=>h) (fun i σ=>∃c',hd[i]?=some c'∧At2 [none,none] (.str c'.1) (.str c'.2) σ) (Ps2 [none,none]) ⟨none,none,rfl⟩ (small (by omega)) _ (yJ fun H' s'=>s'.aP hb) (pH fun H' s'=>s'.aP hb) (fun i x σ' H' Q' ex hps s' qq=>?_) (fun i x σ2 ex hA H' R s' r=>r H' (Same.refl _)) (fun i x σ2 ex hA hp H' R s' r=>?_) fun D H6 ys s6 fD g6 hys=>?_⟩
 ·obtain ⟨c',hc',p',rfl,hp'⟩:=bI hu ex
  exact hg2 (s'.aP hp') hps fun σ2 h1 h2=>qq σ2 h1 ⟨c',hc',h2⟩
 ·obtain ⟨c',hc',rfl⟩:=hA
  exact ⟨_,rfl,r _ _ (Same.refl H') ⟨c',hc',rfl⟩⟩
 ·rw [eY] at hys
  obtain ⟨l1,l2⟩:=dM hys
  have ey:ys=(hd.map (·.1)).map V.str:=List.ext_getElem? fun i=>by
   cases ez:ys[i]? with
   |some z=>
    obtain ⟨c',hc',rfl⟩:=l2 i z ez
    rw [List.getElem?_map,List.getElem?_map,hc'];rfl
   |none=>
    have:=List.getElem?_eq_none_iff.mp ez
    exact (List.getElem?_eq_none (by rw [List.length_map,List.length_map];omega)).symm
  subst ey
  refine ⟨.inl ⟨rfl,_,SqL.of g6⟩,_,rfl,D,hd.map (·.1),n,plc hd n,rfl,rfl,SqL.of g6,by rw [List.length_map];exact hl,by rw [List.getElem?_map,h1];rfl,fun j m hj hm=>?_,q H6 s6⟩
  rw [List.getElem?_map] at hm
  obtain ⟨c,hc,rfl⟩:=Option.map_eq_some_iff.mp hm
  exact h2 j c hj hc
theorem zV (T:Txt w K mg) (pN:Ok P w K mg base 1 "_law_at" ["_law_head_here","_law_name"] (jU K)):Ok P w K mg base 2 "_law_holds" ["_law_head_here","_law_row_here","_law_test"] (sW K):=by
 refine Ok.ofV T.aCf cZ (fun vs H Q E h=>?_) (fun f cdv A outer s H vs Q E hr h=>?_)
 ·obtain ⟨vh,vr,vt,hd,r,t,rfl,_⟩:=h;rfl
 obtain ⟨vh,vr,vt,hd,r,⟨tc,sg,to⟩,rfl,hI,hl,⟨a,rfl,ha⟩,hk,⟨p,wo,rfl,hp,hn,hs,ho⟩,⟨k,tk1,tk2⟩,q⟩:=h
 have hs:aRd sg:=hs
 have hp:SqT K H p [.str tc,.str sg,wo]:=hp
 have tk1:look hd tc=some k:=tk1
 have q:∀H',Same H H'→Q (.bl (aV0 sg (r.getD (plc hd tc) .non) (aVp hd r to))) H':=q
 refine ⟨_,(aC (aDp (vv 2) (uU rfl (bK (aO (i:=3) cZ.nd rfl (by trivial)) (bK (aO (i:=4) cZ.nd rfl (by trivial)) (bK (aO (i:=5) cZ.nd rfl (by trivial)) fH))))) (aC (bA (i:=6) cZ.nd rfl (by trivial) (aM aV (vv 1) (aL (pN.mono (by decide)) hr (by rfl) (aB (vv 0) (aB (vv 3) aA))) (fun _ _=>rfl))) (aC (bA (i:=7) cZ.nd rfl (by trivial) (aM aV (vv 5) aD (fun _ _=>rfl))) (aC (bL (aW cB (aM aV (vv 5) aD (fun _ _=>rfl)) aQ (aY _)) (aG (bA (i:=7) cZ.nd rfl (by trivial) (aM aV (vv 1) (aL (pN.mono (by decide)) hr (by rfl) (aB (vv 0) (aB (vv 7) aA))) (fun _ _=>rfl)))) aX) (aG (aJ (aM bD (dR (aB (dC cB (vv 6) (vv 7) (aY _)) (aB (dC aOi (vv 6) (vv 7) (aY _)) (aB (dC aPs (vv 6) (vv 7) (aY _)) (aB (dC qG (vv 6) (vv 7) (aY _)) aA))))) (vR PySem.F.plainAttrs_str PySem.F.slot_str_index PySem.F.type_str_index aM1 aQ (aB (vv 4) aA)) (fun _ _=>rfl)))))))),?_⟩
 obtain ⟨c1,c2⟩:=lA tk1
 obtain ⟨l1,k1⟩:=yW hk c1
 have e1:r.getD (plc hd tc) .non=r[plc hd tc]:=by simp [l1]
 have at1':atI r ((plc hd tc:Nat):Int)=some (r.getD (plc hd tc) .non):=by rw [e1];exact dO (List.getElem?_eq_getElem l1)
 refine ⟨_,rfl,p,_,rfl,hp,rfl,_,_,rfl,_,_,rfl,_,_,rfl,rfl,?_⟩
 refine ⟨_,rfl,_,rfl,_,rfl,vh,tc,hd,k,rfl,hI,hl,tk1,fun H1 s1=>?_⟩
 refine ⟨a,r,_,_,rfl,rfl,s1.aP ha,at1',?_⟩
 cases to with
 |val x=>
  obtain ⟨b,rfl,hb,hx,hv⟩:=ho
  have al:Alike (r.getD (plc hd tc) .non) x:=by
   have:=aN9 hx hv
   have e:kindS x=k:=Option.some.inj tk2
   rw [e] at this
   exact uC k1 this
  refine ⟨_,rfl,b,_,1,_,rfl,rfl,s1.aP hb,at1 _ _ _,_,rfl,b,_,0,_,rfl,rfl,s1.aP hb,at0 _ _,rfl,_,rfl,bF ?_⟩
  refine ⟨_,rfl,_,rfl,al.scal,_,rfl,_,rfl,al.lt ⟨_,rfl,_,rfl,al.gt ⟨_,rfl,_,rfl,al.scal,by show 4≤sizeLine;exact small (by decide),fun p0 H3 hN0 s3 g9=>?_⟩⟩⟩
  have s9:=(s1).trans s3
  rcases hs with rfl|rfl|rfl|rfl
  ·exact ⟨rfl,_,rfl,"=<>!","=",0,[],rfl,rfl,by decide +kernel,p0,_,0,_,rfl,rfl,SqL.of g9,at0 _ _,q _ s9⟩
  ·exact ⟨rfl,_,rfl,"=<>!","<",1,[],rfl,rfl,by decide +kernel,p0,_,1,_,rfl,rfl,SqL.of g9,at1 _ _ _,q _ s9⟩
  ·exact ⟨rfl,_,rfl,"=<>!",">",2,[],rfl,rfl,by decide +kernel,p0,_,2,_,rfl,rfl,SqL.of g9,at2 _ _ _ _,q _ s9⟩
  ·exact ⟨rfl,_,rfl,"=<>!","!",3,[],rfl,rfl,by decide +kernel,p0,_,3,_,rfl,rfl,SqL.of g9,rfl,q _ s9⟩
 |col dd=>
  obtain ⟨b,rfl,hb,hnd⟩:=ho
  have tk2:look hd dd=some k:=tk2
  obtain ⟨d1,d2⟩:=lA tk2
  obtain ⟨l2,k2⟩:=yW hk d1
  have e2:r.getD (plc hd dd) .non=r[plc hd dd]:=by simp [l2]
  have at2':atI r ((plc hd dd:Nat):Int)=some (r.getD (plc hd dd) .non):=by rw [e2];exact dO (List.getElem?_eq_getElem l2)
  have al:Alike (r.getD (plc hd tc) .non) (r.getD (plc hd dd) .non):=uC k1 k2
  refine ⟨_,rfl,b,_,1,_,rfl,rfl,s1.aP hb,at1 _ _ _,_,rfl,b,_,0,_,rfl,rfl,s1.aP hb,at0 _ _,rfl,_,rfl,cV ?_⟩
  refine ⟨_,rfl,_,rfl,_,rfl,vh,dd,hd,k,rfl,hI.same s1,hl,tk2,fun H2 s2=>?_⟩
  refine ⟨a,r,_,_,rfl,rfl,(s1.trans s2).aP ha,at2',?_⟩
  refine ⟨_,rfl,_,rfl,al.scal,_,rfl,_,rfl,al.lt ⟨_,rfl,_,rfl,al.gt ⟨_,rfl,_,rfl,al.scal,by show 4≤sizeLine;exact small (by decide),fun p0 H3 hN0 s3 g9=>?_⟩⟩⟩
  have s9:=(s1.trans s2).trans s3
  rcases hs with rfl|rfl|rfl|rfl
  ·exact ⟨rfl,_,rfl,"=<>!","=",0,[],rfl,rfl,by decide +kernel,p0,_,0,_,rfl,rfl,SqL.of g9,at0 _ _,q _ s9⟩
  ·exact ⟨rfl,_,rfl,"=<>!","<",1,[],rfl,rfl,by decide +kernel,p0,_,1,_,rfl,rfl,SqL.of g9,at1 _ _ _,q _ s9⟩
  ·exact ⟨rfl,_,rfl,"=<>!",">",2,[],rfl,rfl,by decide +kernel,p0,_,2,_,rfl,rfl,SqL.of g9,at2 _ _ _ _,q _ s9⟩
  ·exact ⟨rfl,_,rfl,"=<>!","!",3,[],rfl,rfl,by decide +kernel,p0,_,3,_,rfl,rfl,SqL.of g9,rfl,q _ s9⟩
theorem aKi {ks:List Bool} {r:List V} (h:KdR ks r):∀x∈r,(∃i,x=.int i)∨∃z,x=.str z:=by
 unfold KdR at h
 induction h with
 |nil=>intro x hx;cases hx
 |@cons b y _ _ hy _ ih=>
  intro x hx
  rcases List.mem_cons.mp hx with rfl|hx
  ·cases b with
   |true=>exact .inl hy
   |false=>exact .inr hy
  ·exact ih x hx
theorem aF7 {K:PySem.W.Frag} {H:Hp}:∀{r:List V},(∀x∈r,(∃i,x=.int i)∨∃z,x=.str z)→Al2 (DEq K H 40) r r
 |[],_=>.nil
 |x::r,h=>.cons (.inl ⟨by rcases h x List.mem_cons_self with ⟨i,rfl⟩|⟨z,rfl⟩ <;> rfl,rfl⟩) (aF7 fun y hy=>h y (List.mem_cons_of_mem _ hy))
def aKd (K:PySem.W.Frag):Sp:=fun vs H Q _=>∃D C rs ks,vs=[.ref D,.ref C]∧bV K H D rs∧bV K H C rs∧rs.length≤63∧(ks.length≤1000∧∀r∈rs,KdR ks r)∧∀H',Same H H'→Q (.bl true) H'
theorem kd_len {ks:List Bool} {r:List V} (h:KdR ks r):ks.length=r.length:=by
 unfold KdR at h
 induction h with
 |nil=>rfl
 |cons _ _ ih=>rw [List.length_cons,List.length_cons,ih]
theorem aCe (T:Txt w K mg):Ok P w K mg base 1 "_law_same" ["_law_found","_law_due"] (aKd K):=by
 refine Ok.ofV T.aHi uK (fun vs H Q E h=>?_) (fun f cdv A outer s H vs Q E hr h=>?_)
 ·obtain ⟨D,C,rs,ks,rfl,_⟩:=h;rfl
 obtain ⟨D,C,rs,ks,rfl,⟨us,hD,hu⟩,⟨ws,hC,hw⟩,h63,⟨hkl,hk⟩,q⟩:=h
 have hU:=hr.units
 refine ⟨_,(aC (bL (VW.pt (nU (dI (cM (aN aMg (by rfl) T.bN bJ (aB (vv 0) (aB (dN (v:=.ty "list") (by rfl) T.aDg wU rfl) aA))))) (jV (aW qG (aN bC (by rfl) T.dU cI (aB (vv 0) aA)) (aN bC (by rfl) T.dU cI (aB (vv 1) aA)) (aY _))))) (aG (aJ gW)) aX) (aC (iW PassesOwn.never rfl (eN (by rfl) T.jC (aB (aN bC (by rfl) T.dU cI (aB (vv 1) aA)) aA)) (aO (i:=2) uK.nd rfl (by trivial)) (aC (bL (VW.pt (nU (dI (cM (aN iD (by rfl) T.bN bJ (aB (aM bD (vv 0) (vv 2) (fun _ _=>rfl)) (aB (dN (v:=.ty "tuple") (by rfl) T.cL cC rfl) aA))))) (jV (aW (aUs hU) (aM bD (vv 0) (vv 2) (fun _ _=>rfl)) (aM bD (vv 1) (vv 2) (fun _ _=>rfl)) (aY _))))) (aG (aJ gW)) aX) (aG (bL (cM (aN (aFu rfl) (by rfl) T.aTt aP0 (aB (bY (N:=["_law_value_here"]) (by trivial) (eZ (by decide +kernel)) rfl (eE (aM bD (vv 0) (vv 2) (fun _ _=>rfl))) (fun cl s' H' fp=>⟨(aO (i:=0) (show (["_law_value_here"]:List Str).Nodup from by decide +kernel) rfl (Or.inl rfl)),bW,(aTz (aN oW (by rfl) T.bN bJ (aB (vv 0) (aB (dN (v:=.ty "bool") (by rfl) T.aP6 aJ8 rfl) aA))) (mY (aQb (aN (aIj (K:=K)) (by rfl) T.bN bJ (aB (vv 0) (aB (cU (aB (dN (v:=.ty "int") (by rfl) T.aOu aI6 rfl) (aB (dN (v:=.ty "str") (by rfl) T.aPy aIo rfl) aA))) aA))))))⟩)) aA))) (aG (aJ gW)) aX)))) (aG (aJ gW)))),?_⟩
 have lu:=hu.len
 have lw:=hw.len
 refine ⟨_,rfl,D,us,rfl,SqL.of hD,_,rfl,bF ⟨_,rfl,D,us,rfl,.inl (SqL.of hD),_,rfl,C,ws,rfl,.inl (SqL.of hC),rfl,_,rfl,aKu ?_ ?_⟩⟩
 ·rw [lu,lw];simp
 refine ⟨_,rfl,C,ws,rfl,.inl (SqL.of hC),_,rfl,by omega,by omega,iG (n:=ws.length) (fun i σ H'=>Same H H'∧∃l,σ=[some (.ref D),some (.ref C),l]) ⟨Same.refl H,_,rfl⟩ (fun i σ H1 hi p=>?_) fun σ H1 p=>?_⟩
 ·obtain ⟨s1,l,rfl⟩:=p
  obtain ⟨r,er,b,eb,hb⟩:=bI hw (List.getElem?_eq_getElem hi)
  have hi':i<us.length:=by omega
  obtain ⟨r',er',a,ea,ha⟩:=bI hu (List.getElem?_eq_getElem hi')
  rw [er] at er'
  cases er'
  have hkr:=hk r (List.mem_of_getElem? er)
  have lr:=kd_len hkr
  have au:atI us ((i:Nat):Int)=some (.ref a):=by rw [←ea];exact dO (List.getElem?_eq_getElem hi')
  have aw:atI ws ((i:Nat):Int)=some (.ref b):=by rw [←eb];exact dO (List.getElem?_eq_getElem hi)
  have e0:(0:Int)+(i:Nat)=((i:Nat):Int):=Int.zero_add _
  rw [e0]
  refine ⟨_,rfl,_,rfl,D,us,_,_,rfl,rfl,SqL.of (s1 _ _ hD),au,_,true,rfl,.tup (s1.aP ha),_,rfl,bF ?_⟩
  refine ⟨_,rfl,_,rfl,D,us,_,_,rfl,rfl,SqL.of (s1 _ _ hD),au,_,rfl,_,rfl,C,ws,_,_,rfl,rfl,SqL.of (s1 _ _ hC),aw,?_⟩
  refine ⟨a,b,r,r,rfl,rfl,s1.aP ha,s1.aP hb,aF7 (aKi hkr),_,rfl,bF ?_⟩
  dsimp only [wX,aRm,tB,tCB,dH]
  refine fG r (r.map fun _=>.bl false) (by rw [List.length_map]) [none] jL (small (by omega)) (fun R rr=>iV (s1.aP ha) (fun R' r'=>⟨_,rfl,_,rfl,D,us,_,_,rfl,rfl,SqL.of (s1 _ _ hD),au,r'⟩) R rr) (fun j x y ex ey H2 R l sm rr=>?_) rfl fun D2 H2 s2 g2=>?_
  ·rw [List.getElem?_map,ex] at ey
   cases ey
   have hx:=aKi hkr x (List.mem_of_getElem? ex)
   refine ⟨_,rfl,x,"bool",false,rfl,by rcases hx with ⟨i,rfl⟩|⟨z,rfl⟩ <;> rfl,_,rfl,bF ?_⟩
   exact ⟨_,rfl,by decide,fun t H3 hN s3 g3=>⟨x,t,rfl,SqT.of g3,hx,_,rfl,rr H3 s3⟩⟩
  ·refine ⟨D2,r.map fun _=>false,rfl,SqL.of (by rw [g2,List.map_map];rfl),_,rfl,aKu (by simp) ?_⟩
   exact ⟨s1.trans s2,_,rfl⟩
 ·obtain ⟨s1,l,rfl⟩:=p
  exact q H1 s1
def hs1 (n:Str) (hd:Hdr):Str→Option Hdr:=fun m=>if m=n then some hd else none
def tb1 (n:Str) (L:Addr) (rs:List (List V)):Str→Option (Addr × List (List V)):=fun m=>if m=n then some (L,rs) else none
theorem aQl {n:Str} {v:V}:pK [((Sum.inr n:Key),v)] (Sum.inr n)=some v:=by
 unfold pK
 rw [List.find?_cons,decide_eq_true (show ((Sum.inr n:Key),v).1=Sum.inr n from rfl)]
 rfl
theorem aQd {H:Hp} {d:Addr} {n:Str} {vh:V} {hd:Hdr} (h:H d=some (.dK [(Sum.inr n,vh)])) (hI:cX K H vh hd):jB K H d (hs1 n hd):=by
 refine ⟨_,h,fun m hd' e=>?_⟩
 unfold hs1 at e
 by_cases z:m=n
 ·subst z
  rw [if_pos rfl] at e
  cases e
  exact ⟨vh,aQl,hI⟩
 ·rw [if_neg z] at e;cases e
theorem aTb {H:Hp} {d L:Addr} {n:Str} {rs:List (List V)} (h:H d=some (.dK [(Sum.inr n,.ref L)])) (hI:bV K H L rs):TabsAt K H d (tb1 n L rs):=by
 refine ⟨_,h,fun m D rs' e=>?_⟩
 unfold tb1 at e
 by_cases z:m=n
 ·subst z
  rw [if_pos rfl] at e
  cases e
  exact ⟨aQl,hI⟩
 ·rw [if_neg z] at e;cases e
theorem RQ.to {hs:Str→Option Hdr} {n:Str} {L L':Addr} {rows:List (List V)} {q:Qn} {rs:List (List V)} (h:RQ hs (tb1 n L rows) q rs):RQ hs (tb1 n L' rows) q rs:=by
 induction h with
 |@table m D rs' e=>
  unfold tb1 at e
  by_cases z:m=n
  ·subst z
   rw [if_pos rfl] at e
   cases e
   exact .table (D:=L') (by unfold tb1;rw [if_pos rfl])
  ·rw [if_neg z] at e;cases e
 |one a b _ c d ih=>exact .one a b ih c d
def aF5 (K:PySem.W.Frag):Sp:=fun vs H Q _=>∃(d tb C L:Addr) (v vh:V) (n:Str) (hd hd':Hdr) (rows rs:List (List V)) (q:Qn),vs=[.ref d,.ref tb,v,.ref C]∧H d=some (.dK [(Sum.inr n,vh)])∧cX K H vh hd∧H tb=some (.dK [(Sum.inr n,.ref L)])∧bV K H L rows ∧
 IsQ K H v q∧size q≤20∧HQ (hs1 n hd) q hd'∧RQ (hs1 n hd) (tb1 n L rows) q rs∧Fit hd' rs∧bV K H C (srt rs)∧rows.length≤63∧∀H',Same H H'→Q (.bl true) H'
theorem aSw {K:PySem.W.Frag} {H:Hp} {us:List V} {rs:List (List V)} (h:bQ (nZ K H) us rs):∀x∈us,∃p,x=.ref p:=by
 induction h with
 |nil=>intro x hx;cases hx
 |cons r _ ih=>
  intro x hx
  rcases List.mem_cons.mp hx with rfl|hx
  ·obtain ⟨a,e,_⟩:=r;exact ⟨a,e⟩
  ·exact ih x hx
theorem aR8 {hd:Hdr} {rs:List (List V)} (hg:Good hd) (h:Fit hd rs):(srt rs).length≤63∧((knds hd).length≤1000∧∀r∈srt rs,KdR (knds hd) r):=by
 refine ⟨by rw [aRo];exact h.1,?_,fun r hr=>h.2 r (aSi hr)⟩
 unfold knds
 rw [List.length_map]
 have:=hg.2.2
 omega
theorem zN (T:Txt w K mg) (aMr:Ok P w K mg base 49 "rows_of" ["heads","tables","question"] (vM K)) (aQ5:Ok P w K mg base 49 "whole" ["heads","tables","question"] (vM K)) (vY:Ok P w K mg base 1 "_law_same" ["_law_found","_law_due"] (aKd K)):Ok P w K mg base 50 "_law_asked" ["_law_heads","_law_tables","_law_question","_law_due"] (aF5 K):=by
 refine Ok.ofV T.aBx iJ (fun vs H Q E h=>?_) (fun f cdv A outer s H vs Q E hr h=>?_)
 ·obtain ⟨d,tb,C,L,v,vh,n,hd,hd',rows,rs,q0,rfl,_⟩:=h;rfl
 obtain ⟨d,tb,C,L,v,vh,n,hd,hd',rows,rs,q0,rfl,gd,hI,gt,hL,hq,hz,hh,hr1,hf,hC,h63,q⟩:=h
 have hu:=aFq hr
 have hU:=hr.units
 refine ⟨_,(aC (bA (i:=4) iJ.nd rfl (by trivial) aQg) (aC (aSe (iW PassesOwn.never rfl (aUp (vv 1)) (aO (i:=5) iJ.nd rfl (by trivial)) (aG (aSg hu (vv 4) (vv 5) (bT yQ (by rfl) T.aDg wU (aB (aB0 hu (vv 1) (vv 5) (fun _ _=>rfl)) aA)))))) (aC (bA (i:=6) iJ.nd rfl (by trivial) (aL (aMr.mono (by decide)) hr (by rfl) (aB (bT aJl (by rfl) T.aV4 aRe (aB (vv 0) aA)) (aB (vv 4) (aB (vv 2) aA))))) (aC (bL (VW.pt (nU (dI (cM (aL (vY.mono (by decide)) hr (by rfl) (aB (vv 6) (aB (vv 3) aA))))) (jV (aW (aRs hU) (vv 4) (vv 1) (aY _))))) (aG (aJ gW)) aX) (aC (dD (aDs PySem.F.plainAttrs_list PySem.F.slot_list_reverse PySem.F.type_list_reverse pJ (vv 6))) (aC (dD (vR PySem.F.plainAttrs_list PySem.F.slot_list_append PySem.F.type_list_append mZ (vv 6) (aB (cU aA) aA))) (aG (aJ (aL (vY.mono (by decide)) hr (by rfl) (aB (aL (aQ5.mono (by decide)) hr (by rfl) (aB (vv 0) (aB (vv 1) (aB (vv 2) aA)))) (aB (vv 3) aA))))))))))),?_⟩
 intro p H1 np s1 gp
 obtain ⟨us,gL,hrow⟩:=hL
 have gt1:=s1 _ _ gt
 have npt:p≠tb:=(aZ gt np).symm
 refine ⟨tb,_,gt1,fun nf=>⟨_,rfl,tb,_,rfl,gt1,fun kv hkv=>?_,nf,fun o=>?_⟩⟩
 ·cases hkv with
  |head=>exact ⟨n,rfl⟩
  |tail _ z=>cases z
 refine aRt (fun i σ Hx=>(i=0∧(∃l,σ=[some (.ref d),some (.ref tb),some v,some (.ref C),some (.ref p),l,none])∧Hx=L2.upd H1 tb (.frz o (.dK [(Sum.inr n,.ref L)])))∨(i=1∧(∃l,σ=[some (.ref d),some (.ref tb),some v,some (.ref C),some (.ref p),l,none])∧Hx tb=some (.frz o (.dK [(Sum.inr n,.ref L)]))∧Same H (L2.upd Hx tb (.dK [(Sum.inr n,.ref L)]))∧∃L',L'≠tb∧Hx p=some (.dK [(Sum.inr n,.ref L')])∧Hx L'=some (.lst us))) (.inl ⟨rfl,⟨_,rfl⟩,rfl⟩) (fun i σ Hx _ pv=>?_) (fun i kv σ Hx ekv pv=>?_) fun σ Hx pv=>?_
 ·rcases pv with ⟨_,_,rfl⟩|⟨_,_,h,_⟩
  ·exact aH
  ·exact h
 ·rcases pv with ⟨rfl,⟨l,rfl⟩,rfl⟩|⟨rfl,_⟩
  ·cases ekv
   have gtf:L2.upd H1 tb (.frz o (.dK [(Sum.inr n,.ref L)])) tb=some (.frz o (.dK [(Sum.inr n,.ref L)])):=aH
   have nLt:L≠tb:=fun z=>by rw [z,gt] at gL;cases gL
   have gLf:L2.upd H1 tb (.frz o (.dK [(Sum.inr n,.ref L)])) L=some (.lst us):=by rw [aU nLt];exact s1 _ _ gL
   have gpf:L2.upd H1 tb (.frz o (.dK [(Sum.inr n,.ref L)])) p=some (.dK []):=by rw [aU npt];exact gp
   have sf:∀b o',b≠tb→H b=some o'→L2.upd H1 tb (.frz o (.dK [(Sum.inr n,.ref L)])) b=some o':=fun b o' hb e=>by rw [aU hb];exact s1 _ _ e
   generalize L2.upd H1 tb (.frz o (.dK [(Sum.inr n,.ref L)]))=Hf at gtf gLf gpf sf ⊢
   have g:xW Hf tb (kV (Sum.inr n)) (some (.ref L)):=by rw [←aQl (n:=n) (v:=.ref L)];exact .inl ⟨_,_,.inr ⟨o,gtf⟩,rfl,rfl⟩
   refine ⟨_,rfl,_,rfl,tb,_,rfl,g,L,us,rfl,.inl (SqL.of gLf),fun L' H2 nL' s2 g2=>?_⟩
   have n1:p≠L':=aZ gpf nL'
   have n2:tb≠L':=aZ gtf nL'
   refine ⟨_,rfl,_,rfl,p,_,rfl,aPh.k (k:=Sum.inr n) (s2 _ _ gpf) (by decide),.inr ⟨rfl,⟨_,rfl⟩,?_,fun b o' e=>?_,L',n2.symm,aH,?_⟩⟩
   ·rw [aU npt.symm];exact s2 _ _ gtf
   ·by_cases hb:b=tb
    ·subst hb
     rw [aH,←e];exact gt.symm
    ·rw [aU hb,aU (aZ e np)]
     exact s2 _ _ (sf b o' hb e)
   ·rw [aU n1.symm];exact g2
  ·cases ekv
 ·rcases pv with ⟨z,_⟩|⟨_,⟨l,rfl⟩,gtf,sH,L',nLt,gpx,gLx⟩
  ·cases z
  refine ⟨⟨o,gtf⟩,?_⟩
  have gp3:L2.upd Hx tb (.dK [(Sum.inr n,.ref L)]) p=some (.dK [(Sum.inr n,.ref L')]):=by rw [aU npt];exact gpx
  have gL3:L2.upd Hx tb (.dK [(Sum.inr n,.ref L)]) L'=some (.lst us):=by rw [aU nLt];exact gLx
  generalize L2.upd Hx tb (.dK [(Sum.inr n,.ref L)])=H3 at sH gp3 gL3 ⊢
  clear gtf gpx gLx
  refine ⟨_,rfl,d,_,rfl,sH _ _ gd,fun d2 H4 n4 s4 g4=>?_⟩
  have s04:=sH.trans s4
  have hL4:bV K H4 L' rows:=⟨us,s4 _ _ gL3,hrow.imp fun _ _ r=>r.same s04⟩
  refine ⟨_,rfl,_,rfl,d2,p,v,hs1 n hd,tb1 n L' rows,q0,hd',rs,rfl,aQd g4 (hI.same s04),aTb (s4 _ _ gp3) hL4,hq.same s04,hz,hh,hr1.to,hf,fun F H5 nF s5 hF=>?_⟩
  have s05:=s04.trans s5
  obtain ⟨sf1,sf2⟩:=aR8 hh.good hf
  refine ⟨_,rfl,_,rfl,F,C,srt rs,knds hd',rfl,hF,hC.same s05,sf1,sf2,fun H6 s6=>⟨_,rfl,bF ?_⟩⟩
  have s06:=s05.trans s6
  have s36:=s4.trans (s5.trans s6)
  refine ⟨_,rfl,_,rfl,p,tb,Sum.inr n,L',L,us,rfl,rfl,s36 _ _ gp3,s06 _ _ gt,SqL.of (s36 _ _ gL3),SqL.of (s06 _ _ gL),aSw hrow,_,rfl,bF ?_⟩
  obtain ⟨fs,gF,hfs⟩:=hF
  have lfs:=hfs.len
  have gF6:=s6 _ _ gF
  have nF0:H F=none:=none_of s04 nF
  refine ⟨_,rfl,.inl ⟨rfl,_,SqL.of gF6⟩,F,fs,rfl,rfl,gF6,?_⟩
  have s07:Same H (L2.upd H6 F (.lst fs.reverse)):=gO nF0 s06
  have gF7:L2.upd H6 F (.lst fs.reverse) F=some (.lst fs.reverse):=aH
  generalize L2.upd H6 F (.lst fs.reverse)=H7 at s07 gF7 ⊢
  refine ⟨_,rfl,.inl ⟨rfl,_,SqL.of gF7⟩,by decide,fun t H8 nt s8 g8=>⟨F,_,_,rfl,rfl,s8 _ _ gF7,by rw [List.length_reverse];exact Nat.lt_of_le_of_lt (show fs.length≤63 by omega) (by decide),?_⟩⟩
  have s09:Same H (L2.upd H8 F (.lst (fs.reverse++[.ref t]))):=gO nF0 (s07.trans s8)
  generalize L2.upd H8 F (.lst (fs.reverse++[.ref t]))=H9 at s09 ⊢
  refine ⟨_,rfl,_,rfl,_,rfl,d,tb,v,hs1 n hd,tb1 n L rows,q0,hd',rs,rfl,aQd (s09 _ _ gd) (hI.same s09),aTb (s09 _ _ gt) ⟨us,s09 _ _ gL,hrow.imp fun _ _ r=>r.same s09⟩,hq.same s09,hz,hh,hr1,hf,fun G H10 nG s10 hG=>?_⟩
  exact ⟨_,rfl,G,C,srt rs,knds hd',rfl,hG,hC.same (s09.trans s10),sf1,sf2,fun H11 s11=>q H11 (s09.trans (s10.trans s11))⟩
theorem aDr {X:Cx} {K:PySem.W.Frag} (hK:X.K=K:=by rfl):cD X (.type "tuple") (aKe K):=by subst hK;exact cG
def aWp:Scope:={ kind:=.function,names:=[(".0",.local),("_law_row_here",.cell),("all",.globalImplicit),("_law_head_here",.cell),("_law_tests_here",.cell)],isGenerator:=false,isCoroutine:=false }
def aWm:Scope:={ kind:=.function,names:=[(".0",.local),("_law_row_here",.cell),("tuple",.globalImplicit),("_law_spots",.cell)],isGenerator:=false,isCoroutine:=false }
theorem aLr {M:List Str} {sc scope:Scope} {N:List Str} {K:PySem.W.Frag} {tl te:TE} {σ:L2.St} {H:Hp} {Q:VK} {a:Addr} (xs ys:List V) (hly:ys.length=xs.length) (σ0:L2.St) (cap:aN5 M sc scope N σ σ0) (hsz:xs.length≤sizeLine) (ha:H a=some (.lst xs)) (hl:∀R:VK,R (.ref a) H→tl σ H R)
  (he:∀(i:Nat) (x y:V),xs[i]?=some x→ys[i]?=some y→∀H' R l,Same H H'→(∀H2,Same H' H2→R y H2)→te ((σ0.set 0 l).set 0 (some x)) H' R) (h0:σ0[0]?=some none)
  (q:∀D H',Same H H'→H' D=some (.lst ys)→Q (.ref D) H'):aJy M sc scope N (sG K tl) (bZ 0) nA te σ H Q:=by
 refine ⟨σ0,cap,hl _ ⟨a,rfl,⟨xs,SqL.of ha⟩,?_⟩⟩
 refine qD Same (jY H) xs (fun _=>true) (fun i _ y=>ys[i]?=some y) (fun _ _ h=>h) (fun _ _ _ h=>h) (fun i σ=>∃x l,xs[i]?=some x∧σ=(σ0.set 0 l).set 0 (some x)) (fun σ=>∃l,σ=σ0.set 0 l) ⟨none,dG h0⟩ hsz (Itl K a) (rW fun H' e=>SqL.of (e _ _ ha)) (lO fun H' e=>SqL.of (e _ _ ha)) (fun i x σ' H' Q' ex ps sm r=>?_) (fun i x σ2 ex at2 H' R sm r=>r H' (Same.refl _)) (fun i x σ2 ex at2 _ H' R sm r=>?_) fun D H' zs sm hD hz al=>?_
 ·obtain ⟨l,rfl⟩:=ps
  have z:(σ0.set 0 l).set 0 (some x)=σ0.set 0 (some x):=List.set_set ..
  exact r ((σ0.set 0 l).set 0 (some x)) ⟨some x,z⟩ ⟨x,l,ex,rfl⟩
 ·obtain ⟨x',l,ex',rfl⟩:=at2
  rw [ex] at ex'
  cases ex'
  have hi:i<ys.length:=by rw [hly];exact (List.getElem?_eq_some_iff.mp ex).1
  exact he i x ys[i] ex (List.getElem?_eq_getElem hi) H' R l sm fun H2 s2=>r _ H2 s2 (List.getElem?_eq_getElem hi)
 ·rw [eY] at al
  obtain ⟨l1,l2⟩:=dM al
  have e:zs=ys:=List.ext_getElem? fun i=>by
   cases ez:zs[i]? with
   |some z=>exact (l2 i z ez).symm
   |none=>
    have:=List.getElem?_eq_none_iff.mp ez
    exact (List.getElem?_eq_none (by omega)).symm
  rw [e] at hz
  exact q D H' sm hz
theorem aWq {M:List Str} {sc scope:Scope} {x y:Str} {σ:L2.St} {u:V} (i:Nat) (hf:(y,NameKind.free)∈scope.names) (hi:M[i]?=some y) (hs:σ[i]?=some (some u)) (hv:Vis sc y):aN5 M sc scope [x,y] σ [none,some u]:=
 ⟨rfl,fun n q r h1 h2=>by
  match n,h1,h2 with
  |0,_,h2=>cases h2
  |1,h1,h2=>cases h1;cases h2;exact ⟨hf,i,hi,hs,hv⟩
  |n+2,h1,_=>cases h1⟩
theorem aSm (xs:List V) (n:Nat):wF xs none (some (n:Int))=xs.take (min n xs.length):=by
 unfold wF
 rw [HT.aFb,HT.aD0,List.drop_zero,Nat.sub_zero]
theorem aPf {α β:Type} {R:α→β→Prop} {as cs:List α} {bs ds:List β} (h:bQ R as bs) (h2:bQ R cs ds):bQ R (as++cs) (bs++ds):=by
 induction h with
 |nil=>exact h2
 |cons r _ ih=>exact .cons r ih
structure LW (K:PySem.W.Frag) (a N d tb L:Addr) (ns:List Str) (n0:Str) (vh:V) (hd:Hdr) (rows:List (List V)) (H:Hp):Prop where
 st:jW H a
 nm:H N=some (.lst (ns.map V.str))
 hd:cX K H vh hd
 rw':bV K H L rows
 dh:H d=some (.dK [(Sum.inr n0,vh)])
 dt:H tb=some (.dK [(Sum.inr n0,.ref L)])
theorem bV.fx {a:Addr} {H H':Hp} {D:Addr} {rs:List (List V)} (f:Fx a H H') (h:jW H a) (hD:D≠a) (r:bV K H D rs):bV K H' D rs:=by
 obtain ⟨us,h1,h2⟩:=r
 exact ⟨us,f.same _ _ hD h1,h2.imp fun _ _ ⟨p,e,hp⟩=>⟨p,e,f.aP h hp⟩⟩
theorem LW.fx {a N d tb L:Addr} {ns:List Str} {n0:Str} {vh:V} {hd:Hdr} {rows:List (List V)} {H H':Hp} (W:LW K a N d tb L ns n0 vh hd rows H) (h1:N≠a) (h2:d≠a) (h3:tb≠a) (h4:L≠a) (f:Fx a H H'):LW K a N d tb L ns n0 vh hd rows H':=
 ⟨f.st,f.same _ _ h1 W.nm,W.hd.tk (f.tk W.st),W.rw'.fx f W.st h4,f.same _ _ h2 W.dh,f.same _ _ h3 W.dt⟩
theorem LW.same {a N d tb L:Addr} {ns:List Str} {n0:Str} {vh:V} {hd:Hdr} {rows:List (List V)} {H H':Hp} (W:LW K a N d tb L ns n0 vh hd rows H) (s:Same H H'):LW K a N d tb L ns n0 vh hd rows H':=
 ⟨W.st.same s,s _ _ W.nm,W.hd.same s,W.rw'.same s,s _ _ W.dh,s _ _ W.dt⟩
theorem aO2 {hd:Hdr} {ts:List Tst} {rows:List (List V)} (h:Fit hd rows):Fit hd (tR hd ts rows):=by
 unfold tR
 exact ⟨Nat.le_trans (List.length_filter_le _ _) h.1,fun r hr=>h.2 r (List.mem_filter.mp hr).1⟩
theorem aPb {hd:Hdr} {ns ks:List Str} {rows:List (List V)} (hl:Looks hd ns ks) (h:Fit hd rows):Fit (ns.zip ks) (keepR hd ns rows):=by
 unfold keepR
 refine ⟨by rw [List.length_map];exact h.1,fun r hr=>?_⟩
 obtain ⟨r0,hr0,rfl⟩:=List.mem_map.mp hr
 have hk:=h.2 r0 hr0
 have ll:=bQ.len hl
 refine aAz (by unfold knds nY;rw [List.length_map,List.length_map,List.length_map,List.length_zip];omega) fun i b x e1 e2=>?_
 unfold knds at e1
 unfold nY at e2
 rw [List.getElem?_map] at e1
 obtain ⟨c,hc,rfl⟩:=Option.map_eq_some_iff.mp e1
 rw [List.getElem?_map,List.getElem?_map] at e2
 obtain ⟨n1,n2⟩:=List.getElem?_zip_eq_some.mp hc
 rw [n1] at e2
 cases e2
 exact (yW hk (lA (iR hl n1 n2)).1).2
theorem aLv {hd:Hdr} {ns:List Str} {rows:List (List V)} (hl:ns.length=hd.length) (h:Fit hd rows):Fit (List.zipWith (fun n c=>(n,c.2)) ns hd) rows:=by
 have e:knds (List.zipWith (fun n c=>(n,c.2)) ns hd)=knds hd:=by
  unfold knds
  rw [List.map_zipWith]
  refine List.ext_getElem? fun i=>?_
  rw [List.getElem?_zipWith,List.getElem?_map]
  cases e1:hd[i]? with
  |none=>
   cases ns[i]? <;> rfl
  |some c=>
   have hi:=(List.getElem?_eq_some_iff.mp e1).1
   rw [List.getElem?_eq_getElem (show i<ns.length by omega)]
   rfl
 exact ⟨h.1,by rw [e];exact h.2⟩
theorem aH6 {hd:Hdr} {ns:List Str} (hl:ns.length=hd.length) (nd:ns.Nodup) (h:Good hd):Good (List.zipWith (fun n c=>(n,c.2)) ns hd):=by
 have e:(List.zipWith (fun n (c:Str × Str)=>(n,c.2)) ns hd).map (·.1)=ns:=by
  rw [List.map_zipWith]
  refine List.ext_getElem? fun i=>?_
  rw [List.getElem?_zipWith]
  cases e1:ns[i]? with
  |none=>cases hd[i]? <;> rfl
  |some c=>
   have hi:=(List.getElem?_eq_some_iff.mp e1).1
   rw [List.getElem?_eq_getElem (show i<hd.length by omega)]
 have lz:(List.zipWith (fun n (c:Str × Str)=>(n,c.2)) ns hd).length=hd.length:=by rw [List.length_zipWith];omega
 exact ⟨by rw [e];exact nd,by rw [lz];exact h.2.1,by rw [lz];exact h.2.2⟩
def turned (ns:List Str) (t n:Nat):List Str:=(List.range n).map fun i=>ns.getD (3+(t+i) % 14) ""
theorem aL5 {ns:List Str} (h:qC ns) (t:Nat) {n:Nat} (hn:n≤14):(turned ns t n).Nodup∧∀x∈turned ns t n,Nm x:=by
 have hg:∀i,ns.getD (3+(t+i) % 14) ""∈ns∧ns[3+(t+i) % 14]?=some (ns.getD (3+(t+i) % 14) ""):=fun i=>by
  have hi:3+(t+i) % 14<ns.length:=by rw [h.1];omega
  rw [List.getD_eq_getElem?_getD,List.getElem?_eq_getElem hi]
  exact ⟨List.getElem_mem hi,rfl⟩
 refine ⟨?_,fun x hx=>?_⟩
 ·refine List.pairwise_map.mpr (List.Pairwise.imp_of_mem ?_ List.nodup_range)
  intro i j hi hj ne e
  have hi:=List.mem_range.mp hi
  have hj:=List.mem_range.mp hj
  have h1:=(hg i).2
  have h2:=(hg j).2
  rw [←e] at h2
  have:=aOo h.2.2 h1 h2
  omega
 ·obtain ⟨i,_,rfl⟩:=List.mem_map.mp hx
  exact h.2.1 _ (hg i).1
theorem aL0 {ns:List Str} (h:qC ns) {t n i:Nat} {x:Str} (e:(turned ns t n)[i]?=some x):ns[3+(t+i) % 14]?=some x:=by
 have hi:i<n:=by
  have:=(List.getElem?_eq_some_iff.mp e).1
  simpa [turned] using this
 unfold turned at e
 rw [List.getElem?_map,List.getElem?_range hi] at e
 have e:ns.getD (3+(t+i) % 14) ""=x:=Option.some.inj e
 have hl:3+(t+i) % 14<ns.length:=by rw [h.1];omega
 rw [List.getD_eq_getElem?_getD,List.getElem?_eq_getElem hl] at e
 rw [List.getElem?_eq_getElem hl]
 exact congrArg some e
theorem aO4 {n i:Nat} {x:V} (e:((List.range n).map fun i:Nat=>V.int (0+(i:Int)))[i]?=some x):i<n∧x=.int (0+(i:Int)):=by
 have hi:i<n:=by
  have:=(List.getElem?_eq_some_iff.mp e).1
  rw [List.length_map,List.length_range] at this
  exact this
 rw [List.getElem?_map,List.getElem?_range hi] at e
 exact ⟨hi,(Option.some.inj e).symm⟩
theorem zip_fst_snd:∀(hd:Hdr),(hd.map (·.1)).zip (hd.map (·.2))=hd
 |[]=>rfl
 |c::r=>by rw [List.map_cons,List.map_cons,List.zip_cons_cons,zip_fst_snd r]
theorem aQp {X:Cx} {scope:Scope} {N:List Str} {ta:TA} {te:TE} {tt:TT} {g:TG} {σ:L2.St} {H:Hp} {Q:VK} (σ0:L2.St) (cap:Cap X scope N σ σ0) (h:ta σ H fun vs H1=>∃j:Int,vs=[.int j]∧-(2 ^ 62)≤j∧j<2 ^ 62∧aBo (Itr 0 j.toNat) H1 σ0 g tt te Q):gR X scope N (aLi ta) g tt te σ H Q:=⟨σ0,cap,h⟩
theorem aLb {K:PySem.W.Frag} {H:Hp} {Pr:List V→Prop}:∀{ys:List V},(∀y∈ys,∃r,nZ K H y r∧Pr r)→∃rs,bQ (nZ K H) ys rs∧∀r∈rs,Pr r
 |[],_=>⟨[],.nil,fun r h=>by cases h⟩
 |y::ys,h=>by
  obtain ⟨r,h1,h2⟩:=h y List.mem_cons_self
  obtain ⟨rs,h3,h4⟩:=aLb (ys:=ys) fun z hz=>h z (List.mem_cons_of_mem _ hz)
  refine ⟨r::rs,.cons h1 h3,fun x hx=>?_⟩
  rcases List.mem_cons.mp hx with rfl|hx
  ·exact h2
  ·exact h4 x hx
theorem aT1 {f:Addr} {fd:FuncData} (F:Fun K "law" "law" rR f fd) (T:Txt w K mg) (aDf:Ok P w K mg base 2 "_law_begin" ["_law_script"] (aHj K)) (aR:Ok P w K mg base 1 "_law_next" ["_law_state","_law_many"] kZ)
  (aB6:Ok P w K mg base 2 "_law_names" ["_law_state","_law_many"] aPq) (aGp:Ok P w K mg base 2 "_law_head" ["_law_state","_law_names_here"] (aFh K))
  (aJi:Ok P w K mg base 4 "_law_row" ["_law_state","_law_head_here"] (aKw K)) (tM:Ok P w K mg base 4 "_law_tests" ["_law_state","_law_head_here"] (aAs K)) (aHg:Ok P w K mg base 2 "_law_some" ["_law_state","_law_head_here","_law_least"] (aK7 K))
  (pN:Ok P w K mg base 1 "_law_at" ["_law_head_here","_law_name"] (jU K)) (aB1:Ok P w K mg base 2 "_law_holds" ["_law_head_here","_law_row_here","_law_test"] (sW K)) (iZ:Ok P w K mg base 50 "_law_asked" ["_law_heads","_law_tables","_law_question","_law_due"] (aF5 K)) :
  lW P w K mg base CX0 51 f fd ["_law_script"] (aC8 K):=by
 refine Fun.okV F fZ (fun vs H Q E h=>?_) (fun cdv A outer s H vs Q E hr h=>?_)
 ·obtain ⟨a,ns,rfl,_⟩:=h;rfl
 obtain ⟨sc,sn,rfl,hS,h63,q⟩:=h
 have hu:=aFq hr
 have hU:=hr.units
 refine ⟨_,(aC (bA (i:=1) fZ.nd rfl (by trivial) (aL (aDf.mono (by decide)) hr (by rfl) (aB (vv 0) aA))) (aC (bA (i:=2) fZ.nd rfl (by trivial) (aL (aB6.mono (by decide)) hr (by rfl) (aB (vv 1) (aB aD aA)))) (aC (bA (i:=3) fZ.nd rfl (by trivial) (aL (aGp.mono (by decide)) hr (by rfl) (aB (vv 1) (aB (vv 2) aA)))) (aC (mJ (i0:=4) fZ.nd rfl (by trivial) (N:=["_law_k","_law_state","_law_head_here"]) (by trivial) (cF (aF rR) rfl (by decide +kernel)) rfl (eN (by rfl) T.jC (aB (aL (aR.mono (by decide)) hr (by rfl) (aB (vv 1) (aB aD aA))) aA)) (fun cl s' H' fp=>⟨(aO (i:=0) (show (["_law_k","_law_state","_law_head_here"]:List Str).Nodup from by decide +kernel) rfl (Or.inl rfl)),bW,(aL (aJi.mono (by decide)) hr (by rfl) (aB (vv 1) (aB (vv 2) aA)))⟩)) (aC (bA (i:=5) fZ.nd rfl (by trivial) (aKj (aHb (aM bD (vv 2) aD (fun _ _=>rfl)) (vv 3) aJ7) rfl rfl (by simp) (by decide))) (aC (bA (i:=6) fZ.nd rfl (by trivial) (aKj (aHb (aM bD (vv 2) aD (fun _ _=>rfl)) (vv 4) aJ7) rfl rfl (by simp) (by decide))) (aC (bA (i:=7) fZ.nd rfl (by trivial) (lL aQ3 (bR aCu (aL (tM.mono (by decide)) hr (by rfl) (aB (vv 1) (aB (vv 3) aA))) (aL (tM.mono (by decide)) hr (by rfl) (aB (vv 1) (aB (vv 3) aA)))) wQ (kO (bR eF aD (aL (aR.mono (by decide)) hr (by rfl) (aB (vv 1) (aB aD aA))))))) (aC (bA (i:=8) fZ.nd rfl (by trivial) (aN iB (by rfl) T.lM jK (aB (xF (N:=["_law_row_here","_law_head_here","_law_tests_here"]) (y0:="_law_row_here") ⟨by decide +kernel,fun _ _=>rfl,fun _=>rfl,by decide +kernel,rfl,by decide +kernel,by decide +kernel⟩ (cF (aF rR) rfl (by decide +kernel)) rfl (dY (vv 4)) (fun cl s' H' fp=>⟨(aO (i:=0) (show (["_law_row_here","_law_head_here","_law_tests_here"]:List Str).Nodup from by decide +kernel) rfl (Or.inr rfl) (Or.inl rfl)),(wW (cM (aN (aBf (K:=K) rfl rfl) (by rfl) T.aFe yE (aB (yF (M:=["_law_row_here","_law_head_here","_law_tests_here"]) (sc:=aWp) (N:=["_law_test","_law_head_here","_law_row_here"]) rfl rfl (by trivial) (cF aWp rfl (by decide +kernel)) rfl (aKf (K:=K) (vv 2)) (fun cl2 s2' H2' fp2=>⟨(aO (i:=0) (show (["_law_test","_law_head_here","_law_row_here"]:List Str).Nodup from by decide +kernel) rfl (Or.inl rfl)),bW,(aL (aB1.mono (by decide)) hr (by rfl) (aB (vv 1) (aB (vv 2) (aB (vv 0) aA))))⟩)) aA)))),(vv 0)⟩)) aA))) (aC (bL (dI (cM (aL (iZ.mono (by decide)) hr (by rfl) (aB (vv 5) (aB (vv 6) (aB (cU (aB aQ (aB (cU (aB aQ (aB (aM bD (vv 2) aD (fun _ _=>rfl)) aA))) (aB (vv 7) aA)))) (aB (vv 8) aA))))))) (aG (aJ gW)) aX) (aC (bA (i:=9) fZ.nd rfl (by trivial) (aL (aHg.mono (by decide)) hr (by rfl) (aB (vv 1) (aB (vv 3) (aB aD aA))))) (aC (bA (i:=10) fZ.nd rfl (by trivial) (bY (N:=["_law_name","_law_kind","_law_head_here"]) (by trivial) (cF (aF rR) rfl (by decide +kernel)) rfl (dY (vv 9)) (fun cl s' H' fp=>⟨(nD (K:=K) (n:=2) rfl (bK (aO (i:=0) (show (["_law_name","_law_kind","_law_head_here"]:List Str).Nodup from by decide +kernel) rfl (Or.inl rfl)) (bK (aO (i:=1) (show (["_law_name","_law_kind","_law_head_here"]:List Str).Nodup from by decide +kernel) rfl (Or.inl rfl)) fH))),bW,(aL (pN.mono (by decide)) hr (by rfl) (aB (vv 2) (aB (vv 0) aA)))⟩))) (aC (bA (i:=8) fZ.nd rfl (by trivial) (aN iB (by rfl) T.lM jK (aB (xF (N:=["_law_row_here","_law_spots"]) (y0:="_law_row_here") ⟨by decide +kernel,fun _ _=>rfl,fun _=>rfl,by decide +kernel,rfl,by decide +kernel,by decide +kernel⟩ (cF (aF rR) rfl (by decide +kernel)) rfl (dY (vv 4)) (fun cl s' H' fp=>⟨(aO (i:=0) (show (["_law_row_here","_law_spots"]:List Str).Nodup from by decide +kernel) rfl (Or.inr rfl) (Or.inl rfl)),bW,(bT (aDr (K:=K)) (by rfl) T.cL cC (aB (yF (M:=["_law_row_here","_law_spots"]) (sc:=aWm) (N:=["_law_k","_law_row_here"]) rfl rfl (by trivial) (cF aWm rfl (by decide +kernel)) rfl (aQv (K:=K) (vv 1)) (fun cl2 s2' H2' fp2=>⟨(aO (i:=0) (show (["_law_k","_law_row_here"]:List Str).Nodup from by decide +kernel) rfl (Or.inl rfl)),bW,(aM (eO (K:=K)) (vv 1) (vv 0) (fun _ _=>rfl))⟩)) aA))⟩)) aA))) (aC (bL (dI (cM (aL (iZ.mono (by decide)) hr (by rfl) (aB (vv 5) (aB (vv 6) (aB (cU (aB aQ (aB (cU (aB aQ (aB (aM bD (vv 2) aD (fun _ _=>rfl)) aA))) (aB (bT cG (by rfl) T.cL cC (aB (bY (N:=["_law_name","_law_kind"]) (by trivial) (eZ (by decide +kernel)) rfl (dY (vv 9)) (fun cl s' H' fp=>⟨(nD (K:=K) (n:=2) rfl (bK (aO (i:=0) (show (["_law_name","_law_kind"]:List Str).Nodup from by decide +kernel) rfl (Or.inl rfl)) (bK (aO (i:=1) (show (["_law_name","_law_kind"]:List Str).Nodup from by decide +kernel) rfl (Or.inl rfl)) fH))),bW,(vv 0)⟩)) aA)) aA)))) (aB (vv 8) aA))))))) (aG (aJ gW)) aX) (aC (bA (i:=11) fZ.nd rfl (by trivial) (aL (aR.mono (by decide)) hr (by rfl) (aB (vv 1) (aB aD aA)))) (aC (bA (i:=12) fZ.nd rfl (by trivial) (bT cG (by rfl) T.cL cC (aB (bY (N:=["_law_k","_law_names_here","_law_turn"]) (by trivial) (cF (aF rR) rfl (by decide +kernel)) rfl (eN (by rfl) T.jC (aB (aN bC (by rfl) T.dU cI (aB (vv 3) aA)) aA)) (fun cl s' H' fp=>⟨(aO (i:=0) (show (["_law_k","_law_names_here","_law_turn"]:List Str).Nodup from by decide +kernel) rfl (Or.inl rfl)),bW,(aM (aPk (K:=K)) (vv 1) (bR eF aD (bR pC (bR eF (vv 2) (vv 0)) aD)) (fun _ _=>rfl))⟩)) aA))) (aC (bL (dI (cM (aL (iZ.mono (by decide)) hr (by rfl) (aB (vv 5) (aB (vv 6) (aB (cU (aB aQ (aB (cU (aB aQ (aB (aM bD (vv 2) aD (fun _ _=>rfl)) aA))) (aB (vv 12) aA)))) (aB (aN iB (by rfl) T.lM jK (aB (vv 4) aA)) aA))))))) (aG (aJ gW)) aX) (aG (aJ (aL (iZ.mono (by decide)) hr (by rfl) (aB (vv 5) (aB (vv 6) (aB (cU (aB aQ (aB (aM bD (vv 2) aD (fun _ _=>rfl)) aA))) (aB (aN iB (by rfl) T.lM jK (aB (vv 4) aA)) aA))))))))))))))))))))))),?_⟩
 refine ⟨_,rfl,sc,sn,rfl,hS,h63,fun a H2 fa s2 hst=>?_⟩
 refine ⟨_,rfl,a,rfl,hst,fun N H3 ns f3 fN g3 hn=>?_⟩
 have nNa:N≠a:=hst.ne fN
 have hst3:=f3.st
 refine ⟨_,rfl,_,rfl,a,N,ns,rfl,hst3,g3,nNa,hn,fun vh H4 hd f4 hh hok _=>?_⟩
 have hst4:=f4.st
 have g4:=f4.same _ _ nNa g3
 dsimp only [bZ,mL,mX]
 refine aQp [none,some (.ref a),some vh] ?_ ?_
 ·exact sY 1 3 (by decide +kernel) (by decide +kernel) rfl rfl rfl rfl (by trivial) (by trivial)
 refine ⟨_,rfl,a,41,rfl,hst4,by decide,fun z H5 f5 z0 z1=>?_⟩
 refine ⟨z,rfl,by omega,by omega,?_⟩
 have fx5:Fx a H4 H5:=f5
 have hh5:=hh.tk (f5.tk (K:=K) hst4)
 refine qD (Fx a) (aQo f5.st) ((List.range z.toNat).map fun i:Nat=>V.int (0+(i:Int))) (fun _=>true) (fun _ H' y=>∃r,nZ K H' y r∧KdR (knds hd) r) (fun f1 f2 ⟨r,⟨p,e,hp⟩,h⟩=>⟨r,⟨p,e,f2.aP f1.st hp⟩,h⟩) (fun _ _ gD ⟨r,⟨p,e,hp⟩,h⟩=>⟨r,⟨p,e,SqT.wH gD hp⟩,h⟩) (fun i σ=>∃x,σ=[some x,some (.ref a),some vh]) (fun σ=>∃l,σ=[l,some (.ref a),some vh]) ⟨none,rfl⟩ (small (by rw [List.length_map,List.length_range];omega)) (Itr 0 z.toNat) (fun H' i x _ ex=>?_) (fun H' _=>?_) (fun i x σ' H' Q' ex ps f' r=>?_) (fun i x σ2 ex at2 H' R f' r=>r H' (Fx.refl f'.st)) (fun i x σ2 ex at2 _ H' R f' r=>?_) fun L H6 ys f6 fL gL hys=>?_
 ·obtain ⟨hi,rfl⟩:=aO4 ex
  exact ⟨hi,fun y H2 hy=>hy⟩
 ·show z.toNat≤_
  rw [List.length_map,List.length_range];exact Nat.le_refl _
 ·obtain ⟨l,rfl⟩:=ps
  exact r _ ⟨some x,rfl⟩ ⟨x,rfl⟩
 ·obtain ⟨x',rfl⟩:=at2
  exact ⟨_,rfl,_,rfl,a,vh,hd,rfl,f'.st,hh5.tk (f'.tk f5.st),hok,fun t H2 r' f2 g2 hk=>r _ H2 f2 ⟨r',⟨t,rfl,SqT.of g2⟩,hk⟩⟩
 rw [eY,List.length_map,List.length_range] at hys
 obtain ⟨ly,hy⟩:=dM hys
 obtain ⟨rows,hrow,hkd⟩:=aLb (ys:=ys) fun y hm=>by
  obtain ⟨i,hi⟩:=List.mem_iff_getElem?.mp hm
  exact hy i y hi
 have lrow:=hrow.len
 have hfit:Fit hd rows:=⟨by omega,hkd⟩
 have nLa:L≠a:=f5.st.ne fL
 have g6:=(f5.trans f6).same _ _ nNa g4
 have hh6:=hh5.tk (f6.tk (K:=K) f5.st)
 have hst6:=f6.st
 have hL6:bV K H6 L rows:=⟨ys,gL,hrow⟩
 have l17:=hn.1
 obtain ⟨n0,nr,rfl⟩:∃n0 nr,ns=n0::nr:=by
  cases ns with
  |nil=>cases l17
  |cons x r=>exact ⟨x,r,rfl⟩
 have hn0:Nm n0:=hn.2.1 n0 List.mem_cons_self
 refine fun d fd=>?_
 have nda:d≠a:=hst6.ne fd
 have s7:Same H6 (L2.upd H6 d (.dK [])):=bG fd _
 refine ⟨_,rfl,N,_,0,_,rfl,rfl,SqL.of (s7 _ _ g6),at0 _ _,_,rfl,aH,[(Sum.inr n0,vh)],rfl,by show 1≤15;decide,?_⟩
 have s8:Same H6 (L2.upd (L2.upd H6 d (.dK [])) d (.dK (jT [] [(Sum.inr n0,vh)]))):=gO fd s7
 have gd8:L2.upd (L2.upd H6 d (.dK [])) d (.dK (jT [] [(Sum.inr n0,vh)])) d=some (.dK [(Sum.inr n0,vh)]):=aH
 generalize L2.upd (L2.upd H6 d (.dK [])) d (.dK (jT [] [(Sum.inr n0,vh)]))=H8 at s8 gd8 ⊢
 refine fun tb ftb=>?_
 have hst8:=hst6.same s8
 have nta:tb≠a:=hst8.ne ftb
 have s9:Same H8 (L2.upd H8 tb (.dK [])):=bG ftb _
 refine ⟨_,rfl,N,_,0,_,rfl,rfl,SqL.of (s9 _ _ (s8 _ _ g6)),at0 _ _,_,rfl,aH,[(Sum.inr n0,.ref L)],rfl,by show 1≤15;decide,?_⟩
 have s10:Same H8 (L2.upd (L2.upd H8 tb (.dK [])) tb (.dK (jT [] [(Sum.inr n0,.ref L)]))):=gO ftb s9
 have gt10:L2.upd (L2.upd H8 tb (.dK [])) tb (.dK (jT [] [(Sum.inr n0,.ref L)])) tb=some (.dK [(Sum.inr n0,.ref L)]):=aH
 generalize L2.upd (L2.upd H8 tb (.dK [])) tb (.dK (jT [] [(Sum.inr n0,.ref L)]))=H10 at s10 gt10 ⊢
 have s610:=s8.trans s10
 have W10:LW K a N d tb L (n0::nr) n0 vh hd rows H10:=⟨hst6.same s610,s610 _ _ g6,hh6.same s610,hL6.same s610,s10 _ _ gd8,gt10⟩
 clear s610 s10 s9 s8 s7 g6 hh6 hL6 gd8 gt10 g4 g3 hh hh5 hrow hy hys gL ly
 have WF:∀{H H':Hp},LW K a N d tb L (n0::nr) n0 vh hd rows H→Fx a H H'→LW K a N d tb L (n0::nr) n0 vh hd rows H':=fun W f=>W.fx nNa nda nta nLa f
 refine ⟨_,rfl,_,rfl,a,vh,hd,rfl,W10.st,W10.hd,hok,fun v1 H11 ts1 f11 ht1 ok1=>?_⟩
 have W11:=WF W10 f11
 refine ⟨_,rfl,_,rfl,a,vh,hd,rfl,W11.st,W11.hd,hok,fun v2 H12 ts2 f12 ht2 ok2=>?_⟩
 have W12:=WF W11 f12
 have tk12:TK K H11 H12:=f12.tk W11.st
 obtain ⟨⟨p1,us1,rfl,hp1,hu1⟩,l1a,l1b⟩:=ht1
 obtain ⟨⟨p2,us2,rfl,hp2,hu2⟩,l2a,l2b⟩:=ht2
 have lu1:=hu1.len
 have lu2:=hu2.len
 refine ⟨p1,p2,us1,us2,rfl,rfl,tk12 _ _ hp1,hp2,small (by omega),fun p3 H13 s13 hp3=>?_⟩
 have W13:=W12.same s13
 refine ⟨_,rfl,a,3,rfl,W13.st,by decide,fun z2 H14 f14 y0 y1=>?_⟩
 obtain ⟨zn,rfl⟩:∃zn:Nat,z2=zn:=⟨z2.toNat,by omega⟩
 have W14:=WF W13 f14
 refine ⟨_,_,rfl,rfl,_,rfl,p3,_,rfl,f14.aP W13.st hp3,fun p4 H15 s15 hp4=>?_⟩
 have W15:=W14.same s15
 have e1:(1:Int)+(zn:Int)=((1+zn:Nat):Int):=by omega
 have hp4:SqT K H15 p4 ((us1++us2).take (min (1+zn) (us1++us2).length)):=by rw [←aSm,←e1];exact hp4
 have tk15:TK K H12 H15:=fun p xs h=>s15.aP (f14.aP W13.st (s13.aP h))
 have hT:bQ (IsT K H15) ((us1++us2).take (min (1+zn) (us1++us2).length)) ((ts1++ts2).take (min (1+zn) (us1++us2).length)):=aMv (aPf (hu1.imp fun _ _ h=>(h.tk tk12).tk tk15) (hu2.imp fun _ _ h=>h.tk tk15)) _
 have okT:∀t∈(ts1++ts2).take (min (1+zn) (us1++us2).length),oF hd t:=fun t ht=>by
  rcases List.mem_append.mp (List.mem_of_mem_take ht) with h|h
  ·exact ok1 t h
  ·exact ok2 t h
 have lT:1≤((ts1++ts2).take (min (1+zn) (us1++us2).length)).length∧((ts1++ts2).take (min (1+zn) (us1++us2).length)).length≤3:=by
  rw [List.length_take,List.length_append,List.length_append];omega
 generalize (ts1++ts2).take (min (1+zn) (us1++us2).length)=ts at hT okT lT
 generalize (us1++us2).take (min (1+zn) (us1++us2).length)=vs at hT hp4
 clear hp3 hp2 hp1 hu1 hu2 tk12 tk15 W10 W11 W12 W13 W14 e1
 have lv:=hT.len
 have gl:hd.length≤8:=hok.1.2.2
 obtain ⟨us,hD,hu'⟩:=id W15.rw'
 have lu:=hu'.len
 have lr63:=hfit.1
 dsimp only [tCB,dH]
 refine aAo us (fun i=>ts.all (oZ hd (rows.getD i []))) [none,some vh,some (.ref p4)] ?_ (small (by omega)) (fun R r=>pO (fun H' sm=>SqL.of (sm _ _ hD)) (fun R' r'=>⟨_,rfl,r'⟩) R r) (fun i u ex H' R l sm rr=>?_) rfl fun D16 H16 hN16 s16 hD16=>?_
 ·exact sY 3 7 (by decide +kernel) (by decide +kernel) rfl rfl rfl rfl (by trivial) (by trivial)
 ·obtain ⟨r,er,hr'⟩:=bI hu' ex
  have hkr:=hfit.2 r (List.mem_of_getElem? er)
  have eg:rows.getD i []=r:=by rw [List.getD_eq_getElem?_getD,er];rfl
  rw [eg] at rr
  dsimp only [tB,tCB,dH]
  refine aGs vs (ts.map fun t=>V.bl (oZ hd r t)) (by rw [List.length_map];omega) [none,some vh,some u] ?_ (small (by omega)) (sm.aP hp4) (fun R' r'=>⟨_,rfl,r'⟩) (fun j x y ex ey H2 R2 l2 s2 r2=>?_) rfl fun D2 H2 s2 g2=>?_
  ·exact aTr 1 0 (by decide +kernel) (by decide +kernel) rfl rfl rfl rfl (by trivial) (by trivial)
  ·obtain ⟨tt,et,htt⟩:=bI hT ex
   rw [List.getElem?_map,et] at ey
   cases ey
   exact ⟨_,rfl,_,rfl,_,rfl,vh,u,x,hd,r,tt,rfl,W15.hd.same (sm.trans s2),by omega,hr'.same (sm.trans s2),hkr,htt.same (sm.trans s2),okT tt (List.mem_of_getElem? et),fun H3 s3=>r2 H3 s3⟩
  ·refine ⟨D2,ts.map (oZ hd r),rfl,SqL.of (by rw [g2,List.map_map];rfl),?_⟩
   rw [List.all_map]
   exact ⟨_,rfl,rr H2 s2⟩
 have e16:tR hd ts rows=sel (fun i=>ts.all (oZ hd (rows.getD i []))) 0 rows:=(lV fun i r er=>by rw [Nat.zero_add,List.getD_eq_getElem?_getD,er];rfl).symm
 have h16:=(yV (p:=fun i=>ts.all (oZ hd (rows.getD i []))) hu' 0).imp fun _ _ r=>r.same s16
 rw [←e16] at h16
 have fit1:Fit hd (tR hd ts rows):=aO2 hfit
 have l16:=h16.len
 have lw63:=fit1.1
 refine ⟨D16,_,_,knds hd,rfl,SqL.of hD16,jP h16,by omega,pX hok.1,fit1.2,fun C17 H17 us17 n17 s17 g17 h17=>?_⟩
 have hC17:bV K H17 C17 (srt (tR hd ts rows)):=⟨us17,g17,(lK h17).imp fun _ _ r=>r.same s17⟩
 have W17:=W15.same (s16.trans s17)
 have s1517:=s16.trans s17
 have hHQ0:HQ (hs1 n0 hd) (.table n0) hd:=.mk0 rfl (.table (by unfold hs1;rw [if_pos rfl])) hok.1
 have hRQ0:RQ (hs1 n0 hd) (tb1 n0 L rows) (.table n0) rows:=.table (D:=L) (by unfold tb1;rw [if_pos rfl])
 refine ⟨_,rfl,_,rfl,_,rfl,N,_,0,_,rfl,rfl,SqL.of W17.nm,at0 _ _,(by show 2≤sizeLine;decide),fun pq H18 _ s18 g18=>⟨_,rfl,(by show 3≤sizeLine;decide),fun pw H19 _ s19 g19=>⟨_,rfl,?_⟩⟩⟩
 have s1719:=s18.trans s19
 have W19:=W17.same s1719
 refine ⟨d,tb,C17,L,.ref pw,vh,n0,hd,hd,rows,tR hd ts rows,.whr (.table n0) ts,rfl,W19.dh,W19.hd,W19.dt,W19.rw',.whr (SqT.of g19) (.table (SqT.of (s19 _ _ g18)) hn0) ⟨⟨p4,vs,rfl,(s1517.trans s1719).aP hp4,hT.imp fun _ _ h=>h.same (s1517.trans s1719)⟩,lT⟩,(by show 1+ts.length≤20;omega),.mk1 rfl hHQ0 (.whr okT) hok.1,.one rfl hHQ0 hRQ0 hfit (.whr okT),fit1,hC17.same s1719,lr63,fun H20 s20=>⟨_,rfl,bF ?_⟩⟩
 have W20:=W19.same s20
 clear hC17 h17 g17 h16 e16 hD16 hp4 hT W19 W17 W15 hD hu'
 refine ⟨_,rfl,_,rfl,a,vh,hd,1,rfl,W20.st,W20.hd,hok.1,Nat.le_refl _,fun S H21 cs hd2 f21 fS gS hS sub l21=>?_⟩
 have W21:=WF W20 f21
 have lcs:=hS.len
 have lsub:=sub.2.2
 have good2:Good hd2:=⟨sub.2.1,l21,by omega⟩
 have ezp:(hd2.map Prod.fst).zip (hd2.map Prod.snd)=hd2:=zip_fst_snd hd2
 have lks:Looks hd (hd2.map Prod.fst) (hd2.map Prod.snd):=aOq hok.1.1 sub.1
 dsimp only [bZ,mL,mX]
 refine lG [none,none,some vh] ?_ ⟨_,rfl,S,rfl,⟨_,SqL.of gS⟩,qD Same (jY H21) cs (fun _=>true) (fun i _ y=>∃c',hd2[i]?=some c'∧y=.int (plc hd c'.1:Nat)) (fun _ _ h=>h) (fun _ _ _ h=>h) (fun i σ=>∃c',hd2[i]?=some c'∧At2 [none,none,some vh] (.str c'.1) (.str c'.2) σ) (Ps2 [none,none,some vh]) ⟨none,none,rfl⟩ (small (by omega)) _ (rW fun H' s'=>SqL.of (s' _ _ gS)) (lO fun H' s'=>SqL.of (s' _ _ gS)) (fun i x σ' H' Q' ex hps s' qq=>?_) (fun i x σ2 ex hA H' R s' r=>r H' (Same.refl _)) (fun i x σ2 ex hA hp H' R s' r=>?_) fun Sp H22 ys s22 fSp g22 hys=>?_⟩
 ·refine ⟨rfl,fun i y v h1 h2=>?_⟩
  match i,h1,h2 with
  |0,_,h2=>cases h2
  |1,_,h2=>cases h2
  |2,h1,h2=>cases h1;cases h2;exact ⟨by decide +kernel,3,rfl,rfl,(by trivial)⟩
  |i+3,h1,_=>cases h1
 ·obtain ⟨c',hc',p',rfl,hp'⟩:=bI hS ex
  exact hg2 (s'.aP hp') hps fun σ2 h1 h2=>qq σ2 h1 ⟨c',hc',h2⟩
 ·obtain ⟨c',hc',rfl⟩:=hA
  exact ⟨_,rfl,_,rfl,vh,c'.1,hd,c'.2,rfl,W21.hd.same s',by omega,rP hok.1.1 (sub.1 c' (List.mem_of_getElem? hc')),fun H2 s2=>r _ H2 s2 ⟨c',hc',rfl⟩⟩
 rw [eY] at hys
 obtain ⟨ly1,ly2⟩:=dM hys
 have ey:ys=((hd2.map Prod.fst).map (plc hd)).map fun i=>V.int (i:Nat):=List.ext_getElem? fun i=>by
  cases ez:ys[i]? with
  |some z=>
   obtain ⟨c',hc',rfl⟩:=ly2 i z ez
   rw [List.getElem?_map,List.getElem?_map,List.getElem?_map,hc'];rfl
  |none=>
   have:=List.getElem?_eq_none_iff.mp ez
   exact (List.getElem?_eq_none (by rw [List.length_map,List.length_map,List.length_map];omega)).symm
 subst ey
 have W22:=W21.same s22
 obtain ⟨us,hD,hu'⟩:=id W22.rw'
 have lu:=hu'.len
 dsimp only [bZ,mL,mX,tCB,dH]
 refine lG [none,some (.ref Sp)] (dF 10 (by decide +kernel) rfl rfl (by trivial)) ⟨_,rfl,L,rfl,⟨us,SqL.of hD⟩,qD Same (jY H22) us (fun _=>true) (fun i H' y=>∃r,rows[i]?=some r∧nZ K H' y (nY ((hd2.map Prod.fst).map (plc hd)) r)) (fun _ s2 ⟨r,e,h⟩=>⟨r,e,h.same s2⟩) (fun hD0 _ hL ⟨r,e,a,ea,h⟩=>⟨r,e,a,ea,SqT.wH hL h⟩) (fun i σ=>∃u l,us[i]?=some u∧σ=(List.set [none,some (.ref Sp)] 0 l).set 0 (some u)) (fun σ=>∃l,σ=List.set [none,some (.ref Sp)] 0 l) ⟨none,rfl⟩ (small (by omega)) (Itl K L) (rW fun H' e=>SqL.of (e _ _ hD)) (lO fun H' e=>SqL.of (e _ _ hD)) (fun i x σ' H' Q' ex ps sm r=>?_) (fun i x σ2 ex at2 H' R sm r=>r H' (Same.refl _)) (fun i x σ2 ex at2 _ H' R sm rr=>?_) fun D23 H23 zs s23 f23 g23 al=>?_⟩
 ·obtain ⟨l,rfl⟩:=ps
  exact r _ ⟨some x,rfl⟩ ⟨x,l,ex,rfl⟩
 ·obtain ⟨x',l,ex',rfl⟩:=at2
  rw [ex] at ex'
  cases ex'
  obtain ⟨r,er,p,rfl,hp⟩:=bI hu' ex
  have hkr:=hfit.2 r (List.mem_of_getElem? er)
  dsimp only [tCB,dH]
  refine aLr (((hd2.map Prod.fst).map (plc hd)).map fun i=>V.int (i:Nat)) (nY ((hd2.map Prod.fst).map (plc hd)) r) (by simp [nY]) [none,some (.ref p)] ?_ (small (by rw [List.length_map,List.length_map,List.length_map];omega)) (sm _ _ g22) (fun R' r'=>⟨_,rfl,r'⟩) (fun j x y ex ey H2 R2 l2 s2 r2=>?_) rfl fun D2 H2 s2 g2=>?_
  ·exact aWq 0 (by decide +kernel) rfl rfl (by trivial)
  ·unfold nY at ey
   rw [List.getElem?_map] at ex ey
   obtain ⟨n,en,rfl⟩:=Option.map_eq_some_iff.mp ex
   rw [en] at ey
   cases ey
   obtain ⟨m,hm,rfl⟩:=List.mem_map.mp (List.mem_of_getElem? en)
   obtain ⟨mi,hmi⟩:=List.mem_iff_getElem?.mp hm
   obtain ⟨k,_,lk⟩:=bI lks hmi
   have hn':=(yW hkr (lA lk).1).1
   refine ⟨_,rfl,_,rfl,p,r,_,_,rfl,rfl,(sm.trans s2).aP hp,?_,r2 H2 (Same.refl _)⟩
   have e:r.getD (plc hd m) .non=r[plc hd m]:=by simp [hn']
   show atI r ((plc hd m:Nat):Int)=some (r.getD (plc hd m) .non)
   rw [e]
   exact dO (List.getElem?_eq_getElem hn')
  ·exact ⟨D2,_,rfl,SqL.of g2,fun t H3 _ s3 g3=>rr _ H3 (s2.trans s3) ⟨r,er,t,rfl,SqT.of g3⟩⟩
 rw [eY] at al
 obtain ⟨lz1,lz2⟩:=dM al
 have h23:bQ (nZ K H23) zs (keepR hd (hd2.map Prod.fst) rows):=gY (by unfold keepR;rw [List.length_map];omega) fun i z y ez ey=>by
  obtain ⟨r,er,hz'⟩:=lz2 i z ez
  unfold keepR at ey
  rw [List.getElem?_map,er] at ey
  cases ey
  exact hz'
 have fit2:Fit hd2 (keepR hd (hd2.map Prod.fst) rows):=by
  have:=aPb lks hfit
  rw [ezp] at this
  exact this
 have lk63:=fit2.1
 have l23:=h23.len
 refine ⟨D23,_,_,knds hd2,rfl,SqL.of g23,jP h23,by omega,pX good2,fit2.2,fun C24 H24 us24 n24 s24 g24 h24=>?_⟩
 have hC24:bV K H24 C24 (srt (keepR hd (hd2.map Prod.fst) rows)):=⟨us24,g24,(lK h24).imp fun _ _ r=>r.same s24⟩
 have s2124:=s22.trans (s23.trans s24)
 have W24:=W21.same s2124
 have hHQ2:HQ (hs1 n0 hd) (.keep (.table n0) (hd2.map Prod.fst)) hd2:=by
  have h:=HH.keep (hs:=hs1 n0 hd) (q:=.table n0) lks
  rw [ezp] at h
  exact .mk1 rfl hHQ0 h good2
 clear al lz2 g23 h23 h24 g24 hys ly2 g22 hD hu'
 refine ⟨_,rfl,_,rfl,_,rfl,N,_,0,_,rfl,rfl,SqL.of W24.nm,at0 _ _,(by show 2≤sizeLine;decide),fun pq H25 _ s25 g25=>?_⟩
 have s2125:=s2124.trans s25
 dsimp only [tCB,dH]
 refine lG [none,none] pR ⟨_,rfl,S,rfl,⟨_,SqL.of (s2125 _ _ gS)⟩,qD Same (jY H25) cs (fun _=>true) (fun i _ y=>∃c',hd2[i]?=some c'∧y=.str c'.1) (fun _ _ h=>h) (fun _ _ _ h=>h) (fun i σ=>∃c',hd2[i]?=some c'∧At2 [none,none] (.str c'.1) (.str c'.2) σ) (Ps2 [none,none]) ⟨none,none,rfl⟩ (small (by omega)) _ (rW fun H' s'=>SqL.of (s' _ _ (s2125 _ _ gS))) (lO fun H' s'=>SqL.of (s' _ _ (s2125 _ _ gS))) (fun i x σ' H' Q' ex hps s' qq=>?_) (fun i x σ2 ex hA H' R s' r=>r H' (Same.refl _)) (fun i x σ2 ex hA hp H' R s' r=>?_) fun D26 H26 ys s26 f26 g26 hys=>?_⟩
 ·obtain ⟨c',hc',p',rfl,hp'⟩:=bI hS ex
  exact hg2 ((s2125.trans s').aP hp') hps fun σ2 h1 h2=>qq σ2 h1 ⟨c',hc',h2⟩
 ·obtain ⟨c',hc',rfl⟩:=hA
  exact ⟨_,rfl,r _ _ (Same.refl H') ⟨c',hc',rfl⟩⟩
 rw [eY] at hys
 obtain ⟨ly1',ly2⟩:=dM hys
 have hN26:bQ IsN ys (hd2.map Prod.fst):=gY (by rw [List.length_map];omega) fun i z y ez ey=>by
  obtain ⟨c',hc',rfl⟩:=ly2 i z ez
  rw [List.getElem?_map,hc'] at ey
  cases ey
  exact ⟨rfl,(hok.2 c' (sub.1 c' (List.mem_of_getElem? hc'))).1⟩
 refine ⟨D26,_,rfl,SqL.of g26,fun t27 H27 _ s27 g27=>⟨(by show 3≤sizeLine;decide),fun pw H28 _ s28 g28=>⟨_,rfl,?_⟩⟩⟩
 have s2528:=s26.trans (s27.trans s28)
 have s2428:=s25.trans s2528
 have W28:=W24.same s2428
 refine ⟨d,tb,C24,L,.ref pw,vh,n0,hd,hd2,rows,keepR hd (hd2.map Prod.fst) rows,.keep (.table n0) (hd2.map Prod.fst),rfl,W28.dh,W28.hd,W28.dt,W28.rw',.keep (SqT.of g28) (.table (s2528.aP (SqT.of g25)) hn0) ⟨⟨t27,ys,rfl,s28.aP (SqT.of g27),hN26⟩,(by rw [List.length_map];omega),(by rw [List.length_map];omega)⟩,(by show 1+1≤20;decide),hHQ2,.one rfl hHQ0 hRQ0 hfit (.keep lks),fit2,hC24.same s2428,lr63,fun H29 s29=>⟨_,rfl,bF ?_⟩⟩
 have W29:=W28.same s29
 clear hC24 hys ly2 g26 g27 g28 hN26 W28 W24 W22 W21 gS hS
 refine ⟨_,rfl,a,14,rfl,W29.st,by decide,fun tz H30 f30 t0 t1=>?_⟩
 obtain ⟨tn,rfl⟩:∃tn:Nat,tz=tn:=⟨tz.toNat,by omega⟩
 have W30:=WF W29 f30
 obtain ⟨hb,hus,rfl,hhb,hhu⟩:=id W30.hd
 have lhu:=hhu.len
 have lfr:(turned (n0::nr) tn hd.length).length=hd.length:=by simp [turned]
 obtain ⟨tnd,tnm⟩:=aL5 hn tn (n:=hd.length) (by omega)
 dsimp only [bZ,mL,mX,tCB,dH]
 refine fG ((List.range hd.length).map fun i:Nat=>V.int (0+(i:Int))) ((turned (n0::nr) tn hd.length).map V.str) (by rw [List.length_map,List.length_map,List.length_range,lfr]) [none,some (.ref N),some (.int (tn:Nat))] ?_ (small (by rw [List.length_map,List.length_range];omega)) (fun R r=>aRy hd.length (fun R' r'=>⟨_,rfl,hb,_,rfl,.inr hhb,by rw [←lhu] at r';exact r'⟩) (by omega) R r) (fun i x y ex ey H' R l sm r=>?_) rfl fun F31 H31 s31 g31=>?_
 ·exact sY 2 11 (by decide +kernel) (by decide +kernel) rfl rfl rfl rfl (by trivial) (by trivial)
 ·obtain ⟨hi,rfl⟩:=aO4 ex
  obtain ⟨fn,hfn,rfl⟩:=gC ey
  have hfi:(n0::nr)[3+(tn+i) % 14]?=some fn:=aL0 hn hfn
  refine ⟨_,rfl,_,rfl,_,rfl,_,_,rfl,rfl,_,_,rfl,rfl,(by show (0:Int)<14;decide),_,_,rfl,rfl,N,_,_,_,rfl,rfl,SqL.of (sm _ _ W30.nm),?_,r _ (Same.refl H')⟩
  have e:(3+((tn:Int)+(0+(i:Int))) % 14)=((3+(tn+i) % 14:Nat):Int):=by omega
  rw [e]
  exact dO (by rw [List.getElem?_map,hfi];rfl)
 refine ⟨F31,_,rfl,SqL.of g31,fun t32 H32 _ s32 g32=>?_⟩
 have W32:=W30.same (s31.trans s32)
 generalize turned (n0::nr) tn hd.length=fr at lfr tnd tnm g32
 refine ⟨_,rfl,_,rfl,_,rfl,N,_,0,_,rfl,rfl,SqL.of W32.nm,at0 _ _,(by show 2≤sizeLine;decide),fun pq H33 _ s33 g33=>⟨_,rfl,(by show 3≤sizeLine;decide),fun pw H34 _ s34 g34=>?_⟩⟩
 have W34:=W32.same (s33.trans s34)
 obtain ⟨us,hD,hu'⟩:=id W34.rw'
 have lu:=hu'.len
 refine ⟨_,rfl,L,us,rows,knds hd,rfl,SqL.of hD,jP hu',by omega,pX hok.1,hfit.2,fun C35 H35 us35 n35 s35 g35 h35=>?_⟩
 have hC35:bV K H35 C35 (srt rows):=⟨us35,g35,(lK h35).imp fun _ _ r=>r.same s35⟩
 have W35:=W34.same s35
 have hNf:bQ IsN (fr.map V.str) fr:=gY (by rw [List.length_map]) fun i z y ez ey=>by
  rw [List.getElem?_map,ey] at ez
  cases ez
  exact ⟨rfl,tnm y (List.mem_of_getElem? ey)⟩
 have l1h:=hok.1.2.1
 refine ⟨d,tb,C35,L,.ref pw,_,n0,hd,_,rows,rows,.nmd (.table n0) fr,rfl,W35.dh,W35.hd,W35.dt,W35.rw',.nmd (s35.aP (SqT.of g34)) (.table ((s34.trans s35).aP (SqT.of g33)) hn0) ⟨⟨t32,fr.map V.str,rfl,(s33.trans (s34.trans s35)).aP (SqT.of g32),hNf⟩,by omega,by omega⟩,(by show 1+1≤20;decide),.mk1 rfl hHQ0 (.nmd lfr) (aH6 lfr tnd hok.1),.one rfl hHQ0 hRQ0 hfit .nmd,aLv lfr hfit,hC35,lr63,fun H36 s36=>⟨_,rfl,bF ?_⟩⟩
 have W36:=W35.same s36
 clear hC35 h35 g35 hD hu' W34 W35 W32 W30
 refine ⟨_,rfl,_,rfl,_,rfl,N,_,0,_,rfl,rfl,SqL.of W36.nm,at0 _ _,(by show 2≤sizeLine;decide),fun pw H37 _ s37 g37=>?_⟩
 have W37:=W36.same s37
 obtain ⟨us,hD,hu'⟩:=id W37.rw'
 have lu:=hu'.len
 refine ⟨_,rfl,L,us,rows,knds hd,rfl,SqL.of hD,jP hu',by omega,pX hok.1,hfit.2,fun C38 H38 us38 n38 s38 g38 h38=>?_⟩
 have hC38:bV K H38 C38 (srt rows):=⟨us38,g38,(lK h38).imp fun _ _ r=>r.same s38⟩
 have W38:=W37.same s38
 exact ⟨d,tb,C38,L,.ref pw,_,n0,hd,hd,rows,rows,.table n0,rfl,W38.dh,W38.hd,W38.dt,W38.rw',.table (s38.aP (SqT.of g37)) hn0,(by show 1≤20;decide),hHQ0,hRQ0,hfit,hC38,lr63,fun H39 s39=>q H39⟩
theorem aHa (T:Txt w K mg):Ok P w K mg base 27 "head_of" ["heads","question"] (aFl K):=by
 have g1:=aHl (P:=P) (base:=base) T
 have g2:=aIc (P:=P) (base:=base) T
 have g3:=aIr T g2
 have g4:=aEz T g1 g2
 have g5:=aIx T g1
 have g6:=aEp (P:=P) (base:=base) T
 have g7:=aQq g3
 have fm:Forms P w K mg base:=⟨g7,rF T,aD3 T (aI8 T g6 g3 (aE7 T g6 g4 g3)) (cQ T),aEe T g7 (cQ T),qQ T g7 (cQ T),aEc T (aH5 T g7 (cQ T)) (cQ T),aFc T (aM6 T g6 g3) (cQ T),aHn T (aNd T g6 g3) (cQ T),aJ2 T g1⟩
 have g8:=nW (P:=P) (base:=base) T
 have g9:=aJg (P:=P) (base:=base) T
 have g10:=qM (P:=P) (base:=base) T
 have g11:=xT T (zO (P:=P) (base:=base) T)
 have g12:=aCv T g9
 have g13:=aDe T (aAi T) (aAl T g10 g9 (yZ T g5 g9)) g12 (aAa T) (aCd T g10 g9 g11) (zH T g12 (aFt T g9)) (aAf T g12 g11)
 exact aIs T (pF T g8 g13 g11 (tU T) 20) (aJw T (aGo T fm g6) g8 (aF3 T))
theorem all_rows (T:Txt w K mg):Ok P w K mg base 49 "rows_of" ["heads","tables","question"] (vM K)∧Ok P w K mg base 49 "whole" ["heads","tables","question"] (vM K):=by
 have g1:=aHa (P:=P) (base:=base) T
 have g2:=aFp T (tU (P:=P) (base:=base) T)
 have g3:=aCx T (zJ T (aNt T g2 (aGc T))) (aEj T (aEd T g2) (aMm T))
 have g4:=pB T (nW T) g3 g1 20
 exact ⟨aH3 T g1 g4,aQk T g1 g4 (rO T (aJj T g2))⟩
theorem aVu {fa:Addr} (T:Txt w K mg) (hmg:mg "law"=some (.ref fa)) :
  ∃fd:FuncData,(∀(s:Shared) (u:Value),BindsTo s fd ⟨[u],[]⟩ [("_law_script",u)])∧∀base:Heap,K.In base→base.Ns mainGlobals mg→lW P w K mg base CX0 51 fa fd ["_law_script"] (aC8 K):=by
 obtain ⟨f,fd,F,B,m⟩:=T.aWd
 have e:fa=f:=by
  rw [m] at hmg
  injection hmg with e
  injection e with e
  exact e.symm
 subst e
 refine ⟨fd,?_,fun base _ _=>?_⟩
 ·obtain ⟨⟨oc,od,kV,doc,pm,an,cdv,ct,osl,rfl,lk,hcd⟩,kp⟩:=F
  exact fun s u=>.of_eq rfl
 ·have n1:=aDa (P:=P) (base:=base) T
  have n2:=aAd T n1 (zP T n1)
  have n3:=aEg T n1
  have n5:=zB T n1 n2
  have n6:=aHy (P:=P) (base:=base) T
  obtain ⟨r1,r2⟩:=all_rows (P:=P) (base:=base) T
  exact aT1 F T (zQ T (aCb T)) n1 (zX T n1 (zW T)) (aCo T n1) (aGv T n2) n5 n3 n6 (zV T n6) (zN T r1 r2 (aCe T))
end
inductive FA (K:PySem.W.Frag) (n:Str) (s:Stmt) (f:Addr):Prop
 |mk {od an:Option Addr} {sl:Array (Option Value)} {kV dc pm cd ct:Value}:PySem.W.nsIn K mainGlobals n=some (some (.ref f))→K.lookup f=some ⟨.type "function",od,.func (PySem.W.fnOf n n (pW s) (iQ s) (aF s) .none kV dc pm an cd ct),sl⟩→PySem.W.codeIn K cd n=true→PySem.W.keepIn K (.ref f)=true→FA K n s f
section
variable {K:PySem.W.Frag} {h:Heap} {mg:Str→Option Value} {n:Str} {s:Stmt} {f:Addr} {ps:List Str}
theorem gU (X:K.In h) (G:h.Ns mainGlobals mg) (a:FA K n s f):mg n=some (.ref f):=by
 obtain ⟨a,_,_,_⟩:=a
 exact PySem.W.mg_of X G a
theorem bB (X:K.In h) (G:h.Ns mainGlobals mg) (a:FA K n s f) (b:∀(kV doc pm:Value) (an:Option Addr) (cdv ct:Value) (us:List Value),us.length=ps.length→bindArgs (PySem.W.fnOf n n (pW s) (iQ s) (aF s) .none kV doc pm an cdv ct) ⟨us,[]⟩=pure (ps.zip us)):Dn K mg n s ps:=by
 have m:=gU X G a
 obtain ⟨_,l,c,k⟩:=a
 exact ⟨f,_,aPe l c k,(aPe l c k).binds b,m⟩
theorem aEw (X:K.In h) (G:h.Ns mainGlobals mg) (a:FA K n s f):∃f o,(∃u,mg n=some u∧RelV (.ref f) u)∧K.lookup f=some o∧o.cls=.type "function":=by
 have m:=gU X G a
 obtain ⟨_,l,c,k⟩:=a
 exact ⟨f,_,⟨_,m,rfl⟩,l,rfl⟩
end
theorem ln0 {P:List Value→Prop} (h:P []):∀us:List Value,us.length=0→P us
 |[],_=>h
theorem ln1 {P:List Value→Prop} (h:∀a0,P [a0]):∀us:List Value,us.length=1→P us
 |[a0],_=>h a0
theorem ln2 {P:List Value→Prop} (h:∀a0 a1,P [a0,a1]):∀us:List Value,us.length=2→P us
 |[a0,a1],_=>h a0 a1
theorem ln3 {P:List Value→Prop} (h:∀a0 a1 a2,P [a0,a1,a2]):∀us:List Value,us.length=3→P us
 |[a0,a1,a2],_=>h a0 a1 a2
theorem ln4 {P:List Value→Prop} (h:∀a0 a1 a2 a3,P [a0,a1,a2,a3]):∀us:List Value,us.length=4→P us
 |[a0,a1,a2,a3],_=>h a0 a1 a2 a3
theorem ln5 {P:List Value→Prop} (h:∀a0 a1 a2 a3 a4,P [a0,a1,a2,a3,a4]):∀us:List Value,us.length=5→P us
 |[a0,a1,a2,a3,a4],_=>h a0 a1 a2 a3 a4
theorem ln6 {P:List Value→Prop} (h:∀a0 a1 a2 a3 a4 a5,P [a0,a1,a2,a3,a4,a5]):∀us:List Value,us.length=6→P us
 |[a0,a1,a2,a3,a4,a5],_=>h a0 a1 a2 a3 a4 a5
local macro_rules
 |`(tactic| trivial)=>`(tactic| first|exact (fun _ _ _ _ _ _=>ln1 fun _=>rfl)|exact (fun _ _ _ _ _ _=>ln2 fun _ _=>rfl)|exact (fun _ _ _ _ _ _=>ln3 fun _ _ _=>rfl)|exact (fun _ _ _ _ _ _=>ln4 fun _ _ _ _=>rfl)|exact (fun _ _ _ _ _ _=>ln0 rfl)|exact (fun _ _ _ _ _ _=>ln5 fun _ _ _ _ _=>rfl)|exact (fun _ _ _ _ _ _=>ln6 fun _ _ _ _ _ _=>rfl))
theorem aUl {K:PySem.W.Frag} {h:Heap} {mg:Str→Option Value} (X:K.In h) (G:h.Ns mainGlobals mg) {w:World} {f0 f1 f2 f3 f4 f5 f6 f7 f8 f9 f10 f11 f12 f13 f14 f15 f16 f17 f18 f19 f20 f21 f22 f23 f24 f25 f26 f27 f28 f29 f30 f31 f32 f33 f34 f35 f36 f37 f38 f39 f40 f41 f42 f43 f44 f45 f46 f47 f48 f49 f50 f51 f52 f53 f54 f55 f56 f57 f58 f59 f60 f61 f62 f63 f64 f65 f66 f67 f68 f69 f70 f71 f72 f73 f74 f75:Addr} {kY:Addr} {dX:Obj} {kI:Array Value} {sX:Nat} {aJt:Tok} {wC:Tok} {wG:Tok} {aG3:Addr} {tX:Obj} {aFm:Array Value} {aQr:Nat} {tQ:Addr} {jE:Obj} {sZ:Array Value} {aC5:Nat} {aKb:Addr} {wR:Obj} {aJ9:Array Value} {aSp:Nat} {aAe:Tok} {aAh:Tok} {aAm:Tok} {aBu:Tok} {aBz:Tok} {aCj:Tok} {aB7:Tok} {rZ:Addr} {tH:Obj} {aE6:Array DictEntry} {aPn:Nat} {tt14_0:Addr} {to14_0:Obj} {ti14_0:Array Value} {tn14_0:Nat} {tt14_1:Addr} {to14_1:Obj} {ti14_1:Array Value} {tn14_1:Nat} {tt14_2:Addr} {to14_2:Obj} {ti14_2:Array Value} {tn14_2:Nat} {tt14_3:Addr} {to14_3:Obj} {ti14_3:Array Value} {tn14_3:Nat} {tt14_4:Addr} {to14_4:Obj} {ti14_4:Array Value} {tn14_4:Nat} {tt14_5:Addr} {to14_5:Obj} {ti14_5:Array Value} {tn14_5:Nat} {tt14_6:Addr} {to14_6:Obj} {ti14_6:Array Value} {tn14_6:Nat}
  (a0:FA K "is_whole" qX f0)
  (a1:FA K "is_word" uY f1)
  (a2:FA K "is_one_of" oR f2)
  (a3:FA K "is_tuple_of" iI f3)
  (a4:FA K "are_unlike" mF f4)
  (a5:FA K "names_of" rB f5)
  (a6:FA K "is_name" uZ f6)
  (a7:FA K "is_value" rK f7)
  (a8:FA K "kind_of" uP f8)
  (a9:FA K "is_other" rG f9)
  (a10:FA K "is_test" uQ f10)
  (a11:FA K "is_pair" vB f11)
  (a12:FA K "is_sum" xG f12)
  (a13:FA K "is_key" yL f13)
  (a14:FA K "is_many" uN f14)
  (a15:FA K "are_tests" pA f15)
  (a16:FA K "are_names" oV f16)
  (a17:FA K "are_group_names" gG f17)
  (a18:FA K "are_pairs" oN f18)
  (a19:FA K "are_sums" rD f19)
  (a20:FA K "are_keys" rA f20)
  (a21:FA K "may_be_question" gA f21)
  (a22:FA K "has_form" rJ f22)
  (a23:FA K "questions_in" jO f23)
  (a24:FA K "own_size" qU f24)
  (a25:FA K "checked" vP f25)
  (a26:FA K "kind_in" uT f26)
  (a27:FA K "need_like_kinds" fX f27)
  (a28:FA K "need_unlike" lC f28)
  (a29:FA K "table_head" lX f29)
  (a30:FA K "other_kind" mK f30)
  (a31:FA K "where_head" gQ f31)
  (a32:FA K "keep_head" kJ f32)
  (a33:FA K "named_head" mR f33)
  (a34:FA K "join_head" fK f34)
  (a35:FA K "sum_kind" rC f35)
  (a36:FA K "group_head" jA f36)
  (a37:FA K "first_head" lY f37)
  (a38:FA K "head_here" pL f38)
  (a39:FA K "head_within" iK f39)
  (a40:FA K "head_of" vC f40)
  (a41:FA K "place_of" rE f41)
  (a42:FA K "places_of" kE f42)
  (a43:FA K "picked" uE f43)
  (a44:FA K "rows_by" aA3 f44)
  (a45:FA K "compares" rM f45)
  (a46:FA K "holds" aC7 f46)
  (a47:FA K "where_rows" jG f47)
  (a48:FA K "keep_rows" kW f48)
  (a49:FA K "join_rows" pM f49)
  (a50:FA K "summed" aG9 f50)
  (a51:FA K "group_rows" mD f51)
  (a52:FA K "sorted_by" oU f52)
  (a53:FA K "ordered" vQ f53)
  (a54:FA K "first_rows" nJ f54)
  (a55:FA K "rows_here" oJ f55)
  (a56:FA K "rows_within" eV f56)
  (a57:FA K "in_answer_order" fU f57)
  (a58:FA K "rows_of" uW f58)
  (a59:FA K "whole" aDi f59)
  (a60:FA K "_law_seed" oE f60)
  (a61:FA K "_law_begin" nC f61)
  (a62:FA K "_law_next" oK f62)
  (a63:FA K "_law_words" nM f63)
  (a64:FA K "_law_names" jF f64)
  (a65:FA K "_law_great" nH f65)
  (a66:FA K "_law_value" mH f66)
  (a67:FA K "_law_head" oY f67)
  (a68:FA K "_law_row" mV f68)
  (a69:FA K "_law_tests" jD f69)
  (a70:FA K "_law_some" jZ f70)
  (a71:FA K "_law_at" vA f71)
  (a72:FA K "_law_holds" mO f72)
  (a73:FA K "_law_same" oH f73)
  (a74:FA K "_law_asked" lZ f74)
  (a75:FA K "law" rR f75)
  (q0:PySem.W.nsIn K mainGlobals "QUESTION_WORDS"=some (some (.ref kY))) (r0:K.lookup kY=some dX) (t0:dX.cls=.type "tuple") (y0:dX.dict=none) (u0:dX.data=.seq kI sX) (v0:Vals [.str "and",.str "by",.str "count",.str "down",.str "first",.str "group",.str "join",.str "keep",.str "least",.str "most",.str "named",.str "on",.str "sum",.str "table",.str "up",.str "where",.str "with"] kI.toList)
  (q1:PySem.W.nsIn K mainGlobals "LETTERS"=some (some (.str "abcdefghijklmnopqrstuvwxyz" aJt)))
  (q2:PySem.W.nsIn K mainGlobals "MOST_LETTERS"=some (some (.int 8 wC)))
  (q3:PySem.W.nsIn K mainGlobals "MOST_COLUMNS"=some (some (.int 8 wG)))
  (q4:PySem.W.nsIn K mainGlobals "SIGNS"=some (some (.ref aG3))) (r4:K.lookup aG3=some tX) (t4:tX.cls=.type "tuple") (y4:tX.dict=none) (u4:tX.data=.seq aFm aQr) (v4:Vals [.str "=",.str "<",.str ">",.str "!"] aFm.toList)
  (q5:PySem.W.nsIn K mainGlobals "SUM_WORDS"=some (some (.ref tQ))) (r5:K.lookup tQ=some jE) (t5:jE.cls=.type "tuple") (y5:jE.dict=none) (u5:jE.data=.seq sZ aC5) (v5:Vals [.str "count",.str "sum",.str "least",.str "most"] sZ.toList)
  (q6:PySem.W.nsIn K mainGlobals "WAYS"=some (some (.ref aKb))) (r6:K.lookup aKb=some wR) (t6:wR.cls=.type "tuple") (y6:wR.dict=none) (u6:wR.data=.seq aJ9 aSp) (v6:Vals [.str "up",.str "down"] aJ9.toList)
  (q7:PySem.W.nsIn K mainGlobals "MOST_TESTS"=some (some (.int 3 aAe)))
  (q8:PySem.W.nsIn K mainGlobals "MOST_NAMES"=some (some (.int 8 aAh)))
  (q9:PySem.W.nsIn K mainGlobals "MOST_PAIRS"=some (some (.int 3 aAm)))
  (q10:PySem.W.nsIn K mainGlobals "MOST_SUMS"=some (some (.int 4 aBu)))
  (q11:PySem.W.nsIn K mainGlobals "MOST_KEYS"=some (some (.int 3 aBz)))
  (q12:PySem.W.nsIn K mainGlobals "MOST_ROWS"=some (some (.int 60 aCj)))
  (q13:PySem.W.nsIn K mainGlobals "MOST_SIZE"=some (some (.int 20 aB7)))
  (q14:PySem.W.nsIn K mainGlobals "FORMS"=some (some (.ref rZ))) (r14:K.lookup rZ=some tH) (x14:tH.ExactDict) (o14:(rZ == sysModules)=false) (u14:tH.data=.dict aE6 aPn) (h14:∀P:Program,PH P w aE6.toList [("table",Value.ref tt14_0),("where",Value.ref tt14_1),("keep",Value.ref tt14_2),("named",Value.ref tt14_3),("join",Value.ref tt14_4),("group",Value.ref tt14_5),("first",Value.ref tt14_6)])
  (r14_0:K.lookup tt14_0=some to14_0) (t14_0:to14_0.cls=.type "tuple") (y14_0:to14_0.dict=none) (u14_0:to14_0.data=.seq ti14_0 tn14_0) (v14_0:Vals [.ref f6] ti14_0.toList)
  (r14_1:K.lookup tt14_1=some to14_1) (t14_1:to14_1.cls=.type "tuple") (y14_1:to14_1.dict=none) (u14_1:to14_1.data=.seq ti14_1 tn14_1) (v14_1:Vals [.ref f21,.ref f15] ti14_1.toList)
  (r14_2:K.lookup tt14_2=some to14_2) (t14_2:to14_2.cls=.type "tuple") (y14_2:to14_2.dict=none) (u14_2:to14_2.data=.seq ti14_2 tn14_2) (v14_2:Vals [.ref f21,.ref f16] ti14_2.toList)
  (r14_3:K.lookup tt14_3=some to14_3) (t14_3:to14_3.cls=.type "tuple") (y14_3:to14_3.dict=none) (u14_3:to14_3.data=.seq ti14_3 tn14_3) (v14_3:Vals [.ref f21,.ref f16] ti14_3.toList)
  (r14_4:K.lookup tt14_4=some to14_4) (t14_4:to14_4.cls=.type "tuple") (y14_4:to14_4.dict=none) (u14_4:to14_4.data=.seq ti14_4 tn14_4) (v14_4:Vals [.ref f21,.ref f21,.ref f18] ti14_4.toList)
  (r14_5:K.lookup tt14_5=some to14_5) (t14_5:to14_5.cls=.type "tuple") (y14_5:to14_5.dict=none) (u14_5:to14_5.data=.seq ti14_5 tn14_5) (v14_5:Vals [.ref f21,.ref f17,.ref f19] ti14_5.toList)
  (r14_6:K.lookup tt14_6=some to14_6) (t14_6:to14_6.cls=.type "tuple") (y14_6:to14_6.dict=none) (u14_6:to14_6.data=.seq ti14_6 tn14_6) (v14_6:Vals [.ref f21,.ref f20,.ref f14] ti14_6.toList)
  (z0:PySem.W.nsIn K mainGlobals "abs"=some none)
  (z1:PySem.W.nsIn K mainGlobals "all"=some none)
  (z2:PySem.W.nsIn K mainGlobals "any"=some none)
  (z3:PySem.W.nsIn K mainGlobals "bool"=some none)
  (z4:PySem.W.nsIn K mainGlobals "dict"=some none)
  (z5:PySem.W.nsIn K mainGlobals "divmod"=some none)
  (z6:PySem.W.nsIn K mainGlobals "enumerate"=some none)
  (z7:PySem.W.nsIn K mainGlobals "int"=some none)
  (z8:PySem.W.nsIn K mainGlobals "isinstance"=some none)
  (z9:PySem.W.nsIn K mainGlobals "len"=some none)
  (z10:PySem.W.nsIn K mainGlobals "list"=some none)
  (z11:PySem.W.nsIn K mainGlobals "max"=some none)
  (z12:PySem.W.nsIn K mainGlobals "min"=some none)
  (z13:PySem.W.nsIn K mainGlobals "range"=some none)
  (z14:PySem.W.nsIn K mainGlobals "reversed"=some none)
  (z15:PySem.W.nsIn K mainGlobals "set"=some none)
  (z16:PySem.W.nsIn K mainGlobals "sorted"=some none)
  (z17:PySem.W.nsIn K mainGlobals "str"=some none)
  (z18:PySem.W.nsIn K mainGlobals "sum"=some none)
  (z19:PySem.W.nsIn K mainGlobals "tuple"=some none)
  (z20:PySem.W.nsIn K mainGlobals "zip"=some none):Txt w K mg:=
 ⟨PySem.W.mg_none_of X G z0,
  PySem.W.mg_none_of X G z1,
  PySem.W.mg_none_of X G z2,
  PySem.W.mg_none_of X G z3,
  PySem.W.mg_none_of X G z4,
  PySem.W.mg_none_of X G z5,
  PySem.W.mg_none_of X G z6,
  PySem.W.mg_none_of X G z7,
  PySem.W.mg_none_of X G z8,
  PySem.W.mg_none_of X G z9,
  PySem.W.mg_none_of X G z10,
  PySem.W.mg_none_of X G z11,
  PySem.W.mg_none_of X G z12,
  PySem.W.mg_none_of X G z13,
  PySem.W.mg_none_of X G z14,
  PySem.W.mg_none_of X G z15,
  PySem.W.mg_none_of X G z16,
  PySem.W.mg_none_of X G z17,
  PySem.W.mg_none_of X G z18,
  PySem.W.mg_none_of X G z19,
  PySem.W.mg_none_of X G z20,
  ⟨_,PySem.W.mg_of X G q0,fun H=>.inr ⟨_,_,_,r0,t0,y0,u0,by have e:=v0.length;simp only [Array.length_toList] at e;rw [←e];exact small (by decide),v0⟩⟩,
  ⟨_,PySem.W.mg_of X G q1,_,rfl⟩,
  ⟨_,PySem.W.mg_of X G q2,_,rfl⟩,
  ⟨_,PySem.W.mg_of X G q3,_,rfl⟩,
  ⟨_,PySem.W.mg_of X G q4,fun H=>.inr ⟨_,_,_,r4,t4,y4,u4,by have e:=v4.length;simp only [Array.length_toList] at e;rw [←e];exact small (by decide),v4⟩⟩,
  ⟨_,PySem.W.mg_of X G q5,fun H=>.inr ⟨_,_,_,r5,t5,y5,u5,by have e:=v5.length;simp only [Array.length_toList] at e;rw [←e];exact small (by decide),v5⟩⟩,
  ⟨_,PySem.W.mg_of X G q6,fun H=>.inr ⟨_,_,_,r6,t6,y6,u6,by have e:=v6.length;simp only [Array.length_toList] at e;rw [←e];exact small (by decide),v6⟩⟩,
  ⟨_,PySem.W.mg_of X G q7,_,rfl⟩,
  ⟨_,PySem.W.mg_of X G q8,_,rfl⟩,
  ⟨_,PySem.W.mg_of X G q9,_,rfl⟩,
  ⟨_,PySem.W.mg_of X G q10,_,rfl⟩,
  ⟨_,PySem.W.mg_of X G q11,_,rfl⟩,
  ⟨_,PySem.W.mg_of X G q12,_,rfl⟩,
  ⟨_,PySem.W.mg_of X G q13,_,rfl⟩,
  ⟨rZ,tt14_0,tt14_1,tt14_2,tt14_3,tt14_4,tt14_5,tt14_6,PySem.W.mg_of X G q14,⟨tH,r14,o14,fun P=>aMd x14 u14 (h14 P) (by show (List.map (fun x:Str × Value=>x.1) [("table",Value.ref tt14_0),("where",Value.ref tt14_1),("keep",Value.ref tt14_2),("named",Value.ref tt14_3),("join",Value.ref tt14_4),("group",Value.ref tt14_5),("first",Value.ref tt14_6)]).Nodup;exact (by decide +kernel:(["table","where","keep","named","join","group","first"]:List Str).Nodup))⟩,⟨f6,fun H=>.inr ⟨_,_,_,r14_0,t14_0,y14_0,u14_0,by have e:=v14_0.length;simp only [Array.length_toList] at e;rw [←e];exact small (by show 1≤1000;decide),v14_0⟩,gU X G a6⟩,⟨f21,f15,fun H=>.inr ⟨_,_,_,r14_1,t14_1,y14_1,u14_1,by have e:=v14_1.length;simp only [Array.length_toList] at e;rw [←e];exact small (by show 2≤1000;decide),v14_1⟩,gU X G a21,gU X G a15⟩,⟨f21,f16,fun H=>.inr ⟨_,_,_,r14_2,t14_2,y14_2,u14_2,by have e:=v14_2.length;simp only [Array.length_toList] at e;rw [←e];exact small (by show 2≤1000;decide),v14_2⟩,gU X G a21,gU X G a16⟩,⟨f21,f16,fun H=>.inr ⟨_,_,_,r14_3,t14_3,y14_3,u14_3,by have e:=v14_3.length;simp only [Array.length_toList] at e;rw [←e];exact small (by show 2≤1000;decide),v14_3⟩,gU X G a21,gU X G a16⟩,⟨f21,f21,f18,fun H=>.inr ⟨_,_,_,r14_4,t14_4,y14_4,u14_4,by have e:=v14_4.length;simp only [Array.length_toList] at e;rw [←e];exact small (by show 3≤1000;decide),v14_4⟩,gU X G a21,gU X G a21,gU X G a18⟩,⟨f21,f17,f19,fun H=>.inr ⟨_,_,_,r14_5,t14_5,y14_5,u14_5,by have e:=v14_5.length;simp only [Array.length_toList] at e;rw [←e];exact small (by show 3≤1000;decide),v14_5⟩,gU X G a21,gU X G a17,gU X G a19⟩,⟨f21,f20,f14,fun H=>.inr ⟨_,_,_,r14_6,t14_6,y14_6,u14_6,by have e:=v14_6.length;simp only [Array.length_toList] at e;rw [←e];exact small (by show 3≤1000;decide),v14_6⟩,gU X G a21,gU X G a20,gU X G a14⟩⟩,
  aEw X G a6,
  aEw X G a10,
  aEw X G a11,
  aEw X G a12,
  aEw X G a13,
  bB X G a0 (by trivial),
  bB X G a1 (by trivial),
  bB X G a2 (by trivial),
  bB X G a3 (by trivial),
  bB X G a4 (by trivial),
  bB X G a5 (by trivial),
  bB X G a6 (by trivial),
  bB X G a7 (by trivial),
  bB X G a8 (by trivial),
  bB X G a9 (by trivial),
  bB X G a10 (by trivial),
  bB X G a11 (by trivial),
  bB X G a12 (by trivial),
  bB X G a13 (by trivial),
  bB X G a14 (by trivial),
  bB X G a15 (by trivial),
  bB X G a16 (by trivial),
  bB X G a17 (by trivial),
  bB X G a18 (by trivial),
  bB X G a19 (by trivial),
  bB X G a20 (by trivial),
  bB X G a21 (by trivial),
  bB X G a22 (by trivial),
  bB X G a23 (by trivial),
  bB X G a24 (by trivial),
  bB X G a25 (by trivial),
  bB X G a26 (by trivial),
  bB X G a27 (by trivial),
  bB X G a28 (by trivial),
  bB X G a29 (by trivial),
  bB X G a30 (by trivial),
  bB X G a31 (by trivial),
  bB X G a32 (by trivial),
  bB X G a33 (by trivial),
  bB X G a34 (by trivial),
  bB X G a35 (by trivial),
  bB X G a36 (by trivial),
  bB X G a37 (by trivial),
  bB X G a38 (by trivial),
  bB X G a39 (by trivial),
  bB X G a40 (by trivial),
  bB X G a41 (by trivial),
  bB X G a42 (by trivial),
  bB X G a43 (by trivial),
  bB X G a44 (by trivial),
  bB X G a45 (by trivial),
  bB X G a46 (by trivial),
  bB X G a47 (by trivial),
  bB X G a48 (by trivial),
  bB X G a49 (by trivial),
  bB X G a50 (by trivial),
  bB X G a51 (by trivial),
  bB X G a52 (by trivial),
  bB X G a53 (by trivial),
  bB X G a54 (by trivial),
  bB X G a55 (by trivial),
  bB X G a56 (by trivial),
  bB X G a57 (by trivial),
  bB X G a58 (by trivial),
  bB X G a59 (by trivial),
  bB X G a60 (by trivial),
  bB X G a61 (by trivial),
  bB X G a62 (by trivial),
  bB X G a63 (by trivial),
  bB X G a64 (by trivial),
  bB X G a65 (by trivial),
  bB X G a66 (by trivial),
  bB X G a67 (by trivial),
  bB X G a68 (by trivial),
  bB X G a69 (by trivial),
  bB X G a70 (by trivial),
  bB X G a71 (by trivial),
  bB X G a72 (by trivial),
  bB X G a73 (by trivial),
  bB X G a74 (by trivial),
  bB X G a75 (by trivial)⟩
end My
open PySem PySem.W PyProof.Rows
def PySem.W.Fast.tw8669027201979330082:=0
def PySem.W.Fast.tw877430513065484931:=0
def PySem.W.Fast.tw16477689513966497166:=0
def PySem.W.Fast.tw1065132589170140527:=0
def PySem.W.Fast.tw8486834590035523710:=0
def PySem.W.Fast.tw7648196415110450686:=0
def PySem.W.Fast.tw4888709239665455495:=0
def PySem.W.Fast.tw14372784392597111410:=0
def PySem.W.Fast.tw2765475536045430565:=0
def PySem.W.Fast.tw1170991184220620794:=0
def PySem.W.Fast.tw6459956062862578486:=0
def PySem.W.Fast.tw1352143026278248494:=0
def PySem.W.Fast.tw7368787214082643521:=0
def PySem.W.Fast.tw17634063326190430637:=0
def PySem.W.Fast.tw10469131147883910689:=0
def PySem.W.Fast.tw4813349908636881853:=0
def PySem.W.Fast.tw5730661429046563343:=0
def PySem.W.Fast.tw3294973530468118214:=0
def PySem.W.Fast.tw12697296652746553937:=0
def PySem.W.Fast.tw6373215342329033991:=0
def PySem.W.Fast.tw1441268600373239057:=0
def PySem.W.Fast.tw12953279751718824793:=0
def PySem.W.Fast.tw18406092073591942726:=0
def PySem.W.Fast.tw12981129551029104239:=0
def PySem.W.Fast.tw11490940877349531055:=0
def PySem.W.Fast.tw4702114414396656417:=0
def PySem.W.Fast.tw5820629279307554862:=0
def PySem.W.Fast.tw11091032672063267431:=0
def PySem.W.Fast.tw15279139553327199513:=0
def PySem.W.Fast.tw4852118530062214003:=0
def PySem.W.Fast.tw12315905945708213967:=0
def PySem.W.Fast.tw15319208455485481544:=0
def PySem.W.Fast.tw4530150505997585015:=0
def PySem.W.Fast.tw2905096375139328322:=0
def PySem.W.Fast.tw6691130417007708520:=0
def PySem.W.Fast.tw2689555333603277238:=0
def PySem.W.Fast.tw259678635796355762:=0
def PySem.W.Fast.tw14289928370433591931:=0
def PySem.W.Fast.tw11243715724730446368:=0
def PySem.W.Fast.tw13812270476651333262:=0
def PySem.W.Fast.tw13637651087673387073:=0
def PySem.W.Fast.tw16955217422336357106:=0
def PySem.W.Fast.tw13625591892474678881:=0
def PySem.W.Fast.tw12225224405952912046:=0
def PySem.W.Fast.tw9614521969919029387:=0
def PySem.W.Fast.tw16193524312008003913:=0
def PySem.W.Fast.tw16044277584114562806:=0
def PySem.W.Fast.tw7668507028733978916:=0
def PySem.W.Fast.tw9819199838212444451:=0
def PySem.W.Fast.tw3799478010693322927:=0
def PySem.W.Fast.tw3911300273998382509:=0
def PySem.W.Fast.tw7760131893217906798:=0
def PySem.W.Fast.tw2731590381350432626:=0
def PySem.W.Fast.tw5482596951877221856:=0
def PySem.W.Fast.tw2294231812225131855:=0
def PySem.W.Fast.tw16489030864988901830:=0
def PySem.W.Fast.tw10764189716528704429:=0
def PySem.W.Fast.tw13374536647117931234:=0
def PySem.W.Fast.tw13170434731735023773:=0
def PySem.W.Fast.tw12721566260464470234:=0
def PySem.W.Fast.tw3564296750777036657:=0
def PySem.W.Fast.tw7128686872637944318:=0
def PySem.W.Fast.tw11929958056739375177:=0
def PySem.W.Fast.tw15359911958097271170:=0
def PySem.W.Fast.tw2665789099295043283:=0
def PySem.W.Fast.tw9604354479270687448:=0
def PySem.W.Fast.tw106280663766773914:=0
def PySem.W.Fast.tw1383786719754725778:=0
def PySem.W.Fast.tw13864569922430240752:=0
def PySem.W.Fast.tw16743065444974137708:=0
def PySem.W.Fast.tw4140236153915338755:=0
def PySem.W.Fast.tw7902210822444125185:=0
def PySem.W.Fast.tw2194542443310703695:=0
def PySem.W.Fast.tw11027642980875005671:=0
def PySem.W.Fast.tw2758156050110974093:=0
def PySem.W.Fast.tw11757755548349083866:=0
def PySem.W.Fast.tw3655153862111678918:=0
def PySem.W.Fast.tw10017949010139374762:=0
def PySem.W.Fast.tw1225519222625969171:=0
def PySem.W.Fast.tw607522811024676455:=0
def PySem.W.Fast.tw13888672709928554476:=0
def PySem.W.Fast.tw15251307066739434721:=0
def PySem.W.Fast.tw14036970585442485960:=0
def PySem.W.Fast.tw4768668213273332558:=0
def PySem.W.Fast.tw14138662722463301450:=0
def PySem.W.Fast.tw18086164163070577993:=0
def PySem.W.Fast.tw9920569819705463308:=0
def PySem.W.Fast.tw2191931995720631644:=0
def PySem.W.Fast.tw138062389092770895:=0
def PySem.W.Fast.tw14770435105495969321:=0
def PySem.W.Fast.tw8570064505359153291:=0
def PySem.W.Fast.tw13824256310636896327:=0
def PySem.W.Fast.tw281030854654085360:=0
def PySem.W.Fast.tw12553557975858788499:=0
def PySem.W.Fast.tw7690059060166608273:=0
def PySem.W.Fast.tw5253907596288117308:=0
def PySem.W.Fast.tw17051257724077772131:=0
def PySem.W.Fast.tw17941077590453567522:=0
def PySem.W.Fast.tw5650409066709060334:=0
def PySem.W.Fast.tw6519797111646787816:=0
def PySem.W.Fast.tw7166524130054826388:=0
def PySem.W.Fast.tw3821941430580116282:=0
def PySem.W.Fast.tw15863244018702800109:=0
def PySem.W.Fast.tw13761423909473221387:=0
def PySem.W.Fast.tw14474205074733624099:=0
def PySem.W.Fast.tw6409237279550498:=0
def PySem.W.Fast.tw4812929772874923795:=0
def PySem.W.Fast.tw9327548568237055729:=0
def PySem.W.Fast.tw5481354801656442069:=0
def PySem.W.Fast.tw17129408649671054575:=0
def PySem.W.Fast.tw8631132347219653680:=0
def PySem.W.Fast.tw16454843759414992127:=0
def PySem.W.Fast.tw8922353788567617985:=0
def PySem.W.Fast.tw18100368774070704156:=0
def PySem.W.Fast.tw12450948062532200822:=0
def PySem.W.Fast.tw6609490863405097922:=0
def PySem.W.Fast.tw3373329127605256855:=0
def PySem.W.Fast.tw13596420212737395776:=0
def PySem.W.Fast.tw16220080156433979005:=0
def PySem.W.Fast.tw1787511139799388142:=0
def PySem.W.Fast.tw8442956870723942835:=0
def PySem.W.Fast.tw7153696861961213749:=0
def PySem.W.Fast.tw17363477005240187914:=0
def PySem.W.Fast.tw6566054692653581600:=0
def PySem.W.Fast.tw13324448866285577412:=0
def PySem.W.Fast.tw13571177710139044238:=0
def PySem.W.Fast.tw7770249937959024542:=0
def PySem.W.Fast.tw17561608882625097995:=0
def PySem.W.Fast.tw8319610515872422031:=0
def PySem.W.Fast.tw7892977690192805727:=0
def PySem.W.Fast.tw92297439230735187:=0
def PySem.W.Fast.tw17106764172567364901:=0
def PySem.W.Fast.tw4446012226448203575:=0
def PySem.W.Fast.tw16488095936800766155:=0
def PySem.W.Fast.tw10339855580978134405:=0
def PySem.W.Fast.tw12812213220031003413:=0
def PySem.W.Fast.tw7853333566152954678:=0
def PySem.W.Fast.tw9713705927260566502:=0
def PySem.W.Fast.tw12269296176648106142:=0
def PySem.W.Fast.tw8084688542301965998:=0
def PySem.W.Fast.tw2920234107957252443:=0
def PySem.W.Fast.tw10798598416635917002:=0
def PySem.W.Fast.tw18353601122694066465:=0
def PySem.W.Fast.tw14679510167480774357:=0
def PySem.W.Fast.tw12889216921403896173:=0
def PySem.W.Fast.tw8551160996538255858:=0
def PySem.W.Fast.tw11554046627909963218:=0
def PySem.W.Fast.tw5270550411071699153:=0
def PySem.W.Fast.tw8059069379689773103:=0
def PySem.W.Fast.tw16190360390973563872:=0
def PySem.W.Fast.tw2291526061369171524:=0
def PySem.W.Fast.tw10264624542762060467:=0
def PySem.W.Fast.tw11320679275336923630:=0
def PySem.W.Fast.tw17894830243123417498:=0
def PySem.W.Fast.tw14787423902296896735:=0
def PySem.W.Fast.tw13969403740137983196:=0
def PySem.W.Fast.tw1197768639802497107:=0
def PySem.W.Fast.tw4717729158175170882:=0
def PySem.W.Fast.tw12579673744210517318:=0
def PySem.W.Fast.tw16513091961531090115:=0
def PySem.W.Fast.tw2388056103180483877:=0
def PySem.W.Fast.tw8940549257192915976:=0
def PySem.W.Fast.tw2902814188031519435:=0
def PySem.W.Fast.tw7190276646556232636:=0
def PySem.W.Fast.tw13211841625165935194:=0
def PySem.W.Fast.tw6313924416000272029:=0
def PySem.W.Fast.tw14584511934974547292:=0
def PySem.W.Fast.tw15884169253476560099:=0
def PySem.W.Fast.tw13818545795586851877:=0
def PySem.W.Fast.tw11165463802541578761:=0
def PySem.W.Fast.tw12917980926075599052:=0
def PySem.W.Fast.tw14872738461492250383:=0
def PySem.W.Fast.tw2853573140742720108:=0
def PySem.W.Fast.tw8315821374664073150:=0
def PySem.W.Fast.tw13588390757046865569:=0
def PySem.W.Fast.tw16549147887624426408:=0
def PySem.W.Fast.tw13497803093007769964:=0
def PySem.W.Fast.tw15800782251933935319:=0
def PySem.W.Fast.tw16884104304435429824:=0
def PySem.W.Fast.tw9243919353673561191:=0
def PySem.W.Fast.tw15625503924038791921:=0
def PySem.W.Fast.tw1144687875786340249:=0
def PySem.W.Fast.tw2813920888025281833:=0
def PySem.W.Fast.tw17044535551762081371:=0
def PySem.W.Fast.tw13647486861368893653:=0
def PySem.W.Fast.tw9176376319624130462:=0
def PySem.W.Fast.tw4931469307141327535:=0
def PySem.W.Fast.tw5469376962403382226:=0
def PySem.W.Fast.tw9692937092627691198:=0
def PySem.W.Fast.tw459864784641863752:=0
def PySem.W.Fast.tw17026999306898177495:=0
def PySem.W.Fast.tw7522895323409909358:=0
def PySem.W.Fast.tw14426317532910746947:=0
def PySem.W.Fast.tw18336030645659701701:=0
def PySem.W.Fast.tw4467751969460452208:=0
def PySem.W.Fast.tw18277141775321852490:=0
def PySem.W.Fast.tw507427235383700451:=0
def PySem.W.Fast.tw17689926942710904243:=0
def PySem.W.Fast.tw14248783886911862167:=0
def PySem.W.Fast.tw2154807363383243262:=0
def PySem.W.Fast.tw12969379516272785206:=0
def PySem.W.Fast.tw7362437007357521998:=0
def PySem.W.Fast.tw165508861728602254:=0
def PySem.W.Fast.tw1174006842467512284:=0
def PySem.W.Fast.tw6198976557634083018:=0
def PySem.W.Fast.tw1947808906723113424:=0
def PySem.W.Fast.tw17315426921787644374:=0
def PySem.W.Fast.tw6126653577935995864:=0
def PySem.W.Fast.tw8479242094396064811:=0
def PySem.W.Fast.tw4297196890701294470:=0
def PySem.W.Fast.tw11267910075783135810:=0
def PySem.W.Fast.tw10746308564769569159:=0
def PySem.W.Fast.tw3826638229988538145:=0
def PySem.W.Fast.tw8669346364889280173:=0
def PySem.W.Fast.tw843483537825241451:=0
def PySem.W.Fast.tw15725441516213333192:=0
def PySem.W.Fast.tw584535682417122517:=0
def PySem.W.Fast.tw10182592058493567790:=0
def PySem.W.Fast.tw2955403676078235064:=0
def PySem.W.Fast.tw13236814628758828097:=0
def PySem.W.Fast.tw9499320059096087087:=0
def PySem.W.Fast.tw1797572484376379343:=0
def PySem.W.Fast.tw12734862880435296821:=0
def PySem.W.Fast.tw6863373323906432847:=0
def PySem.W.Fast.tw15741278458437338529:=0
def PySem.W.Fast.tw15113366611650493588:=0
def PySem.W.Fast.tw16285130067421156841:=0
def PySem.W.Fast.tw12353695678154569417:=0
def PySem.W.Fast.tw626757274207595000:=0
def PySem.W.Fast.tw1647529118204066873:=0
def PySem.W.Fast.tw6742302188577642802:=0
def PySem.W.Fast.tw6787669376756103666:=0
def PySem.W.Fast.tw16964223106934557082:=0
def PySem.W.Fast.tw14712681711618741007:=0
def PySem.W.Fast.tw13473982852175754334:=0
def PySem.W.Fast.tw15778126725571404400:=0
def PySem.W.Fast.tw14925643853330908163:=0
def PySem.W.Fast.tw1120169374226657468:=0
def PySem.W.Fast.tw1640312237486850825:=0
def PySem.W.Fast.tw9514812277893282847:=0
def PySem.W.Fast.tw13795653080934529088:=0
def PySem.W.Fast.tw14941393508330098095:=0
def PySem.W.Fast.tw1185561374665051898:=0
def PySem.W.Fast.tw10450351101483355251:=0
def PySem.W.Fast.tw2108645449035862322:=0
def PySem.W.Fast.tw7838078547479469828:=0
def PySem.W.Fast.tw8242826806107547480:=0
def PySem.W.Fast.tw6339957211959251344:=0
def PySem.W.Fast.tw4742053900337796351:=0
def PySem.W.Fast.tw1466105865244387612:=0
def PySem.W.Fast.tw1382521868043221580:=0
def PySem.W.Fast.tw13948435119057687024:=0
def PySem.W.Fast.tw2806193910091779389:=0
def PySem.W.Fast.tw9632701609723559767:=0
def PySem.W.Fast.tw3370148148472328326:=0
def PySem.W.Fast.tw4259748630766243299:=0
def PySem.W.Fast.tw11149632807467901817:=0
def PySem.W.Fast.tw13552099933663230239:=0
def PySem.W.Fast.tw17530072751333389160:=0
def PySem.W.Fast.tw7605554936013194840:=0
def PySem.W.Fast.tw10700943456669167278:=0
def PySem.W.Fast.tw14879863171550189526:=0
def PySem.W.Fast.tw14335644288974513971:=0
def PySem.W.Fast.tw17031523378491341603:=0
def PySem.W.Fast.tw12906081655025330574:=0
def PySem.W.Fast.tw15991922950269568622:=0
def PySem.W.Fast.tw10016346632957481207:=0
def PySem.W.Fast.tw14196982292414296852:=0
def PySem.W.Fast.tw727711770017843189:=0
def PySem.W.Fast.tw9484081585985982322:=0
def PySem.W.Fast.tw3875615156532959977:=0
def PySem.W.Fast.tw6755820087899756073:=0
def PySem.W.Fast.tw13579691096965450561:=0
def PySem.W.Fast.tw14856912819586332829:=0
def PySem.W.Fast.tw5169483593513492487:=0
def PySem.W.Fast.tw13076888756412672538:=0
def PySem.W.Fast.tw4278275420286012581:=0
def PySem.W.Fast.tw14151760312198651462:=0
def PySem.W.Fast.tw243406418321068822:=0
def PySem.W.Fast.tw9585919859186136031:=0
def PySem.W.Fast.tw11232998412655073108:=0
def PySem.W.Fast.tw6031399846398068782:=0
def PySem.W.Fast.tw9126072598096758124:=0
def PySem.W.Fast.tw10041872646163720828:=0
def PySem.W.Fast.tw14638530128007821000:=0
def PySem.W.Fast.tw14265912172321969030:=0
def PySem.W.Fast.tw6339476131841443251:=0
def PySem.W.Fast.tw11275706587413914874:=0
def PySem.W.Fast.tw4541896484261468933:=0
def PySem.W.Fast.tw9522574035733548382:=0
def PySem.W.Fast.tw972462172401224770:=0
def PySem.W.Fast.tw15583941038000116028:=0
def PySem.W.Fast.tw2320073496506151660:=0
def PySem.W.Fast.tw4043443643578682222:=0
def PySem.W.Fast.tw2892781084893195757:=0
def PySem.W.Fast.tw405706794784182707:=0
def PySem.W.Fast.tw11900966610833120671:=0
def PySem.W.Fast.tw4916605055227876525:=0
def PySem.W.Fast.tw6403785373136049239:=0
def PySem.W.Fast.tw17912517232784907110:=0
def PySem.W.Fast.tw1109393739365850267:=0
def PySem.W.Fast.tw15102667969661902013:=0
def PySem.W.Fast.tw9966524931573272201:=0
def PySem.W.Fast.tw13168177172582118825:=0
def PySem.W.Fast.tw13895413934688250275:=0
def PySem.W.Fast.tw4248853663720882791:=0
def PySem.W.Fast.tw6040516558144363872:=0
def PySem.W.Fast.tw13309522869936940638:=0
def PySem.W.Fast.tw2350847077702212604:=0
def PySem.W.Fast.tw6879753636932820575:=0
def PySem.W.Fast.tw7571285026423620875:=0
def PySem.W.Fast.tw11234132886563544849:=0
def PySem.W.Fast.tw10519481086877859214:=0
def PySem.W.Fast.tw5868472428198270083:=0
def PySem.W.Fast.tw15915418804673212412:=0
def PySem.W.Fast.tw11017689214157634070:=0
def PySem.W.Fast.tw15092195588452594241:=0
def PySem.W.Fast.tw14487227553160069368:=0
def PySem.W.Fast.tw1293314508540803612:=0
def PySem.W.Fast.tw10909073825689331014:=0
def PySem.W.Fast.tw18091027184847689565:=0
def PySem.W.Fast.tw13848838262046606006:=0
def PySem.W.Fast.tw14677932095817518753:=0
def PySem.W.Fast.tw11395774473018700450:=0
def PySem.W.Fast.tw12606468168803412726:=0
def PySem.W.Fast.tw17669762303204528861:=0
def PySem.W.Fast.tw4607952728436209974:=0
def PySem.W.Fast.tw1355385601673017833:=0
def PySem.W.Fast.tw16441443533440723710:=0
def PySem.W.Fast.tw8080752032201612567:=0
def PySem.W.Fast.tw17540640875226088946:=0
def PySem.W.Fast.tw13316102201097337688:=0
def PySem.W.Fast.tw3535873348150565030:=0
def PySem.W.Fast.tw9446442552788336127:=0
def PySem.W.Fast.tw11563425756828369459:=0
def PySem.W.Fast.tw15950482329720731931:=0
def PySem.W.Fast.tw11217106145910616872:=0
def PySem.W.Fast.tw15105870299602570525:=0
def PySem.W.Fast.tw14711337527203104701:=0
def PySem.W.Fast.tw4247841667353471563:=0
def PySem.W.Fast.tw8473783820039699338:=0
def PySem.W.Fast.tw14637370949808027799:=0
def PySem.W.Fast.tw9781309641045940990:=0
def PySem.W.Fast.tw15326660603717385990:=0
def PySem.W.Fast.tw12567120114531166697:=0
def PySem.W.Fast.tw16153621494936630816:=0
def PySem.W.Fast.tw13548554251551966139:=0
def PySem.W.Fast.tw13909792650582425526:=0
def PySem.W.Fast.tw1084527985499915719:=0
def PySem.W.Fast.tw15758347554173226797:=0
def PySem.W.Fast.tw6556955410537428:=0
def PySem.W.Fast.tw9967590381846471045:=0
def PySem.W.Fast.tw15570428698716546480:=0
def PySem.W.Fast.tw8796662575193370462:=0
def PySem.W.Fast.tw10515385074126453769:=0
def PySem.W.Fast.tw16190840962918221423:=0
def PySem.W.Fast.tw6008182957428965507:=0
def PySem.W.Fast.tw10636664194453787513:=0
def PySem.W.Fast.tw8849038712799457781:=0
def PySem.W.Fast.tw14564597361598569612:=0
def PySem.W.Fast.tw13148433757338475698:=0
def PySem.W.Fast.tw8591118126867554969:=0
def PySem.W.Fast.tw1633122254007632058:=0
def PySem.W.Fast.tw3002598136056889562:=0
def PySem.W.Fast.tw2061966186538967761:=0
def PySem.W.Fast.tw14516918362175939897:=0
def PySem.W.Fast.tw16981558706459365983:=0
def PySem.W.Fast.tw8635689812873446222:=0
def PySem.W.Fast.tw11402283339164168463:=0
def PySem.W.Fast.tw4552715152228734978:=0
def PySem.W.Fast.tw10078264879875715857:=0
def PySem.W.Fast.tw13847428798395928048:=0
def PySem.W.Fast.tw5494745893995796107:=0
def PySem.W.Fast.tw17592477127477655092:=0
def PySem.W.Fast.tw1351146963882268447:=0
def PySem.W.Fast.tw15350618271334710724:=0
def PySem.W.Fast.tw15899346486953919655:=0
def PySem.W.Fast.tw16785911106365341045:=0
def PySem.W.Fast.tw3400072969522844168:=0
def PySem.W.Fast.tw17718442005717444633:=0
def PySem.W.Fast.tw4847233478292751538:=0
def PySem.W.Fast.tw663222366816907872:=0
def PySem.W.Fast.tw8997652937954989216:=0
def PySem.W.Fast.tw17335072063384285079:=0
def PySem.W.Fast.tw10276831057954665758:=0
def PySem.W.Fast.tw11684481308602200467:=0
def PySem.W.Fast.tw14185461828640224343:=0
def PySem.W.Fast.tw8642395527757132174:=0
def PySem.W.Fast.tw13565087864274515981:=0
def PySem.W.Fast.tw17371618524134283275:=0
def PySem.W.Fast.tw2556021105867658510:=0
def PySem.W.Fast.tw9564444833191876627:=0
def PySem.W.Fast.tw16888647779192088595:=0
def PySem.W.Fast.tw298414531888214023:=0
def PySem.W.Fast.tw5744008256921384778:=0
def PySem.W.Fast.tw12033299315955731386:=0
def PySem.W.Fast.tw14033544416305870475:=0
def PySem.W.Fast.tw7387284931701089696:=0
def PySem.W.Fast.tw14477491944744375743:=0
def PySem.W.Fast.tw15727357167699234144:=0
def PySem.W.Fast.tw16805677323201678311:=0
def PySem.W.Fast.tw4322052564977786895:=0
def PySem.W.Fast.tw8776213404981242287:=0
def PySem.W.Fast.tw17643518011834005014:=0
def PySem.W.Fast.tw5485325835800015350:=0
def PySem.W.Fast.tw12514204690020969371:=0
def PySem.W.Fast.tw7269617325467668753:=0
def PySem.W.Fast.tw6701094328990308256:=0
def PySem.W.Fast.tw11382026733204192101:=0
def PySem.W.Fast.tw2400751745738772966:=0
def PySem.W.Fast.tw12896574948866158291:=0
def PySem.W.Fast.tw16252114970791575103:=0
def PySem.W.Fast.tw4481481522351750379:=0
def PySem.W.Fast.tw10449382372381342661:=0
def PySem.W.Fast.tw4673015803668311484:=0
def PySem.W.Fast.tw16924039587261647005:=0
def PySem.W.Fast.tw5600510630124979046:=0
def PySem.W.Fast.tw4780638696278597137:=0
def PySem.W.Fast.tw9926383923931597228:=0
def PySem.W.Fast.tw5573650192148667728:=0
def PySem.W.Fast.tw2229880277920077193:=0
def PySem.W.Fast.tw5503909877161597111:=0
def PySem.W.Fast.tw2972721062811446375:=0
def PySem.W.Fast.tw1081670961382701671:=0
def PySem.W.Fast.tw3564913507056959538:=0
def PySem.W.Fast.tw6593187298275459129:=0
def PySem.W.Fast.tw17454676423441217398:=0
def PySem.W.Fast.tw9303077634748907408:=0
def PySem.W.Fast.tw7372170563901868272:=0
def PySem.W.Fast.tw8644477336803067429:=0
def PySem.W.Fast.tw9199720684009719785:=0
def PySem.W.Fast.tw17455951765348182020:=0
def PySem.W.Fast.tw12993997903279800964:=0
def PySem.W.Fast.tw16691932833837786057:=0
def PySem.W.Fast.tw2275547379891766256:=0
def PySem.W.Fast.tw14706001578315355738:=0
def PySem.W.Fast.tw14460367859522070068:=0
def PySem.W.Fast.tw17768754131807039139:=0
def PySem.W.Fast.tw5090806605707380930:=0
def PySem.W.Fast.tw15292513029083334383:=0
def PySem.W.Fast.tw2194235291645766440:=0
def PySem.W.Fast.tw6742853808994428772:=0
def PySem.W.Fast.tw17703750355826244443:=0
def PySem.W.Fast.tw5319162465572679688:=0
def PySem.W.Fast.tw18260350574915036227:=0
def PySem.W.Fast.tw4126136713334765280:=0
def PySem.W.Fast.tw1713361817208557294:=0
def PySem.W.Fast.tw15871417965745285537:=0
def PySem.W.Fast.tw7519308575718411355:=0
def PySem.W.Fast.tw16248145370975291538:=0
def PySem.W.Fast.tw11490906200131328568:=0
def PySem.W.Fast.tw13747322480493860581:=0
def PySem.W.Fast.tw7641802131178953973:=0
def PySem.W.Fast.tw7286685430773048164:=0
def PySem.W.Fast.tw13955612620832027354:=0
def PySem.W.Fast.tw2764830025308353591:=0
def PySem.W.Fast.tw16235325765213400088:=0
def PySem.W.Fast.tw7066884732573194824:=0
def PySem.W.Fast.tw778406432337084896:=0
def PySem.W.Fast.tw4766479863206868033:=0
def PySem.W.Fast.tw988208291684134373:=0
def PySem.W.Fast.tw1277169005827773701:=0
def PySem.W.Fast.tw2993263239663027150:=0
def PySem.W.Fast.tw18438265238911835562:=0
def PySem.W.Fast.tw7545080328550229669:=0
def PySem.W.Fast.tw35654364742860101:=0
def PySem.W.Fast.tw526832929993937225:=0
def PySem.W.Fast.tw7247787380961168849:=0
def PySem.W.Fast.tw12006941394899811079:=0
def PySem.W.Fast.tw5141823279200117191:=0
def PySem.W.Fast.tw11340759971070508525:=0
def PySem.W.Fast.tw2043387455114272106:=0
def PySem.W.Fast.tw14093264044520026047:=0
def PySem.W.Fast.tw656278442249192928:=0
def PySem.W.Fast.tw17478132767007409743:=0
def PySem.W.Fast.tw18209802361805909347:=0
def PySem.W.Fast.tw7949105964588500189:=0
def PySem.W.Fast.tw12530300855437331492:=0
def PySem.W.Fast.tw15965220524944621860:=0
def PySem.W.Fast.tw3988505163386072928:=0
def PySem.W.Fast.tw17793864140820821085:=0
def PySem.W.Fast.tw3041522970443665989:=0
def PySem.W.Fast.tw11197260505735448669:=0
def PySem.W.Fast.tw13167668175746482344:=0
def PySem.W.Fast.tw9600933709725899401:=0
def PySem.W.Fast.tw13074180168263221025:=0
def PySem.W.Fast.tw5564832018061038644:=0
def PySem.W.Fast.tw8838246628852941251:=0
def PySem.W.Fast.tw15665113476987786990:=0
def PySem.W.Fast.tw10706891294569664342:=0
def PySem.W.Fast.tw12400189914432942491:=0
def PySem.W.Fast.tw12700825416792680430:=0
def PySem.W.Fast.tw13655711132015319056:=0
def PySem.W.Fast.tw9853476104901512720:=0
def PySem.W.Fast.tw1005647283664732762:=0
def PySem.W.Fast.tw16591371969106692429:=0
def PySem.W.Fast.tw17802219551295299331:=0
def PySem.W.Fast.tw13700874141897464404:=0
def PySem.W.Fast.tw5346691950336939614:=0
def PySem.W.Fast.tw1889313571700988154:=0
def PySem.W.Fast.tw276789833413705963:=0
def PySem.W.Fast.tw15475932432251371939:=0
def PySem.W.Fast.tw17402579963409458699:=0
def PySem.W.Fast.tw8161031938801192428:=0
def PySem.W.Fast.tw2324283924837460839:=0
def PySem.W.Fast.tw17298856079222309651:=0
def PySem.W.Fast.tw17809935257608478972:=0
def PySem.W.Fast.tw3336171114935309232:=0
def PySem.W.Fast.tw4486156956376269222:=0
def PySem.W.Fast.tw16425000456414735413:=0
def PySem.W.Fast.tw10811610184524853817:=0
def PySem.W.Fast.tw15852944719083311808:=0
def PySem.W.Fast.tw613303970518237879:=0
def PySem.W.Fast.tw9424305380564659583:=0
def PySem.W.Fast.tw13764555356391725128:=0
def PySem.W.Fast.tw3800730178907238492:=0
def PySem.W.Fast.tw13903155879055669629:=0
def PySem.W.Fast.tw6129966735596341116:=0
def PySem.W.Fast.tw4023419580341861863:=0
def PySem.W.Fast.tw15182917724531688474:=0
def PySem.W.Fast.tw17979555776303676858:=0
def PySem.W.Fast.tw2497383968376750747:=0
def PySem.W.Fast.tw11856268095856362652:=0
def PySem.W.Fast.tw13265655876983132284:=0
def PySem.W.Fast.tw11992038010425513121:=0
def PySem.W.Fast.tw10718122787843038580:=0
def PySem.W.Fast.tw8100395296944950496:=0
def PySem.W.Fast.tw4088206057949550554:=0
def PySem.W.Fast.tw1136480179738069454:=0
def PySem.W.Fast.tw7982260652993030540:=0
def PySem.W.Fast.tw11137670494587056674:=0
def PySem.W.Fast.tw2272047226525240678:=0
def PySem.W.Fast.tw5264041951596532188:=0
def PySem.W.Fast.tw6453816603987742798:=0
def PySem.W.Fast.tw990425136046821947:=0
def PySem.W.Fast.tw4275625411709668946:=0
def PySem.W.Fast.tw15337274551425636757:=0
def PySem.W.Fast.tw946556280126501486:=0
def PySem.W.Fast.tw11492604211221546365:=0
def PySem.W.Fast.tw12159334076553441749:=0
def PySem.W.Fast.tw6251047424092154904:=0
def PySem.W.Fast.tw336451365737990244:=0
def PySem.W.Fast.tw3382440019002060809:=0
def PySem.W.Fast.tw10721232221547319657:=0
def PySem.W.Fast.tw14505883198238068248:=0
def PySem.W.Fast.tw18355212430009787965:=0
def PySem.W.Fast.tw7883413974819282143:=0
def PySem.W.Fast.tw936024411841935510:=0
def PySem.W.Fast.tw13368203115836670134:=0
def PySem.W.Fast.tw12785718354892299795:=0
def PySem.W.Fast.tw2450426890935649126:=0
def PySem.W.Fast.tw6261387293374183258:=0
def PySem.W.Fast.tw8057818434850665936:=0
def PySem.W.Fast.tw17603923767610518582:=0
def PySem.W.Fast.tw5865235797825368737:=0
def PySem.W.Fast.tw12617404185396528615:=0
def PySem.W.Fast.tw17424140364742474016:=0
def PySem.W.Fast.tw4929184713953644547:=0
set_option maxRecDepth 100000 in
set_option maxHeartbeats 0 in
theorem PySem.Challenge.cw_shardask_k10_chosen_and_kept_holds : PySem.Challenge.rw_shardask_k10_chosen_and_kept.Holds := by
 w_on;o_law;k_head;(case hw=>w_witness2)
 k_fill
 refine L2.aP3 (l:=PySem.Challenge.rw_shardask_k10_chosen_and_kept) (n:=63) (k:=51) (x:="_law_script") (CX:=L2.CX0) (sp:=My.aC8) rfl (by decide) rfl ⟨rfl,by decide,by decide⟩ (fun w h Y=>PySem.W.km_in_of Y) ?F (fun K H a ns hl hO hS=>My.aNf hl hS) (fun _ _ _ _ z=>z)
 case F=>
  intro w mg fa h KX G hmg
  have T:My.Txt w (L2.KOf KX) mg:=by
   dsimp only [L2.KOf]
   refine' My.aUl KX G ?a0 ?a1 ?a2 ?a3 ?a4 ?a5 ?a6 ?a7 ?a8 ?a9 ?a10 ?a11 ?a12 ?a13 ?a14 ?a15 ?a16 ?a17 ?a18 ?a19 ?a20 ?a21 ?a22 ?a23 ?a24 ?a25 ?a26 ?a27 ?a28 ?a29 ?a30 ?a31 ?a32 ?a33 ?a34 ?a35 ?a36 ?a37 ?a38 ?a39 ?a40 ?a41 ?a42 ?a43 ?a44 ?a45 ?a46 ?a47 ?a48 ?a49 ?a50 ?a51 ?a52 ?a53 ?a54 ?a55 ?a56 ?a57 ?a58 ?a59 ?a60 ?a61 ?a62 ?a63 ?a64 ?a65 ?a66 ?a67 ?a68 ?a69 ?a70 ?a71 ?a72 ?a73 ?a74 ?a75 ?q0 ?r0 ?t0 ?y0 ?u0 ?v0 ?q1 ?q2 ?q3 ?q4 ?r4 ?t4 ?y4 ?u4 ?v4 ?q5 ?r5 ?t5 ?y5 ?u5 ?v5 ?q6 ?r6 ?t6 ?y6 ?u6 ?v6 ?q7 ?q8 ?q9 ?q10 ?q11 ?q12 ?q13 ?q14 ?r14 ?x14 ?o14 ?u14 ?h14 ?r14_0 ?t14_0 ?y14_0 ?u14_0 ?v14_0 ?r14_1 ?t14_1 ?y14_1 ?u14_1 ?v14_1 ?r14_2 ?t14_2 ?y14_2 ?u14_2 ?v14_2 ?r14_3 ?t14_3 ?y14_3 ?u14_3 ?v14_3 ?r14_4 ?t14_4 ?y14_4 ?u14_4 ?v14_4 ?r14_5 ?t14_5 ?y14_5 ?u14_5 ?v14_5 ?r14_6 ?t14_6 ?y14_6 ?u14_6 ?v14_6 ?z0 ?z1 ?z2 ?z3 ?z4 ?z5 ?z6 ?z7 ?z8 ?z9 ?z10 ?z11 ?z12 ?z13 ?z14 ?z15 ?z16 ?z17 ?z18 ?z19 ?z20
   (case a0=>(refine' My.FA.mk ?j0 ?l0 ?c0 ?k0);(case j0=>k_is);(case l0=>k_is);(case c0=>k_is);(case k0=>k_is))
   (case a1=>(refine' My.FA.mk ?j1 ?l1 ?c1 ?k1);(case j1=>k_is);(case l1=>k_is);(case c1=>k_is);(case k1=>k_is))
   (case a2=>(refine' My.FA.mk ?j2 ?l2 ?c2 ?k2);(case j2=>k_is);(case l2=>k_is);(case c2=>k_is);(case k2=>k_is))
   (case a3=>(refine' My.FA.mk ?j3 ?l3 ?c3 ?k3);(case j3=>k_is);(case l3=>k_is);(case c3=>k_is);(case k3=>k_is))
   (case a4=>(refine' My.FA.mk ?j4 ?l4 ?c4 ?k4);(case j4=>k_is);(case l4=>k_is);(case c4=>k_is);(case k4=>k_is))
   (case a5=>(refine' My.FA.mk ?j5 ?l5 ?c5 ?k5);(case j5=>k_is);(case l5=>k_is);(case c5=>k_is);(case k5=>k_is))
   (case a6=>(refine' My.FA.mk ?j6 ?l6 ?c6 ?k6);(case j6=>k_is);(case l6=>k_is);(case c6=>k_is);(case k6=>k_is))
   (case a7=>(refine' My.FA.mk ?j7 ?l7 ?c7 ?k7);(case j7=>k_is);(case l7=>k_is);(case c7=>k_is);(case k7=>k_is))
   (case a8=>(refine' My.FA.mk ?j8 ?l8 ?c8 ?k8);(case j8=>k_is);(case l8=>k_is);(case c8=>k_is);(case k8=>k_is))
   (case a9=>(refine' My.FA.mk ?j9 ?l9 ?c9 ?k9);(case j9=>k_is);(case l9=>k_is);(case c9=>k_is);(case k9=>k_is))
   (case a10=>(refine' My.FA.mk ?j10 ?l10 ?c10 ?k10);(case j10=>k_is);(case l10=>k_is);(case c10=>k_is);(case k10=>k_is))
   (case a11=>(refine' My.FA.mk ?j11 ?l11 ?c11 ?k11);(case j11=>k_is);(case l11=>k_is);(case c11=>k_is);(case k11=>k_is))
   (case a12=>(refine' My.FA.mk ?j12 ?l12 ?c12 ?k12);(case j12=>k_is);(case l12=>k_is);(case c12=>k_is);(case k12=>k_is))
   (case a13=>(refine' My.FA.mk ?j13 ?l13 ?c13 ?k13);(case j13=>k_is);(case l13=>k_is);(case c13=>k_is);(case k13=>k_is))
   (case a14=>(refine' My.FA.mk ?j14 ?l14 ?c14 ?k14);(case j14=>k_is);(case l14=>k_is);(case c14=>k_is);(case k14=>k_is))
   (case a15=>(refine' My.FA.mk ?j15 ?l15 ?c15 ?k15);(case j15=>k_is);(case l15=>k_is);(case c15=>k_is);(case k15=>k_is))
   (case a16=>(refine' My.FA.mk ?j16 ?l16 ?c16 ?k16);(case j16=>k_is);(case l16=>k_is);(case c16=>k_is);(case k16=>k_is))
   (case a17=>(refine' My.FA.mk ?j17 ?l17 ?c17 ?k17);(case j17=>k_is);(case l17=>k_is);(case c17=>k_is);(case k17=>k_is))
   (case a18=>(refine' My.FA.mk ?j18 ?l18 ?c18 ?k18);(case j18=>k_is);(case l18=>k_is);(case c18=>k_is);(case k18=>k_is))
   (case a19=>(refine' My.FA.mk ?j19 ?l19 ?c19 ?k19);(case j19=>k_is);(case l19=>k_is);(case c19=>k_is);(case k19=>k_is))
   (case a20=>(refine' My.FA.mk ?j20 ?l20 ?c20 ?k20);(case j20=>k_is);(case l20=>k_is);(case c20=>k_is);(case k20=>k_is))
   (case a21=>(refine' My.FA.mk ?j21 ?l21 ?c21 ?k21);(case j21=>k_is);(case l21=>k_is);(case c21=>k_is);(case k21=>k_is))
   (case a22=>(refine' My.FA.mk ?j22 ?l22 ?c22 ?k22);(case j22=>k_is);(case l22=>k_is);(case c22=>k_is);(case k22=>k_is))
   (case a23=>(refine' My.FA.mk ?j23 ?l23 ?c23 ?k23);(case j23=>k_is);(case l23=>k_is);(case c23=>k_is);(case k23=>k_is))
   (case a24=>(refine' My.FA.mk ?j24 ?l24 ?c24 ?k24);(case j24=>k_is);(case l24=>k_is);(case c24=>k_is);(case k24=>k_is))
   (case a25=>(refine' My.FA.mk ?j25 ?l25 ?c25 ?k25);(case j25=>k_is);(case l25=>k_is);(case c25=>k_is);(case k25=>k_is))
   (case a26=>(refine' My.FA.mk ?j26 ?l26 ?c26 ?k26);(case j26=>k_is);(case l26=>k_is);(case c26=>k_is);(case k26=>k_is))
   (case a27=>(refine' My.FA.mk ?j27 ?l27 ?c27 ?k27);(case j27=>k_is);(case l27=>k_is);(case c27=>k_is);(case k27=>k_is))
   (case a28=>(refine' My.FA.mk ?j28 ?l28 ?c28 ?k28);(case j28=>k_is);(case l28=>k_is);(case c28=>k_is);(case k28=>k_is))
   (case a29=>(refine' My.FA.mk ?j29 ?l29 ?c29 ?k29);(case j29=>k_is);(case l29=>k_is);(case c29=>k_is);(case k29=>k_is))
   (case a30=>(refine' My.FA.mk ?j30 ?l30 ?c30 ?k30);(case j30=>k_is);(case l30=>k_is);(case c30=>k_is);(case k30=>k_is))
   (case a31=>(refine' My.FA.mk ?j31 ?l31 ?c31 ?k31);(case j31=>k_is);(case l31=>k_is);(case c31=>k_is);(case k31=>k_is))
   (case a32=>(refine' My.FA.mk ?j32 ?l32 ?c32 ?k32);(case j32=>k_is);(case l32=>k_is);(case c32=>k_is);(case k32=>k_is))
   (case a33=>(refine' My.FA.mk ?j33 ?l33 ?c33 ?k33);(case j33=>k_is);(case l33=>k_is);(case c33=>k_is);(case k33=>k_is))
   (case a34=>(refine' My.FA.mk ?j34 ?l34 ?c34 ?k34);(case j34=>k_is);(case l34=>k_is);(case c34=>k_is);(case k34=>k_is))
   (case a35=>(refine' My.FA.mk ?j35 ?l35 ?c35 ?k35);(case j35=>k_is);(case l35=>k_is);(case c35=>k_is);(case k35=>k_is))
   (case a36=>(refine' My.FA.mk ?j36 ?l36 ?c36 ?k36);(case j36=>k_is);(case l36=>k_is);(case c36=>k_is);(case k36=>k_is))
   (case a37=>(refine' My.FA.mk ?j37 ?l37 ?c37 ?k37);(case j37=>k_is);(case l37=>k_is);(case c37=>k_is);(case k37=>k_is))
   (case a38=>(refine' My.FA.mk ?j38 ?l38 ?c38 ?k38);(case j38=>k_is);(case l38=>k_is);(case c38=>k_is);(case k38=>k_is))
   (case a39=>(refine' My.FA.mk ?j39 ?l39 ?c39 ?k39);(case j39=>k_is);(case l39=>k_is);(case c39=>k_is);(case k39=>k_is))
   (case a40=>(refine' My.FA.mk ?j40 ?l40 ?c40 ?k40);(case j40=>k_is);(case l40=>k_is);(case c40=>k_is);(case k40=>k_is))
   (case a41=>(refine' My.FA.mk ?j41 ?l41 ?c41 ?k41);(case j41=>k_is);(case l41=>k_is);(case c41=>k_is);(case k41=>k_is))
   (case a42=>(refine' My.FA.mk ?j42 ?l42 ?c42 ?k42);(case j42=>k_is);(case l42=>k_is);(case c42=>k_is);(case k42=>k_is))
   (case a43=>(refine' My.FA.mk ?j43 ?l43 ?c43 ?k43);(case j43=>k_is);(case l43=>k_is);(case c43=>k_is);(case k43=>k_is))
   (case a44=>(refine' My.FA.mk ?j44 ?l44 ?c44 ?k44);(case j44=>k_is);(case l44=>k_is);(case c44=>k_is);(case k44=>k_is))
   (case a45=>(refine' My.FA.mk ?j45 ?l45 ?c45 ?k45);(case j45=>k_is);(case l45=>k_is);(case c45=>k_is);(case k45=>k_is))
   (case a46=>(refine' My.FA.mk ?j46 ?l46 ?c46 ?k46);(case j46=>k_is);(case l46=>k_is);(case c46=>k_is);(case k46=>k_is))
   (case a47=>(refine' My.FA.mk ?j47 ?l47 ?c47 ?k47);(case j47=>k_is);(case l47=>k_is);(case c47=>k_is);(case k47=>k_is))
   (case a48=>(refine' My.FA.mk ?j48 ?l48 ?c48 ?k48);(case j48=>k_is);(case l48=>k_is);(case c48=>k_is);(case k48=>k_is))
   (case a49=>(refine' My.FA.mk ?j49 ?l49 ?c49 ?k49);(case j49=>k_is);(case l49=>k_is);(case c49=>k_is);(case k49=>k_is))
   (case a50=>(refine' My.FA.mk ?j50 ?l50 ?c50 ?k50);(case j50=>k_is);(case l50=>k_is);(case c50=>k_is);(case k50=>k_is))
   (case a51=>(refine' My.FA.mk ?j51 ?l51 ?c51 ?k51);(case j51=>k_is);(case l51=>k_is);(case c51=>k_is);(case k51=>k_is))
   (case a52=>(refine' My.FA.mk ?j52 ?l52 ?c52 ?k52);(case j52=>k_is);(case l52=>k_is);(case c52=>k_is);(case k52=>k_is))
   (case a53=>(refine' My.FA.mk ?j53 ?l53 ?c53 ?k53);(case j53=>k_is);(case l53=>k_is);(case c53=>k_is);(case k53=>k_is))
   (case a54=>(refine' My.FA.mk ?j54 ?l54 ?c54 ?k54);(case j54=>k_is);(case l54=>k_is);(case c54=>k_is);(case k54=>k_is))
   (case a55=>(refine' My.FA.mk ?j55 ?l55 ?c55 ?k55);(case j55=>k_is);(case l55=>k_is);(case c55=>k_is);(case k55=>k_is))
   (case a56=>(refine' My.FA.mk ?j56 ?l56 ?c56 ?k56);(case j56=>k_is);(case l56=>k_is);(case c56=>k_is);(case k56=>k_is))
   (case a57=>(refine' My.FA.mk ?j57 ?l57 ?c57 ?k57);(case j57=>k_is);(case l57=>k_is);(case c57=>k_is);(case k57=>k_is))
   (case a58=>(refine' My.FA.mk ?j58 ?l58 ?c58 ?k58);(case j58=>k_is);(case l58=>k_is);(case c58=>k_is);(case k58=>k_is))
   (case a59=>(refine' My.FA.mk ?j59 ?l59 ?c59 ?k59);(case j59=>k_is);(case l59=>k_is);(case c59=>k_is);(case k59=>k_is))
   (case a60=>(refine' My.FA.mk ?j60 ?l60 ?c60 ?k60);(case j60=>k_is);(case l60=>k_is);(case c60=>k_is);(case k60=>k_is))
   (case a61=>(refine' My.FA.mk ?j61 ?l61 ?c61 ?k61);(case j61=>k_is);(case l61=>k_is);(case c61=>k_is);(case k61=>k_is))
   (case a62=>(refine' My.FA.mk ?j62 ?l62 ?c62 ?k62);(case j62=>k_is);(case l62=>k_is);(case c62=>k_is);(case k62=>k_is))
   (case a63=>(refine' My.FA.mk ?j63 ?l63 ?c63 ?k63);(case j63=>k_is);(case l63=>k_is);(case c63=>k_is);(case k63=>k_is))
   (case a64=>(refine' My.FA.mk ?j64 ?l64 ?c64 ?k64);(case j64=>k_is);(case l64=>k_is);(case c64=>k_is);(case k64=>k_is))
   (case a65=>(refine' My.FA.mk ?j65 ?l65 ?c65 ?k65);(case j65=>k_is);(case l65=>k_is);(case c65=>k_is);(case k65=>k_is))
   (case a66=>(refine' My.FA.mk ?j66 ?l66 ?c66 ?k66);(case j66=>k_is);(case l66=>k_is);(case c66=>k_is);(case k66=>k_is))
   (case a67=>(refine' My.FA.mk ?j67 ?l67 ?c67 ?k67);(case j67=>k_is);(case l67=>k_is);(case c67=>k_is);(case k67=>k_is))
   (case a68=>(refine' My.FA.mk ?j68 ?l68 ?c68 ?k68);(case j68=>k_is);(case l68=>k_is);(case c68=>k_is);(case k68=>k_is))
   (case a69=>(refine' My.FA.mk ?j69 ?l69 ?c69 ?k69);(case j69=>k_is);(case l69=>k_is);(case c69=>k_is);(case k69=>k_is))
   (case a70=>(refine' My.FA.mk ?j70 ?l70 ?c70 ?k70);(case j70=>k_is);(case l70=>k_is);(case c70=>k_is);(case k70=>k_is))
   (case a71=>(refine' My.FA.mk ?j71 ?l71 ?c71 ?k71);(case j71=>k_is);(case l71=>k_is);(case c71=>k_is);(case k71=>k_is))
   (case a72=>(refine' My.FA.mk ?j72 ?l72 ?c72 ?k72);(case j72=>k_is);(case l72=>k_is);(case c72=>k_is);(case k72=>k_is))
   (case a73=>(refine' My.FA.mk ?j73 ?l73 ?c73 ?k73);(case j73=>k_is);(case l73=>k_is);(case c73=>k_is);(case k73=>k_is))
   (case a74=>(refine' My.FA.mk ?j74 ?l74 ?c74 ?k74);(case j74=>k_is);(case l74=>k_is);(case c74=>k_is);(case k74=>k_is))
   (case a75=>(refine' My.FA.mk ?j75 ?l75 ?c75 ?k75);(case j75=>k_is);(case l75=>k_is);(case c75=>k_is);(case k75=>k_is))
   (case q0=>k_is)
   (case r0=>k_is)
   (case t0=>rfl)
   (case y0=>rfl)
   (case u0=>rfl)
   (case v0=>repeat (first|exact L2.cT|refine L2.bH rfl ?_|refine L2.bH ⟨_,rfl⟩ ?_))
   (case q1=>k_is)
   (case q2=>k_is)
   (case q3=>k_is)
   (case q4=>k_is)
   (case r4=>k_is)
   (case t4=>rfl)
   (case y4=>rfl)
   (case u4=>rfl)
   (case v4=>repeat (first|exact L2.cT|refine L2.bH rfl ?_|refine L2.bH ⟨_,rfl⟩ ?_))
   (case q5=>k_is)
   (case r5=>k_is)
   (case t5=>rfl)
   (case y5=>rfl)
   (case u5=>rfl)
   (case v5=>repeat (first|exact L2.cT|refine L2.bH rfl ?_|refine L2.bH ⟨_,rfl⟩ ?_))
   (case q6=>k_is)
   (case r6=>k_is)
   (case t6=>rfl)
   (case y6=>rfl)
   (case u6=>rfl)
   (case v6=>repeat (first|exact L2.cT|refine L2.bH rfl ?_|refine L2.bH ⟨_,rfl⟩ ?_))
   (case q7=>k_is)
   (case q8=>k_is)
   (case q9=>k_is)
   (case q10=>k_is)
   (case q11=>k_is)
   (case q12=>k_is)
   (case q13=>k_is)
   (case q14=>k_is)
   (case r14=>k_is)
   (case x14=>exact ⟨rfl,rfl,rfl⟩)
   (case o14=>first|rfl|decide +kernel)
   (case u14=>rfl)
   (case h14=>intro P;repeat (first|exact L2.PH.nil|refine L2.PH.cons rfl rfl rfl ?_))
   (case r14_0=>k_is)
   (case t14_0=>rfl)
   (case y14_0=>rfl)
   (case u14_0=>rfl)
   (case v14_0=>repeat (first|exact L2.cT|refine L2.bH rfl ?_|refine L2.bH ⟨_,rfl⟩ ?_))
   (case r14_1=>k_is)
   (case t14_1=>rfl)
   (case y14_1=>rfl)
   (case u14_1=>rfl)
   (case v14_1=>repeat (first|exact L2.cT|refine L2.bH rfl ?_|refine L2.bH ⟨_,rfl⟩ ?_))
   (case r14_2=>k_is)
   (case t14_2=>rfl)
   (case y14_2=>rfl)
   (case u14_2=>rfl)
   (case v14_2=>repeat (first|exact L2.cT|refine L2.bH rfl ?_|refine L2.bH ⟨_,rfl⟩ ?_))
   (case r14_3=>k_is)
   (case t14_3=>rfl)
   (case y14_3=>rfl)
   (case u14_3=>rfl)
   (case v14_3=>repeat (first|exact L2.cT|refine L2.bH rfl ?_|refine L2.bH ⟨_,rfl⟩ ?_))
   (case r14_4=>k_is)
   (case t14_4=>rfl)
   (case y14_4=>rfl)
   (case u14_4=>rfl)
   (case v14_4=>repeat (first|exact L2.cT|refine L2.bH rfl ?_|refine L2.bH ⟨_,rfl⟩ ?_))
   (case r14_5=>k_is)
   (case t14_5=>rfl)
   (case y14_5=>rfl)
   (case u14_5=>rfl)
   (case v14_5=>repeat (first|exact L2.cT|refine L2.bH rfl ?_|refine L2.bH ⟨_,rfl⟩ ?_))
   (case r14_6=>k_is)
   (case t14_6=>rfl)
   (case y14_6=>rfl)
   (case u14_6=>rfl)
   (case v14_6=>repeat (first|exact L2.cT|refine L2.bH rfl ?_|refine L2.bH ⟨_,rfl⟩ ?_))
   (case z0=>k_is)
   (case z1=>k_is)
   (case z2=>k_is)
   (case z3=>k_is)
   (case z4=>k_is)
   (case z5=>k_is)
   (case z6=>k_is)
   (case z7=>k_is)
   (case z8=>k_is)
   (case z9=>k_is)
   (case z10=>k_is)
   (case z11=>k_is)
   (case z12=>k_is)
   (case z13=>k_is)
   (case z14=>k_is)
   (case z15=>k_is)
   (case z16=>k_is)
   (case z17=>k_is)
   (case z18=>k_is)
   (case z19=>k_is)
   (case z20=>k_is)
  exact My.aVu (P:=PySem.Challenge.rw_shardask_k10_chosen_and_kept.prog) T hmg
