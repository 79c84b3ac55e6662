import PyProof.Rows.All
import Wide.All
import OpenK.AllK
import Wide.FinOn
import Lean
import PyProof.EqAt
import PyProof.EqKinds
import PyProof.TupleCall
import PyProof.CallType
import PyProof.WalkLemmas
import PyProof.StrOps
import PyProof.ForAny
import PyProof.IsInstanceH
import PyProof.IsiFacts
import PyProof.IsiFacts2
import PyProof.FactsAll.object
import PyProof.ListMulRoad
import PyProof.FactsAll.tuple_2
import PyProof.StrLawsIdx
import KE.KDictList
import PyProof.Rows.Range3
import PyProof.EnumMake
import PyProof.EnumFor
import PyProof.CompUse
import PyProof.ListStr
import PyProof.NeKinds
import KE.KDictOf
import KE.KEqDict
import KE.KDictSum
import PyProof.AttrMissHeap
import KE.KSortTup
import PyProof.IsInstanceT
import PyProof.FString5
import PyProof.Rows.SeqMore2
import PyProof.IsiPairs
import PyProof.DictWalks
import PyProof.Cells
import PyProof.StrCalls3
import KE.KSortKey
import PyProof.Rows.SortStr
import KE.KLam
import PySem.Challenge.RW_shardask_k13_first_and_order
set_option Elab.async false
set_option linter.all false
set_option maxRecDepth 100000
set_option maxHeartbeats 6400000
local macro_rules
  | `(tactic| trivial) => `(tactic| first | exact Or.inl rfl | exact Or.inr rfl | exact Or.inr (Or.inl rfl) | exact Or.inr (Or.inr rfl) | exact ⟨rfl, rfl, rfl, by decide +kernel, rfl, by decide +kernel, by decide +kernel⟩ | exact ⟨by decide +kernel, rfl, by decide +kernel, by decide +kernel⟩ | fail)
namespace L2
open PySem PySem.Spec PyProof.Rows
abbrev Key:=Sum Int Str
def keyIs:Key→Value→Bool
 |.inl k,v=>Value.isInt k v
 |.inr x,v=>Value.isStrOf x v
def keyH (w:World):Key→Int
 |.inl k=>hashInt k
 |.inr x=>hashStr w x
theorem keyIs_shape:∀{k:Key} {v:Value},keyIs k v=true→(∃i t,k=Sum.inl i∧v=Value.int i t)∨(∃x t,k=Sum.inr x∧v=Value.str x t)
 |.inl i,v,h=>by
  obtain ⟨t,e⟩:=Value.isInt_shape (k:=i) (v:=v) h
  exact .inl ⟨i,t,rfl,e⟩
 |.inr x,v,h=>by
  obtain ⟨t,e⟩:=Value.isStrOf_shape (x:=x) (v:=v) h
  exact .inr ⟨x,t,rfl,e⟩
theorem keyIs_int (i:Int) (t:Tok):keyIs (.inl i) (.int i t)=true:=by simp [keyIs,Value.isInt]
theorem keyIs_str (x:Str) (t:Tok):keyIs (.inr x) (.str x t)=true:=by simp [keyIs,Value.isStrOf]
theorem key_ll (a b:Int):decide ((Sum.inl a:Key)=Sum.inl b)=(a == b):=by
 by_cases e:a=b
 ·subst e;simp
 ·have h:¬ (Sum.inl a:Key)=Sum.inl b:=fun q=>e (Sum.inl.inj q)
  rw [decide_eq_false h]
  exact (beq_eq_false_iff_ne.mpr e).symm
theorem key_rr (a b:Str):decide ((Sum.inr a:Key)=Sum.inr b)=decide (a=b):=by
 by_cases e:a=b
 ·subst e;simp
 ·have h:¬ (Sum.inr a:Key)=Sum.inr b:=fun q=>e (Sum.inr.inj q)
  rw [decide_eq_false h,decide_eq_false e]
theorem key_lr (a:Int) (b:Str):decide ((Sum.inl a:Key)=Sum.inr b)=false:=decide_eq_false (fun q=>nomatch q)
theorem key_rl (a:Str) (b:Int):decide ((Sum.inr a:Key)=Sum.inl b)=false:=decide_eq_false (fun q=>nomatch q)
def mixKind (prog:Program) (w:World):PySem.KeyKind prog w Key where
 is:=keyIs
 hash:=keyH w
 inj:=fun v a b ha hb=>by
  rcases keyIs_shape ha with ⟨i,t,rfl,rfl⟩|⟨x,t,rfl,rfl⟩
  ·rcases keyIs_shape hb with ⟨j,u,rfl,e⟩|⟨y,u,rfl,e⟩
   ·injection e with e1 _;rw [e1]
   ·exact nomatch e
  ·rcases keyIs_shape hb with ⟨j,u,rfl,e⟩|⟨y,u,rfl,e⟩
   ·exact nomatch e
   ·injection e with e1 _;rw [e1]
 byValue:=fun k v h=>by
  rcases keyIs_shape h with ⟨i,t,rfl,rfl⟩|⟨x,t,rfl,rfl⟩ <;> rfl
 pyHash:=fun hv h=>by
  rcases keyIs_shape hv with ⟨i,t,rfl,rfl⟩|⟨x,t,rfl,rfl⟩
  ·exact wpAny_pyHash_int h
  ·exact wpAny_pyHash_str h
 eqBool:=fun hu hv h=>by
  rcases keyIs_shape hu with ⟨i,t,rfl,rfl⟩|⟨x,t,rfl,rfl⟩
  ·rcases keyIs_shape hv with ⟨j,u,rfl,rfl⟩|⟨y,u,rfl,rfl⟩
   ·rw [key_ll] at h;exact wpAny_eqBool_int h
   ·rw [key_lr] at h;exact SeqAt.EqAt.int_str i t y u _ _ _ _ h
  ·rcases keyIs_shape hv with ⟨j,u,rfl,rfl⟩|⟨y,u,rfl,rfl⟩
   ·rw [key_rl] at h;exact SeqAt.EqAt.str_int x t j u _ _ _ _ h
   ·rw [key_rr] at h;exact wpAny_eqBool_str h
 «strs»:=fun k x t v h=>by
  rcases keyIs_shape h with ⟨i,u,rfl,e⟩|⟨y,u,rfl,e⟩
  ·exact nomatch e
  ·injection e with e1 _
   subst e1
   cases v <;> rfl
theorem mixKind_int (prog:Program) (w:World) (i:Int) (t:Tok):(mixKind prog w).is (.inl i) (.int i t)=true:=keyIs_int i t
theorem mixKind_str (prog:Program) (w:World) (x:Str) (t:Tok):(mixKind prog w).is (.inr x) (.str x t)=true:=keyIs_str x t
inductive V where
 |non|bl (b:Bool)|int (i:Int)|str (x:Str)|byt (b:Array UInt8)|flt (b:UInt64)|ref (a:Addr)|ty (n:String)
 deriving DecidableEq
def RelV:V→Value→Prop
 |.non,u=>u=Value.none
 |.bl b,u=>u=Value.bool b
 |.int i,u=>∃t,u=Value.int i t
 |.str x,u=>∃t,u=Value.str x t
 |.byt b,u=>∃t,u=Value.bytes b t
 |.flt b,u=>∃t,u=Value.float b t
 |.ref a,u=>u=Value.ref a
 |.ty n,u=>u=Value.type n
abbrev Vals:List V→List Value→Prop:=Paired RelV
theorem Vals.length {xs:List V} {us:List Value} (r:Vals xs us):xs.length=us.length:=Paired.length r
theorem Vals.get:∀{xs:List V} {us:List Value} {i:Nat} {x:V},Vals xs us→xs[i]?=some x→∃u,us[i]?=some u∧RelV x u
 |_,_,_,_,.nil,e=>by simp at e
 |_,_,0,_,.cons r _,e=>by simp at e;subst e;exact ⟨_,rfl,r⟩
 |_,_,i+1,x,.cons _ t,e=>by
  obtain ⟨u,h1,h2⟩:=Vals.get (i:=i) (x:=x) t (by simpa using e)
  exact ⟨u,by simpa using h1,h2⟩
theorem Vals.set {x:V} {u:Value} (r:RelV x u):∀{xs:List V} {us:List Value} (i:Nat),Vals xs us→Vals (xs.set i x) (us.set i u)
 |_,_,_,.nil=>.nil
 |_,_,0,.cons _ t=>.cons r t
 |_,_,i+1,.cons q t=>.cons q (Vals.set r i t)
theorem Vals.append:∀{xs ys:List V} {us ws:List Value},Vals xs us→Vals ys ws→Vals (xs++ys) (us++ws)
 |_,_,_,_,.nil,s=>s
 |_,_,_,_,.cons r t,s=>.cons r (Vals.append t s)
theorem Vals.take:∀{xs:List V} {us:List Value} (n:Nat),Vals xs us→Vals (xs.take n) (us.take n)
 |_,_,0,_=>.nil
 |_,_,_+1,.nil=>.nil
 |_,_,n+1,.cons r t=>.cons r (Vals.take n t)
theorem Vals.drop:∀{xs:List V} {us:List Value} (n:Nat),Vals xs us→Vals (xs.drop n) (us.drop n)
 |_,_,0,r=>r
 |_,_,_+1,.nil=>.nil
 |_,_,n+1,.cons _ t=>Vals.drop n t
def RelO:Option V→Option Value→Prop
 |some v,some u=>RelV v u
 |none,none=>True
 |_,_=>False
def KV {κ:Type}:List (κ × V)→List (κ × Value)→Prop:=Paired fun (p:κ × V) (q:κ × Value)=>p.1=q.1∧RelV p.2 q.2
def kV:Key→V
 |.inl i=>.int i
 |.inr x=>.str x
inductive HO where
  |lst (xs:List V)
  |tup (xs:List V)
  |dK (kvs:List (Key × V))|dT (kvs:List (List Key × V))
  |set (S:Int→Bool) (n:Nat)
  |ins (C dx:Addr) (fs:List (Str × V))
  |own (x:Addr)
  |xd (fs:List (Str × V))
  |met (f x:Addr)
  |rng (lo hi:Int)
  |frz (o:Obj) (u:HO)
  |tbl (ps:Array Value)
  |tab (q:Str)
  |ext (φ:Heap→Prop)
abbrev Hp:=Addr→Option HO
def upd (H:Hp) (a:Addr) (o:HO):Hp:=fun b=>if b=a then some o else H b
theorem upd_same {H:Hp} {a:Addr} {o:HO}:upd H a o a=some o:=by unfold upd;rw [if_pos rfl]
theorem upd_ne {H:Hp} {a b:Addr} {o:HO} (h:b≠a):upd H a o b=H b:=by unfold upd;rw [if_neg h]
theorem upd_upd {H:Hp} {a:Addr} {o u:HO}:upd (upd H a o) a u=upd H a u:=by
 funext b;unfold upd;split <;> rfl
theorem ne_of {H:Hp} {a b:Addr} {o u:HO} (h:H a=some o) (h':H b=some u) (d:o≠u):a≠b:=by
 intro e;subst e;rw [h] at h';exact d (Option.some.inj h')
theorem ne_of_none {H:Hp} {a b:Addr} {o:HO} (h:H a=some o) (h':H b=none):a≠b:=by
 intro e;subst e;rw [h] at h';cases h'
def tV (h:Heap) (a:Addr) (items:Array Value):Prop:=IsTup h a items∧∀o,h.get? a=some o→o.dict=none
theorem tV.of {h:Heap} {a:Addr} {items:Array Value} {o:Obj} (e:h.get? a=some o) (d:o.dict=none) (x:IsTup h a items):tV h a items:=⟨x,fun o' e'=>by rw [e] at e';cases e';exact d⟩
theorem tV.new (h:Heap) (items:Array Value):tV (h.push { cls:=.type "tuple",data:=.seq items }) h.objs.size items:=.of (Heap.get?_push_size _ rfl) rfl (IsTup.new _ _)
theorem tV.keep {h h':Heap} {a:Addr} {items:Array Value} (x:tV h a items) (k:∀o,h.get? a=some o→h'.get? a=some o):tV h' a items:=by
 obtain ⟨⟨o,e,c⟩,d⟩:=x
 exact .of (k o e) (d o e) ⟨o,k o e,c⟩
section
variable (P:Program) (w:World)
def ObjOk (H:Hp) (h:Heap) (a:Addr):HO→Prop
 |.lst xs=>xs.length≤sizeLine∧∃(its:List Value) (n:Nat),Vals xs its∧h.get? a=some { cls:=.type "list",data:=.seq its.toArray n }
 |.tup xs=>xs.length≤sizeLine∧∃its:List Value,Vals xs its∧tV h a its.toArray
 |.dK kvs=>kvs.length≤sizeLine∧(a == sysModules)=false∧∃vs,KV kvs vs∧h.DictOf (mixKind P w) a vs
 |.dT kvs=>kvs.length≤sizeLine∧(a == sysModules)=false∧∃xs:List (List Key × Addr × Value),
   Paired (fun (p:List Key × V) (q:List Key × Addr × Value)=>p.1=q.1∧H q.2.1=some (.tup (p.1.map kV))∧RelV p.2 q.2.2) kvs xs ∧
   ∃o es ep,h.get? a=some o∧o.ExactDict∧o.data=.dict es ep∧es.toList=xs.map (entryOfKey (tupleKind (mixKind P w)))∧(xs.map (·.1)).Nodup
 |.set S n=>h.SetOf (intKind P w) a S n
 |.ins C dx fs=>H dx=some (.own a)∧fs.length≤1000∧dx≠a∧h.get? a=some (PySem.W.instObj C dx) ∧
   ∃mA,h.Ns1 dx mA∧(∀f,RelO (fs.lookup f) (mA f))∧PySem.Within mA (fs.map (·.1))
 |.own _=>∃o,h.get? a=some o
 |.xd fs=>∃mA,h.Ns1 a mA∧∀f,RelO (fs.lookup f) (mA f)
 |.rng lo hi=>∃t u v,h.get? a=some { cls:=.type "range",data:=.fields #[.int lo t,.int hi u,.int 1 v] }
 |.frz o u=>h.get? a=some o∧ObjOk H h a u
 |.tbl ps=>h.get? a=some { cls:=.none,data:=.fields ps }
 |.tab q=>∃ps:Array Value,h.get? a=some { cls:=.none,data:=.fields ps }∧TriplesOk ps.toList∧∀(pos:Pos) (cv:Value),codeAmong pos ps.toList=some cv→∃(c:Addr) (oc:Obj) (vs:Array Value) (t:Tok),cv=.ref c∧H c=some (.own a)∧h.get? c=some oc∧oc.data=.fields vs∧vs[1]?=some (.str q t)
 |.met f x=>h.get? a=some (PySem.W.methodObj (.ref f) (.ref x))
 |.ext φ=>φ h∧(∃o,h.get? a=some o)∧∀h1 h2:Heap,φ h1→(∀o,h1.get? a=some o→h2.get? a=some o)→φ h2
def HOk (H:Hp) (h:Heap):Prop:=∀a o,H a=some o→ObjOk P w H h a o
end
section
variable {P:Program} {w:World} {H H':Hp} {h h':Heap} {a:Addr} {o:HO}
theorem ObjOk.lt (x:ObjOk P w H h a o):a<h.objs.size:=by
 cases o with
 |lst xs=>obtain ⟨_,_,_,_,e⟩:=x;exact Heap.lt_size e
 |tup xs=>obtain ⟨_,_,_,p⟩:=x;exact p.1.lt
 |dK kvs=>obtain ⟨_,_,_,_,o,_,_,e,_⟩:=x;exact Heap.lt_size e
 |dT kvs=>obtain ⟨_,_,_,_,o,_,_,e,_⟩:=x;exact Heap.lt_size e
 |set S n=>obtain ⟨o,_,_,_,e,_⟩:=x;exact Heap.lt_size e
 |ins C dx fs=>obtain ⟨_,_,_,e,_⟩:=x;exact Heap.lt_size e
 |own y=>obtain ⟨_,e⟩:=x;exact Heap.lt_size e
 |xd fs=>obtain ⟨_,⟨_,_,_,e,_⟩,_⟩:=x;exact Heap.lt_size e
 |rng lo hi=>obtain ⟨_,_,_,e⟩:=x;exact Heap.lt_size e
 |frz ob u=>obtain ⟨e,_⟩:=x;exact Heap.lt_size e
 |tbl ps=>exact Heap.lt_size (show h.get? a=some _ from x)
 |tab q=>obtain ⟨_,e,_⟩:=x;exact Heap.lt_size e
 |met f y=>exact Heap.lt_size (show h.get? a=some _ from x)
 |ext φ=>obtain ⟨_,⟨_,e⟩,_⟩:=x;exact Heap.lt_size e
theorem Paired.mapP {α β:Type} {F G:α→β→Prop}:∀{l₁:List α} {l₂:List β},Paired F l₁ l₂→(∀a b,F a b→G a b)→Paired G l₁ l₂
 |_,_,.nil,_=>.nil
 |_,_,.cons r t,f=>.cons (f _ _ r) (Paired.mapP t f)
theorem ObjOk.stay (x:ObjOk P w H h a o) (k:∀b u,(b=a∨H b=some (.own a))→h.get? b=some u→h'.get? b=some u)
  (ho:∀b,H b=some (.own a)→H' b=some (.own a)) (ht:∀b xs,H b=some (.tup xs)→H' b=some (.tup xs)):ObjOk P w H' h' a o:=by
 induction o with
 |lst xs=>obtain ⟨z,its,n,r,e⟩:=x;exact ⟨z,its,n,r,k _ _ (.inl rfl) e⟩
 |tup xs=>obtain ⟨z,its,r,p⟩:=x;exact ⟨z,its,r,p.keep fun o e=>k _ _ (.inl rfl) e⟩
 |dK kvs=>obtain ⟨z,y,vs,r,ob,es,ep,e,c⟩:=x;exact ⟨z,y,vs,r,ob,es,ep,k _ _ (.inl rfl) e,c⟩
 |dT kvs=>
  obtain ⟨z,y,xs,r,ob,es,ep,e,c⟩:=x
  exact ⟨z,y,xs,Paired.mapP r fun p q z=>⟨z.1,ht _ _ z.2.1,z.2.2⟩,ob,es,ep,k _ _ (.inl rfl) e,c⟩
 |set S n=>obtain ⟨ob,es,ep,t,e,c⟩:=x;exact ⟨ob,es,ep,t,k _ _ (.inl rfl) e,c⟩
 |ins C dx fs=>
  obtain ⟨d,z,ne,e,mA,⟨od,es,ep,e2,c⟩,r⟩:=x
  exact ⟨ho _ d,z,ne,k _ _ (.inl rfl) e,mA,⟨od,es,ep,k _ _ (.inr d) e2,c⟩,r⟩
 |own y=>obtain ⟨ob,e⟩:=x;exact ⟨ob,k _ _ (.inl rfl) e⟩
 |xd fs=>obtain ⟨mA,⟨od,es,ep,e,c⟩,r⟩:=x;exact ⟨mA,⟨od,es,ep,k _ _ (.inl rfl) e,c⟩,r⟩
 |rng lo hi=>obtain ⟨t,u,v,e⟩:=x;exact ⟨t,u,v,k _ _ (.inl rfl) e⟩
 |frz ob u ih=>obtain ⟨e,q⟩:=x;exact ⟨k _ _ (.inl rfl) e,ih q⟩
 |tab q=>obtain ⟨ps,e,t,c⟩:=x;exact ⟨ps,k _ _ (.inl rfl) e,t,fun pos cv q=>let ⟨c',oc,vs,tk,a1,a2,a3,a4⟩:=c pos cv q;⟨c',oc,vs,tk,a1,ho _ a2,k _ _ (.inr a2) a3,a4⟩⟩
 |tbl ps=>
  have e:h.get? a=some { cls:=.none,data:=.fields ps }:=x
  show h'.get? a=some { cls:=.none,data:=.fields ps }
  exact k a _ (.inl rfl) e
 |met f y=>
  have e:h.get? a=some (PySem.W.methodObj (.ref f) (.ref y)):=x
  show h'.get? a=some (PySem.W.methodObj (.ref f) (.ref y))
  exact k a _ (.inl rfl) e
 |ext φ=>obtain ⟨p,⟨o,e⟩,st⟩:=x;exact ⟨st _ _ p fun o q=>k _ _ (.inl rfl) q,⟨o,k _ _ (.inl rfl) e⟩,st⟩
theorem HOk.lt (x:HOk P w H h) (e:H a=some o):a<h.objs.size:=(x a o e).lt
theorem HOk.fresh (x:HOk P w H h) (e:h.objs.size≤a):H a=none:=by
 cases q:H a with
 |none=>rfl
 |some u=>exact absurd (Nat.lt_of_lt_of_le (x.lt q) e) (Nat.lt_irrefl _)
theorem HOk.kept (x:HOk P w H h) (k:∀b u,h.get? b=some u→h'.get? b=some u):HOk P w H h':=fun a o e=>
 (x a o e).stay (fun b u _ q=>k b u q) (fun _ q=>q) fun _ _ q=>q
theorem HOk.laid (x:HOk P w H h) (k:∀b u,h.get? b=some u→h'.get? b=some u) (hp:h.objs.size≤a) (new:ObjOk P w (upd H a o) h' a o):HOk P w (upd H a o) h':=fun b u e=>by
 have hn:=x.fresh hp
 by_cases hb:b=a
 ·subst hb;rw [upd_same] at e;cases e;exact new
 ·rw [upd_ne hb] at e
  exact (x b u e).stay (fun c v _ q=>k c v q) (fun c q=>by rw [upd_ne (ne_of_none q hn)];exact q) fun c xs q=>by rw [upd_ne (ne_of_none q hn)];exact q
end
def Rd (H:Hp) (a:Addr) (u:HO):Prop:=H a=some u∨∃o,H a=some (.frz o u)
theorem Rd.ok {P:Program} {w:World} {H:Hp} {h:Heap} {a:Addr} {u:HO} (r:Rd H a u) (x:HOk P w H h):ObjOk P w H h a u:=by
 rcases r with r|⟨o,r⟩
 ·exact x a u r
 ·obtain ⟨_,q⟩:=x a _ r
  exact q
def Mut:Option HO→Prop
 |some (.lst _)=>True
 |some (.dK _)=>True
 |some (.dT _)=>True
 |some (.set _ _)=>True
 |some (.ins _ _ _)=>True
 |some (.ext _)=>True
 |some (.tab _)=>True
 |_=>False
section
variable {P:Program} {w:World} {H:Hp} {h h':Heap} {x e:Addr} {o':HO}
theorem HOk.write (ok:HOk P w H h) (mu:Mut (H x)) (he:e=x∨H e=some (.own x)) (k:∀b u,b≠e→h.get? b=some u→h'.get? b=some u) (heo:∃u,h'.get? e=some u)
  (new:ObjOk P w (upd H x o') h' x o'):HOk P w (upd H x o') h':=fun b u q=>by
 have nown:∀c y,H c=some (.own y)→c≠x:=fun c y r z=>by subst z;rw [r] at mu;exact mu
 have ntup:∀c xs,H c=some (.tup xs)→c≠x:=fun c xs r z=>by subst z;rw [r] at mu;exact mu
 by_cases hb:b=x
 ·subst hb;rw [upd_same] at q;cases q;exact new
 ·rw [upd_ne hb] at q
  by_cases hbe:b=e
  ·have q':H b=some (.own x):=by
    rcases he with z|z
    ·exact absurd (hbe.trans z) hb
    ·rw [hbe];exact z
   rw [q] at q';cases q'
   obtain ⟨v,hv⟩:=heo
   exact ⟨v,by rw [hbe];exact hv⟩
  ·refine (ok b u q).stay (fun c v hc r=>k c v ?_ r) (fun c r=>by rw [upd_ne (nown c b r)];exact r) fun c xs r=>by rw [upd_ne (ntup c xs r)];exact r
   rcases hc with rfl|hc
   ·exact hbe
   ·rintro rfl
    rcases he with z|z
    ·exact nown c b hc z
    ·rw [hc] at z;cases z;exact hb rfl
end
structure Un (fs ex:List Addr) (H H':Hp) (h h':Heap):Prop where
 keep:∀b o,h.get? b=some o→H b=none→b∉fs→b∉ex→h'.get? b=some o
 slot:∀b o,h.get? b=some o→H b=none→b∈fs→b∉ex→∃sl,h'.get? b=some { o with slots:=sl }
 free:∀b o,h.get? b=some o→H b=none→b∉ex→H' b=none
 there:∀b o,h.get? b=some o→b∉ex→∃o',h'.get? b=some o'
 tups:∀b xs,H b=some (.tup xs)→H' b=some (.tup xs)
 frzs:∀b o u,H b=some (.frz o u)→H' b=some (.frz o u)
 tbls:∀b ps,H b=some (.tbl ps)→∃more,H' b=some (.tbl (ps++more))
section
variable {fs fs' ex ex':List Addr} {H H1 H2:Hp} {h h1 h2 h':Heap} {a x e:Addr} {o:HO}
theorem Un.any (u:Un fs ex H H1 h h1) {b:Addr} {ob:Obj} (q:h.get? b=some ob) (n:H b=none) (hx:b∉ex):∃sl,h1.get? b=some { ob with slots:=sl }:=by
 by_cases hb:b∈fs
 ·exact u.slot b ob q n hb hx
 ·exact ⟨ob.slots,u.keep b ob q n hb hx⟩
theorem Un.kept (k:∀b u,h.get? b=some u→h'.get? b=some u):Un fs ex H H h h':=
 ⟨fun b ob q _ _ _=>k b ob q,fun b ob q _ _ _=>⟨ob.slots,k b ob q⟩,fun _ _ _ n _=>n,fun b ob q _=>⟨ob,k b ob q⟩,fun _ _ q=>q,fun _ _ _ q=>q,fun _ ps q=>⟨#[],by rw [q];simp⟩⟩
theorem Un.refl:Un fs ex H H h h:=Un.kept fun _ _ q=>q
theorem Un.laid (k:∀b u,h.get? b=some u→h'.get? b=some u) (hp:h.objs.size≤a) (hn:H a=none):Un fs ex H (upd H a o) h h' where
 keep:=fun b u q _ _ _=>k b u q
 slot:=fun b u q _ _ _=>⟨u.slots,k b u q⟩
 free:=fun b u q n _=>by rw [upd_ne (Nat.ne_of_lt (Nat.lt_of_lt_of_le (Heap.lt_size q) hp))];exact n
 there:=fun b u q _=>⟨u,k b u q⟩
 tups:=fun b xs q=>by rw [upd_ne (ne_of_none q hn)];exact q
 frzs:=fun b u xs q=>by rw [upd_ne (ne_of_none q hn)];exact q
 tbls:=fun b ps q=>⟨#[],by rw [upd_ne (ne_of_none q hn),q];simp⟩
theorem Un.write (mu:Mut (H x)) (he:e=x∨H e=some (.own x)) (k:∀b u,b≠e→h.get? b=some u→h'.get? b=some u) (heo:∃u,h'.get? e=some u):Un fs ex H (upd H x o) h h':=by
 have hx:∀b,H b=none→b≠x:=fun b n z=>by subst z;rw [n] at mu;exact mu
 have hb:∀b,H b=none→b≠e:=fun b n z=>by
  subst z
  rcases he with r|r
  ·exact hx b n r
  ·rw [n] at r;cases r
 have hm:∀b u,H b=some u→¬ Mut (some u)→b≠x:=fun b u q nm z=>by subst z;rw [q] at mu;exact nm mu
 refine ⟨fun b u q n _ _=>k b u (hb b n) q,fun b u q n _ _=>⟨u.slots,k b u (hb b n) q⟩,fun b u q n _=>by rw [upd_ne (hx b n)];exact n,fun b u q _=>?_,
  fun b xs q=>by rw [upd_ne (hm b _ q fun z=>z)];exact q,fun b u xs q=>by rw [upd_ne (hm b _ q fun z=>z)];exact q,fun b ps q=>⟨#[],by rw [upd_ne (hm b _ q fun z=>z),q];simp⟩⟩
 by_cases hbe:b=e
 ·subst hbe;exact heo
 ·exact ⟨u,k b u hbe q⟩
end
def trk (h:Heap) (H:Hp):List Addr:=(List.range h.objs.size).filter fun a=>(H a).isSome
def hidT (h:Heap) (H:Hp):Heap:=PySem.W.hideAll h (trk h H)
theorem hidT_size (h:Heap) (H:Hp):(hidT h H).objs.size=h.objs.size:=PySem.W.hideAll_size _ _
theorem hidT_get {h:Heap} {H:Hp} {b:Addr} {o:Obj} (e:h.get? b=some o) (n:H b=none):(hidT h H).get? b=some o:=
 PySem.W.hideAll_get _ e fun hm=>by
  have q:(H b).isSome=true:=(List.mem_filter.mp hm).2
  rw [n] at q;simp at q
theorem of_hidT {h:Heap} {H:Hp} {b:Addr} {o:Obj} (e:(hidT h H).get? b=some o):h.get? b=some o∧H b=none:=by
 have e':h.get? b=some o:=PySem.W.of_hideAll (trk h H) e
 refine ⟨e',?_⟩
 cases q:H b with
 |none=>rfl
 |some x=>
  have hm:b∈trk h H:=List.mem_filter.mpr ⟨List.mem_range.mpr (Heap.lt_size e'),by simp [q]⟩
  have z:(hidT h H).get? b=none:=PySem.W.hideAll_none (trk h H) hm
  rw [z] at e;cases e
structure Mod (K:PySem.W.Frag) (mg:Str→Option Value) (base:Heap):Prop where
 kin:K.In base
 glob:base.Ns mainGlobals mg
 blt:∃mb,base.Ns builtinsNs mb∧∀x:Str,x≠"__name__"→mb x=bootBuiltins x
 nolimit:base.NoLimit
structure Cx where
 prog:Program
 w:World
 K:PySem.W.Frag
 mg:Str→Option Value
 base:Heap
 A:Around
 N:List Str
 s₀:Shared
 H₀:Hp
 env:Env
 outer:List Env
 stack:List Env
 ex:List Addr
 fn:Str→Bool
 calm:Bool
 pn:List (Addr × Obj)
 xe:Value→Shared→Prop
def frs (l:List Env):List Addr:=l.filterMap (·.frame)
abbrev Cx.fs (X:Cx):List Addr:=frs X.outer
def Vis (sc:Scope) (x:Str):Prop:=sc.names.lookup x=some .local∨sc.names.lookup x=some .cell∨sc.names.lookup x=some .free
def Loc (sc:Scope) (x:Str):Prop:=sc.names.lookup x=some .local∨sc.names.lookup x=some .cell
def Look (env:Env) (h:Heap) (m:Str→Option Value) (x:Str) (u:Value):Prop:=
 (env.kindOf x=some .local∧m x=some u)∨((env.kindOf x=some .cell∨env.kindOf x=some .free)∧∃c,env.cells.lookup x=some c∧h.IsCell c (some u))
structure Cx.Ok (X:Cx):Prop where
 mod:Mod X.K X.mg X.base
 kind:X.env.scope.kind=.function
 glob:X.env.globals=mainGlobals
 blt:X.env.builtins=builtinsNs
 above:X.s₀.heap.objs.size≤X.env.locals
 inj:∀x y c,X.env.cells.lookup x=some c→X.env.cells.lookup y=some c→x=y
 has:∀x,(X.env.kindOf x=some .cell∨X.env.kindOf x=some .free)→∃c,X.env.cells.lookup x=some c
 cab:∀x c,X.fn x=true→X.env.cells.lookup x=some c→X.s₀.heap.objs.size≤c
 hd:X.calm=true→X.A.handled=none
 frames:X.A.frames=some X.stack
 stk:X.stack=X.outer∨(X.stack=X.env::X.outer∧X.env.frame=some X.env.locals)
 exf:∀b∈X.ex,b≠X.env.locals∧∀x c,X.env.cells.lookup x=some c→c≠b
 bs:∀b o,X.base.get? b=some o→X.s₀.heap.get? b=some o∧X.H₀ b=none
 bsz:X.base.objs.size≤X.s₀.heap.objs.size
 noex:∀b o,X.base.get? b=some o→b∉X.ex
 exfs:∀b∈X.ex,b∉X.fs
 funs:X.s₀.heap.FunFrames X.base X.outer
 frf:∀b∈X.fs,X.H₀ b=none
structure Inv (X:Cx) (pins:List (Addr × Obj)) (σ:List (Option V)) (H:Hp) (s:Shared):Prop where
 ok:X.Ok
 os:s.os=X.s₀.os
 bare:AllBare s.gens
 base:Un X.fs X.ex X.H₀ H X.s₀.heap s.heap
 loc:∃m,s.heap.Ns X.env.locals m∧∀(i:Nat) (x:Str) (v:V),X.N[i]?=some x→σ[i]?=some (some v)→Vis X.env.scope x→∃u,RelV v u∧Look X.env s.heap m x u
 cell:∀x c,X.env.cells.lookup x=some c→∃v,s.heap.IsCell c v
 free:H X.env.locals=none
 freeC:∀x c,X.env.cells.lookup x=some c→H c=none
 pin:∀p∈X.pn++pins,s.heap.get? p.1=some p.2∧H p.1=none∧p.1≠X.env.locals∧p.1∉X.fs∧∀v,p.2.data≠.cell v
 hok:HOk X.prog X.w H s.heap
 len:σ.length=X.N.length
section
variable {X:Cx} {pins:List (Addr × Obj)} {σ:List (Option V)} {H H':Hp} {s:Shared} {h':Heap}
theorem Cx.Ok.nofr (ok:X.Ok) {b:Addr} {o:Obj} (e:X.base.get? b=some o):b∉X.fs:=fun hb=>by
 have:=(ok.funs.mem hb).1
 rw [e] at this;cases this
theorem Inv.bs (I:Inv X pins σ H s):∀b o,X.base.get? b=some o→s.heap.get? b=some o∧H b=none:=fun b o e=>
 ⟨I.base.keep b o (I.ok.bs b o e).1 (I.ok.bs b o e).2 (I.ok.nofr e) (I.ok.noex b o e),I.base.free b o (I.ok.bs b o e).1 (I.ok.bs b o e).2 (I.ok.noex b o e)⟩
theorem Inv.bk (I:Inv X pins σ H s):∀b o,X.base.get? b=some o→s.heap.get? b=some o:=fun b o e=>(I.bs b o e).1
theorem Inv.mod (I:Inv X pins σ H s):Mod X.K X.mg X.base:=I.ok.mod
theorem Inv.kIn (I:Inv X pins σ H s):X.K.In s.heap:=I.ok.mod.kin.keeps I.bk
theorem Inv.nolimit (I:Inv X pins σ H s):s.heap.NoLimit:=I.ok.mod.nolimit.keeps I.bk
theorem Inv.lt (I:Inv X pins σ H s):X.env.locals<s.heap.objs.size:=let ⟨_,hn,_⟩:=I.loc;hn.lt
theorem Inv.sz (I:Inv X pins σ H s):X.s₀.heap.objs.size≤s.heap.objs.size:=Nat.le_trans I.ok.above (Nat.le_of_lt I.lt)
theorem Inv.nofs (I:Inv X pins σ H s) {a:Addr} (h:s.heap.objs.size≤a):a∉X.fs:=fun hb=>by
 obtain ⟨_,o,ho,_⟩:=I.ok.funs.mem hb
 exact absurd (Nat.lt_of_lt_of_le (Heap.lt_size ho) (Nat.le_trans I.sz h)) (Nat.lt_irrefl _)
theorem Inv.cne (I:Inv X pins σ H s):∀x c,X.env.cells.lookup x=some c→c≠X.env.locals:=fun x c e z=>by
 obtain ⟨v,o,ho,hd⟩:=I.cell x c e
 obtain ⟨m,⟨o',es,ep,ho',hd',_⟩,_⟩:=I.loc
 rw [z,ho'] at ho;cases ho;rw [hd'] at hd;cases hd
theorem Inv.funs (I:Inv X pins σ H s):s.heap.FunFrames X.base X.outer:=by
 have all:∀(l:List Env),(∀b∈frs l,b∈X.fs)→X.s₀.heap.FunFrames X.base l→s.heap.FunFrames X.base l:=by
  intro l
  induction l with
  |nil=>intro _ _;trivial
  |cons env r ih=>
   intro hs hl
   obtain ⟨hk,⟨L,o,hf,hn,ho,hd⟩,hr⟩:=hl
   have hL:L∈X.fs:=hs L (by unfold frs;rw [List.filterMap_cons,hf];exact List.mem_cons_self)
   obtain ⟨sl,e⟩:=I.base.slot L o ho (I.ok.frf L hL) hL fun z=>I.ok.exfs L z hL
   exact ⟨hk,⟨L,_,hf,hn,e,hd⟩,ih (fun b hb=>hs b (by unfold frs;rw [List.filterMap_cons,hf];exact List.mem_cons_of_mem _ hb)) hr⟩
 exact all X.outer (fun _ hb=>hb) I.ok.funs
theorem Inv.stack (I:Inv X pins σ H s):s.heap.FunFrames X.base X.stack:=by
 rcases I.ok.stk with e|⟨e,hf⟩
 ·rw [e];exact I.funs
 ·rw [e]
  obtain ⟨m,hn,_⟩:=I.loc
  refine .cons (by rw [I.ok.kind];decide) hf hn ?_ I.funs
  exact Heap.get?_none_of_le (Nat.le_trans I.ok.bsz I.ok.above)
theorem Inv.stkSub (I:Inv X pins σ H s):∀b∈frs X.stack,b∈X.env.locals::X.fs:=fun b hb=>by
 rcases I.ok.stk with e|⟨e,hf⟩
 ·rw [e] at hb;exact List.mem_cons_of_mem _ hb
 ·rw [e] at hb
  unfold frs at hb
  rw [List.filterMap_cons,hf] at hb
  exact hb
theorem Inv.stkFree (I:Inv X pins σ H s):∀b∈frs X.stack,H b=none:=fun b hb=>by
 rcases List.mem_cons.mp (I.stkSub b hb) with e|hb
 ·rw [e];exact I.free
 ·obtain ⟨_,o,ho,_⟩:=I.ok.funs.mem hb
  exact I.base.free b o ho (I.ok.frf b hb) fun z=>I.ok.exfs b z hb
theorem Inv.step {g':Array GenState} {t':Nat} {d':Drawn} {ch:List Addr} (I:Inv X pins σ H s)
  (hch:∀b∈ch,(b∈X.ex∨X.s₀.heap.objs.size≤b)∧b≠X.env.locals∧(∀x c,X.env.cells.lookup x=some c→c≠b)∧∀p∈X.pn++pins,p.1≠b)
  (keep:∀b o,b≠X.env.locals→b∉X.fs→b∉ch→s.heap.get? b=some o→H b=none→h'.get? b=some o)
  (slot:∀b o,b≠X.env.locals→b∈X.fs→b∉ch→s.heap.get? b=some o→H b=none→∃sl,h'.get? b=some { o with slots:=sl }) (free:∀b o,b∉ch→s.heap.get? b=some o→H b=none→H' b=none)
  (there:∀b o,b∉ch→s.heap.get? b=some o→∃o',h'.get? b=some o')
  (tups:∀b xs,H b=some (.tup xs)→H' b=some (.tup xs)) (frzs:∀b o u,H b=some (.frz o u)→H' b=some (.frz o u)) (tbls:∀b ps,H b=some (.tbl ps)→∃more,H' b=some (.tbl (ps++more)))
  (ns:∀m,s.heap.Ns X.env.locals m→h'.Ns X.env.locals m) (hok:HOk X.prog X.w H' h') (hg:AllBare g') :
  Inv X pins σ H' { s with heap:=h',gens:=g',drawn:=d',toks:=t' }:=by
 have neL:∀b o,X.s₀.heap.get? b=some o→b≠X.env.locals:=fun b o e=>Nat.ne_of_lt (Nat.lt_of_lt_of_le (Heap.lt_size e) I.ok.above)
 have neC:∀b o,X.s₀.heap.get? b=some o→b∉X.ex→b∉ch:=fun b o e hx hb=>by
  rcases (hch b hb).1 with z|z
  ·exact hx z
  ·exact absurd (Nat.lt_of_lt_of_le (Heap.lt_size e) z) (Nat.lt_irrefl _)
 have cellK:∀x c,X.env.cells.lookup x=some c→∀v,s.heap.IsCell c v→h'.IsCell c v:=fun x c e v ⟨o,ho,hd⟩=>by
  have nch:c∉ch:=fun z=>(hch c z).2.2.1 x c e rfl
  by_cases hc:c∈X.fs
  ·obtain ⟨sl,q⟩:=slot c o (I.cne x c e) hc nch ho (I.freeC x c e)
   exact ⟨_,q,hd⟩
  ·exact ⟨o,keep c o (I.cne x c e) hc nch ho (I.freeC x c e),hd⟩
 refine ⟨I.ok,I.os,hg,⟨fun b o e n hb hx=>?_,fun b o e n hb hx=>?_,fun b o e n hx=>?_,fun b o e hx=>?_,fun b xs e=>tups b xs (I.base.tups b xs e),fun b o xs e=>frzs b o xs (I.base.frzs b o xs e),fun b ps e=>?_⟩,?_,fun x c e=>?_,?_,fun x c e=>?_,fun p hp=>?_,hok,I.len⟩
 ·exact keep b o (neL b o e) hb (neC b o e hx) (I.base.keep b o e n hb hx) (I.base.free b o e n hx)
 ·obtain ⟨sl,e1⟩:=I.base.slot b o e n hb hx
  obtain ⟨sl',e2⟩:=slot b _ (neL b o e) hb (neC b o e hx) e1 (I.base.free b o e n hx)
  exact ⟨sl',e2⟩
 ·obtain ⟨o',e1⟩:=I.base.there b o e hx
  exact free b o' (neC b o e hx) e1 (I.base.free b o e n hx)
 ·obtain ⟨o',e1⟩:=I.base.there b o e hx
  exact there b o' (neC b o e hx) e1
 ·obtain ⟨m1,e1⟩:=I.base.tbls b ps e
  obtain ⟨m2,e2⟩:=tbls b _ e1
  exact ⟨m1++m2,by rw [e2,Array.append_assoc]⟩
 ·obtain ⟨m,hn,hl⟩:=I.loc
  refine ⟨m,ns m hn,fun i x v e1 e2 e3=>?_⟩
  obtain ⟨u,r,l⟩:=hl i x v e1 e2 e3
  refine ⟨u,r,?_⟩
  rcases l with l|⟨k,c,e,z⟩
  ·exact .inl l
  ·exact .inr ⟨k,c,e,cellK x c e _ z⟩
 ·obtain ⟨v,z⟩:=I.cell x c e
  exact ⟨v,cellK x c e v z⟩
 ·obtain ⟨m,⟨o,_,_,ho,_⟩,_⟩:=I.loc
  exact free _ o (fun z=>(hch _ z).2.1 rfl) ho I.free
 ·obtain ⟨v,o,ho,hd⟩:=I.cell x c e
  exact free c o (fun z=>(hch c z).2.2.1 x c e rfl) ho (I.freeC x c e)
 ·obtain ⟨e,n,ne,nf,d⟩:=I.pin p hp
  have nch:p.1∉ch:=fun z=>(hch p.1 z).2.2.2 p hp rfl
  exact ⟨keep p.1 p.2 ne nf nch e n,free p.1 p.2 nch e n,ne,nf,d⟩
theorem Inv.un {t':Nat} (I:Inv X pins σ H s) (u:Un X.fs [] H H' s.heap h') (hok:HOk X.prog X.w H' h'):Inv X pins σ H' { s with heap:=h',toks:=t' }:=by
 obtain ⟨m,⟨o,es,ep,ho,r⟩,_⟩:=id I.loc
 obtain ⟨sl,hL⟩:=u.any ho I.free (by simp)
 exact I.step (g':=s.gens) (d':=s.drawn) (ch:=[]) (fun _ z=>nomatch z) (fun b o _ hb _ e n=>u.keep b o e n hb (by simp)) (fun b o _ hb _ e n=>u.slot b o e n hb (by simp)) (fun b o _ e n=>u.free b o e n (by simp)) (fun b o _ e=>u.there b o e (by simp)) u.tups u.frzs u.tbls (fun m' hm=>by
  obtain ⟨o',es',ep',ho',r'⟩:=hm
  rw [ho] at ho';cases ho'
  exact ⟨_,es',ep',hL,r'⟩) hok I.bare
theorem Inv.call {g':Array GenState} {t':Nat} {d':Drawn} {ch:List Addr} (I:Inv X pins σ H s) (u:Un (frs X.stack) ch H H' s.heap h') (hok:HOk X.prog X.w H' h') (hg:AllBare g')
  (hch:∀b∈ch,(b∈X.ex∨X.s₀.heap.objs.size≤b)∧b≠X.env.locals∧(∀x c,X.env.cells.lookup x=some c→c≠b)∧∀p∈X.pn++pins,p.1≠b) :
  Inv X pins σ H' { s with heap:=h',gens:=g',drawn:=d',toks:=t' }:=by
 obtain ⟨m,⟨o,es,ep,ho,r⟩,_⟩:=id I.loc
 obtain ⟨sl,hL⟩:=u.any ho I.free fun z=>(hch _ z).2.1 rfl
 exact I.step (ch:=ch) hch (fun b o hL hb hc e n=>u.keep b o e n (fun z=>(List.mem_cons.mp (I.stkSub b z)).elim hL hb) hc) (fun b o _ _ hc e n=>u.any e n hc) (fun b o hc e n=>u.free b o e n hc) (fun b o hc e=>u.there b o e hc) u.tups u.frzs u.tbls (fun m' hm=>by
  obtain ⟨o',es',ep',ho',r'⟩:=hm
  rw [ho] at ho';cases ho'
  exact ⟨_,es',ep',hL,r'⟩) hok hg
theorem Inv.turned {t':Nat} {it:Addr} (I:Inv X pins σ H s) (k:∀b o,b≠it→s.heap.get? b=some o→h'.get? b=some o) (hn:H it=none) (hL:it≠X.env.locals)
  (h1:it∈X.ex∨X.s₀.heap.objs.size≤it) (h2:∀x c,X.env.cells.lookup x=some c→c≠it) (h3:∀p∈X.pn++pins,p.1≠it):Inv X pins σ H { s with heap:=h',toks:=t' }:=by
 have nit:∀b u,H b=some u→b≠it:=fun b u e z=>by rw [z,hn] at e;cases e
 refine I.step (g':=s.gens) (d':=s.drawn) (ch:=[it]) (fun b hb=>?_) (fun b o _ _ hc e _=>k b o (fun z=>hc (by simp [z])) e) (fun b o _ _ hc e _=>⟨o.slots,k b o (fun z=>hc (by simp [z])) e⟩) (fun _ _ _ _ n=>n)
  (fun b o hc e=>⟨o,k b o (fun z=>hc (by simp [z])) e⟩) (fun _ _ e=>e) (fun _ _ _ e=>e) (fun b ps e=>⟨#[],by rw [e];simp⟩) (fun m hm=>?_) (fun b u e=>?_) I.bare
 ·have e:b=it:=by simpa using hb
  subst e
  exact ⟨h1,hL,h2,h3⟩
 ·obtain ⟨o,es,ep,ho,r⟩:=hm
  exact ⟨o,es,ep,k _ o (Ne.symm hL) ho,r⟩
 ·refine (I.hok b u e).stay (fun c v hc q=>k c v ?_ q) (fun _ q=>q) fun _ _ q=>q
  rcases hc with z|z
  ·rw [z];exact nit b u e
  ·exact nit c _ z
theorem Inv.tok (I:Inv X pins σ H s) (t:Nat):Inv X pins σ H { s with toks:=t }:=I.un (h':=s.heap) (t':=t) Un.refl I.hok
theorem Inv.kept {t':Nat} (I:Inv X pins σ H s) (k:∀b u,s.heap.get? b=some u→h'.get? b=some u):Inv X pins σ H { s with heap:=h',toks:=t' }:=I.un (Un.kept k) (I.hok.kept k)
theorem Inv.laid {a:Addr} {o:HO} {t':Nat} (I:Inv X pins σ H s) (k:∀b u,s.heap.get? b=some u→h'.get? b=some u) (hp:s.heap.objs.size≤a) (new:ObjOk X.prog X.w (upd H a o) h' a o) :
  Inv X pins σ (upd H a o) { s with heap:=h',toks:=t' }:=I.un (Un.laid k hp (I.hok.fresh hp)) (I.hok.laid k hp new)
theorem Inv.write {x e:Addr} {o:HO} {t':Nat} (I:Inv X pins σ H s) (mu:Mut (H x)) (he:e=x∨H e=some (.own x)) (k:∀b u,b≠e→s.heap.get? b=some u→h'.get? b=some u) (heo:∃u,h'.get? e=some u)
  (new:ObjOk X.prog X.w (upd H x o) h' x o):Inv X pins σ (upd H x o) { s with heap:=h',toks:=t' }:=I.un (Un.write mu he k heo) (I.hok.write mu he k heo new)
theorem Inv.pins_of {pins':List (Addr × Obj)} (I:Inv X pins σ H s) (h:∀p∈pins',s.heap.get? p.1=some p.2∧H p.1=none∧p.1≠X.env.locals∧p.1∉X.fs∧∀v,p.2.data≠.cell v):Inv X pins' σ H s:=
 ⟨I.ok,I.os,I.bare,I.base,I.loc,I.cell,I.free,I.freeC,fun p hp=>(List.mem_append.mp hp).elim (fun z=>I.pin p (List.mem_append_left _ z)) (h p),I.hok,I.len⟩
theorem nodup_ix {N:List Str} (hN:N.Nodup) {i j:Nat} {x:Str} (a:N[i]?=some x) (b:N[j]?=some x):i=j:=by
 obtain ⟨h1,e1⟩:=List.getElem?_eq_some_iff.mp a
 obtain ⟨h2,e2⟩:=List.getElem?_eq_some_iff.mp b
 exact (List.getElem_inj hN).mp (e1.trans e2.symm)
theorem store_ok2 {M:Model} {A:Around} {E:Value→Shared→Prop} {i:Nat} {x:Str} {v:V} {u:Value} {Q:Unit→Shared→Prop} (I:Inv X pins σ H s) (hN:X.N.Nodup) (hi:X.N[i]?=some x) (hx:Loc X.env.scope x) (r:RelV v u)
  (h:∀s',Inv X pins (σ.set i (some v)) H s'→(∃a,Heap.SameBut a s.heap s'.heap∧(a=X.env.locals∨X.env.cells.lookup x=some a))→Q () s') (hf:X.fn x=true∨X.env.scope.names.lookup x=some .local:=by first|exact .inl rfl|exact .inr rfl|assumption):wpAny M A (storeName X.env x u) Q E s:=by
 obtain ⟨m,hn,hl⟩:=id I.loc
 have hcls:(X.env.scope.kind == .class || (X.env.scope.kind == .module && X.env.locals != X.env.globals))=false:=by rw [I.ok.kind];rfl
 have hiσ:i<σ.length:=by rw [I.len];exact (List.getElem?_eq_some_iff.mp hi).1
 have cne:=I.cne
 have tracked:∀{a:Addr} {h':Heap},(∃o,s.heap.get? a=some o∧H a=none)→Heap.SameBut a s.heap h'→HOk X.prog X.w H h':=fun {a h'} ha hs b ob e=>by
  obtain ⟨_,_,hfree⟩:=ha
  refine (I.hok b ob e).stay (fun c w' hc q=>(hs.2 c ?_).trans q) (fun _ q=>q) fun _ _ q=>q
  rintro rfl
  rcases hc with rfl|hc
  ·rw [hfree] at e;cases e
  ·rw [hfree] at hc;cases hc
 rcases hx with hk|hk
 ·refine wpAny_storeName_local hk hn (fun h' hn' hs=>?_) hcls
  obtain ⟨oL,_,_,hoL,_⟩:=id hn
  refine h _ ⟨I.ok,I.os,I.bare,⟨fun b o e n hb hx=>?_,fun b o e n hb hx=>?_,I.base.free,fun b o e hx=>?_,I.base.tups,I.base.frzs,I.base.tbls⟩,⟨_,hn',fun j y v' e1 e2 e3=>?_⟩,fun y c e=>?_,I.free,I.freeC,fun p hp=>?_,tracked ⟨oL,hoL,I.free⟩ hs,by simpa using I.len⟩ ⟨_,hs,.inl rfl⟩
  ·exact (hs.2 b (Nat.ne_of_lt (Nat.lt_of_lt_of_le (Heap.lt_size e) I.ok.above))).trans (I.base.keep b o e n hb hx)
  ·obtain ⟨sl,e1⟩:=I.base.slot b o e n hb hx
   exact ⟨sl,(hs.2 b (Nat.ne_of_lt (Nat.lt_of_lt_of_le (Heap.lt_size e) I.ok.above))).trans e1⟩
  ·obtain ⟨o',e1⟩:=I.base.there b o e hx
   exact ⟨o',(hs.2 b (Nat.ne_of_lt (Nat.lt_of_lt_of_le (Heap.lt_size e) I.ok.above))).trans e1⟩
  ·by_cases hj:j=i
   ·subst hj
    rw [hi] at e1;cases e1
    rw [List.getElem?_set_self hiσ] at e2
    cases e2
    exact ⟨u,r,.inl ⟨hk,by simp⟩⟩
   ·rw [List.getElem?_set_ne (Ne.symm hj)] at e2
    obtain ⟨u',r',q⟩:=hl j y v' e1 e2 e3
    refine ⟨u',r',?_⟩
    rcases q with ⟨k,e⟩|⟨k,c,e,z⟩
    ·refine .inl ⟨k,?_⟩
     have:y≠x:=fun e=>hj (nodup_ix hN e1 (e ▸ hi))
     simp [this,e]
    ·exact .inr ⟨k,c,e,z.sameBut hs (cne y c e)⟩
  ·obtain ⟨w',z⟩:=I.cell y c e
   exact ⟨w',z.sameBut hs (cne y c e)⟩
  ·obtain ⟨e,n,ne,nf,d⟩:=I.pin p hp
   exact ⟨(hs.2 p.1 ne).trans e,n,ne,nf,d⟩
 ·have hfn:X.fn x=true:=by
   rcases hf with z|z
   ·exact z
   ·rw [z] at hk;cases hk
  obtain ⟨c,hc⟩:=I.ok.has x (.inl hk)
  obtain ⟨w',z⟩:=I.cell x c hc
  refine wpAny_storeName_cell I.ok.kind hk hc z (fun h' hc' hs=>?_)
  obtain ⟨oc,hoc,hocd⟩:=id z
  refine h { s with heap:=h' } ⟨I.ok,I.os,I.bare,⟨fun b o e n hb hx=>?_,fun b o e n hb hx=>?_,I.base.free,fun b o e hx=>?_,I.base.tups,I.base.frzs,I.base.tbls⟩,⟨m,hn.sameBut hs (Ne.symm (cne x c hc)),fun j y v' e1 e2 e3=>?_⟩,fun y c' e=>?_,I.free,I.freeC,fun p hp=>?_,tracked ⟨oc,hoc,I.freeC x c hc⟩ hs,by simpa using I.len⟩ ⟨c,hs,.inr hc⟩
  ·exact (hs.2 b (Nat.ne_of_lt (Nat.lt_of_lt_of_le (Heap.lt_size e) (I.ok.cab x c hfn hc)))).trans (I.base.keep b o e n hb hx)
  ·obtain ⟨sl,e1⟩:=I.base.slot b o e n hb hx
   exact ⟨sl,(hs.2 b (Nat.ne_of_lt (Nat.lt_of_lt_of_le (Heap.lt_size e) (I.ok.cab x c hfn hc)))).trans e1⟩
  ·obtain ⟨o',e1⟩:=I.base.there b o e hx
   exact ⟨o',(hs.2 b (Nat.ne_of_lt (Nat.lt_of_lt_of_le (Heap.lt_size e) (I.ok.cab x c hfn hc)))).trans e1⟩
  ·by_cases hj:j=i
   ·subst hj
    rw [hi] at e1;cases e1
    rw [List.getElem?_set_self hiσ] at e2
    cases e2
    exact ⟨u,r,.inr ⟨.inl hk,c,hc,hc'⟩⟩
   ·rw [List.getElem?_set_ne (Ne.symm hj)] at e2
    obtain ⟨u',r',q⟩:=hl j y v' e1 e2 e3
    refine ⟨u',r',?_⟩
    rcases q with q|⟨k,c',e,z'⟩
    ·exact .inl q
    ·refine .inr ⟨k,c',e,z'.sameBut hs ?_⟩
     rintro rfl
     exact hj (nodup_ix hN e1 (I.ok.inj _ _ _ e hc ▸ hi))
  ·by_cases hcc:c'=c
   ·subst hcc;exact ⟨_,hc'⟩
   ·obtain ⟨w2,z2⟩:=I.cell y c' e
    exact ⟨w2,z2.sameBut hs hcc⟩
  ·obtain ⟨e,n,ne,nf,d⟩:=I.pin p hp
   refine ⟨(hs.2 p.1 ?_).trans e,n,ne,nf,d⟩
   intro q
   rw [q,hoc] at e
   have q':oc=p.2:=Option.some.inj e
   exact d w' (by rw [←q'];exact hocd)
theorem store_ok {M:Model} {A:Around} {E:Value→Shared→Prop} {i:Nat} {x:Str} {v:V} {u:Value} {Q:Unit→Shared→Prop} (I:Inv X pins σ H s) (hN:X.N.Nodup) (hi:X.N[i]?=some x) (hx:Loc X.env.scope x) (r:RelV v u)
  (h:∀s',Inv X pins (σ.set i (some v)) H s'→Q () s') (hf:X.fn x=true∨X.env.scope.names.lookup x=some .local:=by first|exact .inl rfl|exact .inr rfl|assumption):wpAny M A (storeName X.env x u) Q E s:=
 store_ok2 I hN hi hx r (fun s' I' _=>h s' I') hf
theorem Inv.call' {s':Shared} {ch:List Addr} (I:Inv X pins σ H s) (ho:s'.os=s.os) (u:Un (frs X.stack) ch H H' s.heap s'.heap) (hok:HOk X.prog X.w H' s'.heap) (hg:AllBare s'.gens)
  (hch:∀b∈ch,(b∈X.ex∨X.s₀.heap.objs.size≤b)∧b≠X.env.locals∧(∀x c,X.env.cells.lookup x=some c→c≠b)∧∀p∈X.pn++pins,p.1≠b):Inv X pins σ H' s':=by
 obtain ⟨h',g',d',t',o'⟩:=s'
 have e:o'=s.os:=ho
 subst e
 exact I.call (g':=g') (t':=t') (d':=d') u hok hg hch
end
abbrev XK:=Value→Option Addr→Hp→Prop
abbrev St:=List (Option V)
abbrev VK:=V→Hp→Prop
abbrev TE:=St→Hp→VK→Prop
abbrev TT:=St→Hp→(Bool→Hp→Prop)→Prop
abbrev TA:=St→Hp→(List V→Hp→Prop)→Prop
structure Ends where
 nx:St→Hp→Prop
 rt:VK
 bk:St→Hp→Prop:=fun _ _=>False
 ct:St→Hp→Prop:=fun _ _=>False
abbrev TS:=Ends→St→Hp→Prop
def EP (X:Cx) (pins:List (Addr × Obj)) (σ:St) (Q:VK) (u:Value) (s':Shared):Prop:=∃v H',Inv X pins σ H' s'∧RelV v u∧Q v H'
def TP (X:Cx) (pins:List (Addr × Obj)) (σ:St) (Q:Bool→Hp→Prop) (b:Bool) (s':Shared):Prop:=∃H',Inv X pins σ H' s'∧Q b H'
def AP (X:Cx) (pins:List (Addr × Obj)) (σ:St) (Q:List V→Hp→Prop) (us:List Value) (s':Shared):Prop:=∃vs H',Inv X pins σ H' s'∧Vals vs us∧Q vs H'
def SP (X:Cx) (pins:List (Addr × Obj)) (D:Ends) (f:Flow) (s':Shared):Prop:=
 match f with
 |.next=>∃σ' H',Inv X pins σ' H' s'∧D.nx σ' H'
 |.brk=>∃σ' H',Inv X pins σ' H' s'∧D.bk σ' H'
 |.cont=>∃σ' H',Inv X pins σ' H' s'∧D.ct σ' H'
 |.ret u=>∃v σ' H',Inv X pins σ' H' s'∧RelV v u∧D.rt v H'
def PE (X:Cx) (e:Expr) (t:TE):Prop:=
 ∀(pins:List (Addr × Obj)) (s:Shared) (σ:St) (H:Hp) (Q:VK),Inv X pins σ H s→t σ H Q→wpAny (model X.prog X.w) X.A (eval e X.env) (EP X pins σ Q) X.xe s
def PT (X:Cx) (e:Expr) (t:TT):Prop:=
 ∀(pins:List (Addr × Obj)) (s:Shared) (σ:St) (H:Hp) (Q:Bool→Hp→Prop),Inv X pins σ H s→t σ H Q→wpAny (model X.prog X.w) X.A (isTrue e X.env (eval e X.env)) (TP X pins σ Q) X.xe s
def PW (X:Cx) (e:Expr) (t:TT):Prop:=
 ∀(whole:Sem Value) (pins:List (Addr × Obj)) (s:Shared) (σ:St) (H:Hp) (Q:Bool→Hp→Prop),Inv X pins σ H s→t σ H Q→wpAny (model X.prog X.w) X.A (isTrue e X.env whole) (TP X pins σ Q) X.xe s
theorem PW.pt {X:Cx} {e:Expr} {t:TT} (h:PW X e t):PT X e t:=h _
def PA (X:Cx) (es:List Expr) (t:TA):Prop:=
 ∀(pos:Pos) (pins:List (Addr × Obj)) (s:Shared) (σ:St) (H:Hp) (Q:List V→Hp→Prop),Inv X pins σ H s→t σ H Q→wpAny (model X.prog X.w) X.A (spliced (backTo pos (starEach es X.env))) (AP X pins σ Q) X.xe s
def PS (X:Cx) (st:Stmt) (t:TS):Prop:=
 ∀(pins:List (Addr × Obj)) (s:Shared) (σ:St) (H:Hp) (D:Ends),Inv X pins σ H s→t D σ H→wpAny (model X.prog X.w) X.A (exec st X.env) (SP X pins D) X.xe s
def PSs (X:Cx) (st:List Stmt) (t:TS):Prop:=
 ∀(pins:List (Addr × Obj)) (s:Shared) (σ:St) (H:Hp) (D:Ends),Inv X pins σ H s→t D σ H→wpAny (model X.prog X.w) X.A (execs st X.env) (SP X pins D) X.xe s
theorem thn {α:Type} {t:Sem α} {Q Q':α→Shared→Prop} {M:Model} {A:Around} {E:Value→Shared→Prop} {s:Shared} (h:wpAny M A t Q E s) (hQ:∀a s,Q a s→Q' a s):wpAny M A t Q' E s:=wpAny_mono h hQ fun _ _ x=>x
section
variable {X:Cx}
def tVar (i:Nat):TE:=fun σ H Q=>∃v,σ[i]?=some (some v)∧Q v H
def tC (v:V):TE:=fun _ H Q=>Q v H
theorem pe_var {i:Nat} {x:Str} {pos:Pos} (hN:X.N[i]?=some x) (hv:Vis X.env.scope x) (hd:(x == ("__debug__":Str))=false:=by decide) (hcd:(x == ("__classdict__":Str))=false:=by decide):PE X (.Name x pos) (tVar i):=by
 intro pins s σ H Q I h
 obtain ⟨v,e,h⟩:=h
 obtain ⟨m,hn,hl⟩:=I.loc
 obtain ⟨u,r,l⟩:=hl i x v hN e hv
 have fin:EP X pins σ Q u s:=⟨v,H,I,r,h⟩
 rcases l with ⟨hk,hm⟩|⟨hk,c,hc,hcell⟩
 ·exact wpAny_Name (wpAny_loadName_local I.ok.kind hk hn hm fin) hd
 ·rcases hk with hk|hk
  ·exact wpAny_Name (wpAny_loadName_cell I.ok.kind hk hc hcell fin) hd
  ·exact wpAny_Name (wpAny_loadName_free I.ok.kind hk hc hcell fin hcd) hd
theorem pe_int {i j pos}:PE X (.Constant (.int i) j pos) (tC (.int i)):=fun _ _ _ H _ I h=>wpAny_Constant_int ⟨.int i,H,I.tok _,⟨_,rfl⟩,h⟩
theorem pe_bl {b j pos}:PE X (.Constant (.bool b) j pos) (tC (.bl b)):=fun _ _ _ H _ I h=>Constant_bool ⟨.bl b,H,I,rfl,h⟩
theorem pe_non {j pos}:PE X (.Constant .none j pos) (tC .non):=fun _ _ _ H _ I h=>Constant_none ⟨.non,H,I,rfl,h⟩
theorem pe_str {x j pos}:PE X (.Constant (.str x) j pos) (tC (.str x)):=fun _ _ _ H _ I h=>Calls.Constant_str ⟨.str x,H,I.tok _,⟨_,rfl⟩,h⟩
def Gl (X:Cx) (x:Str):Prop:=X.env.kindOf x=some .globalImplicit
theorem ld_glob {E:Value→Shared→Prop} {pins:List (Addr × Obj)} {s:Shared} {σ:St} {H:Hp} {x:Str} {u:Value} {pos:Pos} {Q:Value→Shared→Prop} (I:Inv X pins σ H s) (hg:Gl X x) (hm:X.mg x=some u) (h:Q u s)
  (hd:(x == ("__debug__":Str))=false:=by decide):wpAny (model X.prog X.w) X.A (eval (.Name x pos) X.env) Q E s:=
 Calls.Name_function_global I.ok.kind hg (Calls.loadGlobal_global (by rw [I.ok.glob];exact I.mod.glob.keeps I.bk) hm h) hd
theorem ld_blt {E:Value→Shared→Prop} {pins:List (Addr × Obj)} {s:Shared} {σ:St} {H:Hp} {x:Str} {u:Value} {pos:Pos} {Q:Value→Shared→Prop} (I:Inv X pins σ H s) (hg:Gl X x) (hm:X.mg x=none) (hv:bootBuiltins x=some u) (h:Q u s)
  (hn:x≠"__name__":=by decide) (hd:(x == ("__debug__":Str))=false:=by decide):wpAny (model X.prog X.w) X.A (eval (.Name x pos) X.env) Q E s:=by
 obtain ⟨mb,h1,h2⟩:=I.mod.blt
 exact Calls.Name_function_global I.ok.kind hg (Calls.loadGlobal_builtin (by rw [I.ok.glob];exact I.mod.glob.keeps I.bk) hm (by rw [I.ok.blt];exact h1.keeps I.bk) ((h2 x hn).trans hv) h) hd
theorem pe_glob {x:Str} {v:V} {u:Value} {pos:Pos} (hg:Gl X x) (hm:X.mg x=some u) (r:RelV v u) (hd:(x == ("__debug__":Str))=false:=by decide):PE X (.Name x pos) (tC v):=
 fun _ _ _ H _ I h=>ld_glob I hg hm ⟨v,H,I,r,h⟩ hd
theorem pe_bltn {x:Str} {v:V} {u:Value} {pos:Pos} (hg:Gl X x) (hm:X.mg x=none) (hv:bootBuiltins x=some u) (r:RelV v u) (hn:x≠"__name__":=by decide) (hd:(x == ("__debug__":Str))=false:=by decide):PE X (.Name x pos) (tC v):=
 fun _ _ _ H _ I h=>ld_blt I hg hm hv ⟨v,H,I,r,h⟩ hn hd
variable {a b:Expr} {ta tb:TE} {pos:Pos}
def PC (X:Cx) (op:CmpOp) (a b:Expr) (t:TE):Prop:=
 ∀(pins:List (Addr × Obj)) (s:Shared) (σ:St) (H:Hp) (Q:VK),Inv X pins σ H s→t σ H Q →
  wpAny (model X.prog X.w) X.A (eval a X.env) (fun v s₁=>wpAny (model X.prog X.w) X.A (eval b X.env) (fun u s₂=>wpAny (model X.prog X.w) X.A (compareOp op v u) (EP X pins σ Q) X.xe s₂) X.xe s₁) X.xe s
def tB (t:TE):TT:=fun σ H Q=>t σ H fun x H1=>∃c,x=.bl c∧Q c H1
theorem pt_cmp {op:CmpOp} {t:TE} (h:PC X op a b t) (h1:behindInMarks op b=false:=by first|exact nobehind _ (by decide) (by decide)|rfl):PT X (.Compare a [op] [b] pos) (tB t):=by
 intro pins s σ H Q I hw
 refine wpAny_isTrue_Compare1 (thn (h pins s σ H _ I hw) fun v s1 h1=>thn h1 fun u s2 h2=>thn h2 fun c s3 ⟨x,H1,I1,r1,q1⟩=>?_) h1
 obtain ⟨d,rfl,q⟩:=q1
 cases r1
 exact wpAny_truthy_bool ⟨H1,I1,q⟩
theorem pt_val {e:Expr} {t:TE} (h:PE X e t) (he:∀whole,isTrue e X.env whole=(do let v ←whole;standAt e.pos;holding [v] (truthy v)):=by intro _;rfl):PT X e (tB t):=by
 intro pins s σ H Q I hw
 refine isTrue_plain (thn (h pins s σ H _ I hw) fun v s1 ⟨x,H1,I1,r1,q1⟩=>?_) (he _)
 obtain ⟨d,rfl,q⟩:=q1
 cases r1
 exact wpAny_truthy_bool ⟨H1,I1,q⟩
variable {tA tB':TT} {rest:List Expr}
def tAnd (t u:TT):TT:=fun σ H Q=>t σ H fun c H1=>if c=true then u σ H1 Q else Q false H1
def tOr (t u:TT):TT:=fun σ H Q=>t σ H fun c H1=>if c=true then Q true H1 else u σ H1 Q
def tNot (t:TT):TT:=fun σ H Q=>t σ H fun c H1=>Q (!c) H1
theorem pw_and1 (ha:PT X a tA):PW X (.BoolOp .And [a] pos) tA:=by
 intro wh pins s σ H Q I h
 refine isTrue_and (thn (ha pins s σ H Q I h) fun c s1 e=>?_)
 cases c with
 |true=>exact isTrue_and_nil e
 |false=>exact e
theorem pw_or1 (ha:PT X a tA):PW X (.BoolOp .Or [a] pos) tA:=by
 intro wh pins s σ H Q I h
 refine isTrue_or (thn (ha pins s σ H Q I h) fun c s1 e=>?_)
 cases c with
 |false=>exact isTrue_or_nil e
 |true=>exact e
theorem pw_and (ha:PT X a tA) (hb:PW X (.BoolOp .And (b::rest) pos) tB'):PW X (.BoolOp .And (a::b::rest) pos) (tAnd tA tB'):=by
 intro wh pins s σ H Q I h
 refine isTrue_and (thn (ha pins s σ H _ I h) fun c s1 ⟨H1,I1,q1⟩=>?_)
 cases c with
 |true=>exact hb wh pins s1 σ H1 Q I1 q1
 |false=>exact ⟨H1,I1,q1⟩
theorem pw_or (ha:PT X a tA) (hb:PW X (.BoolOp .Or (b::rest) pos) tB'):PW X (.BoolOp .Or (a::b::rest) pos) (tOr tA tB'):=by
 intro wh pins s σ H Q I h
 refine isTrue_or (thn (ha pins s σ H _ I h) fun c s1 ⟨H1,I1,q1⟩=>?_)
 cases c with
 |true=>exact ⟨H1,I1,q1⟩
 |false=>exact hb wh pins s1 σ H1 Q I1 q1
theorem pt_not (ha:PT X a tA):PT X (.UnaryOp .Not a pos) (tNot tA):=by
 intro pins s σ H Q I h
 exact isTrue_not (ha pins s σ H (fun c H1=>Q (!c) H1) I h)
def tAndV (ta tb:TE):TE:=fun σ H Q=>ta σ H fun x H1=>∃c,x=.bl c∧if c=true then tb σ H1 Q else Q (.bl false) H1
def tOrV (ta tb:TE):TE:=fun σ H Q=>ta σ H fun x H1=>∃c,x=.bl c∧if c=true then Q (.bl true) H1 else tb σ H1 Q
def tNotV (ta:TE):TE:=fun σ H Q=>ta σ H fun x H1=>∃c,x=.bl c∧Q (.bl (!c)) H1
theorem pe_one {op} {t:TE} (h:PE X a t):PE X (.BoolOp op [a] pos) t:=fun pins s σ H Q I hw=>BoolOp_one (h pins s σ H Q I hw)
theorem pe_and (ha:PE X a ta) (hb:PE X (.BoolOp .And (b::rest) pos) tb):PE X (.BoolOp .And (a::b::rest) pos) (tAndV ta tb):=by
 intro pins s σ H Q I h
 refine BoolOp_and (thn (ha pins s σ H _ I h) fun v s1 ⟨x,H1,I1,r1,q1⟩=>?_)
 obtain ⟨c,rfl,q1⟩:=q1
 cases r1
 refine wpAny_truthy_bool ?_
 cases c with
 |true=>exact hb pins s1 σ H1 Q I1 q1
 |false=>exact ⟨.bl false,H1,I1,rfl,q1⟩
theorem pe_or (ha:PE X a ta) (hb:PE X (.BoolOp .Or (b::rest) pos) tb):PE X (.BoolOp .Or (a::b::rest) pos) (tOrV ta tb):=by
 intro pins s σ H Q I h
 refine BoolOp_or (thn (ha pins s σ H _ I h) fun v s1 ⟨x,H1,I1,r1,q1⟩=>?_)
 obtain ⟨c,rfl,q1⟩:=q1
 cases r1
 refine wpAny_truthy_bool ?_
 cases c with
 |false=>exact hb pins s1 σ H1 Q I1 q1
 |true=>exact ⟨.bl true,H1,I1,rfl,q1⟩
theorem pe_not (ha:PE X a ta):PE X (.UnaryOp .Not a pos) (tNotV ta):=by
 intro pins s σ H Q I h
 refine UnaryOp_ (thn (ha pins s σ H _ I h) fun v s1 ⟨x,H1,I1,r1,q1⟩=>?_)
 obtain ⟨c,rfl,q1⟩:=q1
 cases r1
 exact not_of (wpAny_truthy_bool ⟨.bl (!c),H1,I1,rfl,q1⟩)
def tIf (t:TT) (ta tb:TE):TE:=fun σ H Q=>t σ H fun c H1=>if c=true then ta σ H1 Q else tb σ H1 Q
theorem pe_ifExp {c:Expr} (hc:PT X c tA) (ha:PE X a ta) (hb:PE X b tb):PE X (.IfExp c a b pos) (tIf tA ta tb):=by
 intro pins s σ H Q I h
 refine wpAny_IfExp (thn (hc pins s σ H _ I h) fun d s1 ⟨H1,I1,q1⟩=>?_)
 cases d with
 |true=>exact ha pins s1 σ H1 Q I1 q1
 |false=>exact hb pins s1 σ H1 Q I1 q1
end
def SqL (K:PySem.W.Frag) (H:Hp) (a:Addr) (xs:List V):Prop:=
 Rd H a (.lst xs) ∨
  ∃(o:Obj) (its:Array Value) (n:Nat),K.lookup a=some o∧o.cls=.type "list"∧o.dict=none∧o.data=.seq its n∧its.size≤sizeLine∧Vals xs its.toList
def SqT (K:PySem.W.Frag) (H:Hp) (a:Addr) (xs:List V):Prop:=
 Rd H a (.tup xs) ∨
  ∃(o:Obj) (its:Array Value) (n:Nat),K.lookup a=some o∧o.cls=.type "tuple"∧o.dict=none∧o.data=.seq its n∧its.size≤sizeLine∧Vals xs its.toList
def absV:Value→Option V
 |.none=>some .non
 |.bool b=>some (.bl b)
 |.int i _=>some (.int i)
 |.str x _=>some (.str x)
 |.bytes b _=>some (.byt b)
 |.float b _=>some (.flt b)
 |.ref a=>some (.ref a)
 |.type n=>some (.ty n)
 |_=>none
theorem RelV.abs {x:V} {u:Value} (r:RelV x u):absV u=some x:=by
 cases x with
 |non=>cases r;rfl
 |bl _=>cases r;rfl
 |int _=>obtain ⟨t,rfl⟩:=r;rfl
 |str _=>obtain ⟨t,rfl⟩:=r;rfl
 |byt _=>obtain ⟨t,rfl⟩:=r;rfl
 |flt _=>obtain ⟨t,rfl⟩:=r;rfl
 |ref _=>cases r;rfl
 |ty _=>cases r;rfl
theorem RelV.inj {x y:V} {u:Value} (r:RelV x u) (q:RelV y u):x=y:=Option.some.inj (r.abs.symm.trans q.abs)
theorem Vals.inj:∀{xs ys:List V} {us:List Value},Vals xs us→Vals ys us→xs=ys
 |_,_,_,.nil,.nil=>rfl
 |_,_,_,.cons r t,.cons r' t'=>by rw [r.inj r',Vals.inj t t']
section
variable {X:Cx} {pins:List (Addr × Obj)} {σ:St} {H:Hp} {s:Shared} {a:Addr} {xs ys:List V}
theorem SqL.of {K:PySem.W.Frag} (h:H a=some (.lst xs)):SqL K H a xs:=.inl (.inl h)
theorem SqT.of {K:PySem.W.Frag} (h:H a=some (.tup xs)):SqT K H a xs:=.inl (.inl h)
theorem Inv.list (I:Inv X pins σ H s) (h:SqL X.K H a xs):∃its:List Value,Vals xs its∧PlainL s.heap a its.toArray∧xs.length≤sizeLine:=by
 rcases h with h|⟨o,its,n,hk,hc,hd,hs,hz,r⟩
 ·obtain ⟨z,its,n,r,e⟩:=h.ok I.hok
  exact ⟨its,r,⟨_,n,e,rfl,rfl,rfl⟩,z⟩
 ·refine ⟨its.toList,r,⟨o,n,I.kIn a o hk,hc,hd,by simpa using hs⟩,?_⟩
  have e:=r.length
  simp only [Array.length_toList] at e
  omega
theorem Inv.tuple (I:Inv X pins σ H s) (h:SqT X.K H a xs):∃its:List Value,Vals xs its∧IsTup s.heap a its.toArray∧xs.length≤sizeLine:=by
 rcases h with h|⟨o,its,n,hk,hc,hd,hs,hz,r⟩
 ·obtain ⟨z,its,r,p⟩:=h.ok I.hok
  exact ⟨its,r,p.1,z⟩
 ·refine ⟨its.toList,r,⟨o,I.kIn a o hk,hc,n,by simpa using hs⟩,?_⟩
  have e:=r.length
  simp only [Array.length_toList] at e
  omega
theorem Inv.list_inj (I:Inv X pins σ H s) (h:SqL X.K H a xs) (h':SqL X.K H a ys):xs=ys:=by
 obtain ⟨its,r,⟨o,n,e,_,_,d⟩,_⟩:=I.list h
 obtain ⟨its',r',⟨o',n',e',_,_,d'⟩,_⟩:=I.list h'
 rw [e] at e';cases e'
 rw [d] at d'
 injection d' with d1 _
 have:its=its':=by simpa using congrArg Array.toList d1
 subst this
 exact r.inj r'
theorem Inv.tuple_inj (I:Inv X pins σ H s) (h:SqT X.K H a xs) (h':SqT X.K H a ys):xs=ys:=by
 obtain ⟨its,r,⟨o,e,_,n,d⟩,_⟩:=I.tuple h
 obtain ⟨its',r',⟨o',e',_,n',d'⟩,_⟩:=I.tuple h'
 rw [e] at e';cases e'
 rw [d] at d'
 injection d' with d1 _
 have:its=its':=by simpa using congrArg Array.toList d1
 subst this
 exact r.inj r'
end
abbrev Cx.wish (X:Cx) (E:Value→Shared→Prop):Cx:={ X with xe:=E }
abbrev Cx.nox (X:Cx):Cx:=X.wish fun _ _=>False
theorem Cx.Ok.wish {X:Cx} (ok:X.Ok) (E:Value→Shared→Prop):(X.wish E).Ok:=
 ⟨ok.mod,ok.kind,ok.glob,ok.blt,ok.above,ok.inj,ok.has,ok.cab,ok.hd,ok.frames,ok.stk,ok.exf,ok.bs,ok.bsz,ok.noex,ok.exfs,ok.funs,ok.frf⟩
theorem Cx.Ok.unwish {X:Cx} {E:Value→Shared→Prop} (ok:(X.wish E).Ok):X.Ok:=
 ⟨ok.mod,ok.kind,ok.glob,ok.blt,ok.above,ok.inj,ok.has,ok.cab,ok.hd,ok.frames,ok.stk,ok.exf,ok.bs,ok.bsz,ok.noex,ok.exfs,ok.funs,ok.frf⟩
section
variable {X:Cx} {pins:List (Addr × Obj)} {σ:St} {H:Hp} {s:Shared} {E:Value→Shared→Prop}
theorem Inv.wish (I:Inv X pins σ H s) (E:Value→Shared→Prop):Inv (X.wish E) pins σ H s:=⟨I.ok.wish E,I.os,I.bare,I.base,I.loc,I.cell,I.free,I.freeC,I.pin,I.hok,I.len⟩
theorem Inv.unwish (I:Inv (X.wish E) pins σ H s):Inv X pins σ H s:=⟨I.ok.unwish,I.os,I.bare,I.base,I.loc,I.cell,I.free,I.freeC,I.pin,I.hok,I.len⟩
theorem SP.unwish {D:Ends} {f:Flow} {s':Shared} (h:SP (X.wish E) pins D f s'):SP X pins D f s':=by
 cases f with
 |next=>obtain ⟨σ',H',I,q⟩:=h;exact ⟨σ',H',I.unwish,q⟩
 |brk=>obtain ⟨σ',H',I,q⟩:=h;exact ⟨σ',H',I.unwish,q⟩
 |cont=>obtain ⟨σ',H',I,q⟩:=h;exact ⟨σ',H',I.unwish,q⟩
 |ret u=>obtain ⟨v,σ',H',I,r,q⟩:=h;exact ⟨v,σ',H',I.unwish,r,q⟩
theorem PSs.nox {st:List Stmt} {t:TS} (h:PSs X.nox st t):PSs X st t:=fun pins s σ H D I hw=>
 wpAny_mono (h pins s σ H D (I.wish _) hw) (fun _ _ q=>q.unwish) fun _ _ z=>False.elim z
end
section
variable {X:Cx} {st:Stmt} {rest:List Stmt} {t u:TS} {e:Expr} {te:TE} {pos:Pos}
def tNext:TS:=fun D σ H=>D.nx σ H
def tSeq (t u:TS):TS:=fun D σ H=>t { D with nx:=u D } σ H
theorem pss_nil:PSs X [] tNext:=fun _ _ σ H _ I h=>wpAny_execs_nil ⟨σ,H,I,h⟩
theorem pss_cons (h1:PS X st t) (h2:PSs X rest u):PSs X (st::rest) (tSeq t u):=by
 intro pins s σ H D I h
 refine wpAny_execs_cons (thn (h1 pins s σ H { D with nx:=u D } I h) fun f s1 q=>?_)
 cases f with
 |next=>
  obtain ⟨σ',H',I',q⟩:=q
  exact h2 pins s1 σ' H' D I' q
 |ret v=>exact q
 |brk=>exact q
 |cont=>exact q
theorem pss_one (h1:PS X st t):PSs X [st] t:=by
 intro pins s σ H D I h
 refine wpAny_execs_cons (thn (h1 pins s σ H D I h) fun f s1 q=>?_)
 cases f with
 |next=>exact wpAny_execs_nil q
 |ret v=>exact q
 |brk=>exact q
 |cont=>exact q
theorem Inv.quiet {pins:List (Addr × Obj)} {σ:St} {H:Hp} {s:Shared} (I:Inv X pins σ H s):interactive X.env=false:=by simp [interactive,I.ok.kind]
def tDrop (te:TE):TS:=fun D σ H=>te σ H fun _ H1=>D.nx σ H1
theorem ps_expr (he:PE X e te) (hs:swapsWith e none pos.line X.env=pure false:=by rfl):PS X (.Expr e pos) (tDrop te):=by
 intro pins s σ H D I h
 exact wpAny_Expr_any (thn (he pins s σ H _ I h) fun v s1 ⟨x,H1,I1,r1,q1⟩=>⟨σ,H1,I1,q1⟩) I.quiet hs
def tRet (te:TE):TS:=fun D σ H=>te σ H D.rt
theorem ps_ret (he:PE X e te):PS X (.Return (some e) pos) (tRet te):=by
 intro pins s σ H D I h
 exact wpAny_Return_some (thn (he pins s σ H _ I h) fun v s1 ⟨x,H1,I1,r1,q1⟩=>⟨x,σ,H1,I1,r1,q1⟩)
def tIfS (c:TT) (t u:TS):TS:=fun D σ H=>c σ H fun b H1=>if b=true then t D σ H1 else u D σ H1
theorem ps_if {c:Expr} {a b:List Stmt} {tc:TT} (hc:PT X c tc) (ha:PSs X a t) (hb:PSs X b u):PS X (.If c a b pos) (tIfS tc t u):=by
 intro pins s σ H D I h
 refine wpAny_If (thn (hc pins s σ H _ I h) fun d s1 ⟨H1,I1,q1⟩=>?_)
 cases d with
 |true=>exact ha pins s1 σ H1 D I1 q1
 |false=>exact hb pins s1 σ H1 D I1 q1
def tNever:TS:=fun _ _ _=>False
theorem ps_never:PS X st tNever:=fun _ _ _ _ _ _ h=>h.elim
end
abbrev TG:=V→St→Hp→(St→Hp→Prop)→Prop
abbrev TGs:=List V→St→Hp→(St→Hp→Prop)→Prop
def PG (X:Cx) (target:Expr) (t:TG):Prop:=
 ∀(pins:List (Addr × Obj)) (s:Shared) (σ:St) (H:Hp) (v:V) (u:Value) (Q:St→Hp→Prop),Inv X pins σ H s→RelV v u→t v σ H Q →
  wpAny (model X.prog X.w) X.A (assign target X.env u) (fun _ s'=>∃σ' H',Inv X pins σ' H' s'∧Q σ' H') X.xe s
def PGs (X:Cx) (ts:List Expr) (t:TGs):Prop:=
 ∀(pins:List (Addr × Obj)) (s:Shared) (σ:St) (H:Hp) (vs:List V) (us:List Value) (Q:St→Hp→Prop),Inv X pins σ H s→Vals vs us→t vs σ H Q →
  wpAny (model X.prog X.w) X.A (assignInOrder ((assignEach ts X.env).map (·.2)) us) (fun _ s'=>∃σ' H',Inv X pins σ' H' s'∧Q σ' H') X.xe s
abbrev TSet:=V→V→V→Hp→(Hp→Prop)→Prop
def PSet (X:Cx) (t:TSet):Prop:=
 ∀(pins:List (Addr × Obj)) (s:Shared) (σ:St) (H:Hp) (o i v:V) (ov iv u:Value) (Q:Hp→Prop),Inv X pins σ H s→RelV o ov→RelV i iv→RelV v u→t o i v H Q →
  wpAny (model X.prog X.w) X.A (setItem ov iv u) (fun _ s'=>∃H',Inv X pins σ H' s'∧Q H') X.xe s
section
variable {X:Cx} {pos:Pos}
def gName (i:Nat):TG:=fun v σ H Q=>Q (σ.set i (some v)) H
theorem pg_name {i:Nat} {x:Str} (hN:X.N.Nodup) (hi:X.N[i]?=some x) (hx:Loc X.env.scope x) (hf:X.fn x=true∨X.env.scope.names.lookup x=some .local:=by first|exact .inl rfl|exact .inr rfl|assumption):PG X (.Name x pos) (gName i):=by
 intro pins s σ H v u Q I r h
 exact wpAny_assign_Name (store_ok I hN hi hx r (fun s' I'=>⟨_,H,I',h⟩) hf)
def gNil:TGs:=fun vs σ H Q=>vs=[]∧Q σ H
def gCons (t:TG) (u:TGs):TGs:=fun vs σ H Q=>∃v r,vs=v::r∧t v σ H fun σ' H'=>u r σ' H' Q
theorem pgs_nil:PGs X [] gNil:=by
 intro pins s σ H vs us Q I r h
 obtain ⟨e,h⟩:=h
 subst e
 cases r
 exact assignInOrder_nil ⟨σ,H,I,h⟩
theorem pgs_cons {e:Expr} {es:List Expr} {t:TG} {u:TGs} (h1:PG X e t) (h2:PGs X es u)
  (hs:(assignEach (e::es) X.env).map (·.2)=assign e X.env::(assignEach es X.env).map (·.2):=by rfl):PGs X (e::es) (gCons t u):=by
 intro pins s σ H vs us Q I r h
 obtain ⟨v,vr,e1,h⟩:=h
 subst e1
 cases r with
 |cons r rr=>
  rw [hs]
  refine assignInOrder_cons (thn (h1 pins s σ H _ _ _ I r h) fun _ s1 ⟨σ1,H1,I1,q1⟩=>?_)
  exact h2 pins s1 σ1 H1 _ _ Q I1 rr q1
def gTup (K:PySem.W.Frag) (n:Nat) (t:TGs):TG:=fun v σ H Q=>∃a xs,v=.ref a∧SqT K H a xs∧xs.length=n∧t xs σ H Q
theorem pg_tup {es:List Expr} {k:Nat} {t:TGs} {n:Nat} (hc:X.calm=true) (h:PGs X es t)
  (hn:(assignEach es X.env).length=n:=by rfl) (hst:(assignEach es X.env).findIdx? (·.1)=none:=by rfl):PG X (.Tuple es k pos) (gTup X.K n t):=by
 intro pins s σ H v u Q I r hw
 obtain ⟨a,xs,e1,hq,hl,hw⟩:=hw
 subst e1
 cases r
 obtain ⟨its,rv,ht,hz⟩:=I.tuple hq
 refine assign_Tuple_tuple (I.ok.hd hc) ht (by simp [hn,←hl,rv.length]) hst fun h' hx=>?_
 have I1:Inv X pins σ H { s with heap:=h' }:=I.kept (t':=s.toks) fun b o e=>hx b o (Nat.ne_of_lt (Heap.lt_size e)) e
 exact h pins _ σ H xs _ Q I1 (by simpa using rv) hw
def gSub (to ti:TE) (t:TSet):TG:=fun v σ H Q=>to σ H fun o H1=>ti σ H1 fun i H2=>t o i v H2 fun H3=>Q σ H3
theorem pg_sub {o i:Expr} {to ti:TE} {t:TSet} (ho:PE X o to) (hi:PE X i ti) (hs:PSet X t)
  (ha:∀v,assign (.Subscript o i pos) X.env v=(do
   let ov ←holding [v] (eval o X.env)
   let iv ←holding [v,ov] (eval i X.env)
   standAt pos
   holding [v,ov,iv] (setItem ov iv v)
   release [v,ov,iv] []):=by intro _;rfl):PG X (.Subscript o i pos) (gSub to ti t):=by
 intro pins s σ H v u Q I r h
 rw [ha]
 refine wpAny_bind (wpAny_holding (thn (ho pins s σ H _ I h) fun ov s1 ⟨x,H1,I1,r1,q1⟩=>?_))
 refine wpAny_bind (wpAny_holding (thn (hi pins s1 σ H1 _ I1 q1) fun iv s2 ⟨y,H2,I2,r2,q2⟩=>?_))
 refine wpAny_bind (wpAny_standAt (wpAny_bind (wpAny_holding (thn (hs pins s2 σ H2 x y v ov iv u _ I2 r1 r2 r q2) fun _ s3 ⟨H3,I3,q3⟩=>?_))))
 exact wpAny_release ⟨σ,H3,I3,q3⟩
def tAsg (te:TE) (g:TG):TS:=fun D σ H=>te σ H fun x H1=>g x σ H1 D.nx
theorem ps_asg {tg e:Expr} {te:TE} {g:TG} (he:PE X e te) (hg:PG X tg g) (hs:swapsWithSole [tg] e pos.line X.env=pure false:=by rfl) (hw:swappedStores [tg] e X.env=pure none:=by rfl)
  (h1:(assignEach [tg] X.env).map (·.2)=[assign tg X.env]:=by rfl):PS X (.Assign [tg] e pos) (tAsg te g):=by
 intro pins s σ H D I h
 refine wpAny_Assign_stores (thn (he pins s σ H _ I h) fun v s1 ⟨x,H1,I1,r1,q1⟩=>?_) hs hw
 rw [h1]
 exact thn (hg pins s1 σ H1 x v _ I1 r1 q1) fun _ s2 q=>q
theorem ps_set {i:Nat} {x:Str} {e:Expr} {te:TE} {pos':Pos} (hN:X.N.Nodup) (hi:X.N[i]?=some x) (hx:Loc X.env.scope x) (he:PE X e te) (hs:swapsWith e (some (.Name x pos')) pos.line X.env=pure false:=by rfl) (hf:X.fn x=true∨X.env.scope.names.lookup x=some .local:=by first|exact .inl rfl|exact .inr rfl|assumption) :
  PS X (.Assign [.Name x pos'] e pos) (tAsg te (gName i)):=by
 intro pins s σ H D I h
 refine wpAny_Assign_Name (thn (he pins s σ H _ I h) fun v s1 ⟨y,H1,I1,r1,q1⟩=>?_) hs
 exact store_ok I1 hN hi hx r1 (fun s2 I2=>⟨_,H1,I2,q1⟩) hf
end
section
variable {X:Cx} {pos:Pos}
def tWhile (c:TT) (tb:TS):TS:=fun D σ H=>∃W:Nat→St→Hp→Prop,(∃m,W m σ H)∧∀m σ H,W m σ H →
 c σ H fun b H1=>if b=true then ∃N:St→Hp→Prop,(∀σ' H',N σ' H'→∃m',m'<m∧W m' σ' H')∧tb { D with nx:=N,ct:=N,bk:=D.nx } σ H1 else D.nx σ H1
theorem ps_while {c:Expr} {body:List Stmt} {tc:TT} {tb:TS} (hp:PassesOwn (model X.prog X.w) X.A X.env X.xe) (hc:PT X c tc) (hb:PSs X body tb):PS X (.While c body [] pos) (tWhile tc tb):=by
 intro pins s σ H D I h
 obtain ⟨W,⟨m0,w0⟩,turn⟩:=h
 refine wpAny_While (codeAny_whileLoop (fun n s'=>∃σ' H',Inv X pins σ' H' s'∧W n σ' H') ?_ m0 ⟨σ,H,I,w0⟩)
 rintro n s1 ⟨σ1,H1,I1,w1⟩
 refine wpAny_passesOwn hp (thn (hc pins s1 σ1 H1 _ I1 (turn n σ1 H1 w1)) fun b s2 ⟨H2,I2,q2⟩=>?_)
 cases b with
 |true=>
  obtain ⟨N,hN,q2⟩:=q2
  rw [if_pos rfl]
  refine wpAny_passesOwn hp (thn (hb pins s2 σ1 H2 _ I2 q2) fun f s3 q3=>?_)
  cases f with
  |next=>
   obtain ⟨σ3,H3,I3,n3⟩:=q3
   obtain ⟨m',hm,w3⟩:=hN σ3 H3 n3
   exact ⟨m',hm,σ3,H3,I3,w3⟩
  |cont=>
   obtain ⟨σ3,H3,I3,n3⟩:=q3
   obtain ⟨m',hm,w3⟩:=hN σ3 H3 n3
   exact ⟨m',hm,σ3,H3,I3,w3⟩
  |brk=>exact q3
  |ret v=>exact q3
 |false=>
  rw [if_neg Bool.false_ne_true]
  exact wpAny_execs_nil ⟨σ1,H2,I2,q2⟩
end
structure It where
 go:Nat→Hp→Prop
 yld:Nat→Hp→V→Hp→Prop
 stop:Nat→Hp→Prop
def FpOk (X:Cx) (pins:List (Addr × Obj)) (H:Hp) (b:Addr):Prop:=
 H b=none∧b≠X.env.locals∧b∉X.fs∧(b∈X.ex∨X.s₀.heap.objs.size≤b)∧(∀x c,X.env.cells.lookup x=some c→c≠b)∧∀p∈X.pn++pins,p.1≠b
theorem Inv.fpOk {X:Cx} {pins:List (Addr × Obj)} {σ:St} {H H':Hp} {s:Shared} {b:Addr} (I:Inv X pins σ H s) (hb:s.heap.objs.size≤b) (hn:H' b=none):FpOk X pins H' b:=by
 refine ⟨hn,Nat.ne_of_gt (Nat.lt_of_lt_of_le I.lt hb),I.nofs hb,.inr (Nat.le_trans I.sz hb),fun x c e z=>?_,fun p hp z=>?_⟩
 ·obtain ⟨v,q⟩:=I.cell x c e
  exact absurd (Nat.lt_of_lt_of_le q.lt (by rw [z];exact hb)) (Nat.lt_irrefl _)
 ·exact absurd (Nat.lt_of_lt_of_le (Heap.lt_size (I.pin p hp).1) (by rw [z];exact hb)) (Nat.lt_irrefl _)
structure Turn (P:Program) (w:World) (K:PySem.W.Frag) (tg:Expr) (J:It) (fp:List Addr) (it:Addr) (tn:Nat→Heap→Prop):Prop where
 mem:it∈fp
 obj:∀i h,tn i h→∀b∈fp,∃o,h.get? b=some o∧∀v,o.data≠.cell v
 keep:∀i h h',tn i h→(∀b∈fp,∀o,h.get? b=some o→h'.get? b=some o)→tn i h'
 item:∀(X:Cx),X.prog=P→X.w=w→X.K=K→X.calm=true→∀(i:Nat) (pins:List (Addr × Obj)) (s:Shared) (σ:St) (H:Hp) (E:Value→Shared→Prop),Inv X pins σ H s→(∀b∈fp,FpOk X pins H b)→tn i s.heap→J.go i H →
  wpAny (model P w) X.A (pyNext (.ref it)) (fun r s1=>∃u,r=some u ∧
   wpAny (model P w) X.A (letOwnedTupleGo tg (.ref it) u) (fun _ s2=>∃x H',Inv X pins σ H' s2∧RelV x u∧J.yld i H x H'∧tn (i+1) s2.heap∧∀b∈fp,H' b=none) E s1) E s
 done:∀(X:Cx),X.prog=P→X.w=w→X.K=K→X.calm=true→∀(i:Nat) (pins:List (Addr × Obj)) (s:Shared) (σ:St) (H:Hp) (E:Value→Shared→Prop),Inv X pins σ H s→(∀b∈fp,FpOk X pins H b)→tn i s.heap→J.stop i H →
  wpAny (model P w) X.A (pyNext (.ref it)) (fun r s1=>r=none∧Inv X pins σ H s1) E s
 self:∀(A:Around) (i:Nat) (s:Shared) (Q:Value→Shared→Prop) (E:Value→Shared→Prop),tn i s.heap→Q (.ref it) s→wpAny (model P w) A (pyIter (.ref it)) Q E s
abbrev TI:=St→Hp→(It→Hp→Prop)→Prop
def PIE (X:Cx) (pins:List (Addr × Obj)) (σ:St) (tg:Expr) (R:It→Hp→Prop) (itv:Value) (s2:Shared):Prop:=
 ∃(it:Addr) (fp:List Addr) (tn:Nat→Heap→Prop) (J:It) (H':Hp),itv=.ref it∧Inv X pins σ H' s2∧Turn X.prog X.w X.K tg J fp it tn∧tn 0 s2.heap∧(∀b∈fp,FpOk X pins H' b)∧R J H'
def PI (X:Cx) (tg iter:Expr) (wi:TI):Prop:=
 ∀(pins:List (Addr × Obj)) (s:Shared) (σ:St) (H:Hp) (R:It→Hp→Prop),Inv X pins σ H s→wi σ H R →
  wpAny (model X.prog X.w) X.A (eval iter X.env) (fun v s1=>wpAny (model X.prog X.w) X.A (pyIter v) (PIE X pins σ tg R) X.xe s1) X.xe s
theorem go_of {M:Model} {A:Around} {E:Value→Shared→Prop} {s:Shared} {tg:Expr} {it:Addr} {u:Value} {o:Obj} {n:String} {vs:Array Value} {Q:Unit→Shared→Prop} (ho:s.heap.get? it=some o) (hc:o.cls=.type n) (hd:o.data=.fields vs)
  (hn:["enumerate","zip","dict_itemiterator","dict_reverseitemiterator","odict_iterator","itertools.zip_longest","itertools.pairwise"].contains n=false) (hQ:Q () s):wpAny M A (letOwnedTupleGo tg (.ref it) u) Q E s:=by
 unfold letOwnedTupleGo
 cases tg <;> first
  |exact wpAny_pure hQ
  |(cases u <;> first
    |exact wpAny_pure hQ
    |(refine wpAny_bind (wpAny_load ho ?_);rw [hc,hd];show wpAny M A (if (["enumerate","zip","dict_itemiterator","dict_reverseitemiterator","odict_iterator","itertools.zip_longest","itertools.pairwise"].contains n && vs[0]? == some (rawInt _))=true then _ else _) Q E s;rw [if_neg (by intro h;rw [hn,Bool.false_and] at h;cases h)];exact wpAny_pure hQ))
def Itl (K:PySem.W.Frag) (a:Addr):It:=
 ⟨fun i H=>∃xs x,SqL K H a xs∧xs[i]?=some x,fun i H x H'=>H'=H∧∀xs,SqL K H a xs→xs[i]?=some x,fun i H=>∃xs,SqL K H a xs∧xs.length≤i⟩
def Itt (K:PySem.W.Frag) (a:Addr):It:=
 ⟨fun i H=>∃xs x,SqT K H a xs∧xs[i]?=some x,fun i H x H'=>H'=H∧∀xs,SqT K H a xs→xs[i]?=some x,fun i H=>∃xs,SqT K H a xs∧xs.length≤i⟩
def Itr (lo:Int) (n:Nat):It:=⟨fun i _=>i<n,fun i H x H'=>H'=H∧x=.int (lo+i),fun i _=>n≤i⟩
theorem turn_list {P:Program} {w:World} {K:PySem.W.Frag} {tg:Expr} (a it:Addr):Turn P w K tg (Itl K a) [it] it (fun i h=>h.IsListIter it a i) where
 mem:=by simp
 obj:=fun i h st b hb=>by
  have e:b=it:=by simpa using hb
  subst e
  obtain ⟨o,e,c,d⟩:=st
  exact ⟨o,e,fun v z=>by rw [d] at z;cases z⟩
 keep:=fun i h h' st k=>st.at fun o e=>k it (by simp) o e
 item:=by
  intro X hP hw hK hc i pins s σ H E I hf st hg
  subst hP hw hK
  obtain ⟨xs,x,hq,hx⟩:=hg
  obtain ⟨its,rv,p,hz⟩:=I.list hq
  obtain ⟨u,hu,ru⟩:=rv.get hx
  obtain ⟨f0,f1,f2,f3,f4,f5⟩:=hf it (by simp)
  refine wpAny_pyNext_list_item st p.isList (x:=u) (by simpa using hu) fun h' st' sb=>?_
  have I1:Inv X pins σ H { s with heap:=h' }:=I.turned (t':=s.toks) (fun b o hb e=>(sb.2 b hb).trans e) f0 f1 f3 f4 f5
  obtain ⟨o,e,c,d⟩:=id st'
  exact ⟨u,rfl,go_of (s:={ s with heap:=h' }) e c d (by decide) ⟨x,H,I1,ru,⟨rfl,fun ys hy=>by rw [I.list_inj hy hq];exact hx⟩,st',fun b hb=>(hf b hb).1⟩⟩
 done:=by
  intro X hP hw hK hc i pins s σ H E I hf st hg
  subst hP hw hK
  obtain ⟨xs,hq,hx⟩:=hg
  obtain ⟨its,rv,p,hz⟩:=I.list hq
  obtain ⟨f0,f1,f2,f3,f4,f5⟩:=hf it (by simp)
  have hl:=rv.length
  exact wpAny_pyNext_list_end (I.ok.hd hc) st p.isList (by simp;omega) fun h' eb=>⟨rfl,I.turned (t':=s.toks) (fun b o hb e=>eb b o hb e) f0 f1 f3 f4 f5⟩
 self:=fun _ _ _ _ _ st h=>wpAny_pyIter_listiter st h
theorem turn_tuple {P:Program} {w:World} {K:PySem.W.Frag} {tg:Expr} (a it:Addr):Turn P w K tg (Itt K a) [it] it (fun i h=>h.IsTupleIter it a i) where
 mem:=by simp
 obj:=fun i h st b hb=>by
  have e:b=it:=by simpa using hb
  subst e
  obtain ⟨o,e,c,d⟩:=st
  exact ⟨o,e,fun v z=>by rw [d] at z;cases z⟩
 keep:=fun i h h' st k=>st.at fun o e=>k it (by simp) o e
 item:=by
  intro X hP hw hK hc i pins s σ H E I hf st hg
  subst hP hw hK
  obtain ⟨xs,x,hq,hx⟩:=hg
  obtain ⟨its,rv,p,hz⟩:=I.tuple hq
  obtain ⟨u,hu,ru⟩:=rv.get hx
  obtain ⟨f0,f1,f2,f3,f4,f5⟩:=hf it (by simp)
  refine wpAny_pyNext_tuple_item st (show s.heap.IsTuple a its.toArray from p) (x:=u) (by simpa using hu) fun h' st' sb=>?_
  have I1:Inv X pins σ H { s with heap:=h' }:=I.turned (t':=s.toks) (fun b o hb e=>(sb.2 b hb).trans e) f0 f1 f3 f4 f5
  obtain ⟨o,e,c,d⟩:=id st'
  exact ⟨u,rfl,go_of (s:={ s with heap:=h' }) e c d (by decide) ⟨x,H,I1,ru,⟨rfl,fun ys hy=>by rw [I.tuple_inj hy hq];exact hx⟩,st',fun b hb=>(hf b hb).1⟩⟩
 done:=by
  intro X hP hw hK hc i pins s σ H E I hf st hg
  subst hP hw hK
  obtain ⟨xs,hq,hx⟩:=hg
  obtain ⟨its,rv,p,hz⟩:=I.tuple hq
  obtain ⟨f0,f1,f2,f3,f4,f5⟩:=hf it (by simp)
  have hl:=rv.length
  exact wpAny_pyNext_tuple_end (I.ok.hd hc) st (show s.heap.IsTuple a its.toArray from p) (by simp;omega) fun h' eb=>⟨rfl,I.turned (t':=s.toks) (fun b o hb e=>eb b o hb e) f0 f1 f3 f4 f5⟩
 self:=fun _ _ _ _ _ st h=>wpAny_pyIter_tupleiter st h
theorem turn_range {P:Program} {w:World} {K:PySem.W.Frag} {tg:Expr} (it:Addr) (lo:Int) (n:Nat):Turn P w K tg (Itr lo n) [it] it (fun i h=>IsRangeIter h it (lo+(i:Nat) * 1) ((n:Int) - (i:Nat)) 1) where
 mem:=by simp
 obj:=fun i h st b hb=>by
  have e:b=it:=by simpa using hb
  subst e
  exact ⟨_,st,fun v z=>by
   have z':Data.fields _=Data.cell v:=z
   cases z'⟩
 keep:=fun i h h' st k=>k it (by simp) _ st
 item:=by
  intro X hP hw hK hc i pins s σ H E I hf st hg
  subst hP hw hK
  obtain ⟨f0,f1,f2,f3,f4,f5⟩:=hf it (by simp)
  have W:=Walks.range (prog:=X.prog) (w:=X.w) (I.ok.hd hc) it lo 1 n
  refine W.item i s _ _ hg st fun v h' tk hv st' kk=>?_
  obtain ⟨t,rfl⟩:=hv
  have I1:Inv X pins σ H { s with heap:=h',toks:=tk }:=I.turned (fun b o hb e=>kk b o (by simpa using hb) e) f0 f1 f3 f4 f5
  refine ⟨_,rfl,go_of (s:={ s with heap:=h',toks:=tk }) (n:="range_iterator") st' rfl rfl (by decide) ⟨.int (lo+i),H,I1,⟨t,?_⟩,⟨rfl,rfl⟩,st',fun b hb=>(hf b hb).1⟩⟩
  rw [Int.mul_one]
 done:=by
  intro X hP hw hK hc i pins s σ H E I hf st hg
  subst hP hw hK
  obtain ⟨f0,f1,f2,f3,f4,f5⟩:=hf it (by simp)
  exact wpAny_pyNext_range_end (I.ok.hd hc) st (by have:n≤i:=hg;omega) fun h' eb=>⟨rfl,I.turned (t':=s.toks) (fun b o hb e=>eb b o hb e) f0 f1 f3 f4 f5⟩
 self:=fun _ _ _ _ _ st h=>wpAny_pyIter_rangeiter st h
section
variable {X:Cx} {tg:Expr}
def iList (K:PySem.W.Frag) (tl:TE):TI:=fun σ H R=>tl σ H fun x H1=>∃a,x=.ref a∧(∃xs,SqL K H1 a xs)∧R (Itl K a) H1
def iTup (K:PySem.W.Frag) (tl:TE):TI:=fun σ H R=>tl σ H fun x H1=>∃a,x=.ref a∧(∃xs,SqT K H1 a xs)∧R (Itt K a) H1
theorem pi_list {l:Expr} {tl:TE} (hl:PE X l tl):PI X tg l (iList X.K tl):=by
 intro pins s σ H R I h
 refine thn (hl pins s σ H _ I h) fun v s1 ⟨x,H1,I1,r1,q1⟩=>?_
 obtain ⟨a,e,⟨xs,hq⟩,q⟩:=q1
 subst e
 cases r1
 obtain ⟨its,rv,p,hz⟩:=I1.list hq
 refine wpAny_pyIter_list p.isList ?_
 refine ⟨s1.heap.objs.size,[s1.heap.objs.size],_,_,H1,rfl,I1.kept (t':=s1.toks) fun b o e=>Heap.get?_push_of_some _ e,turn_list a _,⟨_,Heap.get?_push_size _ rfl,rfl,rfl⟩,fun b hb=>?_,q⟩
 have e:b=s1.heap.objs.size:=by simpa using hb
 subst e
 exact I1.fpOk (Nat.le_refl _) (I1.hok.fresh (Nat.le_refl _))
theorem pi_tup {l:Expr} {tl:TE} (hl:PE X l tl):PI X tg l (iTup X.K tl):=by
 intro pins s σ H R I h
 refine thn (hl pins s σ H _ I h) fun v s1 ⟨x,H1,I1,r1,q1⟩=>?_
 obtain ⟨a,e,⟨xs,hq⟩,q⟩:=q1
 subst e
 cases r1
 obtain ⟨its,rv,p,hz⟩:=I1.tuple hq
 refine wpAny_pyIter_tuple (show s1.heap.IsTuple a its.toArray from p) ?_
 refine ⟨s1.heap.objs.size,[s1.heap.objs.size],_,_,H1,rfl,I1.kept (t':=s1.toks) fun b o e=>Heap.get?_push_of_some _ e,turn_tuple a _,⟨_,Heap.get?_push_size _ rfl,rfl,rfl⟩,fun b hb=>?_,q⟩
 have e:b=s1.heap.objs.size:=by simpa using hb
 subst e
 exact I1.fpOk (Nat.le_refl _) (I1.hok.fresh (Nat.le_refl _))
theorem range_it {pins:List (Addr × Obj)} {σ:St} {H:Hp} {s:Shared} {R:It→Hp→Prop} {E:Value→Shared→Prop} {lo hi:Int} {t u v:Tok} {tk:Nat} (I:Inv X pins σ H s) (h1:-(2 ^ 62)≤lo) (h2:lo<2 ^ 62) (h3:-(2 ^ 62)≤hi) (h4:hi<2 ^ 62)
  (q:R (Itr lo (hi - lo).toNat) H):wpAny (model X.prog X.w) X.A (pyIter (.ref s.heap.objs.size)) (PIE X pins σ tg R) E { s with heap:=s.heap.push { cls:=.type "range",data:=.fields #[.int lo t,.int hi u,.int 1 v] },toks:=tk }:=by
 refine wpAny_pyIter_range (IsRange.new ..) (small_one h1 h2 h3 h4) ?_
 have I1:Inv X pins σ H { s with heap:=s.heap.push { cls:=.type "range",data:=.fields #[.int lo t,.int hi u,.int 1 v] },toks:=tk }:=I.kept fun b o e=>Heap.get?_push_of_some _ e
 refine ⟨(s.heap.push { cls:=.type "range",data:=.fields #[.int lo t,.int hi u,.int 1 v] }).objs.size,[(s.heap.push { cls:=.type "range",data:=.fields #[.int lo t,.int hi u,.int 1 v] }).objs.size],_,_,H,rfl,
  I1.kept (t':=tk) fun b o e=>Heap.get?_push_of_some _ e,turn_range _ lo (hi - lo).toNat,?_,fun b hb=>?_,q⟩
 ·have e1:lo+((0:Nat):Int) * 1=lo:=by simp
  have e2:(((hi - lo).toNat:Nat):Int) - ((0:Nat):Int)=Builtin.Range.rangeSize lo hi 1:=by rw [rangeSize_one];split <;> omega
  show IsRangeIter _ _ (lo+((0:Nat):Int) * 1) ((((hi - lo).toNat:Nat):Int) - ((0:Nat):Int)) 1
  rw [e1,e2]
  exact Heap.get?_push_size _ rfl
 ·have e:b=(s.heap.push { cls:=.type "range",data:=.fields #[.int lo t,.int hi u,.int 1 v] }).objs.size:=by simpa using hb
  subst e
  exact I1.fpOk (Nat.le_refl _) (I1.hok.fresh (Nat.le_refl _))
def iRng1 (ta:TA):TI:=fun σ H R=>ta σ H fun vs H1=>∃j:Int,vs=[.int j]∧-(2 ^ 62)≤j∧j<2 ^ 62∧R (Itr 0 j.toNat) H1
def iRng2 (ta:TA):TI:=fun σ H R=>ta σ H fun vs H1=>∃i j:Int,vs=[.int i,.int j]∧(-(2 ^ 62)≤i∧i<2 ^ 62∧-(2 ^ 62)≤j∧j<2 ^ 62)∧R (Itr i (j - i).toNat) H1
theorem pi_range1 {a:Expr} {ta:TA} {p pos:Pos} (hg:Gl X "range") (hm:X.mg "range"=none) (ha:PA X [a] ta) (hs:starEach [a] X.env=[(false,eval a X.env)]:=by rfl):PI X tg (.Call (.Name "range" p) [a] [] pos) (iRng1 ta):=by
 intro pins s σ H R I h
 refine Call_ (ld_blt I hg hm boot_range (PyProof.Rows.callWith_type1 (thn (ha pos pins s σ H _ I h) fun us s1 ⟨vs,H1,I1,r1,q1⟩=>?_) hs rfl))
 obtain ⟨j,e,q1,q2,q⟩:=q1
 subst e
 cases r1 with
 |cons r rr=>
  cases rr
  obtain ⟨t,rfl⟩:=r
  exact call_range_1 (range_it I1 (by omega) (by omega) q1 q2 (by simpa using q))
theorem pi_range2 {a b:Expr} {ta:TA} {p pos:Pos} (hg:Gl X "range") (hm:X.mg "range"=none) (ha:PA X [a,b] ta) (hs:starEach [a,b] X.env=[(false,eval a X.env),(false,eval b X.env)]:=by rfl) (hs2:starEach [b] X.env=[(false,eval b X.env)]:=by rfl) :
  PI X tg (.Call (.Name "range" p) [a,b] [] pos) (iRng2 ta):=by
 intro pins s σ H R I h
 refine Call_ (ld_blt I hg hm boot_range (PyProof.Rows.callWith_type1 (thn (ha pos pins s σ H _ I h) fun us s1 ⟨vs,H1,I1,r1,q1⟩=>?_) (by rw [hs,hs2]) (by rw [hs2];rfl)))
 obtain ⟨i,j,e,⟨q1,q2,q3,q4⟩,q⟩:=q1
 subst e
 cases r1 with
 |cons r rr=>
  cases rr with
  |cons r' rr=>
   cases rr
   obtain ⟨t,rfl⟩:=r
   obtain ⟨t',rfl⟩:=r'
   exact call_range_2 (range_it I1 q1 q2 q3 q4 q)
def tFor (wi:TI) (g:TG) (tb:TS):TS:=fun D σ H=>wi σ H fun J H1=>∃W:Nat→Nat→St→Hp→Prop,(∃m,W 0 m σ H1)∧∀i m σ H,W i m σ H →
 (J.stop i H∧D.nx σ H)∨(J.go i H∧∃N:St→Hp→Prop,(∀σ' H',N σ' H'→∃m',m'<m∧W (i+1) m' σ' H')∧∀x H',J.yld i H x H'→g x σ H' fun σ2 H2=>tb { D with nx:=N,ct:=N,bk:=D.nx } σ2 H2)
def pinsAt (fp:List Addr) (h:Heap):List (Addr × Obj):=fp.filterMap fun b=>(h.get? b).map fun o=>(b,o)
theorem mem_pinsAt {fp:List Addr} {h:Heap} {b:Addr} {o:Obj} (hb:b∈fp) (e:h.get? b=some o):(b,o)∈pinsAt fp h:=List.mem_filterMap.mpr ⟨b,hb,by rw [e];rfl⟩
theorem of_pinsAt {fp:List Addr} {h:Heap} {p:Addr × Obj} (hp:p∈pinsAt fp h):p.1∈fp∧h.get? p.1=some p.2:=by
 obtain ⟨b,hb,e⟩:=List.mem_filterMap.mp hp
 cases q:h.get? b with
 |none=>rw [q] at e;cases e
 |some o=>
  rw [q] at e
  have e':(b,o)=p:=Option.some.inj e
  subst e'
  exact ⟨hb,q⟩
theorem Inv.pinned {pins:List (Addr × Obj)} {σ:St} {H:Hp} {s:Shared} {fp:List Addr} (I:Inv X pins σ H s) (hf:∀b∈fp,FpOk X pins H b) (ho:∀b∈fp,∃o,s.heap.get? b=some o∧∀v,o.data≠.cell v):Inv X (pins++pinsAt fp s.heap) σ H s:=
 I.pins_of fun p hp=>(List.mem_append.mp hp).elim (fun z=>I.pin p (List.mem_append_right _ z)) fun z=>by
  obtain ⟨hb,e⟩:=of_pinsAt z
  obtain ⟨f0,f1,f2,_⟩:=hf p.1 hb
  obtain ⟨o,e',d⟩:=ho p.1 hb
  rw [e] at e';cases e'
  exact ⟨e,f0,f1,f2,d⟩
theorem Inv.unpinned {pins pl:List (Addr × Obj)} {σ:St} {H:Hp} {s:Shared} (I:Inv X (pins++pl) σ H s):Inv X pins σ H s:=I.pins_of fun p hp=>I.pin p (List.mem_append_right _ (List.mem_append_left _ hp))
theorem ps_for {iter:Expr} {body:List Stmt} {wi:TI} {g:TG} {tb:TS} {pos:Pos} (hp:PassesOwn (model X.prog X.w) X.A X.env X.xe) (hc:X.calm=true) (hi:PI X tg iter wi) (hg:PG X tg g) (hb:PSs X body tb)
  (hs:∀x,foldedSetIterable iter X.env x=pure x:=by intro _;rfl):PS X (.For tg iter body [] pos) (tFor wi g tb):=by
 intro pins s σ H D I h
 refine wpAny_For (thn (hi pins s σ H _ I h) fun v s1 h1=>thn h1 fun itv s2 h2=>?_) hs
 obtain ⟨it,fp,tn,J,H2,e,I2,T,st2,f2,W,⟨m0,w0⟩,turn⟩:=h2
 subst e
 have stat:∀{H':Hp},(∀b∈fp,H' b=none)→∀b∈fp,FpOk X pins H' b:=fun hn b hb=>⟨hn b hb,(f2 b hb).2⟩
 refine codeAny_forLoop_any (fun n s'=>∃i σ' H',Inv X pins σ' H' s'∧tn i s'.heap∧(∀b∈fp,H' b=none)∧W i n σ' H') ?_ m0 ⟨0,σ,H2,I2,st2,fun b hb=>(f2 b hb).1,w0⟩
 rintro n s3 ⟨i,σ3,H3,I3,st3,fr3,w3⟩
 rcases turn i n σ3 H3 w3 with ⟨stop,qn⟩|⟨go,N,hN,step⟩
 ·refine wpAny_passesOwn hp (thn (T.done X rfl rfl rfl hc i pins s3 σ3 H3 X.xe I3 (stat fr3) st3 stop) fun r s4 ⟨hr,I4⟩=>?_)
  subst hr
  exact wpAny_execs_nil ⟨σ3,H3,I4,qn⟩
 ·refine wpAny_passesOwn hp (thn (T.item X rfl rfl rfl hc i pins s3 σ3 H3 X.xe I3 (stat fr3) st3 go) fun r s4 ⟨u,hr,h4⟩=>?_)
  subst hr
  refine wpAny_passesOwn hp (thn h4 fun _ s5 ⟨x,H5,I5,r5,y5,st5,fr5⟩=>?_)
  have I5':=I5.pinned (stat fr5) (T.obj _ _ st5)
  refine wpAny_passesOwn hp (thn (hg _ s5 σ3 H5 x u _ I5' r5 (step x H5 y5)) fun _ s6 ⟨σ6,H6,I6,q6⟩=>?_)
  refine wpAny_passesOwn hp (thn (hb _ s6 σ6 H6 _ I6 q6) fun f s7 q7=>?_)
  have again:∀{σ7:St} {H7:Hp},Inv X (pins++pinsAt fp s5.heap) σ7 H7 s7→N σ7 H7→∃m,m<n∧∃i σ' H',Inv X pins σ' H' s7∧tn i s7.heap∧(∀b∈fp,H' b=none)∧W i m σ' H':=fun {σ7 H7} I7 n7=>by
   obtain ⟨m',hm,w7⟩:=hN σ7 H7 n7
   refine ⟨m',hm,i+1,σ7,H7,I7.unpinned,T.keep _ _ _ st5 fun b hb o e=>(I7.pin (b,o) (List.mem_append_right _ (List.mem_append_right _ (mem_pinsAt hb e)))).1,fun b hb=>?_,w7⟩
   obtain ⟨o,e,d⟩:=T.obj _ _ st5 b hb
   exact (I7.pin (b,o) (List.mem_append_right _ (List.mem_append_right _ (mem_pinsAt hb e)))).2.1
  cases f with
  |next=>obtain ⟨σ7,H7,I7,n7⟩:=q7;exact again I7 n7
  |cont=>obtain ⟨σ7,H7,I7,n7⟩:=q7;exact again I7 n7
  |brk=>obtain ⟨σ7,H7,I7,q7⟩:=q7;exact ⟨σ7,H7,I7.unpinned,q7⟩
  |ret v=>obtain ⟨x7,σ7,H7,I7,r7,q7⟩:=q7;exact ⟨x7,σ7,H7,I7.unpinned,r7,q7⟩
end
theorem for_tup {K:PySem.W.Frag} {a:Addr} {xs:List V} {g:TG} {tb:TS} {D:Ends} {σ:St} {H:Hp} (Pv:Nat→St→Hp→Prop) (h0:Pv 0 σ H) (hl:∀i σ H,i≤xs.length→Pv i σ H→SqT K H a xs)
  (hs:∀i x σ H,xs[i]?=some x→Pv i σ H→g x σ H fun σ2 H2=>tb { D with nx:=Pv (i+1),ct:=Pv (i+1),bk:=D.nx } σ2 H2) (hd:∀σ H,Pv xs.length σ H→D.nx σ H) :
  ∃W:Nat→Nat→St→Hp→Prop,(∃m,W 0 m σ H)∧∀i m σ H,W i m σ H →
   ((Itt K a).stop i H∧D.nx σ H)∨((Itt K a).go i H∧∃N:St→Hp→Prop,(∀σ' H',N σ' H'→∃m',m'<m∧W (i+1) m' σ' H')∧∀x H',(Itt K a).yld i H x H'→g x σ H' fun σ2 H2=>tb { D with nx:=N,ct:=N,bk:=D.nx } σ2 H2):=by
 refine ⟨fun i m σ H=>m=xs.length - i∧i≤xs.length∧Pv i σ H,⟨xs.length,by simp,Nat.zero_le _,h0⟩,?_⟩
 rintro i m σ H ⟨rfl,hi,p⟩
 have q:=hl i σ H hi p
 by_cases hlt:i<xs.length
 ·refine .inr ⟨⟨xs,xs[i],q,by simp [hlt]⟩,Pv (i+1),fun σ' H' p'=>⟨xs.length - (i+1),by omega,rfl,hlt,p'⟩,fun x H' y=>?_⟩
  obtain ⟨e,y⟩:=y
  subst e
  exact hs i x σ _ (y xs q) p
 ·have e:i=xs.length:=by omega
  subst e
  exact .inl ⟨⟨xs,q,Nat.le_refl _⟩,hd σ H p⟩
theorem for_range {lo:Int} {n:Nat} {g:TG} {tb:TS} {D:Ends} {σ:St} {H:Hp} (Pv:Nat→St→Hp→Prop) (h0:Pv 0 σ H)
  (hs:∀i σ H,i<n→Pv i σ H→g (.int (lo+i)) σ H fun σ2 H2=>tb { D with nx:=Pv (i+1),ct:=Pv (i+1),bk:=D.nx } σ2 H2) (hd:∀σ H,Pv n σ H→D.nx σ H) :
  ∃W:Nat→Nat→St→Hp→Prop,(∃m,W 0 m σ H)∧∀i m σ H,W i m σ H →
   ((Itr lo n).stop i H∧D.nx σ H)∨((Itr lo n).go i H∧∃N:St→Hp→Prop,(∀σ' H',N σ' H'→∃m',m'<m∧W (i+1) m' σ' H')∧∀x H',(Itr lo n).yld i H x H'→g x σ H' fun σ2 H2=>tb { D with nx:=N,ct:=N,bk:=D.nx } σ2 H2):=by
 refine ⟨fun i m σ H=>m=n - i∧i≤n∧Pv i σ H,⟨n,by simp,Nat.zero_le _,h0⟩,?_⟩
 rintro i m σ H ⟨rfl,hi,p⟩
 by_cases hlt:i<n
 ·refine .inr ⟨hlt,Pv (i+1),fun σ' H' p'=>⟨n - (i+1),by omega,rfl,hlt,p'⟩,fun x H' y=>?_⟩
  obtain ⟨e,y⟩:=y
  subst e y
  exact hs i σ _ hlt p
 ·have e:i=n:=by omega
  subst e
  exact .inl ⟨Nat.le_refl _,hd σ H p⟩
abbrev R2:=V→V→Hp→VK→Prop
def OpR (X:Cx) (f:Value→Value→Sem Value) (r:R2):Prop:=
 ∀(pins:List (Addr × Obj)) (s:Shared) (σ:St) (H:Hp) (x y:V) (v u:Value) (Q:VK),Inv X pins σ H s→RelV x v→RelV y u→r x y H Q →
  wpAny (model X.prog X.w) X.A (f v u) (EP X pins σ Q) X.xe s
def CallR (X:Cx) (f:Value) (r:List V→Hp→VK→Prop):Prop:=
 ∀(pins:List (Addr × Obj)) (s:Shared) (σ:St) (H:Hp) (xs:List V) (us:List Value) (Q:VK),Inv X pins σ H s→Vals xs us→r xs H Q →
  wpAny (model X.prog X.w) X.A (call f us) (EP X pins σ Q) X.xe s
def TruR (X:Cx) (r:V→Hp→(Bool→Hp→Prop)→Prop):Prop:=
 ∀(pins:List (Addr × Obj)) (s:Shared) (σ:St) (H:Hp) (x:V) (v:Value) (Q:Bool→Hp→Prop),Inv X pins σ H s→RelV x v→r x H Q →
  wpAny (model X.prog X.w) X.A (truthy v) (TP X pins σ Q) X.xe s
def tOp (r:R2) (ta tb:TE):TE:=fun σ H Q=>ta σ H fun x H1=>tb σ H1 fun y H2=>r x y H2 Q
def rI (C:Int→Int→Prop) (g:Int→Int→V):R2:=fun x y H Q=>∃i j,x=.int i∧y=.int j∧C i j∧Q (g i j) H
def rI0 (g:Int→Int→V):R2:=fun x y H Q=>∃i j,x=.int i∧y=.int j∧Q (g i j) H
section
variable {X:Cx} {a b c:Expr} {ta tb tc:TE} {pos:Pos}
theorem binT (ha:PE X a ta) (hb:PE X b tb) {pins:List (Addr × Obj)} {s:Shared} {σ:St} {H:Hp} {R:V→V→Hp→Prop} (I:Inv X pins σ H s)
  (h:ta σ H fun x H1=>tb σ H1 fun y H2=>R x y H2) {Q:Value→Shared→Prop} {f:Value→Value→Sem Value}
  (hf:∀v u s2 x y H2,Inv X pins σ H2 s2→RelV x v→RelV y u→R x y H2→wpAny (model X.prog X.w) X.A (f v u) Q X.xe s2) :
  wpAny (model X.prog X.w) X.A (eval a X.env) (fun v s₁=>wpAny (model X.prog X.w) X.A (eval b X.env) (fun u s₂=>wpAny (model X.prog X.w) X.A (f v u) Q X.xe s₂) X.xe s₁) X.xe s:=by
 refine thn (ha pins s σ H _ I h) fun v s1 ⟨x,H1,I1,r1,q1⟩=>?_
 refine thn (hb pins s1 σ H1 _ I1 q1) fun u s2 ⟨y,H2,I2,r2,q2⟩=>?_
 exact hf v u s2 x y H2 I2 r1 r2 q2
theorem pe_op {op:Operator} {r:R2} (ho:OpR X (binaryOp op) r) (ha:PE X a ta) (hb:PE X b tb):PE X (.BinOp a op b pos) (tOp r ta tb):=by
 intro pins s σ H Q I h
 exact wpAny_BinOp (binT ha hb I h fun v u s2 x y H2 I2 rx ry q=>ho pins s2 σ H2 x y v u Q I2 rx ry q)
theorem opI {f:Value→Value→Sem Value} {C:Int→Int→Prop} {g:Int→Int→Int}
  (rule:∀(i j:Int) (t u:Tok) (s:Shared) (Q:Value→Shared→Prop) (E:Value→Shared→Prop),C i j→Q (.int (g i j) s.toks) { s with toks:=s.toks+1 }→wpAny (model X.prog X.w) X.A (f (.int i t) (.int j u)) Q E s) :
  OpR X f (rI C fun i j=>.int (g i j)):=by
 intro pins s σ H x y v u Q I rx ry h
 obtain ⟨i,j,rfl,rfl,hc,q⟩:=h
 obtain ⟨t,rfl⟩:=rx
 obtain ⟨t',rfl⟩:=ry
 exact rule i j t t' s _ _ hc ⟨.int (g i j),H,I.tok _,⟨_,rfl⟩,q⟩
theorem opI0 {f:Value→Value→Sem Value} {g:Int→Int→Int}
  (rule:∀(i j:Int) (t u:Tok) (s:Shared) (Q:Value→Shared→Prop) (E:Value→Shared→Prop),Q (.int (g i j) s.toks) { s with toks:=s.toks+1 }→wpAny (model X.prog X.w) X.A (f (.int i t) (.int j u)) Q E s) :
  OpR X f (rI0 fun i j=>.int (g i j)):=by
 intro pins s σ H x y v u Q I rx ry h
 obtain ⟨i,j,rfl,rfl,q⟩:=h
 obtain ⟨t,rfl⟩:=rx
 obtain ⟨t',rfl⟩:=ry
 exact rule i j t t' s _ _ ⟨.int (g i j),H,I.tok _,⟨_,rfl⟩,q⟩
theorem opB0 {f:Value→Value→Sem Value} {g:Int→Int→Bool}
  (rule:∀(i j:Int) (t u:Tok) (s:Shared) (Q:Value→Shared→Prop) (E:Value→Shared→Prop),Q (.bool (g i j)) s→wpAny (model X.prog X.w) X.A (f (.int i t) (.int j u)) Q E s) :
  OpR X f (rI0 fun i j=>.bl (g i j)):=by
 intro pins s σ H x y v u Q I rx ry h
 obtain ⟨i,j,rfl,rfl,q⟩:=h
 obtain ⟨t,rfl⟩:=rx
 obtain ⟨t',rfl⟩:=ry
 exact rule i j t t' s _ _ ⟨.bl (g i j),H,I,rfl,q⟩
def CDiv (i j:Int):Prop:=0<j∧j<1073741824
def CPow (i j:Int):Prop:=0≤j∧j≤1000000∧i.natAbs<2 ^ 64
def CMul (i j:Int):Prop:=(-(2 ^ 64)<i∧i<2 ^ 64)∨(-(2 ^ 64)<j∧j<2 ^ 64)
theorem CMul.ok {i j:Int} (h:CMul i j):IntMulOk i j:=by
 rcases h with ⟨h1,h2⟩|⟨h1,h2⟩
 ·exact .of_left (intBits_le_64 h1 h2)
 ·exact .of_right (intBits_le_64 h1 h2)
theorem op_add:OpR X (binaryOp .Add) (rI0 fun i j=>.int (i+j)):=opI0 fun _ _ _ _ _ _ _ q=>add_int q
theorem op_sub:OpR X (binaryOp .Sub) (rI0 fun i j=>.int (i - j)):=opI0 fun _ _ _ _ _ _ _ q=>sub_int q
theorem op_mul:OpR X (binaryOp .Mult) (rI CMul fun i j=>.int (i * j)):=opI fun _ _ _ _ _ _ _ hc q=>mul_int q hc.ok
theorem op_fdiv:OpR X (binaryOp .FloorDiv) (rI CDiv fun i j=>.int (i / j)):=opI fun i j _ _ _ _ _ hc q=>by
 have h1:(0:Int)<j:=hc.1
 have h2:j<1073741824:=hc.2
 exact floordiv_int (by omega) (by rw [Int.fdiv_eq_ediv_of_nonneg i (by omega)];exact q) (.inl (PyProof.noPylong_small (by omega)))
theorem op_mod:OpR X (binaryOp .Mod) (rI (fun _ j=>0<j) fun i j=>.int (i % j)):=opI fun i j _ _ _ _ _ hc q=>by
 have h1:(0:Int)<j:=hc
 exact mod_int' (by omega) (by rw [Int.fmod_eq_emod_of_nonneg i (by omega)];exact q)
theorem op_pow:OpR X (binaryOp .Pow) (rI CPow fun i j=>.int (i ^ j.toNat)):=opI fun _ _ _ _ _ _ _ hc q=>pow_int_small hc.1 hc.2.1 hc.2.2 q
end
def scal:V→V→Bool
 |.non,.non=>true|.non,.int _=>true|.int _,.non=>true|.non,.bl _=>true|.bl _,.non=>true|.non,.str _=>true|.str _,.non=>true
 |.int _,.int _=>true|.bl _,.bl _=>true|.str _,.str _=>true|.byt _,.byt _=>true
 |.int _,.str _=>true|.str _,.int _=>true|.bl _,.str _=>true|.str _,.bl _=>true
 |_,_=>false
def rEq:R2:=fun x y H Q=>scal x y=true∧Q (.bl (decide (x=y))) H
def rNe:R2:=fun x y H Q=>scal x y=true∧Q (.bl (!decide (x=y))) H
theorem dec_int {i j:Int}:decide (V.int i=V.int j)=(i == j):=by
 rw [Bool.eq_iff_iff]
 simp
theorem dec_bl {i j:Bool}:decide (V.bl i=V.bl j)=(i == j):=by
 rw [Bool.eq_iff_iff]
 simp
theorem dec_str {i j:Str}:decide (V.str i=V.str j)=(i == j):=by
 rw [Bool.eq_iff_iff]
 simp
theorem dec_byt {i j:Array UInt8}:decide (V.byt i=V.byt j)=(i.toList == j.toList):=by
 rw [Bool.eq_iff_iff]
 cases i
 cases j
 simp
section
variable {X:Cx} {a b c:Expr} {ta tb tc:TE} {pos:Pos}
theorem fin_bl {pins:List (Addr × Obj)} {σ:St} {H:Hp} {s:Shared} {Q:VK} {k k':Bool} (I:Inv X pins σ H s) (q:Q (.bl k) H) (e:k=k'):EP X pins σ Q (.bool k') s:=by
 subst e
 exact ⟨.bl k,H,I,rfl,q⟩
theorem op_eq:OpR X (compareOp .Eq) rEq:=by
 intro pins s σ H x y v u Q I rx ry h
 obtain ⟨hs,q⟩:=h
 cases x with
 |non=>
  cases rx
  cases y with
  |non=>cases ry;exact PySem.EqNone.eq_none_none (fin_bl I q (by simp))
  |bl j=>cases ry;exact PySem.EqNone.eq_none_bool (fin_bl I q (by simp))
  |int j=>obtain ⟨t',rfl⟩:=ry;exact PySem.EqNone.eq_none_int (fin_bl I q (by simp))
  |str j=>obtain ⟨t',rfl⟩:=ry;exact PySem.EqNone.eq_none_str (fin_bl I q (by simp))
  |_=>exact absurd (show false=true from hs) Bool.false_ne_true
 |bl i=>
  cases rx
  cases y with
  |non=>cases ry;exact PySem.EqNone.eq_bool_none (fin_bl I q (by simp))
  |bl j=>cases ry;exact eq_bool (fin_bl I q dec_bl)
  |str j=>obtain ⟨t',rfl⟩:=ry;exact PySem.EqMixed.eq_bool_str (fin_bl I q (by simp))
  |_=>exact absurd (show false=true from hs) Bool.false_ne_true
 |int i=>
  obtain ⟨t,rfl⟩:=rx
  cases y with
  |non=>cases ry;exact PySem.EqNone.eq_int_none (fin_bl I q (by simp))
  |int j=>obtain ⟨t',rfl⟩:=ry;exact eq_int (fin_bl I q dec_int)
  |str j=>obtain ⟨t',rfl⟩:=ry;exact PySem.EqMixed.eq_int_str (fin_bl I q (by simp))
  |_=>exact absurd (show false=true from hs) Bool.false_ne_true
 |str i=>
  obtain ⟨t,rfl⟩:=rx
  cases y with
  |non=>cases ry;exact PySem.EqNone.eq_str_none (fin_bl I q (by simp))
  |bl j=>cases ry;exact PySem.EqMixed.eq_str_bool (fin_bl I q (by simp))
  |int j=>obtain ⟨t',rfl⟩:=ry;exact PySem.EqMixed.eq_str_int (fin_bl I q (by simp))
  |str j=>obtain ⟨t',rfl⟩:=ry;exact eq_str (fin_bl I q dec_str)
  |_=>exact absurd (show false=true from hs) Bool.false_ne_true
 |byt i=>
  obtain ⟨t,rfl⟩:=rx
  cases y with
  |byt j=>obtain ⟨t',rfl⟩:=ry;exact PySem.W.eq_bytes (fin_bl I q dec_byt)
  |_=>exact absurd (show false=true from hs) Bool.false_ne_true
 |_=>cases y <;> exact absurd (show false=true from hs) Bool.false_ne_true
theorem op_ne:OpR X (compareOp .NotEq) rNe:=by
 intro pins s σ H x y v u Q I rx ry h
 obtain ⟨hs,q⟩:=h
 cases x with
 |non=>
  cases rx
  cases y with
  |non=>cases ry;exact PySem.EqNone.ne_none_none (fin_bl I q (by simp))
  |bl j=>cases ry;exact PySem.EqNone.ne_none_bool (fin_bl I q (by simp))
  |int j=>obtain ⟨t',rfl⟩:=ry;exact PySem.EqNone.ne_none_int (fin_bl I q (by simp))
  |str j=>obtain ⟨t',rfl⟩:=ry;exact PySem.EqNone.ne_none_str (fin_bl I q (by simp))
  |_=>exact absurd (show false=true from hs) Bool.false_ne_true
 |bl i=>
  cases rx
  cases y with
  |non=>cases ry;exact PySem.EqNone.ne_bool_none (fin_bl I q (by simp))
  |bl j=>cases ry;exact ne_bool (fin_bl I q (congrArg not dec_bl))
  |str j=>obtain ⟨t',rfl⟩:=ry;exact PySem.EqMixed.ne_bool_str (fin_bl I q (by simp))
  |_=>exact absurd (show false=true from hs) Bool.false_ne_true
 |int i=>
  obtain ⟨t,rfl⟩:=rx
  cases y with
  |non=>cases ry;exact PySem.EqNone.ne_int_none (fin_bl I q (by simp))
  |int j=>obtain ⟨t',rfl⟩:=ry;exact ne_int (fin_bl I q (congrArg not dec_int))
  |str j=>obtain ⟨t',rfl⟩:=ry;exact PySem.EqMixed.ne_int_str (fin_bl I q (by simp))
  |_=>exact absurd (show false=true from hs) Bool.false_ne_true
 |str i=>
  obtain ⟨t,rfl⟩:=rx
  cases y with
  |non=>cases ry;exact PySem.EqNone.ne_str_none (fin_bl I q (by simp))
  |bl j=>cases ry;exact PySem.EqMixed.ne_str_bool (fin_bl I q (by simp))
  |int j=>obtain ⟨t',rfl⟩:=ry;exact PySem.EqMixed.ne_str_int (fin_bl I q (by simp))
  |str j=>obtain ⟨t',rfl⟩:=ry;exact ne_str (fin_bl I q (congrArg not dec_str))
  |_=>exact absurd (show false=true from hs) Bool.false_ne_true
 |byt i=>
  obtain ⟨t,rfl⟩:=rx
  cases y with
  |byt j=>obtain ⟨t',rfl⟩:=ry;exact PySem.W.ne_bytes (fin_bl I q (congrArg not dec_byt))
  |_=>exact absurd (show false=true from hs) Bool.false_ne_true
 |_=>cases y <;> exact absurd (show false=true from hs) Bool.false_ne_true
theorem op_lt:OpR X (compareOp .Lt) (rI0 fun i j=>.bl (decide (i<j))):=opB0 fun _ _ _ _ _ _ _ q=>lt_int q
theorem op_le:OpR X (compareOp .LtE) (rI0 fun i j=>.bl (decide (i≤j))):=opB0 fun _ _ _ _ _ _ _ q=>le_int q
theorem op_gt:OpR X (compareOp .Gt) (rI0 fun i j=>.bl (decide (j<i))):=opB0 fun _ _ _ _ _ _ _ q=>gt_int q
theorem op_in_str:OpR X (compareOp .In) (fun x y H Q=>∃i j,x=.str i∧y=.str j∧Q (.bl (!(Builtin.Str.occurrences j i 0 j.length 1).isEmpty)) H):=by
 intro pins s σ H x y v u Q I rx ry h
 obtain ⟨i,j,rfl,rfl,q⟩:=h
 obtain ⟨t,rfl⟩:=rx
 obtain ⟨t',rfl⟩:=ry
 exact in_str (fin_bl I q rfl)
theorem op_isN:OpR X (compareOp .Is) (fun x y H Q=>y=.non∧Q (.bl (decide (x=.non))) H):=by
 intro pins s σ H x y v u Q I rx ry h
 obtain ⟨rfl,q⟩:=h
 cases ry
 refine is_none_gen (fin_bl I q ?_)
 cases x <;> first
  |(cases rx;rfl)
  |(obtain ⟨t,rfl⟩:=rx;rfl)
theorem OpR.or {f:Value→Value→Sem Value} {r r':R2} (h:OpR X f r) (h':OpR X f r'):OpR X f (fun x y H Q=>r x y H Q∨r' x y H Q):=by
 intro pins s σ H x y v u Q I rx ry q
 rcases q with q|q
 ·exact h pins s σ H x y v u Q I rx ry q
 ·exact h' pins s σ H x y v u Q I rx ry q
theorem nomark (b:Expr) {op:CmpOp} (h:op≠.In:=by decide) (h2:op≠.NotIn:=by decide):behindInMarks op b=false:=by
 have e1:(op == CmpOp.In)=false:=by cases op <;> first|rfl|exact absurd rfl h
 have e2:(op == CmpOp.NotIn)=false:=by cases op <;> first|rfl|exact absurd rfl h2
 cases b <;> simp [behindInMarks,e1,e2]
theorem pe_cmpR {op:CmpOp} {r:R2} (ho:OpR X (compareOp op) r) (ha:PE X a ta) (hb:PE X b tb) (hm:behindInMarks op b=false):PE X (.Compare a [op] [b] pos) (tOp r ta tb):=by
 intro pins s σ H Q I h
 exact wpAny_Compare1 (binT ha hb I h fun v u s2 x y H2 I2 rx ry q=>ho pins s2 σ H2 x y v u Q I2 rx ry q) hm
def tTest (t:TE):TT:=fun σ H Q=>t σ H fun x H'=>∃k,x=.bl k∧Q k H'
theorem pt_cmpR {op:CmpOp} {r:R2} (ho:OpR X (compareOp op) r) (ha:PE X a ta) (hb:PE X b tb) (hm:behindInMarks op b=false):PT X (.Compare a [op] [b] pos) (tTest (tOp r ta tb)):=by
 intro pins s σ H Q I h
 refine wpAny_isTrue_Compare1 (thn (ha pins s σ H _ I h) fun v s1 ⟨x,H1,I1,r1,q1⟩=>thn (hb pins s1 σ H1 _ I1 q1) fun u s2 ⟨y,H2,I2,r2,q2⟩=>
  thn (ho pins s2 σ H2 x y v u _ I2 r1 r2 q2) fun c s3 ⟨z,H3,I3,r3,k,e,q3⟩=>?_) hm
 subst e
 cases r3
 exact wpAny_truthy_bool ⟨H3,I3,q3⟩
def tChain (r r':R2) (ta tb tc:TE):TE:=fun σ H Q=>ta σ H fun x H1=>tb σ H1 fun y H2=>r x y H2 fun z H3=>∃k,z=.bl k ∧
 (if k=true then tc σ H3 fun w' H4=>r' y w' H4 Q else Q (.bl false) H3)
theorem pe_chain {op op':CmpOp} {r r':R2} (ho:OpR X (compareOp op) r) (ho':OpR X (compareOp op') r') (ha:PE X a ta) (hb:PE X b tb) (hc:PE X c tc)
  (hm:lastMarks [op,op'] [b,c]=false:=by with_unfolding_all rfl):PE X (.Compare a [op,op'] [b,c] pos) (tChain r r' ta tb tc):=by
 intro pins s σ H Q I h
 refine Compare_chain (thn (ha pins s σ H _ I h) fun v s1 ⟨x,H1,I1,r1,q1⟩=>chain_link (thn (hb pins s1 σ H1 _ I1 q1) fun u s2 ⟨y,H2,I2,r2,q2⟩=>
  thn (ho pins s2 σ H2 x y v u _ I2 r1 r2 q2) fun d s3 ⟨z,H3,I3,r3,k,e,q3⟩=>?_)) hm
 subst e
 cases r3
 refine wpAny_truthy_bool ?_
 cases k with
 |false=>exact ite_ff ⟨.bl false,H3,I3,rfl,q3⟩
 |true=>exact ite_tt (chain_last (thn (hc pins s3 σ H3 _ I3 q3) fun w' s4 ⟨z',H4,I4,r4,q4⟩=>ho' pins s4 σ H4 y z' u w' Q I4 r2 r4 q4))
theorem pt_chain {op op':CmpOp} {r r':R2} (ho:OpR X (compareOp op) r) (ho':OpR X (compareOp op') r') (ha:PE X a ta) (hb:PE X b tb) (hc:PE X c tc)
  (hm:lastMarks [op,op'] [b,c]=false:=by with_unfolding_all rfl):PT X (.Compare a [op,op'] [b,c] pos) (tTest (tChain r r' ta tb tc)):=by
 intro pins s σ H Q I h
 refine isTrue_chain (thn (ha pins s σ H _ I h) fun v s1 ⟨x,H1,I1,r1,q1⟩=>test_link (thn (hb pins s1 σ H1 _ I1 q1) fun u s2 ⟨y,H2,I2,r2,q2⟩=>
  thn (ho pins s2 σ H2 x y v u _ I2 r1 r2 q2) fun d s3 ⟨z,H3,I3,r3,k,e,q3⟩=>?_)) hm
 subst e
 cases r3
 refine wpAny_truthy_bool ?_
 cases k with
 |false=>
  obtain ⟨k',e',q'⟩:=q3
  cases e'
  exact ite_ff ⟨H3,I3,q'⟩
 |true=>
  refine ite_tt (test_last (thn (hc pins s3 σ H3 _ I3 q3) fun w' s4 ⟨z',H4,I4,r4,q4⟩=>thn (ho' pins s4 σ H4 y z' u w' _ I4 r2 r4 q4) fun d' s5 ⟨z2,H5,I5,r5,k2,e2,q5⟩=>?_))
  subst e2
  cases r5
  exact wpAny_truthy_bool ⟨H5,I5,q5⟩
def TruV (K:PySem.W.Frag) (x:V) (H:Hp) (k:Bool):Prop:=
 match x with
 |.non=>k=false
 |.bl b=>k=b
 |.int i=>k=(i != 0)
 |.str y=>y.length≤sizeLine∧k=((y.length:Int) != 0)
 |.byt y=>y.size≤sizeLine∧k=((y.size:Int) != 0)
 |.ref p=>(∃xs,SqL K H p xs∧k=!xs.isEmpty)∨(∃xs,SqT K H p xs∧k=!xs.isEmpty)∨∃kvs,H p=some (.dK kvs)∧k=!kvs.isEmpty
 |_=>False
theorem isEmpty_kv {κ:Type} {kvs:List (κ × V)} {vs:List (κ × Value)} (r:KV kvs vs):(!vs.isEmpty)=!kvs.isEmpty:=by
 cases r <;> rfl
theorem isEmpty_of {xs:List V} {its:List Value} (r:Vals xs its):(!its.toArray.isEmpty)=!xs.isEmpty:=by
 cases r <;> simp
theorem line63:(sizeLine:Nat)<2 ^ 63:=by rw [sizeLine_eq];decide
theorem tru_ok:TruR X (fun x H Q=>∃k,TruV X.K x H k∧Q k H):=by
 intro pins s σ H x v Q I rx h
 obtain ⟨k,e,q⟩:=h
 have hl:=line63
 have hs:sizeLine=16777216:=sizeLine_eq
 cases x with
 |non=>
  cases rx
  have e':k=false:=e
  subst e'
  exact truthy_none ⟨H,I,q⟩
 |bl b=>
  cases rx
  have e':k=b:=e
  subst e'
  exact wpAny_truthy_bool ⟨H,I,q⟩
 |int i=>
  obtain ⟨t,rfl⟩:=rx
  have e':k=(i != 0):=e
  subst e'
  exact PySem.P.truthy_int ⟨H,I,q⟩
 |str y=>
  obtain ⟨t,rfl⟩:=rx
  obtain ⟨hy,e'⟩:y.length≤sizeLine∧k=((y.length:Int) != 0):=e
  subst e'
  exact PySem.P.truthy_str (by omega) ⟨H,I.tok _,q⟩
 |byt y=>
  obtain ⟨t,rfl⟩:=rx
  obtain ⟨hy,e'⟩:y.size≤sizeLine∧k=((y.size:Int) != 0):=e
  subst e'
  exact PySem.W.truthy_bytes (by omega) ⟨H,I.tok _,q⟩
 |ref p=>
  cases rx
  have e':(∃xs,SqL X.K H p xs∧k=!xs.isEmpty)∨(∃xs,SqT X.K H p xs∧k=!xs.isEmpty)∨∃kvs,H p=some (.dK kvs)∧k=!kvs.isEmpty:=e
  rcases e' with ⟨xs,hx,e'⟩|⟨xs,hx,e'⟩|⟨kvs,hx,e'⟩
  ·subst e'
   obtain ⟨its,r,pl,hz⟩:=I.list hx
   have hlen:=r.length
   exact wpAny_truthy_list pl.isList (by simp only [List.size_toArray];omega) ⟨H,I.tok _,by rw [isEmpty_of r];exact q⟩
  ·subst e'
   obtain ⟨its,r,pl,hz⟩:=I.tuple hx
   have hlen:=r.length
   exact truthy_tuple pl (by simp only [List.size_toArray];omega) ⟨H,I.tok _,by rw [isEmpty_of r];exact q⟩
  ·subst e'
   obtain ⟨hz,hS,vs,r,m⟩:kvs.length≤sizeLine∧(p == sysModules)=false∧∃vs,KV kvs vs∧s.heap.DictOf (mixKind X.prog X.w) p vs:=I.hok p _ hx
   have hlen:kvs.length=vs.length:=Paired.length r
   exact wpAny_truthy_dict hS m (by omega) ⟨H,I.tok _,by rw [isEmpty_kv r];exact q⟩
 |_=>exact (show False from e).elim
theorem pt_truth (ha:PE X a ta) (he:∀whole,isTrue a X.env whole=(do let v ←whole;standAt a.pos;holding [v] (truthy v))) :
  PT X a (fun σ H Q=>ta σ H fun x H'=>∃k,TruV X.K x H' k∧Q k H'):=by
 intro pins s σ H Q I h
 exact isTrue_plain (thn (ha pins s σ H _ I h) fun v s1 ⟨x,H1,I1,r1,q1⟩=>tru_ok pins s1 σ H1 x v Q I1 r1 q1) (he _)
theorem op_add_str:OpR X (binaryOp .Add) (fun x y H Q=>∃i j,x=.str i∧y=.str j∧i.length+j.length≤sizeLine∧Q (.str (i++j)) H):=by
 intro pins s σ H x y v u Q I rx ry h
 obtain ⟨i,j,rfl,rfl,hz,q⟩:=h
 obtain ⟨t,rfl⟩:=rx
 obtain ⟨t',rfl⟩:=ry
 exact add_str (fun t' tk=>⟨.str (i++j),H,I.tok _,⟨_,rfl⟩,q⟩) hz
def PlainIxT (b:Expr):Prop:=∀o i,subscripted b false o i=operate [o,i] (getItem o i)
theorem pe_item_str (ha:PE X a ta) (hb:PE X b tb) (hs:PlainIxT b) :
  PE X (.Subscript a b pos) (tOp (fun x y H Q=>∃z i c,x=.str z∧y=.int i∧0≤i∧i<2 ^ 63∧i<z.length∧z.cps[i.toNat]?=some c∧Q (.str ⟨#[c]⟩) H) ta tb):=by
 intro pins s σ H Q I h
 refine Subscript_ (binT ha hb I h fun v u s2 x y H2 I2 rx ry q=>?_)
 obtain ⟨z,i,c,rfl,rfl,h0,h63,h1,hc,q⟩:=q
 obtain ⟨t,rfl⟩:=rx
 obtain ⟨t',rfl⟩:=ry
 have e:seqIndex? i z.length=some i.toNat:=PySem.StrLaws.seqIndex_nonneg h0 h1
 exact tail_any (typeIs_str s2 z t) slot_str_getitem.lookup (getItem_str (c:=c) (by
  have e1:decide (i < -(2 ^ 63:Int))=false:=decide_eq_false (by omega)
  have e2:decide (i ≥ 2 ^ 63)=false:=decide_eq_false (by omega)
  rw [e1,e2] <;> rfl) (by rw [e];exact hc) ⟨.str ⟨#[c]⟩,H2,I2.tok _,⟨_,rfl⟩,q⟩) (hs _ _)
theorem vals1 {x:V} {us:List Value} (r:Vals [x] us):∃u,us=[u]∧RelV x u:=by
 cases r with
 |cons r1 r2=>cases r2;exact ⟨_,rfl,r1⟩
theorem vals2 {x y:V} {us:List Value} (r:Vals [x,y] us):∃u w',us=[u,w']∧RelV x u∧RelV y w':=by
 cases r with
 |cons r1 r2=>
  cases r2 with
  |cons r3 r4=>cases r4;exact ⟨_,_,rfl,r1,r3⟩
theorem call_abs:CallR X (.builtin "abs") (fun xs H Q=>∃i,xs=[.int i]∧Q (.int (if i<0 then -i else i)) H):=by
 intro pins s σ H xs us Q I r h
 obtain ⟨i,rfl,q⟩:=h
 obtain ⟨u,rfl,t,rfl⟩:=vals1 r
 exact call_abs_int fun u tk=>⟨.int (if i<0 then -i else i),H,I.tok _,⟨_,rfl⟩,q⟩
theorem call_int1:CallR X (.type "int") (fun xs H Q=>(∃i,xs=[.int i]∧Q (.int i) H)∨∃k,xs=[.bl k]∧Q (.int (if k then 1 else 0)) H):=by
 intro pins s σ H xs us Q I r h
 rcases h with ⟨i,rfl,q⟩|⟨k,rfl,q⟩
 ·obtain ⟨u,rfl,t,rfl⟩:=vals1 r
  exact call_int_int ⟨.int i,H,I,⟨_,rfl⟩,q⟩
 ·obtain ⟨u,rfl,r1⟩:=vals1 r
  cases r1
  exact call_int_bool ⟨.int (if k then 1 else 0),H,I.tok _,⟨_,rfl⟩,q⟩
end
section
variable {prog:Program} {w:World} {A:Around} {E:Value→Shared→Prop} {s:Shared} {K:PySem.W.Frag} {x dx C f:Addr} {mA:Str→Option Value} {name:Str} {v:Value}
end
theorem RelO.some_of {v:V} {o:Option Value} (r:RelO (some v) o):∃u,o=some u∧RelV v u:=by
 cases o with
 |none=>exact (show False from r).elim
 |some u=>exact ⟨u,rfl,r⟩
section
variable {P:Program} {w:World} {H H':Hp} {h h':Heap} {a C dx:Addr} {fs fs':List (Str × V)}
end
section
variable {X:Cx} {pins:List (Addr × Obj)} {σ:St} {H:Hp} {s:Shared} {a C dx:Addr} {fs:List (Str × V)} {f:Str} {v:V} {A:Around} {E:Value→Shared→Prop}
end
section
variable {X:Cx} {o e value:Expr} {f:Str} {pos pos' tpos:Pos} {ta tv:TE}
end
section
variable {X:Cx} {pins:List (Addr × Obj)} {σ:St} {H:Hp} {s:Shared} {A:Around} {E:Value→Shared→Prop} {Q:Value→Shared→Prop} {c:Value} {b:Bool}
end
structure Room (k:Nat) (A:Around):Prop where
 hd:A.handled=none
 dp:A.depth+3 * k+5<recursionLimit
 un:A.units+16 * k+200<cLine
theorem Room.mono {j k:Nat} {A:Around} (r:Room k A) (h:j≤k):Room j A:=⟨r.hd,by have:=r.dp;omega,by have:=r.un;omega⟩
theorem Room.deeper {k:Nat} {A:Around} (r:Room (k+1) A) (env:Env):Room k (A.deeper env):=
 ⟨r.hd,by have:=r.dp;show A.depth+1+3 * k+5<_;omega,by have:=r.un;show A.units+3+16 * k+200<_;omega⟩
theorem Room.depth {k:Nat} {A:Around} (r:Room k A):A.depth<recursionLimit:=by have:=r.dp;omega
theorem Room.units {k:Nat} {A:Around} (r:Room k A):A.units+64<cLine:=by have:=r.un;omega
def tNil:TA:=fun _ H Q=>Q [] H
def tCons (ta:TE) (tr:TA):TA:=fun σ H Q=>ta σ H fun x H1=>tr σ H1 fun xs H2=>Q (x::xs) H2
section
variable {X:Cx} {e:Expr} {es:List Expr} {te:TE} {t:TA} {pos:Pos}
theorem pa_nil:PA X [] tNil:=fun _ _ _ _ H Q I h=>Calls.spliced_nil ⟨[],H,I,.nil,h⟩
theorem pa_cons (ha:PE X e te) (hr:PA X es t) (hs:starEach (e::es) X.env=(false,eval e X.env)::starEach es X.env:=by rfl):PA X (e::es) (tCons te t):=by
 intro pos pins s σ H Q I h
 rw [hs]
 show wpAny _ _ (spliced ((false,eval e X.env)::backTo pos (starEach es X.env))) _ _ s
 refine Calls.spliced_cons (thn (ha pins s σ H _ I h) fun u s1 ⟨x,H1,I1,r1,q1⟩=>?_)
 exact thn (hr pos pins s1 σ H1 _ I1 q1) fun us s2 ⟨xs,H2,I2,r2,q2⟩=>⟨x::xs,H2,I2,.cons r1 r2,q2⟩
def tTup (t:TA):TE:=fun σ H Q=>t σ H fun xs H1=>xs.length≤sizeLine∧∀p,H1 p=none→Q (.ref p) (upd H1 p (.tup xs))
theorem pe_tup {x1} (h:PA X es t):PE X (.Tuple es x1 pos) (tTup t):=by
 intro pins s σ H Q I hq
 refine wpAny_Tuple_spliced (thn (h pos pins s σ H _ I hq) fun us s1 ⟨xs,H1,I1,r,z,q⟩=>⟨by rw [←r.length];exact z,?_⟩)
 have hf:H1 s1.heap.objs.size=none:=I1.hok.fresh (Nat.le_refl _)
 refine ⟨.ref s1.heap.objs.size,upd H1 s1.heap.objs.size (.tup xs),I1.laid (t':=s1.toks) (fun b u e=>Heap.get?_push_of_some _ e) (Nat.le_refl _) ?_,rfl,q _ hf⟩
 exact ⟨z,us,r,.of (Heap.get?_push_size _ rfl) rfl ⟨_,Heap.get?_push_size _ rfl,rfl,_,rfl⟩⟩
end
abbrev Sp:=List V→Hp→VK→XK→Prop
abbrev CXT:=List Env→Hp→Shared→XK→Value→Shared→Prop
structure Env0 (P:Program) (w:World) (K:PySem.W.Frag) (mg:Str→Option Value) (base:Heap) (A:Around) (outer:List Env) (s:Shared) (H:Hp):Prop where
 frames:A.frames=some outer
 mod:Mod K mg base
 bs:∀b o,base.get? b=some o→s.heap.get? b=some o∧H b=none
 bsz:base.objs.size≤s.heap.objs.size
 funs:s.heap.FunFrames base outer
 frf:∀b∈frs outer,H b=none
 hok:HOk P w H s.heap
 bare:AllBare s.gens
def CE (outer:List Env) (P:Program) (w:World) (H:Hp) (s:Shared) (Q:VK) (u:Value) (s':Shared):Prop:=
 ∃v H',s'.os=s.os∧AllBare s'.gens∧Un (frs outer) [] H H' s.heap s'.heap∧HOk P w H' s'.heap∧RelV v u∧Q v H'
def CR (CX:CXT) (outer:List Env) (P:Program) (w:World) (H:Hp) (s:Shared) (Q:VK) (E:XK) (r:Result) (s':Shared):Prop:=
 match r with
 |.ok (.ret u)=>CE outer P w H s Q u s'
 |.ok _=>False
 |.error e=>CX outer H s E e s'
structure FnOk (P:Program) (w:World) (K:PySem.W.Frag) (mg:Str→Option Value) (base:Heap) (CX:CXT) (k:Nat) (f:Addr) (fd:FuncData) (ps:List Str) (sp:Sp):Prop where
 len:∀vs H Q E,sp vs H Q E→vs.length=ps.length
 run:∀(A:Around) (outer:List Env) (s:Shared) (H:Hp) (args:Args) (us:List Value) (vs:List V) (Q:VK) (E:XK),Room k A→Env0 P w K mg base A outer s H→BindsTo s fd args (ps.zip us)→Vals vs us→sp vs H Q E →
  codeAny (model P w) A (.call (.ref f) args) (CR CX outer P w H s Q E) s
theorem FnOk.mono {P:Program} {w:World} {K:PySem.W.Frag} {mg:Str→Option Value} {base:Heap} {CX:CXT} {j k:Nat} {f:Addr} {fd:FuncData} {ps:List Str} {sp:Sp} (F:FnOk P w K mg base CX j f fd ps sp) (h:j≤k) :
  FnOk P w K mg base CX k f fd ps sp:=⟨F.len,fun A outer s H args us vs Q E hr=>F.run A outer s H args us vs Q E (hr.mono h)⟩
theorem FnOk.imp {P:Program} {w:World} {K:PySem.W.Frag} {mg:Str→Option Value} {base:Heap} {CX:CXT} {k:Nat} {f:Addr} {fd:FuncData} {ps:List Str} {sp sp':Sp} (F:FnOk P w K mg base CX k f fd ps sp)
  (h:∀vs H Q E,sp' vs H Q E→sp vs H Q E):FnOk P w K mg base CX k f fd ps sp':=
 ⟨fun vs H Q E q=>F.len vs H Q E (h _ _ _ _ q),fun A outer s H args us vs Q E hr he hb hv hs=>F.run A outer s H args us vs Q E hr he hb hv (h _ _ _ _ hs)⟩
section
variable {X:Cx} {pins:List (Addr × Obj)} {σ:St} {H:Hp} {s s':Shared}
theorem Inv.env0 (I:Inv X pins σ H s):Env0 X.prog X.w X.K X.mg X.base X.A X.stack s H:=
 ⟨I.ok.frames,I.ok.mod,I.bs,Nat.le_trans I.ok.bsz I.sz,I.stack,I.stkFree,I.hok,I.bare⟩
theorem Inv.after {Q:VK} {u:Value} (I:Inv X pins σ H s) (h:CE X.stack X.prog X.w H s Q u s'):EP X pins σ Q u s':=by
 obtain ⟨v,H',os,bare,un,hok,r,q⟩:=h
 obtain ⟨hh,g,d,t,os'⟩:=s'
 obtain rfl:os'=s.os:=os
 exact ⟨v,H',I.call (h':=hh) (g':=g) (d':=d) (t':=t) (ch:=[]) un hok bare (fun b z=>absurd z (by simp)),r,q⟩
end
def tCall (sp:Sp) (dvs:List V) (E:XK) (t:TA):TE:=fun σ H Q=>t σ H fun vs H1=>sp (vs++dvs) H1 Q E
def Binds (K:PySem.W.Frag) (fd:FuncData) (ps:List Str) (ds:List Value):Prop:=
 ∀(s:Shared) (us:List Value),K.In s.heap→(us++ds).length=ps.length→BindsTo s fd ⟨us,[]⟩ (ps.zip (us++ds))
theorem Binds.all {K:PySem.W.Frag} {fd:FuncData} {ps:List Str} (h:∀us:List Value,us.length=ps.length→bindArgs fd ⟨us,[]⟩=pure (ps.zip us)):Binds K fd ps []:=fun s us _ hl=>by
 rw [List.append_nil] at hl ⊢
 exact .of_eq (h us hl)
def Passes (CX:CXT) (X:Cx) (E:XK):Prop:=∀(pins:List (Addr × Obj)) (σ:St) (H:Hp) (s:Shared) (e:Value) (s':Shared),Inv X pins σ H s→CX X.stack H s E e s'→X.xe e s'
section
variable {X:Cx} {CX:CXT} {k:Nat} {f C:Addr} {fd:FuncData} {ps:List Str} {sp:Sp} {dvs:List V} {ds:List Value} {E:XK} {x m:Str} {p pos apos:Pos} {e o:Expr} {es:List Expr} {ta:TE} {t:TA}
theorem run_fn {pins:List (Addr × Obj)} {σ:St} {H:Hp} {s:Shared} {Q:VK} {us:List Value} {vs:List V} (F:FnOk X.prog X.w X.K X.mg X.base CX k f fd ps sp) (hr:Room k X.A) (hb:Binds X.K fd ps ds) (hd:Vals dvs ds) (hx:Passes CX X E)
  (I:Inv X pins σ H s) (r:Vals vs us) (h:sp (vs++dvs) H Q E):wpAny (model X.prog X.w) X.A (call (.ref f) us) (EP X pins σ Q) X.xe s:=by
 have r2:Vals (vs++dvs) (us++ds):=r.append hd
 have hl:(us++ds).length=ps.length:=by rw [←r2.length];exact F.len _ _ _ _ h
 refine wpAny_call (codeAny_mono (F.run X.A X.stack s H ⟨us,[]⟩ (us++ds) (vs++dvs) Q E hr I.env0 (hb s us I.kIn hl) r2 h) fun r s' hq=>?_)
 cases r with
 |error e=>exact hx pins σ H s e s' I hq
 |ok fl=>
  cases fl with
  |ret u=>exact I.after hq
  |next=>exact False.elim hq
  |brk=>exact False.elim hq
  |cont=>exact False.elim hq
theorem pe_call (F:FnOk X.prog X.w X.K X.mg X.base CX k f fd ps sp) (hr:Room k X.A) (hg:Gl X x) (hm:X.mg x=some (.ref f)) (hk:PySem.W.keepIn X.K (.ref f)=true) (hb:Binds X.K fd ps ds) (hd:Vals dvs ds) (hx:Passes CX X E)
  (ha:PA X (e::es) t) (hdb:(x == ("__debug__":Str))=false:=by decide) (he:starEach (e::es) X.env=(false,eval e X.env)::starEach es X.env:=by rfl) (hpl:(backTo pos (starEach es X.env)).any (·.1)=false:=by rfl) :
  PE X (.Call (.Name x p) (e::es) [] pos) (tCall sp dvs E t):=by
 intro pins s σ H Q I h
 refine wpAny_Call_Name_kw (ld_glob I hg hm ?_ hdb)
 refine PySem.W.callWith_K (h₀:=X.base) I.ok.mod.kin hk (thn (ha pos pins s σ H _ I h) fun us s1 ⟨vs,H1,I1,r,q⟩=>⟨I1.kIn,?_⟩) he hpl
 exact run_fn F hr hb hd hx I1 r q
theorem pe_call0 (F:FnOk X.prog X.w X.K X.mg X.base CX k f fd ps sp) (hr:Room k X.A) (hg:Gl X x) (hm:X.mg x=some (.ref f)) (hk:PySem.W.keepIn X.K (.ref f)=true) (hb:Binds X.K fd ps ds) (hd:Vals dvs ds) (hx:Passes CX X E)
  (hdb:(x == ("__debug__":Str))=false:=by decide):PE X (.Call (.Name x p) [] [] pos) (tCall sp dvs E tNil):=by
 intro pins s σ H Q I h
 refine wpAny_Call_Name_kw (ld_glob I hg hm ?_ hdb)
 exact PySem.W.callWith_K0 I.kIn hk (run_fn (us:=[]) F hr hb hd hx I .nil h)
end
section
variable {X:Cx} {CX:CXT} {k:Nat} {f C:Addr} {fd:FuncData} {ps ks:List Str} {sp:Sp} {E:XK} {x m:Str} {p pos apos kpos:Pos} {e o:Expr} {es:List Expr} {kws:List Keyword} {te ta:TE} {t tk:TA} {nm:Option Str}
variable {g:List Value→List Value→List Value} {gV:List V→List V→List V}
end
structure FnScope (N P:List Str) (sc:Scope):Prop where
 kind:sc.kind=.function
 co:sc.isCoroutine=false
 gen:sc.isGenerator=false
 nd:N.Nodup
 pre:N.take P.length=P
 par:∀x∈P,sc.names.lookup x=some .local∨sc.names.lookup x=some .cell
 nofree:∀y∈sc.names,y.2≠.free
theorem bindL_out {kindOf:Str→Option NameKind} {x:Str}:∀{binds:List (Str × Value)} {m:Str→Option Value},(∀v,(x,v)∉binds)→bindL kindOf binds m x=m x
 |[],_,_=>rfl
 |(n,v)::r,m,h=>by
  unfold bindL
  rw [bindL_out fun w hw=>h w (List.mem_cons_of_mem _ hw)]
  split
  ·have:x≠n:=by rintro rfl;exact h v List.mem_cons_self
   simp [this]
  ·rfl
theorem bindC_out {kindOf:Str→Option NameKind} {x:Str}:∀{binds:List (Str × Value)} {m:Str→Option Value},(∀v,(x,v)∉binds)→bindC kindOf binds m x=m x
 |[],_,_=>rfl
 |(n,v)::r,m,h=>by
  unfold bindC
  rw [bindC_out fun w hw=>h w (List.mem_cons_of_mem _ hw)]
  split
  ·rfl
  ·have:x≠n:=by rintro rfl;exact h v List.mem_cons_self
   simp [this]
theorem bindL_get {kindOf:Str→Option NameKind} {x:Str} {v:Value}:∀{P:List Str} {vs:List Value} {i:Nat} {m:Str→Option Value},P.Nodup→P[i]?=some x→vs[i]?=some v→kindOf x=some .local →
  bindL kindOf (P.zip vs) m x=some v
 |[],_,_,_,_,h,_,_=>by simp at h
 |_::_,[],_,_,_,_,h,_=>by simp at h
 |p::P,w::vs,0,m,nd,h1,h2,hk=>by
  simp at h1 h2;subst h1;subst h2
  show bindL kindOf ((p,w)::P.zip vs) m p=_
  unfold bindL
  rw [bindL_out fun v hv=>(List.nodup_cons.mp nd).1 (List.of_mem_zip hv).1,if_pos hk]
  simp
 |p::P,w::vs,i+1,m,nd,h1,h2,hk=>by
  show bindL kindOf ((p,w)::P.zip vs) m x=_
  unfold bindL
  exact bindL_get (i:=i) (List.nodup_cons.mp nd).2 (by simpa using h1) (by simpa using h2) hk
theorem bindC_get {kindOf:Str→Option NameKind} {x:Str} {v:Value}:∀{P:List Str} {vs:List Value} {i:Nat} {m:Str→Option Value},P.Nodup→P[i]?=some x→vs[i]?=some v→kindOf x≠some .local →
  bindC kindOf (P.zip vs) m x=some v
 |[],_,_,_,_,h,_,_=>by simp at h
 |_::_,[],_,_,_,_,h,_=>by simp at h
 |p::P,w::vs,0,m,nd,h1,h2,hk=>by
  simp at h1 h2;subst h1;subst h2
  show bindC kindOf ((p,w)::P.zip vs) m p=_
  unfold bindC
  rw [bindC_out fun v hv=>(List.nodup_cons.mp nd).1 (List.of_mem_zip hv).1,if_neg hk]
  simp
 |p::P,w::vs,i+1,m,nd,h1,h2,hk=>by
  show bindC kindOf ((p,w)::P.zip vs) m x=_
  unfold bindC
  exact bindC_get (i:=i) (List.nodup_cons.mp nd).2 (by simpa using h1) (by simpa using h2) hk
def start (N:List Str) (vs:List V):St:=vs.map some++List.replicate (N.length - vs.length) none
def cxOf (CX:CXT) (P:Program) (w:World) (K:PySem.W.Frag) (mg:Str→Option Value) (base:Heap) (N:List Str) (qual:Str) (scope:Scope) (f:Addr) (cd:Value) (A:Around) (outer:List Env) (s:Shared) (H:Hp) (E:XK):Cx where
 prog:=P
 w:=w
 K:=K
 mg:=mg
 base:=base
 A:=A.deeper (envOfC qual scope s.heap.objs.size f cd)
 N:=N
 s₀:=s
 H₀:=H
 env:=envOfC qual scope s.heap.objs.size f cd
 outer:=outer
 stack:=envOfC qual scope s.heap.objs.size f cd::outer
 ex:=[]
 calm:=true
 fn:=fun _=>true
 pn:=[]
 xe:=fun e s'=>wpAny (model P w) (A.deeper (envOfC qual scope s.heap.objs.size f cd)) (leaving (envOfC qual scope s.heap.objs.size f cd) e) (fun _ s''=>CX outer H s E e s'') (fun e' s''=>CX outer H s E e' s'') s'
theorem cell_has {sc:Scope} {n:Nat} {x:Str} (h:sc.names.lookup x=some .cell):∃c,(cellsFrom n sc.names []).lookup x=some c:=by
 have q:=PySem.W.cellsFrom_some sc.names n [] (.inl h)
 exact Option.isSome_iff_exists.mp q
theorem inv_start {CX:CXT} {P:Program} {w:World} {K:PySem.W.Frag} {mg:Str→Option Value} {base:Heap} {N ps:List Str} {qual:Str} {scope:Scope} {f:Addr} {cd:Value} {A:Around} {outer:List Env} {s s1:Shared} {H:Hp} {E:XK} {us:List Value} {vs:List V}
  (S:FnScope N ps scope) (hd:A.handled=none) (e0:Env0 P w K mg base A outer s H) (hl:vs.length=ps.length) (r:Vals vs us)
  (x:InCallC s s.heap.objs.size (bindL (envOfC qual scope s.heap.objs.size f cd).kindOf (ps.zip us) fun _=>none) (cellsFrom (s.heap.objs.size+1) scope.names []) (bindC (envOfC qual scope s.heap.objs.size f cd).kindOf (ps.zip us) fun _=>none) s1) :
  Inv (cxOf CX P w K mg base N qual scope f cd A outer s H E) [] (start N vs) H s1:=by
 have hpl:ps.length≤N.length:=by have:=congrArg List.length S.pre;rw [List.length_take] at this;omega
 obtain ⟨h1,tk,rfl,hk⟩:=x.done
 have noA:∀b:Addr,b∉(cxOf CX P w K mg base N qual scope f cd A outer s H E).ex:=fun b z=>absurd (show b∈([]:List Addr) from z) (by simp)
 refine ⟨⟨e0.mod,S.kind,rfl,rfl,Nat.le_refl _,fun y z c h1 h2=>?_,fun y hy=>?_,fun y c _ h=>?_,fun _=>hd,Around.frames_deeper e0.frames,.inr ⟨rfl,rfl⟩,fun b z=>absurd z (noA b),e0.bs,e0.bsz,fun b _ _=>noA b,fun b z=>absurd z (noA b),e0.funs,e0.frf⟩,
  rfl,e0.bare,Un.kept hk,⟨_,x.toInCall.ns,fun i y v h1 h2 h3=>?_⟩,fun y c h=>⟨_,x.cell y c h⟩,e0.hok.fresh (Nat.le_refl _),fun y c h=>?_,fun p hp=>absurd (show p∈([]:List (Addr × Obj)) from hp) (by simp),e0.hok.kept hk,?_⟩
 ·exact name_of_addr x.apart (PySem.mem_of_lookup h1) (PySem.mem_of_lookup h2)
 ·have hy:scope.names.lookup y=some .cell∨scope.names.lookup y=some .free:=hy
  rcases hy with hy|hy
  ·exact cell_has hy
  ·exact absurd rfl (S.nofree _ (PySem.mem_of_lookup hy))
 ·exact Nat.le_of_lt (x.above y c (PySem.mem_of_lookup h))
 ·have hi:i<vs.length:=by
   unfold start at h2
   by_cases hi:i<vs.length
   ·exact hi
   ·rw [List.getElem?_append_right (by simpa using hi)] at h2
    rw [List.getElem?_replicate] at h2
    split at h2 <;> cases h2
  have ha:vs[i]?=some v:=by
   unfold start at h2
   rw [List.getElem?_append_left (by simpa using hi),List.getElem?_map] at h2
   cases e:vs[i]? with
   |none=>rw [e] at h2;cases h2
   |some a=>rw [e] at h2;cases h2;rfl
  obtain ⟨u,hu,rv⟩:=r.get ha
  have hp:ps[i]?=some y:=by
   rw [←S.pre,List.getElem?_take_of_lt (by omega)];exact h1
  have ndP:ps.Nodup:=by rw [←S.pre];exact S.nd.sublist (List.take_sublist _ _)
  refine ⟨u,rv,?_⟩
  rcases S.par y (List.mem_of_getElem? hp) with k|k
  ·exact .inl ⟨k,bindL_get ndP hp hu k⟩
  ·obtain ⟨c,e⟩:=cell_has (n:=s.heap.objs.size+1) k
   refine .inr ⟨.inl k,c,e,?_⟩
   have q:=x.cell y c e
   rw [bindC_get ndP hp hu (by show scope.names.lookup y≠_;rw [k];decide)] at q
   exact q
 ·exact e0.hok.fresh (Nat.le_of_lt (x.above y c (PySem.mem_of_lookup h)))
 ·unfold start
  show _=N.length
  rw [List.length_append,List.length_map,List.length_replicate]
  omega
theorem fn_of {CX:CXT} {P:Program} {w:World} {K:PySem.W.Frag} {mg:Str→Option Value} {base:Heap} {k:Nat} {f:Addr} {name qual:Str} {params:Arguments} {body:List Stmt} {scope:Scope} {dV kV doc pm cdv ct oc:Value} {an od:Option Addr}
  {osl:Array (Option Value)} {N ps:List Str} {sp:Sp} (lk:K.lookup f=some ⟨oc,od,.func (PySem.W.fnOf name qual params body scope dV kV doc pm an cdv ct),osl⟩) (hcd:PySem.W.codeIn K cdv qual=true) (S:FnScope N ps scope)
  (len:∀vs H Q E,sp vs H Q E→vs.length=ps.length)
  (hbody:∀(A:Around) (outer:List Env) (s:Shared) (H:Hp) (vs:List V) (Q:VK) (E:XK),Room k (A.deeper (envOfC qual scope s.heap.objs.size f cdv))→sp vs H Q E →
   ∃t,PSs (cxOf CX P w K mg base N qual scope f cdv A outer s H E) body t∧t { nx:=fun _ H'=>Q .non H',rt:=Q } (start N vs) H) :
  FnOk P w K mg base CX (k+1) f (PySem.W.fnOf name qual params body scope dV kV doc pm an cdv ct) ps sp:=by
 refine ⟨len,fun A outer s H args us vs Q E hr e0 hb r hsp=>?_⟩
 have hl:=len _ _ _ _ hsp
 have KX:K.In s.heap:=e0.mod.kin.keeps fun b o e=>(e0.bs b o e).1
 have lim:s.heap.NoLimit:=e0.mod.nolimit.keeps fun b o e=>(e0.bs b o e).1
 have hkind:∀y∈ps.zip us,scope.names.lookup y.1=some .local∨(scope.names.lookup y.1=some .cell∧((cellsFrom (s.heap.objs.size+1) scope.names []).lookup y.1).isSome=true):=fun ⟨n,v⟩ hy=>by
  rcases S.par n (List.of_mem_zip hy).1 with q|q
  ·exact .inl q
  ·exact .inr ⟨q,PySem.W.cellsFrom_some _ _ _ (.inl q)⟩
 refine codeAny_call_function hr.depth (KX _ _ lk) rfl S.co S.gen rfl (PySem.W.codeRec_of KX hcd) (hb _ _ _ _ ?_)
 refine wpAny_newFunctionEnv_cells S.kind hkind fun env he s1 x=>?_
 subst he
 refine ⟨lim.keeps x.toInCall.keep,codeAny_func ?_⟩
 obtain ⟨t,ht,hq⟩:=hbody A outer s H vs Q E (hr.deeper _) hsp
 have I:Inv (cxOf CX P w K mg base N qual scope f cdv A outer s H E) [] (start N vs) H s1:=inv_start S hr.hd e0 hl r x
 refine wpAny_mono (ht [] s1 (start N vs) H _ I hq) (fun fl s' hs=>?_) fun e s' hs=>hs
 have fin:∀{σ':St} {H':Hp} {v:V} {u:Value},Inv (cxOf CX P w K mg base N qual scope f cdv A outer s H E) [] σ' H' s'→RelV v u→Q v H'→CE outer P w H s Q u s':=
  fun {σ' H' v u} J rv q=>⟨v,H',J.os,J.bare,J.base,J.hok,rv,q⟩
 cases fl with
 |ret u=>
  obtain ⟨v,σ',H',J,rv,q⟩:=hs
  exact fin J rv q
 |next=>
  obtain ⟨σ',H',J,q⟩:=hs
  exact fin (v:=V.non) (u:=Value.none) J rfl q
 |brk=>
  obtain ⟨_,_,_,q⟩:=hs
  exact False.elim q
 |cont=>
  obtain ⟨_,_,_,q⟩:=hs
  exact False.elim q
section
variable {X:Cx} {x:Str} {p pos:Pos} {e:Expr} {es:List Expr} {t:TA} {id T:String} {r:List V→Hp→VK→Prop}
def tCB (r:List V→Hp→VK→Prop) (t:TA):TE:=fun σ H Q=>t σ H fun vs H1=>r vs H1 Q
theorem pe_callB (hc:CallR X (.builtin id) r) (hg:Gl X x) (hm:X.mg x=none) (hv:bootBuiltins x=some (.builtin id)) (ha:PA X (e::es) t) (hn:x≠"__name__":=by decide) (hdb:(x == ("__debug__":Str))=false:=by decide)
  (he:starEach (e::es) X.env=(false,eval e X.env)::starEach es X.env:=by rfl) (hpl:(backTo pos (starEach es X.env)).any (·.1)=false:=by rfl):PE X (.Call (.Name x p) (e::es) [] pos) (tCB r t):=by
 intro pins s σ H Q I h
 refine wpAny_Call_Name_kw (ld_blt I hg hm hv ?_ hn hdb)
 exact PyProof.Rows.callWith_builtin1 (thn (ha pos pins s σ H _ I h) fun us s1 ⟨vs,H1,I1,r1,q1⟩=>hc pins s1 σ H1 vs us Q I1 r1 q1) he hpl
theorem pe_callTy (hc:CallR X (.type T) r) (hg:Gl X x) (hm:X.mg x=none) (hv:bootBuiltins x=some (.type T)) (ha:PA X (e::es) t) (hn:x≠"__name__":=by decide) (hdb:(x == ("__debug__":Str))=false:=by decide)
  (he:starEach (e::es) X.env=(false,eval e X.env)::starEach es X.env:=by rfl) (hpl:(backTo pos (starEach es X.env)).any (·.1)=false:=by rfl):PE X (.Call (.Name x p) (e::es) [] pos) (tCB r t):=by
 intro pins s σ H Q I h
 refine wpAny_Call_Name_kw (ld_blt I hg hm hv ?_ hn hdb)
 exact PyProof.Rows.callWith_type1 (thn (ha pos pins s σ H _ I h) fun us s1 ⟨vs,H1,I1,r1,q1⟩=>hc pins s1 σ H1 vs us Q I1 r1 q1) he hpl
end
end L2
namespace HT
open PySem PyProof.Rows
section
open PySem.SeqAt
open PySem.AutoSeq1 (wpAny_loadPart')
open PySem.MeetsSeq PySem.MeetsSeq2 PySem.MeetsSeq3
end
section
variable {prog:Program} {w:World} {A:Around} {E:Value→Shared→Prop} {s:Shared}
theorem cat_tup {t b:Addr} {vs ws:List Value} {Q:Value→Shared→Prop} (ht:IsTup s.heap t vs.toArray) (hb:IsTup s.heap b ws.toArray) (hv:vs≠[])
  (h1:ws=[]→Q (.ref t) s) (h2:ws≠[]→Q (.ref s.heap.objs.size) { s with heap:=s.heap.push { cls:=.type "tuple",data:=.seq (vs++ws).toArray } })
  (hsz:vs.length+ws.length≤sizeLine):wpAny (model prog w) A (binaryOp .Add (.ref t) (.ref b)) Q E s:=by
 obtain ⟨⟨cls,dd,data,sl⟩,ho,hc,n,hd⟩:=id ht
 obtain ⟨⟨cls2,dd2,data2,sl2⟩,ho2,hc2,n2,hd2⟩:=id hb
 simp only at hc hd hc2 hd2
 subst hc hd hc2 hd2
 have e:vs.toArray++ws.toArray=(vs++ws).toArray:=by simp
 by_cases hw:ws=[]
 ·exact concat_meets ⟨_,ho,rfl⟩ ⟨_,ho2,rfl⟩ noFill_tuple_add seq_tuple_add PySem.F.slot_tuple_add PySem.F.entry_tuple_add (PySem.F.args_tuple_add_2 _ _)
   (tuple_addW1 t b vs.toArray ws.toArray n n2 dd dd2 sl sl2 (by simpa using hv) (by simp [hw])) ⟨ho,ho2,h1 hw⟩
 ·refine concat_meets ⟨_,ho,rfl⟩ ⟨_,ho2,rfl⟩ noFill_tuple_add seq_tuple_add PySem.F.slot_tuple_add PySem.F.entry_tuple_add (PySem.F.args_tuple_add_2 _ _)
   (tuple_addW2 t b vs.toArray ws.toArray n n2 dd dd2 sl sl2 (by simpa using hv) (by simpa using hw) (by rw [List.size_toArray,List.size_toArray];exact hsz)) ⟨ho,ho2,?_⟩
  rw [e]
  exact h2 hw
def sIx (n d:Nat):Option Int→Nat
 |none=>d
 |some v=>if v<0 then (v+(n:Int)).toNat else min v.toNat n
theorem sIx_none (n d:Nat):sIx n d none=d:=rfl
theorem sIx_nat (n d k:Nat):sIx n d (some (k:Int))=min k n:=by
 show (if (k:Int)<0 then ((k:Int)+(n:Int)).toNat else min (k:Int).toNat n)=min k n
 rw [if_neg (by omega),Int.toNat_natCast]
theorem sIx_le (n d:Nat) (hd:d≤n) (o:Option Int):sIx n d o≤n:=by
 cases o with
 |none=>exact hd
 |some v=>
  show (if v<0 then (v+(n:Int)).toNat else min v.toNat n)≤n
  by_cases hv:v<0
  ·rw [if_pos hv];omega
  ·rw [if_neg hv];exact Nat.min_le_right _ _
theorem clip_eq (v:Int) (n d:Nat):(if v<0 then max (v+(n:Int)) 0 else min v (n:Int))=((sIx n d (some v):Nat):Int):=by
 show (if v<0 then max (v+(n:Int)) 0 else min v (n:Int))=(((if v<0 then (v+(n:Int)).toNat else min v.toNat n):Nat):Int)
 by_cases hv:v<0
 ·simp only [if_pos hv];omega
 ·simp only [if_neg hv];omega
theorem adjust_gen (lo hi:Option Int) (n:Nat):Builtin.Slice.sliceAdjust lo hi 1 (n:Int)=(((sIx n 0 lo:Nat):Int),((sIx n n hi:Nat):Int)):=by
 have h1:¬ ((1:Int)<0):=by omega
 unfold Builtin.Slice.sliceAdjust
 simp only [h1,if_false]
 refine Prod.ext ?_ ?_
 ·cases lo with
  |none=>rfl
  |some v=>exact clip_eq v n 0
 ·cases hi with
  |none=>rfl
  |some v=>exact clip_eq v n n
theorem places_gen (i j:Nat):Builtin.Slice.slicePlaces (i:Int) (j:Int) 1=j - i:=by
 unfold Builtin.Slice.slicePlaces
 have h1:(1:Int) > 0:=by omega
 simp only [h1,if_true,Int.ediv_one]
 split <;> omega
theorem slicePart_ {v:Value} {o:Option Int} {Q:Option Int→Shared→Prop} (p:IsPart v o) (h:Q o s):wpAny (model prog w) A (Builtin.Slice.slicePartIndex v) Q E s:=by
 cases p with
 |none=>exact slicePart_none h
 |int i t=>exact slicePart_int h
theorem sliceApplied_gen {sl:Addr} {vl vu:Value} {lo hi:Option Int} {n:Nat} {Q:Int × Int × Nat→Shared→Prop} (hs:s.heap.IsSliceOf sl vl vu .none) (pl:IsPart vl lo) (pu:IsPart vu hi)
  (h:Q (((sIx n 0 lo:Nat):Int),1,sIx n n hi - sIx n 0 lo) s):wpAny (model prog w) A (Builtin.Slice.sliceApplied (.ref sl) (pure (n:Int))) Q E s:=by
 obtain ⟨os,hos,hcs,hds⟩:=id hs
 unfold Builtin.Slice.sliceApplied Builtin.Slice.sliceFields
 refine wpAny_bind (wpAny_bind (wpAny_field hos hds (x:=vl) rfl (wpAny_bind (wpAny_field hos hds (x:=vu) rfl (wpAny_bind (wpAny_field hos hds (x:=.none) rfl (wpAny_pure ?_)))))))
 refine wpAny_bind (slicePart_none ?_)
 show wpAny _ _ (if ((1:Int) == 0)=true then _ else _) _ _ s
 rw [if_neg (by decide)]
 refine wpAny_bind (slicePart_ pl (wpAny_bind (slicePart_ pu (wpAny_bind (wpAny_pure ?_)))))
 show wpAny _ _ (match Builtin.Slice.sliceAdjust lo hi 1 (n:Int) with|(lo,hi)=>pure (lo,(1:Int),Builtin.Slice.slicePlaces lo hi 1)) _ _ s
 rw [adjust_gen lo hi n]
 show wpAny _ _ (pure (((sIx n 0 lo:Nat):Int),(1:Int),Builtin.Slice.slicePlaces ((sIx n 0 lo:Nat):Int) ((sIx n n hi:Nat):Int) 1)) _ _ s
 rw [places_gen]
 exact wpAny_pure h
theorem pick_gen (xs:Array Value) (i k:Nat):((List.range k).filterMap fun (m:Nat)=>xs[((i:Int)+(m:Int) * 1).toNat]?).toArray=((xs.toList.drop i).take k).toArray:=by
 have e:(fun (m:Nat)=>xs[((i:Int)+(m:Int) * 1).toNat]?)=fun m=>xs[i+m]?:=by
  funext m
  have:((i:Int)+(m:Int) * 1).toNat=i+m:=by omega
  rw [this]
 rw [e]
 have:=pick_run xs i k
 rw [List.filterMap_map] at this
 have e2:((fun x=>xs[x]?) ∘ fun x=>i+x)=fun m=>xs[i+m]?:=rfl
 rw [e2] at this
 rw [this]
theorem getItem_tuple_cut {t sl:Addr} {items:Array Value} {vl vu:Value} {lo hi:Option Int} {Q:Value→Shared→Prop} (ht:IsTup s.heap t items) (hs:s.heap.IsSliceOf sl vl vu .none) (pl:IsPart vl lo) (pu:IsPart vu hi)
  (hw:¬ (sIx items.size 0 lo=0∧sIx items.size items.size hi=items.size))
  (h:Q (.ref s.heap.objs.size) { s with heap:=s.heap.push { cls:=.type "tuple",data:=.seq ((items.toList.drop (sIx items.size 0 lo)).take (sIx items.size items.size hi - sIx items.size 0 lo)).toArray } })
  (hsz:items.size≤sizeLine):wpAny (model prog w) A (getItem (.ref t) (.ref sl)) Q E s:=by
 have htake:sizeOk (.seq ((items.toList.drop (sIx items.size 0 lo)).take (sIx items.size items.size hi - sIx items.size 0 lo)).toArray):=by
  show ((items.toList.drop (sIx items.size 0 lo)).take (sIx items.size items.size hi - sIx items.size 0 lo)).toArray.size≤sizeLine
  rw [List.size_toArray,List.length_take,List.length_drop,Array.length_toList]
  omega
 have hj:sIx items.size items.size hi≤items.size:=sIx_le _ _ (Nat.le_refl _) hi
 obtain ⟨os,hos,hcs,hds⟩:=id hs
 have hTs:s.TypeIs (.ref sl) "slice":=⟨os,hos,hcs⟩
 unfold getItem
 try with_reducible refine wpAny_holding ?_
 first|refine wpAny_bind (wpAny_pure ?_)|skip
 refine wpAny_bind (wpAny_sequenceKey ht.typeIs (by decide) ?_)
 refine wpAny_bind (wpAny_callSpecial?_slot (name:=Str.ofString "__getitem__") ht.typeIs PyProof.Rows.slot_tuple_getitem
  (wpAny_call_entry PyProof.Rows.slot_tuple_getitem ht.typeIs entry_tuple_getitem ?_ (args_tuple_getitem _ _)))
 show wpAny _ _ (Builtin.Tuple.tupleItemsOf (.ref t) >>= _) _ _ s
 refine wpAny_bind (tupleItemsOf_ ht ?_)
 refine wpAny_bind (wpAny_typeOf hTs ?_)
 rw [if_pos (by decide)]
 refine wpAny_bind (sliceApplied_gen hs pl pu ?_)
 have hno:¬ ((((sIx items.size 0 lo:Nat):Int) == 0 && (1:Int) == 1 && (sIx items.size items.size hi - sIx items.size 0 lo) == items.size)=true):=by
  intro q
  rw [Bool.and_eq_true,Bool.and_eq_true] at q
  have q1:((sIx items.size 0 lo:Nat):Int)=0:=eq_of_beq q.1.1
  have q2:sIx items.size items.size hi - sIx items.size 0 lo=items.size:=eq_of_beq q.2
  exact hw ⟨by omega,by omega⟩
 show wpAny _ _ (if (((sIx items.size 0 lo:Nat):Int) == 0 && (1:Int) == 1 && (sIx items.size items.size hi - sIx items.size 0 lo) == items.size)=true then _ else _) _ _ s
 rw [if_neg hno,pick_gen]
 first
  |exact wpAny_bind (m:=Builtin.Tuple.tupleExact _) (wpAny_newObj_type (wpAny_pure ⟨_,rfl,wpAny_pure h⟩) htake)
  |exact wpAny_bind (m:=Builtin.Tuple.tupleExact _) (wpAny_newObj_type (wpAny_bind (wpAny_pure (wpAny_pure ⟨_,rfl,wpAny_pure h⟩))) htake)
  |exact wpAny_bind (wpAny_bind (m:=Builtin.Tuple.tupleExact _) (wpAny_newObj_type (wpAny_pure (wpAny_pure ⟨_,rfl,wpAny_pure h⟩)) htake))
  |exact wpAny_bind (wpAny_bind (m:=Builtin.Tuple.tupleExact _) (wpAny_newObj_type (wpAny_pure ⟨_,rfl,wpAny_pure h⟩) htake))
end
end HT
namespace L2
open PySem PySem.Spec PyProof.Rows
abbrev TO:=St→Hp→(Option Int→Hp→Prop)→Prop
def PO (X:Cx) (e:Option Expr) (t:TO):Prop:=
 ∀(pins:List (Addr × Obj)) (s:Shared) (σ:St) (H:Hp) (Q:Option Int→Hp→Prop),Inv X pins σ H s→t σ H Q →
  wpAny (model X.prog X.w) X.A (evalPart e X.env) (fun u s'=>∃o H',Inv X pins σ H' s'∧IsPart u o∧Q o H') X.xe s
def tNoPart:TO:=fun _ H Q=>Q none H
def tPart (t:TE):TO:=fun σ H Q=>t σ H fun x H1=>∃i,x=.int i∧Q (some i) H1
section
variable {X:Cx} {e:Expr} {te:TE} {lo hi:Option Expr} {tl th:TO} {pos p2:Pos}
theorem po_none:PO X none tNoPart:=by
 intro pins s σ H Q I h
 rw [evalPart_none]
 exact wpAny_pure ⟨none,H,I,.none,h⟩
theorem po_some (h:PE X e te):PO X (some e) (tPart te):=by
 intro pins s σ H Q I hw
 rw [evalPart_some]
 refine thn (h pins s σ H _ I hw) fun u s1 ⟨x,H1,I1,r1,q1⟩=>?_
 obtain ⟨i,rfl,q⟩:=q1
 obtain ⟨t,rfl⟩:=r1
 exact ⟨some i,H1,I1,.int i t,q⟩
def SlR (X:Cx) (r:V→Option Int→Option Int→Hp→VK→Prop):Prop:=
 ∀(pins:List (Addr × Obj)) (s:Shared) (σ:St) (H:Hp) (x:V) (v vl vu:Value) (lo hi:Option Int) (sl:Addr) (Q:VK),Inv X pins σ H s→RelV x v→s.heap.IsSliceOf sl vl vu .none→IsPart vl lo→IsPart vu hi→r x lo hi H Q →
  ∃T id,typeLookup (.type T) "__getitem__"=pure (some (.builtin id))∧s.TypeIs v T∧wpAny (model X.prog X.w) X.A (getItem v (.ref sl)) (EP X pins σ Q) X.xe s
def tSl (r:V→Option Int→Option Int→Hp→VK→Prop) (te:TE) (tl th:TO):TE:=fun σ H Q=>te σ H fun x H1=>tl σ H1 fun l H2=>th σ H2 fun u H3=>r x l u H3 Q
theorem pe_slice {r:V→Option Int→Option Int→Hp→VK→Prop} (hr:SlR X r) (he:PE X e te) (hl:PO X lo tl) (hu:PO X hi th):PE X (.Subscript e (.Slice lo hi none p2) pos) (tSl r te tl th):=by
 intro pins s σ H Q I h
 refine Subscript_ (thn (he pins s σ H _ I h) fun v s1 ⟨x,H1,I1,r1,q1⟩=>?_)
 refine wpAny_Slice (thn (hl pins s1 σ H1 _ I1 q1) fun vl s2 ⟨l,H2,I2,pl,q2⟩=>thn (hu pins s2 σ H2 _ I2 q2) fun vu s3 ⟨u,H3,I3,pu,q3⟩=>?_)
 rw [evalPart_none]
 refine wpAny_pure ?_
 have I4:Inv X pins σ H3 { s3 with heap:=s3.heap.push { cls:=.type "slice",data:=.fields #[vl,vu,.none] } }:=I3.kept (t':=s3.toks) fun b ob q=>Heap.get?_push_of_some _ q
 obtain ⟨T,id,hT,ht,hg⟩:=hr pins { s3 with heap:=s3.heap.push { cls:=.type "slice",data:=.fields #[vl,vu,.none] } } σ H3 x v vl vu l u s3.heap.objs.size Q I4 r1 (Heap.IsSliceOf.new ..) pl pu q3
 show wpAny (model X.prog X.w) X.A (subscriptTail e (.Slice lo hi none p2) v (.ref s3.heap.objs.size)) (EP X pins σ Q) X.xe { s3 with heap:=s3.heap.push { cls:=.type "slice",data:=.fields #[vl,vu,.none] } }
 exact tail_any (ops:=[.ref s3.heap.objs.size,v]) ht hT hg (by with_unfolding_all rfl)
def cutV (xs:List V) (lo hi:Option Int):List V:=(xs.drop (HT.sIx xs.length 0 lo)).take (HT.sIx xs.length xs.length hi - HT.sIx xs.length 0 lo)
theorem cutV_length (xs:List V) (lo hi:Option Int):(cutV xs lo hi).length≤xs.length:=by
 unfold cutV
 rw [List.length_take,List.length_drop]
 omega
def rSlT (K:PySem.W.Frag):V→Option Int→Option Int→Hp→VK→Prop:=fun x lo hi H Q=>∃a xs,x=.ref a∧SqT K H a xs ∧
 ¬ (HT.sIx xs.length 0 lo=0∧HT.sIx xs.length xs.length hi=xs.length)∧∀p,H p=none→Q (.ref p) (upd H p (.tup (cutV xs lo hi)))
theorem sl_tup:SlR X (rSlT X.K):=by
 intro pins s σ H x v vl vu lo hi sl Q I rx hs pl pu h
 obtain ⟨a,xs,rfl,hx,hw,q⟩:=h
 cases rx
 obtain ⟨its,r,ht,hz⟩:=I.tuple hx
 have hlen:its.toArray.size=xs.length:=by rw [List.size_toArray];exact r.length.symm
 refine ⟨"tuple",_,PyProof.Rows.slot_tuple_getitem.lookup,ht.typeIs,?_⟩
 refine HT.getItem_tuple_cut ht hs pl pu (by rw [hlen];exact hw) ?_ (by rw [hlen];exact hz)
 rw [hlen]
 refine ⟨.ref s.heap.objs.size,_,I.laid (t':=s.toks) (o:=.tup (cutV xs lo hi)) (fun b ob q=>Heap.get?_push_of_some _ q) (Nat.le_refl _) ?_,rfl,q _ (I.hok.fresh (Nat.le_refl _))⟩
 exact ⟨Nat.le_trans (cutV_length xs lo hi) hz,_,(r.drop (HT.sIx xs.length 0 lo)).take (HT.sIx xs.length xs.length hi - HT.sIx xs.length 0 lo),tV.new _ _⟩
def rCatT (K:PySem.W.Frag):R2:=fun x y H Q=>∃a b xs ys,x=.ref a∧y=.ref b∧SqT K H a xs∧SqT K H b ys∧xs≠[]∧xs.length+ys.length≤sizeLine ∧
 (ys=[]→Q (.ref a) H)∧(ys≠[]→∀p,H p=none→Q (.ref p) (upd H p (.tup (xs++ys))))
theorem Vals.nil_iff {xs:List V} {us:List Value} (r:Vals xs us):us=[]↔xs=[]:=by
 cases r with
 |nil=>simp
 |cons _ _=>simp
theorem op_catT:OpR X (binaryOp .Add) (rCatT X.K):=by
 intro pins s σ H x y v u Q I rx ry h
 obtain ⟨a,b,xs,ys,rfl,rfl,ha,hb,hx,hz,q1,q2⟩:=h
 cases rx
 cases ry
 obtain ⟨its,r1,p1,_⟩:=I.tuple ha
 obtain ⟨its2,r2,p2,_⟩:=I.tuple hb
 refine HT.cat_tup p1 p2 (fun z=>hx (r1.nil_iff.mp z)) (fun z=>⟨.ref a,H,I,rfl,q1 (r2.nil_iff.mp z)⟩) (fun z=>?_) (by rw [←r1.length,←r2.length];exact hz)
 refine ⟨.ref s.heap.objs.size,_,I.laid (t':=s.toks) (o:=.tup (xs++ys)) (fun b ob q=>Heap.get?_push_of_some _ q) (Nat.le_refl _) ?_,rfl,q2 (fun w=>z (r2.nil_iff.mpr w)) _ (I.hok.fresh (Nat.le_refl _))⟩
 exact ⟨by rw [List.length_append];exact hz,_,r1.append r2,tV.new _ _⟩
end
def ixN (n:Nat) (i:Int):Option Nat:=if 0≤i then (if i<n then some i.toNat else none) else if -(n:Int)≤i then some (i+n).toNat else none
def atI {α:Type} (xs:List α) (i:Int):Option α:=(ixN xs.length i).bind fun j=>xs[j]?
theorem ixN_seq {n:Nat} {i:Int} {j:Nat} (h:ixN n i=some j):seqIndex? i n=some j∧j<n∧-(n:Int)≤i∧i<n:=by
 unfold ixN at h
 by_cases h0:0≤i
 ·rw [if_pos h0] at h
  by_cases h1:i<n
  ·rw [if_pos h1] at h
   have e:i.toNat=j:=Option.some.inj h
   exact ⟨by rw [seqIndex_of h0 h1,e],by omega,by omega,h1⟩
  ·rw [if_neg h1] at h;cases h
 ·rw [if_neg h0] at h
  by_cases h1:-(n:Int)≤i
  ·rw [if_pos h1] at h
   have e:(i+n).toNat=j:=Option.some.inj h
   exact ⟨by rw [seqIndex_neg (by omega) h1,e],by omega,h1,by omega⟩
  ·rw [if_neg h1] at h;cases h
theorem atI_get {α:Type} {xs:List α} {i:Int} {v:α} (h:atI xs i=some v):∃j,seqIndex? i xs.length=some j∧xs[j]?=some v∧j<xs.length∧-(xs.length:Int)≤i∧i<xs.length:=by
 unfold atI at h
 cases e:ixN xs.length i with
 |none=>rw [e] at h;cases h
 |some j=>
  rw [e] at h
  obtain ⟨h1,h2,h3,h4⟩:=ixN_seq e
  exact ⟨j,h1,h,h2,h3,h4⟩
theorem atI_nat {α:Type} {xs:List α} {j:Nat} {v:α} (h:xs[j]?=some v):atI xs (j:Int)=some v:=by
 have hj:j<xs.length:=(List.getElem?_eq_some_iff.mp h).1
 have e:ixN xs.length (j:Int)=some j:=by
  unfold ixN
  rw [if_pos (by omega),if_pos (by omega)];simp
 unfold atI;rw [e];exact h
def PlainIx (b:Expr):Prop:=∀o i,subscripted b false o i=operate [o,i] (getItem o i)
def IxR (X:Cx) (r:R2):Prop:=
 ∀(value slice:Expr) (pins:List (Addr × Obj)) (s:Shared) (σ:St) (H:Hp) (x y:V) (v u:Value) (Q:VK),Inv X pins σ H s→RelV x v→RelV y u→r x y H Q →
  subscripted slice false v u=operate [v,u] (getItem v u)→wpAny (model X.prog X.w) X.A (subscriptTail value slice v u) (EP X pins σ Q) X.xe s
def MtR (X:Cx) (id:String) (r:V→List V→Hp→VK→Prop):Prop:=
 ∀(pins:List (Addr × Obj)) (s:Shared) (σ:St) (H:Hp) (x:V) (xs:List V) (v:Value) (us:List Value) (Q:VK),Inv X pins σ H s→RelV x v→Vals xs us→r x xs H Q →
  wpAny (model X.prog X.w) X.A (call (.builtin id) (v::us)) (EP X pins σ Q) X.xe s
section
variable {X:Cx} {a b:Expr} {ta tb:TE} {pos:Pos}
theorem pe_ix {r:R2} (hr:IxR X r) (ha:PE X a ta) (hb:PE X b tb) (hs:PlainIx b):PE X (.Subscript a b pos) (tOp r ta tb):=by
 intro pins s σ H Q I h
 exact Subscript_ (binT ha hb I h fun v u s2 x y H2 I2 rx ry q=>hr a b pins s2 σ H2 x y v u Q I2 rx ry q (hs _ _))
def rIxL (K:PySem.W.Frag):R2:=fun x y H Q=>∃p xs i v,x=.ref p∧y=.int i∧SqL K H p xs∧atI xs i=some v∧Q v H
def rIxT (K:PySem.W.Frag):R2:=fun x y H Q=>∃p xs i v,x=.ref p∧y=.int i∧SqT K H p xs∧atI xs i=some v∧Q v H
theorem ix_list:IxR X (rIxL X.K):=by
 intro value slice pins s σ H x y v u Q I rx ry h hs
 obtain ⟨p,xs,i,z,rfl,rfl,hq,he,q⟩:=h
 cases rx
 obtain ⟨t,rfl⟩:=ry
 obtain ⟨its,r,pl,hz⟩:=I.list hq
 obtain ⟨j,h1,h2,h3,h4,h5⟩:=atI_get he
 obtain ⟨w,ew,rw'⟩:=r.get h2
 have hl:=r.length
 have hn:=line63
 have fin:EP X pins σ Q w s:=⟨z,H,I,rw',q⟩
 by_cases h0:0≤i
 ·have hj:i.toNat=j:=by
   rw [seqIndex_of h0 h5] at h1
   exact Option.some.inj h1
  exact item_listR pl.isList h0 (by omega) (by rw [hj];simpa using ew) fin hs
 ·have hj:(i+(its.toArray.size:Int)).toNat=j:=by
   rw [seqIndex_neg (by omega) h4] at h1
   rw [List.size_toArray,←hl]
   exact Option.some.inj h1
  exact subscriptTail_builtinR (x:=w) pl.isList.typeIs slot_list_getitem.lookup
   (wpAny_getItem_list_neg (Q:=fun r s'=>r=w∧EP X pins σ Q r s') pl.isList (by omega) (by rw [List.size_toArray] <;> omega) (by omega) (by rw [hj];simpa using ew) ⟨rfl,fin⟩) hs
theorem ix_tup:IxR X (rIxT X.K):=by
 intro value slice pins s σ H x y v u Q I rx ry h hs
 obtain ⟨p,xs,i,z,rfl,rfl,hq,he,q⟩:=h
 cases rx
 obtain ⟨t,rfl⟩:=ry
 obtain ⟨its,r,pl,hz⟩:=I.tuple hq
 obtain ⟨j,h1,h2,h3,h4,h5⟩:=atI_get he
 obtain ⟨w,ew,rw'⟩:=r.get h2
 have hl:=r.length
 have hn:=line63
 have fin:EP X pins σ Q w s:=⟨z,H,I,rw',q⟩
 exact subscriptTail_builtinR (x:=w) pl.typeIs slot_tuple_getitem.lookup
  (getItem_tuple (j:=j) (Q:=fun r s'=>r=w∧EP X pins σ Q r s') pl (by omega) (by omega) (by rw [List.size_toArray,←hl];exact h1) (by simpa using ew) ⟨rfl,fin⟩) hs
theorem mapSeq_set (its:List Value) (n j:Nat) (u:Value):Obj.mapSeq (·.setIfInBounds j u) { cls:=.type "list",data:=.seq its.toArray n }={ cls:=.type "list",data:=.seq (its.set j u).toArray n }:=by
 simp [Obj.mapSeq]
theorem Inv.lst {pins:List (Addr × Obj)} {σ:St} {H:Hp} {s:Shared} {p:Addr} {xs:List V} (I:Inv X pins σ H s) (h:H p=some (.lst xs)) :
  ∃(its:List Value) (n:Nat),Vals xs its∧s.heap.get? p=some { cls:=.type "list",data:=.seq its.toArray n }∧xs.length≤sizeLine:=by
 obtain ⟨z,its,n,r,e⟩:=I.hok p _ h
 exact ⟨its,n,r,e,z⟩
theorem Inv.lstUpd {pins:List (Addr × Obj)} {σ:St} {H:Hp} {s:Shared} {p:Addr} {xs ys:List V} {its its':List Value} {n n':Nat} {f:Obj→Obj} (I:Inv X pins σ H s) (h:H p=some (.lst xs))
  (ho:s.heap.get? p=some { cls:=.type "list",data:=.seq its.toArray n }) (hf:f { cls:=.type "list",data:=.seq its.toArray n }={ cls:=.type "list",data:=.seq its'.toArray n' }) (r:Vals ys its') (hz:ys.length≤sizeLine) (t:Nat) :
  Inv X pins σ (upd H p (.lst ys)) { s with heap:=s.heap.update p f,toks:=t }:=by
 have e:(s.heap.update p f).get? p=some { cls:=.type "list",data:=.seq its'.toArray n' }:=by
  rw [Heap.get?_update_self f ho (by rw [hf] <;> rfl),hf]
 refine I.write (x:=p) (e:=p) (by rw [h];trivial) (.inl rfl) (fun b u hb q=>(Heap.get?_update_other _ _ (Ne.symm hb)).trans q) ⟨_,e⟩ ?_
 exact ⟨hz,its',n',r,e⟩
def rSetL:V→V→V→Hp→(Hp→Prop)→Prop:=fun o i v H Q=>∃p xs k j,o=.ref p∧i=.int k∧H p=some (.lst xs)∧ixN xs.length k=some j∧Q (upd H p (.lst (xs.set j v)))
theorem set_list:PSet X rSetL:=by
 intro pins s σ H o i v ov iv u Q I ro ri rv h
 obtain ⟨p,xs,k,j,rfl,rfl,hp,hj,q⟩:=h
 cases ro
 obtain ⟨t,rfl⟩:=ri
 obtain ⟨its,n,r,ho,hz⟩:=I.lst hp
 obtain ⟨h1,h2,h3,h4⟩:=ixN_seq hj
 have hl:=r.length
 have hn:=line63
 have I':Inv X pins σ (upd H p (.lst (xs.set j v))) { s with heap:=s.heap.update p (Obj.mapSeq (·.setIfInBounds j u)) }:=
  I.lstUpd hp ho (mapSeq_set its n j u) (r.set rv j) (by rw [List.length_set];exact hz) s.toks
 by_cases h0:0≤k
 ·have hk:k.toNat=j:=by
   rw [seqIndex_of h0 h4] at h1
   exact Option.some.inj h1
  exact PySem.W.ki_setAt ho h0 (by omega) (by rw [List.size_toArray,←hl];exact h4) (by rw [hk];exact ⟨_,I',q⟩)
 ·have hk:(k+(its.toArray.size:Int)).toNat=j:=by
   rw [seqIndex_neg (by omega) h3] at h1
   rw [List.size_toArray,←hl]
   exact Option.some.inj h1
  exact PySem.W.ki_setBack ho (by omega) (by rw [List.size_toArray,←hl];exact h3) (by omega) (by rw [hk];exact ⟨_,I',q⟩)
theorem slice_bounds (lo hi:Option Int) (n:Nat):(sliceBounds lo hi none n).1=((HT.sIx n 0 lo:Nat):Int)∧(sliceBounds lo hi none n).2.1=((HT.sIx n n hi:Nat):Int)∧(sliceBounds lo hi none n).2.2=1:=by
 refine ⟨?_,?_,rfl⟩
 ·cases lo with
  |none=>simp [sliceBounds,HT.sIx]
  |some i=>
   simp only [sliceBounds,HT.sIx,Option.getD_none,show (1:Int) > 0 by decide,if_true]
   by_cases h:i<0
   ·simp only [h,if_true] <;> omega
   ·simp only [h,if_false] <;> omega
 ·cases hi with
  |none=>simp [sliceBounds,HT.sIx]
  |some i=>
   simp only [sliceBounds,HT.sIx,Option.getD_none,show (1:Int) > 0 by decide,if_true]
   by_cases h:i<0
   ·simp only [h,if_true] <;> omega
   ·simp only [h,if_false] <;> omega
theorem slicePick_cut (its:List Value) (lo hi:Option Int):slicePick its.toArray lo hi none=((its.drop (HT.sIx its.length 0 lo)).take (HT.sIx its.length its.length hi - HT.sIx its.length 0 lo)).toArray:=by
 obtain ⟨h1,h2,h3⟩:=slice_bounds lo hi its.toArray.size
 unfold slicePick
 rw [h1,h2,h3]
 simp only [sliceRange_one,pick_run,List.size_toArray] <;> rfl
def rSlL (K:PySem.W.Frag):V→Option Int→Option Int→Hp→VK→Prop:=fun x lo hi H Q=>∃a xs,x=.ref a∧SqL K H a xs∧∀p,H p=none→Q (.ref p) (upd H p (.lst (cutV xs lo hi)))
theorem sl_list:SlR X (rSlL X.K):=by
 intro pins s σ H x v vl vu lo hi sl Q I rx hs pl pu h
 obtain ⟨a,xs,rfl,hx,q⟩:=h
 cases rx
 obtain ⟨its,r,ht,hz⟩:=I.list hx
 have hlen:=r.length
 refine ⟨"list",_,slot_list_getitem.lookup,ht.isList.typeIs,?_⟩
 refine wpAny_getItem_list_slice ht.isList hs pl pu .none (by simp) ?_ (by rw [List.size_toArray] <;> omega)
 rw [slicePick_cut,←hlen]
 refine ⟨.ref s.heap.objs.size,_,I.laid (t':=s.toks) (o:=.lst (cutV xs lo hi)) (fun b ob q=>Heap.get?_push_of_some _ q) (Nat.le_refl _) ?_,rfl,q _ (I.hok.fresh (Nat.le_refl _))⟩
 exact ⟨Nat.le_trans (cutV_length xs lo hi) hz,_,0,(r.drop (HT.sIx xs.length 0 lo)).take (HT.sIx xs.length xs.length hi - HT.sIx xs.length 0 lo),Heap.get?_push_size _ rfl⟩
def flatV:V→Bool
 |.non=>true
 |.bl _=>true
 |.int _=>true
 |.str _=>true
 |_=>false
def eqV:V→V→Bool
 |.non,.non=>true
 |.bl a,.bl b=>a == b
 |.bl a,.int b=>(if a then 1 else 0) == b
 |.int a,.bl b=>a == (if b then 1 else 0)
 |.int a,.int b=>a == b
 |.str a,.str b=>a == b
 |_,_=>false
theorem eqAt_V {A:Around} {s:Shared} {y x:V} {u v:Value} (ry:RelV y u) (rx:RelV x v) (fy:flatV y=true) (fx:flatV x=true):SeqAt.EqAt A s u v (eqV y x):=by
 cases y with
 |non=>
  cases ry
  cases x with
  |non=>cases rx;exact SeqAt.EqAt.same _
  |bl b=>cases rx;exact SeqAt.EqAt.none_bool b
  |int b=>obtain ⟨t,rfl⟩:=rx;exact SeqAt.EqAt.none_int b t
  |str b=>obtain ⟨t,rfl⟩:=rx;exact SeqAt.EqAt.none_str b t
  |_=>exact absurd (show false=true from fx) Bool.false_ne_true
 |bl a=>
  cases ry
  cases x with
  |non=>cases rx;exact SeqAt.EqAt.bool_none a
  |bl b=>cases rx;exact SeqAt.EqAt.bool_bool a b
  |int b=>obtain ⟨t,rfl⟩:=rx;exact SeqAt.EqAt.bool_int a b t
  |str b=>obtain ⟨t,rfl⟩:=rx;exact SeqAt.EqAt.bool_str a b t
  |_=>exact absurd (show false=true from fx) Bool.false_ne_true
 |int a=>
  obtain ⟨t',rfl⟩:=ry
  cases x with
  |non=>cases rx;exact SeqAt.EqAt.int_none a t'
  |bl b=>cases rx;exact SeqAt.EqAt.int_bool a t' b
  |int b=>obtain ⟨t,rfl⟩:=rx;exact SeqAt.EqAt.int_int a t' b t
  |str b=>obtain ⟨t,rfl⟩:=rx;exact SeqAt.EqAt.int_str a t' b t
  |_=>exact absurd (show false=true from fx) Bool.false_ne_true
 |str a=>
  obtain ⟨t',rfl⟩:=ry
  cases x with
  |non=>cases rx;exact SeqAt.EqAt.str_none a t'
  |bl b=>cases rx;exact SeqAt.EqAt.str_bool a t' b
  |int b=>obtain ⟨t,rfl⟩:=rx;exact SeqAt.EqAt.str_int a t' b t
  |str b=>obtain ⟨t,rfl⟩:=rx;exact SeqAt.EqAt.str_str a t' b t
  |_=>exact absurd (show false=true from fx) Bool.false_ne_true
 |_=>exact absurd (show false=true from fy) Bool.false_ne_true
def eqU (x:V) (u:Value):Bool:=match u with
 |.none=>eqV .non x
 |.bool b=>eqV (.bl b) x
 |.int i _=>eqV (.int i) x
 |.str z _=>eqV (.str z) x
 |_=>false
theorem eqU_of {x y:V} {u:Value} (r:RelV y u) (f:flatV y=true):eqU x u=eqV y x:=by
 cases y with
 |non=>cases r;rfl
 |bl b=>cases r;rfl
 |int i=>obtain ⟨t,rfl⟩:=r;rfl
 |str z=>obtain ⟨t,rfl⟩:=r;rfl
 |_=>exact absurd (show false=true from f) Bool.false_ne_true
theorem any_eqU {x:V}:∀{xs:List V} {us:List Value},Vals xs us→xs.all flatV=true→us.any (eqU x)=xs.any fun y=>eqV y x
 |_,_,.nil,_=>rfl
 |y::xs,u::us,.cons r t,f=>by
  rw [List.all_cons,Bool.and_eq_true] at f
  rw [List.any_cons,List.any_cons,eqU_of r f.1,any_eqU t f.2]
theorem mem_eqAt {A:Around} {s:Shared} {x:V} {v:Value} (rx:RelV x v) (fx:flatV x=true):∀{xs:List V} {us:List Value},Vals xs us→xs.all flatV=true→∀u∈us,SeqAt.EqAt A s u v (eqU x u)
 |_,_,.nil,_=>fun u hu=>by cases hu
 |y::xs,u::us,.cons r t,f=>fun u' hu=>by
  rw [List.all_cons,Bool.and_eq_true] at f
  rcases List.mem_cons.mp hu with rfl|hu
  ·rw [eqU_of r f.1];exact eqAt_V r rx f.1 fx
  ·exact mem_eqAt rx fx t f.2 u' hu
def inV (x:V) (xs:List V):Bool:=xs.any fun y=>eqV y x
def rIn (K:PySem.W.Frag) (neg:Bool):R2:=fun x y H Q=>∃p xs,y=.ref p∧(SqL K H p xs∨SqT K H p xs)∧flatV x=true∧xs.all flatV=true∧Q (.bl (if neg then !inV x xs else inV x xs)) H
theorem op_in_seq:OpR X (compareOp .In) (rIn X.K false):=by
 intro pins s σ H x y v u Q I rx ry h
 obtain ⟨p,xs,rfl,hq,fx,fs,q⟩:=h
 cases ry
 rcases hq with hq|hq
 ·obtain ⟨its,r,pl,hz⟩:=I.list hq
  refine SeqAt.in_listAt (eqU x) pl.isList (fun w hw=>mem_eqAt rx fx r fs w (by simpa using hw)) ⟨.bl _,H,I,rfl,?_⟩
  rw [show its.toArray.any (eqU x)=its.any (eqU x) by simp,any_eqU r fs]
  exact q
 ·obtain ⟨its,r,pl,hz⟩:=I.tuple hq
  refine SeqAt.in_tupleAt (eqU x) pl (fun w hw=>mem_eqAt rx fx r fs w (by simpa using hw)) ⟨.bl _,H,I,rfl,?_⟩
  rw [show its.toArray.any (eqU x)=its.any (eqU x) by simp,any_eqU r fs]
  exact q
theorem op_notIn_seq:OpR X (compareOp .NotIn) (rIn X.K true):=by
 intro pins s σ H x y v u Q I rx ry h
 obtain ⟨p,xs,rfl,hq,fx,fs,q⟩:=h
 cases ry
 rcases hq with hq|hq
 ·obtain ⟨its,r,pl,hz⟩:=I.list hq
  refine SeqAt.notIn_listAt (eqU x) pl.isList (fun w hw=>mem_eqAt rx fx r fs w (by simpa using hw)) ⟨.bl _,H,I,rfl,?_⟩
  rw [show its.toArray.any (eqU x)=its.any (eqU x) by simp,any_eqU r fs]
  exact q
 ·obtain ⟨its,r,pl,hz⟩:=I.tuple hq
  refine SeqAt.notIn_tupleAt (eqU x) pl (fun w hw=>mem_eqAt rx fx r fs w (by simpa using hw)) ⟨.bl _,H,I,rfl,?_⟩
  rw [show its.toArray.any (eqU x)=its.any (eqU x) by simp,any_eqU r fs]
  exact q
theorem call_len_seq:CallR X (.builtin "len") (fun xs H Q=>∃p ys,xs=[.ref p]∧(SqL X.K H p ys∨SqT X.K H p ys)∧Q (.int ys.length) H):=by
 intro pins s σ H xs us Q I r h
 obtain ⟨p,ys,rfl,hq,q⟩:=h
 obtain ⟨u,rfl,rx⟩:=vals1 r
 cases rx
 have hn:=line63
 rcases hq with hq|hq
 ·obtain ⟨its,r',pl,hz⟩:=I.list hq
  have hlen:=r'.length
  exact Calls.call_len_list pl.isList (by simp only [List.size_toArray] <;> omega) ⟨.int ys.length,H,I.tok _,⟨s.toks+1,by rw [List.size_toArray,hlen]⟩,q⟩
 ·obtain ⟨its,r',pl,hz⟩:=I.tuple hq
  have hlen:=r'.length
  exact len_tuple pl (by simp only [List.size_toArray] <;> omega) ⟨.int ys.length,H,I.tok _,⟨s.toks+1,by rw [List.size_toArray,hlen]⟩,q⟩
theorem call_len_str:CallR X (.builtin "len") (fun xs H Q=>∃z,xs=[.str z]∧z.length≤sizeLine∧Q (.int z.length) H):=by
 intro pins s σ H xs us Q I r h
 obtain ⟨z,rfl,hz,q⟩:=h
 obtain ⟨u,rfl,t,rfl⟩:=vals1 r
 have hn:=line63
 exact len_str (by omega) ⟨.int z.length,H,I.tok _,⟨_,rfl⟩,q⟩
theorem CallR.or {f:Value} {r r':List V→Hp→VK→Prop} (h:CallR X f r) (h':CallR X f r'):CallR X f (fun xs H Q=>r xs H Q∨r' xs H Q):=by
 intro pins s σ H xs us Q I rs q
 rcases q with q|q
 ·exact h pins s σ H xs us Q I rs q
 ·exact h' pins s σ H xs us Q I rs q
theorem call_list_of:CallR X (.type "list") (fun xs H Q=>∃p ys,xs=[.ref p]∧(SqL X.K H p ys∨SqT X.K H p ys)∧∀l,H l=none→Q (.ref l) (upd H l (.lst ys))):=by
 intro pins s σ H xs us Q I r h
 obtain ⟨p,ys,rfl,hq,q⟩:=h
 obtain ⟨u,rfl,rx⟩:=vals1 r
 cases rx
 have fin:∀(its:List Value),Vals ys its→ys.length≤sizeLine→∀(h':Heap) (c':Nat),(∀b o',s.heap.get? b=some o'→h'.get? b=some o') →
   h'.get? s.heap.objs.size=some { cls:=.type "list",dict:=none,data:=.seq its.toArray c',slots:=#[] }→EP X pins σ Q (.ref s.heap.objs.size) { s with heap:=h' }:=fun its r' hz h' c' kp e=>
  ⟨.ref s.heap.objs.size,_,I.laid (t':=s.toks) kp (Nat.le_refl _) (show ObjOk X.prog X.w _ h' _ (.lst ys) from ⟨hz,its,c',r',e⟩),rfl,q _ (I.hok.fresh (Nat.le_refl _))⟩
 rcases hq with hq|hq
 ·obtain ⟨its,r',pl,hz⟩:=I.list hq
  have hlen:=r'.length
  obtain ⟨o,ho,hc,n,hd⟩:=pl.isList
  exact call_list_seq p (.inl rfl) ho hc hd (fun h' c' kp e=>fin its r' hz h' c' kp e) (by simp only [List.size_toArray] <;> omega)
 ·obtain ⟨its,r',pl,hz⟩:=I.tuple hq
  have hlen:=r'.length
  obtain ⟨o,ho,hc,n,hd⟩:=pl
  exact call_list_seq p (.inr rfl) ho hc hd (fun h' c' kp e=>fin its r' hz h' c' kp e) (by simp only [List.size_toArray] <;> omega)
theorem call_tuple_of:CallR X (.type "tuple") (fun xs H Q=>∃p ys,xs=[.ref p]∧((SqL X.K H p ys∧∀l,H l=none→Q (.ref l) (upd H l (.tup ys)))∨(SqT X.K H p ys∧Q (.ref p) H))):=by
 intro pins s σ H xs us Q I r h
 obtain ⟨p,ys,rfl,h⟩:=h
 obtain ⟨u,rfl,rx⟩:=vals1 r
 cases rx
 rcases h with ⟨hq,q⟩|⟨hq,q⟩
 ·obtain ⟨its,r',pl,hz⟩:=I.list hq
  have hlen:=r'.length
  refine call_tuple_list pl.isList (fun h' kp=>?_) (by simp only [List.size_toArray] <;> omega)
  have I1:Inv X pins σ H { s with heap:=h' }:=I.kept (t':=s.toks) kp
  have I2:Inv X pins σ (upd H h'.objs.size (.tup ys)) { s with heap:=h'.push { cls:=.type "tuple",data:=.seq its.toArray } }:=
   I1.laid (t':=s.toks) (fun b o e=>Heap.get?_push_of_some _ e) (Nat.le_refl _) (show ObjOk X.prog X.w _ _ _ (.tup ys) from ⟨hz,its,r',tV.new _ _⟩)
  exact ⟨.ref h'.objs.size,_,I2,rfl,q _ (I1.hok.fresh (Nat.le_refl _))⟩
 ·obtain ⟨its,r',pl,hz⟩:=I.tuple hq
  exact call_tuple_same pl ⟨.ref p,H,I,rfl,q⟩
def tyV (K:PySem.W.Frag) (T:String) (x:V) (H:Hp):Prop:=match x with
 |.str _=>T = "str"
 |.int _=>T = "int"
 |.ref p=>(T = "list"∧∃xs,SqL K H p xs)∨(T = "tuple"∧∃o,K.lookup p=some o∧o.cls=.type "tuple"∧o.dict=none) ∨
   (T = "dict"∧((∃kvs,H p=some (.dK kvs))∨∃kvs,H p=some (.dT kvs)))∨(T = "set"∧∃S n,H p=some (.set S n))
 |_=>False
theorem tyV_is {pins:List (Addr × Obj)} {σ:St} {H:Hp} {s:Shared} {T:String} {x:V} {v:Value} (I:Inv X pins σ H s) (r:RelV x v) (ty:tyV X.K T x H) :
  s.TypeIs v T∧∀a,v=.ref a→∃ob,s.heap.get? a=some ob∧ob.dict=none:=by
 cases x with
 |str z=>
  obtain ⟨t,rfl⟩:=r
  cases (show T = "str" from ty)
  exact ⟨typeIs_str s z t,fun _ e=>nomatch e⟩
 |int i=>
  obtain ⟨t,rfl⟩:=r
  cases (show T = "int" from ty)
  exact ⟨typeIs_int s i t,fun _ e=>nomatch e⟩
 |ref p=>
  cases r
  rcases ty with ⟨rfl,xs,hq⟩|⟨rfl,o,hk,hc,hd⟩|⟨rfl,hk⟩|⟨rfl,S,n,hk⟩
  ·obtain ⟨its,_,pl,_⟩:=I.list hq
   refine ⟨pl.isList.typeIs,fun a e=>?_⟩
   cases e
   obtain ⟨o,n,e,c,hd,_⟩:=pl
   exact ⟨o,e,hd⟩
  ·refine ⟨⟨o,I.kIn p o hk,hc⟩,fun a e=>?_⟩
   cases e
   exact ⟨o,I.kIn _ o hk,hd⟩
  ·have z:∃o,s.heap.get? p=some o∧o.ExactDict:=by
    rcases hk with ⟨kvs,hk⟩|⟨kvs,hk⟩
    ·obtain ⟨_,_,_,_,o,_,_,e,ex,_⟩:=I.hok p _ hk
     exact ⟨o,e,ex⟩
    ·obtain ⟨_,_,_,_,o,_,_,e,ex,_⟩:=I.hok p _ hk
     exact ⟨o,e,ex⟩
   obtain ⟨o,e,ex⟩:=z
   refine ⟨⟨o,e,ex.1⟩,fun a e2=>?_⟩
   cases e2
   exact ⟨o,e,ex.2.1⟩
  ·obtain ⟨o,_,_,_,e,ex,_⟩:=I.hok p _ hk
   refine ⟨⟨o,e,ex.1⟩,fun a e2=>?_⟩
   cases e2
   exact ⟨o,e,ex.2.1⟩
 |_=>exact False.elim ty
def tBM0 (K:PySem.W.Frag) (T:String) (r:V→List V→Hp→VK→Prop) (to:TE):TE:=fun σ H Q=>to σ H fun x H1=>tyV K T x H1∧r x [] H1 Q
def tBM (K:PySem.W.Frag) (T:String) (r:V→List V→Hp→VK→Prop) (to:TE) (t:TA):TE:=fun σ H Q=>to σ H fun x H1=>tyV K T x H1∧t σ H1 fun xs H2=>r x xs H2 Q
variable {o e:Expr} {es:List Expr} {to:TE} {t:TA} {name:Str} {apos cpos:Pos} {T id:String} {r:V→List V→Hp→VK→Prop}
theorem pe_bm0 (pa:PlainAttrs T) (slot:Slot T name id) (hty:typeOf (.builtin id)=pure (.type "method_descriptor")) (hm:MtR X id r) (ho:PE X o to)
  (hbase:attributeBase o name X.env (eval o X.env)=eval o X.env:=by rfl) (hline:(apos.endLine == cpos.line)=true:=by rfl):PE X (.Call (.Attribute o name apos) [] [] cpos) (tBM0 X.K T r to):=by
 intro pins s σ H Q I h
 refine wpAny_Call_method0_late hbase hline (thn (ho pins s σ H _ I h) fun v s1 ⟨x,H1,I1,r1,ty,q1⟩=>?_)
 obtain ⟨h1,h2⟩:=tyV_is I1 r1 ty
 exact ⟨T,id,pa,slot,hty,h1,h2,Calls.callWith_builtin rfl (PySem.evalArgs_none (hm pins s1 σ H1 x [] v [] Q I1 r1 .nil q1))⟩
theorem pe_bm (pa:PlainAttrs T) (slot:Slot T name id) (hty:typeOf (.builtin id)=pure (.type "method_descriptor")) (hm:MtR X id r) (ho:PE X o to) (ha:PA X (e::es) t)
  (hbase:attributeBase o name X.env (eval o X.env)=eval o X.env:=by rfl)
  (hfew:((backTo cpos (starEach (e::es) X.env)).all (fun x=>!x.1) && (backToKw cpos (keywordEach [] X.env)).all (fun x=>x.1.isSome)
   && decide ((e::es).length+([]:List Keyword).length+(if ([]:List Keyword).isEmpty then 0 else 1)<30))=true:=by rfl)
  (hline:(apos.endLine == cpos.line)=true:=by rfl) (hs:starEach (e::es) X.env=(false,eval e X.env)::starEach es X.env:=by rfl) (hplain:(backTo cpos (starEach es X.env)).any (·.1)=false:=by rfl) :
  PE X (.Call (.Attribute o name apos) (e::es) [] cpos) (tBM X.K T r to t):=by
 intro pins s σ H Q I h
 refine wpAny_Call_method_late hbase hfew hline rfl (thn (ho pins s σ H _ I h) fun v s1 ⟨x,H1,I1,r1,ty,q1⟩=>?_)
 obtain ⟨h1,h2⟩:=tyV_is I1 r1 ty
 refine ⟨T,id,pa,slot,hty,h1,h2,?_⟩
 have hA:=ha cpos pins s1 σ H1 _ I1 q1
 rw [hs] at hA ⊢
 refine Calls.callWith_builtin (by show (false || (backTo cpos (starEach es X.env)).any (·.1))=false;rw [hplain] <;> rfl) (Calls.evalArgs_plain ?_)
 exact thn hA fun us s2 ⟨vs,H2,I2,r2,q2⟩=>hm pins s2 σ H2 x vs v us Q I2 r1 r2 q2
end
def MtM (X:Cx) (id:String) (r:V→List V→Hp→VK→Prop):Prop:=
 ∀(pins:List (Addr × Obj)) (s:Shared) (σ:St) (H:Hp) (x:V) (xs:List V) (v:Value) (us:List Value) (Q:VK),Inv X pins σ H s→RelV x v→Vals xs us→r x xs H Q →
  wpAny (model X.prog X.w) X.A (call (.builtin id) (v::us)) (EP X pins σ Q) X.xe s
theorem Vals.one:∀{x:V} {us:List Value},Vals [x] us→∃u,us=[u]∧RelV x u
 |_,_,.cons r .nil=>⟨_,rfl,r⟩
theorem Vals.two:∀{x y:V} {us:List Value},Vals [x,y] us→∃u v,us=[u,v]∧RelV x u∧RelV y v
 |_,_,_,.cons r (.cons q .nil)=>⟨_,_,rfl,r,q⟩
theorem Vals.zero:∀{us:List Value},Vals [] us→us=[]
 |_,.nil=>rfl
theorem Vals.dropLast {xs:List V} {us:List Value} (h:Vals xs us):Vals xs.dropLast us.dropLast:=by
 induction h with
 |nil=>exact .nil
 |cons r t ih=>
  cases t with
  |nil=>exact .nil
  |cons q t'=>exact .cons r ih
theorem Vals.reverse {xs:List V} {us:List Value} (h:Vals xs us):Vals xs.reverse us.reverse:=by
 induction h with
 |nil=>exact .nil
 |cons r t ih=>rw [List.reverse_cons,List.reverse_cons];exact Vals.append ih (.cons r .nil)
theorem erase_last {α:Type} (l:List α):l.eraseIdx (l.length - 1)=l.dropLast:=by
 induction l with
 |nil=>rfl
 |cons a r ih=>
  cases r with
  |nil=>rfl
  |cons b r=>
   have e:(a::b::r).length - 1=((b::r).length - 1)+1:=by
    have h1:(a::b::r).length=r.length+2:=rfl
    have h2:(b::r).length=r.length+1:=rfl
    omega
   rw [e,List.eraseIdx_cons_succ,ih]
   all_goals rfl
section
variable {X:Cx} {pins:List (Addr × Obj)} {σ:St} {H:Hp} {s:Shared} {l b:Addr} {xs ys zs:List V}
theorem Inv.lset {its its':List Value} {n:Nat} {f:Array Value→Array Value} {t':Nat} (I:Inv X pins σ H s) (hH:H l=some (.lst xs))
  (e:s.heap.get? l=some { cls:=.type "list",data:=.seq its.toArray n }) (hf:f its.toArray=its'.toArray) (hv:Vals ys its') (hz:ys.length≤sizeLine) :
  Inv X pins σ (upd H l (.lst ys)) { s with heap:=s.heap.update l (Obj.mapSeq f),toks:=t' }:=by
 have q:=PySem.IsL.update e f
 rw [hf] at q
 refine I.write (x:=l) (e:=l) (by rw [hH];exact trivial) (.inl rfl) (fun b' u hb hu=>(Heap.get?_update_other s.heap (Obj.mapSeq f) (Ne.symm hb)).trans hu) ⟨_,q⟩ ?_
 exact ⟨hz,its',_,hv,q⟩
theorem Inv.lnew {its:List Value} {t':Nat} (I:Inv X pins σ H s) (hv:Vals ys its) (hz:ys.length≤sizeLine) :
  Inv X pins σ (upd H s.heap.objs.size (.lst ys)) { s with heap:=s.heap.push { cls:=.type "list",data:=.seq its.toArray },toks:=t' }:=
 I.laid (fun _ _ q=>Heap.get?_push_of_some _ q) (Nat.le_refl _) ⟨hz,its,0,hv,Heap.get?_push_size _ rfl⟩
theorem Inv.fresh (I:Inv X pins σ H s):H s.heap.objs.size=none:=I.hok.fresh (Nat.le_refl _)
theorem Inv.lstM (I:Inv X pins σ H s) (hH:H l=some (.lst xs)):xs.length≤sizeLine∧∃(its:List Value) (n:Nat),Vals xs its∧xs.length=its.length∧s.heap.get? l=some { cls:=.type "list",data:=.seq its.toArray n }:=by
 obtain ⟨z,its,n,r,e⟩:=I.hok l _ hH
 exact ⟨z,its,n,r,r.length,e⟩
theorem notLongL {n:Nat} (h:n≤sizeLine):Builtin.List.listTooLong n=false:=by
 unfold Builtin.List.listTooLong
 exact decide_eq_false (by omega)
end
section
variable {X:Cx}
def rAppend:V→List V→Hp→VK→Prop:=fun x vs H Q=>∃l xs y,x=.ref l∧vs=[y]∧H l=some (.lst xs)∧xs.length<sizeLine∧Q .non (upd H l (.lst (xs++[y])))
theorem mt_append:MtM X "list.append" rAppend:=by
 intro pins s σ H x vs v us Q I rx rv h
 obtain ⟨l,xs,y,rfl,rfl,hH,hz,q⟩:=h
 cases rx
 obtain ⟨u,rfl,ru⟩:=rv.one
 obtain ⟨z,its,n,r,hl,e⟩:=I.lstM hH
 refine call_meets F.slot_list_append ⟨_,e,rfl⟩ F.entry_list_append (F.args_list_append_2 _ _) (PySem.list_append l its.toArray n u (by rw [List.size_toArray];omega)) ⟨e,?_⟩
 refine ⟨.non,_,I.lset (its':=its++[u]) hH e (by simp) (r.append (.cons ru .nil)) ?_,rfl,q⟩
 rw [List.length_append,List.length_singleton]
 omega
def rExtend:V→List V→Hp→VK→Prop:=fun x vs H Q=>∃l b xs zs,x=.ref l∧vs=[.ref b]∧H l=some (.lst xs)∧H b=some (.lst zs)∧xs.length+zs.length≤sizeLine∧Q .non (upd H l (.lst (xs++zs)))
theorem mt_extend:MtM X "list.extend" rExtend:=by
 intro pins s σ H x vs v us Q I rx rv h
 obtain ⟨l,b,xs,zs,rfl,rfl,hH,hB,hz,q⟩:=h
 cases rx
 obtain ⟨u,rfl,ru⟩:=rv.one
 cases ru
 obtain ⟨z,its,n,r,hl,e⟩:=I.lstM hH
 obtain ⟨z2,its2,n2,r2,hl2,e2⟩:=I.lstM hB
 have hsz:its.toArray.size+its2.toArray.size≤sizeLine:=by rw [List.size_toArray,List.size_toArray];omega
 have hlong:¬ (!its.toArray.isEmpty && Builtin.List.listTooLong (its.toArray.size+its2.toArray.size))=true:=by
  rw [notLongL hsz,Bool.and_false]
  exact Bool.false_ne_true
 refine call_meets F.slot_list_extend ⟨_,e,rfl⟩ F.entry_list_extend (F.args_list_extend_2 _ _)
  (AutoSeq1.list_extend_list_list_0 l its.toArray n b its2.toArray n2 hlong (by rw [List.size_toArray];omega) (by omega)) ⟨e,e2,?_⟩
 refine ⟨.non,_,I.lset (its':=its++its2) hH e (by simp) (r.append r2) ?_,rfl,q⟩
 rw [List.length_append]
 omega
def rPop:V→List V→Hp→VK→Prop:=fun x vs H Q=>∃l xs y,x=.ref l∧vs=[]∧H l=some (.lst xs)∧xs[xs.length - 1]?=some y∧Q y (upd H l (.lst xs.dropLast))
theorem mt_pop:MtM X "list.pop" rPop:=by
 intro pins s σ H x vs v us Q I rx rv h
 obtain ⟨l,xs,y,rfl,rfl,hH,hy,q⟩:=h
 cases rx
 have hus:=rv.zero
 subst hus
 obtain ⟨z,its,n,r,hl,e⟩:=I.lstM hH
 obtain ⟨u,hu,ru⟩:=r.get hy
 have hy':its.toArray[its.toArray.size - 1]?=some u:=by
  show its.toArray[its.length - 1]?=some u
  rw [←Array.getElem?_toList,←hl]
  exact hu
 refine call_meets F.slot_list_pop ⟨_,e,rfl⟩ F.entry_list_pop (F.args_list_pop_1 _) (MeetsSeq.list_pop_last l its.toArray n u hy' (by rw [List.size_toArray];omega)) ⟨e,?_⟩
 refine ⟨y,_,I.lset (its':=its.dropLast) hH e ?_ r.dropLast ?_,ru,q⟩
 ·show its.toArray.eraseIdxIfInBounds (its.toArray.size - 1)=its.dropLast.toArray
  rw [List.size_toArray,List.eraseIdxIfInBounds_toArray,erase_last]
 ·rw [List.length_dropLast]
  omega
def rReverse:V→List V→Hp→VK→Prop:=fun x vs H Q=>∃l xs,x=.ref l∧vs=[]∧H l=some (.lst xs)∧Q .non (upd H l (.lst xs.reverse))
theorem mt_reverse:MtM X "list.reverse" rReverse:=by
 intro pins s σ H x vs v us Q I rx rv h
 obtain ⟨l,xs,rfl,rfl,hH,q⟩:=h
 cases rx
 have hus:=rv.zero
 subst hus
 obtain ⟨z,its,n,r,hl,e⟩:=I.lstM hH
 refine call_meets F.slot_list_reverse ⟨_,e,rfl⟩ F.entry_list_reverse (F.args_list_reverse_1 _) (AutoSeq1.list_reverse_list_0 l its.toArray n (by rw [List.size_toArray];omega)) ⟨e,?_⟩
 refine ⟨.non,_,I.lset (its':=its.reverse) hH e (by simp) r.reverse ?_,rfl,q⟩
 rw [List.length_reverse]
 omega
def rClear:V→List V→Hp→VK→Prop:=fun x vs H Q=>∃l xs,x=.ref l∧vs=[]∧H l=some (.lst xs)∧Q .non (upd H l (.lst []))
theorem mt_clear:MtM X "list.clear" rClear:=by
 intro pins s σ H x vs v us Q I rx rv h
 obtain ⟨l,xs,rfl,rfl,hH,q⟩:=h
 cases rx
 have hus:=rv.zero
 subst hus
 obtain ⟨z,its,n,r,hl,e⟩:=I.lstM hH
 refine call_meets F.slot_list_clear ⟨_,e,rfl⟩ F.entry_list_clear (F.args_list_clear_1 _) (AutoSeq1.list_clear_list_0 l its.toArray n (by rw [List.size_toArray];omega)) ⟨e,?_⟩
 exact ⟨.non,_,I.lset (its':=[]) (ys:=[]) hH e rfl .nil (Nat.zero_le _),rfl,q⟩
def rCat:R2:=fun x y H Q=>∃l b xs zs,x=.ref l∧y=.ref b∧H l=some (.lst xs)∧H b=some (.lst zs)∧xs.length+zs.length≤sizeLine∧∀p,H p=none→Q (.ref p) (upd H p (.lst (xs++zs)))
theorem op_cat:OpR X (binaryOp .Add) rCat:=by
 intro pins s σ H x y v u Q I rx ry h
 obtain ⟨l,b,xs,zs,rfl,rfl,hH,hB,hz,q⟩:=h
 cases rx
 cases ry
 obtain ⟨z,its,n,r,hl,e⟩:=I.lstM hH
 obtain ⟨z2,its2,n2,r2,hl2,e2⟩:=I.lstM hB
 refine PySem.P.add_list e e2 ?_ (by rw [List.size_toArray,List.size_toArray];omega)
 have ea:its.toArray++its2.toArray=(its++its2).toArray:=by simp
 rw [ea]
 exact ⟨.ref _,_,I.lnew (t':=s.toks) (r.append r2) (by rw [List.length_append];omega),rfl,q _ I.fresh⟩
end
section
variable {prog:Program} {w:World} {A:Around} {E:Value→Shared→Prop} {s:Shared}
end
section
variable {X:Cx}
end
end L2
namespace Att
open PySem PySem.W PySem.Calls PyProof.Rows
theorem ints_of_wellAll {P:Params} {h:Heap}:∀(ns:List Int) (vs:List Value),WellAll P h vs (ns.map WData.int)→IntsAre vs ns:=by
 intro ns
 induction ns with
 |nil=>
  intro vs w
  rw [List.map_nil] at w
  cases w
  exact .nil
 |cons n ns ih=>
  intro vs w
  rw [List.map_cons] at w
  cases w with
  |cons a b=>
   cases a
   exact .cons _ _ (ih _ b)
theorem script_of {l:OpenLaw} {n:Nat} (hn:l.most=some n) {P:Params} {h:Heap} {args:List WData} {vals:List Value}
  (hpre:l.row.toRowW.claim.pre args=true) (hwl:WellAll P h vals args) :
  ∃a vs ns,vals=[Value.ref a]∧args=[WData.list (ns.map WData.int)]∧h.get? a=some { cls:=.type "list",data:=.seq vs.toArray }∧IntsAre vs ns∧ns.length≤n:=by
 have hsh:WShape.hasAll [] args [.list .int]=true:=(pre_splitW hpre).1
 have hc:l.pre.holds [] { args:=args }=true:=(pre_splitW hpre).2
 obtain ⟨d,r,rfl,h1,h2⟩:=hasAllW_cons hsh
 obtain rfl:=hasAllW_nil h2
 obtain ⟨xs,rfl,h3⟩:=hasW_list h1
 obtain ⟨ns,rfl⟩:=items_int h3
 have hlen:ns.length≤n:=by
  unfold OpenLaw.pre at hc
  have h4:(WTm.not (.lt (.lit (.int (n:Int))) (.len (.arg 0)))).holds [] { args:=[.list (ns.map .int)] }=true:=by
   have h4:=(holds_andW hc).1
   rw [hn] at h4
   exact h4
  have h5:=condW_of h4 (w_not (w_lt w_lit (w_len_list (w_arg rfl))))
  rw [List.length_map] at h5
  refine Nat.le_of_not_lt fun q=>?_
  have q':(n:Int)<((ns.length:Nat):Int):=by omega
  first
   |(rw [decide_eq_true q'] at h5;exact absurd h5 (by decide))
   |(simp at h5;omega)
 cases hwl with
 |cons w1 w2=>
  cases w2
  cases w1 with
  |list ho hall=>exact ⟨_,_,ns,rfl,rfl,ho,ints_of_wellAll ns _ hall,hlen⟩
theorem post_true (l:OpenLaw) (args:List WData):l.row.toRowW.claim.post args (.bool true) args=true:=
 postW_of (r:=l.row.toRowW) (X:=(true == true))
  (show WShape.has [] (.bool true) .bool=true by first|rfl|decide|simp [WShape.has,WShape.arms,WShape.armsAll])
  (show (WTm.eq .res (.lit (.bool true))).value [] { args:=args,res:=some (.bool true),after:=args }=some (.bool (true == true)) from w_eq_bool (w_res rfl) w_lit) rfl
theorem attach_call {l:OpenLaw} {n:Nat} {q:Program} {loose:List Str} {XP:(Str→Option Value)→Heap→Prop} {YP:World→Heap→Prop} {d:DefRec}
  (hn:l.most=some n) (hdf:d.params.defaults=[])
  (call:∀(w:World) (s₀ s₁:Shared) (mg mb:Str→Option Value) (fa:Addr) (o:Obj) (pm cd doc:Value) (a:Addr) (vs:List Value) (ns:List Int),
   Ground q loose [] XP w s₀ mg mb s₁.heap→YP w s₁.heap →
   s₁.heap.get? fa=some o→o.data=.func (docDef d.name d.params d.body d.scope pm cd doc)→s₁.heap.CodeRec cd d.name→mg d.name=some (.ref fa) →
   s₁.heap.get? a=some { cls:=.type "list",data:=.seq vs.toArray }→IntsAre vs ns→ns.length≤n→s₁.gens=#[] →
   codeAny (model l.prog w) callerA (.call (.ref fa) ⟨[.ref a],[]⟩) (fun r s'=>r=.ok (.ret (.bool true))∧OldK s₁.heap s'.heap∧s'.os=s₁.os∧AllBare s'.gens) s₁) :
  WalkO q loose XP YP l.row.toRowW d [] (fun f vs=>PySem.call f vs):=by
 intro w s₀ s₁ mg mb G Y fa o pm cd doc dV kV ho hd hcd hD hmg hg args vals as hpre hlay hrd hwl hlo
 obtain rfl:dV=.none:=Dflts.none hD hdf
 obtain rfl:kV=.none:=Dflts.noKw hD
 obtain ⟨a,vs,ns,rfl,rfl,hobj,hints,hlen⟩:=script_of hn hpre hwl
 refine enter_call (codeAny_mono (call w s₀ s₁ mg mb fa o pm cd doc a vs ns G Y ho (fd_plain hd) hcd hmg hobj hints hlen hg) fun r s' hq=>?_)
 obtain ⟨rfl,h2,h3,h4⟩:=hq
 exact ⟨.inl ⟨.bool true,.bool true,[],rfl,fun _=>rfl,.bool true,post_true l _,fun _=>⟨List.Pairwise.nil,fun _ hm=>(nomatch hm)⟩⟩,h2,h3,h4⟩
section
variable {prog:Program} {w:World} {A:Around} {E:Value→Shared→Prop} {s:Shared} {K:Frag}
end
end Att
namespace L2
open PySem PySem.Spec PyProof.Rows
theorem vals_ints:∀{vs:List Value} {ns:List Int},IntsAre vs ns→Vals (ns.map V.int) vs
 |_,_,.nil=>.nil
 |_,_,.cons n t h=>.cons ⟨t,rfl⟩ (vals_ints h)
abbrev KOf {K:PySem.W.Frag} {h:Heap} (_:K.In h):PySem.W.Frag:=K
def defArgs (s:Stmt):Arguments:=match s with
 |.FunctionDef _ a _ _ _ _ _ _ _ _=>a
 |_=>{ posonlyargs:=[],args:=[],vararg:=none,kwonlyargs:=[],kw_defaults:=[],kwarg:=none,defaults:=[] }
def defBody (s:Stmt):List Stmt:=match s with
 |.FunctionDef _ _ b _ _ _ _ _ _ _=>b
 |_=>[]
def defScope (s:Stmt):Scope:=match s with
 |.FunctionDef _ _ _ _ _ _ sc _ _ _=>sc
 |_=>{ kind:=.function,names:=[],isGenerator:=false,isCoroutine:=false }
abbrev CX0:CXT:=fun _ _ _ _ _ _=>False
abbrev E0:XK:=fun _ _ _=>False
theorem pass0 {X:Cx}:Passes CX0 X E0:=fun _ _ _ _ _ _ _ h=>h.elim
structure Fun (K:PySem.W.Frag) (x qual:Str) (st:Stmt) (f:Addr) (fd:FuncData):Prop where
 ex:∃(oc:Value) (od:Option Addr) (kV doc pm:Value) (an:Option Addr) (cdv ct:Value) (osl:Array (Option Value)),
  fd=PySem.W.fnOf x qual (defArgs st) (defBody st) (defScope st) .none kV doc pm an cdv ct∧K.lookup f=some ⟨oc,od,.func fd,osl⟩∧PySem.W.codeIn K cdv qual=true
 kp:PySem.W.keepIn K (.ref f)=true
section
variable {P:Program} {w:World} {K:PySem.W.Frag} {mg:Str→Option Value} {base:Heap}
theorem Fun.ok {x qual:Str} {st:Stmt} {f:Addr} {fd:FuncData} {N ps:List Str} {k:Nat} {sp:Sp} (F:Fun K x qual st f fd) (S:FnScope N ps (defScope st)) (len:∀vs H Q E,sp vs H Q E→vs.length=ps.length)
  (hbody:∀(cdv:Value) (A:Around) (outer:List Env) (s:Shared) (H:Hp) (vs:List V) (Q:VK) (E:XK),Room k (A.deeper (envOfC qual (defScope st) s.heap.objs.size f cdv))→sp vs H Q E →
   ∃t,PSs (cxOf CX0 P w K mg base N qual (defScope st) f cdv A outer s H E).nox (defBody st) t∧t { nx:=fun _ H'=>Q .non H',rt:=Q } (start N vs) H):FnOk P w K mg base CX0 (k+1) f fd ps sp:=by
 obtain ⟨oc,od,kV,doc,pm,an,cdv,ct,osl,rfl,lk,hcd⟩:=F.ex
 refine fn_of lk hcd S len fun A outer s H vs Q E hr hsp=>?_
 obtain ⟨t,h,q⟩:=hbody cdv A outer s H vs Q E hr hsp
 exact ⟨t,h.nox,q⟩
theorem Fun.binds {x qual:Str} {st:Stmt} {f:Addr} {fd:FuncData} {ps:List Str} (F:Fun K x qual st f fd)
  (h:∀(kV doc pm:Value) (an:Option Addr) (cdv ct:Value) (us:List Value),us.length=ps.length→bindArgs (PySem.W.fnOf x qual (defArgs st) (defBody st) (defScope st) .none kV doc pm an cdv ct) ⟨us,[]⟩=pure (ps.zip us)):Binds K fd ps []:=by
 obtain ⟨oc,od,kV,doc,pm,an,cdv,ct,osl,rfl,lk,hcd⟩:=F.ex
 exact .all (h kV doc pm an cdv ct)
theorem fun_mk {x qual:Str} {st:Stmt} {f:Addr} {oc:Value} {od an:Option Addr} {osl:Array (Option Value)} {kV doc pm cdv ct:Value} (l:K.lookup f=some ⟨oc,od,.func (PySem.W.fnOf x qual (defArgs st) (defBody st) (defScope st) .none kV doc pm an cdv ct),osl⟩)
  (c:PySem.W.codeIn K cdv qual=true) (k:PySem.W.keepIn K (.ref f)=true):Fun K x qual st f (PySem.W.fnOf x qual (defArgs st) (defBody st) (defScope st) .none kV doc pm an cdv ct):=⟨⟨oc,od,kV,doc,pm,an,cdv,ct,osl,rfl,l,c⟩,k⟩
end
theorem hu_of {A:Around} {k:Nat} (hr:Room k A):A.units+1<cLine:=Nat.lt_of_le_of_lt (Nat.add_le_add_left (by decide:1≤64) _) hr.units
theorem small1000 {n:Nat} (h:n≤1000):n<sizeLine:=Nat.lt_of_le_of_lt h (by decide)
section
variable {X:Cx}
theorem pv (i:Nat) {x:Str} {pos:Pos} (hN:X.N[i]?=some x:=by rfl) (hv:Vis X.env.scope x:=by trivial) (hd:(x == ("__debug__":Str))=false:=by decide)
  (hcd:(x == ("__classdict__":Str))=false:=by decide):PE X (.Name x pos) (tVar i):=pe_var hN hv hd hcd
end
theorem iteF {A B:Prop} (h:B):if false=true then A else B:=by
 rw [if_neg Bool.false_ne_true]
 exact h
theorem iteT {A B:Prop} (h:A):if true=true then A else B:=by
 rw [if_pos rfl]
 exact h
theorem ite2 {c A B:Prop} [Decidable c] (h1:c→A) (h2:¬ c→B):if c then A else B:=by
 by_cases h:c
 ·rw [if_pos h]
  exact h1 h
 ·rw [if_neg h]
  exact h2 h
def Same (H H':Hp):Prop:=∀b o,H b=some o→H' b=some o
theorem Same.refl (H:Hp):Same H H:=fun _ _ h=>h
theorem Same.trans {H H1 H2:Hp} (a:Same H H1) (b:Same H1 H2):Same H H2:=fun c o h=>b c o (a c o h)
theorem Same.free {H H':Hp} (e:Same H H') {l:Addr} (h:H' l=Option.none):H l=Option.none:=by
 cases q:H l with
 |none=>rfl
 |some o=>
  rw [e l o q] at h
  cases h
theorem Same.seq {K:PySem.W.Frag} {H H':Hp} {a:Addr} {xs:List V} (e:Same H H') (h:SqL K H a xs):SqL K H' a xs:=by
 rcases h with (h|⟨o,h⟩)|h
 ·exact .inl (.inl (e _ _ h))
 ·exact .inl (.inr ⟨o,e _ _ h⟩)
 ·exact .inr h
end L2
namespace PySem
namespace RvF
theorem slot_next:Slot "reversed" "__next__" "reversed.__next__":=
 .of (owner:="reversed") (n:="__next__") (by rw [typeLookup_type,builtinLookup_eq_fast];kernel_rfl) (by decide +kernel) (by decide +kernel) (by decide +kernel)
  (by first|exact .inl (by decide +kernel)|exact .inr (by decide +kernel)) (by rw [isSubtype_type];kernel_rfl)
theorem yP:Slot "reversed" "__iter__" "reversed.__iter__":=
 .of (owner:="reversed") (n:="__iter__") (by rw [typeLookup_type,builtinLookup_eq_fast];kernel_rfl) (by decide +kernel) (by decide +kernel) (by decide +kernel)
  (by first|exact .inl (by decide +kernel)|exact .inr (by decide +kernel)) (by rw [isSubtype_type];kernel_rfl)
theorem aI1:Slot "reversed" "__init__" "object.__init__":=
 .of (owner:="object") (n:="__init__") (by rw [typeLookup_type,builtinLookup_eq_fast];kernel_rfl) (by decide +kernel) (by decide +kernel) (by decide +kernel)
  (by first|exact .inl (by decide +kernel)|exact .inr (by decide +kernel)) (by rw [isSubtype_type];kernel_rfl)
theorem entry_next:entryFor table "reversed.__next__"=some Builtin.«reversed.__next__»:=entryFor_of_tree (by kernel_rfl)
theorem aFi:entryFor table "reversed.__iter__"=some Builtin.«dict_keyiterator.__iter__»:=
 entryFor_alias (id':="dict_keyiterator.__iter__") (by kernel_rfl) (by first|rfl|decide +kernel|(unfold String.splitOn;simp +decide [String.splitOnAux])) (by decide +kernel) (by kernel_rfl)
theorem aJt:entryFor table "reversed.__new__"=some Builtin.«reversed.__new__»:=entryFor_of_tree (by kernel_rfl)
theorem owner:Manifest.owners.lookup (String.ofList ['d','e','s','r','e','v','e','r'].reverse)=some Manifest.sig_reversed:=by kernel_rfl
theorem sY (a:Value):argsOk "reversed.__next__" ⟨[a],[]⟩:=by
 unfold argsOk;rw [signature?_of (id:="reversed.__next__") (n:=['_','_','t','x','e','n','_','_']) (o:=['d','e','s','r','e','v','e','r']) (by kernel_rfl) owner];kernel_rfl
theorem aDu (a:Value):argsOk "reversed.__iter__" ⟨[a],[]⟩:=by
 unfold argsOk;rw [signature?_of (id:="reversed.__iter__") (n:=['_','_','r','e','t','i','_','_']) (o:=['d','e','s','r','e','v','e','r']) (by kernel_rfl) owner];kernel_rfl
theorem mro:mroOf (.type "reversed")=pure [.type "reversed",.type "object"]:=by rw [mroOf_type];kernel_rfl
theorem aFk:typeLookup (.type "reversed") "__new__"=pure (some (.builtin "reversed.__new__")):=by rw [typeLookup_type,builtinLookup_eq_fast];kernel_rfl
theorem sub_self:isSubtype (.type "reversed") (.type "reversed")=pure true:=by rw [isSubtype_type];kernel_rfl
theorem called:TypeCalled "reversed" "reversed.__new__" "object.__init__":=
 ⟨by decide +kernel,by decide +kernel,⟨_,_,mro⟩,madeBy_type mro aFk (by decide +kernel),by decide +kernel,sub_self,aI1⟩
theorem aFb (a:Value):checkTypeCall "reversed" ⟨[a],[]⟩=pure ():=by kernel_rfl
theorem aIv (a:Value):checkBuiltinCall "reversed.__new__" ⟨[.type "reversed",a],[]⟩=pure ():=by kernel_rfl
end RvF
theorem aDd (a:Value):Builtin.SmallTypes.newClass "reversed" ⟨[.type "reversed",a],[]⟩=pure (.type "reversed",[a]):=by
 unfold Builtin.SmallTypes.newClass
 simp only [isType,RvF.sub_self,pure_bind,Bool.not_true,Bool.false_eq_true,if_false]
section
variable {prog:Program} {w:World} {A:Around} {E:Value→Shared→Prop} {s:Shared}
end
end PySem
namespace L2
open PySem PySem.Spec PyProof.Rows
theorem aGz:bootBuiltins "int"=some (.type "int"):=by decide +kernel
theorem aH5:bootBuiltins "bool"=some (.type "bool"):=by decide +kernel
theorem aFm:bootBuiltins "str"=some (.type "str"):=by decide +kernel
theorem qM:bootBuiltins "list"=some (.type "list"):=by decide +kernel
theorem bV:bootBuiltins "tuple"=some (.type "tuple"):=by decide +kernel
theorem aOq:bootBuiltins "set"=some (.type "set"):=by decide +kernel
theorem aCo:bootBuiltins "reversed"=some (.type "reversed"):=by decide +kernel
theorem aOc:bootBuiltins "zip"=some (.type "zip"):=by decide +kernel
theorem zK:bootBuiltins "enumerate"=some (.type "enumerate"):=by decide +kernel
theorem aY:bootBuiltins "isinstance"=some (.builtin "isinstance"):=by decide +kernel
theorem bY:bootBuiltins "len"=some (.builtin "len"):=by decide +kernel
theorem aBo:bootBuiltins "all"=some (.builtin "all"):=by decide +kernel
theorem aKg:bootBuiltins "any"=some (.builtin "any"):=by decide +kernel
theorem fP:bootBuiltins "sorted"=some (.builtin "sorted"):=by decide +kernel
theorem aN6:bootBuiltins "abs"=some (.builtin "abs"):=by decide +kernel
def sgn (x:Str) (i:Nat):Str:=⟨#[x.cps.getD i 0]⟩
theorem aKx {x:Str} {i c:Nat} (h:x.cps[i]?=some c):(⟨#[c]⟩:Str)=sgn x i:=by
 unfold sgn
 rw [Array.getD_eq_getD_getElem?,h]
 rfl
def Its (x:Str):It:=⟨fun i _=>i<x.cps.size,fun i H v H'=>H'=H∧v=.str (sgn x i),fun i _=>x.cps.size≤i⟩
theorem aJa {P:Program} {w:World} {K:PySem.W.Frag} {tg:Expr} (it:Addr) (x:Str) (t:Tok):Turn P w K tg (Its x) [it] it (fun i h=>h.IsStrIter it "str_ascii_iterator" x t i) where
 mem:=by simp
 obj:=fun i h st b hb=>by
  have e:b=it:=by simpa using hb
  subst e
  obtain ⟨o,e,c,d⟩:=st
  exact ⟨o,e,fun v z=>by rw [d] at z;cases z⟩
 keep:=fun i h h' st k=>let ⟨o,ho,r⟩:=st;⟨o,k it (by simp) o ho,r⟩
 item:=by
  intro X hP hw hK hc i pins s σ H E I hf st hg
  subst hP hw hK
  obtain ⟨f0,f1,f2,f3,f4,f5⟩:=hf it (by simp)
  refine (Walks.strAscii (prog:=X.prog) (w:=X.w) (I.ok.hd hc) it x t).item i s _ _ hg st fun v h' tk hv st' kk=>?_
  obtain ⟨c,u,hcx,rfl⟩:=hv
  have I1:Inv X pins σ H { s with heap:=h',toks:=tk }:=I.turned (fun b o hb e=>kk b o (by simpa using hb) e) f0 f1 f3 f4 f5
  obtain ⟨o,e,c',d⟩:=id st'
  exact ⟨_,rfl,go_of (s:={ s with heap:=h',toks:=tk }) e c' d (by decide) ⟨.str ⟨#[c]⟩,H,I1,⟨u,rfl⟩,⟨rfl,by rw [aKx hcx]⟩,st',fun b hb=>(hf b hb).1⟩⟩
 done:=by
  intro X hP hw hK hc i pins s σ H E I hf st hg
  subst hP hw hK
  obtain ⟨f0,f1,f2,f3,f4,f5⟩:=hf it (by simp)
  exact wpAny_pyNext_ascii_end (I.ok.hd hc) st (Array.getElem?_eq_none_iff.mpr hg) fun h' eb=>⟨rfl,I.turned (t':=s.toks) (fun b o hb e=>eb b o hb e) f0 f1 f3 f4 f5⟩
 self:=fun _ _ _ _ _ st h=>wpAny_pyIter_striter_ascii st h
theorem aIp {P:Program} {w:World} {K:PySem.W.Frag} {tg:Expr} (it:Addr) (x:Str) (t:Tok):Turn P w K tg (Its x) [it] it (fun i h=>h.IsStrIter it "str_iterator" x t i) where
 mem:=by simp
 obj:=fun i h st b hb=>by
  have e:b=it:=by simpa using hb
  subst e
  obtain ⟨o,e,c,d⟩:=st
  exact ⟨o,e,fun v z=>by rw [d] at z;cases z⟩
 keep:=fun i h h' st k=>let ⟨o,ho,r⟩:=st;⟨o,k it (by simp) o ho,r⟩
 item:=by
  intro X hP hw hK hc i pins s σ H E I hf st hg
  subst hP hw hK
  obtain ⟨f0,f1,f2,f3,f4,f5⟩:=hf it (by simp)
  refine (Walks.strWide (prog:=X.prog) (w:=X.w) (I.ok.hd hc) it x t).item i s _ _ hg st fun v h' tk hv st' kk=>?_
  obtain ⟨c,u,hcx,rfl⟩:=hv
  have I1:Inv X pins σ H { s with heap:=h',toks:=tk }:=I.turned (fun b o hb e=>kk b o (by simpa using hb) e) f0 f1 f3 f4 f5
  obtain ⟨o,e,c',d⟩:=id st'
  exact ⟨_,rfl,go_of (s:={ s with heap:=h',toks:=tk }) e c' d (by decide) ⟨.str ⟨#[c]⟩,H,I1,⟨u,rfl⟩,⟨rfl,by rw [aKx hcx]⟩,st',fun b hb=>(hf b hb).1⟩⟩
 done:=by
  intro X hP hw hK hc i pins s σ H E I hf st hg
  subst hP hw hK
  obtain ⟨f0,f1,f2,f3,f4,f5⟩:=hf it (by simp)
  exact wpAny_pyNext_wide_end (I.ok.hd hc) st (Array.getElem?_eq_none_iff.mpr hg) fun h' eb=>⟨rfl,I.turned (t':=s.toks) (fun b o hb e=>eb b o hb e) f0 f1 f3 f4 f5⟩
 self:=fun _ _ _ _ _ st h=>wpAny_pyIter_striter_wide st h
section
variable {X:Cx} {tg:Expr}
def aOn (tl:TE):TI:=fun σ H R=>tl σ H fun x H1=>∃z,x=.str z∧R (Its z) H1
theorem aOr {l:Expr} {tl:TE} (hl:PE X l tl):PI X tg l (aOn tl):=by
 intro pins s σ H R I h
 refine thn (hl pins s σ H _ I h) fun v s1 ⟨x,H1,I1,r1,q1⟩=>?_
 obtain ⟨z,e,q⟩:=q1
 subst e
 obtain ⟨t,rfl⟩:=r1
 have fp:∀b∈[s1.heap.objs.size],FpOk X pins H1 b:=fun b hb=>by
  have e:b=s1.heap.objs.size:=by simpa using hb
  subst e
  exact I1.fpOk (Nat.le_refl _) (I1.hok.fresh (Nat.le_refl _))
 cases ha:z.cps.all (·<128)
 ·exact wpAny_pyIter_wide ha ⟨s1.heap.objs.size,[s1.heap.objs.size],_,_,H1,rfl,I1.kept (t':=s1.toks) fun b o e=>Heap.get?_push_of_some _ e,aIp _ z t,⟨_,Heap.get?_push_size _ rfl,rfl,rfl⟩,fp,q⟩
 ·exact wpAny_pyIter_ascii ha ⟨s1.heap.objs.size,[s1.heap.objs.size],_,_,H1,rfl,I1.kept (t':=s1.toks) fun b o e=>Heap.get?_push_of_some _ e,aJa _ z t,⟨_,Heap.get?_push_size _ rfl,rfl,rfl⟩,fp,q⟩
def aE0 (x:V) (T:String):Option Bool:=match x with
 |.int _=>if T = "int" then some true else if T = "bool" then some false else if T = "str" then some false else none
 |.str _=>if T = "int" then some false else if T = "bool" then some false else if T = "str" then some true else none
 |.bl _=>if T = "int" then some true else if T = "bool" then some true else if T = "str" then some false else none
 |_=>none
def aPo:List V→Hp→VK→Prop:=fun xs H Q=>∃x T b,xs=[x,.ty T]∧aE0 x T=some b∧Q (.bl b) H
theorem mC:CallR X (.builtin "isinstance") aPo:=by
 intro pins s σ H xs us Q I r h
 obtain ⟨x,T,b,rfl,e,q⟩:=h
 obtain ⟨u,v,rfl,rx,rT⟩:=r.two
 cases rT
 have f0:∀{k:Bool},some k=some b→EP X pins σ Q (.bool k) s:=fun e=>by cases e;exact ⟨.bl _,H,I,rfl,q⟩
 have f1:∀{k:Bool},some k=some b→EP X pins σ Q (.bool k) { s with toks:=s.toks+1 }:=fun e=>by cases e;exact ⟨.bl _,H,I.tok _,rfl,q⟩
 cases x with
 |int i=>
  obtain ⟨t,rfl⟩:=rx
  unfold aE0 at e
  dsimp only at e
  split at e
  ·rename_i hT;subst hT;exact IsiPair.int_int (f0 e)
  split at e
  ·rename_i hT;subst hT;exact IsiPair.int_bool (f1 e)
  split at e
  ·rename_i hT;subst hT;exact IsiPair.int_str (f1 e)
  ·cases e
 |str z=>
  obtain ⟨t,rfl⟩:=rx
  unfold aE0 at e
  dsimp only at e
  split at e
  ·rename_i hT;subst hT;exact IsiPair.str_int (f1 e)
  split at e
  ·rename_i hT;subst hT;exact IsiPair.str_bool (f1 e)
  split at e
  ·rename_i hT;subst hT;exact IsiPair.str_str (f0 e)
  ·cases e
 |bl z=>
  cases rx
  unfold aE0 at e
  dsimp only at e
  split at e
  ·rename_i hT;subst hT;exact IsiPair.bool_int (f0 e)
  split at e
  ·rename_i hT;subst hT;exact IsiPair.bool_bool (f0 e)
  split at e
  ·rename_i hT;subst hT;exact IsiPair.bool_str (f1 e)
  ·cases e
 |_=>cases (show (none:Option Bool)=some b from e)
end
theorem small {n:Nat} (h:n≤1000):n≤sizeLine:=Nat.le_of_lt (small1000 h)
theorem bU:Vals [] []:=.nil
theorem aU {x:V} {u:Value} {xs:List V} {us:List Value} (r:RelV x u) (t:Vals xs us):Vals (x::xs) (u::us):=.cons r t
def cI:Expr→Bool
 |.Starred ..=>false
 |_=>true
theorem aW {e:Expr} {es:List Expr} {env:Env} (h:cI e=true):starEach (e::es) env=(false,eval e env)::starEach es env:=by
 cases e <;> first|rfl|cases h
theorem aN7 {X:Cx} {e:Expr} {es:List Expr} {te:TE} {t:TA} (ha:PE X e te) (hr:PA X es t) (hp:cI e=true:=by rfl) :
  PA X (e::es) (tCons te t):=pa_cons ha hr (aW hp)
theorem aPd {X:Cx} {x:Str} {v:V} {pos:Pos} (hg:Gl X x) (hm:∃u,X.mg x=some u∧RelV v u) (hd:(x == ("__debug__":Str))=false:=by decide):PE X (.Name x pos) (tC v):=by
 obtain ⟨u,hm,r⟩:=hm
 exact pe_glob hg hm r hd
section
variable {P:Program} {w:World} {K:PySem.W.Frag} {mg:Str→Option Value} {base:Heap}
def Dn (K:PySem.W.Frag) (mg:Str→Option Value) (x:Str) (st:Stmt) (ps:List Str):Prop:=∃f fd,Fun K x x st f fd∧Binds K fd ps []∧mg x=some (.ref f)
def Ok (P:Program) (w:World) (K:PySem.W.Frag) (mg:Str→Option Value) (base:Heap) (k:Nat) (x:Str) (ps:List Str) (sp:Sp):Prop:=
 ∃f fd,mg x=some (.ref f)∧PySem.W.keepIn K (.ref f)=true∧Binds K fd ps []∧FnOk P w K mg base CX0 k f fd ps sp
theorem Ok.mono {j k:Nat} {x:Str} {ps:List Str} {sp:Sp} (h:Ok P w K mg base j x ps sp) (hj:j≤k):Ok P w K mg base k x ps sp:=by
 obtain ⟨f,fd,h1,h2,h3,h4⟩:=h
 exact ⟨f,fd,h1,h2,h3,h4.mono hj⟩
theorem Ok.of {x:Str} {st:Stmt} {N ps:List Str} {k:Nat} {sp:Sp} (D:Dn K mg x st ps) (S:FnScope N ps (defScope st)) (len:∀vs H Q E,sp vs H Q E→vs.length=ps.length)
  (hbody:∀(f:Addr) (cdv:Value) (A:Around) (outer:List Env) (s:Shared) (H:Hp) (vs:List V) (Q:VK) (E:XK),Room k (A.deeper (envOfC x (defScope st) s.heap.objs.size f cdv))→sp vs H Q E →
   ∃t,PSs (cxOf CX0 P w K mg base N x (defScope st) f cdv A outer s H E).nox (defBody st) t∧t { nx:=fun _ H'=>Q .non H',rt:=Q } (start N vs) H):Ok P w K mg base (k+1) x ps sp:=by
 obtain ⟨f,fd,F,B,m⟩:=D
 exact ⟨f,fd,m,F.kp,B,F.ok S len fun cdv A outer s H vs Q E hr h=>hbody f cdv A outer s H vs Q E hr h⟩
end
section
variable {X:Cx} {k:Nat} {ps:List Str} {sp:Sp} {x:Str} {p pos:Pos} {e:Expr} {es:List Expr} {t:TA}
theorem aPn (G:Ok X.prog X.w X.K X.mg X.base k x ps sp) (hr:Room k X.A) (hg:Gl X x) (ha:PA X (e::es) t) (hdb:(x == ("__debug__":Str))=false:=by decide)
  (he:starEach (e::es) X.env=(false,eval e X.env)::starEach es X.env:=by rfl) (hpl:(backTo pos (starEach es X.env)).any (·.1)=false:=by rfl) :
  PE X (.Call (.Name x p) (e::es) [] pos) (tCall sp [] E0 t):=by
 obtain ⟨f,fd,h1,h2,h3,h4⟩:=G
 exact pe_call h4 hr hg h1 h2 h3 .nil pass0 ha hdb he hpl
theorem aO5 (G:Ok X.prog X.w X.K X.mg X.base k x ps sp) (hr:Room k X.A) (hg:Gl X x) (hdb:(x == ("__debug__":Str))=false:=by decide) :
  PE X (.Call (.Name x p) [] [] pos) (tCall sp [] E0 tNil):=by
 obtain ⟨f,fd,h1,h2,h3,h4⟩:=G
 exact pe_call0 h4 hr hg h1 h2 h3 .nil pass0 hdb
end
theorem oY {env:Env} (f:Str × NameKind→List (Str × Addr)→Sem (ForInStep (List (Str × Addr))))
  (h1:∀n r,f (n,.free) r=(cellOf env n >>= fun a=>pure (.yield ((n,a)::r)))) (h2:∀n k r,k≠.free→f (n,k) r=pure (.yield r)) :
  ∀(names:List (Str × NameKind)) (acc:List (Str × Addr)),(∀y∈names,y.2=.free→∃c,env.cells.lookup y.1=some c) →
  ∃cl,forIn names acc f=(pure (cl++acc):Sem _)∧(∀p∈cl,env.cells.lookup p.1=some p.2∧(p.1,NameKind.free)∈names)∧∀y,(y,NameKind.free)∈names→∃c,(y,c)∈cl
 |[],acc,_=>⟨[],by simp,fun _ h=>(nomatch h),fun _ h=>(nomatch h)⟩
 |(n,k)::r,acc,h=>by
  by_cases hk:k=.free
  ·subst hk
   obtain ⟨c,hc⟩:=h (n,.free) List.mem_cons_self rfl
   obtain ⟨cl,e,p1,p2⟩:=oY f h1 h2 r ((n,c)::acc) fun y hy=>h y (List.mem_cons_of_mem _ hy)
   refine ⟨cl++[(n,c)],?_,fun p hp=>?_,fun y hy=>?_⟩
   ·rw [List.forIn_cons,h1]
    have e0:cellOf env n=pure c:=by unfold cellOf;rw [hc]
    rw [e0,pure_bind,pure_bind]
    show forIn r ((n,c)::acc) f=_
    rw [e,List.append_assoc]
    rfl
   ·rcases List.mem_append.mp hp with hp|hp
    ·exact ⟨(p1 p hp).1,List.mem_cons_of_mem _ (p1 p hp).2⟩
    ·obtain rfl:=List.mem_singleton.mp hp
     exact ⟨hc,List.mem_cons_self⟩
   ·rcases List.mem_cons.mp hy with e|hy
    ·cases e
     exact ⟨c,by simp⟩
    ·obtain ⟨c',q⟩:=p2 y hy
     exact ⟨c',List.mem_append_left _ q⟩
  ·obtain ⟨cl,e,p1,p2⟩:=oY f h1 h2 r acc fun y hy=>h y (List.mem_cons_of_mem _ hy)
   refine ⟨cl,?_,fun p hp=>⟨(p1 p hp).1,List.mem_cons_of_mem _ (p1 p hp).2⟩,fun y hy=>?_⟩
   ·rw [List.forIn_cons,h2 n k acc hk,pure_bind]
    exact e
   ·rcases List.mem_cons.mp hy with e|hy
    ·cases e
     exact absurd rfl hk
    ·exact p2 y hy
theorem uR {scope:Scope} {env:Env} (h:∀y∈scope.names,y.2=.free→∃c,env.cells.lookup y.1=some c) :
  ∃cl,closureFor scope env=pure cl∧(∀p∈cl,env.cells.lookup p.1=some p.2∧(p.1,NameKind.free)∈scope.names)∧∀y,(y,NameKind.free)∈scope.names→∃c,(y,c)∈cl:=by
 unfold closureFor
 obtain ⟨cl,e,p1,p2⟩:=oY (env:=env) (fun x r=>match x with|(name,kind)=>if (kind == NameKind.free)=true then do let a ←cellOf env name;pure (.yield ((name,a)::r)) else pure (.yield r))
  (fun n r=>rfl) (fun n k r hk=>by
   have:(k == NameKind.free)=false:=by simpa using hk
   simp only [this,Bool.false_eq_true,if_false]) scope.names [] h
 refine ⟨cl,?_,p1,p2⟩
 rw [List.append_nil] at e
 refine Eq.trans ?_ e
 first
 |rfl
 |simp
theorem lookup_mem {α β:Type} [BEq α] [LawfulBEq α] {a:α} {b:β}:∀{l:List (α × β)},(a,b)∈l→∃b',l.lookup a=some b'
 |(x,y)::r,h=>by
  rw [List.lookup_cons]
  by_cases e:(a == x)=true
  ·exact ⟨y,by rw [e]⟩
  ·have e':(a == x)=false:=by simpa using e
   rw [e']
   rcases List.mem_cons.mp h with z|z
   ·cases z
    simp at e
   ·exact lookup_mem z
theorem pW {env:Env} {y:Str} {k:NameKind}:∀{names:List (Str × NameKind)},names.lookup y=some .free →
  (names.map fun (x:Str × NameKind)=>match x with|(n,k)=>if (k == NameKind.free && env.scope.kind == ScopeKind.function && env.kindOf n == some NameKind.cell) then (n,NameKind.cell) else (n,k)).lookup y=some .cell ∨
  (names.map fun (x:Str × NameKind)=>match x with|(n,k)=>if (k == NameKind.free && env.scope.kind == ScopeKind.function && env.kindOf n == some NameKind.cell) then (n,NameKind.cell) else (n,k)).lookup y=some .free
 |[],h=>by simp at h
 |(n,k')::r,h=>by
  rw [List.map_cons]
  rw [List.lookup_cons] at h
  by_cases e:(y == n)=true
  ·rw [e] at h
   cases h
   by_cases q:((NameKind.free == NameKind.free) && env.scope.kind == ScopeKind.function && env.kindOf n == some NameKind.cell)=true
   ·left
    simp only [q,if_true,List.lookup_cons,e]
   ·right
    have q':=Bool.eq_false_iff.mpr q
    simp only [q',Bool.false_eq_true,if_false,List.lookup_cons,e]
  ·have e':(y == n)=false:=by simpa using e
   rw [e'] at h
   have ih:=pW (env:=env) (k:=k) h
   have key:∀z:Str × NameKind,z.1=n→(List.lookup y (z::(r.map fun (x:Str × NameKind)=>match x with|(n,k)=>if (k == NameKind.free && env.scope.kind == ScopeKind.function && env.kindOf n == some NameKind.cell) then (n,NameKind.cell) else (n,k)))) =
     List.lookup y (r.map fun (x:Str × NameKind)=>match x with|(n,k)=>if (k == NameKind.free && env.scope.kind == ScopeKind.function && env.kindOf n == some NameKind.cell) then (n,NameKind.cell) else (n,k)):=fun z hz=>by
    obtain ⟨z1,z2⟩:=z
    cases hz
    rw [List.lookup_cons,e']
   have kz:(match ((n,k'):Str × NameKind) with|(n,k)=>if (k == NameKind.free && env.scope.kind == ScopeKind.function && env.kindOf n == some NameKind.cell) then (n,NameKind.cell) else (n,k)).1=n:=by
    dsimp only
    split <;> rfl
   rw [key _ kz]
   exact ih
theorem qK {env:Env} {y:Str}:∀{names:List (Str × NameKind)},(∀z∈names,z.2≠.cell) →
  ((names.map fun (x:Str × NameKind)=>match x with|(n,k)=>if (k == NameKind.free && env.scope.kind == ScopeKind.function && env.kindOf n == some NameKind.cell) then (n,NameKind.cell) else (n,k)).lookup y=some .cell ∨
  (names.map fun (x:Str × NameKind)=>match x with|(n,k)=>if (k == NameKind.free && env.scope.kind == ScopeKind.function && env.kindOf n == some NameKind.cell) then (n,NameKind.cell) else (n,k)).lookup y=some .free)→(y,NameKind.free)∈names
 |[],_,h=>by simp at h
 |(n,k')::r,hc,h=>by
  rw [List.map_cons] at h
  by_cases e:(y == n)=true
  ·have ey:y=n:=by simpa using e
   subst ey
   have hk:k'=.free:=by
    by_cases q:((k' == NameKind.free) && env.scope.kind == ScopeKind.function && env.kindOf y == some NameKind.cell)=true
    ·rw [Bool.and_eq_true,Bool.and_eq_true] at q
     simpa using q.1.1
    ·have q':=Bool.eq_false_iff.mpr q
     simp only [q',Bool.false_eq_true,if_false,List.lookup_cons,e] at h
     rcases h with h|h
     ·cases h
      exact absurd rfl (hc (y,.cell) List.mem_cons_self)
     ·cases h;rfl
   subst hk
   exact List.mem_cons_self
  ·have e':(y == n)=false:=by simpa using e
   have key:∀z:Str × NameKind,z.1=n→(List.lookup y (z::(r.map fun (x:Str × NameKind)=>match x with|(n,k)=>if (k == NameKind.free && env.scope.kind == ScopeKind.function && env.kindOf n == some NameKind.cell) then (n,NameKind.cell) else (n,k)))) =
     List.lookup y (r.map fun (x:Str × NameKind)=>match x with|(n,k)=>if (k == NameKind.free && env.scope.kind == ScopeKind.function && env.kindOf n == some NameKind.cell) then (n,NameKind.cell) else (n,k)):=fun z hz=>by
    obtain ⟨z1,z2⟩:=z
    cases hz
    rw [List.lookup_cons,e']
   have kz:(match ((n,k'):Str × NameKind) with|(n,k)=>if (k == NameKind.free && env.scope.kind == ScopeKind.function && env.kindOf n == some NameKind.cell) then (n,NameKind.cell) else (n,k)).1=n:=by
    dsimp only
    split <;> rfl
   rw [key _ kz] at h
   exact List.mem_cons_of_mem _ (qK (fun z hz=>hc z (List.mem_cons_of_mem _ hz)) h)
section
variable {prog:Program} {w:World} {A:Around} {E:Value→Shared→Prop} {R:Result→Shared→Prop} {s:Shared}
theorem yE {elt target iter:Expr} {ifs:List Expr} {scope:Scope} {pos:Pos} {it acc:Value} {env:Env} (I:Nat→Shared→Prop)
  (turn:∀n s,I n s→wpAny (model prog w) A (pyNext it) (fun r s₁=>match r with
   |none=>R (.ok .next) s₁
   |some v=>wpAny (model prog w) A (letOwnedTupleGo target it v) (fun _ s'=>wpAny (model prog w) A (assign target env v) (fun _ s₂=>
     wpAny (model prog w) A (forIn ifs true fun c r=>if r=true then do let ok ←isTrue c env (eval c env);pure (ForInStep.yield ok) else pure (ForInStep.yield r)) (fun ok s₃=>
      if ok=true then wpAny (model prog w) A (eval elt env) (fun x s₄=>
       wpAny (model prog w) A (call (.builtin "list.append") [acc,x]) (fun _ s₅=>∃m,m<n∧I m s₅) (notedBy (model prog w) A env fun e s'=>R (.error e) s') s₄) (notedBy (model prog w) A env fun e s'=>R (.error e) s') s₃
      else ∃m,m<n∧I m s₃) (notedBy (model prog w) A env fun e s'=>R (.error e) s') s₂) (notedBy (model prog w) A env fun e s'=>R (.error e) s') s') (notedBy (model prog w) A env fun e s'=>R (.error e) s') s₁)
   (notedBy (model prog w) A env fun e s'=>R (.error e) s') s)
  (n:Nat) (h:I n s):codeAny (model prog w) A (.compLoop (.ListComp elt [⟨target,iter,ifs,0⟩] scope pos) 0 it acc env) R s:=by
 refine codeAny_loop rfl I (fun n s hI=>?_) n h
 show wpAny _ A ((compTurn (.ListComp elt [⟨target,iter,ifs,0⟩] scope pos) 0 it acc env).onRaise (fun x=>do noteFrame x env;theTreesLotGoes x)) _ _ s
 refine wpAny_noted ?_
 rw [compTurn_list]
 refine wpAny_bind (wpAny_standAt (wpAny_bind (wpAny_mono (turn n s hI) (fun r s₁ h₁=>?_) fun _ _ h'=>h')))
 cases r with
 |none=>exact wpAny_pure h₁
 |some v=>
  refine wpAny_bind (wpAny_mono h₁ (fun _ s' h₁'=>wpAny_bind (wpAny_mono h₁' (fun _ s₂ h₂=>wpAny_bind (wpAny_mono h₂ (fun ok s₃ h₃=>?_) fun _ _ h'=>h')) fun _ _ h'=>h')) fun _ _ h'=>h')
  cases ok with
  |false=>exact wpAny_pure ⟨rfl,h₃⟩
  |true=>
   exact wpAny_bind (wpAny_bind (wpAny_mono h₃ (fun x s₄ h₄=>wpAny_bind (wpAny_mono h₄ (fun _ s₅ h₅=>wpAny_pure (wpAny_pure ⟨rfl,h₅⟩)) fun _ _ h'=>h')) fun _ _ h'=>h'))
end
def cxC (X:Cx) (N:List Str) (scope:Scope) (cl:List (Str × Addr)) (s:Shared) (H:Hp) (fp:List Addr):Cx:=
 { X with N:=N,s₀:=s,H₀:=H,env:=compEnvC scope cl s.heap.objs.size X.env,outer:=X.stack,stack:=X.stack,ex:=fp,fn:=fun _=>false,pn:=[],xe:=fun _ _=>False }
def aL5 (X:Cx) (ifs:List Expr) (tt:TT):Prop:=
 ∀(pins:List (Addr × Obj)) (s:Shared) (σ:St) (H:Hp) (Q:Bool→Hp→Prop),Inv X pins σ H s→tt σ H Q →
  wpAny (model X.prog X.w) X.A (forIn ifs true fun c r=>if r=true then do let ok ←isTrue c X.env (eval c X.env);pure (ForInStep.yield ok) else pure (ForInStep.yield r)) (TP X pins σ Q) X.xe s
def mU:TT:=fun _ H Q=>Q true H
theorem aOl {X:Cx}:aL5 X [] mU:=fun _ _ _ H _ I h=>wpAny_tests_nil ⟨H,I,h⟩
theorem aOs {X:Cx} {c:Expr} {tc:TT} (h:PT X c tc):aL5 X [c] tc:=fun pins s σ H Q I q=>wpAny_tests_one (h pins s σ H Q I q)
structure vW (scope:Scope) (N:List Str):Prop where
 cell:∀y∈scope.names,y.2≠.cell
 kind:scope.kind=.function
 names:∀y∈scope.names,y.2=.local→scope.names.lookup y.1=some .local
 free:∀y∈scope.names,y.2=.free→scope.names.lookup y.1=some .free
def Cap (X:Cx) (scope:Scope) (N:List Str) (σ σ':St):Prop:=
 σ'.length=N.length∧∀(i:Nat) (y:Str) (v:V),N[i]?=some y→σ'[i]?=some (some v)→(y,NameKind.free)∈scope.names∧∃j:Nat,X.N[j]?=some y∧σ[j]?=some (some v)∧Vis X.env.scope y
theorem aD5 {X:Cx} {pins:List (Addr × Obj)} {σ σ':St} {H:Hp} {s:Shared} {scope:Scope} {N:List Str} {cl:List (Str × Addr)} {fp:List Addr} {h1:Heap} {tk:Nat} {m1:Str→Option Value}
  (I:Inv X pins σ H s) (C:vW scope N) (hfr:∀y,(y,NameKind.free)∈scope.names→X.env.kindOf y=some .cell∨X.env.kindOf y=some .free)
  (p1:∀p∈cl,X.env.cells.lookup p.1=some p.2∧(p.1,NameKind.free)∈scope.names) (p2:∀y,(y,NameKind.free)∈scope.names→∃c,(y,c)∈cl)
  (cap:Cap X scope N σ σ') (hf:∀b∈fp,FpOk X pins H b) (hfl:∀b∈fp,b<s.heap.objs.size)
  (hn:h1.Ns s.heap.objs.size m1) (hk:∀b o,s.heap.get? b=some o→h1.get? b=some o) :
  Inv (cxC X N scope cl s H fp) [] σ' H { s with heap:=h1,toks:=tk }:=by
 have ok:=I.ok
 have lk:∀y c,cl.lookup y=some c→X.env.cells.lookup y=some c:=fun y c e=>(p1 _ (PySem.mem_of_lookup e)).1
 have lk2:∀y,(y,NameKind.free)∈scope.names→∃c,cl.lookup y=some c∧X.env.cells.lookup y=some c:=fun y hy=>by
  obtain ⟨c,hc⟩:=p2 y hy
  obtain ⟨c',e⟩:=lookup_mem hc
  exact ⟨c',e,lk y c' e⟩
 have fsub:∀b∈fp,b∉frs X.stack:=fun b hb z=>by
  obtain ⟨f0,f1,f2,_⟩:=hf b hb
  rcases List.mem_cons.mp (I.stkSub b z) with e|e
  ·exact f1 e
  ·exact f2 e
 have ok':(cxC X N scope cl s H fp).Ok:=by
  refine ⟨ok.mod,C.kind,ok.glob,ok.blt,Nat.le_refl _,fun x y c h1 h2=>ok.inj x y c (lk x c h1) (lk y c h2),fun y hy=>?_,fun y c h _=>?_,ok.hd,ok.frames,.inl rfl,fun b hb=>?_,I.bs,Nat.le_trans ok.bsz I.sz,
   fun b o e hb=>?_,fsub,I.stack,I.stkFree⟩
  ·obtain ⟨c,e,_⟩:=lk2 y (qK (env:=X.env) C.cell hy)
   exact ⟨c,e⟩
  ·exact absurd (show false=true from h) Bool.false_ne_true
  ·obtain ⟨f0,f1,f2,f3,f4,f5⟩:=hf b hb
   exact ⟨Nat.ne_of_lt (hfl b hb),fun x c e=>f4 x c (lk x c e)⟩
  ·obtain ⟨f0,f1,f2,f3,f4,f5⟩:=hf b hb
   rcases f3 with z|z
   ·exact ok.noex b o e z
   ·exact absurd (Nat.lt_of_lt_of_le (Heap.lt_size e) (Nat.le_trans ok.bsz z)) (Nat.lt_irrefl _)
 refine ⟨ok',rfl,I.bare,Un.kept hk,⟨m1,hn,fun i y v e1 e2 e3=>?_⟩,fun y c e=>?_,I.hok.fresh (Nat.le_refl _),fun y c e=>I.freeC y c (lk y c e),fun p hp=>absurd (show p∈([]:List (Addr × Obj)) from hp) (by simp),I.hok.kept hk,cap.1⟩
 ·obtain ⟨hy,j,e4,e5,e6⟩:=cap.2 i y v e1 e2
  obtain ⟨m,_,hl⟩:=I.loc
  obtain ⟨u,r,l⟩:=hl j y v e4 e5 e6
  refine ⟨u,r,.inr ?_⟩
  rcases l with ⟨k,_⟩|⟨k,c,e,z⟩
  ·rcases hfr y hy with q|q <;> (rw [k] at q;cases q)
  ·obtain ⟨c',e',e''⟩:=lk2 y hy
   rw [e] at e''
   cases e''
   have rl:=pW (env:=X.env) (k:=.free) (C.free (y,.free) hy rfl)
   refine ⟨rl,c,e',?_⟩
   obtain ⟨o,ho,hd⟩:=z
   exact ⟨o,hk _ _ ho,hd⟩
 ·obtain ⟨v,o,ho,hd⟩:=I.cell y c (lk y c e)
  exact ⟨v,o,hk _ _ ho,hd⟩
def gO (X:Cx) (scope:Scope) (N:List Str) (wi:TI) (g:TG) (tt:TT) (te:TE):TE:=fun σ H Q=>∃σ0,Cap X scope N σ σ0∧wi σ H fun J H1=>∀D,H1 D=none→∃W:Nat→Nat→St→Hp→List V→Prop,(∃m,W 0 m σ0 (upd H1 D (.lst [])) []) ∧
 ∀i m σ' H' ys,W i m σ' H' ys→H' D=some (.lst ys)∧((J.stop i H'∧Q (.ref D) H')∨(J.go i H'∧∀x H2,J.yld i H' x H2→g x σ' H2 fun σ3 H3=>tt σ3 H3 fun b H4=>
  if b=true then te σ3 H4 fun y H5=>H5 D=some (.lst ys)∧ys.length<sizeLine∧∃m',m'<m∧W (i+1) m' σ3 (upd H5 D (.lst (ys++[y]))) (ys++[y]) else H4 D=some (.lst ys)∧∃m',m'<m∧W (i+1) m' σ3 H4 ys))
theorem aMo {X:Cx} {elt target iter:Expr} {ifs:List Expr} {scope:Scope} {pos:Pos} {N:List Str} {wi:TI} {g:TG} {tt:TT} {te:TE}
  (C:vW scope N) (hfr:∀y,(y,NameKind.free)∈scope.names→X.env.kindOf y=some .cell∨X.env.kindOf y=some .free) (hc:X.calm=true)
  (hi:PI X target iter wi)
  (hb:∀cl s H fp,PG (cxC X N scope cl s H fp) target g∧aL5 (cxC X N scope cl s H fp) ifs tt∧PE (cxC X N scope cl s H fp) elt te)
  (hs:∀x,foldedSetIterable iter X.env x=pure x:=by intro _;rfl) :
  PE X (.ListComp elt [⟨target,iter,ifs,0⟩] scope pos) (gO X scope N wi g tt te):=by
 intro pins s σ H Q I hq
 obtain ⟨σ0,cap,hq⟩:=hq
 obtain ⟨cl,hcl,p1,p2⟩:=uR (scope:=scope) (env:=X.env) (fun y hy hk=>by
  obtain ⟨n,k⟩:=y
  cases hk
  exact I.ok.has n (hfr n hy))
 rw [eval_ListComp]
 refine wpAny_comprehension_free (use:=none) rfl hs hcl C.kind C.names (thn (hi pins s σ H _ I hq) fun xv s1 h1=>thn h1 fun itv s2 h2=>?_)
 obtain ⟨it,fp,tn,J,H2,rfl,I2,T,st2,f2,q2⟩:=h2
 refine wpAny_newObj_type (wpAny_newFunctionEnv C.cell (by intro y hy;simp at hy) (fun h₁ hns₁ hsb₁=>?_) C.kind)
 dsimp only at hns₁ hsb₁ ⊢
 have hD:H2 s2.heap.objs.size=none:=I2.hok.fresh (Nat.le_refl _)
 have I3:Inv X pins σ (upd H2 s2.heap.objs.size (.lst [])) { s2 with heap:=s2.heap.push { cls:=.type "list",dict:=none,data:=.seq ([]:List Value).toArray } }:=
  I2.laid (t':=s2.toks) (fun b u e=>Heap.get?_push_of_some _ e) (Nat.le_refl _) ⟨Nat.zero_le _,[],0,.nil,Heap.get?_push_size _ rfl⟩
 generalize hs3:({ s2 with heap:=s2.heap.push { cls:=.type "list",dict:=none,data:=.seq ([]:List Value).toArray } }:Shared)=s3 at I3
 have hh3:s2.heap.push { cls:=.type "list",dict:=none,data:=.seq ([]:List Value).toArray }=s3.heap:=by rw [←hs3]
 rw [hh3] at hns₁ hsb₁
 have fl2:∀b∈fp,b<s2.heap.objs.size:=fun b hb=>by
  obtain ⟨o,e,_⟩:=T.obj _ _ st2 b hb
  exact Heap.lt_size e
 have fl3:∀b∈fp,b<s3.heap.objs.size:=fun b hb=>by
  rw [←hh3,Heap.size_push]
  exact Nat.lt_succ_of_lt (fl2 b hb)
 have f3:∀b∈fp,FpOk X pins (upd H2 s2.heap.objs.size (.lst [])) b:=fun b hb=>by
  obtain ⟨f0,fr⟩:=f2 b hb
  exact ⟨by rw [upd_ne (Nat.ne_of_lt (fl2 b hb))];exact f0,fr⟩
 have keep3:∀b o,s3.heap.get? b=some o→h₁.get? b=some o:=fun b o e=>hsb₁.extBut b o (Nat.ne_of_lt (Heap.lt_size e)) (Heap.get?_push_of_some _ e)
 have I4:=aD5 (tk:=s3.toks) I3 C hfr p1 p2 cap f3 fl3 hns₁ keep3
 have st4:tn 0 h₁:=T.keep _ _ _ st2 fun b hb o e=>keep3 b o (by rw [←hh3];exact Heap.get?_push_of_some _ e)
 obtain ⟨W,⟨m0,w0⟩,turn⟩:=q2 s2.heap.objs.size hD
 have fpc:∀{H':Hp},(∀b∈fp,H' b=none)→∀b∈fp,FpOk (cxC X N scope cl s3 (upd H2 s2.heap.objs.size (.lst [])) fp) [] H' b:=fun {H'} hn b hb=>by
  obtain ⟨e1,e2⟩:=I4.ok.exf b hb
  exact ⟨hn b hb,e1,I4.ok.exfs b hb,.inl hb,e2,fun p hp=>absurd (show p∈([]:List (Addr × Obj)) from hp) (by simp)⟩
 have loop:∀s4:Shared,s4={ s3 with heap:=h₁,toks:=s3.toks } →
   codeAny (model X.prog X.w) X.A (.compLoop (.ListComp elt [⟨target,iter,ifs,0⟩] scope pos) 0 (.ref it) (.ref s2.heap.objs.size) (compEnvC scope cl s3.heap.objs.size X.env))
    (compPost (model X.prog X.w) X.A X.xe none (EP X pins σ Q) (.ref s2.heap.objs.size) s3.heap.objs.size) s4:=by
  rintro s4 rfl
  refine yE (fun n s'=>∃i σ' H' ys,Inv (cxC X N scope cl s3 (upd H2 s2.heap.objs.size (.lst [])) fp) [] σ' H' s'∧tn i s'.heap∧(∀b∈fp,H' b=none)∧W i n σ' H' ys) ?_ m0 ⟨0,σ0,_,[],I4,st4,fun b hb=>(f3 b hb).1,w0⟩
  rintro n s5 ⟨i,σ5,H5,ys,I5,st5,fr5,w5⟩
  obtain ⟨hacc,w5⟩:=turn i n σ5 H5 ys w5
  have noE:∀{α:Type} {t:Sem α} {Q':α→Shared→Prop} {E':Value→Shared→Prop} {s':Shared},wpAny (model X.prog X.w) X.A t Q' (fun _ _=>False) s'→wpAny (model X.prog X.w) X.A t Q' E' s':=fun h=>wpAny_mono h (fun _ _ q=>q) fun _ _ z=>z.elim
  rcases w5 with ⟨stop,qn⟩|⟨go,step⟩
  ·refine noE (thn (T.done (cxC X N scope cl s3 (upd H2 s2.heap.objs.size (.lst [])) fp) rfl rfl rfl hc i [] s5 σ5 H5 _ I5 (fpc fr5) st5 stop) fun r s6 ⟨hr,I6⟩=>?_)
   subst hr
   obtain ⟨m6,hn6,_⟩:=I6.loc
   refine ⟨m6,hn6,fun h' sb=>?_⟩
   have kp:∀b o,b≠s3.heap.objs.size→s6.heap.get? b=some o→h'.get? b=some o:=fun b o hb e=>sb.extBut b o hb e
   have ne3:∀b o,s3.heap.get? b=some o→b≠s3.heap.objs.size:=fun b o e=>Nat.ne_of_lt (Heap.lt_size e)
   have un:Un (frs X.stack) fp (upd H2 s2.heap.objs.size (.lst [])) H5 s3.heap h':=by
    have u:=I6.base
    exact ⟨fun b o e n hb hx=>kp b o (ne3 b o e) (u.keep b o e n hb hx),fun b o e n hb hx=>by
     obtain ⟨sl,e1⟩:=u.slot b o e n hb hx
     exact ⟨sl,kp b _ (ne3 b o e) e1⟩,u.free,fun b o e hx=>by
     obtain ⟨o',e1⟩:=u.there b o e hx
     exact ⟨o',kp b _ (ne3 b o e) e1⟩,u.tups,u.frzs,u.tbls⟩
   have hok:HOk X.prog X.w H5 h':=fun b u e=>by
    refine (I6.hok b u e).stay (fun c v hc' q=>kp c v ?_ q) (fun _ q=>q) fun _ _ q=>q
    have hfree:H5 s3.heap.objs.size=none:=I6.free
    rintro rfl
    rcases hc' with z|z
    ·rw [z] at hfree;rw [hfree] at e;cases e
    ·rw [hfree] at z;cases z
   have I7:Inv X pins σ H5 { s6 with heap:=h' }:=by
    refine I3.call' (s':={ s6 with heap:=h' }) I6.os un hok I6.bare fun b hb=>?_
    obtain ⟨f0,f1,f2',f3',f4,f5⟩:=f3 b hb
    exact ⟨f3',f1,f4,f5⟩
   exact ⟨.ref s2.heap.objs.size,H5,I7,rfl,qn⟩
  ·refine noE (thn (T.item (cxC X N scope cl s3 (upd H2 s2.heap.objs.size (.lst [])) fp) rfl rfl rfl hc i [] s5 σ5 H5 (fun _ _=>False) I5 (fpc fr5) st5 go) fun r s6 ⟨u,hr,h6⟩=>?_)
   subst hr
   refine noE (thn h6 fun _ s7 ⟨x,H7,I7,r7,y7,st7,fr7⟩=>?_)
   obtain ⟨hg,ht,he⟩:=hb cl s3 (upd H2 s2.heap.objs.size (.lst [])) fp
   have I7':=I7.pinned (fpc fr7) (T.obj _ _ st7)
   have back:∀{σ8:St} {H8:Hp} {s8:Shared},Inv (cxC X N scope cl s3 (upd H2 s2.heap.objs.size (.lst [])) fp) ([]++pinsAt fp s7.heap) σ8 H8 s8→tn (i+1) s8.heap∧∀b∈fp,H8 b=none:=fun {σ8 H8 s8} I8=>
    ⟨T.keep _ _ _ st7 fun b hb o e=>(I8.pin (b,o) (List.mem_append_right _ (List.mem_append_right _ (mem_pinsAt hb e)))).1,fun b hb=>by
     obtain ⟨o,e,d⟩:=T.obj _ _ st7 b hb
     exact (I8.pin (b,o) (List.mem_append_right _ (List.mem_append_right _ (mem_pinsAt hb e)))).2.1⟩
   refine noE (thn (hg _ s7 σ5 H7 x u _ I7' r7 (step x H7 y7)) fun _ s8 ⟨σ8,H8,I8,q8⟩=>?_)
   refine noE (thn (ht _ s8 σ8 H8 _ I8 q8) fun b s9 ⟨H9,I9,q9⟩=>?_)
   cases b with
   |false=>
    rw [if_neg Bool.false_ne_true] at q9 ⊢
    obtain ⟨_,m',hm,w9⟩:=q9
    exact ⟨m',hm,i+1,σ8,H9,ys,I9.unpinned,(back I9).1,(back I9).2,w9⟩
   |true=>
    rw [if_pos rfl] at q9 ⊢
    refine noE (thn (he _ s9 σ8 H9 _ I9 q9) fun yv s10 ⟨y,H10,I10,r10,hacc10,hlen,m',hm,w10⟩=>?_)
    refine noE (thn (mt_append _ s10 σ8 H10 (.ref s2.heap.objs.size) [y] (.ref s2.heap.objs.size) [yv] (fun _ H11=>H11=upd H10 s2.heap.objs.size (.lst (ys++[y]))) I10 rfl (.cons r10 .nil) ⟨_,_,_,rfl,rfl,hacc10,hlen,rfl⟩) fun _ s11 ⟨z,H11,I11,_,e11⟩=>?_)
    subst e11
    exact ⟨m',hm,i+1,σ8,_,ys++[y],I11.unpinned,(back I11).1,(back I11).2,w10⟩
 have fin:=codeAny_compStart_list (loop { s3 with heap:=h₁,toks:=s3.toks } rfl) (T.self _ _ _ _ _ st4 (loop { s3 with heap:=h₁,toks:=s3.toks } rfl))
 subst hs3
 exact fin
end L2
namespace PySem
open Sem (wp)
namespace IfF
theorem aJ5:typeLookup (.type "function") "__class__"=pure (some (.builtin "object.__class__")):=by rw [typeLookup_type,builtinLookup_eq_fast];kernel_rfl
theorem uE:Slot "function" "__getattribute__" "object.__getattribute__":=
 .of (owner:="object") (n:="__getattribute__") (by rw [typeLookup_type,builtinLookup_eq_fast];kernel_rfl) (by decide +kernel) (by decide +kernel) (by decide +kernel)
  (by first|exact .inl (by decide +kernel)|exact .inr (by decide +kernel)) (by rw [isSubtype_type];kernel_rfl)
theorem aLo:entryFor table "object.__getattribute__"=some Builtin.«object.__getattribute__»:=entryFor_of_tree (by kernel_rfl)
theorem tU:isSubtype (.type "function") (.type (".".intercalate ("object.__class__".cutAt '.').dropLast))=pure true:=by
 rw [F.owner_object_class,isSubtype_type];kernel_rfl
theorem sub_int:isSubtype (.type "function") (.type "int")=pure false:=by rw [isSubtype_type];kernel_rfl
theorem sub_bool:isSubtype (.type "function") (.type "bool")=pure false:=by rw [isSubtype_type];kernel_rfl
theorem aNh:isSubtype (.type "function") (.type "str")=pure false:=by rw [isSubtype_type];kernel_rfl
end IfF
section
variable {prog:Program} {w:World} {A:Around} {E:Value→Shared→Prop} {h:Heap} {g:Array GenState} {d:Drawn} {t:Nat} {os:OsState} {a:Addr} {o:Obj}
theorem aAq {R:Result→Shared→Prop} (hx:h.get? a=some o) (hc:o.cls=.type "function") (hq:R (.ok (.ret (.type "function"))) ⟨h,g,d,t,os⟩) :
  codeAny (model prog w) A (.call (.builtin "getset_descriptor.__get__") ⟨[.builtin "object.__class__",.ref a,.type "function"],[]⟩) R ⟨h,g,d,t,os⟩:=by
 have hT:(⟨h,g,d,t,os⟩:Shared).TypeIs (.ref a) "function":=⟨_,hx,hc⟩
 have hT5:(⟨h,g,d,t,os⟩:Shared).TypeIs (.builtin "object.__class__") "getset_descriptor":=F.typeOf_object_class
 have f8:=IfF.tU
 refine codeAny_call_builtin F.slot_gs_get.plain F.entry_gs_get (F.slot_gs_get.check _ _ _ _ _ _ _ _ hT5 (F.args_gs_get _ _ _) ?_)
 repeat (any_goals (first|assumption|wp_step))
 refine ⟨Code.quiet_builtin _ (by decide +kernel),codeAny_builtin F.entry_object_class ?_⟩
 repeat (any_goals (first|assumption|wp_step))
theorem uH {tk:Tok} {Q:Fin→Shared→Prop} (hx:h.get? a=some o) (hc:o.cls=.type "function") (hq:Q (.done (.ret (.type "function"))) ⟨h,g,d,t,os⟩) :
  wpAny (model prog w) A (Builtin.«object.__getattribute__» ⟨[.ref a,.str "__class__" tk],[]⟩) Q E ⟨h,g,d,t,os⟩:=by
 have hT:(⟨h,g,d,t,os⟩:Shared).TypeIs (.ref a) "function":=⟨_,hx,hc⟩
 have hT5:(⟨h,g,d,t,os⟩:Shared).TypeIs (.builtin "object.__class__") "getset_descriptor":=F.typeOf_object_class
 have f4:=IfF.aJ5
 have f5:=F.typeOf_object_class
 have f6:=F.slot_gs_get.lookup
 have f7:=F.slot_gs_set.lookup
 repeat (any_goals (first|assumption|wp_step))
 refine aAq hx hc ?_
 repeat (any_goals (first|assumption|wp_step))
theorem aC3 {tk:Tok} {Q:Value→Shared→Prop} (hx:h.get? a=some o) (hc:o.cls=.type "function") (hq:Q (.type "function") ⟨h,g,d,t,os⟩):wpAny (model prog w) A (getAttrBy (.ref a) (.str "__class__" tk) false) Q E ⟨h,g,d,t,os⟩:=by
 have hT:(⟨h,g,d,t,os⟩:Shared).TypeIs (.ref a) "function":=⟨_,hx,hc⟩
 have f2:=IfF.uE.lookup
 have f3:=IfF.uE.bind (.ref a)
 repeat (any_goals (first|assumption|wp_step))
 refine codeAny_call_builtin IfF.uE.plain IfF.aLo (IfF.uE.check _ _ _ _ _ _ _ _ hT (F.args_object_getattribute_2 _ _) (uH hx hc ?_))
 repeat (any_goals (first|assumption|wp_step))
theorem xF {Q:Option Value→Shared→Prop} (hx:h.get? a=some o) (hc:o.cls=.type "function") (hq:Q (some (.type "function")) ⟨h,g,d,t+1,os⟩):wpAny (model prog w) A (getAttr? (.ref a) "__class__") Q E ⟨h,g,d,t,os⟩:=by
 unfold getAttr? getAttrBy?
 repeat (any_goals (first|assumption|with_reducible apply aC3 hx hc|wp_step))
theorem xP {T:String} {dep:Int} {tk:Tok} {Q:Fin→Shared→Prop} (hx:h.get? a=some o) (hc:o.cls=.type "function") (hne:(Value.type "function" == Value.type T)=false) (hty:typeOf (.type T)=pure (.type "type"))
  (hsub:isSubtype (.type "function") (.type T)=pure false) (hq:Q (.done (.ret (.bool false))) ⟨h,g,d,t+1,os⟩) :
  wpAny (model prog w) A (Builtin.«isinstance.nested» ⟨[.ref a,.type T,.int dep tk],[]⟩) Q E ⟨h,g,d,t,os⟩:=by
 have hT:(⟨h,g,d,t,os⟩:Shared).TypeIs (.ref a) "function":=⟨_,hx,hc⟩
 repeat (any_goals (first|assumption|with_reducible apply xF hx hc|wp_step))
end
theorem lD {a:Addr} {T:String} (hne:(Value.type "function" == Value.type T)=false) (hty:typeOf (.type T)=pure (.type "type")) (hsub:isSubtype (.type "function") (.type T)=pure false) :
  Meets (Builtin.«isinstance» ⟨[.ref a,.type T],[]⟩) (fun _ R s=>(∃o,s.heap.get? a=some o∧o.cls=.type "function")∧R (.ok (.ret (.bool false))) { s with toks:=s.toks+1 }):=
 fun _ _ _ _ s hs=>by
  obtain ⟨h,g,d,t,os⟩:=s
  obtain ⟨⟨o,hx,hc⟩,hq⟩:=hs
  exact isinstance_outer (xP hx hc hne hty hsub hq)
section
variable {prog:Program} {w:World} {A:Around} {E:Value→Shared→Prop} {s:Shared} {Q:Value→Shared→Prop} {a:Addr} {o:Obj}
theorem aGr (hx:s.heap.get? a=some o) (hc:o.cls=.type "function") (h:Q (.bool false) { s with toks:=s.toks+1 }):wpAny (model prog w) A (call (.builtin "isinstance") [.ref a,.type "int"]) Q E s:=
 call_isinstance (lD (by decide) F.isi_meta_int IfF.sub_int) ⟨⟨o,hx,hc⟩,h⟩
theorem aCh (hx:s.heap.get? a=some o) (hc:o.cls=.type "function") (h:Q (.bool false) { s with toks:=s.toks+1 }):wpAny (model prog w) A (call (.builtin "isinstance") [.ref a,.type "bool"]) Q E s:=
 call_isinstance (lD (by decide) F.isi_meta_bool IfF.sub_bool) ⟨⟨o,hx,hc⟩,h⟩
theorem aEz (hx:s.heap.get? a=some o) (hc:o.cls=.type "function") (h:Q (.bool false) { s with toks:=s.toks+1 }):wpAny (model prog w) A (call (.builtin "isinstance") [.ref a,.type "str"]) Q E s:=
 call_isinstance (lD (by decide) F.isi_meta_str IfF.aNh) ⟨⟨o,hx,hc⟩,h⟩
end
end PySem
namespace L2
open PySem PySem.Spec PyProof.Rows
section
variable {X:Cx}
def aQf (K:PySem.W.Frag):List V→Hp→VK→Prop:=fun xs H Q=>∃(p:Addr) (bs:List Bool),xs=[.ref p]∧SqL K H p (bs.map V.bl)∧Q (.bl (bs.all id)) H
theorem all_range (bs:List Bool):(List.range bs.length).all (fun i=>bs.getD i false)=bs.all id:=by
 rw [Bool.eq_iff_iff,List.all_eq_true,List.all_eq_true]
 constructor
 ·intro h b hb
  obtain ⟨i,hi,e⟩:=List.mem_iff_getElem.mp hb
  have:=h i (List.mem_range.mpr hi)
  rw [List.getD_eq_getElem?_getD,List.getElem?_eq_getElem hi] at this
  rw [←e]
  exact this
 ·intro h i hi
  have hi:=List.mem_range.mp hi
  rw [List.getD_eq_getElem?_getD,List.getElem?_eq_getElem hi]
  exact h _ (List.getElem_mem hi)
theorem pR (hc:X.calm=true):CallR X (.builtin "all") (aQf X.K):=by
 intro pins s σ H xs us Q I r h
 obtain ⟨p,bs,rfl,hq,q⟩:=h
 obtain ⟨u,rfl,rx⟩:=r.one
 cases rx
 obtain ⟨its,rv,pl,hz⟩:=I.list hq
 have hl:=rv.length
 rw [List.length_map] at hl
 have hne:p≠s.heap.objs.size:=by
  obtain ⟨o,ho,_⟩:=pl.isList
  exact Nat.ne_of_lt (Heap.lt_size ho)
 refine call_all_walk (wpAny_pyIter_list pl.isList ?_)
 refine ⟨s.heap.objs.size,_,_,_,_,_,fun i=>bs.getD i false,rfl,Walks.list (show X.A.in1.handled=none from I.ok.hd hc) _ p hne its.toArray,⟨⟨_,Heap.get?_push_size _ rfl,rfl,rfl⟩,?_⟩,?_,fun h' tk kp=>?_⟩
 ·exact pl.isList.at fun o e=>Heap.get?_push_of_some _ e
 ·intro i v s' Q' E' hv hq'
  have hv':its[i]?=some v:=by simpa using hv
  have hi:i<bs.length:=by rw [hl];exact (List.getElem?_eq_some_iff.mp hv').1
  obtain ⟨u,hu,ru⟩:=rv.get (i:=i) (x:=.bl bs[i]) (by rw [List.getElem?_map,List.getElem?_eq_getElem hi];rfl)
  rw [hv'] at hu
  cases hu
  cases ru
  have e:bs.getD i false=bs[i]:=by rw [List.getD_eq_getElem?_getD,List.getElem?_eq_getElem hi];rfl
  replace hq':Q' (bs.getD i false) s':=hq'
  rw [e] at hq'
  exact wpAny_truthy_bool hq'
 ·have e:(List.range its.toArray.size).all (fun i=>bs.getD i false)=bs.all id:=by
   rw [List.size_toArray,←hl];exact all_range bs
  rw [e]
  refine ⟨.bl (bs.all id),H,?_,rfl,q⟩
  exact I.kept fun b o eo=>kp b o (by
   intro z
   have:b=s.heap.objs.size:=by simpa using z
   rw [this] at eo
   exact absurd (Heap.lt_size eo) (Nat.lt_irrefl _)) (Heap.get?_push_of_some _ eo)
inductive Rk (K:PySem.W.Frag) (H:Hp):V→String→Prop
 |non:Rk K H .non "NoneType"
 |lst {a xs}:SqL K H a xs→Rk K H (.ref a) "list"
 |tup {a xs}:SqT K H a xs→Rk K H (.ref a) "tuple"
 |dct {a kvs}:H a=some (.dK kvs)→Rk K H (.ref a) "dict"
 |fn {a o}:K.lookup a=some o→o.cls=.type "function"→Rk K H (.ref a) "function"
def aN0 (K:PySem.W.Frag):List V→Hp→VK→Prop:=fun xs H Q=>∃x k T,xs=[x,.ty T]∧Rk K H x k∧(T = "int"∨T = "bool"∨T = "str")∧Q (.bl false) H
theorem nM:CallR X (.builtin "isinstance") (aN0 X.K):=by
 intro pins s σ H xs us Q I r h
 obtain ⟨x,k,T,rfl,hx,hT,q⟩:=h
 obtain ⟨u,v,rfl,rx,rT⟩:=r.two
 cases rT
 have f1:EP X pins σ Q (.bool false) { s with toks:=s.toks+1 }:=⟨.bl _,H,I.tok _,rfl,q⟩
 cases hx with
 |non=>
  cases rx
  rcases hT with rfl|rfl|rfl
  ·exact IsiPair.NoneType_int f1
  ·exact IsiPair.NoneType_bool f1
  ·exact IsiPair.NoneType_str f1
 |lst hq=>
  cases rx
  obtain ⟨its,rv,⟨o,n,e,c,_⟩,hz⟩:=I.list hq
  rcases hT with rfl|rfl|rfl
  ·exact IsiPair.list_int e c f1
  ·exact IsiPair.list_bool e c f1
  ·exact IsiPair.list_str e c f1
 |tup hq=>
  cases rx
  obtain ⟨its,rv,⟨o,e,c,_⟩,hz⟩:=I.tuple hq
  rcases hT with rfl|rfl|rfl
  ·exact IsiPair.tuple_int e c f1
  ·exact IsiPair.tuple_bool e c f1
  ·exact IsiPair.tuple_str e c f1
 |dct hq=>
  cases rx
  obtain ⟨_,_,_,_,o,_,_,e,ex,_⟩:=I.hok _ _ hq
  rcases hT with rfl|rfl|rfl
  ·exact IsiPair.dict_int e ex.1 f1
  ·exact IsiPair.dict_bool e ex.1 f1
  ·exact IsiPair.dict_str e ex.1 f1
 |fn hk hc=>
  cases rx
  have e:=I.kIn _ _ hk
  rcases hT with rfl|rfl|rfl
  ·exact aGr e hc f1
  ·exact aCh e hc f1
  ·exact aEz e hc f1
end
theorem eF {X:Cx} {scope:Scope} (h:∀z∈scope.names,z.2≠.free):∀y,(y,NameKind.free)∈scope.names→X.env.kindOf y=some .cell∨X.env.kindOf y=some .free:=fun y hy=>absurd rfl (h _ hy)
theorem cR {X:Cx} {scope:Scope} (sc:Scope) (e:X.env.scope=sc) (h:∀z∈scope.names,z.2=.free→sc.names.lookup z.1=some .cell∨sc.names.lookup z.1=some .free) :
  ∀y,(y,NameKind.free)∈scope.names→X.env.kindOf y=some .cell∨X.env.kindOf y=some .free:=fun y hy=>by
 show X.env.scope.names.lookup y=some .cell∨X.env.scope.names.lookup y=some .free
 rw [e]
 exact h _ hy rfl
theorem Same.aM {K:PySem.W.Frag} {H H':Hp} {a:Addr} {xs:List V} (e:Same H H') (h:SqT K H a xs):SqT K H' a xs:=by
 rcases h with (h|⟨o,h⟩)|h
 ·exact .inl (.inl (e _ _ h))
 ·exact .inl (.inr ⟨o,e _ _ h⟩)
 ·exact .inr h
theorem aX {H:Hp} {p:Addr} (h:H p=none) (o:HO):Same H (upd H p o):=fun b u q=>by rw [upd_ne (ne_of_none q h)];exact q
theorem Rk.same {K:PySem.W.Frag} {H H':Hp} {v:V} {k:String} (e:Same H H') (h:Rk K H v k):Rk K H' v k:=by
 cases h with
 |non=>exact .non
 |lst q=>exact .lst (e.seq q)
 |tup q=>exact .tup (e.aM q)
 |dct q=>exact .dct (e _ _ q)
 |fn q c=>exact .fn q c
theorem iI {X:Cx} {scope:Scope} {x:Str} {σ:St}:Cap X scope [x] σ [none]:=⟨rfl,fun i y v _ h2=>by
 cases i with
 |zero=>cases h2
 |succ i=>cases h2⟩
section
theorem aI9 {X:Cx} {scope:Scope} {N:List Str} {wi:TI} {te:TE} {σ:St} {H:Hp} {Q:VK} (xs:List V) (f:V→V) (σ0:St) (cap:Cap X scope N σ σ0) (hsz:xs.length≤sizeLine)
  (hw:∀R:It→Hp→Prop,(∀J:It,(∀H' i x,Same H H'→xs[i]?=some x→J.go i H'∧∀y H2,J.yld i H' y H2→H2=H'∧y=x)→(∀H',Same H H'→J.stop xs.length H')→R J H)→wi σ H R)
  (he:∀x∈xs,∀H' R l,Same H H'→R (f x) H'→te ((σ0.set 0 l).set 0 (some x)) H' R) (h0:σ0[0]?=some none)
  (q:∀D,H D=none→Q (.ref D) (upd H D (.lst (xs.map f)))) :
  gO X scope N wi (gName 0) mU te σ H Q:=by
 refine ⟨σ0,cap,hw _ fun J go stop D hD=>?_⟩
 have sm:∀ys:List V,Same H (upd H D (.lst ys)):=fun ys b o e=>by rw [upd_ne (ne_of_none e hD)];exact e
 refine ⟨fun i m σ' H' ys=>i≤xs.length∧m=xs.length - i∧(∃l,σ'=σ0.set 0 l)∧H'=upd H D (.lst ys)∧ys=(xs.take i).map f,⟨xs.length,Nat.zero_le _,rfl,⟨none,?_⟩,rfl,rfl⟩,?_⟩
 ·refine (List.ext_getElem? fun j=>?_)
  rw [List.getElem?_set]
  split
  ·rename_i hj
   subst hj
   split
   ·exact h0
   ·rename_i hlt
    exact List.getElem?_eq_none_iff.mpr (by omega)
  ·rfl
 ·rintro i m σ' H' ys ⟨hi,rfl,⟨l,rfl⟩,rfl,rfl⟩
  refine ⟨upd_same,?_⟩
  by_cases hlt:i<xs.length
  ·right
   obtain ⟨g1,g2⟩:=go (upd H D (.lst ((xs.take i).map f))) i xs[i] (sm _) (List.getElem?_eq_getElem hlt)
   refine ⟨g1,fun x H2 hy=>?_⟩
   obtain ⟨rfl,rfl⟩:=g2 x H2 hy
   unfold gName mU
   dsimp only
   rw [if_pos rfl]
   refine he xs[i] (List.getElem_mem hlt) _ _ l (sm _) ⟨upd_same,?_,xs.length - (i+1),by omega,hlt,rfl,⟨some xs[i],?_⟩,?_,?_⟩
   ·rw [List.length_map,List.length_take];omega
   ·rw [List.set_set]
   ·rw [upd_upd]
   ·rw [List.take_add_one,List.getElem?_eq_getElem hlt,List.map_append]
    rfl
  ·left
   have e:i=xs.length:=by omega
   subst e
   refine ⟨stop _ (sm _),?_⟩
   rw [List.take_length]
   exact q D hD
theorem aOa {z:Str} {tl:TE} {σ:St} {H:Hp} (h:∀R:VK,R (.str z) H→tl σ H R) (R:It→Hp→Prop)
  (q:∀J:It,(∀H' i x,Same H H'→((List.range z.cps.size).map fun i=>V.str (sgn z i))[i]?=some x→J.go i H'∧∀y H2,J.yld i H' y H2→H2=H'∧y=x) →
   (∀H',Same H H'→J.stop ((List.range z.cps.size).map fun i=>V.str (sgn z i)).length H')→R J H):aOn tl σ H R:=by
 refine h _ ⟨z,rfl,q _ (fun H' i x _ e=>?_) fun H' _=>?_⟩
 ·rw [List.getElem?_map] at e
  have hi:i<z.cps.size:=by
   cases hr:(List.range z.cps.size)[i]? with
   |none=>rw [hr] at e;cases e
   |some j=>have:=(List.getElem?_eq_some_iff.mp hr).1;rwa [List.length_range] at this
  rw [List.getElem?_range hi] at e
  cases e
  exact ⟨hi,fun y H2 hy=>hy⟩
 ·rw [List.length_map,List.length_range]
  exact Nat.le_refl _
theorem aAk {K:PySem.W.Frag} {a:Addr} {xs:List V} {tl:TE} {σ:St} {H:Hp} (hS:∀H',Same H H'→SqL K H' a xs) (h:∀R:VK,R (.ref a) H→tl σ H R) (R:It→Hp→Prop)
  (q:∀J:It,(∀H' i x,Same H H'→xs[i]?=some x→J.go i H'∧∀y H2,J.yld i H' y H2→H2=H'∧y=x)→(∀H',Same H H'→J.stop xs.length H')→R J H):iList K tl σ H R:=by
 refine h _ ⟨a,rfl,⟨xs,hS H (Same.refl H)⟩,q _ (fun H' i x s e=>⟨⟨xs,x,hS H' s,e⟩,fun y H2 hy=>?_⟩) fun H' s=>⟨xs,hS H' s,Nat.le_refl _⟩⟩
 obtain ⟨e1,e2⟩:=hy
 have e3:=e2 xs (hS H' s)
 rw [e] at e3
 cases e3
 exact ⟨e1,rfl⟩
end
end L2
namespace PySem
abbrev nR (t:Addr) (i:Nat):Obj:={ cls:=.type "tuple_iterator",data:=.fields #[.ref t,.int (i:Int) 0] }
abbrev sO (f0:Value) (TI TO:Addr):Obj:={ cls:=.type "zip",dict:=none,data:=.fields #[f0,.bool false,.bool false,.ref TI,.ref TO],slots:=#[] }
abbrev kY (a b:Value):Obj:={ cls:=.type "tuple",data:=.seq #[a,b] }
section
variable {prog:Program} {w:World} {A:Around} {E:Value→Shared→Prop} {s:Shared}
theorem uY {it t:Addr} {i:Nat} {its:Array Value} {x:Value} {Q:Value→Shared→Prop} (ho:s.heap.get? it=some (nR t i)) (ht:s.heap.IsTuple t its) (hx:its[i]?=some x)
  (q:∀h',h'.get? it=some (nR t (i+1))→Heap.SameBut it s.heap h'→Q x { s with heap:=h' }):wpAny (model prog w) A (Builtin.SmallTypes.nextOf (.ref it)) Q E s:=by
 have hT:s.TypeIs (.ref it) "tuple_iterator":=⟨_,ho,rfl⟩
 obtain ⟨ol,hol,_,nl,hdl⟩:=ht
 unfold Builtin.SmallTypes.nextOf
 refine wpAny_bind (wpAny_callSpecial?_slot (name:=Str.ofString "__next__") hT F.slot_tuple_iterator_next (wpAny_call_entry F.slot_tuple_iterator_next hT F.entry_tuple_iterator_next ?_ (F.args_tuple_iterator_next_1 _)))
 refine wpAny_bind (m:=field (.ref it) 0) (wpAny_field ho rfl (x:=.ref t) rfl ?_)
 refine (if_neg (show ¬ ((Value.ref t == Value.none)=true) from Bool.false_ne_true)).symm ▸ ?_
 refine wpAny_bind (m:=field (.ref it) 1) (wpAny_field ho rfl (x:=.int i 0) rfl ?_)
 refine wpAny_bind (m:=seqItems? (.ref t)) (wpAny_seqItems hol hdl ?_)
 simp only [Int.toNat_natCast,hx]
 refine wpAny_bind (wpAny_setField ho rfl (by simp) (wpAny_pure ⟨x,rfl,wpAny_pure (q _ ?_ (Heap.SameBut.update ..))⟩))
 exact Heap.get?_update_self _ ho rfl
theorem wA {it t:Addr} {i:Nat} {its:Array Value} {Q:Value→Shared→Prop} (hh:A.handled=none) (ho:s.heap.get? it=some (nR t i)) (ht:s.heap.IsTuple t its) (hx:its[i]?=none)
  (q:∀h' e,Heap.ExtBut it s.heap h'→(∃o,h'.get? e=some o∧o.cls=.type "StopIteration")→E (.ref e) { s with heap:=h' }):wpAny (model prog w) A (Builtin.SmallTypes.nextOf (.ref it)) Q E s:=by
 have hT:s.TypeIs (.ref it) "tuple_iterator":=⟨_,ho,rfl⟩
 obtain ⟨ol,hol,_,nl,hdl⟩:=ht
 unfold Builtin.SmallTypes.nextOf
 refine wpAny_bind (wpAny_callSpecial?_slot (name:=Str.ofString "__next__") hT F.slot_tuple_iterator_next (wpAny_call_entry F.slot_tuple_iterator_next hT F.entry_tuple_iterator_next ?_ (F.args_tuple_iterator_next_1 _)))
 refine wpAny_bind (m:=field (.ref it) 0) (wpAny_field ho rfl (x:=.ref t) rfl ?_)
 refine (if_neg (show ¬ ((Value.ref t == Value.none)=true) from Bool.false_ne_true)).symm ▸ ?_
 refine wpAny_bind (m:=field (.ref it) 1) (wpAny_field ho rfl (x:=.int i 0) rfl ?_)
 refine wpAny_bind (m:=seqItems? (.ref t)) (wpAny_seqItems hol hdl ?_)
 simp only [Int.toNat_natCast,hx]
 refine wpAny_bind (wpAny_rule (wpAny_bind (wpAny_setField ho rfl (by simp) ?_)))
 unfold Builtin.SmallTypes.stopIteration
 refine wpAny_bind ?_
 simp only [newExc,newTuple]
 refine wpAny_bind (wpAny_newObj_type ?_ (by size_fits))
 refine wpAny_bind (m:=firstArgMember _ _) (wpAny_of_eq (a:=Value.none) (by first|rfl|(simp only [firstArgMember];rfl)) ?_)
 refine wpAny_newObj_type ?_ (by size_fits)
 simp only [raiseNew]
 refine wpAny_bind (wpAny_handled ?_)
 first|rw [show A.in1.handled=none from hh]|rw [hh]
 refine wpAny_bind (wpAny_pure (wpAny_throw ?_))
 exact q _ _ (((Heap.SameBut.update ..).extBut.push _).push _) ⟨_,Heap.get?_push_size _ rfl,rfl⟩
structure zQ (z TI TO a b:Addr):Prop where
 h1:TI≠z
 h2:TO≠z
 h3:a≠z
 h4:b≠z
 h5:TI≠TO
 h6:TI≠a
 h7:TI≠b
 h8:TO≠a
 h9:TO≠b
 h10:a≠b
theorem aG9 {T:Addr} {a b x:Value} {k:Nat} {Q:Unit→Shared→Prop} (hT:s.heap.get? T=some (kY a b))
  (q:∀h',h'.get? T=some { cls:=.type "tuple",data:=.seq ((#[a,b]:Array Value).setIfInBounds k x) }→Heap.SameBut T s.heap h'→Q () { s with heap:=h' }) :
  wpAny (model prog w) A (updateSeq T (·.setIfInBounds k x)) Q E s:=by
 refine wpAny_updateSeq hT rfl (q _ ?_ (Heap.SameBut.update ..))
 rw [Heap.get?_update_self _ hT rfl]
 simp [Obj.mapSeq]
theorem aJc {z TI TO i1 i2 t u:Addr} {k:Nat} {xs ys:Array Value} {x y a b:Value} {Q:Option Value→Shared→Prop} (D:zQ z TI TO i1 i2)
  (hz:s.heap.get? z=some (sO .none TI TO)) (hTI:s.heap.get? TI=some (kY (.ref i1) (.ref i2))) (hTO:s.heap.get? TO=some (kY a b))
  (g1:s.heap.get? i1=some (nR t k)) (g2:s.heap.get? i2=some (nR u k)) (ht:s.heap.IsTuple t xs) (hu:s.heap.IsTuple u ys) (hx:xs[k]?=some x) (hy:ys[k]?=some y)
  (t1:t≠z) (t2:t≠TO) (t3:t≠i1) (t4:t≠i2) (u1:u≠z) (u2:u≠TO) (u3:u≠i1) (u4:u≠i2)
  (q:∀h',h'.get? z=some (sO (rawInt s.heap.objs.size) TI TO)→h'.get? TO=some (kY x y)→h'.get? i1=some (nR t (k+1))→h'.get? i2=some (nR u (k+1))→h'.get? s.heap.objs.size=some (kY x y) →
   (∀c o,c≠z→c≠TO→c≠i1→c≠i2→s.heap.get? c=some o→h'.get? c=some o)→Q (some (.ref s.heap.objs.size)) { s with heap:=h' }) :
  wpAny (model prog w) A (pyNext (.ref z)) Q E s:=by
 have hT:s.TypeIs (.ref z) "zip":=⟨_,hz,rfl⟩
 unfold pyNext
 refine wpAny_bind (wpAny_attempt (wpAny_callSpecial?_slot (name:=Str.ofString "__next__") hT F.slot_zip_next (wpAny_call_entry F.slot_zip_next hT F.entry_zip_next ?_ (F.args_zip_next_1 _))))
 refine wpAny_bind (m:=field (.ref z) 2) (wpAny_field hz rfl (x:=.bool false) rfl ?_)
 refine wpAny_bind (m:=field (.ref z) 3) (wpAny_field hz rfl (x:=.ref TI) rfl (wpAny_bind (wpAny_seqItems hTI rfl ?_)))
 refine wpAny_bind (m:=Builtin.SmallTypes.ownedTupleIsFree (.ref z)) ?_
 unfold Builtin.SmallTypes.ownedTupleIsFree
 refine wpAny_bind (wpAny_field hz rfl (x:=.none) rfl (wpAny_pure ?_))
 simp only [if_true]
 refine wpAny_bind (wpAny_rule (wpAny_bind (wpAny_field hz rfl (x:=.ref TO) rfl (wpAny_bind (wpAny_setField_rec hz (by simp) fun h1 z1 s1=>?_)))))
 replace z1:h1.get? z=some (sO .ellipsis TI TO):=z1
 refine wpAny_bind ?_
 simp only [List.zipIdx_cons,List.zipIdx_nil,List.forIn_cons,List.forIn_nil]
 refine wpAny_bind (wpAny_bind (wpAny_onRaise ?_))
 refine wpAny_bind (m:=Builtin.SmallTypes.nextOf (.ref i1)) (uY (s:={ s with heap:=h1 }) (s1.extBut _ _ D.h3 g1) (ht.extBut s1.extBut t1) hx fun h2 g12 s2=>wpAny_pure ?_)
 have TO2:h2.get? TO=some (kY a b):=s2.extBut _ _ D.h8 (s1.extBut _ _ D.h2 hTO)
 refine wpAny_bind (wpAny_seqItems TO2 rfl (wpAny_bind (aG9 (s:={ s with heap:=h2 }) TO2 fun h3 TO3 s3=>wpAny_bind (wpAny_letGo (wpAny_pure ?_)))))
 replace TO3:h3.get? TO=some (kY x b):=TO3
 refine wpAny_bind (wpAny_bind (wpAny_onRaise ?_))
 refine wpAny_bind (m:=Builtin.SmallTypes.nextOf (.ref i2)) (uY (s:={ s with heap:=h3 }) (s3.extBut _ _ D.h9.symm (s2.extBut _ _ D.h10.symm (s1.extBut _ _ D.h4 g2))) (((hu.extBut s1.extBut u1).extBut s2.extBut u3).extBut s3.extBut u2) hy fun h4 g24 s4=>wpAny_pure ?_)
 have TO4:h4.get? TO=some (kY x b):=s4.extBut _ _ D.h9 TO3
 refine wpAny_bind (wpAny_seqItems TO4 rfl (wpAny_bind (aG9 (s:={ s with heap:=h4 }) TO4 fun h5 TO5 s5=>wpAny_bind (wpAny_letGo (wpAny_pure (wpAny_pure ?_))))))
 replace TO5:h5.get? TO=some (kY x y):=TO5
 refine wpAny_bind (wpAny_seqItems TO5 rfl (wpAny_bind (wpAny_newTuple ?_)))
 have hsz:h5.objs.size=s.heap.objs.size:=by rw [s5.1,s4.1,s3.1,s2.1,s1.1]
 have z5:h5.get? z=some (sO .ellipsis TI TO):=s5.extBut _ _ D.h2.symm (s4.extBut _ _ D.h4.symm (s3.extBut _ _ D.h2.symm (s2.extBut _ _ D.h3.symm z1)))
 have kp:∀c o,c≠z→c≠TO→c≠i1→c≠i2→s.heap.get? c=some o→h5.get? c=some o:=fun c o c1 c2 c3 c4 e=>s5.extBut _ _ c2 (s4.extBut _ _ c4 (s3.extBut _ _ c2 (s2.extBut _ _ c3 (s1.extBut _ _ c1 e))))
 have g15:h5.get? i1=some (nR t (k+1)):=s5.extBut _ _ D.h8.symm (s4.extBut _ _ D.h10 (s3.extBut _ _ D.h8.symm g12))
 have g25:h5.get? i2=some (nR u (k+1)):=s5.extBut _ _ D.h9.symm g24
 refine wpAny_bind (m:=Builtin.SmallTypes.ownedTupleHandOut (.ref z) (.ref h5.objs.size)) ?_
 unfold Builtin.SmallTypes.ownedTupleHandOut
 have z6:(h5.push (kY x y)).get? z=some (sO .ellipsis TI TO):=Heap.get?_push_of_some _ z5
 refine wpAny_bind (wpAny_setField_rec z6 (by simp) fun h7 z7 s7=>?_)
 replace z7:h7.get? z=some (sO (rawInt h5.objs.size) TI TO):=z7
 refine wpAny_setField_rec z7 (by simp) fun h8 z8 s8=>?_
 replace z8:h8.get? z=some (sO (rawInt h5.objs.size) TI TO):=z8
 have up:∀c o,c≠z→h5.get? c=some o→h8.get? c=some o:=fun c o c1 e=>s8.extBut _ _ c1 (s7.extBut _ _ c1 (Heap.get?_push_of_some _ e))
 have nz:h5.objs.size≠z:=Nat.ne_of_gt (Heap.lt_size z5)
 have T8:h8.get? h5.objs.size=some (kY x y):=s8.extBut _ _ nz (s7.extBut _ _ nz (Heap.get?_push_size _ rfl))
 rw [hsz] at z8 T8
 refine wpAny_pure ⟨_,rfl,wpAny_pure ?_⟩
 show Q (some (.ref h5.objs.size)) _
 rw [hsz]
 exact q h8 z8 (up _ _ D.h2 TO5) (up _ _ D.h3 g15) (up _ _ D.h4 g25) T8 fun c o c1 c2 c3 c4 e=>up c o c1 (kp c o c1 c2 c3 c4 e)
theorem aK6 {z TI TO i1 i2 t:Addr} {k:Nat} {xs:Array Value} {a b:Value} {Q:Option Value→Shared→Prop} (hh:A.handled=none) (D:zQ z TI TO i1 i2)
  (hz:s.heap.get? z=some (sO .none TI TO)) (hTI:s.heap.get? TI=some (kY (.ref i1) (.ref i2))) (hTO:s.heap.get? TO=some (kY a b))
  (g1:s.heap.get? i1=some (nR t k)) (ht:s.heap.IsTuple t xs) (hx:xs[k]?=none) (t1:t≠z)
  (q:∀h',(∀c o,c≠z→c≠TO→c≠i1→c≠i2→s.heap.get? c=some o→h'.get? c=some o)→Q none { s with heap:=h' }) :
  wpAny (model prog w) A (pyNext (.ref z)) Q E s:=by
 have hT:s.TypeIs (.ref z) "zip":=⟨_,hz,rfl⟩
 unfold pyNext
 refine wpAny_bind (wpAny_attempt (wpAny_callSpecial?_slot (name:=Str.ofString "__next__") hT F.slot_zip_next (wpAny_call_entry F.slot_zip_next hT F.entry_zip_next ?_ (F.args_zip_next_1 _))))
 refine wpAny_bind (m:=field (.ref z) 2) (wpAny_field hz rfl (x:=.bool false) rfl ?_)
 refine wpAny_bind (m:=field (.ref z) 3) (wpAny_field hz rfl (x:=.ref TI) rfl (wpAny_bind (wpAny_seqItems hTI rfl ?_)))
 refine wpAny_bind (m:=Builtin.SmallTypes.ownedTupleIsFree (.ref z)) ?_
 unfold Builtin.SmallTypes.ownedTupleIsFree
 refine wpAny_bind (wpAny_field hz rfl (x:=.none) rfl (wpAny_pure ?_))
 simp only [if_true]
 refine wpAny_bind (wpAny_rule (wpAny_bind (wpAny_field hz rfl (x:=.ref TO) rfl (wpAny_bind (wpAny_setField_rec hz (by simp) fun h1 z1 s1=>?_)))))
 replace z1:h1.get? z=some (sO .ellipsis TI TO):=z1
 refine wpAny_bind ?_
 simp only [List.zipIdx_cons,List.zipIdx_nil,List.forIn_cons,List.forIn_nil]
 refine wpAny_bind (wpAny_bind (wpAny_onRaise ?_))
 refine wpAny_bind (m:=Builtin.SmallTypes.nextOf (.ref i1)) (wA (s:={ s with heap:=h1 }) hh (s1.extBut _ _ D.h3 g1) (ht.extBut s1.extBut t1) hx fun h2 e s2 he=>?_)
 obtain ⟨oe,hoe,hce⟩:=he
 have z2:h2.get? z=some (sO .ellipsis TI TO):=s2 _ _ D.h3.symm z1
 have hez:e≠z:=fun x=>by subst x;rw [z2] at hoe;cases hoe;simp at hce
 refine wpAny_setField_rec z2 (by simp) fun h3 _ s3=>?_
 refine wpAny_bind (wpAny_isInstance (T:="StopIteration") (b:=true) ⟨oe,s3.extBut _ _ hez hoe,hce⟩ isSubtype_stop ?_)
 exact wpAny_pure (q _ fun c o c1 _ c3 _ x=>s3.extBut _ _ c1 (s2 _ _ c3 (s1.extBut _ _ c1 x)))
end
end PySem
namespace PySem
section
variable {prog:Program} {w:World} {A:Around} {E:Value→Shared→Prop} {s:Shared}
abbrev zT1 (h:Heap) (t:Addr):Heap:=h.push (nR t 0)
abbrev zT2 (h:Heap) (t u:Addr):Heap:=(zT1 h t).push (nR u 0)
abbrev zT3 (h:Heap) (t u:Addr):Heap:=(zT2 h t u).push (kY (.ref h.objs.size) (.ref (zT1 h t).objs.size))
abbrev zT4 (h:Heap) (t u:Addr):Heap:=(zT3 h t u).push (kY .none .none)
abbrev zT5 (h:Heap) (t u:Addr):Heap:=(zT4 h t u).push (sO .none (zT2 h t u).objs.size (zT3 h t u).objs.size)
theorem aEy (t u:Addr) (xs ys:Array Value):Meets (Builtin.«zip.__new__» ⟨[.type "zip",.ref t,.ref u],[]⟩)
  (fun _ R s=>s.heap.IsTuple t xs∧s.heap.IsTuple u ys∧R (.ok (.ret (.ref (zT4 s.heap t u).objs.size))) { s with heap:=zT5 s.heap t u }):=
 .of_wp fun prog w A R s h=>by
  obtain ⟨hp,g,d,tk,os⟩:=s
  obtain ⟨a1,a2,h⟩:=h
  have hsub:=sub_zip
  have b1:Heap.IsTuple (Shared.heap ⟨hp,g,d,tk,os⟩) t xs:=a1
  have b2:Heap.IsTuple (Shared.heap ⟨hp.push { cls:=.type "tuple_iterator",data:=.fields #[.ref t,.int 0 0] },g,d,tk,os⟩) u ys:=by
   obtain ⟨o,ho,r⟩:=a2
   exact ⟨o,Heap.get?_push_of_some _ ho,r⟩
  wp_walk using wpAny_pyIter_tuple b1,wpAny_pyIter_tuple b2
  exact ⟨_,rfl,h⟩
theorem aIg {t u:Addr} {xs ys:Array Value} {Q:Value→Shared→Prop} (ht:s.heap.IsTuple t xs) (hu:s.heap.IsTuple u ys) (q:Q (.ref (zT4 s.heap t u).objs.size) { s with heap:=zT5 s.heap t u }) :
  wpAny (model prog w) A (call (.type "zip") [.ref t,.ref u]) Q E s:=by
 refine callType_new F.called_zip (by decide) (F.typeCall_zip_2 _ _) (F.newCall_zip_2 _ _) (fun obj=>F.args_object_init_3 obj _ _) F.entry_zip_new (aEy t u xs ys) ⟨ht,hu,?_⟩
 exact ⟨⟨_,Heap.get?_push_size _ rfl,rfl⟩,q⟩
end
end PySem
namespace L2
open PySem PySem.Spec PyProof.Rows
section
variable {X:Cx} {pins:List (Addr × Obj)} {σ:St} {H:Hp} {s:Shared}
theorem Inv.tup_ne {t b:Addr} {xs:List V} (I:Inv X pins σ H s) (h:SqT X.K H t xs) (f:FpOk X pins H b):t≠b:=by
 rintro rfl
 obtain ⟨f0,f1,f2,f3,_⟩:=f
 rcases h with (h|⟨o,h⟩)|⟨o,its,n,hk,_⟩
 ·rw [f0] at h;cases h
 ·rw [f0] at h;cases h
 ·have e:=I.ok.mod.kin t o hk
  rcases f3 with z|z
  ·exact I.ok.noex t o e z
  ·exact absurd (Nat.lt_of_lt_of_le (Heap.lt_size e) (Nat.le_trans I.ok.bsz z)) (Nat.lt_irrefl _)
theorem Inv.drawn {ch:List Addr} {h':Heap} {vs:List V} {its:List Value} {T:Addr} (I:Inv X pins σ H s) (hch:∀b∈ch,FpOk X pins H b) (kp:∀b o,b∉ch→s.heap.get? b=some o→h'.get? b=some o)
  (hT:s.heap.objs.size≤T) (hv:Vals vs its) (hz:vs.length≤sizeLine) (ho:tV h' T its.toArray) (hth:∀b∈ch,∃o,h'.get? b=some o):Inv X pins σ (upd H T (.tup vs)) { s with heap:=h' }:=by
 have fT:H T=none:=I.hok.fresh hT
 have nT:∀b o,s.heap.get? b=some o→b≠T:=fun b o e=>Nat.ne_of_lt (Nat.lt_of_lt_of_le (Heap.lt_size e) hT)
 have nch:∀b u,H b=some u→b∉ch:=fun b u e z=>by rw [(hch b z).1] at e;cases e
 refine I.step (g':=s.gens) (d':=s.drawn) (t':=s.toks) (ch:=ch) (fun b hb=>?_) (fun b o _ _ hc e _=>kp b o hc e) (fun b o _ _ hc e _=>⟨o.slots,kp b o hc e⟩) (fun b o hc e n=>by rw [upd_ne (nT b o e)];exact n)
  (fun b o hc e=>⟨o,kp b o hc e⟩) (fun b xs e=>by rw [upd_ne (ne_of_none e fT)];exact e) (fun b o u e=>by rw [upd_ne (ne_of_none e fT)];exact e) (fun b ps e=>⟨#[],by rw [upd_ne (ne_of_none e fT),e];simp⟩) (fun m hm=>?_) (fun b u e=>?_) I.bare
 ·obtain ⟨_,f1,_,f3,f4,f5⟩:=hch b hb
  exact ⟨f3,f1,f4,f5⟩
 ·obtain ⟨o,es,ep,ho',r⟩:=hm
  exact ⟨o,es,ep,kp _ o (fun z=>(hch _ z).2.1 rfl) ho',r⟩
 ·by_cases hb:b=T
  ·subst hb
   rw [upd_same] at e
   cases e
   exact ⟨hz,its,hv,ho⟩
  ·rw [upd_ne hb] at e
   refine (I.hok b u e).stay (fun c v hc' q=>kp c v ?_ q) (fun c q=>by rw [upd_ne (ne_of_none q fT)];exact q) fun c xs q=>by rw [upd_ne (ne_of_none q fT)];exact q
   rcases hc' with z|z
   ·rw [z];exact nch b u e
   ·exact nch c _ z
theorem Inv.aHr {ch:List Addr} {h':Heap} (I:Inv X pins σ H s) (hch:∀b∈ch,FpOk X pins H b) (kp:∀b o,b∉ch→s.heap.get? b=some o→h'.get? b=some o):Inv X pins σ H { s with heap:=h' }:=by
 have nch:∀b u,H b=some u→b∉ch:=fun b u e z=>by rw [(hch b z).1] at e;cases e
 refine I.step (g':=s.gens) (d':=s.drawn) (t':=s.toks) (ch:=ch) (fun b hb=>?_) (fun b o _ _ hc e _=>kp b o hc e) (fun b o _ _ hc e _=>⟨o.slots,kp b o hc e⟩) (fun _ _ _ _ n=>n)
  (fun b o hc e=>⟨o,kp b o hc e⟩) (fun _ _ e=>e) (fun _ _ _ e=>e) (fun b ps e=>⟨#[],by rw [e];simp⟩) (fun m hm=>?_) (fun b u e=>?_) I.bare
 ·obtain ⟨_,f1,_,f3,f4,f5⟩:=hch b hb
  exact ⟨f3,f1,f4,f5⟩
 ·obtain ⟨o,es,ep,ho',r⟩:=hm
  exact ⟨o,es,ep,kp _ o (fun z=>(hch _ z).2.1 rfl) ho',r⟩
 ·refine (I.hok b u e).stay (fun c v hc' q=>kp c v ?_ q) (fun _ q=>q) fun _ _ q=>q
  rcases hc' with z|z
  ·rw [z];exact nch b u e
  ·exact nch c _ z
end
def Itz (K:PySem.W.Frag) (t u:Addr) (xs ys:List V):It:=
 ⟨fun i H=>SqT K H t xs∧SqT K H u ys∧i<xs.length∧i<ys.length,fun i H v H'=>∃T a b,H T=none∧v=.ref T∧H'=upd H T (.tup [a,b])∧xs[i]?=some a∧ys[i]?=some b,fun i H=>SqT K H t xs∧xs.length≤i⟩
def ztn (z TI TO i1 i2 t u:Addr) (i:Nat) (h:Heap):Prop:=
 h.get? z=some (sO .none TI TO)∧h.get? TI=some (kY (.ref i1) (.ref i2))∧(∃a b,h.get? TO=some (kY a b))∧h.get? i1=some (nR t i)∧h.get? i2=some (nR u i)
theorem aKw {P:Program} {w:World} {K:PySem.W.Frag} {elts:List Expr} {kt:Nat} {pos:Pos} {z TI TO i1 i2 t u:Addr} {xs ys:List V} (D:zQ z TI TO i1 i2) :
  Turn P w K (.Tuple elts kt pos) (Itz K t u xs ys) [z,TI,TO,i1,i2] z (ztn z TI TO i1 i2 t u) where
 mem:=by simp
 obj:=fun i h st b hb=>by
  obtain ⟨e1,e2,⟨a,c,e3⟩,e4,e5⟩:=st
  simp only [List.mem_cons,List.not_mem_nil,or_false] at hb
  rcases hb with rfl|rfl|rfl|rfl|rfl
  ·exact ⟨_,e1,fun v z=>by cases (show Data.fields _=Data.cell v from z)⟩
  ·exact ⟨_,e2,fun v z=>by cases (show Data.seq _ _=Data.cell v from z)⟩
  ·exact ⟨_,e3,fun v z=>by cases (show Data.seq _ _=Data.cell v from z)⟩
  ·exact ⟨_,e4,fun v z=>by cases (show Data.fields _=Data.cell v from z)⟩
  ·exact ⟨_,e5,fun v z=>by cases (show Data.fields _=Data.cell v from z)⟩
 keep:=fun i h h' st k=>by
  obtain ⟨e1,e2,⟨a,c,e3⟩,e4,e5⟩:=st
  exact ⟨k z (by simp) _ e1,k TI (by simp) _ e2,⟨a,c,k TO (by simp) _ e3⟩,k i1 (by simp) _ e4,k i2 (by simp) _ e5⟩
 item:=by
  intro X hP hw hK hc i pins s σ H E I hf st hg
  subst hP hw hK
  obtain ⟨e1,e2,⟨a0,c0,e3⟩,e4,e5⟩:=st
  obtain ⟨ht,hu,l1,l2⟩:=hg
  obtain ⟨its,rv,pt,hz⟩:=I.tuple ht
  obtain ⟨jts,rw',pu,hz'⟩:=I.tuple hu
  obtain ⟨x,hx,rx⟩:=rv.get (List.getElem?_eq_getElem l1)
  obtain ⟨y,hy,ry⟩:=rw'.get (List.getElem?_eq_getElem l2)
  have fz:=hf z (by simp)
  have fO:=hf TO (by simp)
  have f1:=hf i1 (by simp)
  have f2:=hf i2 (by simp)
  refine aJc D e1 e2 e3 e4 e5 (show s.heap.IsTuple t its.toArray from pt) (show s.heap.IsTuple u jts.toArray from pu) (by simpa using hx) (by simpa using hy) (I.tup_ne ht fz) (I.tup_ne ht fO) (I.tup_ne ht f1) (I.tup_ne ht f2)
   (I.tup_ne hu fz) (I.tup_ne hu fO) (I.tup_ne hu f1) (I.tup_ne hu f2) fun h' a1 a2 a3 a4 a5 kp=>?_
  refine ⟨_,rfl,?_⟩
  have fT:H s.heap.objs.size=none:=I.hok.fresh (Nat.le_refl _)
  have I1:Inv X pins σ (upd H s.heap.objs.size (.tup [xs[i],ys[i]])) { s with heap:=h' }:=by
   refine I.drawn (ch:=[z,TO,i1,i2]) (its:=[x,y]) (fun b hb=>?_) (fun b o hb e=>?_) (Nat.le_refl _) (.cons rx (.cons ry .nil)) (small (by simp)) (.of a5 rfl ⟨_,a5,rfl,_,rfl⟩) (fun b hb=>?_)
   ·refine hf b ?_
    simp only [List.mem_cons,List.not_mem_nil,or_false] at hb ⊢
    rcases hb with h|h|h|h <;> simp [h]
   ·simp only [List.mem_cons,List.not_mem_nil,or_false,not_or] at hb
    exact kp b o hb.1 hb.2.1 hb.2.2.1 hb.2.2.2 e
   ·simp only [List.mem_cons,List.not_mem_nil,or_false] at hb
    rcases hb with rfl|rfl|rfl|rfl
    ·exact ⟨_,a1⟩
    ·exact ⟨_,a2⟩
    ·exact ⟨_,a3⟩
    ·exact ⟨_,a4⟩
  have nT:∀b∈[z,TI,TO,i1,i2],b≠s.heap.objs.size:=fun b hb=>by
   have e:∃o,s.heap.get? b=some o:=by
    simp only [List.mem_cons,List.not_mem_nil,or_false] at hb
    rcases hb with rfl|rfl|rfl|rfl|rfl
    ·exact ⟨_,e1⟩
    ·exact ⟨_,e2⟩
    ·exact ⟨_,e3⟩
    ·exact ⟨_,e4⟩
    ·exact ⟨_,e5⟩
   obtain ⟨o,e⟩:=e
   exact Nat.ne_of_lt (Heap.lt_size e)
  refine wpAny_letOwnedTupleGo_zip (s:={ s with heap:=h' }) a1 fun h2 z2 s2=>?_
  obtain ⟨g0,g1,g2,g3,g4,g5⟩:=fz
  have I2:Inv X pins σ (upd H s.heap.objs.size (.tup [xs[i],ys[i]])) { s with heap:=h2 }:=Inv.turned (s:={ s with heap:=h' }) I1 (t':=s.toks) (it:=z) (fun b o hb e=>(s2.2 b hb).trans e) (by rw [upd_ne (nT z (by simp))];exact g0) g1 g3 g4 g5
  refine ⟨.ref s.heap.objs.size,_,I2,rfl,⟨_,_,_,fT,rfl,rfl,List.getElem?_eq_getElem l1,List.getElem?_eq_getElem l2⟩,?_,fun b hb=>by rw [upd_ne (nT b hb)];exact (hf b hb).1⟩
  exact ⟨z2,s2.extBut _ _ D.h1 (kp TI _ D.h1 D.h5 D.h6 D.h7 e2),⟨_,_,s2.extBut _ _ D.h2 a2⟩,s2.extBut _ _ D.h3 a3,s2.extBut _ _ D.h4 a4⟩
 done:=by
  intro X hP hw hK hc i pins s σ H E I hf st hg
  subst hP hw hK
  obtain ⟨e1,e2,⟨a0,c0,e3⟩,e4,e5⟩:=st
  obtain ⟨ht,hl⟩:=hg
  obtain ⟨its,rv,pt,hz⟩:=I.tuple ht
  have hlen:=rv.length
  refine aK6 (I.ok.hd hc) D e1 e2 e3 e4 (show s.heap.IsTuple t its.toArray from pt) (by simp;omega) (I.tup_ne ht (hf z (by simp))) fun h' kp=>⟨rfl,?_⟩
  refine Inv.aHr (ch:=[z,TO,i1,i2]) I (fun b hb=>hf b ?_) fun b o hb e=>?_
  ·simp only [List.mem_cons,List.not_mem_nil,or_false] at hb ⊢
   rcases hb with h|h|h|h <;> simp [h]
  ·simp only [List.mem_cons,List.not_mem_nil,or_false,not_or] at hb
   exact kp b o hb.1 hb.2.1 hb.2.2.1 hb.2.2.2 e
 self:=fun _ _ _ _ _ st h=>wpAny_pyIter_zip st.1 h
section
variable {X:Cx}
def aH6 (K:PySem.W.Frag) (ta:TA):TI:=fun σ H R=>ta σ H fun vs H1=>∃t u xs ys,vs=[.ref t,.ref u]∧SqT K H1 t xs∧SqT K H1 u ys∧R (Itz K t u xs ys) H1
theorem aMj {elts:List Expr} {kt:Nat} {tp:Pos} {a b:Expr} {ta:TA} {p pos:Pos} (hg:Gl X "zip") (hm:X.mg "zip"=none) (ha:PA X [a,b] ta) (hs:starEach [a,b] X.env=(false,eval a X.env)::starEach [b] X.env:=by rfl)
  (hs2:starEach [b] X.env=[(false,eval b X.env)]:=by rfl):PI X (.Tuple elts kt tp) (.Call (.Name "zip" p) [a,b] [] pos) (aH6 X.K ta):=by
 intro pins s σ H R I h
 refine Call_ (ld_blt I hg hm aOc (PyProof.Rows.callWith_type1 (thn (ha pos pins s σ H _ I h) fun us s1 ⟨vs,H1,I1,r1,q1⟩=>?_) hs (by rw [hs2];rfl)))
 obtain ⟨t,u,xs,ys,e,ht,hu,q⟩:=q1
 subst e
 obtain ⟨its,rv,pt,hz⟩:=I1.tuple ht
 obtain ⟨jts,rw',pu,hz'⟩:=I1.tuple hu
 cases r1 with
 |cons r rr=>
  cases rr with
  |cons r' rr'=>
   cases rr'
   cases r
   cases r'
   refine aIg (show s1.heap.IsTuple t its.toArray from pt) (show s1.heap.IsTuple u jts.toArray from pu) ?_
   have z1:(zT1 s1.heap t).objs.size=s1.heap.objs.size+1:=Heap.size_push ..
   have z2:(zT2 s1.heap t u).objs.size=s1.heap.objs.size+2:=by rw [Heap.size_push,z1]
   have z3:(zT3 s1.heap t u).objs.size=s1.heap.objs.size+3:=by rw [Heap.size_push,z2]
   have z4:(zT4 s1.heap t u).objs.size=s1.heap.objs.size+4:=by rw [Heap.size_push,z3]
   have D:zQ (zT4 s1.heap t u).objs.size (zT2 s1.heap t u).objs.size (zT3 s1.heap t u).objs.size s1.heap.objs.size (zT1 s1.heap t).objs.size:=by
    constructor <;> (show (_:Nat)≠(_:Nat);rw [Ne];intro h;simp only [z1,z2,z3,z4] at h;omega)
   have g5:(zT5 s1.heap t u).get? (zT4 s1.heap t u).objs.size=some (sO .none (zT2 s1.heap t u).objs.size (zT3 s1.heap t u).objs.size):=Heap.get?_push_size _ rfl
   have g4:(zT5 s1.heap t u).get? (zT3 s1.heap t u).objs.size=some (kY .none .none):=Heap.get?_push_of_some _ (Heap.get?_push_size _ rfl)
   have g3:(zT5 s1.heap t u).get? (zT2 s1.heap t u).objs.size=some (kY (.ref s1.heap.objs.size) (.ref (zT1 s1.heap t).objs.size)):=Heap.get?_push_of_some _ (Heap.get?_push_of_some _ (Heap.get?_push_size _ rfl))
   have g2:(zT5 s1.heap t u).get? (zT1 s1.heap t).objs.size=some (nR u 0):=Heap.get?_push_of_some _ (Heap.get?_push_of_some _ (Heap.get?_push_of_some _ (Heap.get?_push_size _ rfl)))
   have g1:(zT5 s1.heap t u).get? s1.heap.objs.size=some (nR t 0):=Heap.get?_push_of_some _ (Heap.get?_push_of_some _ (Heap.get?_push_of_some _ (Heap.get?_push_of_some _ (Heap.get?_push_size _ rfl))))
   have I2:Inv X pins σ H1 { s1 with heap:=zT5 s1.heap t u }:=I1.kept (t':=s1.toks) fun b o e=>Heap.get?_push_of_some _ (Heap.get?_push_of_some _ (Heap.get?_push_of_some _ (Heap.get?_push_of_some _ (Heap.get?_push_of_some _ e))))
   refine wpAny_pyIter_zip (s:={ s1 with heap:=zT5 s1.heap t u }) g5 ⟨_,_,_,_,H1,rfl,I2,aKw (xs:=xs) (ys:=ys) D,⟨g5,g3,⟨_,_,g4⟩,g1,g2⟩,fun b hb=>?_,q⟩
   have hb':s1.heap.objs.size≤b:=by
    simp only [List.mem_cons,List.not_mem_nil,or_false] at hb
    rcases hb with rfl|rfl|rfl|rfl|rfl
    ·rw [z4];exact Nat.le_add_right ..
    ·rw [z2];exact Nat.le_add_right ..
    ·rw [z3];exact Nat.le_add_right ..
    ·exact Nat.le_refl _
    ·rw [z1];exact Nat.le_add_right ..
   exact I1.fpOk hb' (I1.hok.fresh hb')
end
section
variable {X:Cx}
inductive Tk (K:PySem.W.Frag) (H:Hp):V→Bool→Prop
 |int {i}:Tk K H (.int i) false
 |str {x}:Tk K H (.str x) false
 |bl {b}:Tk K H (.bl b) false
 |non:Tk K H .non false
 |lst {a xs}:SqL K H a xs→Tk K H (.ref a) false
 |dct {a kvs}:H a=some (.dK kvs)→Tk K H (.ref a) false
 |tup {a xs}:SqT K H a xs→Tk K H (.ref a) true
def aPy (K:PySem.W.Frag):List V→Hp→VK→Prop:=fun xs H Q=>∃x b,xs=[x,.ty "tuple"]∧Tk K H x b∧Q (.bl b) H
theorem fU:CallR X (.builtin "isinstance") (aPy X.K):=by
 intro pins s σ H xs us Q I r h
 obtain ⟨x,b,rfl,hx,q⟩:=h
 obtain ⟨u,v,rfl,rx,rT⟩:=r.two
 cases rT
 have f0:EP X pins σ Q (.bool b) s:=⟨.bl _,H,I,rfl,q⟩
 have f1:EP X pins σ Q (.bool b) { s with toks:=s.toks+1 }:=⟨.bl _,H,I.tok _,rfl,q⟩
 cases hx with
 |int=>obtain ⟨t,rfl⟩:=rx;exact IsiPair.int_tuple f1
 |str=>obtain ⟨t,rfl⟩:=rx;exact IsiPair.str_tuple f1
 |bl=>cases rx;exact IsiPair.bool_tuple f1
 |non=>cases rx;exact IsiPair.NoneType_tuple f1
 |lst hq=>
  cases rx
  obtain ⟨its,rv,⟨o,n,e,c,_⟩,hz⟩:=I.list hq
  exact IsiPair.list_tuple e c f1
 |dct hq=>
  cases rx
  obtain ⟨_,_,_,_,o,_,_,e,ex,_⟩:=I.hok _ _ hq
  exact IsiPair.dict_tuple e ex.1 f1
 |tup hq=>
  cases rx
  obtain ⟨its,rv,⟨o,e,c,_⟩,hz⟩:=I.tuple hq
  exact IsiPair.tuple_tuple e c f0
end
section
variable {X:Cx} {scope:Scope} {N:List Str} {wi:TI} {te:TE} {σ:St} {H:Hp} {Q:VK}
theorem dU {σ0:St} {j:Nat} (h0:σ0[j]?=some none):σ0=σ0.set j none:=by
 refine (List.ext_getElem? fun i=>?_)
 rw [List.getElem?_set]
 split
 ·rename_i hj
  subst hj
  split
  ·exact h0
  ·rename_i hlt
   exact List.getElem?_eq_none_iff.mpr (by omega)
 ·rfl
theorem aIn (xs:List V) (f:V→V) (σ0:St) (cap:Cap X scope N σ σ0) (hsz:xs.length≤sizeLine)
  (hw:∀R:It→Hp→Prop,(∀J:It,(∀H' i x,Same H H'→xs[i]?=some x→J.go i H'∧∀y H2,J.yld i H' y H2→H2=H'∧y=x)→(∀H',Same H H'→J.stop xs.length H')→R J H)→wi σ H R)
  (he:∀x∈xs,∀H' R l,Same H H'→(∀H2,Same H' H2→R (f x) H2)→te ((σ0.set 0 l).set 0 (some x)) H' R) (h0:σ0[0]?=some none)
  (q:∀D H',Same H H'→H' D=some (.lst (xs.map f))→Q (.ref D) H') :
  gO X scope N wi (gName 0) mU te σ H Q:=by
 refine ⟨σ0,cap,hw _ fun J go stop D hD=>?_⟩
 refine ⟨fun i m σ' H' ys=>i≤xs.length∧m=xs.length - i∧(∃l,σ'=σ0.set 0 l)∧Same H H'∧H' D=some (.lst ys)∧ys=(xs.take i).map f,⟨xs.length,Nat.zero_le _,rfl,⟨none,dU h0⟩,aX hD _,upd_same,rfl⟩,?_⟩
 rintro i m σ' H' ys ⟨hi,rfl,⟨l,rfl⟩,sm,hL,rfl⟩
 refine ⟨hL,?_⟩
 by_cases hlt:i<xs.length
 ·right
  obtain ⟨g1,g2⟩:=go H' i xs[i] sm (List.getElem?_eq_getElem hlt)
  refine ⟨g1,fun x H2 hy=>?_⟩
  obtain ⟨rfl,rfl⟩:=g2 x H2 hy
  unfold gName mU
  dsimp only
  rw [if_pos rfl]
  refine he xs[i] (List.getElem_mem hlt) _ _ l sm fun H3 s3=>⟨s3 _ _ hL,?_,xs.length - (i+1),by omega,hlt,rfl,⟨some xs[i],?_⟩,?_,upd_same,?_⟩
  ·rw [List.length_map,List.length_take];omega
  ·rw [List.set_set]
  ·intro b o e
   rw [upd_ne (ne_of_none e hD)]
   exact s3 _ _ (sm _ _ e)
  ·rw [List.take_add_one,List.getElem?_eq_getElem hlt,List.map_append]
   rfl
 ·left
  have e:i=xs.length:=by omega
  subst e
  refine ⟨stop _ sm,?_⟩
  rw [List.take_length] at hL
  exact q D _ sm hL
theorem iJ {K:PySem.W.Frag} {a:Addr} {xs:List V} {tl:TE} (hS:SqT K H a xs) (h:∀R:VK,R (.ref a) H→tl σ H R) (R:It→Hp→Prop)
  (q:∀J:It,(∀H' i x,Same H H'→xs[i]?=some x→J.go i H'∧∀y H2,J.yld i H' y H2→H2=H'∧y=x)→(∀H',Same H H'→J.stop xs.length H')→R J H):iTup K tl σ H R:=by
 refine h _ ⟨a,rfl,⟨xs,hS⟩,q _ (fun H' i x s e=>⟨⟨xs,x,s.aM hS,e⟩,fun y H2 hy=>?_⟩) fun H' s=>⟨xs,s.aM hS,Nat.le_refl _⟩⟩
 obtain ⟨e1,e2⟩:=hy
 have e3:=e2 xs (s.aM hS)
 rw [e] at e3
 cases e3
 exact ⟨e1,rfl⟩
end
section
variable {κ:Type} [DecidableEq κ]
def valV (kvs:List (κ × V)) (k:κ):Option V:=(kvs.find? fun kv=>decide (kv.1=k)).map (·.2)
def putK (kvs:List (κ × V)) (k:κ) (v:V):List (κ × V):=
 if (kvs.any fun kv=>decide (kv.1=k))=true then kvs.map (fun kv=>if kv.1=k then (kv.1,v) else kv) else kvs++[(k,v)]
theorem valV_pos {p:κ × V} {r:List (κ × V)} {k:κ} (e:p.1=k):valV (p::r) k=some p.2:=by simp [valV,List.find?_cons,e]
theorem valV_neg {p:κ × V} {r:List (κ × V)} {k:κ} (e:¬ p.1=k):valV (p::r) k=valV r k:=by simp [valV,List.find?_cons,e]
theorem length_putK (kvs:List (κ × V)) (k:κ) (v:V):(putK kvs k v).length≤kvs.length+1:=by
 unfold putK
 split
 ·rw [List.length_map];omega
 ·rw [List.length_append,List.length_cons,List.length_nil];omega
theorem RelO.isSome_eq {o:Option V} {u:Option Value} (r:RelO o u):o.isSome=u.isSome:=by
 cases o with
 |none=>cases u with
  |none=>rfl
  |some _=>exact (show False from r).elim
 |some _=>cases u with
  |none=>exact (show False from r).elim
  |some _=>rfl
theorem KV.val {kvs:List (κ × V)} {vs:List (κ × Value)} (r:KV kvs vs) (k:κ):RelO (valV kvs k) (valueAt vs k):=by
 unfold KV at r
 induction r with
 |nil=>exact True.intro
 |@cons p q ps qs h t ih=>
  obtain ⟨h1,h2⟩:=h
  by_cases e:p.1=k
  ·have e':q.1=k:=h1.symm.trans e
   have b:valueAt (q::qs) k=some q.2:=by simp [valueAt,List.find?_cons,e']
   rw [valV_pos e,b];exact h2
  ·have e':¬ q.1=k:=fun z=>e (h1.trans z)
   have b:valueAt (q::qs) k=valueAt qs k:=by simp [valueAt,List.find?_cons,e']
   rw [valV_neg e,b];exact ih
theorem KV.any {kvs:List (κ × V)} {vs:List (κ × Value)} (r:KV kvs vs) (k:κ):(kvs.any fun kv=>decide (kv.1=k))=vs.any fun kv=>decide (kv.1=k):=by
 unfold KV at r
 induction r with
 |nil=>rfl
 |cons h t ih=>rw [List.any_cons,List.any_cons,ih,h.1]
theorem KV.repl {kvs:List (κ × V)} {vs:List (κ × Value)} (r:KV kvs vs) (k:κ) {y:V} {u:Value} (ry:RelV y u) :
  KV (kvs.map fun kv=>if kv.1=k then (kv.1,y) else kv) (vs.map fun kv=>if kv.1=k then (kv.1,u) else kv):=by
 unfold KV at r ⊢
 induction r with
 |nil=>exact .nil
 |@cons p q ps qs h t ih=>
  rw [List.map_cons,List.map_cons]
  refine .cons ?_ ih
  obtain ⟨h1,h2⟩:=h
  by_cases e:p.1=k
  ·rw [if_pos e,if_pos (h1.symm.trans e)];exact ⟨h1,ry⟩
  ·rw [if_neg e,if_neg (fun z=>e (h1.trans z))];exact ⟨h1,h2⟩
theorem KV.put {kvs:List (κ × V)} {vs:List (κ × Value)} (r:KV kvs vs) (k:κ) {y:V} {u:Value} (ry:RelV y u):KV (putK kvs k y) (stored vs k u):=by
 unfold putK stored
 rw [r.any k]
 by_cases e:(vs.any fun kv=>decide (kv.1=k))=true
 ·rw [if_pos e,if_pos e];exact r.repl k ry
 ·rw [if_neg e,if_neg e];exact Paired.snoc r ⟨rfl,ry⟩
end
theorem kV_is {P:Program} {w:World} {k:Key} {u:Value} (r:RelV (kV k) u):(mixKind P w).is k u=true:=by
 cases k with
 |inl i=>obtain ⟨t,e⟩:=(show ∃t,u=Value.int i t from r);subst e;exact mixKind_int P w i t
 |inr x=>obtain ⟨t,e⟩:=(show ∃t,u=Value.str x t from r);subst e;exact mixKind_str P w x t
theorem items_are {P:Program} {w:World}:∀{ks:List Key} {us:List Value},Vals (ks.map kV) us→ItemsAre (mixKind P w) ks us
 |[],_,r=>by rw [List.map_nil] at r;cases r;exact .nil
 |k::ks,_,r=>by
  rw [List.map_cons] at r
  cases r with
  |cons h t=>exact .cons (kV_is h) (items_are t)
abbrev KT (H:Hp):List (List Key × V)→List (List Key × Addr × Value)→Prop:=Paired fun p q=>p.1=q.1∧H q.2.1=some (.tup (p.1.map kV))∧RelV p.2 q.2.2
theorem KT.val {H:Hp} {kvs:List (List Key × V)} {xs:List (List Key × Addr × Value)} (r:KT H kvs xs) (k:List Key):RelO (valV kvs k) ((atKey xs k).map (·.2)):=by
 induction r with
 |nil=>exact True.intro
 |@cons p q ps qs h t ih=>
  obtain ⟨h1,_,h2⟩:=h
  by_cases e:p.1=k
  ·have e':q.1=k:=h1.symm.trans e
   have b:atKey (q::qs) k=some q.2:=by simp [atKey,List.find?_cons,e']
   rw [valV_pos e,b];exact h2
  ·have e':¬ q.1=k:=fun z=>e (h1.trans z)
   have b:atKey (q::qs) k=atKey qs k:=by simp [atKey,List.find?_cons,e']
   rw [valV_neg e,b];exact ih
section
variable {P:Program} {w:World} {H:Hp} {h:Heap} {a:Addr}
theorem rd_of {u:HO} (ok:HOk P w H h) (e:Rd H a u):ObjOk P w H h a u:=e.ok ok
theorem dk_rd {kvs:List (Key × V)} (ok:HOk P w H h) (e:Rd H a (.dK kvs)):kvs.length≤sizeLine∧(a == sysModules)=false∧∃vs,KV kvs vs∧h.DictOf (mixKind P w) a vs:=
 show ObjOk P w H h a (.dK kvs) from rd_of ok e
theorem dk_of {kvs:List (Key × V)} (ok:HOk P w H h) (e:H a=some (.dK kvs)):kvs.length≤sizeLine∧(a == sysModules)=false∧∃vs,KV kvs vs∧h.DictOf (mixKind P w) a vs:=dk_rd ok (.inl e)
theorem key_of {ks:List Key} (ok:HOk P w H h) (e:H a=some (.tup (ks.map kV))):(tupleKind (mixKind P w)).is h ks a:=by
 obtain ⟨_,its,r,⟨o,h1,h2,n,h3⟩,_⟩:=(show ObjOk P w H h a (.tup (ks.map kV)) from ok a _ e)
 exact ⟨o,its.toArray,n,h1,h2,h3,by simpa using items_are r⟩
theorem dt_rd {kvs:List (List Key × V)} (ok:HOk P w H h) (e:Rd H a (.dT kvs)):kvs.length≤sizeLine∧(a == sysModules)=false ∧
  ∃xs,KT H kvs xs∧h.DictOfH (tupleKind (mixKind P w)) a xs:=by
 obtain ⟨z,y,xs,r,o,es,ep,h1,h2,h3,h4,h5⟩:=(show ObjOk P w H h a (.dT kvs) from rd_of ok e)
 refine ⟨z,y,xs,r,o,es,ep,h1,h2,h3,h4,fun x hx=>?_,h5⟩
 have all:∀{l:List (List Key × V)} {m:List (List Key × Addr × Value)},KT H l m→∀x∈m,(tupleKind (mixKind P w)).is h x.1 x.2.1:=by
  intro l m q
  induction q with
  |nil=>intro x hx;exact nomatch hx
  |@cons p q ps qs hq t ih=>
   intro x hx
   rcases List.mem_cons.mp hx with e|hx
   ·subst e
    exact key_of ok (by rw [←hq.1];exact hq.2.1)
   ·exact ih x hx
 exact all r x hx
end
def DGet (H:Hp) (a:Addr) (y:V) (r:Option V):Prop:=
 (∃kvs k,Rd H a (.dK kvs)∧y=kV k∧r=valV kvs k)∨∃kvs k b,Rd H a (.dT kvs)∧y=.ref b∧H b=some (.tup (k.map kV))∧r=valV kvs k
theorem DGet.k {H:Hp} {a:Addr} {kvs:List (Key × V)} {k:Key} (e:H a=some (.dK kvs)):DGet H a (kV k) (valV kvs k):=.inl ⟨kvs,k,.inl e,rfl,rfl⟩
section
variable {X:Cx} {pins:List (Addr × Obj)} {σ:St} {H:Hp} {s:Shared} {a:Addr} {y v:V} {u r:Value} {o:Option V} {A:Around} {E:Value→Shared→Prop}
theorem Inv.big (I:Inv X pins σ H s):sysModules<s.heap.objs.size:=by
 have h:mainGlobals<s.heap.objs.size:=(I.mod.glob.keeps I.bk).lt
 exact Nat.lt_trans (by decide) h
theorem d_getItem {Q:Value→Shared→Prop} (hu:A.units+1<cLine) (I:Inv X pins σ H s) (g:DGet H a y (some v)) (ry:RelV y u) (h:∀w' s',Inv X pins σ H s'→RelV v w'→Q w' s') :
  wpAny (model X.prog X.w) A (getItem (.ref a) u) Q E s:=by
 rcases g with ⟨kvs,k,e,ey,l⟩|⟨kvs,k,b,e,ey,eb,l⟩
 ·subst ey
  obtain ⟨z,hd,vs,rel,dd⟩:=dk_rd I.hok e
  obtain ⟨w',hw,rw'⟩:=RelO.some_of (v:=v) (o:=valueAt vs k) (by rw [l];exact rel.val k)
  exact wpAny_getItem_of (kV_is ry) dd.mapOf hw (h w' _ (I.tok _) rw')
 ·subst ey
  cases (show u=Value.ref b from ry)
  obtain ⟨z,hd,xs,rel,dd⟩:=dt_rd I.hok e
  obtain ⟨w',hw,rw'⟩:=RelO.some_of (v:=v) (o:=(atKey xs k).map (·.2)) (by rw [l];exact rel.val k)
  obtain ⟨p,hp,hp2⟩:=Option.map_eq_some_iff.mp hw
  refine wpAny_getItem_heap (tupleKind_room_in1 hu) (key_of I.hok eb) dd hp ?_
  rw [hp2]
  exact h w' _ (I.tok _) rw'
theorem d_notIn {Q:Value→Shared→Prop} (hu:A.units+1<cLine) (I:Inv X pins σ H s) (g:DGet H a y o) (ry:RelV y u) (h:∀s',Inv X pins σ H s'→Q (.bool (!o.isSome)) s') :
  wpAny (model X.prog X.w) A (compareOp .NotIn u (.ref a)) Q E s:=by
 rcases g with ⟨kvs,k,e,ey,l⟩|⟨kvs,k,b,e,ey,eb,l⟩
 ·subst ey
  obtain ⟨z,hd,vs,rel,dd⟩:=dk_rd I.hok e
  refine wpAny_notIn_of (kV_is ry) hd dd.mapOf ?_
  rw [←(rel.val k).isSome_eq,←l]
  exact h _ (I.tok _)
 ·subst ey
  cases (show u=Value.ref b from ry)
  obtain ⟨z,hd,xs,rel,dd⟩:=dt_rd I.hok e
  refine wpAny_notIn_heap (tupleKind_room_in1 hu) (key_of I.hok eb) hd dd ?_
  have q:=(rel.val k).isSome_eq
  rw [Option.isSome_map] at q
  rw [←q,←l]
  exact h _ (I.tok _)
theorem d_write {h':Heap} {t':Nat} {ob:HO} (I:Inv X pins σ H s) (mu:Mut (H a)) (hs:Heap.SameBut a s.heap h') (he:∃q,h'.get? a=some q) (new:ObjOk X.prog X.w (upd H a ob) h' a ob) :
  Inv X pins σ (upd H a ob) { s with heap:=h',toks:=t' }:=
 I.write (x:=a) (e:=a) mu (.inl rfl) (fun b q hb z=>(hs.2 b hb).trans z) he new
theorem dk_new {P:Program} {w:World} {H':Hp} {h':Heap} {kvs:List (Key × V)} {vs:List (Key × Value)} (z:kvs.length≤sizeLine) (hd:(a == sysModules)=false) (rel:KV kvs vs) (dd:h'.DictOf (mixKind P w) a vs) :
  ObjOk P w H' h' a (.dK kvs):=⟨z,hd,vs,rel,dd⟩
end
section
variable {X:Cx} {pins:List (Addr × Obj)} {σ:St} {H:Hp} {s:Shared} {a:Addr} {kvs:List (Key × V)} {k:Key} {u:Value} {A:Around} {E:Value→Shared→Prop}
end
def NoSl (i:Expr):Prop:=∀ov iv,subscripted i false ov iv=operate [ov,iv] (getItem ov iv)
theorem subD_of {prog:Program} {w:World} {A:Around} {E:Value→Shared→Prop} {s:Shared} {env:Env} {value slice:Expr} {pos:Pos} {T id:String} {Q:Value→Shared→Prop}
  (hl:typeLookup (.type T) "__getitem__"=pure (some (.builtin id))) (hs:NoSl slice)
  (h:wpAny (model prog w) A (eval value env) (fun o s₁=>wpAny (model prog w) A (eval slice env) (fun i s₂=>s₂.TypeIs o T∧wpAny (model prog w) A (getItem o i) Q E s₂) E s₁) E s) :
  wpAny (model prog w) A (eval (.Subscript value slice pos) env) Q E s:=by
 refine Subscript_ (wpAny_mono h (fun o s₁ h₁=>wpAny_mono h₁ (fun i s₂ h₂=>?_) fun _ _ x=>x) fun _ _ x=>x)
 obtain ⟨hT,h₂⟩:=h₂
 unfold subscriptTail
 refine wpAny_bind ?_
 rw [getitemInPython_of_ne hT.not_modules]
 refine wpAny_bind (wpAny_specialOf hT hl ?_)
 have fin:wpAny (model prog w) A (subscripted slice false o i) (fun r s₃=>wpAny (model prog w) A (letTemporaryGo value o r >>= fun _=>pure r) Q E s₃) E s₂:=by
  rw [hs o i]
  exact wpAny_operating (wpAny_mono h₂ (fun r s₃ h₃=>wpAny_bind (wpAny_letTemporaryGo (wpAny_pure h₃))) fun _ _ x=>x)
 first
  |exact wpAny_pure (wpAny_bind fin)
  |exact wpAny_bind (wpAny_pure (wpAny_bind fin))
  |exact wpAny_bind fin
theorem dict_typeIs {X:Cx} {pins:List (Addr × Obj)} {σ:St} {H:Hp} {s:Shared} {a:Addr} {y:V} {o:Option V} (I:Inv X pins σ H s) (g:DGet H a y o):s.TypeIs (.ref a) "dict":=by
 rcases g with ⟨kvs,k,e,_,_⟩|⟨kvs,k,b,e,_,_,_⟩
 ·obtain ⟨_,_,vs,_,dd⟩:=dk_rd I.hok e
  exact dd.typeIs
 ·obtain ⟨_,_,xs,_,dd⟩:=dt_rd I.hok e
  exact dd.typeIs
def tDGet (td ty:TE):TE:=fun σ H Q=>td σ H fun x H1=>ty σ H1 fun y H2=>∃a v,x=.ref a∧DGet H2 a y (some v)∧Q v H2
def tDNotIn (ty td:TE):TE:=fun σ H Q=>ty σ H fun y H1=>td σ H1 fun x H2=>∃a o,x=.ref a∧DGet H2 a y o∧Q (.bl (!o.isSome)) H2
section
variable {X:Cx} {o i e value:Expr} {pos pos' tpos:Pos} {td ty tv:TE}
theorem pe_dget (hu:X.A.units+1<cLine) (ho:PE X o td) (hi:PE X i ty) (hs:NoSl i):PE X (.Subscript o i pos) (tDGet td ty):=by
 intro pins s σ H Q I h
 refine subD_of PySem.F.slot_dict_getitem.lookup hs (thn (ho pins s σ H _ I h) fun u s1 ⟨x,H1,I1,rx,q1⟩=>thn (hi pins s1 σ H1 _ I1 q1) fun iv s2 ⟨y,H2,I2,ry,a,v,ex,g,q2⟩=>?_)
 subst ex
 obtain rfl:u=Value.ref a:=rx
 exact ⟨dict_typeIs I2 g,d_getItem hu I2 g ry fun w' s3 I3 rw'=>⟨v,H2,I3,rw',q2⟩⟩
theorem pc_dnotin (hu:X.A.units+1<cLine) (hi:PE X i ty) (ho:PE X o td):PC X .NotIn i o (tDNotIn ty td):=by
 intro pins s σ H Q I h
 refine thn (hi pins s σ H _ I h) fun iv s1 ⟨y,H1,I1,ry,q1⟩=>thn (ho pins s1 σ H1 _ I1 q1) fun u s2 ⟨x,H2,I2,rx,a,ov,ex,g,q2⟩=>?_
 subst ex
 obtain rfl:u=Value.ref a:=rx
 exact d_notIn hu I2 g ry fun s3 I3=>⟨.bl (!ov.isSome),H2,I3,rfl,q2⟩
end
theorem dk_empty {P:Program} {w:World} {H:Hp} (h:Heap) (hb:sysModules<h.objs.size):ObjOk P w H (h.push { cls:=.type "dict",data:=.dict #[] }) h.objs.size (.dK []):=
 ⟨Nat.zero_le _,beq_eq_false_iff_ne.mpr (Ne.symm (Nat.ne_of_lt hb)),[],.nil,Heap.DictOf.new h⟩
section
variable {X:Cx} {pos:Pos}
end
def tPairs:List (TE × TE)→St→Hp→(List (V × V)→Hp→Prop)→Prop
 |[],_,H,Q=>Q [] H
 |(tk,tv)::r,σ,H,Q=>tk σ H fun x H1=>tv σ H1 fun y H2=>tPairs r σ H2 fun ps H3=>Q ((x,y)::ps) H3
abbrev VV:List (V × V)→List (Value × Value)→Prop:=Paired fun p q=>RelV p.1 q.1∧RelV p.2 q.2
def PPs (X:Cx) (pos:Pos) (keys:List (Option Expr)) (values:List Expr) (trs:List (TE × TE)):Prop:=
 ∀(pins:List (Addr × Obj)) (s:Shared) (σ:St) (H:Hp) (Q:List (V × V)→Hp→Prop),Inv X pins σ H s→tPairs trs σ H Q →
  wpAny (model X.prog X.w) X.A (evalPairs (pairTrees keys values X.env pos)) (fun vs s'=>∃ps H',Inv X pins σ H' s'∧VV ps vs∧Q ps H') X.xe s
theorem pps_nil {X:Cx} {pos:Pos}:PPs X pos [] [] []:=fun pins s σ H Q I h=>pairTrees_nil_walk ⟨[],H,I,.nil,h⟩
theorem pps_cons {X:Cx} {pos:Pos} {k v:Expr} {ks:List (Option Expr)} {vs:List Expr} {tk tv:TE} {trs:List (TE × TE)} (hk:PE X k tk) (hv:PE X v tv) (hr:PPs X pos ks vs trs) :
  PPs X pos (some k::ks) (v::vs) ((tk,tv)::trs):=fun pins s σ H Q I h=>
 pairTrees_cons_walk (thn (hk pins s σ H _ I h) fun u s1 ⟨x,H1,I1,rx,q1⟩=>thn (hv pins s1 σ H1 _ I1 q1) fun w2 s2 ⟨y,H2,I2,ry,q2⟩=>
  thn (hr pins s2 σ H2 _ I2 q2) fun ws s3 ⟨ps,H3,I3,rel,q3⟩=>⟨(x,y)::ps,H3,I3,.cons ⟨rx,ry⟩ rel,q3⟩)
def mergeK (kvs more:List (Key × V)):List (Key × V):=more.foldl (fun acc kv=>putK acc kv.1 kv.2) kvs
theorem KV.merge:∀{more:List (Key × V)} {rs:List (Key × Value)} {kvs:List (Key × V)} {vs:List (Key × Value)},KV more rs→KV kvs vs→KV (mergeK kvs more) (merged vs rs):=by
 intro more rs kvs vs r
 unfold KV at r
 induction r generalizing kvs vs with
 |nil=>intro q;exact q
 |@cons p q ps qs h t ih=>
  intro r0
  have e:KV (putK kvs p.1 p.2) (stored vs q.1 q.2):=by
   have:=r0.put p.1 h.2
   rw [←h.1];exact this
  exact ih e
theorem length_mergeK:∀(more kvs:List (Key × V)),(mergeK kvs more).length≤kvs.length+more.length
 |[],kvs=>by show kvs.length≤kvs.length+0;omega
 |p::r,kvs=>by
  have h1:=length_mergeK r (putK kvs p.1 p.2)
  have h2:=length_putK kvs p.1 p.2
  show (mergeK (putK kvs p.1 p.2) r).length≤_
  rw [List.length_cons];omega
theorem carries_of {P:Program} {w:World}:∀{kvs:List (Key × V)} {ws:List (Value × Value)},VV (kvs.map fun kv=>(kV kv.1,kv.2)) ws→∃rs,Carries (mixKind P w) ws rs∧KV kvs rs
 |[],_,r=>by rw [List.map_nil] at r;cases r;exact ⟨[],True.intro,.nil⟩
 |p::kvs,_,r=>by
  rw [List.map_cons] at r
  cases r with
  |@cons a b as bs h t=>
   obtain ⟨rs,c,q⟩:=carries_of (P:=P) (w:=w) t
   obtain ⟨b1,b2⟩:=b
   exact ⟨(p.1,b2)::rs,⟨kV_is h.1,rfl,c⟩,.cons ⟨rfl,h.2⟩ q⟩
def tDisp (trs:List (TE × TE)):TE:=fun σ H Q=>∀p,H p=none→tPairs trs σ (upd H p (.dK [])) fun ps H2=>H2 p=some (.dK [])∧∃kvs:List (Key × V),ps=kvs.map (fun kv=>(kV kv.1,kv.2))∧kvs.length≤15∧Q (.ref p) (upd H2 p (.dK (mergeK [] kvs)))
theorem pe_disp {X:Cx} {pos:Pos} {keys:List (Option Expr)} {values:List Expr} {trs:List (TE × TE)} (h:PPs X pos keys values trs) (hall:keys.all (·.isSome)=true) (hl:keys.length=values.length) (h0:keys≠[])
  (h15:keys.length≤15):PE X (.Dict keys values pos) (tDisp trs):=by
 intro pins s σ H Q I q
 have hn:=I.hok.fresh (Nat.le_refl s.heap.objs.size)
 have I1:=I.laid (a:=s.heap.objs.size) (o:=.dK []) (h':=s.heap.push { cls:=.type "dict",data:=.dict #[] }) (t':=s.toks) (fun _ _ q=>Heap.get?_push_of_some _ q) (Nat.le_refl _) (dk_empty s.heap I.big)
 refine wpAny_Dict_walk (knd:=mixKind X.prog X.w) hall hl h0 h15 (thn (h pins _ σ _ _ I1 (q _ hn)) fun ws s2 ⟨ps,H2,I2,rel,e,kvs,ep,lk,q2⟩=>?_)
 subst ep
 obtain ⟨rs,c,rk⟩:=carries_of (P:=X.prog) (w:=X.w) rel
 obtain ⟨z,hd,vs0,r0,dd⟩:=dk_of I2.hok e
 cases r0
 refine ⟨rs,c,dd,fun h' dd' hs=>⟨.ref s.heap.objs.size,_,?_,rfl,q2⟩⟩
 have hz:(mergeK [] kvs).length≤sizeLine:=by
  have h1:=length_mergeK kvs []
  rw [List.length_nil] at h1
  rw [sizeLine_eq];omega
 have he:∃q,h'.get? s.heap.objs.size=some q:=let ⟨q,_,_,hq,_⟩:=dd';⟨q,hq⟩
 exact d_write I2 (by rw [e];exact True.intro) hs he (dk_new hz hd (rk.merge .nil) dd')
section
variable {X:Cx} {pins:List (Addr × Obj)} {σ:St} {H:Hp} {s:Shared} {a:Addr} {y d:V} {u r:Value} {o:Option V} {A:Around} {E:Value→Shared→Prop}
end
section
variable {X:Cx} {o e f:Expr} {apos cpos:Pos} {td ty tx:TE}
end
section
variable {X:Cx} {pins:List (Addr × Obj)} {σ:St} {H:Hp} {s:Shared} {a:Addr} {kvs:List (Key × V)} {A:Around} {E:Value→Shared→Prop}
end
section
variable {X:Cx} {pins:List (Addr × Obj)} {σ:St} {H:Hp} {s:Shared} {a:Addr} {y:V} {u:Value} {A:Around} {E:Value→Shared→Prop}
end
section
variable {X:Cx}
end
section
variable {κ:Type} [DecidableEq κ]
end
structure VE (X:Cx) (e:Expr) (t:TE):Prop where
 out:PE X e t
structure VT (X:Cx) (e:Expr) (t:TT):Prop where
 out:PT X e t
structure VW (X:Cx) (e:Expr) (t:TT):Prop where
 out:PW X e t
structure VA (X:Cx) (es:List Expr) (t:TA):Prop where
 out:PA X es t
structure VS (X:Cx) (st:Stmt) (t:TS):Prop where
 out:PS X st t
structure VSs (X:Cx) (st:List Stmt) (t:TS):Prop where
 out:PSs X st t
structure VI (X:Cx) (tg iter:Expr) (t:TI):Prop where
 out:PI X tg iter t
structure VG (X:Cx) (tg:Expr) (t:TG):Prop where
 out:PG X tg t
structure VGs (X:Cx) (tg:List Expr) (t:TGs):Prop where
 out:PGs X tg t
structure VO (X:Cx) (e:Option Expr) (t:TO):Prop where
 out:PO X e t
structure VF (X:Cx) (ifs:List Expr) (t:TT):Prop where
 out:aL5 X ifs t
structure VP (X:Cx) (pos:Pos) (keys:List (Option Expr)) (values:List Expr) (trs:List (TE × TE)):Prop where
 out:PPs X pos keys values trs
section
variable {X:Cx} {a b c e:Expr} {es:List Expr} {ta tb tc te:TE} {t:TA} {tA tB':TT} {pos p:Pos} {x:Str}
theorem vv (i:Nat) {x:Str} {pos:Pos} (hN:X.N[i]?=some x:=by rfl) (hv:Vis X.env.scope x:=by trivial) (hd:(x == ("__debug__":Str))=false:=by decide)
  (hcd:(x == ("__classdict__":Str))=false:=by decide):VE X (.Name x pos) (tVar i):=⟨pv i hN hv hd hcd⟩
theorem cQ {v:V} (hg:Gl X x) (hm:∃u,X.mg x=some u∧RelV v u) (hd:(x == ("__debug__":Str))=false:=by decide):VE X (.Name x pos) (tC v):=⟨aPd hg hm hd⟩
theorem cH {v:V} {u:Value} (hg:Gl X x) (hm:X.mg x=none) (hv:bootBuiltins x=some u) (r:RelV v u) (hn:x≠"__name__":=by decide) (hd:(x == ("__debug__":Str))=false:=by decide):VE X (.Name x pos) (tC v):=⟨pe_bltn hg hm hv r hn hd⟩
theorem aC {i j}:VE X (.Constant (.int i) j pos) (tC (.int i)):=⟨pe_int⟩
theorem fH {b j}:VE X (.Constant (.bool b) j pos) (tC (.bl b)):=⟨pe_bl⟩
theorem aOb {j}:VE X (.Constant .none j pos) (tC .non):=⟨pe_non⟩
theorem aP {x j}:VE X (.Constant (.str x) j pos) (tC (.str x)):=⟨pe_str⟩
theorem bH {op:Operator} {r:R2} (ho:OpR X (binaryOp op) r) (ha:VE X a ta) (hb:VE X b tb):VE X (.BinOp a op b pos) (tOp r ta tb):=⟨pe_op ho ha.1 hb.1⟩
theorem cW {op:CmpOp} {r:R2} (ho:OpR X (compareOp op) r) (ha:VE X a ta) (hb:VE X b tb) (hm:behindInMarks op b=false):VE X (.Compare a [op] [b] pos) (tOp r ta tb):=⟨pe_cmpR ho ha.1 hb.1 hm⟩
theorem aO {op:CmpOp} {r:R2} (ho:OpR X (compareOp op) r) (ha:VE X a ta) (hb:VE X b tb) (hm:behindInMarks op b=false):VT X (.Compare a [op] [b] pos) (tTest (tOp r ta tb)):=⟨pt_cmpR ho ha.1 hb.1 hm⟩
theorem aJ9 {op op':CmpOp} {r r':R2} (ho:OpR X (compareOp op) r) (ho':OpR X (compareOp op') r') (ha:VE X a ta) (hb:VE X b tb) (hc:VE X c tc)
  (hm:lastMarks [op,op'] [b,c]=false:=by with_unfolding_all rfl):VE X (.Compare a [op,op'] [b,c] pos) (tChain r r' ta tb tc):=⟨pe_chain ho ho' ha.1 hb.1 hc.1 hm⟩
theorem aDb {op op':CmpOp} {r r':R2} (ho:OpR X (compareOp op) r) (ho':OpR X (compareOp op') r') (ha:VE X a ta) (hb:VE X b tb) (hc:VE X c tc)
  (hm:lastMarks [op,op'] [b,c]=false:=by with_unfolding_all rfl):VT X (.Compare a [op,op'] [b,c] pos) (tTest (tChain r r' ta tb tc)):=⟨pt_chain ho ho' ha.1 hb.1 hc.1 hm⟩
theorem jK {op} (h:VE X a te):VE X (.BoolOp op [a] pos) te:=⟨pe_one h.1⟩
theorem jM {rest:List Expr} (ha:VE X a ta) (hb:VE X (.BoolOp .And (b::rest) pos) tb):VE X (.BoolOp .And (a::b::rest) pos) (tAndV ta tb):=⟨pe_and ha.1 hb.1⟩
theorem aNt {rest:List Expr} (ha:VE X a ta) (hb:VE X (.BoolOp .Or (b::rest) pos) tb):VE X (.BoolOp .Or (a::b::rest) pos) (tOrV ta tb):=⟨pe_or ha.1 hb.1⟩
theorem aLj (ha:VE X a ta):VE X (.UnaryOp .Not a pos) (tNotV ta):=⟨pe_not ha.1⟩
theorem iK (hc:VT X c tA) (ha:VE X a ta) (hb:VE X b tb):VE X (.IfExp c a b pos) (tIf tA ta tb):=⟨pe_ifExp hc.1 ha.1 hb.1⟩
theorem aA:VA X [] tNil:=⟨pa_nil⟩
theorem aB (ha:VE X e te) (hr:VA X es t) (hp:cI e=true:=by rfl):VA X (e::es) (tCons te t):=⟨aN7 ha.1 hr.1 hp⟩
theorem aH {k:Nat} {ps:List Str} {sp:Sp} (G:Ok X.prog X.w X.K X.mg X.base k x ps sp) (hr:Room k X.A) (hg:Gl X x) (ha:VA X (e::es) t) (hdb:(x == ("__debug__":Str))=false:=by decide)
  (hp:cI e=true:=by rfl) (hpl:(backTo pos (starEach es X.env)).any (·.1)=false:=by rfl) :
  VE X (.Call (.Name x p) (e::es) [] pos) (tCall sp [] E0 t):=⟨aPn G hr hg ha.1 hdb (aW hp) hpl⟩
theorem aOe {k:Nat} {ps:List Str} {sp:Sp} (G:Ok X.prog X.w X.K X.mg X.base k x ps sp) (hr:Room k X.A) (hg:Gl X x) (hdb:(x == ("__debug__":Str))=false:=by decide) :
  VE X (.Call (.Name x p) [] [] pos) (tCall sp [] E0 tNil):=⟨aO5 G hr hg hdb⟩
theorem aK {id:String} {r:List V→Hp→VK→Prop} (hc:CallR X (.builtin id) r) (hg:Gl X x) (hm:X.mg x=none) (hv:bootBuiltins x=some (.builtin id)) (ha:VA X (e::es) t) (hn:x≠"__name__":=by decide) (hdb:(x == ("__debug__":Str))=false:=by decide)
  (hp:cI e=true:=by rfl) (hpl:(backTo pos (starEach es X.env)).any (·.1)=false:=by rfl):VE X (.Call (.Name x p) (e::es) [] pos) (tCB r t):=⟨pe_callB hc hg hm hv ha.1 hn hdb (aW hp) hpl⟩
theorem bR {T:String} {r:List V→Hp→VK→Prop} (hc:CallR X (.type T) r) (hg:Gl X x) (hm:X.mg x=none) (hv:bootBuiltins x=some (.type T)) (ha:VA X (e::es) t) (hn:x≠"__name__":=by decide) (hdb:(x == ("__debug__":Str))=false:=by decide)
  (hp:cI e=true:=by rfl) (hpl:(backTo pos (starEach es X.env)).any (·.1)=false:=by rfl):VE X (.Call (.Name x p) (e::es) [] pos) (tCB r t):=⟨pe_callTy hc hg hm hv ha.1 hn hdb (aW hp) hpl⟩
theorem aDt {o:Expr} {to:TE} {name:Str} {apos cpos:Pos} {T id:String} {r:V→List V→Hp→VK→Prop} (pa:PlainAttrs T) (slot:Slot T name id) (hty:typeOf (.builtin id)=pure (.type "method_descriptor")) (hm:MtR X id r) (ho:VE X o to) (ha:VA X (e::es) t)
  (hbase:attributeBase o name X.env (eval o X.env)=eval o X.env:=by rfl)
  (hfew:((backTo cpos (starEach (e::es) X.env)).all (fun x=>!x.1) && (backToKw cpos (keywordEach [] X.env)).all (fun x=>x.1.isSome)
   && decide ((e::es).length+([]:List Keyword).length+(if ([]:List Keyword).isEmpty then 0 else 1)<30))=true:=by rfl)
  (hline:(apos.endLine == cpos.line)=true:=by rfl) (hp:cI e=true:=by rfl) (hplain:(backTo cpos (starEach es X.env)).any (·.1)=false:=by rfl) :
  VE X (.Call (.Attribute o name apos) (e::es) [] cpos) (tBM X.K T r to t):=⟨pe_bm pa slot hty hm ho.1 ha.1 hbase hfew hline (aW hp) hplain⟩
theorem mX (ha:VE X a ta) (hb:VE X b tb) (hs:PlainIxT b) :
  VE X (.Subscript a b pos) (tOp (fun x y H Q=>∃z i c,x=.str z∧y=.int i∧0≤i∧i<2 ^ 63∧i<z.length∧z.cps[i.toNat]?=some c∧Q (.str ⟨#[c]⟩) H) ta tb):=⟨pe_item_str ha.1 hb.1 hs⟩
theorem gQ:VO X none tNoPart:=⟨po_none⟩
theorem cX (h:VE X e te):VO X (some e) (tPart te):=⟨po_some h.1⟩
theorem cV {r:V→Option Int→Option Int→Hp→VK→Prop} {lo hi:Option Expr} {tl th:TO} {p2:Pos} (hr:SlR X r) (he:VE X e te) (hl:VO X lo tl) (hu:VO X hi th):VE X (.Subscript e (.Slice lo hi none p2) pos) (tSl r te tl th):=⟨pe_slice hr he.1 hl.1 hu.1⟩
theorem aJ {r:R2} (hr:IxR X r) (ha:VE X a ta) (hb:VE X b tb) (hs:PlainIx b):VE X (.Subscript a b pos) (tOp r ta tb):=⟨pe_ix hr ha.1 hb.1 hs⟩
theorem aOd {x1} (h:VA X es t):VE X (.Tuple es x1 pos) (tTup t):=⟨pe_tup h.1⟩
theorem aBa:VP X pos [] [] []:=⟨pps_nil⟩
theorem vB {k v:Expr} {ks:List (Option Expr)} {vs:List Expr} {tk tv:TE} {trs:List (TE × TE)} (hk:VE X k tk) (hv:VE X v tv) (hr:VP X pos ks vs trs):VP X pos (some k::ks) (v::vs) ((tk,tv)::trs):=⟨pps_cons hk.1 hv.1 hr.1⟩
theorem aBr {keys:List (Option Expr)} {values:List Expr} {trs:List (TE × TE)} (h:VP X pos keys values trs) (hall:keys.all (·.isSome)=true) (hl:keys.length=values.length) (h0:keys≠[]) (h15:keys.length≤15):VE X (.Dict keys values pos) (tDisp trs):=⟨pe_disp h.1 hall hl h0 h15⟩
theorem aHf (ha:VT X a tA):VW X (.BoolOp .And [a] pos) tA:=⟨pw_and1 ha.1⟩
theorem fX (ha:VT X a tA):VW X (.BoolOp .Or [a] pos) tA:=⟨pw_or1 ha.1⟩
theorem aLb {rest:List Expr} (ha:VT X a tA) (hb:VW X (.BoolOp .And (b::rest) pos) tB'):VW X (.BoolOp .And (a::b::rest) pos) (tAnd tA tB'):=⟨pw_and ha.1 hb.1⟩
theorem jD {rest:List Expr} (ha:VT X a tA) (hb:VW X (.BoolOp .Or (b::rest) pos) tB'):VW X (.BoolOp .Or (a::b::rest) pos) (tOr tA tB'):=⟨pw_or ha.1 hb.1⟩
theorem VW.pt (h:VW X e tA):VT X e tA:=⟨h.1.pt⟩
theorem cJ (ha:VT X a tA):VT X (.UnaryOp .Not a pos) (tNot tA):=⟨pt_not ha.1⟩
theorem cA (h:VE X e te) (he:∀whole,isTrue e X.env whole=(do let v ←whole;standAt e.pos;holding [v] (truthy v)):=by intro _;rfl):VT X e (tB te):=⟨pt_val h.1 he⟩
theorem aKa (ha:VE X a ta) (he:∀whole,isTrue a X.env whole=(do let v ←whole;standAt a.pos;holding [v] (truthy v)):=by intro _;rfl) :
  VT X a (fun σ H Q=>ta σ H fun x H'=>∃k,TruV X.K x H' k∧Q k H'):=⟨pt_truth ha.1 he⟩
variable {st:Stmt} {rest:List Stmt} {u w':TS}
theorem aN:VSs X [] tNext:=⟨pss_nil⟩
theorem aD (h1:VS X st u) (h2:VSs X rest w'):VSs X (st::rest) (tSeq u w'):=⟨pss_cons h1.1 h2.1⟩
theorem aF (h1:VS X st u):VSs X [st] u:=⟨pss_one h1.1⟩
theorem aG (he:VE X e te):VS X (.Return (some e) pos) (tRet te):=⟨ps_ret he.1⟩
theorem bB {a b:List Stmt} (hc:VT X c tA) (ha:VSs X a u) (hb:VSs X b w'):VS X (.If c a b pos) (tIfS tA u w'):=⟨ps_if hc.1 ha.1 hb.1⟩
theorem aV {i:Nat} {pos':Pos} (hN:X.N.Nodup) (hi:X.N[i]?=some x) (hx:Loc X.env.scope x) (he:VE X e te) (hs:swapsWith e (some (.Name x pos')) pos.line X.env=pure false:=by rfl) (hf:X.fn x=true∨X.env.scope.names.lookup x=some .local:=by first|exact .inl rfl|exact .inr rfl|assumption) :
  VS X (.Assign [.Name x pos'] e pos) (tAsg te (gName i)):=⟨ps_set hN hi hx he.1 hs hf⟩
theorem cN (he:VE X e te) (hs:swapsWith e none pos.line X.env=pure false:=by rfl):VS X (.Expr e pos) (tDrop te):=⟨ps_expr he.1 hs⟩
theorem iM {tg iter:Expr} {body:List Stmt} {wi:TI} {g:TG} {tb:TS} (hp:PassesOwn (model X.prog X.w) X.A X.env X.xe) (hc:X.calm=true) (hi:VI X tg iter wi) (hg:VG X tg g) (hb:VSs X body tb)
  (hs:∀x,foldedSetIterable iter X.env x=pure x:=by intro _;rfl):VS X (.For tg iter body [] pos) (tFor wi g tb):=⟨ps_for hp hc hi.1 hg.1 hb.1 hs⟩
theorem aQ {i:Nat} (hN:X.N.Nodup) (hi:X.N[i]?=some x) (hx:Loc X.env.scope x) (hf:X.fn x=true∨X.env.scope.names.lookup x=some .local:=by first|exact .inl rfl|exact .inr rfl|assumption):VG X (.Name x pos) (gName i):=⟨pg_name hN hi hx hf⟩
theorem gZ:VGs X [] gNil:=⟨pgs_nil⟩
theorem bK {t:TG} {u:TGs} (h1:VG X e t) (h2:VGs X es u) (hs:(assignEach (e::es) X.env).map (·.2)=assign e X.env::(assignEach es X.env).map (·.2):=by rfl):VGs X (e::es) (gCons t u):=⟨pgs_cons h1.1 h2.1 hs⟩
theorem vX {k:Nat} {t:TGs} {n:Nat} (hc:X.calm=true) (h:VGs X es t) (hn:(assignEach es X.env).length=n:=by rfl) (hst:(assignEach es X.env).findIdx? (·.1)=none:=by rfl):VG X (.Tuple es k pos) (gTup X.K n t):=⟨pg_tup hc h.1 hn hst⟩
variable {tg:Expr}
theorem kZ (h:VE X e te):VI X tg e (iList X.K te):=⟨pi_list h.1⟩
theorem dO (h:VE X e te):VI X tg e (iTup X.K te):=⟨pi_tup h.1⟩
theorem aO1 (h:VE X e te):VI X tg e (aOn te):=⟨aOr h.1⟩
theorem fK (hg:Gl X "range") (hm:X.mg "range"=none) (ha:VA X [a] t) (hp:cI a=true:=by rfl):VI X tg (.Call (.Name "range" p) [a] [] pos) (iRng1 t):=⟨pi_range1 hg hm ha.1 (aW (es:=[]) hp)⟩
theorem bN:VF X [] mU:=⟨aOl⟩
theorem aKi (h:VT X c tA):VF X [c] tA:=⟨aOs h.1⟩
theorem bM {elt target iter:Expr} {ifs:List Expr} {scope:Scope} {N:List Str} {wi:TI} {g:TG} {tt:TT}
  (C:vW scope N) (hfr:∀y,(y,NameKind.free)∈scope.names→X.env.kindOf y=some .cell∨X.env.kindOf y=some .free) (hc:X.calm=true)
  (hi:VI X target iter wi)
  (hb:∀cl s H fp,VG (cxC X N scope cl s H fp) target g∧VF (cxC X N scope cl s H fp) ifs tt∧VE (cxC X N scope cl s H fp) elt te)
  (hs:∀x,foldedSetIterable iter X.env x=pure x:=by intro _;rfl) :
  VE X (.ListComp elt [⟨target,iter,ifs,0⟩] scope pos) (gO X scope N wi g tt te):=
 ⟨aMo C hfr hc hi.1 (fun cl s H fp=>⟨(hb cl s H fp).1.1,(hb cl s H fp).2.1.1,(hb cl s H fp).2.2.1⟩) hs⟩
end
section
variable {P:Program} {w:World} {K:PySem.W.Frag} {mg:Str→Option Value} {base:Heap}
theorem Fun.okV {x qual:Str} {st:Stmt} {f:Addr} {fd:FuncData} {N ps:List Str} {k:Nat} {sp:Sp} (F:Fun K x qual st f fd) (S:FnScope N ps (defScope st)) (len:∀vs H Q E,sp vs H Q E→vs.length=ps.length)
  (hbody:∀(cdv:Value) (A:Around) (outer:List Env) (s:Shared) (H:Hp) (vs:List V) (Q:VK) (E:XK),Room k (A.deeper (envOfC qual (defScope st) s.heap.objs.size f cdv))→sp vs H Q E →
   ∃t,VSs (cxOf CX0 P w K mg base N qual (defScope st) f cdv A outer s H E).nox (defBody st) t∧t { nx:=fun _ H'=>Q .non H',rt:=Q } (start N vs) H):FnOk P w K mg base CX0 (k+1) f fd ps sp:=
 F.ok S len fun cdv A outer s H vs Q E hr h=>let ⟨t,h1,h2⟩:=hbody cdv A outer s H vs Q E hr h;⟨t,h1.1,h2⟩
theorem Ok.ofV {x:Str} {st:Stmt} {N ps:List Str} {k:Nat} {sp:Sp} (D:Dn K mg x st ps) (S:FnScope N ps (defScope st)) (len:∀vs H Q E,sp vs H Q E→vs.length=ps.length)
  (hbody:∀(f:Addr) (cdv:Value) (A:Around) (outer:List Env) (s:Shared) (H:Hp) (vs:List V) (Q:VK) (E:XK),Room k (A.deeper (envOfC x (defScope st) s.heap.objs.size f cdv))→sp vs H Q E →
   ∃t,VSs (cxOf CX0 P w K mg base N x (defScope st) f cdv A outer s H E).nox (defBody st) t∧t { nx:=fun _ H'=>Q .non H',rt:=Q } (start N vs) H):Ok P w K mg base (k+1) x ps sp:=
 Ok.of D S len fun f cdv A outer s H vs Q E hr h=>let ⟨t,h1,h2⟩:=hbody f cdv A outer s H vs Q E hr h;⟨t,h1.1,h2⟩
end
def Held (P:Program) (w:World) (K:PySem.W.Frag) (mg:Str→Option Value) (base:Heap) (k:Nat) (f:Addr) (ps:List Str) (sp:Sp):Prop:=
 ∃fd,PySem.W.keepIn K (.ref f)=true∧Binds K fd ps []∧FnOk P w K mg base CX0 k f fd ps sp
theorem Ok.held {P:Program} {w:World} {K:PySem.W.Frag} {mg:Str→Option Value} {base:Heap} {k:Nat} {x:Str} {ps:List Str} {sp:Sp} (G:Ok P w K mg base k x ps sp):∃f,mg x=some (.ref f)∧Held P w K mg base k f ps sp:=by
 obtain ⟨f,fd,h1,h2,h3,h4⟩:=G
 exact ⟨f,h1,fd,h2,h3,h4⟩
theorem Held.mono {P:Program} {w:World} {K:PySem.W.Frag} {mg:Str→Option Value} {base:Heap} {j k:Nat} {f:Addr} {ps:List Str} {sp:Sp} (h:Held P w K mg base j f ps sp) (hj:j≤k):Held P w K mg base k f ps sp:=by
 obtain ⟨fd,h1,h2,h3⟩:=h
 exact ⟨fd,h1,h2,h3.mono hj⟩
section
variable {X:Cx} {x:Str} {p pos:Pos} {e:Expr} {es:List Expr} {te:TE} {t:TA}
def aLg (P:Program) (w:World) (K:PySem.W.Frag) (mg:Str→Option Value) (base:Heap) (k:Nat) (te:TE) (t:TA):TE:=fun σ H Q=>te σ H fun v H1=>∃f ps sp,v=.ref f∧Held P w K mg base k f ps sp∧t σ H1 fun vs H2=>sp vs H2 Q E0
theorem aMc {k:Nat} (hr:Room k X.A) (hf:PE X (.Name x p) te) (ha:PA X (e::es) t)
  (he:starEach (e::es) X.env=(false,eval e X.env)::starEach es X.env:=by rfl) (hpl:(backTo pos (starEach es X.env)).any (·.1)=false:=by rfl) :
  PE X (.Call (.Name x p) (e::es) [] pos) (aLg X.prog X.w X.K X.mg X.base k te t):=by
 intro pins s σ H Q I h
 refine wpAny_Call_Name_kw (thn (hf pins s σ H _ I h) fun u s1 ⟨v,H1,I1,r1,q1⟩=>?_)
 obtain ⟨f,ps,sp,rfl,⟨fd,hk,hb,F⟩,q⟩:=q1
 obtain rfl:u=Value.ref f:=r1
 refine PySem.W.callWith_K (h₀:=X.base) I1.ok.mod.kin hk (thn (ha pos pins s1 σ H1 _ I1 q) fun us s2 ⟨vs,H2,I2,r,q2⟩=>⟨I2.kIn,?_⟩) he hpl
 exact run_fn F hr hb .nil pass0 I2 r (by simpa using q2)
end
end L2
namespace PySem
end PySem
namespace L2
open PySem PySem.Spec PyProof.Rows
section
variable {X:Cx}
theorem aMl:OpR X (binaryOp .Add) (fun x y H Q=>∃a b ys,x=.ref a∧y=.ref b∧SqT X.K H a []∧SqT X.K H b ys∧Q (.ref b) H):=by
 intro pins s σ H x y v u Q I rx ry h
 obtain ⟨a,b,ys,rfl,rfl,ha,hb,q⟩:=h
 cases rx
 cases ry
 obtain ⟨its,r1,p1,_⟩:=I.tuple ha
 obtain ⟨its2,r2,p2,_⟩:=I.tuple hb
 cases r1
 obtain ⟨⟨cls,dd,data,sl⟩,ho,hc,n,hd⟩:=id p1
 obtain ⟨⟨cls2,dd2,data2,sl2⟩,ho2,hc2,n2,hd2⟩:=id p2
 simp only at hc hd hc2 hd2
 subst hc hd hc2 hd2
 exact concat_meets ⟨_,ho,rfl⟩ ⟨_,ho2,rfl⟩ noFill_tuple_add seq_tuple_add PySem.F.slot_tuple_add PySem.F.entry_tuple_add (PySem.F.args_tuple_add_2 _ _)
  (tuple_addW0 a b #[] its2.toArray n n2 dd dd2 sl sl2 rfl) ⟨ho,ho2,⟨.ref b,H,I,rfl,q⟩⟩
end
end L2
namespace PySem
def rR (σ:List Str) (v:Str):List Str:=if v∈σ then σ else σ++[v]
def jV (ss:List Str):List Str:=ss.foldl rR []
theorem xY (ss:List Str) (v:Str):jV (ss++[v])=rR (jV ss) v:=by
 unfold jV
 rw [List.foldl_append]
 rfl
theorem aKm (σ:List Str) (v k:Str):k∈rR σ v↔k∈σ∨k=v:=by
 unfold rR
 by_cases h:v∈σ
 ·rw [if_pos h]
  exact ⟨.inl,fun q=>q.elim id fun e=>e ▸ h⟩
 ·rw [if_neg h]
  simp
theorem aDe (σ:List Str) (v:Str):(rR σ v).length=if v∈σ then σ.length else σ.length+1:=by
 unfold rR
 split <;> simp
theorem rE:∀(ss σ:List Str),(ss.foldl rR σ).length≤σ.length+ss.length
 |[],σ=>by simp
 |v::r,σ=>by
  rw [List.foldl_cons,List.length_cons]
  have h:=rE r (rR σ v)
  rw [aDe] at h
  split at h <;> omega
theorem aKu (ss:List Str):(jV ss).length≤ss.length:=by
 have h:=rE ss []
 unfold jV
 simpa using h
section
variable {prog:Program} {w:World}
def cD (prog:Program) (w:World) (h:Heap) (D:Addr) (ss:List Str):Prop:=h.SetOf (strKind prog w) D (fun y=>decide (y∈jV ss)) (jV ss).length
theorem cD.at {h h':Heap} {D:Addr} {ss:List Str} (x:cD prog w h D ss) (e:∀o,h.get? D=some o→h'.get? D=some o):cD prog w h' D ss:=by
 obtain ⟨o,es,ep,t,ho,r⟩:=x
 exact ⟨o,es,ep,t,e o ho,r⟩
theorem cD.congr {h:Heap} {D:Addr} {S:Str→Bool} {n:Nat} {ss:List Str} (x:h.SetOf (strKind prog w) D S n) (e1:∀y,S y=decide (y∈jV ss)) (e2:n=(jV ss).length):cD prog w h D ss:=by
 have e:S=fun y=>decide (y∈jV ss):=funext e1
 subst e e2
 exact x
theorem uP {A:Around} {R:Result→Shared→Prop} {I:Addr} {fp wr:List Addr} {n:Nat} {P:Nat→Value→Prop} {St:Nat→Heap→Prop} (W:Walks prog w A.in1 I fp wr n P St) (D:Addr) (hD:D∉fp)
  (ss:List Str) (hss:ss.length=n) (hval:∀i v,P i v→∃t,v=.str (ss.getD i "") t) (hb:n+1<scanBound) :
  ∀(k i:Nat) (s:Shared),i+k=n→St i s.heap→cD prog w s.heap D (ss.take i) →
   (∀h' tk,(∀b o,b∉D::wr→s.heap.get? b=some o→h'.get? b=some o)→cD prog w h' D ss→R (.ok (.ret .none)) { s with heap:=h',toks:=tk }) →
   codeAny (model prog w) A (.builtin "set.update.loop" ⟨[.ref D,.ref I],[]⟩) R s:=by
 have hDw:D∉wr:=fun q=>hD (W.sub _ q)
 intro k
 induction k with
 |zero=>
  intro i s hi st hS q
  obtain rfl:i=n:=by omega
  refine codeAny_builtin PyProof.Rows.F.entry_set_update_loop ?_
  rw [Around.under_plainId PyProof.Rows.F.plain_set_update_loop _]
  show wpAny _ A.in1 (pyNext (.ref I) >>= _) _ _ _
  refine wpAny_bind (W.done s _ _ st fun h' tk kp=>?_)
  refine wpAny_pure (q h' tk (fun b o nb e=>kp b o (fun z=>nb (List.mem_cons_of_mem _ z)) e) ?_)
  rw [List.take_of_length_le (Nat.le_of_eq hss)] at hS
  exact hS.at fun o e=>kp D o hDw e
 |succ k ih=>
  intro i s hi st hS q
  refine codeAny_builtin PyProof.Rows.F.entry_set_update_loop ?_
  rw [Around.under_plainId PyProof.Rows.F.plain_set_update_loop _]
  show wpAny _ A.in1 (pyNext (.ref I) >>= _) _ _ _
  refine wpAny_bind (W.item i s _ _ (by omega) st fun v h1 tk1 hP st1 kp1=>?_)
  obtain ⟨t,rfl⟩:=hval i v hP
  have hS1:cD prog w h1 D (ss.take i):=hS.at fun o e=>kp1 D o hDw e
  show wpAny _ A.in1 (holding [Value.str (ss.getD i "") t] (setAdd D (.str (ss.getD i "") t)) >>= _) _ _ _
  refine wpAny_bind (wpAny_holding ?_)
  unfold setAdd
  refine wpAny_holding (wpAny_bind ((strKind prog w).pyHash (k:=ss.getD i "") (strKind_is _ _ _ _) ?_))
  have room:(jV (ss.take i)).length+1<scanBound:=by
   have h1:=aKu (ss.take i)
   have h2:(ss.take i).length≤ss.length:=by rw [List.length_take];exact Nat.min_le_right _ _
   omega
  refine wpAny_setAddHashed_of (knd:=strKind prog w) (strKind_is _ _ _ _) rfl hS1 room fun h2 sb2 hS2=>?_
  have hlt:i<ss.length:=by omega
  have et:ss.take (i+1)=ss.take i++[ss.getD i ""]:=by
   rw [List.take_add_one,List.getElem?_eq_getElem hlt,List.getD_eq_getElem?_getD,List.getElem?_eq_getElem hlt]
   rfl
  have hS3:cD prog w h2 D (ss.take (i+1)):=by
   refine cD.congr hS2 (fun y=>?_) ?_
   ·rw [et,xY,Bool.eq_iff_iff,Bool.or_eq_true,decide_eq_true_eq,decide_eq_true_eq,decide_eq_true_eq,aKm]
   ·rw [et,xY,aDe]
    by_cases z:ss.getD i ""∈jV (ss.take i)
    ·rw [if_pos z,if_pos (decide_eq_true z)]
    ·rw [if_neg z,if_neg (by rw [decide_eq_false z];exact Bool.false_ne_true)]
  have kp2:∀b o,b∉D::wr→s.heap.get? b=some o→h2.get? b=some o:=fun b o nb e=>by
   rw [sb2.2 b (fun z=>nb (by rw [z];exact List.mem_cons_self))]
   exact kp1 b o (fun z=>nb (List.mem_cons_of_mem _ z)) e
  refine wpAny_pure ⟨plainId_quiet PyProof.Rows.F.plain_set_update_loop _,ih (i+1) _ (by omega) (W.frame _ _ _ st1 fun b hb o e=>?_) hS3 fun h' tk kp hS'=>q h' tk (fun b o nb e=>kp b o nb (kp2 b o nb e)) hS'⟩
  rw [sb2.2 b (fun z=>hD (by rw [←z];exact hb))]
  exact e
variable {A:Around} {E:Value→Shared→Prop} {s:Shared}
abbrev bT (led:Bool):Obj:={ cls:=.type "set",dict:=none,data:=.set #[] 0 (.fresh 0 0 led) }
theorem aFz {A:Around} {R:Fin→Shared→Prop} {E:Value→Shared→Prop} {s:Shared} {l:Addr} {its:Array Value} {ss:List Str} (led:Bool) (hh:A.handled=none) (hl:s.heap.IsList l its) (hlen:ss.length=its.size)
  (hval:∀(i:Nat) (v:Value),its[i]?=some v→∃t,v=Value.str (ss.getD i "") t) (hb:its.size+1<scanBound)
  (q:∀h' tk,cD prog w h' s.heap.objs.size ss→(∀b o,b<s.heap.objs.size→s.heap.get? b=some o→h'.get? b=some o)→R (.done (.ret .none)) { s with heap:=h',toks:=tk }) :
  wpAny (model prog w) A (Builtin.«set.__init__» ⟨[.ref s.heap.objs.size,.ref l],[]⟩) R E { s with heap:=s.heap.push (bT led) }:=by
 obtain ⟨⟨oc,od,ox,osl⟩,hol,hcl,nl,hdl⟩:=id hl
 simp only at hcl hdl
 subst hcl hdl
 have hS:(s.heap.push (bT led)).get? s.heap.objs.size=some (bT led):=Heap.get?_push_size _ rfl
 have hT:Shared.TypeIs { s with heap:=s.heap.push (bT led) } (.ref s.heap.objs.size) "set":=⟨_,hS,rfl⟩
 have hol':(s.heap.push (bT led)).get? l=some { cls:=.type "list",dict:=od,data:=.seq its nl,slots:=osl }:=Heap.get?_push_of_some _ hol
 have f1:=F.sub_list_set
 have f2:=F.sub_list_frozenset
 have f3:(Value.type "list" == Value.type "dict")=false:=by decide
 have hl1:(s.heap.push (bT led)).IsList l its:=⟨_,hol',rfl,nl,rfl⟩
 have hlt:l<s.heap.objs.size:=Heap.lt_size hol
 unfold Builtin.«set.__init__» noKeywords Builtin.Frozenset.updateFrom
 generalize hPI:pyIter=PI
 wp_walk
 subst hPI
 refine wpAny_pyIter_list hl1 ?_
 refine wpAny_bind (wpAny_runValue ?_)
 have hz:(s.heap.push (bT led)).objs.size=s.heap.objs.size+1:=Heap.size_push ..
 have hne:l≠(s.heap.push (bT led)).objs.size:=by rw [hz];exact Nat.ne_of_lt (Nat.lt_succ_of_lt hlt)
 have hSf:s.heap.objs.size∉[(s.heap.push (bT led)).objs.size,l]:=by
  rw [hz]
  simp only [List.mem_cons,List.not_mem_nil,or_false,not_or]
  exact ⟨Nat.ne_of_lt (Nat.lt_succ_self _),Nat.ne_of_gt hlt⟩
 refine uP (Walks.list (by first|exact hh|simp [hh]) _ l hne its) s.heap.objs.size hSf ss hlen hval hb its.size 0 _ (by omega) ⟨⟨_,Heap.get?_push_size _ rfl,rfl,rfl⟩,hl1.push _⟩ ?_ fun h' tk kp hS'=>?_
 ·have hg:((s.heap.push (bT led)).push { cls:=.type "list_iterator",data:=.fields #[.ref l,.int 0 0] }).get? s.heap.objs.size=some (bT led):=Heap.get?_push_of_some _ hS
  exact cD.congr ((PyProof.Rows.setObjOf_fresh (knd:=strKind prog w) led).setOf hg (by unfold scanBound;omega)) (fun _=>rfl) rfl
 ·refine wpAny_pure (wpAny_pure (q h' tk hS' fun b o hb' e=>kp b o ?_ (Heap.get?_push_of_some _ (Heap.get?_push_of_some _ e))))
  rw [hz]
  simp only [List.mem_cons,List.not_mem_nil,or_false,not_or]
  exact ⟨Nat.ne_of_lt hb',Nat.ne_of_lt (Nat.lt_succ_of_lt hb')⟩
theorem vJ {l:Addr} {its:Array Value} {ss:List Str} {Q:Value→Shared→Prop} (hh:A.handled=none) (hl:s.heap.IsList l its) (hlen:ss.length=its.size)
  (hval:∀(i:Nat) (v:Value),its[i]?=some v→∃t,v=Value.str (ss.getD i "") t) (hb:its.size+1<scanBound)
  (q:∀h' tk,cD prog w h' s.heap.objs.size ss→(∀b o,b<s.heap.objs.size→s.heap.get? b=some o→h'.get? b=some o)→Q (.ref s.heap.objs.size) { s with heap:=h',toks:=tk }) :
  wpAny (model prog w) A (call (.type "set") [.ref l]) Q E s:=by
 have ft:=F.called_set
 obtain ⟨c,tl,hmro⟩:=ft.mro
 have g1:=ft.made
 have g2:=ft.sub
 have g3:=ft.notType
 have g4:=ft.canCreate
 have g5:=F.typeCall_set_1 (.ref l)
 refine wpAny_call (codeAny_of_tree (show wpAny _ _ (callAny (.type "set") _) _ _ _ from wpAny_pure ⟨Code.quiet_builtin _ (by decide +kernel),codeAny_builtin F.entry_type_call ?_⟩))
 rw [Around.under_plain (weight_type_call_type "set" [.ref l] []) (by rfl)]
 repeat (any_goals (first|assumption|wp_step))
 refine codeAny_mono (code_set_new_1 (.ref l) (Q₁:=fun obj s1=>∃led:Bool,obj=.ref s.heap.objs.size∧s1={ s with heap:=s.heap.push (bT led) }) (E:=E) fun led=>⟨led,rfl,rfl⟩) fun r s1 hr=>?_
 rcases r with e|fl
 ·exact hr
 rcases fl with _|_|_|obj
 ·exact hr.elim
 ·exact hr.elim
 ·exact hr.elim
 obtain ⟨led,rfl,rfl⟩:=hr
 have hT:Shared.TypeIs { s with heap:=s.heap.push (bT led) } (.ref s.heap.objs.size) "set":=⟨_,Heap.get?_push_size _ rfl,rfl⟩
 have g6:=ft.init.lookup
 have g7:=ft.init.bind (.ref s.heap.objs.size)
 repeat (any_goals (first|assumption|wp_step))
 refine codeAny_mono (codeAny_call_builtin (R:=wants (fun r s2=>r=.none∧∃h' tk,s2={ s with heap:=h',toks:=tk }∧cD prog w h' s.heap.objs.size ss∧∀b o,b<s.heap.objs.size→s.heap.get? b=some o→h'.get? b=some o) E)
  ft.init.plain F.entry_set_init (check_set_init_1 hT (aFz led (by first|exact hh|simp [hh]) hl hlen hval hb fun h' tk x kp=>⟨rfl,h',tk,rfl,x,kp⟩))) fun r2 s2 hr2=>?_
 rcases r2 with e|fl
 ·exact hr2
 rcases fl with _|_|_|v
 ·exact hr2.elim
 ·exact hr2.elim
 ·exact hr2.elim
 obtain ⟨rfl,h',tk,rfl,x,kp⟩:=hr2
 repeat (any_goals (first|assumption|wp_step))
 exact q h' tk x kp
theorem aJg {D:Addr} {ss:List Str} {Q:Value→Shared→Prop} (x:cD prog w s.heap D ss) (q:Q (.int ((jV ss).length:Nat) (s.toks+1)) { s with toks:=s.toks+1+1 }):wpAny (model prog w) A (call (.builtin "len") [.ref D]) Q E s:=by
 obtain ⟨o,es,ep,t,ho,hex,hd,hel,hmem,hb,hf,hn⟩:=x
 refine call_len_set ho hex hd hf ?_ ?_
 ·unfold scanBound at hb
  omega
 ·rw [hn]
  exact q
end
end PySem
namespace L2
open PySem PySem.Spec PyProof.Rows
def aLf (P:Program) (w:World) (D:Addr) (ss:List Str):HO:=.ext fun h=>cD P w h D ss
section
variable {X:Cx}
def aOh (P:Program) (w:World) (K:PySem.W.Frag):List V→Hp→VK→Prop:=fun xs H Q=>∃(p:Addr) (ss:List Str),xs=[.ref p]∧SqL K H p (ss.map V.str)∧ss.length≤1000∧∀D,H D=none→Q (.ref D) (upd H D (aLf P w D ss))
theorem aFw (hc:X.calm=true):CallR X (.type "set") (aOh X.prog X.w X.K):=by
 intro pins s σ H xs us Q I r h
 obtain ⟨p,ss,rfl,hq,hl,q⟩:=h
 obtain ⟨u,rfl,rx⟩:=r.one
 cases rx
 obtain ⟨its,rv,pl,hz⟩:=I.list hq
 have hlen:=rv.length
 rw [List.length_map] at hlen
 refine vJ (I.ok.hd hc) pl.isList (by rw [List.size_toArray];exact hlen) (fun i v hv=>?_) (by rw [List.size_toArray,←hlen];unfold scanBound;omega) fun h' tk x kp=>?_
 ·have hv':its[i]?=some v:=by simpa using hv
  have hi:i<ss.length:=by rw [hlen];exact (List.getElem?_eq_some_iff.mp hv').1
  obtain ⟨u,hu,t,rfl⟩:=rv.get (i:=i) (x:=.str ss[i]) (by rw [List.getElem?_map,List.getElem?_eq_getElem hi];rfl)
  rw [hv'] at hu
  cases hu
  exact ⟨t,by rw [List.getD_eq_getElem?_getD,List.getElem?_eq_getElem hi];rfl⟩
 ·have e:∃o,h'.get? s.heap.objs.size=some o:=by
   obtain ⟨o,_,_,_,ho,_⟩:=x
   exact ⟨o,ho⟩
  exact ⟨.ref s.heap.objs.size,_,I.laid (o:=aLf X.prog X.w s.heap.objs.size ss) (fun b o eo=>kp b o (Heap.lt_size eo) eo) (Nat.le_refl _) (show cD X.prog X.w h' s.heap.objs.size ss∧_∧_ from ⟨x,e,fun h1 h2 y k=>y.at k⟩),rfl,q _ (I.hok.fresh (Nat.le_refl _))⟩
theorem aEt:CallR X (.builtin "len") (fun xs H Q=>∃(D:Addr) (ss:List Str),xs=[.ref D]∧H D=some (aLf X.prog X.w D ss)∧Q (.int ((jV ss).length:Nat)) H):=by
 intro pins s σ H xs us Q I r h
 obtain ⟨D,ss,rfl,hD,q⟩:=h
 obtain ⟨u,rfl,rx⟩:=r.one
 cases rx
 obtain ⟨x,_⟩:=I.hok D _ hD
 exact aJg x ⟨.int ((jV ss).length:Nat),H,I.tok _,⟨_,rfl⟩,q⟩
end
theorem dM {X:Cx} {scope:Scope} {x y:Str} {σ:St} {v:V} (j:Nat) (hf:(y,NameKind.free)∈scope.names) (hj:X.N[j]?=some y) (hs:σ[j]?=some (some v)) (hv:Vis X.env.scope y):Cap X scope [x,y] σ [none,some v]:=
 ⟨rfl,fun i z u h1 h2=>by
  match i,h1,h2 with
  |0,_,h2=>cases h2
  |1,h1,h2=>cases h1;cases h2;exact ⟨hf,j,hj,hs,hv⟩
  |i+2,h1,_=>cases h1⟩
theorem sE {X:Cx} {scope:Scope} {x y:Str} {σ:St}:Cap X scope [x,y] σ [none,none]:=⟨rfl,fun i z u h1 h2=>by
  match i,h1,h2 with
  |0,_,h2=>cases h2
  |1,_,h2=>cases h2
  |i+2,h1,_=>cases h1⟩
section
variable {X:Cx} {a b e:Expr} {es:List Expr} {te:TE} {t:TA} {pos p:Pos} {x:Str}
theorem aNi {k:Nat} (hr:Room k X.A) (hf:VE X (.Name x p) te) (ha:VA X (e::es) t) (hp:cI e=true:=by rfl) (hpl:(backTo pos (starEach es X.env)).any (·.1)=false:=by rfl) :
  VE X (.Call (.Name x p) (e::es) [] pos) (aLg X.prog X.w X.K X.mg X.base k te t):=⟨aMc hr hf.1 ha.1 (aW hp) hpl⟩
theorem aB5 {P:Program} {w:World} {K:PySem.W.Frag} {mg:Str→Option Value} {base:Heap} {k:Nat} (hr:Room k X.A) (hf:VE X (.Name x p) te) (ha:VA X (e::es) t) (hp:cI e=true:=by rfl) (hpl:(backTo pos (starEach es X.env)).any (·.1)=false:=by rfl)
  (h1:X.prog=P:=by rfl) (h2:X.w=w:=by rfl) (h3:X.K=K:=by rfl) (h4:X.mg=mg:=by rfl) (h5:X.base=base:=by rfl) :
  VE X (.Call (.Name x p) (e::es) [] pos) (aLg P w K mg base k te t):=by
 subst h1 h2 h3 h4 h5
 exact aNi hr hf ha hp hpl
theorem dZ {K:PySem.W.Frag} (h:X.K=K:=by rfl):IxR X (rIxT K):=by subst h;exact ix_tup
theorem qU {K:PySem.W.Frag} {k:Nat} {u:TGs} {n:Nat} (hc:X.calm=true) (h:VGs X es u) (hn:(assignEach es X.env).length=n:=by rfl) (hst:(assignEach es X.env).findIdx? (·.1)=none:=by rfl) (hK:X.K=K:=by rfl):VG X (.Tuple es k pos) (gTup K n u):=by
 subst hK
 exact vX hc h hn hst
theorem zW {elts:List Expr} {kt:Nat} {tp:Pos} (hg:Gl X "zip") (hm:X.mg "zip"=none) (ha:VA X [a,b] t) (hp:cI a=true:=by rfl) (hp2:cI b=true:=by rfl) :
  VI X (.Tuple elts kt tp) (.Call (.Name "zip" p) [a,b] [] pos) (aH6 X.K t):=⟨aMj hg hm ha.1 (aW hp) (aW (es:=[]) hp2)⟩
theorem aKv {tg:Expr} {g:TG} (he:VE X e te) (hg:VG X tg g) (hs:swapsWithSole [tg] e pos.line X.env=pure false:=by rfl) (hw:swappedStores [tg] e X.env=pure none:=by rfl)
  (h1:(assignEach [tg] X.env).map (·.2)=[assign tg X.env]:=by rfl):VS X (.Assign [tg] e pos) (tAsg te g):=⟨ps_asg he.1 hg.1 hs hw h1⟩
end
section
variable {X:Cx}
def aQb:V→Option Int→Option Int→Hp→VK→Prop:=fun x lo hi H Q=>∃z,x=.str z∧z.length≤sizeLine∧Q (.str (Txt.slice z lo hi)) H
theorem aA6:SlR X aQb:=by
 intro pins s σ H x v vl vu lo hi sl Q I rx hs pl pu h
 obtain ⟨z,rfl,hz,q⟩:=h
 obtain ⟨t,rfl⟩:=rx
 have fin:∀l u:Option (Int × Tok),l.map (·.1)=lo→u.map (·.1)=hi→s.heap.IsSlice sl l u none→wpAny (model X.prog X.w) X.A (getItem (.str z t) (.ref sl)) (EP X pins σ Q) X.xe s:=fun l u e1 e2 hsl=>by
  subst e1 e2
  refine wpAny_getItem_str_slice (st:=none) hsl rfl ?_
  unfold sliceMade
  have hle:=Txt.slice_le z (l.map (·.1)) (u.map (·.1))
  exact post_val_or_str ⟨Nat.le_trans hle hz,fun t' k=>⟨.str (Txt.slice z (l.map (·.1)) (u.map (·.1))),H,I.tok _,⟨_,rfl⟩,q⟩⟩
 refine ⟨"str",_,F.slot_str_getitem.lookup,typeIs_str _ _ _,?_⟩
 obtain ⟨o,ho,hc,hd⟩:=hs
 cases pl with
 |none=>
  cases pu with
  |none=>exact fin none none rfl rfl ⟨o,ho,hc,hd⟩
  |int j u=>exact fin none (some (j,u)) rfl rfl ⟨o,ho,hc,hd⟩
 |int i t=>
  cases pu with
  |none=>exact fin (some (i,t)) none rfl rfl ⟨o,ho,hc,hd⟩
  |int j u=>exact fin (some (i,t)) (some (j,u)) rfl rfl ⟨o,ho,hc,hd⟩
end
theorem aKr {x:Str} {j:Nat} (h:j≤x.length):(Txt.slice x none (some (j:Int))).cps.toList=x.cps.toList.take j:=by
 have e:=StrLaws.sliceText_to (x:=x) (j:=(j:Int)) ⟨by omega,by rw [Array.length_toList];exact Int.ofNat_le.mpr h⟩
 show (StrLaws.sliceText x none (some (j:Int))).cps.toList=_
 rw [e]
 simp
theorem aE5 {x:Str} {j:Nat} (h:j≤x.length):(Txt.slice x (some (j:Int)) none).cps.toList=x.cps.toList.drop j:=by
 have e:=StrLaws.sliceText_from (x:=x) (i:=(j:Int)) ⟨by omega,by rw [Array.length_toList];exact Int.ofNat_le.mpr h⟩
 show (StrLaws.sliceText x (some (j:Int)) none).cps.toList=_
 rw [e]
 simp only [Int.toNat_natCast]
 refine List.take_of_length_le ?_
 rw [List.length_drop]
 omega
def put (x:Str) (a:Nat) (c:Nat):Str:=Txt.slice x none (some (a:Int))++⟨#[c]⟩++Txt.slice x (some (a:Int)) none
theorem aBz {x:Str} {a c:Nat} (h:a≤x.length):(put x a c).cps.toList=x.cps.toList.take a++c::x.cps.toList.drop a:=by
 show ((Txt.slice x none (some (a:Int))).cps++#[c]++(Txt.slice x (some (a:Int)) none).cps).toList=_
 rw [Array.toList_append,Array.toList_append,aKr h,aE5 h]
 simp
theorem aNd {x:Str} {a c d:Nat} (h:a≤x.length) (e:put x a c=put x a d):c=d:=by
 have e1:=congrArg (fun y:Str=>y.cps.toList) e
 simp only [aBz h] at e1
 have e2:=List.append_cancel_left e1
 exact (List.cons.inj e2).1
theorem aM2 {x:Str} {a c:Nat} (h:a≤x.length):(put x a c).length=x.length+1:=by
 have e:=congrArg List.length (aBz (c:=c) h)
 have l:x.length=x.cps.toList.length:=by rw [Array.length_toList];rfl
 rw [Array.length_toList,List.length_append,List.length_cons,List.length_take,List.length_drop] at e
 show (put x a c).cps.size=_
 omega
theorem aMd {x:Str} {a c d:Nat} (h:a≤x.length) (m:d∈(put x a c).cps):d=c∨d∈x.cps:=by
 have m1:d∈(put x a c).cps.toList:=Array.mem_toList_iff.mpr m
 rw [aBz h] at m1
 rcases List.mem_append.mp m1 with z|z
 ·exact .inr (Array.mem_toList_iff.mp (List.mem_of_mem_take z))
 ·rcases List.mem_cons.mp z with z|z
  ·exact .inl z
  ·exact .inr (Array.mem_toList_iff.mp (List.mem_of_mem_drop z))
section
variable {X:Cx} {scope:Scope} {N:List Str} {wi:TI} {te:TE} {σ:St} {H:Hp} {Q:VK}
theorem wB {K:PySem.W.Frag} (h:X.K=K:=by rfl):IxR X (rIxL K):=by subst h;exact ix_list
end
section
variable {X:Cx} {scope:Scope} {N:List Str} {wi:TI} {te:TE} {σ:St} {H:Hp} {Q:VK}
theorem aI8 {K:PySem.W.Frag} {tl:TA} (xs ys:List V) (f:V→V→V) (σ0:St) (cap:Cap X scope N σ σ0) (hsz:xs.length≤sizeLine) (hl:xs.length=ys.length)
  (hw:∀R:List V→Hp→Prop,(∀t u H1,Same H H1→SqT K H1 t xs→SqT K H1 u ys→R [.ref t,.ref u] H1)→tl σ H R)
  (he:∀(i:Nat) (x y:V),xs[i]?=some x→ys[i]?=some y→∀H' R l1 l2,Same H H'→(∀H2,Same H' H2→R (f x y) H2)→te ((((σ0.set 0 l1).set 1 l2).set 0 (some x)).set 1 (some y)) H' R) (h0:σ0[0]?=some none) (h1:σ0[1]?=some none)
  (q:∀D H',Same H H'→H' D=some (.lst (List.zipWith f xs ys))→Q (.ref D) H') :
  gO X scope N (aH6 K tl) (gTup K 2 (gCons (gName 0) (gCons (gName 1) gNil))) mU te σ H Q:=by
 refine ⟨σ0,cap,hw _ fun t u H1 s1 ht hu=>⟨t,u,xs,ys,rfl,ht,hu,fun D hD=>?_⟩⟩
 refine ⟨fun i m σ' H' zs=>i≤xs.length∧m=xs.length - i∧(∃l1 l2,σ'=(σ0.set 0 l1).set 1 l2)∧Same H1 H'∧H' D=some (.lst zs)∧zs=(List.zipWith f xs ys).take i,⟨xs.length,Nat.zero_le _,rfl,⟨none,none,?_⟩,aX hD _,upd_same,rfl⟩,?_⟩
 ·rw [←dU h0];exact dU h1
 rintro i m σ' H' zs ⟨hi,rfl,⟨l1,l2,rfl⟩,sm,hL,rfl⟩
 refine ⟨hL,?_⟩
 by_cases hlt:i<xs.length
 ·right
  refine ⟨⟨sm.aM ht,sm.aM hu,hlt,by omega⟩,fun v H2 hy=>?_⟩
  obtain ⟨T,a,b,hT,rfl,rfl,ha,hb⟩:=hy
  have s2:Same H' (upd H' T (.tup [a,b])):=aX hT _
  refine ⟨T,[a,b],rfl,.inl (.inl upd_same),rfl,a,[b],rfl,b,[],rfl,rfl,?_⟩
  unfold mU
  dsimp only
  rw [if_pos rfl]
  refine he i a b ha hb _ _ l1 l2 (fun b o e=>s2 _ _ (sm _ _ (s1 _ _ e))) fun H3 s3=>⟨s3 _ _ (s2 _ _ hL),?_,xs.length - (i+1),by omega,hlt,rfl,⟨some a,some b,?_⟩,?_,upd_same,?_⟩
  ·rw [List.length_take,List.length_zipWith];omega
  ·rw [List.set_comm _ _ (show (1:Nat)≠0 by decide),List.set_set,List.set_set]
  ·intro c o e
   rw [upd_ne (ne_of_none e hD)]
   exact s3 _ _ (s2 _ _ (sm _ _ e))
  ·rw [List.take_add_one,List.getElem?_zipWith,ha,hb]
   rfl
 ·left
  have e:i=xs.length:=by omega
  subst e
  refine ⟨⟨sm.aM ht,Nat.le_refl _⟩,?_⟩
  rw [List.take_of_length_le (by rw [List.length_zipWith];omega)] at hL
  exact q D _ (s1.trans sm) hL
end
section
variable {X:Cx} {e:Expr} {es:List Expr} {t:TA} {pos:Pos}
def aPe (t:TA):TE:=fun σ H Q=>t σ H fun xs H1=>xs.length≤sizeLine∧∀p H',H1 p=none→Same H1 H'→H' p=some (.tup xs)→Q (.ref p) H'
def aN3 (t:TA):TE:=fun σ H Q=>t σ H fun xs H1=>xs.length≤sizeLine∧∀p H',H1 p=none→Same H1 H'→H' p=some (.lst xs)→Q (.ref p) H'
theorem gB {x1} (h:VA X es t):VE X (.Tuple es x1 pos) (aPe t):=⟨by
 intro pins s σ H Q I hq
 refine wpAny_Tuple_spliced (thn (h.1 pos pins s σ H _ I hq) fun us s1 ⟨xs,H1,I1,r,z,q⟩=>⟨by rw [←r.length];exact z,?_⟩)
 have hf:H1 s1.heap.objs.size=none:=I1.hok.fresh (Nat.le_refl _)
 refine ⟨.ref s1.heap.objs.size,upd H1 s1.heap.objs.size (.tup xs),I1.laid (t':=s1.toks) (fun b u e=>Heap.get?_push_of_some _ e) (Nat.le_refl _) ?_,rfl,q _ _ hf (aX hf _) upd_same⟩
 exact ⟨z,us,r,.of (Heap.get?_push_size _ rfl) rfl ⟨_,Heap.get?_push_size _ rfl,rfl,_,rfl⟩⟩⟩
theorem cG (h:VA X es t):VE X (.List es pos) (aN3 t):=⟨by
 intro pins s σ H Q I hq
 refine wpAny_List_spliced (thn (h.1 pos pins s σ H _ I hq) fun us s1 ⟨xs,H1,I1,r,z,q⟩=>⟨by rw [←r.length];exact z,?_⟩)
 have hf:H1 s1.heap.objs.size=none:=I1.hok.fresh (Nat.le_refl _)
 refine ⟨.ref s1.heap.objs.size,upd H1 s1.heap.objs.size (.lst xs),I1.laid (t':=s1.toks) (fun b u e=>Heap.get?_push_of_some _ e) (Nat.le_refl _) ?_,rfl,q _ _ hf (aX hf _) upd_same⟩
 exact ⟨z,us,0,r,Heap.get?_push_size _ rfl⟩⟩
theorem OpR.imp {f:Value→Value→Sem Value} {r r':R2} (h:OpR X f r) (k:∀x y H Q,r' x y H Q→r x y H Q):OpR X f r':=fun pins s σ H x y v u Q I rx ry q=>h pins s σ H x y v u Q I rx ry (k _ _ _ _ q)
theorem CallR.imp {f:Value} {r r':List V→Hp→VK→Prop} (h:CallR X f r) (k:∀xs H Q,r' xs H Q→r xs H Q):CallR X f r':=fun pins s σ H xs us Q I rv q=>h pins s σ H xs us Q I rv (k _ _ _ q)
def aPx (K:PySem.W.Frag):R2:=fun x y H Q=>∃a b xs ys,x=.ref a∧y=.ref b∧SqT K H a xs∧SqT K H b ys∧xs.length+ys.length≤sizeLine∧∀r H',Same H H'→SqT K H' r (xs++ys)→Q (.ref r) H'
theorem aHg:OpR X (binaryOp .Add) (aPx X.K):=OpR.imp (op_catT.or aMl) fun x y H Q ⟨a,b,xs,ys,ex,ey,ha,hb,hz,q⟩=>by
 by_cases h:xs=[]
 ·subst h
  exact .inr ⟨a,b,ys,ex,ey,ha,hb,q b H (Same.refl H) hb⟩
 ·refine .inl ⟨a,b,xs,ys,ex,ey,ha,hb,h,hz,fun z=>?_,fun _ p hp=>q p _ (aX hp _) (SqT.of upd_same)⟩
  subst z
  exact q a H (Same.refl H) (by rw [List.append_nil];exact ha)
def aQe (K:PySem.W.Frag):V→Option Int→Option Int→Hp→VK→Prop:=fun x lo hi H Q=>∃a xs,x=.ref a∧SqT K H a xs ∧
 ¬ (HT.sIx xs.length 0 lo=0∧HT.sIx xs.length xs.length hi=xs.length)∧∀p H',Same H H'→H' p=some (.tup (cutV xs lo hi))→Q (.ref p) H'
theorem aG8:SlR X (aQe X.K):=fun pins s σ H x v vl vu lo hi sl Q I rx hs pl pu ⟨a,xs,e,ha,hn,q⟩=>
 sl_tup pins s σ H x v vl vu lo hi sl Q I rx hs pl pu ⟨a,xs,e,ha,hn,fun p hp=>q p _ (aX hp _) upd_same⟩
def aO6:R2:=fun x y H Q=>∃l b xs zs,x=.ref l∧y=.ref b∧H l=some (.lst xs)∧H b=some (.lst zs)∧xs.length+zs.length≤sizeLine∧∀p H',H p=none→Same H H'→H' p=some (.lst (xs++zs))→Q (.ref p) H'
theorem aCz:OpR X (binaryOp .Add) aO6:=OpR.imp op_cat fun x y H Q ⟨l,b,xs,zs,ex,ey,hl,hb,hz,q⟩=>⟨l,b,xs,zs,ex,ey,hl,hb,hz,fun p hp=>q p _ hp (aX hp _) upd_same⟩
def aOi (K:PySem.W.Frag):List V→Hp→VK→Prop:=fun xs H Q=>∃p ys,xs=[.ref p]∧(SqL K H p ys∨SqT K H p ys)∧∀l H',H l=none→Same H H'→H' l=some (.lst ys)→Q (.ref l) H'
theorem uW:CallR X (.type "list") (aOi X.K):=CallR.imp call_list_of fun xs H Q ⟨p,ys,e,h,q⟩=>⟨p,ys,e,h,fun l hl=>q l _ hl (aX hl _) upd_same⟩
def aMi (K:PySem.W.Frag):List V→Hp→VK→Prop:=fun xs H Q=>∃p ys,xs=[.ref p]∧SqL K H p ys∧∀l H',H l=none→Same H H'→H' l=some (.tup ys)→Q (.ref l) H'
theorem cT:CallR X (.type "tuple") (aMi X.K):=CallR.imp call_tuple_of fun xs H Q ⟨p,ys,e,h,q⟩=>⟨p,ys,e,.inl ⟨h,fun l hl=>q l _ hl (aX hl _) upd_same⟩⟩
theorem uK:MtR X "list.append" rAppend:=mt_append
theorem gG {H H':Hp} {D:Addr} {o:HO} (f:H D=none) (s:Same H H'):Same H (upd H' D o):=fun b u e=>by rw [upd_ne (ne_of_none e f)];exact s _ _ e
end
end L2
namespace PySem
section
variable {prog:Program} {w:World} {A:Around} {E:Value→Shared→Prop} {s:Shared} {T:String} {r d:Addr} {n:Nat} {P:Nat→Value→Prop} {OK:Heap→Prop}
theorem aDc {Q:List Value→Shared→Prop} (Kd:PySem.W.KdlSrc prog w T r d n P OK) (hh:A.handled=none) (hok:OK s.heap)
  (hQ:∀h' tk acc,(∀b o,s.heap.get? b=some o→h'.get? b=some o)→ItemsOf P acc n→Q acc.toList { s with heap:=h',toks:=tk }) (hn:n≤sizeLine) :
  wpAny (model prog w) A (collect (.ref r)) Q E s:=by
 unfold collect
 refine wpAny_bind (wpAny_runValue (codeAny_builtin F.entry_proto_collect ?_))
 rw [Around.under_plainId F.plain_proto_collect _]
 show wpAny _ A.in1 (newList [] >>= fun l=>again (.builtin "list.__iadd__" ⟨[l,.ref r],[]⟩)) _ _ s
 refine wpAny_bind (wpAny_newObj_type ?_)
 refine wpAny_pure ⟨plainId_quiet F.plain_list_iadd _,codeAny_builtin F.entry_list_iadd ?_⟩
 rw [Around.under_plainId F.plain_list_iadd _]
 show wpAny _ A.in1 (Builtin.List.listExtendWith (.ref s.heap.objs.size) (.ref r) (.ref s.heap.objs.size)) _ _ _
 have hS:(s.heap.push { cls:=.type "list",data:=.seq ([]:List Value).toArray }).get? s.heap.objs.size=some { cls:=.type "list",data:=.seq #[] 0 }:=Heap.get?_push_size _ rfl
 have hlt:=Kd.there _ hok
 have fin':∀h' tk acc' c',(∀b o,b≠s.heap.objs.size→(s.heap.push { cls:=.type "list",data:=.seq ([]:List Value).toArray }).get? b=some o→h'.get? b=some o) →
   h'.get? s.heap.objs.size=some { cls:=.type "list",dict:=none,data:=.seq acc' c',slots:=#[] }→ItemsOf P acc' n →
   wpAny (model prog w) A (match Value.ref s.heap.objs.size with
   |Value.ref a=>do
    match (←load a).data with
     |Data.seq xs _=>pure xs.toList
     |_=>unsupported "internal:collect"
   |_=>unsupported "internal:collect") Q E { s with heap:=h',toks:=tk }:=by
  intro h' tk acc' c' kp hS' hacc
  show wpAny _ A (load s.heap.objs.size >>= _) _ _ _
  refine wpAny_bind (wpAny_load hS' ?_)
  refine wpAny_pure ?_
  exact hQ h' tk acc' (fun b o e=>kp b o (Nat.ne_of_lt (Heap.lt_size e)) (Heap.get?_push_of_some _ e)) hacc
 refine wpAny_mono (PySem.W.kdl_extend (A:=A) (R:=fun q s'=>∃h' tk acc' c',q=.ok (.ret (.ref s.heap.objs.size))∧s'={ s with heap:=h',toks:=tk }∧(∀b o,b≠s.heap.objs.size→(s.heap.push { cls:=.type "list",data:=.seq ([]:List Value).toArray }).get? b=some o→h'.get? b=some o) ∧
   h'.get? s.heap.objs.size=some { cls:=.type "list",dict:=none,data:=.seq acc' c',slots:=#[] }∧ItemsOf P acc' n)
  (s:={ s with heap:=s.heap.push { cls:=.type "list",data:=.seq ([]:List Value).toArray } }) Kd hh (Kd.keep _ _ hok fun b _ o e=>Heap.get?_push_of_some _ e) s.heap.objs.size (Nat.ne_of_gt hlt.1) (Nat.ne_of_gt hlt.2) (.ref s.heap.objs.size) 0 hS
   (fun h' tk acc' c' kp hS' hacc=>⟨h',tk,acc',c',rfl,rfl,kp,hS',hacc⟩) hn) (fun fin s' h=>?_) (fun e s' h=>?_)
 ·cases fin with
  |done f=>
   obtain ⟨h',tk,acc',c',e,rfl,kp,hS',hacc⟩:=h
   cases e
   exact fin' h' tk acc' c' kp hS' hacc
  |again c'=>exact ⟨h.1,codeAny_mono h.2 fun q s'' hr=>by
    obtain ⟨h',tk,acc',c',rfl,rfl,kp,hS',hacc⟩:=hr
    exact fin' h' tk acc' c' kp hS' hacc⟩
 ·obtain ⟨_,_,_,_,e,_⟩:=h
  cases e
end
theorem mQ {prog:Program} {w:World} (d:Addr) (kvs:List (Str × Value)) (lo:(d == sysModules)=false) (hn:kvs.length≤sizeLine) :
  MeetsIn prog w (Builtin.«tuple.__new__» ⟨[.type "tuple",.ref d],[]⟩)
   (fun A R s=>A.handled=none∧(s.heap.DictOf (strKind prog w) d kvs)∧∀(h':Heap) (tk:Nat) (acc:Array Value),(∀b o,s.heap.get? b=some o→h'.get? b=some o) →
    ItemsOf (fun i v=>∃k x t,kvs[i]?=some (k,x)∧v=.str k t) acc kvs.length→R (.ok (.ret (.ref h'.objs.size))) { s with heap:=h'.push { cls:=.type "tuple",data:=.seq acc },toks:=tk }):=
 .of_wp fun A R s h=>by
  obtain ⟨hh,hm,h⟩:=h
  have hsub:=sub_tuple_self
  have hinit:=init_tuple_lookup
  have hmh:=madeHere_tuple
  have hT:s.TypeIs (.ref d) "dict":=hm.typeIs
  have hh1:A.in1.handled=none:=hh
  obtain ⟨ep,hat⟩:=hm.dictAt
  obtain ⟨o,es,ho,hx⟩:=id hat
  wp_walk using AutoSeq1.wpAny_loadPart' ho,wpAny_typeOf hT,aDc (hn:=hn) (PySem.W.kdl_dict (knd:=strKind prog w) (kvs:=kvs) (ep:=ep) lo) hh1 hat
  intro h' tk acc kp hacc
  show wpAny _ _ (Builtin.Tuple.tupleExact acc.toList.toArray >>= fun v=>ret v) _ _ _
  unfold Builtin.Tuple.tupleExact
  refine wpAny_bind (wpAny_newObj_type ?_ (show acc.toList.toArray.size≤sizeLine by simp only [Array.toArray_toList];rw [hacc.1];exact hn))
  refine wpAny_pure ⟨_,rfl,?_⟩
  have e:acc.toList.toArray=acc:=by simp
  rw [e]
  refine h h' tk acc kp ⟨hacc.1,fun j v hv=>?_⟩
  obtain ⟨k,x,e1,e2⟩:=hacc.2 j v hv
  obtain ⟨t,rfl⟩:=Value.isStrOf_shape (x:=k) (v:=v) e2
  exact ⟨k,x,t,e1,rfl⟩
end PySem
namespace L2
open PySem PySem.Spec PyProof.Rows
def aNb (w:World) (K:PySem.W.Frag) (d:Addr) (kvs:List (Str × Addr)):Prop:=∃o,K.lookup d=some o∧(d == sysModules)=false∧∀P:Program,o.IsDictOf (strKind P w) (kvs.map fun p=>(p.1,Value.ref p.2))
section
variable {X:Cx}
def aQi (w:World) (K:PySem.W.Frag):R2:=fun x y H Q=>∃d kvs k p,x=.ref d∧y=.str k∧aNb w K d kvs∧(kvs.find? fun q=>decide (q.1=k)).map (·.2)=some p∧Q (.ref p) H
theorem aKj (kvs:List (Str × Addr)) (k:Str) {p:Addr} (h:(kvs.find? fun q=>decide (q.1=k)).map (·.2)=some p):valueAt (kvs.map fun q=>(q.1,Value.ref q.2)) k=some (.ref p):=by
 unfold valueAt
 rw [List.find?_map]
 cases e:kvs.find? fun q=>decide (q.1=k) with
 |none=>rw [e] at h;cases h
 |some q=>
  rw [e] at h
  have h:q.2=p:=Option.some.inj h
  have e':kvs.find? ((fun kv:Str × Value=>decide (kv.1=k)) ∘ fun q=>(q.1,Value.ref q.2))=some q:=e
  rw [e',←h]
  rfl
theorem aM1:IxR X (aQi X.w X.K):=by
 intro value slice pins s σ H x y v u Q I rx ry h hs
 obtain ⟨d,kvs,k,p,rfl,rfl,⟨o,hk,lo,hd⟩,hp,q⟩:=h
 cases rx
 obtain ⟨t,rfl⟩:=ry
 have hm:s.heap.DictOf (strKind X.prog X.w) d (kvs.map fun p=>(p.1,Value.ref p.2)):=Heap.dictOf_iff.mpr ⟨o,I.kIn _ _ hk,hd _⟩
 exact tail_any hm.typeIs slot_dict_getitem.lookup (wpAny_getItem_of (strKind_is _ _ _ _) hm.mapOf (aKj kvs k hp) ⟨.ref p,H,I.tok _,rfl,q⟩) hs
def aPf (w:World) (K:PySem.W.Frag):List V→Hp→VK→Prop:=fun xs H Q=>∃d kvs,xs=[.ref d]∧aNb w K d kvs∧kvs.length≤1000∧∀p H',Same H H'→H' p=some (.tup (kvs.map fun q=>V.str q.1))→Q (.ref p) H'
theorem yN:∀(kvs:List (Str × Value)) (vs:List Value),vs.length=kvs.length→(∀(j:Nat) (v:Value),vs[j]?=some v→∃k x t,kvs[j]?=some (k,x)∧v=.str k t)→Vals (kvs.map fun q=>V.str q.1) vs
 |[],[],_,_=>.nil
 |(k,x)::r,v::vs,hl,h=>by
  obtain ⟨k',x',t,e,rfl⟩:=h 0 v rfl
  cases e
  exact .cons ⟨t,rfl⟩ (yN r vs (by simpa using hl) fun j u e=>h (j+1) u e)
theorem aJh (hc:X.calm=true):CallR X (.type "tuple") (aPf X.w X.K):=by
 intro pins s σ H xs us Q I r h
 obtain ⟨d,kvs,rfl,⟨o,hk,lo,hd⟩,hl,q⟩:=h
 obtain ⟨u,rfl,ru⟩:=vals1 r
 cases ru
 have hm:s.heap.DictOf (strKind X.prog X.w) d (kvs.map fun p=>(p.1,Value.ref p.2))  :=Heap.dictOf_iff.mpr ⟨o,I.kIn _ _ hk,hd _⟩
 have hn:(kvs.map fun p=>(p.1,Value.ref p.2)).length≤sizeLine:=small (by rw [List.length_map];exact hl)
 refine callType_newIn F.called_tuple (by decide) (F.typeCall_tuple_1 _) (F.newCall_tuple_1 _) (fun obj=>F.args_object_init_2 obj _) F.entry_tuple_new
  (mQ d _ lo hn) ⟨I.ok.hd hc,hm,fun h' tk acc kp hacc=>⟨⟨_,Heap.get?_push_size _ rfl,rfl⟩,?_⟩⟩
 have hv:=yN (kvs.map fun p=>(p.1,Value.ref p.2)) acc.toList (by rw [Array.length_toList];exact hacc.1) fun j v e=>hacc.2 j v (by rw [←Array.getElem?_toList];exact e)
 rw [List.map_map] at hv
 have hv:Vals (kvs.map fun q=>V.str q.1) acc.toList:=hv
 have I1:Inv X pins σ H { s with heap:=h',toks:=tk }:=I.kept (t':=tk) kp
 refine ⟨.ref h'.objs.size,_,I1.laid (t':=tk) (o:=.tup (kvs.map fun q=>V.str q.1)) (fun b ob e=>Heap.get?_push_of_some _ e) (Nat.le_refl _) ?_,rfl,q _ _ (aX (I1.hok.fresh (Nat.le_refl _)) _) upd_same⟩
 have ea:acc.toList.toArray=acc:=by simp
 refine ⟨small (by rw [List.length_map];exact hl),acc.toList,hv,?_⟩
 rw [ea]
 exact .of (Heap.get?_push_size _ rfl) rfl ⟨_,Heap.get?_push_size _ rfl,rfl,_,rfl⟩
end
section
variable {X:Cx} {pins:List (Addr × Obj)} {σ:St} {H:Hp} {s:Shared}
end
def Ite (K:PySem.W.Frag) (l:Addr) (xs:List V):It:=
 ⟨fun i H=>SqL K H l xs∧i<xs.length,fun i H v H'=>∃T a,H T=none∧v=.ref T∧H'=upd H T (.tup [.int (i:Nat),a])∧xs[i]?=some a,fun i H=>SqL K H l xs∧xs.length≤i⟩
def etn (e it l:Addr) (i:Nat) (h:Heap):Prop:=(∃old,IsEnum h e it (i:Int) old)∧h.IsListIter it l i
theorem aIa {P:Program} {w:World} {K:PySem.W.Frag} {elts:List Expr} {kt:Nat} {pos:Pos} {e it l:Addr} {xs:List V} (hne:e≠it) :
  Turn P w K (.Tuple elts kt pos) (Ite K l xs) [e,it] e (etn e it l) where
 mem:=by simp
 obj:=fun i h st b hb=>by
  obtain ⟨⟨old,e1⟩,o,e2,c2,d2⟩:=st
  simp only [List.mem_cons,List.not_mem_nil,or_false] at hb
  rcases hb with rfl|rfl
  ·exact ⟨_,e1,fun v z=>by cases (show Data.fields _=Data.cell v from z)⟩
  ·exact ⟨_,e2,fun v z=>by rw [d2] at z;cases z⟩
 keep:=fun i h h' st k=>by
  obtain ⟨⟨old,e1⟩,o,e2,r⟩:=st
  exact ⟨⟨old,k e (by simp) _ e1⟩,o,k it (by simp) _ e2,r⟩
 item:=by
  intro X hP hw hK hc i pins s σ H E I hf st hg
  subst hP hw hK
  obtain ⟨⟨old,e1⟩,e2⟩:=st
  obtain ⟨hl,l1⟩:=hg
  obtain ⟨its,rv,pl,hz⟩:=I.list hl
  obtain ⟨x,hx,rx⟩:=rv.get (List.getElem?_eq_getElem l1)
  have fe:=hf e (by simp)
  have fi:=hf it (by simp)
  refine wpAny_pyNext_enum_item e1 e2 pl.isList (by simpa using hx) hne fun h' a1 a2 a3 a4 kp=>?_
  refine ⟨_,rfl,?_⟩
  have fT:H s.heap.objs.size=none:=I.hok.fresh (Nat.le_refl _)
  obtain ⟨oi,e2',_⟩:=id e2
  obtain ⟨oi2,a2',_⟩:=id a2
  have I1:Inv X pins σ (upd H s.heap.objs.size (.tup [.int (i:Nat),xs[i]])) { s with heap:=h' }:=by
   refine I.drawn (ch:=[e,it]) (its:=[.int i s.toks,x]) (fun b hb=>hf b hb) (fun b o hb z=>?_) (Nat.le_refl _) (.cons ⟨_,rfl⟩ (.cons rx .nil)) (small (by simp)) (.of a3 rfl ⟨_,a3,rfl,_,rfl⟩) (fun b hb=>?_)
   ·simp only [List.mem_cons,List.not_mem_nil,or_false,not_or] at hb
    exact kp b o hb.1 hb.2 z
   ·simp only [List.mem_cons,List.not_mem_nil,or_false] at hb
    rcases hb with rfl|rfl
    ·exact ⟨_,a1⟩
    ·exact ⟨_,a2'⟩
  have I1':Inv X pins σ (upd H s.heap.objs.size (.tup [.int (i:Nat),xs[i]])) { s with heap:=h',toks:=s.toks+1 }:=I1.tok _
  have nT:∀b∈[e,it],b≠s.heap.objs.size:=fun b hb=>by
   simp only [List.mem_cons,List.not_mem_nil,or_false] at hb
   rcases hb with rfl|rfl
   ·exact Nat.ne_of_lt (Heap.lt_size e1)
   ·exact Nat.ne_of_lt (Heap.lt_size e2')
  refine wpAny_letOwnedTupleGo_enum (s:={ s with heap:=h',toks:=s.toks+1 }) a1 fun h2 z2 s2=>?_
  obtain ⟨g0,g1,g2,g3,g4,g5⟩:=fe
  have I2:Inv X pins σ (upd H s.heap.objs.size (.tup [.int (i:Nat),xs[i]])) { s with heap:=h2,toks:=s.toks+1 }:=Inv.turned (s:={ s with heap:=h',toks:=s.toks+1 }) I1' (t':=s.toks+1) (it:=e) (fun b o hb z=>(s2.2 b hb).trans z) (by rw [upd_ne (nT e (by simp))];exact g0) g1 g3 g4 g5
  refine ⟨.ref s.heap.objs.size,_,I2,rfl,⟨_,_,fT,rfl,rfl,List.getElem?_eq_getElem l1⟩,⟨⟨x,?_⟩,?_⟩,fun b hb=>by rw [upd_ne (nT b hb)];exact (hf b hb).1⟩
  ·rw [show ((i+1:Nat):Int)=(i:Int)+1 from by omega]
   exact z2
  ·obtain ⟨o,ho,r⟩:=a2
   exact ⟨o,(s2.2 it (Ne.symm hne)).trans ho,r⟩
 done:=by
  intro X hP hw hK hc i pins s σ H E I hf st hg
  subst hP hw hK
  obtain ⟨⟨old,e1⟩,e2⟩:=st
  obtain ⟨hl,hi⟩:=hg
  obtain ⟨its,rv,pl,hz⟩:=I.list hl
  have hlen:=rv.length
  refine wpAny_pyNext_enum_end (I.ok.hd hc) e1 e2 pl.isList (by simp;omega) fun h' kp=>⟨rfl,?_⟩
  refine Inv.aHr (ch:=[it]) I (fun b hb=>hf b (List.mem_cons_of_mem _ hb)) fun b o hb z=>kp b o (by simpa using hb) z
 self:=fun _ _ _ _ _ st h=>by
  obtain ⟨⟨old,e1⟩,_⟩:=st
  exact wpAny_pyIter_enum e1 h
section
variable {X:Cx}
def aN2 (K:PySem.W.Frag) (ta:TA):TI:=fun σ H R=>ta σ H fun vs H1=>∃l xs,vs=[.ref l]∧SqL K H1 l xs∧R (Ite K l xs) H1
theorem aNc {elts:List Expr} {kt:Nat} {tp:Pos} {a:Expr} {ta:TA} {p pos:Pos} (hg:Gl X "enumerate") (hm:X.mg "enumerate"=none) (ha:PA X [a] ta) (hs:starEach [a] X.env=[(false,eval a X.env)]:=by rfl) :
  PI X (.Tuple elts kt tp) (.Call (.Name "enumerate" p) [a] [] pos) (aN2 X.K ta):=by
 intro pins s σ H R I h
 refine Call_ (ld_blt I hg hm zK (PyProof.Rows.callWith_type1 (thn (ha pos pins s σ H _ I h) fun us s1 ⟨vs,H1,I1,r1,q1⟩=>?_) hs (by rfl)))
 obtain ⟨l,xs,e,hl,q⟩:=q1
 subst e
 obtain ⟨its,rv,pl,hz⟩:=I1.list hl
 obtain ⟨u,rfl,ru⟩:=vals1 r1
 cases ru
 refine call_enumerate_list pl.isList fun h' a1 a2 a3 kp=>?_
 have I2:Inv X pins σ H1 { s1 with heap:=h' }:=I1.kept (t':=s1.toks) kp
 refine wpAny_pyIter_enum (s:={ s1 with heap:=h' }) a1 ⟨_,_,_,_,H1,rfl,I2,aIa (xs:=xs) (l:=l) (Nat.ne_of_gt (Nat.lt_succ_self _)),⟨⟨_,a1⟩,a2⟩,fun b hb=>?_,q⟩
 have hb':s1.heap.objs.size≤b:=by
  simp only [List.mem_cons,List.not_mem_nil,or_false] at hb
  rcases hb with rfl|rfl
  ·exact Nat.le_succ _
  ·exact Nat.le_refl _
 exact I1.fpOk hb' (I1.hok.fresh hb')
theorem aJ4 {K:PySem.W.Frag} {l:Addr} {xs:List V} {g:TG} {tb:TS} {D:Ends} {σ:St} {H:Hp} (Pv:Nat→St→Hp→Prop) (h0:Pv 0 σ H) (hl:∀i σ H,i≤xs.length→Pv i σ H→SqL K H l xs)
  (hs:∀i σ H a T H',xs[i]?=some a→Pv i σ H→H T=none→H'=upd H T (.tup [.int (i:Nat),a])→g (.ref T) σ H' fun σ2 H2=>tb { D with nx:=Pv (i+1),ct:=Pv (i+1),bk:=D.nx } σ2 H2) (hd:∀σ H,Pv xs.length σ H→D.nx σ H) :
  ∃W:Nat→Nat→St→Hp→Prop,(∃m,W 0 m σ H)∧∀i m σ H,W i m σ H →
   ((Ite K l xs).stop i H∧D.nx σ H)∨((Ite K l xs).go i H∧∃N:St→Hp→Prop,(∀σ' H',N σ' H'→∃m',m'<m∧W (i+1) m' σ' H')∧∀x H',(Ite K l xs).yld i H x H'→g x σ H' fun σ2 H2=>tb { D with nx:=N,ct:=N,bk:=D.nx } σ2 H2):=by
 refine ⟨fun i m σ H=>m=xs.length - i∧i≤xs.length∧Pv i σ H,⟨xs.length,by simp,Nat.zero_le _,h0⟩,?_⟩
 rintro i m σ H ⟨rfl,hi,p⟩
 by_cases hlt:i<xs.length
 ·refine .inr ⟨⟨hl i σ H hi p,hlt⟩,Pv (i+1),fun σ' H' p'=>⟨xs.length - (i+1),by omega,rfl,hlt,p'⟩,fun x H' y=>?_⟩
  obtain ⟨T,a,hT,rfl,e,ha⟩:=y
  exact hs i σ H a T H' ha p hT e
 ·have e:i=xs.length:=by omega
  subst e
  exact .inl ⟨⟨hl _ σ H hi p,Nat.le_refl _⟩,hd σ H p⟩
end
section
variable {X:Cx} {a c e:Expr} {st:Stmt} {body:List Stmt} {tc:TT} {tb:TS} {t:TA} {te:TE} {pos p:Pos}
theorem eG:VS X st tNever:=⟨ps_never⟩
theorem aKn (hp:PassesOwn (model X.prog X.w) X.A X.env X.xe) (hc:VT X c tc) (hb:VSs X body tb):VS X (.While c body [] pos) (tWhile tc tb):=⟨ps_while hp hc.1 hb.1⟩
theorem aNf {elts:List Expr} {kt:Nat} {tp:Pos} (hg:Gl X "enumerate") (hm:X.mg "enumerate"=none) (ha:VA X [a] t) (hp:cI a=true:=by rfl) :
  VI X (.Tuple elts kt tp) (.Call (.Name "enumerate" p) [a] [] pos) (aN2 X.K t):=⟨aNc hg hm ha.1 (aW (es:=[]) hp)⟩
theorem aNa:MtR X "list.pop" rPop:=mt_pop
theorem aF8:MtR X "list.extend" rExtend:=mt_extend
theorem uQ {o:Expr} {to:TE} {name:Str} {apos cpos:Pos} {T id:String} {r:V→List V→Hp→VK→Prop} (pa:PlainAttrs T) (slot:Slot T name id) (hty:typeOf (.builtin id)=pure (.type "method_descriptor")) (hm:MtR X id r) (ho:VE X o to)
  (hbase:attributeBase o name X.env (eval o X.env)=eval o X.env:=by rfl) (hline:(apos.endLine == cpos.line)=true:=by rfl):VE X (.Call (.Attribute o name apos) [] [] cpos) (tBM0 X.K T r to):=⟨pe_bm0 pa slot hty hm ho.1 hbase hline⟩
end
section
variable {P:Program} {w:World} {K:PySem.W.Frag} {mg:Str→Option Value} {base:Heap}
theorem Ok.aLz {k:Nat} {x:Str} {ps:List Str} {sp:Sp} {f:Addr} (G:Ok P w K mg base k x ps sp) (m:mg x=some (.ref f)):Held P w K mg base k f ps sp:=by
 obtain ⟨g,m',h⟩:=G.held
 rw [m] at m'
 cases m'
 exact h
end
section
variable {X:Cx} {scope:Scope} {N:List Str} {wi:TI} {te:TE} {σ:St} {H:Hp} {Q:VK}
theorem rQ (xs:List V) (Rel:Nat→Hp→V→Prop) (st:∀{i H1 H2 y},Same H1 H2→Rel i H1 y→Rel i H2 y) (su:∀{i H1 D ys zs y},H1 D=some (.lst ys)→Rel i H1 y→Rel i (upd H1 D (.lst zs)) y)
  (σ0:St) (cap:Cap X scope N σ σ0) (hsz:xs.length≤sizeLine)
  (hw:∀R:It→Hp→Prop,(∀J:It,(∀H' i x,Same H H'→xs[i]?=some x→J.go i H'∧∀y H2,J.yld i H' y H2→H2=H'∧y=x)→(∀H',Same H H'→J.stop xs.length H')→R J H)→wi σ H R)
  (he:∀(i:Nat) (x:V),xs[i]?=some x→∀H' R l,Same H H'→(∀y H2,Same H' H2→Rel i H2 y→R y H2)→te ((σ0.set 0 l).set 0 (some x)) H' R) (h0:σ0[0]?=some none)
  (q:∀D H' ys,Same H H'→H' D=some (.lst ys)→ys.length=xs.length→(∀(i:Nat) (y:V),ys[i]?=some y→Rel i H' y)→Q (.ref D) H') :
  gO X scope N wi (gName 0) mU te σ H Q:=by
 refine ⟨σ0,cap,hw _ fun J go stop D hD=>?_⟩
 refine ⟨fun i m σ' H' ys=>i≤xs.length∧m=xs.length - i∧(∃l,σ'=σ0.set 0 l)∧Same H H'∧H' D=some (.lst ys)∧ys.length=i∧∀(j:Nat) (y:V),ys[j]?=some y→Rel j H' y,⟨xs.length,Nat.zero_le _,rfl,⟨none,dU h0⟩,aX hD _,upd_same,rfl,fun j y e=>by simp at e⟩,?_⟩
 rintro i m σ' H' ys ⟨hi,rfl,⟨l,rfl⟩,sm,hL,hl,hR⟩
 refine ⟨hL,?_⟩
 by_cases hlt:i<xs.length
 ·right
  obtain ⟨g1,g2⟩:=go H' i xs[i] sm (List.getElem?_eq_getElem hlt)
  refine ⟨g1,fun x H2 hy=>?_⟩
  obtain ⟨rfl,rfl⟩:=g2 x H2 hy
  unfold gName mU
  dsimp only
  rw [if_pos rfl]
  refine he i xs[i] (List.getElem?_eq_getElem hlt) _ _ l sm fun y H3 s3 r3=>⟨s3 _ _ hL,by omega,xs.length - (i+1),by omega,hlt,rfl,⟨some xs[i],?_⟩,?_,upd_same,?_,?_⟩
  ·rw [List.set_set]
  ·intro b o e
   rw [upd_ne (ne_of_none e hD)]
   exact s3 _ _ (sm _ _ e)
  ·rw [List.length_append,List.length_singleton,hl]
  ·intro j z ez
   refine su (s3 _ _ hL) ?_
   by_cases hj:j<ys.length
   ·rw [List.getElem?_append_left hj] at ez
    exact st s3 (hR j z ez)
   ·rw [List.getElem?_append_right (by omega)] at ez
    have hj0:j - ys.length=0:=by
     by_cases z0:j - ys.length=0
     ·exact z0
     ·rw [List.getElem?_eq_none (by simp;omega)] at ez;cases ez
    have hj1:j=i:=by omega
    subst hj1
    rw [hj0] at ez
    cases ez
    exact r3
 ·left
  have e:i=xs.length:=by omega
  subst e
  exact ⟨stop _ sm,q D _ ys sm hL hl hR⟩
theorem gU (xs ys:List V) (hly:ys.length=xs.length) (σ0:St) (cap:Cap X scope N σ σ0) (hsz:xs.length≤sizeLine)
  (hw:∀R:It→Hp→Prop,(∀J:It,(∀H' i x,Same H H'→xs[i]?=some x→J.go i H'∧∀y H2,J.yld i H' y H2→H2=H'∧y=x)→(∀H',Same H H'→J.stop xs.length H')→R J H)→wi σ H R)
  (he:∀(i:Nat) (x y:V),xs[i]?=some x→ys[i]?=some y→∀H' R l,Same H H'→(∀H2,Same H' H2→R y H2)→te ((σ0.set 0 l).set 0 (some x)) H' R) (h0:σ0[0]?=some none)
  (q:∀D H',Same H H'→H' D=some (.lst ys)→Q (.ref D) H') :
  gO X scope N wi (gName 0) mU te σ H Q:=by
 refine rQ xs (fun i _ y=>ys[i]?=some y) (fun _ h=>h) (fun _ h=>h) σ0 cap hsz hw (fun i x ex H' R l sm r=>?_) h0 fun D H' zs sm hD hl hR=>?_
 ·have hi:i<ys.length:=by rw [hly];exact (List.getElem?_eq_some_iff.mp ex).1
  exact he i x ys[i] ex (List.getElem?_eq_getElem hi) H' R l sm fun H2 s2=>r _ H2 s2 (List.getElem?_eq_getElem hi)
 ·have e:zs=ys:=by
   refine List.ext_getElem? fun i=>?_
   by_cases hi:i<zs.length
   ·rw [hR i zs[i] (List.getElem?_eq_getElem hi),List.getElem?_eq_getElem hi]
   ·rw [List.getElem?_eq_none (by omega),List.getElem?_eq_none (by omega)]
  subst e
  exact q D H' sm hD
theorem aI0 {K:PySem.W.Frag} {tl:TA} (xs ys:List V) (Rel:Nat→Hp→V→Prop) (st:∀{i H1 H2 y},Same H1 H2→Rel i H1 y→Rel i H2 y) (su:∀{i H1 D ys zs y},H1 D=some (.lst ys)→Rel i H1 y→Rel i (upd H1 D (.lst zs)) y)
  (σ0:St) (cap:Cap X scope N σ σ0) (hsz:xs.length≤sizeLine) (hl:xs.length=ys.length)
  (hw:∀R:List V→Hp→Prop,(∀t u H1,Same H H1→SqT K H1 t xs→SqT K H1 u ys→R [.ref t,.ref u] H1)→tl σ H R)
  (he:∀(i:Nat) (x y:V),xs[i]?=some x→ys[i]?=some y→∀H' R l1 l2,Same H H'→(∀z H2,Same H' H2→Rel i H2 z→R z H2)→te ((((σ0.set 0 l1).set 1 l2).set 0 (some x)).set 1 (some y)) H' R) (h0:σ0[0]?=some none) (h1:σ0[1]?=some none)
  (q:∀D H' zs,Same H H'→H' D=some (.lst zs)→zs.length=xs.length→(∀(i:Nat) (z:V),zs[i]?=some z→Rel i H' z)→Q (.ref D) H') :
  gO X scope N (aH6 K tl) (gTup K 2 (gCons (gName 0) (gCons (gName 1) gNil))) mU te σ H Q:=by
 refine ⟨σ0,cap,hw _ fun t u H1 s1 ht hu=>⟨t,u,xs,ys,rfl,ht,hu,fun D hD=>?_⟩⟩
 refine ⟨fun i m σ' H' zs=>i≤xs.length∧m=xs.length - i∧(∃l1 l2,σ'=(σ0.set 0 l1).set 1 l2)∧Same H1 H'∧H' D=some (.lst zs)∧zs.length=i∧∀(j:Nat) (z:V),zs[j]?=some z→Rel j H' z,⟨xs.length,Nat.zero_le _,rfl,⟨none,none,?_⟩,aX hD _,upd_same,rfl,fun j y e=>by simp at e⟩,?_⟩
 ·rw [←dU h0];exact dU h1
 rintro i m σ' H' zs ⟨hi,rfl,⟨l1,l2,rfl⟩,sm,hL,hlz,hR⟩
 refine ⟨hL,?_⟩
 by_cases hlt:i<xs.length
 ·right
  refine ⟨⟨sm.aM ht,sm.aM hu,hlt,by omega⟩,fun v H2 hy=>?_⟩
  obtain ⟨T,a,b,hT,rfl,rfl,ha,hb⟩:=hy
  have s2:Same H' (upd H' T (.tup [a,b])):=aX hT _
  refine ⟨T,[a,b],rfl,.inl (.inl upd_same),rfl,a,[b],rfl,b,[],rfl,rfl,?_⟩
  unfold mU
  dsimp only
  rw [if_pos rfl]
  refine he i a b ha hb _ _ l1 l2 (fun b o e=>s2 _ _ (sm _ _ (s1 _ _ e))) fun y H3 s3 r3=>⟨s3 _ _ (s2 _ _ hL),by omega,xs.length - (i+1),by omega,hlt,rfl,⟨some a,some b,?_⟩,?_,upd_same,?_,?_⟩
  ·rw [List.set_comm _ _ (show (1:Nat)≠0 by decide),List.set_set,List.set_set]
  ·intro c o e
   rw [upd_ne (ne_of_none e hD)]
   exact s3 _ _ (s2 _ _ (sm _ _ e))
  ·rw [List.length_append,List.length_singleton,hlz]
  ·intro j z ez
   refine su (s3 _ _ (s2 _ _ hL)) ?_
   by_cases hj:j<zs.length
   ·rw [List.getElem?_append_left hj] at ez
    exact st s3 (st s2 (hR j z ez))
   ·rw [List.getElem?_append_right (by omega)] at ez
    have hj0:j - zs.length=0:=by
     by_cases z0:j - zs.length=0
     ·exact z0
     ·rw [List.getElem?_eq_none (by simp;omega)] at ez;cases ez
    have hj1:j=i:=by omega
    subst hj1
    rw [hj0] at ez
    cases ez
    exact r3
 ·left
  have e:i=xs.length:=by omega
  subst e
  exact ⟨⟨sm.aM ht,Nat.le_refl _⟩,q D _ zs (s1.trans sm) hL hlz hR⟩
end
section
variable {X:Cx} {tg e o i:Expr} {te td ty:TE} {pos:Pos}
theorem aN4 (h:VE X e te):VI X tg e (fun σ H R=>iList X.K te σ H R∨iTup X.K te σ H R):=⟨fun pins s σ H R I q=>q.elim (pi_list h.1 pins s σ H R I) (pi_tup h.1 pins s σ H R I)⟩
theorem aHe (hu:X.A.units+1<cLine) (ho:VE X o td) (hi:VE X i ty) (hs:NoSl i):VE X (.Subscript o i pos) (tDGet td ty):=⟨pe_dget hu ho.1 hi.1 hs⟩
def aP6 (K:PySem.W.Frag):R2:=fun x y H Q=>∃(a b:Addr) (xs:List Str),x=.ref a∧y=.ref b∧SqL K H a (xs.map V.str)∧SqL K H b (xs.map V.str)∧Q (.bl false) H
theorem aN5 (hu:X.A.units<cLine):OpR X (compareOp .NotEq) (aP6 X.K):=by
 intro pins s σ H x y v u Q I rx ry h
 obtain ⟨a,b,xs,rfl,rfl,ha,hb,q⟩:=h
 cases rx
 cases ry
 obtain ⟨its,rv,pl,hz⟩:=I.list ha
 obtain ⟨jts,rw',pm,hw⟩:=I.list hb
 have e1:=rv.length
 have e2:=rw'.length
 rw [List.length_map] at e1 e2
 refine SeqAt.RcNeAt.lists (e:=fun _=>true) pl.isList pm.isList (by rw [List.size_toArray,List.size_toArray];omega) hu (fun j h1 h2=>?_) _ _ _ _ ?_
 ·have hj1:j<xs.length:=by rw [List.size_toArray] at h1;omega
  obtain ⟨u1,hu1,t1,rfl⟩:=rv.get (i:=j) (x:=.str xs[j]) (by rw [List.getElem?_map,List.getElem?_eq_getElem hj1];rfl)
  obtain ⟨u2,hu2,t2,rfl⟩:=rw'.get (i:=j) (x:=.str xs[j]) (by rw [List.getElem?_map,List.getElem?_eq_getElem hj1];rfl)
  have g1:its.toArray[j]=Value.str xs[j] t1:=by
   rw [List.getElem_toArray]
   exact (List.getElem?_eq_some_iff.mp hu1).2
  have g2:jts.toArray[j]=Value.str xs[j] t2:=by
   rw [List.getElem_toArray]
   exact (List.getElem?_eq_some_iff.mp hu2).2
  rw [g1,g2]
  have z:=SeqAt.EqAt.str_str (A:=X.A.in1) (s:=s) xs[j] t1 xs[j] t2
  simpa using z
 ·have z:(List.range its.toArray.size).all (fun _=>true)=true:=by rw [List.all_eq_true];intro _ _;rfl
  rw [z]
  exact ⟨.bl _,H,I,rfl,q⟩
end
theorem aMy {K:PySem.W.Frag} {t u:Addr} {xs ys:List V} {g:TG} {tb:TS} {D:Ends} {σ:St} {H:Hp} (Pv:Nat→St→Hp→Prop) (hxy:xs.length=ys.length) (h0:Pv 0 σ H) (hl:∀i σ H,i≤xs.length→Pv i σ H→SqT K H t xs∧SqT K H u ys)
  (hs:∀i σ H a b T H',xs[i]?=some a→ys[i]?=some b→Pv i σ H→H T=none→H'=upd H T (.tup [a,b])→g (.ref T) σ H' fun σ2 H2=>tb { D with nx:=Pv (i+1),ct:=Pv (i+1),bk:=D.nx } σ2 H2) (hd:∀σ H,Pv xs.length σ H→D.nx σ H) :
  ∃W:Nat→Nat→St→Hp→Prop,(∃m,W 0 m σ H)∧∀i m σ H,W i m σ H →
   ((Itz K t u xs ys).stop i H∧D.nx σ H)∨((Itz K t u xs ys).go i H∧∃N:St→Hp→Prop,(∀σ' H',N σ' H'→∃m',m'<m∧W (i+1) m' σ' H')∧∀x H',(Itz K t u xs ys).yld i H x H'→g x σ H' fun σ2 H2=>tb { D with nx:=N,ct:=N,bk:=D.nx } σ2 H2):=by
 refine ⟨fun i m σ H=>m=xs.length - i∧i≤xs.length∧Pv i σ H,⟨xs.length,by simp,Nat.zero_le _,h0⟩,?_⟩
 rintro i m σ H ⟨rfl,hi,p⟩
 by_cases hlt:i<xs.length
 ·refine .inr ⟨⟨(hl i σ H hi p).1,(hl i σ H hi p).2,hlt,by omega⟩,Pv (i+1),fun σ' H' p'=>⟨xs.length - (i+1),by omega,rfl,hlt,p'⟩,fun x H' y=>?_⟩
  obtain ⟨T,a,b,hT,rfl,e,ha,hb⟩:=y
  exact hs i σ H a b T H' ha hb p hT e
 ·have e:i=xs.length:=by omega
  subst e
  exact .inl ⟨⟨(hl _ σ H hi p).1,Nat.le_refl _⟩,hd σ H p⟩
theorem aI2 {X:Cx} {i o:Expr} {td ty:TE} {pos:Pos} (hu:X.A.units+1<cLine) (hi:VE X i ty) (ho:VE X o td) (h1:behindInMarks .NotIn o=false:=by first|exact nobehind _ (by decide) (by decide)|rfl):VT X (.Compare i [.NotIn] [o] pos) (tB (tDNotIn ty td)):=⟨pt_cmp (pc_dnotin hu hi.1 ho.1) h1⟩
theorem xQ {X:Cx} {K:PySem.W.Frag} (h:X.K=K:=by rfl):OpR X (compareOp .NotIn) (rIn K true):=by subst h;exact op_notIn_seq
def sel {α:Type} (p:Nat→Bool):Nat→List α→List α
 |_,[]=>[]
 |i,x::r=>if p i then x::sel p (i+1) r else sel p (i+1) r
theorem vR {α:Type} (p:Nat→Bool) (x:α):∀(k:Nat) (xs:List α),sel p k (xs++[x])=sel p k xs++(if p (k+xs.length) then [x] else [])
 |k,[]=>by
  show (if p k then x::sel p (k+1) [] else sel p (k+1) [])=[]++(if p (k+0) then [x] else [])
  rw [Nat.add_zero,List.nil_append]
  rfl
 |k,y::r=>by
  show (if p k then y::sel p (k+1) (r++[x]) else sel p (k+1) (r++[x]))=(if p k then y::sel p (k+1) r else sel p (k+1) r)++_
  rw [vR p x (k+1) r,List.length_cons,show k+1+r.length=k+(r.length+1) by omega]
  split <;> rfl
theorem uB {α:Type} (p:Nat→Bool):∀(k:Nat) (xs:List α),(sel p k xs).length≤xs.length
 |_,[]=>Nat.le_refl _
 |k,y::r=>by
  have:=uB p (k+1) r
  show (if p k then y::sel p (k+1) r else sel p (k+1) r).length≤r.length+1
  split
  ·rw [List.length_cons];omega
  ·omega
section
variable {X:Cx} {scope:Scope} {N:List Str} {wi:TI} {te:TE} {σ:L2.St} {H:Hp} {Q:VK}
theorem aK3 {tt:TT} (xs:List V) (p:Nat→Bool) (σ0:L2.St) (cap:Cap X scope N σ σ0) (hsz:xs.length≤sizeLine)
  (hw:∀R:It→Hp→Prop,(∀J:It,(∀H' i x,Same H H'→xs[i]?=some x→J.go i H'∧∀y H2,J.yld i H' y H2→H2=H'∧y=x)→(∀H',Same H H'→J.stop xs.length H')→R J H)→wi σ H R)
  (ht:∀(i:Nat) (x:V),xs[i]?=some x→∀H' R l,Same H H'→(∀H2,Same H' H2→R (p i) H2)→tt ((σ0.set 0 l).set 0 (some x)) H' R) (h0:σ0[0]?=some none)
  (q:∀D H',Same H H'→H' D=some (.lst (sel p 0 xs))→Q (.ref D) H') :
  gO X scope N wi (gName 0) tt (tVar 0) σ H Q:=by
 refine ⟨σ0,cap,hw _ fun J go stop D hD=>?_⟩
 refine ⟨fun i m σ' H' ys=>i≤xs.length∧m=xs.length - i∧(∃l,σ'=σ0.set 0 l)∧Same H H'∧H' D=some (.lst ys)∧ys=sel p 0 (xs.take i),⟨xs.length,Nat.zero_le _,rfl,⟨none,dU h0⟩,aX hD _,upd_same,rfl⟩,?_⟩
 rintro i m σ' H' ys ⟨hi,rfl,⟨l,rfl⟩,sm,hL,rfl⟩
 refine ⟨hL,?_⟩
 by_cases hlt:i<xs.length
 ·right
  obtain ⟨g1,g2⟩:=go H' i xs[i] sm (List.getElem?_eq_getElem hlt)
  refine ⟨g1,fun x H2 hy=>?_⟩
  obtain ⟨rfl,rfl⟩:=g2 x H2 hy
  unfold gName
  dsimp only
  have hj:0<σ0.length:=by
   by_cases z:0<σ0.length
   ·exact z
   ·rw [List.getElem?_eq_none (by omega)] at h0;cases h0
  have tk:sel p 0 (xs.take (i+1))=sel p 0 (xs.take i)++(if p i then [xs[i]] else []):=by
   rw [List.take_add_one,List.getElem?_eq_getElem hlt]
   show sel p 0 (xs.take i++[xs[i]])=_
   rw [vR,List.length_take,Nat.zero_add,Nat.min_eq_left (Nat.le_of_lt hlt)]
  refine ht i xs[i] (List.getElem?_eq_getElem hlt) _ _ l sm fun H3 s3=>?_
  cases hp:p i with
  |true=>
   rw [if_pos rfl]
   refine ⟨xs[i],by rw [List.set_set,List.getElem?_set_self hj],s3 _ _ hL,?_,xs.length - (i+1),by omega,hlt,rfl,⟨some xs[i],by rw [List.set_set]⟩,?_,upd_same,?_⟩
   ·have:=uB p 0 (xs.take i)
    rw [List.length_take] at this
    omega
   ·intro b o e
    rw [upd_ne (ne_of_none e hD)]
    exact s3 _ _ (sm _ _ e)
   ·rw [tk,hp];rfl
  |false=>
   rw [if_neg (by simp)]
   refine ⟨s3 _ _ hL,xs.length - (i+1),by omega,hlt,rfl,⟨some xs[i],by rw [List.set_set]⟩,sm.trans s3,s3 _ _ hL,?_⟩
   rw [tk,hp]
   simp
 ·left
  have e:i=xs.length:=by omega
  subst e
  refine ⟨stop _ sm,?_⟩
  rw [List.take_length] at hL
  exact q D _ sm hL
end
theorem aM3 {X:Cx} {i0:Nat} {x0:Str} {pos' spos:Pos} {elt target iter:Expr} {ifs:List Expr} {scope:Scope} {pos:Pos} {N:List Str} {wi:TI} {g:TG} {tt:TT} {te:TE}
  (hN:X.N.Nodup) (hi0:X.N[i0]?=some x0) (hx0:Loc X.env.scope x0) (C:vW scope N) (hfr:∀y,(y,NameKind.free)∈scope.names→X.env.kindOf y=some .cell∨X.env.kindOf y=some .free) (hc:X.calm=true)
  (hi:PI X target iter wi)
  (hb:∀cl s H fp,PG (cxC X N scope cl s H fp) target g∧aL5 (cxC X N scope cl s H fp) ifs tt∧PE (cxC X N scope cl s H fp) elt te)
  (hs:∀x,foldedSetIterable iter X.env x=pure x:=by intro _;rfl) (hsw:swapsWith (.ListComp elt [⟨target,iter,ifs,0⟩] scope pos) (some (.Name x0 pos')) spos.line X.env=pure true:=by rfl)
  (hf:X.fn x0=true∨X.env.scope.names.lookup x0=some .local:=by first|exact .inl rfl|exact .inr rfl|assumption) :
  PS X (.Assign [.Name x0 pos'] (.ListComp elt [⟨target,iter,ifs,0⟩] scope pos) spos) (tAsg (gO X scope N wi g tt te) (gName i0)):=by
 intro pins s σ H Dn I hq
 obtain ⟨σ0,cap,hq⟩:=hq
 obtain ⟨cl,hcl,p1,p2⟩:=uR (scope:=scope) (env:=X.env) (fun y hy hk=>by
  obtain ⟨n,k⟩:=y
  cases hk
  exact I.ok.has n (hfr n hy))
 rw [exec_Assign_Name_used _ _ _ _ hsw]
 refine wpAny_bind (wpAny_standAt (wpAny_bind ?_))
 show wpAny _ X.A (do let _ ←comprehension (.ListComp elt [⟨target,iter,ifs,0⟩] scope pos) scope X.env _ (newList []) false (eval iter X.env) (some (assign (.Name x0 pos') X.env))) _ _ s
 refine wpAny_bind (wpAny_mono (wpAny_comprehension_free (use:=some (assign (.Name x0 pos') X.env)) (Q:=fun _ s'=>SP X pins Dn .next s') rfl hs hcl C.kind C.names (thn (hi pins s σ H _ I hq) fun xv s1 h1=>thn h1 fun itv s2 h2=>?_))
  (fun _ s' hq=>wpAny_pure (wpAny_pure hq)) fun _ _ e=>e)
 obtain ⟨it,fp,tn,J,H2,rfl,I2,T,st2,f2,q2⟩:=h2
 refine wpAny_newObj_type (wpAny_newFunctionEnv C.cell (by intro y hy;simp at hy) (fun h₁ hns₁ hsb₁=>?_) C.kind)
 dsimp only at hns₁ hsb₁ ⊢
 have hD:H2 s2.heap.objs.size=none:=I2.hok.fresh (Nat.le_refl _)
 have I3:Inv X pins σ (upd H2 s2.heap.objs.size (.lst [])) { s2 with heap:=s2.heap.push { cls:=.type "list",dict:=none,data:=.seq ([]:List Value).toArray } }:=
  I2.laid (t':=s2.toks) (fun b u e=>Heap.get?_push_of_some _ e) (Nat.le_refl _) ⟨Nat.zero_le _,[],0,.nil,Heap.get?_push_size _ rfl⟩
 generalize hs3:({ s2 with heap:=s2.heap.push { cls:=.type "list",dict:=none,data:=.seq ([]:List Value).toArray } }:Shared)=s3 at I3
 have hh3:s2.heap.push { cls:=.type "list",dict:=none,data:=.seq ([]:List Value).toArray }=s3.heap:=by rw [←hs3]
 rw [hh3] at hns₁ hsb₁
 have fl2:∀b∈fp,b<s2.heap.objs.size:=fun b hb=>by
  obtain ⟨o,e,_⟩:=T.obj _ _ st2 b hb
  exact Heap.lt_size e
 have fl3:∀b∈fp,b<s3.heap.objs.size:=fun b hb=>by
  rw [←hh3,Heap.size_push]
  exact Nat.lt_succ_of_lt (fl2 b hb)
 have f3:∀b∈fp,FpOk X pins (upd H2 s2.heap.objs.size (.lst [])) b:=fun b hb=>by
  obtain ⟨f0,fr⟩:=f2 b hb
  exact ⟨by rw [upd_ne (Nat.ne_of_lt (fl2 b hb))];exact f0,fr⟩
 have keep3:∀b o,s3.heap.get? b=some o→h₁.get? b=some o:=fun b o e=>hsb₁.extBut b o (Nat.ne_of_lt (Heap.lt_size e)) (Heap.get?_push_of_some _ e)
 have I4:=aD5 (tk:=s3.toks) I3 C hfr p1 p2 cap f3 fl3 hns₁ keep3
 have st4:tn 0 h₁:=T.keep _ _ _ st2 fun b hb o e=>keep3 b o (by rw [←hh3];exact Heap.get?_push_of_some _ e)
 obtain ⟨W,⟨m0,w0⟩,turn⟩:=q2 s2.heap.objs.size hD
 have fpc:∀{H':Hp},(∀b∈fp,H' b=none)→∀b∈fp,FpOk (cxC X N scope cl s3 (upd H2 s2.heap.objs.size (.lst [])) fp) [] H' b:=fun {H'} hn b hb=>by
  obtain ⟨e1,e2⟩:=I4.ok.exf b hb
  exact ⟨hn b hb,e1,I4.ok.exfs b hb,.inl hb,e2,fun p hp=>absurd (show p∈([]:List (Addr × Obj)) from hp) (by simp)⟩
 have loop:∀s4:Shared,s4={ s3 with heap:=h₁,toks:=s3.toks } →
   codeAny (model X.prog X.w) X.A (.compLoop (.ListComp elt [⟨target,iter,ifs,0⟩] scope pos) 0 (.ref it) (.ref s2.heap.objs.size) (compEnvC scope cl s3.heap.objs.size X.env))
    (compPost (model X.prog X.w) X.A X.xe (some (assign (.Name x0 pos') X.env)) (fun _ s'=>SP X pins Dn .next s') (.ref s2.heap.objs.size) s3.heap.objs.size) s4:=by
  rintro s4 rfl
  refine yE (fun n s'=>∃i σ' H' ys,Inv (cxC X N scope cl s3 (upd H2 s2.heap.objs.size (.lst [])) fp) [] σ' H' s'∧tn i s'.heap∧(∀b∈fp,H' b=none)∧W i n σ' H' ys) ?_ m0 ⟨0,σ0,_,[],I4,st4,fun b hb=>(f3 b hb).1,w0⟩
  rintro n s5 ⟨i,σ5,H5,ys,I5,st5,fr5,w5⟩
  obtain ⟨hacc,w5⟩:=turn i n σ5 H5 ys w5
  have noE:∀{α:Type} {t:Sem α} {Q':α→Shared→Prop} {E':Value→Shared→Prop} {s':Shared},wpAny (model X.prog X.w) X.A t Q' (fun _ _=>False) s'→wpAny (model X.prog X.w) X.A t Q' E' s':=fun h=>wpAny_mono h (fun _ _ q=>q) fun _ _ z=>z.elim
  rcases w5 with ⟨stop,qn⟩|⟨go,step⟩
  ·refine noE (thn (T.done (cxC X N scope cl s3 (upd H2 s2.heap.objs.size (.lst [])) fp) rfl rfl rfl hc i [] s5 σ5 H5 _ I5 (fpc fr5) st5 stop) fun r s6 ⟨hr,I6⟩=>?_)
   subst hr
   obtain ⟨m6,hn6,_⟩:=I6.loc
   have kp:∀b o,b≠s3.heap.objs.size→s6.heap.get? b=some o→s6.heap.get? b=some o:=fun b o hb e=>e
   have ne3:∀b o,s3.heap.get? b=some o→b≠s3.heap.objs.size:=fun b o e=>Nat.ne_of_lt (Heap.lt_size e)
   have un:Un (frs X.stack) fp (upd H2 s2.heap.objs.size (.lst [])) H5 s3.heap s6.heap:=by
    have u:=I6.base
    exact ⟨fun b o e n hb hx=>kp b o (ne3 b o e) (u.keep b o e n hb hx),fun b o e n hb hx=>by
     obtain ⟨sl,e1⟩:=u.slot b o e n hb hx
     exact ⟨sl,kp b _ (ne3 b o e) e1⟩,u.free,fun b o e hx=>by
     obtain ⟨o',e1⟩:=u.there b o e hx
     exact ⟨o',kp b _ (ne3 b o e) e1⟩,u.tups,u.frzs,u.tbls⟩
   have hok:HOk X.prog X.w H5 s6.heap:=fun b u e=>by
    refine (I6.hok b u e).stay (fun c v hc' q=>kp c v ?_ q) (fun _ q=>q) fun _ _ q=>q
    have hfree:H5 s3.heap.objs.size=none:=I6.free
    rintro rfl
    rcases hc' with z|z
    ·rw [z] at hfree;rw [hfree] at e;cases e
    ·rw [hfree] at z;cases z
   have I7:Inv X pins σ H5 s6:=by
    refine I3.call' (s':=s6) I6.os un hok I6.bare fun b hb=>?_
    obtain ⟨f0,f1,f2',f3',f4,f5⟩:=f3 b hb
    exact ⟨f3',f1,f4,f5⟩
   have hfree:H5 s3.heap.objs.size=none:=I6.free
   obtain ⟨g0,g1,g2,g3,g4,g5⟩:=I3.fpOk (Nat.le_refl _) hfree
   show wpAny (model X.prog X.w) X.A (assign (.Name x0 pos') X.env (.ref s2.heap.objs.size)) _ _ s6
   refine wpAny_assign_Name (store_ok2 I7 hN hi0 hx0 (v:=.ref s2.heap.objs.size) rfl (fun s8 I8 ⟨a,sb,ha⟩=>?_) hf)
   have nea:s3.heap.objs.size≠a:=by
    rcases ha with z|z
    ·rw [z];exact g1
    ·exact fun e=>g4 x0 a z e.symm
   refine ⟨m6,hn6.sameBut sb nea,fun h' sb'=>?_⟩
   exact ⟨_,H5,Inv.turned I8 (t':=s8.toks) (it:=s3.heap.objs.size) (fun b o hb e=>sb'.extBut b o hb e) g0 g1 g3 g4 g5,qn⟩
  ·refine noE (thn (T.item (cxC X N scope cl s3 (upd H2 s2.heap.objs.size (.lst [])) fp) rfl rfl rfl hc i [] s5 σ5 H5 (fun _ _=>False) I5 (fpc fr5) st5 go) fun r s6 ⟨u,hr,h6⟩=>?_)
   subst hr
   refine noE (thn h6 fun _ s7 ⟨x,H7,I7,r7,y7,st7,fr7⟩=>?_)
   obtain ⟨hg,ht,he⟩:=hb cl s3 (upd H2 s2.heap.objs.size (.lst [])) fp
   have I7':=I7.pinned (fpc fr7) (T.obj _ _ st7)
   have back:∀{σ8:St} {H8:Hp} {s8:Shared},Inv (cxC X N scope cl s3 (upd H2 s2.heap.objs.size (.lst [])) fp) ([]++pinsAt fp s7.heap) σ8 H8 s8→tn (i+1) s8.heap∧∀b∈fp,H8 b=none:=fun {σ8 H8 s8} I8=>
    ⟨T.keep _ _ _ st7 fun b hb o e=>(I8.pin (b,o) (List.mem_append_right _ (List.mem_append_right _ (mem_pinsAt hb e)))).1,fun b hb=>by
     obtain ⟨o,e,d⟩:=T.obj _ _ st7 b hb
     exact (I8.pin (b,o) (List.mem_append_right _ (List.mem_append_right _ (mem_pinsAt hb e)))).2.1⟩
   refine noE (thn (hg _ s7 σ5 H7 x u _ I7' r7 (step x H7 y7)) fun _ s8 ⟨σ8,H8,I8,q8⟩=>?_)
   refine noE (thn (ht _ s8 σ8 H8 _ I8 q8) fun b s9 ⟨H9,I9,q9⟩=>?_)
   cases b with
   |false=>
    rw [if_neg Bool.false_ne_true] at q9 ⊢
    obtain ⟨_,m',hm,w9⟩:=q9
    exact ⟨m',hm,i+1,σ8,H9,ys,I9.unpinned,(back I9).1,(back I9).2,w9⟩
   |true=>
    rw [if_pos rfl] at q9 ⊢
    refine noE (thn (he _ s9 σ8 H9 _ I9 q9) fun yv s10 ⟨y,H10,I10,r10,hacc10,hlen,m',hm,w10⟩=>?_)
    refine noE (thn (mt_append _ s10 σ8 H10 (.ref s2.heap.objs.size) [y] (.ref s2.heap.objs.size) [yv] (fun _ H11=>H11=upd H10 s2.heap.objs.size (.lst (ys++[y]))) I10 rfl (.cons r10 .nil) ⟨_,_,_,rfl,rfl,hacc10,hlen,rfl⟩) fun _ s11 ⟨z,H11,I11,_,e11⟩=>?_)
    subst e11
    exact ⟨m',hm,i+1,σ8,_,ys++[y],I11.unpinned,(back I11).1,(back I11).2,w10⟩
 have fin:=codeAny_compStart_list (loop { s3 with heap:=h₁,toks:=s3.toks } rfl) (T.self _ _ _ _ _ st4 (loop { s3 with heap:=h₁,toks:=s3.toks } rfl))
 subst hs3
 exact fin
theorem nJ {X:Cx} {i0:Nat} {x0:Str} {pos' spos:Pos} {elt target iter:Expr} {ifs:List Expr} {scope:Scope} {pos:Pos} {N:List Str} {wi:TI} {g:TG} {tt:TT} {te:TE}
  (hN:X.N.Nodup) (hi0:X.N[i0]?=some x0) (hx0:Loc X.env.scope x0) (C:vW scope N) (hfr:∀y,(y,NameKind.free)∈scope.names→X.env.kindOf y=some .cell∨X.env.kindOf y=some .free) (hc:X.calm=true)
  (hi:VI X target iter wi)
  (hb:∀cl s H fp,VG (cxC X N scope cl s H fp) target g∧VF (cxC X N scope cl s H fp) ifs tt∧VE (cxC X N scope cl s H fp) elt te)
  (hs:∀x,foldedSetIterable iter X.env x=pure x:=by intro _;rfl) (hsw:swapsWith (.ListComp elt [⟨target,iter,ifs,0⟩] scope pos) (some (.Name x0 pos')) spos.line X.env=pure true:=by rfl)
  (hf:X.fn x0=true∨X.env.scope.names.lookup x0=some .local:=by first|exact .inl rfl|exact .inr rfl|assumption) :
  VS X (.Assign [.Name x0 pos'] (.ListComp elt [⟨target,iter,ifs,0⟩] scope pos) spos) (tAsg (gO X scope N wi g tt te) (gName i0)):=
 ⟨aM3 hN hi0 hx0 C hfr hc hi.1 (fun cl s H fp=>⟨(hb cl s H fp).1.1,(hb cl s H fp).2.1.1,(hb cl s H fp).2.2.1⟩) hs hsw hf⟩
section
variable {te:TE} {H:Hp} {Q:VK}
theorem aFc (xs:List V) (Rel:Nat→Hp→V→Prop) (st:∀{i H1 H2 y},Same H1 H2→Rel i H1 y→Rel i H2 y) (su:∀{i H1 D ys zs y},H1 D=some (.lst ys)→Rel i H1 y→Rel i (upd H1 D (.lst zs)) y)
  (σ0:St) (hsz:xs.length≤sizeLine)
  (J:It) (go:∀H' i x,Same H H'→xs[i]?=some x→J.go i H'∧∀y H2,J.yld i H' y H2→H2=H'∧y=x) (stop:∀H',Same H H'→J.stop xs.length H')
  (he:∀(i:Nat) (x:V),xs[i]?=some x→∀H' R l,Same H H'→(∀y H2,Same H' H2→Rel i H2 y→R y H2)→te ((σ0.set 0 l).set 0 (some x)) H' R) (h0:σ0[0]?=some none)
  (q:∀D H' ys,Same H H'→H' D=some (.lst ys)→ys.length=xs.length→(∀(i:Nat) (y:V),ys[i]?=some y→Rel i H' y)→Q (.ref D) H') :
  ∀D,H D=none→∃W:Nat→Nat→St→Hp→List V→Prop,(∃m,W 0 m σ0 (upd H D (.lst [])) []) ∧
   ∀i m σ' H' ys,W i m σ' H' ys→H' D=some (.lst ys)∧((J.stop i H'∧Q (.ref D) H')∨(J.go i H'∧∀x H2,J.yld i H' x H2→gName 0 x σ' H2 fun σ3 H3=>mU σ3 H3 fun b H4=>
    if b=true then te σ3 H4 fun y H5=>H5 D=some (.lst ys)∧ys.length<sizeLine∧∃m',m'<m∧W (i+1) m' σ3 (upd H5 D (.lst (ys++[y]))) (ys++[y]) else H4 D=some (.lst ys)∧∃m',m'<m∧W (i+1) m' σ3 H4 ys)):=by
 intro D hD
 refine ⟨fun i m σ' H' ys=>i≤xs.length∧m=xs.length - i∧(∃l,σ'=σ0.set 0 l)∧Same H H'∧H' D=some (.lst ys)∧ys.length=i∧∀(j:Nat) (y:V),ys[j]?=some y→Rel j H' y,⟨xs.length,Nat.zero_le _,rfl,⟨none,dU h0⟩,aX hD _,upd_same,rfl,fun j y e=>by simp at e⟩,?_⟩
 rintro i m σ' H' ys ⟨hi,rfl,⟨l,rfl⟩,sm,hL,hl,hR⟩
 refine ⟨hL,?_⟩
 by_cases hlt:i<xs.length
 ·right
  obtain ⟨g1,g2⟩:=go H' i xs[i] sm (List.getElem?_eq_getElem hlt)
  refine ⟨g1,fun x H2 hy=>?_⟩
  obtain ⟨rfl,rfl⟩:=g2 x H2 hy
  unfold gName mU
  dsimp only
  rw [if_pos rfl]
  refine he i xs[i] (List.getElem?_eq_getElem hlt) _ _ l sm fun y H3 s3 r3=>⟨s3 _ _ hL,by omega,xs.length - (i+1),by omega,hlt,rfl,⟨some xs[i],?_⟩,?_,upd_same,?_,?_⟩
  ·rw [List.set_set]
  ·intro b o e
   rw [upd_ne (ne_of_none e hD)]
   exact s3 _ _ (sm _ _ e)
  ·rw [List.length_append,List.length_singleton,hl]
  ·intro j z ez
   refine su (s3 _ _ hL) ?_
   by_cases hj:j<ys.length
   ·rw [List.getElem?_append_left hj] at ez
    exact st s3 (hR j z ez)
   ·rw [List.getElem?_append_right (by omega)] at ez
    have hj0:j - ys.length=0:=by
     by_cases z0:j - ys.length=0
     ·exact z0
     ·rw [List.getElem?_eq_none (by simp;omega)] at ez;cases ez
    have hj1:j=i:=by omega
    subst hj1
    rw [hj0] at ez
    cases ez
    exact r3
 ·left
  have e:i=xs.length:=by omega
  subst e
  exact ⟨stop _ sm,q D _ ys sm hL hl hR⟩
end
section
variable {K:PySem.W.Frag}
theorem aO0 {a:Addr} {xs:List V} {H:Hp} (hS:∀H',Same H H'→SqL K H' a xs):∀H' i x,Same H H'→xs[i]?=some x→(Itl K a).go i H'∧∀y H2,(Itl K a).yld i H' y H2→H2=H'∧y=x:=fun H' i x s e=>
 ⟨⟨xs,x,hS H' s,e⟩,fun y H2 hy=>by
  obtain ⟨e1,e2⟩:=hy
  have e3:=e2 xs (hS H' s)
  rw [e] at e3
  cases e3
  exact ⟨e1,rfl⟩⟩
theorem aJ2 {a:Addr} {xs:List V} {H:Hp} (hS:∀H',Same H H'→SqL K H' a xs):∀H',Same H H'→(Itl K a).stop xs.length H':=fun H' s=>⟨xs,hS H' s,Nat.le_refl _⟩
end
section
variable {X:Cx} {K:PySem.W.Frag} {scope:Scope} {N:List Str} {tl te:TE} {σ:L2.St} {H:Hp} {Q:VK}
theorem yJ (Pr:List V→Prop) (Rel:Nat→Hp→V→Prop) (st:∀{i H1 H2 y},Same H1 H2→Rel i H1 y→Rel i H2 y) (su:∀{i H1 D ys zs y},H1 D=some (.lst ys)→Rel i H1 y→Rel i (upd H1 D (.lst zs)) y)
  (σ0:L2.St) (cap:Cap X scope N σ σ0) (h0:σ0[0]?=some none)
  (hw:∀R:VK,(∀D H1 us,Same H H1→H1 D=some (.lst us)→Pr us→R (.ref D) H1)→tl σ H R)
  (hsz:∀us,Pr us→us.length≤sizeLine)
  (he:∀us,Pr us→∀(i:Nat) (x:V),us[i]?=some x→∀H' R l,Same H H'→(∀y H2,Same H' H2→Rel i H2 y→R y H2)→te ((σ0.set 0 l).set 0 (some x)) H' R)
  (q:∀us,Pr us→∀D H' ys,Same H H'→H' D=some (.lst ys)→ys.length=us.length→(∀(i:Nat) (y:V),ys[i]?=some y→Rel i H' y)→Q (.ref D) H') :
  gO X scope N (iList K tl) (gName 0) mU te σ H Q:=
 ⟨σ0,cap,hw _ fun D H1 us s1 g1 p=>⟨D,rfl,⟨us,SqL.of g1⟩,aFc us Rel st su σ0 (hsz us p) (Itl K D) (aO0 fun H' sm=>SqL.of (sm _ _ g1)) (aJ2 fun H' sm=>SqL.of (sm _ _ g1))
  (fun i x ex H' R l sm r=>he us p i x ex H' R l (s1.trans sm) r) h0 fun D2 H' ys sm=>q us p D2 H' ys (s1.trans sm)⟩⟩
end
theorem SqT.vY {K:PySem.W.Frag} {H:Hp} {a D:Addr} {xs ys zs:List V} (hD:H D=some (.lst ys)) (h:SqT K H a xs):SqT K (upd H D (.lst zs)) a xs:=by
 rcases h with (h|⟨o,h⟩)|h
 ·exact .inl (.inl (by rw [upd_ne (ne_of h hD (by intro z;cases z))];exact h))
 ·exact .inl (.inr ⟨o,by rw [upd_ne (ne_of h hD (by intro z;cases z))];exact h⟩)
 ·exact .inr h
end L2
namespace PySem
theorem aDn:∀(ss σ:List Str),(ss.foldl rR σ).length=σ.length+ss.length↔ss.Nodup∧∀k∈ss,k∉σ
 |[],σ=>by simp
 |v::r,σ=>by
  rw [List.foldl_cons,List.length_cons,List.nodup_cons]
  by_cases h:v∈σ
  ·have e:rR σ v=σ:=by unfold rR;rw [if_pos h]
   rw [e]
   have l:=rE r σ
   constructor
   ·intro z;omega
   ·intro z;exact absurd h (z.2 v (by simp))
  ·have e:rR σ v=σ++[v]:=by unfold rR;rw [if_neg h]
   rw [e]
   have ih:=aDn r (σ++[v])
   rw [List.length_append,List.length_singleton] at ih
   rw [show σ.length+(r.length+1)=σ.length+1+r.length by omega,ih]
   constructor
   ·rintro ⟨a,b⟩
    refine ⟨⟨fun z=>(b v z) (by simp),a⟩,fun k hk=>?_⟩
    rcases List.mem_cons.mp hk with rfl|hk
    ·exact h
    ·exact fun z=>b k hk (by simp [z])
   ·rintro ⟨⟨a,b⟩,c⟩
    refine ⟨b,fun k hk z=>?_⟩
    rcases List.mem_append.mp z with z|z
    ·exact c k (by simp [hk]) z
    ·have:k=v:=by simpa using z
     subst this
     exact a hk
theorem aM7 (ss:List Str):(jV ss).length=ss.length↔ss.Nodup:=by
 have h:=aDn ss []
 simp only [List.length_nil,Nat.zero_add,List.not_mem_nil,not_false_eq_true,implies_true,and_true] at h
 exact h
end PySem
namespace My
open PySem PySem.Spec PyProof.Rows L2
def top (i:Nat):Stmt:=PySem.Challenge.pw_shardask_k13_first_and_order.main.body.getD i (.Pass ⟨0,0,0,0⟩)
abbrev oE:Stmt:=top 13
abbrev rH:Stmt:=top 14
abbrev nA:Stmt:=top 15
abbrev fY:Stmt:=top 16
abbrev lB:Stmt:=top 17
abbrev pD:Stmt:=top 18
abbrev rJ:Stmt:=top 19
abbrev oX:Stmt:=top 20
abbrev rC:Stmt:=top 21
abbrev oW:Stmt:=top 33
abbrev qY:Stmt:=top 34
abbrev rB:Stmt:=top 35
abbrev uI:Stmt:=top 36
abbrev uU:Stmt:=top 37
abbrev rY:Stmt:=top 38
abbrev mW:Stmt:=top 39
abbrev lU:Stmt:=top 40
abbrev fC:Stmt:=top 41
abbrev mD:Stmt:=top 42
abbrev oG:Stmt:=top 43
abbrev oZ:Stmt:=top 44
abbrev dY:Stmt:=top 45
abbrev oK:Stmt:=top 47
abbrev iW:Stmt:=top 48
abbrev oO:Stmt:=top 49
abbrev rN:Stmt:=top 50
abbrev rF:Stmt:=top 51
abbrev eZ:Stmt:=top 52
abbrev jN:Stmt:=top 53
abbrev kJ:Stmt:=top 54
abbrev lG:Stmt:=top 55
abbrev eU:Stmt:=top 56
abbrev jH:Stmt:=top 57
abbrev lE:Stmt:=top 58
abbrev dW:Stmt:=top 59
abbrev pC:Stmt:=top 60
abbrev gY:Stmt:=top 61
abbrev lH:Stmt:=top 62
abbrev lO:Stmt:=top 63
abbrev gA:Stmt:=top 64
abbrev rM:Stmt:=top 65
abbrev oN:Stmt:=top 67
abbrev sV:Stmt:=top 68
abbrev aD4:Stmt:=top 69
abbrev yM:Stmt:=top 70
abbrev uX:Stmt:=top 71
abbrev aHm:Stmt:=top 72
abbrev kW:Stmt:=top 73
abbrev lY:Stmt:=top 74
abbrev lQ:Stmt:=top 75
abbrev aCq:Stmt:=top 76
abbrev kI:Stmt:=top 77
abbrev mO:Stmt:=top 78
abbrev rP:Stmt:=top 79
abbrev lC:Stmt:=top 80
abbrev lW:Stmt:=top 81
abbrev dF:Stmt:=top 82
abbrev eN:Stmt:=top 83
abbrev rK:Stmt:=top 84
abbrev aBi:Stmt:=top 85
abbrev mK:Stmt:=top 87
abbrev lM:Stmt:=top 88
abbrev nG:Stmt:=top 89
abbrev kE:Stmt:=top 90
abbrev gR:Stmt:=top 91
abbrev kO:Stmt:=top 92
abbrev lF:Stmt:=top 93
abbrev nH:Stmt:=top 94
abbrev lL:Stmt:=top 95
abbrev jE:Stmt:=top 96
abbrev jB:Stmt:=top 97
abbrev sJ:Stmt:=top 98
abbrev mV:Stmt:=top 99
abbrev lK:Stmt:=top 100
abbrev dI:Stmt:=top 101
abbrev aDh:Stmt:=top 102
structure Txt (w:World) (K:PySem.W.Frag) (mg:Str→Option Value):Prop where
 aPw:mg "abs"=none
 aHx:mg "all"=none
 aNo:mg "any"=none
 aK0:mg "bool"=none
 aJ6:mg "divmod"=none
 aCl:mg "enumerate"=none
 aKz:mg "int"=none
 aZ:mg "isinstance"=none
 cU:mg "len"=none
 vD:mg "list"=none
 aQk:mg "max"=none
 aQl:mg "min"=none
 jC:mg "range"=none
 aGw:mg "reversed"=none
 aPs:mg "set"=none
 iQ:mg "sorted"=none
 aK1:mg "str"=none
 aQj:mg "sum"=none
 cM:mg "tuple"=none
 aLe:mg "zip"=none
 fJ:∃a,mg "QUESTION_WORDS"=some (.ref a)∧∀H,SqT K H a [.str "and",.str "by",.str "count",.str "down",.str "first",.str "group",.str "join",.str "keep",.str "least",.str "most",.str "named",.str "on",.str "sum",.str "table",.str "up",.str "where",.str "with"]
 aIb:∃u,mg "LETTERS"=some u∧RelV (.str "abcdefghijklmnopqrstuvwxyz") u
 vZ:∃u,mg "MOST_LETTERS"=some u∧RelV (.int 8) u
 vI:∃u,mg "MOST_COLUMNS"=some u∧RelV (.int 8) u
 zL:∃a,mg "SIGNS"=some (.ref a)∧∀H,SqT K H a [.str "=",.str "<",.str ">",.str "!"]
 mL:∃a,mg "SUM_WORDS"=some (.ref a)∧∀H,SqT K H a [.str "count",.str "sum",.str "least",.str "most"]
 aFf:∃a,mg "WAYS"=some (.ref a)∧∀H,SqT K H a [.str "up",.str "down"]
 aBy:∃u,mg "MOST_TESTS"=some u∧RelV (.int 3) u
 qL:∃u,mg "MOST_NAMES"=some u∧RelV (.int 8) u
 yX:∃u,mg "MOST_PAIRS"=some u∧RelV (.int 3) u
 aCg:∃u,mg "MOST_SUMS"=some u∧RelV (.int 4) u
 aCe:∃u,mg "MOST_KEYS"=some u∧RelV (.int 3) u
 aDf:∃u,mg "MOST_ROWS"=some u∧RelV (.int 60) u
 aD3:∃u,mg "MOST_SIZE"=some u∧RelV (.int 20) u
 uC:∃d t0 t1 t2 t3 t4 t5 t6:Addr,mg "FORMS"=some (.ref d)∧aNb w K d [("table",t0),("where",t1),("keep",t2),("named",t3),("join",t4),("group",t5),("first",t6)]∧(∃f0:Addr,(∀H,SqT K H t0 [.ref f0])∧mg "is_name"=some (.ref f0))∧(∃f0 f1:Addr,(∀H,SqT K H t1 [.ref f0,.ref f1])∧mg "may_be_question"=some (.ref f0)∧mg "are_tests"=some (.ref f1))∧(∃f0 f1:Addr,(∀H,SqT K H t2 [.ref f0,.ref f1])∧mg "may_be_question"=some (.ref f0)∧mg "are_names"=some (.ref f1))∧(∃f0 f1:Addr,(∀H,SqT K H t3 [.ref f0,.ref f1])∧mg "may_be_question"=some (.ref f0)∧mg "are_names"=some (.ref f1))∧(∃f0 f1 f2:Addr,(∀H,SqT K H t4 [.ref f0,.ref f1,.ref f2])∧mg "may_be_question"=some (.ref f0)∧mg "may_be_question"=some (.ref f1)∧mg "are_pairs"=some (.ref f2))∧(∃f0 f1 f2:Addr,(∀H,SqT K H t5 [.ref f0,.ref f1,.ref f2])∧mg "may_be_question"=some (.ref f0)∧mg "are_group_names"=some (.ref f1)∧mg "are_sums"=some (.ref f2))∧(∃f0 f1 f2:Addr,(∀H,SqT K H t6 [.ref f0,.ref f1,.ref f2])∧mg "may_be_question"=some (.ref f0)∧mg "are_keys"=some (.ref f1)∧mg "is_many"=some (.ref f2))
 iG:∃f o,(∃u,mg "is_name"=some u∧RelV (.ref f) u)∧K.lookup f=some o∧o.cls=.type "function"
 yF:∃f o,(∃u,mg "is_test"=some u∧RelV (.ref f) u)∧K.lookup f=some o∧o.cls=.type "function"
 yG:∃f o,(∃u,mg "is_pair"=some u∧RelV (.ref f) u)∧K.lookup f=some o∧o.cls=.type "function"
 aDy:∃f o,(∃u,mg "is_sum"=some u∧RelV (.ref f) u)∧K.lookup f=some o∧o.cls=.type "function"
 aC2:∃f o,(∃u,mg "is_key"=some u∧RelV (.ref f) u)∧K.lookup f=some o∧o.cls=.type "function"
 aE1:Dn K mg "is_whole" oE ["thing"]
 aIo:Dn K mg "is_word" rH ["thing"]
 aC5:Dn K mg "is_one_of" nA ["thing","texts"]
 xW:Dn K mg "is_tuple_of" fY ["thing","least","most","is_part"]
 aBx:Dn K mg "are_unlike" lB ["names"]
 aFg:Dn K mg "names_of" pD ["head"]
 aIr:Dn K mg "is_name" rJ ["thing"]
 aF4:Dn K mg "is_value" oX ["thing"]
 aJj:Dn K mg "kind_of" rC ["value"]
 aE9:Dn K mg "is_other" oW ["thing"]
 aIz:Dn K mg "is_test" qY ["thing"]
 aJq:Dn K mg "is_pair" rB ["thing"]
 aLr:Dn K mg "is_sum" uI ["thing"]
 aJz:Dn K mg "is_key" uU ["thing"]
 aJs:Dn K mg "is_many" rY ["thing"]
 aCn:Dn K mg "are_tests" mW ["thing"]
 aCt:Dn K mg "are_names" lU ["thing"]
 pQ:Dn K mg "are_group_names" fC ["thing"]
 aB7:Dn K mg "are_pairs" mD ["thing"]
 aFj:Dn K mg "are_sums" oG ["thing"]
 aFu:Dn K mg "are_keys" oZ ["thing"]
 pN:Dn K mg "may_be_question" dY ["thing"]
 aGf:Dn K mg "has_form" oK ["thing"]
 uJ:Dn K mg "questions_in" iW ["question"]
 aGt:Dn K mg "own_size" oO ["question"]
 aIs:Dn K mg "checked" rN ["thing"]
 aI6:Dn K mg "kind_in" rF ["head","name"]
 qP:Dn K mg "need_like_kinds" eZ ["kinds","others"]
 wU:Dn K mg "need_unlike" jN ["names"]
 aBu:Dn K mg "table_head" kJ ["heads","name"]
 yZ:Dn K mg "other_kind" lG ["head","other"]
 zA:Dn K mg "where_head" eU ["head","tests"]
 aDi:Dn K mg "keep_head" jH ["head","names"]
 aA4:Dn K mg "named_head" lE ["head","names"]
 aCj:Dn K mg "join_head" dW ["head","other","pairs"]
 aF3:Dn K mg "sum_kind" pC ["head","part"]
 aAo:Dn K mg "group_head" gY ["head","names","sums"]
 zG:Dn K mg "first_head" lH ["head","keys"]
 aC7:Dn K mg "head_here" lO ["heads","question","inner"]
 nW:Dn K mg "head_within" gA ["heads","question"]
 aIy:Dn K mg "head_of" rM ["heads","question"]
 aGl:Dn K mg "place_of" oN ["head","name"]
 aNy:Dn K mg "places_of" sV ["head","names"]
 aPk:Dn K mg "picked" aD4 ["row","places"]
 aPc:Dn K mg "rows_by" yM ["rows","places"]
 aOk:Dn K mg "compares" uX ["value","sign","other"]
 aP5:Dn K mg "holds" aHm ["head","row","test"]
 zN:Dn K mg "where_rows" kW ["head","rows","tests"]
 aEd:Dn K mg "keep_rows" lY ["head","rows","names"]
 aEm:Dn K mg "join_rows" lQ ["head","rows","other_head","other_rows","pairs"]
 aPq:Dn K mg "summed" aCq ["head","rows","part"]
 aBs:Dn K mg "group_rows" kI ["head","rows","names","sums"]
 aEn:Dn K mg "sorted_by" mO ["rows","place","way"]
 aJi:Dn K mg "ordered" rP ["head","rows","keys"]
 aAy:Dn K mg "first_rows" lC ["head","rows","keys","many"]
 aDq:Dn K mg "rows_here" lW ["question","heads","rows"]
 nU:Dn K mg "rows_within" dF ["heads","tables","question"]
 pF:Dn K mg "in_answer_order" eN ["head","rows","question"]
 aJo:Dn K mg "rows_of" rK ["heads","tables","question"]
 aMg:Dn K mg "whole" aBi ["heads","tables","question"]
 aC0:Dn K mg "_law_seed" mK ["_law_script"]
 aAd:Dn K mg "_law_begin" lM ["_law_script"]
 aDg:Dn K mg "_law_next" nG ["_law_state","_law_many"]
 aBt:Dn K mg "_law_words" kE []
 aA5:Dn K mg "_law_names" gR ["_law_state","_law_many"]
 aA1:Dn K mg "_law_great" kO ["_law_state"]
 zE:Dn K mg "_law_value" lF ["_law_state","_law_kind"]
 aCx:Dn K mg "_law_head" nH ["_law_state","_law_names_here"]
 aGq:Dn K mg "_law_row" lL ["_law_state","_law_head_here"]
 aDl:Dn K mg "_law_some" jE ["_law_state","_law_head_here","_law_least"]
 aDp:Dn K mg "_law_keys" jB ["_law_state","_law_head_here"]
 aIj:Dn K mg "_law_at" sJ ["_law_head_here","_law_name"]
 aC8:Dn K mg "_law_same" mV ["_law_found","_law_due"]
 aBg:Dn K mg "_law_ahead" lK ["_law_head_here","_law_one","_law_other","_law_keys_here"]
 tK:Dn K mg "_law_in_order" dI ["_law_head_here","_law_rows","_law_found","_law_keys_here"]
 aPj:Dn K mg "law" aDh ["_law_script"]
abbrev abc:Str:="abcdefghijklmnopqrstuvwxyz"
abbrev words:List V:=[.str "and",.str "by",.str "count",.str "down",.str "first",.str "group",.str "join",.str "keep",.str "least",.str "most",.str "named",.str "on",.str "sum",.str "table",.str "up",.str "where",.str "with"]
def Th (K:PySem.W.Frag) (H:Hp) (v:V):Prop:=(∃x,v=.str x∧x.length≤1000)∨(∃i,v=.int i)∨(∃b,v=.bl b)∨∃k,Rk K H v k
theorem Th.same {K:PySem.W.Frag} {H H':Hp} {v:V} (e:Same H H') (h:Th K H v):Th K H' v:=by
 rcases h with h|h|h|⟨k,h⟩
 ·exact .inl h
 ·exact .inr (.inl h)
 ·exact .inr (.inr (.inl h))
 ·exact .inr (.inr (.inr ⟨k,h.same e⟩))
def aMf:V→String→Bool
 |.int _,T=>T == "int"
 |.str _,T=>T == "str"
 |.bl _,T=>T == "int" || T == "bool"
 |_,_=>false
def isS:V→Bool
 |.str _=>true
 |_=>false
def whole:V→Bool
 |.int _=>true
 |_=>false
theorem qR {K:PySem.W.Frag} {H:Hp} {v:V} {T:String} {Q:VK} (hv:Th K H v) (hT:T = "int"∨T = "bool"∨T = "str") (q:Q (.bl (aMf v T)) H):aPo [v,.ty T] H Q∨aN0 K [v,.ty T] H Q:=by
 rcases hv with ⟨x,rfl,_⟩|⟨i,rfl⟩|⟨b,rfl⟩|⟨k,h⟩
 ·refine .inl ⟨_,_,_,rfl,?_,q⟩
  rcases hT with rfl|rfl|rfl <;> simp [aE0,aMf]
 ·refine .inl ⟨_,_,_,rfl,?_,q⟩
  rcases hT with rfl|rfl|rfl <;> simp [aE0,aMf]
 ·refine .inl ⟨_,_,_,rfl,?_,q⟩
  rcases hT with rfl|rfl|rfl <;> simp [aE0,aMf]
 ·refine .inr ⟨_,_,_,rfl,h,hT,?_⟩
  cases h <;> exact q
def inA (y:Str):Bool:=!(Builtin.Str.occurrences abc y 0 abc.length 1).isEmpty
def allIn (x:Str):Bool:=((List.range x.cps.size).map fun i=>inA (sgn x i)).all id
def lV (l:Nat):V→Bool
 |.str x=>decide (l≤x.length) && (decide (x.length≤8) && allIn x)
 |_=>false
def nameB (v:V):Bool:=lV 1 v && !inV v words
def aJk (v:V):Bool:=whole v || lV 0 v
def qQ (K:PySem.W.Frag):Sp:=fun vs H Q _=>∃v,vs=[v]∧Th K H v∧Q (.bl (whole v)) H
def vV (K:PySem.W.Frag) (f:V→Bool):Sp:=fun vs H Q _=>∃v,vs=[v]∧Th K H v∧∀H',Same H H'→Q (.bl (f v)) H'
def aH0 (K:PySem.W.Frag):Sp:=fun vs H Q _=>∃v,vs=[v]∧Th K H v∧Q (.str (if whole v then "number" else "word")) H
def sp_law (K:PySem.W.Frag):Sp:=fun vs H Q _=>∃(a:Addr) (ns:List Int),vs=[.ref a]∧SqL K H a (ns.map V.int)∧ns.length≤63∧∀H',Q (.bl true) H'
theorem aPb {K:PySem.W.Frag} {H:Hp} {a:Addr} {ns:List Int} (h:ns.length≤63) (hS:SqL K H a (ns.map V.int)):sp_law K [.ref a] H (fun v _=>v=.bl true) fun _ _ _=>False:=
 ⟨a,ns,rfl,hS,h,fun _=>rfl⟩
theorem aCu:FnScope ["thing"] ["thing"] (defScope oE):=by trivial
theorem aFh:FnScope ["thing"] ["thing"] (defScope rH):=by trivial
theorem zX:FnScope ["thing","texts"] ["thing","texts"] (defScope nA):=by trivial
theorem vN:FnScope ["thing","least","most","is_part"] ["thing","least","most","is_part"] (defScope fY):=by trivial
theorem wN:FnScope ["names"] ["names"] (defScope lB):=by trivial
theorem aB9:FnScope ["head"] ["head"] (defScope pD):=by trivial
theorem aEw:FnScope ["thing"] ["thing"] (defScope rJ):=by trivial
theorem aEh:FnScope ["thing"] ["thing"] (defScope oX):=by trivial
theorem aGc:FnScope ["value"] ["value"] (defScope rC):=by trivial
theorem aC1:FnScope ["thing"] ["thing"] (defScope oW):=by trivial
theorem aE3:FnScope ["thing"] ["thing"] (defScope qY):=by trivial
theorem aGu:FnScope ["thing"] ["thing"] (defScope rB):=by trivial
theorem aIw:FnScope ["thing"] ["thing"] (defScope uI):=by trivial
theorem aIm:FnScope ["thing"] ["thing"] (defScope uU):=by trivial
theorem aGv:FnScope ["thing"] ["thing"] (defScope rY):=by trivial
theorem aA2:FnScope ["thing"] ["thing"] (defScope mW):=by trivial
theorem aBj:FnScope ["thing"] ["thing"] (defScope lU):=by trivial
theorem oH:FnScope ["thing"] ["thing"] (defScope fC):=by trivial
theorem aB0:FnScope ["thing"] ["thing"] (defScope mD):=by trivial
theorem aD8:FnScope ["thing"] ["thing"] (defScope oG):=by trivial
theorem aCy:FnScope ["thing"] ["thing"] (defScope oZ):=by trivial
theorem oJ:FnScope ["thing"] ["thing"] (defScope dY):=by trivial
theorem tH:FnScope ["thing","form"] ["thing"] (defScope oK):=by trivial
theorem tL:FnScope ["question"] ["question"] (defScope iW):=by trivial
theorem aCr:FnScope ["question"] ["question"] (defScope oO):=by trivial
theorem iT:FnScope ["thing","size","waiting","part"] ["thing"] (defScope rN):=by trivial
theorem vC:FnScope ["head","name","column"] ["head","name"] (defScope rF):=by trivial
theorem pA:FnScope ["kinds","others"] ["kinds","others"] (defScope eZ):=by trivial
theorem vQ:FnScope ["names"] ["names"] (defScope jN):=by trivial
theorem wK:FnScope ["heads","name"] ["heads","name"] (defScope kJ):=by trivial
theorem wX:FnScope ["head","other"] ["head","other"] (defScope lG):=by trivial
theorem wJ:FnScope ["head","tests"] ["head","tests"] (defScope eU):=by trivial
theorem aBw:FnScope ["head","names"] ["head","names"] (defScope jH):=by trivial
theorem wR:FnScope ["head","names"] ["head","names"] (defScope lE):=by trivial
theorem jY:FnScope ["head","other","pairs","here","there"] ["head","other","pairs"] (defScope dW):=by trivial
theorem aC6:FnScope ["head","part"] ["head","part"] (defScope pC):=by trivial
theorem dC:FnScope ["head","names","sums","kept","made","part","column"] ["head","names","sums"] (defScope gY):=by trivial
theorem oA:FnScope ["head","keys","names"] ["head","keys"] (defScope lH):=by trivial
theorem pP:FnScope ["heads","question","inner","sort"] ["heads","question","inner"] (defScope lO):=by trivial
theorem eX:FnScope ["heads","question","inner","head"] ["heads","question"] (defScope gA):=by trivial
theorem aFv:FnScope ["heads","question"] ["heads","question"] (defScope rM):=by trivial
theorem aEs:FnScope ["head","name"] ["head","name"] (defScope oN):=by trivial
theorem xV:FnScope ["head","rows","tests"] ["head","rows","tests"] (defScope kW):=by trivial
theorem zP:FnScope ["head","rows","names","places"] ["head","rows","names"] (defScope lY):=by trivial
theorem aBb:FnScope ["head","rows","other_head","other_rows","pairs","here","there","left_over","lots","joined","row","other"] ["head","rows","other_head","other_rows","pairs"] (defScope lQ):=by trivial
theorem wH:FnScope ["head","rows","names","sums","lots"] ["head","rows","names","sums"] (defScope kI):=by trivial
theorem aAa:FnScope ["rows","place","way"] ["rows","place","way"] (defScope mO):=by trivial
theorem lA:FnScope ["head","rows","keys","told","key"] ["head","rows","keys"] (defScope rP):=by trivial
theorem wW:FnScope ["head","rows","keys","many"] ["head","rows","keys","many"] (defScope lC):=by trivial
theorem qO:FnScope ["question","heads","rows","sort"] ["question","heads","rows"] (defScope lW):=by trivial
theorem fB:FnScope ["heads","tables","question","inner","rows"] ["heads","tables","question"] (defScope dF):=by trivial
theorem oR:FnScope ["head","rows","question"] ["head","rows","question"] (defScope eN):=by trivial
theorem aFy:FnScope ["heads","tables","question"] ["heads","tables","question"] (defScope rK):=by trivial
theorem aEf:FnScope ["heads","tables","question","head"] ["heads","tables","question"] (defScope aBi):=by trivial
theorem eY:FnScope ["_law_script","_law_seed_here","_law_k","_law_cell"] ["_law_script"] (defScope mK):=by trivial
theorem jQ:FnScope ["_law_script","_law_digits"] ["_law_script"] (defScope lM):=by trivial
theorem qJ:FnScope ["_law_state","_law_many","_law_digit"] ["_law_state","_law_many"] (defScope nG):=by trivial
theorem nY:FnScope ["_law_words_here"] [] (defScope kE):=by trivial
theorem bI:FnScope ["_law_state","_law_many","_law_small","_law_odd","_law_base","_law_k","_law_at_here","_law_names_here"] ["_law_state","_law_many"] (defScope gR):=by trivial
theorem gC:FnScope ["_law_state","_law_number","_law_k"] ["_law_state"] (defScope kO):=by trivial
theorem dB:FnScope ["_law_state","_law_kind","_law_way","_law_word","_law_k"] ["_law_state","_law_kind"] (defScope lF):=by trivial
theorem eQ:FnScope ["_law_state","_law_names_here","_law_start","_law_head_here","_law_k","_law_kind"] ["_law_state","_law_names_here"] (defScope nH):=by trivial
theorem aCd:FnScope ["_law_state","_law_head_here"] ["_law_state","_law_head_here"] (defScope lL):=by trivial
theorem lJ:FnScope ["_law_state","_law_head_here","_law_least","_law_some_here"] ["_law_state","_law_head_here","_law_least"] (defScope jE):=by trivial
theorem pY:FnScope ["_law_state","_law_head_here","_law_some_here"] ["_law_state","_law_head_here"] (defScope jB):=by trivial
theorem aF1:FnScope ["_law_head_here","_law_name"] ["_law_head_here","_law_name"] (defScope sJ):=by trivial
theorem pO:FnScope ["_law_found","_law_due","_law_k"] ["_law_found","_law_due"] (defScope mV):=by trivial
theorem fZ:FnScope ["_law_head_here","_law_one","_law_other","_law_keys_here","_law_name","_law_way","_law_spot"] ["_law_head_here","_law_one","_law_other","_law_keys_here"] (defScope lK):=by trivial
theorem sI:FnScope ["_law_head_here","_law_rows","_law_found","_law_keys_here"] ["_law_head_here","_law_rows","_law_found","_law_keys_here"] (defScope dI):=by trivial
theorem eV:FnScope ["_law_script","_law_state","_law_names_here","_law_head_here","_law_rows","_law_keys_here","_law_many","_law_handed","_law_found","_law_heads","_law_tables","_law_question","_law_those"] ["_law_script"] (defScope aDh):=by trivial
section
variable {P:Program} {w:World} {K:PySem.W.Frag} {mg:Str→Option Value} {base:Heap}
theorem aEi (T:Txt w K mg):Ok P w K mg base 1 "is_whole" ["thing"] (qQ K):=by
 refine Ok.ofV T.aE1 aCu (fun vs H Q E h=>?_) (fun f cdv A outer s H vs Q E hr h=>?_)
 ·obtain ⟨v,rfl,_⟩:=h;rfl
 obtain ⟨v,rfl,hv,q⟩:=h
 refine ⟨_,(aF (aG (jM (aK (mC.or nM) (by rfl) T.aZ aY (aB (vv 0) (aB (cH (v:=.ty "int") (by rfl) T.aKz aGz rfl) aA))) (jK (aLj (aK (mC.or nM) (by rfl) T.aZ aY (aB (vv 0) (aB (cH (v:=.ty "bool") (by rfl) T.aK0 aH5 rfl) aA)))))))),?_⟩
 refine ⟨_,rfl,qR hv (.inl rfl) ⟨_,rfl,?_⟩⟩
 rcases id hv with ⟨x,rfl,_⟩|⟨i,rfl⟩|⟨b,rfl⟩|⟨k,h⟩
 ·exact iteF q
 ·exact iteT ⟨_,rfl,qR hv (.inr (.inl rfl)) ⟨_,rfl,q⟩⟩
 ·exact iteT ⟨_,rfl,qR hv (.inr (.inl rfl)) ⟨_,rfl,q⟩⟩
 ·cases h <;> exact iteF q
theorem aKd (x:Str):(((List.range x.cps.size).map fun i=>V.str (sgn x i)).map fun v=>match v with|.str y=>V.bl (inA y)|_=>.bl false)=(((List.range x.cps.size).map fun i=>inA (sgn x i)).map V.bl):=by
 rw [List.map_map,List.map_map]
 rfl
theorem aF9 (T:Txt w K mg):Ok P w K mg base 1 "is_word" ["thing"] (vV K (lV 0)):=by
 refine Ok.ofV T.aIo aFh (fun vs H Q E h=>?_) (fun f cdv A outer s H vs Q E hr h=>?_)
 ·obtain ⟨v,rfl,_⟩:=h;rfl
 obtain ⟨v,rfl,hv,q⟩:=h
 refine ⟨_,(aD (bB (VW.pt (jD (cJ (cA (aK (mC.or nM) (by rfl) T.aZ aY (aB (vv 0) (aB (cH (v:=.ty "str") (by rfl) T.aK1 aFm rfl) aA))))) (fX (aO op_gt (aK call_len_str (by rfl) T.cU bY (aB (vv 0) aA)) (cQ (by rfl) T.vZ) (nomark _))))) (aF (aG fH)) aN) (aF (aG (aK (pR rfl) (by rfl) T.aHx aBo (aB (bM (N:=["sign"]) (by trivial) (eF (by decide +kernel)) rfl (aO1 (vv 0)) (fun cl s' H' fp=>⟨(aQ (i:=0) (show (["sign"]:List Str).Nodup from by decide +kernel) rfl (Or.inl rfl)),bN,(cW op_in_str (vv 0) (cQ (by rfl) T.aIb) (by with_unfolding_all rfl))⟩)) aA))))),?_⟩
 refine ⟨_,rfl,qR hv (.inr (.inr rfl)) ⟨_,rfl,?_⟩⟩
 have no:isS v=false→Q (.bl false) H:=fun e=>by
  have z:lV 0 v=false:=by cases v <;> first|rfl|cases e
  rw [←z];exact q H (Same.refl H)
 rcases id hv with ⟨x,rfl,hx⟩|⟨i,rfl⟩|⟨b,rfl⟩|⟨k,h⟩
 ·refine iteF ⟨_,rfl,_,rfl,small hx,_,_,rfl,rfl,_,rfl,?_⟩
  refine ite2 (fun c=>?_) (fun c=>?_)
  ·have c':(8:Int)<x.length:=of_decide_eq_true c
   have z:lV 0 (.str x)=false:=by
    show (decide (0≤x.length) && (decide (x.length≤8) && allIn x))=false
    rw [decide_eq_false (p:=x.length≤8) (by omega)]
    simp
   rw [←z];exact q H (Same.refl H)
  ·have c':¬ (8:Int)<x.length:=of_decide_eq_false (Bool.eq_false_iff.mpr c)
   dsimp only [tNext,tRet,tCB,tCons]
   refine aI9 ((List.range x.cps.size).map fun i=>V.str (sgn x i)) (fun v=>match v with|.str y=>V.bl (inA y)|_=>.bl false) [none] iI ?_
    (fun R r=>aOa (z:=x) (fun R' r'=>⟨_,rfl,r'⟩) R r) (fun v hv' H' R l sm r=>?_) rfl fun D hD=>?_
   ·rw [List.length_map,List.length_range];exact small hx
   ·obtain ⟨i,_,rfl⟩:=List.mem_map.mp hv'
    exact ⟨_,rfl,_,_,rfl,rfl,r⟩
   ·refine ⟨D,(List.range x.cps.size).map fun i=>inA (sgn x i),rfl,SqL.of (by rw [upd_same,aKd]),?_⟩
    have z:lV 0 (.str x)=allIn x:=by
     show (decide (0≤x.length) && (decide (x.length≤8) && allIn x))=allIn x
     rw [decide_eq_true (p:=x.length≤8) (by omega)]
     simp
    show Q (.bl (allIn x)) _
    rw [←z]
    exact q _ (aX hD _)
 ·exact iteT (no rfl)
 ·exact iteT (no rfl)
 ·cases h <;> exact iteT (no rfl)
theorem tZ {v:V} {l:Nat} (h:lV l v=true):∃x,v=.str x∧l≤x.length∧x.length≤8∧allIn x=true:=by
 cases v with
 |str x=>
  have h:(decide (l≤x.length) && (decide (x.length≤8) && allIn x))=true:=h
  rw [Bool.and_eq_true,Bool.and_eq_true] at h
  exact ⟨x,rfl,of_decide_eq_true h.1,of_decide_eq_true h.2.1,h.2.2⟩
 |_=>cases h
theorem yL {x:Str}:x=("":Str)↔x.length=0:=by
 constructor
 ·rintro rfl;decide +kernel
 ·intro h
  obtain ⟨cps⟩:=x
  have h:cps.size=0:=h
  rw [Array.size_eq_zero_iff] at h
  subst h
  decide +kernel
theorem uM:words.all flatV=true:=rfl
theorem aFp (T:Txt w K mg) (rA:Ok P w K mg base 1 "is_word" ["thing"] (vV K (lV 0))):Ok P w K mg base 2 "is_name" ["thing"] (vV K nameB):=by
 refine Ok.ofV T.aIr aEw (fun vs H Q E h=>?_) (fun f cdv A outer s H vs Q E hr h=>?_)
 ·obtain ⟨v,rfl,_⟩:=h;rfl
 obtain ⟨v,rfl,hv,q⟩:=h
 obtain ⟨qa,mq,hqa⟩:=T.fJ
 have fJ:∃u,mg "QUESTION_WORDS"=some u∧RelV (.ref qa) u:=⟨_,mq,rfl⟩
 refine ⟨_,(aF (aG (jM (aH (rA.mono (by decide)) hr (by rfl) (aB (vv 0) aA)) (jM (cW op_ne (vv 0) aP (nomark _)) (jK (cW op_notIn_seq (vv 0) (cQ (by rfl) fJ) (by with_unfolding_all rfl))))))),?_⟩
 refine ⟨_,rfl,_,rfl,hv,fun H1 s1=>⟨_,rfl,?_⟩⟩
 refine ite2 (fun c=>?_) (fun c=>?_)
 ·obtain ⟨x,rfl,_,h8,ha⟩:=tZ c
  refine ⟨_,rfl,rfl,_,rfl,?_⟩
  by_cases e:x.length=0
  ·have ex:=yL.mpr e
   subst ex
   refine iteF ?_
   have z:nameB (.str "")=false:=by decide +kernel
   rw [←z];exact q H1 s1
  ·have ne:¬ (V.str x=V.str ""):=fun z=>e (yL.mp (V.str.inj z))
   have e2:(!decide (V.str x=V.str ""))=true:=by rw [decide_eq_false ne];rfl
   rw [e2]
   refine iteT ⟨_,rfl,qa,words,rfl,.inr (hqa _),rfl,uM,?_⟩
   have z:nameB (.str x)=!inV (.str x) words:=by
    show ((decide (1≤x.length) && (decide (x.length≤8) && allIn x)) && !inV (.str x) words)=!inV (.str x) words
    rw [decide_eq_true (p:=1≤x.length) (by omega),decide_eq_true h8,ha]
    rfl
   show Q (.bl (!inV (.str x) words)) H1
   rw [←z];exact q H1 s1
 ·have z:nameB v=false:=by
   show (lV 1 v && !inV v words)=false
   cases hv1:lV 1 v with
   |false=>rfl
   |true=>
    obtain ⟨x,rfl,h1,h8,ha⟩:=tZ hv1
    refine absurd ?_ c
    show (decide (0≤x.length) && (decide (x.length≤8) && allIn x))=true
    rw [decide_eq_true h8,ha,decide_eq_true (Nat.zero_le _)]
    rfl
  rw [←z];exact q H1 s1
theorem aCc (T:Txt w K mg) (iY:Ok P w K mg base 1 "is_whole" ["thing"] (qQ K)) (rA:Ok P w K mg base 1 "is_word" ["thing"] (vV K (lV 0))) :
  Ok P w K mg base 2 "is_value" ["thing"] (vV K aJk):=by
 refine Ok.ofV T.aF4 aEh (fun vs H Q E h=>?_) (fun f cdv A outer s H vs Q E hr h=>?_)
 ·obtain ⟨v,rfl,_⟩:=h;rfl
 obtain ⟨v,rfl,hv,q⟩:=h
 refine ⟨_,(aF (aG (aNt (aH (iY.mono (by decide)) hr (by rfl) (aB (vv 0) aA)) (jK (aH (rA.mono (by decide)) hr (by rfl) (aB (vv 0) aA)))))),?_⟩
 refine ⟨_,rfl,_,rfl,hv,_,rfl,?_⟩
 cases hw:whole v with
 |true=>
  refine iteT ?_
  have z:aJk v=true:=by show (whole v || lV 0 v)=true;rw [hw];rfl
  rw [←z];exact q H (Same.refl H)
 |false=>
  refine iteF ⟨_,rfl,_,rfl,hv,fun H1 s1=>?_⟩
  have z:aJk v=lV 0 v:=by show (whole v || lV 0 v)=lV 0 v;rw [hw];rfl
  rw [←z];exact q H1 s1
theorem aGx (T:Txt w K mg) (iY:Ok P w K mg base 1 "is_whole" ["thing"] (qQ K)):Ok P w K mg base 2 "kind_of" ["value"] (aH0 K):=by
 refine Ok.ofV T.aJj aGc (fun vs H Q E h=>?_) (fun f cdv A outer s H vs Q E hr h=>?_)
 ·obtain ⟨v,rfl,_⟩:=h;rfl
 obtain ⟨v,rfl,hv,q⟩:=h
 refine ⟨_,(aF (aG (iK (cA (aH (iY.mono (by decide)) hr (by rfl) (aB (vv 0) aA))) aP aP))),?_⟩
 refine ⟨_,rfl,_,rfl,hv,_,rfl,?_⟩
 cases hw:whole v with
 |true=>rw [hw] at q;exact iteT q
 |false=>rw [hw] at q;exact iteF q
theorem at0 (x:V) (r:List V):atI (x::r) 0=some x:=by
 unfold atI ixN
 simp
theorem at1 (x y:V) (r:List V):atI (x::y::r) 1=some y:=by
 unfold atI ixN
 simp only [List.length_cons]
 rw [if_pos (by omega),if_pos (by omega)]
 rfl
structure Tells (R:Hp→V→Bool→Prop):Prop where
 same:∀{H H' v b},Same H H'→R H v b→R H' v b
def dN (R:Hp→V→Bool→Prop):Sp:=fun vs H Q _=>∃v b,vs=[v]∧R H v b∧∀H',Same H H'→Q (.bl b) H'
inductive yC (K:PySem.W.Frag) (R:Hp→V→Bool→Prop) (lo hi:Nat) (H:Hp):V→Bool→Prop
 |no {v}:Tk K H v false→yC K R lo hi H v false
 |len {a xs}:SqT K H a xs→¬ (lo≤xs.length∧xs.length≤hi)→yC K R lo hi H (.ref a) false
 |yes {a xs} (f:V→Bool):SqT K H a xs→lo≤xs.length→xs.length≤hi→(∀x∈xs,R H x (f x))→yC K R lo hi H (.ref a) (xs.all f)
def rG (K:PySem.W.Frag):Sp:=fun vs H Q _=>∃v a xs,vs=[v,.ref a]∧Th K H v∧SqT K H a xs∧xs.all flatV=true∧Q (.bl (isS v && inV v xs)) H
def gH (P:Program) (w:World) (K:PySem.W.Frag) (mg:Str→Option Value) (base:Heap) (k:Nat):Sp:=fun vs H Q _=>∃v lo hi f ps R b,vs=[v,.int (lo:Nat),.int (hi:Nat),.ref f]∧hi≤1000∧Held P w K mg base k f ps (dN R)∧Tells R∧yC K R lo hi H v b∧∀H',Same H H'→Q (.bl b) H'
def yV (K:PySem.W.Frag):Sp:=fun vs H Q _=>∃a ss,vs=[.ref a]∧SqL K H a (ss.map V.str)∧ss.length≤1000∧∀H',Same H H'→Q (.bl (decide ((jV ss).length=ss.length))) H'
theorem aAx (T:Txt w K mg):Ok P w K mg base 1 "is_one_of" ["thing","texts"] (rG K):=by
 refine Ok.ofV T.aC5 zX (fun vs H Q E h=>?_) (fun f cdv A outer s H vs Q E hr h=>?_)
 ·obtain ⟨v,a,xs,rfl,_⟩:=h;rfl
 obtain ⟨v,a,xs,rfl,hv,ha,hf,q⟩:=h
 refine ⟨_,(aF (aG (jM (aK (mC.or nM) (by rfl) T.aZ aY (aB (vv 0) (aB (cH (v:=.ty "str") (by rfl) T.aK1 aFm rfl) aA))) (jK (cW op_in_seq (vv 0) (vv 1) (by with_unfolding_all rfl)))))),?_⟩
 refine ⟨_,rfl,qR hv (.inr (.inr rfl)) ⟨_,rfl,?_⟩⟩
 rcases id hv with ⟨x,rfl,_⟩|⟨i,rfl⟩|⟨b,rfl⟩|⟨k,h⟩
 ·exact iteT ⟨_,rfl,_,rfl,a,xs,rfl,.inr ha,rfl,hf,q⟩
 ·exact iteF q
 ·exact iteF q
 ·cases h <;> exact iteF q
theorem bW {k:Nat} (T:Txt w K mg):Ok P w K mg base (k+1) "is_tuple_of" ["thing","least","most","is_part"] (gH P w K mg base k):=by
 refine Ok.ofV T.xW vN (fun vs H Q E h=>?_) (fun f cdv A outer s H vs Q E hr h=>?_)
 ·obtain ⟨v,lo,hi,f,ps,R,b,rfl,_⟩:=h;rfl
 obtain ⟨v,lo,hi,g,ps,R,b,rfl,h1000,hg,hR,hv,q⟩:=h
 refine ⟨_,(aD (bB (VW.pt (jD (cJ (cA (aK fU (by rfl) T.aZ aY (aB (vv 0) (aB (cH (v:=.ty "tuple") (by rfl) T.cM bV rfl) aA))))) (fX (cJ (aDb op_le op_le (vv 1) (aK call_len_seq (by rfl) T.cU bY (aB (vv 0) aA)) (vv 2)))))) (aF (aG fH)) aN) (aF (aG (aK (pR rfl) (by rfl) T.aHx aBo (aB (bM (N:=["part","is_part"]) (by trivial) (cR (defScope fY) rfl (by decide +kernel)) rfl (dO (vv 0)) (fun cl s' H' fp=>⟨(aQ (i:=0) (show (["part","is_part"]:List Str).Nodup from by decide +kernel) rfl (Or.inl rfl)),bN,(aB5 (P:=P) (w:=w) (K:=K) (mg:=mg) (base:=base) hr (vv 1) (aB (vv 0) aA))⟩)) aA))))),?_⟩
 cases hv with
 |no h=>
  exact ⟨_,rfl,_,_,rfl,h,_,rfl,iteT (q H (Same.refl H))⟩
 |@len a xs ha hn=>
  refine ⟨_,rfl,_,_,rfl,.tup ha,_,rfl,iteF ?_⟩
  refine ⟨_,rfl,_,rfl,_,_,rfl,.inr ha,_,_,rfl,rfl,_,rfl,?_⟩
  refine ite2 (fun c=>⟨_,rfl,_,_,rfl,rfl,_,rfl,?_⟩) (fun c=>⟨_,rfl,iteT (q H (Same.refl H))⟩)
  have c':(lo:Int)≤xs.length:=of_decide_eq_true c
  have e:decide ((xs.length:Int)≤(hi:Int))=false:=decide_eq_false fun z=>hn ⟨by omega,by omega⟩
  rw [e]
  exact iteT (q H (Same.refl H))
 |@yes a xs t ha h1 h2 hx=>
  refine ⟨_,rfl,_,_,rfl,.tup ha,_,rfl,iteF ?_⟩
  refine ⟨_,rfl,_,rfl,_,_,rfl,.inr ha,_,_,rfl,rfl,_,rfl,?_⟩
  have e1:decide ((lo:Int)≤(xs.length:Int))=true:=decide_eq_true (by omega)
  have e2:decide ((xs.length:Int)≤(hi:Int))=true:=decide_eq_true (by omega)
  rw [e1]
  refine iteT ⟨_,rfl,_,_,rfl,rfl,_,rfl,?_⟩
  rw [e2]
  refine iteF ?_
  dsimp only [tNext,tRet,tCB,tCons]
  refine aIn xs (fun x=>.bl (t x)) [none,some (.ref g)] ?_ (small (by omega)) (fun R r=>iJ ha (fun R' r'=>⟨_,rfl,r'⟩) R r) (fun x hx' H' R l sm r=>?_) rfl fun D H' sm hD=>?_
  ·exact dM 3 (by decide +kernel) rfl rfl (by trivial)
  ·exact ⟨_,rfl,g,ps,_,rfl,hg,_,rfl,x,t x,rfl,hR.same sm (hx x hx'),r⟩
  ·refine ⟨D,xs.map t,rfl,SqL.of (by rw [hD,List.map_map];rfl),?_⟩
   rw [List.all_map]
   exact q H' sm
theorem xO (T:Txt w K mg):Ok P w K mg base 1 "are_unlike" ["names"] (yV K):=by
 refine Ok.ofV T.aBx wN (fun vs H Q E h=>?_) (fun f cdv A outer s H vs Q E hr h=>?_)
 ·obtain ⟨a,ss,rfl,_⟩:=h;rfl
 obtain ⟨a,ss,rfl,ha,hl,q⟩:=h
 refine ⟨_,(aF (aG (cW op_eq (aK aEt (by rfl) T.cU bY (aB (bR (aFw rfl) (by rfl) T.aPs aOq (aB (vv 0) aA)) aA)) (aK call_len_seq (by rfl) T.cU bY (aB (vv 0) aA)) (nomark _)))),?_⟩
 refine ⟨_,rfl,a,ss,rfl,ha,hl,fun D hD=>⟨D,ss,rfl,upd_same,_,rfl,a,_,rfl,.inl ((aX hD _).seq ha),rfl,?_⟩⟩
 have e:decide (V.int ((jV ss).length:Nat)=V.int (ss.map V.str).length)=decide ((jV ss).length=ss.length):=by
  rw [List.length_map]
  by_cases z:(jV ss).length=ss.length
  ·rw [z];simp
  ·rw [decide_eq_false z,decide_eq_false (by intro y;apply z;have:=V.int.inj y;omega)]
 rw [e]
 exact q _ (aX hD _)
theorem at2 (x y z:V) (r:List V):atI (x::y::z::r) 2=some z:=by
 unfold atI ixN
 simp only [List.length_cons]
 rw [if_pos (by omega),if_pos (by omega)]
 rfl
theorem jO {K:PySem.W.Frag} {H:Hp} {x:Str} (h:x.length≤8):Th K H (.str x):=.inl ⟨x,rfl,by omega⟩
def Nm (x:Str):Prop:=nameB (.str x)=true
theorem aKc {x:Str} (h:nameB (.str x)=true):x.length≤8:=by
 have h:(lV 1 (.str x) && !inV (.str x) words)=true:=h
 rw [Bool.and_eq_true] at h
 obtain ⟨y,e,_,h8,_⟩:=tZ h.1
 cases e
 exact h8
theorem Nm.th {K:PySem.W.Frag} {H:Hp} {x:Str} (h:Nm x):Th K H (.str x):=jO (aKc h)
abbrev signs:List V:=[.str "=",.str "<",.str ">",.str "!"]
abbrev vP:List V:=[.str "count",.str "sum",.str "least",.str "most"]
abbrev aDz:List V:=[.str "up",.str "down"]
inductive Oth where
 |val (x:V)
 |col (d:Str)
structure Tst where
 c:Str
 sg:Str
 o:Oth
structure Sm where
 wd:Str
 c:Option Str
 new:Str
def IsO (K:PySem.W.Frag) (H:Hp) (v:V):Oth→Prop
 |.val x=>∃a,v=.ref a∧SqT K H a [.str "value",x]∧Th K H x∧aJk x=true
 |.col d=>∃a,v=.ref a∧SqT K H a [.str "column",.str d]∧Nm d
def aPz (x:Str):Prop:=x = "="∨x = "<"∨x = ">"∨x = "!"
def IsT (K:PySem.W.Frag) (H:Hp) (v:V) (t:Tst):Prop:=∃a w,v=.ref a∧SqT K H a [.str t.c,.str t.sg,w]∧Nm t.c∧aPz t.sg∧IsO K H w t.o
def pG (K:PySem.W.Frag) (H:Hp) (v:V) (p:Str × Str):Prop:=∃a,v=.ref a∧SqT K H a [.str p.1,.str p.2]∧Nm p.1∧Nm p.2
def jL (K:PySem.W.Frag) (H:Hp) (v:V) (p:Str × Str):Prop:=∃a,v=.ref a∧SqT K H a [.str p.1,.str p.2]∧Nm p.1∧(p.2 = "up"∨p.2 = "down")
def aP2 (x:Str):Prop:=x = "sum"∨x = "least"∨x = "most"
def nQ (K:PySem.W.Frag) (H:Hp) (v:V) (s:Sm):Prop:=∃a,v=.ref a∧Nm s.new∧((s.wd = "count"∧s.c=none∧SqT K H a [.str "count",.non,.str s.new])∨(∃c,s.c=some c∧Nm c∧aP2 s.wd∧SqT K H a [.str s.wd,.str c,.str s.new]))
def IsN (v:V) (x:Str):Prop:=v=.str x∧Nm x
inductive bF {α β:Type} (R:α→β→Prop):List α→List β→Prop
 |nil:bF R [] []
 |cons {a b as bs}:R a b→bF R as bs→bF R (a::as) (b::bs)
theorem bF.len {α β:Type} {R:α→β→Prop} {as:List α} {bs:List β} (h:bF R as bs):as.length=bs.length:=by
 induction h with
 |nil=>rfl
 |cons _ _ ih=>rw [List.length_cons,List.length_cons,ih]
theorem bF.imp {α β:Type} {R S:α→β→Prop} {as:List α} {bs:List β} (h:bF R as bs) (k:∀a b,R a b→S a b):bF S as bs:=by
 induction h with
 |nil=>exact .nil
 |cons r _ ih=>exact .cons (k _ _ r) ih
theorem bF.mem {α β:Type} {R:α→β→Prop} {as:List α} {bs:List β} (h:bF R as bs) {a:α} (m:a∈as):∃b,b∈bs∧R a b:=by
 induction h with
 |nil=>cases m
 |cons r _ ih=>
  rcases List.mem_cons.mp m with rfl|m
  ·exact ⟨_,List.mem_cons_self ..,r⟩
  ·obtain ⟨b,hb,q⟩:=ih m
   exact ⟨b,List.mem_cons_of_mem _ hb,q⟩
theorem bF.app {α β:Type} {R:α→β→Prop} {as cs:List α} {bs ds:List β} (h:bF R as bs) (k:bF R cs ds):bF R (as++cs) (bs++ds):=by
 induction h with
 |nil=>exact k
 |cons r _ ih=>exact .cons r ih
def lX {α:Type} (K:PySem.W.Frag) (H:Hp) (R:V→α→Prop) (v:V) (xs:List α):Prop:=∃a vs,v=.ref a∧SqT K H a vs∧bF R vs xs
theorem lX.same {α:Type} {K:PySem.W.Frag} {H H':Hp} {R S:V→α→Prop} {v:V} {xs:List α} (e:Same H H') (k:∀a b,R a b→S a b) (h:lX K H R v xs):lX K H' S v xs:=by
 obtain ⟨a,vs,rfl,ha,hr⟩:=h
 exact ⟨a,vs,rfl,e.aM ha,hr.imp k⟩
theorem IsO.same {K:PySem.W.Frag} {H H':Hp} {v:V} {o:Oth} (e:Same H H') (h:IsO K H v o):IsO K H' v o:=by
 cases o with
 |val x=>obtain ⟨a,rfl,ha,hx,hv⟩:=h;exact ⟨a,rfl,e.aM ha,hx.same e,hv⟩
 |col d=>obtain ⟨a,rfl,ha,hd⟩:=h;exact ⟨a,rfl,e.aM ha,hd⟩
theorem IsT.same {K:PySem.W.Frag} {H H':Hp} {v:V} {t:Tst} (e:Same H H') (h:IsT K H v t):IsT K H' v t:=by
 obtain ⟨a,w,rfl,ha,h1,h2,h3⟩:=h
 exact ⟨a,w,rfl,e.aM ha,h1,h2,h3.same e⟩
theorem pG.same {K:PySem.W.Frag} {H H':Hp} {v:V} {t:Str × Str} (e:Same H H') (h:pG K H v t):pG K H' v t:=by
 obtain ⟨a,rfl,ha,h1⟩:=h
 exact ⟨a,rfl,e.aM ha,h1⟩
theorem jL.same {K:PySem.W.Frag} {H H':Hp} {v:V} {t:Str × Str} (e:Same H H') (h:jL K H v t):jL K H' v t:=by
 obtain ⟨a,rfl,ha,h1⟩:=h
 exact ⟨a,rfl,e.aM ha,h1⟩
theorem nQ.same {K:PySem.W.Frag} {H H':Hp} {v:V} {t:Sm} (e:Same H H') (h:nQ K H v t):nQ K H' v t:=by
 obtain ⟨a,rfl,hn,h1⟩:=h
 refine ⟨a,rfl,hn,?_⟩
 rcases h1 with ⟨x,y,z⟩|⟨c,x,y,z,u⟩
 ·exact .inl ⟨x,y,e.aM z⟩
 ·exact .inr ⟨c,x,y,z,e.aM u⟩
def cZ {α:Type} (K:PySem.W.Frag) (S:PySem.W.Frag→Hp→V→α→Prop):Hp→V→Bool→Prop:=fun H v b=>b=true∧∃t,S K H v t
theorem fQ {α:Type} {K:PySem.W.Frag} {S:PySem.W.Frag→Hp→V→α→Prop} (st:∀{H H' v t},Same H H'→S K H v t→S K H' v t):Tells (cZ K S):=⟨fun e h=>⟨h.1,let ⟨t,q⟩:=h.2;⟨t,st e q⟩⟩⟩
def dR (_:PySem.W.Frag) (_:Hp) (v:V) (x:Str):Prop:=IsN v x
theorem tupof {α:Type} {S:PySem.W.Frag→Hp→V→α→Prop} {lo hi:Nat} {H:Hp} {v:V} {xs:List α} (h:lX K H (S K H) v xs) (h1:lo≤xs.length) (h2:xs.length≤hi):yC K (cZ K S) lo hi H v true:=by
 obtain ⟨a,vs,rfl,ha,hr⟩:=h
 have z:=yC.yes (K:=K) (R:=cZ K S) (lo:=lo) (hi:=hi) (fun _=>true) ha (by rw [hr.len];exact h1) (by rw [hr.len];exact h2) (fun x hx=>by
  obtain ⟨b,_,q⟩:=hr.mem hx
  exact ⟨rfl,b,q⟩)
 have e:vs.all (fun _=>true)=true:=by rw [List.all_eq_true];intro _ _;rfl
 rw [e] at z
 exact z
def fM {α:Type} (S:PySem.W.Frag→Hp→V→α→Prop) (lo hi:Nat):PySem.W.Frag→Hp→V→List α→Prop:=fun K H v xs=>lX K H (S K H) v xs∧lo≤xs.length∧xs.length≤hi
theorem aDw (T:Txt w K mg) (bO:Ok P w K mg base 1 "is_one_of" ["thing","texts"] (rG K)) (aG0:Ok P w K mg base 2 "is_value" ["thing"] (vV K aJk)) (bL:Ok P w K mg base 2 "is_name" ["thing"] (vV K nameB)) :
  Ok P w K mg base 3 "is_other" ["thing"] (dN (cZ K IsO)):=by
 refine Ok.ofV T.aE9 aC1 (fun vs H Q E h=>?_) (fun f cdv A outer s H vs Q E hr h=>?_)
 ·obtain ⟨v,b,rfl,_⟩:=h;rfl
 obtain ⟨v,b,rfl,⟨rfl,o,ho⟩,q⟩:=h
 refine ⟨_,(aD (bB (VW.pt (jD (cJ (cA (aK fU (by rfl) T.aZ aY (aB (vv 0) (aB (cH (v:=.ty "tuple") (by rfl) T.cM bV rfl) aA))))) (fX (aO op_ne (aK call_len_seq (by rfl) T.cU bY (aB (vv 0) aA)) aC (nomark _))))) (aF (aG fH)) aN) (aD (bB (cA (aH (bO.mono (by decide)) hr (by rfl) (aB (aJ ix_tup (vv 0) aC (fun _ _=>rfl)) (aB (gB (aB aP aA)) aA)))) (aF (aG (aH (aG0.mono (by decide)) hr (by rfl) (aB (aJ ix_tup (vv 0) aC (fun _ _=>rfl)) aA)))) aN) (aF (aG (jM (aH (bO.mono (by decide)) hr (by rfl) (aB (aJ ix_tup (vv 0) aC (fun _ _=>rfl)) (aB (gB (aB aP aA)) aA))) (jK (aH (bL.mono (by decide)) hr (by rfl) (aB (aJ ix_tup (vv 0) aC (fun _ _=>rfl)) aA)))))))),?_⟩
 cases o with
 |val x=>
  obtain ⟨a,rfl,ha,hx,hv⟩:=ho
  refine ⟨_,rfl,_,_,rfl,.tup ha,_,rfl,iteF ?_⟩
  refine ⟨_,rfl,_,_,rfl,.inr ha,rfl,_,rfl,iteF ?_⟩
  refine ⟨_,rfl,a,_,0,_,rfl,rfl,ha,at0 _ _,(by show 1≤sizeLine;decide),fun p1 H1 _ s1 g1=>⟨_,p1,_,rfl,jO (by decide +kernel),SqT.of g1,rfl,_,rfl,iteT ?_⟩⟩
  refine ⟨_,rfl,a,_,1,_,rfl,rfl,s1.aM ha,at1 _ _ _,x,rfl,hx.same s1,fun H2 s2=>?_⟩
  rw [hv]
  exact q H2 (s1.trans s2)
 |col d=>
  obtain ⟨a,rfl,ha,hd⟩:=ho
  refine ⟨_,rfl,_,_,rfl,.tup ha,_,rfl,iteF ?_⟩
  refine ⟨_,rfl,_,_,rfl,.inr ha,rfl,_,rfl,iteF ?_⟩
  refine ⟨_,rfl,a,_,0,_,rfl,rfl,ha,at0 _ _,(by show 1≤sizeLine;decide),fun p1 H1 _ s1 g1=>⟨_,p1,_,rfl,jO (by decide +kernel),SqT.of g1,rfl,_,rfl,iteF ?_⟩⟩
  refine ⟨_,rfl,a,_,0,_,rfl,rfl,s1.aM ha,at0 _ _,(by show 1≤sizeLine;decide),fun p2 H2 _ s2 g2=>⟨_,p2,_,rfl,jO (by decide +kernel),SqT.of g2,rfl,_,rfl,iteT ?_⟩⟩
  refine ⟨_,rfl,a,_,1,_,rfl,rfl,s2.aM (s1.aM ha),at1 _ _ _,_,rfl,hd.th,fun H3 s3=>?_⟩
  rw [show nameB (.str d)=true from hd]
  exact q H3 (s1.trans (s2.trans s3))
theorem aNw {x:Str} (h:aPz x):(isS (.str x) && inV (.str x) signs)=true∧x.length≤8:=by
 rcases h with rfl|rfl|rfl|rfl <;> exact ⟨by decide +kernel,by decide +kernel⟩
theorem aGo (T:Txt w K mg) (bO:Ok P w K mg base 1 "is_one_of" ["thing","texts"] (rG K)) (bL:Ok P w K mg base 2 "is_name" ["thing"] (vV K nameB)) (aFa:Ok P w K mg base 3 "is_other" ["thing"] (dN (cZ K IsO))) :
  Ok P w K mg base 4 "is_test" ["thing"] (dN (cZ K IsT)):=by
 refine Ok.ofV T.aIz aE3 (fun vs H Q E h=>?_) (fun f cdv A outer s H vs Q E hr h=>?_)
 ·obtain ⟨v,b,rfl,_⟩:=h;rfl
 obtain ⟨v,b,rfl,⟨rfl,t,a,o,rfl,ha,hc,hs,ho⟩,q⟩:=h
 obtain ⟨ka,mk,hka⟩:=T.zL
 have zL:∃u,mg "SIGNS"=some u∧RelV (.ref ka) u:=⟨_,mk,rfl⟩
 refine ⟨_,(aD (bB (VW.pt (jD (cJ (cA (aK fU (by rfl) T.aZ aY (aB (vv 0) (aB (cH (v:=.ty "tuple") (by rfl) T.cM bV rfl) aA))))) (fX (aO op_ne (aK call_len_seq (by rfl) T.cU bY (aB (vv 0) aA)) aC (nomark _))))) (aF (aG fH)) aN) (aF (aG (jM (aH (bL.mono (by decide)) hr (by rfl) (aB (aJ ix_tup (vv 0) aC (fun _ _=>rfl)) aA)) (jM (aH (bO.mono (by decide)) hr (by rfl) (aB (aJ ix_tup (vv 0) aC (fun _ _=>rfl)) (aB (cQ (by rfl) zL) aA))) (jK (aH (aFa.mono (by decide)) hr (by rfl) (aB (aJ ix_tup (vv 0) aC (fun _ _=>rfl)) aA)))))))),?_⟩
 refine ⟨_,rfl,_,_,rfl,.tup ha,_,rfl,iteF ?_⟩
 refine ⟨_,rfl,_,_,rfl,.inr ha,rfl,_,rfl,iteF ?_⟩
 refine ⟨_,rfl,a,_,0,_,rfl,rfl,ha,at0 _ _,_,rfl,hc.th,fun H1 s1=>⟨_,rfl,?_⟩⟩
 rw [show nameB (.str t.c)=true from hc]
 refine iteT ⟨_,rfl,a,_,1,_,rfl,rfl,s1.aM ha,at1 _ _ _,_,ka,signs,rfl,jO (aNw hs).2,hka _,rfl,_,rfl,?_⟩
 rw [(aNw hs).1]
 refine iteT ⟨_,rfl,a,_,2,_,rfl,rfl,s1.aM ha,at2 _ _ _ _,o,true,rfl,⟨rfl,_,ho.same s1⟩,fun H2 s2=>q H2 (s1.trans s2)⟩
theorem aGd (T:Txt w K mg) (bL:Ok P w K mg base 2 "is_name" ["thing"] (dN (cZ K dR))) (bA:Ok P w K mg base 3 "is_tuple_of" ["thing","least","most","is_part"] (gH P w K mg base 2)) :
  Ok P w K mg base 4 "is_pair" ["thing"] (dN (cZ K pG)):=by
 refine Ok.ofV T.aJq aGu (fun vs H Q E h=>?_) (fun f cdv A outer s H vs Q E hr h=>?_)
 ·obtain ⟨v,b,rfl,_⟩:=h;rfl
 obtain ⟨v,b,rfl,⟨rfl,p,a,rfl,ha,h1,h2⟩,q⟩:=h
 obtain ⟨fa,mf,hf⟩:=bL.held
 have iG:∃u,mg "is_name"=some u∧RelV (.ref fa) u:=⟨_,mf,rfl⟩
 refine ⟨_,(aF (aG (aH (bA.mono (by decide)) hr (by rfl) (aB (vv 0) (aB aC (aB aC (aB (cQ (by rfl) iG) aA))))))),?_⟩
 exact ⟨_,rfl,_,2,2,fa,_,_,_,rfl,by decide,hf,fQ (S:=dR) (fun _ h=>h),tupof (S:=dR) (xs:=[p.1,p.2]) ⟨a,_,rfl,ha,.cons ⟨rfl,h1⟩ (.cons ⟨rfl,h2⟩ .nil)⟩ (Nat.le_refl _) (Nat.le_refl _),fun H1 s1=>q H1 s1⟩
theorem aJb (T:Txt w K mg) (bO:Ok P w K mg base 1 "is_one_of" ["thing","texts"] (rG K)) (bL:Ok P w K mg base 2 "is_name" ["thing"] (vV K nameB)):Ok P w K mg base 3 "is_key" ["thing"] (dN (cZ K jL)):=by
 refine Ok.ofV T.aJz aIm (fun vs H Q E h=>?_) (fun f cdv A outer s H vs Q E hr h=>?_)
 ·obtain ⟨v,b,rfl,_⟩:=h;rfl
 obtain ⟨v,b,rfl,⟨rfl,⟨c,wy⟩,a,rfl,ha,hc,hw⟩,q⟩:=h
 obtain ⟨ka,mk,hka⟩:=T.aFf
 have aFf:∃u,mg "WAYS"=some u∧RelV (.ref ka) u:=⟨_,mk,rfl⟩
 refine ⟨_,(aD (bB (VW.pt (jD (cJ (cA (aK fU (by rfl) T.aZ aY (aB (vv 0) (aB (cH (v:=.ty "tuple") (by rfl) T.cM bV rfl) aA))))) (fX (aO op_ne (aK call_len_seq (by rfl) T.cU bY (aB (vv 0) aA)) aC (nomark _))))) (aF (aG fH)) aN) (aF (aG (jM (aH (bL.mono (by decide)) hr (by rfl) (aB (aJ ix_tup (vv 0) aC (fun _ _=>rfl)) aA)) (jK (aH (bO.mono (by decide)) hr (by rfl) (aB (aJ ix_tup (vv 0) aC (fun _ _=>rfl)) (aB (cQ (by rfl) aFf) aA)))))))),?_⟩
 refine ⟨_,rfl,_,_,rfl,.tup ha,_,rfl,iteF ?_⟩
 refine ⟨_,rfl,_,_,rfl,.inr ha,rfl,_,rfl,iteF ?_⟩
 refine ⟨_,rfl,a,_,0,_,rfl,rfl,ha,at0 _ _,_,rfl,hc.th,fun H1 s1=>⟨_,rfl,?_⟩⟩
 rw [show nameB (.str c)=true from hc]
 have e:(isS (.str wy) && inV (.str wy) aDz)=true∧wy.length≤8:=by
  rcases hw with e|e <;> (have e:wy=_:=e;subst e;exact ⟨by decide +kernel,by decide +kernel⟩)
 refine iteT ⟨_,rfl,a,_,1,_,rfl,rfl,s1.aM ha,at1 _ _ _,_,ka,aDz,rfl,jO e.2,hka _,rfl,?_⟩
 show Q (.bl (isS (.str wy) && inV (.str wy) aDz)) H1
 rw [e.1]
 exact q H1 s1
theorem aI7 (T:Txt w K mg) (bO:Ok P w K mg base 1 "is_one_of" ["thing","texts"] (rG K)) (bL:Ok P w K mg base 2 "is_name" ["thing"] (vV K nameB)):Ok P w K mg base 3 "is_sum" ["thing"] (dN (cZ K nQ)):=by
 refine Ok.ofV T.aLr aIw (fun vs H Q E h=>?_) (fun f cdv A outer s H vs Q E hr h=>?_)
 ·obtain ⟨v,b,rfl,_⟩:=h;rfl
 obtain ⟨v,b,rfl,⟨rfl,⟨wd,oc,new⟩,a,rfl,hn,hs⟩,q⟩:=h
 obtain ⟨ka,mk,hka⟩:=T.mL
 have mL:∃u,mg "SUM_WORDS"=some u∧RelV (.ref ka) u:=⟨_,mk,rfl⟩
 refine ⟨_,(aD (bB (VW.pt (jD (cJ (cA (aK fU (by rfl) T.aZ aY (aB (vv 0) (aB (cH (v:=.ty "tuple") (by rfl) T.cM bV rfl) aA))))) (fX (aO op_ne (aK call_len_seq (by rfl) T.cU bY (aB (vv 0) aA)) aC (nomark _))))) (aF (aG fH)) aN) (aD (bB (VW.pt (jD (cJ (cA (aH (bO.mono (by decide)) hr (by rfl) (aB (aJ ix_tup (vv 0) aC (fun _ _=>rfl)) (aB (cQ (by rfl) mL) aA))))) (fX (cJ (cA (aH (bL.mono (by decide)) hr (by rfl) (aB (aJ ix_tup (vv 0) aC (fun _ _=>rfl)) aA))))))) (aF (aG fH)) aN) (aF (aG (iK (aO op_eq (aJ ix_tup (vv 0) aC (fun _ _=>rfl)) aP (nomark _)) (cW op_isN (aJ ix_tup (vv 0) aC (fun _ _=>rfl)) aOb (nomark _)) (aH (bL.mono (by decide)) hr (by rfl) (aB (aJ ix_tup (vv 0) aC (fun _ _=>rfl)) aA))))))),?_⟩
 have hn':nameB (.str new)=true:=hn
 rcases hs with ⟨e,_,ha⟩|⟨c,e,hc,hw,ha⟩
 ·refine ⟨_,rfl,_,_,rfl,.tup ha,_,rfl,iteF ?_⟩
  refine ⟨_,rfl,_,_,rfl,.inr ha,rfl,_,rfl,iteF ?_⟩
  refine ⟨_,rfl,a,_,0,_,rfl,rfl,ha,at0 _ _,_,ka,vP,rfl,jO (by decide +kernel),hka _,rfl,_,rfl,iteF ?_⟩
  refine ⟨_,rfl,a,_,2,_,rfl,rfl,ha,at2 _ _ _ _,_,rfl,hn.th,fun H1 s1=>⟨_,rfl,?_⟩⟩
  rw [hn']
  refine iteF ⟨_,rfl,a,_,0,_,rfl,rfl,s1.aM ha,at0 _ _,rfl,_,rfl,iteT ?_⟩
  exact ⟨_,rfl,a,_,1,_,rfl,rfl,s1.aM ha,at1 _ _ _,rfl,q H1 s1⟩
 ·have ew:(isS (.str wd) && inV (.str wd) vP)=true∧wd.length≤8∧decide (V.str wd=V.str "count")=false:=by
   rcases hw with e|e|e <;> (have e:wd=_:=e;subst e;exact ⟨by decide +kernel,by decide +kernel,by decide +kernel⟩)
  refine ⟨_,rfl,_,_,rfl,.tup ha,_,rfl,iteF ?_⟩
  refine ⟨_,rfl,_,_,rfl,.inr ha,rfl,_,rfl,iteF ?_⟩
  refine ⟨_,rfl,a,_,0,_,rfl,rfl,ha,at0 _ _,_,ka,vP,rfl,jO ew.2.1,hka _,rfl,_,rfl,?_⟩
  rw [ew.1]
  refine iteF ⟨_,rfl,a,_,2,_,rfl,rfl,ha,at2 _ _ _ _,_,rfl,hn.th,fun H1 s1=>⟨_,rfl,?_⟩⟩
  rw [hn']
  refine iteF ⟨_,rfl,a,_,0,_,rfl,rfl,s1.aM ha,at0 _ _,rfl,_,rfl,?_⟩
  rw [ew.2.2]
  refine iteF ⟨_,rfl,a,_,1,_,rfl,rfl,s1.aM ha,at1 _ _ _,_,rfl,hc.th,fun H2 s2=>?_⟩
  rw [show nameB (.str c)=true from hc]
  exact q H2 (s1.trans s2)
def aNr (_:PySem.W.Frag) (_:Hp) (v:V) (n:Nat):Prop:=v=.int n∧n≤60
theorem aEu (T:Txt w K mg) (iY:Ok P w K mg base 1 "is_whole" ["thing"] (qQ K)):Ok P w K mg base 2 "is_many" ["thing"] (dN (cZ K aNr)):=by
 refine Ok.ofV T.aJs aGv (fun vs H Q E h=>?_) (fun f cdv A outer s H vs Q E hr h=>?_)
 ·obtain ⟨v,b,rfl,_⟩:=h;rfl
 obtain ⟨v,b,rfl,⟨rfl,n,rfl,hn⟩,q⟩:=h
 refine ⟨_,(aF (aG (jM (aH (iY.mono (by decide)) hr (by rfl) (aB (vv 0) aA)) (jK (aJ9 op_le op_le aC (vv 0) (cQ (by rfl) T.aDf)))))),?_⟩
 refine ⟨_,rfl,_,rfl,.inr (.inl ⟨_,rfl⟩),_,rfl,iteT ?_⟩
 refine ⟨_,rfl,_,_,rfl,rfl,_,rfl,?_⟩
 have e1:decide ((0:Int)≤(n:Int))=true:=decide_eq_true (by omega)
 have e2:decide ((n:Int)≤60)=true:=decide_eq_true (by omega)
 rw [e1]
 refine iteT ⟨_,_,rfl,rfl,?_⟩
 show Q (.bl (decide ((n:Int)≤60))) H
 rw [e2]
 exact q H (Same.refl H)
theorem oM (T:Txt w K mg):Ok P w K mg base 1 "may_be_question" ["thing"] (fun vs H Q _=>∃v,vs=[v]∧Q (.bl true) H):=by
 refine Ok.ofV T.pN oJ (fun vs H Q E h=>?_) (fun f cdv A outer s H vs Q E hr h=>?_)
 ·obtain ⟨v,rfl,_⟩:=h;rfl
 obtain ⟨v,rfl,q⟩:=h
 exact ⟨_,(aF (aG fH)),q⟩
theorem aO7 {k:Nat} {x:Str} {ps:List Str} {sp sp':Sp} (G:Ok P w K mg base k x ps sp) (h:∀vs H Q E,sp' vs H Q E→sp vs H Q E):Ok P w K mg base k x ps sp':=
 let ⟨f,fd,h1,h2,h3,h4⟩:=G;⟨f,fd,h1,h2,h3,h4.imp h⟩
theorem aL3 (G:Ok P w K mg base 2 "is_name" ["thing"] (vV K nameB)):Ok P w K mg base 2 "is_name" ["thing"] (dN (cZ K dR)):=
 aO7 G fun vs H Q E h=>by
  obtain ⟨v,b,rfl,⟨rfl,x,rfl,hx⟩,q⟩:=h
  exact ⟨_,rfl,Nm.th hx,fun H' s'=>by rw [show nameB (.str x)=true from hx];exact q H' s'⟩
theorem aBn (T:Txt w K mg) (aJe:Ok P w K mg base 4 "is_test" ["thing"] (dN (cZ K IsT))) (bA:Ok P w K mg base 5 "is_tuple_of" ["thing","least","most","is_part"] (gH P w K mg base 4)) :
  Ok P w K mg base 6 "are_tests" ["thing"] (dN (cZ K (fM IsT 1 3))):=by
 refine Ok.ofV T.aCn aA2 (fun vs H Q E h=>?_) (fun f cdv A outer s H vs Q E hr h=>?_)
 ·obtain ⟨v,b,rfl,_⟩:=h;rfl
 obtain ⟨v,b,rfl,⟨rfl,xs,hx,l1,l2⟩,q⟩:=h
 obtain ⟨fa,mf,hf⟩:=aJe.held
 have yF:∃u,mg "is_test"=some u∧RelV (.ref fa) u:=⟨_,mf,rfl⟩
 refine ⟨_,(aF (aG (aH (bA.mono (by decide)) hr (by rfl) (aB (vv 0) (aB aC (aB (cQ (by rfl) T.aBy) (aB (cQ (by rfl) yF) aA))))))),?_⟩
 exact ⟨_,rfl,_,1,3,fa,_,_,_,rfl,by decide,hf,fQ (S:=IsT) (fun e h=>h.same e),tupof (S:=IsT) hx l1 l2,fun H1 s1=>q H1 s1⟩
theorem aAh (T:Txt w K mg) (bL:Ok P w K mg base 2 "is_name" ["thing"] (dN (cZ K dR))) (bA:Ok P w K mg base 3 "is_tuple_of" ["thing","least","most","is_part"] (gH P w K mg base 2)) :
  Ok P w K mg base 4 "are_names" ["thing"] (dN (cZ K (fM dR 1 8))):=by
 refine Ok.ofV T.aCt aBj (fun vs H Q E h=>?_) (fun f cdv A outer s H vs Q E hr h=>?_)
 ·obtain ⟨v,b,rfl,_⟩:=h;rfl
 obtain ⟨v,b,rfl,⟨rfl,xs,hx,l1,l2⟩,q⟩:=h
 obtain ⟨fa,mf,hf⟩:=bL.held
 have iG:∃u,mg "is_name"=some u∧RelV (.ref fa) u:=⟨_,mf,rfl⟩
 refine ⟨_,(aF (aG (aH (bA.mono (by decide)) hr (by rfl) (aB (vv 0) (aB aC (aB (cQ (by rfl) T.qL) (aB (cQ (by rfl) iG) aA))))))),?_⟩
 exact ⟨_,rfl,_,1,8,fa,_,_,_,rfl,by decide,hf,fQ (S:=dR) (fun e h=>h),tupof (S:=dR) hx l1 l2,fun H1 s1=>q H1 s1⟩
theorem oV (T:Txt w K mg) (bL:Ok P w K mg base 2 "is_name" ["thing"] (dN (cZ K dR))) (bA:Ok P w K mg base 3 "is_tuple_of" ["thing","least","most","is_part"] (gH P w K mg base 2)) :
  Ok P w K mg base 4 "are_group_names" ["thing"] (dN (cZ K (fM dR 0 8))):=by
 refine Ok.ofV T.pQ oH (fun vs H Q E h=>?_) (fun f cdv A outer s H vs Q E hr h=>?_)
 ·obtain ⟨v,b,rfl,_⟩:=h;rfl
 obtain ⟨v,b,rfl,⟨rfl,xs,hx,l1,l2⟩,q⟩:=h
 obtain ⟨fa,mf,hf⟩:=bL.held
 have iG:∃u,mg "is_name"=some u∧RelV (.ref fa) u:=⟨_,mf,rfl⟩
 refine ⟨_,(aF (aG (aH (bA.mono (by decide)) hr (by rfl) (aB (vv 0) (aB aC (aB (cQ (by rfl) T.qL) (aB (cQ (by rfl) iG) aA))))))),?_⟩
 exact ⟨_,rfl,_,0,8,fa,_,_,_,rfl,by decide,hf,fQ (S:=dR) (fun e h=>h),tupof (S:=dR) hx l1 l2,fun H1 s1=>q H1 s1⟩
theorem zH (T:Txt w K mg) (aJn:Ok P w K mg base 4 "is_pair" ["thing"] (dN (cZ K pG))) (bA:Ok P w K mg base 5 "is_tuple_of" ["thing","least","most","is_part"] (gH P w K mg base 4)) :
  Ok P w K mg base 6 "are_pairs" ["thing"] (dN (cZ K (fM pG 1 3))):=by
 refine Ok.ofV T.aB7 aB0 (fun vs H Q E h=>?_) (fun f cdv A outer s H vs Q E hr h=>?_)
 ·obtain ⟨v,b,rfl,_⟩:=h;rfl
 obtain ⟨v,b,rfl,⟨rfl,xs,hx,l1,l2⟩,q⟩:=h
 obtain ⟨fa,mf,hf⟩:=aJn.held
 have yG:∃u,mg "is_pair"=some u∧RelV (.ref fa) u:=⟨_,mf,rfl⟩
 refine ⟨_,(aF (aG (aH (bA.mono (by decide)) hr (by rfl) (aB (vv 0) (aB aC (aB (cQ (by rfl) T.yX) (aB (cQ (by rfl) yG) aA))))))),?_⟩
 exact ⟨_,rfl,_,1,3,fa,_,_,_,rfl,by decide,hf,fQ (S:=pG) (fun e h=>h.same e),tupof (S:=pG) hx l1 l2,fun H1 s1=>q H1 s1⟩
theorem aDv (T:Txt w K mg) (aLd:Ok P w K mg base 3 "is_sum" ["thing"] (dN (cZ K nQ))) (bA:Ok P w K mg base 4 "is_tuple_of" ["thing","least","most","is_part"] (gH P w K mg base 3)) :
  Ok P w K mg base 5 "are_sums" ["thing"] (dN (cZ K (fM nQ 0 4))):=by
 refine Ok.ofV T.aFj aD8 (fun vs H Q E h=>?_) (fun f cdv A outer s H vs Q E hr h=>?_)
 ·obtain ⟨v,b,rfl,_⟩:=h;rfl
 obtain ⟨v,b,rfl,⟨rfl,xs,hx,l1,l2⟩,q⟩:=h
 obtain ⟨fa,mf,hf⟩:=aLd.held
 have aDy:∃u,mg "is_sum"=some u∧RelV (.ref fa) u:=⟨_,mf,rfl⟩
 refine ⟨_,(aF (aG (aH (bA.mono (by decide)) hr (by rfl) (aB (vv 0) (aB aC (aB (cQ (by rfl) T.aCg) (aB (cQ (by rfl) aDy) aA))))))),?_⟩
 exact ⟨_,rfl,_,0,4,fa,_,_,_,rfl,by decide,hf,fQ (S:=nQ) (fun e h=>h.same e),tupof (S:=nQ) hx l1 l2,fun H1 s1=>q H1 s1⟩
theorem aCv (T:Txt w K mg) (aK9:Ok P w K mg base 3 "is_key" ["thing"] (dN (cZ K jL))) (bA:Ok P w K mg base 4 "is_tuple_of" ["thing","least","most","is_part"] (gH P w K mg base 3)) :
  Ok P w K mg base 5 "are_keys" ["thing"] (dN (cZ K (fM jL 0 3))):=by
 refine Ok.ofV T.aFu aCy (fun vs H Q E h=>?_) (fun f cdv A outer s H vs Q E hr h=>?_)
 ·obtain ⟨v,b,rfl,_⟩:=h;rfl
 obtain ⟨v,b,rfl,⟨rfl,xs,hx,l1,l2⟩,q⟩:=h
 obtain ⟨fa,mf,hf⟩:=aK9.held
 have aC2:∃u,mg "is_key"=some u∧RelV (.ref fa) u:=⟨_,mf,rfl⟩
 refine ⟨_,(aF (aG (aH (bA.mono (by decide)) hr (by rfl) (aB (vv 0) (aB aC (aB (cQ (by rfl) T.aCe) (aB (cQ (by rfl) aC2) aA))))))),?_⟩
 exact ⟨_,rfl,_,0,3,fa,_,_,_,rfl,by decide,hf,fQ (S:=jL) (fun e h=>h.same e),tupof (S:=jL) hx l1 l2,fun H1 s1=>q H1 s1⟩
inductive Qn where
 |table (T:Str)
 |whr (q:Qn) (ts:List Tst)
 |keep (q:Qn) (ns:List Str)
 |nmd (q:Qn) (ns:List Str)
 |join (q r:Qn) (ps:List (Str × Str))
 |group (q:Qn) (ns:List Str) (ss:List Sm)
 |first (q:Qn) (ks:List (Str × Str)) (m:Nat)
inductive IsQ (K:PySem.W.Frag) (H:Hp):V→Qn→Prop
 |table {a T}:SqT K H a [.str "table",.str T]→Nm T→IsQ K H (.ref a) (.table T)
 |whr {a v q w ts}:SqT K H a [.str "where",v,w]→IsQ K H v q→fM IsT 1 3 K H w ts→IsQ K H (.ref a) (.whr q ts)
 |keep {a v q w ns}:SqT K H a [.str "keep",v,w]→IsQ K H v q→fM dR 1 8 K H w ns→IsQ K H (.ref a) (.keep q ns)
 |nmd {a v q w ns}:SqT K H a [.str "named",v,w]→IsQ K H v q→fM dR 1 8 K H w ns→IsQ K H (.ref a) (.nmd q ns)
 |join {a v q u r w ps}:SqT K H a [.str "join",v,u,w]→IsQ K H v q→IsQ K H u r→fM pG 1 3 K H w ps→IsQ K H (.ref a) (.join q r ps)
 |group {a v q w ns u ss}:SqT K H a [.str "group",v,w,u]→IsQ K H v q→fM dR 0 8 K H w ns→fM nQ 0 4 K H u ss→IsQ K H (.ref a) (.group q ns ss)
 |first {a v q w ks m}:SqT K H a [.str "first",v,w,.int (m:Nat)]→IsQ K H v q→fM jL 0 3 K H w ks→m≤60→IsQ K H (.ref a) (.first q ks m)
theorem fM.same {α:Type} {S:PySem.W.Frag→Hp→V→α→Prop} {lo hi:Nat} {K:PySem.W.Frag} {H H':Hp} {v:V} {xs:List α} (e:Same H H') (k:∀{v t},S K H v t→S K H' v t) (h:fM S lo hi K H v xs):fM S lo hi K H' v xs:=
 ⟨h.1.same e fun _ _=>k,h.2⟩
theorem IsQ.same {K:PySem.W.Frag} {H H':Hp} {v:V} {q:Qn} (e:Same H H') (h:IsQ K H v q):IsQ K H' v q:=by
 induction h with
 |table a b=>exact .table (e.aM a) b
 |whr a _ c ih=>exact .whr (e.aM a) ih (c.same e fun h=>h.same e)
 |keep a _ c ih=>exact .keep (e.aM a) ih (c.same e fun h=>h)
 |nmd a _ c ih=>exact .nmd (e.aM a) ih (c.same e fun h=>h)
 |join a _ _ c ih1 ih2=>exact .join (e.aM a) ih1 ih2 (c.same e fun h=>h.same e)
 |group a _ c d ih=>exact .group (e.aM a) ih (c.same e fun h=>h) (d.same e fun h=>h.same e)
 |first a _ c d ih=>exact .first (e.aM a) ih (c.same e fun h=>h.same e) d
def Part (P:Program) (w:World) (K:PySem.W.Frag) (mg:Str→Option Value) (base:Heap) (H:Hp) (f x:V):Prop:=∃fa ps sp,f=.ref fa∧Held P w K mg base 6 fa ps sp∧∀H' Q,Same H H'→(∀H2,Same H' H2→Q (.bl true) H2)→sp [x] H' Q E0
theorem eE {k:Nat} {x:Str} {ps:List Str} {α:Type} {S:PySem.W.Frag→Hp→V→α→Prop} {f:Addr} {H:Hp} {v:V} {t:α} (G:Ok P w K mg base k x ps (dN (cZ K S))) (hk:k≤6) (m:mg x=some (.ref f)) (st:∀{H H' v t},Same H H'→S K H v t→S K H' v t) (h:S K H v t):Part P w K mg base H (.ref f) v:=
 ⟨f,_,_,rfl,(G.aLz m).mono hk,fun H' Q s' q=>⟨v,true,rfl,⟨rfl,t,st s' h⟩,q⟩⟩
abbrev forms:List Str:=["table","where","keep","named","join","group","first"]
def aP1 (K:PySem.W.Frag):Sp:=fun vs H Q _=>∃v q,vs=[v]∧IsQ K H v q∧∀H',Same H H'→Q (.bl true) H'
theorem iU {f:Addr} {H:Hp} {v:V} (G:Ok P w K mg base 1 "may_be_question" ["thing"] (fun vs H Q _=>∃v,vs=[v]∧Q (.bl true) H)) (m:mg "may_be_question"=some (.ref f)):Part P w K mg base H (.ref f) v:=
 ⟨f,_,_,rfl,(G.aLz m).mono (by decide),fun H' Q s' q=>⟨v,rfl,q H' (Same.refl H')⟩⟩
structure Forms (P:Program) (w:World) (K:PySem.W.Frag) (mg:Str→Option Value) (base:Heap):Prop where
 name:Ok P w K mg base 2 "is_name" ["thing"] (dN (cZ K dR))
 any:Ok P w K mg base 1 "may_be_question" ["thing"] (fun vs H Q _=>∃v,vs=[v]∧Q (.bl true) H)
 tests:Ok P w K mg base 6 "are_tests" ["thing"] (dN (cZ K (fM IsT 1 3)))
 names:Ok P w K mg base 4 "are_names" ["thing"] (dN (cZ K (fM dR 1 8)))
 gnames:Ok P w K mg base 4 "are_group_names" ["thing"] (dN (cZ K (fM dR 0 8)))
 pairs:Ok P w K mg base 6 "are_pairs" ["thing"] (dN (cZ K (fM pG 1 3)))
 sums:Ok P w K mg base 5 "are_sums" ["thing"] (dN (cZ K (fM nQ 0 4)))
 keys:Ok P w K mg base 5 "are_keys" ["thing"] (dN (cZ K (fM jL 0 3)))
 many:Ok P w K mg base 2 "is_many" ["thing"] (dN (cZ K aNr))
theorem aM0 (T:Txt w K mg) (F:Forms P w K mg base):∃d kvs,mg "FORMS"=some (.ref d)∧aNb w K d kvs∧kvs.length≤1000∧(kvs.map fun q=>V.str q.1).all flatV=true ∧
  ∀H v q,IsQ K H v q→∃a k xs t fs,v=.ref a∧SqT K H a (.str k::xs)∧k.length≤8∧inV (.str k) (kvs.map fun q=>V.str q.1)=true∧(kvs.find? fun z=>decide (z.1=k)).map (·.2)=some t∧(∀H,SqT K H t fs)∧fs.length≤8∧bF (Part P w K mg base H) fs xs:=by
 obtain ⟨d,t0,t1,t2,t3,t4,t5,t6,md,hd,⟨f00,h0,m00⟩,⟨f10,f11,h1,m10,m11⟩,⟨f20,f21,h2,m20,m21⟩,⟨f30,f31,h3,m30,m31⟩,⟨f40,f41,f42,h4,m40,m41,m42⟩,⟨f50,f51,f52,h5,m50,m51,m52⟩,⟨f60,f61,f62,h6,m60,m61,m62⟩⟩:=T.uC
 refine ⟨d,_,md,hd,(by show 7≤1000;decide),rfl,fun H v q hq=>?_⟩
 cases hq with
 |table a b=>exact ⟨_,_,_,t0,_,rfl,a,by decide +kernel,(by show inV (.str "table") (forms.map V.str)=true;decide +kernel),rfl,h0,(by show 1≤8;decide),.cons (eE F.name (by decide) m00 (fun _ h=>h) ⟨rfl,b⟩) .nil⟩
 |whr a _ c=>exact ⟨_,_,_,t1,_,rfl,a,by decide +kernel,(by show inV (.str "where") (forms.map V.str)=true;decide +kernel),rfl,h1,(by show 2≤8;decide),.cons (iU F.any m10) (.cons (eE F.tests (by decide) m11 (fun e h=>h.same e fun q=>q.same e) c) .nil)⟩
 |keep a _ c=>exact ⟨_,_,_,t2,_,rfl,a,by decide +kernel,(by show inV (.str "keep") (forms.map V.str)=true;decide +kernel),rfl,h2,(by show 2≤8;decide),.cons (iU F.any m20) (.cons (eE F.names (by decide) m21 (fun e h=>h.same e fun q=>q) c) .nil)⟩
 |nmd a _ c=>exact ⟨_,_,_,t3,_,rfl,a,by decide +kernel,(by show inV (.str "named") (forms.map V.str)=true;decide +kernel),rfl,h3,(by show 2≤8;decide),.cons (iU F.any m30) (.cons (eE F.names (by decide) m31 (fun e h=>h.same e fun q=>q) c) .nil)⟩
 |join a _ _ c=>exact ⟨_,_,_,t4,_,rfl,a,by decide +kernel,(by show inV (.str "join") (forms.map V.str)=true;decide +kernel),rfl,h4,(by show 3≤8;decide),.cons (iU F.any m40) (.cons (iU F.any m41) (.cons (eE F.pairs (by decide) m42 (fun e h=>h.same e fun q=>q.same e) c) .nil))⟩
 |group a _ c e=>exact ⟨_,_,_,t5,_,rfl,a,by decide +kernel,(by show inV (.str "group") (forms.map V.str)=true;decide +kernel),rfl,h5,(by show 3≤8;decide),.cons (iU F.any m50) (.cons (eE F.gnames (by decide) m51 (fun e h=>h.same e fun q=>q) c) (.cons (eE F.sums (by decide) m52 (fun e h=>h.same e fun q=>q.same e) e) .nil))⟩
 |first a _ c e=>exact ⟨_,_,_,t6,_,rfl,a,by decide +kernel,(by show inV (.str "first") (forms.map V.str)=true;decide +kernel),rfl,h6,(by show 3≤8;decide),.cons (iU F.any m60) (.cons (eE F.keys (by decide) m61 (fun e h=>h.same e fun q=>q.same e) c) (.cons (eE F.many (by decide) m62 (fun _ h=>h) ⟨rfl,e⟩) .nil))⟩
theorem gM {α β:Type} {R:α→β→Prop}:∀{as:List α} {bs:List β},bF R as bs→∀{i:Nat} {a:α} {b:β},as[i]?=some a→bs[i]?=some b→R a b
 |_,_,.cons r t,0,_,_,h1,h2=>by cases h1;cases h2;exact r
 |_,_,.cons r t,i+1,a,b,h1,h2=>gM t (i:=i) (by simpa using h1) (by simpa using h2)
theorem aM6 {xs ys:List V}:(List.zipWith (fun _ _:V=>V.bl true) xs ys)=(List.zipWith (fun _ _:V=>true) xs ys).map V.bl:=by
 rw [List.map_zipWith]
theorem aLl:∀(xs ys:List V),((List.zipWith (fun _ _:V=>true) xs ys).all id)=true
 |[],_=>by simp
 |_::_,[]=>by simp
 |x::xs,y::ys=>by rw [List.zipWith_cons_cons,List.all_cons,aLl xs ys];rfl
theorem aQh (x:V) (xs:List V):cutV (x::xs) (some 1) none=xs:=by
 unfold cutV
 have e:HT.sIx (x::xs).length 0 (some 1)=1:=by
  rw [show (1:Int)=((1:Nat):Int) from rfl,HT.sIx_nat,List.length_cons]
  omega
 rw [e,HT.sIx_none,List.length_cons]
 simp
theorem nw1 (x:V) (xs:List V):¬ (HT.sIx (x::xs).length 0 (some 1)=0∧HT.sIx (x::xs).length (x::xs).length none=(x::xs).length):=by
 rw [show (1:Int)=((1:Nat):Int) from rfl,HT.sIx_nat,List.length_cons]
 omega
theorem aCa (T:Txt w K mg) (F:Forms P w K mg base) (bO:Ok P w K mg base 1 "is_one_of" ["thing","texts"] (rG K)):Ok P w K mg base 7 "has_form" ["thing"] (aP1 K):=by
 refine Ok.ofV T.aGf tH (fun vs H Q E h=>?_) (fun f cdv A outer s H vs Q E hr h=>?_)
 ·obtain ⟨v,q,rfl,_⟩:=h;rfl
 obtain ⟨v,q0,rfl,hq,q⟩:=h
 obtain ⟨d,kvs,md,hd,hl,hfl,hat⟩:=aM0 T F
 have uC:∃u,mg "FORMS"=some u∧RelV (.ref d) u:=⟨_,md,rfl⟩
 obtain ⟨a,k,xs,t,fs,rfl,ha,hk8,hin,hf,ht,hf8,hp⟩:=hat H v q0 hq
 have hlen:=hp.len
 refine ⟨_,(aD (bB (VW.pt (jD (cJ (cA (aK fU (by rfl) T.aZ aY (aB (vv 0) (aB (cH (v:=.ty "tuple") (by rfl) T.cM bV rfl) aA))))) (jD (aO op_eq (aK call_len_seq (by rfl) T.cU bY (aB (vv 0) aA)) aC (nomark _)) (fX (cJ (cA (aH (bO.mono (by decide)) hr (by rfl) (aB (aJ ix_tup (vv 0) aC (fun _ _=>rfl)) (aB (bR (aJh rfl) (by rfl) T.cM bV (aB (cQ (by rfl) uC) aA)) aA))))))))) (aF (aG fH)) aN) (aD (aV (i:=1) tH.nd rfl (by trivial) (aJ aM1 (cQ (by rfl) uC) (aJ ix_tup (vv 0) aC (fun _ _=>rfl)) (fun _ _=>rfl))) (aD (bB (aO op_ne (aK call_len_seq (by rfl) T.cU bY (aB (vv 0) aA)) (bH op_add (aK call_len_seq (by rfl) T.cU bY (aB (vv 1) aA)) aC) (nomark _)) (aF (aG fH)) aN) (aF (aG (aK (pR rfl) (by rfl) T.aHx aBo (aB (bM (N:=["is_part","part"]) (by trivial) (eF (by decide +kernel)) rfl (zW (by rfl) T.aLe (aB (vv 1) (aB (cV aG8 (vv 0) (cX aC) gQ) aA))) (fun cl s' H' fp=>⟨(qU (K:=K) (n:=2) rfl (bK (aQ (i:=0) (show (["is_part","part"]:List Str).Nodup from by decide +kernel) rfl (Or.inl rfl)) (bK (aQ (i:=1) (show (["is_part","part"]:List Str).Nodup from by decide +kernel) rfl (Or.inl rfl)) gZ))),bN,(aB5 (P:=P) (w:=w) (K:=K) (mg:=mg) (base:=base) hr (vv 0) (aB (vv 1) aA))⟩)) aA))))))),?_⟩
 refine ⟨_,rfl,_,_,rfl,.tup ha,_,rfl,iteF ?_⟩
 refine ⟨_,rfl,_,_,rfl,.inr ha,rfl,_,rfl,?_⟩
 have e0:decide (V.int (((V.str k::xs).length:Nat):Int)=V.int 0)=false:=decide_eq_false (by intro z;have:=V.int.inj z;rw [List.length_cons] at this;omega)
 rw [e0]
 refine iteF ⟨_,rfl,a,_,0,_,rfl,rfl,ha,at0 _ _,d,kvs,rfl,hd,hl,fun p1 H1 s1 g1=>⟨_,p1,_,rfl,jO hk8,SqT.of g1,hfl,_,rfl,?_⟩⟩
 have e1:(isS (.str k) && inV (.str k) (kvs.map fun q=>V.str q.1))=true:=by rw [hin];rfl
 rw [e1]
 refine iteF ⟨_,rfl,a,_,0,_,rfl,rfl,s1.aM ha,at0 _ _,d,kvs,k,t,rfl,rfl,hd,hf,?_⟩
 refine ⟨_,rfl,_,_,rfl,.inr (s1.aM ha),_,rfl,_,_,rfl,.inr (ht _),_,_,rfl,rfl,rfl,_,rfl,?_⟩
 have e2:(!decide (V.int (((V.str k::xs).length:Nat):Int)=V.int ((fs.length:Nat)+1:Int)))=false:=by rw [List.length_cons,hlen];simp
 rw [e2]
 refine iteF ?_
 dsimp only [tNext,tRet,tCB,tCons]
 refine aI8 fs xs (fun _ _=>.bl true) [none,none] sE (small (by omega)) hlen (fun R r=>⟨_,rfl,_,rfl,_,rfl,a,_,rfl,s1.aM ha,nw1 _ _,fun p2 H2 s2 g2=>?_⟩) (fun i fv x ef ex H' R l1 l2 sm r=>?_) rfl rfl fun D H' sm hD=>?_
 ·rw [aQh] at g2
  exact r t p2 H2 s2 (ht _) (SqT.of g2)
 ·obtain ⟨fa,ps,sp,rfl,hh,hc⟩:=gM hp ef ex
  exact ⟨_,rfl,fa,ps,sp,rfl,hh,_,rfl,hc H' R (s1.trans sm) fun H2 s2=>r H2 s2⟩
 ·refine ⟨D,List.zipWith (fun _ _=>true) fs xs,rfl,SqL.of (by rw [hD,aM6]),?_⟩
  rw [aLl]
  exact q H' (s1.trans sm)
def kids:Qn→List Qn
 |.table _=>[]
 |.whr q _=>[q]
 |.keep q _=>[q]
 |.nmd q _=>[q]
 |.join q r _=>[q,r]
 |.group q _ _=>[q]
 |.first q _ _=>[q]
def own:Qn→Nat
 |.whr _ ts=>ts.length
 |_=>1
def size:Qn→Nat
 |.table _=>1
 |.whr q ts=>size q+ts.length
 |.keep q _=>size q+1
 |.nmd q _=>size q+1
 |.join q r _=>size q+size r+1
 |.group q _ _=>size q+1
 |.first q _ _=>size q+1
def sizes (qs:List Qn):Nat:=(qs.map size).sum
theorem mH (q:Qn):size q=own q+sizes (kids q):=by
 cases q <;> simp [size,own,sizes,kids] <;> omega
theorem pU {K:PySem.W.Frag} {H:Hp} {v:V} {q:Qn} (h:IsQ K H v q):1≤own q:=by
 cases h with
 |whr _ _ c=>exact c.2.1
 |_=>exact Nat.le_refl _
def aHp (K:PySem.W.Frag):Sp:=fun vs H Q _=>∃v q H0,vs=[v]∧Same H0 H∧IsQ K H0 v q∧∀D H' us,H D=none→Same H H'→H' D=some (.lst us)→bF (IsQ K H0) us (kids q)→Q (.ref D) H'
theorem lN (T:Txt w K mg):Ok P w K mg base 1 "questions_in" ["question"] (aHp K):=by
 refine Ok.ofV T.uJ tL (fun vs H Q E h=>?_) (fun f cdv A outer s H vs Q E hr h=>?_)
 ·obtain ⟨v,q,H0,rfl,_⟩:=h;rfl
 obtain ⟨v,q0,H0,rfl,e,hq,q⟩:=h
 refine ⟨_,(aD (bB (aO op_eq (aJ ix_tup (vv 0) aC (fun _ _=>rfl)) aP (nomark _)) (aF (aG (cG aA))) aN) (aF (aG (iK (aO op_eq (aJ ix_tup (vv 0) aC (fun _ _=>rfl)) aP (nomark _)) (bR uW (by rfl) T.vD qM (aB (cV aG8 (vv 0) (cX aC) (cX aC)) aA)) (cG (aB (aJ ix_tup (vv 0) aC (fun _ _=>rfl)) aA)))))),?_⟩
 cases hq with
 |table a b=>exact ⟨_,rfl,_,_,0,_,rfl,rfl,(e.aM a),at0 _ _,rfl,_,rfl,iteT ⟨(by show 0≤sizeLine;decide),fun D H' f s' g=>q D H' _ f s' g .nil⟩⟩
 |whr a b c=>exact ⟨_,rfl,_,_,0,_,rfl,rfl,(e.aM a),at0 _ _,rfl,_,rfl,iteF ⟨_,rfl,_,_,0,_,rfl,rfl,(e.aM a),at0 _ _,rfl,_,rfl,iteF ⟨_,rfl,_,_,1,_,rfl,rfl,(e.aM a),at1 _ _ _,(by show 1≤sizeLine;decide),fun D H' f s' g=>q D H' _ f s' g (.cons b .nil)⟩⟩⟩
 |keep a b c=>exact ⟨_,rfl,_,_,0,_,rfl,rfl,(e.aM a),at0 _ _,rfl,_,rfl,iteF ⟨_,rfl,_,_,0,_,rfl,rfl,(e.aM a),at0 _ _,rfl,_,rfl,iteF ⟨_,rfl,_,_,1,_,rfl,rfl,(e.aM a),at1 _ _ _,(by show 1≤sizeLine;decide),fun D H' f s' g=>q D H' _ f s' g (.cons b .nil)⟩⟩⟩
 |nmd a b c=>exact ⟨_,rfl,_,_,0,_,rfl,rfl,(e.aM a),at0 _ _,rfl,_,rfl,iteF ⟨_,rfl,_,_,0,_,rfl,rfl,(e.aM a),at0 _ _,rfl,_,rfl,iteF ⟨_,rfl,_,_,1,_,rfl,rfl,(e.aM a),at1 _ _ _,(by show 1≤sizeLine;decide),fun D H' f s' g=>q D H' _ f s' g (.cons b .nil)⟩⟩⟩
 |group a b c d=>exact ⟨_,rfl,_,_,0,_,rfl,rfl,(e.aM a),at0 _ _,rfl,_,rfl,iteF ⟨_,rfl,_,_,0,_,rfl,rfl,(e.aM a),at0 _ _,rfl,_,rfl,iteF ⟨_,rfl,_,_,1,_,rfl,rfl,(e.aM a),at1 _ _ _,(by show 1≤sizeLine;decide),fun D H' f s' g=>q D H' _ f s' g (.cons b .nil)⟩⟩⟩
 |first a b c d=>exact ⟨_,rfl,_,_,0,_,rfl,rfl,(e.aM a),at0 _ _,rfl,_,rfl,iteF ⟨_,rfl,_,_,0,_,rfl,rfl,(e.aM a),at0 _ _,rfl,_,rfl,iteF ⟨_,rfl,_,_,1,_,rfl,rfl,(e.aM a),at1 _ _ _,(by show 1≤sizeLine;decide),fun D H' f s' g=>q D H' _ f s' g (.cons b .nil)⟩⟩⟩
 |join a b c d=>
  refine ⟨_,rfl,_,_,0,_,rfl,rfl,(e.aM a),at0 _ _,rfl,_,rfl,iteF ⟨_,rfl,_,_,0,_,rfl,rfl,(e.aM a),at0 _ _,rfl,_,rfl,iteT ⟨_,rfl,_,rfl,_,rfl,_,_,rfl,(e.aM a),(by show ¬ (HT.sIx 4 0 (some 1)=0∧HT.sIx 4 4 (some 3)=4);decide),fun p H1 s1 g1=>⟨p,_,rfl,.inr (SqT.of g1),fun D H' f s' g=>q D H' _ (s1.free f) (s1.trans s') g (.cons b (.cons c .nil))⟩⟩⟩⟩
def aKp (K:PySem.W.Frag):Sp:=fun vs H Q _=>∃v q,vs=[v]∧IsQ K H v q∧Q (.int (own q:Nat)) H
theorem aEb (T:Txt w K mg):Ok P w K mg base 1 "own_size" ["question"] (aKp K):=by
 refine Ok.ofV T.aGt aCr (fun vs H Q E h=>?_) (fun f cdv A outer s H vs Q E hr h=>?_)
 ·obtain ⟨v,q,rfl,_⟩:=h;rfl
 obtain ⟨v,q0,rfl,hq,q⟩:=h
 refine ⟨_,(aF (aG (iK (aO op_eq (aJ ix_tup (vv 0) aC (fun _ _=>rfl)) aP (nomark _)) (aK call_len_seq (by rfl) T.cU bY (aB (aJ ix_tup (vv 0) aC (fun _ _=>rfl)) aA)) aC))),?_⟩
 cases hq with
 |whr a b c=>
  obtain ⟨⟨p,us,rfl,hp,hr'⟩,_⟩:=c
  refine ⟨_,rfl,_,_,0,_,rfl,rfl,a,at0 _ _,rfl,_,rfl,iteT ⟨_,rfl,_,_,2,_,rfl,rfl,a,at2 _ _ _ _,_,_,rfl,.inr hp,?_⟩⟩
  rw [hr'.len]
  exact q
 |table a b=>exact ⟨_,rfl,_,_,0,_,rfl,rfl,a,at0 _ _,rfl,_,rfl,iteF q⟩
 |keep a b c=>exact ⟨_,rfl,_,_,0,_,rfl,rfl,a,at0 _ _,rfl,_,rfl,iteF q⟩
 |nmd a b c=>exact ⟨_,rfl,_,_,0,_,rfl,rfl,a,at0 _ _,rfl,_,rfl,iteF q⟩
 |group a b c d=>exact ⟨_,rfl,_,_,0,_,rfl,rfl,a,at0 _ _,rfl,_,rfl,iteF q⟩
 |first a b c d=>exact ⟨_,rfl,_,_,0,_,rfl,rfl,a,at0 _ _,rfl,_,rfl,iteF q⟩
 |join a b c d=>exact ⟨_,rfl,_,_,0,_,rfl,rfl,a,at0 _ _,rfl,_,rfl,iteF q⟩
def aJ0 (K:PySem.W.Frag):Sp:=fun vs H Q _=>∃v q,vs=[v]∧IsQ K H v q∧size q≤20∧∀H',Same H H'→Q v H'
theorem aJm {α β:Type} {R:α→β→Prop} {as:List α} {bs:List β} (h:bF R as bs) (ne:as≠[]):∃as' a bs' b,as=as'++[a]∧bs=bs'++[b]∧bF R as' bs'∧R a b:=by
 induction h with
 |nil=>exact absurd rfl ne
 |@cons a b as bs r t ih=>
  cases t with
  |nil=>exact ⟨[],a,[],b,rfl,rfl,.nil,r⟩
  |cons r' t'=>
   obtain ⟨as',x,bs',y,e1,e2,h1,h2⟩:=ih (by simp)
   exact ⟨a::as',x,b::bs',y,by rw [e1];rfl,by rw [e2];rfl,.cons r h1,h2⟩
theorem sG (xs ys:List Qn):sizes (xs++ys)=sizes xs+sizes ys:=by unfold sizes;rw [List.map_append,List.sum_append]
theorem aJl {K:PySem.W.Frag} {H:Hp} {us:List V} {qs:List Qn} (h:bF (IsQ K H) us qs):us.length≤sizes qs:=by
 induction h with
 |nil=>exact Nat.le_refl _
 |@cons v q us qs r _ ih=>
  have:=pU r
  have e:=mH q
  show us.length+1≤(((q::qs).map size).sum)
  rw [List.map_cons,List.sum_cons]
  unfold sizes at ih
  omega
theorem aFq (T:Txt w K mg) (aF6:Ok P w K mg base 7 "has_form" ["thing"] (aP1 K)) (bZ:Ok P w K mg base 1 "questions_in" ["question"] (aHp K)) (aGp:Ok P w K mg base 1 "own_size" ["question"] (aKp K)):Ok P w K mg base 8 "checked" ["thing"] (aJ0 K):=by
 refine Ok.ofV T.aIs iT (fun vs H Q E h=>?_) (fun f cdv A outer s H vs Q E hr h=>?_)
 ·obtain ⟨v,q,rfl,_⟩:=h;rfl
 obtain ⟨v,q0,rfl,hq,h20,q⟩:=h
 refine ⟨_,(aD (aV (i:=1) iT.nd rfl (by trivial) aC) (aD (aV (i:=2) iT.nd rfl (by trivial) (cG (aB (vv 0) aA))) (aD (aKn PassesOwn.never (aKa (vv 2)) (aD (aV (i:=3) iT.nd rfl (by trivial) (uQ PySem.F.plainAttrs_list PySem.F.slot_list_pop PySem.F.type_list_pop aNa (vv 2))) (aD (bB (cJ (cA (aH (aF6.mono (by decide)) hr (by rfl) (aB (vv 3) aA)))) (aF eG) aN) (aD (aV (i:=1) iT.nd rfl (by trivial) (bH op_add (vv 1) (aH (aGp.mono (by decide)) hr (by rfl) (aB (vv 3) aA)))) (aD (bB (aO op_gt (vv 1) (cQ (by rfl) T.aD3) (nomark _)) (aF eG) aN) (aF (cN (aDt PySem.F.plainAttrs_list PySem.F.slot_list_extend PySem.F.type_list_extend aF8 (vv 2) (aB (aH (bZ.mono (by decide)) hr (by rfl) (aB (vv 3) aA)) aA))))))))) (aF (aG (vv 0)))))),?_⟩
 refine ⟨_,rfl,(by show 1≤sizeLine;decide),fun W H1 fW s1 g1=>?_⟩
 refine ⟨fun m σ H'=>∃sz us qs l,σ=[some v,some (.int (sz:Nat)),some (.ref W),l]∧Same H H'∧H' W=some (.lst us)∧bF (IsQ K H) us qs∧sz+sizes qs=size q0∧m=sizes qs,⟨_,0,_,[q0],_,rfl,s1,g1,.cons hq .nil,by simp [sizes],rfl⟩,?_⟩
 rintro m σ H' ⟨sz,us,qs,l,rfl,sm,eW,hu,hs,rfl⟩
 by_cases hne:us=[]
 ·subst hne
  refine ⟨_,rfl,false,.inl ⟨[],SqL.of eW,rfl⟩,?_⟩
  refine iteF ?_
  exact ⟨_,rfl,q H' sm⟩
 ·obtain ⟨us',u,qs',p,rfl,rfl,hu',hp⟩:=aJm hu hne
  refine ⟨_,rfl,true,.inl ⟨_,SqL.of eW,by cases us' <;> rfl⟩,?_⟩
  refine iteT ?_
  have hso:=mH p
  have hop:=pU hp
  have hsz:sizes (qs'++[p])=sizes qs'+size p:=by rw [sG];simp [sizes]
  refine ⟨fun σ' H''=>∃m',m'<sizes (qs'++[p])∧∃sz us qs l,σ'=[some v,some (.int (sz:Nat)),some (.ref W),l]∧Same H H''∧H'' W=some (.lst us)∧bF (IsQ K H) us qs∧sz+sizes qs=size q0∧m'=sizes qs,fun σ' H'' h=>h,?_⟩
  refine ⟨_,rfl,.inl ⟨rfl,_,SqL.of eW⟩,W,_,u,rfl,rfl,eW,?_,?_⟩
  ·rw [List.length_append,List.length_singleton,Nat.add_sub_cancel,List.getElem?_append_right (Nat.le_refl _),Nat.sub_self]
   rfl
  rw [List.dropLast_concat]
  have sx:Same H (upd H' W (.lst us')):=gG fW sm
  have ex:upd H' W (.lst us') W=some (.lst us'):=upd_same
  generalize upd H' W (.lst us')=Hx at sx ex
  refine ⟨_,rfl,u,p,rfl,hp.same sx,fun H2 s2=>⟨_,rfl,iteF ?_⟩⟩
  refine ⟨_,rfl,_,rfl,u,p,rfl,hp.same (sx.trans s2),_,_,rfl,rfl,?_⟩
  refine ⟨_,rfl,_,_,rfl,rfl,_,rfl,?_⟩
  have e20:decide ((20:Int)<(sz:Int)+(own p:Int))=false:=decide_eq_false (by omega)
  rw [e20]
  refine iteF ?_
  refine ⟨_,rfl,.inl ⟨rfl,_,SqL.of (s2 _ _ ex)⟩,?_⟩
  refine ⟨_,rfl,u,p,H,rfl,sx.trans s2,hp,fun D H3 ws fD s3 gD hw=>?_⟩
  have lw:=hw.len
  have lu:=aJl hu'
  have lk:(kids p).length≤2:=by cases p <;> simp [kids]
  refine ⟨W,D,_,_,rfl,rfl,s3 _ _ (s2 _ _ ex),gD,small (by omega),?_⟩
  refine ⟨_,?_,sz+own p,us'++ws,qs'++kids p,some u,?_,gG fW (sx.trans (s2.trans s3)),upd_same,hu'.app hw,?_,rfl⟩
  ·rw [sG];omega
  ·rw [show ((sz+own p:Nat):Int)=(sz:Int)+(own p:Int) from by omega];rfl
  ·rw [sG];omega
abbrev Hdr:=List (Str × Str)
def IsC (K:PySem.W.Frag) (H:Hp) (v:V) (c:Str × Str):Prop:=∃p,v=.ref p∧SqT K H p [.str c.1,.str c.2]
theorem IsC.same {K:PySem.W.Frag} {H H':Hp} {v:V} {c:Str × Str} (e:Same H H') (h:IsC K H v c):IsC K H' v c:=by
 obtain ⟨p,rfl,hp⟩:=h
 exact ⟨p,rfl,e.aM hp⟩
def cC (K:PySem.W.Frag) (H:Hp) (v:V) (hd:Hdr):Prop:=lX K H (IsC K H) v hd
theorem cC.same {K:PySem.W.Frag} {H H':Hp} {v:V} {hd:Hdr} (e:Same H H') (h:cC K H v hd):cC K H' v hd:=lX.same e (fun _ _ q=>q.same e) h
def look (hd:Hdr) (n:Str):Option Str:=(hd.find? fun c=>decide (c.1=n)).map (·.2)
theorem aHv {n k:Str}:∀{hd:Hdr},look hd n=some k→∃i,hd[i]?=some (n,k)∧∀(j:Nat) (c:Str × Str),j<i→hd[j]?=some c→c.1≠n
 |[],h=>by cases h
 |(m,j)::r,h=>by
  unfold look at h
  rw [List.find?_cons] at h
  by_cases e:m=n
  ·rw [decide_eq_true (p:=(m,j).1=n) e] at h
   have h':j=k:=Option.some.inj h
   subst e h'
   exact ⟨0,rfl,fun j c hj=>absurd hj (Nat.not_lt_zero _)⟩
  ·rw [decide_eq_false (p:=(m,j).1=n) e] at h
   obtain ⟨i,h1,h2⟩:=aHv (hd:=r) h
   refine ⟨i+1,by simpa using h1,fun j' c hj hc=>?_⟩
   cases j' with
   |zero=>cases hc;exact e
   |succ j'=>exact h2 j' c (by omega) (by simpa using hc)
theorem bC {α β:Type} {R:α→β→Prop}:∀{as:List α} {bs:List β},bF R as bs→∀{i:Nat} {a:α},as[i]?=some a→∃b,bs[i]?=some b∧R a b
 |_,_,.cons r t,0,_,h1=>by cases h1;exact ⟨_,rfl,r⟩
 |_,_,.cons r t,i+1,a,h1=>by
  obtain ⟨b,e,q⟩:=bC t (i:=i) (a:=a) (by simpa using h1)
  exact ⟨b,by simpa using e,q⟩
theorem zZ {α β:Type} {R:α→β→Prop}:∀{as:List α} {bs:List β},as.length=bs.length→(∀(i:Nat) (a:α) (b:β),as[i]?=some a→bs[i]?=some b→R a b)→bF R as bs
 |[],[],_,_=>.nil
 |a::as,b::bs,hl,h=>.cons (h 0 a b rfl rfl) (zZ (by simpa using hl) fun i x y h1 h2=>h (i+1) x y (by simpa using h1) (by simpa using h2))
theorem aHi {us:List V} {ns:List Str} (h:bF (dR K H) us ns):us=ns.map V.str:=by
 induction h with
 |nil=>rfl
 |cons r _ ih=>rw [List.map_cons,ih,r.1]
def rD (K:PySem.W.Frag):Sp:=fun vs H Q _=>∃vh n hd k,vs=[vh,.str n]∧cC K H vh hd∧look hd n=some k∧Q (.str k) H
theorem aGs (T:Txt w K mg):Ok P w K mg base 1 "kind_in" ["head","name"] (rD K):=by
 refine Ok.ofV T.aI6 vC (fun vs H Q E h=>?_) (fun f cdv A outer s H vs Q E hr h=>?_)
 ·obtain ⟨vh,n,hd,k,rfl,_⟩:=h;rfl
 obtain ⟨vh,n,hd,k,rfl,⟨a,us,rfl,ha,hu⟩,hk,q⟩:=h
 refine ⟨_,(aD (iM PassesOwn.never rfl (dO (vv 0)) (aQ (i:=2) vC.nd rfl (by trivial)) (aF (bB (aO op_eq (aJ (dZ (K:=K)) (vv 2) aC (fun _ _=>rfl)) (vv 1) (nomark _)) (aF (aG (aJ (dZ (K:=K)) (vv 2) aC (fun _ _=>rfl)))) aN))) (aF eG)),?_⟩
 obtain ⟨i0,h0,hf⟩:=aHv hk
 have hi0:i0<us.length:=by rw [hu.len];exact (List.getElem?_eq_some_iff.mp h0).1
 refine ⟨_,rfl,a,rfl,⟨_,ha⟩,for_tup (xs:=us) (fun i σ H'=>H'=H∧i≤i0∧∃l,σ=[some (.ref a),some (.str n),l]) ⟨rfl,Nat.zero_le _,_,rfl⟩ (fun i σ H' _ ⟨e,_⟩=>by rw [e];exact ha) ?_ ?_⟩
 ·rintro i x σ H' hx ⟨rfl,hi,l,rfl⟩
  obtain ⟨c,hc,p,rfl,hp⟩:=bC hu hx
  refine ⟨_,rfl,p,_,0,_,rfl,rfl,hp,at0 _ _,_,rfl,rfl,_,rfl,?_⟩
  by_cases e:i=i0
  ·subst e
   rw [h0] at hc
   cases hc
   rw [decide_eq_true rfl]
   exact iteT ⟨_,rfl,p,_,1,_,rfl,rfl,hp,at1 _ _ _,q⟩
  ·have hn:=hf i c (by omega) hc
   rw [decide_eq_false (by intro z;exact hn (V.str.inj z))]
   exact iteF ⟨rfl,by omega,_,rfl⟩
 ·rintro σ H' ⟨rfl,hi,_⟩
  omega
def aAi (K:PySem.W.Frag):Sp:=fun vs H Q _=>∃(a b:Addr) (xs:List Str),vs=[.ref a,.ref b]∧SqL K H a (xs.map V.str)∧SqL K H b (xs.map V.str)∧Q .non H
theorem oU (T:Txt w K mg):Ok P w K mg base 1 "need_like_kinds" ["kinds","others"] (aAi K):=by
 refine Ok.ofV T.qP pA (fun vs H Q E h=>?_) (fun f cdv A outer s H vs Q E hr h=>?_)
 ·obtain ⟨a,b,xs,rfl,_⟩:=h;rfl
 obtain ⟨a,b,xs,rfl,ha,hb,q⟩:=h
 have hu:=hu_of hr
 exact ⟨_,(aF (bB (aO (aN5 (Nat.lt_of_succ_lt hu)) (vv 0) (vv 1) (nomark _)) (aF eG) aN)),⟨_,rfl,_,rfl,a,b,xs,rfl,rfl,ha,hb,_,rfl,iteF q⟩⟩
def zU (K:PySem.W.Frag):Sp:=fun vs H Q _=>∃(a:Addr) (ss:List Str),vs=[.ref a]∧SqL K H a (ss.map V.str)∧ss.length≤1000∧ss.Nodup∧∀H',Same H H'→Q .non H'
theorem uL (T:Txt w K mg) (zB:Ok P w K mg base 1 "are_unlike" ["names"] (yV K)):Ok P w K mg base 2 "need_unlike" ["names"] (zU K):=by
 refine Ok.ofV T.wU vQ (fun vs H Q E h=>?_) (fun f cdv A outer s H vs Q E hr h=>?_)
 ·obtain ⟨a,ss,rfl,_⟩:=h;rfl
 obtain ⟨a,ss,rfl,ha,hl,nd,q⟩:=h
 refine ⟨_,(aF (bB (cJ (cA (aH (zB.mono (by decide)) hr (by rfl) (aB (vv 0) aA)))) (aF eG) aN)),?_⟩
 refine ⟨_,rfl,a,ss,rfl,ha,hl,fun H1 s1=>⟨_,rfl,?_⟩⟩
 rw [decide_eq_true ((aM7 ss).mpr nd)]
 exact iteF (q H1 s1)
def aNn:Sp:=fun vs H Q _=>∃d n v kvs,vs=[.ref d,.str n]∧H d=some (.dK kvs)∧valV kvs (Sum.inr n)=some v∧Q v H
theorem wL (T:Txt w K mg):Ok P w K mg base 1 "table_head" ["heads","name"] aNn:=by
 refine Ok.ofV T.aBu wK (fun vs H Q E h=>?_) (fun f cdv A outer s H vs Q E hr h=>?_)
 ·obtain ⟨d,n,v,kvs,rfl,_⟩:=h;rfl
 obtain ⟨d,n,v,kvs,rfl,hd,hv,q⟩:=h
 have hu:=hu_of hr
 refine ⟨_,(aD (bB (aI2 hu (vv 1) (vv 0)) (aF eG) aN) (aF (aG (aHe hu (vv 0) (vv 1) (fun _ _=>rfl))))),?_⟩
 have g:=DGet.k (k:=Sum.inr n) hd
 rw [hv] at g
 exact ⟨_,rfl,_,rfl,d,_,rfl,g,_,rfl,iteF ⟨_,rfl,_,rfl,d,v,rfl,g,q⟩⟩
def kindS (v:V):Str:=if whole v then "number" else "word"
def aPh (hd:Hdr):Oth→Option Str
 |.val x=>some (kindS x)
 |.col d=>look hd d
def aK2 (K:PySem.W.Frag):Sp:=fun vs H Q _=>∃vh u hd o k,vs=[vh,u]∧cC K H vh hd∧IsO K H u o∧aPh hd o=some k∧Q (.str k) H
theorem wY (T:Txt w K mg) (aIl:Ok P w K mg base 2 "kind_of" ["value"] (aH0 K)) (cO:Ok P w K mg base 1 "kind_in" ["head","name"] (rD K)):Ok P w K mg base 3 "other_kind" ["head","other"] (aK2 K):=by
 refine Ok.ofV T.yZ wX (fun vs H Q E h=>?_) (fun f cdv A outer s H vs Q E hr h=>?_)
 ·obtain ⟨vh,u,hd,o,k,rfl,_⟩:=h;rfl
 obtain ⟨vh,u,hd,o,k,rfl,hh,ho,hk,q⟩:=h
 refine ⟨_,(aF (aG (iK (aO op_eq (aJ ix_tup (vv 1) aC (fun _ _=>rfl)) aP (nomark _)) (aH (aIl.mono (by decide)) hr (by rfl) (aB (aJ ix_tup (vv 1) aC (fun _ _=>rfl)) aA)) (aH (cO.mono (by decide)) hr (by rfl) (aB (vv 0) (aB (aJ ix_tup (vv 1) aC (fun _ _=>rfl)) aA)))))),?_⟩
 cases o with
 |val x=>
  obtain ⟨a,rfl,ha,hx,_⟩:=ho
  cases hk
  exact ⟨_,rfl,a,_,0,_,rfl,rfl,ha,at0 _ _,rfl,_,rfl,iteT ⟨_,rfl,a,_,1,_,rfl,rfl,ha,at1 _ _ _,x,rfl,hx,q⟩⟩
 |col d=>
  obtain ⟨a,rfl,ha,_⟩:=ho
  exact ⟨_,rfl,a,_,0,_,rfl,rfl,ha,at0 _ _,rfl,_,rfl,iteF ⟨_,rfl,_,rfl,a,_,1,_,rfl,rfl,ha,at1 _ _ _,_,_,hd,k,rfl,hh,hk,q⟩⟩
def aLx (hd:Hdr) (t:Tst):Prop:=∃k,look hd t.c=some k∧aPh hd t.o=some k
def aNj (K:PySem.W.Frag):Sp:=fun vs H Q _=>∃vh u hd ts,vs=[vh,u]∧cC K H vh hd∧lX K H (IsT K H) u ts∧ts.length≤8∧(∀t∈ts,aLx hd t)∧∀H',Same H H'→Q vh H'
theorem kinds_of {α:Type} {p:α→Str→Prop}:∀{ts:List α},(∀t∈ts,∃k,p t k)→∃ks,bF p ts ks
 |[],_=>⟨[],.nil⟩
 |t::r,h=>by
  obtain ⟨k,hk⟩:=h t (List.mem_cons_self ..)
  obtain ⟨ks,hks⟩:=kinds_of (ts:=r) fun u hu=>h u (List.mem_cons_of_mem _ hu)
  exact ⟨k::ks,.cons hk hks⟩
theorem fV {α:Type} {f:α→V} {xs:List α} {i:Nat} {y:V} (h:(xs.map f)[i]?=some y):∃x,xs[i]?=some x∧y=f x:=by
 rw [List.getElem?_map] at h
 cases e:xs[i]? with
 |none=>rw [e] at h;cases h
 |some x=>rw [e] at h;cases h;exact ⟨x,rfl,rfl⟩
theorem wD (T:Txt w K mg) (eO:Ok P w K mg base 1 "need_like_kinds" ["kinds","others"] (aAi K)) (cO:Ok P w K mg base 1 "kind_in" ["head","name"] (rD K)) (aAg:Ok P w K mg base 3 "other_kind" ["head","other"] (aK2 K)) :
  Ok P w K mg base 4 "where_head" ["head","tests"] (aNj K):=by
 refine Ok.ofV T.zA wJ (fun vs H Q E h=>?_) (fun f cdv A outer s H vs Q E hr h=>?_)
 ·obtain ⟨vh,u,hd,ts,rfl,_⟩:=h;rfl
 obtain ⟨vh,u,hd,ts,rfl,hh,⟨a,us,rfl,ha,hu⟩,hl8,hok,q⟩:=h
 refine ⟨_,(aD (cN (aH (eO.mono (by decide)) hr (by rfl) (aB (bM (N:=["test","head"]) (by trivial) (cR (defScope eU) rfl (by decide +kernel)) rfl (dO (vv 1)) (fun cl s' H' fp=>⟨(aQ (i:=0) (show (["test","head"]:List Str).Nodup from by decide +kernel) rfl (Or.inl rfl)),bN,(aH (cO.mono (by decide)) hr (by rfl) (aB (vv 1) (aB (aJ (dZ (K:=K)) (vv 0) aC (fun _ _=>rfl)) aA)))⟩)) (aB (bM (N:=["test","head"]) (by trivial) (cR (defScope eU) rfl (by decide +kernel)) rfl (dO (vv 1)) (fun cl s' H' fp=>⟨(aQ (i:=0) (show (["test","head"]:List Str).Nodup from by decide +kernel) rfl (Or.inl rfl)),bN,(aH (aAg.mono (by decide)) hr (by rfl) (aB (vv 1) (aB (aJ (dZ (K:=K)) (vv 0) aC (fun _ _=>rfl)) aA)))⟩)) aA)))) (aF (aG (vv 0)))),?_⟩
 obtain ⟨ks,hks⟩:=kinds_of hok
 have l1:=hu.len
 have l2:=hks.len
 dsimp only [tSeq,tDrop,tCall,tCons]
 refine gU us (ks.map V.str) (by rw [List.length_map];omega) [none,some vh] ?_ (small (by omega)) (fun R r=>iJ ha (fun R' r'=>⟨_,rfl,r'⟩) R r) (fun i x y ex ey H' R l sm r=>?_) rfl fun D1 H1 s1 g1=>?_
 ·exact dM 0 (by decide +kernel) rfl rfl (by trivial)
 ·obtain ⟨t,ht,p,w',rfl,hp,_,_,ho⟩:=bC hu ex
  obtain ⟨k,hk,rfl⟩:=fV ey
  have hq:=gM hks ht hk
  exact ⟨_,rfl,_,rfl,p,_,0,_,rfl,rfl,sm.aM hp,at0 _ _,_,_,hd,k,rfl,hh.same sm,hq.1,r H' (Same.refl H')⟩
 refine gU us (ks.map V.str) (by rw [List.length_map];omega) [none,some vh] ?_ (small (by omega)) (fun R r=>iJ (s1.aM ha) (fun R' r'=>⟨_,rfl,r'⟩) R r) (fun i x y ex ey H' R l sm r=>?_) rfl fun D2 H2 s2 g2=>?_
 ·exact dM 0 (by decide +kernel) rfl rfl (by trivial)
 ·obtain ⟨t,ht,p,w',rfl,hp,_,_,ho⟩:=bC hu ex
  obtain ⟨k,hk,rfl⟩:=fV ey
  have hq:=gM hks ht hk
  exact ⟨_,rfl,_,rfl,p,_,2,_,rfl,rfl,sm.aM (s1.aM hp),at2 _ _ _ _,_,_,hd,t.o,k,rfl,hh.same (s1.trans sm),ho.same (s1.trans sm),hq.2,r H' (Same.refl H')⟩
 exact ⟨D1,D2,ks,rfl,SqL.of (s2 _ _ g1),SqL.of g2,⟨_,rfl,q H2 (s1.trans s2)⟩⟩
def aKt (K:PySem.W.Frag) (H:Hp) (v:V) (ns:List Str):Prop:=∃a,v=.ref a∧(SqL K H a (ns.map V.str)∨SqT K H a (ns.map V.str))
theorem aLu {lo hi:Nat} {H:Hp} {v:V} {ns:List Str} (h:fM dR lo hi K H v ns):aKt K H v ns:=by
 obtain ⟨⟨a,us,rfl,ha,hr⟩,_⟩:=h
 rw [aHi hr] at ha
 exact ⟨a,rfl,.inr ha⟩
def Looks (hd:Hdr) (ns ks:List Str):Prop:=bF (fun n k=>look hd n=some k) ns ks
def aHc (K:PySem.W.Frag):Sp:=fun vs H Q _=>∃vh u hd ns ks,vs=[vh,u]∧cC K H vh hd∧aKt K H u ns∧ns.length≤1000∧Looks hd ns ks∧∀v H',Same H H'→cC K H' v (ns.zip ks)→Q v H'
theorem aO3 {K:PySem.W.Frag} {a:Addr} {xs:List V} {tl:TE} {σ:L2.St} {H:Hp} (hS:SqL K H a xs∨SqT K H a xs) (h:∀R:VK,R (.ref a) H→tl σ H R) (R:It→Hp→Prop)
  (q:∀J:It,(∀H' i x,Same H H'→xs[i]?=some x→J.go i H'∧∀y H2,J.yld i H' y H2→H2=H'∧y=x)→(∀H',Same H H'→J.stop xs.length H')→R J H):iList K tl σ H R∨iTup K tl σ H R:=by
 rcases hS with hS|hS
 ·exact .inl (aAk (fun H' sm=>sm.seq hS) h R q)
 ·exact .inr (iJ hS h R q)
def cY (K:PySem.W.Frag) (cs:Hdr):Nat→Hp→V→Prop:=fun i H y=>∃c p,cs[i]?=some c∧y=.ref p∧H p=some (.tup [.str c.1,.str c.2])
theorem cY.st {cs:Hdr} {i:Nat} {H1 H2:Hp} {y:V} (e:Same H1 H2) (h:cY K cs i H1 y):cY K cs i H2 y:=by
 obtain ⟨c,p,h1,h2,h3⟩:=h
 exact ⟨c,p,h1,h2,e _ _ h3⟩
theorem cY.su {cs:Hdr} {i:Nat} {H1:Hp} {D:Addr} {ys zs:List V} {y:V} (hD:H1 D=some (.lst ys)) (h:cY K cs i H1 y):cY K cs i (upd H1 D (.lst zs)) y:=by
 obtain ⟨c,p,h1,h2,h3⟩:=h
 exact ⟨c,p,h1,h2,by rw [upd_ne (ne_of h3 hD (by intro z;cases z))];exact h3⟩
theorem aBk {cs:Hdr} {H:Hp} {a:Addr} {ys:List V} (ha:SqT K H a ys) (hl:ys.length=cs.length) (h:∀(i:Nat) (y:V),ys[i]?=some y→cY K cs i H y):cC K H (.ref a) cs:=by
 refine ⟨a,ys,rfl,ha,zZ hl fun i y c e1 e2=>?_⟩
 obtain ⟨c',p,h1,h2,h3⟩:=h i y e1
 rw [e2] at h1
 cases h1
 exact ⟨p,h2,SqT.of h3⟩
theorem aFn {ns ks:List Str} {i:Nat} {n k:Str} (h1:ns[i]?=some n) (h2:ks[i]?=some k):(ns.zip ks)[i]?=some (n,k):=by
 rw [List.zip,List.getElem?_zipWith,h1,h2]
theorem aAz (T:Txt w K mg) (cO:Ok P w K mg base 1 "kind_in" ["head","name"] (rD K)):Ok P w K mg base 2 "keep_head" ["head","names"] (aHc K):=by
 refine Ok.ofV T.aDi aBw (fun vs H Q E h=>?_) (fun f cdv A outer s H vs Q E hr h=>?_)
 ·obtain ⟨vh,u,hd,ns,ks,rfl,_⟩:=h;rfl
 obtain ⟨vh,u,hd,ns,ks,rfl,hh,⟨a,rfl,ha⟩,hl,hk,q⟩:=h
 refine ⟨_,(aF (aG (bR cT (by rfl) T.cM bV (aB (bM (N:=["name","head"]) (by trivial) (cR (defScope jH) rfl (by decide +kernel)) rfl (aN4 (vv 1)) (fun cl s' H' fp=>⟨(aQ (i:=0) (show (["name","head"]:List Str).Nodup from by decide +kernel) rfl (Or.inl rfl)),bN,(gB (aB (vv 0) (aB (aH (cO.mono (by decide)) hr (by rfl) (aB (vv 1) (aB (vv 0) aA))) aA)))⟩)) aA)))),?_⟩
 have hln:=hk.len
 dsimp only [tRet,tCB,tCons]
 refine rQ (ns.map V.str) (cY K (ns.zip ks)) cY.st cY.su [none,some vh] ?_ (small (by rw [List.length_map];exact hl)) (fun R r=>aO3 ha (fun R' r'=>⟨_,rfl,r'⟩) R r) (fun i x ex H' R l sm r=>?_) rfl fun D H' ys sm hD hly hR=>?_
 ·exact dM 0 (by decide +kernel) rfl rfl (by trivial)
 ·obtain ⟨n,hn,rfl⟩:=fV ex
  obtain ⟨k,hkk,hlk⟩:=bC hk hn
  exact ⟨_,rfl,_,rfl,_,rfl,_,_,hd,k,rfl,hh.same sm,hlk,(by show 2≤sizeLine;decide),fun p H2 _ s2 g2=>r _ _ s2 ⟨(n,k),p,aFn hn hkk,rfl,g2⟩⟩
 ·refine ⟨D,_,rfl,SqL.of hD,fun t H2 _ s2 g2=>q _ _ (sm.trans s2) (aBk (SqT.of g2) ?_ fun i y e=>(hR i y e).st s2)⟩
  rw [hly,List.length_map,List.length_zip]
  omega
def aKe (K:PySem.W.Frag):Sp:=fun vs H Q _=>∃vh u hd ns,vs=[vh,u]∧cC K H vh hd∧(∃a,u=.ref a∧SqT K H a (ns.map V.str))∧ns.length≤1000∧ns.length=hd.length∧∀v H',Same H H'→cC K H' v (List.zipWith (fun n c=>(n,c.2)) ns hd)→Q v H'
theorem xH (T:Txt w K mg):Ok P w K mg base 1 "named_head" ["head","names"] (aKe K):=by
 refine Ok.ofV T.aA4 wR (fun vs H Q E h=>?_) (fun f cdv A outer s H vs Q E hr h=>?_)
 ·obtain ⟨vh,u,hd,ns,rfl,_⟩:=h;rfl
 obtain ⟨vh,u,hd,ns,rfl,⟨b,us,rfl,hb,hu⟩,⟨a,rfl,ha⟩,hl,hle,q⟩:=h
 refine ⟨_,(aD (bB (aO op_ne (aK call_len_seq (by rfl) T.cU bY (aB (vv 1) aA)) (aK call_len_seq (by rfl) T.cU bY (aB (vv 0) aA)) (nomark _)) (aF eG) aN) (aF (aG (bR cT (by rfl) T.cM bV (aB (bM (N:=["name","column"]) (by trivial) (eF (by decide +kernel)) rfl (zW (by rfl) T.aLe (aB (vv 1) (aB (vv 0) aA))) (fun cl s' H' fp=>⟨(qU (K:=K) (n:=2) rfl (bK (aQ (i:=0) (show (["name","column"]:List Str).Nodup from by decide +kernel) rfl (Or.inl rfl)) (bK (aQ (i:=1) (show (["name","column"]:List Str).Nodup from by decide +kernel) rfl (Or.inl rfl)) gZ))),bN,(gB (aB (vv 0) (aB (aJ (dZ (K:=K)) (vv 1) aC (fun _ _=>rfl)) aA)))⟩)) aA))))),?_⟩
 have hlu:=hu.len
 refine ⟨_,rfl,_,_,rfl,.inr ha,_,rfl,_,_,rfl,.inr hb,rfl,_,rfl,?_⟩
 have e:(!decide (V.int ((ns.map V.str).length:Nat)=V.int (us.length:Nat)))=false:=by rw [List.length_map,hle,hlu];simp
 rw [e]
 refine iteF ?_
 dsimp only [tNext,tRet,tCB,tCons]
 refine aI0 (ns.map V.str) us (cY K (List.zipWith (fun n c=>(n,c.2)) ns hd)) cY.st cY.su [none,none] sE (small (by rw [List.length_map];exact hl)) (by rw [List.length_map];omega) (fun R r=>⟨_,rfl,_,rfl,r a b H (Same.refl H) ha hb⟩) (fun i x y ex ey H' R l1 l2 sm r=>?_) rfl rfl fun D H' zs sm hD hlz hR=>?_
 ·obtain ⟨n,hn,rfl⟩:=fV ex
  obtain ⟨c,hc,p,rfl,hp⟩:=bC hu ey
  refine ⟨_,rfl,_,rfl,p,_,1,_,rfl,rfl,sm.aM hp,at1 _ _ _,(by show 2≤sizeLine;decide),fun t H2 _ s2 g2=>r _ _ s2 ⟨(n,c.2),t,?_,rfl,g2⟩⟩
  rw [List.getElem?_zipWith,hn,hc]
 ·refine ⟨D,_,rfl,SqL.of hD,fun t H2 _ s2 g2=>q _ _ (sm.trans s2) (aBk (SqT.of g2) ?_ fun i y e=>(hR i y e).st s2)⟩
  rw [hlz,List.length_map,List.length_zipWith]
  omega
def aNz (K:PySem.W.Frag):Sp:=fun vs H Q _=>∃vh vo u hd ho ps ks,vs=[vh,vo,u]∧cC K H vh hd∧cC K H vo ho∧lX K H (pG K H) u ps∧ps.length≤8∧hd.length≤100∧ho.length≤100∧bF (fun p k=>look hd p.1=some k∧look ho p.2=some k) ps ks∧(ps.map (·.1)).Nodup∧(ps.map (·.2)).Nodup ∧
 ∀v H',Same H H'→cC K H' v (hd++ho.filter fun c=>!decide (c.1∈ps.map (·.2)))→Q v H'
theorem aG2 {n:Str} {ss:List Str}:inV (.str n) (ss.map V.str)=decide (n∈ss):=by
 unfold inV
 rw [Bool.eq_iff_iff,List.any_eq_true,decide_eq_true_eq]
 constructor
 ·rintro ⟨v,hv,e⟩
  obtain ⟨z,hz,rfl⟩:=List.mem_map.mp hv
  have e2:(z == n)=true:=e
  have e3:z=n:=by simpa using e2
  rw [←e3];exact hz
 ·intro h
  refine ⟨.str n,List.mem_map.mpr ⟨n,h,rfl⟩,?_⟩
  show (n == n)=true
  simp
theorem aDm {ss:List Str}:(ss.map V.str).all flatV=true:=by
 rw [List.all_eq_true]
 intro v hv
 obtain ⟨z,_,rfl⟩:=List.mem_map.mp hv
 rfl
theorem vO {α:Type} {p:Nat→Bool} {p':α→Bool}:∀{k:Nat} {xs:List α},(∀(i:Nat) (x:α),xs[i]?=some x→p (k+i)=p' x)→sel p k xs=xs.filter p'
 |_,[],_=>rfl
 |k,x::r,h=>by
  have h0:=h 0 x rfl
  rw [Nat.add_zero] at h0
  show (if p k then x::sel p (k+1) r else sel p (k+1) r)=_
  rw [List.filter_cons,h0,vO (k:=k+1) (xs:=r) fun i y e=>by rw [show k+1+i=k+(i+1) by omega];exact h (i+1) y (by simpa using e)]
theorem aLk {α β:Type} {R:α→β→Prop} {p:Nat→Bool} {as:List α} {bs:List β} (h:bF R as bs):∀k,bF R (sel p k as) (sel p k bs):=by
 induction h with
 |nil=>exact fun _=>.nil
 |@cons a b as bs r _ ih=>
  intro k
  show bF R (if p k then a::sel p (k+1) as else sel p (k+1) as) (if p k then b::sel p (k+1) bs else sel p (k+1) bs)
  split
  ·exact .cons r (ih _)
  ·exact ih _
def yQ (ho:Hdr) (ss:List Str) (i:Nat):Bool:=match ho[i]? with
 |some c=>!decide (c.1∈ss)
 |none=>false
theorem aAc (T:Txt w K mg) (eO:Ok P w K mg base 1 "need_like_kinds" ["kinds","others"] (aAi K)) (cO:Ok P w K mg base 1 "kind_in" ["head","name"] (rD K)) (cF:Ok P w K mg base 2 "need_unlike" ["names"] (zU K)) :
  Ok P w K mg base 3 "join_head" ["head","other","pairs"] (aNz K):=by
 refine Ok.ofV T.aCj jY (fun vs H Q E h=>?_) (fun f cdv A outer s H vs Q E hr h=>?_)
 ·obtain ⟨vh,vo,u,hd,ho,ps,ks,rfl,_⟩:=h;rfl
 obtain ⟨vh,vo,u,hd,ho,ps,ks,rfl,hh,hho,⟨a,us,rfl,ha,hu⟩,hl8,hl1,hl2,hks,nd1,nd2,q⟩:=h
 refine ⟨_,(aD (nJ (i0:=3) jY.nd rfl (by trivial) (N:=["pair"]) (by trivial) (eF (by decide +kernel)) rfl (dO (vv 2)) (fun cl s' H' fp=>⟨(aQ (i:=0) (show (["pair"]:List Str).Nodup from by decide +kernel) rfl (Or.inl rfl)),bN,(aJ (dZ (K:=K)) (vv 0) aC (fun _ _=>rfl))⟩)) (aD (aV (i:=4) jY.nd rfl (by trivial) (bM (N:=["pair"]) (by trivial) (eF (by decide +kernel)) rfl (dO (vv 2)) (fun cl s' H' fp=>⟨(aQ (i:=0) (show (["pair"]:List Str).Nodup from by decide +kernel) rfl (Or.inl rfl)),bN,(aJ (dZ (K:=K)) (vv 0) aC (fun _ _=>rfl))⟩))) (aD (cN (aH (eO.mono (by decide)) hr (by rfl) (aB (bM (N:=["name","head"]) (by trivial) (cR (defScope dW) rfl (by decide +kernel)) rfl (kZ (vv 3)) (fun cl s' H' fp=>⟨(aQ (i:=0) (show (["name","head"]:List Str).Nodup from by decide +kernel) rfl (Or.inl rfl)),bN,(aH (cO.mono (by decide)) hr (by rfl) (aB (vv 1) (aB (vv 0) aA)))⟩)) (aB (bM (N:=["name","other"]) (by trivial) (cR (defScope dW) rfl (by decide +kernel)) rfl (kZ (vv 4)) (fun cl s' H' fp=>⟨(aQ (i:=0) (show (["name","other"]:List Str).Nodup from by decide +kernel) rfl (Or.inl rfl)),bN,(aH (cO.mono (by decide)) hr (by rfl) (aB (vv 1) (aB (vv 0) aA)))⟩)) aA)))) (aD (cN (aH (cF.mono (by decide)) hr (by rfl) (aB (vv 3) aA))) (aD (cN (aH (cF.mono (by decide)) hr (by rfl) (aB (vv 4) aA))) (aF (aG (bH aHg (vv 0) (bR cT (by rfl) T.cM bV (aB (bM (N:=["column","there"]) (by trivial) (cR (defScope dW) rfl (by decide +kernel)) rfl (dO (vv 1)) (fun cl s' H' fp=>⟨(aQ (i:=0) (show (["column","there"]:List Str).Nodup from by decide +kernel) rfl (Or.inl rfl)),(aKi (aO (xQ (K:=K)) (aJ (dZ (K:=K)) (vv 0) aC (fun _ _=>rfl)) (vv 1) (by with_unfolding_all rfl))),(vv 0)⟩)) aA)))))))))),?_⟩
 have lu:=hu.len
 have lk:=hks.len
 dsimp only [tSeq,tAsg]
 refine gU us ((ps.map (·.1)).map V.str) (by rw [List.length_map,List.length_map];omega) [none] iI (small (by omega)) (fun R r=>iJ ha (fun R' r'=>⟨_,rfl,r'⟩) R r) (fun i x y ex ey H' R l sm r=>?_) rfl fun D1 H1 s1 g1=>?_
 ·obtain ⟨p,hp,b,rfl,hb,_⟩:=bC hu ex
  obtain ⟨n,hn,rfl⟩:=fV ey
  rw [List.getElem?_map,hp] at hn
  cases hn
  exact ⟨_,rfl,b,_,0,_,rfl,rfl,sm.aM hb,at0 _ _,r H' (Same.refl H')⟩
 dsimp only [gName,tSeq,tAsg]
 refine gU us ((ps.map (·.2)).map V.str) (by rw [List.length_map,List.length_map];omega) [none] iI (small (by omega)) (fun R r=>iJ (s1.aM ha) (fun R' r'=>⟨_,rfl,r'⟩) R r) (fun i x y ex ey H' R l sm r=>?_) rfl fun D2 H2 s2 g2=>?_
 ·obtain ⟨p,hp,b,rfl,hb,_⟩:=bC hu ex
  obtain ⟨n,hn,rfl⟩:=fV ey
  rw [List.getElem?_map,hp] at hn
  cases hn
  exact ⟨_,rfl,b,_,1,_,rfl,rfl,sm.aM (s1.aM hb),at1 _ _ _,r H' (Same.refl H')⟩
 dsimp only [gName,tSeq,tAsg,tDrop,tCall,tCons]
 refine gU ((ps.map (·.1)).map V.str) (ks.map V.str) (by rw [List.length_map,List.length_map,List.length_map];omega) [none,some vh] ?_ (small (by rw [List.length_map,List.length_map];omega)) (fun R r=>aAk (fun H' sm=>SqL.of (sm _ _ (s2 _ _ g1))) (fun R' r'=>⟨_,rfl,r'⟩) R r) (fun i x y ex ey H' R l sm r=>?_) rfl fun D3 H3 s3 g3=>?_
 ·exact dM 0 (by decide +kernel) rfl rfl (by trivial)
 ·obtain ⟨n,hn,rfl⟩:=fV ex
  obtain ⟨k,hk,rfl⟩:=fV ey
  obtain ⟨p,hp,rfl⟩:∃p,ps[i]?=some p∧n=p.1:=by
   rw [List.getElem?_map] at hn
   cases e:ps[i]? with
   |none=>rw [e] at hn;cases hn
   |some p=>rw [e] at hn;cases hn;exact ⟨p,rfl,rfl⟩
  exact ⟨_,rfl,_,rfl,_,_,hd,k,rfl,hh.same (s1.trans (s2.trans sm)),(gM hks hp hk).1,r H' (Same.refl H')⟩
 refine gU ((ps.map (·.2)).map V.str) (ks.map V.str) (by rw [List.length_map,List.length_map,List.length_map];omega) [none,some vo] ?_ (small (by rw [List.length_map,List.length_map];omega)) (fun R r=>aAk (fun H' sm=>SqL.of (sm _ _ (s3 _ _ g2))) (fun R' r'=>⟨_,rfl,r'⟩) R r) (fun i x y ex ey H' R l sm r=>?_) rfl fun D4 H4 s4 g4=>?_
 ·exact dM 1 (by decide +kernel) rfl rfl (by trivial)
 ·obtain ⟨n,hn,rfl⟩:=fV ex
  obtain ⟨k,hk,rfl⟩:=fV ey
  obtain ⟨p,hp,rfl⟩:∃p,ps[i]?=some p∧n=p.2:=by
   rw [List.getElem?_map] at hn
   cases e:ps[i]? with
   |none=>rw [e] at hn;cases hn
   |some p=>rw [e] at hn;cases hn;exact ⟨p,rfl,rfl⟩
  exact ⟨_,rfl,_,rfl,_,_,ho,k,rfl,hho.same (s1.trans (s2.trans (s3.trans sm))),(gM hks hp hk).2,r H' (Same.refl H')⟩
 refine ⟨D3,D4,ks,rfl,SqL.of (s4 _ _ g3),SqL.of g4,?_⟩
 have t4:=s1.trans (s2.trans (s3.trans s4))
 refine ⟨_,rfl,D1,_,rfl,SqL.of ((s2.trans (s3.trans s4)) _ _ g1),(by rw [List.length_map];omega),nd1,fun H5 s5=>?_⟩
 refine ⟨_,rfl,D2,_,rfl,SqL.of ((s3.trans (s4.trans s5)) _ _ g2),(by rw [List.length_map];omega),nd2,fun H6 s6=>?_⟩
 have t6:=t4.trans (s5.trans s6)
 have g6:=(s3.trans (s4.trans (s5.trans s6))) _ _ g2
 obtain ⟨b,ws,rfl,hb,hw⟩:=hho
 obtain ⟨c,zs,rfl,hc,hz⟩:=hh
 have lw:=hw.len
 have lz:=hz.len
 refine ⟨_,rfl,?_⟩
 dsimp only [tSeq,tCB,tCons]
 refine aK3 ws (yQ ho (ps.map (·.2))) [none,some (.ref D2)] ?_ (small (by omega)) (fun R r=>iJ (t6.aM hb) (fun R' r'=>⟨_,rfl,r'⟩) R r) (fun i x ex H' R l sm r=>?_) rfl fun D7 H7 s7 g7=>?_
 ·exact dM 4 (by decide +kernel) rfl rfl (by trivial)
 ·obtain ⟨d,hd',p,rfl,hp⟩:=bC hw ex
  refine ⟨_,rfl,p,_,0,_,rfl,rfl,sm.aM (t6.aM hp),at0 _ _,_,rfl,D2,_,rfl,.inl (SqL.of (sm _ _ g6)),rfl,aDm,_,rfl,?_⟩
  have e:yQ ho (ps.map (·.2)) i=!decide (d.1∈ps.map (·.2)):=by unfold yQ;rw [hd']
  rw [aG2]
  rw [e] at r
  exact r H' (Same.refl H')
 refine ⟨D7,_,rfl,SqL.of g7,fun t H8 _ s8 g8=>?_⟩
 have t8:=t6.trans (s7.trans s8)
 have lsel:=uB (yQ ho (ps.map (·.2))) 0 ws
 refine ⟨c,t,_,_,rfl,rfl,t8.aM hc,SqT.of g8,small (by omega),fun r H9 s9 g9=>?_⟩
 refine q _ _ (t8.trans s9) ⟨r,_,rfl,g9,(hz.imp fun _ _ h=>h.same (t8.trans s9)).app ?_⟩
 have e:sel (yQ ho (ps.map (·.2))) 0 ho=ho.filter fun c=>!decide (c.1∈ps.map (·.2)):=vO fun i x ex=>by
  unfold yQ
  rw [Nat.zero_add,ex]
 rw [←e]
 exact (aLk hw 0).imp fun _ _ h=>h.same (t8.trans s9)
def smK (hd:Hdr) (s:Sm):Option Str:=match s.c with
 |none=>some "number"
 |some c=>look hd c
def aNl (K:PySem.W.Frag):Sp:=fun vs H Q _=>∃vh u hd s k,vs=[vh,u]∧cC K H vh hd∧nQ K H u s∧smK hd s=some k∧Q (.str k) H
theorem aPv {x:Str} (h:aP2 x):decide (V.str x=V.str "count")=false:=by
 rcases h with rfl|rfl|rfl <;> decide +kernel
theorem aEr (T:Txt w K mg) (cO:Ok P w K mg base 1 "kind_in" ["head","name"] (rD K)):Ok P w K mg base 2 "sum_kind" ["head","part"] (aNl K):=by
 refine Ok.ofV T.aF3 aC6 (fun vs H Q E h=>?_) (fun f cdv A outer s H vs Q E hr h=>?_)
 ·obtain ⟨vh,u,hd,s,k,rfl,_⟩:=h;rfl
 obtain ⟨vh,u,hd,sm,k,rfl,hh,⟨a,rfl,hn,hs⟩,hk,q⟩:=h
 refine ⟨_,(aF (aG (iK (aO op_eq (aJ ix_tup (vv 1) aC (fun _ _=>rfl)) aP (nomark _)) aP (aH (cO.mono (by decide)) hr (by rfl) (aB (vv 0) (aB (aJ ix_tup (vv 1) aC (fun _ _=>rfl)) aA)))))),?_⟩
 rcases hs with ⟨e,ec,ha⟩|⟨c,ec,hc,hw,ha⟩
 ·have ek:k = "number":=by
   unfold smK at hk
   rw [ec] at hk
   exact (Option.some.inj hk).symm
  subst ek
  exact ⟨_,rfl,a,_,0,_,rfl,rfl,ha,at0 _ _,rfl,_,rfl,iteT q⟩
 ·have hk':look hd c=some k:=by
   unfold smK at hk
   rw [ec] at hk
   exact hk
  refine ⟨_,rfl,a,_,0,_,rfl,rfl,ha,at0 _ _,rfl,_,rfl,?_⟩
  rw [aPv hw]
  exact iteF ⟨_,rfl,_,rfl,a,_,1,_,rfl,rfl,ha,at1 _ _ _,_,_,hd,k,rfl,hh,hk',q⟩
theorem aNk {H:Hp} {u:V} {s:Sm} (h:nQ K H u s):∃a x,u=.ref a∧SqT K H a [.str s.wd,x,.str s.new]:=by
 obtain ⟨a,rfl,hn,hs⟩:=h
 rcases hs with ⟨e,ec,ha⟩|⟨c,ec,hc,hw,ha⟩
 ·exact ⟨a,_,rfl,by rw [e];exact ha⟩
 ·exact ⟨a,_,rfl,ha⟩
def aLy (hd:Hdr) (ss:List Sm) (js:List Str):Prop:=bF (fun s j=>smK hd s=some j∧(s.wd = "sum"→j≠"word")) ss js
def aNu (K:PySem.W.Frag):Sp:=fun vs H Q _=>∃vh u x hd ns ss ks js,vs=[vh,u,x]∧cC K H vh hd∧aKt K H u ns∧ns.length≤100∧lX K H (nQ K H) x ss∧ss.length≤100∧Looks hd ns ks∧aLy hd ss js ∧
 ∀v H',Same H H'→cC K H' v (ns.zip ks++(ss.map Sm.new).zip js)→Q v H'
theorem xN (T:Txt w K mg) (gJ:Ok P w K mg base 2 "keep_head" ["head","names"] (aHc K)) (aFs:Ok P w K mg base 2 "sum_kind" ["head","part"] (aNl K)):Ok P w K mg base 3 "group_head" ["head","names","sums"] (aNu K):=by
 refine Ok.ofV T.aAo dC (fun vs H Q E h=>?_) (fun f cdv A outer s H vs Q E hr h=>?_)
 ·obtain ⟨vh,u,x,hd,ns,ss,ks,js,rfl,_⟩:=h;rfl
 obtain ⟨vh,u,x,hd,ns,ss,ks,js,rfl,hh,hns,hl,⟨a,us,rfl,ha,hu⟩,hl2,hks,hjs,q⟩:=h
 refine ⟨_,(aD (aV (i:=3) dC.nd rfl (by trivial) (aH (gJ.mono (by decide)) hr (by rfl) (aB (vv 0) (aB (vv 1) aA)))) (aD (aV (i:=4) dC.nd rfl (by trivial) (bR cT (by rfl) T.cM bV (aB (bM (N:=["part","head"]) (by trivial) (cR (defScope gY) rfl (by decide +kernel)) rfl (dO (vv 2)) (fun cl s' H' fp=>⟨(aQ (i:=0) (show (["part","head"]:List Str).Nodup from by decide +kernel) rfl (Or.inl rfl)),bN,(gB (aB (aJ (dZ (K:=K)) (vv 0) aC (fun _ _=>rfl)) (aB (aH (aFs.mono (by decide)) hr (by rfl) (aB (vv 1) (aB (vv 0) aA))) aA)))⟩)) aA))) (aD (iM PassesOwn.never rfl (zW (by rfl) T.aLe (aB (vv 2) (aB (vv 4) aA))) (vX rfl (bK (aQ (i:=5) dC.nd rfl (by trivial)) (bK (aQ (i:=6) dC.nd rfl (by trivial)) gZ))) (aF (bB (VW.pt (aLb (aO op_eq (aJ ix_tup (vv 5) aC (fun _ _=>rfl)) aP (nomark _)) (aHf (aO op_eq (aJ ix_tup (vv 6) aC (fun _ _=>rfl)) aP (nomark _))))) (aF eG) aN))) (aF (aG (bH aHg (vv 3) (vv 4))))))),?_⟩
 have lu:=hu.len
 have lj:=hjs.len
 have lk:=hks.len
 refine ⟨_,rfl,_,rfl,vh,u,hd,ns,ks,rfl,hh,hns,by omega,hks,fun kept H1 s1 hkept=>?_⟩
 dsimp only [gName,tSeq,tAsg,tCB,tCons]
 refine rQ us (cY K ((ss.map Sm.new).zip js)) cY.st cY.su [none,some vh] ?_ (small (by omega)) (fun R r=>iJ (s1.aM ha) (fun R' r'=>⟨_,rfl,r'⟩) R r) (fun i y ey H' R l sm r=>?_) rfl fun D H2 ys s2 hD hly hR=>?_
 ·exact dM 0 (by decide +kernel) rfl rfl (by trivial)
 ·obtain ⟨p,hp,hsm⟩:=bC hu ey
  obtain ⟨j,hj,hjk,_⟩:=bC hjs hp
  obtain ⟨b,z,rfl,hb⟩:=aNk hsm
  refine ⟨_,rfl,b,_,2,_,rfl,rfl,sm.aM (s1.aM hb),at2 _ _ _ _,_,rfl,_,rfl,_,_,hd,p,j,rfl,hh.same (s1.trans sm),hsm.same (s1.trans sm),hjk,(by show 2≤sizeLine;decide),fun t H3 _ s3 g3=>r _ _ s3 ⟨(p.new,j),t,aFn (by rw [List.getElem?_map,hp];rfl) hj,rfl,g3⟩⟩
 refine ⟨D,_,rfl,SqL.of hD,fun t H3 _ s3 g3=>?_⟩
 have lz:((ss.map Sm.new).zip js).length=ss.length:=by rw [List.length_zip,List.length_map];omega
 have hmade:cC K H3 (.ref t) ((ss.map Sm.new).zip js):=aBk (SqT.of g3) (by rw [hly,lz];exact lu) fun i y e=>(hR i y e).st s3
 have t3:=s1.trans (s2.trans s3)
 dsimp only [gName,tSeq]
 refine ⟨_,rfl,_,rfl,a,t,us,ys,rfl,t3.aM ha,SqT.of g3,aMy (fun i σ H'=>Same H3 H'∧∃l5 l6,σ=[some vh,some u,some (.ref a),some kept,some (.ref t),l5,l6]) (by rw [hly]) ⟨Same.refl _,_,_,rfl⟩ (fun i σ H' _ ⟨e,_⟩=>⟨e.aM (t3.aM ha),e.aM (SqT.of g3)⟩) ?_ ?_⟩
 ·rintro i σ H' x y Tp H'' ex ey ⟨sm,l5,l6,rfl⟩ hT rfl
  have s4:Same H' (upd H' Tp (.tup [x,y])):=aX hT _
  have t4:=sm.trans s4
  obtain ⟨p,hp,hsm⟩:=bC hu ex
  obtain ⟨j,hj,hjk,hjw⟩:=bC hjs hp
  obtain ⟨b,z,rfl,hb⟩:=aNk hsm
  obtain ⟨c,p2,e1,rfl,g5⟩:=hR i y ey
  have ec:c=(p.new,j):=by
   rw [aFn (n:=p.new) (k:=j) (by rw [List.getElem?_map,hp];rfl) hj] at e1
   exact (Option.some.inj e1).symm
  subst ec
  refine ⟨Tp,_,rfl,SqT.of upd_same,rfl,_,_,rfl,_,_,rfl,rfl,?_⟩
  refine ⟨_,rfl,b,_,0,_,rfl,rfl,t4.aM (t3.aM hb),at0 _ _,rfl,_,rfl,?_⟩
  refine ite2 (fun cs=>?_) (fun cs=>iteF ⟨t4,_,_,rfl⟩)
  have ew:p.wd = "sum":=V.str.inj (of_decide_eq_true cs)
  refine ⟨_,rfl,p2,_,1,_,rfl,rfl,SqT.of (t4 _ _ (s3 _ _ g5)),at1 _ _ _,rfl,_,rfl,?_⟩
  rw [decide_eq_false (by intro zz;exact hjw ew (V.str.inj zz))]
  exact iteF ⟨t4,_,_,rfl⟩
 ·rintro σ H' ⟨sm,l5,l6,rfl⟩
  obtain ⟨c,zs,rfl,hc,hz⟩:=hkept
  obtain ⟨c2,zs2,e2,hc2,hz2⟩:=hmade
  cases e2
  have l1:=hz.len
  have l2:=hz2.len
  have l3:(ns.zip ks).length≤100:=by rw [List.length_zip];omega
  refine ⟨_,rfl,_,rfl,c,t,_,_,rfl,rfl,(s2.trans (s3.trans sm)).aM hc,sm.aM hc2,small (by omega),fun r H5 s5 g5=>?_⟩
  refine q _ _ (t3.trans (sm.trans s5)) ⟨r,_,rfl,g5,(hz.imp fun _ _ h=>h.same (s2.trans (s3.trans (sm.trans s5)))).app (hz2.imp fun _ _ h=>h.same (sm.trans s5))⟩
def aNv (K:PySem.W.Frag):Sp:=fun vs H Q _=>∃vh u hd ps ks,vs=[vh,u]∧cC K H vh hd∧lX K H (jL K H) u ps∧ps.length≤100∧Looks hd (ps.map (·.1)) ks∧(ps.map (·.1)).Nodup∧∀H',Same H H'→Q vh H'
theorem wM (T:Txt w K mg) (gJ:Ok P w K mg base 2 "keep_head" ["head","names"] (aHc K)) (cF:Ok P w K mg base 2 "need_unlike" ["names"] (zU K)):Ok P w K mg base 3 "first_head" ["head","keys"] (aNv K):=by
 refine Ok.ofV T.zG oA (fun vs H Q E h=>?_) (fun f cdv A outer s H vs Q E hr h=>?_)
 ·obtain ⟨vh,u,hd,ps,ks,rfl,_⟩:=h;rfl
 obtain ⟨vh,u,hd,ps,ks,rfl,hh,⟨a,us,rfl,ha,hu⟩,hl,hks,nd,q⟩:=h
 refine ⟨_,(aD (nJ (i0:=2) oA.nd rfl (by trivial) (N:=["key"]) (by trivial) (eF (by decide +kernel)) rfl (dO (vv 1)) (fun cl s' H' fp=>⟨(aQ (i:=0) (show (["key"]:List Str).Nodup from by decide +kernel) rfl (Or.inl rfl)),bN,(aJ (dZ (K:=K)) (vv 0) aC (fun _ _=>rfl))⟩)) (aD (cN (aH (gJ.mono (by decide)) hr (by rfl) (aB (vv 0) (aB (vv 2) aA)))) (aD (cN (aH (cF.mono (by decide)) hr (by rfl) (aB (vv 2) aA))) (aF (aG (vv 0)))))),?_⟩
 have lu:=hu.len
 dsimp only [gName,tSeq,tAsg]
 refine gU us ((ps.map (·.1)).map V.str) (by rw [List.length_map,List.length_map];omega) [none] iI (small (by omega)) (fun R r=>iJ ha (fun R' r'=>⟨_,rfl,r'⟩) R r) (fun i x y ex ey H' R l sm r=>?_) rfl fun D1 H1 s1 g1=>?_
 ·obtain ⟨p,hp,b,rfl,hb,_⟩:=bC hu ex
  obtain ⟨n,hn,rfl⟩:=fV ey
  rw [List.getElem?_map,hp] at hn
  cases hn
  exact ⟨_,rfl,b,_,0,_,rfl,rfl,sm.aM hb,at0 _ _,r H' (Same.refl H')⟩
 refine ⟨_,rfl,_,rfl,vh,_,hd,_,ks,rfl,hh.same s1,⟨D1,rfl,.inl (SqL.of g1)⟩,by rw [List.length_map];omega,hks,fun v H2 s2 _=>?_⟩
 refine ⟨_,rfl,D1,_,rfl,SqL.of (s2 _ _ g1),by rw [List.length_map];omega,nd,fun H3 s3=>?_⟩
 exact ⟨_,rfl,q H3 (s1.trans (s2.trans s3))⟩
def Good (hd:Hdr):Prop:=(hd.map (·.1)).Nodup∧1≤hd.length∧hd.length≤8
inductive HH (hs:Str→Option Hdr):Qn→List Hdr→Hdr→Prop
 |table {T hd}:hs T=some hd→HH hs (.table T) [] hd
 |whr {q ts hd}:(∀t∈ts,aLx hd t)→HH hs (.whr q ts) [hd] hd
 |keep {q ns hd ks}:Looks hd ns ks→HH hs (.keep q ns) [hd] (ns.zip ks)
 |nmd {q ns hd}:ns.length=hd.length→HH hs (.nmd q ns) [hd] (List.zipWith (fun n c=>(n,c.2)) ns hd)
 |join {q r ps hd ho ks}:bF (fun p k=>look hd p.1=some k∧look ho p.2=some k) ps ks→(ps.map (·.1)).Nodup→(ps.map (·.2)).Nodup→HH hs (.join q r ps) [hd,ho] (hd++ho.filter fun c=>!decide (c.1∈ps.map (·.2)))
 |group {q ns ss hd ks js}:Looks hd ns ks→aLy hd ss js→HH hs (.group q ns ss) [hd] (ns.zip ks++(ss.map Sm.new).zip js)
 |first {q ps m hd ks}:Looks hd (ps.map (·.1)) ks→(ps.map (·.1)).Nodup→HH hs (.first q ps m) [hd] hd
def gF (K:PySem.W.Frag) (H:Hp) (d:Addr) (hs:Str→Option Hdr):Prop:=∃kvs,H d=some (.dK kvs)∧∀n hd,hs n=some hd→∃v,valV kvs (Sum.inr n)=some v∧cC K H v hd
theorem gF.same {H H':Hp} {d:Addr} {hs:Str→Option Hdr} (e:Same H H') (h:gF K H d hs):gF K H' d hs:=by
 obtain ⟨kvs,hd,hh⟩:=h
 refine ⟨kvs,e _ _ hd,fun n hd hn=>?_⟩
 obtain ⟨v,h1,h2⟩:=hh n hd hn
 exact ⟨v,h1,h2.same e⟩
def aNx (K:PySem.W.Frag):Sp:=fun vs H Q _=>∃d v x us hs q ihds hd,vs=[.ref d,v,.ref x]∧gF K H d hs∧IsQ K H v q∧SqL K H x us∧bF (cC K H) us ihds∧(∀h∈ihds,h.length≤100)∧HH hs q ihds hd∧∀v' H',Same H H'→cC K H' v' hd→Q v' H'
theorem aAu (T:Txt w K mg) (aB2:Ok P w K mg base 1 "table_head" ["heads","name"] aNn) (zT:Ok P w K mg base 4 "where_head" ["head","tests"] (aNj K)) (gJ:Ok P w K mg base 2 "keep_head" ["head","names"] (aHc K))
  (zJ:Ok P w K mg base 1 "named_head" ["head","names"] (aKe K)) (aDk:Ok P w K mg base 3 "join_head" ["head","other","pairs"] (aNz K)) (aAl:Ok P w K mg base 3 "group_head" ["head","names","sums"] (aNu K))
  (aBl:Ok P w K mg base 3 "first_head" ["head","keys"] (aNv K)):Ok P w K mg base 5 "head_here" ["heads","question","inner"] (aNx K):=by
 refine Ok.ofV T.aC7 pP (fun vs H Q E h=>?_) (fun f cdv A outer s H vs Q E hr h=>?_)
 ·obtain ⟨d,v,x,us,hs,q,ihds,hd,rfl,_⟩:=h;rfl
 obtain ⟨d,v,x,us,hs,q0,ihds,hd,rfl,hds,hq,hx,hu,hlen,hh,q⟩:=h
 refine ⟨_,(aD (aV (i:=3) pP.nd rfl (by trivial) (aJ ix_tup (vv 1) aC (fun _ _=>rfl))) (aD (bB (aO op_eq (vv 3) aP (nomark _)) (aF (aG (aH (aB2.mono (by decide)) hr (by rfl) (aB (vv 0) (aB (aJ ix_tup (vv 1) aC (fun _ _=>rfl)) aA))))) aN) (aD (bB (aO op_eq (vv 3) aP (nomark _)) (aF (aG (aH (zT.mono (by decide)) hr (by rfl) (aB (aJ ix_list (vv 2) aC (fun _ _=>rfl)) (aB (aJ ix_tup (vv 1) aC (fun _ _=>rfl)) aA))))) aN) (aD (bB (aO op_eq (vv 3) aP (nomark _)) (aF (aG (aH (gJ.mono (by decide)) hr (by rfl) (aB (aJ ix_list (vv 2) aC (fun _ _=>rfl)) (aB (aJ ix_tup (vv 1) aC (fun _ _=>rfl)) aA))))) aN) (aD (bB (aO op_eq (vv 3) aP (nomark _)) (aF (aG (aH (zJ.mono (by decide)) hr (by rfl) (aB (aJ ix_list (vv 2) aC (fun _ _=>rfl)) (aB (aJ ix_tup (vv 1) aC (fun _ _=>rfl)) aA))))) aN) (aD (bB (aO op_eq (vv 3) aP (nomark _)) (aF (aG (aH (aDk.mono (by decide)) hr (by rfl) (aB (aJ ix_list (vv 2) aC (fun _ _=>rfl)) (aB (aJ ix_list (vv 2) aC (fun _ _=>rfl)) (aB (aJ ix_tup (vv 1) aC (fun _ _=>rfl)) aA)))))) aN) (aD (bB (aO op_eq (vv 3) aP (nomark _)) (aF (aG (aH (aAl.mono (by decide)) hr (by rfl) (aB (aJ ix_list (vv 2) aC (fun _ _=>rfl)) (aB (aJ ix_tup (vv 1) aC (fun _ _=>rfl)) (aB (aJ ix_tup (vv 1) aC (fun _ _=>rfl)) aA)))))) aN) (aF (aG (aH (aBl.mono (by decide)) hr (by rfl) (aB (aJ ix_list (vv 2) aC (fun _ _=>rfl)) (aB (aJ ix_tup (vv 1) aC (fun _ _=>rfl)) aA)))))))))))),?_⟩
 cases hh with
 |table hT=>
  cases hq with
  |table a b=>
   obtain ⟨kvs,hd',hmem⟩:=hds
   obtain ⟨v',hv',hI⟩:=hmem _ _ hT
   refine ⟨_,rfl,_,_,0,_,rfl,rfl,a,at0 _ _,?_⟩
   exact ⟨_,rfl,rfl,_,rfl,iteT ⟨_,rfl,_,rfl,_,_,1,_,rfl,rfl,a,at1 _ _ _,d,_,v',kvs,rfl,hd',hv',q _ _ (Same.refl H) hI⟩⟩
 |whr ht=>
  cases hq with
  |whr a b c=>
   cases hu with
   |cons h1 t1=>
    cases t1
    refine ⟨_,rfl,_,_,0,_,rfl,rfl,a,at0 _ _,?_⟩
    refine ⟨_,rfl,rfl,_,rfl,iteF ⟨_,rfl,rfl,_,rfl,iteT ?_⟩⟩
    exact ⟨_,rfl,x,_,0,_,rfl,rfl,hx,at0 _ _,_,rfl,_,_,2,_,rfl,rfl,a,at2 _ _ _ _,_,_,_,_,rfl,h1,c.1,by have:=c.2.2;omega,ht,fun H' s'=>q _ _ s' (h1.same s')⟩
 |keep hk=>
  cases hq with
  |keep a b c=>
   cases hu with
   |cons h1 t1=>
    cases t1
    refine ⟨_,rfl,_,_,0,_,rfl,rfl,a,at0 _ _,?_⟩
    refine ⟨_,rfl,rfl,_,rfl,iteF ⟨_,rfl,rfl,_,rfl,iteF ⟨_,rfl,rfl,_,rfl,iteT ?_⟩⟩⟩
    exact ⟨_,rfl,x,_,0,_,rfl,rfl,hx,at0 _ _,_,rfl,_,_,2,_,rfl,rfl,a,at2 _ _ _ _,_,_,_,_,_,rfl,h1,aLu c,by have:=c.2.2;omega,hk,fun v' H' s' h'=>q _ _ s' h'⟩
 |nmd hl=>
  cases hq with
  |nmd a b c=>
   cases hu with
   |cons h1 t1=>
    cases t1
    obtain ⟨⟨n,ws,rfl,hn,hw⟩,c1,c2⟩:=c
    rw [aHi hw] at hn
    refine ⟨_,rfl,_,_,0,_,rfl,rfl,a,at0 _ _,?_⟩
    refine ⟨_,rfl,rfl,_,rfl,iteF ⟨_,rfl,rfl,_,rfl,iteF ⟨_,rfl,rfl,_,rfl,iteF ⟨_,rfl,rfl,_,rfl,iteT ?_⟩⟩⟩⟩
    exact ⟨_,rfl,x,_,0,_,rfl,rfl,hx,at0 _ _,_,rfl,_,_,2,_,rfl,rfl,a,at2 _ _ _ _,_,_,_,_,rfl,h1,⟨n,rfl,hn⟩,by omega,hl,fun v' H' s' h'=>q _ _ s' h'⟩
 |join hk n1 n2=>
  cases hq with
  |join a b c e=>
   cases hu with
   |cons h1 t1=>
    cases t1 with
    |cons h2 t2=>
     cases t2
     refine ⟨_,rfl,_,_,0,_,rfl,rfl,a,at0 _ _,?_⟩
     refine ⟨_,rfl,rfl,_,rfl,iteF ⟨_,rfl,rfl,_,rfl,iteF ⟨_,rfl,rfl,_,rfl,iteF ⟨_,rfl,rfl,_,rfl,iteF ⟨_,rfl,rfl,_,rfl,iteT ?_⟩⟩⟩⟩⟩
     exact ⟨_,rfl,x,_,0,_,rfl,rfl,hx,at0 _ _,_,rfl,x,_,1,_,rfl,rfl,hx,at1 _ _ _,_,rfl,_,_,3,_,rfl,rfl,a,atI_nat (j:=3) rfl,_,_,_,_,_,_,_,rfl,h1,h2,e.1,by have:=e.2.2;omega,hlen _ (by simp),hlen _ (by simp),hk,n1,n2,fun v' H' s' h'=>q _ _ s' h'⟩
 |group hk hj=>
  cases hq with
  |group a b c e=>
   cases hu with
   |cons h1 t1=>
    cases t1
    refine ⟨_,rfl,_,_,0,_,rfl,rfl,a,at0 _ _,?_⟩
    refine ⟨_,rfl,rfl,_,rfl,iteF ⟨_,rfl,rfl,_,rfl,iteF ⟨_,rfl,rfl,_,rfl,iteF ⟨_,rfl,rfl,_,rfl,iteF ⟨_,rfl,rfl,_,rfl,iteF ⟨_,rfl,rfl,_,rfl,iteT ?_⟩⟩⟩⟩⟩⟩
    exact ⟨_,rfl,x,_,0,_,rfl,rfl,hx,at0 _ _,_,rfl,_,_,2,_,rfl,rfl,a,at2 _ _ _ _,_,rfl,_,_,3,_,rfl,rfl,a,atI_nat (j:=3) rfl,_,_,_,_,_,_,_,_,rfl,h1,aLu c,by have:=c.2.2;omega,e.1,by have:=e.2.2;omega,hk,hj,fun v' H' s' h'=>q _ _ s' h'⟩
 |first hk nd=>
  cases hq with
  |first a b c e=>
   cases hu with
   |cons h1 t1=>
    cases t1
    refine ⟨_,rfl,_,_,0,_,rfl,rfl,a,at0 _ _,?_⟩
    refine ⟨_,rfl,rfl,_,rfl,iteF ⟨_,rfl,rfl,_,rfl,iteF ⟨_,rfl,rfl,_,rfl,iteF ⟨_,rfl,rfl,_,rfl,iteF ⟨_,rfl,rfl,_,rfl,iteF ⟨_,rfl,rfl,_,rfl,iteF ?_⟩⟩⟩⟩⟩⟩
    exact ⟨_,rfl,x,_,0,_,rfl,rfl,hx,at0 _ _,_,rfl,_,_,2,_,rfl,rfl,a,at2 _ _ _ _,_,_,_,_,_,rfl,h1,c.1,by have:=c.2.2;omega,hk,nd,fun H' s'=>q _ _ s' (h1.same s')⟩
inductive HQ (hs:Str→Option Hdr):Qn→Hdr→Prop
 |mk0 {q hd}:kids q=[]→HH hs q [] hd→Good hd→HQ hs q hd
 |mk1 {q k h1 hd}:kids q=[k]→HQ hs k h1→HH hs q [h1] hd→Good hd→HQ hs q hd
 |mk2 {q k l h1 h2 hd}:kids q=[k,l]→HQ hs k h1→HQ hs l h2→HH hs q [h1,h2] hd→Good hd→HQ hs q hd
theorem HQ.good {hs:Str→Option Hdr} {q:Qn} {hd:Hdr} (h:HQ hs q hd):Good hd:=by cases h <;> assumption
theorem HQ.in {hs:Str→Option Hdr} {q:Qn} {hd:Hdr} (h:HQ hs q hd):∃ihds,bF (HQ hs) (kids q) ihds∧HH hs q ihds hd∧Good hd:=by
 cases h with
 |mk0 e a b=>exact ⟨[],by rw [e];exact .nil,a,b⟩
 |mk1 e k a b=>exact ⟨[_],by rw [e];exact .cons k .nil,a,b⟩
 |mk2 e k l a b=>exact ⟨[_,_],by rw [e];exact .cons k (.cons l .nil),a,b⟩
def aFe (K:PySem.W.Frag):Sp:=fun vs H Q _=>∃v hd,vs=[v]∧cC K H v hd∧hd.length≤1000∧∀D H',Same H H'→H' D=some (.lst ((hd.map (·.1)).map V.str))→Q (.ref D) H'
theorem pH (T:Txt w K mg):Ok P w K mg base 1 "names_of" ["head"] (aFe K):=by
 refine Ok.ofV T.aFg aB9 (fun vs H Q E h=>?_) (fun f cdv A outer s H vs Q E hr h=>?_)
 ·obtain ⟨v,hd,rfl,_⟩:=h;rfl
 obtain ⟨v,hd,rfl,⟨a,us,rfl,ha,hu⟩,hl,q⟩:=h
 refine ⟨_,(aF (aG (bM (N:=["column"]) (by trivial) (eF (by decide +kernel)) rfl (dO (vv 0)) (fun cl s' H' fp=>⟨(aQ (i:=0) (show (["column"]:List Str).Nodup from by decide +kernel) rfl (Or.inl rfl)),bN,(aJ (dZ (K:=K)) (vv 0) aC (fun _ _=>rfl))⟩)))),?_⟩
 have lu:=hu.len
 refine gU us ((hd.map (·.1)).map V.str) (by rw [List.length_map,List.length_map];omega) [none] iI (small (by omega)) (fun R r=>iJ ha (fun R' r'=>⟨_,rfl,r'⟩) R r) (fun i x y ex ey H' R l sm r=>?_) rfl fun D H' sm hD=>q D H' sm hD
 obtain ⟨c,hc,p,rfl,hp⟩:=bC hu ex
 obtain ⟨n,hn,rfl⟩:=fV ey
 rw [List.getElem?_map,hc] at hn
 cases hn
 exact ⟨_,rfl,p,_,0,_,rfl,rfl,sm.aM hp,at0 _ _,r H' (Same.refl H')⟩
def aNq (K:PySem.W.Frag) (n:Nat):Sp:=fun vs H Q _=>∃d v hs q hd,vs=[.ref d,v]∧gF K H d hs∧IsQ K H v q∧size q≤n∧HQ hs q hd∧∀v' H',Same H H'→cC K H' v' hd→Q v' H'
theorem yR {k:Qn}:∀{qs:List Qn},k∈qs→size k≤sizes qs
 |q::qs,h=>by
  show size k≤(((q::qs).map size).sum)
  rw [List.map_cons,List.sum_cons]
  rcases List.mem_cons.mp h with rfl|h
  ·omega
  ·have:=yR h
   unfold sizes at this
   omega
theorem aEp {q k:Qn} (h:k∈kids q) {K:PySem.W.Frag} {H:Hp} {v:V} (hq:IsQ K H v q):size k<size q:=by
 have e:=mH q
 have o:=pU hq
 have:size k≤sizes (kids q):=by
  exact yR h
 omega
theorem aOw {α:Type} {l:List α} {i:Nat} {x:α} (h:l[i]?=some x):x∈l:=List.mem_of_getElem? h
theorem nF (T:Txt w K mg) (bZ:Ok P w K mg base 1 "questions_in" ["question"] (aHp K)) (tD:Ok P w K mg base 5 "head_here" ["heads","question","inner"] (aNx K)) (cF:Ok P w K mg base 2 "need_unlike" ["names"] (zU K)) (jZ:Ok P w K mg base 1 "names_of" ["head"] (aFe K)) :
  ∀n:Nat,Ok P w K mg base (n+6) "head_within" ["heads","question"] (aNq K n)
 |0=>by
  refine Ok.ofV T.nW eX (fun vs H Q E h=>?_) (fun f cdv A outer s H vs Q E hr h=>?_)
  ·obtain ⟨d,v,hs,q,hd,rfl,_⟩:=h;rfl
  ·obtain ⟨d,v,hs,q,hd,rfl,_,hq,hz,_⟩:=h
   have e:=mH q
   have o:=pU hq
   omega
 |n+1=>by
  have jP:=nF T bZ tD cF jZ n
  refine Ok.ofV T.nW eX (fun vs H Q E h=>?_) (fun f cdv A outer s H vs Q E hr h=>?_)
  ·obtain ⟨d,v,hs,q,hd,rfl,_⟩:=h;rfl
  obtain ⟨d,v,hs,q0,hd,rfl,hds,hq,hz,hh,q⟩:=h
  obtain ⟨ihds,hin,hone,hgood⟩:=hh.in
  refine ⟨_,(aD (nJ (i0:=2) eX.nd rfl (by trivial) (N:=["part","heads"]) (by trivial) (cR (defScope gA) rfl (by decide +kernel)) rfl (kZ (aH (bZ.mono (by omega)) hr (by rfl) (aB (vv 1) aA))) (fun cl s' H' fp=>⟨(aQ (i:=0) (show (["part","heads"]:List Str).Nodup from by decide +kernel) rfl (Or.inl rfl)),bN,(aH (jP.mono (by omega)) hr (by rfl) (aB (vv 1) (aB (vv 0) aA)))⟩)) (aD (aV (i:=3) eX.nd rfl (by trivial) (aH (tD.mono (by omega)) hr (by rfl) (aB (vv 0) (aB (vv 1) (aB (vv 2) aA))))) (aD (cN (aH (cF.mono (by omega)) hr (by rfl) (aB (aH (jZ.mono (by omega)) hr (by rfl) (aB (vv 3) aA)) aA))) (aD (bB (cJ (aDb op_le op_le aC (aK call_len_seq (by rfl) T.cU bY (aB (vv 3) aA)) (cQ (by rfl) T.vI))) (aF eG) aN) (aF (aG (vv 3))))))),?_⟩
  have l2:=hin.len
  have lk:(kids q0).length≤2:=by cases q0 <;> simp [kids]
  dsimp only [tSeq,tAsg]
  refine yJ (K:=K) (fun us=>bF (IsQ K H) us (kids q0)) (fun i H y=>∃h,ihds[i]?=some h∧cC K H y h) (fun e h=>?_) (fun e h=>?_) [none,some (.ref d)] ?_ rfl (fun R r=>⟨_,rfl,v,q0,H,rfl,Same.refl H,hq,fun D H1 us fD s1 gD hus=>r D H1 us s1 gD hus⟩) (fun us hus=>small (by have:=hus.len;omega)) (fun us hus i x ex H' R l sm r=>?_) fun us hus D2 H2 ys t2 g2 hly hR=>?_
  ·obtain ⟨h,h1,h2⟩:=h
   exact ⟨h,h1,h2.same e⟩
  ·obtain ⟨h,h1,⟨a,vs,rfl,ha,hv⟩⟩:=h
   exact ⟨h,h1,a,vs,rfl,ha.vY e,hv.imp fun _ _ ⟨p,ep,hp⟩=>⟨p,ep,hp.vY e⟩⟩
  ·exact dM 0 (by decide +kernel) rfl rfl (by trivial)
  ·obtain ⟨k,hk,hkq⟩:=bC hus ex
   obtain ⟨h,hh',hkh⟩:=bC hin hk
   have hkz:=aEp (aOw hk) hq
   exact ⟨_,rfl,_,rfl,d,x,hs,k,h,rfl,hds.same sm,hkq.same sm,by omega,hkh,fun v' H3 s3 h3=>r _ _ s3 ⟨h,hh',h3⟩⟩
  have l1:=hus.len
  have hall:bF (cC K H2) ys ihds:=zZ (by omega) fun i y h e1 e2=>by
   obtain ⟨h',e3,q3⟩:=hR i y e1
   rw [e2] at e3
   cases e3
   exact q3
  have hl100:∀h∈ihds,h.length≤100:=fun h hm=>by
   obtain ⟨i,hi,e⟩:=List.getElem_of_mem hm
   have hi':i<(kids q0).length:=by omega
   have:=(gM hin (List.getElem?_eq_getElem hi') (by rw [List.getElem?_eq_getElem hi,e])).good
   have:=this.2.2
   omega
  refine ⟨_,rfl,_,rfl,_,rfl,d,v,D2,ys,hs,q0,ihds,hd,rfl,hds.same t2,hq.same t2,SqL.of g2,hall,hl100,hone,fun v' H3 s3 h3=>?_⟩
  obtain ⟨g1,g2',g3⟩:=hgood
  refine ⟨_,rfl,v',hd,rfl,h3,by omega,fun D4 H4 s4 g4=>?_⟩
  refine ⟨D4,hd.map (·.1),rfl,SqL.of g4,(by rw [List.length_map];omega),g1,fun H5 s5=>?_⟩
  obtain ⟨a,zs,rfl,ha,hz'⟩:=h3
  have lz:=hz'.len
  refine ⟨_,rfl,_,_,rfl,.inr ((s4.trans s5).aM ha),_,_,rfl,rfl,_,rfl,?_⟩
  have e1:decide ((1:Int)≤(zs.length:Int))=true:=decide_eq_true (by omega)
  have e2:decide ((zs.length:Int)≤8)=true:=decide_eq_true (by omega)
  rw [e1]
  refine iteT ⟨_,_,rfl,rfl,_,rfl,?_⟩
  rw [e2]
  exact iteF ⟨_,rfl,q _ _ (t2.trans (s3.trans (s4.trans s5))) ⟨a,zs,rfl,(s4.trans s5).aM ha,hz'.imp fun _ _ h=>h.same (s4.trans s5)⟩⟩
def aCw (K:PySem.W.Frag):Sp:=fun vs H Q _=>∃d v hs q hd,vs=[.ref d,v]∧gF K H d hs∧IsQ K H v q∧size q≤20∧HQ hs q hd∧∀v' H',Same H H'→cC K H' v' hd→Q v' H'
theorem aGn (T:Txt w K mg) (jP:Ok P w K mg base 26 "head_within" ["heads","question"] (aNq K 20)) (aJp:Ok P w K mg base 8 "checked" ["thing"] (aJ0 K)):Ok P w K mg base 27 "head_of" ["heads","question"] (aCw K):=by
 refine Ok.ofV T.aIy aFv (fun vs H Q E h=>?_) (fun f cdv A outer s H vs Q E hr h=>?_)
 ·obtain ⟨d,v,hs,q,hd,rfl,_⟩:=h;rfl
 obtain ⟨d,v,hs,q0,hd,rfl,hds,hq,hz,hh,q⟩:=h
 refine ⟨_,(aF (aG (aH (jP.mono (by decide)) hr (by rfl) (aB (vv 0) (aB (aH (aJp.mono (by decide)) hr (by rfl) (aB (vv 1) aA)) aA))))),?_⟩
 exact ⟨_,rfl,_,rfl,v,q0,rfl,hq,hz,fun H1 s1=>⟨d,v,hs,q0,hd,rfl,hds.same s1,hq.same s1,hz,hh,fun v' H2 s2 h2=>q _ _ (s1.trans s2) h2⟩⟩
end
end My
namespace L2
open PySem PySem.Spec PyProof.Rows
section
variable {X:Cx}
def aP9 (K:PySem.W.Frag):List V→Hp→VK→Prop:=fun xs H Q=>∃(p:Addr) (bs:List Bool),xs=[.ref p]∧SqL K H p (bs.map V.bl)∧Q (.bl (bs.any id)) H
theorem any_range (bs:List Bool):(List.range bs.length).any (fun i=>bs.getD i false)=bs.any id:=by
 rw [Bool.eq_iff_iff,List.any_eq_true,List.any_eq_true]
 constructor
 ·rintro ⟨i,hi,h⟩
  have hi:=List.mem_range.mp hi
  rw [List.getD_eq_getElem?_getD,List.getElem?_eq_getElem hi] at h
  exact ⟨_,List.getElem_mem hi,h⟩
 ·rintro ⟨b,hb,h⟩
  obtain ⟨i,hi,e⟩:=List.mem_iff_getElem.mp hb
  refine ⟨i,List.mem_range.mpr hi,?_⟩
  rw [List.getD_eq_getElem?_getD,List.getElem?_eq_getElem hi]
  show bs[i]=true
  rw [e]
  exact h
theorem aEo (hc:X.calm=true):CallR X (.builtin "any") (aP9 X.K):=by
 intro pins s σ H xs us Q I r h
 obtain ⟨p,bs,rfl,hq,q⟩:=h
 obtain ⟨u,rfl,rx⟩:=r.one
 cases rx
 obtain ⟨its,rv,pl,hz⟩:=I.list hq
 have hl:=rv.length
 rw [List.length_map] at hl
 have hne:p≠s.heap.objs.size:=by
  obtain ⟨o,ho,_⟩:=pl.isList
  exact Nat.ne_of_lt (Heap.lt_size ho)
 refine call_any_walk (wpAny_pyIter_list pl.isList ?_)
 refine ⟨s.heap.objs.size,_,_,_,_,_,fun i=>bs.getD i false,rfl,Walks.list (show X.A.in1.handled=none from I.ok.hd hc) _ p hne its.toArray,⟨⟨_,Heap.get?_push_size _ rfl,rfl,rfl⟩,?_⟩,?_,fun h' tk kp=>?_⟩
 ·exact pl.isList.at fun o e=>Heap.get?_push_of_some _ e
 ·intro i v s' Q' E' hv hq'
  have hv':its[i]?=some v:=by simpa using hv
  have hi:i<bs.length:=by rw [hl];exact (List.getElem?_eq_some_iff.mp hv').1
  obtain ⟨u,hu,ru⟩:=rv.get (i:=i) (x:=.bl bs[i]) (by rw [List.getElem?_map,List.getElem?_eq_getElem hi];rfl)
  rw [hv'] at hu
  cases hu
  cases ru
  have e:bs.getD i false=bs[i]:=by rw [List.getD_eq_getElem?_getD,List.getElem?_eq_getElem hi];rfl
  replace hq':Q' (bs.getD i false) s':=hq'
  rw [e] at hq'
  exact wpAny_truthy_bool hq'
 ·have e:(List.range its.toArray.size).any (fun i=>bs.getD i false)=bs.any id:=by
   rw [List.size_toArray,←hl];exact any_range bs
  rw [e]
  refine ⟨.bl (bs.any id),H,?_,rfl,q⟩
  exact I.kept fun b o eo=>kp b o (by
   intro z
   have:b=s.heap.objs.size:=by simpa using z
   rw [this] at eo
   exact absurd (Heap.lt_size eo) (Nat.lt_irrefl _)) (Heap.get?_push_of_some _ eo)
def aOm:List V→Hp→VK→Prop:=fun xs H Q=>∃z:Str,xs=[.str z]∧z.length≤1000∧∀l H',H l=none→Same H H'→H' l=some (.lst ((List.range z.cps.size).map fun i=>V.str (sgn z i)))→Q (.ref l) H'
theorem vH (z:Str):∀(n k:Nat) (vs:List Value),vs.length=n→(∀(j:Nat) (v:Value),vs[j]?=some v→∃t,v=.str (sgn z (k+j)) t)→Vals ((List.range' k n).map fun i=>V.str (sgn z i)) vs
 |0,k,[],_,_=>.nil
 |n+1,k,v::vs,hl,h=>by
  obtain ⟨t,rfl⟩:=h 0 v rfl
  rw [List.range'_succ,List.map_cons]
  refine .cons ⟨t,rfl⟩ (vH z n (k+1) vs (by simpa using hl) fun j u e=>?_)
  obtain ⟨t',e'⟩:=h (j+1) u e
  exact ⟨t',by rw [e',show k+(j+1)=k+1+j by omega]⟩
theorem aGe (hc:X.calm=true):CallR X (.type "list") aOm:=by
 intro pins s σ H xs us Q I r h
 obtain ⟨z,rfl,hl,q⟩:=h
 obtain ⟨u,rfl,t,rfl⟩:=vals1 r
 refine call_list_str (I.ok.hd hc) z t (fun h' tk acc' c' kp hS hacc=>?_) (small hl)
 have hv:=vH z z.cps.size 0 acc'.toList (by rw [Array.length_toList];exact hacc.1) fun j v e=>by
  have hj:=hacc.2 j v (by rw [←Array.getElem?_toList];exact e)
  obtain ⟨c,t',e1,e2⟩:=hj
  refine ⟨t',?_⟩
  rw [e2]
  unfold sgn
  rw [Nat.zero_add,Array.getD_eq_getD_getElem?,e1]
  rfl
 rw [←List.range_eq_range'] at hv
 have ea:acc'.toList.toArray=acc':=by simp
 have hf:H s.heap.objs.size=none:=I.hok.fresh (Nat.le_refl _)
 refine ⟨.ref s.heap.objs.size,_,I.laid (t':=tk) (o:=.lst ((List.range z.cps.size).map fun i=>V.str (sgn z i))) kp (Nat.le_refl _) ?_,rfl,q _ _ hf (aX hf _) upd_same⟩
 refine ⟨by rw [List.length_map,List.length_range];exact small hl,acc'.toList,c',hv,?_⟩
 rw [ea]
 exact hS
end
theorem aFo {X:Cx} {K:PySem.W.Frag} (h:X.K=K:=by rfl):OpR X (compareOp .In) (rIn K false):=by subst h;exact op_in_seq
structure aL9 (E:Hp→Hp→Prop) (H:Hp):Prop where
 new:∀D o,H D=none→E H (upd H D o)
 trans:∀{H1 H2},E H H1→E H1 H2→E H H2
 upd:∀D o H',H D=none→E H H'→E H (upd H' D o)
 keep:∀D H1 H2 xs,H D=none→E H H1→H1 D=some (.lst xs)→E H1 H2→H2 D=some (.lst xs)
theorem aHw (H:Hp):aL9 Same H:=⟨fun D o h=>aX h o,fun a b=>a.trans b,fun D o H' h s=>gG h s,fun D H1 H2 xs _ _ h s=>s _ _ h⟩
def uT (J:It) (H1:Hp) (σ0:L2.St) (g:TG) (tt:TT) (te:TE) (Q:VK):Prop:=∀D,H1 D=none→∃W:Nat→Nat→L2.St→Hp→List V→Prop,(∃m,W 0 m σ0 (L2.upd H1 D (.lst [])) []) ∧
 ∀i m σ' H' ys,W i m σ' H' ys→H' D=some (.lst ys)∧((J.stop i H'∧Q (.ref D) H')∨(J.go i H'∧∀x H2,J.yld i H' x H2→g x σ' H2 fun σ3 H3=>tt σ3 H3 fun b H4=>
  if b=true then te σ3 H4 fun y H5=>H5 D=some (.lst ys)∧ys.length<sizeLine∧∃m',m'<m∧W (i+1) m' σ3 (L2.upd H5 D (.lst (ys++[y]))) (ys++[y]) else H4 D=some (.lst ys)∧∃m',m'<m∧W (i+1) m' σ3 H4 ys))
section
variable {X:Cx} {K:PySem.W.Frag} {scope:Scope} {N:List Str} {tl te:TE} {tt:TT} {g:TG} {σ:L2.St} {H:Hp} {Q:VK}
theorem uV (σ0:L2.St) (cap:Cap X scope N σ σ0) (h:tl σ H fun v H1=>∃a,v=.ref a∧(∃xs,SqL K H1 a xs)∧uT (Itl K a) H1 σ0 g tt te Q):gO X scope N (iList K tl) g tt te σ H Q:=⟨σ0,cap,h⟩
theorem vL (σ0:L2.St) (cap:Cap X scope N σ σ0) (h:tl σ H fun v H1=>∃a,v=.ref a∧(∃xs,SqT K H1 a xs)∧uT (Itt K a) H1 σ0 g tt te Q):gO X scope N (iTup K tl) g tt te σ H Q:=⟨σ0,cap,h⟩
theorem aFd {a:Addr} {xs:List V} {E:Hp→Hp→Prop} (hS:∀H',E H H'→SqT K H' a xs):∀H' i x,E H H'→xs[i]?=some x→(Itt K a).go i H'∧∀y H2,(Itt K a).yld i H' y H2→H2=H'∧y=x:=fun H' i x s e=>
 ⟨⟨xs,x,hS H' s,e⟩,fun y H2 hy=>by
  obtain ⟨e1,e2⟩:=hy
  have e3:=e2 xs (hS H' s)
  rw [e] at e3
  cases e3
  exact ⟨e1,rfl⟩⟩
theorem uN {a:Addr} {xs:List V} {E:Hp→Hp→Prop} (hS:∀H',E H H'→SqT K H' a xs):∀H',E H H'→(Itt K a).stop xs.length H':=fun H' s=>⟨xs,hS H' s,Nat.le_refl _⟩
theorem aM8 {a:Addr} {xs:List V} {E:Hp→Hp→Prop} (hS:∀H',E H H'→SqL K H' a xs):∀H' i x,E H H'→xs[i]?=some x→(Itl K a).go i H'∧∀y H2,(Itl K a).yld i H' y H2→H2=H'∧y=x:=fun H' i x s e=>
 ⟨⟨xs,x,hS H' s,e⟩,fun y H2 hy=>by
  obtain ⟨e1,e2⟩:=hy
  have e3:=e2 xs (hS H' s)
  rw [e] at e3
  cases e3
  exact ⟨e1,rfl⟩⟩
theorem aJw {a:Addr} {xs:List V} {E:Hp→Hp→Prop} (hS:∀H',E H H'→SqL K H' a xs):∀H',E H H'→(Itl K a).stop xs.length H':=fun H' s=>⟨xs,hS H' s,Nat.le_refl _⟩
inductive jX (R:Nat→V→Prop):List Nat→List V→Prop
 |nil:jX R [] []
 |cons {i y is ys}:R i y→jX R is ys→jX R (i::is) (y::ys)
theorem jX.snoc {R:Nat→V→Prop} {is:List Nat} {ys:List V} {i:Nat} {y:V} (h:jX R is ys) (r:R i y):jX R (is++[i]) (ys++[y]):=by
 induction h with
 |nil=>exact .cons r .nil
 |cons r' _ ih=>exact .cons r' ih
theorem jX.imp {R S:Nat→V→Prop} {is:List Nat} {ys:List V} (h:jX R is ys) (k:∀i y,R i y→S i y):jX S is ys:=by
 induction h with
 |nil=>exact .nil
 |cons r _ ih=>exact .cons (k _ _ r) ih
theorem jX.len {R:Nat→V→Prop} {is:List Nat} {ys:List V} (h:jX R is ys):is.length=ys.length:=by
 induction h with
 |nil=>rfl
 |cons _ _ ih=>rw [List.length_cons,List.length_cons,ih]
theorem aB4 {σ0:L2.St} (E:Hp→Hp→Prop) (eo:aL9 E H) (xs:List V) (p:Nat→Bool) (Rel:Nat→Hp→V→Prop)
  (st:∀{i H1 H2 y},E H H1→E H1 H2→Rel i H1 y→Rel i H2 y) (su:∀{i H1 D ys zs y},H D=none→E H H1→H1 D=some (.lst ys)→Rel i H1 y→Rel i (L2.upd H1 D (.lst zs)) y)
  (At:Nat→L2.St→Prop) (Ps:L2.St→Prop) (h0:Ps σ0) (hsz:xs.length≤sizeLine)
  (J:It) (go:∀H' i x,E H H'→xs[i]?=some x→J.go i H'∧∀y H2,J.yld i H' y H2→H2=H'∧y=x) (stop:∀H',E H H'→J.stop xs.length H')
  (hg:∀(i:Nat) (x:V) σ' H' Q',xs[i]?=some x→Ps σ'→E H H'→(∀σ2,Ps σ2→At i σ2→Q' σ2 H')→g x σ' H' Q')
  (ht:∀(i:Nat) (x:V) σ2,xs[i]?=some x→At i σ2→∀H' R,E H H'→(∀H2,E H' H2→R (p i) H2)→tt σ2 H' R)
  (he:∀(i:Nat) (x:V) σ2,xs[i]?=some x→At i σ2→p i=true→∀H' R,E H H'→(∀y H2,E H' H2→Rel i H2 y→R y H2)→te σ2 H' R)
  (q:∀D H' ys,E H H'→H D=none→H' D=some (.lst ys)→jX (fun i y=>Rel i H' y) (sel p 0 (List.range xs.length)) ys→Q (.ref D) H'):uT J H σ0 g tt te Q:=by
 intro D hD
 refine ⟨fun i m σ' H' ys=>i≤xs.length∧m=xs.length - i∧Ps σ'∧E H H'∧H' D=some (.lst ys)∧jX (fun i y=>Rel i H' y) (sel p 0 (List.range i)) ys,⟨xs.length,Nat.zero_le _,rfl,h0,eo.new _ _ hD,upd_same,.nil⟩,?_⟩
 rintro i m σ' H' ys ⟨hi,rfl,hps,sm,hL,hR⟩
 refine ⟨hL,?_⟩
 by_cases hlt:i<xs.length
 ·right
  have hx:=List.getElem?_eq_getElem hlt
  obtain ⟨g1,g2⟩:=go H' i xs[i] sm hx
  refine ⟨g1,fun x H2 hy=>?_⟩
  obtain ⟨rfl,rfl⟩:=g2 x H2 hy
  have tk:sel p 0 (List.range (i+1))=sel p 0 (List.range i)++(if p i then [i] else []):=by
   rw [List.range_succ,vR,List.length_range,Nat.zero_add]
  have lR:=hR.len
  have lS:=uB p 0 (List.range i)
  rw [List.length_range] at lS
  refine hg i xs[i] σ' _ _ hx hps sm fun σ2 hp2 hat=>?_
  refine ht i xs[i] σ2 hx hat _ _ sm fun H3 s3=>?_
  have sm3:=eo.trans sm s3
  have hL3:=eo.keep D _ _ _ hD sm hL s3
  cases hp:p i with
  |true=>
   rw [if_pos rfl]
   refine he i xs[i] σ2 hx hat hp _ _ sm3 fun y H4 s4 r4=>?_
   have sm4:=eo.trans sm3 s4
   have hL4:=eo.keep D _ _ _ hD sm3 hL3 s4
   refine ⟨hL4,by omega,xs.length - (i+1),by omega,hlt,rfl,hp2,eo.upd D _ _ hD sm4,upd_same,?_⟩
   rw [tk,hp]
   exact jX.snoc (hR.imp fun j z r=>su hD sm4 hL4 (st sm3 s4 (st sm s3 r))) (su hD sm4 hL4 r4)
  |false=>
   rw [if_neg (by simp)]
   refine ⟨hL3,xs.length - (i+1),by omega,hlt,rfl,hp2,sm3,hL3,?_⟩
   rw [tk,hp]
   simp only [Bool.false_eq_true,if_false,List.append_nil]
   exact hR.imp fun j z r=>st sm s3 r
 ·left
  have e:i=xs.length:=by omega
  subst e
  exact ⟨stop _ sm,q D _ ys sm hD hL hR⟩
theorem aP3 {σ0:L2.St} (E:Hp→Hp→Prop) (eo:aL9 E H) (xs:List V) (Rel:Nat→Hp→V→Prop)
  (st:∀{i H1 H2 y},E H H1→E H1 H2→Rel i H1 y→Rel i H2 y) (su:∀{i H1 D ys zs y},H D=none→E H H1→H1 D=some (.lst ys)→Rel i H1 y→Rel i (L2.upd H1 D (.lst zs)) y)
  (At:Nat→L2.St→Prop) (Ps:L2.St→Prop) (h0:Ps σ0) (hsz:xs.length≤sizeLine)
  (J:It) (go:∀H' i x,E H H'→xs[i]?=some x→J.go i H'∧∀y H2,J.yld i H' y H2→H2=H'∧y=x) (stop:∀H',E H H'→J.stop xs.length H')
  (hg:∀(i:Nat) (x:V) σ' H' Q',xs[i]?=some x→Ps σ'→E H H'→(∀σ2,Ps σ2→At i σ2→Q' σ2 H')→g x σ' H' Q')
  (ht:∀(i:Nat) (x:V) σ2,xs[i]?=some x→At i σ2→∀H' R,E H H'→(∀b H2,E H' H2→R b H2)→tt σ2 H' R)
  (he:∀(i:Nat) (x:V) σ2,xs[i]?=some x→At i σ2→∀H' R,E H H'→(∀y H2,E H' H2→Rel i H2 y→R y H2)→te σ2 H' R)
  (q:∀D H' ys,E H H'→H D=none→H' D=some (.lst ys)→(∃is:List Nat,is.Sublist (List.range xs.length)∧jX (fun i y=>Rel i H' y) is ys)→Q (.ref D) H'):uT J H σ0 g tt te Q:=by
 intro D hD
 refine ⟨fun i m σ' H' ys=>i≤xs.length∧m=xs.length - i∧Ps σ'∧E H H'∧H' D=some (.lst ys)∧∃is:List Nat,is.Sublist (List.range i)∧jX (fun i y=>Rel i H' y) is ys,⟨xs.length,Nat.zero_le _,rfl,h0,eo.new _ _ hD,upd_same,[],List.nil_sublist _,.nil⟩,?_⟩
 rintro i m σ' H' ys ⟨hi,rfl,hps,sm,hL,is,hsub,hR⟩
 refine ⟨hL,?_⟩
 by_cases hlt:i<xs.length
 ·right
  have hx:=List.getElem?_eq_getElem hlt
  obtain ⟨g1,g2⟩:=go H' i xs[i] sm hx
  refine ⟨g1,fun x H2 hy=>?_⟩
  obtain ⟨rfl,rfl⟩:=g2 x H2 hy
  have lR:=hR.len
  have lS:=hsub.length_le
  rw [List.length_range] at lS
  refine hg i xs[i] σ' _ _ hx hps sm fun σ2 hp2 hat=>?_
  refine ht i xs[i] σ2 hx hat _ _ sm fun bb H3 s3=>?_
  have sm3:=eo.trans sm s3
  have hL3:=eo.keep D _ _ _ hD sm hL s3
  cases bb with
  |true=>
   rw [if_pos rfl]
   refine he i xs[i] σ2 hx hat _ _ sm3 fun y H4 s4 r4=>?_
   have sm4:=eo.trans sm3 s4
   have hL4:=eo.keep D _ _ _ hD sm3 hL3 s4
   refine ⟨hL4,by omega,xs.length - (i+1),by omega,hlt,rfl,hp2,eo.upd D _ _ hD sm4,upd_same,is++[i],by rw [List.range_succ];exact hsub.append (List.Sublist.refl _),?_⟩
   exact jX.snoc (hR.imp fun j z r=>su hD sm4 hL4 (st sm3 s4 (st sm s3 r))) (su hD sm4 hL4 r4)
  |false=>
   rw [if_neg (by simp)]
   refine ⟨hL3,xs.length - (i+1),by omega,hlt,rfl,hp2,sm3,hL3,is,by rw [List.range_succ];exact hsub.trans (List.sublist_append_left _ _),?_⟩
   exact hR.imp fun j z r=>st sm s3 r
 ·left
  have e:i=xs.length:=by omega
  subst e
  exact ⟨stop _ sm,q D _ ys sm hD hL ⟨is,hsub,hR⟩⟩
end
def At1 (σ0:L2.St) (v:V) (σ:L2.St):Prop:=∃l,σ=(σ0.set 0 l).set 0 (some v)
def Ps1 (σ0:L2.St) (σ:L2.St):Prop:=∃l,σ=σ0.set 0 l
def At2 (σ0:L2.St) (a b:V) (σ:L2.St):Prop:=σ=(σ0.set 0 (some a)).set 1 (some b)
def Ps2 (σ0:L2.St) (σ:L2.St):Prop:=∃l m,σ=(σ0.set 0 l).set 1 m
theorem hg1 {σ0:L2.St} {i:Nat} {x:V} {σ':L2.St} {H':Hp} {Q':L2.St→Hp→Prop} (h:Ps1 σ0 σ') (q:∀σ2,Ps1 σ0 σ2→At1 σ0 x σ2→Q' σ2 H'):gName 0 x σ' H' Q':=by
 obtain ⟨l,rfl⟩:=h
 exact q _ ⟨some x,by rw [List.set_set]⟩ ⟨l,rfl⟩
theorem hg2 {K:PySem.W.Frag} {σ0:L2.St} {p:Addr} {a b:V} {σ':L2.St} {H':Hp} {Q':L2.St→Hp→Prop} (hp:SqT K H' p [a,b]) (h:Ps2 σ0 σ') (q:∀σ2,Ps2 σ0 σ2→At2 σ0 a b σ2→Q' σ2 H'):gTup K 2 (gCons (gName 0) (gCons (gName 1) gNil)) (.ref p) σ' H' Q':=by
 obtain ⟨l,m,rfl⟩:=h
 have e:(((σ0.set 0 l).set 1 m).set 0 (some a)).set 1 (some b)=(σ0.set 0 (some a)).set 1 (some b):=by
  rw [List.set_comm _ _ (show (1:Nat)≠0 by decide),List.set_set,List.set_set]
 refine ⟨p,_,rfl,hp,rfl,_,_,rfl,_,_,rfl,rfl,?_⟩
 show Q' ((((σ0.set 0 l).set 1 m).set 0 (some a)).set 1 (some b)) H'
 rw [e]
 exact q _ ⟨some a,some b,rfl⟩ rfl
theorem qH (xs:List V) (n:Nat):cutV xs none (some (n:Int))=xs.take n:=by
 unfold cutV
 rw [HT.sIx_none,HT.sIx_nat,List.drop_zero,Nat.sub_zero]
 by_cases h:n≤xs.length
 ·rw [Nat.min_eq_left h]
 ·rw [Nat.min_eq_right (by omega),List.take_length,List.take_of_length_le (by omega)]
def aPm (K:PySem.W.Frag):V→Option Int→Option Int→Hp→VK→Prop:=fun x lo hi H Q=>∃a xs,x=.ref a∧SqL K H a xs∧∀p H',H p=none→Same H H'→H' p=some (.lst (cutV xs lo hi))→Q (.ref p) H'
theorem jW {X:Cx}:SlR X (aPm X.K):=fun pins s σ H x v vl vu lo hi sl Q I rx hs pl pu ⟨a,xs,e,ha,q⟩=>
 sl_list pins s σ H x v vl vu lo hi sl Q I rx hs pl pu ⟨a,xs,e,ha,fun p hp=>q p _ hp (aX hp _) upd_same⟩
end L2
namespace HT
open PySem PySem.Spec PyProof.Rows L2
section
variable {prog:Program} {w:World} {A:Around} {E:Value→Shared→Prop} {s:Shared}
end
end HT
namespace L2
open PySem PySem.Spec PyProof.Rows
def aP8 (K:PySem.W.Frag):R2:=fun x y H Q=>∃(a b:Addr) (xs:List V),x=.ref a∧y=.ref b∧SqL K H a xs∧SqL K H b []∧Q (.bl xs.isEmpty) H
theorem aOv {X:Cx} (hu:X.A.units<cLine):OpR X (compareOp .Eq) (aP8 X.K):=by
 intro pins s σ H x y v u Q I rx ry h
 obtain ⟨a,b,xs,rfl,rfl,ha,hb,q⟩:=h
 cases rx
 cases ry
 obtain ⟨its,rv,pl,hz⟩:=I.list ha
 obtain ⟨jts,rw',pm,hw⟩:=I.list hb
 have e1:=rv.length
 have e2:=rw'.length
 have ej:jts=[]:=List.length_eq_zero_iff.mp e2.symm
 subst ej
 cases xs with
 |nil=>
  have ei:its=[]:=List.length_eq_zero_iff.mp e1.symm
  subst ei
  refine SeqAt.RcAt.lists (e:=fun _=>true) pl.isList pm.isList rfl hu (fun j h1 h2=>by simp at h1) _ _ _ _ ?_
  exact ⟨.bl true,H,I,rfl,q⟩
 |cons y ys=>
  refine SeqAt.RcAt.lists_lengths pl.isList pm.isList ?_ hu _ _ _ _ ?_
  ·rw [List.length_cons] at e1
   simp only [List.size_toArray,List.length_nil]
   rw [←e1]
   simp
  ·exact ⟨.bl false,H,I,rfl,q⟩
section
variable {X:Cx}
end
inductive PH (P:Program) (w:World):List DictEntry→List (Str × Value)→Prop
 |nil:PH P w [] []
 |cons {e:DictEntry} {kv:Str × Value} {es:List DictEntry} {kvs:List (Str × Value)}:(strKind P w).is kv.1 e.key=true→e.hash=(strKind P w).hash kv.1→e.val=kv.2→PH P w es kvs→PH P w (e::es) (kv::kvs)
theorem PH.keys {P:Program} {w:World} {es:List DictEntry} {kvs:List (Str × Value)} (h:PH P w es kvs):∀e∈es,∃k,(strKind P w).is k e.key=true∧e.hash=(strKind P w).hash k:=by
 induction h with
 |nil=>intro e he;cases he
 |cons a b c _ ih=>
  intro e he
  rcases List.mem_cons.mp he with rfl|he
  ·exact ⟨_,a,b⟩
  ·exact ih e he
theorem PH.pairs {P:Program} {w:World} {es:List DictEntry} {kvs:List (Str × Value)} (h:PH P w es kvs):Pairs (strKind P w) es kvs:=by
 induction h with
 |nil=>exact .nil
 |cons a b c _ ih=>exact .cons a c ih
theorem aI3 {P:Program} {w:World} {o:Obj} {es:Array DictEntry} {ep:Nat} {kvs:List (Str × Value)} (hx:o.ExactDict) (hd:o.data=.dict es ep) (h:PH P w es.toList kvs) (nd:(kvs.map (·.1)).Nodup):o.IsDictOf (strKind P w) kvs:=
 ⟨es,ep,hx,hd,fun e he=>h.keys e (Array.mem_toList_iff.mpr he),h.pairs,nd⟩
end L2
namespace PySem
section
variable {prog:Program} {w:World} {A:Around} {E:Value→Shared→Prop} {s:Shared}
end
end PySem
namespace PySem
section
variable {prog:Program} {w:World} {κ:Type} [DecidableEq κ] {knd:KeyKind prog w κ}
end
end PySem
namespace PySem
section
variable {prog:Program} {w:World} {κ:Type} [DecidableEq κ] {knd:KeyKind prog w κ} {A:Around} {E:Value→Shared→Prop} {s:Shared}
end
end PySem
namespace PySem
open PySem.Calls PyProof.Rows
section
variable {prog:Program} {w:World} {κ:Type} [DecidableEq κ] {knd:PySem.KeyKind prog w κ} {A:Around} {E:Value→Shared→Prop} {s:Shared}
end
end PySem
namespace L2
open PySem PySem.Spec PyProof.Rows
section
variable {X:Cx}
end
section
variable {X:Cx} {e st:Expr} {te ts:TE} {pos p2:Pos}
end
section
variable {X:Cx} {o i value:Expr} {td ty tv:TE} {pos pos':Pos}
end
theorem aL6 {X:Cx} {pos:Pos} {o i:Expr} {to ti:TE} {t:TSet} (ho:VE X o to) (hi:VE X i ti) (hs:PSet X t)
  (ha:∀v,assign (.Subscript o i pos) X.env v=(do
   let ov ←holding [v] (eval o X.env)
   let iv ←holding [v,ov] (eval i X.env)
   standAt pos
   holding [v,ov,iv] (setItem ov iv v)
   release [v,ov,iv] []):=by intro _;rfl):VG X (.Subscript o i pos) (gSub to ti t):=⟨pg_sub ho.1 hi.1 hs ha⟩
theorem tE {X:Cx}:MtR X "list.reverse" rReverse:=mt_reverse
abbrev M61:Int:=2305843009213693951
def iZ (H:Hp) (a:Addr):Prop:=∃s d:Int,H a=some (.lst [.int s,.int d])∧(0≤s∧s<M61)∧0≤d
structure Fx (a:Addr) (H H':Hp):Prop where
 same:∀b o,b≠a→H b=some o→H' b=some o
 st:iZ H' a
theorem Fx.trans {a:Addr} {H H1 H2:Hp} (f:Fx a H H1) (g:Fx a H1 H2):Fx a H H2:=⟨fun b o n e=>g.same b o n (f.same b o n e),g.st⟩
theorem iZ.same {a:Addr} {H H':Hp} (h:iZ H a) (e:Same H H'):iZ H' a:=by
 obtain ⟨s,d,h1,h2⟩:=h
 exact ⟨s,d,e _ _ h1,h2⟩
theorem Fx.of {a:Addr} {H H':Hp} (h:iZ H a) (e:Same H H'):Fx a H H':=⟨fun b o _ q=>e b o q,h.same e⟩
theorem Fx.refl {a:Addr} {H:Hp} (h:iZ H a):Fx a H H:=.of h (Same.refl H)
theorem Fx.sm {a:Addr} {H H1 H2:Hp} (f:Fx a H H1) (e:Same H1 H2):Fx a H H2:=f.trans (.of f.st e)
theorem iZ.ne {a p:Addr} {H:Hp} (h:iZ H a) (f:H p=none):p≠a:=by
 obtain ⟨s,d,h1,_⟩:=h
 exact (ne_of_none h1 f).symm
theorem Fx.aM {K:PySem.W.Frag} {a p:Addr} {H H':Hp} {xs:List V} (f:Fx a H H') (h:iZ H a) (e:SqT K H p xs):SqT K H' p xs:=by
 obtain ⟨s,d,h1,_⟩:=h
 rcases e with (e|⟨o,e⟩)|e
 ·exact .inl (.inl (f.same p _ (ne_of e h1 (by intro z;cases z)) e))
 ·exact .inl (.inr ⟨o,f.same p _ (ne_of e h1 (by intro z;cases z)) e⟩)
 ·exact .inr e
theorem Fx.upd {a D:Addr} {H H':Hp} {o:HO} (f:Fx a H H') (hD:H D=none) (ne:D≠a):Fx a H (L2.upd H' D o):=⟨fun b u n e=>by rw [upd_ne (ne_of_none e hD)];exact f.same b u n e,by
 obtain ⟨s,d,h1,h2⟩:=f.st
 exact ⟨s,d,by rw [upd_ne ne.symm];exact h1,h2⟩⟩
theorem Fx.free {a p:Addr} {H H':Hp} (f:Fx a H H') (h:H' p=none):H p=none:=by
 cases e:H p with
 |none=>rfl
 |some o=>
  by_cases z:p=a
  ·subst z
   obtain ⟨s,d,hs,_⟩:=f.st
   rw [hs] at h;cases h
  ·rw [f.same p o z e] at h;cases h
theorem aHk {a:Addr} {H:Hp} (h:iZ H a):aL9 (Fx a) H:=⟨fun D o hD=>.of h (aX hD o),fun a b=>a.trans b,fun D o H' hD f=>f.upd hD (h.ne hD),fun D H1 H2 xs hD _ e f=>f.same _ _ (h.ne hD) e⟩
theorem aIt:bootBuiltins "divmod"=some (.builtin "divmod"):=by decide +kernel
def aP0:List V→Hp→VK→Prop:=fun xs H Q=>∃i j,xs=[.int i,.int j]∧(0<j∧j<2 ^ 64)∧∀p H',H p=none→Same H H'→H' p=some (.tup [.int (i / j),.int (i % j)])→Q (.ref p) H'
theorem aH8 {X:Cx}:CallR X (.builtin "divmod") aP0:=by
 intro pins s σ H xs us Q I r h
 obtain ⟨i,j,rfl,⟨h1,h2⟩,q⟩:=h
 obtain ⟨u,w',rfl,⟨t,rfl⟩,⟨t',rfl⟩⟩:=vals2 r
 have h64:j.natAbs<2 ^ 64:=by omega
 have hlog:j.natAbs.log2<9000:=by
  have:=(Nat.log2_lt (show j.natAbs≠0 by omega)).mpr h64
  omega
 refine divmod_int (by omega) ?_ (.inl (PyProof.noPylong_of_log2 hlog))
 rw [Int.fdiv_eq_ediv_of_nonneg i (by omega),Int.fmod_eq_emod_of_nonneg i (by omega)]
 have hn:H s.heap.objs.size=none:=I.hok.fresh (Nat.le_refl _)
 refine ⟨.ref s.heap.objs.size,upd H s.heap.objs.size (.tup [.int (i / j),.int (i % j)]),?_,rfl,q _ _ hn (aX hn _) upd_same⟩
 refine I.laid (fun b o e=>Heap.get?_push_of_some _ e) (Nat.le_refl _) ⟨by simp only [List.length_cons,List.length_nil];rw [sizeLine_eq];decide,[.int (i / j) s.toks,.int (i % j) (s.toks+1)],.cons ⟨_,rfl⟩ (.cons ⟨_,rfl⟩ .nil),?_⟩
 exact .of (Heap.get?_push_size s.heap rfl) rfl ⟨_,Heap.get?_push_size s.heap rfl,rfl,0,rfl⟩
end L2
namespace PySem
section
variable {prog:Program} {w:World} {A:Around} {E:Value→Shared→Prop} {s:Shared}
end
section
variable {prog:Program} {w:World} {κ:Type} [DecidableEq κ] {knd:KeyKind prog w κ}
end
end PySem
namespace PySem
section
variable {prog:Program} {w:World} {A:Around} {E:Value→Shared→Prop} {s:Shared}
end
section
variable {prog:Program} {w:World} {κ:Type} [DecidableEq κ] {knd:KeyKind prog w κ} {A:Around} {E:Value→Shared→Prop} {s:Shared}
end
end PySem
namespace L2
open PySem PySem.Spec PyProof.Rows
section
variable {X:Cx} {a b:Expr} {ta:TA} {pos p pos2 p2:Pos}
end
end L2
namespace My
open PySem PySem.Spec PyProof.Rows L2
section
variable {P:Program} {w:World} {K:PySem.W.Frag} {mg:Str→Option Value} {base:Heap}
theorem aH2 {z:Str} {j:Int} (h0:0≤j) (h1:j<z.length):∃c,z.cps[j.toNat]?=some c:=
 ⟨_,Array.getElem?_eq_getElem (by show j.toNat<z.length;omega)⟩
theorem zM (x y:Str):(x++y).length=x.length+y.length:=by
 show (x.cps++y.cps).size=_
 rw [Array.size_append]
 rfl
theorem at_of {xs:List V} {j:Int} (h0:0≤j) (h1:j<xs.length):∃v,atI xs j=some v∧v∈xs:=by
 have hj:j.toNat<xs.length:=by omega
 refine ⟨xs[j.toNat],?_,List.getElem_mem hj⟩
 have e2:atI xs ((j.toNat:Nat):Int)=some xs[j.toNat]:=atI_nat (List.getElem?_eq_getElem hj)
 rw [show ((j.toNat:Nat):Int)=j by omega] at e2
 exact e2
def Lets (x:Str):Prop:=∀c∈x.cps,97≤c∧c≤122
theorem aM4:∀k:_root_.Fin 26,inA ⟨#[97+k.val]⟩=true:=by decide +kernel
theorem aOu {c:Nat} (h1:97≤c) (h2:c≤122):inA ⟨#[c]⟩=true:=by
 have:=aM4 ⟨c - 97,by omega⟩
 simp only at this
 rw [show 97+(c - 97)=c by omega] at this
 exact this
theorem allIn_of {x:Str} (h:Lets x):allIn x=true:=by
 unfold allIn
 rw [List.all_eq_true]
 intro b hb
 obtain ⟨i,hi,rfl⟩:=List.mem_map.mp hb
 have hi':i<x.cps.size:=List.mem_range.mp hi
 have e:x.cps.getD i 0=x.cps[i]:=by rw [Array.getD_eq_getD_getElem?,Array.getElem?_eq_getElem hi'];rfl
 obtain ⟨h1,h2⟩:=h _ (Array.getElem_mem hi')
 show inA (sgn x i)=true
 unfold sgn
 rw [e]
 exact aOu h1 h2
theorem Lets.add {x y:Str} (hx:Lets x) (hy:Lets y):Lets (x++y):=fun c hc=>by
 have hc:c∈x.cps++y.cps:=hc
 rcases Array.mem_append.mp hc with h|h
 ·exact hx c h
 ·exact hy c h
theorem Lets.one {z:Str} {i c:Nat} (hz:Lets z) (h:z.cps[i]?=some c):Lets ⟨#[c]⟩:=fun d hd=>by
 have hd:d∈#[c]:=hd
 have e:d=c:=by simpa using hd
 subst e
 exact hz _ (Array.mem_of_getElem? h)
theorem aEa:Lets abc:=by
 have h:(abc.cps.all fun c=>decide (97≤c) && decide (c≤122))=true:=by decide +kernel
 intro c hc
 have:=(Array.all_eq_true_iff_forall_mem.mp h) c hc
 rw [Bool.and_eq_true] at this
 exact ⟨of_decide_eq_true this.1,of_decide_eq_true this.2⟩
inductive sS:Str→V→Prop
 |num {i}:sS "number" (.int i)
 |wrd {x}:Lets x→x.length≤8→sS "word" (.str x)
def aBq (K:PySem.W.Frag):Sp:=fun vs H Q _=>∃(a:Addr) (ns:List Int),vs=[.ref a]∧SqL K H a (ns.map V.int)∧ns.length≤63∧∀c H',Same H H'→0≤c→c<M61→Q (.int c) H'
theorem aAn (T:Txt w K mg):Ok P w K mg base 1 "_law_seed" ["_law_script"] (aBq K):=by
 refine Ok.ofV T.aC0 eY (fun vs H Q E h=>?_) (fun f cdv A outer s H vs Q E hr h=>?_)
 ·obtain ⟨a,ns,rfl,_⟩:=h;rfl
 obtain ⟨a,ns,rfl,ha,h63,q⟩:=h
 refine ⟨_,(aD (aV (i:=1) eY.nd rfl (by trivial) aC) (aD (iM PassesOwn.never rfl (aNf (by rfl) T.aCl (aB (vv 0) aA)) (vX rfl (bK (aQ (i:=2) eY.nd rfl (by trivial)) (bK (aQ (i:=3) eY.nd rfl (by trivial)) gZ))) (aF (aV (i:=1) eY.nd rfl (by trivial) (bH op_mod (bH op_add (bH op_add (bH op_add (bH op_mul (vv 1) aC) (bH op_mod (vv 3) (bH op_pow aC aC))) (bH op_mul aC (vv 2))) aC) aC)))) (aF (aG (vv 1))))),?_⟩
 refine ⟨_,rfl,a,ns.map V.int,rfl,ha,aJ4 (fun i σ H'=>Same H H'∧∃(c:Int) (l2 l3:Option V),0≤c∧c<M61∧σ=[some (.ref a),some (.int c),l2,l3]) ⟨Same.refl H,7,_,_,by decide,by decide,rfl⟩ (fun i σ H' _ ⟨e,_⟩=>e.seq ha) ?_ ?_⟩
 ·rintro i σ H' x Tp H'' ex ⟨sm,c,l2,l3,c0,c1,rfl⟩ hT rfl
  obtain ⟨z,hz,rfl⟩:=fV ex
  refine ⟨Tp,_,rfl,SqT.of upd_same,rfl,_,_,rfl,_,_,rfl,rfl,?_⟩
  refine ⟨_,rfl,_,_,rfl,rfl,.inr ⟨by decide,by decide⟩,_,rfl,_,_,rfl,rfl,⟨by decide,by decide,by decide⟩,_,_,rfl,rfl,(by show (0:Int)<10 ^ 30;decide),_,_,rfl,rfl,_,rfl,_,_,rfl,rfl,.inl ⟨by decide,by decide⟩,_,_,rfl,rfl,_,_,rfl,rfl,_,_,rfl,rfl,(by show (0:Int)<2305843009213693951;decide),?_⟩
  exact ⟨sm.trans (aX hT _),_,_,_,Int.emod_nonneg _ (by decide),Int.emod_lt_of_pos _ (by decide),rfl⟩
 ·rintro σ H' ⟨sm,c,l2,l3,c0,c1,rfl⟩
  exact ⟨_,rfl,q c H' sm c0 c1⟩
def jJ:Sp:=fun vs H Q _=>∃(a:Addr) (m:Int),vs=[.ref a,.int m]∧iZ H a∧(0<m∧m<2 ^ 64)∧∀c H',Fx a H H'→0≤c→c<m→Q (.int c) H'
theorem aA0 (T:Txt w K mg):Ok P w K mg base 1 "_law_next" ["_law_state","_law_many"] jJ:=by
 refine Ok.ofV T.aDg qJ (fun vs H Q E h=>?_) (fun f cdv A outer s H vs Q E hr h=>?_)
 ·obtain ⟨a,m,rfl,_⟩:=h;rfl
 obtain ⟨a,m,rfl,⟨st,dg,hs,s0,d0⟩,⟨hm,hm2⟩,q⟩:=h
 refine ⟨_,(aD (bB (aO op_gt (aJ ix_list (vv 0) aC (fun _ _=>rfl)) aC (nomark _)) (aD (aKv (aK aH8 (by rfl) T.aJ6 aIt (aB (aJ ix_list (vv 0) aC (fun _ _=>rfl)) (aB (vv 1) aA))) (vX rfl (bK (aL6 (vv 0) aC set_list) (bK (aQ (i:=2) qJ.nd rfl (by trivial)) gZ)))) (aF (aG (vv 2)))) aN) (aD (aKv (bH op_mod (bH op_add (bH op_mul (aJ ix_list (vv 0) aC (fun _ _=>rfl)) aC) aC) aC) (aL6 (vv 0) aC set_list)) (aF (aG (bH op_mod (bH op_fdiv (aJ ix_list (vv 0) aC (fun _ _=>rfl)) aC) (vv 1)))))),?_⟩
 refine ⟨_,rfl,a,_,1,_,rfl,rfl,SqL.of hs,at1 _ _ _,_,_,rfl,rfl,_,rfl,ite2 (fun c=>?_) fun c=>?_⟩
 ·refine ⟨_,rfl,a,_,1,_,rfl,rfl,SqL.of hs,at1 _ _ _,_,rfl,_,_,rfl,⟨hm,hm2⟩,fun p H1 fp s1 g1=>?_⟩
  refine ⟨p,_,rfl,SqT.of g1,rfl,_,_,rfl,⟨_,rfl,a,_,1,1,rfl,rfl,s1 _ _ hs,rfl,?_⟩⟩
  refine ⟨_,_,rfl,rfl,_,rfl,?_⟩
  exact q _ _ ⟨fun b o n h=>by rw [upd_ne n];exact s1 _ _ h,st,dg / m,upd_same,s0,Int.ediv_nonneg d0 (by omega)⟩ (Int.emod_nonneg _ (by omega)) (Int.emod_lt_of_pos _ hm)
 ·refine ⟨_,rfl,a,_,0,_,rfl,rfl,SqL.of hs,at0 _ _,_,_,rfl,rfl,.inr ⟨by decide,by decide⟩,_,_,rfl,rfl,_,_,rfl,rfl,(by show (0:Int)<2305843009213693951;decide),?_⟩
  refine ⟨_,rfl,a,_,0,0,rfl,rfl,hs,rfl,?_⟩
  refine ⟨_,rfl,a,[.int ((st * 1181783497276652981+12345678910987) % 2305843009213693951),.int dg],0,_,rfl,rfl,SqL.of upd_same,at0 _ _,_,_,rfl,rfl,⟨by decide,by decide⟩,_,rfl,_,_,rfl,rfl,hm,?_⟩
  exact q _ _ ⟨fun b o n h=>by rw [upd_ne n];exact h,(st * 1181783497276652981+12345678910987) % 2305843009213693951,dg,upd_same,⟨Int.emod_nonneg _ (by decide),Int.emod_lt_of_pos _ (by decide)⟩,d0⟩ (Int.emod_nonneg _ (by omega)) (Int.emod_lt_of_pos _ hm)
def aEk (K:PySem.W.Frag):Sp:=fun vs H Q _=>∃(a:Addr) (ns:List Int),vs=[.ref a]∧SqL K H a (ns.map V.int)∧ns.length≤63∧∀p H',H p=none→Same H H'→iZ H' p→Q (.ref p) H'
theorem wQ (T:Txt w K mg) (aDa:Ok P w K mg base 1 "_law_seed" ["_law_script"] (aBq K)):Ok P w K mg base 2 "_law_begin" ["_law_script"] (aEk K):=by
 refine Ok.ofV T.aAd jQ (fun vs H Q E h=>?_) (fun f cdv A outer s H vs Q E hr h=>?_)
 ·obtain ⟨a,ns,rfl,_⟩:=h;rfl
 obtain ⟨a,ns,rfl,ha,h63,q⟩:=h
 refine ⟨_,(aD (aV (i:=1) jQ.nd rfl (by trivial) aC) (aD (bB (VW.pt (aLb (aO op_gt (aK call_len_seq (by rfl) T.cU bY (aB (vv 0) aA)) aC (nomark _)) (aHf (aO op_eq (bH op_mod (aJ ix_list (vv 0) aC (fun _ _=>rfl)) aC) aC (nomark _))))) (aF (aV (i:=1) jQ.nd rfl (by trivial) (bH op_fdiv (aK call_abs (by rfl) T.aPw aN6 (aB (aJ ix_list (vv 0) aC (fun _ _=>rfl)) aA)) aC))) aN) (aF (aG (cG (aB (aH (aDa.mono (by decide)) hr (by rfl) (aB (vv 0) aA)) (aB (vv 1) aA))))))),?_⟩
 have fin:∀dg:Int,0≤dg→∀(σ:L2.St),σ=[some (.ref a),some (.int dg)]→(tRet (aN3 (tCons (tCall (aBq K) [] E0 (tCons (tVar 0) tNil)) (tCons (tVar 1) tNil)))) { nx:=fun _ H'=>Q V.non H',rt:=Q } σ H:=by
  rintro dg d0 σ rfl
  exact ⟨_,rfl,a,ns,rfl,ha,h63,fun c H1 s1 c0 c1=>⟨_,rfl,(by show 2≤sizeLine;decide),fun p H2 fp s2 g2=>q p H2 (s1.free fp) (s1.trans s2) ⟨c,dg,g2,⟨c0,c1⟩,d0⟩⟩⟩
 refine ⟨_,rfl,a,_,rfl,.inl ha,_,_,rfl,rfl,_,rfl,?_⟩
 cases ns with
 |nil=>exact iteF (fin 0 (by decide) _ rfl)
 |cons n r=>
  have e1:decide ((0:Int)<((n::r).map V.int).length)=true:=decide_eq_true (by simp)
  rw [show (decide (((((n::r).map V.int).length:Nat):Int) > 0))=true from e1]
  refine iteT ⟨_,rfl,a,_,0,.int n,rfl,rfl,ha,at0 _ _,_,_,rfl,rfl,(by show (0:Int)<2;decide),rfl,_,rfl,ite2 (fun c=>?_) fun c=>?_⟩
  ·exact ⟨_,rfl,a,_,0,.int n,rfl,rfl,ha,at0 _ _,_,rfl,_,_,rfl,rfl,⟨by decide,by decide⟩,fin _ (Int.ediv_nonneg (by split <;> omega) (by decide)) _ rfl⟩
  ·exact fin 0 (by decide) _ rfl
def aEj:Sp:=fun vs H Q _=>∃a:Addr,vs=[.ref a]∧iZ H a∧∀i H',Fx a H H'→Q (.int i) H'
theorem wG (T:Txt w K mg) (aL:Ok P w K mg base 1 "_law_next" ["_law_state","_law_many"] jJ):Ok P w K mg base 2 "_law_great" ["_law_state"] aEj:=by
 refine Ok.ofV T.aA1 gC (fun vs H Q E h=>?_) (fun f cdv A outer s H vs Q E hr h=>?_)
 ·obtain ⟨a,rfl,_⟩:=h;rfl
 obtain ⟨a,rfl,hs,q⟩:=h
 refine ⟨_,(aD (aV (i:=1) gC.nd rfl (by trivial) aC) (aD (iM PassesOwn.never rfl (fK (by rfl) T.jC (aB aC aA)) (aQ (i:=2) gC.nd rfl (by trivial)) (aF (aV (i:=1) gC.nd rfl (by trivial) (bH op_add (bH op_mul (vv 1) (bH op_pow aC aC)) (aH (aL.mono (by decide)) hr (by rfl) (aB (vv 0) (aB (bH op_pow aC aC) aA))))))) (aF (aG (aJ ix_list (cG (aB (vv 1) (aB (bH op_sub aC (vv 1)) aA))) (aH (aL.mono (by decide)) hr (by rfl) (aB (vv 0) (aB aC aA))) (fun _ _=>rfl)))))),?_⟩
 refine ⟨_,rfl,by decide,by decide,for_range (n:=4) (fun i σ H'=>Fx a H H'∧∃(c:Int) (l2:Option V),σ=[some (.ref a),some (.int c),l2]) ⟨.refl hs,0,_,rfl⟩ ?_ ?_⟩
 ·rintro i σ H' hi ⟨fx,c,l2,rfl⟩
  refine ⟨_,rfl,_,_,rfl,rfl,⟨by decide,by decide,by decide⟩,_,_,rfl,rfl,.inr ⟨by decide,by decide⟩,_,rfl,_,_,rfl,rfl,⟨by decide,by decide,by decide⟩,a,_,rfl,fx.st,(by show (0:Int)<10 ^ 15∧(10:Int) ^ 15<2 ^ 64;decide),fun d H1 f1 _ _=>?_⟩
  exact ⟨_,_,rfl,rfl,fx.trans f1,_,_,rfl⟩
 ·rintro σ H' ⟨fx,c,l2,rfl⟩
  refine ⟨_,rfl,_,rfl,_,_,rfl,rfl,(by show 2≤sizeLine;decide),fun p H1 fp s1 g1=>?_⟩
  refine ⟨_,rfl,a,2,rfl,fx.st.same s1,by decide,fun d H2 f2 d0 d1=>?_⟩
  obtain ⟨v,hv,mv⟩:=at_of (xs:=[.int c,.int (0 - c)]) d0 (by show d<2;omega)
  refine ⟨p,_,_,v,rfl,rfl,SqL.of (f2.same _ _ (fx.st.ne fp) g1),hv,?_⟩
  simp only [List.mem_cons,List.not_mem_nil,or_false] at mv
  rcases mv with rfl|rfl
  ·exact q _ _ ((fx.sm s1).trans f2)
  ·exact q _ _ ((fx.sm s1).trans f2)
abbrev aGb:List V:=[.str "",.str "a",.str "b",.str "ab"]
def aMw (k:Str):Prop:=k = "number"∨k = "word"
def aHu:Sp:=fun vs H Q _=>∃(a:Addr) (kd:Str),vs=[.ref a,.str kd]∧iZ H a∧aMw kd∧∀v H',Fx a H H'→sS kd v→Q v H'
theorem aGh {v:V} (h:v∈aGb):sS "word" v:=by
 simp only [aGb,List.mem_cons,List.not_mem_nil,or_false] at h
 have le:∀x:Str,(x.cps.all fun c=>decide (97≤c) && decide (c≤122))=true→Lets x:=fun x hx c hc=>by
  have:=(Array.all_eq_true_iff_forall_mem.mp hx) c hc
  rw [Bool.and_eq_true] at this
  exact ⟨of_decide_eq_true this.1,of_decide_eq_true this.2⟩
 rcases h with rfl|rfl|rfl|rfl
 ·exact .wrd (le _ (by decide +kernel)) (by decide +kernel)
 ·exact .wrd (le _ (by decide +kernel)) (by decide +kernel)
 ·exact .wrd (le _ (by decide +kernel)) (by decide +kernel)
 ·exact .wrd (le _ (by decide +kernel)) (by decide +kernel)
theorem xK (T:Txt w K mg) (aL:Ok P w K mg base 1 "_law_next" ["_law_state","_law_many"] jJ) (aBf:Ok P w K mg base 2 "_law_great" ["_law_state"] aEj):Ok P w K mg base 3 "_law_value" ["_law_state","_law_kind"] aHu:=by
 refine Ok.ofV T.zE dB (fun vs H Q E h=>?_) (fun f cdv A outer s H vs Q E hr h=>?_)
 ·obtain ⟨a,kd,rfl,_⟩:=h;rfl
 obtain ⟨a,kd,rfl,hs,hk,q⟩:=h
 refine ⟨_,(aD (aV (i:=2) dB.nd rfl (by trivial) (aH (aL.mono (by decide)) hr (by rfl) (aB (vv 0) (aB aC aA)))) (aD (bB (aO op_eq (vv 1) aP (nomark _)) (aF (aG (aJ ix_list (cG (aB (bH op_sub (aH (aL.mono (by decide)) hr (by rfl) (aB (vv 0) (aB aC aA))) aC) (aB (aH (aBf.mono (by decide)) hr (by rfl) (aB (vv 0) aA)) aA))) (bR call_int1 (by rfl) T.aKz aGz (aB (cW op_eq (vv 2) aC (nomark _)) aA)) (fun _ _=>rfl)))) aN) (aD (bB (aO op_lt (vv 2) aC (nomark _)) (aF (aG (aJ ix_list (cG (aB aP (aB aP (aB aP (aB aP aA))))) (bH op_mod (vv 2) aC) (fun _ _=>rfl)))) aN) (aD (aV (i:=3) dB.nd rfl (by trivial) aP) (aD (iM PassesOwn.never rfl (fK (by rfl) T.jC (aB (aH (aL.mono (by decide)) hr (by rfl) (aB (vv 0) (aB aC aA))) aA)) (aQ (i:=4) dB.nd rfl (by trivial)) (aF (aV (i:=3) dB.nd rfl (by trivial) (bH op_add_str (vv 3) (mX aP (aH (aL.mono (by decide)) hr (by rfl) (aB (vv 0) (aB aC aA))) (fun _ _=>rfl)))))) (aF (aG (vv 3)))))))),?_⟩
 refine ⟨_,rfl,a,10,rfl,hs,by decide,fun way H1 f1 w0 w1=>?_⟩
 rcases hk with rfl|rfl
 ·refine ⟨_,rfl,rfl,_,rfl,iteT ?_⟩
  refine ⟨_,rfl,a,4,rfl,f1.st,by decide,fun d H2 f2 d0 d1=>?_⟩
  refine ⟨_,_,rfl,rfl,_,rfl,a,rfl,f2.st,fun g H3 f3=>?_⟩
  refine ⟨(by show 2≤sizeLine;decide),fun p H4 _ s4 g4=>?_⟩
  have fx:=(f1.trans (f2.trans f3)).sm s4
  refine ⟨_,rfl,rfl,.inr ⟨_,rfl,?_⟩⟩
  by_cases e:way=9
  ·rw [decide_eq_true (congrArg V.int e)]
   exact ⟨p,_,_,_,rfl,rfl,SqL.of g4,atI_nat (j:=1) rfl,q _ _ fx .num⟩
  ·rw [decide_eq_false (by intro z;exact e (V.int.inj z))]
   exact ⟨p,_,_,_,rfl,rfl,SqL.of g4,atI_nat (j:=0) rfl,q _ _ fx .num⟩
 ·refine ⟨_,rfl,rfl,_,rfl,iteF ?_⟩
  refine ⟨_,rfl,_,_,rfl,rfl,_,rfl,ite2 (fun _=>?_) (fun _=>?_)⟩
  ·refine ⟨(by show 4≤sizeLine;decide),fun p H4 _ s4 g4=>?_⟩
   obtain ⟨v,hv,mv⟩:=at_of (xs:=aGb) (j:=way % 4) (by omega) (by show way % 4<4;omega)
   exact ⟨_,rfl,_,_,rfl,rfl,(by show (0:Int)<4;decide),p,_,_,v,rfl,rfl,SqL.of g4,hv,q _ _ (f1.sm s4) (aGh mv)⟩
  ·refine ⟨_,rfl,a,9,rfl,f1.st,by decide,fun n H2 f2 n0 n1=>?_⟩
   refine ⟨_,rfl,by omega,by omega,for_range (n:=n.toNat) (fun i σ H'=>Fx a H H'∧∃(x:Str) (l4:Option V),σ=[some (.ref a),some (.str "word"),some (.int way),some (.str x),l4]∧x.length≤i∧Lets x) ⟨f1.trans f2,_,_,rfl,by decide +kernel,fun d hd=>by simp [show (("":Str).cps)=#[] from rfl] at hd⟩ ?_ ?_⟩
   ·rintro i σ H' hi ⟨fx,x,l4,rfl,hl,hx⟩
    have al:abc.length=26:=by decide +kernel
    refine ⟨_,rfl,_,rfl,a,26,rfl,fx.st,by decide,fun d H3 f3 d0 d1=>?_⟩
    obtain ⟨ch,hch⟩:=aH2 (z:=abc) d0 (by rw [al];exact d1)
    refine ⟨_,_,_,rfl,rfl,d0,(by omega),(by rw [al];exact d1),hch,_,_,rfl,rfl,?_,fx.trans f3,_,_,rfl,?_,hx.add (aEa.one hch)⟩
    ·show x.length+1≤sizeLine
     exact small (by omega)
    ·rw [zM]
     show x.length+1≤i+1
     omega
   ·rintro σ H' ⟨fx,x,l4,rfl,hl,hx⟩
    exact ⟨_,rfl,q _ _ fx (.wrd hx (by omega))⟩
def xZ:Sp:=fun vs H Q _=>vs=[]∧∀p H',H p=none→Same H H'→H' p=some (.lst words)→Q (.ref p) H'
theorem xU (T:Txt w K mg):Ok P w K mg base 1 "_law_words" [] xZ:=by
 refine Ok.ofV T.aBt nY (fun vs H Q E h=>?_) (fun f cdv A outer s H vs Q E hr h=>?_)
 ·obtain ⟨rfl,_⟩:=h;rfl
 obtain ⟨rfl,q⟩:=h
 refine ⟨_,(aD (aV (i:=0) nY.nd rfl (by trivial) (cG (aB aP (aB aP (aB aP (aB aP (aB aP (aB aP (aB aP (aB aP (aB aP aA))))))))))) (aF (aG (bH aCz (vv 0) (cG (aB aP (aB aP (aB aP (aB aP (aB aP (aB aP (aB aP (aB aP aA))))))))))))),?_⟩
 refine ⟨(by show 9≤sizeLine;decide),fun p1 H1 _ s1 g1=>?_⟩
 refine ⟨_,rfl,(by show 8≤sizeLine;decide),fun p2 H2 _ s2 g2=>?_⟩
 exact ⟨p1,p2,_,_,rfl,rfl,s2 _ _ g1,g2,(by show 9+8≤sizeLine;decide),fun p H3 f3 s3 g3=>q p H3 ((s1.trans s2).free f3) (s1.trans (s2.trans s3)) g3⟩
def sW (ns:List Str):Prop:=ns.length=17∧(∀n∈ns,Nm n)∧ns.Nodup
theorem sW.rev {ns:List Str} (h:sW ns):sW ns.reverse:=⟨by rw [List.length_reverse];exact h.1,fun n hn=>h.2.1 n (List.mem_reverse.mp hn),List.pairwise_reverse.mpr (h.2.2.imp fun q=>Ne.symm q)⟩
theorem aOz:∀j:_root_.Fin 26,abc.cps[j.val]?=some (97+j.val):=by decide +kernel
theorem aMa {j:Nat} (h:j<26):abc.cps[j]?=some (97+j):=aOz ⟨j,h⟩
def sgl (o:Nat):List Str:=(List.range 17).map fun k=>⟨#[97+(o+k)]⟩
theorem aG6:∀o:_root_.Fin 10,((sgl o.val).all fun n=>nameB (.str n))=true∧(Txt.slice abc (some (o.val:Int)) (some ((o.val:Int)+17))).cps.size=17∧((List.range 17).all fun i=>decide (sgn (Txt.slice abc (some (o.val:Int)) (some ((o.val:Int)+17))) i=⟨#[97+(o.val+i)]⟩))=true:=by decide +kernel
theorem aKk {a b:Nat} (h:(⟨#[a]⟩:Str)=⟨#[b]⟩):a=b:=by
 have:=congrArg (fun x:Str=>x.cps.toList) h
 simpa using this
theorem aKl {o:Nat} (h:o<10):sW (sgl o):=by
 refine ⟨by simp [sgl],fun n hn=>?_,?_⟩
 ·have:=(aG6 ⟨o,h⟩).1
  rw [List.all_eq_true] at this
  exact this n hn
 ·refine List.pairwise_map.mpr (List.Pairwise.imp_of_mem ?_ List.nodup_range)
  intro k l _ _ ne e
  have:=aKk e
  exact ne (by omega)
theorem aMu {o:Nat} (h:o<10):((List.range (Txt.slice abc (some (o:Int)) (some ((o:Int)+17))).cps.size).map fun i=>V.str (sgn (Txt.slice abc (some (o:Int)) (some ((o:Int)+17))) i))=(sgl o).map V.str:=by
 obtain ⟨_,h2,h3⟩:=aG6 ⟨o,h⟩
 have h2:(Txt.slice abc (some (o:Int)) (some ((o:Int)+17))).cps.size=17:=h2
 rw [h2]
 unfold sgl
 rw [List.map_map]
 refine List.map_congr_left fun i hi=>?_
 rw [List.all_eq_true] at h3
 have:=of_decide_eq_true (h3 i hi)
 show V.str _=V.str _
 exact congrArg V.str this
def stm (b:Str) (a o:Nat):Nat→List Str:=fun i=>(List.range i).map fun k=>put b a (97+(o+k))
theorem aOx {b:Str} {a o:Nat} (hb:Lets b) (hl:b.length≤7) (ha:a≤b.length) (ho:o<10) (hw:∀w∈words,inV w ((stm b a o 17).map V.str)=false):sW (stm b a o 17):=by
 refine ⟨by simp [stm],fun n hn=>?_,?_⟩
 ·obtain ⟨k,hk,rfl⟩:=List.mem_map.mp hn
  have hk:=List.mem_range.mp hk
  have hin:inV (.str (put b a (97+(o+k)))) words=false:=by
   cases e:inV (.str (put b a (97+(o+k)))) words with
   |false=>rfl
   |true=>
    exfalso
    unfold inV at e
    rw [List.any_eq_true] at e
    obtain ⟨v,hv,ev⟩:=e
    have hvs:∃z:Str,v=.str z:=by
     simp only [words,List.mem_cons,List.not_mem_nil,or_false] at hv
     rcases hv with rfl|rfl|rfl|rfl|rfl|rfl|rfl|rfl|rfl|rfl|rfl|rfl|rfl|rfl|rfl|rfl|rfl <;> exact ⟨_,rfl⟩
    obtain ⟨z,rfl⟩:=hvs
    have e2:(z == put b a (97+(o+k)))=true:=ev
    have e3:z=put b a (97+(o+k)):=by simpa using e2
    have:=hw _ hv
    rw [aG2,decide_eq_false_iff_not] at this
    exact this (by rw [e3];exact hn)
  show ((decide (1≤(put b a (97+(o+k))).length) && (decide ((put b a (97+(o+k))).length≤8) && allIn (put b a (97+(o+k))))) && !inV (.str (put b a (97+(o+k)))) words)=true
  have hL:Lets (put b a (97+(o+k))):=fun c hc=>by
   rcases aMd ha hc with rfl|z
   ·omega
   ·exact hb c z
  rw [aM2 ha,decide_eq_true (p:=1≤b.length+1) (by omega),decide_eq_true (p:=b.length+1≤8) (by omega),allIn_of hL,hin]
  rfl
 ·refine List.pairwise_map.mpr (List.Pairwise.imp_of_mem ?_ List.nodup_range)
  intro k l _ _ ne e
  have:=aNd ha e
  exact ne (by omega)
def aLw:Sp:=fun vs H Q _=>∃a:Addr,vs=[.ref a,.int 17]∧iZ H a∧∀p H' ns,Fx a H H'→H p=none→H' p=some (.lst (ns.map V.str))→sW ns→Q (.ref p) H'
theorem xM (T:Txt w K mg) (aL:Ok P w K mg base 1 "_law_next" ["_law_state","_law_many"] jJ) (aAs:Ok P w K mg base 1 "_law_words" [] xZ):Ok P w K mg base 2 "_law_names" ["_law_state","_law_many"] aLw:=by
 refine Ok.ofV T.aA5 bI (fun vs H Q E h=>?_) (fun f cdv A outer s H vs Q E hr h=>?_)
 ·obtain ⟨a,rfl,_⟩:=h;rfl
 obtain ⟨a,rfl,hs,q⟩:=h
 refine ⟨_,(aD (aV (i:=2) bI.nd rfl (by trivial) aP) (aD (aV (i:=3) bI.nd rfl (by trivial) (aH (aL.mono (by decide)) hr (by rfl) (aB (vv 0) (aB (bH op_sub aC (vv 1)) aA)))) (aD (aV (i:=4) bI.nd rfl (by trivial) aP) (aD (iM PassesOwn.never rfl (fK (by rfl) T.jC (aB (aH (aL.mono (by decide)) hr (by rfl) (aB (vv 0) (aB aC aA))) aA)) (aQ (i:=5) bI.nd rfl (by trivial)) (aF (aV (i:=4) bI.nd rfl (by trivial) (bH op_add_str (vv 4) (mX (vv 2) (aH (aL.mono (by decide)) hr (by rfl) (aB (vv 0) (aB aC aA))) (fun _ _=>rfl)))))) (aD (aV (i:=6) bI.nd rfl (by trivial) (aH (aL.mono (by decide)) hr (by rfl) (aB (vv 0) (aB (bH op_add (aK call_len_str (by rfl) T.cU bY (aB (vv 4) aA)) aC) aA)))) (aD (aV (i:=7) bI.nd rfl (by trivial) (cG aA)) (aD (iM PassesOwn.never rfl (fK (by rfl) T.jC (aB (vv 1) aA)) (aQ (i:=5) bI.nd rfl (by trivial)) (aF (cN (aDt PySem.F.plainAttrs_list PySem.F.slot_list_append PySem.F.type_list_append uK (vv 7) (aB (bH op_add_str (bH op_add_str (cV aA6 (vv 4) gQ (cX (vv 6))) (mX (vv 2) (bH op_add (vv 3) (vv 5)) (fun _ _=>rfl))) (cV aA6 (vv 4) (cX (vv 6)) gQ)) aA))))) (aD (bB (cA (aK (aEo rfl) (by rfl) T.aNo aKg (aB (bM (N:=["_law_word","_law_names_here"]) (by trivial) (cR (defScope gR) rfl (by decide +kernel)) rfl (kZ (aOe (aAs.mono (by decide)) hr (by rfl))) (fun cl s' H' fp=>⟨(aQ (i:=0) (show (["_law_word","_law_names_here"]:List Str).Nodup from by decide +kernel) rfl (Or.inl rfl)),bN,(cW (aFo (K:=K)) (vv 0) (vv 1) (by with_unfolding_all rfl))⟩)) aA))) (aF (aV (i:=7) bI.nd rfl (by trivial) (bR (aGe rfl) (by rfl) T.vD qM (aB (cV aA6 (vv 2) (cX (vv 3)) (cX (bH op_add (vv 3) (vv 1)))) aA)))) aN) (aD (bB (aO op_eq (aH (aL.mono (by decide)) hr (by rfl) (aB (vv 0) (aB aC aA))) aC (nomark _)) (aF (cN (uQ PySem.F.plainAttrs_list PySem.F.slot_list_reverse PySem.F.type_list_reverse tE (vv 7)))) aN) (aF (aG (vv 7)))))))))))),?_⟩
 have al:abc.length=26:=by decide +kernel
 refine ⟨_,rfl,_,rfl,_,_,rfl,rfl,a,10,rfl,hs,by decide,fun od H1 f1 o0 o1=>?_⟩
 obtain ⟨o,rfl⟩:∃o:Nat,od=o:=⟨od.toNat,by omega⟩
 have ho:o<10:=by omega
 refine ⟨_,rfl,a,8,rfl,f1.st,by decide,fun n H2 f2 n0 n1=>?_⟩
 refine ⟨_,rfl,by omega,by omega,for_range (n:=n.toNat) (fun i σ H'=>Fx a H H'∧∃(x:Str) (l5:Option V),σ=[some (.ref a),some (.int 17),some (.str abc),some (.int (o:Nat)),some (.str x),l5,none,none]∧x.length≤i∧Lets x) ⟨f1.trans f2,_,_,rfl,by decide +kernel,fun d hd=>by simp [show (("":Str).cps)=#[] from rfl] at hd⟩ ?_ ?_⟩
 ·rintro i σ H' hi ⟨fx,x,l5,rfl,hl,hx⟩
  refine ⟨_,rfl,_,rfl,_,rfl,a,26,rfl,fx.st,by decide,fun d H3 f3 d0 d1=>?_⟩
  obtain ⟨ch,hch⟩:=aH2 (z:=abc) d0 (by rw [al];exact d1)
  refine ⟨_,_,_,rfl,rfl,d0,(by omega),(by rw [al];exact d1),hch,_,_,rfl,rfl,?_,fx.trans f3,_,_,rfl,?_,hx.add (aEa.one hch)⟩
  ·show x.length+1≤sizeLine
   exact small (by omega)
  ·rw [zM]
   show x.length+1≤i+1
   omega
 rintro σ H3 ⟨f3,b,l5,rfl,hl,hb⟩
 have hb7:b.length≤7:=by omega
 refine ⟨_,rfl,_,rfl,_,rfl,small (by omega),_,_,rfl,rfl,a,_,rfl,f3.st,(by show (0:Int)<(b.length:Int)+1∧(b.length:Int)+1<2 ^ 64;omega),fun ai H4 f4 a0 a1=>?_⟩
 obtain ⟨at',rfl⟩:∃at':Nat,ai=at':=⟨ai.toNat,by omega⟩
 have ha:at'≤b.length:=by
  have:(at':Int)<(b.length:Int)+1:=a1
  omega
 have fx4:=f3.trans f4
 refine ⟨(by show 0≤sizeLine;decide),fun p H5 fp s5 g5=>?_⟩
 have fp0:H p=none:=fx4.free fp
 have npa:p≠a:=hs.ne fp0
 refine ⟨_,rfl,_,rfl,by decide,by decide,for_range (n:=17) (fun i σ H'=>Fx a H H'∧H' p=some (.lst ((stm b at' o i).map V.str))∧∃l5,σ=[some (.ref a),some (.int 17),some (.str abc),some (.int (o:Nat)),some (.str b),l5,some (.int (at':Nat)),some (.ref p)]) ⟨fx4.sm s5,g5,_,rfl⟩ ?_ ?_⟩
 ·rintro i σ H' hi ⟨fx,gp,l5,rfl⟩
  have s1:=Txt.slice_le b none (some ((at':Nat):Int))
  have s2:=Txt.slice_le b (some ((at':Nat):Int)) none
  have ej:((o:Int)+(0+(i:Int))).toNat=o+i:=by omega
  have hch:abc.cps[((o:Int)+(0+(i:Int))).toNat]?=some (97+(o+i)):=by rw [ej];exact aMa (by omega)
  refine ⟨_,rfl,.inl ⟨rfl,_,SqL.of gp⟩,_,rfl,_,rfl,_,rfl,_,rfl,small (by omega),_,rfl,_,rfl,_,rfl,_,_,rfl,rfl,_,_,_,rfl,rfl,(by show 0≤(o:Int)+(0+(i:Int));omega),(by show (o:Int)+(0+(i:Int))<2 ^ 63;omega),(by rw [al];show (o:Int)+(0+(i:Int))<26;omega),hch,_,_,rfl,rfl,?_,_,rfl,_,rfl,_,rfl,_,rfl,small (by omega),_,_,rfl,rfl,?_,?_⟩
  ·show (Txt.slice b none (some ((at':Nat):Int))).length+1≤sizeLine
   exact small (by omega)
  ·rw [zM]
   show (Txt.slice b none (some ((at':Nat):Int))).length+1+_≤sizeLine
   exact small (by omega)
  refine ⟨p,_,_,rfl,rfl,gp,?_,fx.upd fp0 npa,?_,_,rfl⟩
  ·rw [List.length_map]
   exact small1000 (by simp [stm];omega)
  ·rw [upd_same]
   unfold stm
   rw [List.range_succ,List.map_append,List.map_append]
   rfl
 rintro σ H6 ⟨f6,g6,l5',rfl⟩
 dsimp only [tSeq,tIfS,tB,tCB,tCons]
 refine yJ (K:=K) (fun us=>us=words) (fun i _ y=>∃w',words[i]?=some w'∧y=.bl (inV w' ((stm b at' o 17).map V.str))) (fun _ h=>h) (fun _ h=>h) [none,some (.ref p)] ?_ rfl (fun R r=>⟨rfl,fun W H7 _ s7 g7=>r W H7 _ s7 g7 rfl⟩) (fun us e=>by subst e;exact small (by decide)) (fun us e i x ex H' R l sm r=>?_) fun us e D H7 ys s7 g7 hly hR=>?_
 ·exact dM 7 (by decide +kernel) rfl rfl (by trivial)
 ·subst e
  have fl:flatV x=true:=by
   have:=uM
   rw [List.all_eq_true] at this
   exact this x (List.mem_of_getElem? ex)
  exact ⟨_,rfl,_,rfl,p,_,rfl,.inl (SqL.of (sm _ _ g6)),fl,aDm,r _ _ (Same.refl _) ⟨x,ex,rfl⟩⟩
 subst e
 have ey:ys=(words.map fun w'=>inV w' ((stm b at' o 17).map V.str)).map V.bl:=by
  rw [List.map_map]
  refine List.ext_getElem? fun i=>?_
  by_cases hi:i<ys.length
  ·obtain ⟨w',h1,h2⟩:=hR i ys[i] (List.getElem?_eq_getElem hi)
   rw [List.getElem?_eq_getElem hi,List.getElem?_map,h1,h2]
   rfl
  ·rw [List.getElem?_eq_none (by omega),List.getElem?_eq_none (by rw [List.length_map];omega)]
 rw [ey] at g7
 refine ⟨D,_,rfl,SqL.of g7,_,rfl,?_⟩
 have f7:=f6.sm s7
 refine ite2 (fun c=>?_) (fun c=>?_)
 ·refine ⟨_,rfl,_,rfl,_,rfl,_,rfl,_,rfl,_,_,rfl,rfl,_,rfl,abc,rfl,small (by rw [al];decide),?_⟩
  refine ⟨_,rfl,?_,fun p2 H8 fp2 s8 g8=>?_⟩
  ·have:=Txt.slice_le abc (some (o:Int)) (some ((o:Int)+17))
   rw [al] at this
   exact Nat.le_trans this (by decide)
  have g8':H8 p2=some (.lst ((sgl o).map V.str)):=by rw [g8];exact congrArg (fun z=>some (HO.lst z)) (aMu ho)
  have f8:=f7.sm s8
  have fp20:H p2=none:=f7.free fp2
  refine ⟨_,rfl,a,2,rfl,f8.st,by decide,fun d H9 f9 d0 d1=>?_⟩
  have g9:=f9.same _ _ (hs.ne fp20) g8'
  refine ⟨rfl,_,rfl,ite2 (fun _=>?_) (fun _=>?_)⟩
  ·refine ⟨_,rfl,.inl ⟨rfl,_,SqL.of g9⟩,p2,_,rfl,rfl,g9,?_⟩
   refine ⟨_,rfl,q p2 _ (sgl o).reverse ((f8.trans f9).upd fp20 (hs.ne fp20)) fp20 ?_ (aKl ho).rev⟩
   rw [upd_same,List.map_reverse]
  ·exact ⟨_,rfl,q p2 _ (sgl o) (f8.trans f9) fp20 g9 (aKl ho)⟩
 ·have hw:∀w'∈words,inV w' ((stm b at' o 17).map V.str)=false:=fun w' hw'=>by
   cases e:inV w' ((stm b at' o 17).map V.str) with
   |false=>rfl
   |true=>
    exfalso
    apply c
    rw [List.any_eq_true]
    exact ⟨true,List.mem_map.mpr ⟨w',hw',e⟩,rfl⟩
  have hn:=aOx hb hb7 ha ho hw
  refine ⟨_,rfl,a,2,rfl,f7.st,by decide,fun d H9 f9 d0 d1=>?_⟩
  have g9:=f9.same _ _ npa (s7 _ _ g6)
  refine ⟨rfl,_,rfl,ite2 (fun _=>?_) (fun _=>?_)⟩
  ·refine ⟨_,rfl,.inl ⟨rfl,_,SqL.of g9⟩,p,_,rfl,rfl,g9,?_⟩
   refine ⟨_,rfl,q p _ (stm b at' o 17).reverse ((f7.trans f9).upd fp0 npa) fp0 ?_ hn.rev⟩
   rw [upd_same,List.map_reverse]
  ·exact ⟨_,rfl,q p _ (stm b at' o 17) (f7.trans f9) fp0 g9 hn⟩
def aPa (hd:Hdr):Prop:=Good hd∧∀c∈hd,Nm c.1∧aMw c.2
def aDr (K:PySem.W.Frag):Sp:=fun vs H Q _=>∃(a N:Addr) (ns:List Str),vs=[.ref a,.ref N]∧iZ H a∧H N=some (.lst (ns.map V.str))∧N≠a∧sW ns∧∀v H' hd,Fx a H H'→cC K H' v hd→aPa hd→hd.length≤7→Q v H'
theorem aOj {α:Type} {l:List α} (h:l.Nodup) {i j:Nat} {x:α} (h1:l[i]?=some x) (h2:l[j]?=some x):i=j:=by
 have hp:=List.pairwise_iff_getElem.mp h
 obtain ⟨hi,e1⟩:=List.getElem?_eq_some_iff.mp h1
 obtain ⟨hj,e2⟩:=List.getElem?_eq_some_iff.mp h2
 rcases Nat.lt_trichotomy i j with q|q|q
 ·exact absurd (e1.trans e2.symm) (hp i j hi hj q)
 ·exact q
 ·exact absurd (e2.trans e1.symm) (hp j i hj hi q)
theorem aPt {α:Type} {l:List α} (h:∀(i j:Nat) (x:α),l[i]?=some x→l[j]?=some x→i=j):l.Nodup:=by
 refine List.pairwise_iff_getElem.mpr fun i j hi hj hij e=>?_
 have:=h i j l[i] (List.getElem?_eq_getElem hi) (by rw [List.getElem?_eq_getElem hj,e])
 omega
theorem aJ8 {ns:List Str} (hn:sW ns) {st:Nat} {hd:Hdr} (hl:hd.length≤8) (h:∀(j:Nat) (c:Str × Str),hd[j]?=some c→ns[3+(st+j) % 8]?=some c.1):(hd.map (·.1)).Nodup:=by
 refine aPt fun i j x h1 h2=>?_
 have g:∀k,(hd.map (·.1))[k]?=some x→k<hd.length∧ns[3+(st+k) % 8]?=some x:=fun k hk=>by
  rw [List.getElem?_map] at hk
  cases e:hd[k]? with
  |none=>rw [e] at hk;cases hk
  |some c=>
   rw [e] at hk
   cases hk
   exact ⟨(List.getElem?_eq_some_iff.mp e).1,h k c e⟩
 obtain ⟨l1,g1⟩:=g i h1
 obtain ⟨l2,g2⟩:=g j h2
 have:=aOj hn.2.2 g1 g2
 omega
theorem aA7 (T:Txt w K mg) (aL:Ok P w K mg base 1 "_law_next" ["_law_state","_law_many"] jJ):Ok P w K mg base 2 "_law_head" ["_law_state","_law_names_here"] (aDr K):=by
 refine Ok.ofV T.aCx eQ (fun vs H Q E h=>?_) (fun f cdv A outer s H vs Q E hr h=>?_)
 ·obtain ⟨a,N,ns,rfl,_⟩:=h;rfl
 obtain ⟨a,N,ns,rfl,hs,hN,nN,hn,q⟩:=h
 refine ⟨_,(aD (aV (i:=2) eQ.nd rfl (by trivial) (aH (aL.mono (by decide)) hr (by rfl) (aB (vv 0) (aB aC aA)))) (aD (aV (i:=3) eQ.nd rfl (by trivial) (cG aA)) (aD (iM PassesOwn.never rfl (fK (by rfl) T.jC (aB (bH op_add aC (aH (aL.mono (by decide)) hr (by rfl) (aB (vv 0) (aB aC aA)))) aA)) (aQ (i:=4) eQ.nd rfl (by trivial)) (aD (aV (i:=5) eQ.nd rfl (by trivial) (aJ ix_list (cG (aB aP (aB aP (aB aP aA)))) (aH (aL.mono (by decide)) hr (by rfl) (aB (vv 0) (aB aC aA))) (fun _ _=>rfl))) (aF (cN (aDt PySem.F.plainAttrs_list PySem.F.slot_list_append PySem.F.type_list_append uK (vv 3) (aB (gB (aB (aJ ix_list (vv 1) (bH op_add aC (bH op_mod (bH op_add (vv 2) (vv 4)) aC)) (fun _ _=>rfl)) (aB (vv 5) aA))) aA)))))) (aF (aG (bR cT (by rfl) T.cM bV (aB (vv 3) aA))))))),?_⟩
 have l17:=hn.1
 refine ⟨_,rfl,a,8,rfl,hs,by decide,fun st0 H1 f1 st00 st01=>?_⟩
 obtain ⟨st,rfl⟩:∃st:Nat,st0=st:=⟨st0.toNat,by omega⟩
 refine ⟨(by show 0≤sizeLine;decide),fun p H2 fp s2 g2=>?_⟩
 have f2:=f1.sm s2
 have fp0:H p=none:=f1.free fp
 have npa:p≠a:=hs.ne fp0
 refine ⟨_,rfl,a,4,rfl,f2.st,by decide,fun m H3 f3 m0 m1=>?_⟩
 have f4':=f2.trans f3
 have g4:=f3.same _ _ npa g2
 obtain ⟨z,ez,z1,z7⟩:∃z:Nat,1+m=(z:Int)∧1≤z∧z≤4:=⟨(1+m).toNat,by omega,by omega,by omega⟩
 refine ⟨_,_,rfl,rfl,(z:Int),?_,by omega,by omega,?_⟩
 ·show [V.int (1+m)]=_
  rw [ez]
 rw [Int.toNat_natCast]
 refine for_range (n:=z) (fun i σ H'=>Fx a H H'∧∃(us:List V) (hd:Hdr) (l4 l5:Option V),H' p=some (.lst us)∧hd.length=i∧bF (IsC K H') us hd∧(∀(j:Nat) (c:Str × Str),hd[j]?=some c→ns[3+(st+j) % 8]?=some c.1∧aMw c.2)∧σ=[some (.ref a),some (.ref N),some (.int (st:Nat)),some (.ref p),l4,l5]) ⟨f4',[],[],_,_,g4,rfl,.nil,fun j c h=>by simp at h,rfl⟩ ?_ ?_
 ·rintro i σ H' hi ⟨fx,us,hd,l4,l5,gp,hl,hu,hc,rfl⟩
  have lu:=hu.len
  refine ⟨(by show 3≤sizeLine;decide),fun p1 H5 fp1 s5 g5=>?_⟩
  refine ⟨_,rfl,a,3,rfl,fx.st.same s5,by decide,fun d H6 f6 d0 d1=>?_⟩
  obtain ⟨kv,hkv,mkv⟩:=at_of (xs:=[.str "number",.str "number",.str "word"]) d0 (by show d<3;omega)
  obtain ⟨kd,rfl,hkd⟩:∃kd:Str,kv=.str kd∧aMw kd:=by
   simp only [List.mem_cons,List.not_mem_nil,or_false] at mkv
   rcases mkv with rfl|rfl|rfl
   ·exact ⟨_,rfl,.inl rfl⟩
   ·exact ⟨_,rfl,.inl rfl⟩
   ·exact ⟨_,rfl,.inr rfl⟩
  have f6':=(fx.sm s5).trans f6
  refine ⟨p1,_,_,_,rfl,rfl,SqL.of (f6.same _ _ (fx.st.ne fp1) g5),hkv,?_⟩
  have gp6:=f6.same _ _ npa (s5 _ _ gp)
  have hN6:=f6'.same _ _ nN hN
  have hu6:bF (IsC K H6) us hd:=hu.imp fun _ _ ⟨p',ep,hp⟩=>⟨p',ep,f6.aM (fx.st.same s5) (s5.aM hp)⟩
  have hix:3+(st+i) % 8<ns.length:=by omega
  refine ⟨_,rfl,.inl ⟨rfl,_,SqL.of gp6⟩,?_⟩
  refine ⟨_,rfl,_,rfl,_,rfl,_,_,rfl,rfl,_,_,rfl,rfl,(by show (0:Int)<8;decide),_,_,rfl,rfl,N,_,_,.str ns[3+(st+i) % 8],rfl,rfl,SqL.of hN6,?_,_,rfl,(by show 2≤sizeLine;decide),fun t H7 ft s7 g7=>?_⟩
  ·have e8:(3:Int)+((st:Int)+(0+(i:Int))) % 8=((3+(st+i) % 8:Nat):Int):=by omega
   show atI (ns.map V.str) ((3:Int)+((st:Int)+(0+(i:Int))) % 8)=_
   rw [e8]
   exact atI_nat (by rw [List.getElem?_map,List.getElem?_eq_getElem hix];rfl)
  refine ⟨p,_,_,rfl,rfl,s7 _ _ gp6,small1000 (by omega),?_⟩
  have ntp:t≠p:=(ne_of_none gp6 ft).symm
  refine ⟨(f6'.sm s7).upd fp0 npa,us++[.ref t],hd++[(ns[3+(st+i) % 8],kd)],_,_,upd_same,by rw [List.length_append,hl];rfl,?_,fun j c h=>?_,rfl⟩
  ·refine (hu6.imp fun _ _ ⟨p',ep,hp⟩=>⟨p',ep,(s7.aM hp).vY (s7 _ _ gp6)⟩).app (.cons ⟨t,rfl,SqT.of (by rw [upd_ne ntp];exact g7)⟩ .nil)
  ·by_cases hj:j<hd.length
   ·rw [List.getElem?_append_left hj] at h
    exact hc j c h
   ·rw [List.getElem?_append_right (by omega)] at h
    have hj0:j - hd.length=0:=by
     by_cases z0:j - hd.length=0
     ·exact z0
     ·rw [List.getElem?_eq_none (by simp;omega)] at h;cases h
    rw [hj0] at h
    cases h
    have:j=i:=by omega
    subst this
    exact ⟨List.getElem?_eq_getElem hix,hkd⟩
 ·rintro σ H' ⟨fx,us,hd,l4,l5,gp,hl,hu,hc,rfl⟩
  refine ⟨_,rfl,p,us,rfl,SqL.of gp,fun t H5 _ s5 g5=>q _ _ hd (fx.sm s5) ⟨t,us,rfl,SqT.of g5,hu.imp fun _ _ h=>h.same s5⟩ ⟨⟨aJ8 hn (by omega) fun j c h=>(hc j c h).1,by omega,by omega⟩,fun c hcm=>?_⟩ (by omega)⟩
  obtain ⟨j,hj,e⟩:=List.getElem_of_mem hcm
  have h2:=hc j c (by rw [List.getElem?_eq_getElem hj,e])
  exact ⟨hn.2.1 _ (List.mem_of_getElem? h2.1),h2.2⟩
def TK (K:PySem.W.Frag) (H H':Hp):Prop:=∀p xs,SqT K H p xs→SqT K H' p xs
theorem _root_.L2.Fx.tk {K:PySem.W.Frag} {a:Addr} {H H':Hp} (f:Fx a H H') (h:iZ H a):TK K H H':=fun _ _ e=>f.aM h e
theorem IsC.tk {K:PySem.W.Frag} {H H':Hp} {v:V} {c:Str × Str} (e:TK K H H') (h:IsC K H v c):IsC K H' v c:=by
 obtain ⟨p,rfl,hp⟩:=h
 exact ⟨p,rfl,e _ _ hp⟩
theorem aHd {α:Type} {K:PySem.W.Frag} {H H':Hp} {R S:V→α→Prop} {v:V} {xs:List α} (e:TK K H H') (k:∀a b,R a b→S a b) (h:lX K H R v xs):lX K H' S v xs:=by
 obtain ⟨a,vs,rfl,ha,hr⟩:=h
 exact ⟨a,vs,rfl,e _ _ ha,hr.imp k⟩
theorem cC.tk {K:PySem.W.Frag} {H H':Hp} {v:V} {hd:Hdr} (e:TK K H H') (h:cC K H v hd):cC K H' v hd:=aHd e (fun _ _ q=>q.tk e) h
theorem aOf {K:PySem.W.Frag} {H:Hp} {x:V} (h:aJk x=true):Th K H x:=by
 cases x with
 |int i=>exact .inr (.inl ⟨i,rfl⟩)
 |str z=>
  have h:(false || lV 0 (.str z))=true:=h
  rw [Bool.false_or] at h
  obtain ⟨y,e,_,h8,_⟩:=tZ h
  cases e
  exact jO h8
 |_=>cases h
theorem IsO.tk {K:PySem.W.Frag} {H H':Hp} {v:V} {o:Oth} (e:TK K H H') (h:IsO K H v o):IsO K H' v o:=by
 cases o with
 |val x=>obtain ⟨a,rfl,ha,hx,hv⟩:=h;exact ⟨a,rfl,e _ _ ha,aOf hv,hv⟩
 |col d=>obtain ⟨a,rfl,ha,hd⟩:=h;exact ⟨a,rfl,e _ _ ha,hd⟩
theorem IsT.tk {K:PySem.W.Frag} {H H':Hp} {v:V} {t:Tst} (e:TK K H H') (h:IsT K H v t):IsT K H' v t:=by
 obtain ⟨a,w,rfl,ha,h1,h2,h3⟩:=h
 exact ⟨a,w,rfl,e _ _ ha,h1,h2,h3.tk e⟩
theorem pG.tk {K:PySem.W.Frag} {H H':Hp} {v:V} {t:Str × Str} (e:TK K H H') (h:pG K H v t):pG K H' v t:=by
 obtain ⟨a,rfl,ha,h1⟩:=h
 exact ⟨a,rfl,e _ _ ha,h1⟩
theorem jL.tk {K:PySem.W.Frag} {H H':Hp} {v:V} {t:Str × Str} (e:TK K H H') (h:jL K H v t):jL K H' v t:=by
 obtain ⟨a,rfl,ha,h1⟩:=h
 exact ⟨a,rfl,e _ _ ha,h1⟩
theorem nQ.tk {K:PySem.W.Frag} {H H':Hp} {v:V} {t:Sm} (e:TK K H H') (h:nQ K H v t):nQ K H' v t:=by
 obtain ⟨a,rfl,hn,h1⟩:=h
 refine ⟨a,rfl,hn,?_⟩
 rcases h1 with ⟨x,y,z⟩|⟨c,x,y,z,u⟩
 ·exact .inl ⟨x,y,e _ _ z⟩
 ·exact .inr ⟨c,x,y,z,e _ _ u⟩
theorem fM.tk {α:Type} {S:PySem.W.Frag→Hp→V→α→Prop} {lo hi:Nat} {K:PySem.W.Frag} {H H':Hp} {v:V} {xs:List α} (e:TK K H H') (k:∀{v t},S K H v t→S K H' v t) (h:fM S lo hi K H v xs):fM S lo hi K H' v xs:=
 ⟨aHd e (fun _ _=>k) h.1,h.2⟩
theorem IsQ.tk {K:PySem.W.Frag} {H H':Hp} {v:V} {q:Qn} (e:TK K H H') (h:IsQ K H v q):IsQ K H' v q:=by
 induction h with
 |table a b=>exact .table (e _ _ a) b
 |whr a _ c ih=>exact .whr (e _ _ a) ih (c.tk e fun h=>h.tk e)
 |keep a _ c ih=>exact .keep (e _ _ a) ih (c.tk e fun h=>h)
 |nmd a _ c ih=>exact .nmd (e _ _ a) ih (c.tk e fun h=>h)
 |join a _ _ c ih1 ih2=>exact .join (e _ _ a) ih1 ih2 (c.tk e fun h=>h.tk e)
 |group a _ c d ih=>exact .group (e _ _ a) ih (c.tk e fun h=>h) (d.tk e fun h=>h.tk e)
 |first a _ c d ih=>exact .first (e _ _ a) ih (c.tk e fun h=>h.tk e) d
theorem aKs {hd:Hdr} (nd:(hd.map (·.1)).Nodup) {c:Str × Str} (h:c∈hd):look hd c.1=some c.2:=by
 induction hd with
 |nil=>cases h
 |cons x r ih=>
  rw [List.map_cons,List.nodup_cons] at nd
  unfold look
  rw [List.find?_cons]
  rcases List.mem_cons.mp h with rfl|h
  ·rw [decide_eq_true rfl];rfl
  ·have ne:¬ x.1=c.1:=fun z=>nd.1 (by rw [z];exact List.mem_map.mpr ⟨c,h,rfl⟩)
   rw [decide_eq_false ne]
   exact ih nd.2 h
theorem aL1 {α:Type} (l:List α):∀n,(List.range n).filterMap (fun i=>l[i]?)=l.take n
 |0=>by simp
 |n+1=>by
  rw [List.range_succ,List.filterMap_append,aL1 l n,List.take_add_one]
  cases e:l[n]? with
  |none=>simp [e]
  |some x=>simp [e]
theorem aIk {H:Hp} {us:List V} {hd:Hdr} (hu:bF (IsC K H) us hd) {is:List Nat} {ys:List V} (h:jX (fun i y=>us[i]?=some y) is ys):bF (IsC K H) ys (is.filterMap fun i=>hd[i]?):=by
 induction h with
 |nil=>exact .nil
 |@cons i y is ys r _ ih=>
  obtain ⟨c,hc,q⟩:=bC hu r
  rw [List.filterMap_cons,hc]
  exact .cons q ih
theorem aKh {α β:Type} {R:α→β→Prop} {as:List α} {bs:List β} (h:bF R as bs):bF R as.reverse bs.reverse:=by
 induction h with
 |nil=>exact .nil
 |cons r _ ih=>
  rw [List.reverse_cons,List.reverse_cons]
  exact ih.app (.cons r .nil)
theorem iD {α β:Type} {R:α→β→Prop} {as:List α} {bs:List β} (h:bF R as bs):∀n,bF R (as.take n) (bs.take n):=by
 induction h with
 |nil=>intro n;rw [List.take_nil,List.take_nil];exact .nil
 |cons r _ ih=>
  intro n
  cases n with
  |zero=>exact .nil
  |succ n=>exact .cons r (ih n)
def xJ (hd' hd:Hdr):Prop:=(∀c∈hd',c∈hd)∧(hd'.map (·.1)).Nodup∧hd'.length≤hd.length
theorem aK7 {hd' hd:Hdr} (h:hd'.Sublist hd) (nd:(hd.map (·.1)).Nodup):xJ hd' hd:=⟨fun c hc=>h.subset hc,nd.sublist (h.map _),h.length_le⟩
theorem xJ.rev {hd' hd:Hdr} (h:xJ hd' hd):xJ hd'.reverse hd:=⟨fun c hc=>h.1 c (List.mem_reverse.mp hc),by
 rw [List.map_reverse];exact List.pairwise_reverse.mpr (h.2.1.imp fun q=>Ne.symm q),by rw [List.length_reverse];exact h.2.2⟩
theorem xJ.take {hd' hd:Hdr} (h:xJ hd' hd) (n:Nat):xJ (hd'.take n) hd:=⟨fun c hc=>h.1 c (List.mem_of_mem_take hc),h.2.1.sublist ((List.take_sublist n hd').map _),by have:=h.2.2;rw [List.length_take];omega⟩
def aH3 (K:PySem.W.Frag):Sp:=fun vs H Q _=>∃(a:Addr) (vh:V) (hd:Hdr) (n:Nat),vs=[.ref a,vh,.int (n:Nat)]∧iZ H a∧cC K H vh hd∧Good hd∧n≤1 ∧
 ∀D H' us hd',Fx a H H'→H D=none→H' D=some (.lst us)→bF (IsC K H') us hd'→xJ hd' hd→n≤hd'.length→Q (.ref D) H'
theorem aBp (T:Txt w K mg) (aL:Ok P w K mg base 1 "_law_next" ["_law_state","_law_many"] jJ):Ok P w K mg base 2 "_law_some" ["_law_state","_law_head_here","_law_least"] (aH3 K):=by
 refine Ok.ofV T.aDl lJ (fun vs H Q E h=>?_) (fun f cdv A outer s H vs Q E hr h=>?_)
 ·obtain ⟨a,vh,hd,n,rfl,_⟩:=h;rfl
 obtain ⟨a,vh,hd,n,rfl,hs,⟨b,us,rfl,hb,hu⟩,⟨nd,l1,l8⟩,hn,q⟩:=h
 refine ⟨_,(aD (nJ (i0:=3) lJ.nd rfl (by trivial) (N:=["_law_column","_law_state"]) (by trivial) (cR (defScope jE) rfl (by decide +kernel)) rfl (dO (vv 1)) (fun cl s' H' fp=>⟨(aQ (i:=0) (show (["_law_column","_law_state"]:List Str).Nodup from by decide +kernel) rfl (Or.inl rfl)),(aKi (aO op_eq (aH (aL.mono (by decide)) hr (by rfl) (aB (vv 1) (aB aC aA))) aC (nomark _))),(vv 0)⟩)) (aD (bB (aO op_lt (aK call_len_seq (by rfl) T.cU bY (aB (vv 3) aA)) (vv 2) (nomark _)) (aF (aV (i:=3) lJ.nd rfl (by trivial) (cG (aB (aJ ix_tup (vv 1) (aH (aL.mono (by decide)) hr (by rfl) (aB (vv 0) (aB (aK call_len_seq (by rfl) T.cU bY (aB (vv 1) aA)) aA))) (fun _ _=>rfl)) aA)))) aN) (aD (bB (aO op_eq (aH (aL.mono (by decide)) hr (by rfl) (aB (vv 0) (aB aC aA))) aC (nomark _)) (aF (cN (uQ PySem.F.plainAttrs_list PySem.F.slot_list_reverse PySem.F.type_list_reverse tE (vv 3)))) aN) (aF (aG (vv 3)))))),?_⟩
 have lu:=hu.len
 have fin:∀D H' zs hd',Fx a H H'→H D=none→H' D=some (.lst zs)→bF (IsC K H') zs hd'→xJ hd' hd→n≤hd'.length→∀H2,Fx a H' H2→Q (.ref D) H2∧Q (.ref D) (upd H2 D (.lst zs.reverse)):=by
  intro D H' zs hd' fx hD gD hz hsub hle H2 f2
  have nDa:D≠a:=hs.ne hD
  have g2:=f2.same _ _ nDa gD
  have hz2:bF (IsC K H2) zs hd':=hz.imp fun _ _ h=>h.tk (f2.tk fx.st)
  refine ⟨q D H2 zs hd' (fx.trans f2) hD g2 hz2 hsub hle,q D _ zs.reverse hd'.reverse ((fx.trans f2).upd hD nDa) hD upd_same ?_ hsub.rev (by rw [List.length_reverse];exact hle)⟩
  exact aKh (hz2.imp fun _ _ h=>h.tk fun _ _ e=>e.vY g2)
 dsimp only [tSeq,tAsg]
 refine vL [none,some (.ref a)] ?_ ⟨_,rfl,b,rfl,⟨_,hb⟩,aP3 (Fx a) (aHk hs) us (fun i _ y=>us[i]?=some y) (fun _ _ h=>h) (fun _ _ _ h=>h) (fun i σ=>∃x,us[i]?=some x∧At1 [none,some (.ref a)] x σ) (Ps1 [none,some (.ref a)]) ⟨none,rfl⟩ (small (by omega)) _ (aFd fun H' f'=>f'.aM hs hb) (uN fun H' f'=>f'.aM hs hb) (fun i x σ' H' Q' ex hps s' qq=>hg1 (i:=i) hps fun σ2 h1 h2=>qq σ2 h1 ⟨x,ex,h2⟩) (fun i x σ2 ex hA H' R s' r=>?_) (fun i x σ2 ex hA H' R s' r=>?_) fun D H1 ys f1 fD g1 hys=>?_⟩
 ·exact dM 0 (by decide +kernel) rfl rfl (by trivial)
 ·obtain ⟨x',_,l,rfl⟩:=hA
  exact ⟨_,rfl,a,2,rfl,s'.st,by decide,fun d H2 f2 _ _=>⟨rfl,_,rfl,r _ _ f2⟩⟩
 ·obtain ⟨x',hx',l,rfl⟩:=hA
  rw [ex] at hx'
  cases hx'
  exact ⟨_,rfl,r _ _ (.refl s'.st) ex⟩
 obtain ⟨is,hsub,hys⟩:=hys
 have hu1:bF (IsC K H1) us hd:=hu.imp fun _ _ h=>h.tk (f1.tk hs)
 have hcol:=aIk hu1 hys
 have hsubH:xJ (is.filterMap fun i=>hd[i]?) hd:=by
  refine aK7 ?_ nd
  have:=hsub.filterMap (fun i=>hd[i]?)
  rw [aL1,lu,List.take_length] at this
  exact this
 have lcol:=hcol.len
 dsimp only [gName]
 refine ⟨_,rfl,D,_,rfl,.inl (SqL.of g1),_,rfl,_,_,rfl,rfl,_,rfl,ite2 (fun c=>?_) (fun c=>?_)⟩
 ·refine ⟨_,rfl,_,rfl,_,rfl,_,_,rfl,.inr (f1.aM hs hb),a,_,rfl,f1.st,(by show (0:Int)<(us.length:Int)∧(us.length:Int)<2 ^ 64;omega),fun d H2 f2 d0 d1=>?_⟩
  obtain ⟨u,hat,hm⟩:=at_of (xs:=us) d0 d1
  obtain ⟨cc,hcm,hcc⟩:=hu.mem hm
  have fx2:=f1.trans f2
  refine ⟨b,_,_,u,rfl,rfl,fx2.aM hs hb,hat,(by show 1≤sizeLine;decide),fun p H3 fp s3 g3=>?_⟩
  have fx3:=fx2.sm s3
  have fp0:H p=none:=fx2.free fp
  have key:=fin p H3 [u] [cc] fx3 fp0 g3 (.cons (hcc.tk (fx3.tk hs)) .nil) ⟨fun c' hc'=>by rw [List.mem_singleton.mp hc'];exact hcm,by simp,by show 1≤hd.length;exact l1⟩ (by show n≤1;exact hn)
  refine ⟨_,rfl,a,2,rfl,fx3.st,by decide,fun e H4 f4 _ _=>⟨rfl,_,rfl,?_⟩⟩
  refine ite2 (fun _=>?_) (fun _=>⟨_,rfl,(key H4 f4).1⟩)
  have g4:=f4.same _ _ (hs.ne fp0) g3
  exact ⟨_,rfl,.inl ⟨rfl,_,SqL.of g4⟩,p,_,rfl,rfl,g4,_,rfl,(key H4 f4).2⟩
 ·have c':¬ (ys.length:Int)<(n:Int):=of_decide_eq_false (Bool.eq_false_iff.mpr c)
  have key:=fin D H1 ys _ f1 fD g1 hcol hsubH (by omega)
  refine ⟨_,rfl,a,2,rfl,f1.st,by decide,fun e H4 f4 _ _=>⟨rfl,_,rfl,?_⟩⟩
  refine ite2 (fun _=>?_) (fun _=>⟨_,rfl,(key H4 f4).1⟩)
  have g4:=f4.same _ _ (hs.ne fD) g1
  exact ⟨_,rfl,.inl ⟨rfl,_,SqL.of g4⟩,D,_,rfl,rfl,g4,_,rfl,(key H4 f4).2⟩
theorem aL0 {hd hd':Hdr} (nd:(hd.map (·.1)).Nodup) (h:∀c∈hd',c∈hd):Looks hd (hd'.map (·.1)) (hd'.map (·.2)):=by
 induction hd' with
 |nil=>exact .nil
 |cons c r ih=>exact .cons (aKs nd (h c (List.mem_cons_self ..))) (ih fun x hx=>h x (List.mem_cons_of_mem _ hx))
def aCb (K:PySem.W.Frag):Sp:=fun vs H Q _=>∃(a:Addr) (vh:V) (hd:Hdr),vs=[.ref a,vh]∧iZ H a∧cC K H vh hd∧aPa hd∧∀v H' ps ks,Fx a H H'→fM jL 0 3 K H' v ps→Looks hd (ps.map (·.1)) ks→(ps.map (·.1)).Nodup→Q v H'
theorem jR {α:Type}:∀(k:Nat) (xs:List α),sel (fun _=>true) k xs=xs
 |_,[]=>rfl
 |k,x::r=>by
  show (if true=true then x::sel (fun _=>true) (k+1) r else _)=_
  rw [if_pos rfl,jR (k+1) r]
theorem iR {R:Nat→V→Prop} {n:Nat} {ys:List V} (h:jX R (List.range n) ys):ys.length=n∧∀(i:Nat) (y:V),ys[i]?=some y→R i y:=by
 have aux:∀{is:List Nat} {ys:List V},jX R is ys→∀(i:Nat) (y:V),ys[i]?=some y→∃j,is[i]?=some j∧R j y:=by
  intro is ys h
  induction h with
  |nil=>intro i y e;simp at e
  |cons r _ ih=>
   intro i y e
   cases i with
   |zero=>cases e;exact ⟨_,rfl,r⟩
   |succ i=>obtain ⟨j,h1,h2⟩:=ih i y (by simpa using e);exact ⟨j,by simpa using h1,h2⟩
 have l:=h.len
 rw [List.length_range] at l
 refine ⟨l.symm,fun i y e=>?_⟩
 obtain ⟨j,h1,h2⟩:=aux h i y e
 have hi:i<n:=by
  have:=(List.getElem?_eq_some_iff.mp e).1
  omega
 rw [List.getElem?_range hi] at h1
 cases h1
 exact h2
theorem aAp (T:Txt w K mg) (aL:Ok P w K mg base 1 "_law_next" ["_law_state","_law_many"] jJ) (aD0:Ok P w K mg base 2 "_law_some" ["_law_state","_law_head_here","_law_least"] (aH3 K)):Ok P w K mg base 3 "_law_keys" ["_law_state","_law_head_here"] (aCb K):=by
 refine Ok.ofV T.aDp pY (fun vs H Q E h=>?_) (fun f cdv A outer s H vs Q E hr h=>?_)
 ·obtain ⟨a,vh,hd,rfl,_⟩:=h;rfl
 obtain ⟨a,vh,hd,rfl,hs,hh,⟨hg,hc⟩,q⟩:=h
 refine ⟨_,(aD (aV (i:=2) pY.nd rfl (by trivial) (cV jW (aH (aD0.mono (by decide)) hr (by rfl) (aB (vv 0) (aB (vv 1) (aB aC aA)))) gQ (cX aC))) (aF (aG (bR cT (by rfl) T.cM bV (aB (bM (N:=["_law_name","_law_kind","_law_state"]) (by trivial) (cR (defScope jB) rfl (by decide +kernel)) rfl (kZ (vv 2)) (fun cl s' H' fp=>⟨(qU (K:=K) (n:=2) rfl (bK (aQ (i:=0) (show (["_law_name","_law_kind","_law_state"]:List Str).Nodup from by decide +kernel) rfl (Or.inl rfl)) (bK (aQ (i:=1) (show (["_law_name","_law_kind","_law_state"]:List Str).Nodup from by decide +kernel) rfl (Or.inl rfl)) gZ))),bN,(gB (aB (vv 0) (aB (aJ (wB (K:=K)) (cG (aB aP (aB aP aA))) (aH (aL.mono (by decide)) hr (by rfl) (aB (vv 2) (aB aC aA))) (fun _ _=>rfl)) aA)))⟩)) aA))))),?_⟩
 refine ⟨_,rfl,_,rfl,a,vh,hd,0,rfl,hs,hh,hg,by decide,fun D H1 us hd' f1 fD g1 hu hsub _=>?_⟩
 refine ⟨_,rfl,D,_,rfl,SqL.of g1,fun p H2 fp s2 g2=>?_⟩
 rw [show (3:Int)=((3:Nat):Int) from rfl,qH] at g2
 have fx2:=f1.sm s2
 have hu2:bF (IsC K H2) (us.take 3) (hd'.take 3):=iD (hu.imp fun _ _ h=>h.same s2) 3
 have hsub3:=hsub.take 3
 have fp0:H p=none:=f1.free fp
 have npa:p≠a:=hs.ne fp0
 generalize us.take 3=zs at g2 hu2
 have l3:(hd'.take 3).length≤3:=by rw [List.length_take];omega
 generalize hd'.take 3=hz at hu2 hsub3 l3
 have lz:=hu2.len
 dsimp only [gName,tRet,tCB,tCons]
 refine uV [none,none,some (.ref a)] ?_ ⟨_,rfl,p,rfl,⟨_,SqL.of g2⟩,aB4 (Fx a) (aHk fx2.st) zs (fun _=>true) (fun i H y=>∃c wy t,hz[i]?=some c∧y=.ref t∧SqT K H t [.str c.1,.str wy]∧(wy = "up"∨wy = "down")) (fun e1 e2 h=>?_) (fun _ _ e h=>?_) (fun i σ=>∃c,hz[i]?=some c∧At2 [none,none,some (.ref a)] (.str c.1) (.str c.2) σ) (Ps2 [none,none,some (.ref a)]) ⟨none,none,rfl⟩ (small (by omega)) _ (aM8 fun H' f'=>SqL.of (f'.same _ _ npa g2)) (aJw fun H' f'=>SqL.of (f'.same _ _ npa g2)) (fun i x σ' H' Q' ex hps s' qq=>?_) (fun i x σ2 ex hA H' R s' r=>r _ (.refl s'.st)) (fun i x σ2 ex hA _ H' R s' r=>?_) fun D2 H3 ys f3 fD2 g3 hys=>?_⟩
 ·refine ⟨rfl,fun i y v h1 h2=>?_⟩
  match i,h1,h2 with
  |0,_,h2=>cases h2
  |1,_,h2=>cases h2
  |2,h1,h2=>cases h1;cases h2;exact ⟨by decide +kernel,0,rfl,rfl,by trivial⟩
  |i+3,h1,_=>cases h1
 ·obtain ⟨c,wy,t,h1,h2,h3,h4⟩:=h
  exact ⟨c,wy,t,h1,h2,e2.aM e1.st h3,h4⟩
 ·obtain ⟨c,wy,t,h1,h2,h3,h4⟩:=h
  exact ⟨c,wy,t,h1,h2,h3.vY e,h4⟩
 ·obtain ⟨c,hc',p',rfl,hp'⟩:=bC hu2 ex
  exact hg2 (s'.aM fx2.st hp') hps fun σ2 h1 h2=>qq σ2 h1 ⟨c,hc',h2⟩
 ·obtain ⟨c,hc',rfl⟩:=hA
  refine ⟨_,rfl,(by show 2≤sizeLine;decide),fun l1 H4 fl1 s4 g4=>?_⟩
  refine ⟨_,rfl,a,2,rfl,s'.st.same s4,by decide,fun d H5 f5 d0 d1=>?_⟩
  obtain ⟨v,hv,mv⟩:=at_of (xs:=aDz) d0 (by show d<2;omega)
  obtain ⟨wy,rfl,hwy⟩:∃wy:Str,v=.str wy∧(wy = "up"∨wy = "down"):=by
   simp only [aDz,List.mem_cons,List.not_mem_nil,or_false] at mv
   rcases mv with rfl|rfl
   ·exact ⟨_,rfl,.inl rfl⟩
   ·exact ⟨_,rfl,.inr rfl⟩
  refine ⟨l1,_,_,_,rfl,rfl,SqL.of (f5.same _ _ (s'.st.ne fl1) g4),hv,(by show 2≤sizeLine;decide),fun t H6 _ s6 g6=>?_⟩
  exact r _ _ (((Fx.of s'.st s4).trans f5).sm s6) ⟨c,wy,t,hc',rfl,SqT.of g6,hwy⟩
 rw [jR] at hys
 obtain ⟨lys,hget⟩:=iR hys
 have hpz:∃ps:List (Str × Str),bF (jL K H3) ys ps∧ps.map (·.1)=hz.map (·.1):=by
  have aux:∀(n:Nat) (ys:List V) (hz:Hdr),ys.length=hz.length→(∀c∈hz,Nm c.1)→(∀(i:Nat) (y:V),ys[i]?=some y→∃c wy t,hz[i]?=some c∧y=.ref t∧SqT K H3 t [.str c.1,.str wy]∧(wy = "up"∨wy = "down"))→∃ps:List (Str × Str),bF (jL K H3) ys ps∧ps.map (·.1)=hz.map (·.1):=by
   intro n ys
   induction ys with
   |nil=>intro hz hl _ _;cases hz with
    |nil=>exact ⟨[],.nil,rfl⟩
    |cons _ _=>simp at hl
   |cons y ys ih=>
    intro hz hl hnm hget
    cases hz with
    |nil=>simp at hl
    |cons c hz=>
     obtain ⟨c',wy,t,h1,h2,h3,h4⟩:=hget 0 y rfl
     cases h1
     obtain ⟨ps,h5,h6⟩:=ih hz (by simpa using hl) (fun d hd=>hnm d (List.mem_cons_of_mem _ hd)) fun i z e=>hget (i+1) z (by simpa using e)
     exact ⟨(c.1,wy)::ps,.cons ⟨t,h2,h3,hnm c (List.mem_cons_self ..),h4⟩ h5,by rw [List.map_cons,h6];rfl⟩
  exact aux 0 ys hz (by omega) (fun c hcm=>(hc c (hsub3.1 c hcm)).1) hget
 obtain ⟨ps,hps,epz⟩:=hpz
 have lps:=hps.len
 refine ⟨D2,_,rfl,SqL.of g3,fun t H4 _ s4 g4=>q _ _ ps (hz.map (·.2)) ((fx2.trans f3).sm s4) ⟨⟨t,ys,rfl,SqT.of g4,hps.imp fun _ _ h=>h.same s4⟩,Nat.zero_le _,by omega⟩ ?_ ?_⟩
 ·rw [epz]
  exact aL0 hg.1 hsub3.1
 ·rw [epz]
  exact hsub3.2.1
end
end My
namespace PySem.W
open PySem PySem.Calls PyProof.Rows
def KasT.ev {α:Type} (f:Nat→Nat→Bool):KasT α→α
 |.ret a=>a
 |.ask i j k=>(k (f i j)).ev f
inductive KasT.Low {α:Type} (n:Nat) (P:α→Prop):KasT α→Prop
 |ret {a}:P a→KasT.Low n P (.ret a)
 |ask {i j k}:i<n→j<n→(∀b,KasT.Low n P (k b))→KasT.Low n P (.ask i j k)
theorem KasT.Low.bind {α β:Type} {n:Nat} {P:α→Prop} {R:β→Prop} {t:KasT α} {f:α→KasT β} (h:t.Low n P) (hf:∀a,P a→(f a).Low n R):(t.bind f).Low n R:=by
 induction h with
 |ret h=>exact hf _ h
 |ask a b _ ih=>exact .ask a b ih
theorem KasT.Low.of {α:Type} {n:Nat} {P:α→Prop} {t:KasT α} (h:t.Low n P) (f:Nat→Nat→Bool):P (t.ev f):=by
 induction h with
 |ret h=>exact h
 |@ask i j k a b _ ih=>exact ih (f i j)
theorem aLa {α:Type} {n:Nat} {P:α→Prop} {f:Nat→Nat→Bool} {cmp:Nat→Nat→(Bool→Shared→Prop)→Shared→Prop} {s:Shared} (hc:∀i j C,i<n→j<n→C (f i j) s→cmp i j C s) {t:KasT α} (h:t.Low n P) {Q:α→Shared→Prop} (q:Q (t.ev f) s):t.kasWp cmp Q s:=by
 induction h with
 |ret h=>exact q
 |@ask i j k a b _ ih=>exact hc i j _ a b (ih (f i j) q)
def Pl (n:Nat) (p:Array Nat):Prop:=p.size=n∧∀k,p.getD k 0<n
theorem Pl.perm {n:Nat} {p q:Array Nat} (h:Pl n p) (e:q.Perm p) (h0:0<n):Pl n q:=by
 refine ⟨e.size_eq.trans h.1,fun k=>?_⟩
 by_cases hk:k<q.size
 ·have hm:q[k]∈p.toList:=(Array.perm_iff_toList_perm.mp e).mem_iff.mp (by simp)
  obtain ⟨j,hj,ej⟩:=List.getElem_of_mem hm
  have hj':j<p.size:=by simpa using hj
  have:=h.2 j
  rw [Array.getD_eq_getD_getElem?,Array.getElem?_eq_getElem hj',Option.getD_some] at this
  rw [Array.getD_eq_getD_getElem?,Array.getElem?_eq_getElem hk,Option.getD_some,←ej]
  simpa using this
 ·rw [Array.getD_eq_getD_getElem?,Array.getElem?_eq_none (by omega)]
  exact h0
theorem aAj {n:Nat} {p:Array Nat} (h:Pl n p):∀f m,(kas_asc p f m).Low n (fun r=>m≤r∧r≤m+f)
 |0,m=>.ret ⟨Nat.le_refl _,Nat.le_refl _⟩
 |f+1,m=>by
  refine .ask (h.2 _) (h.2 _) fun c=>?_
  by_cases e:c=true
  ·rw [if_pos e];exact .ret ⟨Nat.le_refl _,by omega⟩
  ·rw [if_neg e]
   have z:=aAj h f (m+1)
   generalize kas_asc p f (m+1)=t at z
   induction z with
   |ret q=>exact .ret ⟨by omega,by omega⟩
   |ask a b _ ih=>exact .ask a b ih
theorem pK {n:Nat} (h0:0<n):∀(f:Nat) (p:Array Nat) (m q:Nat),Pl n p→(kas_desc f p m q).Low n (fun r=>Pl n r.1)
 |0,p,m,q,h=>.ret h
 |f+1,p,m,q,h=>by
  refine .ask (h.2 _) (h.2 _) fun c=>?_
  by_cases e:c=true
  ·rw [if_pos e]
   by_cases e2:q > 0
   ·rw [if_pos e2];exact pK h0 f _ _ _ (h.perm (mirror_perm _ _ _ _) h0)
   ·rw [if_neg e2];exact pK h0 f _ _ _ h
  ·rw [if_neg e]
   refine .ask (h.2 _) (h.2 _) fun d=>?_
   by_cases e3:d=true
   ·rw [if_pos e3];exact .ret h
   ·rw [if_neg e3];exact pK h0 f _ _ _ h
theorem yS {n:Nat} (h0:0<n) {p:Array Nat} (h:Pl n p) (m nrem:Nat):(kas_tail3 m nrem p).Low n (fun r=>Pl n r.2):=by
 have h':Pl n (kas_rev p 0 m):=h.perm (mirror_perm _ _ _ _) h0
 exact (aAj h' _ _).bind fun _ _=>.ret h'
theorem qD {n:Nat} (h0:0<n) {p:Array Nat} (h:Pl n p) (m nrem:Nat):(kas_descPart m nrem p).Low n (fun r=>Pl n r.2):=by
 refine (pK h0 _ _ _ _ h).bind fun r hr=>?_
 by_cases e:r.2.2 > 0
 ·rw [if_pos e];exact yS h0 (hr.perm (mirror_perm _ _ _ _) h0) _ _
 ·rw [if_neg e];exact yS h0 hr _ _
theorem aI4 {n:Nat} (h0:0<n) {p:Array Nat} (h:Pl n p) (nrem:Nat):(kas_count nrem p).Low n (fun r=>Pl n r.2):=by
 refine (aAj h _ _).bind fun m _=>?_
 by_cases e:(m == nrem)=true
 ·rw [if_pos e];exact .ret h
 ·rw [if_neg e]
  by_cases e2:m > 1
  ·rw [if_pos e2]
   refine .ask (h.2 _) (h.2 _) fun c=>?_
   by_cases e3:c=true
   ·rw [if_pos e3];exact .ret h
   ·rw [if_neg e3];exact qD h0 (h.perm (mirror_perm _ _ _ _) h0) _ _
  ·rw [if_neg e2];exact qD h0 h _ _
theorem rO {n:Nat} {p:Array Nat} (h:Pl n p) (k:Nat):∀f l r,(kas_place p k f l r).Low n (fun _=>True)
 |0,l,r=>.ret trivial
 |f+1,l,r=>by
  unfold kas_place
  by_cases e:l ≥ r
  ·rw [if_pos e];exact .ret trivial
  ·rw [if_neg e]
   refine .ask (h.2 _) (h.2 _) fun c=>?_
   by_cases e2:c=true
   ·rw [if_pos e2];exact rO h k f _ _
   ·rw [if_neg e2];exact rO h k f _ _
theorem aG4 {n:Nat} (h0:0<n):∀(f:Nat) (p:Array Nat) (k:Nat),Pl n p→(kas_bin f p k).Low n (Pl n)
 |0,p,k,h=>.ret h
 |f+1,p,k,h=>(rO h k k 0 k).bind fun l _=>aG4 h0 f _ _ (h.perm (bubble_perm _ _ _) h0)
theorem aJ1 {n:Nat} (h0:0<n):Pl n (List.toArray (List.range n)):=by
 refine ⟨by simp,fun k=>?_⟩
 rw [Array.getD_eq_getD_getElem?,List.getElem?_toArray]
 by_cases h:k<n
 ·rw [List.getElem?_range h];exact h
 ·rw [List.getElem?_eq_none (by simpa using h)];exact h0
theorem lZ {n:Nat} (h0:0<n):(kas_sort n).Low n (Pl n):=by
 refine (aI4 h0 (aJ1 h0) n).bind fun r hr=>?_
 by_cases e:r.1<n
 ·rw [if_pos e];exact aG4 h0 _ _ _ hr
 ·rw [if_neg e];exact .ret hr
def bQ (n:Nat) (f:Nat→Nat→Bool):List Nat:=if n<2 then List.range n else ((kas_sort n).ev f).toList
theorem iH (n:Nat) (f:Nat→Nat→Bool):(bQ n f).length=n:=by
 unfold bQ
 by_cases h:n<2
 ·rw [if_pos h,List.length_range]
 ·rw [if_neg h,Array.length_toList]
  exact ((lZ (by omega)).of f).1
theorem jU {n:Nat} {f:Nat→Nat→Bool} {i:Nat} (h:i∈bQ n f):i<n:=by
 unfold bQ at h
 by_cases h2:n<2
 ·rw [if_pos h2] at h;exact List.mem_range.mp h
 ·rw [if_neg h2] at h
  have z:=(lZ (n:=n) (by omega)).of f
  obtain ⟨j,hj,e⟩:=List.getElem_of_mem h
  have hj':j<((kas_sort n).ev f).size:=by simpa using hj
  have:=z.2 j
  rw [Array.getD_eq_getD_getElem?,Array.getElem?_eq_getElem hj',Option.getD_some] at this
  rw [←e]
  simpa using this
section
variable {prog:Program} {w:World} {A:Around} {E:Value→Shared→Prop} {s:Shared} {f:Nat→Nat→Bool}
theorem tQ {a:Addr} {vs:List Value} {n:Nat} {P:PySem.Fin→Shared→Prop} (ho:s.heap.get? a=some (seqObj "list" vs.toArray n)) (h64:vs.length<64)
  (hk:2≤vs.length→∀h',(∀b o,b≠a→s.heap.get? b=some o→h'.get? b=some o)→∃κ,(∀(Q:SortKind→Shared→Prop),Q κ { s with heap:=h' }→wpAny (model prog w) A (keyKind' vs.toArray) Q (fun _ _=>False) { s with heap:=h' })∧∀i j (C:Bool→Shared→Prop),i<vs.length→j<vs.length→C (f i j) { s with heap:=h' }→kas_ask prog w A κ vs i j C { s with heap:=h' })
  (h:P (.done (.ret .none)) { s with heap:=sortedHeap s.heap a vs (List.toArray ((bQ vs.length f).map fun i=>vs.getD i Value.none)) }) :
  wpAny (model prog w) A (Builtin.«list.sort» ⟨[.ref a],[]⟩) P E s:=by
 rw [list_sort_plain]
 have ha:a<s.heap.objs.size:=Heap.lt_size ho
 refine wpAny_bind (listItems_at ho rfl ?_)
 refine wpAny_bind (listUpdate_at ho rfl ?_ (by rw [List.size_toArray,sizeLine_eq];omega) (Nat.zero_le _))
 obtain ⟨e1,ho1⟩:∃e1,(s.heap.update a (Obj.mapSeq fun _=>#[])).get? a=some (seqObj "list" #[] e1):=⟨_,get?_update_seq ho (fun _=>#[])⟩
 refine wpAny_bind (seqEpoch_at ho1 rfl ?_)
 refine wpAny_bind (wpAny_newTuple ?_ (by show vs.length≤_;rw [sizeLine_eq];omega))
 refine wpAny_bind (wpAny_newList ?_ (Nat.zero_le _))
 refine wpAny_holding ?_
 have ho6:(((s.heap.update a (Obj.mapSeq fun _=>#[])).push (seqObj "tuple" vs.toArray 0)).push (seqObj "list" #[] 0)).get? a=some (seqObj "list" #[] e1):=by
  rw [Heap.get?_push_ne _ _ _ (by rw [size_push',Heap.size_update];exact Nat.ne_of_lt (Nat.lt_succ_of_lt ha)),Heap.get?_push_ne _ _ _ (by rw [Heap.size_update];exact Nat.ne_of_lt ha)]
  exact ho1
 have keep:∀b o,b≠a→s.heap.get? b=some o→(((s.heap.update a (Obj.mapSeq fun _=>(#[]:Array Value))).push (seqObj "tuple" vs.toArray 0)).push (seqObj "list" #[] 0)).get? b=some o:=fun b o ne q=>by
  refine Heap.get?_push_of_some _ (Heap.get?_push_of_some _ ?_)
  rw [Heap.get?_update_ne _ _ _ _ ne]
  exact q
 show wpAny (model prog w) A _ P E { s with heap:=((s.heap.update a (Obj.mapSeq fun _=>#[])).push (seqObj "tuple" vs.toArray 0)).push (seqObj "list" #[] 0) }
 dsimp only
 have hsz:vs.toArray.size=vs.length:=by simp
 by_cases h2:vs.toArray.size<2
 ·rw [if_pos h2,if_pos h2]
  refine wpAny_bind (wpAny_pure ?_)
  rw [StateT.run_pure]
  refine wpAny_bind (wpAny_pure ?_)
  dsimp only
  refine wpAny_bind (seqEpoch_at ho6 rfl ?_)
  refine wpAny_bind (listUpdate_at ho6 rfl ?_ (hsz2:=by rw [Array.size_map];show (pairsOf vs).size≤_;rw [pairsOf_size,sizeLine_eq];omega))
  simp only [bne_self_eq_false,Bool.false_eq_true,if_false]
  refine wpAny_pure ?_
  have e:((arrOf (SortSt.mk' general' (vs.toArray.zip vs.toArray) #[] 7 none)).map (·.2))=List.toArray ((bQ vs.length f).map fun i=>vs.getD i Value.none):=by
   show ((vs.toArray.zip vs.toArray).map (·.2))=_
   unfold bQ
   rw [if_pos (by omega)]
   match vs,hsz,h2 with
   |[],_,_=>simp
   |[x],_,_=>simp [List.range,List.range.loop]
   |_::_::_,hsz,h2=>rw [hsz,List.length_cons,List.length_cons] at h2;omega
  rw [e]
  exact h
 ·rw [if_neg h2,if_neg h2]
  have h2':2≤vs.length:=by omega
  obtain ⟨κ,hk1,hk2⟩:=hk h2' _ keep
  refine wpAny_bind (wpAny_mono (hk1 (fun κ' s'=>(kas_sort vs.length).kasWp (kas_ask prog w A κ' vs) (fun p s'=>s'={ s with heap:=((s.heap.update a (Obj.mapSeq fun _=>#[])).push (seqObj "tuple" vs.toArray 0)).push (seqObj "list" #[] 0) }∧p=(kas_sort vs.length).ev f) s') (aLa (n:=vs.length) (P:=Pl vs.length) (f:=f) (cmp:=kas_ask prog w A κ vs) (t:=kas_sort vs.length) hk2 (lZ (by omega)) (Q:=fun p s'=>s'={ s with heap:=((s.heap.update a (Obj.mapSeq fun _=>#[])).push (seqObj "tuple" vs.toArray 0)).push (seqObj "list" #[] 0) }∧p=(kas_sort vs.length).ev f) ⟨rfl,rfl⟩)) (fun κ' s0 hk=>?_) fun _ _ x=>x.elim)
  refine wpAny_bind (wpAny_mono (kat_run (Q:=fun st' s'=>∃p:Array Nat,p.size=vs.length∧arrOf st'=p.map (kas_item (vs.toArray.zip vs.toArray))∧failedOf st'=none∧s'={ s with heap:=((s.heap.update a (Obj.mapSeq fun _=>#[])).push (seqObj "tuple" vs.toArray 0)).push (seqObj "list" #[] 0) }∧p=(kas_sort vs.length).ev f)
   rfl h2' h64 (fun p' st' s' a1 a2 a3 a4=>⟨p',a1,a2,a3,a4⟩) hk) ?_ fun _ _ e=>e)
  rintro ⟨⟨⟩,st'⟩ s' ⟨p,hp,har,hf,rfl,rfl⟩
  dsimp only
  have hout:=kat_snds rfl har
  rw [hout]
  refine wpAny_bind (seqEpoch_at ho6 rfl ?_)
  refine wpAny_bind (listUpdate_at ho6 rfl ?_ (Nat.zero_le _) (by rw [List.size_toArray,List.length_map,Array.length_toList,hp,sizeLine_eq];omega))
  rw [hf]
  simp only [bne_self_eq_false,Bool.false_eq_true,if_false]
  refine wpAny_pure ?_
  have e:bQ vs.length f=((kas_sort vs.length).ev f).toList:=by unfold bQ;rw [if_neg (by omega)]
  rw [e] at h
  exact h
theorem zF {l:Addr} {vs:List Value} {Q:Value→Shared→Prop} (hl:s.heap.IsList l vs.toArray) (h64:vs.length<64)
  (hk:2≤vs.length→∀h',(∀b o,s.heap.get? b=some o→h'.get? b=some o)→∃κ,(∀(Q:SortKind→Shared→Prop),Q κ { s with heap:=h' }→wpAny (model prog w) A.in1.in1 (keyKind' vs.toArray) Q (fun _ _=>False) { s with heap:=h' })∧∀i j (C:Bool→Shared→Prop),i<vs.length→j<vs.length→C (f i j) { s with heap:=h' }→kas_ask prog w A.in1.in1 κ vs i j C { s with heap:=h' })
  (h:Q (.ref (s.heap.objs.size+1)) { s with heap:=sortedAll s.heap vs (List.toArray ((bQ vs.length f).map fun i=>vs.getD i Value.none)) }) :
  wpAny (model prog w) A (call (.builtin "sorted") [.ref l]) Q E s:=by
 refine Calls.call_function_entry kind_sorted plain_sorted entry_sorted (args_sorted1 _) ?_
 unfold Builtin.«sorted»
 refine wpAny_bind (m:=checkCount "sorted" 1 1 _) (wpAny_pure ?_)
 refine wpAny_bind (collect_list hl ?_ (by rw [sizeLine_eq];omega))
 refine wpAny_bind (wpAny_newList ?_ (by rw [sizeLine_eq];omega))
 have hsz:((s.heap.push (seqObj "list" #[] 0)).update s.heap.objs.size (Obj.mapSeq (·++vs.toArray))).objs.size=s.heap.objs.size+1:=by
  rw [Heap.size_update,size_push']
 have hoL:(((s.heap.push (seqObj "list" #[] 0)).update s.heap.objs.size (Obj.mapSeq (·++vs.toArray))).push (seqObj "list" vs.toArray 0)).get? (s.heap.objs.size+1)=some (seqObj "list" vs.toArray 0):=by
  rw [←hsz];exact Heap.get?_push_size _ rfl
 have keep:∀b o,s.heap.get? b=some o→(((s.heap.push (seqObj "list" #[] 0)).update s.heap.objs.size (Obj.mapSeq (·++vs.toArray))).push (seqObj "list" vs.toArray 0)).get? b=some o:=fun b o q=>by
  have hlt:b<s.heap.objs.size:=Heap.lt_size q
  rw [Heap.get?_push_ne _ _ _ (by rw [hsz];exact Nat.ne_of_lt (Nat.lt_succ_of_lt hlt)),Heap.get?_update_ne _ _ _ _ (Nat.ne_of_lt hlt),Heap.get?_push_ne _ _ _ (Nat.ne_of_lt hlt)]
  exact q
 show wpAny _ _ _ _ _ { s with heap:=((s.heap.push (seqObj "list" #[] 0)).update s.heap.objs.size (Obj.mapSeq (·++vs.toArray))).push (seqObj "list" vs.toArray 0) }
 rw [hsz]
 refine wpAny_bind (wpAny_holding (wpAny_call_entry slot_list_sort ⟨_,hoL,rfl⟩ entry_list_sort (tQ (f:=f) (s:={ s with heap:=((s.heap.push (seqObj "list" #[] 0)).update s.heap.objs.size (Obj.mapSeq (·++vs.toArray))).push (seqObj "list" vs.toArray 0) }) hoL h64 (fun h2 h' kp=>hk h2 h' fun b o q=>kp b o (Nat.ne_of_lt (Nat.lt_succ_of_lt (Heap.lt_size q))) (keep b o q)) ⟨_,rfl,?_⟩) (args_list_sort _)))
 exact wpAny_pure ⟨_,rfl,h⟩
end
end PySem.W
namespace L2
open PySem PySem.Spec PyProof.Rows
inductive Al2 {α β:Type} (R:α→β→Prop):List α→List β→Prop
 |nil:Al2 R [] []
 |cons {a b as bs}:R a b→Al2 R as bs→Al2 R (a::as) (b::bs)
theorem Al2.len {α β:Type} {R:α→β→Prop} {as:List α} {bs:List β} (h:Al2 R as bs):as.length=bs.length:=by
 induction h with
 |nil=>rfl
 |cons _ _ ih=>rw [List.length_cons,List.length_cons,ih]
theorem Al2.at {α β:Type} {R:α→β→Prop} {as:List α} {bs:List β} (h:Al2 R as bs):∀{j:Nat} {a:α},as[j]?=some a→∃b,bs[j]?=some b∧R a b:=by
 induction h with
 |nil=>intro j a e;simp at e
 |cons r _ ih=>
  intro j a e
  cases j with
  |zero=>cases e;exact ⟨_,rfl,r⟩
  |succ j=>exact ih (by simpa using e)
def DEq (K:PySem.W.Frag) (H:Hp):Nat→V→V→Prop
 |0,x,y=>flatV x=true∧x=y
 |n+1,x,y=>(flatV x=true∧x=y)∨∃a b xs ys,x=.ref a∧y=.ref b∧SqT K H a xs∧SqT K H b ys∧Al2 (DEq K H n) xs ys
theorem yO {A:Around} {s:Shared} {x:V} {v u:Value} (h:flatV x=true) (rv:RelV x v) (ru:RelV x u):SeqAt.EqAt A s v u true:=by
 cases x with
 |non=>cases rv;cases ru;exact SeqAt.EqAt.same _
 |bl b=>cases rv;cases ru;exact SeqAt.EqAt.same _
 |int i=>
  obtain ⟨t,rfl⟩:=rv
  obtain ⟨t',rfl⟩:=ru
  have z:=SeqAt.EqAt.int_int (A:=A) (s:=s) i t i t'
  simpa using z
 |str y=>
  obtain ⟨t,rfl⟩:=rv
  obtain ⟨t',rfl⟩:=ru
  have z:=SeqAt.EqAt.str_str (A:=A) (s:=s) y t y t'
  simpa using z
 |_=>cases h
section
variable {X:Cx} {pins:List (Addr × Obj)} {σ:L2.St} {H:Hp} {s:Shared}
theorem pB (I:Inv X pins σ H s) {n:Nat} {A:Around} {xs ys:List V} {its jts:List Value} (rv:Vals xs its) (rw':Vals ys jts) (h:Al2 (DEq X.K H n) xs ys)
  (ih:∀{x y v u},DEq X.K H n x y→RelV x v→RelV y u→SeqAt.EqAt A s v u true):∀(j:Nat) (h1:j<its.toArray.size) (h2:j<jts.toArray.size),SeqAt.EqAt A s its.toArray[j] jts.toArray[j] ((fun _=>true) j):=fun j h1 h2=>by
 have e1:=rv.length
 have hj1:j<xs.length:=by rw [List.size_toArray] at h1;omega
 obtain ⟨y,hy,d⟩:=h.at (List.getElem?_eq_getElem hj1)
 obtain ⟨u1,hu1,r1⟩:=rv.get (List.getElem?_eq_getElem hj1)
 obtain ⟨u2,hu2,r2⟩:=rw'.get hy
 have g1:its.toArray[j]=u1:=by
  rw [List.getElem_toArray]
  exact (List.getElem?_eq_some_iff.mp hu1).2
 have g2:jts.toArray[j]=u2:=by
  rw [List.getElem_toArray]
  exact (List.getElem?_eq_some_iff.mp hu2).2
 rw [g1,g2]
 exact ih d r1 r2
theorem jT (n:Nat):(List.range n).all (fun _=>true)=true:=by rw [List.all_eq_true];intro _ _;rfl
theorem qW (I:Inv X pins σ H s):∀(n:Nat) {A:Around} {x y:V} {v u:Value},DEq X.K H n x y→RelV x v→RelV y u→A.units+n<cLine→SeqAt.EqAt A s v u true
 |0,A,x,y,v,u,h,rv,ru,_=>by
  obtain ⟨h,rfl⟩:=h
  exact yO h rv ru
 |n+1,A,x,y,v,u,h,rv,ru,hu=>by
  rcases h with ⟨h,rfl⟩|⟨a,b,xs,ys,rfl,rfl,ha,hb,h⟩
  ·exact yO h rv ru
  cases rv
  cases ru
  by_cases e:a=b
  ·subst e;exact SeqAt.EqAt.same _
  obtain ⟨its,r1,pl,hz⟩:=I.tuple ha
  obtain ⟨jts,r2,pm,hw⟩:=I.tuple hb
  refine SeqAt.EqAt.of_refs e ?_
  have z:=SeqAt.RcAt.tuples (A:=A) (e:=fun _=>true) (show s.heap.IsTuple a its.toArray from pl) (show s.heap.IsTuple b jts.toArray from pm) (by omega) (pB I r1 r2 h fun d q1 q2=>qW I n d q1 q2 (by show A.units+1+n<cLine;omega))
  have z2:(its.toArray.size == jts.toArray.size)=true:=by rw [List.size_toArray,List.size_toArray];have:=r1.length;have:=r2.length;have:=h.len;simp;omega
  rw [jT,z2] at z
  exact z
end
def aP7 (K:PySem.W.Frag) (r:Bool):R2:=fun x y H Q=>∃a b xs ys,x=.ref a∧y=.ref b∧SqT K H a xs∧SqT K H b ys∧Al2 (DEq K H 40) xs ys∧Q (.bl r) H
theorem aOo {X:Cx} (hu:X.A.units+64<cLine):OpR X (compareOp .NotEq) (aP7 X.K false):=by
 intro pins s σ H x y v u Q I rx ry h
 obtain ⟨a,b,xs,ys,rfl,rfl,ha,hb,h,q⟩:=h
 cases rx
 cases ry
 obtain ⟨its,r1,pl,hz⟩:=I.tuple ha
 obtain ⟨jts,r2,pm,hw⟩:=I.tuple hb
 refine SeqAt.RcNeAt.tuples (e:=fun _=>true) (show s.heap.IsTuple a its.toArray from pl) (show s.heap.IsTuple b jts.toArray from pm) (by omega) (pB I r1 r2 h fun d q1 q2=>qW I 40 d q1 q2 (by show X.A.units+1+40<cLine;omega)) _ _ _ _ ?_
 have z2:(its.toArray.size == jts.toArray.size)=true:=by rw [List.size_toArray,List.size_toArray];have:=r1.length;have:=r2.length;have:=h.len;simp;omega
 rw [jT,z2]
 exact ⟨.bl _,H,I,rfl,q⟩
def dD (K:PySem.W.Frag) (H:Hp) (u:V) (r:List V):Prop:=∃a,u=.ref a∧SqT K H a r
theorem dD.same {K:PySem.W.Frag} {H H':Hp} {u:V} {r:List V} (e:Same H H') (h:dD K H u r):dD K H' u r:=by
 obtain ⟨a,rfl,ha⟩:=h
 exact ⟨a,rfl,e.aM ha⟩
def KdV:Bool→V→Prop
 |true,x=>∃i,x=.int i
 |false,x=>∃z,x=.str z
def KdR (ks:List Bool) (r:List V):Prop:=Al2 KdV ks r
def rlt:List V→List V→Bool
 |.int a::xs,.int b::ys=>if (a == b)=true then rlt xs ys else decide (a<b)
 |.str a::xs,.str b::ys=>if (a == b)=true then rlt xs ys else decide (a.cps.toList<b.cps.toList)
 |_,_=>false
def srt (rs:List (List V)):List (List V):=(PySem.W.bQ rs.length fun i j=>rlt (rs.getD i []) (rs.getD j [])).map fun i=>rs.getD i []
theorem aMb (rs:List (List V)):(srt rs).length=rs.length:=by unfold srt;rw [List.length_map,PySem.W.iH]
theorem aHz {rs:List (List V)} {r:List V} (h:r∈srt rs):r∈rs:=by
 obtain ⟨i,hi,rfl⟩:=List.mem_map.mp h
 have:=PySem.W.jU hi
 have e:rs.getD i []=rs[i]:=by simp [this]
 rw [e]
 exact List.getElem_mem this
theorem Al2.get {α β:Type} {R:α→β→Prop} {as:List α} {bs:List β} (h:Al2 R as bs) {i:Nat} {a:α} {b:β} (h1:as[i]?=some a) (h2:bs[i]?=some b):R a b:=by
 obtain ⟨b',e,r⟩:=h.at h1
 rw [h2] at e
 cases e
 exact r
theorem Al2.of {α β:Type} {R:α→β→Prop}:∀{as:List α} {bs:List β},as.length=bs.length→(∀(i:Nat) (a:α) (b:β),as[i]?=some a→bs[i]?=some b→R a b)→Al2 R as bs
 |[],[],_,_=>.nil
 |a::as,b::bs,hl,h=>.cons (h 0 a b rfl rfl) (Al2.of (by simpa using hl) fun i x y h1 h2=>h (i+1) x y (by simpa using h1) (by simpa using h2))
theorem Al2.imp {α β:Type} {R S:α→β→Prop} {as:List α} {bs:List β} (h:Al2 R as bs) (k:∀a b,R a b→S a b):Al2 S as bs:=by
 induction h with
 |nil=>exact .nil
 |cons r _ ih=>exact .cons (k _ _ r) ih
section
variable {prog:Program} {w:World} {A:Around} {s:Shared} {b:Bool} {Q:Bool→Shared→Prop}
theorem aMx (ks:List Bool):∀{r1 r2:List V} {i1 i2:List Value},KdR ks r1→KdR ks r2→Vals r1 i1→Vals r2 i2→∀i:Nat,Q (rlt r1 r2) s→PySem.W.KatLex prog w A b false Q (i1.zip i2) i s:=by
 induction ks with
 |nil=>
  intro r1 r2 i1 i2 h1 h2 v1 v2 i q
  cases h1;cases h2;cases v1;cases v2
  exact q
 |cons k ks ih=>
  intro r1 r2 i1 i2 h1 h2 v1 v2 i q
  cases h1 with
  |cons a1 t1=>
   cases h2 with
   |cons a2 t2=>
    cases v1 with
    |cons p1 w1=>
     cases v2 with
     |cons p2 w2=>
      cases k with
      |true=>
       obtain ⟨x,rfl⟩:=a1
       obtain ⟨y,rfl⟩:=a2
       obtain ⟨t,rfl⟩:=p1
       obtain ⟨u,rfl⟩:=p2
       refine (SeqAt.EqAt.int_int x t y u) prog w _ _ ?_
       unfold rlt at q
       by_cases e:(x == y)=true
       ·rw [e,if_pos rfl]
        rw [if_pos e] at q
        exact ih t1 t2 w1 w2 (i+1) q
       ·rw [if_neg e] at q
        rw [Bool.not_eq_true] at e
        rw [e,if_neg (by decide)]
        cases hb:(b && i == 0) with
        |true=>exact oneLt_int q
        |false=>exact PySem.W.kat_one _ _ (lt_int q)
      |false=>
       obtain ⟨x,rfl⟩:=a1
       obtain ⟨y,rfl⟩:=a2
       obtain ⟨t,rfl⟩:=p1
       obtain ⟨u,rfl⟩:=p2
       refine (SeqAt.EqAt.str_str x t y u) prog w _ _ ?_
       unfold rlt at q
       by_cases e:(x == y)=true
       ·rw [e,if_pos rfl]
        rw [if_pos e] at q
        exact ih t1 t2 w1 w2 (i+1) q
       ·rw [if_neg e] at q
        rw [Bool.not_eq_true] at e
        rw [e,if_neg (by decide)]
        cases hb:(b && i == 0) with
        |true=>exact oneLt_str q
        |false=>exact PySem.W.kat_one _ _ (lt_str q)
end
section
variable {X:Cx}
def aN9 (K:PySem.W.Frag):List V→Hp→VK→Prop:=fun xs H Q=>∃(l:Addr) (us:List V) (rs:List (List V)) (ks:List Bool),xs=[.ref l]∧SqL K H l us∧Al2 (dD K H) us rs∧us.length<64∧ks≠[]∧(∀r∈rs,KdR ks r) ∧
 ∀D H' us',H D=none→Same H H'→H' D=some (.lst us')→Al2 (dD K H) us' (srt rs)→Q (.ref D) H'
theorem aHn {pins:List (Addr × Obj)} {σ:L2.St} {H:Hp} {s:Shared} {h':Heap} {k:Bool} {ks:List Bool} (I:Inv X pins σ H s) (kp:∀b o,s.heap.get? b=some o→h'.get? b=some o):∀{us:List V} {rs:List (List V)} {its:List Value},Al2 (dD X.K H) us rs→Vals us its→(∀r∈rs,KdR (k::ks) r) →
  ∃fs,PySem.W.KatTups h' its fs∧fs.length=its.length∧∀f∈fs,∀M:Model,PySem.W.Looks M h' (typeOf f) (.type (if k=true then "int" else "str"))
 |_,_,_,.nil,.nil,_=>⟨[],.nil,rfl,fun f h=>by cases h⟩
 |_,_,_,.cons (b:=r) hr t,.cons q z,hk=>by
  obtain ⟨fs,h1,h2,h3⟩:=aHn I kp t z fun r m=>hk r (List.mem_cons_of_mem _ m)
  obtain ⟨a,rfl,ha⟩:=hr
  cases q
  obtain ⟨ks',rv,⟨o,ho,hc,n,hd⟩,_⟩:=I.tuple ha
  have hkr:=hk r (List.mem_cons_self ..)
  cases hkr with
  |cons hx _=>
   cases rv with
   |@cons _ f _ fr rx _=>
    refine ⟨f::fs,.cons (kp _ _ ho) hc hd (by simp) h1,by rw [List.length_cons,List.length_cons,h2],fun g hg M=>?_⟩
    rcases List.mem_cons.mp hg with rfl|hg
    ·cases k with
     |true=>
      obtain ⟨i,rfl⟩:=hx
      obtain ⟨tk,rfl⟩:=rx
      exact .now
     |false=>
      obtain ⟨i,rfl⟩:=hx
      obtain ⟨tk,rfl⟩:=rx
      exact .now
    ·exact h3 g hg M
theorem iV:CallR X (.builtin "sorted") (aN9 X.K):=by
 intro pins s σ H xs us0 Q I r h
 obtain ⟨l,us,rs,ks,rfl,hl,hr,h64,hne,hk,q⟩:=h
 obtain ⟨u,rfl,ru⟩:=vals1 r
 cases ru
 obtain ⟨its,rv,pl,hz⟩:=I.list hl
 have e1:=rv.length
 have e2:=hr.len
 obtain ⟨k,ks',rfl⟩:∃k ks',ks=k::ks':=by
  cases ks with
  |nil=>exact absurd rfl hne
  |cons k ks'=>exact ⟨k,ks',rfl⟩
 refine PySem.W.zF (f:=fun i j=>rlt (rs.getD i []) (rs.getD j [])) pl.isList (by omega) (fun h2 h' kp=>?_) ?_
 ·obtain ⟨fs,t1,t2,t3⟩:=aHn I kp hr rv hk
  refine ⟨_,fun Q hq=>PySem.W.kat_kind (s:={ s with heap:=h' }) (T:=.type (if k=true then "int" else "str")) t1 (by omega) (fun v hv=>t3 v hv _) (by simp) hq,fun i j C hi hj hC=>?_⟩
  have row:∀{i:Nat},i<its.length→∃a o r xs n,its.getD i Value.none=.ref a∧h'.get? a=some o∧o.data=.seq (List.toArray xs) n∧Vals r xs∧rs.getD i []=r∧KdR (k::ks') r:=fun {i} hi=>by
   have hiu:i<us.length:=by omega
   have hir:i<rs.length:=by omega
   obtain ⟨a,ea,ha⟩:=hr.get (List.getElem?_eq_getElem hiu) (List.getElem?_eq_getElem hir)
   obtain ⟨v,hv,rx⟩:=rv.get (List.getElem?_eq_getElem hiu)
   rw [ea] at rx
   cases rx
   obtain ⟨xs,rr,⟨o,ho,hc,n,hd⟩,_⟩:=I.tuple ha
   refine ⟨a,o,rs[i],xs,n,?_,kp _ _ ho,hd,rr,by simp [hir],hk _ (List.getElem_mem hir)⟩
   rw [List.getD_eq_getElem?_getD,hv]
   rfl
  obtain ⟨a,o,r1,x1,n1,g1,g2,g3,g4,g5,g6⟩:=row hi
  obtain ⟨b,o',r2,x2,n2,g1',g2',g3',g4',g5',g6'⟩:=row hj
  show wpAny _ _ (keyLt' _ (its.getD i Value.none) (its.getD j Value.none)) C _ _
  rw [g1,g1']
  refine PySem.W.kat_lt (s:={ s with heap:=h' }) g2 g3 g2' g3' ?_
  have hsz:decide ((List.toArray x1).size<(List.toArray x2).size)=false:=by
   rw [List.size_toArray,List.size_toArray]
   have:=g4.length
   have:=g4'.length
   have:=Al2.len g6
   have:=Al2.len g6'
   exact decide_eq_false (by omega)
  rw [hsz]
  refine aMx (k::ks') g6 g6' g4 g4' 0 ?_
  have hC:C (rlt (rs.getD i []) (rs.getD j [])) { s with heap:=h' }:=hC
  rw [g5,g5'] at hC
  exact hC
 ·obtain ⟨e,he⟩:=sortedAll_at s.heap its (List.toArray ((PySem.W.bQ its.length fun i j=>rlt (rs.getD i []) (rs.getD j [])).map fun i=>its.getD i Value.none))
  have hf:H (s.heap.objs.size+1)=none:=I.hok.fresh (Nat.le_succ _)
  have el:its.length=rs.length:=by omega
  refine ⟨.ref (s.heap.objs.size+1),_,I.laid (t':=s.toks) (o:=.lst ((PySem.W.bQ rs.length fun i j=>rlt (rs.getD i []) (rs.getD j [])).map fun i=>us.getD i .non)) (fun b o q=>sortedAll_old q) (Nat.le_succ _) ?_,rfl,q _ _ _ hf (aX hf _) upd_same ?_⟩
  ·refine ⟨small (by rw [List.length_map,PySem.W.iH];omega),_,e,?_,he⟩
   rw [el]
   have aux:∀L:List Nat,(∀i∈L,i<us.length)→Vals (L.map fun i=>us.getD i .non) (L.map fun i=>its.getD i Value.none):=by
    intro L
    induction L with
    |nil=>intro _;exact .nil
    |cons i L ih=>
     intro hL
     have hi:=hL i (List.mem_cons_self ..)
     obtain ⟨v,hv,rx⟩:=rv.get (List.getElem?_eq_getElem hi)
     refine .cons ?_ (ih fun j hj=>hL j (List.mem_cons_of_mem _ hj))
     show RelV (us.getD i .non) (its.getD i Value.none)
     rw [List.getD_eq_getElem?_getD,List.getElem?_eq_getElem hi,List.getD_eq_getElem?_getD,hv]
     exact rx
   exact aux _ fun i hi=>by have:=PySem.W.jU hi;omega
  ·unfold srt
   have aux:∀L:List Nat,(∀i∈L,i<us.length)→Al2 (dD X.K H) (L.map fun i=>us.getD i .non) (L.map fun i=>rs.getD i []):=by
    intro L
    induction L with
    |nil=>intro _;exact .nil
    |cons i L ih=>
     intro hL
     have hi:=hL i (List.mem_cons_self ..)
     have hir:i<rs.length:=by omega
     refine .cons ?_ (ih fun j hj=>hL j (List.mem_cons_of_mem _ hj))
     show dD X.K H (us.getD i .non) (rs.getD i [])
     rw [List.getD_eq_getElem?_getD,List.getElem?_eq_getElem hi,List.getD_eq_getElem?_getD,List.getElem?_eq_getElem hir]
     exact hr.get (List.getElem?_eq_getElem hi) (List.getElem?_eq_getElem hir)
   exact aux _ fun i hi=>by have:=PySem.W.jU hi;omega
end
section
variable {X:Cx}
def aPp:R2:=fun x y H Q=>(∃a b,x=.int a∧y=.int b∧Q (.bl (decide (a<b))) H)∨∃a b:Str,x=.str a∧y=.str b∧Q (.bl (decide (a.cps.toList<b.cps.toList))) H
theorem aOt:OpR X (compareOp .Lt) aPp:=by
 intro pins s σ H x y v u Q I rx ry h
 rcases h with ⟨a,b,rfl,rfl,q⟩|⟨a,b,rfl,rfl,q⟩
 ·obtain ⟨t,rfl⟩:=rx
  obtain ⟨t',rfl⟩:=ry
  exact lt_int ⟨.bl _,H,I,rfl,q⟩
 ·obtain ⟨t,rfl⟩:=rx
  obtain ⟨t',rfl⟩:=ry
  exact lt_str ⟨.bl _,H,I,rfl,q⟩
def aMz (K:PySem.W.Frag):V→List V→Hp→VK→Prop:=fun x vs H Q=>∃(l:Addr) (ss:List Str) (n:Str) (i:Nat),x=.ref l∧vs=[.str n]∧SqL K H l (ss.map V.str)∧ss.length≤1000∧ss[i]?=some n∧(∀(j:Nat) (m:Str),j<i→ss[j]?=some m→m≠n)∧Q (.int (i:Nat)) H
def aE2 (n:Str):Value→Bool
 |.str x _=>x == n
 |_=>false
theorem xX:MtR X "list.index" (aMz X.K):=by
 intro pins s σ H x vs v us Q I rx rv h
 obtain ⟨l,ss,n,i,rfl,rfl,hH,h1000,hi,hno,q⟩:=h
 cases rx
 obtain ⟨u,rfl,ru⟩:=rv.one
 obtain ⟨t,rfl⟩:=ru
 obtain ⟨its,r,pl,hz⟩:=I.list hH
 have el:=r.length
 rw [List.length_map] at el
 obtain ⟨⟨cls,dd,data,sl⟩,ho,hc,nn,hd⟩:=id pl.isList
 simp only at hc hd
 subst hc hd
 have hil:=(List.getElem?_eq_some_iff.mp hi).1
 have get:∀{j:Nat} (hj:j<its.length),∃m t',ss[j]?=some m∧its[j]=.str m t':=fun {j} hj=>by
  have hj':j<ss.length:=by omega
  obtain ⟨w,hw,rw'⟩:=r.get (show (ss.map V.str)[j]?=some (.str ss[j]) by rw [List.getElem?_map,List.getElem?_eq_getElem hj'];rfl)
  obtain ⟨t',rfl⟩:=rw'
  exact ⟨ss[j],t',List.getElem?_eq_getElem hj',(List.getElem?_eq_some_iff.mp hw).2⟩
 refine call_meets PySem.F.slot_list_index ⟨_,ho,rfl⟩ PySem.F.entry_list_index (PySem.F.args_list_index_2 _ _)
  (SeqAt.list_indexAt l its.toArray nn dd sl (.str n t) (aE2 n) i (by rw [List.size_toArray];omega) (by omega) ?_ ?_) ⟨ho,fun y hy=>?_,⟨.int _,H,I.tok _,⟨_,rfl⟩,q⟩⟩
 ·obtain ⟨m,t',h1,h2⟩:=get (j:=i) (by omega)
  rw [hi] at h1
  cases h1
  show aE2 n its[i]=true
  rw [h2]
  show (n == n)=true
  simp
 ·intro j hj hlt
  obtain ⟨m,t',h1,h2⟩:=get (j:=j) (by simpa using hj)
  show aE2 n its[j]=false
  rw [h2]
  have:=hno j m hlt h1
  show (m == n)=false
  simpa using this
 ·have hy:y∈its:=by simpa using hy
  obtain ⟨j,hj,rfl⟩:=List.getElem_of_mem hy
  obtain ⟨m,t',h1,h2⟩:=get (j:=j) hj
  rw [h2]
  exact SeqAt.EqAt.str_str m t' n t
end
end L2
namespace L2
open PySem PySem.Spec PyProof.Rows Builtin
section
variable {prog:Program} {w:World} {A:Around} {E:Value→Shared→Prop} {s:Shared}
theorem aDj {x Tx:Value} {P:Shared→Prop} (hP:∀s tk,P s→P { s with toks:=tk }) {tp:Addr} {o:Obj} {n:Nat} {tk:Tok} {cs:List Value} {vs:List Bool} {Q:PySem.Fin→Shared→Prop}
  (T:PySem.W.Looks (model prog w) s.heap (typeOf x) Tx) (ne:¬ (Tx == Value.ref tp)=true) (ho:s.heap.get? tp=some o) (hc:o.cls=.type "tuple") (hd:o.data=.seq cs.toArray n) (ha:AnswersAll P x cs vs) (hp:P s)
  (hq:∀t,Q (.done (.ret (.bool (vs.any id)))) { s with toks:=t }) :
  wpAny (model prog w) A (Builtin.«isinstance.nested» ⟨[x,.ref tp,.int 0 tk],[]⟩) Q E s:=by
 obtain ⟨h,g,d,t,os⟩:=s
 have T2:PySem.W.Looks (model prog w) h (typeOf (.ref tp)) (.type "tuple"):=hc ▸ (PySem.W.Looks.ld ho).andThen .now
 unfold Builtin.«isinstance.nested»
 refine wpAny_bind (T.at ?_)
 rw [if_neg ne]
 refine wpAny_bind (T2.at ?_)
 rw [if_neg (by decide)]
 unfold Builtins.unionMembers
 refine wpAny_bind (wpAny_bind (T2.at ?_))
 rw [if_neg (by decide)]
 refine wpAny_pure ?_
 have LI:PySem.W.Looks (model prog w) h (isInstance (.ref tp) (.type "tuple")) true:=T2.andThen (PySem.W.Looks.of_pure F.isi_sub_tuple)
 have SI:PySem.W.Looks (model prog w) h (seqItems? (.ref tp)) (some cs.toArray):=(PySem.W.Looks.ld ho).andThen (by rw [hd];exact .now)
 refine wpAny_bind (LI.at ?_)
 rw [if_pos rfl]
 dsimp only
 rw [if_neg (by decide)]
 refine wpAny_bind (SI.at (wpAny_bind ?_))
 rw [Option.getD_some]
 have e0:∀{F:Value→Option Fin × Unit→Sem (ForInStep (Option Fin × Unit))} {b:Option Fin × Unit},forIn cs.toArray b F=forIn cs b F:=by intros;simp
 rw [e0]
 refine isinstance_items (dep:=0) (P:=P) hP cs vs _ _ ha hp fun tk'=>?_
 cases hv:vs.any id with
 |true=>
  rw [if_pos rfl]
  exact wpAny_pure (hv ▸ hq tk')
 |false=>
  rw [if_neg (by decide)]
  exact wpAny_pure (hv ▸ hq tk')
end
section
variable {X:Cx}
def aNs (K:PySem.W.Frag):List V→Hp→VK→Prop:=fun xs H Q=>∃x t,xs=[x,.ref t]∧SqT K H t [.ty "int",.ty "str"]∧((∃i,x=.int i)∨∃z,x=.str z)∧Q (.bl true) H
theorem aJv:CallR X (.builtin "isinstance") (aNs X.K):=by
 intro pins s σ H xs us Q I r h
 obtain ⟨x,t,rfl,ht,hx,q⟩:=h
 obtain ⟨u,v,rfl,rx,rT⟩:=r.two
 obtain rfl:v=Value.ref t:=rT
 obtain ⟨its,rv,⟨o,ho,hoc,n,hod⟩,_⟩:=I.tuple ht
 have ei:its=[.type "int",.type "str"]:=by
  cases rv with
  |cons a b=>cases b with
   |cons c d=>cases d;rw [show _=Value.type "int" from a,show _=Value.type "str" from c]
 subst ei
 rcases hx with ⟨i,rfl⟩|⟨z,rfl⟩
 ·obtain ⟨tk,rfl⟩:=rx
  have ha:AnswersAll (fun s=>s.TypeIs (.int i tk) "int") (.int i tk) [.type "int",.type "str"] [true,false]:=⟨Answers.of_true F.isi_meta_int F.isi_self_int,Answers.of_false_int (by decide +kernel) F.isi_meta_str F.sub_int_str,trivial⟩
  have g:Meets (Builtin.«isinstance» ⟨[.int i tk,.ref t],[]⟩) (fun _ R s=>s.heap.get? t=some o∧∀t,R (.ok (.ret (.bool true))) { s with toks:=t }):=
   fun prog w A R s hs=>isinstance_outer (aDj (vs:=[true,false]) (fun _ _ h=>h) (.now) (by intro z;exact absurd (beq_iff_eq.mp z) (by intro y;cases y)) hs.1 hoc hod ha (typeIs_int s i tk) fun t=>hs.2 t) (by intro z;cases z)
  exact call_isinstance g ⟨ho,fun t=>⟨.bl true,H,I.tok t,rfl,q⟩⟩
 ·obtain ⟨tk,rfl⟩:=rx
  have ha:AnswersAll (fun s=>s.TypeIs (.str z tk) "str") (.str z tk) [.type "int",.type "str"] [false,true]:=⟨Answers.of_false_str (by decide +kernel) F.isi_meta_int F.sub_str_int,Answers.of_true F.isi_meta_str F.isi_self_str,trivial⟩
  have g:Meets (Builtin.«isinstance» ⟨[.str z tk,.ref t],[]⟩) (fun _ R s=>s.heap.get? t=some o∧∀t,R (.ok (.ret (.bool true))) { s with toks:=t }):=
   fun prog w A R s hs=>isinstance_outer (aDj (vs:=[false,true]) (fun _ _ h=>h) (.now) (by intro z;exact absurd (beq_iff_eq.mp z) (by intro y;cases y)) hs.1 hoc hod ha (typeIs_str s z tk) fun t=>hs.2 t) (by intro z;cases z)
  exact call_isinstance g ⟨ho,fun t=>⟨.bl true,H,I.tok t,rfl,q⟩⟩
theorem aFr {K:PySem.W.Frag} (hK:X.K=K:=by rfl):CallR X (.builtin "isinstance") (aNs K):=by subst hK;exact aJv
def aPg (K:PySem.W.Frag):List V→Hp→VK→Prop:=fun xs H Q=>∃l us,xs=[.ref l,.ty "list"]∧SqL K H l us∧Q (.bl true) H
theorem yK:CallR X (.builtin "isinstance") (aPg X.K):=by
 intro pins s σ H xs us Q I r h
 obtain ⟨l,zs,rfl,hl,q⟩:=h
 obtain ⟨u,v,rfl,rx,rT⟩:=r.two
 obtain rfl:v=Value.type "list":=rT
 obtain rfl:u=Value.ref l:=rx
 obtain ⟨its,rv,pl,_⟩:=I.list hl
 obtain ⟨o,ho,hc,_⟩:=id pl.isList
 exact call_isinstance (isinstance_true F.isi_meta_list F.isi_self_list) ⟨⟨o,ho,hc⟩,⟨.bl true,H,I,rfl,q⟩⟩
end
section
variable {X:Cx} {pins:List (Addr × Obj)} {σ:L2.St} {H:Hp} {s:Shared} {d:Addr} {o:Obj} {kvs:List (Key × V)}
end
section
variable {X:Cx} {tg:Expr}
end
section
variable {X:Cx} {tg:Expr}
end
theorem qZ:∀{xs:List V} {is js:List Value},(∀x∈xs,∃a,x=.ref a)→Vals xs is→Vals xs js→is=js
 |_,_,_,_,.nil,.nil=>rfl
 |_,_,_,h,.cons r t,.cons r' t'=>by
  obtain ⟨a,rfl⟩:=h _ (List.mem_cons_self ..)
  cases r
  cases r'
  rw [qZ (fun x hx=>h x (List.mem_cons_of_mem _ hx)) t t']
def aPl (K:PySem.W.Frag):R2:=fun x y H Q=>∃(d e:Addr) (k:Key) (a b:Addr) (xs:List V),x=.ref d∧y=.ref e∧H d=some (.dK [(k,.ref a)])∧H e=some (.dK [(k,.ref b)])∧SqL K H a xs∧SqL K H b xs∧(∀x∈xs,∃p,x=.ref p)∧Q (.bl false) H
theorem aMr {X:Cx} (hu:X.A.units+64<cLine):OpR X (compareOp .NotEq) (aPl X.K):=by
 intro pins s σ H x y v u Q I rx ry h
 obtain ⟨d,e,k,a,b,xs,rfl,rfl,hd,he,ha,hb,hr,q⟩:=h
 cases rx
 cases ry
 obtain ⟨z,hm,vs,rel,dd⟩:=dk_of I.hok hd
 obtain ⟨z',hm',us,rel',de⟩:=dk_of I.hok he
 obtain ⟨rfl⟩:vs=[(k,Value.ref a)]:=by
  cases rel with
  |cons q t=>cases t;obtain ⟨k1,r1⟩:=q;exact congrArg (·::[]) (Prod.ext k1.symm r1)
 obtain ⟨rfl⟩:us=[(k,Value.ref b)]:=by
  cases rel' with
  |cons q t=>cases t;obtain ⟨k1,r1⟩:=q;exact congrArg (·::[]) (Prod.ext k1.symm r1)
 have eq:SeqAt.EqAt X.A.in1 s (.ref a) (.ref b) true:=by
  by_cases e:a=b
  ·subst e;exact SeqAt.EqAt.same _
  obtain ⟨its,r1,pl,_⟩:=I.list ha
  obtain ⟨jts,r2,pm,_⟩:=I.list hb
  obtain rfl:=qZ hr r1 r2
  refine SeqAt.EqAt.of_refs e ?_
  have zz:=SeqAt.RcAt.lists (A:=X.A.in1) (e:=fun _=>true) pl.isList pm.isList rfl (by show X.A.units+1<cLine;omega) (fun j h1 h2=>SeqAt.EqAt.same _)
  rw [jT] at zz
  exact zz
 have eq':SeqAt.EqAt X.A.in1 s (.ref b) (.ref a) true:=by
  by_cases e:b=a
  ·subst e;exact SeqAt.EqAt.same _
  obtain ⟨its,r1,pl,_⟩:=I.list ha
  obtain ⟨jts,r2,pm,_⟩:=I.list hb
  obtain rfl:=qZ hr r1 r2
  refine SeqAt.EqAt.of_refs e ?_
  have zz:=SeqAt.RcAt.lists (A:=X.A.in1) (e:=fun _=>true) pm.isList pl.isList rfl (by show X.A.units+1<cLine;omega) (fun j h1 h2=>SeqAt.EqAt.same _)
  rw [jT] at zz
  exact zz
 have hv:valueAt [(k,Value.ref b)] k=some (.ref b):=by simp [valueAt]
 refine PySem.W.keq_ne (r:=true) hm hm' dd de (by omega) (fun _=>by
  first
   |exact PySem.W.KeqHits.hit (e:=true) (b:=true) hv eq .nil
   |exact PySem.W.KeqHits.hit (e:=true) (b:=true) hv eq' .nil) ?_
 exact ⟨.bl false,H,I,rfl,q⟩
end L2
namespace L2
open PySem PySem.Spec PyProof.Rows
variable {X:Cx}
end L2
namespace PySem
open PySem.Spec
section
variable {prog:Program} {w:World} {A:Around} {R:Result→Shared→Prop} {s:Shared} {l:Addr} {items:Array Value} {n:Nat} {dd:Option Addr} {sl:Array (Option Value)} {x:Value} {j:Nat}
end
end PySem
namespace L2
open PySem PySem.Spec PyProof.Rows
end L2
namespace PySem
open PySem.Spec
section
variable {prog:Program} {w:World} {κ:Type} [DecidableEq κ] {knd:KeyKind prog w κ}
end
end PySem
namespace L2
open PySem PySem.Spec PyProof.Rows
section
variable {X:Cx} {i o:Expr} {ty td:TE} {apos cpos:Pos}
end
end L2
namespace PySem
namespace RvF
theorem aGk:typeLookup (.type "tuple") "__reversed__"=pure none:=by rw [typeLookup_type,builtinLookup_eq_fast];kernel_rfl
theorem aBd:isSubtype (.type "tuple") (.type "dict")=pure false:=by rw [isSubtype_type];kernel_rfl
end RvF
def rvT (u:Addr) (i:Int):Obj:={ cls:=.type "reversed",data:=.fields #[.ref u,rawInt i] }
theorem aQd {prog:Program} {w:World} {A:Around} {E:Value→Shared→Prop} {s:Shared} {u:Addr} {items:Array Value} {Q:Value→Shared→Prop} (ht:s.heap.IsTuple u items) (hfit:(items.size:Int)<2 ^ 63) (h:Q (.int items.size (s.toks+1)) { s with toks:=s.toks+1+1 }) :
  wpAny (model prog w) A (call (.builtin "len") [.ref u]) Q E s:=PyProof.Rows.len_tuple ht hfit h
theorem wO (u:Addr) (items:Array Value) (hfit:(items.size:Int)<2 ^ 63) :
  Meets (Builtin.«reversed.__new__» ⟨[.type "reversed",.ref u],[]⟩) (fun _ R s=>s.heap.IsTuple u items ∧
   ∀tk,R (.ok (.ret (.ref s.heap.objs.size))) { s with heap:=s.heap.push (rvT u ((items.size:Int) - 1)),toks:=tk }):=
 .of_wp fun prog w A R s ⟨ht,h⟩=>by
  obtain ⟨hp,g,d,tk,os⟩:=s
  have f1:=RvF.aGk
  have f2:=RvF.aBd
  have f3:=F.slot_tuple_getitem.lookup
  have hT:(⟨hp,g,d,tk,os⟩:Shared).TypeIs (.ref u) "tuple":=PyProof.Rows.IsTup.typeIs ht
  unfold Builtin.«reversed.__new__»
  refine wpAny_bind (wpAny_of_eq (aDd _) ?_)
  wp_walk using aQd ht hfit
  exact ⟨_,rfl,h _⟩
section
variable {prog:Program} {w:World} {A:Around} {E:Value→Shared→Prop} {s:Shared}
theorem qN {u:Addr} {items:Array Value} {Q:Value→Shared→Prop} (ht:s.heap.IsTuple u items) (hfit:(items.size:Int)<2 ^ 63)
  (h:∀tk,Q (.ref s.heap.objs.size) { s with heap:=s.heap.push (rvT u ((items.size:Int) - 1)),toks:=tk }):wpAny (model prog w) A (call (.type "reversed") [.ref u]) Q E s:=by
 refine callType_new RvF.called (by decide) (RvF.aFb _) (RvF.aIv _) (fun obj=>F.args_object_init_2 obj _) RvF.aJt (wO u items hfit) ?_
 refine ⟨ht,fun tk=>?_⟩
 exact ⟨⟨_,Heap.get?_push_size _ rfl,rfl⟩,h tk⟩
theorem vG {it u:Addr} {i:Int} {Q:Value→Shared→Prop} (hit:s.heap.get? it=some (rvT u i)) (h:Q (.ref it) s):wpAny (model prog w) A (pyIter (.ref it)) Q E s:=by
 have hT:s.TypeIs (.ref it) "reversed":=⟨_,hit,rfl⟩
 refine wpAny_pyIter_slot hT RvF.yP (wpAny_call_entry RvF.yP hT RvF.aFi ?_ (RvF.aDu _))
 show wpAny _ _ (ret (.ref it)) _ _ s
 exact wpAny_pure ⟨_,rfl,"reversed",_,hT,RvF.slot_next.lookup,h⟩
theorem aQc {hp:Heap} {g:Array GenState} {d:Drawn} {tk:Nat} {os:_} {u:Addr} {items:Array Value} {k:Int} {t:Tok} {j:Nat} {x:Value} {Q:Value→Shared→Prop} (ht:hp.IsTuple u items)
  (hlo:-(2 ^ 63)≤k) (hhi:k<2 ^ 63) (hj:seqIndex? k items.size=some j) (hx:items[j]?=some x) (h:Q x ⟨hp,g,d,tk,os⟩):wpAny (model prog w) A (getItem (.ref u) (.int k t)) Q E ⟨hp,g,d,tk,os⟩:=PyProof.Rows.getItem_tuple (s:=⟨hp,g,d,tk,os⟩) ht hlo hhi hj hx h
theorem tR {it u:Addr} {i:Nat} {items:Array Value} {y:Value} {Q:Option Value→Shared→Prop} (hit:s.heap.get? it=some (rvT u (i:Int))) (ht:s.heap.IsTuple u items) (hx:items[i]?=some y) (hfit:items.size≤sizeLine)
  (hQ:∀h' tk,h'.get? it=some (rvT u ((i:Int) - 1))→Heap.SameBut it s.heap h'→Q (some y) { s with heap:=h',toks:=tk }):wpAny (model prog w) A (pyNext (.ref it)) Q E s:=by
 have hT0:s.TypeIs (.ref it) "reversed":=⟨_,hit,rfl⟩
 obtain ⟨hp,g,d,tk,os⟩:=s
 have hi:i<items.size:=(Array.getElem?_eq_some_iff.mp hx).1
 have hz:sizeLine<2 ^ 62:=by decide
 have f3:=F.slot_tuple_getitem.lookup
 have hT:(⟨hp,g,d,tk,os⟩:Shared).TypeIs (.ref u) "tuple":=PyProof.Rows.IsTup.typeIs ht
 have ho:hp.get? it=some { cls:=.type "reversed",data:=.fields #[.ref u,rawInt (i:Int)] }:=hit
 unfold pyNext
 refine wpAny_bind (wpAny_attempt (wpAny_callSpecial?_slot (name:=Str.ofString "__next__") hT0 RvF.slot_next
  (wpAny_call_entry RvF.slot_next hT0 RvF.entry_next ?_ (RvF.sY _))))
 unfold Builtin.«reversed.__next__»
 refine wpAny_bind (wpAny_of_eq (a:=(Value.ref it,[])) rfl ?_)
 try dsimp only
 refine wpAny_bind (wpAny_field ho rfl (x:=.ref u) rfl ?_)
 refine wpAny_bind (wpAny_field ho rfl (x:=rawInt (i:Int)) rfl ?_)
 show wpAny _ _ (if (i:Int)<0 then _ else _) _ _ _
 rw [if_neg (by omega)]
 have hj:seqIndex? (i:Int) items.size=some i:=by
  unfold seqIndex?
  have h1:¬ ((i:Int)<0):=by omega
  simp [h1,hi]
 wp_walk using aQc ht (by omega) (by omega) hj hx
 refine ⟨_,rfl,wpAny_pure (hQ _ _ ?_ (Heap.SameBut.update ..))⟩
 exact Heap.get?_update_self _ ho rfl
theorem uO {it u:Addr} {Q:Option Value→Shared→Prop} (hh:A.handled=none) (hit:s.heap.get? it=some (rvT u (-1)))
  (hQ:∀h',Heap.ExtBut it s.heap h'→Q none { s with heap:=h' }):wpAny (model prog w) A (pyNext (.ref it)) Q E s:=by
 have ho:s.heap.get? it=some { cls:=.type "reversed",data:=.fields #[.ref u,rawInt (-1)] }:=hit
 unfold pyNext
 refine wpAny_bind (wpAny_attempt (wpAny_callSpecial?_slot (name:=Str.ofString "__next__") (⟨_,hit,rfl⟩:s.TypeIs (.ref it) "reversed") RvF.slot_next
  (wpAny_call_entry RvF.slot_next (⟨_,hit,rfl⟩:s.TypeIs (.ref it) "reversed") RvF.entry_next ?_ (RvF.sY _))))
 unfold Builtin.«reversed.__next__»
 refine wpAny_bind (wpAny_of_eq (a:=(Value.ref it,[])) rfl ?_)
 try dsimp only
 refine wpAny_bind (wpAny_field ho rfl (x:=.ref u) rfl ?_)
 refine wpAny_bind (wpAny_field ho rfl (x:=rawInt (-1)) rfl ?_)
 show wpAny _ _ (if (-1:Int)<0 then _ else _) _ _ _
 rw [if_pos (by decide)]
 refine wpAny_bind (wpAny_rule ?_)
 refine wpAny_bind ?_
 refine wpAny_bind (wpAny_setField ho rfl (by simp) ?_)
 have ho2:(s.heap.update it (Obj.mapFields (·.setIfInBounds 1 (rawInt (-1))))).get? it=some { cls:=.type "reversed",data:=.fields #[.ref u,rawInt (-1)] }:=Heap.get?_update_self _ ho rfl
 refine wpAny_setField (s:={ s with heap:=s.heap.update it (Obj.mapFields (·.setIfInBounds 1 (rawInt (-1)))) }) ho2 rfl (by simp) ?_
 first
 |show wpAny _ _ (newExc (.type "StopIteration") [] >>= _) _ _ _
 |(refine wpAny_bind ?_;show wpAny _ _ (newExc (.type "StopIteration") [] >>= _) _ _ _)
 refine wpAny_bind ?_
 simp only [newExc,newTuple]
 refine wpAny_bind (wpAny_newObj_type ?_ (by size_fits))
 refine wpAny_bind (m:=firstArgMember _ _) (wpAny_of_eq (a:=Value.none) (by first|rfl|(simp only [firstArgMember];rfl)) ?_)
 refine wpAny_newObj_type ?_ (by size_fits)
 simp only [raiseNew]
 refine wpAny_bind (wpAny_handled ?_)
 first|rw [show A.in1.handled=none from hh]|rw [hh]
 refine wpAny_bind (wpAny_pure (wpAny_throw ?_))
 refine wpAny_bind (wpAny_isInstance (T:="StopIteration") (b:=true) ⟨_,Heap.get?_push_size _ rfl,rfl⟩ isSubtype_stop ?_)
 exact wpAny_pure (hQ _ ((((Heap.SameBut.update ..).trans (Heap.SameBut.update ..)).extBut.push _).push _))
end
end PySem
namespace L2
open PySem PySem.Spec PyProof.Rows
def Itu (K:PySem.W.Frag) (a:Addr) (n:Nat):It:=
 ⟨fun i H=>∃xs x,SqT K H a xs∧xs.length=n∧i<n∧xs[n - 1 - i]?=some x,fun i H x H'=>H'=H∧∀xs,SqT K H a xs→xs[n - 1 - i]?=some x,fun i _=>i=n⟩
theorem aK5 {P:Program} {w:World} {K:PySem.W.Frag} {tg:Expr} (a it:Addr) (n:Nat):Turn P w K tg (Itu K a n) [it] it (fun i h=>h.get? it=some (rvT a ((n:Int) - 1 - (i:Int)))) where
 mem:=by simp
 obj:=fun i h st b hb=>by
  have e:b=it:=by simpa using hb
  subst e
  exact ⟨_,st,fun v z=>by
   have z':Data.fields _=Data.cell v:=z
   cases z'⟩
 keep:=fun i h h' st k=>k it (by simp) _ st
 item:=by
  intro X hP hw hK hc i pins s σ H E I hf st hg
  subst hP hw hK
  obtain ⟨xs,x,hq,hl,hi,hx⟩:=hg
  obtain ⟨its,rv,p,hz⟩:=I.tuple hq
  obtain ⟨u,hu,ru⟩:=rv.get hx
  obtain ⟨f0,f1,f2,f3,f4,f5⟩:=hf it (by simp)
  have lr:=rv.length
  have e:(n:Int) - 1 - (i:Int)=((n - 1 - i:Nat):Int):=by omega
  rw [e] at st
  refine tR st (show s.heap.IsTuple a its.toArray from p) (y:=u) (by simpa using hu) (by rw [List.size_toArray];omega) fun h' tk st' sb=>?_
  have e2:((n - 1 - i:Nat):Int) - 1=(n:Int) - 1 - ((i+1:Nat):Int):=by omega
  rw [e2] at st'
  have I1:Inv X pins σ H { s with heap:=h',toks:=tk }:=I.turned (fun b o hb e=>(sb.2 b hb).trans e) f0 f1 f3 f4 f5
  exact ⟨_,rfl,go_of (s:={ s with heap:=h',toks:=tk }) (n:="reversed") st' rfl rfl (by decide) ⟨x,H,I1,ru,⟨rfl,fun ys hy=>by rw [I.tuple_inj hy hq];exact hx⟩,st',fun b hb=>(hf b hb).1⟩⟩
 done:=by
  intro X hP hw hK hc i pins s σ H E I hf st hg
  subst hP hw hK
  obtain ⟨f0,f1,f2,f3,f4,f5⟩:=hf it (by simp)
  have hi:i=n:=hg
  rw [hi,show (n:Int) - 1 - (n:Int)=-1 by omega] at st
  exact uO (I.ok.hd hc) st fun h' eb=>⟨rfl,I.turned (t':=s.toks) (fun b o hb e=>eb b o hb e) f0 f1 f3 f4 f5⟩
 self:=fun _ _ _ _ _ st h=>vG st h
section
variable {X:Cx} {tg:Expr}
def aP4 (K:PySem.W.Frag) (ta:TA):TI:=fun σ H R=>ta σ H fun vs H1=>∃a xs,vs=[.ref a]∧SqT K H1 a xs∧R (Itu K a xs.length) H1
theorem aMv {a:Expr} {ta:TA} {p pos:Pos} (hg:Gl X "reversed") (hm:X.mg "reversed"=none) (ha:VA X [a] ta) (hp:cI a=true:=by rfl):VI X tg (.Call (.Name "reversed" p) [a] [] pos) (aP4 X.K ta):=⟨by
 intro pins s σ H R I h
 refine Call_ (ld_blt I hg hm aCo (PyProof.Rows.callWith_type1 (thn (ha.1 pos pins s σ H _ I h) fun us s1 ⟨vs,H1,I1,r1,q1⟩=>?_) (aW (es:=[]) hp) rfl))
 obtain ⟨z,xs,e,hz,q⟩:=q1
 subst e
 cases r1 with
 |cons r rr=>
  cases rr
  cases r
  obtain ⟨its,rv,pt,hsz⟩:=I1.tuple hz
  have lr:=rv.length
  have h63:=line63
  refine qN (show s1.heap.IsTuple z its.toArray from pt) (by rw [List.size_toArray];omega) fun tk=>?_
  have I2:Inv X pins σ H1 { s1 with heap:=s1.heap.push (rvT z ((its.toArray.size:Int) - 1)),toks:=tk }:=I1.kept fun b o e=>Heap.get?_push_of_some _ e
  refine vG (s:={ s1 with heap:=s1.heap.push (rvT z ((its.toArray.size:Int) - 1)),toks:=tk }) (Heap.get?_push_size _ rfl) ?_
  refine ⟨s1.heap.objs.size,[s1.heap.objs.size],_,_,H1,rfl,I2,aK5 z _ xs.length,?_,fun b hb=>?_,q⟩
  ·show (s1.heap.push (rvT z ((its.toArray.size:Int) - 1))).get? s1.heap.objs.size=some (rvT z ((xs.length:Int) - 1 - ((0:Nat):Int)))
   rw [show (xs.length:Int) - 1 - ((0:Nat):Int)=(its.toArray.size:Int) - 1 by rw [List.size_toArray];omega]
   exact Heap.get?_push_size _ rfl
  ·have e:b=s1.heap.objs.size:=by simpa using hb
   subst e
   exact I1.fpOk (Nat.le_refl _) (I1.hok.fresh (Nat.le_refl _))⟩
end
theorem aK4 {K:PySem.W.Frag} {a:Addr} {xs:List V} {g:TG} {tb:TS} {D:Ends} {σ:L2.St} {H:Hp} (Pv:Nat→L2.St→Hp→Prop) (h0:Pv 0 σ H) (hl:∀i σ H,i≤xs.length→Pv i σ H→SqT K H a xs)
  (hs:∀i x σ H,i<xs.length→xs[xs.length - 1 - i]?=some x→Pv i σ H→g x σ H fun σ2 H2=>tb { D with nx:=Pv (i+1),ct:=Pv (i+1),bk:=D.nx } σ2 H2) (hd:∀σ H,Pv xs.length σ H→D.nx σ H) :
  ∃W:Nat→Nat→L2.St→Hp→Prop,(∃m,W 0 m σ H)∧∀i m σ H,W i m σ H →
   ((Itu K a xs.length).stop i H∧D.nx σ H)∨((Itu K a xs.length).go i H∧∃N:L2.St→Hp→Prop,(∀σ' H',N σ' H'→∃m',m'<m∧W (i+1) m' σ' H')∧∀x H',(Itu K a xs.length).yld i H x H'→g x σ H' fun σ2 H2=>tb { D with nx:=N,ct:=N,bk:=D.nx } σ2 H2):=by
 refine ⟨fun i m σ H=>m=xs.length - i∧i≤xs.length∧Pv i σ H,⟨xs.length,by simp,Nat.zero_le _,h0⟩,?_⟩
 rintro i m σ H ⟨rfl,hi,p⟩
 have q:=hl i σ H hi p
 by_cases hlt:i<xs.length
 ·right
  have hx:xs[xs.length - 1 - i]?=some (xs[xs.length - 1 - i]'(by omega)):=List.getElem?_eq_getElem (by omega)
  refine ⟨⟨xs,_,q,rfl,hlt,hx⟩,Pv (i+1),fun σ' H' h=>⟨xs.length - (i+1),by omega,rfl,by omega,h⟩,?_⟩
  rintro x H' ⟨rfl,hy⟩
  exact hs i x σ H' hlt (hy xs q) p
 ·left
  have e:i=xs.length:=by omega
  subst e
  exact ⟨rfl,hd σ H p⟩
section
variable {X:Cx} {scope:Scope} {N:List Str} {wi:TI} {te:TE} {σ:L2.St} {H:Hp} {Q:VK}
end
end L2
namespace My
open PySem PySem.Spec PyProof.Rows L2
section
variable {P:Program} {w:World} {K:PySem.W.Frag} {mg:Str→Option Value} {base:Heap}
def plc:Hdr→Str→Nat
 |[],_=>0
 |c::r,n=>if c.1=n then 0 else plc r n+1
theorem qX {n k:Str}:∀{hd:Hdr},look hd n=some k→hd[plc hd n]?=some (n,k)∧∀(j:Nat) (c:Str × Str),j<plc hd n→hd[j]?=some c→c.1≠n
 |[],h=>by cases h
 |(m,q)::r,h=>by
  unfold look at h
  rw [List.find?_cons] at h
  by_cases e:m=n
  ·rw [decide_eq_true (p:=(m,q).1=n) e] at h
   have h':q=k:=Option.some.inj h
   subst e h'
   have z:plc ((m,q)::r) m=0:=if_pos rfl
   rw [z]
   exact ⟨rfl,fun j c hj=>absurd hj (Nat.not_lt_zero _)⟩
  ·rw [decide_eq_false (p:=(m,q).1=n) e] at h
   obtain ⟨h1,h2⟩:=qX (hd:=r) h
   have z:plc ((m,q)::r) n=plc r n+1:=if_neg e
   rw [z]
   refine ⟨by simpa using h1,fun j c hj hc=>?_⟩
   cases j with
   |zero=>cases hc;exact e
   |succ j=>exact h2 j c (by omega) (by simpa using hc)
def pJ (K:PySem.W.Frag):Sp:=fun vs H Q _=>∃vh n hd k,vs=[vh,.str n]∧cC K H vh hd∧hd.length≤1000∧look hd n=some k∧∀H',Same H H'→Q (.int (plc hd n:Nat)) H'
theorem aD2 (T:Txt w K mg) (jZ:Ok P w K mg base 1 "names_of" ["head"] (aFe K)):Ok P w K mg base 2 "place_of" ["head","name"] (pJ K):=by
 refine Ok.ofV T.aGl aEs (fun vs H Q E h=>?_) (fun f cdv A outer s H vs Q E hr h=>?_)
 ·obtain ⟨vh,n,hd,k,rfl,_⟩:=h;rfl
 obtain ⟨vh,n,hd,k,rfl,hI,hl,hk,q⟩:=h
 obtain ⟨h1,h2⟩:=qX hk
 refine ⟨_,(aF (aG (aDt PySem.F.plainAttrs_list PySem.F.slot_list_index PySem.F.type_list_index xX (aH (jZ.mono (by decide)) hr (by rfl) (aB (vv 0) aA)) (aB (vv 1) aA)))),?_⟩
 refine ⟨_,rfl,vh,hd,rfl,hI,hl,fun D H1 s1 g1=>?_⟩
 refine ⟨.inl ⟨rfl,_,SqL.of g1⟩,_,rfl,D,hd.map (·.1),n,plc hd n,rfl,rfl,SqL.of g1,by rw [List.length_map];exact hl,by rw [List.getElem?_map,h1];rfl,fun j m hj hm=>?_,q H1 s1⟩
 rw [List.getElem?_map] at hm
 obtain ⟨c,hc,rfl⟩:=Option.map_eq_some_iff.mp hm
 exact h2 j c hj hc
def aD1 (k:Str):Bool:=decide (k = "number")
def knds (hd:Hdr):List Bool:=hd.map fun c=>aD1 c.2
theorem aHj {X:Cx} {scope:Scope} {x y z:Str} {σ:L2.St} {u v:V} (i j:Nat) (hf:(y,NameKind.free)∈scope.names) (hg:(z,NameKind.free)∈scope.names) (hi:X.N[i]?=some y) (hj:X.N[j]?=some z) (hs:σ[i]?=some (some u)) (ht:σ[j]?=some (some v)) (hv:Vis X.env.scope y) (hw:Vis X.env.scope z):Cap X scope [x,y,z] σ [none,some u,some v]:=
 ⟨rfl,fun n q r h1 h2=>by
  match n,h1,h2 with
  |0,_,h2=>cases h2
  |1,h1,h2=>cases h1;cases h2;exact ⟨hf,i,hi,hs,hv⟩
  |2,h1,h2=>cases h1;cases h2;exact ⟨hg,j,hj,ht,hw⟩
  |n+3,h1,_=>cases h1⟩
theorem none_of {H H':Hp} {D:Addr} (e:Same H H') (h:H' D=none):H D=none:=by
 cases z:H D with
 |none=>rfl
 |some o=>rw [e _ _ z] at h;cases h
def bJ (K:PySem.W.Frag) (H:Hp) (D:Addr) (rs:List (List V)):Prop:=∃us,H D=some (.lst us)∧bF (dD K H) us rs
theorem bJ.same {H H':Hp} {D:Addr} {rs:List (List V)} (e:Same H H') (h:bJ K H D rs):bJ K H' D rs:=by
 obtain ⟨us,h1,h2⟩:=h
 exact ⟨us,e _ _ h1,h2.imp fun _ _ r=>r.same e⟩
theorem vA {α β:Type} {R:α→β→Prop}:∀{as:List α} {bs:List β},as.length=bs.length→(∀(i:Nat) (a:α) (b:β),as[i]?=some a→bs[i]?=some b→R a b)→bF R as bs
 |[],[],_,_=>.nil
 |[],_::_,h,_=>by cases h
 |_::_,[],h,_=>by cases h
 |a::as,b::bs,h,k=>.cons (k 0 a b rfl rfl) (vA (by simpa using h) fun i x y e1 e2=>k (i+1) x y (by simpa using e1) (by simpa using e2))
end
end My
namespace PySem.W
open PySem PySem.Calls PyProof.Rows
structure Swo (f:Nat→Nat→Bool):Prop where
 asym:∀{i j},f i j=true→f j i=false
 tr:∀{i j k},f j i=false→f k j=false→f k i=false
def Pre (f:Nat→Nat→Bool) (i j:Nat):Prop:=f j i=false∧(f i j=true∨i<j)
section
variable {f:Nat→Nat→Bool}
theorem Swo.lt1 (S:Swo f) {i j k:Nat} (h1:f i j=true) (h2:f k j=false):f i k=true:=by
 cases e:f i k with
 |true=>rfl
 |false=>have:=S.tr (i:=j) (j:=k) (k:=i) h2 e;rw [h1] at this;cases this
theorem Swo.lt2 (S:Swo f) {i j k:Nat} (h1:f j i=false) (h2:f j k=true):f i k=true:=by
 cases e:f i k with
 |true=>rfl
 |false=>have:=S.tr (i:=k) (j:=i) (k:=j) e h1;rw [h2] at this;cases this
theorem Pre.trans (S:Swo f) {i j k:Nat} (h1:Pre f i j) (h2:Pre f j k):Pre f i k:=by
 refine ⟨S.tr h1.1 h2.1,?_⟩
 rcases h1.2 with a|a
 ·exact .inl (S.lt1 a h2.1)
 ·rcases h2.2 with b|b
  ·exact .inl (S.lt2 h1.1 b)
  ·exact .inr (by omega)
theorem Pre.of (S:Swo f) {i j:Nat} (h:f i j=true):Pre f i j:=⟨S.asym h,.inl h⟩
theorem KasT.nP {α β:Type} {f:Nat→Nat→Bool} {g:α→KasT β}:∀t:KasT α,(t.bind g).ev f=(g (t.ev f)).ev f
 |.ret a=>rfl
 |.ask i j k=>KasT.nP (k (f i j))
theorem mG {p:Array Nat} {i j:Nat} (hj:j≤p.size) (k:Nat):(kas_rev p i j).getD k 0=if i≤k∧k<j then p.getD (i+j - 1 - k) 0 else p.getD k 0:=by
 unfold kas_rev
 rw [Array.getD_eq_getD_getElem?,getElem?_mirror_all hj]
 split <;> rw [Array.getD_eq_getD_getElem?]
theorem aO4 {p:Array Nat} {k d:Nat} (hs:k<p.size) (hd:d≤k) (x:Nat):(bubble p k d).getD x 0=if x=k - d then p.getD k 0 else if k - d<x∧x≤k then p.getD (x - 1) 0 else p.getD x 0:=by
 rw [Array.getD_eq_getD_getElem?,getElem?_bubble hs d hd,Array.getD_eq_getD_getElem?,Array.getD_eq_getD_getElem?,Array.getD_eq_getD_getElem?]
 by_cases a:x=k - d
 ·rw [if_pos a,if_pos a]
 ·rw [if_neg a,if_neg a]
  by_cases b:k - d<x∧x≤k
  ·rw [if_pos b,if_pos b]
  ·rw [if_neg b,if_neg b]
structure Ld (N:Nat) (p:Array Nat) (m:Nat):Prop where
 sz:p.size=N
 lo:∀k,k<m→p.getD k 0<m
 hi:∀k,m≤k→k<N→p.getD k 0=k
 pm:p.Perm (List.range N).toArray
def Asc (f:Nat→Nat→Bool) (p:Array Nat) (m:Nat):Prop:=∀i j,i<j→j<m→Pre f (p.getD i 0) (p.getD j 0)
def Fds (f:Nat→Nat→Bool) (p:Array Nat) (m:Nat):Prop:=∀i j,i<j→j<m→Pre f (p.getD j 0) (p.getD i 0)
theorem Ld.rev {N m i j:Nat} {p:Array Nat} (L:Ld N p m) (hij:i≤j) (hj:j≤m) (hm:m≤N):Ld N (kas_rev p i j) m:=by
 have hs:j≤p.size:=by rw [L.sz];omega
 refine ⟨by unfold kas_rev;rw [mirror_size];exact L.sz,fun k hk=>?_,fun k h1 h2=>?_,(mirror_perm _ _ _ _).trans L.pm⟩
 ·rw [mG hs];split
  ·exact L.lo _ (by omega)
  ·exact L.lo _ hk
 ·rw [mG hs,if_neg (by omega)];exact L.hi k h1 h2
theorem aGa (p:Array Nat):∀fu m,m≤(kas_asc p fu m).ev f∧(kas_asc p fu m).ev f≤m+fu∧(∀k,m≤k→k<(kas_asc p fu m).ev f→f (p.getD k 0) (p.getD (k - 1) 0)=false)∧((kas_asc p fu m).ev f<m+fu→f (p.getD ((kas_asc p fu m).ev f) 0) (p.getD ((kas_asc p fu m).ev f - 1) 0)=true)
 |0,m=>⟨Nat.le_refl _,Nat.le_refl _,fun k h1 h2=>absurd (show k<m from h2) (by omega),fun h=>absurd (show m<m+0 from h) (by omega)⟩
 |fu+1,m=>by
  show m≤(if f (p.getD m 0) (p.getD (m - 1) 0)=true then KasT.ret m else kas_asc p fu (m+1)).ev f∧(if f (p.getD m 0) (p.getD (m - 1) 0)=true then KasT.ret m else kas_asc p fu (m+1)).ev f≤m+(fu+1)∧(∀k,m≤k→k<(if f (p.getD m 0) (p.getD (m - 1) 0)=true then KasT.ret m else kas_asc p fu (m+1)).ev f→f (p.getD k 0) (p.getD (k - 1) 0)=false)∧((if f (p.getD m 0) (p.getD (m - 1) 0)=true then KasT.ret m else kas_asc p fu (m+1)).ev f<m+(fu+1)→f (p.getD ((if f (p.getD m 0) (p.getD (m - 1) 0)=true then KasT.ret m else kas_asc p fu (m+1)).ev f) 0) (p.getD ((if f (p.getD m 0) (p.getD (m - 1) 0)=true then KasT.ret m else kas_asc p fu (m+1)).ev f - 1) 0)=true)
  by_cases e:f (p.getD m 0) (p.getD (m - 1) 0)=true
  ·simp only [if_pos e]
   exact ⟨Nat.le_refl _,Nat.le_add_right _ _,fun k h1 h2=>absurd (show k<m from h2) (by omega),fun _=>e⟩
  ·simp only [if_neg e]
   obtain ⟨h1,h2,h3,h4⟩:=aGa p fu (m+1)
   refine ⟨by omega,by omega,fun k hk hr=>?_,fun h=>h4 (by omega)⟩
   by_cases z:k=m
   ·subst z;simpa using e
   ·exact h3 k (by omega) hr
theorem yW (S:Swo f) {N m:Nat} {p:Array Nat} (L:Ld N p m) (hA:Asc f p m) (h1:1≤m):∀d,m+d≤N→(∀k,m≤k→k<m+d→f (p.getD k 0) (p.getD (k - 1) 0)=false)→Ld N p (m+d)∧Asc f p (m+d)
 |0,_,_=>⟨L,hA⟩
 |d+1,hN,h=>by
  obtain ⟨L',A'⟩:=yW S L hA h1 d (by omega) fun k a b=>h k a (by omega)
  have e:p.getD (m+d) 0=m+d:=L.hi _ (by omega) (by omega)
  have hlt:=L'.lo (m+d - 1) (by omega)
  have hp:Pre f (p.getD (m+d - 1) 0) (p.getD (m+d) 0):=⟨h _ (by omega) (by omega),.inr (by omega)⟩
  refine ⟨⟨L.sz,fun k hk=>?_,fun k a b=>L.hi k (by omega) b,L.pm⟩,fun i j hij hj=>?_⟩
  ·by_cases z:k=m+d
   ·subst z;omega
   ·have:=L'.lo k (by omega);omega
  ·by_cases z:j=m+d
   ·subst z
    by_cases y:i=m+d - 1
    ·subst y;exact hp
    ·exact (A' i (m+d - 1) (by omega) (by omega)).trans S hp
   ·exact A' i j hij (by omega)
structure Dsc (f:Nat→Nat→Bool) (N:Nat) (p:Array Nat) (n q:Nat):Prop where
 ld:Ld N p n
 hq:q+1≤n
 hn:n≤N
 a1:∀i j,i<j→j<n - (q+1)→Pre f (p.getD j 0) (p.getD i 0)
 a2:∀i j,i<n - (q+1)→n - (q+1)≤j→j<n→f (p.getD j 0) (p.getD i 0)=true
 a3:∀i j,n - (q+1)≤i→i<j→j<n→f (p.getD i 0) (p.getD j 0)=false∧f (p.getD j 0) (p.getD i 0)=false∧p.getD i 0<p.getD j 0
def mZ (p:Array Nat) (n q:Nat):Array Nat:=if q > 0 then kas_rev p (n - (q+1)) n else p
theorem Dsc.close (S:Swo f) {N n q:Nat} {p:Array Nat} (D:Dsc f N p n q):Ld N (mZ p n q) n∧Fds f (mZ p n q) n∧∀k,k<n→∃k',k'<n∧(mZ p n q).getD k 0=p.getD k' 0:=by
 have hq:=D.hq
 have hs:n≤p.size:=by rw [D.ld.sz];exact D.hn
 by_cases h:q > 0
 ·unfold mZ
  rw [if_pos h]
  refine ⟨D.ld.rev (by omega) (Nat.le_refl _) D.hn,fun i j hij hj=>?_,fun k hk=>?_⟩
  ·rw [mG hs,mG hs]
   by_cases a:n - (q+1)≤i
   ·rw [if_pos ⟨by omega,hj⟩,if_pos ⟨a,by omega⟩]
    obtain ⟨h1,h2,h3⟩:=D.a3 (n - (q+1)+n - 1 - j) (n - (q+1)+n - 1 - i) (by omega) (by omega) (by omega)
    exact ⟨h2,.inr h3⟩
   ·rw [if_neg (show ¬ (n - (q+1)≤i∧i<n) by omega)]
    by_cases b:n - (q+1)≤j
    ·rw [if_pos ⟨b,hj⟩]
     exact .of S (D.a2 i _ (by omega) (by omega) (by omega))
    ·rw [if_neg (by omega)]
     exact D.a1 i j hij (by omega)
  ·rw [mG hs]
   split
   ·exact ⟨_,by omega,rfl⟩
   ·exact ⟨k,hk,rfl⟩
 ·have e:q=0:=by omega
  subst e
  unfold mZ
  rw [if_neg h]
  refine ⟨D.ld,fun i j hij hj=>?_,fun k hk=>⟨k,hk,rfl⟩⟩
  by_cases b:n - 1≤j
  ·exact .of S (D.a2 i j (by omega) (by omega) hj)
  ·exact D.a1 i j hij (by omega)
theorem Dsc.down (S:Swo f) {N n q:Nat} {p:Array Nat} (D:Dsc f N p n q) (hn:n<N) (h:f (p.getD n 0) (p.getD (n - 1) 0)=true):Dsc f N (mZ p n q) (n+1) 0:=by
 obtain ⟨L,F,R⟩:=D.close S
 have hq:=D.hq
 have e:=D.ld.hi n (Nat.le_refl _) hn
 have e':=L.hi n (Nat.le_refl _) hn
 rw [e] at h
 have all:∀k,k<n→f n (p.getD k 0)=true:=fun k hk=>by
  by_cases a:n - (q+1)≤k
  ·by_cases z:k=n - 1
   ·subst z;exact h
   ·exact S.lt1 h (D.a3 k (n - 1) a (by omega) (by omega)).1
  ·have:=D.a2 k (n - 1) (by omega) (by omega) (by omega)
   exact S.lt1 h (S.asym this)
 refine ⟨⟨L.sz,fun k hk=>?_,fun k a b=>L.hi k (by omega) b,L.pm⟩,by omega,hn,fun i j hij hj=>F i j hij (by omega),fun i j hi hj hj2=>?_,fun i j a b c=>by omega⟩
 ·by_cases z:k=n
  ·subst z;omega
  ·have:=L.lo k (by omega);omega
 ·have z:j=n:=by omega
  subst z
  obtain ⟨k',hk',ek⟩:=R i (by omega)
  rw [e',ek]
  exact all k' hk'
theorem Dsc.flat (S:Swo f) {N n q:Nat} {p:Array Nat} (D:Dsc f N p n q) (hn:n<N) (h1:f (p.getD n 0) (p.getD (n - 1) 0)=false) (h2:f (p.getD (n - 1) 0) (p.getD n 0)=false):Dsc f N p (n+1) (q+1):=by
 have hq:=D.hq
 have e:=D.ld.hi n (Nat.le_refl _) hn
 have es:n+1 - (q+1+1)=n - (q+1):=by omega
 rw [e] at h1 h2
 refine ⟨⟨D.ld.sz,fun k hk=>?_,fun k a b=>D.ld.hi k (by omega) b,D.ld.pm⟩,by omega,hn,fun i j hij hj=>D.a1 i j hij (by omega),fun i j hi hj hj2=>?_,fun i j a b c=>?_⟩
 ·by_cases z:k=n
  ·subst z;omega
  ·have:=D.ld.lo k (by omega);omega
 ·rw [es] at hi hj
  by_cases z:j=n
  ·subst z
   rw [e]
   exact S.lt2 h2 (D.a2 i (j - 1) hi (by omega) (by omega))
  ·exact D.a2 i j hi hj (by omega)
 ·rw [es] at a
  by_cases z:j=n
  ·subst z
   rw [e]
   have hl:=D.ld.lo i b
   by_cases y:i=j - 1
   ·subst y;exact ⟨h2,h1,hl⟩
   ·obtain ⟨g1,g2,_⟩:=D.a3 i (j - 1) a (by omega) (by omega)
    exact ⟨S.tr h2 g1,S.tr g2 h1,hl⟩
  ·exact D.a3 i j a b (by omega)
theorem uA (S:Swo f) {N:Nat}:∀(fu:Nat) (p:Array Nat) (n q:Nat),Dsc f N p n q→n+fu≤N→Dsc f N ((kas_desc fu p n q).ev f).1 ((kas_desc fu p n q).ev f).2.1 ((kas_desc fu p n q).ev f).2.2
 |0,p,n,q,D,_=>D
 |fu+1,p,n,q,D,h=>by
  show Dsc f N ((if f (p.getD n 0) (p.getD (n - 1) 0)=true then (if q > 0 then kas_desc fu (kas_rev p (n - (q+1)) n) (n+1) 0 else kas_desc fu p (n+1) 0) else .ask (p.getD (n - 1) 0) (p.getD n 0) fun d=>if d=true then .ret (p,n,q) else kas_desc fu p (n+1) (q+1)).ev f).1 ((if f (p.getD n 0) (p.getD (n - 1) 0)=true then (if q > 0 then kas_desc fu (kas_rev p (n - (q+1)) n) (n+1) 0 else kas_desc fu p (n+1) 0) else .ask (p.getD (n - 1) 0) (p.getD n 0) fun d=>if d=true then .ret (p,n,q) else kas_desc fu p (n+1) (q+1)).ev f).2.1 ((if f (p.getD n 0) (p.getD (n - 1) 0)=true then (if q > 0 then kas_desc fu (kas_rev p (n - (q+1)) n) (n+1) 0 else kas_desc fu p (n+1) 0) else .ask (p.getD (n - 1) 0) (p.getD n 0) fun d=>if d=true then .ret (p,n,q) else kas_desc fu p (n+1) (q+1)).ev f).2.2
  by_cases e:f (p.getD n 0) (p.getD (n - 1) 0)=true
  ·have D':=D.down S (by omega) e
   unfold mZ at D'
   simp only [if_pos e]
   by_cases hq:q > 0
   ·simp only [if_pos hq] at D' ⊢
    exact uA S fu _ _ _ D' (by omega)
   ·simp only [if_neg hq] at D' ⊢
    exact uA S fu _ _ _ D' (by omega)
  ·simp only [if_neg e]
   show Dsc f N ((if f (p.getD (n - 1) 0) (p.getD n 0)=true then KasT.ret (p,n,q) else kas_desc fu p (n+1) (q+1)).ev f).1 ((if f (p.getD (n - 1) 0) (p.getD n 0)=true then KasT.ret (p,n,q) else kas_desc fu p (n+1) (q+1)).ev f).2.1 ((if f (p.getD (n - 1) 0) (p.getD n 0)=true then KasT.ret (p,n,q) else kas_desc fu p (n+1) (q+1)).ev f).2.2
   by_cases e2:f (p.getD (n - 1) 0) (p.getD n 0)=true
   ·simp only [if_pos e2]
    exact D
   ·simp only [if_neg e2]
    exact uA S fu _ _ _ (D.flat S (by omega) (by simpa using e) (by simpa using e2)) (by omega)
def aEq (f:Nat→Nat→Bool) (N:Nat) (r:Nat × Array Nat):Prop:=1≤r.1∧r.1≤N∧Ld N r.2 r.1∧Asc f r.2 r.1
theorem aDs (S:Swo f) {N n:Nat} {p:Array Nat} (L:Ld N p n) (F:Fds f p n) (h1:1≤n) (hN:n≤N):aEq f N ((kas_tail3 n N p).ev f):=by
 unfold kas_tail3
 rw [KasT.nP]
 have hs:n≤p.size:=by rw [L.sz];exact hN
 have L':Ld N (kas_rev p 0 n) n:=L.rev (Nat.zero_le _) (Nat.le_refl _) hN
 have A':Asc f (kas_rev p 0 n) n:=fun i j hij hj=>by
  rw [mG hs,mG hs,if_pos ⟨Nat.zero_le _,by omega⟩,if_pos ⟨Nat.zero_le _,hj⟩]
  exact F _ _ (by omega) (by omega)
 obtain ⟨g1,g2,g3,_⟩:=aGa (f:=f) (kas_rev p 0 n) (N - n) n
 obtain ⟨d,hd⟩:∃d,(kas_asc (kas_rev p 0 n) (N - n) n).ev f=n+d:=⟨(kas_asc (kas_rev p 0 n) (N - n) n).ev f - n,by omega⟩
 show aEq f N ((kas_asc (kas_rev p 0 n) (N - n) n).ev f,kas_rev p 0 n)
 rw [hd] at g2 g3 ⊢
 obtain ⟨k1,k2⟩:=yW S L' A' h1 d (by omega) g3
 exact ⟨by show 1≤n+d;omega,by show n+d≤N;omega,k1,k2⟩
theorem tG (S:Swo f) {N n:Nat} {p:Array Nat} (D:Dsc f N p (n+1) 0):aEq f N ((kas_descPart n N p).ev f):=by
 unfold kas_descPart
 rw [KasT.nP]
 have D':=uA S (N - (n+1)) p (n+1) 0 D (by have:=D.hn;omega)
 generalize (kas_desc (N - (n+1)) p (n+1) 0).ev f=r at D'
 obtain ⟨L,F,_⟩:=D'.close S
 have hq:=D'.hq
 unfold mZ at L F
 by_cases h:r.2.2 > 0
 ·simp only [if_pos h] at L F ⊢
  exact aDs S L F (by omega) D'.hn
 ·simp only [if_neg h] at L F ⊢
  exact aDs S L F (by omega) D'.hn
theorem dJ {N k:Nat} (h:k<N):(List.range N).toArray.getD k 0=k:=by
 rw [Array.getD_eq_getD_getElem?,List.getElem?_toArray,List.getElem?_range h];rfl
theorem aLt (S:Swo f) {N:Nat} (h1:1≤N):aEq f N ((kas_count N (List.range N).toArray).ev f):=by
 unfold kas_count
 rw [KasT.nP]
 have L1:Ld N (List.range N).toArray 1:=⟨by simp,fun k hk=>by rw [dJ (by omega)];exact hk,fun k _ h=>dJ h,.refl _⟩
 obtain ⟨g1,g2,g3,g4⟩:=aGa (f:=f) (List.range N).toArray (N - 1) 1
 generalize em:(kas_asc (List.range N).toArray (N - 1) 1).ev f=m at g1 g2 g3 g4
 obtain ⟨d,rfl⟩:∃d,m=1+d:=⟨m - 1,by omega⟩
 obtain ⟨L,A⟩:=yW S L1 (fun i j hij hj=>by omega) (Nat.le_refl _) d (by omega) g3
 by_cases e:(1+d == N)=true
 ·simp only [if_pos e]
  exact ⟨g1,by show 1+d≤N;omega,L,A⟩
 ·simp only [if_neg e]
  have hlt:1+d<N:=by
   have:1+d≠N:=by simpa using e
   omega
  have hd:=g4 (by omega)
  have e1:(List.range N).toArray.getD (1+d) 0=1+d:=dJ hlt
  have e2:(List.range N).toArray.getD (1+d - 1) 0=d:=by rw [dJ (by omega)];omega
  rw [e1,e2] at hd
  by_cases hm:1+d > 1
  ·simp only [if_pos hm]
   show aEq f N ((if f ((List.range N).toArray.getD 0 0) ((List.range N).toArray.getD (1+d - 1) 0)=true then KasT.ret (1+d,(List.range N).toArray) else kas_descPart (1+d) N (kas_rev (List.range N).toArray 0 (1+d))).ev f)
   rw [e2,dJ (show 0<N by omega)]
   by_cases e3:f 0 d=true
   ·simp only [if_pos e3]
    exact ⟨g1,by show 1+d≤N;omega,L,A⟩
   ·simp only [if_neg e3]
    have e3:f 0 d=false:=by simpa using e3
    have L':Ld N (kas_rev (List.range N).toArray 0 (1+d)) (1+d):=L.rev (Nat.zero_le _) (Nat.le_refl _) (by omega)
    have hs:1+d≤(List.range N).toArray.size:=by simp;omega
    have at':∀k,k<1+d→(kas_rev (List.range N).toArray 0 (1+d)).getD k 0=d - k:=fun k hk=>by
     rw [mG hs,if_pos ⟨Nat.zero_le _,hk⟩,dJ (by omega)];omega
    have up:∀i j,i<j→j<1+d→f j i=false:=fun i j hij hj=>by
     have:=(A i j hij hj).1
     rw [dJ (by omega),dJ (by omega)] at this
     exact this
    have all:∀k,k<1+d→f (1+d) k=true:=fun k hk=>by
     by_cases z:k=d
     ·subst z;exact hd
     ·refine S.lt1 hd ?_
      by_cases y:k=0
      ·subst y;exact e3
      ·exact S.tr e3 (up 0 k (by omega) hk)
    refine tG S ⟨⟨L'.sz,fun k hk=>?_,fun k a b=>L'.hi k (by omega) b,L'.pm⟩,by omega,by omega,fun i j hij hj=>?_,fun i j hi hj hj2=>?_,fun i j a b c=>by omega⟩
    ·by_cases z:k=1+d
     ·subst z;rw [L'.hi _ (Nat.le_refl _) hlt];omega
     ·have:=L'.lo k (by omega);omega
    ·rw [at' i (by omega),at' j (by omega)]
     exact ⟨up _ _ (by omega) (by omega),.inr (by omega)⟩
    ·have z:j=1+d:=by omega
     subst z
     rw [L'.hi _ (Nat.le_refl _) hlt,at' i (by omega)]
     exact all _ (by omega)
  ·have z:d=0:=by omega
   subst z
   simp only [if_neg hm]
   refine tG S ⟨⟨L1.sz,fun k hk=>by rw [dJ (by omega)];exact hk,fun k a b=>dJ b,L1.pm⟩,by omega,by omega,fun i j hij hj=>by omega,fun i j hi hj hj2=>?_,fun i j a b c=>by omega⟩
   have z:j=1:=by omega
   have y:i=0:=by omega
   subst z y
   rw [dJ (by omega),dJ (by omega)]
   exact hd
theorem vU (S:Swo f) {p:Array Nat} {k:Nat} (A:Asc f p k):∀fu l r,l≤r→r≤k→r - l≤fu→(∀i,i<l→f (p.getD k 0) (p.getD i 0)=false)→(∀i,r≤i→i<k→f (p.getD k 0) (p.getD i 0)=true) →
  (kas_place p k fu l r).ev f≤k∧(∀i,i<(kas_place p k fu l r).ev f→f (p.getD k 0) (p.getD i 0)=false)∧∀i,(kas_place p k fu l r).ev f≤i→i<k→f (p.getD k 0) (p.getD i 0)=true
 |0,l,r,h1,h2,h3,a,b=>by
  have z:l=r:=by omega
  subst z
  exact ⟨h2,a,b⟩
 |fu+1,l,r,h1,h2,h3,a,b=>by
  unfold kas_place
  by_cases e:l ≥ r
  ·have z:l=r:=by omega
   subst z
   simp only [if_pos e]
   exact ⟨h2,a,b⟩
  ·simp only [if_neg e]
   show ((if f (p.getD k 0) (p.getD ((l+r) / 2) 0)=true then kas_place p k fu l ((l+r) / 2) else kas_place p k fu ((l+r) / 2+1) r).ev f≤k∧_)
   by_cases c:f (p.getD k 0) (p.getD ((l+r) / 2) 0)=true
   ·have hb:∀i,(l+r) / 2≤i→i<k→f (p.getD k 0) (p.getD i 0)=true:=fun i h1 h2=>by
     by_cases z:i=(l+r) / 2
     ·subst z;exact c
     ·exact S.lt1 c (A _ i (by omega) h2).1
    have:=vU S A fu l ((l+r) / 2) (by omega) (by omega) (by omega) a hb
    simpa only [KasT.ev,if_pos c] using this
   ·have c':f (p.getD k 0) (p.getD ((l+r) / 2) 0)=false:=by simpa using c
    have ha:∀i,i<(l+r) / 2+1→f (p.getD k 0) (p.getD i 0)=false:=fun i h=>by
     by_cases z:i=(l+r) / 2
     ·subst z;exact c'
     ·exact S.tr (A i _ (by omega) (by omega)).1 c'
    have:=vU S A fu ((l+r) / 2+1) r (by omega) h2 (by omega) ha b
    simpa only [KasT.ev,if_neg c] using this
theorem aLq (S:Swo f) {N:Nat}:∀(fu:Nat) (p:Array Nat) (k:Nat),Ld N p k→Asc f p k→1≤k→k+fu=N→Ld N ((kas_bin fu p k).ev f) N∧Asc f ((kas_bin fu p k).ev f) N
 |0,p,k,L,A,_,e=>by
  have z:k=N:=by omega
  subst z
  exact ⟨L,A⟩
 |fu+1,p,k,L,A,h1,e=>by
  unfold kas_bin
  rw [KasT.nP]
  obtain ⟨g1,g2,g3⟩:=vU S A k 0 k (Nat.zero_le _) (Nat.le_refl _) (by omega) (fun i h=>by omega) (fun i h h'=>by omega)
  generalize (kas_place p k k 0 k).ev f=l at g1 g2 g3
  have hs:k<p.size:=by rw [L.sz];omega
  have ek:p.getD k 0=k:=L.hi k (Nat.le_refl _) (by omega)
  have bt:=fun x=>aO4 (p:=p) (k:=k) (d:=k - l) hs (by omega) x
  have ez:k - (k - l)=l:=by omega
  rw [ez] at bt
  refine aLq S fu _ (k+1) ⟨by rw [bubble_size];exact L.sz,fun x hx=>?_,fun x a b=>?_,(bubble_perm _ _ _).trans L.pm⟩ (fun i j hij hj=>?_) (by omega) (by omega)
  ·rw [bt]
   by_cases a:x=l
   ·rw [if_pos a];omega
   ·rw [if_neg a]
    by_cases b:l<x∧x≤k
    ·rw [if_pos b];have:=L.lo (x - 1) (by omega);omega
    ·rw [if_neg b];have:=L.lo x (by omega);omega
  ·rw [bt,if_neg (by omega),if_neg (by omega)]
   exact L.hi x (by omega) b
  ·rw [bt i,bt j]
   by_cases i1:i=l
   ·rw [if_pos i1,if_neg (by omega),if_pos (by omega)]
    exact .of S (g3 _ (by omega) (by omega))
   ·rw [if_neg i1]
    by_cases i2:l<i∧i≤k
    ·rw [if_pos i2,if_neg (by omega),if_pos (by omega)]
     exact A _ _ (by omega) (by omega)
    ·rw [if_neg i2]
     by_cases j1:j=l
     ·rw [if_pos j1]
      have:=L.lo i (by omega)
      exact ⟨g2 i (by omega),.inr (by omega)⟩
     ·rw [if_neg j1]
      by_cases j2:l<j∧j≤k
      ·rw [if_pos j2]
       exact A _ _ (by omega) (by omega)
      ·rw [if_neg j2]
       exact A _ _ hij (by omega)
theorem aMm (S:Swo f) {N:Nat} (h1:1≤N):Ld N ((kas_sort N).ev f) N∧Asc f ((kas_sort N).ev f) N:=by
 unfold kas_sort
 rw [KasT.nP]
 have R:=aLt S h1
 generalize (kas_count N (List.range N).toArray).ev f=r at R
 obtain ⟨r1,r2,L,A⟩:=R
 by_cases e:r.1<N
 ·simp only [if_pos e]
  have z:max r.1 1=r.1:=by omega
  rw [z]
  exact aLq S _ _ _ L A r1 (by omega)
 ·simp only [if_neg e]
  have z:r.1=N:=by omega
  rw [z] at L A
  exact ⟨L,A⟩
end
theorem KasT.Low.same {α:Type} {n:Nat} {P:α→Prop} {t:KasT α} (h:t.Low n P) {f g:Nat→Nat→Bool} (e:∀i j,i<n→j<n→f i j=g i j):t.ev f=t.ev g:=by
 induction h with
 |ret h=>rfl
 |@ask i j k a b _ ih=>
  show (k (f i j)).ev f=(k (g i j)).ev g
  rw [e i j a b]
  exact ih (g i j)
theorem aFl {n:Nat} {f g:Nat→Nat→Bool} (e:∀i j,i<n→j<n→f i j=g i j):bQ n f=bQ n g:=by
 unfold bQ
 by_cases h:n<2
 ·rw [if_pos h,if_pos h]
 ·rw [if_neg h,if_neg h,(lZ (by omega)).same e]
theorem aEc {n:Nat} {f:Nat→Nat→Bool} (S:Swo f):(bQ n f).Perm (List.range n)∧(bQ n f).Pairwise (Pre f):=by
 unfold bQ
 by_cases h:n<2
 ·rw [if_pos h]
  refine ⟨.refl _,?_⟩
  match n,h with
  |0,_=>exact .nil
  |1,_=>exact List.pairwise_singleton _ _
 ·rw [if_neg h]
  obtain ⟨L,A⟩:=aMm S (show 1≤n by omega)
  generalize (kas_sort n).ev f=p at L A
  refine ⟨?_,List.pairwise_iff_getElem.mpr fun i j hi hj hij=>?_⟩
  ·have:=Array.perm_iff_toList_perm.mp L.pm
   simpa using this
  ·have hi':i<p.size:=by simpa using hi
   have hj':j<p.size:=by simpa using hj
   have:=A i j hij (by rw [←L.sz];exact hj')
   rw [Array.getD_eq_getD_getElem?,Array.getD_eq_getD_getElem?,Array.getElem?_eq_getElem hi',Array.getElem?_eq_getElem hj'] at this
   simpa using this
end PySem.W
namespace PySem.W
open PySem PySem.Calls PyProof.Rows
section
variable {prog:Program} {w:World} {A:Around} {E:Value→Shared→Prop} {s:Shared} {f:Nat→Nat→Bool}
def wF (b:Bool) (n:Nat) (f:Nat→Nat→Bool) (vs:List Value):List Value:=if b then ((bQ n f).map fun i=>vs.reverse.getD i Value.none).reverse else (bQ n f).map fun i=>vs.getD i Value.none
theorem aLs (b:Bool) (n:Nat) (f:Nat→Nat→Bool) (vs:List Value):(wF b n f vs).length=n:=by
 unfold wF
 cases b with
 |true=>rw [if_pos rfl,List.length_reverse,List.length_map,iH]
 |false=>rw [if_neg Bool.false_ne_true,List.length_map,iH]
theorem aG7 {a kS:Addr} {b:Bool} {keys:Array Value} {e e1:Nat} {st:SortSt} {out:Array Value} {P:PySem.Fin→Shared→Prop} (hk:s.heap.get? kS=some (seqObj "list" keys e)) (ha:s.heap.get? a=some (seqObj "list" #[] e1)) (hne:kS≠a)
  (hsz:keys.size<64) (ho:out.size<64) (hout:(if b then ((arrOf st).map (·.2)).reverse else (arrOf st).map (·.2))=out) (hf:failedOf st=none)
  (h:∀h' c,(∀x o,x≠a→x≠kS→s.heap.get? x=some o→h'.get? x=some o)→s.heap.objs.size≤h'.objs.size→h'.get? a=some (seqObj "list" out c)→P (.done (.ret .none)) { s with heap:=h' }) :
  wpAny (model prog w) A (ksk_tail a b e1 (.ref kS) st) P E s:=by
 have s1:=Heap.SameBut.update s.heap kS (Obj.mapSeq fun _=>(#[]:Array Value))
 have na1:(s.heap.update kS (Obj.mapSeq fun _=>(#[]:Array Value))).get? a=some (seqObj "list" #[] e1):=(s1.2 a hne.symm).trans ha
 have s2:=Heap.SameBut.update (s.heap.update kS (Obj.mapSeq fun _=>(#[]:Array Value))) a (Obj.mapSeq fun _=>out)
 obtain ⟨c2,hc2⟩:∃c2,((s.heap.update kS (Obj.mapSeq fun _=>(#[]:Array Value))).update a (Obj.mapSeq fun _=>out)).get? a=some (seqObj "list" out c2):=⟨_,get?_update_seq na1 fun _=>out⟩
 unfold ksk_tail
 try dsimp only
 refine wpAny_bind (listUpdate_at hk rfl ?_ (by rw [sizeLine_eq];omega) (Nat.zero_le _))
 refine wpAny_bind (wpAny_letGo ?_)
 refine wpAny_bind (seqEpoch_at na1 rfl ?_)
 rw [hout]
 refine wpAny_bind (listUpdate_at na1 rfl ?_ (Nat.zero_le _) (by show out.size≤_;rw [sizeLine_eq];omega))
 rw [hf]
 simp only [bne_self_eq_false,Bool.false_eq_true,if_false]
 exact wpAny_pure (h _ c2 (fun x o h1 h2 e=>(s2.2 x h1).trans ((s1.2 x h2).trans e)) (by rw [Heap.size_update,Heap.size_update];exact Nat.le_refl _) hc2)
theorem aO8 {a kS:Addr} {b:Bool} {vs ks:List Value} {e e1:Nat} {P:PySem.Fin→Shared→Prop} (hk:s.heap.get? kS=some (seqObj "list" ks.toArray e)) (ha:s.heap.get? a=some (seqObj "list" #[] e1)) (hne:kS≠a)
  (hlen:ks.length=vs.length) (h64:vs.length<64) (hkind:2≤ks.length→keyKind' ks.toArray=pure oneType')
  (hcmp:∀i j (C:Bool→Shared→Prop),i<vs.length→j<vs.length→C (f i j) s→kas_ask prog w A oneType' (if b then ks.reverse else ks) i j C s)
  (h:∀h' c,(∀x o,x≠a→x≠kS→s.heap.get? x=some o→h'.get? x=some o)→s.heap.objs.size≤h'.objs.size→h'.get? a=some (seqObj "list" (wF b vs.length f vs).toArray c)→P (.done (.ret .none)) { s with heap:=h' }) :
  wpAny (model prog w) A (ksk_end a b vs.toArray e1 (.ref kS) ks.toArray) P E s:=by
 have hlo:=aLs b vs.length f vs
 have step:∀t:Sem PySem.Fin,wpAny (model prog w) A t P E s→wpAny (model prog w) A (if b=true then (do let _ ←rule "list.sort.reverse";t) else t) P E s:=by
  intro t ht
  split
  ·exact wpAny_bind (wpAny_rule ht)
  ·exact ht
 unfold ksk_end
 try dsimp only
 refine step _ ?_
 by_cases h2:vs.toArray.size<2
 ·rw [if_pos h2,if_pos h2]
  refine wpAny_bind (wpAny_pure ?_)
  rw [StateT.run_pure]
  refine wpAny_bind (wpAny_pure ?_)
  try dsimp only
  refine aG7 hk ha hne (by rw [List.size_toArray];omega) (by rw [List.size_toArray,hlo];exact h64) ?_ rfl h
  show (if b then (((if b=true then (ks.toArray.zip vs.toArray).reverse else ks.toArray.zip vs.toArray)).map (·.2)).reverse else ((if b=true then (ks.toArray.zip vs.toArray).reverse else ks.toArray.zip vs.toArray)).map (·.2))=_
  rw [List.size_toArray] at h2
  unfold wF bQ
  rw [if_pos h2]
  match vs,ks,hlen,h2 with
  |[],[],_,_=>cases b <;> simp
  |[x],[k],_,_=>cases b <;> simp [List.range,List.range.loop]
  |_::_::_,_,_,h2=>rw [List.length_cons,List.length_cons] at h2;omega
 ·rw [if_neg h2,if_neg h2]
  rw [List.size_toArray] at h2
  rw [hkind (by omega)]
  refine wpAny_bind (wpAny_pure ?_)
  have fin:∀(ks' vs':List Value),(if b then ks.reverse else ks)=ks'→(if b then vs.reverse else vs)=vs'→wpAny (model prog w) A (do let x ←(sortRuns').run (SortSt.mk' oneType' (ks'.toArray.zip vs'.toArray) #[] 7 none);ksk_tail a b e1 (.ref kS) x.2) P E s:=by
   intro ks' vs' ek ev
   have l1:ks'.length=ks.length:=by rw [←ek];cases b <;> simp
   have l2:vs'.length=vs.length:=by rw [←ev];cases b <;> simp
   rw [ek] at hcmp
   refine wpAny_bind (wpAny_mono (kat_run (κ:=oneType') (ks:=ks') (vs:=vs') (G:=fun p s'=>s'=s∧p=(kas_sort vs'.length).ev f) (Q:=fun st' s'=>∃p:Array Nat,p.size=vs'.length∧arrOf st'=p.map (kas_item (ks'.toArray.zip vs'.toArray))∧failedOf st'=none∧s'=s∧p=(kas_sort vs'.length).ev f)
    (by omega) (by omega) (by omega) (fun p' st' s' a1 a2 a3 a4=>⟨p',a1,a2,a3,a4⟩) (aLa (n:=vs'.length) (P:=Pl vs'.length) (f:=f) (cmp:=kas_ask prog w A oneType' ks') (t:=kas_sort vs'.length) (fun i j C hi hj q=>hcmp i j C (by omega) (by omega) q) (lZ (by omega)) (Q:=fun p s'=>s'=s∧p=(kas_sort vs'.length).ev f) ⟨rfl,rfl⟩)) ?_ fun _ _ e=>e)
   rintro ⟨⟨⟩,st'⟩ s' ⟨p,hp,har,hf,rfl,rfl⟩
   have hout:=kat_snds (by omega:ks'.length=vs'.length) har
   refine aG7 hk ha hne (by rw [List.size_toArray];omega) (by rw [List.size_toArray,hlo];exact h64) ?_ hf h
   rw [hout]
   have ex:bQ vs.length f=((kas_sort vs'.length).ev f).toList:=by unfold bQ;rw [if_neg h2,l2]
   unfold wF
   rw [ex]
   cases b with
   |true=>simp only [if_true] at ev ⊢;subst ev;simp
   |false=>simp only [Bool.false_eq_true,if_false] at ev ⊢;subst ev;rfl
  have z:=fin _ _ rfl rfl
  cases b with
  |true=>
   simp only [if_true] at z ⊢
   have e:(ks.toArray.zip vs.toArray).reverse=ks.reverse.toArray.zip vs.reverse.toArray:=by
    apply Array.toList_inj.mp
    simp only [Array.toList_reverse,Array.toList_zip,List.toList_toArray]
    show (List.zipWith Prod.mk ks vs).reverse=List.zipWith Prod.mk ks.reverse vs.reverse;exact List.reverse_zipWith hlen
   rw [e]
   exact z
  |false=>exact z
def aBv (s:Shared) (k:Value):Value→Shared→Prop:=fun u s'=>u=k∧∃h' tk',s'={ s with heap:=h',toks:=tk' }∧s.heap.objs.size≤h'.objs.size∧∀b o,s.heap.get? b=some o→h'.get? b=some o
theorem aM9 {a kS:Addr} {b:Bool} {fv:Value} {vs ks:List Value} {e1:Nat} {P:PySem.Fin→Shared→Prop} (hk:s.heap.get? kS=some (seqObj "list" #[] 0)) (ha:s.heap.get? a=some (seqObj "list" #[] e1)) (hne:kS≠a)
  (hlen:ks.length=vs.length) (h64:vs.length<64) (hkind:2≤ks.length→keyKind' ks.toArray=pure oneType')
  (turn:∀(i:Nat) (v k:Value),vs[i]?=some v→ks[i]?=some k→∀(h:Heap) (tk:Nat),(∀x o,x≠a→x≠kS→s.heap.get? x=some o→h.get? x=some o)→wpAny (model prog w) A (call fv [v]) (aBv { s with heap:=h,toks:=tk } k) (fun _ _=>False) { s with heap:=h,toks:=tk })
  (hcmp:∀(s':Shared) i j (C:Bool→Shared→Prop),i<vs.length→j<vs.length→C (f i j) s'→kas_ask prog w A oneType' (if b then ks.reverse else ks) i j C s')
  (h:∀h' tk c,(∀x o,x≠a→x≠kS→s.heap.get? x=some o→h'.get? x=some o)→s.heap.objs.size≤h'.objs.size→h'.get? a=some (seqObj "list" (wF b vs.length f vs).toArray c)→P (.done (.ret .none)) { s with heap:=h',toks:=tk }) :
  wpAny (model prog w) A (ksk_rest a fv b vs.toArray e1 (.ref kS)) P E s:=by
 unfold ksk_rest
 refine wpAny_bind (wpAny_rule ?_)
 first
  |rw [List.forIn_toArray]
  |(rw [←Array.forIn_toList];simp only [List.toList_toArray])
  |rw [←Array.forIn_toList]
 refine wpAny_bind (ksk_fold (fun i s'=>∃h' tk e,s'={ s with heap:=h',toks:=tk }∧(∀x o,x≠a→x≠kS→s.heap.get? x=some o→h'.get? x=some o)∧s.heap.objs.size≤h'.objs.size∧h'.get? kS=some (seqObj "list" (ks.take i).toArray e)∧h'.get? a=some (seqObj "list" #[] e1)) vs 0 s
  ⟨s.heap,s.toks,0,rfl,fun _ _ _ _ e=>e,Nat.le_refl _,by simpa using hk,ha⟩ ?step ?done)
 case step=>
  rintro j x s' hx ⟨h',tk,e,rfl,kp,sz,gk,ga⟩
  simp only [Nat.zero_add] at gk ⊢
  have hj:j<vs.length:=(List.getElem?_eq_some_iff.mp hx).1
  obtain ⟨k,hkj⟩:∃k,ks[j]?=some k:=⟨_,List.getElem?_eq_getElem (by omega)⟩
  refine wpAny_bind (wpAny_attempt (wpAny_mono (turn j x k hx hkj h' tk kp) (fun v s'' he=>?_) fun _ _ hF=>hF.elim))
  obtain ⟨rfl,g,tk2,rfl,sz2,kp2⟩:=he
  try dsimp only
  have gk2:=kp2 _ _ gk
  have ga2:=kp2 _ _ ga
  have s1:=Heap.SameBut.update g kS (Obj.mapSeq (·.push v))
  obtain ⟨c2,hc2⟩:∃c2,(g.update kS (Obj.mapSeq (·.push v))).get? kS=some (seqObj "list" ((ks.take j).toArray.push v) c2):=⟨_,get?_update_seq gk2 (·.push v)⟩
  have ek:ks.take (j+1)=ks.take j++[v]:=by rw [List.take_add_one,hkj];simp
  have lt:(ks.take j).length≤64:=by rw [List.length_take];omega
  refine wpAny_bind (listUpdate_at gk2 rfl ?_ (by rw [List.size_toArray,sizeLine_eq];omega) (Nat.le_trans (Nat.le_of_eq (Array.size_push ..)) (by rw [List.size_toArray,sizeLine_eq];omega)))
  exact wpAny_pure ⟨rfl,_,_,c2,rfl,fun x o h1 h2 e=>(s1.2 x h2).trans (kp2 _ _ (kp x o h1 h2 e)),by rw [Heap.size_update];exact Nat.le_trans sz sz2,by rw [ek,hc2];simp,(s1.2 a hne.symm).trans ga2⟩
 case done=>
  rintro s' ⟨h',tk,e,rfl,kp,sz,gk,ga⟩
  have e3:ks.take (0+vs.length)=ks:=List.take_of_length_le (by omega)
  rw [e3] at gk
  try dsimp only
  refine wpAny_bind (listItems_at gk rfl ?_)
  exact aO8 (f:=f) gk ga hne hlen h64 hkind (fun i j C hi hj q=>hcmp _ i j C hi hj q) fun h2 c k2 z2 g2=>h h2 tk c (fun x o h1 h2 e=>k2 x o h1 h2 (kp x o h1 h2 e)) (Nat.le_trans sz z2) g2
theorem aL8 {a:Addr} {b:Bool} {fv:Value} {vs ks:List Value} {n:Nat} {P:PySem.Fin→Shared→Prop} (ho:s.heap.get? a=some (seqObj "list" vs.toArray n))
  (hlen:ks.length=vs.length) (h64:vs.length<64) (hkind:2≤ks.length→keyKind' ks.toArray=pure oneType')
  (turn:∀(i:Nat) (v k:Value),vs[i]?=some v→ks[i]?=some k→∀(h:Heap) (tk:Nat),(∀x o,x≠a→s.heap.get? x=some o→h.get? x=some o)→wpAny (model prog w) A (call fv [v]) (aBv { s with heap:=h,toks:=tk } k) (fun _ _=>False) { s with heap:=h,toks:=tk })
  (hcmp:∀(s':Shared) i j (C:Bool→Shared→Prop),i<vs.length→j<vs.length→C (f i j) s'→kas_ask prog w A oneType' (if b then ks.reverse else ks) i j C s')
  (h:∀h' tk c,(∀x o,x≠a→s.heap.get? x=some o→h'.get? x=some o)→s.heap.objs.size≤h'.objs.size→h'.get? a=some (seqObj "list" (wF b vs.length f vs).toArray c)→P (.done (.ret .none)) { s with heap:=h',toks:=tk }) :
  wpAny (model prog w) A (ksk_tree a fv b) P E s:=by
 have ha:a<s.heap.objs.size:=Heap.lt_size ho
 have s1:=Heap.SameBut.update s.heap a (Obj.mapSeq fun _=>(#[]:Array Value))
 obtain ⟨e1,ho1⟩:∃e1,(s.heap.update a (Obj.mapSeq fun _=>(#[]:Array Value))).get? a=some (seqObj "list" #[] e1):=⟨_,get?_update_seq ho fun _=>#[]⟩
 have hkS:((s.heap.update a (Obj.mapSeq fun _=>(#[]:Array Value))).push (seqObj "tuple" vs.toArray 0)).objs.size=s.heap.objs.size+1:=by rw [size_push',Heap.size_update]
 unfold ksk_tree
 refine wpAny_bind (listItems_at ho rfl ?_)
 refine wpAny_bind (listUpdate_at ho rfl ?_ (by rw [List.size_toArray,sizeLine_eq];omega) (Nat.zero_le _))
 refine wpAny_bind (seqEpoch_at ho1 rfl ?_)
 refine wpAny_bind (wpAny_newTuple ?_ (by show vs.length≤_;rw [sizeLine_eq];omega))
 refine wpAny_bind (wpAny_newList ?_ (Nat.zero_le _))
 refine wpAny_holding ?_
 have kp:∀x o,x≠a→s.heap.get? x=some o→(((s.heap.update a (Obj.mapSeq fun _=>(#[]:Array Value))).push (seqObj "tuple" vs.toArray 0)).push (seqObj "list" #[] 0)).get? x=some o:=fun x o hx e=>Heap.get?_push_of_some _ (Heap.get?_push_of_some _ ((s1.2 x hx).trans e))
 have nk:∀x o,s.heap.get? x=some o→x≠((s.heap.update a (Obj.mapSeq fun _=>(#[]:Array Value))).push (seqObj "tuple" vs.toArray 0)).objs.size:=fun x o e=>by rw [hkS];exact Nat.ne_of_lt (Nat.lt_succ_of_lt (Heap.lt_size e))
 refine aM9 (f:=f) (s:={ s with heap:=((s.heap.update a (Obj.mapSeq fun _=>(#[]:Array Value))).push (seqObj "tuple" vs.toArray 0)).push (seqObj "list" #[] 0) }) (kS:=((s.heap.update a (Obj.mapSeq fun _=>(#[]:Array Value))).push (seqObj "tuple" vs.toArray 0)).objs.size)
  (Heap.get?_push_size _ rfl) (Heap.get?_push_of_some _ (Heap.get?_push_of_some _ ho1)) (nk a _ ho).symm hlen h64 hkind (fun i v k h1 h2 h' tk k'=>turn i v k h1 h2 h' tk fun x o hx e=>k' x o hx (nk x o e) (kp x o hx e)) hcmp fun h' tk c k' z g=>h h' tk c (fun x o hx e=>k' x o hx (nk x o e) (kp x o hx e)) (Nat.le_trans ?_ z) g
 rw [Heap.size_push,hkS]
 omega
theorem aH9 {l:Addr} {b:Bool} {fv:Value} {vs ks:List Value} {kw:List (Str × Value)} {Q:Value→Shared→Prop} (hl:s.heap.IsList l vs.toArray) (hlen:ks.length=vs.length) (h64:vs.length<64) (hkind:2≤ks.length→keyKind' ks.toArray=pure oneType')
  (ha1:argsOk "sorted" ⟨[.ref l],kw⟩) (ha2:∀x,argsOk "list.sort" ⟨[.ref x],kw⟩) (ht:∀x,Builtin.«list.sort» ⟨[.ref x],kw⟩=ksk_tree x fv b)
  (turn:∀(i:Nat) (v k:Value),vs[i]?=some v→ks[i]?=some k→∀(h:Heap) (tk:Nat),(∀x o,s.heap.get? x=some o→h.get? x=some o)→wpAny (model prog w) A.in1.in1 (call fv [v]) (aBv { s with heap:=h,toks:=tk } k) (fun _ _=>False) { s with heap:=h,toks:=tk })
  (hcmp:∀(s':Shared) i j (C:Bool→Shared→Prop),i<vs.length→j<vs.length→C (f i j) s'→kas_ask prog w A.in1.in1 oneType' (if b then ks.reverse else ks) i j C s')
  (h:∀D h' tk c,s.heap.objs.size≤D→(∀x o,s.heap.get? x=some o→h'.get? x=some o)→h'.get? D=some (seqObj "list" (wF b vs.length f vs).toArray c)→Q (.ref D) { s with heap:=h',toks:=tk }) :
  wpAny (model prog w) A (call (.builtin "sorted") [.ref l] kw) Q E s:=by
 refine call_function_entry_kw kind_sorted plain_sorted entry_sorted ha1 ?_
 unfold Builtin.«sorted»
 refine wpAny_bind (m:=checkCount "sorted" 1 1 _) (wpAny_pure ?_)
 refine wpAny_bind (collect_list hl ?_ (by rw [sizeLine_eq];omega))
 refine wpAny_bind (wpAny_newList ?_ (by rw [sizeLine_eq];omega))
 have hsz:((s.heap.push (seqObj "list" #[] 0)).update s.heap.objs.size (Obj.mapSeq (·++vs.toArray))).objs.size=s.heap.objs.size+1:=by
  rw [Heap.size_update,size_push']
 have hoL:(((s.heap.push (seqObj "list" #[] 0)).update s.heap.objs.size (Obj.mapSeq (·++vs.toArray))).push (seqObj "list" vs.toArray 0)).get? (s.heap.objs.size+1)=some (seqObj "list" vs.toArray 0):=by
  rw [←hsz];exact Heap.get?_push_size _ rfl
 have keep:∀b o,s.heap.get? b=some o→(((s.heap.push (seqObj "list" #[] 0)).update s.heap.objs.size (Obj.mapSeq (·++vs.toArray))).push (seqObj "list" vs.toArray 0)).get? b=some o:=fun b o q=>by
  have hlt:b<s.heap.objs.size:=Heap.lt_size q
  rw [Heap.get?_push_ne _ _ _ (by rw [hsz];exact Nat.ne_of_lt (Nat.lt_succ_of_lt hlt)),Heap.get?_update_ne _ _ _ _ (Nat.ne_of_lt hlt),Heap.get?_push_ne _ _ _ (Nat.ne_of_lt hlt)]
  exact q
 have nD:∀x o,s.heap.get? x=some o→x≠s.heap.objs.size+1:=fun x o e=>Nat.ne_of_lt (Nat.lt_succ_of_lt (Heap.lt_size e))
 show wpAny _ _ _ _ _ { s with heap:=((s.heap.push (seqObj "list" #[] 0)).update s.heap.objs.size (Obj.mapSeq (·++vs.toArray))).push (seqObj "list" vs.toArray 0) }
 rw [hsz]
 refine wpAny_bind (wpAny_holding (wpAny_call_entry_kw slot_list_sort ⟨_,hoL,rfl⟩ entry_list_sort ?body (ha2 _)))
 case body=>
  rw [ht]
  refine aL8 (f:=f) (s:={ s with heap:=((s.heap.push (seqObj "list" #[] 0)).update s.heap.objs.size (Obj.mapSeq (·++vs.toArray))).push (seqObj "list" vs.toArray 0) }) hoL hlen h64 hkind (fun i v k h1 h2 h' tk k'=>turn i v k h1 h2 h' tk fun x o e=>k' x o (nD x o e) (keep x o e)) hcmp fun h' tk c k' z g=>⟨_,rfl,?_⟩
  exact wpAny_pure ⟨_,rfl,h _ h' tk c (by omega) (fun x o e=>k' x o (nD x o e) (keep x o e)) g⟩
end
end PySem.W
namespace PySem.W
open PySem PySem.Calls PyProof.Rows
theorem uG {pos:Pos} {a b:Int} {c cv:Value} (l:List Value) (h:TriplesOk l) (hf:codeAmong pos (l++[rawInt a,rawInt b,c])=some cv):codeAmong pos l=some cv∨cv=c:=by
 fun_induction TriplesOk l with
 |case1=>
  simp only [List.nil_append,codeAmong,rawInt] at hf
  split at hf
  ·exact .inr (Option.some.inj hf).symm
  ·cases hf
 |case2 a' t b' u x rest ih=>
  simp only [List.cons_append,codeAmong] at hf ⊢
  split at hf
  ·rename_i hc;rw [if_pos hc];exact .inl hf
  ·rename_i hc;rw [if_neg hc];exact ih h hf
 |case3 l h1 h2=>exact h.elim
section
variable {prog:Program} {w:World} {A:Around} {E:Value→Shared→Prop} {s:Shared}
theorem aKy {f a c' cp:Addr} {nm qual x y:Str} {params:Arguments} {p1 p2 p3:Pos} {scope:Scope} {pm ctv:Value} {its:List Value} {n:Nat} {t:Tok} {u:Value}
  (ho:s.heap.get? f=some (kla_obj nm qual params (.Subscript (.Name x p1) (.Name y p2) p3) scope [(y,cp)] pm c' ctv)) (hcd:s.heap.CodeRec (.ref c') qual) (hlim:s.heap.NoLimit) (hroom:A.depth<recursionLimit)
  (hbind:∀v,bindArgs (kla_fn nm qual params (.Subscript (.Name x p1) (.Name y p2) p3) scope [(y,cp)] pm (.ref c') ctv) ⟨[v],[]⟩=pure [(x,v)])
  (hco:scope.isCoroutine=false) (hgen:scope.isGenerator=false) (hk:scope.kind=.function) (hcell:∀z∈scope.names,z.2≠.cell) (hx:scope.names.lookup x=some .local) (hy:scope.names.lookup y=some .free)
  (hdx:(x == ("__debug__":Str))=false) (hdy:(y == ("__debug__":Str))=false) (hcy:(y == ("__classdict__":Str))=false)
  (hc:s.heap.IsCell cp (some (.int (n:Nat) t))) (hrow:IsTup s.heap a its.toArray) (hat:its[n]?=some u) (h63:n<2 ^ 62) :
  wpAny (model prog w) A (call (.ref f) [.ref a]) (aBv s u) E s:=by
 refine wpAny_call (kla_callFunE hroom ho rfl hco hgen rfl hcd ?_)
 rw [hbind]
 refine wpAny_pure (wpAny_newFunctionEnv hcell (fun z hz=>?_) (fun h₁ hns hsb=>⟨hlim.fresh _ hsb,?_⟩) hk)
 ·have e:z=(x,Value.ref a):=by simpa using hz
  rw [e];exact hx
 have kp:∀b o,s.heap.get? b=some o→h₁.get? b=some o:=fun b o e=>hsb.extBut b o (Nat.ne_of_lt (Heap.lt_size e)) (Heap.get?_push_of_some _ e)
 have szz:s.heap.objs.size≤h₁.objs.size:=by
  have:=hsb.1
  rw [Heap.size_push] at this
  omega
 refine kla_codeExpr ?_
 refine wpAny_Subscript_Name_late (wpAny_Name (wpAny_loadName_local hk hx hns (v:=.ref a) (by simp) ?_) hdx)
 refine wpAny_Name (wpAny_loadName_free hk hy (c:=cp) (by simp [newEnv]) (v:=.int (n:Nat) t) (let ⟨o,e1,e2⟩:=hc;⟨o,kp _ _ e1,e2⟩) ?_ hcy) hdy
 have hrow':IsTup h₁ a its.toArray:=by
  obtain ⟨o,e,c⟩:=hrow
  exact ⟨o,kp _ _ e,c⟩
 have hl:n<its.length:=(List.getElem?_eq_some_iff.mp hat).1
 refine ⟨"tuple",_,slot_tuple_getitem.lookup,hrow'.typeIs,getItem_tuple (j:=n) hrow' (by omega) (by omega) ?_ (by simpa using hat) ⟨rfl,_,_,rfl,szz,kp⟩⟩
 rw [List.size_toArray]
 unfold seqIndex?
 have e0:¬ ((n:Int)<0):=by omega
 simp only [e0,if_false]
 simp [hl]
end
end PySem.W
namespace L2
open PySem PySem.Spec PyProof.Rows
def BM (mg:Str→Option Value) (base:Heap):Prop:=∃bm ob,mg "__builtins__"=some (.ref bm)∧bm≠builtinsNs∧base.get? bm=some ob∧ob.cls=.type "module"∧ob.dict=some builtinsNs∧ob.data=.plain
section
variable {X:Cx} {pins:List (Addr × Obj)} {σ:List (Option V)} {H:Hp} {s:Shared}
theorem aJ7 {params:Arguments} {body:Expr} {scope:Scope} {pos:Pos} {c P:Addr} {clos:List (Str × Addr)} {Q:Value→Shared→Prop} {E:Value→Shared→Prop}
  (I:Inv X pins σ H s) (hcode:X.env.code=.ref c) (CH:PySem.W.CodeHd X.base c P) (hP:H P=some (.tab (X.env.qual++"<lambda>"))) (hbm:BM X.mg X.base) (hcl:closureFor scope X.env=pure clos) (hdef:defaultsOf params X.env=([],[]))
  (q:∀f c' pm ctv H' h' tk,Inv X pins σ H' { s with heap:=h',toks:=tk }→Same H H'→h'.get? f=some (PySem.W.kla_obj "<lambda>" (X.env.qual++"<lambda>") params body scope clos pm c' ctv)→h'.CodeRec (.ref c') (X.env.qual++"<lambda>")→Q (.ref f) { s with heap:=h',toks:=tk }) :
  wpAny (model X.prog X.w) X.A (eval (.Lambda params body scope pos) X.env) Q E s:=by
 obtain ⟨ps,hp,ht,hcodes⟩:=I.hok P _ hP
 have hg:s.heap.Ns mainGlobals X.mg:=I.mod.glob.keeps I.bk
 obtain ⟨bm,ob,b1,b2,b3,b4,b5,b6⟩:=hbm
 have bG:bm≠mainGlobals:=fun z=>by
  obtain ⟨o,es,ep,e,d,_⟩:=I.mod.glob
  rw [z,e] at b3;cases b3;rw [d] at b6;cases b6
 have bP:bm≠P:=fun z=>by have:=(I.bs bm ob b3).2;rw [z,hP] at this;cases this
 have gP:mainGlobals≠P:=fun z=>by
  obtain ⟨o,es,ep,e,d,_⟩:=I.mod.glob
  have:=(I.bs _ o e).2
  rw [z,hP] at this;cases this
 have hB:s.heap.BuiltinsAt X.mg P:=⟨bm,ob,b1,b2,bG,bP,I.bk _ _ b3,b4,b5,b6⟩
 refine PySem.W.kla_eval hdef ?_
 cases hca:codeAmong pos ps.toList with
 |some cv=>
  obtain ⟨c',oc,vs,t,rfl,a2,a3,a4,a5⟩:=hcodes pos cv hca
  refine PySem.W.kla_makeFunctionHit (mg:=X.mg) hcl I.ok.glob hg hcode (CH.keeps I.bk) hp ht hca hB fun ctv h' tk hk hsz=>?_
  exact q _ c' _ ctv H _ tk (I.kept (t':=tk) fun b o e=>Heap.get?_push_of_some _ (hk b o e)) (fun _ _ e=>e) (Heap.get?_push_size _ rfl) ⟨c',oc,vs,t,rfl,Heap.get?_push_of_some _ (hk _ _ a3),a4,a5⟩
 |none=>
  refine PySem.W.kla_makeFunction (mg:=X.mg) hcl I.ok.glob hg hcode (CH.keeps I.bk) hp ht hca gP hB fun c' ctv h' tk hx hge hlt hrec htb=>?_
  obtain ⟨c2,oc,vs,t,e2,hoc,hd,hv⟩:=hrec
  cases e2
  have nc:H c'=none:=I.hok.fresh hge
  have neP:∀b u,b≠P→H b=some u→∀o,s.heap.get? b=some o→(h'.push (PySem.W.kla_obj "<lambda>" (X.env.qual++"<lambda>") params body scope clos ((X.mg "__name__").getD .none) c' ctv)).get? b=some o:=fun b u hb _ o e=>Heap.get?_push_of_some _ (hx b o hb e)
  have kp:∀b o,b≠P→s.heap.get? b=some o→(h'.push (PySem.W.kla_obj "<lambda>" (X.env.qual++"<lambda>") params body scope clos ((X.mg "__name__").getD .none) c' ctv)).get? b=some o:=fun b o hb e=>Heap.get?_push_of_some _ (hx b o hb e)
  have nPn:∀b,H b=none→b≠P:=fun b e z=>by rw [z,hP] at e;cases e
  have upne:∀{b u},H b=some u→upd H c' (.own P) b=some u:=fun {b u} e=>by rw [upd_ne (ne_of_none e nc)];exact e
  refine q _ c' _ ctv (upd H c' (.own P)) _ tk (I.step (g':=s.gens) (d':=s.drawn) (ch:=[]) (fun _ z=>nomatch z) (fun b o _ _ _ e n=>kp b o (nPn b n) e) (fun b o _ _ _ e n=>⟨o.slots,kp b o (nPn b n) e⟩) (fun b o _ e n=>?_) (fun b o _ e=>?_)
   (fun b xs e=>upne e) (fun b o u e=>upne e) (fun b qs e=>⟨#[],by rw [upne e];simp⟩) (fun m hm=>?_) (fun b u e=>?_) I.bare) (fun b o e=>upne e) (Heap.get?_push_size _ rfl) ⟨c',oc,vs,t,rfl,Heap.get?_push_of_some _ hoc,hd,hv⟩
  ·rw [upd_ne (Nat.ne_of_lt (Nat.lt_of_lt_of_le (Heap.lt_size e) hge))];exact n
  ·by_cases z:b=P
   ·subst z;exact ⟨_,Heap.get?_push_of_some _ htb⟩
   ·exact ⟨o,kp b o z e⟩
  ·obtain ⟨o,es,ep,e,r⟩:=hm
   exact ⟨o,es,ep,kp _ o (nPn _ I.free) e,r⟩
  ·by_cases z:b=c'
   ·subst z
    rw [upd_same] at e
    cases e
    exact ⟨oc,Heap.get?_push_of_some _ hoc⟩
   ·rw [upd_ne z] at e
    by_cases y:b=P
    ·subst y
     rw [hP] at e
     cases e
     refine ⟨_,Heap.get?_push_of_some _ htb,by rw [Array.toList_append];exact TriplesOk_snoc _ _ _ _ ht,fun pos' cv' hf=>?_⟩
     rw [Array.toList_append] at hf
     rcases PySem.W.uG _ ht hf with hf|rfl
     ·obtain ⟨c2,oc2,vs2,t2,rfl,a2,a3,a4,a5⟩:=hcodes pos' cv' hf
      exact ⟨c2,oc2,vs2,t2,rfl,upne a2,kp _ _ (fun z=>by rw [z,hP] at a2;cases a2) a3,a4,a5⟩
     ·exact ⟨c',oc,vs,t,rfl,upd_same,Heap.get?_push_of_some _ hoc,hd,hv⟩
    ·refine (I.hok b u e).stay (fun d v hd' r=>kp d v ?_ r) (fun d r=>upne r) fun d xs r=>upne r
     rcases hd' with rfl|r'
     ·exact y
     ·intro z;rw [z,hP] at r';cases r'
end
def nZ (ts:List (Addr × Str)) (H:Hp):Prop:=∀p∈ts,H p.1=some (.tab p.2)
def jA:List (Addr × Str)→Addr→Option Str
 |[],_=>none
 |p::r,b=>if b=p.1 then some p.2 else jA r b
theorem yD {b:Addr}:∀{ts:List (Addr × Str)},(∀p∈ts,b≠p.1)→jA ts b=none
 |[],_=>rfl
 |p::r,h=>by unfold jA;rw [if_neg (h p List.mem_cons_self)];exact yD fun q hq=>h q (List.mem_cons_of_mem _ hq)
theorem mJ {b:Addr} {q:Str}:∀{ts:List (Addr × Str)},jA ts b=some q→∃p∈ts,p.1=b∧p.2=q
 |p::r,h=>by
  unfold jA at h
  by_cases e:b=p.1
  ·rw [if_pos e] at h;exact ⟨p,List.mem_cons_self,e.symm,Option.some.inj h⟩
  ·rw [if_neg e] at h
   obtain ⟨p',h1,h2⟩:=mJ h
   exact ⟨p',List.mem_cons_of_mem _ h1,h2⟩
theorem aHy:∀{ts:List (Addr × Str)},(ts.map (·.1)).Nodup→∀{p:Addr × Str},p∈ts→jA ts p.1=some p.2
 |p::r,nd,q,hq=>by
  rw [List.map_cons,List.nodup_cons] at nd
  unfold jA
  rcases List.mem_cons.mp hq with rfl|hq
  ·rw [if_pos rfl]
  ·rw [if_neg fun z=>nd.1 (by rw [←z];exact List.mem_map.mpr ⟨q,hq,rfl⟩)]
   exact aHy nd.2 hq
theorem aI5 {P:Program} {w:World} {K:PySem.W.Frag} {mg mb:Str→Option Value} {CX:CXT} {k:Nat} {fa a:Addr} {fd:FuncData} {x:Str} {sp:Sp} {s₁:Shared} {vs:List Value} {ns:List Int}
  (KX:K.In s₁.heap) (hns:s₁.heap.Ns mainGlobals mg) (hb:s₁.heap.Ns builtinsNs mb) (hbb:∀x:Str,x≠"__name__"→mb x=bootBuiltins x) (hlim:s₁.heap.NoLimit) (hg:s₁.gens=#[])
  (ha:s₁.heap.get? a=some { cls:=.type "list",data:=.seq vs.toArray }) (hi:IntsAre vs ns) (hl:ns.length≤sizeLine) (hr:Room k callerA)
  (ts:List (Addr × Str)) (hts:∀p∈ts,s₁.heap.get? p.1=some { cls:=.none,data:=.fields #[] }∧isCodeTable s₁.heap p.1∧K.lookup p.1=none) (hnd:(ts.map (·.1)).Nodup) (hbm:BM mg s₁.heap)
  (F:∀base:Heap,K.In base→base.Ns mainGlobals mg→BM mg base→FnOk P w K mg base CX k fa fd [x] sp) (hbind:∀(s:Shared) (u:Value),BindsTo s fd ⟨[u],[]⟩ [(x,u)])
  (hsp:∀H:Hp,nZ ts H→SqL K H a (ns.map V.int)→sp [.ref a] H (fun v H'=>v=.bl true∧nZ ts H') fun _ _ _=>False)
  (hCX:∀H e s',CX [] H s₁ (fun _ _ _=>False) e s'→False) :
  codeAny (model P w) callerA (.call (.ref fa) ⟨[.ref a],[]⟩) (fun r s'=>r=.ok (.ret (.bool true))∧OldK s₁.heap s'.heap∧s'.os=s₁.os∧AllBare s'.gens) s₁:=by
 have rv:=vals_ints hi
 have lenV:=hi.length
 have core:∀H:Hp,nZ ts H→(∀b,(∀p∈ts,b≠p.1)→H b=none∨∃o xs,H b=some (.frz o (.lst xs)))→SqL K H a (ns.map V.int)→HOk P w H s₁.heap→(∀b,H b≠none→b=a∨∃p∈ts,b=p.1)→(H a≠none→K.lookup a=none) →
   codeAny (model P w) callerA (.call (.ref fa) ⟨[.ref a],[]⟩) (fun r s'=>r=.ok (.ret (.bool true))∧OldK s₁.heap s'.heap∧s'.os=s₁.os∧AllBare s'.gens) s₁:=by
  intro H hT hO hS hok hA hK
  have base_of:∀{b:Addr} {o:Obj},s₁.heap.get? b=some o→H b=none→(hidT s₁.heap H).get? b=some o:=fun e n=>hidT_get e n
  have noA:∀{b:Addr} {o:Obj} {es:Array DictEntry} {ep:Nat},s₁.heap.get? b=some o→o.data=.dict es ep→H b=none:=fun {b o es ep} e d=>by
   cases q:H b with
   |none=>rfl
   |some u=>
    rcases hA b (by rw [q];simp) with e'|⟨p,hp,e'⟩
    ·subst e'
     rw [ha] at e;cases e
     have d':Data.seq vs.toArray _=Data.dict es ep:=d
     cases d'
    ·subst e'
     rw [(hts p hp).1] at e;cases e
     have d':Data.fields _=Data.dict es ep:=d
     cases d'
  have nsK:∀{b:Addr} {m:Str→Option Value},s₁.heap.Ns b m→(hidT s₁.heap H).Ns b m:=fun {b m} ⟨o,es,ep,e,d,r⟩=>⟨o,es,ep,base_of e (noA e d),d,r⟩
  have hKb:K.In (hidT s₁.heap H):=fun b o e=>base_of (KX b o e) (by
   cases q:H b with
   |none=>rfl
   |some u=>
    rcases hA b (by rw [q];simp) with e'|⟨p,hp,e'⟩
    ·subst e'
     rw [hK (by rw [q];simp)] at e;cases e
    ·subst e'
     rw [(hts p hp).2.2] at e;cases e)
  have hbm':BM mg (hidT s₁.heap H):=by
   obtain ⟨bm,ob,b1,b2,b3,b4,b5,b6⟩:=hbm
   refine ⟨bm,ob,b1,b2,base_of b3 ?_,b4,b5,b6⟩
   cases q:H bm with
   |none=>rfl
   |some u=>
    rcases hA bm (by rw [q];simp) with e'|⟨p,hp,e'⟩
    ·rw [e',ha] at b3;cases b3;cases (show Data.seq vs.toArray _=Data.plain from b6)
    ·rw [e',(hts p hp).1] at b3;cases b3;cases (show Data.fields _=Data.plain from b6)
  have hM:Mod K mg (hidT s₁.heap H):=⟨hKb,nsK hns,⟨mb,nsK hb,hbb⟩,let ⟨mc,h1,h2⟩:=hlim;⟨mc,nsK h1,h2⟩⟩
  have e0:Env0 P w K mg (hidT s₁.heap H) callerA [] s₁ H:=⟨rfl,hM,fun b o e=>of_hidT e,Nat.le_of_eq (hidT_size _ _),trivial,fun b hb=>absurd (show b∈([]:List Addr) from hb) (by simp),hok,.of_eq hg⟩
  refine codeAny_mono ((F _ hKb (nsK hns) hbm').run callerA [] s₁ H ⟨[.ref a],[]⟩ [.ref a] [.ref a] _ _ hr e0 (hbind s₁ (.ref a)) (.cons rfl .nil) (hsp H hT hS)) fun r s' h=>?_
  cases r with
  |error e=>exact (hCX H e s' h).elim
  |ok fl=>
   cases fl with
   |next=>exact False.elim h
   |brk=>exact False.elim h
   |cont=>exact False.elim h
   |ret u=>
    obtain ⟨v,H',os,bare,un,hok',r',q⟩:=h
    obtain ⟨q',qT⟩:=(show v=.bl true∧nZ ts H' from q)
    subst q'
    obtain rfl:u=Value.bool true:=r'
    have kp:∀b o,s₁.heap.get? b=some o→(∀p∈ts,b≠p.1)→s'.heap.get? b=some o:=fun b o e hb=>by
     cases q:H b with
     |none=>exact un.keep b o e q (by intro z;exact absurd (show b∈([]:List Addr) from z) (by simp)) (by simp)
     |some u=>
      rcases hO b hb with z|⟨ob,xs,z⟩
      ·rw [q] at z;cases z
      ·have z2:=un.frzs b ob _ z
       obtain ⟨e1,_⟩:=hok b _ z
       obtain ⟨e2,_⟩:=hok' b _ z2
       rw [e] at e1;cases e1
       exact e2
    refine ⟨rfl,⟨fun b o e=>?_,fun b o e=>?_⟩,os,bare⟩
    ·by_cases hb:∃p∈ts,b=p.1
     ·obtain ⟨p,hp,rfl⟩:=hb
      obtain ⟨ps,e1,_⟩:=hok' p.1 _ (qT p hp)
      rw [(hts p hp).1] at e
      cases e
      exact .inr (.inl ⟨(hts p hp).2.1,rfl,#[],ps,rfl,by rw [e1];simp⟩)
     ·exact .inl (kp b o e fun p hp z=>hb ⟨p,hp,z⟩)
    ·by_cases hb:∃p∈ts,b=p.1
     ·obtain ⟨p,hp,rfl⟩:=hb
      obtain ⟨ps,e1,_⟩:=hok' p.1 _ (qT p hp)
      exact ⟨_,e1⟩
     ·exact ⟨o,kp b o e fun p hp z=>hb ⟨p,hp,z⟩⟩
 have aT:∀p∈ts,p.1≠a:=fun p hp z=>by have:=(hts p hp).1;rw [z,ha] at this;cases this
 have tlk:∀p∈ts,jA ts p.1=some p.2:=fun p hp=>aHy hnd hp
 have tno:∀b,(∀p∈ts,b≠p.1)→jA ts b=none:=fun b hb=>yD hb
 have tok:∀(H:Hp) (p:Addr × Str),p∈ts→ObjOk P w H s₁.heap p.1 (.tab p.2):=fun H p hp=>⟨#[],(hts p hp).1,trivial,fun pos cv z=>by cases z⟩
 cases hk:K.lookup a with
 |some o=>
  have e:=KX a o hk
  rw [ha] at e
  cases e
  refine core (fun b=>(jA ts b).map .tab) (fun p hp=>by show (jA ts p.1).map _=_;rw [tlk p hp];rfl) (fun b hb=>.inl (by show (jA ts b).map _=_;rw [tno b hb];rfl)) (.inr ⟨_,vs.toArray,_,hk,rfl,rfl,rfl,by rw [List.size_toArray,lenV];exact hl,by simpa using rv⟩) (fun b u z=>?_) (fun b z=>?_) fun z=>?_
  ·obtain ⟨qn,hq,rfl⟩:=Option.map_eq_some_iff.mp (show (jA ts b).map .tab=some u from z)
   obtain ⟨p,hp,e1,e2⟩:=mJ hq
   subst e1 e2
   exact tok _ p hp
  ·refine .inr ?_
   cases hq:jA ts b with
   |none=>exact absurd (show (jA ts b).map HO.tab=none by rw [hq];rfl) z
   |some qn=>obtain ⟨p,hp,e1,_⟩:=mJ hq;exact ⟨p,hp,e1.symm⟩
  ·exact absurd (show (jA ts a).map HO.tab=none by rw [tno a fun p hp z=>aT p hp z.symm];rfl) z
 |none=>
  refine core (fun b=>if b=a then some (.frz { cls:=.type "list",data:=.seq vs.toArray } (.lst (ns.map V.int))) else (jA ts b).map .tab) (fun p hp=>by show (if p.1=a then _ else (jA ts p.1).map HO.tab)=_;rw [if_neg (aT p hp),tlk p hp];rfl) (fun b hb=>?_) (.inl (.inr ⟨{ cls:=.type "list",data:=.seq vs.toArray },if_pos rfl⟩)) (fun b u z=>?_) (fun b z=>?_) fun _=>hk
  ·by_cases h:b=a
   ·exact .inr ⟨_,_,if_pos h⟩
   ·exact .inl (by show (if b=a then _ else (jA ts b).map HO.tab)=_;rw [if_neg h,tno b hb];rfl)
  ·by_cases hb:b=a
   ·have z':=(if_pos hb).symm.trans z
    cases z'
    subst hb
    exact ⟨ha,by rw [List.length_map];exact hl,vs,_,rv,ha⟩
   ·have z':(jA ts b).map HO.tab=some u:=(if_neg hb).symm.trans z
    obtain ⟨qn,hq,rfl⟩:=Option.map_eq_some_iff.mp z'
    obtain ⟨p,hp,e1,e2⟩:=mJ hq
    subst e1 e2
    exact tok _ p hp
  ·by_cases hb:b=a
   ·exact .inl hb
   ·refine .inr ?_
    cases hq:jA ts b with
    |none=>exact absurd (show (if b=a then _ else (jA ts b).map HO.tab)=none by rw [if_neg hb,hq];rfl) z
    |some qn=>obtain ⟨p,hp,e1,_⟩:=mJ hq;exact ⟨p,hp,e1.symm⟩
theorem aLh {l:PySem.W.OpenLaw} {n k:Nat} {q:Program} {loose:List Str} {XP:(Str→Option Value)→Heap→Prop} {YP:World→Heap→Prop} {d:DefRec} {K:Params→PySem.W.Frag} {CX:World→CXT} {sp:World→Sp} {x:Str}
  (hn:l.most=some n) (hn2:n≤sizeLine) (hdf:d.params.defaults=[]) (hr:Room k callerA)
  (ts:List (Addr × Str)) (hnd:(ts.map (·.1)).Nodup)
  (hY:∀(w:World) (h:Heap),YP w h→(K w.params).In h∧∀p∈ts,h.get? p.1=some { cls:=.none,data:=.fields #[] })
  (hC:∀(w:World),∀p∈ts,(∃c,PySem.W.codeHdIn (K w.params) c p.1=true)∧(K w.params).lookup p.1=none)
  (F:∀(w:World) (mg:Str→Option Value) (fa:Addr) (h:Heap),(K w.params).In h→h.Ns mainGlobals mg→mg d.name=some (.ref fa) →
   ∃fd:FuncData,(∀(s:Shared) (u:Value),BindsTo s fd ⟨[u],[]⟩ [(x,u)]) ∧
    ∀base:Heap,(K w.params).In base→base.Ns mainGlobals mg→BM mg base→FnOk l.prog w (K w.params) mg base (CX w) k fa fd [x] (sp w))
  (hsp:∀(w:World) (H:Hp) (a:Addr) (ns:List Int),ns.length≤n→nZ ts H→SqL (K w.params) H a (ns.map V.int)→sp w [.ref a] H (fun v H'=>v=.bl true∧nZ ts H') fun _ _ _=>False)
  (hCX:∀(w:World) (H:Hp) (s:Shared) (e:Value) (s':Shared),CX w [] H s (fun _ _ _=>False) e s'→False) :
  PySem.W.WalkO q loose XP YP l.row.toRowW d [] (fun f vs=>PySem.call f vs):=by
 refine Att.attach_call hn hdf fun w s₀ s₁ mg mb fa o pm cd doc a vs ns G Y ho hd hcd hmg hobj hints hlen hg=>?_
 obtain ⟨KX,hTab⟩:=hY w _ Y
 obtain ⟨fd,hb,hF⟩:=F w mg fa _ KX G.T.g hmg
 refine aI5 KX G.T.g G.T.b G.T.builtins G.T.nolimit hg hobj hints (Nat.le_trans hlen hn2) hr ts (fun p hp=>⟨hTab p hp,?_,(hC w p hp).2⟩) hnd G.T.bmain hF hb (fun H hO hS=>hsp w H a ns hlen hO hS) fun H e s'=>hCX w H s₁ e s'
 obtain ⟨c,hc⟩:=(hC w p hp).1
 exact Heap.TableAt.isCodeTable ((PySem.W.codeHd_of_K KX hc).tab (hTab p hp))
def kvlt:V→V→Bool
 |.int a,.int b=>decide (a<b)
 |.str a,.str b=>decide (a.cps.toList<b.cps.toList)
 |_,_=>false
def bD {α:Type} (b:Bool) (l:List α):List α:=if b then l.reverse else l
theorem dX {α:Type} (b:Bool) (l:List α):(bD b l).length=l.length:=by cases b <;> simp [bD]
theorem aIh {α β:Type} (b:Bool) (g:α→β) (l:List α):(bD b l).map g=bD b (l.map g):=by cases b <;> simp [bD]
def vM (b:Bool) (n:Nat) (rs:List (List V)):List Nat:=PySem.W.bQ rs.length fun i j=>kvlt (((bD b rs).getD i []).getD n .non) (((bD b rs).getD j []).getD n .non)
def aBc (b:Bool) (n:Nat) (rs:List (List V)):List (List V):=bD b ((vM b n rs).map fun i=>(bD b rs).getD i [])
theorem nC {α β:Type} {R:α→β→Prop} {as:List α} {bs:List β} (b:Bool) (h:Al2 R as bs):Al2 R (bD b as) (bD b bs):=by
 refine Al2.of (by rw [dX,dX];exact h.len) fun i x y h1 h2=>?_
 have hl:=h.len
 cases b with
 |false=>exact h.get h1 h2
 |true=>
  have h1:as.reverse[i]?=some x:=h1
  have h2:bs.reverse[i]?=some y:=h2
  have hi:i<as.length:=by have:=(List.getElem?_eq_some_iff.mp h1).1;rwa [List.length_reverse] at this
  rw [List.getElem?_reverse (by omega)] at h1
  rw [List.getElem?_reverse (by omega)] at h2
  rw [←hl] at h2
  exact h.get h1 h2
theorem aDo {us:List V} {its:List Value} (h:Vals us its):Al2 RelV us its:=by
 induction h with
 |nil=>exact .nil
 |cons r _ ih=>exact .cons r ih
theorem aL2 {us:List V} {its:List Value} (h:Al2 RelV us its):Vals us its:=by
 induction h with
 |nil=>exact .nil
 |cons r _ ih=>exact .cons r ih
theorem vK {α β:Type} {R:α→β→Prop} {as:List α} {bs:List β} (h:Al2 R as bs) (da:α) (db:β):∀L:List Nat,(∀i∈L,i<as.length)→Al2 R (L.map fun i=>as.getD i da) (L.map fun i=>bs.getD i db)
 |[],_=>.nil
 |i::L,hL=>by
  have hi:=hL i (List.mem_cons_self ..)
  have hj:i<bs.length:=by have:=h.len;omega
  refine .cons ?_ (vK h da db L fun j hj=>hL j (List.mem_cons_of_mem _ hj))
  show R (as.getD i da) (bs.getD i db)
  rw [List.getD_eq_getElem?_getD,List.getElem?_eq_getElem hi,List.getD_eq_getElem?_getD,List.getElem?_eq_getElem hj]
  exact h.get (List.getElem?_eq_getElem hi) (List.getElem?_eq_getElem hj)
theorem aIu (b:Bool) (n:Nat) (f:Nat→Nat→Bool) (vs:List Value):PySem.W.wF b n f vs=bD b ((PySem.W.bQ n f).map fun i=>(bD b vs).getD i Value.none):=by
 unfold PySem.W.wF bD
 cases b <;> rfl
section
variable {X:Cx} {pins:List (Addr × Obj)} {σ:List (Option V)} {H:Hp} {s:Shared}
theorem aH4 {n:Nat} {kb:Bool} {ks:List Bool} (hkn:ks[n]?=some kb) (I:Inv X pins σ H s):∀{us:List V} {rs:List (List V)} {its:List Value},Al2 (dD X.K H) us rs→Vals us its→(∀r∈rs,KdR ks r) →
  ∃kz,Vals (rs.map fun r=>r.getD n .non) kz∧(∀v∈rs.map (fun r=>r.getD n .non),KdV kb v)∧∀(i:Nat) (v k:Value),its[i]?=some v→kz[i]?=some k→∃(a:Addr) (xs:List Value),v=.ref a∧IsTup s.heap a xs.toArray∧xs[n]?=some k
 |_,_,_,.nil,.nil,_=>⟨[],.nil,fun v h=>(by cases h),fun i v k h=>(by cases h)⟩
 |_,_,_,.cons (b:=r) hr t,.cons q z,hk=>by
  obtain ⟨kz,h1,h2,h3⟩:=aH4 hkn I t z fun r m=>hk r (List.mem_cons_of_mem _ m)
  obtain ⟨a,rfl,ha⟩:=hr
  cases q
  obtain ⟨xs,rv,pl,_⟩:=I.tuple ha
  obtain ⟨x,ex,hx⟩:=Al2.at (hk r (List.mem_cons_self ..)) hkn
  obtain ⟨v,hv,rx⟩:=rv.get ex
  have e:r.getD n .non=x:=by rw [List.getD_eq_getElem?_getD,ex];rfl
  refine ⟨v::kz,.cons (by show RelV (r.getD n .non) v;rw [e];exact rx) h1,fun u hu=>?_,fun i u k e1 e2=>?_⟩
  ·rcases List.mem_cons.mp hu with rfl|hu
   ·show KdV kb (r.getD n .non);rw [e];exact hx
   ·exact h2 u hu
  ·cases i with
   |zero=>cases e1;cases e2;exact ⟨a,xs,rfl,pl,hv⟩
   |succ i=>exact h3 i u k e1 e2
theorem ints_of {vs:List V} {kz:List Value} (h:Vals vs kz) (hk:∀v∈vs,KdV true v):∀v∈kz,∃n t,v=Value.int n t:=by
 induction h with
 |nil=>intro v h;cases h
 |cons r _ ih=>
  intro v hv
  rcases List.mem_cons.mp hv with rfl|hv
  ·obtain ⟨i,rfl⟩:=hk _ (List.mem_cons_self ..)
   obtain ⟨t,rfl⟩:=r
   exact ⟨i,t,rfl⟩
  ·exact ih (fun x hx=>hk x (List.mem_cons_of_mem _ hx)) v hv
theorem aNe {vs:List V} {kz:List Value} (h:Vals vs kz) (hk:∀v∈vs,KdV false v):∀v∈kz,∃x t,v=Value.str x t:=by
 induction h with
 |nil=>intro v h;cases h
 |cons r _ ih=>
  intro v hv
  rcases List.mem_cons.mp hv with rfl|hv
  ·obtain ⟨i,rfl⟩:=hk _ (List.mem_cons_self ..)
   obtain ⟨t,rfl⟩:=r
   exact ⟨i,t,rfl⟩
  ·exact ih (fun x hx=>hk x (List.mem_cons_of_mem _ hx)) v hv
theorem aF0 {b:Bool} {l f c' cp:Addr} {us:List V} {rs:List (List V)} {n:Nat} {kb:Bool} {ks:List Bool} {nm qual x y:Str} {params:Arguments} {p1 p2 p3:Pos} {scope:Scope} {pm ctv:Value} {t:Tok} {kw:List (Str × Value)} {Q:VK} {k:Nat}
  (I:Inv X pins σ H s) (hl:SqL X.K H l us) (hr:Al2 (dD X.K H) us rs) (h64:us.length<64) (hk:∀r∈rs,KdR ks r) (hkn:ks[n]?=some kb) (hn:n<1000)
  (ho:s.heap.get? f=some (PySem.W.kla_obj nm qual params (.Subscript (.Name x p1) (.Name y p2) p3) scope [(y,cp)] pm c' ctv)) (hcd:s.heap.CodeRec (.ref c') qual) (hroom:Room k X.A)
  (hbind:∀v,bindArgs (PySem.W.kla_fn nm qual params (.Subscript (.Name x p1) (.Name y p2) p3) scope [(y,cp)] pm (.ref c') ctv) ⟨[v],[]⟩=pure [(x,v)])
  (hco:scope.isCoroutine=false) (hgen:scope.isGenerator=false) (hkf:scope.kind=.function) (hcell:∀z∈scope.names,z.2≠.cell) (hx:scope.names.lookup x=some .local) (hy:scope.names.lookup y=some .free)
  (hdx:(x == ("__debug__":Str))=false) (hdy:(y == ("__debug__":Str))=false) (hcy:(y == ("__classdict__":Str))=false)
  (hc:s.heap.IsCell cp (some (.int (n:Nat) t)))
  (ha1:argsOk "sorted" ⟨[.ref l],kw⟩) (ha2:∀x,argsOk "list.sort" ⟨[.ref x],kw⟩) (ht:∀x,Builtin.«list.sort» ⟨[.ref x],kw⟩=ksk_tree x (.ref f) b)
  (q:∀D H' us',H D=none→Same H H'→H' D=some (.lst us')→Al2 (dD X.K H) us' (aBc b n rs)→Q (.ref D) H') :
  wpAny (model X.prog X.w) X.A (call (.builtin "sorted") [.ref l] kw) (EP X pins σ Q) X.xe s:=by
 obtain ⟨its,rv,pl,hz⟩:=I.list hl
 have e1:=rv.length
 have e2:=hr.len
 obtain ⟨kz,v1,v2,v3⟩:=aH4 hkn I hr rv hk
 have e3:=v1.length
 rw [List.length_map] at e3
 have key:∀i,i<its.length→RelV (((bD b rs).getD i []).getD n .non) ((bD b kz).getD i Value.none)∧KdV kb (((bD b rs).getD i []).getD n .non):=fun i hi=>by
  have hA:=nC b (aDo v1)
  have hlr:i<(bD b rs).length:=by rw [dX];omega
  have hlk:i<(bD b kz).length:=by rw [dX];omega
  have em:(bD b (rs.map fun r=>r.getD n .non))[i]?=some (((bD b rs).getD i []).getD n .non):=by
   rw [←aIh,List.getElem?_map,List.getElem?_eq_getElem hlr,List.getD_eq_getElem?_getD (l:=bD b rs),List.getElem?_eq_getElem hlr];rfl
  refine ⟨?_,v2 _ ?_⟩
  ·rw [List.getD_eq_getElem?_getD (l:=bD b kz),List.getElem?_eq_getElem hlk]
   exact hA.get em (List.getElem?_eq_getElem hlk)
  ·have:=List.mem_of_getElem? em
   cases b with
   |false=>exact this
   |true=>exact List.mem_reverse.mp this
 refine PySem.W.aH9 (f:=fun i j=>kvlt (((bD b rs).getD i []).getD n .non) (((bD b rs).getD j []).getD n .non)) (ks:=kz) pl.isList (by omega) (by omega) (fun h2=>?_) ha1 ha2 ht (fun i v k hi hk' h tk kp=>?_) (fun s' i j C hi hj hC=>?_) fun D h' tk c hD kp g=>?_
 ·obtain ⟨a1,a2,ar,rfl⟩:∃a1 a2 ar,kz=a1::a2::ar:=by
   match kz,h2 with
   |a1::a2::ar,_=>exact ⟨a1,a2,ar,rfl⟩
   |[_],h=>exact absurd h (by simp)
   |[],h=>exact absurd h (by simp)
  cases kb with
  |true=>exact keyKind_ints (intsAre_map _ (ints_of v1 v2))
  |false=>exact keyKind_strs (strsAre_map _ (aNe v1 v2))
 ·obtain ⟨a,xs,rfl,ha,hxs⟩:=v3 i v k hi hk'
  refine PySem.W.aKy (s:={ s with heap:=h,toks:=tk }) (kp _ _ ho) (let ⟨c2,oc,vs,t,z1,z2,z3⟩:=hcd;⟨c2,oc,vs,t,z1,kp _ _ z2,z3⟩) (I.nolimit.keeps kp) (by have:=hroom.dp;show X.A.depth<_;omega) hbind hco hgen hkf hcell hx hy hdx hdy hcy (let ⟨o,z1,z2⟩:=hc;⟨o,kp _ _ z1,z2⟩) (let ⟨o,z1,z2⟩:=ha;⟨o,kp _ _ z1,z2⟩) hxs (by omega)
 ·have eif:(if b then kz.reverse else kz)=bD b kz:=rfl
  rw [eif]
  obtain ⟨r1,k1⟩:=key i hi
  obtain ⟨r2,k2⟩:=key j hj
  show wpAny _ _ (keyLt' _ ((bD b kz).getD i Value.none) ((bD b kz).getD j Value.none)) C _ _
  generalize (bD b kz).getD i Value.none=w1 at r1
  generalize (bD b kz).getD j Value.none=w2 at r2
  generalize ((bD b rs).getD i []).getD n .non=y1 at r1 k1 hC
  generalize ((bD b rs).getD j []).getD n .non=y2 at r2 k2 hC
  rw [keyLt'_oneType]
  cases kb with
  |true=>
   obtain ⟨i1,rfl⟩:=k1
   obtain ⟨i2,rfl⟩:=k2
   obtain ⟨t1,rfl⟩:=r1
   obtain ⟨t2,rfl⟩:=r2
   exact oneLt_int hC
  |false=>
   obtain ⟨i1,rfl⟩:=k1
   obtain ⟨i2,rfl⟩:=k2
   obtain ⟨t1,rfl⟩:=r1
   obtain ⟨t2,rfl⟩:=r2
   exact oneLt_str hC
 ·have hf:H D=none:=I.hok.fresh hD
  have el:its.length=rs.length:=by omega
  rw [aIu] at g
  have low:∀i∈vM b n rs,i<rs.length:=fun i hi=>PySem.W.jU hi
  have A1:Al2 RelV (bD b ((vM b n rs).map fun i=>(bD b us).getD i .non)) (bD b ((vM b n rs).map fun i=>(bD b its).getD i Value.none)):=nC b (vK (nC b (aDo rv)) _ _ _ fun i hi=>by rw [dX];have:=low i hi;omega)
  have A2:Al2 (dD X.K H) (bD b ((vM b n rs).map fun i=>(bD b us).getD i .non)) (aBc b n rs):=nC b (vK (nC b hr) _ _ _ fun i hi=>by rw [dX];have:=low i hi;omega)
  refine ⟨.ref D,_,I.laid (t':=tk) (o:=.lst (bD b ((vM b n rs).map fun i=>(bD b us).getD i .non))) (fun b o q=>kp b o q) hD ?_,rfl,q _ _ _ hf (aX hf _) upd_same A2⟩
  refine ⟨small (by rw [dX,List.length_map];unfold vM;rw [PySem.W.iH];omega),_,c,aL2 A1,?_⟩
  rw [g,el]
  rfl
end
theorem aCf {x y:Str} {env:Env} {cp:Addr} (h:env.cells.lookup y=some cp):closureFor { kind:=.function,names:=[(x,.local),(y,.free)],isGenerator:=false,isCoroutine:=false,more:=[] } env=pure [(y,cp)]:=by
 have e0:cellOf env y=pure cp:=by unfold cellOf;rw [h]
 simp [closureFor,e0]
section
variable {X:Cx}
def aE4 (X:Cx) (b:Bool) (iy:Nat) (P:Addr) (σ:St) (Q:VK):List V→Hp→Prop:=fun vs H1=>∃(l:Addr) (us:List V) (rs:List (List V)) (n:Nat) (ks:List Bool) (kb:Bool),vs=[.ref l]∧SqL X.K H1 l us∧Al2 (dD X.K H1) us rs∧us.length<64∧(∀r∈rs,KdR ks r)∧ks[n]?=some kb∧n<1000∧σ[iy]?=some (some (.int (n:Nat)))∧H1 P=some (.tab (X.env.qual++"<lambda>")) ∧
 ∀D H' us',H1 D=none→Same H1 H'→H' D=some (.lst us')→Al2 (dD X.K H') us' (aBc b n rs)→Q (.ref D) H'
def zY (X:Cx) (b:Bool) (iy:Nat) (P:Addr) (te:TE):TE:=fun σ H Q=>te σ H fun v H1=>aE4 X b iy P σ Q [v] H1
abbrev aHb (x y:Str) (pa p1 p2 p3 lpos kpos:Pos):Keyword:=⟨some "key",.Lambda ⟨[],[⟨x,none,pa⟩],none,[],[],none,[]⟩ (.Subscript (.Name x p1) (.Name y p2) p3) { kind:=.function,names:=[(x,.local),(y,.free)],isGenerator:=false,isCoroutine:=false,more:=[] } lpos,kpos⟩
theorem sZ {b:Bool} {x y:Str} {pa p1 p2 p3 lpos:Pos} {iy k:Nat} {c P cp:Addr} {pins:List (Addr × Obj)} {σ:List (Option V)} {s:Shared} {H1:Hp} {Q:VK} {l:Addr} {us:List V} {rs:List (List V)} {n:Nat} {ks:List Bool} {kb:Bool} {R:Value→Shared→Prop}
  (hcode:X.env.code=.ref c) (CH:PySem.W.CodeHd X.base c P) (hbm:BM X.mg X.base) (hr:Room k X.A) (hN:X.N[iy]?=some y) (hyc:X.env.kindOf y=some .cell) (hcp:X.env.cells.lookup y=some cp)
  (hbind:∀(cp:Addr) (pm cv ctv v:Value),bindArgs (PySem.W.kla_fn "<lambda>" (X.env.qual++"<lambda>") ⟨[],[⟨x,none,pa⟩],none,[],[],none,[]⟩ (.Subscript (.Name x p1) (.Name y p2) p3) { kind:=.function,names:=[(x,.local),(y,.free)],isGenerator:=false,isCoroutine:=false,more:=[] } [(y,cp)] pm cv ctv) ⟨[v],[]⟩=pure [(x,v)])
  (hxy:(y == x)=false) (hdx:(x == ("__debug__":Str))=false) (hdy:(y == ("__debug__":Str))=false) (hcy:(y == ("__classdict__":Str))=false)
  (I:Inv X pins σ H1 s) (hl:SqL X.K H1 l us) (ha:Al2 (dD X.K H1) us rs) (h64:us.length<64) (hk:∀r∈rs,KdR ks r) (hkn:ks[n]?=some kb) (hn:n<1000) (hσ:σ[iy]?=some (some (.int (n:Nat)))) (hP:H1 P=some (.tab (X.env.qual++"<lambda>")))
  (q:∀D H' us',H1 D=none→Same H1 H'→H' D=some (.lst us')→Al2 (dD X.K H') us' (aBc b n rs)→Q (.ref D) H')
  (hR:∀(f:Addr) (s2:Shared),(∀kw:List (Str × Value),argsOk "sorted" ⟨[.ref l],kw⟩→(∀x,argsOk "list.sort" ⟨[.ref x],kw⟩)→(∀x,Builtin.«list.sort» ⟨[.ref x],kw⟩=ksk_tree x (.ref f) b)→∀tk',wpAny (model X.prog X.w) X.A (call (.builtin "sorted") [.ref l] kw) (EP X pins σ Q) X.xe { s2 with toks:=s2.toks+tk' })→R (.ref f) s2) :
  wpAny (model X.prog X.w) X.A (eval (.Lambda ⟨[],[⟨x,none,pa⟩],none,[],[],none,[]⟩ (.Subscript (.Name x p1) (.Name y p2) p3) { kind:=.function,names:=[(x,.local),(y,.free)],isGenerator:=false,isCoroutine:=false,more:=[] } lpos) X.env) R X.xe s:=by
 refine aJ7 I hcode CH hP hbm (aCf hcp) rfl fun f c' pm ctv H' h' tk I2 sm ho hcd=>hR f _ fun kw a1 a2 a3 tk'=>?_
 obtain ⟨m,hns,hloc⟩:=I2.loc
 obtain ⟨u,ru,lk⟩:=hloc iy y (.int (n:Nat)) hN hσ (.inr (.inl hyc))
 obtain ⟨t,rfl⟩:=ru
 have hcell:h'.IsCell cp (some (.int (n:Nat) t)):=by
  rcases lk with ⟨z,_⟩|⟨_,c2,z1,z2⟩
  ·rw [hyc] at z;cases z
  ·rw [hcp] at z1;cases z1;exact z2
 have I3:=I2.tok (tk+tk')
 refine aF0 (s:={ s with heap:=h',toks:=tk+tk' }) I3 (sm.seq hl) (ha.imp fun _ _ z=>z.same sm) h64 hk hkn hn ho hcd hr (fun v=>hbind _ _ _ _ v) rfl rfl rfl (fun z hz=>?_) (by simp) (by simp [List.lookup,hxy]) hdx hdy hcy hcell a1 a2 a3 fun D H3 us' nD s3 g3 h3=>q D H3 us' (by cases e:H1 D with|none=>rfl|some o=>rw [sm _ _ e] at nD;cases nD) (sm.trans s3) g3 (h3.imp fun _ _ z=>z.same s3)
 have e:z=(x,NameKind.local)∨z=(y,NameKind.free):=by simpa using hz
 rcases e with rfl|rfl <;> (intro z;cases z)
end
section
variable {X:Cx}
abbrev aHa (q:Str) (x y:Str) (pa p1 p2 p3:Pos):Prop:=∀(cp:Addr) (pm cv ctv v:Value),bindArgs (PySem.W.kla_fn "<lambda>" q ⟨[],[⟨x,none,pa⟩],none,[],[],none,[]⟩ (.Subscript (.Name x p1) (.Name y p2) p3) { kind:=.function,names:=[(x,.local),(y,.free)],isGenerator:=false,isCoroutine:=false,more:=[] } [(y,cp)] pm cv ctv) ⟨[v],[]⟩=pure [(x,v)]
theorem aH7 {e:Expr} {te:TE} {x y:Str} {p pos pa p1 p2 p3 lpos kpos:Pos} {iy k:Nat} {c P cp:Addr} (he:PE X e te)
  (hcode:X.env.code=.ref c) (CH:PySem.W.CodeHd X.base c P) (hbm:BM X.mg X.base) (hr:Room k X.A) (hN:X.N[iy]?=some y) (hyc:X.env.kindOf y=some .cell) (hcp:X.env.cells.lookup y=some cp) (hbind:aHa (X.env.qual++"<lambda>") x y pa p1 p2 p3)
  (hxy:(y == x)=false) (hdx:(x == ("__debug__":Str))=false) (hdy:(y == ("__debug__":Str))=false) (hcy:(y == ("__classdict__":Str))=false)
  (hg:Gl X "sorted") (hm:X.mg "sorted"=none) (hp:cI e=true:=by rfl) :
  PE X (.Call (.Name "sorted" p) [e] [aHb x y pa p1 p2 p3 lpos kpos] pos) (zY X false iy P te):=by
 intro pins s σ H Q I h
 refine wpAny_Call_Name_kw (ld_blt I hg hm fP ?_ (by decide) (by decide))
 have hst:=aW (env:=X.env) (es:=[]) hp
 refine callWith_kw (thn ((aN7 he pa_nil hp) pos pins s σ H (aE4 X false iy P σ Q) I h) fun us s1 ⟨vs,H1,I1,r1,q1⟩=>?_) (by rw [hst];rfl) (by rw [hst];rfl)
 obtain ⟨l,us',rs,n,ks,kb,rfl,hl,ha,h64,hk,hkn,hn,hσ,hP,q⟩:=q1
 obtain ⟨u,rfl,ru⟩:=vals1 r1
 cases ru
 show wpAny _ _ (evalAll ((do let v ←eval (.Lambda _ _ _ _) X.env;standAt pos;pure v)::_)) _ _ s1
 refine wpAny_evalAll_cons (wpAny_bind (sZ (b:=false) hcode CH hbm hr hN hyc hcp hbind hxy hdx hdy hcy I1 hl ha h64 hk hkn hn hσ hP q fun f s2 hR=>?_))
 refine wpAny_bind (wpAny_standAt (wpAny_pure ?_))
 refine wpAny_evalAll_nil ?_
 have z:=hR [(Str.ofString "key",.ref f)] (ksk_s1 _ _) (fun x=>ksk_l1 _ _) (fun x=>ksk_t1 f x) 0
 exact z
theorem aIe {e:Expr} {te:TE} {x y:Str} {p pos pa p1 p2 p3 lpos kpos kpos2 cpos:Pos}{j:Nat} {iy k:Nat} {c P cp:Addr} (he:PE X e te)
  (hcode:X.env.code=.ref c) (CH:PySem.W.CodeHd X.base c P) (hbm:BM X.mg X.base) (hr:Room k X.A) (hN:X.N[iy]?=some y) (hyc:X.env.kindOf y=some .cell) (hcp:X.env.cells.lookup y=some cp) (hbind:aHa (X.env.qual++"<lambda>") x y pa p1 p2 p3)
  (hxy:(y == x)=false) (hdx:(x == ("__debug__":Str))=false) (hdy:(y == ("__debug__":Str))=false) (hcy:(y == ("__classdict__":Str))=false)
  (hg:Gl X "sorted") (hm:X.mg "sorted"=none) (hp:cI e=true:=by rfl) :
  PE X (.Call (.Name "sorted" p) [e] [aHb x y pa p1 p2 p3 lpos kpos,⟨some "reverse",.Constant (.bool true) j cpos,kpos2⟩] pos) (zY X true iy P te):=by
 intro pins s σ H Q I h
 refine wpAny_Call_Name_kw (ld_blt I hg hm fP ?_ (by decide) (by decide))
 have hst:=aW (env:=X.env) (es:=[]) hp
 refine callWith_kw (thn ((aN7 he pa_nil hp) pos pins s σ H (aE4 X true iy P σ Q) I h) fun us s1 ⟨vs,H1,I1,r1,q1⟩=>?_) (by rw [hst];rfl) (by rw [hst];rfl)
 obtain ⟨l,us',rs,n,ks,kb,rfl,hl,ha,h64,hk,hkn,hn,hσ,hP,q⟩:=q1
 obtain ⟨u,rfl,ru⟩:=vals1 r1
 cases ru
 show wpAny _ _ (evalAll ((do let v ←eval (.Lambda _ _ _ _) X.env;standAt pos;pure v)::_)) _ _ s1
 refine wpAny_evalAll_cons (wpAny_bind (sZ (b:=true) hcode CH hbm hr hN hyc hcp hbind hxy hdx hdy hcy I1 hl ha h64 hk hkn hn hσ hP q fun f s2 hR=>?_))
 refine wpAny_bind (wpAny_standAt (wpAny_pure ?_))
 refine wpAny_evalAll_cons (wpAny_bind (Constant_bool (wpAny_bind (wpAny_standAt (wpAny_pure ?_)))))
 refine wpAny_evalAll_nil ?_
 have z:=hR [(Str.ofString "key",.ref f),(Str.ofString "reverse",.bool true)] (ksk_s2 _ _ _) (fun x=>ksk_l2 _ _ _) (fun x=>ksk_t2 f x true) 0
 exact z
end
section
variable {P:Program} {w:World} {K:PySem.W.Frag} {mg:Str→Option Value} {base:Heap}
def aIi (K:PySem.W.Frag) (mg:Str→Option Value) (x:Str) (Pt:Addr):Prop:=∃f o fd c,mg x=some (.ref f)∧K.lookup f=some o∧o.data=.func fd∧fd.code=.ref c∧PySem.W.codeHdIn K c Pt=true
theorem Ok.aQg {x:Str} {st:Stmt} {N ps:List Str} {k:Nat} {sp:Sp} {Pt:Addr} (D:Dn K mg x st ps) (C:aIi K mg x Pt) (hK:K.In base) (S:FnScope N ps (defScope st)) (len:∀vs H Q E,sp vs H Q E→vs.length=ps.length)
  (hbody:∀(f c:Addr) (A:Around) (outer:List Env) (s:Shared) (H:Hp) (vs:List V) (Q:VK) (E:XK),PySem.W.CodeHd base c Pt→Room k (A.deeper (envOfC x (defScope st) s.heap.objs.size f (.ref c)))→sp vs H Q E →
   ∃t,VSs (cxOf CX0 P w K mg base N x (defScope st) f (.ref c) A outer s H E).nox (defBody st) t∧t { nx:=fun _ H'=>Q .non H',rt:=Q } (start N vs) H):Ok P w K mg base (k+1) x ps sp:=by
 obtain ⟨f,fd,F,B,m⟩:=D
 obtain ⟨f',o',fd',c,m',lk',hd',hc',hh⟩:=C
 rw [m] at m'
 cases m'
 refine ⟨f,fd,m,F.kp,B,?_⟩
 obtain ⟨oc,od,kV,doc,pm,an,cdv,ct,osl,rfl,lk,hcd⟩:=F.ex
 rw [lk] at lk'
 cases lk'
 cases hd'
 have e:cdv=.ref c:=hc'
 subst e
 refine fn_of lk hcd S len fun A outer s H vs Q E hr hsp=>?_
 obtain ⟨t,h,q⟩:=hbody f c A outer s H vs Q E (PySem.W.codeHd_of_K hK hh) hr hsp
 exact ⟨t,h.1.nox,q⟩
end
section
variable {X:Cx}
theorem aIx {e:Expr} {te:TE} {x y:Str} {p pos pa p1 p2 p3 lpos kpos:Pos} {iy k:Nat} {c P cp:Addr} (he:VE X e te)
  (hcode:X.env.code=.ref c) (CH:PySem.W.CodeHd X.base c P) (hbm:BM X.mg X.base) (hr:Room k X.A) (hN:X.N[iy]?=some y) (hyc:X.env.kindOf y=some .cell) (hcp:X.env.cells.lookup y=some cp) (hbind:aHa (X.env.qual++"<lambda>") x y pa p1 p2 p3)
  (hxy:(y == x)=false) (hdx:(x == ("__debug__":Str))=false) (hdy:(y == ("__debug__":Str))=false) (hcy:(y == ("__classdict__":Str))=false)
  (hg:Gl X "sorted") (hm:X.mg "sorted"=none) (hp:cI e=true:=by rfl) :
  VE X (.Call (.Name "sorted" p) [e] [aHb x y pa p1 p2 p3 lpos kpos] pos) (zY X false iy P te):=⟨aH7 he.1 hcode CH hbm hr hN hyc hcp hbind hxy hdx hdy hcy hg hm hp⟩
theorem aJr {e:Expr} {te:TE} {x y:Str} {p pos pa p1 p2 p3 lpos kpos kpos2 cpos:Pos} {j:Nat} {iy k:Nat} {c P cp:Addr} (he:VE X e te)
  (hcode:X.env.code=.ref c) (CH:PySem.W.CodeHd X.base c P) (hbm:BM X.mg X.base) (hr:Room k X.A) (hN:X.N[iy]?=some y) (hyc:X.env.kindOf y=some .cell) (hcp:X.env.cells.lookup y=some cp) (hbind:aHa (X.env.qual++"<lambda>") x y pa p1 p2 p3)
  (hxy:(y == x)=false) (hdx:(x == ("__debug__":Str))=false) (hdy:(y == ("__debug__":Str))=false) (hcy:(y == ("__classdict__":Str))=false)
  (hg:Gl X "sorted") (hm:X.mg "sorted"=none) (hp:cI e=true:=by rfl) :
  VE X (.Call (.Name "sorted" p) [e] [aHb x y pa p1 p2 p3 lpos kpos,⟨some "reverse",.Constant (.bool true) j cpos,kpos2⟩] pos) (zY X true iy P te):=⟨aIe he.1 hcode CH hbm hr hN hyc hcp hbind hxy hdx hdy hcy hg hm hp⟩
end
theorem mF {k:Bool} {a b:V} (ha:KdV k a) (hb:KdV k b) (h:kvlt a b=true):kvlt b a=false:=by
 cases k with
 |true=>
  obtain ⟨x,rfl⟩:=ha
  obtain ⟨y,rfl⟩:=hb
  have:=of_decide_eq_true (show decide (x<y)=true from h)
  exact decide_eq_false (by omega)
 |false=>
  obtain ⟨x,rfl⟩:=ha
  obtain ⟨y,rfl⟩:=hb
  have:=of_decide_eq_true (show decide (x.cps.toList<y.cps.toList)=true from h)
  exact decide_eq_false (List.lt_asymm this)
theorem aF7 {k:Bool} {a b c:V} (ha:KdV k a) (hb:KdV k b) (hc:KdV k c) (h1:kvlt b a=false) (h2:kvlt c b=false):kvlt c a=false:=by
 cases k with
 |true=>
  obtain ⟨x,rfl⟩:=ha
  obtain ⟨y,rfl⟩:=hb
  obtain ⟨z,rfl⟩:=hc
  have:=of_decide_eq_false (show decide (y<x)=false from h1)
  have:=of_decide_eq_false (show decide (z<y)=false from h2)
  exact decide_eq_false (by omega)
 |false=>
  obtain ⟨x,rfl⟩:=ha
  obtain ⟨y,rfl⟩:=hb
  obtain ⟨z,rfl⟩:=hc
  have e1:=of_decide_eq_false (show decide (y.cps.toList<x.cps.toList)=false from h1)
  have e2:=of_decide_eq_false (show decide (z.cps.toList<y.cps.toList)=false from h2)
  exact decide_eq_false (List.not_lt.mpr (List.le_trans (List.not_lt.mp e1) (List.not_lt.mp e2)))
theorem aBm {k:Bool} {a b:V} (ha:KdV k a) (hb:KdV k b) (h1:kvlt a b=false) (h2:kvlt b a=false):a=b:=by
 cases k with
 |true=>
  obtain ⟨x,rfl⟩:=ha
  obtain ⟨y,rfl⟩:=hb
  have:=of_decide_eq_false (show decide (x<y)=false from h1)
  have:=of_decide_eq_false (show decide (y<x)=false from h2)
  rw [show x=y by omega]
 |false=>
  obtain ⟨x,rfl⟩:=ha
  obtain ⟨y,rfl⟩:=hb
  have e1:=of_decide_eq_false (show decide (x.cps.toList<y.cps.toList)=false from h1)
  have e2:=of_decide_eq_false (show decide (y.cps.toList<x.cps.toList)=false from h2)
  have e:x.cps.toList=y.cps.toList:=List.le_antisymm (List.not_lt.mp e2) (List.not_lt.mp e1)
  obtain ⟨⟨xs⟩⟩:=x
  obtain ⟨⟨ys⟩⟩:=y
  have:xs=ys:=e
  rw [this]
theorem aOy {k:Bool} {a:V} (ha:KdV k a):kvlt a a=false:=by
 cases h:kvlt a a with
 |false=>rfl
 |true=>have:=mF ha ha h;rw [h] at this;cases this
theorem gK {k:Bool} {ks:List Bool} {a b:V} {r q:List V} (ha:KdV k a) (hb:KdV k b):rlt (a::r) (b::q)=if a=b then rlt r q else kvlt a b:=by
 cases k with
 |true=>
  obtain ⟨x,rfl⟩:=ha
  obtain ⟨y,rfl⟩:=hb
  show (if (x == y)=true then rlt r q else decide (x<y))=_
  by_cases e:x=y
  ·subst e;rw [if_pos (by simp),if_pos rfl]
  ·rw [if_neg (by simpa using e),if_neg (by intro z;exact e (V.int.inj z))];rfl
 |false=>
  obtain ⟨x,rfl⟩:=ha
  obtain ⟨y,rfl⟩:=hb
  show (if (x == y)=true then rlt r q else decide (x.cps.toList<y.cps.toList))=_
  by_cases e:x=y
  ·subst e;rw [if_pos (by simp),if_pos rfl]
  ·rw [if_neg (by simpa using e),if_neg (by intro z;exact e (V.str.inj z))];rfl
theorem aCs:∀{ks:List Bool} {a b:List V},KdR ks a→KdR ks b→rlt a b=true→rlt b a=false
 |_,_,_,.nil,.nil,h=>by cases (show false=true from h)
 |_,x::a,y::b,.cons (as:=ks) ha ta,.cons hb tb,h=>by
  rw [gK (ks:=ks) ha hb] at h
  rw [gK (ks:=ks) hb ha]
  by_cases e:x=y
  ·rw [if_pos e] at h
   rw [if_pos e.symm]
   exact aCs ta tb h
  ·rw [if_neg e] at h
   rw [if_neg (Ne.symm e)]
   exact mF ha hb h
theorem aLm:∀{ks:List Bool} {a b c:List V},KdR ks a→KdR ks b→KdR ks c→rlt b a=false→rlt c b=false→rlt c a=false
 |_,_,_,_,.nil,.nil,.nil,_,_=>rfl
 |_,x::a,y::b,z::c,.cons (as:=ks) ha ta,.cons hb tb,.cons hc tc,h1,h2=>by
  rw [gK (ks:=ks) hb ha] at h1
  rw [gK (ks:=ks) hc hb] at h2
  rw [gK (ks:=ks) hc ha]
  by_cases e1:y=x
  ·subst e1
   rw [if_pos rfl] at h1
   by_cases e2:z=y
   ·subst e2
    rw [if_pos rfl] at h2 ⊢
    exact aLm ta tb tc h1 h2
   ·rw [if_neg e2] at h2 ⊢
    exact h2
  ·rw [if_neg e1] at h1
   by_cases e2:z=y
   ·subst e2
    rw [if_neg e1]
    exact h1
   ·rw [if_neg e2] at h2
    by_cases e3:z=x
    ·subst e3
     exact absurd (aBm hc hb h2 h1) e2
    ·rw [if_neg e3]
     exact aF7 ha hb hc h1 h2
theorem aF5:∀{ks:List Bool} {a b:List V},KdR ks a→KdR ks b→rlt a b=false→rlt b a=false→a=b
 |_,_,_,.nil,.nil,_,_=>rfl
 |_,x::a,y::b,.cons (as:=ks) ha ta,.cons hb tb,h1,h2=>by
  rw [gK (ks:=ks) ha hb] at h1
  rw [gK (ks:=ks) hb ha] at h2
  by_cases e:x=y
  ·subst e
   rw [if_pos rfl] at h1 h2
   rw [aF5 ta tb h1 h2]
  ·rw [if_neg e] at h1
   rw [if_neg (Ne.symm e)] at h2
   exact absurd (aBm ha hb h1 h2) e
theorem getD_mem {α:Type} {l:List α} {d:α} (hd:d∈l) (i:Nat):l.getD i d∈l:=by
 by_cases h:i<l.length
 ·rw [List.getD_eq_getElem?_getD,List.getElem?_eq_getElem h];exact List.getElem_mem h
 ·rw [List.getD_eq_getElem?_getD,List.getElem?_eq_none (by omega)];exact hd
theorem range_getD {α:Type} (l:List α) (d:α):(List.range l.length).map (fun i=>l.getD i d)=l:=by
 refine List.ext_getElem? fun i=>?_
 by_cases h:i<l.length
 ·rw [List.getElem?_map,List.getElem?_range h,List.getElem?_eq_getElem h,Option.map_some,List.getD_eq_getElem?_getD,List.getElem?_eq_getElem h];rfl
 ·rw [List.getElem?_eq_none (by simpa using h),List.getElem?_eq_none (by omega)]
theorem aLi {α:Type} {lt:α→α→Bool} (l:List α) (d:α) {n:Nat} (hn:n=l.length) (asym:∀a∈l,∀b∈l,lt a b=true→lt b a=false) (tr:∀a∈l,∀b∈l,∀c∈l,lt b a=false→lt c b=false→lt c a=false) (R:α→α→Prop) (hR:l.Pairwise R) :
  ((PySem.W.bQ n fun i j=>lt (l.getD i d) (l.getD j d)).map fun i=>l.getD i d).Perm l∧((PySem.W.bQ n fun i j=>lt (l.getD i d) (l.getD j d)).map fun i=>l.getD i d).Pairwise fun a b=>lt b a=false∧(lt a b=true∨R a b):=by
 subst hn
 cases l with
 |nil=>
  have e:PySem.W.bQ ([]:List α).length (fun i j=>lt (([]:List α).getD i d) (([]:List α).getD j d))=[]:=by
   have:=PySem.W.iH ([]:List α).length (fun i j=>lt (([]:List α).getD i d) (([]:List α).getD j d))
   exact List.length_eq_zero_iff.mp this
  rw [e]
  exact ⟨.nil,.nil⟩
 |cons x0 l0=>
  generalize hl:x0::l0=l at asym tr hR
  have hx:x0∈l:=by rw [←hl];exact List.mem_cons_self
  have same:PySem.W.bQ l.length (fun i j=>lt (l.getD i d) (l.getD j d))=PySem.W.bQ l.length (fun i j=>lt (l.getD i x0) (l.getD j x0)):=PySem.W.aFl fun i j hi hj=>by
   rw [List.getD_eq_getElem?_getD,List.getD_eq_getElem?_getD,List.getD_eq_getElem?_getD,List.getD_eq_getElem?_getD,List.getElem?_eq_getElem hi,List.getElem?_eq_getElem hj]
   rfl
  have S:PySem.W.Swo fun i j=>lt (l.getD i x0) (l.getD j x0):=⟨fun {i j} h=>asym _ (getD_mem hx i) _ (getD_mem hx j) h,fun {i j k} h1 h2=>tr _ (getD_mem hx i) _ (getD_mem hx j) _ (getD_mem hx k) h1 h2⟩
  obtain ⟨p1,p2⟩:=PySem.W.aEc (n:=l.length) S
  rw [←same] at p1 p2
  have low:∀i∈PySem.W.bQ l.length (fun i j=>lt (l.getD i d) (l.getD j d)),i<l.length:=fun i hi=>PySem.W.jU hi
  refine ⟨?_,?_⟩
  ·have:=p1.map fun i=>l.getD i d
   rw [range_getD] at this
   exact this
  ·refine List.pairwise_map.mpr (List.Pairwise.imp_of_mem ?_ p2)
   rintro i j hi hj ⟨h1,h2⟩
   have li:=low i hi
   have lj:=low j hj
   have ei:l.getD i x0=l.getD i d:=by rw [List.getD_eq_getElem?_getD,List.getD_eq_getElem?_getD,List.getElem?_eq_getElem li];rfl
   have ej:l.getD j x0=l.getD j d:=by rw [List.getD_eq_getElem?_getD,List.getD_eq_getElem?_getD,List.getElem?_eq_getElem lj];rfl
   dsimp only at h1 h2
   rw [ei,ej] at h1 h2
   refine ⟨h1,?_⟩
   rcases h2 with h2|h2
   ·exact .inl h2
   ·right
    have:=List.pairwise_iff_getElem.mp hR i j li lj h2
    rw [List.getD_eq_getElem?_getD,List.getD_eq_getElem?_getD,List.getElem?_eq_getElem li,List.getElem?_eq_getElem lj]
    exact this
theorem aMh {α:Type} (l:List α):l.Pairwise fun _ _=>True:=List.pairwise_of_forall fun _ _=>trivial
theorem rZ {ks:List Bool} {rs:List (List V)} (h:∀r∈rs,KdR ks r):(srt rs).Perm rs∧(srt rs).Pairwise fun a b=>rlt b a=false:=by
 obtain ⟨h1,h2⟩:=aLi (lt:=rlt) rs [] rfl (fun a ha b hb=>aCs (h a ha) (h b hb)) (fun a ha b hb c hc=>aLm (h a ha) (h b hb) (h c hc)) (fun _ _=>True) (aMh _)
 exact ⟨h1,h2.imp fun z=>z.1⟩
theorem sH {α:Type} {lt:α→α→Bool}:∀{l m:List α},l.Perm m→(∀a∈l,∀b∈l,lt a b=false→lt b a=false→a=b)→l.Pairwise (fun a b=>lt b a=false)→m.Pairwise (fun a b=>lt b a=false)→l=m
 |[],m,p,_,_,_=>(List.perm_nil.mp p.symm).symm
 |a::l,[],p,_,_,_=>absurd (List.perm_nil.mp p) (by simp)
 |a::l,b::m,p,anti,hl,hm=>by
  rw [List.pairwise_cons] at hl hm
  have ma:a∈b::m:=p.subset List.mem_cons_self
  have mb:b∈a::l:=p.symm.subset List.mem_cons_self
  have e:a=b:=by
   rcases List.mem_cons.mp ma with z|z
   ·exact z
   ·rcases List.mem_cons.mp mb with y|y
    ·exact y.symm
    ·exact anti a List.mem_cons_self b mb (hm.1 a z) (hl.1 b y)
  subst e
  rw [sH (List.Perm.cons_inv p) (fun x hx y hy=>anti x (List.mem_cons_of_mem _ hx) y (List.mem_cons_of_mem _ hy)) hl.2 hm.2]
theorem aKf {ks:List Bool} {rs qs:List (List V)} (h:∀r∈rs,KdR ks r) (p:rs.Perm qs):srt rs=srt qs:=by
 have hq:∀r∈qs,KdR ks r:=fun r hr=>h r (p.symm.subset hr)
 obtain ⟨a1,a2⟩:=rZ h
 obtain ⟨b1,b2⟩:=rZ hq
 have hm:∀r∈srt rs,KdR ks r:=fun r hr=>h r (a1.subset hr)
 exact sH (lt:=rlt) (a1.trans (p.trans b1.symm)) (fun a ha b hb=>aF5 (hm a ha) (hm b hb)) a2 b2
theorem aGm {ks:List Bool} {kb:Bool} {n:Nat} (b:Bool) {rs:List (List V)} (h:∀r∈rs,KdR ks r) (hn:ks[n]?=some kb) (R:List V→List V→Prop) (hR:rs.Pairwise R) :
  (aBc b n rs).Perm rs∧(aBc b n rs).Pairwise fun x y=>(if b then kvlt (x.getD n .non) (y.getD n .non)=false else kvlt (y.getD n .non) (x.getD n .non)=false)∧((if b then kvlt (y.getD n .non) (x.getD n .non)=true else kvlt (x.getD n .non) (y.getD n .non)=true)∨R x y):=by
 have kd:∀r∈rs,KdV kb (r.getD n .non):=fun r hr=>by
  obtain ⟨x,ex,hx⟩:=Al2.at (h r hr) hn
  rw [List.getD_eq_getElem?_getD,ex];exact hx
 have kdt:∀r∈bD b rs,KdV kb (r.getD n .non):=fun r hr=>kd r (by cases b with|false=>exact hr|true=>exact List.mem_reverse.mp hr)
 have hlen:rs.length=(bD b rs).length:=(dX b rs).symm
 cases b with
 |false=>
  obtain ⟨h1,h2⟩:=aLi (lt:=fun x y=>kvlt (x.getD n .non) (y.getD n .non)) (bD false rs) [] hlen (fun a ha b hb=>mF (kdt a ha) (kdt b hb)) (fun a ha b hb c hc=>aF7 (kdt a ha) (kdt b hb) (kdt c hc)) R hR
  exact ⟨h1,h2⟩
 |true=>
  have hR':(bD true rs).Pairwise fun x y=>R y x:=List.pairwise_reverse.mpr hR
  obtain ⟨h1,h2⟩:=aLi (lt:=fun x y=>kvlt (x.getD n .non) (y.getD n .non)) (bD true rs) [] hlen (fun a ha b hb=>mF (kdt a ha) (kdt b hb)) (fun a ha b hb c hc=>aF7 (kdt a ha) (kdt b hb) (kdt c hc)) (fun x y=>R y x) hR'
  refine ⟨(List.reverse_perm _).trans (h1.trans (List.reverse_perm _)),?_⟩
  refine List.pairwise_reverse.mpr (h2.imp fun z=>?_)
  exact z
end L2
namespace PySem.SeqAt
open PySem PySem.Spec
def aO9 (A:Around) (s:Shared) (y x:Value) (b:Bool):Prop:=
 ∀(prog:Program) (w:World) (E:Value→Shared→Prop) (Q:Value→Shared→Prop),Q (.bool b) s→wpAny (model prog w) A (richCompare .LtE y x) Q E s
def leW (e c:Nat→Bool) (l:List Nat) (z:Bool):Bool:=l.foldr (fun j acc=>if e j then acc else c j) z
theorem aGy (l b:Addr) (items items2:Array Value) (n n2:Nat) (dd dd2:Option Addr) (sl sl2:Array (Option Value)) (e c:Nat→Bool) (hsz:items.size=items2.size) :
  Meets (Builtin.«tuple.__le__» ⟨[.ref l,.ref b],[]⟩)
   (fun A R s=>s.heap.get? l=some { cls:=.type "tuple",dict:=dd,data:=.seq items n,slots:=sl }∧s.heap.get? b=some { cls:=.type "tuple",dict:=dd2,data:=.seq items2 n2,slots:=sl2 } ∧
    (∀j (h1:j<items.size) (h2:j<items2.size),EqAt A.in1 s items[j] items2[j] (e j))∧(∀j (h1:j<items.size) (h2:j<items2.size),aO9 A.in1 s items[j] items2[j] (c j)) ∧
    R (.ok (.ret (.bool (leW e c (List.range items.size) true)))) s):=
 .of_wp fun prog w A R s h=>by
  obtain ⟨hp,g,d,tk,os⟩:=s;obtain ⟨hl,hb,he,hc,h⟩:=h
  have f2:=AutoSeq1.sub_tuple_tuple
  have hZ:(items.toList.zip items2.toList).length=items.size:=by simp [hsz]
  wp_walk using wpAny_loadPart' hl,wpAny_loadPart' hb,wpAny_forIn_list _ (fun rest b s'=>b.1=none∧s'=⟨hp,g,d,tk,os⟩∧∃i,rest=(items.toList.zip items2.toList).drop i ∧
   R (.ok (.ret (.bool (leW e c ((List.range items.size).drop i) true)))) ⟨hp,g,d,tk,os⟩) _
  case turn=>
   rintro ⟨y,x⟩ rest b s' ⟨hb',rfl,i,hz,hR⟩
   have hlt:i<(items.toList.zip items2.toList).length:=by
    rcases Nat.lt_or_ge i (items.toList.zip items2.toList).length with h'|h'
    ·exact h'
    ·rw [List.drop_of_length_le h'] at hz;cases hz
   have h1:i<items.size:=hZ ▸ hlt
   have h2:i<items2.size:=hsz ▸ h1
   rw [List.drop_eq_getElem_cons hlt] at hz
   injection hz with hyx hrest
   have hy:y=items[i]:=by have:=congrArg Prod.fst hyx;simpa using this
   have hx:x=items2[i]:=by have:=congrArg Prod.snd hyx;simpa using this
   subst hy hx
   have hd:(List.range items.size).drop i=i::(List.range items.size).drop (i+1):=by simp [List.drop_eq_getElem_cons,h1]
   rw [hd] at hR
   have hR':R (.ok (.ret (.bool (if e i then leW e c ((List.range items.size).drop (i+1)) true else c i)))) ⟨hp,g,d,tk,os⟩:=hR
   refine wpAny_bind (he i h1 h2 prog w _ _ ?_)
   cases hy:e i with
   |true=>
    rw [hy] at hR'
    wp_walk
    exact ⟨rfl,rfl,i+1,hrest,by simpa using hR'⟩
   |false=>
    rw [hy] at hR'
    have hq:∀{E:Value→Shared→Prop} {Q:Value→Shared→Prop},Q (.bool (c i)) ⟨hp,g,d,tk,os⟩→wpAny (model prog w) A.in1 (richCompare .LtE items[i] items2[i]) Q E ⟨hp,g,d,tk,os⟩:=fun {E Q} h=>hc i h1 h2 prog w E Q h
    wp_walk using hq
    exact ⟨_,rfl,by simpa using hR'⟩
  case fin=>
   rintro ⟨b1,b2⟩ s' ⟨hb',rfl,i,hz,hR⟩
   simp only at hb'
   subst hb'
   have hge:items.size≤i:=by
    rcases Nat.lt_or_ge i (items.toList.zip items2.toList).length with h'|h'
    ·rw [List.drop_eq_getElem_cons h'] at hz;cases hz
    ·exact hZ ▸ h'
   rw [List.drop_of_length_le (by simpa using hge)] at hR
   wp_walk
   exact ⟨_,rfl,by simpa [Builtin.Tuple.tupleCompareSizes,hsz,leW] using hR⟩
  case h=>
   exact ⟨rfl,rfl,0,rfl,by simpa using h⟩
end PySem.SeqAt
namespace L2
open PySem PySem.Spec PyProof.Rows
theorem aH1:∀{ks:List Bool} {a b:List V},KdR ks a→KdR ks b→SeqAt.leW (fun j=>decide (a.getD j .non=b.getD j .non)) (fun j=>!kvlt (b.getD j .non) (a.getD j .non)) (List.range a.length) true=!rlt b a
 |_,_,_,.nil,.nil=>rfl
 |_,x::a,y::b,.cons (as:=ks) ha ta,.cons hb tb=>by
  have ih:=aH1 ta tb
  rw [gK (ks:=ks) hb ha,List.length_cons,List.range_succ_eq_map]
  show (if decide (x=y)=true then SeqAt.leW (fun j=>decide ((x::a).getD j .non=(y::b).getD j .non)) (fun j=>!kvlt ((y::b).getD j .non) ((x::a).getD j .non)) ((List.range a.length).map Nat.succ) true else !kvlt y x)=_
  by_cases e:x=y
  ·rw [if_pos (decide_eq_true e),if_pos e.symm,←ih]
   unfold SeqAt.leW
   rw [List.foldr_map]
   rfl
  ·rw [if_neg (by rw [decide_eq_false e];exact Bool.false_ne_true),if_neg (Ne.symm e)]
section
variable {X:Cx}
def aQa (K:PySem.W.Frag):R2:=fun x y H Q=>∃(ks:List Bool) (r q:List V),dD K H x r∧dD K H y q∧KdR ks r∧KdR ks q∧Q (.bl (!rlt q r)) H
theorem aOg (hu:X.A.units+64<cLine):OpR X (compareOp .LtE) (aQa X.K):=by
 intro pins s σ H x y v u Q I rx ry h
 obtain ⟨ks,r,q,⟨a,rfl,ha⟩,⟨b,rfl,hb⟩,hr,hq,fin⟩:=h
 cases rx
 cases ry
 obtain ⟨its,r1,⟨⟨cls,dd,data,sl⟩,ho,hc,n,hd⟩,hz⟩:=I.tuple ha
 obtain ⟨jts,r2,⟨⟨cls2,dd2,data2,sl2⟩,ho2,hc2,n2,hd2⟩,hw⟩:=I.tuple hb
 simp only at hc hd hc2 hd2
 subst hc hd hc2 hd2
 have l1:=r1.length
 have l2:=r2.length
 have k1:=Al2.len hr
 have k2:=Al2.len hq
 have item:∀j (h1:j<its.toArray.size) (h2:j<jts.toArray.size),∃k,KdV k (r.getD j .non)∧KdV k (q.getD j .non)∧RelV (r.getD j .non) its.toArray[j]∧RelV (q.getD j .non) jts.toArray[j]:=fun j h1 h2=>by
  rw [List.size_toArray] at h1 h2
  have hj:j<ks.length:=by omega
  have hjr:j<r.length:=by omega
  have hjq:j<q.length:=by omega
  have er:r.getD j .non=r[j]:=by simp [hjr]
  have eq:q.getD j .non=q[j]:=by simp [hjq]
  obtain ⟨w1,g1,g2⟩:=r1.get (List.getElem?_eq_getElem hjr)
  obtain ⟨w2,g3,g4⟩:=r2.get (List.getElem?_eq_getElem hjq)
  rw [er,eq]
  refine ⟨ks[j],hr.get (List.getElem?_eq_getElem hj) (List.getElem?_eq_getElem hjr),hq.get (List.getElem?_eq_getElem hj) (List.getElem?_eq_getElem hjq),?_,?_⟩
  ·rw [List.getElem_toArray,(List.getElem?_eq_some_iff.mp g1).2];exact g2
  ·rw [List.getElem_toArray,(List.getElem?_eq_some_iff.mp g3).2];exact g4
 refine richCompare_meets_room (op:=.LtE) ⟨_,ho,rfl⟩ ⟨_,ho2,rfl⟩ F.slot_tuple_le F.entry_tuple_le (F.args_tuple_le_2 _ _) (SeqAt.aGy a b its.toArray jts.toArray n n2 dd dd2 sl sl2 (fun j=>decide (r.getD j .non=q.getD j .non)) (fun j=>!kvlt (q.getD j .non) (r.getD j .non)) (by rw [List.size_toArray,List.size_toArray];omega))
  ⟨ho,ho2,fun j h1 h2=>?_,fun j h1 h2=>?_,?_⟩ (by omega)
 ·obtain ⟨k,k1,k2,e1,e2⟩:=item j h1 h2
  generalize r.getD j .non=y1 at k1 e1
  generalize q.getD j .non=y2 at k2 e2
  generalize its.toArray[j]=w1 at e1
  generalize jts.toArray[j]=w2 at e2
  cases k with
  |true=>
   obtain ⟨i1,rfl⟩:=k1
   obtain ⟨i2,rfl⟩:=k2
   obtain ⟨t1,rfl⟩:=e1
   obtain ⟨t2,rfl⟩:=e2
   have z:=SeqAt.EqAt.int_int (A:=X.A.in1) (s:=s) i1 t1 i2 t2
   have e:(i1 == i2)=decide (V.int i1=V.int i2):=by by_cases e:i1=i2 <;> simp [e]
   rw [←e];exact z
  |false=>
   obtain ⟨i1,rfl⟩:=k1
   obtain ⟨i2,rfl⟩:=k2
   obtain ⟨t1,rfl⟩:=e1
   obtain ⟨t2,rfl⟩:=e2
   have z:=SeqAt.EqAt.str_str (A:=X.A.in1) (s:=s) i1 t1 i2 t2
   have e:(i1 == i2)=decide (V.str i1=V.str i2):=by by_cases e:i1=i2 <;> simp [e]
   rw [←e];exact z
 ·obtain ⟨k,k1,k2,e1,e2⟩:=item j h1 h2
  generalize r.getD j .non=y1 at k1 e1
  generalize q.getD j .non=y2 at k2 e2
  generalize its.toArray[j]=w1 at e1
  generalize jts.toArray[j]=w2 at e2
  cases k with
  |true=>
   obtain ⟨i1,rfl⟩:=k1
   obtain ⟨i2,rfl⟩:=k2
   obtain ⟨t1,rfl⟩:=e1
   obtain ⟨t2,rfl⟩:=e2
   intro prog w E Q hQ
   refine le_int ?_
   have e:decide (i1≤i2)=!kvlt (.int i2) (.int i1):=by show decide (i1≤i2)=!decide (i2<i1);by_cases z:i1≤i2 <;> simp [z] <;> omega
   rw [e];exact hQ
  |false=>
   obtain ⟨i1,rfl⟩:=k1
   obtain ⟨i2,rfl⟩:=k2
   obtain ⟨t1,rfl⟩:=e1
   obtain ⟨t2,rfl⟩:=e2
   intro prog w E Q hQ
   exact P.le_str hQ
 ·have e:=aH1 hr hq
  have sz:its.toArray.size=r.length:=by rw [List.size_toArray];omega
  rw [sz,e]
  exact ⟨(fun z=>nomatch z),⟨.bl _,H,I,rfl,fin⟩⟩
theorem aHo {K:PySem.W.Frag} {H:Hp}:∀{r:List V},(∀x∈r,(∃i,x=.int i)∨∃z,x=.str z)→∀n,Al2 (DEq K H n) r r
 |[],_,_=>.nil
 |x::r,h,n=>.cons (by rcases h x List.mem_cons_self with ⟨i,rfl⟩|⟨z,rfl⟩ <;> cases n <;> first|exact ⟨rfl,rfl⟩|exact .inl ⟨rfl,rfl⟩) (aHo (fun y hy=>h y (List.mem_cons_of_mem _ hy)) n)
theorem aL4 {K:PySem.W.Frag} {H:Hp} {us ws:List V} {rs:List (List V)} (h1:Al2 (dD K H) us rs) (h2:Al2 (dD K H) ws rs) (hf:∀r∈rs,∀x∈r,(∃i,x=.int i)∨∃z,x=.str z):Al2 (DEq K H 40) us ws:=by
 refine Al2.of (h1.len.trans h2.len.symm) fun i u w e1 e2=>?_
 obtain ⟨r,er,a,rfl,ha⟩:=h1.at e1
 obtain ⟨r',er',b,rfl,hb⟩:=h2.at e2
 rw [er] at er'
 cases er'
 exact .inr ⟨a,b,r,r,rfl,rfl,ha,hb,aHo (hf r (List.mem_of_getElem? er)) 39⟩
def aMp (K:PySem.W.Frag):R2:=fun x y H Q=>∃(a b:Addr) (us ws:List V) (rs:List (List V)),x=.ref a∧y=.ref b∧SqL K H a us∧SqL K H b ws∧Al2 (dD K H) us rs∧Al2 (dD K H) ws rs∧(∀r∈rs,∀x∈r,(∃i,x=.int i)∨∃z,x=.str z)∧Q (.bl false) H
theorem yI (hu:X.A.units+64<cLine):OpR X (compareOp .NotEq) (aMp X.K):=by
 intro pins s σ H x y v u Q I rx ry h
 obtain ⟨a,b,us,ws,rs,rfl,rfl,ha,hb,h1,h2,hf,q⟩:=h
 cases rx
 cases ry
 obtain ⟨its,r1,pl,hz⟩:=I.list ha
 obtain ⟨jts,r2,pm,hw⟩:=I.list hb
 have d:=aL4 h1 h2 hf
 have l:=d.len
 have l1:=r1.length
 have l2:=r2.length
 refine SeqAt.RcNeAt.lists (e:=fun _=>true) pl.isList pm.isList (by rw [List.size_toArray,List.size_toArray];omega) (by omega) (pB I r1 r2 d fun d q1 q2=>qW I 40 d q1 q2 (by show X.A.units+1+40<cLine;omega)) _ _ _ _ ?_
 first
  |(rw [jT];exact ⟨.bl _,H,I,rfl,q⟩)
  |(simp only [jT];exact ⟨.bl _,H,I,rfl,q⟩)
end
theorem yU {X:Cx}:MtR X "list.clear" rClear:=mt_clear
end L2
namespace My
open PySem PySem.Spec PyProof.Rows L2
section
variable {P:Program} {w:World} {K:PySem.W.Frag} {mg:Str→Option Value} {base:Heap}
theorem aKq {c:Bool} {A B:Prop} (h:c=false) (b:B):if c=true then A else B:=by subst h;exact b
theorem tY {ks:List Bool} {r:List V} (h:KdR ks r):∀x∈r,(∃i,x=.int i)∨∃z,x=.str z:=by
 unfold KdR at h
 induction h with
 |nil=>intro x hx;cases hx
 |@cons b y _ _ hy _ ih=>
  intro x hx
  rcases List.mem_cons.mp hx with rfl|hx
  ·cases b with
   |true=>exact .inl hy
   |false=>exact .inr hy
  ·exact ih x hx
abbrev qS:Str:=(("sorted_by":Str)++".<locals>.")++"<lambda>"
def dn (w:Str):Bool:=decide (w = "down")
def ordd (hd:Hdr):List (Str × Str)→List (List V)→List (List V)
 |[],rs=>srt rs
 |k::ks,rs=>aBc (dn k.2) (plc hd k.1) (ordd hd ks rs)
def cB (hd:Hdr) (kys:List (Str × Str)):Prop:=(∃ks,Looks hd (kys.map (·.1)) ks)∧∀k∈kys,k.2 = "up"∨k.2 = "down"
theorem cB.tl {hd:Hdr} {k:Str × Str} {kys:List (Str × Str)} (h:cB hd (k::kys)):cB hd kys:=by
 obtain ⟨⟨ks,h1⟩,h2⟩:=h
 cases h1 with
 |cons _ t=>exact ⟨⟨_,t⟩,fun x hx=>h2 x (List.mem_cons_of_mem _ hx)⟩
theorem cB.hd1 {hd:Hdr} {k:Str × Str} {kys:List (Str × Str)} (h:cB hd (k::kys)):∃s,look hd k.1=some s:=by
 obtain ⟨⟨ks,h1⟩,_⟩:=h
 cases h1 with
 |cons r _=>exact ⟨_,r⟩
theorem aB3 {hd:Hdr} {n k:Str} (h:look hd n=some k):(knds hd)[plc hd n]?=some (aD1 k):=by
 unfold knds
 rw [List.getElem?_map,(qX h).1]
 rfl
def cL (hd:Hdr):List (Str × Str)→List V→List V→Bool
 |[],a,b=>!rlt b a
 |k::ks,a,b=>if a.getD (plc hd k.1) .non=b.getD (plc hd k.1) .non then cL hd ks a b else kvlt (a.getD (plc hd k.1) .non) (b.getD (plc hd k.1) .non) == decide (k.2 = "up")
theorem rW {hd:Hdr} {n k:Str} {r:List V} (h:look hd n=some k) (hr:KdR (knds hd) r):KdV (aD1 k) (r.getD (plc hd n) .non):=by
 obtain ⟨x,ex,hx⟩:=Al2.at hr (aB3 h)
 rw [List.getD_eq_getElem?_getD,ex]
 exact hx
theorem nO {hd:Hdr}:∀{kys:List (Str × Str)} {rs:List (List V)},cB hd kys→(∀r∈rs,KdR (knds hd) r)→(ordd hd kys rs).Perm rs∧(ordd hd kys rs).Pairwise fun a b=>cL hd kys a b=true
 |[],rs,_,hr=>by
  obtain ⟨h1,h2⟩:=rZ hr
  exact ⟨h1,h2.imp fun z=>by show (!rlt _ _)=true;rw [z];rfl⟩
 |k::kys,rs,hk,hr=>by
  obtain ⟨p1,p2⟩:=nO hk.tl hr
  have hr':∀r∈ordd hd kys rs,KdR (knds hd) r:=fun r h=>hr r (p1.subset h)
  obtain ⟨s,hs⟩:=hk.hd1
  obtain ⟨q1,q2⟩:=aGm (dn k.2) hr' (aB3 hs) _ p2
  refine ⟨q1.trans p1,q2.imp_of_mem ?_⟩
  intro a b ma mb ⟨z1,z2⟩
  have ka:=rW hs (hr' a (q1.subset ma))
  have kb:=rW hs (hr' b (q1.subset mb))
  show (if a.getD (plc hd k.1) .non=b.getD (plc hd k.1) .non then cL hd kys a b else kvlt (a.getD (plc hd k.1) .non) (b.getD (plc hd k.1) .non) == decide (k.2 = "up"))=true
  by_cases e:a.getD (plc hd k.1) .non=b.getD (plc hd k.1) .non
  ·rw [if_pos e]
   rcases z2 with z2|z2
   ·exfalso
    have ir:=aOy ka
    cases hd':dn k.2 with
    |true=>rw [hd',if_pos rfl,←e,ir] at z2;cases z2
    |false=>rw [hd',if_neg Bool.false_ne_true,←e,ir] at z2;cases z2
   ·exact z2
  ·rw [if_neg e]
   rcases hk.2 k List.mem_cons_self with w|w
   ·have hd':dn k.2=false:=by unfold dn;rw [w];decide +kernel
    rw [hd',if_neg Bool.false_ne_true] at z1
    have:kvlt (a.getD (plc hd k.1) .non) (b.getD (plc hd k.1) .non)=true:=by
     cases hv:kvlt (a.getD (plc hd k.1) .non) (b.getD (plc hd k.1) .non) with
     |true=>rfl
     |false=>exact absurd (aBm ka kb hv z1) e
    rw [this,w];rfl
   ·have hd':dn k.2=true:=by unfold dn;rw [w];decide +kernel
    rw [hd',if_pos rfl] at z1
    rw [z1,w];rfl
theorem aEg {hd:Hdr}:∀{kys:List (Str × Str)} {a b:List V},cB hd kys→KdR (knds hd) a→KdR (knds hd) b→cL hd kys a b=true→cL hd kys b a=true→a=b
 |[],a,b,_,ha,hb,h1,h2=>aF5 ha hb (by simpa [cL] using h2) (by simpa [cL] using h1)
 |k::kys,a,b,hk,ha,hb,h1,h2=>by
  obtain ⟨s,hs⟩:=hk.hd1
  have ka:=rW hs ha
  have kb:=rW hs hb
  unfold cL at h1 h2
  by_cases e:a.getD (plc hd k.1) .non=b.getD (plc hd k.1) .non
  ·rw [if_pos e] at h1
   rw [if_pos e.symm] at h2
   exact aEg hk.tl ha hb h1 h2
  ·rw [if_neg e] at h1
   rw [if_neg (Ne.symm e)] at h2
   have e1:kvlt (a.getD (plc hd k.1) .non) (b.getD (plc hd k.1) .non)=kvlt (b.getD (plc hd k.1) .non) (a.getD (plc hd k.1) .non):=(eq_of_beq h1).trans (eq_of_beq h2).symm
   cases hv:kvlt (a.getD (plc hd k.1) .non) (b.getD (plc hd k.1) .non) with
   |true=>have:=mF ka kb hv;rw [←e1,hv] at this;cases this
   |false=>exact absurd (aBm ka kb hv (by rw [←e1];exact hv)) e
theorem aEx {hd:Hdr} {kys:List (Str × Str)} {l m:List (List V)} (hk:cB hd kys) (hl:∀r∈l,KdR (knds hd) r) (p:l.Perm m) (h1:l.Pairwise fun a b=>cL hd kys a b=true) (h2:m.Pairwise fun a b=>cL hd kys a b=true):l=m:=
 sH (lt:=fun a b=>!cL hd kys b a) p (fun a ha b hb e1 e2=>aEg hk (hl a ha) (hl b hb) (by simpa using e2) (by simpa using e1)) (h1.imp fun z=>by rw [z];rfl) (h2.imp fun z=>by rw [z];rfl)
theorem aFt {hd:Hdr} {kys:List (Str × Str)} {rs:List (List V)} (hk:cB hd kys) (hr:∀r∈rs,KdR (knds hd) r) (n:Nat):ordd hd kys ((ordd hd kys rs).take n)=(ordd hd kys rs).take n:=by
 obtain ⟨p1,p2⟩:=nO hk hr
 have ht:∀r∈(ordd hd kys rs).take n,KdR (knds hd) r:=fun r h=>hr r (p1.subset (List.mem_of_mem_take h))
 obtain ⟨q1,q2⟩:=nO hk ht
 exact aEx hk (fun r h=>ht r (q1.subset h)) q1 q2 (p2.sublist (List.take_sublist _ _))
theorem qF {hd:Hdr} {kys:List (Str × Str)} {rs:List (List V)} (hk:cB hd kys) (hr:∀r∈rs,KdR (knds hd) r):(ordd hd kys rs).length=rs.length:=(nO hk hr).1.length_eq
theorem aHt {hd:Hdr} {kys:List (Str × Str)} {rs:List (List V)} (hk:cB hd kys) (hr:∀r∈rs,KdR (knds hd) r):∀r∈ordd hd kys rs,KdR (knds hd) r:=fun r h=>hr r ((nO hk hr).1.subset h)
theorem dH {α β:Type} {R:α→β→Prop} {as:List α} {bs:List β} (h:bF R as bs):Al2 R as bs:=by
 induction h with
 |nil=>exact .nil
 |cons r _ ih=>exact .cons r ih
theorem pM {α β:Type} {R:α→β→Prop} {as:List α} {bs:List β} (h:Al2 R as bs):bF R as bs:=by
 induction h with
 |nil=>exact .nil
 |cons r _ ih=>exact .cons r ih
def aLv (K:PySem.W.Frag) (Pt:Addr):Sp:=fun vs H Q _=>∃(D:Addr) (n:Nat) (way:Str) (rs:List (List V)) (ks:List Bool) (kb:Bool),vs=[.ref D,.int (n:Nat),.str way]∧bJ K H D rs∧rs.length≤63∧(∀r∈rs,KdR ks r)∧ks[n]?=some kb∧n<1000∧H Pt=some (.tab qS)∧∀D' H',H D'=none→Same H H'→bJ K H' D' (aBc (dn way) n rs)→Q (.ref D') H'
theorem aB1 (T:Txt w K mg) {Pt:Addr} (C:aIi K mg "sorted_by" Pt) (hK:K.In base) (hbm:BM mg base):Ok P w K mg base 1 "sorted_by" ["rows","place","way"] (aLv K Pt):=by
 refine Ok.aQg T.aEn C hK aAa (fun vs H Q E h=>?_) (fun f c A outer s H vs Q E CH hr h=>?_)
 ·obtain ⟨D,n,way,rs,ks,kb,rfl,_⟩:=h;rfl
 obtain ⟨D,n,way,rs,ks,kb,rfl,⟨us,hD,hu⟩,h63,hk,hkn,hn,hP,q⟩:=h
 refine ⟨_,(aD (bB (aO op_eq (vv 2) aP (nomark _)) (aF (aG (aJr (iy:=1) (vv 0) rfl CH hbm hr rfl rfl rfl (fun _ _ _ _ _=>rfl) (by decide +kernel) (by decide +kernel) (by decide +kernel) (by decide +kernel) (by rfl) T.iQ))) aN) (aF (aG (aIx (iy:=1) (vv 0) rfl CH hbm hr rfl rfl rfl (fun _ _ _ _ _=>rfl) (by decide +kernel) (by decide +kernel) (by decide +kernel) (by decide +kernel) (by rfl) T.iQ)))),?_⟩
 have lu:=hu.len
 have fin:∀b,dn way=b→∀D' H' us',H D'=none→Same H H'→H' D'=some (.lst us')→Al2 (dD K H') us' (aBc b n rs)→Q (.ref D') H':=fun b eb D' H' us' n' s' g' h'=>q D' H' n' s' ⟨us',g',pM (by rw [eb];exact h')⟩
 refine ⟨_,rfl,rfl,_,rfl,?_⟩
 by_cases e:way = "down"
 ·rw [decide_eq_true (congrArg V.str e)]
  exact iteT ⟨_,rfl,D,us,rs,n,ks,kb,rfl,SqL.of hD,dH hu,by omega,hk,hkn,hn,rfl,hP,fin true (decide_eq_true e)⟩
 ·rw [decide_eq_false (by intro z;exact e (V.str.inj z))]
  exact iteF ⟨_,rfl,D,us,rs,n,ks,kb,rfl,SqL.of hD,dH hu,by omega,hk,hkn,hn,rfl,hP,fin false (decide_eq_false e)⟩
def aPr (K:PySem.W.Frag) (H:Hp) (v:V) (rs:List (List V)):Prop:=∃D,v=.ref D∧bJ K H D rs
def Fit (hd:Hdr) (rs:List (List V)):Prop:=rs.length≤63∧∀r∈rs,KdR (knds hd) r
inductive RH:Qn→List Hdr→List (List (List V))→List (List V)→Prop
 |first {q kys m hd rs}:cB hd kys→RH (.first q kys m) [hd] [rs] ((ordd hd kys rs).take m)
def aG3:Sp:=fun _ _ _ _=>False
theorem wI (T:Txt w K mg):Ok P w K mg base 1 "where_rows" ["head","rows","tests"] aG3:=Ok.ofV T.zN xV (fun _ _ _ _ h=>h.elim) (fun _ _ _ _ _ _ _ _ _ _ h=>h.elim)
theorem aBe (T:Txt w K mg):Ok P w K mg base 1 "keep_rows" ["head","rows","names"] aG3:=Ok.ofV T.aEd zP (fun _ _ _ _ h=>h.elim) (fun _ _ _ _ _ _ _ _ _ _ h=>h.elim)
theorem wC (T:Txt w K mg):Ok P w K mg base 1 "group_rows" ["head","rows","names","sums"] aG3:=Ok.ofV T.aBs wH (fun _ _ _ _ h=>h.elim) (fun _ _ _ _ _ _ _ _ _ _ h=>h.elim)
theorem zO (T:Txt w K mg):Ok P w K mg base 1 "join_rows" ["head","rows","other_head","other_rows","pairs"] aG3:=Ok.ofV T.aEm aBb (fun _ _ _ _ h=>h.elim) (fun _ _ _ _ _ _ _ _ _ _ h=>h.elim)
def uZ (K:PySem.W.Frag) (Pt:Addr):Sp:=fun vs H Q _=>∃(vh:V) (D:Addr) (u:V) (hd:Hdr) (kys:List (Str × Str)) (rs:List (List V)),vs=[vh,.ref D,u]∧cC K H vh hd∧hd.length≤100∧knds hd≠[]∧lX K H (jL K H) u kys∧kys.length≤100∧cB hd kys∧bJ K H D rs∧rs.length≤63∧(∀r∈rs,KdR (knds hd) r)∧H Pt=some (.tab qS)∧∀D' H',H D'=none→Same H H'→bJ K H' D' (ordd hd kys rs)→Q (.ref D') H'
theorem cB.drop {hd:Hdr} {kys:List (Str × Str)} (h:cB hd kys):∀n,cB hd (kys.drop n)
 |0=>h
 |n+1=>by
  have:=h.drop n
  cases e:kys.drop n with
  |nil=>
   have:kys.drop (n+1)=[]:=by rw [←List.drop_drop,e];rfl
   rw [this]
   exact ⟨⟨[],.nil⟩,fun k hk=>by cases hk⟩
  |cons k r=>
   rw [e] at this
   have e2:kys.drop (n+1)=r:=by rw [←List.drop_drop,e];rfl
   rw [e2]
   exact this.tl
theorem aFx (T:Txt w K mg) {Pt:Addr} (aEv:Ok P w K mg base 2 "place_of" ["head","name"] (pJ K)) (aC4:Ok P w K mg base 1 "sorted_by" ["rows","place","way"] (aLv K Pt)):Ok P w K mg base 3 "ordered" ["head","rows","keys"] (uZ K Pt):=by
 refine Ok.ofV T.aJi lA (fun vs H Q E h=>?_) (fun f cdv A outer s H vs Q E hr h=>?_)
 ·obtain ⟨vh,D,u,hd,kys,rs,rfl,_⟩:=h;rfl
 obtain ⟨vh,D,u,hd,kys,rs,rfl,hI,hl,hne,⟨t,ws,rfl,ht,hw⟩,hkl,hok,⟨us,hD,hu⟩,h63,hk,hP,q⟩:=h
 refine ⟨_,(aD (aV (i:=3) lA.nd rfl (by trivial) (aK iV (by rfl) T.iQ fP (aB (vv 1) aA))) (aD (iM PassesOwn.never rfl (aMv (by rfl) T.aGw (aB (vv 2) aA)) (aQ (i:=4) lA.nd rfl (by trivial)) (aF (aV (i:=3) lA.nd rfl (by trivial) (aH (aC4.mono (by decide)) hr (by rfl) (aB (vv 3) (aB (aH (aEv.mono (by decide)) hr (by rfl) (aB (vv 0) (aB (aJ ix_tup (vv 4) aC (fun _ _=>rfl)) aA))) (aB (aJ ix_tup (vv 4) aC (fun _ _=>rfl)) aA))))))) (aF (aG (vv 3))))),?_⟩
 have lu:=hu.len
 have lw:=hw.len
 refine ⟨_,rfl,D,us,rs,knds hd,rfl,SqL.of hD,dH hu,by omega,hne,hk,fun D1 H1 us1 n1 s1 g1 h1=>?_⟩
 refine ⟨_,rfl,t,ws,rfl,s1.aM ht,?_⟩
 refine aK4 (xs:=ws) (fun i σ H2=>Same H H2∧∃(D2:Addr) (l:Option V),σ=[some vh,some (.ref D),some (.ref t),some (.ref D2),l]∧H D2=none∧bJ K H2 D2 (ordd hd (kys.drop (kys.length - i)) rs)) ⟨s1,D1,_,rfl,n1,us1,g1,?_⟩ (fun i σ H2 _ p=>p.1.aM ht) (fun i x σ H2 hi ex p=>?_) fun σ H2 p=>?_
 ·rw [Nat.sub_zero,List.drop_length]
  exact (pM h1).imp fun _ _ r=>r.same s1
 ·obtain ⟨s2,D2,l,rfl,n2,hR⟩:=p
  obtain ⟨k,ek,a,rfl,ha,_,_⟩:=bC hw ex
  have ed:kys.drop (kys.length - (i+1))=k::kys.drop (kys.length - i):=by
   have hj:ws.length - 1 - i<kys.length:=by omega
   have ej:kys.length - (i+1)=ws.length - 1 - i:=by omega
   rw [ej,List.drop_eq_getElem_cons hj,show kys.length - i=ws.length - 1 - i+1 by omega]
   rw [List.getElem?_eq_getElem hj] at ek
   rw [Option.some.inj ek]
  have hok1:=hok.drop (kys.length - (i+1))
  rw [ed] at hok1
  obtain ⟨kd,hkd⟩:=hok1.hd1
  have hl':=(List.getElem?_eq_some_iff.mp (qX hkd).1).1
  have lo:=qF hok1.tl hk
  refine ⟨_,rfl,_,rfl,_,rfl,a,_,0,_,rfl,rfl,s2.aM ha,at0 _ _,vh,k.1,hd,kd,rfl,hI.same s2,by omega,hkd,fun H3 s3=>?_⟩
  have s23:=s2.trans s3
  refine ⟨_,rfl,a,_,1,_,rfl,rfl,s23.aM ha,at1 _ _ _,D2,plc hd k.1,k.2,_,knds hd,aD1 kd,rfl,hR.same s3,by omega,aHt hok1.tl hk,aB3 hkd,by omega,s23 _ _ hP,fun D3 H4 n4 s4 h4=>?_⟩
  refine ⟨s23.trans s4,D3,_,rfl,none_of s23 n4,?_⟩
  rw [ed]
  exact h4
 ·obtain ⟨s2,D2,l,rfl,n2,hR⟩:=p
  rw [lw,Nat.sub_self] at hR
  exact ⟨_,rfl,q D2 H2 n2 s2 hR⟩
def aCi (K:PySem.W.Frag) (Pt:Addr):Sp:=fun vs H Q _=>∃(vh:V) (D:Addr) (u:V) (hd:Hdr) (kys:List (Str × Str)) (rs:List (List V)) (m:Nat),vs=[vh,.ref D,u,.int (m:Nat)]∧cC K H vh hd∧hd.length≤100∧knds hd≠[]∧lX K H (jL K H) u kys∧kys.length≤100∧cB hd kys∧bJ K H D rs∧rs.length≤63∧(∀r∈rs,KdR (knds hd) r)∧H Pt=some (.tab qS)∧∀D' H',H D'=none→Same H H'→bJ K H' D' ((ordd hd kys rs).take m)→Q (.ref D') H'
theorem xG (T:Txt w K mg) {Pt:Addr} (iB:Ok P w K mg base 3 "ordered" ["head","rows","keys"] (uZ K Pt)):Ok P w K mg base 4 "first_rows" ["head","rows","keys","many"] (aCi K Pt):=by
 refine Ok.ofV T.aAy wW (fun vs H Q E h=>?_) (fun f cdv A outer s H vs Q E hr h=>?_)
 ·obtain ⟨vh,D,u,hd,kys,rs,m,rfl,_⟩:=h;rfl
 obtain ⟨vh,D,u,hd,kys,rs,m,rfl,hI,hl,hne,hT,hkl,hok,hD,h63,hk,hP,q⟩:=h
 refine ⟨_,(aF (aG (cV jW (aH (iB.mono (by decide)) hr (by rfl) (aB (vv 0) (aB (vv 1) (aB (vv 2) aA)))) gQ (cX (vv 3))))),?_⟩
 refine ⟨_,rfl,_,rfl,_,rfl,vh,D,u,hd,kys,rs,rfl,hI,hl,hne,hT,hkl,hok,hD,h63,hk,hP,fun D1 H1 n1 s1 ⟨us1,g1,h1⟩=>?_⟩
 refine ⟨_,rfl,_,rfl,D1,us1,rfl,SqL.of g1,fun p H2 np s2 g2=>?_⟩
 rw [qH] at g2
 exact q p H2 (none_of s1 np) (s1.trans s2) ⟨_,g2,(iD h1 m).imp fun _ _ z=>z.same s2⟩
def aNp (K:PySem.W.Frag) (Pt:Addr):Sp:=fun vs H Q _=>∃v x y us ws q ihds irs rs,vs=[v,.ref x,.ref y]∧IsQ K H v q∧SqL K H x us∧bF (cC K H) us ihds∧(∀h∈ihds,h.length≤100∧knds h≠[])∧SqL K H y ws∧bF (aPr K H) ws irs∧bF Fit ihds irs∧RH q ihds irs rs∧H Pt=some (.tab qS)∧∀D' H',H D'=none→Same H H'→bJ K H' D' rs→Q (.ref D') H'
theorem aAb (T:Txt w K mg) {Pt:Addr} (aA9:Ok P w K mg base 4 "first_rows" ["head","rows","keys","many"] (aCi K Pt)):Ok P w K mg base 5 "rows_here" ["question","heads","rows"] (aNp K Pt):=by
 have aBh:=wI (P:=P) (base:=base) T
 have aCk:=aBe (P:=P) (base:=base) T
 have zV:=wC (P:=P) (base:=base) T
 have aB6:=zO (P:=P) (base:=base) T
 refine Ok.ofV T.aDq qO (fun vs H Q E h=>?_) (fun f cdv A outer s H vs Q E hr h=>?_)
 ·obtain ⟨v,x,y,us,ws,q0,ihds,irs,rs,rfl,_⟩:=h;rfl
 obtain ⟨v,x,y,us,ws,q0,ihds,irs,rs,rfl,hq,hx,hu,hlen,hy,hw,hf,hh,hP,q⟩:=h
 refine ⟨_,(aD (aV (i:=3) qO.nd rfl (by trivial) (aJ ix_tup (vv 0) aC (fun _ _=>rfl))) (aD (bB (aO op_eq (vv 3) aP (nomark _)) (aF (aG (aH (aBh.mono (by decide)) hr (by rfl) (aB (aJ ix_list (vv 1) aC (fun _ _=>rfl)) (aB (aJ ix_list (vv 2) aC (fun _ _=>rfl)) (aB (aJ ix_tup (vv 0) aC (fun _ _=>rfl)) aA)))))) aN) (aD (bB (aO op_eq (vv 3) aP (nomark _)) (aF (aG (aH (aCk.mono (by decide)) hr (by rfl) (aB (aJ ix_list (vv 1) aC (fun _ _=>rfl)) (aB (aJ ix_list (vv 2) aC (fun _ _=>rfl)) (aB (aJ ix_tup (vv 0) aC (fun _ _=>rfl)) aA)))))) aN) (aD (bB (aO op_eq (vv 3) aP (nomark _)) (aF (aG (aJ ix_list (vv 2) aC (fun _ _=>rfl)))) aN) (aD (bB (aO op_eq (vv 3) aP (nomark _)) (aF (aG (aH (zV.mono (by decide)) hr (by rfl) (aB (aJ ix_list (vv 1) aC (fun _ _=>rfl)) (aB (aJ ix_list (vv 2) aC (fun _ _=>rfl)) (aB (aJ ix_tup (vv 0) aC (fun _ _=>rfl)) (aB (aJ ix_tup (vv 0) aC (fun _ _=>rfl)) aA))))))) aN) (aD (bB (aO op_eq (vv 3) aP (nomark _)) (aF (aG (aH (aA9.mono (by decide)) hr (by rfl) (aB (aJ ix_list (vv 1) aC (fun _ _=>rfl)) (aB (aJ ix_list (vv 2) aC (fun _ _=>rfl)) (aB (aJ ix_tup (vv 0) aC (fun _ _=>rfl)) (aB (aJ ix_tup (vv 0) aC (fun _ _=>rfl)) aA))))))) aN) (aF (aG (aH (aB6.mono (by decide)) hr (by rfl) (aB (aJ ix_list (vv 1) aC (fun _ _=>rfl)) (aB (aJ ix_list (vv 2) aC (fun _ _=>rfl)) (aB (aJ ix_list (vv 1) aC (fun _ _=>rfl)) (aB (aJ ix_list (vv 2) aC (fun _ _=>rfl)) (aB (aJ ix_tup (vv 0) aC (fun _ _=>rfl)) aA)))))))))))))),?_⟩
 cases hh with
 |first hok=>
  cases hq with
  |first a b c e=>
   cases hu with
   |cons h1 t1=>
    cases t1
    cases hw with
    |cons w1 t2=>
     cases t2
     cases hf with
     |cons f1 _=>
      obtain ⟨D,rfl,hD⟩:=w1
      obtain ⟨hl,hne⟩:=hlen _ List.mem_cons_self
      have l3:=c.2.2
      refine ⟨_,rfl,_,_,0,_,rfl,rfl,a,at0 _ _,?_⟩
      refine ⟨_,rfl,rfl,_,rfl,iteF ⟨_,rfl,rfl,_,rfl,iteF ⟨_,rfl,rfl,_,rfl,iteF ⟨_,rfl,rfl,_,rfl,iteF ⟨_,rfl,rfl,_,rfl,iteT ?_⟩⟩⟩⟩⟩
      exact ⟨_,rfl,x,_,0,_,rfl,rfl,hx,at0 _ _,_,rfl,y,_,0,_,rfl,rfl,hy,at0 _ _,_,rfl,_,_,2,_,rfl,rfl,a,rfl,_,rfl,_,_,3,_,rfl,rfl,a,rfl,_,D,_,_,_,_,_,rfl,h1,hl,hne,c.1,by omega,hok,hD,f1.1,f1.2,hP,fun D' H' n' s' h'=>q D' H' n' s' h'⟩
def TabsAt (K:PySem.W.Frag) (H:Hp) (tb:Addr) (tabs:Str→Option (Addr × List (List V))):Prop:=∃kvs,H tb=some (.dK kvs)∧∀n D rs,tabs n=some (D,rs)→valV kvs (Sum.inr n)=some (.ref D)∧bJ K H D rs
theorem TabsAt.same {H H':Hp} {tb:Addr} {tabs:Str→Option (Addr × List (List V))} (e:Same H H') (h:TabsAt K H tb tabs):TabsAt K H' tb tabs:=by
 obtain ⟨kvs,h1,h2⟩:=h
 exact ⟨kvs,e _ _ h1,fun n D rs h=>⟨(h2 n D rs h).1,(h2 n D rs h).2.same e⟩⟩
inductive RQ (hs:Str→Option Hdr) (tabs:Str→Option (Addr × List (List V))):Qn→List (List V)→Prop
 |table {n D rs}:tabs n=some (D,rs)→RQ hs tabs (.table n) rs
 |one {q k h1 r1 rs}:kids q=[k]→HQ hs k h1→RQ hs tabs k r1→Fit h1 r1→RH q [h1] [r1] rs→RQ hs tabs q rs
theorem aL7 {K:PySem.W.Frag} {H:Hp} {v:V} {q:Qn} {i1:List Hdr} {i2:List (List (List V))} {rs:List (List V)} (h:RH q i1 i2 rs) (hq:IsQ K H v q):∃a s xs,v=.ref a∧SqT K H a (.str s::xs)∧decide (V.str s=V.str "table")=false:=by
 cases h
 cases hq
 exact ⟨_,"first",_,rfl,by assumption,by decide +kernel⟩
theorem uD {hd:Hdr} (h:Good hd):knds hd≠[]:=fun z=>by
 have:=congrArg List.length z
 unfold knds at this
 rw [List.length_map] at this
 have h1:=h.2.1
 rw [this] at h1
 exact absurd h1 (by decide)
theorem yH {K:PySem.W.Frag} {Dk:Addr} {u:V} {H1:Hp} {σ0:L2.St} {te:TE} {Q:VK} (gD:H1 Dk=some (.lst [u]))
  (h:∀D R,H1 D=none→(∀y H5,Same (L2.upd H1 D (.lst [])) H5→Q (.ref D) (L2.upd H5 D (.lst [y]))→R y H5)→te (σ0.set 0 (some u)) (L2.upd H1 D (.lst [])) R):uT (Itl K Dk) H1 σ0 (gName 0) mU te Q:=by
 intro D hD
 refine ⟨fun i m σ' H' ys=>(i=0∧m=1∧σ'=σ0∧H'=L2.upd H1 D (.lst [])∧ys=[])∨(i=1∧m=0∧H' Dk=some (.lst [u])∧H' D=some (.lst ys)∧Q (.ref D) H'),⟨1,.inl ⟨rfl,rfl,rfl,rfl,rfl⟩⟩,?_⟩
 rintro i m σ' H' ys (⟨rfl,rfl,rfl,rfl,rfl⟩|⟨rfl,rfl,g1,g2,g3⟩)
 ·have hn:=ne_of_none gD hD
  have g:L2.upd H1 D (.lst []) Dk=some (.lst [u]):=by rw [upd_ne hn];exact gD
  refine ⟨upd_same,.inr ⟨⟨[u],u,SqL.of g,rfl⟩,fun x H2 hy=>?_⟩⟩
  obtain ⟨rfl,e2⟩:=hy
  have e3:=e2 [u] (SqL.of g)
  cases e3
  show te _ _ _
  refine h D _ hD fun y H5 s5 q5=>⟨s5 _ _ upd_same,by decide,0,by decide,.inr ⟨rfl,rfl,?_,upd_same,q5⟩⟩
  rw [upd_ne hn]
  exact s5 _ _ g
 ·exact ⟨g2,.inl ⟨⟨[u],SqL.of g1,Nat.le_refl _⟩,g3⟩⟩
theorem aMt {H:Hp} {tb:Addr} {kvs:List (Key × V)} {k:Key} {v:V} (hk:H tb=some (.dK kvs)) (e:valV kvs k=some v):DGet H tb (kV k) (some v):=by rw [←e];exact DGet.k hk
def aJx (K:PySem.W.Frag) (Pt:Addr) (n:Nat):Sp:=fun vs H Q _=>∃d tb v hs tabs q rs,vs=[.ref d,.ref tb,v]∧gF K H d hs∧TabsAt K H tb tabs∧IsQ K H v q∧size q≤n∧size q≤20∧RQ hs tabs q rs∧H Pt=some (.tab qS)∧∀D' H',(H D'=none∨∃n rs,tabs n=some (D',rs))→Same H H'→bJ K H' D' rs→Q (.ref D') H'
theorem mR (T:Txt w K mg) {Pt:Addr} (bZ:Ok P w K mg base 1 "questions_in" ["question"] (aHp K)) (sX:Ok P w K mg base 5 "rows_here" ["question","heads","rows"] (aNp K Pt)) (iC:Ok P w K mg base 27 "head_of" ["heads","question"] (aCw K)) :
  ∀n:Nat,Ok P w K mg base (n+28) "rows_within" ["heads","tables","question"] (aJx K Pt n)
 |0=>by
  refine Ok.ofV T.nU fB (fun vs H Q E h=>?_) (fun f cdv A outer s H vs Q E hr h=>?_)
  ·obtain ⟨d,tb,v,hs,tabs,q0,rs,rfl,_⟩:=h;rfl
  ·obtain ⟨d,tb,v,hs,tabs,q0,rs,rfl,_,_,hq,hz,_⟩:=h
   have e:=mH q0
   have o:=pU hq
   omega
 |n+1=>by
  have dG:=mR T bZ sX iC n
  refine Ok.ofV T.nU fB (fun vs H Q E h=>?_) (fun f cdv A outer s H vs Q E hr h=>?_)
  ·obtain ⟨d,tb,v,hs,tabs,q0,rs,rfl,_⟩:=h;rfl
  obtain ⟨d,tb,v,hs,tabs,q0,rs,rfl,hds,htb,hq,hz,h20,hh,hP,q⟩:=h
  have hu:=hu_of hr
  refine ⟨_,(aD (bB (aO op_eq (aJ ix_tup (vv 2) aC (fun _ _=>rfl)) aP (nomark _)) (aF (aG (aHe hu (vv 1) (aJ ix_tup (vv 2) aC (fun _ _=>rfl)) (fun _ _=>rfl)))) aN) (aD (aV (i:=3) fB.nd rfl (by trivial) (aH (bZ.mono (by omega)) hr (by rfl) (aB (vv 2) aA))) (aD (nJ (i0:=4) fB.nd rfl (by trivial) (N:=["part","heads","tables"]) (by trivial) (cR (defScope dF) rfl (by decide +kernel)) rfl (kZ (vv 3)) (fun cl s' H' fp=>⟨(aQ (i:=0) (show (["part","heads","tables"]:List Str).Nodup from by decide +kernel) rfl (Or.inl rfl)),bN,(aH (dG.mono (by omega)) hr (by rfl) (aB (vv 1) (aB (vv 2) (aB (vv 0) aA))))⟩)) (aF (aG (aH (sX.mono (by omega)) hr (by rfl) (aB (vv 2) (aB (bM (N:=["part","heads"]) (by trivial) (cR (defScope dF) rfl (by decide +kernel)) rfl (kZ (vv 3)) (fun cl s' H' fp=>⟨(aQ (i:=0) (show (["part","heads"]:List Str).Nodup from by decide +kernel) rfl (Or.inl rfl)),bN,(aH (iC.mono (by omega)) hr (by rfl) (aB (vv 1) (aB (vv 0) aA)))⟩)) (aB (vv 4) aA))))))))),?_⟩
  cases hh with
  |table ht=>
   cases hq with
   |table a b=>
    obtain ⟨kvs,hk,hv⟩:=htb
    obtain ⟨v1,v2⟩:=hv _ _ _ ht
    have g:=aMt hk v1
    exact ⟨_,rfl,_,_,0,_,rfl,rfl,a,at0 _ _,rfl,_,rfl,iteT ⟨_,rfl,_,rfl,_,_,1,_,rfl,rfl,a,at1 _ _ _,tb,_,rfl,g,q _ H (.inr ⟨_,_,ht⟩) (Same.refl H) v2⟩⟩
  |@one _ k1 h1 r1 _ hk hh1 hr1 hf hrh=>
   obtain ⟨a,z,zs,rfl,ha,hne⟩:=aL7 hrh hq
   refine ⟨_,rfl,_,_,0,_,rfl,rfl,ha,at0 _ _,rfl,_,rfl,aKq hne ?_⟩
   refine ⟨_,rfl,_,q0,H,rfl,Same.refl H,hq,fun Dk H1 us fD s1 gD hus=>?_⟩
   rw [hk] at hus
   cases hus with
   |cons hu0 t0=>
   cases t0
   have kz:=aEp (by rw [hk];exact List.mem_cons_self) hq
   dsimp only [gName,tSeq,tAsg]
   refine uV [none,some (.ref d),some (.ref tb)] (aHj 0 1 (by decide +kernel) (by decide +kernel) rfl rfl rfl rfl (by trivial) (by trivial)) ⟨_,rfl,Dk,rfl,⟨_,SqL.of gD⟩,yH gD fun D R hD r=>?_⟩
   have s2:Same H1 (L2.upd H1 D (.lst [])):=aX hD _
   refine ⟨_,rfl,_,rfl,_,rfl,d,tb,_,hs,tabs,_,_,rfl,hds.same (s1.trans s2),htb.same (s1.trans s2),hu0.same (s1.trans s2),by omega,by omega,hr1,(s1.trans s2) _ _ hP,fun D' H5 fr s5 hrs=>r _ H5 s5 ?_⟩
   have hDD:D'≠D:=by
    rcases fr with fr|⟨n',rs',e⟩
    ·rintro rfl
     rw [upd_same] at fr
     cases fr
    ·obtain ⟨kvs,_,hv⟩:=htb.same s1
     obtain ⟨us',g',_⟩:=(hv _ _ _ e).2
     exact ne_of_none g' hD
   have s6:Same H1 (L2.upd H5 D (.lst [.ref D'])):=gG hD (s2.trans s5)
   have hrs6:bJ K (L2.upd H5 D (.lst [.ref D'])) D' r1:=by
    obtain ⟨us',g',hg⟩:=hrs
    exact ⟨us',by rw [upd_ne hDD];exact g',hg.imp fun _ _ ⟨p,ep,hp⟩=>⟨p,ep,SqT.vY (s5 _ _ upd_same) hp⟩⟩
   have gDD:L2.upd H5 D (.lst [.ref D']) D=some (.lst [.ref D']):=upd_same
   generalize L2.upd H5 D (.lst [.ref D'])=H6 at s6 hrs6 gDD ⊢
   refine ⟨_,rfl,?_⟩
   dsimp only [tCons]
   refine uV [none,some (.ref d)] (dM 0 (by decide +kernel) rfl rfl (by trivial)) ⟨_,rfl,Dk,rfl,⟨_,SqL.of (s6 _ _ gD)⟩,yH (s6 _ _ gD) fun D2 R2 hD2 r2=>?_⟩
   have s7:Same H6 (L2.upd H6 D2 (.lst [])):=aX hD2 _
   have sA:=s1.trans (s6.trans s7)
   refine ⟨_,rfl,_,rfl,d,_,hs,k1,h1,rfl,hds.same sA,hu0.same sA,by omega,hh1,fun v' H7 s8 hI=>r2 _ H7 s8 ?_⟩
   have s9:Same H6 (L2.upd H7 D2 (.lst [v'])):=gG hD2 (s7.trans s8)
   have hI9:cC K (L2.upd H7 D2 (.lst [v'])) v' h1:=by
    obtain ⟨b,vs',rfl,hb,hv⟩:=hI
    exact ⟨b,vs',rfl,SqT.vY (s8 _ _ upd_same) hb,hv.imp fun _ _ ⟨p,ep,hp⟩=>⟨p,ep,SqT.vY (s8 _ _ upd_same) hp⟩⟩
   have g9:L2.upd H7 D2 (.lst [v']) D2=some (.lst [v']):=upd_same
   generalize L2.upd H7 D2 (.lst [v'])=H9 at s9 hI9 g9 ⊢
   have s0:=s1.trans (s6.trans s9)
   have gd:=hh1.good
   refine ⟨_,rfl,_,D2,D,[v'],[.ref D'],q0,[h1],[r1],rs,rfl,hq.same s0,SqL.of g9,.cons hI9 .nil,fun h hm=>?_,SqL.of (s9 _ _ gDD),.cons ⟨D',rfl,hrs6.same s9⟩ .nil,.cons hf .nil,hrh,s0 _ _ hP,fun D3 H3 fr3 s3 h3=>q D3 H3 (.inl (none_of s0 fr3)) (s0.trans s3) h3⟩
   cases hm with
   |head=>exact ⟨by have:=gd.2.2;omega,uD gd⟩
   |tail _ z=>cases z
def aKb (K:PySem.W.Frag) (Pt:Addr):Sp:=fun vs H Q _=>∃(vh:V) (D:Addr) (v:V) (q0:Qn) (kys:List (Str × Str)) (m:Nat) (hd:Hdr) (rs:List (List V)),vs=[vh,.ref D,v]∧IsQ K H v (.first q0 kys m)∧cC K H vh hd∧hd.length≤100∧knds hd≠[]∧cB hd kys∧bJ K H D rs∧rs.length≤63∧(∀r∈rs,KdR (knds hd) r)∧H Pt=some (.tab qS)∧∀D' H',H D'=none→Same H H'→bJ K H' D' (ordd hd kys rs)→Q (.ref D') H'
theorem oF (T:Txt w K mg) {Pt:Addr} (iB:Ok P w K mg base 3 "ordered" ["head","rows","keys"] (uZ K Pt)):Ok P w K mg base 4 "in_answer_order" ["head","rows","question"] (aKb K Pt):=by
 refine Ok.ofV T.pF oR (fun vs H Q E h=>?_) (fun f cdv A outer s H vs Q E hr h=>?_)
 ·obtain ⟨vh,D,v,q0,kys,m,hd,rs,rfl,_⟩:=h;rfl
 obtain ⟨vh,D,v,q0,kys,m,hd,rs,rfl,hq,hI,hl,hne,hok,hD,h63,hk,hP,q⟩:=h
 refine ⟨_,(aF (aG (aH (iB.mono (by decide)) hr (by rfl) (aB (vv 0) (aB (vv 1) (aB (iK (aO op_eq (aJ ix_tup (vv 2) aC (fun _ _=>rfl)) aP (nomark _)) (aJ ix_tup (vv 2) aC (fun _ _=>rfl)) (aOd aA)) aA)))))),?_⟩
 cases hq with
 |first a b c e=>
  have l3:=c.2.2
  exact ⟨_,rfl,_,rfl,_,rfl,_,_,0,_,rfl,rfl,a,at0 _ _,rfl,_,rfl,iteT ⟨_,rfl,_,_,2,_,rfl,rfl,a,rfl,vh,D,_,hd,kys,rs,rfl,hI,hl,hne,c.1,by omega,hok,hD,h63,hk,hP,q⟩⟩
def aGg (K:PySem.W.Frag) (Pt:Addr):Sp:=fun vs H Q _=>∃d tb v hs tabs q hd rs,vs=[.ref d,.ref tb,v]∧gF K H d hs∧TabsAt K H tb tabs∧IsQ K H v q∧size q≤20∧HQ hs q hd∧RQ hs tabs q rs∧Fit hd rs∧H Pt=some (.tab qS)∧∀D' H',H D'=none→Same H H'→bJ K H' D' (srt rs)→Q (.ref D') H'
theorem aF2 (T:Txt w K mg) {Pt:Addr} (iC:Ok P w K mg base 27 "head_of" ["heads","question"] (aCw K)) (dG:Ok P w K mg base 48 "rows_within" ["heads","tables","question"] (aJx K Pt 20)):Ok P w K mg base 49 "rows_of" ["heads","tables","question"] (aGg K Pt):=by
 refine Ok.ofV T.aJo aFy (fun vs H Q E h=>?_) (fun f cdv A outer s H vs Q E hr h=>?_)
 ·obtain ⟨d,tb,v,hs,tabs,q0,hd,rs,rfl,_⟩:=h;rfl
 obtain ⟨d,tb,v,hs,tabs,q0,hd,rs,rfl,hds,htb,hq,hz,hh,hr1,hf,hP,q⟩:=h
 refine ⟨_,(aD (cN (aH (iC.mono (by decide)) hr (by rfl) (aB (vv 0) (aB (vv 2) aA)))) (aF (aG (aK iV (by rfl) T.iQ fP (aB (aH (dG.mono (by decide)) hr (by rfl) (aB (vv 0) (aB (vv 1) (aB (vv 2) aA)))) aA))))),?_⟩
 refine ⟨_,rfl,_,rfl,d,v,hs,q0,hd,rfl,hds,hq,hz,hh,fun v' H1 s1 _=>?_⟩
 refine ⟨_,rfl,_,rfl,_,rfl,d,tb,v,hs,tabs,q0,rs,rfl,hds.same s1,htb.same s1,hq.same s1,hz,hz,hr1,s1 _ _ hP,fun D H2 _ s2 ⟨us,hD,hu⟩=>?_⟩
 have lu:=hu.len
 refine ⟨D,us,rs,knds hd,rfl,SqL.of hD,dH hu,by have:=hf.1;omega,uD hh.good,hf.2,fun D' H3 us' hN s3 hD' hu'=>?_⟩
 exact q D' H3 (none_of (s1.trans s2) hN) (s1.trans (s2.trans s3)) ⟨us',hD',(pM hu').imp fun _ _ r=>r.same s3⟩
def aE7 (K:PySem.W.Frag) (Pt:Addr):Sp:=fun vs H Q _=>∃d tb v hs tabs q0 kys m hd rs,vs=[.ref d,.ref tb,v]∧gF K H d hs∧TabsAt K H tb tabs∧IsQ K H v (.first q0 kys m)∧size (.first q0 kys m)≤20∧HQ hs (.first q0 kys m) hd∧cB hd kys∧RQ hs tabs (.first q0 kys m) rs∧Fit hd rs∧H Pt=some (.tab qS)∧∀D' H',H D'=none→Same H H'→bJ K H' D' (ordd hd kys rs)→Q (.ref D') H'
theorem aK8 (T:Txt w K mg) {Pt:Addr} (iC:Ok P w K mg base 27 "head_of" ["heads","question"] (aCw K)) (dG:Ok P w K mg base 48 "rows_within" ["heads","tables","question"] (aJx K Pt 20)) (qC:Ok P w K mg base 4 "in_answer_order" ["head","rows","question"] (aKb K Pt)):Ok P w K mg base 49 "whole" ["heads","tables","question"] (aE7 K Pt):=by
 refine Ok.ofV T.aMg aEf (fun vs H Q E h=>?_) (fun f cdv A outer s H vs Q E hr h=>?_)
 ·obtain ⟨d,tb,v,hs,tabs,q0,kys,m,hd,rs,rfl,_⟩:=h;rfl
 obtain ⟨d,tb,v,hs,tabs,q0,kys,m,hd,rs,rfl,hds,htb,hq,hz,hh,hok,hr1,hf,hP,q⟩:=h
 refine ⟨_,(aD (aV (i:=3) aEf.nd rfl (by trivial) (aH (iC.mono (by decide)) hr (by rfl) (aB (vv 0) (aB (vv 2) aA)))) (aF (aG (aH (qC.mono (by decide)) hr (by rfl) (aB (vv 3) (aB (aH (dG.mono (by decide)) hr (by rfl) (aB (vv 0) (aB (vv 1) (aB (vv 2) aA)))) (aB (vv 2) aA))))))),?_⟩
 have gd:=hh.good
 refine ⟨_,rfl,_,rfl,d,v,hs,_,hd,rfl,hds,hq,hz,hh,fun v' H1 s1 hv'=>?_⟩
 refine ⟨_,rfl,_,rfl,_,rfl,_,rfl,d,tb,v,hs,tabs,_,rs,rfl,hds.same s1,htb.same s1,hq.same s1,hz,hz,hr1,s1 _ _ hP,fun D H2 _ s2 hD=>?_⟩
 have s12:=s1.trans s2
 exact ⟨_,rfl,v',D,v,q0,kys,m,hd,rs,rfl,hq.same s12,hv'.same s2,by have:=gd.2.2;omega,uD gd,hok,hD,hf.1,hf.2,s12 _ _ hP,fun D' H3 hN s3 h3=>q D' H3 (none_of s12 hN) (s12.trans s3) h3⟩
theorem aPu {kd:Str} {v:V} (h:sS kd v):KdV (aD1 kd) v:=by
 cases h with
 |num=>exact ⟨_,rfl⟩
 |wrd _ _=>exact ⟨_,rfl⟩
def aG1 (K:PySem.W.Frag):Sp:=fun vs H Q _=>∃(a:Addr) (vh:V) (hd:Hdr),vs=[.ref a,vh]∧iZ H a∧cC K H vh hd∧aPa hd∧∀t H' r,Fx a H H'→H' t=some (.tup r)→KdR (knds hd) r→Q (.ref t) H'
theorem aJu {α β:Type} {R:α→β→Prop} {as:List α} {bs:List β} (hl:as.length=bs.length) (h:∀(i:Nat) (a:α) (b:β),as[i]?=some a→bs[i]?=some b→R a b):Al2 R as bs:=dH (vA hl h)
theorem aD7 (T:Txt w K mg) (zR:Ok P w K mg base 3 "_law_value" ["_law_state","_law_kind"] aHu):Ok P w K mg base 4 "_law_row" ["_law_state","_law_head_here"] (aG1 K):=by
 refine Ok.ofV T.aGq aCd (fun vs H Q E h=>?_) (fun f cdv A outer s H vs Q E hr h=>?_)
 ·obtain ⟨a,vh,hd,rfl,_⟩:=h;rfl
 obtain ⟨a,vh,hd,rfl,hs,⟨b,us,rfl,hb,hu⟩,⟨hgd,hok⟩,q⟩:=h
 refine ⟨_,(aF (aG (bR cT (by rfl) T.cM bV (aB (bM (N:=["_law_name","_law_kind","_law_state"]) (by trivial) (cR (defScope lL) rfl (by decide +kernel)) rfl (dO (vv 1)) (fun cl s' H' fp=>⟨(qU (K:=K) (n:=2) rfl (bK (aQ (i:=0) (show (["_law_name","_law_kind","_law_state"]:List Str).Nodup from by decide +kernel) rfl (Or.inl rfl)) (bK (aQ (i:=1) (show (["_law_name","_law_kind","_law_state"]:List Str).Nodup from by decide +kernel) rfl (Or.inl rfl)) gZ))),bN,(aH (zR.mono (by decide)) hr (by rfl) (aB (vv 2) (aB (vv 1) aA)))⟩)) aA)))),?_⟩
 have lu:=hu.len
 have l8:=hgd.2.2
 dsimp only [tRet,tCB,tCons]
 refine vL [none,none,some (.ref a)] ?_ ⟨_,rfl,b,rfl,⟨_,hb⟩,aB4 (Fx a) (aHk hs) us (fun _=>true) (fun i _ y=>∃c',hd[i]?=some c'∧sS c'.2 y) (fun _ _ h=>h) (fun _ _ _ h=>h) (fun i σ=>∃c',hd[i]?=some c'∧At2 [none,none,some (.ref a)] (.str c'.1) (.str c'.2) σ) (Ps2 [none,none,some (.ref a)]) ⟨none,none,rfl⟩ (small (by omega)) _ (aFd fun H' f'=>f'.aM hs hb) (uN fun H' f'=>f'.aM hs hb) (fun i x σ' H' Q' ex hps f' qq=>?_) (fun i x σ2 ex hA H' R f' r=>r H' (Fx.refl f'.st)) (fun i x σ2 ex hA hp H' R f' r=>?_) fun D H6 ys f6 fD g6 hys=>?_⟩
 ·refine ⟨rfl,fun i y v h1 h2=>?_⟩
  match i,h1,h2 with
  |0,_,h2=>cases h2
  |1,_,h2=>cases h2
  |2,h1,h2=>cases h1;cases h2;exact ⟨by decide +kernel,0,rfl,rfl,by trivial⟩
  |i+3,h1,_=>cases h1
 ·obtain ⟨c',hc',p',rfl,hp'⟩:=bC hu ex
  exact hg2 (f'.aM hs hp') hps fun σ2 h1 h2=>qq σ2 h1 ⟨c',hc',h2⟩
 ·obtain ⟨c',hc',rfl⟩:=hA
  exact ⟨_,rfl,_,rfl,a,c'.2,rfl,f'.st,(hok c' (List.mem_of_getElem? hc')).2,fun v H2 f2 hv=>r v H2 f2 ⟨c',hc',hv⟩⟩
 ·rw [jR] at hys
  obtain ⟨l1,l2⟩:=iR hys
  refine ⟨D,_,rfl,SqL.of g6,fun t H3 _ s3 g3=>q t H3 ys (f6.sm s3) g3 (aJu (by unfold knds;rw [List.length_map];omega) fun i k y ek ey=>?_)⟩
  obtain ⟨c',hc',hv⟩:=l2 i y ey
  unfold knds at ek
  rw [List.getElem?_map,hc'] at ek
  cases ek
  exact aPu hv
theorem aGj (T:Txt w K mg):Ok P w K mg base 1 "_law_at" ["_law_head_here","_law_name"] (pJ K):=by
 refine Ok.ofV T.aIj aF1 (fun vs H Q E h=>?_) (fun f cdv A outer s H vs Q E hr h=>?_)
 ·obtain ⟨vh,n,hd,k,rfl,_⟩:=h;rfl
 obtain ⟨vh,n,hd,k,rfl,⟨b,us,rfl,hb,hu⟩,hl,hk,q⟩:=h
 obtain ⟨h1,h2⟩:=qX hk
 refine ⟨_,(aF (aG (aDt PySem.F.plainAttrs_list PySem.F.slot_list_index PySem.F.type_list_index xX (bM (N:=["_law_column","_law_kind"]) (by trivial) (eF (by decide +kernel)) rfl (dO (vv 0)) (fun cl s' H' fp=>⟨(qU (K:=K) (n:=2) rfl (bK (aQ (i:=0) (show (["_law_column","_law_kind"]:List Str).Nodup from by decide +kernel) rfl (Or.inl rfl)) (bK (aQ (i:=1) (show (["_law_column","_law_kind"]:List Str).Nodup from by decide +kernel) rfl (Or.inl rfl)) gZ))),bN,(vv 0)⟩)) (aB (vv 1) aA)))),?_⟩
 have lu:=hu.len
 dsimp only [tRet,tBM]
 refine vL [none,none] sE ⟨_,rfl,b,rfl,⟨_,hb⟩,aB4 Same (aHw H) us (fun _=>true) (fun i _ y=>∃c',hd[i]?=some c'∧y=.str c'.1) (fun _ _ h=>h) (fun _ _ _ h=>h) (fun i σ=>∃c',hd[i]?=some c'∧At2 [none,none] (.str c'.1) (.str c'.2) σ) (Ps2 [none,none]) ⟨none,none,rfl⟩ (small (by omega)) _ (aFd fun H' s'=>s'.aM hb) (uN fun H' s'=>s'.aM hb) (fun i x σ' H' Q' ex hps s' qq=>?_) (fun i x σ2 ex hA H' R s' r=>r H' (Same.refl _)) (fun i x σ2 ex hA hp H' R s' r=>?_) fun D H6 ys s6 fD g6 hys=>?_⟩
 ·obtain ⟨c',hc',p',rfl,hp'⟩:=bC hu ex
  exact hg2 (s'.aM hp') hps fun σ2 h1 h2=>qq σ2 h1 ⟨c',hc',h2⟩
 ·obtain ⟨c',hc',rfl⟩:=hA
  exact ⟨_,rfl,r _ _ (Same.refl H') ⟨c',hc',rfl⟩⟩
 ·rw [jR] at hys
  obtain ⟨l1,l2⟩:=iR hys
  have ey:ys=(hd.map (·.1)).map V.str:=List.ext_getElem? fun i=>by
   cases ez:ys[i]? with
   |some z=>
    obtain ⟨c',hc',rfl⟩:=l2 i z ez
    rw [List.getElem?_map,List.getElem?_map,hc'];rfl
   |none=>
    have:=List.getElem?_eq_none_iff.mp ez
    exact (List.getElem?_eq_none (by rw [List.length_map,List.length_map];omega)).symm
  subst ey
  refine ⟨.inl ⟨rfl,_,SqL.of g6⟩,_,rfl,D,hd.map (·.1),n,plc hd n,rfl,rfl,SqL.of g6,by rw [List.length_map];exact hl,by rw [List.getElem?_map,h1];rfl,fun j m hj hm=>?_,q H6 s6⟩
  rw [List.getElem?_map] at hm
  obtain ⟨c,hc,rfl⟩:=Option.map_eq_some_iff.mp hm
  exact h2 j c hj hc
theorem aCm {K:PySem.W.Frag} {H:Hp}:∀{r:List V},(∀x∈r,(∃i,x=.int i)∨∃z,x=.str z)→Al2 (DEq K H 40) r r
 |[],_=>.nil
 |x::r,h=>.cons (.inl ⟨by rcases h x List.mem_cons_self with ⟨i,rfl⟩|⟨z,rfl⟩ <;> rfl,rfl⟩) (aCm fun y hy=>h y (List.mem_cons_of_mem _ hy))
def aHl (K:PySem.W.Frag):Sp:=fun vs H Q _=>∃D C rs ks,vs=[.ref D,.ref C]∧bJ K H D rs∧bJ K H C rs∧rs.length≤63∧(ks.length≤1000∧∀r∈rs,KdR ks r)∧∀H',Same H H'→Q (.bl true) H'
theorem kd_len {ks:List Bool} {r:List V} (h:KdR ks r):ks.length=r.length:=by
 unfold KdR at h
 induction h with
 |nil=>rfl
 |cons _ _ ih=>rw [List.length_cons,List.length_cons,ih]
theorem aA8 (T:Txt w K mg):Ok P w K mg base 1 "_law_same" ["_law_found","_law_due"] (aHl K):=by
 refine Ok.ofV T.aC8 pO (fun vs H Q E h=>?_) (fun f cdv A outer s H vs Q E hr h=>?_)
 ·obtain ⟨D,C,rs,ks,rfl,_⟩:=h;rfl
 obtain ⟨D,C,rs,ks,rfl,⟨us,hD,hu⟩,⟨ws,hC,hw⟩,h63,⟨hkl,hk⟩,q⟩:=h
 have hU:=hr.units
 refine ⟨_,(aD (bB (VW.pt (jD (cJ (cA (aK yK (by rfl) T.aZ aY (aB (vv 0) (aB (cH (v:=.ty "list") (by rfl) T.vD qM rfl) aA))))) (fX (aO op_ne (aK call_len_seq (by rfl) T.cU bY (aB (vv 0) aA)) (aK call_len_seq (by rfl) T.cU bY (aB (vv 1) aA)) (nomark _))))) (aF (aG fH)) aN) (aD (iM PassesOwn.never rfl (fK (by rfl) T.jC (aB (aK call_len_seq (by rfl) T.cU bY (aB (vv 1) aA)) aA)) (aQ (i:=2) pO.nd rfl (by trivial)) (aD (bB (VW.pt (jD (cJ (cA (aK fU (by rfl) T.aZ aY (aB (aJ ix_list (vv 0) (vv 2) (fun _ _=>rfl)) (aB (cH (v:=.ty "tuple") (by rfl) T.cM bV rfl) aA))))) (fX (aO (aOo hU) (aJ ix_list (vv 0) (vv 2) (fun _ _=>rfl)) (aJ ix_list (vv 1) (vv 2) (fun _ _=>rfl)) (nomark _))))) (aF (aG fH)) aN) (aF (bB (cA (aK (aEo rfl) (by rfl) T.aNo aKg (aB (bM (N:=["_law_value_here"]) (by trivial) (eF (by decide +kernel)) rfl (dO (aJ ix_list (vv 0) (vv 2) (fun _ _=>rfl))) (fun cl s' H' fp=>⟨(aQ (i:=0) (show (["_law_value_here"]:List Str).Nodup from by decide +kernel) rfl (Or.inl rfl)),bN,(aNt (aK mC (by rfl) T.aZ aY (aB (vv 0) (aB (cH (v:=.ty "bool") (by rfl) T.aK0 aH5 rfl) aA))) (jK (aLj (aK (aFr (K:=K)) (by rfl) T.aZ aY (aB (vv 0) (aB (gB (aB (cH (v:=.ty "int") (by rfl) T.aKz aGz rfl) (aB (cH (v:=.ty "str") (by rfl) T.aK1 aFm rfl) aA))) aA))))))⟩)) aA))) (aF (aG fH)) aN)))) (aF (aG fH)))),?_⟩
 have lu:=hu.len
 have lw:=hw.len
 refine ⟨_,rfl,D,us,rfl,SqL.of hD,_,rfl,iteF ⟨_,rfl,D,us,rfl,.inl (SqL.of hD),_,rfl,C,ws,rfl,.inl (SqL.of hC),rfl,_,rfl,aKq ?_ ?_⟩⟩
 ·rw [lu,lw];simp
 refine ⟨_,rfl,C,ws,rfl,.inl (SqL.of hC),_,rfl,by omega,by omega,for_range (n:=ws.length) (fun i σ H'=>Same H H'∧∃l,σ=[some (.ref D),some (.ref C),l]) ⟨Same.refl H,_,rfl⟩ (fun i σ H1 hi p=>?_) fun σ H1 p=>?_⟩
 ·obtain ⟨s1,l,rfl⟩:=p
  obtain ⟨r,er,b,eb,hb⟩:=bC hw (List.getElem?_eq_getElem hi)
  have hi':i<us.length:=by omega
  obtain ⟨r',er',a,ea,ha⟩:=bC hu (List.getElem?_eq_getElem hi')
  rw [er] at er'
  cases er'
  have hkr:=hk r (List.mem_of_getElem? er)
  have lr:=kd_len hkr
  have au:atI us ((i:Nat):Int)=some (.ref a):=by rw [←ea];exact atI_nat (List.getElem?_eq_getElem hi')
  have aw:atI ws ((i:Nat):Int)=some (.ref b):=by rw [←eb];exact atI_nat (List.getElem?_eq_getElem hi)
  have e0:(0:Int)+(i:Nat)=((i:Nat):Int):=Int.zero_add _
  rw [e0]
  refine ⟨_,rfl,_,rfl,D,us,_,_,rfl,rfl,SqL.of (s1 _ _ hD),au,_,true,rfl,.tup (s1.aM ha),_,rfl,iteF ?_⟩
  refine ⟨_,rfl,_,rfl,D,us,_,_,rfl,rfl,SqL.of (s1 _ _ hD),au,_,rfl,_,rfl,C,ws,_,_,rfl,rfl,SqL.of (s1 _ _ hC),aw,?_⟩
  refine ⟨a,b,r,r,rfl,rfl,s1.aM ha,s1.aM hb,aCm (tY hkr),_,rfl,iteF ?_⟩
  dsimp only [tNext,tIfS,tB,tCB,tCons]
  refine gU r (r.map fun _=>.bl false) (by rw [List.length_map]) [none] iI (small (by omega)) (fun R rr=>iJ (s1.aM ha) (fun R' r'=>⟨_,rfl,_,rfl,D,us,_,_,rfl,rfl,SqL.of (s1 _ _ hD),au,r'⟩) R rr) (fun j x y ex ey H2 R l sm rr=>?_) rfl fun D2 H2 s2 g2=>?_
  ·rw [List.getElem?_map,ex] at ey
   cases ey
   have hx:=tY hkr x (List.mem_of_getElem? ex)
   refine ⟨_,rfl,x,"bool",false,rfl,by rcases hx with ⟨i,rfl⟩|⟨z,rfl⟩ <;> rfl,_,rfl,iteF ?_⟩
   exact ⟨_,rfl,by decide,fun t H3 hN s3 g3=>⟨x,t,rfl,SqT.of g3,hx,_,rfl,rr H3 s3⟩⟩
  ·refine ⟨D2,r.map fun _=>false,rfl,SqL.of (by rw [g2,List.map_map];rfl),_,rfl,aKq (by simp) ?_⟩
   exact ⟨s1.trans s2,_,rfl⟩
 ·obtain ⟨s1,l,rfl⟩:=p
  exact q H1 s1
theorem aIf {X:Cx} {tg a b:Expr} {p pos:Pos} {t:TA} (hg:Gl X "range") (hm:X.mg "range"=none) (ha:VA X [a,b] t) (h1:cI a=true:=by rfl) (h2:cI b=true:=by rfl):VI X tg (.Call (.Name "range" p) [a,b] [] pos) (iRng2 t):=⟨pi_range2 hg hm ha.1 (by rw [aW h1,aW h2];rfl) (aW (es:=[]) h2)⟩
def aJy (K:PySem.W.Frag):Sp:=fun vs H Q _=>∃(vh x y u:V) (hd:Hdr) (r q:List V) (kys:List (Str × Str)),vs=[vh,x,y,u]∧cC K H vh hd∧hd.length≤100∧dD K H x r∧dD K H y q∧KdR (knds hd) r∧KdR (knds hd) q∧lX K H (jL K H) u kys∧cB hd kys∧∀H',Same H H'→Q (.bl (cL hd kys r q)) H'
theorem aMn {k:Bool} {a b:V} (ha:KdV k a) (hb:KdV k b):scal a b=true:=by
 cases k with
 |true=>obtain ⟨x,rfl⟩:=ha;obtain ⟨y,rfl⟩:=hb;rfl
 |false=>obtain ⟨x,rfl⟩:=ha;obtain ⟨y,rfl⟩:=hb;rfl
theorem aPi {k:Bool} {a b:V} {H:Hp} {Q:VK} (ha:KdV k a) (hb:KdV k b) (h:Q (.bl (kvlt a b)) H):aPp a b H Q:=by
 cases k with
 |true=>obtain ⟨x,rfl⟩:=ha;obtain ⟨y,rfl⟩:=hb;exact .inl ⟨x,y,rfl,rfl,h⟩
 |false=>obtain ⟨x,rfl⟩:=ha;obtain ⟨y,rfl⟩:=hb;exact .inr ⟨x,y,rfl,rfl,h⟩
theorem getD_at {xs:List V} {n:Nat} (h:n<xs.length):atI xs ((n:Nat):Int)=some (xs.getD n .non):=by
 have e:xs.getD n .non=xs[n]:=by simp [h]
 rw [e]
 exact atI_nat (List.getElem?_eq_getElem h)
theorem xT (T:Txt w K mg) (aJf:Ok P w K mg base 1 "_law_at" ["_law_head_here","_law_name"] (pJ K)):Ok P w K mg base 2 "_law_ahead" ["_law_head_here","_law_one","_law_other","_law_keys_here"] (aJy K):=by
 refine Ok.ofV T.aBg fZ (fun vs H Q E h=>?_) (fun f cdv A outer s H vs Q E hr h=>?_)
 ·obtain ⟨vh,x,y,u,hd,r,q,kys,rfl,_⟩:=h;rfl
 obtain ⟨vh,x,y,u,hd,r,q0,kys,rfl,hI,hl,⟨a,rfl,ha⟩,⟨b,rfl,hb⟩,hkr,hkq,⟨t,ws,rfl,ht,hw⟩,hok,q⟩:=h
 have hU:=hr.units
 refine ⟨_,(aD (iM PassesOwn.never rfl (dO (vv 3)) (vX rfl (bK (aQ (i:=4) fZ.nd rfl (by trivial)) (bK (aQ (i:=5) fZ.nd rfl (by trivial)) gZ))) (aD (aV (i:=6) fZ.nd rfl (by trivial) (aH (aJf.mono (by decide)) hr (by rfl) (aB (vv 0) (aB (vv 4) aA)))) (aF (bB (aO op_ne (aJ ix_tup (vv 1) (vv 6) (fun _ _=>rfl)) (aJ ix_tup (vv 2) (vv 6) (fun _ _=>rfl)) (nomark _)) (aF (aG (cW op_eq (cW aOt (aJ ix_tup (vv 1) (vv 6) (fun _ _=>rfl)) (aJ ix_tup (vv 2) (vv 6) (fun _ _=>rfl)) (nomark _)) (cW op_eq (vv 5) aP (nomark _)) (nomark _)))) aN)))) (aF (aG (cW (aOg hU) (vv 1) (vv 2) (nomark _))))),?_⟩
 have lw:=hw.len
 have lr:=kd_len hkr
 have lq:=kd_len hkq
 refine ⟨_,rfl,t,rfl,⟨_,ht⟩,for_tup (xs:=ws) (fun i σ H'=>Same H H'∧cL hd kys r q0=cL hd (kys.drop i) r q0∧∃l4 l5 l6,σ=[some vh,some (.ref a),some (.ref b),some (.ref t),l4,l5,l6]) ⟨Same.refl H,rfl,_,_,_,rfl⟩ (fun i σ H' _ e=>e.1.aM ht) ?_ ?_⟩
 ·rintro i x σ H' ex ⟨s1,e1,l4,l5,l6,rfl⟩
  obtain ⟨k,ek,c,rfl,hc,_,hway⟩:=bC hw ex
  have hi:i<kys.length:=(List.getElem?_eq_some_iff.mp ek).1
  have ed:kys.drop i=k::kys.drop (i+1):=by
   rw [List.drop_eq_getElem_cons hi]
   rw [List.getElem?_eq_getElem hi] at ek
   rw [Option.some.inj ek]
  have hok1:=hok.drop i
  rw [ed] at hok1 e1
  obtain ⟨kd,hkd⟩:=hok1.hd1
  have k1:=rW hkd hkr
  have k2:=rW hkd hkq
  have hp:=(List.getElem?_eq_some_iff.mp (qX hkd).1).1
  have lk:(knds hd).length=hd.length:=by unfold knds;rw [List.length_map]
  have p1:plc hd k.1<r.length:=by omega
  have p2:plc hd k.1<q0.length:=by omega
  refine ⟨c,_,rfl,s1.aM hc,rfl,_,_,rfl,_,_,rfl,rfl,?_⟩
  refine ⟨_,rfl,_,rfl,vh,k.1,hd,kd,rfl,hI.same s1,by omega,hkd,fun H2 s2=>?_⟩
  have s12:=s1.trans s2
  refine ⟨_,rfl,_,rfl,a,r,_,_,rfl,rfl,s12.aM ha,getD_at p1,_,rfl,_,rfl,b,q0,_,_,rfl,rfl,s12.aM hb,getD_at p2,aMn k1 k2,_,rfl,?_⟩
  by_cases e:r.getD (plc hd k.1) .non=q0.getD (plc hd k.1) .non
  ·rw [decide_eq_true e]
   refine iteF ⟨s12,?_,_,_,_,rfl⟩
   rw [e1]
   exact if_pos e
  ·rw [decide_eq_false e]
   refine iteT ⟨_,rfl,_,rfl,a,r,_,_,rfl,rfl,s12.aM ha,getD_at p1,_,rfl,_,rfl,b,q0,_,_,rfl,rfl,s12.aM hb,getD_at p2,aPi k1 k2 ⟨_,rfl,rfl,rfl,?_⟩⟩
   have e2:cL hd kys r q0=(kvlt (r.getD (plc hd k.1) .non) (q0.getD (plc hd k.1) .non) == decide (k.2 = "up")):=by rw [e1];exact if_neg e
   have e3:decide (V.bl (kvlt (r.getD (plc hd k.1) .non) (q0.getD (plc hd k.1) .non))=V.bl (decide (V.str k.2=V.str "up")))=cL hd kys r q0:=by
    rw [e2]
    have e4:decide (V.str k.2=V.str "up")=decide (k.2 = "up"):=by by_cases z:k.2 = "up" <;> simp [z]
    rw [e4]
    generalize kvlt (r.getD (plc hd k.1) .non) (q0.getD (plc hd k.1) .non)=b1
    generalize decide (k.2 = "up")=b2
    cases b1 <;> cases b2 <;> rfl
   show Q (.bl (decide (V.bl _=V.bl _))) H2
   rw [e3]
   exact q H2 s12
 ·rintro σ H' ⟨s1,e1,l4,l5,l6,rfl⟩
  rw [lw,List.drop_length] at e1
  refine ⟨_,rfl,_,rfl,knds hd,r,q0,⟨a,rfl,s1.aM ha⟩,⟨b,rfl,s1.aM hb⟩,hkr,hkq,?_⟩
  have e2:cL hd kys r q0=!rlt q0 r:=e1
  rw [←e2]
  exact q H' s1
def aJ3 (K:PySem.W.Frag):Sp:=fun vs H Q _=>∃(vh:V) (R F:Addr) (u:V) (hd:Hdr) (rs fs:List (List V)) (kys:List (Str × Str)),vs=[vh,.ref R,.ref F,u]∧cC K H vh hd∧hd.length≤100∧knds hd≠[]∧bJ K H R rs∧bJ K H F fs∧rs.length≤63∧(∀r∈rs,KdR (knds hd) r)∧fs.Perm rs∧fs.Pairwise (fun a b=>cL hd kys a b=true)∧lX K H (jL K H) u kys∧cB hd kys∧∀H',Same H H'→Q (.bl true) H'
theorem aIq {X:Cx} {scope:Scope} {N:List Str} {ta:TA} {te:TE} {tt:TT} {g:TG} {σ:L2.St} {H:Hp} {Q:VK} (σ0:L2.St) (cap:Cap X scope N σ σ0) (h:ta σ H fun vs H1=>∃i j:Int,vs=[.int i,.int j]∧(-(2 ^ 62)≤i∧i<2 ^ 62∧-(2 ^ 62)≤j∧j<2 ^ 62)∧uT (Itr i (j - i).toNat) H1 σ0 g tt te Q):gO X scope N (iRng2 ta) g tt te σ H Q:=⟨σ0,cap,h⟩
theorem sU (T:Txt w K mg) (aAm:Ok P w K mg base 2 "_law_ahead" ["_law_head_here","_law_one","_law_other","_law_keys_here"] (aJy K)):Ok P w K mg base 3 "_law_in_order" ["_law_head_here","_law_rows","_law_found","_law_keys_here"] (aJ3 K):=by
 refine Ok.ofV T.tK sI (fun vs H Q E h=>?_) (fun f cdv A outer s H vs Q E hr h=>?_)
 ·obtain ⟨vh,R,F,u,hd,rs,fs,kys,rfl,_⟩:=h;rfl
 obtain ⟨vh,R,F,u,hd,rs,fs,kys,rfl,hI,hl,hne,⟨us,hR,hu⟩,⟨ws,hF,hw⟩,h63,hk,hp,hpw,hT,hok,q⟩:=h
 have hU:=hr.units
 refine ⟨_,(aD (bB (VW.pt (jD (cJ (cA (aK yK (by rfl) T.aZ aY (aB (vv 2) (aB (cH (v:=.ty "list") (by rfl) T.vD qM rfl) aA))))) (fX (aO (yI hU) (aK iV (by rfl) T.iQ fP (aB (vv 2) aA)) (aK iV (by rfl) T.iQ fP (aB (vv 1) aA)) (nomark _))))) (aF (aG fH)) aN) (aF (aG (aK (pR rfl) (by rfl) T.aHx aBo (aB (bM (N:=["_law_k","_law_head_here","_law_keys_here","_law_found"]) (by trivial) (cR (defScope dI) rfl (by decide +kernel)) rfl (aIf (by rfl) T.jC (aB aC (aB (aK call_len_seq (by rfl) T.cU bY (aB (vv 2) aA)) aA))) (fun cl s' H' fp=>⟨(aQ (i:=0) (show (["_law_k","_law_head_here","_law_keys_here","_law_found"]:List Str).Nodup from by decide +kernel) rfl (Or.inl rfl)),bN,(aH (aAm.mono (by decide)) hr (by rfl) (aB (vv 1) (aB (aJ (wB (K:=K)) (vv 3) (bH op_sub (vv 0) aC) (fun _ _=>rfl)) (aB (aJ (wB (K:=K)) (vv 3) (vv 0) (fun _ _=>rfl)) (aB (vv 2) aA)))))⟩)) aA))))),?_⟩
 have lu:=hu.len
 have lw:=hw.len
 have lp:=hp.length_eq
 have hkf:∀r∈fs,KdR (knds hd) r:=fun r h=>hk r (hp.subset h)
 have es:srt fs=srt rs:=aKf hkf hp
 refine ⟨_,rfl,F,ws,rfl,SqL.of hF,_,rfl,iteF ?_⟩
 refine ⟨_,rfl,F,ws,fs,knds hd,rfl,SqL.of hF,dH hw,by omega,hne,hkf,fun D1 H1 us1 n1 s1 g1 h1=>?_⟩
 refine ⟨_,rfl,R,us,rs,knds hd,rfl,SqL.of (s1 _ _ hR),dH (hu.imp fun _ _ z=>z.same s1),by omega,hne,hk,fun D2 H2 us2 n2 s2 g2 h2=>?_⟩
 have s12:=s1.trans s2
 rw [es] at h1
 refine ⟨D1,D2,us1,us2,srt rs,rfl,rfl,SqL.of (s2 _ _ g1),SqL.of g2,h1.imp fun _ _ z=>z.same s12,h2.imp fun _ _ z=>z.same s2,fun r hr'=>tY (hk r (aHz hr')),_,rfl,iteF ?_⟩
 dsimp only [tNext,tRet,tCB,tCons]
 refine aIq [none,some vh,some u,some (.ref F)] ?_ ?_
 ·refine ⟨rfl,fun i y v h1 h2=>?_⟩
  match i,h1,h2 with
  |0,_,h2=>cases h2
  |1,h1,h2=>cases h1;cases h2;exact ⟨by decide +kernel,0,rfl,rfl,by trivial⟩
  |2,h1,h2=>cases h1;cases h2;exact ⟨by decide +kernel,3,rfl,rfl,by trivial⟩
  |3,h1,h2=>cases h1;cases h2;exact ⟨by decide +kernel,2,rfl,rfl,by trivial⟩
  |i+4,h1,_=>cases h1
 refine ⟨_,rfl,F,ws,rfl,.inl (SqL.of (s12 _ _ hF)),1,(ws.length:Int),rfl,⟨by decide,by decide,by omega,by omega⟩,?_⟩
 have en:((ws.length:Int) - 1).toNat=ws.length - 1:=by omega
 rw [en]
 refine aB4 Same (aHw H2) ((List.range (ws.length - 1)).map fun i:Nat=>V.int (1+(i:Int))) (fun _=>true) (fun i _ y=>y=.bl true) (fun _ _ h=>h) (fun _ _ _ h=>h) (fun i σ=>∃l,σ=(List.set [none,some vh,some u,some (.ref F)] 0 l).set 0 (some (.int (1+(i:Int))))) (fun σ=>∃l,σ=List.set [none,some vh,some u,some (.ref F)] 0 l) ⟨none,rfl⟩ (small (by rw [List.length_map,List.length_range];omega)) (Itr 1 (ws.length - 1)) (fun H' i x _ ex=>?_) (fun H' _=>?_) (fun i x σ' H' Q' ex ps sm r=>?_) (fun i x σ2 ex at2 H' R sm r=>r H' (Same.refl _)) (fun i x σ2 ex at2 _ H' R sm rr=>?_) fun D3 H3 zs s3 n3 g3 al=>?_
 ·have hi:i<ws.length - 1:=by
   have:=(List.getElem?_eq_some_iff.mp ex).1
   rw [List.length_map,List.length_range] at this
   exact this
  rw [List.getElem?_map,List.getElem?_range hi] at ex
  cases ex
  exact ⟨hi,fun y H2 hy=>hy⟩
 ·show ws.length - 1≤_
  rw [List.length_map,List.length_range]
  exact Nat.le_refl _
 ·obtain ⟨l,rfl⟩:=ps
  have hi:i<ws.length - 1:=by
   have:=(List.getElem?_eq_some_iff.mp ex).1
   rw [List.length_map,List.length_range] at this
   exact this
  rw [List.getElem?_map,List.getElem?_range hi] at ex
  cases ex
  exact r _ ⟨_,rfl⟩ ⟨l,rfl⟩
 ·obtain ⟨l,rfl⟩:=at2
  have hi:i<ws.length - 1:=by
   have:=(List.getElem?_eq_some_iff.mp ex).1
   rw [List.length_map,List.length_range] at this
   exact this
  have s02:=s12.trans sm
  have h0:i<ws.length:=by omega
  have h1':i+1<ws.length:=by omega
  obtain ⟨r,er,hr1⟩:=bC hw (List.getElem?_eq_getElem h0)
  obtain ⟨q',eq,hr2⟩:=bC hw (List.getElem?_eq_getElem h1')
  have a0:atI ws (1+(i:Int) - 1)=some ws[i]:=by rw [show (1+(i:Int) - 1)=((i:Nat):Int) by omega];exact atI_nat (List.getElem?_eq_getElem h0)
  have a1:atI ws (1+(i:Int))=some ws[i+1]:=by rw [show (1+(i:Int))=((i+1:Nat):Int) by omega];exact atI_nat (List.getElem?_eq_getElem h1')
  have hlr:i<fs.length:=by omega
  have hlq:i+1<fs.length:=by omega
  have hah:cL hd kys r q'=true:=by
   have:=List.pairwise_iff_getElem.mp hpw i (i+1) hlr hlq (by omega)
   rw [List.getElem?_eq_getElem hlr] at er
   rw [List.getElem?_eq_getElem hlq] at eq
   cases er
   cases eq
   exact this
  refine ⟨_,rfl,_,rfl,_,rfl,_,_,rfl,rfl,F,ws,_,_,rfl,rfl,SqL.of (s02 _ _ hF),a0,_,rfl,_,rfl,F,ws,_,_,rfl,rfl,SqL.of (s02 _ _ hF),a1,_,rfl,vh,_,_,u,hd,r,q',kys,rfl,hI.same s02,hl,hr1.same s02,hr2.same s02,hkf r (List.mem_of_getElem? er),hkf q' (List.mem_of_getElem? eq),hT.same s02 fun _ _ z=>z.same s02,hok,fun H4 s4=>?_⟩
  rw [hah]
  exact rr _ H4 s4 rfl
 ·rw [jR] at al
  obtain ⟨l1,l2⟩:=iR al
  have ez:zs=(List.replicate zs.length true).map V.bl:=by
   rw [List.map_replicate]
   refine List.ext_getElem? fun i=>?_
   by_cases hi:i<zs.length
   ·have:=l2 i zs[i] (List.getElem?_eq_getElem hi)
    rw [List.getElem?_eq_getElem hi,this,List.getElem?_replicate,if_pos hi]
   ·rw [List.getElem?_eq_none (by omega),List.getElem?_eq_none (by simp;omega)]
  refine ⟨D3,List.replicate zs.length true,rfl,SqL.of (by rw [←ez];exact g3),?_⟩
  have:(List.replicate zs.length true).all id=true:=by simp
  rw [this]
  exact q H3 (s12.trans s3)
def hs1 (n:Str) (hd:Hdr):Str→Option Hdr:=fun m=>if m=n then some hd else none
def tb1 (n:Str) (L:Addr) (rs:List (List V)):Str→Option (Addr × List (List V)):=fun m=>if m=n then some (L,rs) else none
theorem aNm {n:Str} {v:V}:valV [((Sum.inr n:Key),v)] (Sum.inr n)=some v:=by
 unfold valV
 rw [List.find?_cons,decide_eq_true (show ((Sum.inr n:Key),v).1=Sum.inr n from rfl)]
 rfl
theorem aKo {H:Hp} {d:Addr} {n:Str} {vh:V} {hd:Hdr} (h:H d=some (.dK [(Sum.inr n,vh)])) (hI:cC K H vh hd):gF K H d (hs1 n hd):=by
 refine ⟨_,h,fun m hd' e=>?_⟩
 unfold hs1 at e
 by_cases z:m=n
 ·subst z
  rw [if_pos rfl] at e
  cases e
  exact ⟨vh,aNm,hI⟩
 ·rw [if_neg z] at e;cases e
theorem aN1 {H:Hp} {d L:Addr} {n:Str} {rs:List (List V)} (h:H d=some (.dK [(Sum.inr n,.ref L)])) (hI:bJ K H L rs):TabsAt K H d (tb1 n L rs):=by
 refine ⟨_,h,fun m D rs' e=>?_⟩
 unfold tb1 at e
 by_cases z:m=n
 ·subst z
  rw [if_pos rfl] at e
  cases e
  exact ⟨aNm,hI⟩
 ·rw [if_neg z] at e;cases e
theorem aMk {K:PySem.W.Frag} {H:Hp} {us:List V} {rs:List (List V)} (h:bF (dD K H) us rs):∀x∈us,∃p,x=.ref p:=by
 induction h with
 |nil=>intro x hx;cases hx
 |cons r _ ih=>
  intro x hx
  rcases List.mem_cons.mp hx with rfl|hx
  ·obtain ⟨a,e,_⟩:=r;exact ⟨a,e⟩
  ·exact ih x hx
theorem aMs {hd:Hdr} {rs:List (List V)} (hg:Good hd) (h:Fit hd rs):(srt rs).length≤63∧((knds hd).length≤1000∧∀r∈srt rs,KdR (knds hd) r):=by
 refine ⟨by rw [aMb];exact h.1,?_,fun r hr=>h.2 r (aHz hr)⟩
 unfold knds
 rw [List.length_map]
 have:=hg.2.2
 omega
theorem bJ.fx {a:Addr} {H H':Hp} {D:Addr} {rs:List (List V)} (f:Fx a H H') (h:iZ H a) (hD:D≠a) (r:bJ K H D rs):bJ K H' D rs:=by
 obtain ⟨us,h1,h2⟩:=r
 exact ⟨us,f.same _ _ hD h1,h2.imp fun _ _ ⟨p,e,hp⟩=>⟨p,e,f.aM h hp⟩⟩
theorem aN8 {n i:Nat} {x:V} (e:((List.range n).map fun i:Nat=>V.int (0+(i:Int)))[i]?=some x):i<n∧x=.int (0+(i:Int)):=by
 have hi:i<n:=by
  have:=(List.getElem?_eq_some_iff.mp e).1
  rw [List.length_map,List.length_range] at this
  exact this
 rw [List.getElem?_map,List.getElem?_range hi] at e
 exact ⟨hi,(Option.some.inj e).symm⟩
theorem aLp {X:Cx} {scope:Scope} {N:List Str} {ta:TA} {te:TE} {tt:TT} {g:TG} {σ:L2.St} {H:Hp} {Q:VK} (σ0:L2.St) (cap:Cap X scope N σ σ0) (h:ta σ H fun vs H1=>∃j:Int,vs=[.int j]∧-(2 ^ 62)≤j∧j<2 ^ 62∧uT (Itr 0 j.toNat) H1 σ0 g tt te Q):gO X scope N (iRng1 ta) g tt te σ H Q:=⟨σ0,cap,h⟩
theorem aHh {K:PySem.W.Frag} {H:Hp} {Pr:List V→Prop}:∀{ys:List V},(∀y∈ys,∃r,dD K H y r∧Pr r)→∃rs,bF (dD K H) ys rs∧∀r∈rs,Pr r
 |[],_=>⟨[],.nil,fun r h=>by cases h⟩
 |y::ys,h=>by
  obtain ⟨r,h1,h2⟩:=h y List.mem_cons_self
  obtain ⟨rs,h3,h4⟩:=aHh (ys:=ys) fun z hz=>h z (List.mem_cons_of_mem _ hz)
  refine ⟨r::rs,.cons h1 h3,fun x hx=>?_⟩
  rcases List.mem_cons.mp hx with rfl|hx
  ·exact h2
  ·exact h4 x hx
theorem aNg {S R:TS} {D:Ends} {σ:L2.St} {H:Hp} (J:L2.St→Hp→Prop) (h1:∀N:L2.St→Hp→Prop,(∀σ' H',J σ' H'→N σ' H')→S { D with nx:=N } σ H) (h2:∀σ' H',J σ' H'→R D σ' H'):tSeq S R D σ H:=h1 _ h2
structure LS (K:PySem.W.Frag) (Pt a N:Addr) (ns:List Str) (vh:V) (hd:Hdr) (H:Hp):Prop where
 st:iZ H a
 nm:H N=some (.lst (ns.map V.str))
 hd:cC K H vh hd
 pt:H Pt=some (.tab qS)
theorem LS.fx {Pt a N:Addr} {ns:List Str} {vh:V} {hd:Hdr} {H H':Hp} (W:LS K Pt a N ns vh hd H) (h1:N≠a) (h2:Pt≠a) (f:Fx a H H'):LS K Pt a N ns vh hd H':=
 ⟨f.st,f.same _ _ h1 W.nm,W.hd.tk (f.tk W.st),f.same _ _ h2 W.pt⟩
theorem LS.same {Pt a N:Addr} {ns:List Str} {vh:V} {hd:Hdr} {H H':Hp} (W:LS K Pt a N ns vh hd H) (s:Same H H'):LS K Pt a N ns vh hd H':=
 ⟨W.st.same s,s _ _ W.nm,W.hd.same s,s _ _ W.pt⟩
def tX (K:PySem.W.Frag) (Pt:Addr):Sp:=fun vs H Q _=>∃(a:Addr) (ns:List Int),vs=[.ref a]∧SqL K H a (ns.map V.int)∧ns.length≤63∧H Pt=some (.tab qS)∧∀H',H' Pt=some (.tab qS)→Q (.bl true) H'
theorem aOp {f:Addr} {fd:FuncData} (F:Fun K "law" "law" aDh f fd) (T:Txt w K mg) {Pt:Addr} (aAt:Ok P w K mg base 2 "_law_begin" ["_law_script"] (aEk K)) (aL:Ok P w K mg base 1 "_law_next" ["_law_state","_law_many"] jJ)
  (aAe:Ok P w K mg base 2 "_law_names" ["_law_state","_law_many"] aLw) (aDx:Ok P w K mg base 2 "_law_head" ["_law_state","_law_names_here"] (aDr K))
  (aE8:Ok P w K mg base 4 "_law_row" ["_law_state","_law_head_here"] (aG1 K)) (aCp:Ok P w K mg base 3 "_law_keys" ["_law_state","_law_head_here"] (aCb K))
  (iB:Ok P w K mg base 3 "ordered" ["head","rows","keys"] (uZ K Pt)) (tW:Ok P w K mg base 3 "_law_in_order" ["_law_head_here","_law_rows","_law_found","_law_keys_here"] (aJ3 K))
  (mY:Ok P w K mg base 1 "_law_same" ["_law_found","_law_due"] (aHl K)) (aJd:Ok P w K mg base 49 "rows_of" ["heads","tables","question"] (aGg K Pt)) (aHs:Ok P w K mg base 49 "whole" ["heads","tables","question"] (aE7 K Pt)) :
  FnOk P w K mg base CX0 51 f fd ["_law_script"] (tX K Pt):=by
 refine Fun.okV F eV (fun vs H Q E h=>?_) (fun cdv A outer s H vs Q E hr h=>?_)
 ·obtain ⟨a,ns,rfl,_⟩:=h;rfl
 obtain ⟨sc,sn,rfl,hS,h63,hP,q⟩:=h
 have hu:=hu_of hr
 have hU:=hr.units
 refine ⟨_,(aD (aV (i:=1) eV.nd rfl (by trivial) (aH (aAt.mono (by decide)) hr (by rfl) (aB (vv 0) aA))) (aD (aV (i:=2) eV.nd rfl (by trivial) (aH (aAe.mono (by decide)) hr (by rfl) (aB (vv 1) (aB aC aA)))) (aD (aV (i:=3) eV.nd rfl (by trivial) (aH (aDx.mono (by decide)) hr (by rfl) (aB (vv 1) (aB (vv 2) aA)))) (aD (nJ (i0:=4) eV.nd rfl (by trivial) (N:=["_law_k","_law_state","_law_head_here"]) (by trivial) (cR (defScope aDh) rfl (by decide +kernel)) rfl (fK (by rfl) T.jC (aB (aH (aL.mono (by decide)) hr (by rfl) (aB (vv 1) (aB aC aA))) aA)) (fun cl s' H' fp=>⟨(aQ (i:=0) (show (["_law_k","_law_state","_law_head_here"]:List Str).Nodup from by decide +kernel) rfl (Or.inl rfl)),bN,(aH (aE8.mono (by decide)) hr (by rfl) (aB (vv 1) (aB (vv 2) aA)))⟩)) (aD (bB (aO op_eq (aH (aL.mono (by decide)) hr (by rfl) (aB (vv 1) (aB aC aA))) aC (nomark _)) (aF (aV (i:=4) eV.nd rfl (by trivial) (bH aCz (cV jW (vv 4) gQ (cX aC)) (cV jW (vv 4) gQ (cX aC))))) aN) (aD (aV (i:=5) eV.nd rfl (by trivial) (aH (aCp.mono (by decide)) hr (by rfl) (aB (vv 1) (aB (vv 3) aA)))) (aD (aV (i:=6) eV.nd rfl (by trivial) (aJ ix_list (cG (aB (aH (aL.mono (by decide)) hr (by rfl) (aB (vv 1) (aB aC aA))) (aB (aH (aL.mono (by decide)) hr (by rfl) (aB (vv 1) (aB aC aA))) aA))) (aH (aL.mono (by decide)) hr (by rfl) (aB (vv 1) (aB aC aA))) (fun _ _=>rfl))) (aD (aV (i:=7) eV.nd rfl (by trivial) (bR uW (by rfl) T.vD qM (aB (vv 4) aA))) (aD (aV (i:=8) eV.nd rfl (by trivial) (aH (iB.mono (by decide)) hr (by rfl) (aB (vv 3) (aB (vv 7) (aB (vv 5) aA))))) (aD (bB (VW.pt (jD (cJ (cA (aH (tW.mono (by decide)) hr (by rfl) (aB (vv 3) (aB (vv 4) (aB (vv 8) (aB (vv 5) aA))))))) (fX (aO (yI hU) (vv 7) (vv 4) (nomark _))))) (aF (aG fH)) aN) (aD (aV (i:=9) eV.nd rfl (by trivial) (aBr (vB (aJ ix_list (vv 2) aC (fun _ _=>rfl)) (vv 3) aBa) rfl rfl (by simp) (by decide))) (aD (aV (i:=10) eV.nd rfl (by trivial) (aBr (vB (aJ ix_list (vv 2) aC (fun _ _=>rfl)) (vv 7) aBa) rfl rfl (by simp) (by decide))) (aD (aV (i:=11) eV.nd rfl (by trivial) (gB (aB aP (aB (gB (aB aP (aB (aJ ix_list (vv 2) aC (fun _ _=>rfl)) aA))) (aB (vv 5) (aB (vv 6) aA)))))) (aD (bB (cJ (cA (aH (mY.mono (by decide)) hr (by rfl) (aB (aH (aHs.mono (by decide)) hr (by rfl) (aB (vv 9) (aB (vv 10) (aB (vv 11) aA)))) (aB (cV jW (vv 8) gQ (cX (vv 6))) aA))))) (aF (aG fH)) aN) (aD (aV (i:=12) eV.nd rfl (by trivial) (aH (aJd.mono (by decide)) hr (by rfl) (aB (vv 9) (aB (vv 10) (aB (vv 11) aA))))) (aD (bB (VW.pt (jD (cJ (cA (aH (mY.mono (by decide)) hr (by rfl) (aB (vv 12) (aB (aK iV (by rfl) T.iQ fP (aB (cV jW (vv 8) gQ (cX (vv 6))) aA)) aA))))) (fX (aO (aMr hU) (vv 10) (aBr (vB (aJ ix_list (vv 2) aC (fun _ _=>rfl)) (vv 4) aBa) rfl rfl (by simp) (by decide)) (nomark _))))) (aF (aG fH)) aN) (aD (cN (uQ PySem.F.plainAttrs_list PySem.F.slot_list_clear PySem.F.type_list_clear yU (vv 12))) (aD (cN (uQ PySem.F.plainAttrs_list PySem.F.slot_list_clear PySem.F.type_list_clear yU (vv 7))) (aF (aG (jM (aH (mY.mono (by decide)) hr (by rfl) (aB (aH (iB.mono (by decide)) hr (by rfl) (aB (vv 3) (aB (vv 4) (aB (vv 5) aA)))) (aB (vv 8) aA))) (jK (cW (aOv (Nat.lt_of_succ_lt hu)) (aH (aHs.mono (by decide)) hr (by rfl) (aB (vv 9) (aB (vv 10) (aB (vv 11) aA)))) (cG aA) (nomark _)))))))))))))))))))))))),?_⟩
 refine ⟨_,rfl,sc,sn,rfl,hS,h63,fun a H2 fa s2 hst=>?_⟩
 refine ⟨_,rfl,a,rfl,hst,fun N H3 ns f3 fN g3 hn=>?_⟩
 have nNa:N≠a:=hst.ne fN
 have hP2:=s2 _ _ hP
 have nPa:Pt≠a:=fun z=>by obtain ⟨x,y,hx,_⟩:=hst;rw [←z,hP2] at hx;cases hx
 have hst3:=f3.st
 refine ⟨_,rfl,_,rfl,a,N,ns,rfl,hst3,g3,nNa,hn,fun vh H4 hd f4 hh hok _=>?_⟩
 have hst4:=f4.st
 have g4:=f4.same _ _ nNa g3
 dsimp only [gName,tSeq,tAsg]
 refine aLp [none,some (.ref a),some vh] ?_ ?_
 ·exact aHj 1 3 (by decide +kernel) (by decide +kernel) rfl rfl rfl rfl (by trivial) (by trivial)
 refine ⟨_,rfl,a,41,rfl,hst4,by decide,fun z H5 f5 z0 z1=>?_⟩
 refine ⟨z,rfl,by omega,by omega,?_⟩
 have fx5:Fx a H4 H5:=f5
 have hh5:=hh.tk (f5.tk (K:=K) hst4)
 refine aB4 (Fx a) (aHk f5.st) ((List.range z.toNat).map fun i:Nat=>V.int (0+(i:Int))) (fun _=>true) (fun _ H' y=>∃r,dD K H' y r∧KdR (knds hd) r) (fun f1 f2 ⟨r,⟨p,e,hp⟩,h⟩=>⟨r,⟨p,e,f2.aM f1.st hp⟩,h⟩) (fun _ _ gD ⟨r,⟨p,e,hp⟩,h⟩=>⟨r,⟨p,e,SqT.vY gD hp⟩,h⟩) (fun i σ=>∃x,σ=[some x,some (.ref a),some vh]) (fun σ=>∃l,σ=[l,some (.ref a),some vh]) ⟨none,rfl⟩ (small (by rw [List.length_map,List.length_range];omega)) (Itr 0 z.toNat) (fun H' i x _ ex=>?_) (fun H' _=>?_) (fun i x σ' H' Q' ex ps f' r=>?_) (fun i x σ2 ex at2 H' R f' r=>r H' (Fx.refl f'.st)) (fun i x σ2 ex at2 _ H' R f' r=>?_) fun L H6 ys f6 fL gL hys=>?_
 ·obtain ⟨hi,rfl⟩:=aN8 ex
  exact ⟨hi,fun y H2 hy=>hy⟩
 ·show z.toNat≤_
  rw [List.length_map,List.length_range];exact Nat.le_refl _
 ·obtain ⟨l,rfl⟩:=ps
  exact r _ ⟨some x,rfl⟩ ⟨x,rfl⟩
 ·obtain ⟨x',rfl⟩:=at2
  exact ⟨_,rfl,_,rfl,a,vh,hd,rfl,f'.st,hh5.tk (f'.tk f5.st),hok,fun t H2 r' f2 g2 hk=>r _ H2 f2 ⟨r',⟨t,rfl,SqT.of g2⟩,hk⟩⟩
 rw [jR,List.length_map,List.length_range] at hys
 obtain ⟨ly,hy⟩:=iR hys
 obtain ⟨rows,hrow,hkd⟩:=aHh (ys:=ys) fun y hm=>by
  obtain ⟨i,hi⟩:=List.mem_iff_getElem?.mp hm
  exact hy i y hi
 have lrow:=hrow.len
 have hfit:Fit hd rows:=⟨by omega,hkd⟩
 have nLa:L≠a:=f5.st.ne fL
 have g6:=(f5.trans f6).same _ _ nNa g4
 have hh6:=hh5.tk (f6.tk (K:=K) f5.st)
 have hst6:=f6.st
 have hL6:bJ K H6 L rows:=⟨ys,gL,hrow⟩
 have l17:=hn.1
 obtain ⟨n0,nr,rfl⟩:∃n0 nr,ns=n0::nr:=by
  cases ns with
  |nil=>cases l17
  |cons x r=>exact ⟨x,r,rfl⟩
 have hn0:Nm n0:=hn.2.1 n0 List.mem_cons_self
 have S6:LS K Pt a N (n0::nr) vh hd H6:=⟨hst6,g6,hh6,(f5.trans f6).same _ _ nPa (f4.same _ _ nPa (f3.same _ _ nPa hP2))⟩
 have SF:∀{H H':Hp},LS K Pt a N (n0::nr) vh hd H→Fx a H H'→LS K Pt a N (n0::nr) vh hd H':=fun W f=>W.fx nNa nPa f
 have l8:=hok.1.2.2
 have l1:=hok.1.2.1
 have hne:=uD hok.1
 have lz:rows.length≤40:=by omega
 clear g6 hh6 g4 g3 hh hh5 hrow hy hys gL ly hfit
 refine aNg (S:=tIfS _ _ _) (fun σ' H'=>Fx a H6 H'∧∃(L:Addr) (rows:List (List V)),σ'=[some (.ref sc),some (.ref a),some (.ref N),some vh,some (.ref L),none,none,none,none,none,none,none,none]∧bJ K H' L rows∧rows.length≤40∧(∀r∈rows,KdR (knds hd) r)∧L≠a) (fun N' hN=>?_) ?_
 ·refine ⟨_,rfl,a,3,rfl,S6.st,by decide,fun z H7 f7 z0 z1=>⟨rfl,_,rfl,ite2 (fun _=>?_) (fun _=>hN _ _ ⟨f7,L,rows,rfl,hL6.fx f7 hst6 nLa,lz,hkd,nLa⟩)⟩⟩
  obtain ⟨us7,gL7,hu7⟩:=hL6.fx f7 hst6 nLa
  have S7:=SF S6 f7
  refine ⟨_,rfl,_,rfl,L,us7,rfl,SqL.of gL7,fun p8 H8 n8 s8 g8=>?_⟩
  refine ⟨_,rfl,_,rfl,L,us7,rfl,SqL.of (s8 _ _ gL7),fun p9 H9 n9 s9 g9=>?_⟩
  rw [show (20:Int)=((20:Nat):Int) from rfl,qH] at g8 g9
  have s79:=s8.trans s9
  have l7:=hu7.len
  refine ⟨p8,p9,_,_,rfl,rfl,s9 _ _ g8,g9,small (by rw [List.length_take];omega),fun p H' np s' g'=>hN _ _ ⟨(f7.sm s79).sm s',p,rows.take 20++rows.take 20,rfl,⟨_,g',?_⟩,?_,fun r hr'=>?_,?_⟩⟩
  ·have h0:=iD (hu7.imp fun _ _ z=>z.same (s79.trans s')) 20
   exact bF.app h0 h0
  ·rw [List.length_append,List.length_take];omega
  ·rcases List.mem_append.mp hr' with z|z <;> exact hkd r (List.mem_of_mem_take z)
  ·exact S7.st.ne (none_of s79 np)
 clear hkd lz hL6 lrow nLa
 rintro σ' H7 ⟨f7,L,rows,rfl,hL7,lz,hkd,nLa⟩
 have S7:=SF S6 f7
 have hfit:Fit hd rows:=⟨by omega,hkd⟩
 refine ⟨_,rfl,_,rfl,a,vh,hd,rfl,S7.st,S7.hd,hok,fun vk H8 kys ksl f8 hky hlk hknd=>?_⟩
 obtain ⟨⟨tk,wks,rfl,htk,hwk⟩,lk0,lk3⟩:=hky
 have hkeys:cB hd kys:=⟨⟨ksl,hlk⟩,fun k hk'=>by
  obtain ⟨j,hj⟩:=List.mem_iff_getElem?.mp hk'
  have hj':j<wks.length:=by rw [hwk.len];exact (List.getElem?_eq_some_iff.mp hj).1
  obtain ⟨_,_,_,_,z⟩:=gM hwk (List.getElem?_eq_getElem hj') hj
  exact z⟩
 have S8:=SF S7 f8
 have hL8:=hL7.fx f8 S7.st nLa
 clear hL7 S7
 refine ⟨_,rfl,a,7,rfl,S8.st,by decide,fun z1 H9 f9 z10 z11=>⟨_,rfl,a,61,rfl,f9.st,by decide,fun z2 H10 f10 z20 z21=>⟨(by show 2≤sizeLine;decide),fun p11 H11 n11 s11 g11=>?_⟩⟩⟩
 have f11:=(f9.trans f10).sm s11
 refine ⟨_,rfl,a,2,rfl,f11.st,by decide,fun z3 H12 f12 z30 z31=>?_⟩
 have n11a:p11≠a:=(f9.trans f10).st.ne n11
 obtain ⟨mv,hat,hmem⟩:=at_of (xs:=[V.int z1,V.int z2]) z30 (by show z3<2;omega)
 obtain ⟨m,rfl,hm60⟩:∃m:Nat,mv=.int (m:Nat)∧m≤60:=by
  have e:mv=.int z1∨mv=.int z2:=by simpa using hmem
  rcases e with rfl|rfl
  ·exact ⟨z1.toNat,by rw [Int.toNat_of_nonneg z10],by omega⟩
  ·exact ⟨z2.toNat,by rw [Int.toNat_of_nonneg z20],by omega⟩
 refine ⟨p11,_,_,_,rfl,rfl,SqL.of (f12.same _ _ n11a g11),hat,?_⟩
 have f12':=f11.trans f12
 have S12:=SF S8 f12'
 obtain ⟨us,gL12,hu12⟩:=hL8.fx f12' S8.st nLa
 have htk12:=f12'.aM S8.st htk
 have hwk12:=hwk.imp fun _ _ z=>z.tk (f12'.tk S8.st)
 have lus:=hu12.len
 clear hL8 S8 htk hwk g11 hat hmem
 refine ⟨_,rfl,L,us,rfl,.inl (SqL.of gL12),fun Hd H13 nHd s13 g13=>?_⟩
 have S13:=S12.same s13
 have o1:=nO hkeys hkd
 have oln:=qF hkeys hkd
 have okd:=aHt hkeys hkd
 refine ⟨_,rfl,_,rfl,_,rfl,vh,Hd,.ref tk,hd,kys,rows,rfl,S13.hd,by omega,hne,⟨tk,wks,rfl,s13.aM htk12,hwk12.imp fun _ _ z=>z.same s13⟩,by omega,hkeys,⟨us,g13,hu12.imp fun _ _ z=>z.same s13⟩,by omega,hkd,S13.pt,fun Fd H14 nFd s14 hF14=>?_⟩
 have S14:=S13.same s14
 have s1214:=s13.trans s14
 refine ⟨_,rfl,_,rfl,_,rfl,_,rfl,vh,L,Fd,.ref tk,hd,rows,ordd hd kys rows,kys,rfl,S14.hd,by omega,hne,⟨us,s1214 _ _ gL12,hu12.imp fun _ _ z=>z.same s1214⟩,hF14,by omega,hkd,o1.1,o1.2,⟨tk,wks,rfl,s1214.aM htk12,hwk12.imp fun _ _ z=>z.same s1214⟩,hkeys,fun H15 s15=>⟨_,rfl,iteF ?_⟩⟩
 have s1215:=s1214.trans s15
 have s1415:=s15
 refine ⟨_,rfl,_,rfl,Hd,L,us,us,rows,rfl,rfl,SqL.of ((s14.trans s15) _ _ g13),SqL.of (s1215 _ _ gL12),dH (hu12.imp fun _ _ z=>z.same s1215),dH (hu12.imp fun _ _ z=>z.same s1215),fun r hr'=>tY (hkd r hr'),_,rfl,iteF ?_⟩
 have S15:=S12.same s1215
 refine fun d fd=>?_
 have s16:Same H15 (L2.upd H15 d (.dK [])):=aX fd _
 refine ⟨_,rfl,N,_,0,_,rfl,rfl,SqL.of (s16 _ _ S15.nm),at0 _ _,_,rfl,upd_same,[(Sum.inr n0,vh)],rfl,by show 1≤15;decide,?_⟩
 have s17:Same H15 (L2.upd (L2.upd H15 d (.dK [])) d (.dK (mergeK [] [(Sum.inr n0,vh)]))):=gG fd s16
 have gd17:L2.upd (L2.upd H15 d (.dK [])) d (.dK (mergeK [] [(Sum.inr n0,vh)])) d=some (.dK [(Sum.inr n0,vh)]):=upd_same
 generalize L2.upd (L2.upd H15 d (.dK [])) d (.dK (mergeK [] [(Sum.inr n0,vh)]))=H17 at s17 gd17 ⊢
 refine fun tb ftb=>?_
 have S17:=S15.same s17
 have s18:Same H17 (L2.upd H17 tb (.dK [])):=aX ftb _
 refine ⟨_,rfl,N,_,0,_,rfl,rfl,SqL.of (s18 _ _ S17.nm),at0 _ _,_,rfl,upd_same,[(Sum.inr n0,.ref Hd)],rfl,by show 1≤15;decide,?_⟩
 have s19:Same H17 (L2.upd (L2.upd H17 tb (.dK [])) tb (.dK (mergeK [] [(Sum.inr n0,.ref Hd)]))):=gG ftb s18
 have gt19:L2.upd (L2.upd H17 tb (.dK [])) tb (.dK (mergeK [] [(Sum.inr n0,.ref Hd)])) tb=some (.dK [(Sum.inr n0,.ref Hd)]):=upd_same
 generalize L2.upd (L2.upd H17 tb (.dK [])) tb (.dK (mergeK [] [(Sum.inr n0,.ref Hd)]))=H19 at s19 gt19 ⊢
 have s1519:=s17.trans s19
 have s1219:=s1215.trans s1519
 refine ⟨_,rfl,N,_,0,_,rfl,rfl,SqL.of (s1219 _ _ S12.nm),at0 _ _,(by show 2≤sizeLine;decide),fun pq H20 _ s20 g20=>⟨_,rfl,_,rfl,(by show 4≤sizeLine;decide),fun pw H21 _ s21 g21=>?_⟩⟩
 have s1921:=s20.trans s21
 have s1221:=s1219.trans s1921
 have s1421:Same H14 H21:=s15.trans (s1519.trans s1921)
 have S21:=S12.same s1221
 have gd21:=(s19.trans s1921) _ _ gd17
 have gt21:=s1921 _ _ gt19
 have gH21:=(s14.trans s1421) _ _ g13
 have gL21:=s1221 _ _ gL12
 have hF21:=hF14.same s1421
 have hu21:=hu12.imp fun _ _ z=>z.same s1221
 have hq21:IsQ K H21 (.ref pw) (.first (.table n0) kys m):=.first (SqT.of g21) (.table (s21.aM (SqT.of g20)) hn0) ⟨⟨tk,wks,rfl,s1221.aM htk12,hwk12.imp fun _ _ z=>z.same s1221⟩,Nat.zero_le _,lk3⟩ hm60
 have hHQ0:HQ (hs1 n0 hd) (.table n0) hd:=.mk0 rfl (.table (by unfold hs1;rw [if_pos rfl])) hok.1
 have hHQ:HQ (hs1 n0 hd) (.first (.table n0) kys m) hd:=.mk1 rfl hHQ0 (.first hlk hknd) hok.1
 have hRQ:∀rows',Fit hd rows'→RQ (hs1 n0 hd) (tb1 n0 Hd rows') (.first (.table n0) kys m) ((ordd hd kys rows').take m):=fun rows' h=>.one rfl hHQ0 (.table (D:=Hd) (by unfold tb1;rw [if_pos rfl])) h (.first hkeys)
 have hsz:size (.first (.table n0) kys m)≤20:=by show 1+1≤20;decide
 have fitT:Fit hd ((ordd hd kys rows).take m):=⟨by rw [List.length_take];omega,fun r hr'=>okd r (List.mem_of_mem_take hr')⟩
 have est:=aFt hkeys hkd m
 have lkd:(knds hd).length≤1000:=by unfold knds;rw [List.length_map];omega
 have nHL:Hd≠L:=(ne_of_none gL12 nHd).symm
 have nHF:Hd≠Fd:=ne_of_none g13 nFd
 have htk21:=s1221.aM htk12
 have hwk21:=hwk12.imp fun _ _ z=>z.same s1221
 clear hF14 S13 S14 S15 S17 g20 g21 s1519 s1921 gd17 gt19 g13 S12 gL12 hu12 htk12 hwk12
 have hds21:=aKo gd21 S21.hd
 have htb21:=aN1 gt21 ⟨us,gH21,hu21⟩
 obtain ⟨usF,gF21,huF⟩:=hF21
 refine ⟨_,rfl,_,rfl,_,rfl,d,tb,.ref pw,hs1 n0 hd,tb1 n0 Hd rows,.table n0,kys,m,hd,(ordd hd kys rows).take m,rfl,hds21,htb21,hq21,hsz,hHQ,hkeys,hRQ rows hfit,fitT,S21.pt,fun D22 H22 n22 s22 hR22=>?_⟩
 rw [est] at hR22
 refine ⟨_,rfl,_,rfl,_,rfl,Fd,usF,rfl,SqL.of (s22 _ _ gF21),fun p23 H23 n23 s23 g23=>?_⟩
 rw [qH] at g23
 have s2123:=s22.trans s23
 refine ⟨D22,p23,(ordd hd kys rows).take m,knds hd,rfl,hR22.same s23,⟨_,g23,(iD huF m).imp fun _ _ z=>z.same s2123⟩,fitT.1,⟨lkd,fitT.2⟩,fun H24 s24=>⟨_,rfl,iteF ?_⟩⟩
 have t24:=s2123.trans s24
 refine ⟨_,rfl,_,rfl,_,rfl,d,tb,.ref pw,hs1 n0 hd,tb1 n0 Hd rows,_,hd,(ordd hd kys rows).take m,rfl,hds21.same t24,htb21.same t24,hq21.same t24,hsz,hHQ,hRQ rows hfit,fitT,t24 _ _ S21.pt,fun D25 H25 n25 s25 hR25=>?_⟩
 have t25:=t24.trans s25
 refine ⟨_,rfl,_,rfl,_,rfl,_,rfl,Fd,usF,rfl,SqL.of (t25 _ _ gF21),fun p26 H26 n26 s26 g26=>?_⟩
 rw [qH] at g26
 have t26:=t25.trans s26
 have lt26:=(iD huF m).len
 have lT:=fitT.1
 refine ⟨p26,_,_,knds hd,rfl,SqL.of g26,dH ((iD huF m).imp fun _ _ z=>z.same t26),by omega,hne,fitT.2,fun C27 H27 us27 n27 s27 g27 h27=>?_⟩
 have hsr:=aMs hok.1 fitT
 refine ⟨D25,C27,srt ((ordd hd kys rows).take m),knds hd,rfl,hR25.same (s26.trans s27),⟨us27,g27,(pM h27).imp fun _ _ z=>z.same s27⟩,hsr.1,hsr.2,fun H28 s28=>⟨_,rfl,iteF ?_⟩⟩
 have s2528:=s26.trans (s27.trans s28)
 have t28:=t25.trans s2528
 refine ⟨_,rfl,fun e fe=>?_⟩
 have s29:Same H28 (L2.upd H28 e (.dK [])):=aX fe _
 refine ⟨_,rfl,N,_,0,_,rfl,rfl,SqL.of ((t28.trans s29) _ _ S21.nm),at0 _ _,_,rfl,upd_same,[(Sum.inr n0,.ref L)],rfl,by show 1≤15;decide,?_⟩
 have s30:Same H28 (L2.upd (L2.upd H28 e (.dK [])) e (.dK (mergeK [] [(Sum.inr n0,.ref L)]))):=gG fe s29
 have ge30:L2.upd (L2.upd H28 e (.dK [])) e (.dK (mergeK [] [(Sum.inr n0,.ref L)])) e=some (.dK [(Sum.inr n0,.ref L)]):=upd_same
 generalize L2.upd (L2.upd H28 e (.dK [])) e (.dK (mergeK [] [(Sum.inr n0,.ref L)]))=H30 at s30 ge30 ⊢
 have t30:=t28.trans s30
 refine ⟨tb,e,Sum.inr n0,Hd,L,us,rfl,rfl,t30 _ _ gt21,ge30,SqL.of (t30 _ _ gH21),SqL.of (t30 _ _ gL21),aMk hu21,_,rfl,iteF ?_⟩
 obtain ⟨usR,gR25,huR⟩:=hR25
 have gR30:=(s2528.trans s30) _ _ gR25
 refine ⟨_,rfl,.inl ⟨rfl,_,SqL.of gR30⟩,D25,usR,rfl,rfl,gR30,?_⟩
 have nDH:D25≠Hd:=(ne_of_none (t24 _ _ gH21) n25).symm
 have nDL:D25≠L:=(ne_of_none (t24 _ _ gL21) n25).symm
 have nDF:D25≠Fd:=(ne_of_none (t24 _ _ gF21) n25).symm
 have gH31:L2.upd H30 D25 (.lst []) Hd=some (.lst us):=by rw [upd_ne nDH.symm];exact t30 _ _ gH21
 refine ⟨_,rfl,.inl ⟨rfl,_,SqL.of gH31⟩,Hd,us,rfl,rfl,gH31,?_⟩
 have tkC:TK K H21 (L2.upd (L2.upd H30 D25 (.lst [])) Hd (.lst [])):=fun _ _ z=>((t30.aM z).vY gR30).vY gH31
 have stay:∀b o,H21 b=some o→(∀xs,o≠.lst xs)→L2.upd (L2.upd H30 D25 (.lst [])) Hd (.lst []) b=some o:=fun b o eb ho=>by
  have e30:=t30 _ _ eb
  rw [upd_ne (ne_of e30 (t30 _ _ gH21) (ho _)),upd_ne (ne_of e30 gR30 (ho _))]
  exact e30
 have gdC:=stay _ _ gd21 (fun _ z=>nomatch z)
 have gtC:=stay _ _ gt21 (fun _ z=>nomatch z)
 have ptC:=stay _ _ S21.pt (fun _ z=>nomatch z)
 have gHC:L2.upd (L2.upd H30 D25 (.lst [])) Hd (.lst []) Hd=some (.lst []):=upd_same
 have gLC:L2.upd (L2.upd H30 D25 (.lst [])) Hd (.lst []) L=some (.lst us):=by rw [upd_ne nHL.symm,upd_ne nDL.symm];exact t30 _ _ gL21
 have gFC:L2.upd (L2.upd H30 D25 (.lst [])) Hd (.lst []) Fd=some (.lst usF):=by rw [upd_ne nHF.symm,upd_ne nDF.symm];exact t30 _ _ gF21
 have hqC:=hq21.tk tkC
 have hhC:=S21.hd.tk tkC
 have huC:bF (dD K (L2.upd (L2.upd H30 D25 (.lst [])) Hd (.lst []))) us rows:=hu21.imp fun _ _ ⟨p,ep,hp⟩=>⟨p,ep,tkC _ _ hp⟩
 have huFC:bF (dD K (L2.upd (L2.upd H30 D25 (.lst [])) Hd (.lst []))) usF (ordd hd kys rows):=huF.imp fun _ _ ⟨p,ep,hp⟩=>⟨p,ep,tkC _ _ hp⟩
 have htkC:=tkC _ _ htk21
 have hwkC:=hwk21.imp fun _ _ z=>z.tk tkC
 generalize L2.upd (L2.upd H30 D25 (.lst [])) Hd (.lst [])=HC at gdC gtC ptC gHC gLC gFC hqC hhC huC huFC htkC hwkC ⊢
 refine ⟨_,rfl,_,rfl,_,rfl,vh,L,.ref tk,hd,kys,rows,rfl,hhC,by omega,hne,⟨tk,wks,rfl,htkC,hwkC⟩,by omega,hkeys,⟨us,gLC,huC⟩,by omega,hkd,ptC,fun D31 H31 _ s31 hR31=>?_⟩
 refine ⟨_,rfl,D31,Fd,ordd hd kys rows,knds hd,rfl,hR31,⟨usF,s31 _ _ gFC,huFC.imp fun _ _ z=>z.same s31⟩,by omega,⟨lkd,okd⟩,fun H32 s32=>⟨_,rfl,iteT ?_⟩⟩
 have t32:=s31.trans s32
 have fit2:Fit hd []:=⟨Nat.zero_le _,fun r h=>nomatch h⟩
 have l0:((ordd hd kys []).take m).length=0:=by
  rw [List.length_take,qF hkeys fit2.2]
  exact Nat.min_eq_right (Nat.zero_le _)
 have e0:=List.length_eq_zero_iff.mp l0
 have hRQ0:=hRQ [] fit2
 rw [e0] at hRQ0
 refine ⟨_,rfl,_,rfl,_,rfl,d,tb,.ref pw,hs1 n0 hd,tb1 n0 Hd [],.table n0,kys,m,hd,[],rfl,(aKo gdC hhC).same t32,(aN1 gtC ⟨[],gHC,.nil⟩).same t32,hqC.same t32,hsz,hHQ,hkeys,hRQ0,fit2,t32 _ _ ptC,fun D38 H38 _ s38 ⟨us38,g38,h38⟩=>?_⟩
 have e38:us38=[]:=by
  have:=h38.len
  rw [qF hkeys fit2.2] at this
  exact List.length_eq_zero_iff.mp this
 subst e38
 exact ⟨(by show 0≤sizeLine;decide),fun E39 H39 _ s39 g39=>⟨D38,E39,[],rfl,rfl,SqL.of (s39 _ _ g38),SqL.of g39,q H39 ((t32.trans (s38.trans s39)) _ _ ptC)⟩⟩
theorem aB8 (T:Txt w K mg):Ok P w K mg base 27 "head_of" ["heads","question"] (aCw K):=by
 have g1:=aEi (P:=P) (base:=base) T
 have g2:=aF9 (P:=P) (base:=base) T
 have g3:=aFp T g2
 have g4:=aCc T g1 g2
 have g5:=aGx T g1
 have g6:=aAx (P:=P) (base:=base) T
 have g7:=aL3 g3
 have fm:Forms P w K mg base:=⟨g7,oM T,aBn T (aGo T g6 g3 (aDw T g6 g4 g3)) (bW T),aAh T g7 (bW T),oV T g7 (bW T),zH T (aGd T g7 (bW T)) (bW T),aDv T (aI7 T g6 g3) (bW T),aCv T (aJb T g6 g3) (bW T),aEu T g1⟩
 have g8:=lN (P:=P) (base:=base) T
 have g9:=aGs (P:=P) (base:=base) T
 have g10:=oU (P:=P) (base:=base) T
 have g11:=uL T (xO (P:=P) (base:=base) T)
 have g12:=aAz T g9
 have g13:=aAu T (wL T) (wD T g10 g9 (wY T g5 g9)) g12 (xH T) (aAc T g10 g9 g11) (xN T g12 (aEr T g9)) (wM T g12 g11)
 exact aGn T (nF T g8 g13 g11 (pH T) 20) (aFq T (aCa T fm g6) g8 (aEb T))
theorem all_rows (T:Txt w K mg) {Pt:Addr} (C:aIi K mg "sorted_by" Pt) (hK:K.In base) (hbm:BM mg base):Ok P w K mg base 3 "ordered" ["head","rows","keys"] (uZ K Pt)∧Ok P w K mg base 49 "rows_of" ["heads","tables","question"] (aGg K Pt)∧Ok P w K mg base 49 "whole" ["heads","tables","question"] (aE7 K Pt):=by
 have g1:=aB8 (P:=P) (base:=base) T
 have g2:=aD2 T (pH (P:=P) (base:=base) T)
 have g5:=aFx T g2 (aB1 T C hK hbm)
 have g4:=mR T (lN T) (aAb T (xG T g5)) g1 20
 exact ⟨g5,aF2 T g1 g4,aK8 T g1 g4 (oF T g5)⟩
theorem law_fn {fa Pt:Addr} (T:Txt w K mg) (C:aIi K mg "sorted_by" Pt) (hmg:mg "law"=some (.ref fa)) :
  ∃fd:FuncData,(∀(s:Shared) (u:Value),BindsTo s fd ⟨[u],[]⟩ [("_law_script",u)])∧∀base:Heap,K.In base→base.Ns mainGlobals mg→BM mg base→FnOk P w K mg base CX0 51 fa fd ["_law_script"] (tX K Pt):=by
 obtain ⟨f,fd,F,B,m⟩:=T.aPj
 have e:fa=f:=by
  rw [m] at hmg
  injection hmg with e
  injection e with e
  exact e.symm
 subst e
 refine ⟨fd,?_,fun base hK _ hbm=>?_⟩
 ·obtain ⟨⟨oc,od,kV,doc,pm,an,cdv,ct,osl,rfl,lk,hcd⟩,kp⟩:=F
  exact fun s u=>.of_eq rfl
 ·have n1:=aA0 (P:=P) (base:=base) T
  have n2:=xK T n1 (wG T n1)
  have n3:=aBp T n1
  have n6:=aGj (P:=P) (base:=base) T
  obtain ⟨r0,r1,r2⟩:=all_rows (P:=P) (base:=base) T C hK hbm
  exact aOp F T (wQ T (aAn T)) n1 (xM T n1 (xU T)) (aA7 T n1) (aD7 T n2) (aAp T n1 n3) r0 (sU T (xT T n6)) (aA8 T) r1 r2
theorem aGi {Pt:Addr} {H:Hp} {a:Addr} {ns:List Int} {E:XK} (hl:ns.length≤63) (hT:nZ [(Pt,qS)] H) (hS:SqL K H a (ns.map V.int)):tX K Pt [.ref a] H (fun v H'=>v=.bl true∧nZ [(Pt,qS)] H') E:=
 ⟨a,ns,rfl,hS,hl,hT _ (List.mem_singleton.mpr rfl),fun H' h=>⟨rfl,fun p hp=>by rcases List.mem_singleton.mp hp with rfl;exact h⟩⟩
theorem aO2 {h:Heap} {Pt f c:Addr} {o:Obj} {fd:FuncData} (X:K.In h) (G:h.Ns mainGlobals mg) (a:PySem.W.nsIn K mainGlobals "sorted_by"=some (some (.ref f))) (l:K.lookup f=some o) (e1:o.data=.func fd) (e2:fd.code=.ref c) (hh:PySem.W.codeHdIn K c Pt=true):aIi K mg "sorted_by" Pt:=
 ⟨f,o,fd,c,PySem.W.mg_of X G a,l,e1,e2,hh⟩
theorem aMq {Pt f c:Addr} {o:Obj} {fd:FuncData} (a:PySem.W.nsIn K mainGlobals "sorted_by"=some (some (.ref f))) (l:K.lookup f=some o) (e1:o.data=.func fd) (e2:fd.code=.ref c) (hh:PySem.W.codeHdIn K c Pt=true) (n:K.lookup Pt=none) :
  ∀p∈[(Pt,qS)],(∃c,PySem.W.codeHdIn K c p.1=true)∧K.lookup p.1=none:=fun p hp=>by
 rcases List.mem_singleton.mp hp with rfl
 exact ⟨⟨c,hh⟩,n⟩
theorem aM5 {Pt:Addr} {h:Heap} (x:∀P∈[Pt],h.get? P=some (PySem.W.tabObj #[])):∀p∈[(Pt,qS)],h.get? p.1=some { cls:=.none,data:=.fields #[] }:=fun p hp=>by
 rcases List.mem_singleton.mp hp with rfl
 exact x _ (List.mem_singleton.mpr rfl)
theorem aIc {l:PySem.W.OpenLaw} {n k:Nat} {q:Program} {loose:List Str} {XP:(Str→Option Value)→Heap→Prop} {YP:World→Heap→Prop} {d:DefRec} {K:Params→PySem.W.Frag} {CX:CXT} {sp:PySem.W.Frag→Sp} {x:Str}
  (hn:l.most=some n) (hn2:n≤sizeLine) (hdf:d.params.defaults=[]) (hr:Room k callerA)
  (ts:List (Addr × Str)) (hnd:(ts.map (·.1)).Nodup)
  (hY:∀(w:World) (h:Heap),YP w h→(K w.params).In h∧∀p∈ts,h.get? p.1=some { cls:=.none,data:=.fields #[] })
  (hC:∀(w:World),∀p∈ts,(∃c,PySem.W.codeHdIn (K w.params) c p.1=true)∧(K w.params).lookup p.1=none)
  (F:∀(w:World) (mg:Str→Option Value) (fa:Addr) (h:Heap),(K w.params).In h→h.Ns mainGlobals mg→mg d.name=some (.ref fa) →
   ∃fd:FuncData,(∀(s:Shared) (u:Value),BindsTo s fd ⟨[u],[]⟩ [(x,u)]) ∧
    ∀base:Heap,(K w.params).In base→base.Ns mainGlobals mg→BM mg base→FnOk l.prog w (K w.params) mg base CX k fa fd [x] (sp (K w.params)))
  (hsp:∀(K:PySem.W.Frag) (H:Hp) (a:Addr) (ns:List Int),ns.length≤n→nZ ts H→SqL K H a (ns.map V.int)→sp K [.ref a] H (fun v H'=>v=.bl true∧nZ ts H') fun _ _ _=>False)
  (hCX:∀(H:Hp) (s:Shared) (e:Value) (s':Shared),CX [] H s (fun _ _ _=>False) e s'→False) :
  PySem.W.WalkO q loose XP YP l.row.toRowW d [] (fun f vs=>PySem.call f vs):=
 aLh (K:=K) (CX:=fun _=>CX) (sp:=fun w=>sp (K w.params)) hn hn2 hdf hr ts hnd hY hC F (fun w H a ns h1 h2 h3=>hsp (K w.params) H a ns h1 h2 h3) fun _ H s e s'=>hCX H s e s'
end
inductive FA (K:PySem.W.Frag) (n:Str) (s:Stmt) (f:Addr):Prop
 |mk {od an:Option Addr} {sl:Array (Option Value)} {kV dc pm cd ct:Value}:PySem.W.nsIn K mainGlobals n=some (some (.ref f))→K.lookup f=some ⟨.type "function",od,.func (PySem.W.fnOf n n (defArgs s) (defBody s) (defScope s) .none kV dc pm an cd ct),sl⟩→PySem.W.codeIn K cd n=true→PySem.W.keepIn K (.ref f)=true→FA K n s f
section
variable {K:PySem.W.Frag} {h:Heap} {mg:Str→Option Value} {n:Str} {s:Stmt} {f:Addr} {ps:List Str}
theorem fG (X:K.In h) (G:h.Ns mainGlobals mg) (a:FA K n s f):mg n=some (.ref f):=by
 obtain ⟨a,_,_,_⟩:=a
 exact PySem.W.mg_of X G a
theorem aR (X:K.In h) (G:h.Ns mainGlobals mg) (a:FA K n s f) (b:∀(kV doc pm:Value) (an:Option Addr) (cdv ct:Value) (us:List Value),us.length=ps.length→bindArgs (PySem.W.fnOf n n (defArgs s) (defBody s) (defScope s) .none kV doc pm an cdv ct) ⟨us,[]⟩=pure (ps.zip us)):Dn K mg n s ps:=by
 have m:=fG X G a
 obtain ⟨_,l,c,k⟩:=a
 exact ⟨f,_,fun_mk l c k,(fun_mk l c k).binds b,m⟩
theorem aC9 (X:K.In h) (G:h.Ns mainGlobals mg) (a:FA K n s f):∃f o,(∃u,mg n=some u∧RelV (.ref f) u)∧K.lookup f=some o∧o.cls=.type "function":=by
 have m:=fG X G a
 obtain ⟨_,l,c,k⟩:=a
 exact ⟨f,_,⟨_,m,rfl⟩,l,rfl⟩
end
theorem ln0 {P:List Value→Prop} (h:P []):∀us:List Value,us.length=0→P us
 |[],_=>h
theorem ln1 {P:List Value→Prop} (h:∀a0,P [a0]):∀us:List Value,us.length=1→P us
 |[a0],_=>h a0
theorem ln2 {P:List Value→Prop} (h:∀a0 a1,P [a0,a1]):∀us:List Value,us.length=2→P us
 |[a0,a1],_=>h a0 a1
theorem ln3 {P:List Value→Prop} (h:∀a0 a1 a2,P [a0,a1,a2]):∀us:List Value,us.length=3→P us
 |[a0,a1,a2],_=>h a0 a1 a2
theorem ln4 {P:List Value→Prop} (h:∀a0 a1 a2 a3,P [a0,a1,a2,a3]):∀us:List Value,us.length=4→P us
 |[a0,a1,a2,a3],_=>h a0 a1 a2 a3
theorem ln5 {P:List Value→Prop} (h:∀a0 a1 a2 a3 a4,P [a0,a1,a2,a3,a4]):∀us:List Value,us.length=5→P us
 |[a0,a1,a2,a3,a4],_=>h a0 a1 a2 a3 a4
theorem ln6 {P:List Value→Prop} (h:∀a0 a1 a2 a3 a4 a5,P [a0,a1,a2,a3,a4,a5]):∀us:List Value,us.length=6→P us
 |[a0,a1,a2,a3,a4,a5],_=>h a0 a1 a2 a3 a4 a5
local macro_rules
 |`(tactic| trivial)=>`(tactic| first|exact (fun _ _ _ _ _ _=>ln1 fun _=>rfl)|exact (fun _ _ _ _ _ _=>ln2 fun _ _=>rfl)|exact (fun _ _ _ _ _ _=>ln3 fun _ _ _=>rfl)|exact (fun _ _ _ _ _ _=>ln4 fun _ _ _ _=>rfl)|exact (fun _ _ _ _ _ _=>ln0 rfl)|exact (fun _ _ _ _ _ _=>ln5 fun _ _ _ _ _=>rfl)|exact (fun _ _ _ _ _ _=>ln6 fun _ _ _ _ _ _=>rfl))
theorem txt_mk {K:PySem.W.Frag} {h:Heap} {mg:Str→Option Value} (X:K.In h) (G:h.Ns mainGlobals mg) {w:World} {f0 f1 f2 f3 f4 f5 f6 f7 f8 f9 f10 f11 f12 f13 f14 f15 f16 f17 f18 f19 f20 f21 f22 f23 f24 f25 f26 f27 f28 f29 f30 f31 f32 f33 f34 f35 f36 f37 f38 f39 f40 f41 f42 f43 f44 f45 f46 f47 f48 f49 f50 f51 f52 f53 f54 f55 f56 f57 f58 f59 f60 f61 f62 f63 f64 f65 f66 f67 f68 f69 f70 f71 f72 f73 f74 f75:Addr} {jG:Addr} {cP:Obj} {jF:Array Value} {pL:Nat} {aE6:Tok} {tM:Tok} {tO:Tok} {aEe:Addr} {pI:Obj} {aD9:Array Value} {aLn:Nat} {qG:Addr} {gW:Obj} {pX:Array Value} {aAf:Nat} {aHq:Addr} {uF:Obj} {aG5:Array Value} {aMe:Nat} {wZ:Tok} {wV:Tok} {xR:Tok} {aAr:Tok} {aA3:Tok} {aAw:Tok} {aAv:Tok} {qI:Addr} {pZ:Obj} {aD6:Array DictEntry} {aLc:Nat} {tt14_0:Addr} {to14_0:Obj} {ti14_0:Array Value} {tn14_0:Nat} {tt14_1:Addr} {to14_1:Obj} {ti14_1:Array Value} {tn14_1:Nat} {tt14_2:Addr} {to14_2:Obj} {ti14_2:Array Value} {tn14_2:Nat} {tt14_3:Addr} {to14_3:Obj} {ti14_3:Array Value} {tn14_3:Nat} {tt14_4:Addr} {to14_4:Obj} {ti14_4:Array Value} {tn14_4:Nat} {tt14_5:Addr} {to14_5:Obj} {ti14_5:Array Value} {tn14_5:Nat} {tt14_6:Addr} {to14_6:Obj} {ti14_6:Array Value} {tn14_6:Nat}
  (a0:FA K "is_whole" oE f0)
  (a1:FA K "is_word" rH f1)
  (a2:FA K "is_one_of" nA f2)
  (a3:FA K "is_tuple_of" fY f3)
  (a4:FA K "are_unlike" lB f4)
  (a5:FA K "names_of" pD f5)
  (a6:FA K "is_name" rJ f6)
  (a7:FA K "is_value" oX f7)
  (a8:FA K "kind_of" rC f8)
  (a9:FA K "is_other" oW f9)
  (a10:FA K "is_test" qY f10)
  (a11:FA K "is_pair" rB f11)
  (a12:FA K "is_sum" uI f12)
  (a13:FA K "is_key" uU f13)
  (a14:FA K "is_many" rY f14)
  (a15:FA K "are_tests" mW f15)
  (a16:FA K "are_names" lU f16)
  (a17:FA K "are_group_names" fC f17)
  (a18:FA K "are_pairs" mD f18)
  (a19:FA K "are_sums" oG f19)
  (a20:FA K "are_keys" oZ f20)
  (a21:FA K "may_be_question" dY f21)
  (a22:FA K "has_form" oK f22)
  (a23:FA K "questions_in" iW f23)
  (a24:FA K "own_size" oO f24)
  (a25:FA K "checked" rN f25)
  (a26:FA K "kind_in" rF f26)
  (a27:FA K "need_like_kinds" eZ f27)
  (a28:FA K "need_unlike" jN f28)
  (a29:FA K "table_head" kJ f29)
  (a30:FA K "other_kind" lG f30)
  (a31:FA K "where_head" eU f31)
  (a32:FA K "keep_head" jH f32)
  (a33:FA K "named_head" lE f33)
  (a34:FA K "join_head" dW f34)
  (a35:FA K "sum_kind" pC f35)
  (a36:FA K "group_head" gY f36)
  (a37:FA K "first_head" lH f37)
  (a38:FA K "head_here" lO f38)
  (a39:FA K "head_within" gA f39)
  (a40:FA K "head_of" rM f40)
  (a41:FA K "place_of" oN f41)
  (a42:FA K "places_of" sV f42)
  (a43:FA K "picked" aD4 f43)
  (a44:FA K "rows_by" yM f44)
  (a45:FA K "compares" uX f45)
  (a46:FA K "holds" aHm f46)
  (a47:FA K "where_rows" kW f47)
  (a48:FA K "keep_rows" lY f48)
  (a49:FA K "join_rows" lQ f49)
  (a50:FA K "summed" aCq f50)
  (a51:FA K "group_rows" kI f51)
  (a52:FA K "sorted_by" mO f52)
  (a53:FA K "ordered" rP f53)
  (a54:FA K "first_rows" lC f54)
  (a55:FA K "rows_here" lW f55)
  (a56:FA K "rows_within" dF f56)
  (a57:FA K "in_answer_order" eN f57)
  (a58:FA K "rows_of" rK f58)
  (a59:FA K "whole" aBi f59)
  (a60:FA K "_law_seed" mK f60)
  (a61:FA K "_law_begin" lM f61)
  (a62:FA K "_law_next" nG f62)
  (a63:FA K "_law_words" kE f63)
  (a64:FA K "_law_names" gR f64)
  (a65:FA K "_law_great" kO f65)
  (a66:FA K "_law_value" lF f66)
  (a67:FA K "_law_head" nH f67)
  (a68:FA K "_law_row" lL f68)
  (a69:FA K "_law_some" jE f69)
  (a70:FA K "_law_keys" jB f70)
  (a71:FA K "_law_at" sJ f71)
  (a72:FA K "_law_same" mV f72)
  (a73:FA K "_law_ahead" lK f73)
  (a74:FA K "_law_in_order" dI f74)
  (a75:FA K "law" aDh f75)
  (q0:PySem.W.nsIn K mainGlobals "QUESTION_WORDS"=some (some (.ref jG))) (r0:K.lookup jG=some cP) (t0:cP.cls=.type "tuple") (y0:cP.dict=none) (u0:cP.data=.seq jF pL) (v0:Vals [.str "and",.str "by",.str "count",.str "down",.str "first",.str "group",.str "join",.str "keep",.str "least",.str "most",.str "named",.str "on",.str "sum",.str "table",.str "up",.str "where",.str "with"] jF.toList)
  (q1:PySem.W.nsIn K mainGlobals "LETTERS"=some (some (.str "abcdefghijklmnopqrstuvwxyz" aE6)))
  (q2:PySem.W.nsIn K mainGlobals "MOST_LETTERS"=some (some (.int 8 tM)))
  (q3:PySem.W.nsIn K mainGlobals "MOST_COLUMNS"=some (some (.int 8 tO)))
  (q4:PySem.W.nsIn K mainGlobals "SIGNS"=some (some (.ref aEe))) (r4:K.lookup aEe=some pI) (t4:pI.cls=.type "tuple") (y4:pI.dict=none) (u4:pI.data=.seq aD9 aLn) (v4:Vals [.str "=",.str "<",.str ">",.str "!"] aD9.toList)
  (q5:PySem.W.nsIn K mainGlobals "SUM_WORDS"=some (some (.ref qG))) (r5:K.lookup qG=some gW) (t5:gW.cls=.type "tuple") (y5:gW.dict=none) (u5:gW.data=.seq pX aAf) (v5:Vals [.str "count",.str "sum",.str "least",.str "most"] pX.toList)
  (q6:PySem.W.nsIn K mainGlobals "WAYS"=some (some (.ref aHq))) (r6:K.lookup aHq=some uF) (t6:uF.cls=.type "tuple") (y6:uF.dict=none) (u6:uF.data=.seq aG5 aMe) (v6:Vals [.str "up",.str "down"] aG5.toList)
  (q7:PySem.W.nsIn K mainGlobals "MOST_TESTS"=some (some (.int 3 wZ)))
  (q8:PySem.W.nsIn K mainGlobals "MOST_NAMES"=some (some (.int 8 wV)))
  (q9:PySem.W.nsIn K mainGlobals "MOST_PAIRS"=some (some (.int 3 xR)))
  (q10:PySem.W.nsIn K mainGlobals "MOST_SUMS"=some (some (.int 4 aAr)))
  (q11:PySem.W.nsIn K mainGlobals "MOST_KEYS"=some (some (.int 3 aA3)))
  (q12:PySem.W.nsIn K mainGlobals "MOST_ROWS"=some (some (.int 60 aAw)))
  (q13:PySem.W.nsIn K mainGlobals "MOST_SIZE"=some (some (.int 20 aAv)))
  (q14:PySem.W.nsIn K mainGlobals "FORMS"=some (some (.ref qI))) (r14:K.lookup qI=some pZ) (x14:pZ.ExactDict) (o14:(qI == sysModules)=false) (u14:pZ.data=.dict aD6 aLc) (h14:∀P:Program,PH P w aD6.toList [("table",Value.ref tt14_0),("where",Value.ref tt14_1),("keep",Value.ref tt14_2),("named",Value.ref tt14_3),("join",Value.ref tt14_4),("group",Value.ref tt14_5),("first",Value.ref tt14_6)])
  (r14_0:K.lookup tt14_0=some to14_0) (t14_0:to14_0.cls=.type "tuple") (y14_0:to14_0.dict=none) (u14_0:to14_0.data=.seq ti14_0 tn14_0) (v14_0:Vals [.ref f6] ti14_0.toList)
  (r14_1:K.lookup tt14_1=some to14_1) (t14_1:to14_1.cls=.type "tuple") (y14_1:to14_1.dict=none) (u14_1:to14_1.data=.seq ti14_1 tn14_1) (v14_1:Vals [.ref f21,.ref f15] ti14_1.toList)
  (r14_2:K.lookup tt14_2=some to14_2) (t14_2:to14_2.cls=.type "tuple") (y14_2:to14_2.dict=none) (u14_2:to14_2.data=.seq ti14_2 tn14_2) (v14_2:Vals [.ref f21,.ref f16] ti14_2.toList)
  (r14_3:K.lookup tt14_3=some to14_3) (t14_3:to14_3.cls=.type "tuple") (y14_3:to14_3.dict=none) (u14_3:to14_3.data=.seq ti14_3 tn14_3) (v14_3:Vals [.ref f21,.ref f16] ti14_3.toList)
  (r14_4:K.lookup tt14_4=some to14_4) (t14_4:to14_4.cls=.type "tuple") (y14_4:to14_4.dict=none) (u14_4:to14_4.data=.seq ti14_4 tn14_4) (v14_4:Vals [.ref f21,.ref f21,.ref f18] ti14_4.toList)
  (r14_5:K.lookup tt14_5=some to14_5) (t14_5:to14_5.cls=.type "tuple") (y14_5:to14_5.dict=none) (u14_5:to14_5.data=.seq ti14_5 tn14_5) (v14_5:Vals [.ref f21,.ref f17,.ref f19] ti14_5.toList)
  (r14_6:K.lookup tt14_6=some to14_6) (t14_6:to14_6.cls=.type "tuple") (y14_6:to14_6.dict=none) (u14_6:to14_6.data=.seq ti14_6 tn14_6) (v14_6:Vals [.ref f21,.ref f20,.ref f14] ti14_6.toList)
  (z0:PySem.W.nsIn K mainGlobals "abs"=some none)
  (z1:PySem.W.nsIn K mainGlobals "all"=some none)
  (z2:PySem.W.nsIn K mainGlobals "any"=some none)
  (z3:PySem.W.nsIn K mainGlobals "bool"=some none)
  (z4:PySem.W.nsIn K mainGlobals "divmod"=some none)
  (z5:PySem.W.nsIn K mainGlobals "enumerate"=some none)
  (z6:PySem.W.nsIn K mainGlobals "int"=some none)
  (z7:PySem.W.nsIn K mainGlobals "isinstance"=some none)
  (z8:PySem.W.nsIn K mainGlobals "len"=some none)
  (z9:PySem.W.nsIn K mainGlobals "list"=some none)
  (z10:PySem.W.nsIn K mainGlobals "max"=some none)
  (z11:PySem.W.nsIn K mainGlobals "min"=some none)
  (z12:PySem.W.nsIn K mainGlobals "range"=some none)
  (z13:PySem.W.nsIn K mainGlobals "reversed"=some none)
  (z14:PySem.W.nsIn K mainGlobals "set"=some none)
  (z15:PySem.W.nsIn K mainGlobals "sorted"=some none)
  (z16:PySem.W.nsIn K mainGlobals "str"=some none)
  (z17:PySem.W.nsIn K mainGlobals "sum"=some none)
  (z18:PySem.W.nsIn K mainGlobals "tuple"=some none)
  (z19:PySem.W.nsIn K mainGlobals "zip"=some none):Txt w K mg:=
 ⟨PySem.W.mg_none_of X G z0,
  PySem.W.mg_none_of X G z1,
  PySem.W.mg_none_of X G z2,
  PySem.W.mg_none_of X G z3,
  PySem.W.mg_none_of X G z4,
  PySem.W.mg_none_of X G z5,
  PySem.W.mg_none_of X G z6,
  PySem.W.mg_none_of X G z7,
  PySem.W.mg_none_of X G z8,
  PySem.W.mg_none_of X G z9,
  PySem.W.mg_none_of X G z10,
  PySem.W.mg_none_of X G z11,
  PySem.W.mg_none_of X G z12,
  PySem.W.mg_none_of X G z13,
  PySem.W.mg_none_of X G z14,
  PySem.W.mg_none_of X G z15,
  PySem.W.mg_none_of X G z16,
  PySem.W.mg_none_of X G z17,
  PySem.W.mg_none_of X G z18,
  PySem.W.mg_none_of X G z19,
  ⟨_,PySem.W.mg_of X G q0,fun H=>.inr ⟨_,_,_,r0,t0,y0,u0,by have e:=v0.length;simp only [Array.length_toList] at e;rw [←e];exact small (by decide),v0⟩⟩,
  ⟨_,PySem.W.mg_of X G q1,_,rfl⟩,
  ⟨_,PySem.W.mg_of X G q2,_,rfl⟩,
  ⟨_,PySem.W.mg_of X G q3,_,rfl⟩,
  ⟨_,PySem.W.mg_of X G q4,fun H=>.inr ⟨_,_,_,r4,t4,y4,u4,by have e:=v4.length;simp only [Array.length_toList] at e;rw [←e];exact small (by decide),v4⟩⟩,
  ⟨_,PySem.W.mg_of X G q5,fun H=>.inr ⟨_,_,_,r5,t5,y5,u5,by have e:=v5.length;simp only [Array.length_toList] at e;rw [←e];exact small (by decide),v5⟩⟩,
  ⟨_,PySem.W.mg_of X G q6,fun H=>.inr ⟨_,_,_,r6,t6,y6,u6,by have e:=v6.length;simp only [Array.length_toList] at e;rw [←e];exact small (by decide),v6⟩⟩,
  ⟨_,PySem.W.mg_of X G q7,_,rfl⟩,
  ⟨_,PySem.W.mg_of X G q8,_,rfl⟩,
  ⟨_,PySem.W.mg_of X G q9,_,rfl⟩,
  ⟨_,PySem.W.mg_of X G q10,_,rfl⟩,
  ⟨_,PySem.W.mg_of X G q11,_,rfl⟩,
  ⟨_,PySem.W.mg_of X G q12,_,rfl⟩,
  ⟨_,PySem.W.mg_of X G q13,_,rfl⟩,
  ⟨qI,tt14_0,tt14_1,tt14_2,tt14_3,tt14_4,tt14_5,tt14_6,PySem.W.mg_of X G q14,⟨pZ,r14,o14,fun P=>aI3 x14 u14 (h14 P) (by show (List.map (fun x:Str × Value=>x.1) [("table",Value.ref tt14_0),("where",Value.ref tt14_1),("keep",Value.ref tt14_2),("named",Value.ref tt14_3),("join",Value.ref tt14_4),("group",Value.ref tt14_5),("first",Value.ref tt14_6)]).Nodup;exact (by decide +kernel:(["table","where","keep","named","join","group","first"]:List Str).Nodup))⟩,⟨f6,fun H=>.inr ⟨_,_,_,r14_0,t14_0,y14_0,u14_0,by have e:=v14_0.length;simp only [Array.length_toList] at e;rw [←e];exact small (by show 1≤1000;decide),v14_0⟩,fG X G a6⟩,⟨f21,f15,fun H=>.inr ⟨_,_,_,r14_1,t14_1,y14_1,u14_1,by have e:=v14_1.length;simp only [Array.length_toList] at e;rw [←e];exact small (by show 2≤1000;decide),v14_1⟩,fG X G a21,fG X G a15⟩,⟨f21,f16,fun H=>.inr ⟨_,_,_,r14_2,t14_2,y14_2,u14_2,by have e:=v14_2.length;simp only [Array.length_toList] at e;rw [←e];exact small (by show 2≤1000;decide),v14_2⟩,fG X G a21,fG X G a16⟩,⟨f21,f16,fun H=>.inr ⟨_,_,_,r14_3,t14_3,y14_3,u14_3,by have e:=v14_3.length;simp only [Array.length_toList] at e;rw [←e];exact small (by show 2≤1000;decide),v14_3⟩,fG X G a21,fG X G a16⟩,⟨f21,f21,f18,fun H=>.inr ⟨_,_,_,r14_4,t14_4,y14_4,u14_4,by have e:=v14_4.length;simp only [Array.length_toList] at e;rw [←e];exact small (by show 3≤1000;decide),v14_4⟩,fG X G a21,fG X G a21,fG X G a18⟩,⟨f21,f17,f19,fun H=>.inr ⟨_,_,_,r14_5,t14_5,y14_5,u14_5,by have e:=v14_5.length;simp only [Array.length_toList] at e;rw [←e];exact small (by show 3≤1000;decide),v14_5⟩,fG X G a21,fG X G a17,fG X G a19⟩,⟨f21,f20,f14,fun H=>.inr ⟨_,_,_,r14_6,t14_6,y14_6,u14_6,by have e:=v14_6.length;simp only [Array.length_toList] at e;rw [←e];exact small (by show 3≤1000;decide),v14_6⟩,fG X G a21,fG X G a20,fG X G a14⟩⟩,
  aC9 X G a6,
  aC9 X G a10,
  aC9 X G a11,
  aC9 X G a12,
  aC9 X G a13,
  aR X G a0 (by trivial),
  aR X G a1 (by trivial),
  aR X G a2 (by trivial),
  aR X G a3 (by trivial),
  aR X G a4 (by trivial),
  aR X G a5 (by trivial),
  aR X G a6 (by trivial),
  aR X G a7 (by trivial),
  aR X G a8 (by trivial),
  aR X G a9 (by trivial),
  aR X G a10 (by trivial),
  aR X G a11 (by trivial),
  aR X G a12 (by trivial),
  aR X G a13 (by trivial),
  aR X G a14 (by trivial),
  aR X G a15 (by trivial),
  aR X G a16 (by trivial),
  aR X G a17 (by trivial),
  aR X G a18 (by trivial),
  aR X G a19 (by trivial),
  aR X G a20 (by trivial),
  aR X G a21 (by trivial),
  aR X G a22 (by trivial),
  aR X G a23 (by trivial),
  aR X G a24 (by trivial),
  aR X G a25 (by trivial),
  aR X G a26 (by trivial),
  aR X G a27 (by trivial),
  aR X G a28 (by trivial),
  aR X G a29 (by trivial),
  aR X G a30 (by trivial),
  aR X G a31 (by trivial),
  aR X G a32 (by trivial),
  aR X G a33 (by trivial),
  aR X G a34 (by trivial),
  aR X G a35 (by trivial),
  aR X G a36 (by trivial),
  aR X G a37 (by trivial),
  aR X G a38 (by trivial),
  aR X G a39 (by trivial),
  aR X G a40 (by trivial),
  aR X G a41 (by trivial),
  aR X G a42 (by trivial),
  aR X G a43 (by trivial),
  aR X G a44 (by trivial),
  aR X G a45 (by trivial),
  aR X G a46 (by trivial),
  aR X G a47 (by trivial),
  aR X G a48 (by trivial),
  aR X G a49 (by trivial),
  aR X G a50 (by trivial),
  aR X G a51 (by trivial),
  aR X G a52 (by trivial),
  aR X G a53 (by trivial),
  aR X G a54 (by trivial),
  aR X G a55 (by trivial),
  aR X G a56 (by trivial),
  aR X G a57 (by trivial),
  aR X G a58 (by trivial),
  aR X G a59 (by trivial),
  aR X G a60 (by trivial),
  aR X G a61 (by trivial),
  aR X G a62 (by trivial),
  aR X G a63 (by trivial),
  aR X G a64 (by trivial),
  aR X G a65 (by trivial),
  aR X G a66 (by trivial),
  aR X G a67 (by trivial),
  aR X G a68 (by trivial),
  aR X G a69 (by trivial),
  aR X G a70 (by trivial),
  aR X G a71 (by trivial),
  aR X G a72 (by trivial),
  aR X G a73 (by trivial),
  aR X G a74 (by trivial),
  aR X G a75 (by trivial)⟩
end My
open PySem PySem.W PyProof.Rows
def PySem.W.Fast.tw13358022145062155007:=0
def PySem.W.Fast.tw4173577715901189110:=0
def PySem.W.Fast.tw14556682242595560472:=0
def PySem.W.Fast.tw12082116760912255746:=0
def PySem.W.Fast.tw9217305584884297307:=0
def PySem.W.Fast.tw2670556487877799387:=0
def PySem.W.Fast.tw14030129098515531780:=0
def PySem.W.Fast.tw12463551890936125375:=0
def PySem.W.Fast.tw18335408707263191512:=0
def PySem.W.Fast.tw12424678498368346583:=0
def PySem.W.Fast.tw5389888589928179139:=0
def PySem.W.Fast.tw14743058918582358652:=0
def PySem.W.Fast.tw8948037795664040400:=0
def PySem.W.Fast.tw3223231747477063883:=0
def PySem.W.Fast.tw15489327363239225220:=0
def PySem.W.Fast.tw10199569158938735904:=0
def PySem.W.Fast.tw17846260345849117378:=0
def PySem.W.Fast.tw15842480972387022867:=0
def PySem.W.Fast.tw11149689240292451764:=0
def PySem.W.Fast.tw144607878823912746:=0
def PySem.W.Fast.tw15996822728245770356:=0
def PySem.W.Fast.tw14308129977176079842:=0
def PySem.W.Fast.tw5126828227801625220:=0
def PySem.W.Fast.tw6087804040702004627:=0
def PySem.W.Fast.tw14658448264457340169:=0
def PySem.W.Fast.tw13707799008435744538:=0
def PySem.W.Fast.tw7775260731103664331:=0
def PySem.W.Fast.tw1991659262598821834:=0
def PySem.W.Fast.tw1084076612492380300:=0
def PySem.W.Fast.tw5123525015547355878:=0
def PySem.W.Fast.tw2462744264514450818:=0
def PySem.W.Fast.tw17225290430641017237:=0
def PySem.W.Fast.tw5419300341861442010:=0
def PySem.W.Fast.tw2319237643071261173:=0
def PySem.W.Fast.tw580997696164850243:=0
def PySem.W.Fast.tw12804428750739868159:=0
def PySem.W.Fast.tw4781441422459672253:=0
def PySem.W.Fast.tw14523033085456945183:=0
def PySem.W.Fast.tw3319661757765249636:=0
def PySem.W.Fast.tw12859959802980565909:=0
def PySem.W.Fast.tw17430923106884172228:=0
def PySem.W.Fast.tw9362234625347995979:=0
def PySem.W.Fast.tw5275951948908002798:=0
def PySem.W.Fast.tw8125185055733141180:=0
def PySem.W.Fast.tw16885782026432083843:=0
def PySem.W.Fast.tw6083731310953258753:=0
def PySem.W.Fast.tw11918731506673887190:=0
def PySem.W.Fast.tw3063132491142120482:=0
def PySem.W.Fast.tw502641673423441872:=0
def PySem.W.Fast.tw5447779057739483403:=0
def PySem.W.Fast.tw3067270269285968575:=0
def PySem.W.Fast.tw2276737894920405117:=0
def PySem.W.Fast.tw11171981743835034114:=0
def PySem.W.Fast.tw17842212583986402579:=0
def PySem.W.Fast.tw1261420170633920871:=0
def PySem.W.Fast.tw7895650014290667887:=0
def PySem.W.Fast.tw10957876512978621120:=0
def PySem.W.Fast.tw9324784122280698743:=0
def PySem.W.Fast.tw11249084612797204955:=0
def PySem.W.Fast.tw11500268629023971260:=0
def PySem.W.Fast.tw7155630370378945231:=0
def PySem.W.Fast.tw4731174626924861318:=0
def PySem.W.Fast.tw5993563760740646437:=0
def PySem.W.Fast.tw7894068980113207607:=0
def PySem.W.Fast.tw12926199211223859343:=0
def PySem.W.Fast.tw3083382999851605645:=0
def PySem.W.Fast.tw412623060724102841:=0
def PySem.W.Fast.tw4009023407039310198:=0
def PySem.W.Fast.tw16544547501024066596:=0
def PySem.W.Fast.tw14785886801946049502:=0
def PySem.W.Fast.tw11309731489551089738:=0
def PySem.W.Fast.tw10407424852789768962:=0
def PySem.W.Fast.tw17830742924568174064:=0
def PySem.W.Fast.tw6331129844663923307:=0
def PySem.W.Fast.tw7848565350862846839:=0
def PySem.W.Fast.tw8147856783159219475:=0
def PySem.W.Fast.tw15690790920918141575:=0
def PySem.W.Fast.tw814296382925079238:=0
def PySem.W.Fast.tw2673200144028697546:=0
def PySem.W.Fast.tw16085699132857475897:=0
def PySem.W.Fast.tw11623846365925276735:=0
def PySem.W.Fast.tw10802108784833695300:=0
def PySem.W.Fast.tw17958824268608045589:=0
def PySem.W.Fast.tw17993007621966291755:=0
def PySem.W.Fast.tw10810713627791355879:=0
def PySem.W.Fast.tw11932661647528989372:=0
def PySem.W.Fast.tw5266129257587359897:=0
def PySem.W.Fast.tw1431599259084364457:=0
def PySem.W.Fast.tw1515027304679551746:=0
def PySem.W.Fast.tw14106370755514539228:=0
def PySem.W.Fast.tw11900271324246767086:=0
def PySem.W.Fast.tw14965099956106036330:=0
def PySem.W.Fast.tw12456964664822553997:=0
def PySem.W.Fast.tw4140219734899901254:=0
def PySem.W.Fast.tw1459706291080952564:=0
def PySem.W.Fast.tw5152463786324394185:=0
def PySem.W.Fast.tw7884184933340482582:=0
def PySem.W.Fast.tw5184257929415806127:=0
def PySem.W.Fast.tw14192133215814591371:=0
def PySem.W.Fast.tw18123517166849828213:=0
def PySem.W.Fast.tw1774218599879762289:=0
def PySem.W.Fast.tw11863569685607837975:=0
def PySem.W.Fast.tw9643842239971373328:=0
def PySem.W.Fast.tw4915194606894407278:=0
def PySem.W.Fast.tw1324984668942994902:=0
def PySem.W.Fast.tw10521555772571443375:=0
def PySem.W.Fast.tw2798001331194046406:=0
def PySem.W.Fast.tw11461566414380974356:=0
def PySem.W.Fast.tw17221765731190702690:=0
def PySem.W.Fast.tw13645825014391602381:=0
def PySem.W.Fast.tw13339043310210896264:=0
def PySem.W.Fast.tw4302561812793457636:=0
def PySem.W.Fast.tw12059145875427297202:=0
def PySem.W.Fast.tw15531179228561784169:=0
def PySem.W.Fast.tw11277620216478461955:=0
def PySem.W.Fast.tw11657372728155695375:=0
def PySem.W.Fast.tw6657658423658353850:=0
def PySem.W.Fast.tw11228468447812907549:=0
def PySem.W.Fast.tw12389237581092988896:=0
def PySem.W.Fast.tw14796780734059568779:=0
def PySem.W.Fast.tw11166447240941776166:=0
def PySem.W.Fast.tw6004545457050492072:=0
def PySem.W.Fast.tw3886760096747432103:=0
def PySem.W.Fast.tw4106117098529162173:=0
def PySem.W.Fast.tw9110096802174772065:=0
def PySem.W.Fast.tw1347364897931052907:=0
def PySem.W.Fast.tw11403472505900614715:=0
def PySem.W.Fast.tw7382986992380569710:=0
def PySem.W.Fast.tw2179639558915737922:=0
def PySem.W.Fast.tw15461369804872162002:=0
def PySem.W.Fast.tw6077157498227932678:=0
def PySem.W.Fast.tw5459921290978323416:=0
def PySem.W.Fast.tw7742781755091878554:=0
def PySem.W.Fast.tw13141665060721344558:=0
def PySem.W.Fast.tw10231950667992049912:=0
def PySem.W.Fast.tw9617717209383423432:=0
def PySem.W.Fast.tw18129926532359677379:=0
def PySem.W.Fast.tw7508600030286451:=0
def PySem.W.Fast.tw1063776912298822459:=0
def PySem.W.Fast.tw17149747773311292747:=0
def PySem.W.Fast.tw9636296992733140350:=0
def PySem.W.Fast.tw15179998760244471655:=0
def PySem.W.Fast.tw6988775191065660548:=0
def PySem.W.Fast.tw10366073431535308680:=0
def PySem.W.Fast.tw10382885679101509520:=0
def PySem.W.Fast.tw128815777761453375:=0
def PySem.W.Fast.tw13350862572726570079:=0
def PySem.W.Fast.tw6109474439076860468:=0
def PySem.W.Fast.tw11771299595631487394:=0
def PySem.W.Fast.tw12777925603351009917:=0
def PySem.W.Fast.tw1654664484574991585:=0
def PySem.W.Fast.tw15016633295109282854:=0
def PySem.W.Fast.tw5892981989777224843:=0
def PySem.W.Fast.tw2340401911031894071:=0
def PySem.W.Fast.tw12318850895615801938:=0
def PySem.W.Fast.tw1632326622559223337:=0
def PySem.W.Fast.tw224230419791534342:=0
def PySem.W.Fast.tw4613552103852015759:=0
def PySem.W.Fast.tw15783118500315356819:=0
def PySem.W.Fast.tw12102275052970849334:=0
def PySem.W.Fast.tw7532223370280383448:=0
def PySem.W.Fast.tw12293364442130485077:=0
def PySem.W.Fast.tw9566972423350029870:=0
def PySem.W.Fast.tw4875794424391300169:=0
def PySem.W.Fast.tw15519199434884883703:=0
def PySem.W.Fast.tw8987155484969249984:=0
def PySem.W.Fast.tw16848956440370662057:=0
def PySem.W.Fast.tw6263897604105191830:=0
def PySem.W.Fast.tw730275965512428760:=0
def PySem.W.Fast.tw2766618102923082620:=0
def PySem.W.Fast.tw4108814492868972377:=0
def PySem.W.Fast.tw14336531888188521913:=0
def PySem.W.Fast.tw8851509839878522306:=0
def PySem.W.Fast.tw15485097876705612187:=0
def PySem.W.Fast.tw14497740152680088580:=0
def PySem.W.Fast.tw3484056543394177077:=0
def PySem.W.Fast.tw17430778352690144953:=0
def PySem.W.Fast.tw7373183523318364922:=0
def PySem.W.Fast.tw13878694457398677917:=0
def PySem.W.Fast.tw6248354042465953226:=0
def PySem.W.Fast.tw13925514909722471700:=0
def PySem.W.Fast.tw17442282239221275404:=0
def PySem.W.Fast.tw5051440107694986716:=0
def PySem.W.Fast.tw16773480779613536382:=0
def PySem.W.Fast.tw4367526981243641224:=0
def PySem.W.Fast.tw9540009472379145275:=0
def PySem.W.Fast.tw11821231668571898402:=0
def PySem.W.Fast.tw6657060889685157471:=0
def PySem.W.Fast.tw1668899299839015579:=0
def PySem.W.Fast.tw6491360484178437114:=0
def PySem.W.Fast.tw9294344161474040587:=0
def PySem.W.Fast.tw8176239743725856438:=0
def PySem.W.Fast.tw2453540514324209464:=0
def PySem.W.Fast.tw4126021154133721101:=0
def PySem.W.Fast.tw7137526369178158311:=0
def PySem.W.Fast.tw16049254764298060438:=0
def PySem.W.Fast.tw6770675875163435302:=0
def PySem.W.Fast.tw9881203472106135994:=0
def PySem.W.Fast.tw8421388230353127899:=0
def PySem.W.Fast.tw2863695885804257731:=0
def PySem.W.Fast.tw4282851945877306923:=0
def PySem.W.Fast.tw3910424920687493227:=0
def PySem.W.Fast.tw10912621456595753769:=0
def PySem.W.Fast.tw6284749996897816421:=0
def PySem.W.Fast.tw4639947975827515982:=0
def PySem.W.Fast.tw12635166719725640403:=0
def PySem.W.Fast.tw11338864507870801189:=0
def PySem.W.Fast.tw7616920300103655203:=0
def PySem.W.Fast.tw10763374296097702317:=0
def PySem.W.Fast.tw11768862593901731727:=0
def PySem.W.Fast.tw8192415885435237802:=0
def PySem.W.Fast.tw10141841192122746500:=0
def PySem.W.Fast.tw10713346011917389008:=0
def PySem.W.Fast.tw17236425831566647182:=0
def PySem.W.Fast.tw3967869208480128021:=0
def PySem.W.Fast.tw12927969247007302024:=0
def PySem.W.Fast.tw2915291451061335499:=0
def PySem.W.Fast.tw30184469611964485:=0
def PySem.W.Fast.tw15993862156130442852:=0
def PySem.W.Fast.tw9009496582392817570:=0
def PySem.W.Fast.tw4253518627689327746:=0
def PySem.W.Fast.tw13144537682479126952:=0
def PySem.W.Fast.tw10393472614161455106:=0
def PySem.W.Fast.tw9624318667187916036:=0
def PySem.W.Fast.tw6063485224915930737:=0
def PySem.W.Fast.tw4972211224085080732:=0
def PySem.W.Fast.tw5174364854348518460:=0
def PySem.W.Fast.tw17971715450700610693:=0
def PySem.W.Fast.tw17844786875237267180:=0
def PySem.W.Fast.tw5838497702841507967:=0
def PySem.W.Fast.tw8962628420135147575:=0
def PySem.W.Fast.tw11285045239606687039:=0
def PySem.W.Fast.tw9087321899684919746:=0
def PySem.W.Fast.tw2574198417769250043:=0
def PySem.W.Fast.tw11703099298108299533:=0
def PySem.W.Fast.tw5263814041704076662:=0
def PySem.W.Fast.tw17886320140342232605:=0
def PySem.W.Fast.tw1902493503220710802:=0
def PySem.W.Fast.tw10940437976460193609:=0
def PySem.W.Fast.tw17470183481665927324:=0
def PySem.W.Fast.tw8847466037326724898:=0
def PySem.W.Fast.tw14073832873684832983:=0
def PySem.W.Fast.tw17163189802325977215:=0
def PySem.W.Fast.tw9415480891872966778:=0
def PySem.W.Fast.tw17862493290655611366:=0
def PySem.W.Fast.tw1008751870654193317:=0
def PySem.W.Fast.tw2913072338101220257:=0
def PySem.W.Fast.tw17904836854568787821:=0
def PySem.W.Fast.tw16977610279189943437:=0
def PySem.W.Fast.tw7943274768383878816:=0
def PySem.W.Fast.tw465069014461336954:=0
def PySem.W.Fast.tw14758740115320355033:=0
def PySem.W.Fast.tw17241172615251111017:=0
def PySem.W.Fast.tw2110356639715643314:=0
def PySem.W.Fast.tw8887594193685140947:=0
def PySem.W.Fast.tw15092617617865759276:=0
def PySem.W.Fast.tw6502947417675907218:=0
def PySem.W.Fast.tw6874210281732186403:=0
def PySem.W.Fast.tw11894354468448908619:=0
def PySem.W.Fast.tw10698801706058863782:=0
def PySem.W.Fast.tw16262169049132335013:=0
def PySem.W.Fast.tw1627390601981370357:=0
def PySem.W.Fast.tw1986233091260647002:=0
def PySem.W.Fast.tw6152110381646942059:=0
def PySem.W.Fast.tw15216070526018999051:=0
def PySem.W.Fast.tw1325696958839012822:=0
def PySem.W.Fast.tw11473181178721199516:=0
def PySem.W.Fast.tw16173685607067446513:=0
def PySem.W.Fast.tw15999455057400072895:=0
def PySem.W.Fast.tw16341975854740174044:=0
def PySem.W.Fast.tw13798805923754019688:=0
def PySem.W.Fast.tw10150932764447967076:=0
def PySem.W.Fast.tw1346344450879797802:=0
def PySem.W.Fast.tw17347940420652669632:=0
def PySem.W.Fast.tw14049440284777374391:=0
def PySem.W.Fast.tw6974121268158626136:=0
def PySem.W.Fast.tw13894057232291890787:=0
def PySem.W.Fast.tw17342837690728016177:=0
def PySem.W.Fast.tw14885199012119001938:=0
def PySem.W.Fast.tw8379847571887316371:=0
def PySem.W.Fast.tw17346125819103193865:=0
def PySem.W.Fast.tw16673588166339326155:=0
def PySem.W.Fast.tw2686933786055922197:=0
def PySem.W.Fast.tw7792377253789844153:=0
def PySem.W.Fast.tw12248226788475302611:=0
def PySem.W.Fast.tw6546169202114732326:=0
def PySem.W.Fast.tw1443934247789427927:=0
def PySem.W.Fast.tw11620106040941207672:=0
def PySem.W.Fast.tw2516768063212224569:=0
def PySem.W.Fast.tw3096312328773007817:=0
def PySem.W.Fast.tw17858236780969949782:=0
def PySem.W.Fast.tw11501244892720309243:=0
def PySem.W.Fast.tw1775180205536073103:=0
def PySem.W.Fast.tw17074317957286088203:=0
def PySem.W.Fast.tw15920413342909978640:=0
def PySem.W.Fast.tw15125519421759391506:=0
def PySem.W.Fast.tw9329031557176272592:=0
def PySem.W.Fast.tw7593615333243221997:=0
def PySem.W.Fast.tw15169393167622559219:=0
def PySem.W.Fast.tw16886699381873382590:=0
def PySem.W.Fast.tw6291029587911406076:=0
def PySem.W.Fast.tw5159590774322179104:=0
def PySem.W.Fast.tw6846782790711175772:=0
def PySem.W.Fast.tw12517890018477594570:=0
def PySem.W.Fast.tw4306644872207799590:=0
def PySem.W.Fast.tw15162252770341505787:=0
def PySem.W.Fast.tw3084819469111671762:=0
def PySem.W.Fast.tw7330718481490355337:=0
def PySem.W.Fast.tw17581201504820196861:=0
def PySem.W.Fast.tw15706835554345145454:=0
def PySem.W.Fast.tw5570747771710240372:=0
def PySem.W.Fast.tw9513785797179964267:=0
def PySem.W.Fast.tw484021462037846518:=0
def PySem.W.Fast.tw15507146908510507145:=0
def PySem.W.Fast.tw11956980520851857251:=0
def PySem.W.Fast.tw12704513997897654372:=0
def PySem.W.Fast.tw5368438412632581509:=0
def PySem.W.Fast.tw5941152881982380905:=0
def PySem.W.Fast.tw15387013072894531219:=0
def PySem.W.Fast.tw6922491996432000529:=0
def PySem.W.Fast.tw13307263600800833859:=0
def PySem.W.Fast.tw16489040190763779076:=0
def PySem.W.Fast.tw16811132218541158191:=0
def PySem.W.Fast.tw14828609768970978179:=0
def PySem.W.Fast.tw1872883190057820416:=0
def PySem.W.Fast.tw14610805672474574787:=0
def PySem.W.Fast.tw16792291690901505692:=0
def PySem.W.Fast.tw9060918547770724571:=0
def PySem.W.Fast.tw17194783648454889274:=0
def PySem.W.Fast.tw12720887097840798373:=0
def PySem.W.Fast.tw6491369109524375871:=0
def PySem.W.Fast.tw5592951561836208947:=0
def PySem.W.Fast.tw17448564178660943538:=0
def PySem.W.Fast.tw8464298095662102950:=0
def PySem.W.Fast.tw14953504563797429566:=0
def PySem.W.Fast.tw14576602753516393909:=0
def PySem.W.Fast.tw5052008944206770496:=0
def PySem.W.Fast.tw5752679024001859872:=0
def PySem.W.Fast.tw3878706189032094126:=0
def PySem.W.Fast.tw15306351367380663847:=0
def PySem.W.Fast.tw13111853597050074090:=0
def PySem.W.Fast.tw3044200496771326750:=0
def PySem.W.Fast.tw11532285880246547027:=0
def PySem.W.Fast.tw16543092722763338429:=0
def PySem.W.Fast.tw11277498323423698618:=0
def PySem.W.Fast.tw18083799581933805787:=0
def PySem.W.Fast.tw11009582728415110211:=0
def PySem.W.Fast.tw17162280562819896988:=0
def PySem.W.Fast.tw11989179461823993680:=0
def PySem.W.Fast.tw12627370098558878968:=0
def PySem.W.Fast.tw687671616987265457:=0
def PySem.W.Fast.tw5403174475448770637:=0
def PySem.W.Fast.tw9118605912630346235:=0
def PySem.W.Fast.tw9835839668032608636:=0
def PySem.W.Fast.tw3279269212587238882:=0
def PySem.W.Fast.tw14188954450894024182:=0
def PySem.W.Fast.tw1268043600136809004:=0
def PySem.W.Fast.tw5508362435749830937:=0
def PySem.W.Fast.tw12175535181189767528:=0
def PySem.W.Fast.tw2358158337426200558:=0
def PySem.W.Fast.tw5482753476823740428:=0
def PySem.W.Fast.tw7571405688402498956:=0
def PySem.W.Fast.tw1342073474475935743:=0
def PySem.W.Fast.tw615151368244044434:=0
def PySem.W.Fast.tw3277407661827894059:=0
def PySem.W.Fast.tw14694493607039544183:=0
def PySem.W.Fast.tw13835735245680285837:=0
def PySem.W.Fast.tw12649614095646424911:=0
def PySem.W.Fast.tw17178316723223420938:=0
def PySem.W.Fast.tw440329587578787479:=0
def PySem.W.Fast.tw11328332934385013969:=0
def PySem.W.Fast.tw2535086553413444212:=0
def PySem.W.Fast.tw10404274101167479746:=0
def PySem.W.Fast.tw10547757841564437089:=0
def PySem.W.Fast.tw13408567865111013428:=0
def PySem.W.Fast.tw450691172772217064:=0
def PySem.W.Fast.tw817957533577429333:=0
def PySem.W.Fast.tw3652248618375464914:=0
def PySem.W.Fast.tw4783075260240973292:=0
def PySem.W.Fast.tw4053457647233835007:=0
def PySem.W.Fast.tw5860151989382629958:=0
def PySem.W.Fast.tw17852864839543875514:=0
def PySem.W.Fast.tw6218095601905185211:=0
def PySem.W.Fast.tw15065090917323556715:=0
def PySem.W.Fast.tw16166452547254181693:=0
def PySem.W.Fast.tw14080295325352712314:=0
def PySem.W.Fast.tw8765401534253736189:=0
def PySem.W.Fast.tw8996817341941515120:=0
def PySem.W.Fast.tw6280582306249002694:=0
def PySem.W.Fast.tw3445485435455209158:=0
def PySem.W.Fast.tw11170057220359097239:=0
def PySem.W.Fast.tw6764415944205107566:=0
def PySem.W.Fast.tw12927367114807179239:=0
def PySem.W.Fast.tw8050471837777891051:=0
def PySem.W.Fast.tw4106502949769767466:=0
def PySem.W.Fast.tw4927028103567259630:=0
def PySem.W.Fast.tw2305913924263906877:=0
def PySem.W.Fast.tw6515830907914454130:=0
def PySem.W.Fast.tw8827677127424935421:=0
def PySem.W.Fast.tw17698251711122055970:=0
def PySem.W.Fast.tw14693675981400992962:=0
def PySem.W.Fast.tw17122618274668159818:=0
def PySem.W.Fast.tw14241670910907085939:=0
def PySem.W.Fast.tw10109247200143563837:=0
def PySem.W.Fast.tw17160262276276258238:=0
def PySem.W.Fast.tw9184100799054004248:=0
def PySem.W.Fast.tw1806398579908770947:=0
def PySem.W.Fast.tw5914021385281684596:=0
def PySem.W.Fast.tw11012579024844858211:=0
def PySem.W.Fast.tw15550657383373747512:=0
def PySem.W.Fast.tw14450968304026153545:=0
def PySem.W.Fast.tw17534301700272645902:=0
def PySem.W.Fast.tw16808604880316274566:=0
def PySem.W.Fast.tw925704719114907890:=0
def PySem.W.Fast.tw13133354574412188352:=0
def PySem.W.Fast.tw12814318755096358387:=0
def PySem.W.Fast.tw5930089031164676279:=0
def PySem.W.Fast.tw9794195842866600853:=0
def PySem.W.Fast.tw14810718473345492747:=0
def PySem.W.Fast.tw11529648685494627786:=0
def PySem.W.Fast.tw6326485598757891905:=0
def PySem.W.Fast.tw7399377449477171614:=0
def PySem.W.Fast.tw15836206019552994115:=0
def PySem.W.Fast.tw3405842829044136961:=0
def PySem.W.Fast.tw8644443765324625617:=0
def PySem.W.Fast.tw4638802374499904382:=0
def PySem.W.Fast.tw7655116420747082729:=0
def PySem.W.Fast.tw4493517922010812349:=0
def PySem.W.Fast.tw4873322403074311183:=0
def PySem.W.Fast.tw15602180788595785348:=0
def PySem.W.Fast.tw17875469676535300332:=0
def PySem.W.Fast.tw11237995061634707821:=0
def PySem.W.Fast.tw2382616558851875331:=0
def PySem.W.Fast.tw9902006876032271388:=0
def PySem.W.Fast.tw12421709082258750241:=0
def PySem.W.Fast.tw12551001522602266722:=0
def PySem.W.Fast.tw3833316521418165:=0
def PySem.W.Fast.tw188447024794311240:=0
def PySem.W.Fast.tw16972113671624001351:=0
def PySem.W.Fast.tw17016348642155800906:=0
def PySem.W.Fast.tw18294164186979710435:=0
def PySem.W.Fast.tw2480582451102118477:=0
def PySem.W.Fast.tw2767575259298322315:=0
def PySem.W.Fast.tw7312943694958979800:=0
def PySem.W.Fast.tw3241836702834641145:=0
def PySem.W.Fast.tw16934054214717409464:=0
def PySem.W.Fast.tw266261011741254865:=0
def PySem.W.Fast.tw9750057389482057674:=0
def PySem.W.Fast.tw12262560512994706861:=0
def PySem.W.Fast.tw15801213471651909024:=0
def PySem.W.Fast.tw4486667042682752521:=0
def PySem.W.Fast.tw10682492424573922803:=0
def PySem.W.Fast.tw16250382526122766080:=0
def PySem.W.Fast.tw3530827483081285464:=0
def PySem.W.Fast.tw4145500615326211977:=0
def PySem.W.Fast.tw4995763073208759322:=0
def PySem.W.Fast.tw14367225642963267914:=0
def PySem.W.Fast.tw9072012184556277436:=0
def PySem.W.Fast.tw6270714382933351038:=0
def PySem.W.Fast.tw12447917636941911159:=0
def PySem.W.Fast.tw763782994898931627:=0
def PySem.W.Fast.tw12212013423233580132:=0
def PySem.W.Fast.tw18005286273237831525:=0
def PySem.W.Fast.tw830967894504180289:=0
def PySem.W.Fast.tw2901676193594956539:=0
def PySem.W.Fast.tw4513954311356909942:=0
def PySem.W.Fast.tw3677374777671101089:=0
def PySem.W.Fast.tw14378233159751386763:=0
def PySem.W.Fast.tw10485004541761636264:=0
def PySem.W.Fast.tw17770388121154912190:=0
def PySem.W.Fast.tw1607160267697415996:=0
def PySem.W.Fast.tw8047399871764173058:=0
def PySem.W.Fast.tw892249529145556144:=0
def PySem.W.Fast.tw3946779946084826237:=0
def PySem.W.Fast.tw4163284202845090540:=0
def PySem.W.Fast.tw17588531677794891094:=0
def PySem.W.Fast.tw4268444635049075541:=0
def PySem.W.Fast.tw16836172756525108274:=0
def PySem.W.Fast.tw12065081068539883807:=0
def PySem.W.Fast.tw5797984877941317623:=0
def PySem.W.Fast.tw2485038181288636797:=0
def PySem.W.Fast.tw2681715387675256121:=0
def PySem.W.Fast.tw3288785863002024196:=0
def PySem.W.Fast.tw16746646930593974288:=0
def PySem.W.Fast.tw2918093100936360814:=0
def PySem.W.Fast.tw3669855638077044861:=0
def PySem.W.Fast.tw1962188689099341108:=0
def PySem.W.Fast.tw6551156045664357512:=0
def PySem.W.Fast.tw9602265597482415720:=0
def PySem.W.Fast.tw2705892477824400900:=0
def PySem.W.Fast.tw8626402327424016534:=0
def PySem.W.Fast.tw2651415951560482820:=0
def PySem.W.Fast.tw6377940436801432178:=0
def PySem.W.Fast.tw8806799115231702509:=0
def PySem.W.Fast.tw8440250588897818776:=0
def PySem.W.Fast.tw1358502747612183158:=0
def PySem.W.Fast.tw15385896024043967735:=0
def PySem.W.Fast.tw8808567902085863402:=0
def PySem.W.Fast.tw6753316077685497229:=0
def PySem.W.Fast.tw17764242796650701821:=0
def PySem.W.Fast.tw7126923697441572609:=0
def PySem.W.Fast.tw14902994148096613988:=0
def PySem.W.Fast.tw11514954671769031808:=0
def PySem.W.Fast.tw8668601087990795459:=0
def PySem.W.Fast.tw709512072996181419:=0
def PySem.W.Fast.tw16948302195229529113:=0
def PySem.W.Fast.tw13262851040162387107:=0
def PySem.W.Fast.tw7666574893427123761:=0
def PySem.W.Fast.tw1786773226737923000:=0
def PySem.W.Fast.tw4290736392793061600:=0
def PySem.W.Fast.tw467070149980793878:=0
def PySem.W.Fast.tw11353016064921733658:=0
def PySem.W.Fast.tw13236721986498055569:=0
def PySem.W.Fast.tw9486819841877139242:=0
def PySem.W.Fast.tw3698459011517293510:=0
def PySem.W.Fast.tw9143346169719238346:=0
def PySem.W.Fast.tw3074836803286845309:=0
def PySem.W.Fast.tw17432063741661835177:=0
def PySem.W.Fast.tw5570352706761111412:=0
def PySem.W.Fast.tw13135296925572033276:=0
def PySem.W.Fast.tw4750107784323360124:=0
def PySem.W.Fast.tw4859193615524882040:=0
def PySem.W.Fast.tw3290786519771966874:=0
def PySem.W.Fast.tw12329986294135008065:=0
def PySem.W.Fast.tw4569573361925306166:=0
def PySem.W.Fast.tw13385466749410353805:=0
def PySem.W.Fast.tw15909636749752701522:=0
def PySem.W.Fast.tw780473456122403223:=0
def PySem.W.Fast.tw15613206206135662889:=0
def PySem.W.Fast.tw4663345107647803070:=0
def PySem.W.Fast.tw16352615341596034272:=0
def PySem.W.Fast.tw10394059105705172875:=0
def PySem.W.Fast.tw6768445278894712316:=0
def PySem.W.Fast.tw6520219241679208576:=0
def PySem.W.Fast.tw13865983686443944134:=0
def PySem.W.Fast.tw11657695869240861270:=0
def PySem.W.Fast.tw8263230890110400895:=0
def PySem.W.Fast.tw16054334424317573683:=0
def PySem.W.Fast.tw7267247658030743709:=0
def PySem.W.Fast.tw11440902578072090999:=0
def PySem.W.Fast.tw16044384348666355243:=0
def PySem.W.Fast.tw15078359916166084625:=0
def PySem.W.Fast.tw13878205593505958103:=0
def PySem.W.Fast.tw8257862372104074037:=0
def PySem.W.Fast.tw2079802619761139935:=0
def PySem.W.Fast.tw13496738511650811237:=0
def PySem.W.Fast.tw4475364789663785971:=0
def PySem.W.Fast.tw4055175082873264533:=0
def PySem.W.Fast.tw8758780003953000374:=0
def PySem.W.Fast.tw17833746537128874375:=0
def PySem.W.Fast.tw12355774418506373807:=0
def PySem.W.Fast.tw2059198562277267141:=0
def PySem.W.Fast.tw735703669592089358:=0
def PySem.W.Fast.tw3157875589764419480:=0
def PySem.W.Fast.tw7967967968862765303:=0
def PySem.W.Fast.tw9698066381614696749:=0
set_option maxRecDepth 100000 in
set_option maxHeartbeats 0 in
theorem PySem.Challenge.cw_shardask_k13_first_and_order_holds : PySem.Challenge.rw_shardask_k13_first_and_order.Holds := by
 w_on;o_law;k_head;(case hw=>w_witness2)
 k_fill
 refine My.aIc (l:=PySem.Challenge.rw_shardask_k13_first_and_order) (n:=63) (k:=51) (x:="_law_script") (CX:=L2.CX0) (sp:=fun K=>My.tX K 448) rfl (by decide) rfl ⟨rfl,by decide,by decide⟩ [(448,My.qS)] (by decide) (fun w h Y=>⟨PySem.W.km_in_of Y,My.aM5 (PySem.W.km_tabs_of Y)⟩) ?C ?F (fun K H a ns hl hO hS=>My.aGi hl hO hS) (fun _ _ _ _ z=>z)
 case C=>
  intro w
  refine' My.aMq ?a ?l ?e1 ?e2 ?h ?n
  (case a=>k_is)
  (case l=>k_is)
  (case e1=>rfl)
  (case e2=>rfl)
  (case h=>first|k_is|kernel_rfl|decide +kernel)
  (case n=>first|k_is|kernel_rfl|decide +kernel)
 case F=>
  intro w mg fa h KX G hmg
  have T:My.Txt w (L2.KOf KX) mg:=by
   dsimp only [L2.KOf]
   refine' My.txt_mk KX G ?a0 ?a1 ?a2 ?a3 ?a4 ?a5 ?a6 ?a7 ?a8 ?a9 ?a10 ?a11 ?a12 ?a13 ?a14 ?a15 ?a16 ?a17 ?a18 ?a19 ?a20 ?a21 ?a22 ?a23 ?a24 ?a25 ?a26 ?a27 ?a28 ?a29 ?a30 ?a31 ?a32 ?a33 ?a34 ?a35 ?a36 ?a37 ?a38 ?a39 ?a40 ?a41 ?a42 ?a43 ?a44 ?a45 ?a46 ?a47 ?a48 ?a49 ?a50 ?a51 ?a52 ?a53 ?a54 ?a55 ?a56 ?a57 ?a58 ?a59 ?a60 ?a61 ?a62 ?a63 ?a64 ?a65 ?a66 ?a67 ?a68 ?a69 ?a70 ?a71 ?a72 ?a73 ?a74 ?a75 ?q0 ?r0 ?t0 ?y0 ?u0 ?v0 ?q1 ?q2 ?q3 ?q4 ?r4 ?t4 ?y4 ?u4 ?v4 ?q5 ?r5 ?t5 ?y5 ?u5 ?v5 ?q6 ?r6 ?t6 ?y6 ?u6 ?v6 ?q7 ?q8 ?q9 ?q10 ?q11 ?q12 ?q13 ?q14 ?r14 ?x14 ?o14 ?u14 ?h14 ?r14_0 ?t14_0 ?y14_0 ?u14_0 ?v14_0 ?r14_1 ?t14_1 ?y14_1 ?u14_1 ?v14_1 ?r14_2 ?t14_2 ?y14_2 ?u14_2 ?v14_2 ?r14_3 ?t14_3 ?y14_3 ?u14_3 ?v14_3 ?r14_4 ?t14_4 ?y14_4 ?u14_4 ?v14_4 ?r14_5 ?t14_5 ?y14_5 ?u14_5 ?v14_5 ?r14_6 ?t14_6 ?y14_6 ?u14_6 ?v14_6 ?z0 ?z1 ?z2 ?z3 ?z4 ?z5 ?z6 ?z7 ?z8 ?z9 ?z10 ?z11 ?z12 ?z13 ?z14 ?z15 ?z16 ?z17 ?z18 ?z19
   (case a0=>(refine' My.FA.mk ?j0 ?l0 ?c0 ?k0);(case j0=>k_is);(case l0=>k_is);(case c0=>k_is);(case k0=>k_is))
   (case a1=>(refine' My.FA.mk ?j1 ?l1 ?c1 ?k1);(case j1=>k_is);(case l1=>k_is);(case c1=>k_is);(case k1=>k_is))
   (case a2=>(refine' My.FA.mk ?j2 ?l2 ?c2 ?k2);(case j2=>k_is);(case l2=>k_is);(case c2=>k_is);(case k2=>k_is))
   (case a3=>(refine' My.FA.mk ?j3 ?l3 ?c3 ?k3);(case j3=>k_is);(case l3=>k_is);(case c3=>k_is);(case k3=>k_is))
   (case a4=>(refine' My.FA.mk ?j4 ?l4 ?c4 ?k4);(case j4=>k_is);(case l4=>k_is);(case c4=>k_is);(case k4=>k_is))
   (case a5=>(refine' My.FA.mk ?j5 ?l5 ?c5 ?k5);(case j5=>k_is);(case l5=>k_is);(case c5=>k_is);(case k5=>k_is))
   (case a6=>(refine' My.FA.mk ?j6 ?l6 ?c6 ?k6);(case j6=>k_is);(case l6=>k_is);(case c6=>k_is);(case k6=>k_is))
   (case a7=>(refine' My.FA.mk ?j7 ?l7 ?c7 ?k7);(case j7=>k_is);(case l7=>k_is);(case c7=>k_is);(case k7=>k_is))
   (case a8=>(refine' My.FA.mk ?j8 ?l8 ?c8 ?k8);(case j8=>k_is);(case l8=>k_is);(case c8=>k_is);(case k8=>k_is))
   (case a9=>(refine' My.FA.mk ?j9 ?l9 ?c9 ?k9);(case j9=>k_is);(case l9=>k_is);(case c9=>k_is);(case k9=>k_is))
   (case a10=>(refine' My.FA.mk ?j10 ?l10 ?c10 ?k10);(case j10=>k_is);(case l10=>k_is);(case c10=>k_is);(case k10=>k_is))
   (case a11=>(refine' My.FA.mk ?j11 ?l11 ?c11 ?k11);(case j11=>k_is);(case l11=>k_is);(case c11=>k_is);(case k11=>k_is))
   (case a12=>(refine' My.FA.mk ?j12 ?l12 ?c12 ?k12);(case j12=>k_is);(case l12=>k_is);(case c12=>k_is);(case k12=>k_is))
   (case a13=>(refine' My.FA.mk ?j13 ?l13 ?c13 ?k13);(case j13=>k_is);(case l13=>k_is);(case c13=>k_is);(case k13=>k_is))
   (case a14=>(refine' My.FA.mk ?j14 ?l14 ?c14 ?k14);(case j14=>k_is);(case l14=>k_is);(case c14=>k_is);(case k14=>k_is))
   (case a15=>(refine' My.FA.mk ?j15 ?l15 ?c15 ?k15);(case j15=>k_is);(case l15=>k_is);(case c15=>k_is);(case k15=>k_is))
   (case a16=>(refine' My.FA.mk ?j16 ?l16 ?c16 ?k16);(case j16=>k_is);(case l16=>k_is);(case c16=>k_is);(case k16=>k_is))
   (case a17=>(refine' My.FA.mk ?j17 ?l17 ?c17 ?k17);(case j17=>k_is);(case l17=>k_is);(case c17=>k_is);(case k17=>k_is))
   (case a18=>(refine' My.FA.mk ?j18 ?l18 ?c18 ?k18);(case j18=>k_is);(case l18=>k_is);(case c18=>k_is);(case k18=>k_is))
   (case a19=>(refine' My.FA.mk ?j19 ?l19 ?c19 ?k19);(case j19=>k_is);(case l19=>k_is);(case c19=>k_is);(case k19=>k_is))
   (case a20=>(refine' My.FA.mk ?j20 ?l20 ?c20 ?k20);(case j20=>k_is);(case l20=>k_is);(case c20=>k_is);(case k20=>k_is))
   (case a21=>(refine' My.FA.mk ?j21 ?l21 ?c21 ?k21);(case j21=>k_is);(case l21=>k_is);(case c21=>k_is);(case k21=>k_is))
   (case a22=>(refine' My.FA.mk ?j22 ?l22 ?c22 ?k22);(case j22=>k_is);(case l22=>k_is);(case c22=>k_is);(case k22=>k_is))
   (case a23=>(refine' My.FA.mk ?j23 ?l23 ?c23 ?k23);(case j23=>k_is);(case l23=>k_is);(case c23=>k_is);(case k23=>k_is))
   (case a24=>(refine' My.FA.mk ?j24 ?l24 ?c24 ?k24);(case j24=>k_is);(case l24=>k_is);(case c24=>k_is);(case k24=>k_is))
   (case a25=>(refine' My.FA.mk ?j25 ?l25 ?c25 ?k25);(case j25=>k_is);(case l25=>k_is);(case c25=>k_is);(case k25=>k_is))
   (case a26=>(refine' My.FA.mk ?j26 ?l26 ?c26 ?k26);(case j26=>k_is);(case l26=>k_is);(case c26=>k_is);(case k26=>k_is))
   (case a27=>(refine' My.FA.mk ?j27 ?l27 ?c27 ?k27);(case j27=>k_is);(case l27=>k_is);(case c27=>k_is);(case k27=>k_is))
   (case a28=>(refine' My.FA.mk ?j28 ?l28 ?c28 ?k28);(case j28=>k_is);(case l28=>k_is);(case c28=>k_is);(case k28=>k_is))
   (case a29=>(refine' My.FA.mk ?j29 ?l29 ?c29 ?k29);(case j29=>k_is);(case l29=>k_is);(case c29=>k_is);(case k29=>k_is))
   (case a30=>(refine' My.FA.mk ?j30 ?l30 ?c30 ?k30);(case j30=>k_is);(case l30=>k_is);(case c30=>k_is);(case k30=>k_is))
   (case a31=>(refine' My.FA.mk ?j31 ?l31 ?c31 ?k31);(case j31=>k_is);(case l31=>k_is);(case c31=>k_is);(case k31=>k_is))
   (case a32=>(refine' My.FA.mk ?j32 ?l32 ?c32 ?k32);(case j32=>k_is);(case l32=>k_is);(case c32=>k_is);(case k32=>k_is))
   (case a33=>(refine' My.FA.mk ?j33 ?l33 ?c33 ?k33);(case j33=>k_is);(case l33=>k_is);(case c33=>k_is);(case k33=>k_is))
   (case a34=>(refine' My.FA.mk ?j34 ?l34 ?c34 ?k34);(case j34=>k_is);(case l34=>k_is);(case c34=>k_is);(case k34=>k_is))
   (case a35=>(refine' My.FA.mk ?j35 ?l35 ?c35 ?k35);(case j35=>k_is);(case l35=>k_is);(case c35=>k_is);(case k35=>k_is))
   (case a36=>(refine' My.FA.mk ?j36 ?l36 ?c36 ?k36);(case j36=>k_is);(case l36=>k_is);(case c36=>k_is);(case k36=>k_is))
   (case a37=>(refine' My.FA.mk ?j37 ?l37 ?c37 ?k37);(case j37=>k_is);(case l37=>k_is);(case c37=>k_is);(case k37=>k_is))
   (case a38=>(refine' My.FA.mk ?j38 ?l38 ?c38 ?k38);(case j38=>k_is);(case l38=>k_is);(case c38=>k_is);(case k38=>k_is))
   (case a39=>(refine' My.FA.mk ?j39 ?l39 ?c39 ?k39);(case j39=>k_is);(case l39=>k_is);(case c39=>k_is);(case k39=>k_is))
   (case a40=>(refine' My.FA.mk ?j40 ?l40 ?c40 ?k40);(case j40=>k_is);(case l40=>k_is);(case c40=>k_is);(case k40=>k_is))
   (case a41=>(refine' My.FA.mk ?j41 ?l41 ?c41 ?k41);(case j41=>k_is);(case l41=>k_is);(case c41=>k_is);(case k41=>k_is))
   (case a42=>(refine' My.FA.mk ?j42 ?l42 ?c42 ?k42);(case j42=>k_is);(case l42=>k_is);(case c42=>k_is);(case k42=>k_is))
   (case a43=>(refine' My.FA.mk ?j43 ?l43 ?c43 ?k43);(case j43=>k_is);(case l43=>k_is);(case c43=>k_is);(case k43=>k_is))
   (case a44=>(refine' My.FA.mk ?j44 ?l44 ?c44 ?k44);(case j44=>k_is);(case l44=>k_is);(case c44=>k_is);(case k44=>k_is))
   (case a45=>(refine' My.FA.mk ?j45 ?l45 ?c45 ?k45);(case j45=>k_is);(case l45=>k_is);(case c45=>k_is);(case k45=>k_is))
   (case a46=>(refine' My.FA.mk ?j46 ?l46 ?c46 ?k46);(case j46=>k_is);(case l46=>k_is);(case c46=>k_is);(case k46=>k_is))
   (case a47=>(refine' My.FA.mk ?j47 ?l47 ?c47 ?k47);(case j47=>k_is);(case l47=>k_is);(case c47=>k_is);(case k47=>k_is))
   (case a48=>(refine' My.FA.mk ?j48 ?l48 ?c48 ?k48);(case j48=>k_is);(case l48=>k_is);(case c48=>k_is);(case k48=>k_is))
   (case a49=>(refine' My.FA.mk ?j49 ?l49 ?c49 ?k49);(case j49=>k_is);(case l49=>k_is);(case c49=>k_is);(case k49=>k_is))
   (case a50=>(refine' My.FA.mk ?j50 ?l50 ?c50 ?k50);(case j50=>k_is);(case l50=>k_is);(case c50=>k_is);(case k50=>k_is))
   (case a51=>(refine' My.FA.mk ?j51 ?l51 ?c51 ?k51);(case j51=>k_is);(case l51=>k_is);(case c51=>k_is);(case k51=>k_is))
   (case a52=>(refine' My.FA.mk ?j52 ?l52 ?c52 ?k52);(case j52=>k_is);(case l52=>k_is);(case c52=>k_is);(case k52=>k_is))
   (case a53=>(refine' My.FA.mk ?j53 ?l53 ?c53 ?k53);(case j53=>k_is);(case l53=>k_is);(case c53=>k_is);(case k53=>k_is))
   (case a54=>(refine' My.FA.mk ?j54 ?l54 ?c54 ?k54);(case j54=>k_is);(case l54=>k_is);(case c54=>k_is);(case k54=>k_is))
   (case a55=>(refine' My.FA.mk ?j55 ?l55 ?c55 ?k55);(case j55=>k_is);(case l55=>k_is);(case c55=>k_is);(case k55=>k_is))
   (case a56=>(refine' My.FA.mk ?j56 ?l56 ?c56 ?k56);(case j56=>k_is);(case l56=>k_is);(case c56=>k_is);(case k56=>k_is))
   (case a57=>(refine' My.FA.mk ?j57 ?l57 ?c57 ?k57);(case j57=>k_is);(case l57=>k_is);(case c57=>k_is);(case k57=>k_is))
   (case a58=>(refine' My.FA.mk ?j58 ?l58 ?c58 ?k58);(case j58=>k_is);(case l58=>k_is);(case c58=>k_is);(case k58=>k_is))
   (case a59=>(refine' My.FA.mk ?j59 ?l59 ?c59 ?k59);(case j59=>k_is);(case l59=>k_is);(case c59=>k_is);(case k59=>k_is))
   (case a60=>(refine' My.FA.mk ?j60 ?l60 ?c60 ?k60);(case j60=>k_is);(case l60=>k_is);(case c60=>k_is);(case k60=>k_is))
   (case a61=>(refine' My.FA.mk ?j61 ?l61 ?c61 ?k61);(case j61=>k_is);(case l61=>k_is);(case c61=>k_is);(case k61=>k_is))
   (case a62=>(refine' My.FA.mk ?j62 ?l62 ?c62 ?k62);(case j62=>k_is);(case l62=>k_is);(case c62=>k_is);(case k62=>k_is))
   (case a63=>(refine' My.FA.mk ?j63 ?l63 ?c63 ?k63);(case j63=>k_is);(case l63=>k_is);(case c63=>k_is);(case k63=>k_is))
   (case a64=>(refine' My.FA.mk ?j64 ?l64 ?c64 ?k64);(case j64=>k_is);(case l64=>k_is);(case c64=>k_is);(case k64=>k_is))
   (case a65=>(refine' My.FA.mk ?j65 ?l65 ?c65 ?k65);(case j65=>k_is);(case l65=>k_is);(case c65=>k_is);(case k65=>k_is))
   (case a66=>(refine' My.FA.mk ?j66 ?l66 ?c66 ?k66);(case j66=>k_is);(case l66=>k_is);(case c66=>k_is);(case k66=>k_is))
   (case a67=>(refine' My.FA.mk ?j67 ?l67 ?c67 ?k67);(case j67=>k_is);(case l67=>k_is);(case c67=>k_is);(case k67=>k_is))
   (case a68=>(refine' My.FA.mk ?j68 ?l68 ?c68 ?k68);(case j68=>k_is);(case l68=>k_is);(case c68=>k_is);(case k68=>k_is))
   (case a69=>(refine' My.FA.mk ?j69 ?l69 ?c69 ?k69);(case j69=>k_is);(case l69=>k_is);(case c69=>k_is);(case k69=>k_is))
   (case a70=>(refine' My.FA.mk ?j70 ?l70 ?c70 ?k70);(case j70=>k_is);(case l70=>k_is);(case c70=>k_is);(case k70=>k_is))
   (case a71=>(refine' My.FA.mk ?j71 ?l71 ?c71 ?k71);(case j71=>k_is);(case l71=>k_is);(case c71=>k_is);(case k71=>k_is))
   (case a72=>(refine' My.FA.mk ?j72 ?l72 ?c72 ?k72);(case j72=>k_is);(case l72=>k_is);(case c72=>k_is);(case k72=>k_is))
   (case a73=>(refine' My.FA.mk ?j73 ?l73 ?c73 ?k73);(case j73=>k_is);(case l73=>k_is);(case c73=>k_is);(case k73=>k_is))
   (case a74=>(refine' My.FA.mk ?j74 ?l74 ?c74 ?k74);(case j74=>k_is);(case l74=>k_is);(case c74=>k_is);(case k74=>k_is))
   (case a75=>(refine' My.FA.mk ?j75 ?l75 ?c75 ?k75);(case j75=>k_is);(case l75=>k_is);(case c75=>k_is);(case k75=>k_is))
   (case q0=>k_is)
   (case r0=>k_is)
   (case t0=>rfl)
   (case y0=>rfl)
   (case u0=>rfl)
   (case v0=>repeat (first|exact L2.bU|refine L2.aU rfl ?_|refine L2.aU ⟨_,rfl⟩ ?_))
   (case q1=>k_is)
   (case q2=>k_is)
   (case q3=>k_is)
   (case q4=>k_is)
   (case r4=>k_is)
   (case t4=>rfl)
   (case y4=>rfl)
   (case u4=>rfl)
   (case v4=>repeat (first|exact L2.bU|refine L2.aU rfl ?_|refine L2.aU ⟨_,rfl⟩ ?_))
   (case q5=>k_is)
   (case r5=>k_is)
   (case t5=>rfl)
   (case y5=>rfl)
   (case u5=>rfl)
   (case v5=>repeat (first|exact L2.bU|refine L2.aU rfl ?_|refine L2.aU ⟨_,rfl⟩ ?_))
   (case q6=>k_is)
   (case r6=>k_is)
   (case t6=>rfl)
   (case y6=>rfl)
   (case u6=>rfl)
   (case v6=>repeat (first|exact L2.bU|refine L2.aU rfl ?_|refine L2.aU ⟨_,rfl⟩ ?_))
   (case q7=>k_is)
   (case q8=>k_is)
   (case q9=>k_is)
   (case q10=>k_is)
   (case q11=>k_is)
   (case q12=>k_is)
   (case q13=>k_is)
   (case q14=>k_is)
   (case r14=>k_is)
   (case x14=>exact ⟨rfl,rfl,rfl⟩)
   (case o14=>first|rfl|decide +kernel)
   (case u14=>rfl)
   (case h14=>intro P;repeat (first|exact L2.PH.nil|refine L2.PH.cons rfl rfl rfl ?_))
   (case r14_0=>k_is)
   (case t14_0=>rfl)
   (case y14_0=>rfl)
   (case u14_0=>rfl)
   (case v14_0=>repeat (first|exact L2.bU|refine L2.aU rfl ?_|refine L2.aU ⟨_,rfl⟩ ?_))
   (case r14_1=>k_is)
   (case t14_1=>rfl)
   (case y14_1=>rfl)
   (case u14_1=>rfl)
   (case v14_1=>repeat (first|exact L2.bU|refine L2.aU rfl ?_|refine L2.aU ⟨_,rfl⟩ ?_))
   (case r14_2=>k_is)
   (case t14_2=>rfl)
   (case y14_2=>rfl)
   (case u14_2=>rfl)
   (case v14_2=>repeat (first|exact L2.bU|refine L2.aU rfl ?_|refine L2.aU ⟨_,rfl⟩ ?_))
   (case r14_3=>k_is)
   (case t14_3=>rfl)
   (case y14_3=>rfl)
   (case u14_3=>rfl)
   (case v14_3=>repeat (first|exact L2.bU|refine L2.aU rfl ?_|refine L2.aU ⟨_,rfl⟩ ?_))
   (case r14_4=>k_is)
   (case t14_4=>rfl)
   (case y14_4=>rfl)
   (case u14_4=>rfl)
   (case v14_4=>repeat (first|exact L2.bU|refine L2.aU rfl ?_|refine L2.aU ⟨_,rfl⟩ ?_))
   (case r14_5=>k_is)
   (case t14_5=>rfl)
   (case y14_5=>rfl)
   (case u14_5=>rfl)
   (case v14_5=>repeat (first|exact L2.bU|refine L2.aU rfl ?_|refine L2.aU ⟨_,rfl⟩ ?_))
   (case r14_6=>k_is)
   (case t14_6=>rfl)
   (case y14_6=>rfl)
   (case u14_6=>rfl)
   (case v14_6=>repeat (first|exact L2.bU|refine L2.aU rfl ?_|refine L2.aU ⟨_,rfl⟩ ?_))
   (case z0=>k_is)
   (case z1=>k_is)
   (case z2=>k_is)
   (case z3=>k_is)
   (case z4=>k_is)
   (case z5=>k_is)
   (case z6=>k_is)
   (case z7=>k_is)
   (case z8=>k_is)
   (case z9=>k_is)
   (case z10=>k_is)
   (case z11=>k_is)
   (case z12=>k_is)
   (case z13=>k_is)
   (case z14=>k_is)
   (case z15=>k_is)
   (case z16=>k_is)
   (case z17=>k_is)
   (case z18=>k_is)
   (case z19=>k_is)
  have C:L2.aIi (L2.KOf KX) mg "sorted_by" 448:=by
   dsimp only [L2.KOf]
   refine' My.aO2 KX G ?a ?l ?e1 ?e2 ?h
   (case a=>k_is)
   (case l=>k_is)
   (case e1=>rfl)
   (case e2=>rfl)
   (case h=>first|k_is|kernel_rfl|decide +kernel)
  exact My.law_fn (P:=PySem.Challenge.rw_shardask_k13_first_and_order.prog) T C hmg
