import PyProof.Rows.All
import Wide.All
import OpenK.AllK
import Wide.FinOn
import Lean
import PyProof.EqAt
import PyProof.EqKinds
import PyProof.TupleCall
import PyProof.CallType
import PyProof.WalkLemmas
import PyProof.StrOps
import PyProof.ForAny
import PyProof.IsInstanceH
import PyProof.IsiFacts
import PyProof.IsiFacts2
import PyProof.FactsAll.object
import PyProof.ListMulRoad
import PyProof.FactsAll.tuple_2
import PyProof.StrLawsIdx
import KE.KDictList
import PyProof.Rows.Range3
import PyProof.EnumMake
import PyProof.EnumFor
import PyProof.CompUse
import PyProof.ListStr
import PyProof.NeKinds
import KE.KDictOf
import KE.KEqDict
import KE.KDictSum
import PyProof.AttrMissHeap
import KE.KSortTup
import PyProof.IsInstanceT
import PyProof.FString5
import PyProof.Rows.SeqMore2
import PyProof.IsiPairs
import PyProof.DictWalks
import PyProof.Cells
import PyProof.StrCalls3
import PyProof.Rows.TupTab
import PyProof.SumWalkG
import PyProof.MinMaxWalk
import PyProof.DictItems
import PySem.Challenge.RW_shardask_k12_grouped
set_option Elab.async false
set_option linter.all false
set_option maxRecDepth 100000
set_option maxHeartbeats 6400000
local macro_rules
  | `(tactic| trivial) => `(tactic| first | exact Or.inl rfl | exact Or.inr rfl | exact Or.inr (Or.inl rfl) | exact Or.inr (Or.inr rfl) | exact ⟨rfl, rfl, rfl, by decide +kernel, rfl, by decide +kernel, by decide +kernel⟩ | exact ⟨by decide +kernel, rfl, by decide +kernel, by decide +kernel⟩ | fail)
namespace L2
open PySem PySem.Spec PyProof.Rows
abbrev Key:=Sum Int Str
def keyIs:Key→Value→Bool
 |.inl k,v=>Value.isInt k v
 |.inr x,v=>Value.isStrOf x v
def keyH (w:World):Key→Int
 |.inl k=>hashInt k
 |.inr x=>hashStr w x
theorem keyIs_shape:∀{k:Key} {v:Value},keyIs k v=true→(∃i t,k=Sum.inl i∧v=Value.int i t)∨(∃x t,k=Sum.inr x∧v=Value.str x t)
 |.inl i,v,h=>by
  obtain ⟨t,e⟩:=Value.isInt_shape (k:=i) (v:=v) h
  exact .inl ⟨i,t,rfl,e⟩
 |.inr x,v,h=>by
  obtain ⟨t,e⟩:=Value.isStrOf_shape (x:=x) (v:=v) h
  exact .inr ⟨x,t,rfl,e⟩
theorem keyIs_int (i:Int) (t:Tok):keyIs (.inl i) (.int i t)=true:=by simp [keyIs,Value.isInt]
theorem keyIs_str (x:Str) (t:Tok):keyIs (.inr x) (.str x t)=true:=by simp [keyIs,Value.isStrOf]
theorem key_ll (a b:Int):decide ((Sum.inl a:Key)=Sum.inl b)=(a == b):=by
 by_cases e:a=b
 ·subst e;simp
 ·have h:¬ (Sum.inl a:Key)=Sum.inl b:=fun q=>e (Sum.inl.inj q)
  rw [decide_eq_false h]
  exact (beq_eq_false_iff_ne.mpr e).symm
theorem key_rr (a b:Str):decide ((Sum.inr a:Key)=Sum.inr b)=decide (a=b):=by
 by_cases e:a=b
 ·subst e;simp
 ·have h:¬ (Sum.inr a:Key)=Sum.inr b:=fun q=>e (Sum.inr.inj q)
  rw [decide_eq_false h,decide_eq_false e]
theorem key_lr (a:Int) (b:Str):decide ((Sum.inl a:Key)=Sum.inr b)=false:=decide_eq_false (fun q=>nomatch q)
theorem key_rl (a:Str) (b:Int):decide ((Sum.inr a:Key)=Sum.inl b)=false:=decide_eq_false (fun q=>nomatch q)
def mixKind (prog:Program) (w:World):PySem.KeyKind prog w Key where
 is:=keyIs
 hash:=keyH w
 inj:=fun v a b ha hb=>by
  rcases keyIs_shape ha with ⟨i,t,rfl,rfl⟩|⟨x,t,rfl,rfl⟩
  ·rcases keyIs_shape hb with ⟨j,u,rfl,e⟩|⟨y,u,rfl,e⟩
   ·injection e with e1 _;rw [e1]
   ·exact nomatch e
  ·rcases keyIs_shape hb with ⟨j,u,rfl,e⟩|⟨y,u,rfl,e⟩
   ·exact nomatch e
   ·injection e with e1 _;rw [e1]
 byValue:=fun k v h=>by
  rcases keyIs_shape h with ⟨i,t,rfl,rfl⟩|⟨x,t,rfl,rfl⟩ <;> rfl
 pyHash:=fun hv h=>by
  rcases keyIs_shape hv with ⟨i,t,rfl,rfl⟩|⟨x,t,rfl,rfl⟩
  ·exact wpAny_pyHash_int h
  ·exact wpAny_pyHash_str h
 eqBool:=fun hu hv h=>by
  rcases keyIs_shape hu with ⟨i,t,rfl,rfl⟩|⟨x,t,rfl,rfl⟩
  ·rcases keyIs_shape hv with ⟨j,u,rfl,rfl⟩|⟨y,u,rfl,rfl⟩
   ·rw [key_ll] at h;exact wpAny_eqBool_int h
   ·rw [key_lr] at h;exact SeqAt.EqAt.int_str i t y u _ _ _ _ h
  ·rcases keyIs_shape hv with ⟨j,u,rfl,rfl⟩|⟨y,u,rfl,rfl⟩
   ·rw [key_rl] at h;exact SeqAt.EqAt.str_int x t j u _ _ _ _ h
   ·rw [key_rr] at h;exact wpAny_eqBool_str h
 «strs»:=fun k x t v h=>by
  rcases keyIs_shape h with ⟨i,u,rfl,e⟩|⟨y,u,rfl,e⟩
  ·exact nomatch e
  ·injection e with e1 _
   subst e1
   cases v <;> rfl
theorem mixKind_int (prog:Program) (w:World) (i:Int) (t:Tok):(mixKind prog w).is (.inl i) (.int i t)=true:=keyIs_int i t
theorem mixKind_str (prog:Program) (w:World) (x:Str) (t:Tok):(mixKind prog w).is (.inr x) (.str x t)=true:=keyIs_str x t
inductive V where
 |non|bl (b:Bool)|int (i:Int)|str (x:Str)|byt (b:Array UInt8)|flt (b:UInt64)|ref (a:Addr)|ty (n:String)
 deriving DecidableEq
def RelV:V→Value→Prop
 |.non,u=>u=Value.none
 |.bl b,u=>u=Value.bool b
 |.int i,u=>∃t,u=Value.int i t
 |.str x,u=>∃t,u=Value.str x t
 |.byt b,u=>∃t,u=Value.bytes b t
 |.flt b,u=>∃t,u=Value.float b t
 |.ref a,u=>u=Value.ref a
 |.ty n,u=>u=Value.type n
abbrev Vals:List V→List Value→Prop:=Paired RelV
theorem Vals.length {xs:List V} {us:List Value} (r:Vals xs us):xs.length=us.length:=Paired.length r
theorem Vals.get:∀{xs:List V} {us:List Value} {i:Nat} {x:V},Vals xs us→xs[i]?=some x→∃u,us[i]?=some u∧RelV x u
 |_,_,_,_,.nil,e=>by simp at e
 |_,_,0,_,.cons r _,e=>by simp at e;subst e;exact ⟨_,rfl,r⟩
 |_,_,i+1,x,.cons _ t,e=>by
  obtain ⟨u,h1,h2⟩:=Vals.get (i:=i) (x:=x) t (by simpa using e)
  exact ⟨u,by simpa using h1,h2⟩
theorem Vals.set {x:V} {u:Value} (r:RelV x u):∀{xs:List V} {us:List Value} (i:Nat),Vals xs us→Vals (xs.set i x) (us.set i u)
 |_,_,_,.nil=>.nil
 |_,_,0,.cons _ t=>.cons r t
 |_,_,i+1,.cons q t=>.cons q (Vals.set r i t)
theorem Vals.append:∀{xs ys:List V} {us ws:List Value},Vals xs us→Vals ys ws→Vals (xs++ys) (us++ws)
 |_,_,_,_,.nil,s=>s
 |_,_,_,_,.cons r t,s=>.cons r (Vals.append t s)
theorem Vals.take:∀{xs:List V} {us:List Value} (n:Nat),Vals xs us→Vals (xs.take n) (us.take n)
 |_,_,0,_=>.nil
 |_,_,_+1,.nil=>.nil
 |_,_,n+1,.cons r t=>.cons r (Vals.take n t)
theorem Vals.drop:∀{xs:List V} {us:List Value} (n:Nat),Vals xs us→Vals (xs.drop n) (us.drop n)
 |_,_,0,r=>r
 |_,_,_+1,.nil=>.nil
 |_,_,n+1,.cons _ t=>Vals.drop n t
def RelO:Option V→Option Value→Prop
 |some v,some u=>RelV v u
 |none,none=>True
 |_,_=>False
def KV {κ:Type}:List (κ × V)→List (κ × Value)→Prop:=Paired fun (p:κ × V) (q:κ × Value)=>p.1=q.1∧RelV p.2 q.2
def kV:Key→V
 |.inl i=>.int i
 |.inr x=>.str x
inductive HO where
  |lst (xs:List V)
  |tup (xs:List V)
  |dK (kvs:List (Key × V))|dT (kvs:List (List Key × V))
  |set (S:Int→Bool) (n:Nat)
  |ins (C dx:Addr) (fs:List (Str × V))
  |own (x:Addr)
  |xd (fs:List (Str × V))
  |met (f x:Addr)
  |rng (lo hi:Int)
  |frz (o:Obj) (u:HO)
  |tbl (ps:Array Value)
  |ext (φ:Heap→Prop)
abbrev Hp:=Addr→Option HO
def upd (H:Hp) (a:Addr) (o:HO):Hp:=fun b=>if b=a then some o else H b
theorem upd_same {H:Hp} {a:Addr} {o:HO}:upd H a o a=some o:=by unfold upd;rw [if_pos rfl]
theorem upd_ne {H:Hp} {a b:Addr} {o:HO} (h:b≠a):upd H a o b=H b:=by unfold upd;rw [if_neg h]
theorem upd_upd {H:Hp} {a:Addr} {o u:HO}:upd (upd H a o) a u=upd H a u:=by
 funext b;unfold upd;split <;> rfl
theorem ne_of {H:Hp} {a b:Addr} {o u:HO} (h:H a=some o) (h':H b=some u) (d:o≠u):a≠b:=by
 intro e;subst e;rw [h] at h';exact d (Option.some.inj h')
theorem ne_of_none {H:Hp} {a b:Addr} {o:HO} (h:H a=some o) (h':H b=none):a≠b:=by
 intro e;subst e;rw [h] at h';cases h'
def tL (h:Heap) (a:Addr) (items:Array Value):Prop:=IsTup h a items∧∀o,h.get? a=some o→o.dict=none
theorem tL.of {h:Heap} {a:Addr} {items:Array Value} {o:Obj} (e:h.get? a=some o) (d:o.dict=none) (x:IsTup h a items):tL h a items:=⟨x,fun o' e'=>by rw [e] at e';cases e';exact d⟩
theorem tL.new (h:Heap) (items:Array Value):tL (h.push { cls:=.type "tuple",data:=.seq items }) h.objs.size items:=.of (Heap.get?_push_size _ rfl) rfl (IsTup.new _ _)
theorem tL.keep {h h':Heap} {a:Addr} {items:Array Value} (x:tL h a items) (k:∀o,h.get? a=some o→h'.get? a=some o):tL h' a items:=by
 obtain ⟨⟨o,e,c⟩,d⟩:=x
 exact .of (k o e) (d o e) ⟨o,k o e,c⟩
section
variable (P:Program) (w:World)
def ObjOk (H:Hp) (h:Heap) (a:Addr):HO→Prop
 |.lst xs=>xs.length≤sizeLine∧∃(its:List Value) (n:Nat),Vals xs its∧h.get? a=some { cls:=.type "list",data:=.seq its.toArray n }
 |.tup xs=>xs.length≤sizeLine∧∃its:List Value,Vals xs its∧tL h a its.toArray
 |.dK kvs=>kvs.length≤sizeLine∧(a == sysModules)=false∧∃vs,KV kvs vs∧h.DictOf (mixKind P w) a vs
 |.dT kvs=>kvs.length≤sizeLine∧(a == sysModules)=false∧∃xs:List (List Key × Addr × Value),
   Paired (fun (p:List Key × V) (q:List Key × Addr × Value)=>p.1=q.1∧H q.2.1=some (.tup (p.1.map kV))∧RelV p.2 q.2.2) kvs xs ∧
   ∃o es ep,h.get? a=some o∧o.ExactDict∧o.data=.dict es ep∧es.toList=xs.map (entryOfKey (tupleKind (mixKind P w)))∧(xs.map (·.1)).Nodup
 |.set S n=>h.SetOf (intKind P w) a S n
 |.ins C dx fs=>H dx=some (.own a)∧fs.length≤1000∧dx≠a∧h.get? a=some (PySem.W.instObj C dx) ∧
   ∃mA,h.Ns1 dx mA∧(∀f,RelO (fs.lookup f) (mA f))∧PySem.Within mA (fs.map (·.1))
 |.own _=>∃o,h.get? a=some o
 |.xd fs=>∃mA,h.Ns1 a mA∧∀f,RelO (fs.lookup f) (mA f)
 |.rng lo hi=>∃t u v,h.get? a=some { cls:=.type "range",data:=.fields #[.int lo t,.int hi u,.int 1 v] }
 |.frz o u=>h.get? a=some o∧ObjOk H h a u
 |.tbl ps=>h.get? a=some { cls:=.none,data:=.fields ps }
 |.met f x=>h.get? a=some (PySem.W.methodObj (.ref f) (.ref x))
 |.ext φ=>φ h∧(∃o,h.get? a=some o)∧∀h1 h2:Heap,φ h1→(∀o,h1.get? a=some o→h2.get? a=some o)→φ h2
def HOk (H:Hp) (h:Heap):Prop:=∀a o,H a=some o→ObjOk P w H h a o
end
section
variable {P:Program} {w:World} {H H':Hp} {h h':Heap} {a:Addr} {o:HO}
theorem ObjOk.lt (x:ObjOk P w H h a o):a<h.objs.size:=by
 cases o with
 |lst xs=>obtain ⟨_,_,_,_,e⟩:=x;exact Heap.lt_size e
 |tup xs=>obtain ⟨_,_,_,p⟩:=x;exact p.1.lt
 |dK kvs=>obtain ⟨_,_,_,_,o,_,_,e,_⟩:=x;exact Heap.lt_size e
 |dT kvs=>obtain ⟨_,_,_,_,o,_,_,e,_⟩:=x;exact Heap.lt_size e
 |set S n=>obtain ⟨o,_,_,_,e,_⟩:=x;exact Heap.lt_size e
 |ins C dx fs=>obtain ⟨_,_,_,e,_⟩:=x;exact Heap.lt_size e
 |own y=>obtain ⟨_,e⟩:=x;exact Heap.lt_size e
 |xd fs=>obtain ⟨_,⟨_,_,_,e,_⟩,_⟩:=x;exact Heap.lt_size e
 |rng lo hi=>obtain ⟨_,_,_,e⟩:=x;exact Heap.lt_size e
 |frz ob u=>obtain ⟨e,_⟩:=x;exact Heap.lt_size e
 |tbl ps=>exact Heap.lt_size (show h.get? a=some _ from x)
 |met f y=>exact Heap.lt_size (show h.get? a=some _ from x)
 |ext φ=>obtain ⟨_,⟨_,e⟩,_⟩:=x;exact Heap.lt_size e
theorem Paired.mapP {α β:Type} {F G:α→β→Prop}:∀{l₁:List α} {l₂:List β},Paired F l₁ l₂→(∀a b,F a b→G a b)→Paired G l₁ l₂
 |_,_,.nil,_=>.nil
 |_,_,.cons r t,f=>.cons (f _ _ r) (Paired.mapP t f)
theorem ObjOk.stay (x:ObjOk P w H h a o) (k:∀b u,(b=a∨H b=some (.own a))→h.get? b=some u→h'.get? b=some u)
  (ho:∀b,H b=some (.own a)→H' b=some (.own a)) (ht:∀b xs,H b=some (.tup xs)→H' b=some (.tup xs)):ObjOk P w H' h' a o:=by
 induction o with
 |lst xs=>obtain ⟨z,its,n,r,e⟩:=x;exact ⟨z,its,n,r,k _ _ (.inl rfl) e⟩
 |tup xs=>obtain ⟨z,its,r,p⟩:=x;exact ⟨z,its,r,p.keep fun o e=>k _ _ (.inl rfl) e⟩
 |dK kvs=>obtain ⟨z,y,vs,r,ob,es,ep,e,c⟩:=x;exact ⟨z,y,vs,r,ob,es,ep,k _ _ (.inl rfl) e,c⟩
 |dT kvs=>
  obtain ⟨z,y,xs,r,ob,es,ep,e,c⟩:=x
  exact ⟨z,y,xs,Paired.mapP r fun p q z=>⟨z.1,ht _ _ z.2.1,z.2.2⟩,ob,es,ep,k _ _ (.inl rfl) e,c⟩
 |set S n=>obtain ⟨ob,es,ep,t,e,c⟩:=x;exact ⟨ob,es,ep,t,k _ _ (.inl rfl) e,c⟩
 |ins C dx fs=>
  obtain ⟨d,z,ne,e,mA,⟨od,es,ep,e2,c⟩,r⟩:=x
  exact ⟨ho _ d,z,ne,k _ _ (.inl rfl) e,mA,⟨od,es,ep,k _ _ (.inr d) e2,c⟩,r⟩
 |own y=>obtain ⟨ob,e⟩:=x;exact ⟨ob,k _ _ (.inl rfl) e⟩
 |xd fs=>obtain ⟨mA,⟨od,es,ep,e,c⟩,r⟩:=x;exact ⟨mA,⟨od,es,ep,k _ _ (.inl rfl) e,c⟩,r⟩
 |rng lo hi=>obtain ⟨t,u,v,e⟩:=x;exact ⟨t,u,v,k _ _ (.inl rfl) e⟩
 |frz ob u ih=>obtain ⟨e,q⟩:=x;exact ⟨k _ _ (.inl rfl) e,ih q⟩
 |tbl ps=>
  have e:h.get? a=some { cls:=.none,data:=.fields ps }:=x
  show h'.get? a=some { cls:=.none,data:=.fields ps }
  exact k a _ (.inl rfl) e
 |met f y=>
  have e:h.get? a=some (PySem.W.methodObj (.ref f) (.ref y)):=x
  show h'.get? a=some (PySem.W.methodObj (.ref f) (.ref y))
  exact k a _ (.inl rfl) e
 |ext φ=>obtain ⟨p,⟨o,e⟩,st⟩:=x;exact ⟨st _ _ p fun o q=>k _ _ (.inl rfl) q,⟨o,k _ _ (.inl rfl) e⟩,st⟩
theorem HOk.lt (x:HOk P w H h) (e:H a=some o):a<h.objs.size:=(x a o e).lt
theorem HOk.fresh (x:HOk P w H h) (e:h.objs.size≤a):H a=none:=by
 cases q:H a with
 |none=>rfl
 |some u=>exact absurd (Nat.lt_of_lt_of_le (x.lt q) e) (Nat.lt_irrefl _)
theorem HOk.kept (x:HOk P w H h) (k:∀b u,h.get? b=some u→h'.get? b=some u):HOk P w H h':=fun a o e=>
 (x a o e).stay (fun b u _ q=>k b u q) (fun _ q=>q) fun _ _ q=>q
theorem HOk.laid (x:HOk P w H h) (k:∀b u,h.get? b=some u→h'.get? b=some u) (hp:h.objs.size≤a) (new:ObjOk P w (upd H a o) h' a o):HOk P w (upd H a o) h':=fun b u e=>by
 have hn:=x.fresh hp
 by_cases hb:b=a
 ·subst hb;rw [upd_same] at e;cases e;exact new
 ·rw [upd_ne hb] at e
  exact (x b u e).stay (fun c v _ q=>k c v q) (fun c q=>by rw [upd_ne (ne_of_none q hn)];exact q) fun c xs q=>by rw [upd_ne (ne_of_none q hn)];exact q
end
def Rd (H:Hp) (a:Addr) (u:HO):Prop:=H a=some u∨∃o,H a=some (.frz o u)
theorem Rd.ok {P:Program} {w:World} {H:Hp} {h:Heap} {a:Addr} {u:HO} (r:Rd H a u) (x:HOk P w H h):ObjOk P w H h a u:=by
 rcases r with r|⟨o,r⟩
 ·exact x a u r
 ·obtain ⟨_,q⟩:=x a _ r
  exact q
def Mut:Option HO→Prop
 |some (.lst _)=>True
 |some (.dK _)=>True
 |some (.dT _)=>True
 |some (.set _ _)=>True
 |some (.ins _ _ _)=>True
 |some (.ext _)=>True
 |_=>False
section
variable {P:Program} {w:World} {H:Hp} {h h':Heap} {x e:Addr} {o':HO}
theorem HOk.write (ok:HOk P w H h) (mu:Mut (H x)) (he:e=x∨H e=some (.own x)) (k:∀b u,b≠e→h.get? b=some u→h'.get? b=some u) (heo:∃u,h'.get? e=some u)
  (new:ObjOk P w (upd H x o') h' x o'):HOk P w (upd H x o') h':=fun b u q=>by
 have nown:∀c y,H c=some (.own y)→c≠x:=fun c y r z=>by subst z;rw [r] at mu;exact mu
 have ntup:∀c xs,H c=some (.tup xs)→c≠x:=fun c xs r z=>by subst z;rw [r] at mu;exact mu
 by_cases hb:b=x
 ·subst hb;rw [upd_same] at q;cases q;exact new
 ·rw [upd_ne hb] at q
  by_cases hbe:b=e
  ·have q':H b=some (.own x):=by
    rcases he with z|z
    ·exact absurd (hbe.trans z) hb
    ·rw [hbe];exact z
   rw [q] at q';cases q'
   obtain ⟨v,hv⟩:=heo
   exact ⟨v,by rw [hbe];exact hv⟩
  ·refine (ok b u q).stay (fun c v hc r=>k c v ?_ r) (fun c r=>by rw [upd_ne (nown c b r)];exact r) fun c xs r=>by rw [upd_ne (ntup c xs r)];exact r
   rcases hc with rfl|hc
   ·exact hbe
   ·rintro rfl
    rcases he with z|z
    ·exact nown c b hc z
    ·rw [hc] at z;cases z;exact hb rfl
end
structure Un (fs ex:List Addr) (H H':Hp) (h h':Heap):Prop where
 keep:∀b o,h.get? b=some o→H b=none→b∉fs→b∉ex→h'.get? b=some o
 slot:∀b o,h.get? b=some o→H b=none→b∈fs→b∉ex→∃sl,h'.get? b=some { o with slots:=sl }
 free:∀b o,h.get? b=some o→H b=none→b∉ex→H' b=none
 there:∀b o,h.get? b=some o→b∉ex→∃o',h'.get? b=some o'
 tups:∀b xs,H b=some (.tup xs)→H' b=some (.tup xs)
 frzs:∀b o u,H b=some (.frz o u)→H' b=some (.frz o u)
 tbls:∀b ps,H b=some (.tbl ps)→∃more,H' b=some (.tbl (ps++more))
section
variable {fs fs' ex ex':List Addr} {H H1 H2:Hp} {h h1 h2 h':Heap} {a x e:Addr} {o:HO}
theorem Un.any (u:Un fs ex H H1 h h1) {b:Addr} {ob:Obj} (q:h.get? b=some ob) (n:H b=none) (hx:b∉ex):∃sl,h1.get? b=some { ob with slots:=sl }:=by
 by_cases hb:b∈fs
 ·exact u.slot b ob q n hb hx
 ·exact ⟨ob.slots,u.keep b ob q n hb hx⟩
theorem Un.kept (k:∀b u,h.get? b=some u→h'.get? b=some u):Un fs ex H H h h':=
 ⟨fun b ob q _ _ _=>k b ob q,fun b ob q _ _ _=>⟨ob.slots,k b ob q⟩,fun _ _ _ n _=>n,fun b ob q _=>⟨ob,k b ob q⟩,fun _ _ q=>q,fun _ _ _ q=>q,fun _ ps q=>⟨#[],by rw [q];simp⟩⟩
theorem Un.refl:Un fs ex H H h h:=Un.kept fun _ _ q=>q
theorem Un.laid (k:∀b u,h.get? b=some u→h'.get? b=some u) (hp:h.objs.size≤a) (hn:H a=none):Un fs ex H (upd H a o) h h' where
 keep:=fun b u q _ _ _=>k b u q
 slot:=fun b u q _ _ _=>⟨u.slots,k b u q⟩
 free:=fun b u q n _=>by rw [upd_ne (Nat.ne_of_lt (Nat.lt_of_lt_of_le (Heap.lt_size q) hp))];exact n
 there:=fun b u q _=>⟨u,k b u q⟩
 tups:=fun b xs q=>by rw [upd_ne (ne_of_none q hn)];exact q
 frzs:=fun b u xs q=>by rw [upd_ne (ne_of_none q hn)];exact q
 tbls:=fun b ps q=>⟨#[],by rw [upd_ne (ne_of_none q hn),q];simp⟩
theorem Un.write (mu:Mut (H x)) (he:e=x∨H e=some (.own x)) (k:∀b u,b≠e→h.get? b=some u→h'.get? b=some u) (heo:∃u,h'.get? e=some u):Un fs ex H (upd H x o) h h':=by
 have hx:∀b,H b=none→b≠x:=fun b n z=>by subst z;rw [n] at mu;exact mu
 have hb:∀b,H b=none→b≠e:=fun b n z=>by
  subst z
  rcases he with r|r
  ·exact hx b n r
  ·rw [n] at r;cases r
 have hm:∀b u,H b=some u→¬ Mut (some u)→b≠x:=fun b u q nm z=>by subst z;rw [q] at mu;exact nm mu
 refine ⟨fun b u q n _ _=>k b u (hb b n) q,fun b u q n _ _=>⟨u.slots,k b u (hb b n) q⟩,fun b u q n _=>by rw [upd_ne (hx b n)];exact n,fun b u q _=>?_,
  fun b xs q=>by rw [upd_ne (hm b _ q fun z=>z)];exact q,fun b u xs q=>by rw [upd_ne (hm b _ q fun z=>z)];exact q,fun b ps q=>⟨#[],by rw [upd_ne (hm b _ q fun z=>z),q];simp⟩⟩
 by_cases hbe:b=e
 ·subst hbe;exact heo
 ·exact ⟨u,k b u hbe q⟩
end
def trk (h:Heap) (H:Hp):List Addr:=(List.range h.objs.size).filter fun a=>(H a).isSome
def hidT (h:Heap) (H:Hp):Heap:=PySem.W.hideAll h (trk h H)
theorem hidT_size (h:Heap) (H:Hp):(hidT h H).objs.size=h.objs.size:=PySem.W.hideAll_size _ _
theorem hidT_get {h:Heap} {H:Hp} {b:Addr} {o:Obj} (e:h.get? b=some o) (n:H b=none):(hidT h H).get? b=some o:=
 PySem.W.hideAll_get _ e fun hm=>by
  have q:(H b).isSome=true:=(List.mem_filter.mp hm).2
  rw [n] at q;simp at q
theorem of_hidT {h:Heap} {H:Hp} {b:Addr} {o:Obj} (e:(hidT h H).get? b=some o):h.get? b=some o∧H b=none:=by
 have e':h.get? b=some o:=PySem.W.of_hideAll (trk h H) e
 refine ⟨e',?_⟩
 cases q:H b with
 |none=>rfl
 |some x=>
  have hm:b∈trk h H:=List.mem_filter.mpr ⟨List.mem_range.mpr (Heap.lt_size e'),by simp [q]⟩
  have z:(hidT h H).get? b=none:=PySem.W.hideAll_none (trk h H) hm
  rw [z] at e;cases e
structure Mod (K:PySem.W.Frag) (mg:Str→Option Value) (base:Heap):Prop where
 kin:K.In base
 glob:base.Ns mainGlobals mg
 blt:∃mb,base.Ns builtinsNs mb∧∀x:Str,x≠"__name__"→mb x=bootBuiltins x
 nolimit:base.NoLimit
structure Cx where
 prog:Program
 w:World
 K:PySem.W.Frag
 mg:Str→Option Value
 base:Heap
 A:Around
 N:List Str
 s₀:Shared
 H₀:Hp
 env:Env
 outer:List Env
 stack:List Env
 ex:List Addr
 fn:Str→Bool
 calm:Bool
 pn:List (Addr × Obj)
 xe:Value→Shared→Prop
def frs (l:List Env):List Addr:=l.filterMap (·.frame)
abbrev Cx.fs (X:Cx):List Addr:=frs X.outer
def Vis (sc:Scope) (x:Str):Prop:=sc.names.lookup x=some .local∨sc.names.lookup x=some .cell∨sc.names.lookup x=some .free
def Loc (sc:Scope) (x:Str):Prop:=sc.names.lookup x=some .local∨sc.names.lookup x=some .cell
def Look (env:Env) (h:Heap) (m:Str→Option Value) (x:Str) (u:Value):Prop:=
 (env.kindOf x=some .local∧m x=some u)∨((env.kindOf x=some .cell∨env.kindOf x=some .free)∧∃c,env.cells.lookup x=some c∧h.IsCell c (some u))
structure Cx.Ok (X:Cx):Prop where
 mod:Mod X.K X.mg X.base
 kind:X.env.scope.kind=.function
 glob:X.env.globals=mainGlobals
 blt:X.env.builtins=builtinsNs
 above:X.s₀.heap.objs.size≤X.env.locals
 inj:∀x y c,X.env.cells.lookup x=some c→X.env.cells.lookup y=some c→x=y
 has:∀x,(X.env.kindOf x=some .cell∨X.env.kindOf x=some .free)→∃c,X.env.cells.lookup x=some c
 cab:∀x c,X.fn x=true→X.env.cells.lookup x=some c→X.s₀.heap.objs.size≤c
 hd:X.calm=true→X.A.handled=none
 frames:X.A.frames=some X.stack
 stk:X.stack=X.outer∨(X.stack=X.env::X.outer∧X.env.frame=some X.env.locals)
 exf:∀b∈X.ex,b≠X.env.locals∧∀x c,X.env.cells.lookup x=some c→c≠b
 bs:∀b o,X.base.get? b=some o→X.s₀.heap.get? b=some o∧X.H₀ b=none
 bsz:X.base.objs.size≤X.s₀.heap.objs.size
 noex:∀b o,X.base.get? b=some o→b∉X.ex
 exfs:∀b∈X.ex,b∉X.fs
 funs:X.s₀.heap.FunFrames X.base X.outer
 frf:∀b∈X.fs,X.H₀ b=none
structure Inv (X:Cx) (pins:List (Addr × Obj)) (σ:List (Option V)) (H:Hp) (s:Shared):Prop where
 ok:X.Ok
 os:s.os=X.s₀.os
 bare:AllBare s.gens
 base:Un X.fs X.ex X.H₀ H X.s₀.heap s.heap
 loc:∃m,s.heap.Ns X.env.locals m∧∀(i:Nat) (x:Str) (v:V),X.N[i]?=some x→σ[i]?=some (some v)→Vis X.env.scope x→∃u,RelV v u∧Look X.env s.heap m x u
 cell:∀x c,X.env.cells.lookup x=some c→∃v,s.heap.IsCell c v
 free:H X.env.locals=none
 freeC:∀x c,X.env.cells.lookup x=some c→H c=none
 pin:∀p∈X.pn++pins,s.heap.get? p.1=some p.2∧H p.1=none∧p.1≠X.env.locals∧p.1∉X.fs∧∀v,p.2.data≠.cell v
 hok:HOk X.prog X.w H s.heap
 len:σ.length=X.N.length
section
variable {X:Cx} {pins:List (Addr × Obj)} {σ:List (Option V)} {H H':Hp} {s:Shared} {h':Heap}
theorem Cx.Ok.nofr (ok:X.Ok) {b:Addr} {o:Obj} (e:X.base.get? b=some o):b∉X.fs:=fun hb=>by
 have:=(ok.funs.mem hb).1
 rw [e] at this;cases this
theorem Inv.bs (I:Inv X pins σ H s):∀b o,X.base.get? b=some o→s.heap.get? b=some o∧H b=none:=fun b o e=>
 ⟨I.base.keep b o (I.ok.bs b o e).1 (I.ok.bs b o e).2 (I.ok.nofr e) (I.ok.noex b o e),I.base.free b o (I.ok.bs b o e).1 (I.ok.bs b o e).2 (I.ok.noex b o e)⟩
theorem Inv.bk (I:Inv X pins σ H s):∀b o,X.base.get? b=some o→s.heap.get? b=some o:=fun b o e=>(I.bs b o e).1
theorem Inv.mod (I:Inv X pins σ H s):Mod X.K X.mg X.base:=I.ok.mod
theorem Inv.kIn (I:Inv X pins σ H s):X.K.In s.heap:=I.ok.mod.kin.keeps I.bk
theorem Inv.lt (I:Inv X pins σ H s):X.env.locals<s.heap.objs.size:=let ⟨_,hn,_⟩:=I.loc;hn.lt
theorem Inv.sz (I:Inv X pins σ H s):X.s₀.heap.objs.size≤s.heap.objs.size:=Nat.le_trans I.ok.above (Nat.le_of_lt I.lt)
theorem Inv.nofs (I:Inv X pins σ H s) {a:Addr} (h:s.heap.objs.size≤a):a∉X.fs:=fun hb=>by
 obtain ⟨_,o,ho,_⟩:=I.ok.funs.mem hb
 exact absurd (Nat.lt_of_lt_of_le (Heap.lt_size ho) (Nat.le_trans I.sz h)) (Nat.lt_irrefl _)
theorem Inv.cne (I:Inv X pins σ H s):∀x c,X.env.cells.lookup x=some c→c≠X.env.locals:=fun x c e z=>by
 obtain ⟨v,o,ho,hd⟩:=I.cell x c e
 obtain ⟨m,⟨o',es,ep,ho',hd',_⟩,_⟩:=I.loc
 rw [z,ho'] at ho;cases ho;rw [hd'] at hd;cases hd
theorem Inv.funs (I:Inv X pins σ H s):s.heap.FunFrames X.base X.outer:=by
 have all:∀(l:List Env),(∀b∈frs l,b∈X.fs)→X.s₀.heap.FunFrames X.base l→s.heap.FunFrames X.base l:=by
  intro l
  induction l with
  |nil=>intro _ _;trivial
  |cons env r ih=>
   intro hs hl
   obtain ⟨hk,⟨L,o,hf,hn,ho,hd⟩,hr⟩:=hl
   have hL:L∈X.fs:=hs L (by unfold frs;rw [List.filterMap_cons,hf];exact List.mem_cons_self)
   obtain ⟨sl,e⟩:=I.base.slot L o ho (I.ok.frf L hL) hL fun z=>I.ok.exfs L z hL
   exact ⟨hk,⟨L,_,hf,hn,e,hd⟩,ih (fun b hb=>hs b (by unfold frs;rw [List.filterMap_cons,hf];exact List.mem_cons_of_mem _ hb)) hr⟩
 exact all X.outer (fun _ hb=>hb) I.ok.funs
theorem Inv.stack (I:Inv X pins σ H s):s.heap.FunFrames X.base X.stack:=by
 rcases I.ok.stk with e|⟨e,hf⟩
 ·rw [e];exact I.funs
 ·rw [e]
  obtain ⟨m,hn,_⟩:=I.loc
  refine .cons (by rw [I.ok.kind];decide) hf hn ?_ I.funs
  exact Heap.get?_none_of_le (Nat.le_trans I.ok.bsz I.ok.above)
theorem Inv.stkSub (I:Inv X pins σ H s):∀b∈frs X.stack,b∈X.env.locals::X.fs:=fun b hb=>by
 rcases I.ok.stk with e|⟨e,hf⟩
 ·rw [e] at hb;exact List.mem_cons_of_mem _ hb
 ·rw [e] at hb
  unfold frs at hb
  rw [List.filterMap_cons,hf] at hb
  exact hb
theorem Inv.stkFree (I:Inv X pins σ H s):∀b∈frs X.stack,H b=none:=fun b hb=>by
 rcases List.mem_cons.mp (I.stkSub b hb) with e|hb
 ·rw [e];exact I.free
 ·obtain ⟨_,o,ho,_⟩:=I.ok.funs.mem hb
  exact I.base.free b o ho (I.ok.frf b hb) fun z=>I.ok.exfs b z hb
theorem Inv.step {g':Array GenState} {t':Nat} {d':Drawn} {ch:List Addr} (I:Inv X pins σ H s)
  (hch:∀b∈ch,(b∈X.ex∨X.s₀.heap.objs.size≤b)∧b≠X.env.locals∧(∀x c,X.env.cells.lookup x=some c→c≠b)∧∀p∈X.pn++pins,p.1≠b)
  (keep:∀b o,b≠X.env.locals→b∉X.fs→b∉ch→s.heap.get? b=some o→H b=none→h'.get? b=some o)
  (slot:∀b o,b≠X.env.locals→b∈X.fs→b∉ch→s.heap.get? b=some o→H b=none→∃sl,h'.get? b=some { o with slots:=sl }) (free:∀b o,b∉ch→s.heap.get? b=some o→H b=none→H' b=none)
  (there:∀b o,b∉ch→s.heap.get? b=some o→∃o',h'.get? b=some o')
  (tups:∀b xs,H b=some (.tup xs)→H' b=some (.tup xs)) (frzs:∀b o u,H b=some (.frz o u)→H' b=some (.frz o u)) (tbls:∀b ps,H b=some (.tbl ps)→∃more,H' b=some (.tbl (ps++more)))
  (ns:∀m,s.heap.Ns X.env.locals m→h'.Ns X.env.locals m) (hok:HOk X.prog X.w H' h') (hg:AllBare g') :
  Inv X pins σ H' { s with heap:=h',gens:=g',drawn:=d',toks:=t' }:=by
 have neL:∀b o,X.s₀.heap.get? b=some o→b≠X.env.locals:=fun b o e=>Nat.ne_of_lt (Nat.lt_of_lt_of_le (Heap.lt_size e) I.ok.above)
 have neC:∀b o,X.s₀.heap.get? b=some o→b∉X.ex→b∉ch:=fun b o e hx hb=>by
  rcases (hch b hb).1 with z|z
  ·exact hx z
  ·exact absurd (Nat.lt_of_lt_of_le (Heap.lt_size e) z) (Nat.lt_irrefl _)
 have cellK:∀x c,X.env.cells.lookup x=some c→∀v,s.heap.IsCell c v→h'.IsCell c v:=fun x c e v ⟨o,ho,hd⟩=>by
  have nch:c∉ch:=fun z=>(hch c z).2.2.1 x c e rfl
  by_cases hc:c∈X.fs
  ·obtain ⟨sl,q⟩:=slot c o (I.cne x c e) hc nch ho (I.freeC x c e)
   exact ⟨_,q,hd⟩
  ·exact ⟨o,keep c o (I.cne x c e) hc nch ho (I.freeC x c e),hd⟩
 refine ⟨I.ok,I.os,hg,⟨fun b o e n hb hx=>?_,fun b o e n hb hx=>?_,fun b o e n hx=>?_,fun b o e hx=>?_,fun b xs e=>tups b xs (I.base.tups b xs e),fun b o xs e=>frzs b o xs (I.base.frzs b o xs e),fun b ps e=>?_⟩,?_,fun x c e=>?_,?_,fun x c e=>?_,fun p hp=>?_,hok,I.len⟩
 ·exact keep b o (neL b o e) hb (neC b o e hx) (I.base.keep b o e n hb hx) (I.base.free b o e n hx)
 ·obtain ⟨sl,e1⟩:=I.base.slot b o e n hb hx
  obtain ⟨sl',e2⟩:=slot b _ (neL b o e) hb (neC b o e hx) e1 (I.base.free b o e n hx)
  exact ⟨sl',e2⟩
 ·obtain ⟨o',e1⟩:=I.base.there b o e hx
  exact free b o' (neC b o e hx) e1 (I.base.free b o e n hx)
 ·obtain ⟨o',e1⟩:=I.base.there b o e hx
  exact there b o' (neC b o e hx) e1
 ·obtain ⟨m1,e1⟩:=I.base.tbls b ps e
  obtain ⟨m2,e2⟩:=tbls b _ e1
  exact ⟨m1++m2,by rw [e2,Array.append_assoc]⟩
 ·obtain ⟨m,hn,hl⟩:=I.loc
  refine ⟨m,ns m hn,fun i x v e1 e2 e3=>?_⟩
  obtain ⟨u,r,l⟩:=hl i x v e1 e2 e3
  refine ⟨u,r,?_⟩
  rcases l with l|⟨k,c,e,z⟩
  ·exact .inl l
  ·exact .inr ⟨k,c,e,cellK x c e _ z⟩
 ·obtain ⟨v,z⟩:=I.cell x c e
  exact ⟨v,cellK x c e v z⟩
 ·obtain ⟨m,⟨o,_,_,ho,_⟩,_⟩:=I.loc
  exact free _ o (fun z=>(hch _ z).2.1 rfl) ho I.free
 ·obtain ⟨v,o,ho,hd⟩:=I.cell x c e
  exact free c o (fun z=>(hch c z).2.2.1 x c e rfl) ho (I.freeC x c e)
 ·obtain ⟨e,n,ne,nf,d⟩:=I.pin p hp
  have nch:p.1∉ch:=fun z=>(hch p.1 z).2.2.2 p hp rfl
  exact ⟨keep p.1 p.2 ne nf nch e n,free p.1 p.2 nch e n,ne,nf,d⟩
theorem Inv.un {t':Nat} (I:Inv X pins σ H s) (u:Un X.fs [] H H' s.heap h') (hok:HOk X.prog X.w H' h'):Inv X pins σ H' { s with heap:=h',toks:=t' }:=by
 obtain ⟨m,⟨o,es,ep,ho,r⟩,_⟩:=id I.loc
 obtain ⟨sl,hL⟩:=u.any ho I.free (by simp)
 exact I.step (g':=s.gens) (d':=s.drawn) (ch:=[]) (fun _ z=>nomatch z) (fun b o _ hb _ e n=>u.keep b o e n hb (by simp)) (fun b o _ hb _ e n=>u.slot b o e n hb (by simp)) (fun b o _ e n=>u.free b o e n (by simp)) (fun b o _ e=>u.there b o e (by simp)) u.tups u.frzs u.tbls (fun m' hm=>by
  obtain ⟨o',es',ep',ho',r'⟩:=hm
  rw [ho] at ho';cases ho'
  exact ⟨_,es',ep',hL,r'⟩) hok I.bare
theorem Inv.call {g':Array GenState} {t':Nat} {d':Drawn} {ch:List Addr} (I:Inv X pins σ H s) (u:Un (frs X.stack) ch H H' s.heap h') (hok:HOk X.prog X.w H' h') (hg:AllBare g')
  (hch:∀b∈ch,(b∈X.ex∨X.s₀.heap.objs.size≤b)∧b≠X.env.locals∧(∀x c,X.env.cells.lookup x=some c→c≠b)∧∀p∈X.pn++pins,p.1≠b) :
  Inv X pins σ H' { s with heap:=h',gens:=g',drawn:=d',toks:=t' }:=by
 obtain ⟨m,⟨o,es,ep,ho,r⟩,_⟩:=id I.loc
 obtain ⟨sl,hL⟩:=u.any ho I.free fun z=>(hch _ z).2.1 rfl
 exact I.step (ch:=ch) hch (fun b o hL hb hc e n=>u.keep b o e n (fun z=>(List.mem_cons.mp (I.stkSub b z)).elim hL hb) hc) (fun b o _ _ hc e n=>u.any e n hc) (fun b o hc e n=>u.free b o e n hc) (fun b o hc e=>u.there b o e hc) u.tups u.frzs u.tbls (fun m' hm=>by
  obtain ⟨o',es',ep',ho',r'⟩:=hm
  rw [ho] at ho';cases ho'
  exact ⟨_,es',ep',hL,r'⟩) hok hg
theorem Inv.turned {t':Nat} {it:Addr} (I:Inv X pins σ H s) (k:∀b o,b≠it→s.heap.get? b=some o→h'.get? b=some o) (hn:H it=none) (hL:it≠X.env.locals)
  (h1:it∈X.ex∨X.s₀.heap.objs.size≤it) (h2:∀x c,X.env.cells.lookup x=some c→c≠it) (h3:∀p∈X.pn++pins,p.1≠it):Inv X pins σ H { s with heap:=h',toks:=t' }:=by
 have nit:∀b u,H b=some u→b≠it:=fun b u e z=>by rw [z,hn] at e;cases e
 refine I.step (g':=s.gens) (d':=s.drawn) (ch:=[it]) (fun b hb=>?_) (fun b o _ _ hc e _=>k b o (fun z=>hc (by simp [z])) e) (fun b o _ _ hc e _=>⟨o.slots,k b o (fun z=>hc (by simp [z])) e⟩) (fun _ _ _ _ n=>n)
  (fun b o hc e=>⟨o,k b o (fun z=>hc (by simp [z])) e⟩) (fun _ _ e=>e) (fun _ _ _ e=>e) (fun b ps e=>⟨#[],by rw [e];simp⟩) (fun m hm=>?_) (fun b u e=>?_) I.bare
 ·have e:b=it:=by simpa using hb
  subst e
  exact ⟨h1,hL,h2,h3⟩
 ·obtain ⟨o,es,ep,ho,r⟩:=hm
  exact ⟨o,es,ep,k _ o (Ne.symm hL) ho,r⟩
 ·refine (I.hok b u e).stay (fun c v hc q=>k c v ?_ q) (fun _ q=>q) fun _ _ q=>q
  rcases hc with z|z
  ·rw [z];exact nit b u e
  ·exact nit c _ z
theorem Inv.tok (I:Inv X pins σ H s) (t:Nat):Inv X pins σ H { s with toks:=t }:=I.un (h':=s.heap) (t':=t) Un.refl I.hok
theorem Inv.kept {t':Nat} (I:Inv X pins σ H s) (k:∀b u,s.heap.get? b=some u→h'.get? b=some u):Inv X pins σ H { s with heap:=h',toks:=t' }:=I.un (Un.kept k) (I.hok.kept k)
theorem Inv.laid {a:Addr} {o:HO} {t':Nat} (I:Inv X pins σ H s) (k:∀b u,s.heap.get? b=some u→h'.get? b=some u) (hp:s.heap.objs.size≤a) (new:ObjOk X.prog X.w (upd H a o) h' a o) :
  Inv X pins σ (upd H a o) { s with heap:=h',toks:=t' }:=I.un (Un.laid k hp (I.hok.fresh hp)) (I.hok.laid k hp new)
theorem Inv.write {x e:Addr} {o:HO} {t':Nat} (I:Inv X pins σ H s) (mu:Mut (H x)) (he:e=x∨H e=some (.own x)) (k:∀b u,b≠e→s.heap.get? b=some u→h'.get? b=some u) (heo:∃u,h'.get? e=some u)
  (new:ObjOk X.prog X.w (upd H x o) h' x o):Inv X pins σ (upd H x o) { s with heap:=h',toks:=t' }:=I.un (Un.write mu he k heo) (I.hok.write mu he k heo new)
theorem Inv.pins_of {pins':List (Addr × Obj)} (I:Inv X pins σ H s) (h:∀p∈pins',s.heap.get? p.1=some p.2∧H p.1=none∧p.1≠X.env.locals∧p.1∉X.fs∧∀v,p.2.data≠.cell v):Inv X pins' σ H s:=
 ⟨I.ok,I.os,I.bare,I.base,I.loc,I.cell,I.free,I.freeC,fun p hp=>(List.mem_append.mp hp).elim (fun z=>I.pin p (List.mem_append_left _ z)) (h p),I.hok,I.len⟩
theorem nodup_ix {N:List Str} (hN:N.Nodup) {i j:Nat} {x:Str} (a:N[i]?=some x) (b:N[j]?=some x):i=j:=by
 obtain ⟨h1,e1⟩:=List.getElem?_eq_some_iff.mp a
 obtain ⟨h2,e2⟩:=List.getElem?_eq_some_iff.mp b
 exact (List.getElem_inj hN).mp (e1.trans e2.symm)
theorem store_ok2 {M:Model} {A:Around} {E:Value→Shared→Prop} {i:Nat} {x:Str} {v:V} {u:Value} {Q:Unit→Shared→Prop} (I:Inv X pins σ H s) (hN:X.N.Nodup) (hi:X.N[i]?=some x) (hx:Loc X.env.scope x) (r:RelV v u)
  (h:∀s',Inv X pins (σ.set i (some v)) H s'→(∃a,Heap.SameBut a s.heap s'.heap∧(a=X.env.locals∨X.env.cells.lookup x=some a))→Q () s') (hf:X.fn x=true∨X.env.scope.names.lookup x=some .local:=by first|exact .inl rfl|exact .inr rfl|assumption):wpAny M A (storeName X.env x u) Q E s:=by
 obtain ⟨m,hn,hl⟩:=id I.loc
 have hcls:(X.env.scope.kind == .class || (X.env.scope.kind == .module && X.env.locals != X.env.globals))=false:=by rw [I.ok.kind];rfl
 have hiσ:i<σ.length:=by rw [I.len];exact (List.getElem?_eq_some_iff.mp hi).1
 have cne:=I.cne
 have tracked:∀{a:Addr} {h':Heap},(∃o,s.heap.get? a=some o∧H a=none)→Heap.SameBut a s.heap h'→HOk X.prog X.w H h':=fun {a h'} ha hs b ob e=>by
  obtain ⟨_,_,hfree⟩:=ha
  refine (I.hok b ob e).stay (fun c w' hc q=>(hs.2 c ?_).trans q) (fun _ q=>q) fun _ _ q=>q
  rintro rfl
  rcases hc with rfl|hc
  ·rw [hfree] at e;cases e
  ·rw [hfree] at hc;cases hc
 rcases hx with hk|hk
 ·refine wpAny_storeName_local hk hn (fun h' hn' hs=>?_) hcls
  obtain ⟨oL,_,_,hoL,_⟩:=id hn
  refine h _ ⟨I.ok,I.os,I.bare,⟨fun b o e n hb hx=>?_,fun b o e n hb hx=>?_,I.base.free,fun b o e hx=>?_,I.base.tups,I.base.frzs,I.base.tbls⟩,⟨_,hn',fun j y v' e1 e2 e3=>?_⟩,fun y c e=>?_,I.free,I.freeC,fun p hp=>?_,tracked ⟨oL,hoL,I.free⟩ hs,by simpa using I.len⟩ ⟨_,hs,.inl rfl⟩
  ·exact (hs.2 b (Nat.ne_of_lt (Nat.lt_of_lt_of_le (Heap.lt_size e) I.ok.above))).trans (I.base.keep b o e n hb hx)
  ·obtain ⟨sl,e1⟩:=I.base.slot b o e n hb hx
   exact ⟨sl,(hs.2 b (Nat.ne_of_lt (Nat.lt_of_lt_of_le (Heap.lt_size e) I.ok.above))).trans e1⟩
  ·obtain ⟨o',e1⟩:=I.base.there b o e hx
   exact ⟨o',(hs.2 b (Nat.ne_of_lt (Nat.lt_of_lt_of_le (Heap.lt_size e) I.ok.above))).trans e1⟩
  ·by_cases hj:j=i
   ·subst hj
    rw [hi] at e1;cases e1
    rw [List.getElem?_set_self hiσ] at e2
    cases e2
    exact ⟨u,r,.inl ⟨hk,by simp⟩⟩
   ·rw [List.getElem?_set_ne (Ne.symm hj)] at e2
    obtain ⟨u',r',q⟩:=hl j y v' e1 e2 e3
    refine ⟨u',r',?_⟩
    rcases q with ⟨k,e⟩|⟨k,c,e,z⟩
    ·refine .inl ⟨k,?_⟩
     have:y≠x:=fun e=>hj (nodup_ix hN e1 (e ▸ hi))
     simp [this,e]
    ·exact .inr ⟨k,c,e,z.sameBut hs (cne y c e)⟩
  ·obtain ⟨w',z⟩:=I.cell y c e
   exact ⟨w',z.sameBut hs (cne y c e)⟩
  ·obtain ⟨e,n,ne,nf,d⟩:=I.pin p hp
   exact ⟨(hs.2 p.1 ne).trans e,n,ne,nf,d⟩
 ·have hfn:X.fn x=true:=by
   rcases hf with z|z
   ·exact z
   ·rw [z] at hk;cases hk
  obtain ⟨c,hc⟩:=I.ok.has x (.inl hk)
  obtain ⟨w',z⟩:=I.cell x c hc
  refine wpAny_storeName_cell I.ok.kind hk hc z (fun h' hc' hs=>?_)
  obtain ⟨oc,hoc,hocd⟩:=id z
  refine h { s with heap:=h' } ⟨I.ok,I.os,I.bare,⟨fun b o e n hb hx=>?_,fun b o e n hb hx=>?_,I.base.free,fun b o e hx=>?_,I.base.tups,I.base.frzs,I.base.tbls⟩,⟨m,hn.sameBut hs (Ne.symm (cne x c hc)),fun j y v' e1 e2 e3=>?_⟩,fun y c' e=>?_,I.free,I.freeC,fun p hp=>?_,tracked ⟨oc,hoc,I.freeC x c hc⟩ hs,by simpa using I.len⟩ ⟨c,hs,.inr hc⟩
  ·exact (hs.2 b (Nat.ne_of_lt (Nat.lt_of_lt_of_le (Heap.lt_size e) (I.ok.cab x c hfn hc)))).trans (I.base.keep b o e n hb hx)
  ·obtain ⟨sl,e1⟩:=I.base.slot b o e n hb hx
   exact ⟨sl,(hs.2 b (Nat.ne_of_lt (Nat.lt_of_lt_of_le (Heap.lt_size e) (I.ok.cab x c hfn hc)))).trans e1⟩
  ·obtain ⟨o',e1⟩:=I.base.there b o e hx
   exact ⟨o',(hs.2 b (Nat.ne_of_lt (Nat.lt_of_lt_of_le (Heap.lt_size e) (I.ok.cab x c hfn hc)))).trans e1⟩
  ·by_cases hj:j=i
   ·subst hj
    rw [hi] at e1;cases e1
    rw [List.getElem?_set_self hiσ] at e2
    cases e2
    exact ⟨u,r,.inr ⟨.inl hk,c,hc,hc'⟩⟩
   ·rw [List.getElem?_set_ne (Ne.symm hj)] at e2
    obtain ⟨u',r',q⟩:=hl j y v' e1 e2 e3
    refine ⟨u',r',?_⟩
    rcases q with q|⟨k,c',e,z'⟩
    ·exact .inl q
    ·refine .inr ⟨k,c',e,z'.sameBut hs ?_⟩
     rintro rfl
     exact hj (nodup_ix hN e1 (I.ok.inj _ _ _ e hc ▸ hi))
  ·by_cases hcc:c'=c
   ·subst hcc;exact ⟨_,hc'⟩
   ·obtain ⟨w2,z2⟩:=I.cell y c' e
    exact ⟨w2,z2.sameBut hs hcc⟩
  ·obtain ⟨e,n,ne,nf,d⟩:=I.pin p hp
   refine ⟨(hs.2 p.1 ?_).trans e,n,ne,nf,d⟩
   intro q
   rw [q,hoc] at e
   have q':oc=p.2:=Option.some.inj e
   exact d w' (by rw [←q'];exact hocd)
theorem store_ok {M:Model} {A:Around} {E:Value→Shared→Prop} {i:Nat} {x:Str} {v:V} {u:Value} {Q:Unit→Shared→Prop} (I:Inv X pins σ H s) (hN:X.N.Nodup) (hi:X.N[i]?=some x) (hx:Loc X.env.scope x) (r:RelV v u)
  (h:∀s',Inv X pins (σ.set i (some v)) H s'→Q () s') (hf:X.fn x=true∨X.env.scope.names.lookup x=some .local:=by first|exact .inl rfl|exact .inr rfl|assumption):wpAny M A (storeName X.env x u) Q E s:=
 store_ok2 I hN hi hx r (fun s' I' _=>h s' I') hf
theorem Inv.call' {s':Shared} {ch:List Addr} (I:Inv X pins σ H s) (ho:s'.os=s.os) (u:Un (frs X.stack) ch H H' s.heap s'.heap) (hok:HOk X.prog X.w H' s'.heap) (hg:AllBare s'.gens)
  (hch:∀b∈ch,(b∈X.ex∨X.s₀.heap.objs.size≤b)∧b≠X.env.locals∧(∀x c,X.env.cells.lookup x=some c→c≠b)∧∀p∈X.pn++pins,p.1≠b):Inv X pins σ H' s':=by
 obtain ⟨h',g',d',t',o'⟩:=s'
 have e:o'=s.os:=ho
 subst e
 exact I.call (g':=g') (t':=t') (d':=d') u hok hg hch
end
abbrev XK:=Value→Option Addr→Hp→Prop
abbrev St:=List (Option V)
abbrev VK:=V→Hp→Prop
abbrev TE:=St→Hp→VK→Prop
abbrev TT:=St→Hp→(Bool→Hp→Prop)→Prop
abbrev TA:=St→Hp→(List V→Hp→Prop)→Prop
structure Ends where
 nx:St→Hp→Prop
 rt:VK
 bk:St→Hp→Prop:=fun _ _=>False
 ct:St→Hp→Prop:=fun _ _=>False
abbrev TS:=Ends→St→Hp→Prop
def EP (X:Cx) (pins:List (Addr × Obj)) (σ:St) (Q:VK) (u:Value) (s':Shared):Prop:=∃v H',Inv X pins σ H' s'∧RelV v u∧Q v H'
def TP (X:Cx) (pins:List (Addr × Obj)) (σ:St) (Q:Bool→Hp→Prop) (b:Bool) (s':Shared):Prop:=∃H',Inv X pins σ H' s'∧Q b H'
def AP (X:Cx) (pins:List (Addr × Obj)) (σ:St) (Q:List V→Hp→Prop) (us:List Value) (s':Shared):Prop:=∃vs H',Inv X pins σ H' s'∧Vals vs us∧Q vs H'
def SP (X:Cx) (pins:List (Addr × Obj)) (D:Ends) (f:Flow) (s':Shared):Prop:=
 match f with
 |.next=>∃σ' H',Inv X pins σ' H' s'∧D.nx σ' H'
 |.brk=>∃σ' H',Inv X pins σ' H' s'∧D.bk σ' H'
 |.cont=>∃σ' H',Inv X pins σ' H' s'∧D.ct σ' H'
 |.ret u=>∃v σ' H',Inv X pins σ' H' s'∧RelV v u∧D.rt v H'
def PE (X:Cx) (e:Expr) (t:TE):Prop:=
 ∀(pins:List (Addr × Obj)) (s:Shared) (σ:St) (H:Hp) (Q:VK),Inv X pins σ H s→t σ H Q→wpAny (model X.prog X.w) X.A (eval e X.env) (EP X pins σ Q) X.xe s
def PT (X:Cx) (e:Expr) (t:TT):Prop:=
 ∀(pins:List (Addr × Obj)) (s:Shared) (σ:St) (H:Hp) (Q:Bool→Hp→Prop),Inv X pins σ H s→t σ H Q→wpAny (model X.prog X.w) X.A (isTrue e X.env (eval e X.env)) (TP X pins σ Q) X.xe s
def PW (X:Cx) (e:Expr) (t:TT):Prop:=
 ∀(whole:Sem Value) (pins:List (Addr × Obj)) (s:Shared) (σ:St) (H:Hp) (Q:Bool→Hp→Prop),Inv X pins σ H s→t σ H Q→wpAny (model X.prog X.w) X.A (isTrue e X.env whole) (TP X pins σ Q) X.xe s
theorem PW.pt {X:Cx} {e:Expr} {t:TT} (h:PW X e t):PT X e t:=h _
def PA (X:Cx) (es:List Expr) (t:TA):Prop:=
 ∀(pos:Pos) (pins:List (Addr × Obj)) (s:Shared) (σ:St) (H:Hp) (Q:List V→Hp→Prop),Inv X pins σ H s→t σ H Q→wpAny (model X.prog X.w) X.A (spliced (backTo pos (starEach es X.env))) (AP X pins σ Q) X.xe s
def PS (X:Cx) (st:Stmt) (t:TS):Prop:=
 ∀(pins:List (Addr × Obj)) (s:Shared) (σ:St) (H:Hp) (D:Ends),Inv X pins σ H s→t D σ H→wpAny (model X.prog X.w) X.A (exec st X.env) (SP X pins D) X.xe s
def PSs (X:Cx) (st:List Stmt) (t:TS):Prop:=
 ∀(pins:List (Addr × Obj)) (s:Shared) (σ:St) (H:Hp) (D:Ends),Inv X pins σ H s→t D σ H→wpAny (model X.prog X.w) X.A (execs st X.env) (SP X pins D) X.xe s
theorem thn {α:Type} {t:Sem α} {Q Q':α→Shared→Prop} {M:Model} {A:Around} {E:Value→Shared→Prop} {s:Shared} (h:wpAny M A t Q E s) (hQ:∀a s,Q a s→Q' a s):wpAny M A t Q' E s:=wpAny_mono h hQ fun _ _ x=>x
section
variable {X:Cx}
def tVar (i:Nat):TE:=fun σ H Q=>∃v,σ[i]?=some (some v)∧Q v H
def tC (v:V):TE:=fun _ H Q=>Q v H
theorem pe_var {i:Nat} {x:Str} {pos:Pos} (hN:X.N[i]?=some x) (hv:Vis X.env.scope x) (hd:(x == ("__debug__":Str))=false:=by decide) (hcd:(x == ("__classdict__":Str))=false:=by decide):PE X (.Name x pos) (tVar i):=by
 intro pins s σ H Q I h
 obtain ⟨v,e,h⟩:=h
 obtain ⟨m,hn,hl⟩:=I.loc
 obtain ⟨u,r,l⟩:=hl i x v hN e hv
 have fin:EP X pins σ Q u s:=⟨v,H,I,r,h⟩
 rcases l with ⟨hk,hm⟩|⟨hk,c,hc,hcell⟩
 ·exact wpAny_Name (wpAny_loadName_local I.ok.kind hk hn hm fin) hd
 ·rcases hk with hk|hk
  ·exact wpAny_Name (wpAny_loadName_cell I.ok.kind hk hc hcell fin) hd
  ·exact wpAny_Name (wpAny_loadName_free I.ok.kind hk hc hcell fin hcd) hd
theorem pe_int {i j pos}:PE X (.Constant (.int i) j pos) (tC (.int i)):=fun _ _ _ H _ I h=>wpAny_Constant_int ⟨.int i,H,I.tok _,⟨_,rfl⟩,h⟩
theorem pe_bl {b j pos}:PE X (.Constant (.bool b) j pos) (tC (.bl b)):=fun _ _ _ H _ I h=>Constant_bool ⟨.bl b,H,I,rfl,h⟩
theorem pe_non {j pos}:PE X (.Constant .none j pos) (tC .non):=fun _ _ _ H _ I h=>Constant_none ⟨.non,H,I,rfl,h⟩
theorem pe_str {x j pos}:PE X (.Constant (.str x) j pos) (tC (.str x)):=fun _ _ _ H _ I h=>Calls.Constant_str ⟨.str x,H,I.tok _,⟨_,rfl⟩,h⟩
def Gl (X:Cx) (x:Str):Prop:=X.env.kindOf x=some .globalImplicit
theorem ld_glob {E:Value→Shared→Prop} {pins:List (Addr × Obj)} {s:Shared} {σ:St} {H:Hp} {x:Str} {u:Value} {pos:Pos} {Q:Value→Shared→Prop} (I:Inv X pins σ H s) (hg:Gl X x) (hm:X.mg x=some u) (h:Q u s)
  (hd:(x == ("__debug__":Str))=false:=by decide):wpAny (model X.prog X.w) X.A (eval (.Name x pos) X.env) Q E s:=
 Calls.Name_function_global I.ok.kind hg (Calls.loadGlobal_global (by rw [I.ok.glob];exact I.mod.glob.keeps I.bk) hm h) hd
theorem ld_blt {E:Value→Shared→Prop} {pins:List (Addr × Obj)} {s:Shared} {σ:St} {H:Hp} {x:Str} {u:Value} {pos:Pos} {Q:Value→Shared→Prop} (I:Inv X pins σ H s) (hg:Gl X x) (hm:X.mg x=none) (hv:bootBuiltins x=some u) (h:Q u s)
  (hn:x≠"__name__":=by decide) (hd:(x == ("__debug__":Str))=false:=by decide):wpAny (model X.prog X.w) X.A (eval (.Name x pos) X.env) Q E s:=by
 obtain ⟨mb,h1,h2⟩:=I.mod.blt
 exact Calls.Name_function_global I.ok.kind hg (Calls.loadGlobal_builtin (by rw [I.ok.glob];exact I.mod.glob.keeps I.bk) hm (by rw [I.ok.blt];exact h1.keeps I.bk) ((h2 x hn).trans hv) h) hd
theorem pe_glob {x:Str} {v:V} {u:Value} {pos:Pos} (hg:Gl X x) (hm:X.mg x=some u) (r:RelV v u) (hd:(x == ("__debug__":Str))=false:=by decide):PE X (.Name x pos) (tC v):=
 fun _ _ _ H _ I h=>ld_glob I hg hm ⟨v,H,I,r,h⟩ hd
theorem pe_bltn {x:Str} {v:V} {u:Value} {pos:Pos} (hg:Gl X x) (hm:X.mg x=none) (hv:bootBuiltins x=some u) (r:RelV v u) (hn:x≠"__name__":=by decide) (hd:(x == ("__debug__":Str))=false:=by decide):PE X (.Name x pos) (tC v):=
 fun _ _ _ H _ I h=>ld_blt I hg hm hv ⟨v,H,I,r,h⟩ hn hd
variable {a b:Expr} {ta tb:TE} {pos:Pos}
def PC (X:Cx) (op:CmpOp) (a b:Expr) (t:TE):Prop:=
 ∀(pins:List (Addr × Obj)) (s:Shared) (σ:St) (H:Hp) (Q:VK),Inv X pins σ H s→t σ H Q →
  wpAny (model X.prog X.w) X.A (eval a X.env) (fun v s₁=>wpAny (model X.prog X.w) X.A (eval b X.env) (fun u s₂=>wpAny (model X.prog X.w) X.A (compareOp op v u) (EP X pins σ Q) X.xe s₂) X.xe s₁) X.xe s
def tB (t:TE):TT:=fun σ H Q=>t σ H fun x H1=>∃c,x=.bl c∧Q c H1
theorem pt_cmp {op:CmpOp} {t:TE} (h:PC X op a b t) (h1:behindInMarks op b=false:=by first|exact nobehind _ (by decide) (by decide)|rfl):PT X (.Compare a [op] [b] pos) (tB t):=by
 intro pins s σ H Q I hw
 refine wpAny_isTrue_Compare1 (thn (h pins s σ H _ I hw) fun v s1 h1=>thn h1 fun u s2 h2=>thn h2 fun c s3 ⟨x,H1,I1,r1,q1⟩=>?_) h1
 obtain ⟨d,rfl,q⟩:=q1
 cases r1
 exact wpAny_truthy_bool ⟨H1,I1,q⟩
theorem pt_val {e:Expr} {t:TE} (h:PE X e t) (he:∀whole,isTrue e X.env whole=(do let v ←whole;standAt e.pos;holding [v] (truthy v)):=by intro _;rfl):PT X e (tB t):=by
 intro pins s σ H Q I hw
 refine isTrue_plain (thn (h pins s σ H _ I hw) fun v s1 ⟨x,H1,I1,r1,q1⟩=>?_) (he _)
 obtain ⟨d,rfl,q⟩:=q1
 cases r1
 exact wpAny_truthy_bool ⟨H1,I1,q⟩
variable {tA tB':TT} {rest:List Expr}
def tAnd (t u:TT):TT:=fun σ H Q=>t σ H fun c H1=>if c=true then u σ H1 Q else Q false H1
def tOr (t u:TT):TT:=fun σ H Q=>t σ H fun c H1=>if c=true then Q true H1 else u σ H1 Q
def tNot (t:TT):TT:=fun σ H Q=>t σ H fun c H1=>Q (!c) H1
theorem pw_and1 (ha:PT X a tA):PW X (.BoolOp .And [a] pos) tA:=by
 intro wh pins s σ H Q I h
 refine isTrue_and (thn (ha pins s σ H Q I h) fun c s1 e=>?_)
 cases c with
 |true=>exact isTrue_and_nil e
 |false=>exact e
theorem pw_or1 (ha:PT X a tA):PW X (.BoolOp .Or [a] pos) tA:=by
 intro wh pins s σ H Q I h
 refine isTrue_or (thn (ha pins s σ H Q I h) fun c s1 e=>?_)
 cases c with
 |false=>exact isTrue_or_nil e
 |true=>exact e
theorem pw_and (ha:PT X a tA) (hb:PW X (.BoolOp .And (b::rest) pos) tB'):PW X (.BoolOp .And (a::b::rest) pos) (tAnd tA tB'):=by
 intro wh pins s σ H Q I h
 refine isTrue_and (thn (ha pins s σ H _ I h) fun c s1 ⟨H1,I1,q1⟩=>?_)
 cases c with
 |true=>exact hb wh pins s1 σ H1 Q I1 q1
 |false=>exact ⟨H1,I1,q1⟩
theorem pw_or (ha:PT X a tA) (hb:PW X (.BoolOp .Or (b::rest) pos) tB'):PW X (.BoolOp .Or (a::b::rest) pos) (tOr tA tB'):=by
 intro wh pins s σ H Q I h
 refine isTrue_or (thn (ha pins s σ H _ I h) fun c s1 ⟨H1,I1,q1⟩=>?_)
 cases c with
 |true=>exact ⟨H1,I1,q1⟩
 |false=>exact hb wh pins s1 σ H1 Q I1 q1
theorem pt_not (ha:PT X a tA):PT X (.UnaryOp .Not a pos) (tNot tA):=by
 intro pins s σ H Q I h
 exact isTrue_not (ha pins s σ H (fun c H1=>Q (!c) H1) I h)
def tAndV (ta tb:TE):TE:=fun σ H Q=>ta σ H fun x H1=>∃c,x=.bl c∧if c=true then tb σ H1 Q else Q (.bl false) H1
def tOrV (ta tb:TE):TE:=fun σ H Q=>ta σ H fun x H1=>∃c,x=.bl c∧if c=true then Q (.bl true) H1 else tb σ H1 Q
def tNotV (ta:TE):TE:=fun σ H Q=>ta σ H fun x H1=>∃c,x=.bl c∧Q (.bl (!c)) H1
theorem pe_one {op} {t:TE} (h:PE X a t):PE X (.BoolOp op [a] pos) t:=fun pins s σ H Q I hw=>BoolOp_one (h pins s σ H Q I hw)
theorem pe_and (ha:PE X a ta) (hb:PE X (.BoolOp .And (b::rest) pos) tb):PE X (.BoolOp .And (a::b::rest) pos) (tAndV ta tb):=by
 intro pins s σ H Q I h
 refine BoolOp_and (thn (ha pins s σ H _ I h) fun v s1 ⟨x,H1,I1,r1,q1⟩=>?_)
 obtain ⟨c,rfl,q1⟩:=q1
 cases r1
 refine wpAny_truthy_bool ?_
 cases c with
 |true=>exact hb pins s1 σ H1 Q I1 q1
 |false=>exact ⟨.bl false,H1,I1,rfl,q1⟩
theorem pe_or (ha:PE X a ta) (hb:PE X (.BoolOp .Or (b::rest) pos) tb):PE X (.BoolOp .Or (a::b::rest) pos) (tOrV ta tb):=by
 intro pins s σ H Q I h
 refine BoolOp_or (thn (ha pins s σ H _ I h) fun v s1 ⟨x,H1,I1,r1,q1⟩=>?_)
 obtain ⟨c,rfl,q1⟩:=q1
 cases r1
 refine wpAny_truthy_bool ?_
 cases c with
 |false=>exact hb pins s1 σ H1 Q I1 q1
 |true=>exact ⟨.bl true,H1,I1,rfl,q1⟩
theorem pe_not (ha:PE X a ta):PE X (.UnaryOp .Not a pos) (tNotV ta):=by
 intro pins s σ H Q I h
 refine UnaryOp_ (thn (ha pins s σ H _ I h) fun v s1 ⟨x,H1,I1,r1,q1⟩=>?_)
 obtain ⟨c,rfl,q1⟩:=q1
 cases r1
 exact not_of (wpAny_truthy_bool ⟨.bl (!c),H1,I1,rfl,q1⟩)
def tIf (t:TT) (ta tb:TE):TE:=fun σ H Q=>t σ H fun c H1=>if c=true then ta σ H1 Q else tb σ H1 Q
theorem pe_ifExp {c:Expr} (hc:PT X c tA) (ha:PE X a ta) (hb:PE X b tb):PE X (.IfExp c a b pos) (tIf tA ta tb):=by
 intro pins s σ H Q I h
 refine wpAny_IfExp (thn (hc pins s σ H _ I h) fun d s1 ⟨H1,I1,q1⟩=>?_)
 cases d with
 |true=>exact ha pins s1 σ H1 Q I1 q1
 |false=>exact hb pins s1 σ H1 Q I1 q1
end
def SqL (K:PySem.W.Frag) (H:Hp) (a:Addr) (xs:List V):Prop:=
 Rd H a (.lst xs) ∨
  ∃(o:Obj) (its:Array Value) (n:Nat),K.lookup a=some o∧o.cls=.type "list"∧o.dict=none∧o.data=.seq its n∧its.size≤sizeLine∧Vals xs its.toList
def SqT (K:PySem.W.Frag) (H:Hp) (a:Addr) (xs:List V):Prop:=
 Rd H a (.tup xs) ∨
  ∃(o:Obj) (its:Array Value) (n:Nat),K.lookup a=some o∧o.cls=.type "tuple"∧o.dict=none∧o.data=.seq its n∧its.size≤sizeLine∧Vals xs its.toList
def absV:Value→Option V
 |.none=>some .non
 |.bool b=>some (.bl b)
 |.int i _=>some (.int i)
 |.str x _=>some (.str x)
 |.bytes b _=>some (.byt b)
 |.float b _=>some (.flt b)
 |.ref a=>some (.ref a)
 |.type n=>some (.ty n)
 |_=>none
theorem RelV.abs {x:V} {u:Value} (r:RelV x u):absV u=some x:=by
 cases x with
 |non=>cases r;rfl
 |bl _=>cases r;rfl
 |int _=>obtain ⟨t,rfl⟩:=r;rfl
 |str _=>obtain ⟨t,rfl⟩:=r;rfl
 |byt _=>obtain ⟨t,rfl⟩:=r;rfl
 |flt _=>obtain ⟨t,rfl⟩:=r;rfl
 |ref _=>cases r;rfl
 |ty _=>cases r;rfl
theorem RelV.inj {x y:V} {u:Value} (r:RelV x u) (q:RelV y u):x=y:=Option.some.inj (r.abs.symm.trans q.abs)
theorem Vals.inj:∀{xs ys:List V} {us:List Value},Vals xs us→Vals ys us→xs=ys
 |_,_,_,.nil,.nil=>rfl
 |_,_,_,.cons r t,.cons r' t'=>by rw [r.inj r',Vals.inj t t']
section
variable {X:Cx} {pins:List (Addr × Obj)} {σ:St} {H:Hp} {s:Shared} {a:Addr} {xs ys:List V}
theorem SqL.of {K:PySem.W.Frag} (h:H a=some (.lst xs)):SqL K H a xs:=.inl (.inl h)
theorem SqT.of {K:PySem.W.Frag} (h:H a=some (.tup xs)):SqT K H a xs:=.inl (.inl h)
theorem Inv.list (I:Inv X pins σ H s) (h:SqL X.K H a xs):∃its:List Value,Vals xs its∧PlainL s.heap a its.toArray∧xs.length≤sizeLine:=by
 rcases h with h|⟨o,its,n,hk,hc,hd,hs,hz,r⟩
 ·obtain ⟨z,its,n,r,e⟩:=h.ok I.hok
  exact ⟨its,r,⟨_,n,e,rfl,rfl,rfl⟩,z⟩
 ·refine ⟨its.toList,r,⟨o,n,I.kIn a o hk,hc,hd,by simpa using hs⟩,?_⟩
  have e:=r.length
  simp only [Array.length_toList] at e
  omega
theorem Inv.tuple (I:Inv X pins σ H s) (h:SqT X.K H a xs):∃its:List Value,Vals xs its∧IsTup s.heap a its.toArray∧xs.length≤sizeLine:=by
 rcases h with h|⟨o,its,n,hk,hc,hd,hs,hz,r⟩
 ·obtain ⟨z,its,r,p⟩:=h.ok I.hok
  exact ⟨its,r,p.1,z⟩
 ·refine ⟨its.toList,r,⟨o,I.kIn a o hk,hc,n,by simpa using hs⟩,?_⟩
  have e:=r.length
  simp only [Array.length_toList] at e
  omega
theorem Inv.aSj (I:Inv X pins σ H s) (h:SqT X.K H a xs):∃its:List Value,Vals xs its∧tL s.heap a its.toArray∧xs.length≤sizeLine:=by
 rcases h with h|⟨o,its,n,hk,hc,hd,hs,hz,r⟩
 ·obtain ⟨z,its,r,p⟩:=h.ok I.hok
  exact ⟨its,r,p,z⟩
 ·refine ⟨its.toList,r,.of (I.kIn a o hk) hd ⟨o,I.kIn a o hk,hc,n,by simpa using hs⟩,?_⟩
  have e:=r.length
  simp only [Array.length_toList] at e
  omega
theorem Inv.list_inj (I:Inv X pins σ H s) (h:SqL X.K H a xs) (h':SqL X.K H a ys):xs=ys:=by
 obtain ⟨its,r,⟨o,n,e,_,_,d⟩,_⟩:=I.list h
 obtain ⟨its',r',⟨o',n',e',_,_,d'⟩,_⟩:=I.list h'
 rw [e] at e';cases e'
 rw [d] at d'
 injection d' with d1 _
 have:its=its':=by simpa using congrArg Array.toList d1
 subst this
 exact r.inj r'
theorem Inv.tuple_inj (I:Inv X pins σ H s) (h:SqT X.K H a xs) (h':SqT X.K H a ys):xs=ys:=by
 obtain ⟨its,r,⟨o,e,_,n,d⟩,_⟩:=I.tuple h
 obtain ⟨its',r',⟨o',e',_,n',d'⟩,_⟩:=I.tuple h'
 rw [e] at e';cases e'
 rw [d] at d'
 injection d' with d1 _
 have:its=its':=by simpa using congrArg Array.toList d1
 subst this
 exact r.inj r'
end
abbrev Cx.wish (X:Cx) (E:Value→Shared→Prop):Cx:={ X with xe:=E }
abbrev Cx.nox (X:Cx):Cx:=X.wish fun _ _=>False
theorem Cx.Ok.wish {X:Cx} (ok:X.Ok) (E:Value→Shared→Prop):(X.wish E).Ok:=
 ⟨ok.mod,ok.kind,ok.glob,ok.blt,ok.above,ok.inj,ok.has,ok.cab,ok.hd,ok.frames,ok.stk,ok.exf,ok.bs,ok.bsz,ok.noex,ok.exfs,ok.funs,ok.frf⟩
theorem Cx.Ok.unwish {X:Cx} {E:Value→Shared→Prop} (ok:(X.wish E).Ok):X.Ok:=
 ⟨ok.mod,ok.kind,ok.glob,ok.blt,ok.above,ok.inj,ok.has,ok.cab,ok.hd,ok.frames,ok.stk,ok.exf,ok.bs,ok.bsz,ok.noex,ok.exfs,ok.funs,ok.frf⟩
section
variable {X:Cx} {pins:List (Addr × Obj)} {σ:St} {H:Hp} {s:Shared} {E:Value→Shared→Prop}
theorem Inv.wish (I:Inv X pins σ H s) (E:Value→Shared→Prop):Inv (X.wish E) pins σ H s:=⟨I.ok.wish E,I.os,I.bare,I.base,I.loc,I.cell,I.free,I.freeC,I.pin,I.hok,I.len⟩
theorem Inv.unwish (I:Inv (X.wish E) pins σ H s):Inv X pins σ H s:=⟨I.ok.unwish,I.os,I.bare,I.base,I.loc,I.cell,I.free,I.freeC,I.pin,I.hok,I.len⟩
theorem SP.unwish {D:Ends} {f:Flow} {s':Shared} (h:SP (X.wish E) pins D f s'):SP X pins D f s':=by
 cases f with
 |next=>obtain ⟨σ',H',I,q⟩:=h;exact ⟨σ',H',I.unwish,q⟩
 |brk=>obtain ⟨σ',H',I,q⟩:=h;exact ⟨σ',H',I.unwish,q⟩
 |cont=>obtain ⟨σ',H',I,q⟩:=h;exact ⟨σ',H',I.unwish,q⟩
 |ret u=>obtain ⟨v,σ',H',I,r,q⟩:=h;exact ⟨v,σ',H',I.unwish,r,q⟩
theorem PSs.nox {st:List Stmt} {t:TS} (h:PSs X.nox st t):PSs X st t:=fun pins s σ H D I hw=>
 wpAny_mono (h pins s σ H D (I.wish _) hw) (fun _ _ q=>q.unwish) fun _ _ z=>False.elim z
end
section
variable {X:Cx} {st:Stmt} {rest:List Stmt} {t u:TS} {e:Expr} {te:TE} {pos:Pos}
def tNext:TS:=fun D σ H=>D.nx σ H
def tSeq (t u:TS):TS:=fun D σ H=>t { D with nx:=u D } σ H
theorem pss_nil:PSs X [] tNext:=fun _ _ σ H _ I h=>wpAny_execs_nil ⟨σ,H,I,h⟩
theorem pss_cons (h1:PS X st t) (h2:PSs X rest u):PSs X (st::rest) (tSeq t u):=by
 intro pins s σ H D I h
 refine wpAny_execs_cons (thn (h1 pins s σ H { D with nx:=u D } I h) fun f s1 q=>?_)
 cases f with
 |next=>
  obtain ⟨σ',H',I',q⟩:=q
  exact h2 pins s1 σ' H' D I' q
 |ret v=>exact q
 |brk=>exact q
 |cont=>exact q
theorem pss_one (h1:PS X st t):PSs X [st] t:=by
 intro pins s σ H D I h
 refine wpAny_execs_cons (thn (h1 pins s σ H D I h) fun f s1 q=>?_)
 cases f with
 |next=>exact wpAny_execs_nil q
 |ret v=>exact q
 |brk=>exact q
 |cont=>exact q
theorem Inv.quiet {pins:List (Addr × Obj)} {σ:St} {H:Hp} {s:Shared} (I:Inv X pins σ H s):interactive X.env=false:=by simp [interactive,I.ok.kind]
def tDrop (te:TE):TS:=fun D σ H=>te σ H fun _ H1=>D.nx σ H1
theorem ps_expr (he:PE X e te) (hs:swapsWith e none pos.line X.env=pure false:=by rfl):PS X (.Expr e pos) (tDrop te):=by
 intro pins s σ H D I h
 exact wpAny_Expr_any (thn (he pins s σ H _ I h) fun v s1 ⟨x,H1,I1,r1,q1⟩=>⟨σ,H1,I1,q1⟩) I.quiet hs
def tRet (te:TE):TS:=fun D σ H=>te σ H D.rt
theorem ps_ret (he:PE X e te):PS X (.Return (some e) pos) (tRet te):=by
 intro pins s σ H D I h
 exact wpAny_Return_some (thn (he pins s σ H _ I h) fun v s1 ⟨x,H1,I1,r1,q1⟩=>⟨x,σ,H1,I1,r1,q1⟩)
def tIfS (c:TT) (t u:TS):TS:=fun D σ H=>c σ H fun b H1=>if b=true then t D σ H1 else u D σ H1
theorem ps_if {c:Expr} {a b:List Stmt} {tc:TT} (hc:PT X c tc) (ha:PSs X a t) (hb:PSs X b u):PS X (.If c a b pos) (tIfS tc t u):=by
 intro pins s σ H D I h
 refine wpAny_If (thn (hc pins s σ H _ I h) fun d s1 ⟨H1,I1,q1⟩=>?_)
 cases d with
 |true=>exact ha pins s1 σ H1 D I1 q1
 |false=>exact hb pins s1 σ H1 D I1 q1
def tNever:TS:=fun _ _ _=>False
theorem ps_never:PS X st tNever:=fun _ _ _ _ _ _ h=>h.elim
end
abbrev TG:=V→St→Hp→(St→Hp→Prop)→Prop
abbrev TGs:=List V→St→Hp→(St→Hp→Prop)→Prop
def PG (X:Cx) (target:Expr) (t:TG):Prop:=
 ∀(pins:List (Addr × Obj)) (s:Shared) (σ:St) (H:Hp) (v:V) (u:Value) (Q:St→Hp→Prop),Inv X pins σ H s→RelV v u→t v σ H Q →
  wpAny (model X.prog X.w) X.A (assign target X.env u) (fun _ s'=>∃σ' H',Inv X pins σ' H' s'∧Q σ' H') X.xe s
def PGs (X:Cx) (ts:List Expr) (t:TGs):Prop:=
 ∀(pins:List (Addr × Obj)) (s:Shared) (σ:St) (H:Hp) (vs:List V) (us:List Value) (Q:St→Hp→Prop),Inv X pins σ H s→Vals vs us→t vs σ H Q →
  wpAny (model X.prog X.w) X.A (assignInOrder ((assignEach ts X.env).map (·.2)) us) (fun _ s'=>∃σ' H',Inv X pins σ' H' s'∧Q σ' H') X.xe s
abbrev TSet:=V→V→V→Hp→(Hp→Prop)→Prop
def PSet (X:Cx) (t:TSet):Prop:=
 ∀(pins:List (Addr × Obj)) (s:Shared) (σ:St) (H:Hp) (o i v:V) (ov iv u:Value) (Q:Hp→Prop),Inv X pins σ H s→RelV o ov→RelV i iv→RelV v u→t o i v H Q →
  wpAny (model X.prog X.w) X.A (setItem ov iv u) (fun _ s'=>∃H',Inv X pins σ H' s'∧Q H') X.xe s
section
variable {X:Cx} {pos:Pos}
def gName (i:Nat):TG:=fun v σ H Q=>Q (σ.set i (some v)) H
theorem pg_name {i:Nat} {x:Str} (hN:X.N.Nodup) (hi:X.N[i]?=some x) (hx:Loc X.env.scope x) (hf:X.fn x=true∨X.env.scope.names.lookup x=some .local:=by first|exact .inl rfl|exact .inr rfl|assumption):PG X (.Name x pos) (gName i):=by
 intro pins s σ H v u Q I r h
 exact wpAny_assign_Name (store_ok I hN hi hx r (fun s' I'=>⟨_,H,I',h⟩) hf)
def gNil:TGs:=fun vs σ H Q=>vs=[]∧Q σ H
def gCons (t:TG) (u:TGs):TGs:=fun vs σ H Q=>∃v r,vs=v::r∧t v σ H fun σ' H'=>u r σ' H' Q
theorem pgs_nil:PGs X [] gNil:=by
 intro pins s σ H vs us Q I r h
 obtain ⟨e,h⟩:=h
 subst e
 cases r
 exact assignInOrder_nil ⟨σ,H,I,h⟩
theorem pgs_cons {e:Expr} {es:List Expr} {t:TG} {u:TGs} (h1:PG X e t) (h2:PGs X es u)
  (hs:(assignEach (e::es) X.env).map (·.2)=assign e X.env::(assignEach es X.env).map (·.2):=by rfl):PGs X (e::es) (gCons t u):=by
 intro pins s σ H vs us Q I r h
 obtain ⟨v,vr,e1,h⟩:=h
 subst e1
 cases r with
 |cons r rr=>
  rw [hs]
  refine assignInOrder_cons (thn (h1 pins s σ H _ _ _ I r h) fun _ s1 ⟨σ1,H1,I1,q1⟩=>?_)
  exact h2 pins s1 σ1 H1 _ _ Q I1 rr q1
def gTup (K:PySem.W.Frag) (n:Nat) (t:TGs):TG:=fun v σ H Q=>∃a xs,v=.ref a∧SqT K H a xs∧xs.length=n∧t xs σ H Q
theorem pg_tup {es:List Expr} {k:Nat} {t:TGs} {n:Nat} (hc:X.calm=true) (h:PGs X es t)
  (hn:(assignEach es X.env).length=n:=by rfl) (hst:(assignEach es X.env).findIdx? (·.1)=none:=by rfl):PG X (.Tuple es k pos) (gTup X.K n t):=by
 intro pins s σ H v u Q I r hw
 obtain ⟨a,xs,e1,hq,hl,hw⟩:=hw
 subst e1
 cases r
 obtain ⟨its,rv,ht,hz⟩:=I.tuple hq
 refine assign_Tuple_tuple (I.ok.hd hc) ht (by simp [hn,←hl,rv.length]) hst fun h' hx=>?_
 have I1:Inv X pins σ H { s with heap:=h' }:=I.kept (t':=s.toks) fun b o e=>hx b o (Nat.ne_of_lt (Heap.lt_size e)) e
 exact h pins _ σ H xs _ Q I1 (by simpa using rv) hw
def gSub (to ti:TE) (t:TSet):TG:=fun v σ H Q=>to σ H fun o H1=>ti σ H1 fun i H2=>t o i v H2 fun H3=>Q σ H3
theorem pg_sub {o i:Expr} {to ti:TE} {t:TSet} (ho:PE X o to) (hi:PE X i ti) (hs:PSet X t)
  (ha:∀v,assign (.Subscript o i pos) X.env v=(do
   let ov ←holding [v] (eval o X.env)
   let iv ←holding [v,ov] (eval i X.env)
   standAt pos
   holding [v,ov,iv] (setItem ov iv v)
   release [v,ov,iv] []):=by intro _;rfl):PG X (.Subscript o i pos) (gSub to ti t):=by
 intro pins s σ H v u Q I r h
 rw [ha]
 refine wpAny_bind (wpAny_holding (thn (ho pins s σ H _ I h) fun ov s1 ⟨x,H1,I1,r1,q1⟩=>?_))
 refine wpAny_bind (wpAny_holding (thn (hi pins s1 σ H1 _ I1 q1) fun iv s2 ⟨y,H2,I2,r2,q2⟩=>?_))
 refine wpAny_bind (wpAny_standAt (wpAny_bind (wpAny_holding (thn (hs pins s2 σ H2 x y v ov iv u _ I2 r1 r2 r q2) fun _ s3 ⟨H3,I3,q3⟩=>?_))))
 exact wpAny_release ⟨σ,H3,I3,q3⟩
def tAsg (te:TE) (g:TG):TS:=fun D σ H=>te σ H fun x H1=>g x σ H1 D.nx
theorem ps_asg {tg e:Expr} {te:TE} {g:TG} (he:PE X e te) (hg:PG X tg g) (hs:swapsWithSole [tg] e pos.line X.env=pure false:=by rfl) (hw:swappedStores [tg] e X.env=pure none:=by rfl)
  (h1:(assignEach [tg] X.env).map (·.2)=[assign tg X.env]:=by rfl):PS X (.Assign [tg] e pos) (tAsg te g):=by
 intro pins s σ H D I h
 refine wpAny_Assign_stores (thn (he pins s σ H _ I h) fun v s1 ⟨x,H1,I1,r1,q1⟩=>?_) hs hw
 rw [h1]
 exact thn (hg pins s1 σ H1 x v _ I1 r1 q1) fun _ s2 q=>q
theorem ps_set {i:Nat} {x:Str} {e:Expr} {te:TE} {pos':Pos} (hN:X.N.Nodup) (hi:X.N[i]?=some x) (hx:Loc X.env.scope x) (he:PE X e te) (hs:swapsWith e (some (.Name x pos')) pos.line X.env=pure false:=by rfl) (hf:X.fn x=true∨X.env.scope.names.lookup x=some .local:=by first|exact .inl rfl|exact .inr rfl|assumption) :
  PS X (.Assign [.Name x pos'] e pos) (tAsg te (gName i)):=by
 intro pins s σ H D I h
 refine wpAny_Assign_Name (thn (he pins s σ H _ I h) fun v s1 ⟨y,H1,I1,r1,q1⟩=>?_) hs
 exact store_ok I1 hN hi hx r1 (fun s2 I2=>⟨_,H1,I2,q1⟩) hf
end
section
variable {X:Cx} {pos:Pos}
def tWhile (c:TT) (tb:TS):TS:=fun D σ H=>∃W:Nat→St→Hp→Prop,(∃m,W m σ H)∧∀m σ H,W m σ H →
 c σ H fun b H1=>if b=true then ∃N:St→Hp→Prop,(∀σ' H',N σ' H'→∃m',m'<m∧W m' σ' H')∧tb { D with nx:=N,ct:=N,bk:=D.nx } σ H1 else D.nx σ H1
theorem ps_while {c:Expr} {body:List Stmt} {tc:TT} {tb:TS} (hp:PassesOwn (model X.prog X.w) X.A X.env X.xe) (hc:PT X c tc) (hb:PSs X body tb):PS X (.While c body [] pos) (tWhile tc tb):=by
 intro pins s σ H D I h
 obtain ⟨W,⟨m0,w0⟩,turn⟩:=h
 refine wpAny_While (codeAny_whileLoop (fun n s'=>∃σ' H',Inv X pins σ' H' s'∧W n σ' H') ?_ m0 ⟨σ,H,I,w0⟩)
 rintro n s1 ⟨σ1,H1,I1,w1⟩
 refine wpAny_passesOwn hp (thn (hc pins s1 σ1 H1 _ I1 (turn n σ1 H1 w1)) fun b s2 ⟨H2,I2,q2⟩=>?_)
 cases b with
 |true=>
  obtain ⟨N,hN,q2⟩:=q2
  rw [if_pos rfl]
  refine wpAny_passesOwn hp (thn (hb pins s2 σ1 H2 _ I2 q2) fun f s3 q3=>?_)
  cases f with
  |next=>
   obtain ⟨σ3,H3,I3,n3⟩:=q3
   obtain ⟨m',hm,w3⟩:=hN σ3 H3 n3
   exact ⟨m',hm,σ3,H3,I3,w3⟩
  |cont=>
   obtain ⟨σ3,H3,I3,n3⟩:=q3
   obtain ⟨m',hm,w3⟩:=hN σ3 H3 n3
   exact ⟨m',hm,σ3,H3,I3,w3⟩
  |brk=>exact q3
  |ret v=>exact q3
 |false=>
  rw [if_neg Bool.false_ne_true]
  exact wpAny_execs_nil ⟨σ1,H2,I2,q2⟩
end
structure It where
 go:Nat→Hp→Prop
 yld:Nat→Hp→V→Hp→Prop
 stop:Nat→Hp→Prop
def FpOk (X:Cx) (pins:List (Addr × Obj)) (H:Hp) (b:Addr):Prop:=
 H b=none∧b≠X.env.locals∧b∉X.fs∧(b∈X.ex∨X.s₀.heap.objs.size≤b)∧(∀x c,X.env.cells.lookup x=some c→c≠b)∧∀p∈X.pn++pins,p.1≠b
theorem Inv.fpOk {X:Cx} {pins:List (Addr × Obj)} {σ:St} {H H':Hp} {s:Shared} {b:Addr} (I:Inv X pins σ H s) (hb:s.heap.objs.size≤b) (hn:H' b=none):FpOk X pins H' b:=by
 refine ⟨hn,Nat.ne_of_gt (Nat.lt_of_lt_of_le I.lt hb),I.nofs hb,.inr (Nat.le_trans I.sz hb),fun x c e z=>?_,fun p hp z=>?_⟩
 ·obtain ⟨v,q⟩:=I.cell x c e
  exact absurd (Nat.lt_of_lt_of_le q.lt (by rw [z];exact hb)) (Nat.lt_irrefl _)
 ·exact absurd (Nat.lt_of_lt_of_le (Heap.lt_size (I.pin p hp).1) (by rw [z];exact hb)) (Nat.lt_irrefl _)
structure Turn (P:Program) (w:World) (K:PySem.W.Frag) (tg:Expr) (J:It) (fp:List Addr) (it:Addr) (tn:Nat→Heap→Prop):Prop where
 mem:it∈fp
 obj:∀i h,tn i h→∀b∈fp,∃o,h.get? b=some o∧∀v,o.data≠.cell v
 keep:∀i h h',tn i h→(∀b∈fp,∀o,h.get? b=some o→h'.get? b=some o)→tn i h'
 item:∀(X:Cx),X.prog=P→X.w=w→X.K=K→X.calm=true→∀(i:Nat) (pins:List (Addr × Obj)) (s:Shared) (σ:St) (H:Hp) (E:Value→Shared→Prop),Inv X pins σ H s→(∀b∈fp,FpOk X pins H b)→tn i s.heap→J.go i H →
  wpAny (model P w) X.A (pyNext (.ref it)) (fun r s1=>∃u,r=some u ∧
   wpAny (model P w) X.A (letOwnedTupleGo tg (.ref it) u) (fun _ s2=>∃x H',Inv X pins σ H' s2∧RelV x u∧J.yld i H x H'∧tn (i+1) s2.heap∧∀b∈fp,H' b=none) E s1) E s
 done:∀(X:Cx),X.prog=P→X.w=w→X.K=K→X.calm=true→∀(i:Nat) (pins:List (Addr × Obj)) (s:Shared) (σ:St) (H:Hp) (E:Value→Shared→Prop),Inv X pins σ H s→(∀b∈fp,FpOk X pins H b)→tn i s.heap→J.stop i H →
  wpAny (model P w) X.A (pyNext (.ref it)) (fun r s1=>r=none∧Inv X pins σ H s1) E s
 self:∀(A:Around) (i:Nat) (s:Shared) (Q:Value→Shared→Prop) (E:Value→Shared→Prop),tn i s.heap→Q (.ref it) s→wpAny (model P w) A (pyIter (.ref it)) Q E s
abbrev TI:=St→Hp→(It→Hp→Prop)→Prop
def PIE (X:Cx) (pins:List (Addr × Obj)) (σ:St) (tg:Expr) (R:It→Hp→Prop) (itv:Value) (s2:Shared):Prop:=
 ∃(it:Addr) (fp:List Addr) (tn:Nat→Heap→Prop) (J:It) (H':Hp),itv=.ref it∧Inv X pins σ H' s2∧Turn X.prog X.w X.K tg J fp it tn∧tn 0 s2.heap∧(∀b∈fp,FpOk X pins H' b)∧R J H'
def PI (X:Cx) (tg iter:Expr) (wi:TI):Prop:=
 ∀(pins:List (Addr × Obj)) (s:Shared) (σ:St) (H:Hp) (R:It→Hp→Prop),Inv X pins σ H s→wi σ H R →
  wpAny (model X.prog X.w) X.A (eval iter X.env) (fun v s1=>wpAny (model X.prog X.w) X.A (pyIter v) (PIE X pins σ tg R) X.xe s1) X.xe s
theorem go_of {M:Model} {A:Around} {E:Value→Shared→Prop} {s:Shared} {tg:Expr} {it:Addr} {u:Value} {o:Obj} {n:String} {vs:Array Value} {Q:Unit→Shared→Prop} (ho:s.heap.get? it=some o) (hc:o.cls=.type n) (hd:o.data=.fields vs)
  (hn:["enumerate","zip","dict_itemiterator","dict_reverseitemiterator","odict_iterator","itertools.zip_longest","itertools.pairwise"].contains n=false) (hQ:Q () s):wpAny M A (letOwnedTupleGo tg (.ref it) u) Q E s:=by
 unfold letOwnedTupleGo
 cases tg <;> first
  |exact wpAny_pure hQ
  |(cases u <;> first
    |exact wpAny_pure hQ
    |(refine wpAny_bind (wpAny_load ho ?_);rw [hc,hd];show wpAny M A (if (["enumerate","zip","dict_itemiterator","dict_reverseitemiterator","odict_iterator","itertools.zip_longest","itertools.pairwise"].contains n && vs[0]? == some (rawInt _))=true then _ else _) Q E s;rw [if_neg (by intro h;rw [hn,Bool.false_and] at h;cases h)];exact wpAny_pure hQ))
def Itl (K:PySem.W.Frag) (a:Addr):It:=
 ⟨fun i H=>∃xs x,SqL K H a xs∧xs[i]?=some x,fun i H x H'=>H'=H∧∀xs,SqL K H a xs→xs[i]?=some x,fun i H=>∃xs,SqL K H a xs∧xs.length≤i⟩
def Itt (K:PySem.W.Frag) (a:Addr):It:=
 ⟨fun i H=>∃xs x,SqT K H a xs∧xs[i]?=some x,fun i H x H'=>H'=H∧∀xs,SqT K H a xs→xs[i]?=some x,fun i H=>∃xs,SqT K H a xs∧xs.length≤i⟩
def Itr (lo:Int) (n:Nat):It:=⟨fun i _=>i<n,fun i H x H'=>H'=H∧x=.int (lo+i),fun i _=>n≤i⟩
theorem turn_list {P:Program} {w:World} {K:PySem.W.Frag} {tg:Expr} (a it:Addr):Turn P w K tg (Itl K a) [it] it (fun i h=>h.IsListIter it a i) where
 mem:=by simp
 obj:=fun i h st b hb=>by
  have e:b=it:=by simpa using hb
  subst e
  obtain ⟨o,e,c,d⟩:=st
  exact ⟨o,e,fun v z=>by rw [d] at z;cases z⟩
 keep:=fun i h h' st k=>st.at fun o e=>k it (by simp) o e
 item:=by
  intro X hP hw hK hc i pins s σ H E I hf st hg
  subst hP hw hK
  obtain ⟨xs,x,hq,hx⟩:=hg
  obtain ⟨its,rv,p,hz⟩:=I.list hq
  obtain ⟨u,hu,ru⟩:=rv.get hx
  obtain ⟨f0,f1,f2,f3,f4,f5⟩:=hf it (by simp)
  refine wpAny_pyNext_list_item st p.isList (x:=u) (by simpa using hu) fun h' st' sb=>?_
  have I1:Inv X pins σ H { s with heap:=h' }:=I.turned (t':=s.toks) (fun b o hb e=>(sb.2 b hb).trans e) f0 f1 f3 f4 f5
  obtain ⟨o,e,c,d⟩:=id st'
  exact ⟨u,rfl,go_of (s:={ s with heap:=h' }) e c d (by decide) ⟨x,H,I1,ru,⟨rfl,fun ys hy=>by rw [I.list_inj hy hq];exact hx⟩,st',fun b hb=>(hf b hb).1⟩⟩
 done:=by
  intro X hP hw hK hc i pins s σ H E I hf st hg
  subst hP hw hK
  obtain ⟨xs,hq,hx⟩:=hg
  obtain ⟨its,rv,p,hz⟩:=I.list hq
  obtain ⟨f0,f1,f2,f3,f4,f5⟩:=hf it (by simp)
  have hl:=rv.length
  exact wpAny_pyNext_list_end (I.ok.hd hc) st p.isList (by simp;omega) fun h' eb=>⟨rfl,I.turned (t':=s.toks) (fun b o hb e=>eb b o hb e) f0 f1 f3 f4 f5⟩
 self:=fun _ _ _ _ _ st h=>wpAny_pyIter_listiter st h
theorem turn_tuple {P:Program} {w:World} {K:PySem.W.Frag} {tg:Expr} (a it:Addr):Turn P w K tg (Itt K a) [it] it (fun i h=>h.IsTupleIter it a i) where
 mem:=by simp
 obj:=fun i h st b hb=>by
  have e:b=it:=by simpa using hb
  subst e
  obtain ⟨o,e,c,d⟩:=st
  exact ⟨o,e,fun v z=>by rw [d] at z;cases z⟩
 keep:=fun i h h' st k=>st.at fun o e=>k it (by simp) o e
 item:=by
  intro X hP hw hK hc i pins s σ H E I hf st hg
  subst hP hw hK
  obtain ⟨xs,x,hq,hx⟩:=hg
  obtain ⟨its,rv,p,hz⟩:=I.tuple hq
  obtain ⟨u,hu,ru⟩:=rv.get hx
  obtain ⟨f0,f1,f2,f3,f4,f5⟩:=hf it (by simp)
  refine wpAny_pyNext_tuple_item st (show s.heap.IsTuple a its.toArray from p) (x:=u) (by simpa using hu) fun h' st' sb=>?_
  have I1:Inv X pins σ H { s with heap:=h' }:=I.turned (t':=s.toks) (fun b o hb e=>(sb.2 b hb).trans e) f0 f1 f3 f4 f5
  obtain ⟨o,e,c,d⟩:=id st'
  exact ⟨u,rfl,go_of (s:={ s with heap:=h' }) e c d (by decide) ⟨x,H,I1,ru,⟨rfl,fun ys hy=>by rw [I.tuple_inj hy hq];exact hx⟩,st',fun b hb=>(hf b hb).1⟩⟩
 done:=by
  intro X hP hw hK hc i pins s σ H E I hf st hg
  subst hP hw hK
  obtain ⟨xs,hq,hx⟩:=hg
  obtain ⟨its,rv,p,hz⟩:=I.tuple hq
  obtain ⟨f0,f1,f2,f3,f4,f5⟩:=hf it (by simp)
  have hl:=rv.length
  exact wpAny_pyNext_tuple_end (I.ok.hd hc) st (show s.heap.IsTuple a its.toArray from p) (by simp;omega) fun h' eb=>⟨rfl,I.turned (t':=s.toks) (fun b o hb e=>eb b o hb e) f0 f1 f3 f4 f5⟩
 self:=fun _ _ _ _ _ st h=>wpAny_pyIter_tupleiter st h
theorem turn_range {P:Program} {w:World} {K:PySem.W.Frag} {tg:Expr} (it:Addr) (lo:Int) (n:Nat):Turn P w K tg (Itr lo n) [it] it (fun i h=>IsRangeIter h it (lo+(i:Nat) * 1) ((n:Int) - (i:Nat)) 1) where
 mem:=by simp
 obj:=fun i h st b hb=>by
  have e:b=it:=by simpa using hb
  subst e
  exact ⟨_,st,fun v z=>by
   have z':Data.fields _=Data.cell v:=z
   cases z'⟩
 keep:=fun i h h' st k=>k it (by simp) _ st
 item:=by
  intro X hP hw hK hc i pins s σ H E I hf st hg
  subst hP hw hK
  obtain ⟨f0,f1,f2,f3,f4,f5⟩:=hf it (by simp)
  have W:=Walks.range (prog:=X.prog) (w:=X.w) (I.ok.hd hc) it lo 1 n
  refine W.item i s _ _ hg st fun v h' tk hv st' kk=>?_
  obtain ⟨t,rfl⟩:=hv
  have I1:Inv X pins σ H { s with heap:=h',toks:=tk }:=I.turned (fun b o hb e=>kk b o (by simpa using hb) e) f0 f1 f3 f4 f5
  refine ⟨_,rfl,go_of (s:={ s with heap:=h',toks:=tk }) (n:="range_iterator") st' rfl rfl (by decide) ⟨.int (lo+i),H,I1,⟨t,?_⟩,⟨rfl,rfl⟩,st',fun b hb=>(hf b hb).1⟩⟩
  rw [Int.mul_one]
 done:=by
  intro X hP hw hK hc i pins s σ H E I hf st hg
  subst hP hw hK
  obtain ⟨f0,f1,f2,f3,f4,f5⟩:=hf it (by simp)
  exact wpAny_pyNext_range_end (I.ok.hd hc) st (by have:n≤i:=hg;omega) fun h' eb=>⟨rfl,I.turned (t':=s.toks) (fun b o hb e=>eb b o hb e) f0 f1 f3 f4 f5⟩
 self:=fun _ _ _ _ _ st h=>wpAny_pyIter_rangeiter st h
section
variable {X:Cx} {tg:Expr}
def iList (K:PySem.W.Frag) (tl:TE):TI:=fun σ H R=>tl σ H fun x H1=>∃a,x=.ref a∧(∃xs,SqL K H1 a xs)∧R (Itl K a) H1
def iTup (K:PySem.W.Frag) (tl:TE):TI:=fun σ H R=>tl σ H fun x H1=>∃a,x=.ref a∧(∃xs,SqT K H1 a xs)∧R (Itt K a) H1
theorem pi_list {l:Expr} {tl:TE} (hl:PE X l tl):PI X tg l (iList X.K tl):=by
 intro pins s σ H R I h
 refine thn (hl pins s σ H _ I h) fun v s1 ⟨x,H1,I1,r1,q1⟩=>?_
 obtain ⟨a,e,⟨xs,hq⟩,q⟩:=q1
 subst e
 cases r1
 obtain ⟨its,rv,p,hz⟩:=I1.list hq
 refine wpAny_pyIter_list p.isList ?_
 refine ⟨s1.heap.objs.size,[s1.heap.objs.size],_,_,H1,rfl,I1.kept (t':=s1.toks) fun b o e=>Heap.get?_push_of_some _ e,turn_list a _,⟨_,Heap.get?_push_size _ rfl,rfl,rfl⟩,fun b hb=>?_,q⟩
 have e:b=s1.heap.objs.size:=by simpa using hb
 subst e
 exact I1.fpOk (Nat.le_refl _) (I1.hok.fresh (Nat.le_refl _))
theorem pi_tup {l:Expr} {tl:TE} (hl:PE X l tl):PI X tg l (iTup X.K tl):=by
 intro pins s σ H R I h
 refine thn (hl pins s σ H _ I h) fun v s1 ⟨x,H1,I1,r1,q1⟩=>?_
 obtain ⟨a,e,⟨xs,hq⟩,q⟩:=q1
 subst e
 cases r1
 obtain ⟨its,rv,p,hz⟩:=I1.tuple hq
 refine wpAny_pyIter_tuple (show s1.heap.IsTuple a its.toArray from p) ?_
 refine ⟨s1.heap.objs.size,[s1.heap.objs.size],_,_,H1,rfl,I1.kept (t':=s1.toks) fun b o e=>Heap.get?_push_of_some _ e,turn_tuple a _,⟨_,Heap.get?_push_size _ rfl,rfl,rfl⟩,fun b hb=>?_,q⟩
 have e:b=s1.heap.objs.size:=by simpa using hb
 subst e
 exact I1.fpOk (Nat.le_refl _) (I1.hok.fresh (Nat.le_refl _))
theorem range_it {pins:List (Addr × Obj)} {σ:St} {H:Hp} {s:Shared} {R:It→Hp→Prop} {E:Value→Shared→Prop} {lo hi:Int} {t u v:Tok} {tk:Nat} (I:Inv X pins σ H s) (h1:-(2 ^ 62)≤lo) (h2:lo<2 ^ 62) (h3:-(2 ^ 62)≤hi) (h4:hi<2 ^ 62)
  (q:R (Itr lo (hi - lo).toNat) H):wpAny (model X.prog X.w) X.A (pyIter (.ref s.heap.objs.size)) (PIE X pins σ tg R) E { s with heap:=s.heap.push { cls:=.type "range",data:=.fields #[.int lo t,.int hi u,.int 1 v] },toks:=tk }:=by
 refine wpAny_pyIter_range (IsRange.new ..) (small_one h1 h2 h3 h4) ?_
 have I1:Inv X pins σ H { s with heap:=s.heap.push { cls:=.type "range",data:=.fields #[.int lo t,.int hi u,.int 1 v] },toks:=tk }:=I.kept fun b o e=>Heap.get?_push_of_some _ e
 refine ⟨(s.heap.push { cls:=.type "range",data:=.fields #[.int lo t,.int hi u,.int 1 v] }).objs.size,[(s.heap.push { cls:=.type "range",data:=.fields #[.int lo t,.int hi u,.int 1 v] }).objs.size],_,_,H,rfl,
  I1.kept (t':=tk) fun b o e=>Heap.get?_push_of_some _ e,turn_range _ lo (hi - lo).toNat,?_,fun b hb=>?_,q⟩
 ·have e1:lo+((0:Nat):Int) * 1=lo:=by simp
  have e2:(((hi - lo).toNat:Nat):Int) - ((0:Nat):Int)=Builtin.Range.rangeSize lo hi 1:=by rw [rangeSize_one];split <;> omega
  show IsRangeIter _ _ (lo+((0:Nat):Int) * 1) ((((hi - lo).toNat:Nat):Int) - ((0:Nat):Int)) 1
  rw [e1,e2]
  exact Heap.get?_push_size _ rfl
 ·have e:b=(s.heap.push { cls:=.type "range",data:=.fields #[.int lo t,.int hi u,.int 1 v] }).objs.size:=by simpa using hb
  subst e
  exact I1.fpOk (Nat.le_refl _) (I1.hok.fresh (Nat.le_refl _))
def iRng1 (ta:TA):TI:=fun σ H R=>ta σ H fun vs H1=>∃j:Int,vs=[.int j]∧-(2 ^ 62)≤j∧j<2 ^ 62∧R (Itr 0 j.toNat) H1
theorem pi_range1 {a:Expr} {ta:TA} {p pos:Pos} (hg:Gl X "range") (hm:X.mg "range"=none) (ha:PA X [a] ta) (hs:starEach [a] X.env=[(false,eval a X.env)]:=by rfl):PI X tg (.Call (.Name "range" p) [a] [] pos) (iRng1 ta):=by
 intro pins s σ H R I h
 refine Call_ (ld_blt I hg hm boot_range (PyProof.Rows.callWith_type1 (thn (ha pos pins s σ H _ I h) fun us s1 ⟨vs,H1,I1,r1,q1⟩=>?_) hs rfl))
 obtain ⟨j,e,q1,q2,q⟩:=q1
 subst e
 cases r1 with
 |cons r rr=>
  cases rr
  obtain ⟨t,rfl⟩:=r
  exact call_range_1 (range_it I1 (by omega) (by omega) q1 q2 (by simpa using q))
def tFor (wi:TI) (g:TG) (tb:TS):TS:=fun D σ H=>wi σ H fun J H1=>∃W:Nat→Nat→St→Hp→Prop,(∃m,W 0 m σ H1)∧∀i m σ H,W i m σ H →
 (J.stop i H∧D.nx σ H)∨(J.go i H∧∃N:St→Hp→Prop,(∀σ' H',N σ' H'→∃m',m'<m∧W (i+1) m' σ' H')∧∀x H',J.yld i H x H'→g x σ H' fun σ2 H2=>tb { D with nx:=N,ct:=N,bk:=D.nx } σ2 H2)
def pinsAt (fp:List Addr) (h:Heap):List (Addr × Obj):=fp.filterMap fun b=>(h.get? b).map fun o=>(b,o)
theorem mem_pinsAt {fp:List Addr} {h:Heap} {b:Addr} {o:Obj} (hb:b∈fp) (e:h.get? b=some o):(b,o)∈pinsAt fp h:=List.mem_filterMap.mpr ⟨b,hb,by rw [e];rfl⟩
theorem of_pinsAt {fp:List Addr} {h:Heap} {p:Addr × Obj} (hp:p∈pinsAt fp h):p.1∈fp∧h.get? p.1=some p.2:=by
 obtain ⟨b,hb,e⟩:=List.mem_filterMap.mp hp
 cases q:h.get? b with
 |none=>rw [q] at e;cases e
 |some o=>
  rw [q] at e
  have e':(b,o)=p:=Option.some.inj e
  subst e'
  exact ⟨hb,q⟩
theorem Inv.pinned {pins:List (Addr × Obj)} {σ:St} {H:Hp} {s:Shared} {fp:List Addr} (I:Inv X pins σ H s) (hf:∀b∈fp,FpOk X pins H b) (ho:∀b∈fp,∃o,s.heap.get? b=some o∧∀v,o.data≠.cell v):Inv X (pins++pinsAt fp s.heap) σ H s:=
 I.pins_of fun p hp=>(List.mem_append.mp hp).elim (fun z=>I.pin p (List.mem_append_right _ z)) fun z=>by
  obtain ⟨hb,e⟩:=of_pinsAt z
  obtain ⟨f0,f1,f2,_⟩:=hf p.1 hb
  obtain ⟨o,e',d⟩:=ho p.1 hb
  rw [e] at e';cases e'
  exact ⟨e,f0,f1,f2,d⟩
theorem Inv.unpinned {pins pl:List (Addr × Obj)} {σ:St} {H:Hp} {s:Shared} (I:Inv X (pins++pl) σ H s):Inv X pins σ H s:=I.pins_of fun p hp=>I.pin p (List.mem_append_right _ (List.mem_append_left _ hp))
theorem ps_for {iter:Expr} {body:List Stmt} {wi:TI} {g:TG} {tb:TS} {pos:Pos} (hp:PassesOwn (model X.prog X.w) X.A X.env X.xe) (hc:X.calm=true) (hi:PI X tg iter wi) (hg:PG X tg g) (hb:PSs X body tb)
  (hs:∀x,foldedSetIterable iter X.env x=pure x:=by intro _;rfl):PS X (.For tg iter body [] pos) (tFor wi g tb):=by
 intro pins s σ H D I h
 refine wpAny_For (thn (hi pins s σ H _ I h) fun v s1 h1=>thn h1 fun itv s2 h2=>?_) hs
 obtain ⟨it,fp,tn,J,H2,e,I2,T,st2,f2,W,⟨m0,w0⟩,turn⟩:=h2
 subst e
 have stat:∀{H':Hp},(∀b∈fp,H' b=none)→∀b∈fp,FpOk X pins H' b:=fun hn b hb=>⟨hn b hb,(f2 b hb).2⟩
 refine codeAny_forLoop_any (fun n s'=>∃i σ' H',Inv X pins σ' H' s'∧tn i s'.heap∧(∀b∈fp,H' b=none)∧W i n σ' H') ?_ m0 ⟨0,σ,H2,I2,st2,fun b hb=>(f2 b hb).1,w0⟩
 rintro n s3 ⟨i,σ3,H3,I3,st3,fr3,w3⟩
 rcases turn i n σ3 H3 w3 with ⟨stop,qn⟩|⟨go,N,hN,step⟩
 ·refine wpAny_passesOwn hp (thn (T.done X rfl rfl rfl hc i pins s3 σ3 H3 X.xe I3 (stat fr3) st3 stop) fun r s4 ⟨hr,I4⟩=>?_)
  subst hr
  exact wpAny_execs_nil ⟨σ3,H3,I4,qn⟩
 ·refine wpAny_passesOwn hp (thn (T.item X rfl rfl rfl hc i pins s3 σ3 H3 X.xe I3 (stat fr3) st3 go) fun r s4 ⟨u,hr,h4⟩=>?_)
  subst hr
  refine wpAny_passesOwn hp (thn h4 fun _ s5 ⟨x,H5,I5,r5,y5,st5,fr5⟩=>?_)
  have I5':=I5.pinned (stat fr5) (T.obj _ _ st5)
  refine wpAny_passesOwn hp (thn (hg _ s5 σ3 H5 x u _ I5' r5 (step x H5 y5)) fun _ s6 ⟨σ6,H6,I6,q6⟩=>?_)
  refine wpAny_passesOwn hp (thn (hb _ s6 σ6 H6 _ I6 q6) fun f s7 q7=>?_)
  have again:∀{σ7:St} {H7:Hp},Inv X (pins++pinsAt fp s5.heap) σ7 H7 s7→N σ7 H7→∃m,m<n∧∃i σ' H',Inv X pins σ' H' s7∧tn i s7.heap∧(∀b∈fp,H' b=none)∧W i m σ' H':=fun {σ7 H7} I7 n7=>by
   obtain ⟨m',hm,w7⟩:=hN σ7 H7 n7
   refine ⟨m',hm,i+1,σ7,H7,I7.unpinned,T.keep _ _ _ st5 fun b hb o e=>(I7.pin (b,o) (List.mem_append_right _ (List.mem_append_right _ (mem_pinsAt hb e)))).1,fun b hb=>?_,w7⟩
   obtain ⟨o,e,d⟩:=T.obj _ _ st5 b hb
   exact (I7.pin (b,o) (List.mem_append_right _ (List.mem_append_right _ (mem_pinsAt hb e)))).2.1
  cases f with
  |next=>obtain ⟨σ7,H7,I7,n7⟩:=q7;exact again I7 n7
  |cont=>obtain ⟨σ7,H7,I7,n7⟩:=q7;exact again I7 n7
  |brk=>obtain ⟨σ7,H7,I7,q7⟩:=q7;exact ⟨σ7,H7,I7.unpinned,q7⟩
  |ret v=>obtain ⟨x7,σ7,H7,I7,r7,q7⟩:=q7;exact ⟨x7,σ7,H7,I7.unpinned,r7,q7⟩
end
theorem for_list {K:PySem.W.Frag} {a:Addr} {xs:List V} {g:TG} {tb:TS} {D:Ends} {σ:St} {H:Hp} (Pv:Nat→St→Hp→Prop) (h0:Pv 0 σ H) (hl:∀i σ H,i≤xs.length→Pv i σ H→SqL K H a xs)
  (hs:∀i x σ H,xs[i]?=some x→Pv i σ H→g x σ H fun σ2 H2=>tb { D with nx:=Pv (i+1),ct:=Pv (i+1),bk:=D.nx } σ2 H2) (hd:∀σ H,Pv xs.length σ H→D.nx σ H) :
  ∃W:Nat→Nat→St→Hp→Prop,(∃m,W 0 m σ H)∧∀i m σ H,W i m σ H →
   ((Itl K a).stop i H∧D.nx σ H)∨((Itl K a).go i H∧∃N:St→Hp→Prop,(∀σ' H',N σ' H'→∃m',m'<m∧W (i+1) m' σ' H')∧∀x H',(Itl K a).yld i H x H'→g x σ H' fun σ2 H2=>tb { D with nx:=N,ct:=N,bk:=D.nx } σ2 H2):=by
 refine ⟨fun i m σ H=>m=xs.length - i∧i≤xs.length∧Pv i σ H,⟨xs.length,by simp,Nat.zero_le _,h0⟩,?_⟩
 rintro i m σ H ⟨rfl,hi,p⟩
 have q:=hl i σ H hi p
 by_cases hlt:i<xs.length
 ·refine .inr ⟨⟨xs,xs[i],q,by simp [hlt]⟩,Pv (i+1),fun σ' H' p'=>⟨xs.length - (i+1),by omega,rfl,hlt,p'⟩,fun x H' y=>?_⟩
  obtain ⟨e,y⟩:=y
  subst e
  exact hs i x σ _ (y xs q) p
 ·have e:i=xs.length:=by omega
  subst e
  exact .inl ⟨⟨xs,q,Nat.le_refl _⟩,hd σ H p⟩
theorem for_tup {K:PySem.W.Frag} {a:Addr} {xs:List V} {g:TG} {tb:TS} {D:Ends} {σ:St} {H:Hp} (Pv:Nat→St→Hp→Prop) (h0:Pv 0 σ H) (hl:∀i σ H,i≤xs.length→Pv i σ H→SqT K H a xs)
  (hs:∀i x σ H,xs[i]?=some x→Pv i σ H→g x σ H fun σ2 H2=>tb { D with nx:=Pv (i+1),ct:=Pv (i+1),bk:=D.nx } σ2 H2) (hd:∀σ H,Pv xs.length σ H→D.nx σ H) :
  ∃W:Nat→Nat→St→Hp→Prop,(∃m,W 0 m σ H)∧∀i m σ H,W i m σ H →
   ((Itt K a).stop i H∧D.nx σ H)∨((Itt K a).go i H∧∃N:St→Hp→Prop,(∀σ' H',N σ' H'→∃m',m'<m∧W (i+1) m' σ' H')∧∀x H',(Itt K a).yld i H x H'→g x σ H' fun σ2 H2=>tb { D with nx:=N,ct:=N,bk:=D.nx } σ2 H2):=by
 refine ⟨fun i m σ H=>m=xs.length - i∧i≤xs.length∧Pv i σ H,⟨xs.length,by simp,Nat.zero_le _,h0⟩,?_⟩
 rintro i m σ H ⟨rfl,hi,p⟩
 have q:=hl i σ H hi p
 by_cases hlt:i<xs.length
 ·refine .inr ⟨⟨xs,xs[i],q,by simp [hlt]⟩,Pv (i+1),fun σ' H' p'=>⟨xs.length - (i+1),by omega,rfl,hlt,p'⟩,fun x H' y=>?_⟩
  obtain ⟨e,y⟩:=y
  subst e
  exact hs i x σ _ (y xs q) p
 ·have e:i=xs.length:=by omega
  subst e
  exact .inl ⟨⟨xs,q,Nat.le_refl _⟩,hd σ H p⟩
theorem for_range {lo:Int} {n:Nat} {g:TG} {tb:TS} {D:Ends} {σ:St} {H:Hp} (Pv:Nat→St→Hp→Prop) (h0:Pv 0 σ H)
  (hs:∀i σ H,i<n→Pv i σ H→g (.int (lo+i)) σ H fun σ2 H2=>tb { D with nx:=Pv (i+1),ct:=Pv (i+1),bk:=D.nx } σ2 H2) (hd:∀σ H,Pv n σ H→D.nx σ H) :
  ∃W:Nat→Nat→St→Hp→Prop,(∃m,W 0 m σ H)∧∀i m σ H,W i m σ H →
   ((Itr lo n).stop i H∧D.nx σ H)∨((Itr lo n).go i H∧∃N:St→Hp→Prop,(∀σ' H',N σ' H'→∃m',m'<m∧W (i+1) m' σ' H')∧∀x H',(Itr lo n).yld i H x H'→g x σ H' fun σ2 H2=>tb { D with nx:=N,ct:=N,bk:=D.nx } σ2 H2):=by
 refine ⟨fun i m σ H=>m=n - i∧i≤n∧Pv i σ H,⟨n,by simp,Nat.zero_le _,h0⟩,?_⟩
 rintro i m σ H ⟨rfl,hi,p⟩
 by_cases hlt:i<n
 ·refine .inr ⟨hlt,Pv (i+1),fun σ' H' p'=>⟨n - (i+1),by omega,rfl,hlt,p'⟩,fun x H' y=>?_⟩
  obtain ⟨e,y⟩:=y
  subst e y
  exact hs i σ _ hlt p
 ·have e:i=n:=by omega
  subst e
  exact .inl ⟨Nat.le_refl _,hd σ H p⟩
abbrev R2:=V→V→Hp→VK→Prop
def OpR (X:Cx) (f:Value→Value→Sem Value) (r:R2):Prop:=
 ∀(pins:List (Addr × Obj)) (s:Shared) (σ:St) (H:Hp) (x y:V) (v u:Value) (Q:VK),Inv X pins σ H s→RelV x v→RelV y u→r x y H Q →
  wpAny (model X.prog X.w) X.A (f v u) (EP X pins σ Q) X.xe s
def CallR (X:Cx) (f:Value) (r:List V→Hp→VK→Prop):Prop:=
 ∀(pins:List (Addr × Obj)) (s:Shared) (σ:St) (H:Hp) (xs:List V) (us:List Value) (Q:VK),Inv X pins σ H s→Vals xs us→r xs H Q →
  wpAny (model X.prog X.w) X.A (call f us) (EP X pins σ Q) X.xe s
def TruR (X:Cx) (r:V→Hp→(Bool→Hp→Prop)→Prop):Prop:=
 ∀(pins:List (Addr × Obj)) (s:Shared) (σ:St) (H:Hp) (x:V) (v:Value) (Q:Bool→Hp→Prop),Inv X pins σ H s→RelV x v→r x H Q →
  wpAny (model X.prog X.w) X.A (truthy v) (TP X pins σ Q) X.xe s
def tOp (r:R2) (ta tb:TE):TE:=fun σ H Q=>ta σ H fun x H1=>tb σ H1 fun y H2=>r x y H2 Q
def rI (C:Int→Int→Prop) (g:Int→Int→V):R2:=fun x y H Q=>∃i j,x=.int i∧y=.int j∧C i j∧Q (g i j) H
def rI0 (g:Int→Int→V):R2:=fun x y H Q=>∃i j,x=.int i∧y=.int j∧Q (g i j) H
section
variable {X:Cx} {a b c:Expr} {ta tb tc:TE} {pos:Pos}
theorem binT (ha:PE X a ta) (hb:PE X b tb) {pins:List (Addr × Obj)} {s:Shared} {σ:St} {H:Hp} {R:V→V→Hp→Prop} (I:Inv X pins σ H s)
  (h:ta σ H fun x H1=>tb σ H1 fun y H2=>R x y H2) {Q:Value→Shared→Prop} {f:Value→Value→Sem Value}
  (hf:∀v u s2 x y H2,Inv X pins σ H2 s2→RelV x v→RelV y u→R x y H2→wpAny (model X.prog X.w) X.A (f v u) Q X.xe s2) :
  wpAny (model X.prog X.w) X.A (eval a X.env) (fun v s₁=>wpAny (model X.prog X.w) X.A (eval b X.env) (fun u s₂=>wpAny (model X.prog X.w) X.A (f v u) Q X.xe s₂) X.xe s₁) X.xe s:=by
 refine thn (ha pins s σ H _ I h) fun v s1 ⟨x,H1,I1,r1,q1⟩=>?_
 refine thn (hb pins s1 σ H1 _ I1 q1) fun u s2 ⟨y,H2,I2,r2,q2⟩=>?_
 exact hf v u s2 x y H2 I2 r1 r2 q2
theorem pe_op {op:Operator} {r:R2} (ho:OpR X (binaryOp op) r) (ha:PE X a ta) (hb:PE X b tb):PE X (.BinOp a op b pos) (tOp r ta tb):=by
 intro pins s σ H Q I h
 exact wpAny_BinOp (binT ha hb I h fun v u s2 x y H2 I2 rx ry q=>ho pins s2 σ H2 x y v u Q I2 rx ry q)
theorem opI {f:Value→Value→Sem Value} {C:Int→Int→Prop} {g:Int→Int→Int}
  (rule:∀(i j:Int) (t u:Tok) (s:Shared) (Q:Value→Shared→Prop) (E:Value→Shared→Prop),C i j→Q (.int (g i j) s.toks) { s with toks:=s.toks+1 }→wpAny (model X.prog X.w) X.A (f (.int i t) (.int j u)) Q E s) :
  OpR X f (rI C fun i j=>.int (g i j)):=by
 intro pins s σ H x y v u Q I rx ry h
 obtain ⟨i,j,rfl,rfl,hc,q⟩:=h
 obtain ⟨t,rfl⟩:=rx
 obtain ⟨t',rfl⟩:=ry
 exact rule i j t t' s _ _ hc ⟨.int (g i j),H,I.tok _,⟨_,rfl⟩,q⟩
theorem opI0 {f:Value→Value→Sem Value} {g:Int→Int→Int}
  (rule:∀(i j:Int) (t u:Tok) (s:Shared) (Q:Value→Shared→Prop) (E:Value→Shared→Prop),Q (.int (g i j) s.toks) { s with toks:=s.toks+1 }→wpAny (model X.prog X.w) X.A (f (.int i t) (.int j u)) Q E s) :
  OpR X f (rI0 fun i j=>.int (g i j)):=by
 intro pins s σ H x y v u Q I rx ry h
 obtain ⟨i,j,rfl,rfl,q⟩:=h
 obtain ⟨t,rfl⟩:=rx
 obtain ⟨t',rfl⟩:=ry
 exact rule i j t t' s _ _ ⟨.int (g i j),H,I.tok _,⟨_,rfl⟩,q⟩
theorem opB0 {f:Value→Value→Sem Value} {g:Int→Int→Bool}
  (rule:∀(i j:Int) (t u:Tok) (s:Shared) (Q:Value→Shared→Prop) (E:Value→Shared→Prop),Q (.bool (g i j)) s→wpAny (model X.prog X.w) X.A (f (.int i t) (.int j u)) Q E s) :
  OpR X f (rI0 fun i j=>.bl (g i j)):=by
 intro pins s σ H x y v u Q I rx ry h
 obtain ⟨i,j,rfl,rfl,q⟩:=h
 obtain ⟨t,rfl⟩:=rx
 obtain ⟨t',rfl⟩:=ry
 exact rule i j t t' s _ _ ⟨.bl (g i j),H,I,rfl,q⟩
def CDiv (i j:Int):Prop:=0<j∧j<1073741824
def CPow (i j:Int):Prop:=0≤j∧j≤1000000∧i.natAbs<2 ^ 64
def CMul (i j:Int):Prop:=(-(2 ^ 64)<i∧i<2 ^ 64)∨(-(2 ^ 64)<j∧j<2 ^ 64)
theorem CMul.ok {i j:Int} (h:CMul i j):IntMulOk i j:=by
 rcases h with ⟨h1,h2⟩|⟨h1,h2⟩
 ·exact .of_left (intBits_le_64 h1 h2)
 ·exact .of_right (intBits_le_64 h1 h2)
theorem op_add:OpR X (binaryOp .Add) (rI0 fun i j=>.int (i+j)):=opI0 fun _ _ _ _ _ _ _ q=>add_int q
theorem op_sub:OpR X (binaryOp .Sub) (rI0 fun i j=>.int (i - j)):=opI0 fun _ _ _ _ _ _ _ q=>sub_int q
theorem op_mul:OpR X (binaryOp .Mult) (rI CMul fun i j=>.int (i * j)):=opI fun _ _ _ _ _ _ _ hc q=>mul_int q hc.ok
theorem op_fdiv:OpR X (binaryOp .FloorDiv) (rI CDiv fun i j=>.int (i / j)):=opI fun i j _ _ _ _ _ hc q=>by
 have h1:(0:Int)<j:=hc.1
 have h2:j<1073741824:=hc.2
 exact floordiv_int (by omega) (by rw [Int.fdiv_eq_ediv_of_nonneg i (by omega)];exact q) (.inl (PyProof.noPylong_small (by omega)))
theorem op_mod:OpR X (binaryOp .Mod) (rI (fun _ j=>0<j) fun i j=>.int (i % j)):=opI fun i j _ _ _ _ _ hc q=>by
 have h1:(0:Int)<j:=hc
 exact mod_int' (by omega) (by rw [Int.fmod_eq_emod_of_nonneg i (by omega)];exact q)
theorem op_pow:OpR X (binaryOp .Pow) (rI CPow fun i j=>.int (i ^ j.toNat)):=opI fun _ _ _ _ _ _ _ hc q=>pow_int_small hc.1 hc.2.1 hc.2.2 q
end
def scal:V→V→Bool
 |.non,.non=>true|.non,.int _=>true|.int _,.non=>true|.non,.bl _=>true|.bl _,.non=>true|.non,.str _=>true|.str _,.non=>true
 |.int _,.int _=>true|.bl _,.bl _=>true|.str _,.str _=>true|.byt _,.byt _=>true
 |.int _,.str _=>true|.str _,.int _=>true|.bl _,.str _=>true|.str _,.bl _=>true
 |_,_=>false
def rEq:R2:=fun x y H Q=>scal x y=true∧Q (.bl (decide (x=y))) H
def rNe:R2:=fun x y H Q=>scal x y=true∧Q (.bl (!decide (x=y))) H
theorem dec_int {i j:Int}:decide (V.int i=V.int j)=(i == j):=by
 rw [Bool.eq_iff_iff]
 simp
theorem dec_bl {i j:Bool}:decide (V.bl i=V.bl j)=(i == j):=by
 rw [Bool.eq_iff_iff]
 simp
theorem dec_str {i j:Str}:decide (V.str i=V.str j)=(i == j):=by
 rw [Bool.eq_iff_iff]
 simp
theorem dec_byt {i j:Array UInt8}:decide (V.byt i=V.byt j)=(i.toList == j.toList):=by
 rw [Bool.eq_iff_iff]
 cases i
 cases j
 simp
section
variable {X:Cx} {a b c:Expr} {ta tb tc:TE} {pos:Pos}
theorem fin_bl {pins:List (Addr × Obj)} {σ:St} {H:Hp} {s:Shared} {Q:VK} {k k':Bool} (I:Inv X pins σ H s) (q:Q (.bl k) H) (e:k=k'):EP X pins σ Q (.bool k') s:=by
 subst e
 exact ⟨.bl k,H,I,rfl,q⟩
theorem op_eq:OpR X (compareOp .Eq) rEq:=by
 intro pins s σ H x y v u Q I rx ry h
 obtain ⟨hs,q⟩:=h
 cases x with
 |non=>
  cases rx
  cases y with
  |non=>cases ry;exact PySem.EqNone.eq_none_none (fin_bl I q (by simp))
  |bl j=>cases ry;exact PySem.EqNone.eq_none_bool (fin_bl I q (by simp))
  |int j=>obtain ⟨t',rfl⟩:=ry;exact PySem.EqNone.eq_none_int (fin_bl I q (by simp))
  |str j=>obtain ⟨t',rfl⟩:=ry;exact PySem.EqNone.eq_none_str (fin_bl I q (by simp))
  |_=>exact absurd (show false=true from hs) Bool.false_ne_true
 |bl i=>
  cases rx
  cases y with
  |non=>cases ry;exact PySem.EqNone.eq_bool_none (fin_bl I q (by simp))
  |bl j=>cases ry;exact eq_bool (fin_bl I q dec_bl)
  |str j=>obtain ⟨t',rfl⟩:=ry;exact PySem.EqMixed.eq_bool_str (fin_bl I q (by simp))
  |_=>exact absurd (show false=true from hs) Bool.false_ne_true
 |int i=>
  obtain ⟨t,rfl⟩:=rx
  cases y with
  |non=>cases ry;exact PySem.EqNone.eq_int_none (fin_bl I q (by simp))
  |int j=>obtain ⟨t',rfl⟩:=ry;exact eq_int (fin_bl I q dec_int)
  |str j=>obtain ⟨t',rfl⟩:=ry;exact PySem.EqMixed.eq_int_str (fin_bl I q (by simp))
  |_=>exact absurd (show false=true from hs) Bool.false_ne_true
 |str i=>
  obtain ⟨t,rfl⟩:=rx
  cases y with
  |non=>cases ry;exact PySem.EqNone.eq_str_none (fin_bl I q (by simp))
  |bl j=>cases ry;exact PySem.EqMixed.eq_str_bool (fin_bl I q (by simp))
  |int j=>obtain ⟨t',rfl⟩:=ry;exact PySem.EqMixed.eq_str_int (fin_bl I q (by simp))
  |str j=>obtain ⟨t',rfl⟩:=ry;exact eq_str (fin_bl I q dec_str)
  |_=>exact absurd (show false=true from hs) Bool.false_ne_true
 |byt i=>
  obtain ⟨t,rfl⟩:=rx
  cases y with
  |byt j=>obtain ⟨t',rfl⟩:=ry;exact PySem.W.eq_bytes (fin_bl I q dec_byt)
  |_=>exact absurd (show false=true from hs) Bool.false_ne_true
 |_=>cases y <;> exact absurd (show false=true from hs) Bool.false_ne_true
theorem op_ne:OpR X (compareOp .NotEq) rNe:=by
 intro pins s σ H x y v u Q I rx ry h
 obtain ⟨hs,q⟩:=h
 cases x with
 |non=>
  cases rx
  cases y with
  |non=>cases ry;exact PySem.EqNone.ne_none_none (fin_bl I q (by simp))
  |bl j=>cases ry;exact PySem.EqNone.ne_none_bool (fin_bl I q (by simp))
  |int j=>obtain ⟨t',rfl⟩:=ry;exact PySem.EqNone.ne_none_int (fin_bl I q (by simp))
  |str j=>obtain ⟨t',rfl⟩:=ry;exact PySem.EqNone.ne_none_str (fin_bl I q (by simp))
  |_=>exact absurd (show false=true from hs) Bool.false_ne_true
 |bl i=>
  cases rx
  cases y with
  |non=>cases ry;exact PySem.EqNone.ne_bool_none (fin_bl I q (by simp))
  |bl j=>cases ry;exact ne_bool (fin_bl I q (congrArg not dec_bl))
  |str j=>obtain ⟨t',rfl⟩:=ry;exact PySem.EqMixed.ne_bool_str (fin_bl I q (by simp))
  |_=>exact absurd (show false=true from hs) Bool.false_ne_true
 |int i=>
  obtain ⟨t,rfl⟩:=rx
  cases y with
  |non=>cases ry;exact PySem.EqNone.ne_int_none (fin_bl I q (by simp))
  |int j=>obtain ⟨t',rfl⟩:=ry;exact ne_int (fin_bl I q (congrArg not dec_int))
  |str j=>obtain ⟨t',rfl⟩:=ry;exact PySem.EqMixed.ne_int_str (fin_bl I q (by simp))
  |_=>exact absurd (show false=true from hs) Bool.false_ne_true
 |str i=>
  obtain ⟨t,rfl⟩:=rx
  cases y with
  |non=>cases ry;exact PySem.EqNone.ne_str_none (fin_bl I q (by simp))
  |bl j=>cases ry;exact PySem.EqMixed.ne_str_bool (fin_bl I q (by simp))
  |int j=>obtain ⟨t',rfl⟩:=ry;exact PySem.EqMixed.ne_str_int (fin_bl I q (by simp))
  |str j=>obtain ⟨t',rfl⟩:=ry;exact ne_str (fin_bl I q (congrArg not dec_str))
  |_=>exact absurd (show false=true from hs) Bool.false_ne_true
 |byt i=>
  obtain ⟨t,rfl⟩:=rx
  cases y with
  |byt j=>obtain ⟨t',rfl⟩:=ry;exact PySem.W.ne_bytes (fin_bl I q (congrArg not dec_byt))
  |_=>exact absurd (show false=true from hs) Bool.false_ne_true
 |_=>cases y <;> exact absurd (show false=true from hs) Bool.false_ne_true
theorem op_lt:OpR X (compareOp .Lt) (rI0 fun i j=>.bl (decide (i<j))):=opB0 fun _ _ _ _ _ _ _ q=>lt_int q
theorem op_le:OpR X (compareOp .LtE) (rI0 fun i j=>.bl (decide (i≤j))):=opB0 fun _ _ _ _ _ _ _ q=>le_int q
theorem op_gt:OpR X (compareOp .Gt) (rI0 fun i j=>.bl (decide (j<i))):=opB0 fun _ _ _ _ _ _ _ q=>gt_int q
theorem op_in_str:OpR X (compareOp .In) (fun x y H Q=>∃i j,x=.str i∧y=.str j∧Q (.bl (!(Builtin.Str.occurrences j i 0 j.length 1).isEmpty)) H):=by
 intro pins s σ H x y v u Q I rx ry h
 obtain ⟨i,j,rfl,rfl,q⟩:=h
 obtain ⟨t,rfl⟩:=rx
 obtain ⟨t',rfl⟩:=ry
 exact in_str (fin_bl I q rfl)
theorem op_isN:OpR X (compareOp .Is) (fun x y H Q=>y=.non∧Q (.bl (decide (x=.non))) H):=by
 intro pins s σ H x y v u Q I rx ry h
 obtain ⟨rfl,q⟩:=h
 cases ry
 refine is_none_gen (fin_bl I q ?_)
 cases x <;> first
  |(cases rx;rfl)
  |(obtain ⟨t,rfl⟩:=rx;rfl)
theorem op_notN:OpR X (compareOp .IsNot) (fun x y H Q=>y=.non∧Q (.bl (!decide (x=.non))) H):=by
 intro pins s σ H x y v u Q I rx ry h
 obtain ⟨rfl,q⟩:=h
 cases ry
 refine isnot_none_gen (fin_bl I q ?_)
 cases x <;> first
  |(cases rx;rfl)
  |(obtain ⟨t,rfl⟩:=rx;rfl)
theorem OpR.or {f:Value→Value→Sem Value} {r r':R2} (h:OpR X f r) (h':OpR X f r'):OpR X f (fun x y H Q=>r x y H Q∨r' x y H Q):=by
 intro pins s σ H x y v u Q I rx ry q
 rcases q with q|q
 ·exact h pins s σ H x y v u Q I rx ry q
 ·exact h' pins s σ H x y v u Q I rx ry q
theorem nomark (b:Expr) {op:CmpOp} (h:op≠.In:=by decide) (h2:op≠.NotIn:=by decide):behindInMarks op b=false:=by
 have e1:(op == CmpOp.In)=false:=by cases op <;> first|rfl|exact absurd rfl h
 have e2:(op == CmpOp.NotIn)=false:=by cases op <;> first|rfl|exact absurd rfl h2
 cases b <;> simp [behindInMarks,e1,e2]
theorem pe_cmpR {op:CmpOp} {r:R2} (ho:OpR X (compareOp op) r) (ha:PE X a ta) (hb:PE X b tb) (hm:behindInMarks op b=false):PE X (.Compare a [op] [b] pos) (tOp r ta tb):=by
 intro pins s σ H Q I h
 exact wpAny_Compare1 (binT ha hb I h fun v u s2 x y H2 I2 rx ry q=>ho pins s2 σ H2 x y v u Q I2 rx ry q) hm
def tTest (t:TE):TT:=fun σ H Q=>t σ H fun x H'=>∃k,x=.bl k∧Q k H'
theorem pt_cmpR {op:CmpOp} {r:R2} (ho:OpR X (compareOp op) r) (ha:PE X a ta) (hb:PE X b tb) (hm:behindInMarks op b=false):PT X (.Compare a [op] [b] pos) (tTest (tOp r ta tb)):=by
 intro pins s σ H Q I h
 refine wpAny_isTrue_Compare1 (thn (ha pins s σ H _ I h) fun v s1 ⟨x,H1,I1,r1,q1⟩=>thn (hb pins s1 σ H1 _ I1 q1) fun u s2 ⟨y,H2,I2,r2,q2⟩=>
  thn (ho pins s2 σ H2 x y v u _ I2 r1 r2 q2) fun c s3 ⟨z,H3,I3,r3,k,e,q3⟩=>?_) hm
 subst e
 cases r3
 exact wpAny_truthy_bool ⟨H3,I3,q3⟩
def tChain (r r':R2) (ta tb tc:TE):TE:=fun σ H Q=>ta σ H fun x H1=>tb σ H1 fun y H2=>r x y H2 fun z H3=>∃k,z=.bl k ∧
 (if k=true then tc σ H3 fun w' H4=>r' y w' H4 Q else Q (.bl false) H3)
theorem pe_chain {op op':CmpOp} {r r':R2} (ho:OpR X (compareOp op) r) (ho':OpR X (compareOp op') r') (ha:PE X a ta) (hb:PE X b tb) (hc:PE X c tc)
  (hm:lastMarks [op,op'] [b,c]=false:=by with_unfolding_all rfl):PE X (.Compare a [op,op'] [b,c] pos) (tChain r r' ta tb tc):=by
 intro pins s σ H Q I h
 refine Compare_chain (thn (ha pins s σ H _ I h) fun v s1 ⟨x,H1,I1,r1,q1⟩=>chain_link (thn (hb pins s1 σ H1 _ I1 q1) fun u s2 ⟨y,H2,I2,r2,q2⟩=>
  thn (ho pins s2 σ H2 x y v u _ I2 r1 r2 q2) fun d s3 ⟨z,H3,I3,r3,k,e,q3⟩=>?_)) hm
 subst e
 cases r3
 refine wpAny_truthy_bool ?_
 cases k with
 |false=>exact ite_ff ⟨.bl false,H3,I3,rfl,q3⟩
 |true=>exact ite_tt (chain_last (thn (hc pins s3 σ H3 _ I3 q3) fun w' s4 ⟨z',H4,I4,r4,q4⟩=>ho' pins s4 σ H4 y z' u w' Q I4 r2 r4 q4))
theorem pt_chain {op op':CmpOp} {r r':R2} (ho:OpR X (compareOp op) r) (ho':OpR X (compareOp op') r') (ha:PE X a ta) (hb:PE X b tb) (hc:PE X c tc)
  (hm:lastMarks [op,op'] [b,c]=false:=by with_unfolding_all rfl):PT X (.Compare a [op,op'] [b,c] pos) (tTest (tChain r r' ta tb tc)):=by
 intro pins s σ H Q I h
 refine isTrue_chain (thn (ha pins s σ H _ I h) fun v s1 ⟨x,H1,I1,r1,q1⟩=>test_link (thn (hb pins s1 σ H1 _ I1 q1) fun u s2 ⟨y,H2,I2,r2,q2⟩=>
  thn (ho pins s2 σ H2 x y v u _ I2 r1 r2 q2) fun d s3 ⟨z,H3,I3,r3,k,e,q3⟩=>?_)) hm
 subst e
 cases r3
 refine wpAny_truthy_bool ?_
 cases k with
 |false=>
  obtain ⟨k',e',q'⟩:=q3
  cases e'
  exact ite_ff ⟨H3,I3,q'⟩
 |true=>
  refine ite_tt (test_last (thn (hc pins s3 σ H3 _ I3 q3) fun w' s4 ⟨z',H4,I4,r4,q4⟩=>thn (ho' pins s4 σ H4 y z' u w' _ I4 r2 r4 q4) fun d' s5 ⟨z2,H5,I5,r5,k2,e2,q5⟩=>?_))
  subst e2
  cases r5
  exact wpAny_truthy_bool ⟨H5,I5,q5⟩
def TruV (K:PySem.W.Frag) (x:V) (H:Hp) (k:Bool):Prop:=
 match x with
 |.non=>k=false
 |.bl b=>k=b
 |.int i=>k=(i != 0)
 |.str y=>y.length≤sizeLine∧k=((y.length:Int) != 0)
 |.byt y=>y.size≤sizeLine∧k=((y.size:Int) != 0)
 |.ref p=>(∃xs,SqL K H p xs∧k=!xs.isEmpty)∨(∃xs,SqT K H p xs∧k=!xs.isEmpty)∨∃kvs,H p=some (.dK kvs)∧k=!kvs.isEmpty
 |_=>False
theorem isEmpty_kv {κ:Type} {kvs:List (κ × V)} {vs:List (κ × Value)} (r:KV kvs vs):(!vs.isEmpty)=!kvs.isEmpty:=by
 cases r <;> rfl
theorem isEmpty_of {xs:List V} {its:List Value} (r:Vals xs its):(!its.toArray.isEmpty)=!xs.isEmpty:=by
 cases r <;> simp
theorem line63:(sizeLine:Nat)<2 ^ 63:=by rw [sizeLine_eq];decide
theorem tru_ok:TruR X (fun x H Q=>∃k,TruV X.K x H k∧Q k H):=by
 intro pins s σ H x v Q I rx h
 obtain ⟨k,e,q⟩:=h
 have hl:=line63
 have hs:sizeLine=16777216:=sizeLine_eq
 cases x with
 |non=>
  cases rx
  have e':k=false:=e
  subst e'
  exact truthy_none ⟨H,I,q⟩
 |bl b=>
  cases rx
  have e':k=b:=e
  subst e'
  exact wpAny_truthy_bool ⟨H,I,q⟩
 |int i=>
  obtain ⟨t,rfl⟩:=rx
  have e':k=(i != 0):=e
  subst e'
  exact PySem.P.truthy_int ⟨H,I,q⟩
 |str y=>
  obtain ⟨t,rfl⟩:=rx
  obtain ⟨hy,e'⟩:y.length≤sizeLine∧k=((y.length:Int) != 0):=e
  subst e'
  exact PySem.P.truthy_str (by omega) ⟨H,I.tok _,q⟩
 |byt y=>
  obtain ⟨t,rfl⟩:=rx
  obtain ⟨hy,e'⟩:y.size≤sizeLine∧k=((y.size:Int) != 0):=e
  subst e'
  exact PySem.W.truthy_bytes (by omega) ⟨H,I.tok _,q⟩
 |ref p=>
  cases rx
  have e':(∃xs,SqL X.K H p xs∧k=!xs.isEmpty)∨(∃xs,SqT X.K H p xs∧k=!xs.isEmpty)∨∃kvs,H p=some (.dK kvs)∧k=!kvs.isEmpty:=e
  rcases e' with ⟨xs,hx,e'⟩|⟨xs,hx,e'⟩|⟨kvs,hx,e'⟩
  ·subst e'
   obtain ⟨its,r,pl,hz⟩:=I.list hx
   have hlen:=r.length
   exact wpAny_truthy_list pl.isList (by simp only [List.size_toArray];omega) ⟨H,I.tok _,by rw [isEmpty_of r];exact q⟩
  ·subst e'
   obtain ⟨its,r,pl,hz⟩:=I.tuple hx
   have hlen:=r.length
   exact truthy_tuple pl (by simp only [List.size_toArray];omega) ⟨H,I.tok _,by rw [isEmpty_of r];exact q⟩
  ·subst e'
   obtain ⟨hz,hS,vs,r,m⟩:kvs.length≤sizeLine∧(p == sysModules)=false∧∃vs,KV kvs vs∧s.heap.DictOf (mixKind X.prog X.w) p vs:=I.hok p _ hx
   have hlen:kvs.length=vs.length:=Paired.length r
   exact wpAny_truthy_dict hS m (by omega) ⟨H,I.tok _,by rw [isEmpty_kv r];exact q⟩
 |_=>exact (show False from e).elim
theorem pt_truth (ha:PE X a ta) (he:∀whole,isTrue a X.env whole=(do let v ←whole;standAt a.pos;holding [v] (truthy v))) :
  PT X a (fun σ H Q=>ta σ H fun x H'=>∃k,TruV X.K x H' k∧Q k H'):=by
 intro pins s σ H Q I h
 exact isTrue_plain (thn (ha pins s σ H _ I h) fun v s1 ⟨x,H1,I1,r1,q1⟩=>tru_ok pins s1 σ H1 x v Q I1 r1 q1) (he _)
theorem op_add_str:OpR X (binaryOp .Add) (fun x y H Q=>∃i j,x=.str i∧y=.str j∧i.length+j.length≤sizeLine∧Q (.str (i++j)) H):=by
 intro pins s σ H x y v u Q I rx ry h
 obtain ⟨i,j,rfl,rfl,hz,q⟩:=h
 obtain ⟨t,rfl⟩:=rx
 obtain ⟨t',rfl⟩:=ry
 exact add_str (fun t' tk=>⟨.str (i++j),H,I.tok _,⟨_,rfl⟩,q⟩) hz
def PlainIxT (b:Expr):Prop:=∀o i,subscripted b false o i=operate [o,i] (getItem o i)
theorem pe_item_str (ha:PE X a ta) (hb:PE X b tb) (hs:PlainIxT b) :
  PE X (.Subscript a b pos) (tOp (fun x y H Q=>∃z i c,x=.str z∧y=.int i∧0≤i∧i<2 ^ 63∧i<z.length∧z.cps[i.toNat]?=some c∧Q (.str ⟨#[c]⟩) H) ta tb):=by
 intro pins s σ H Q I h
 refine Subscript_ (binT ha hb I h fun v u s2 x y H2 I2 rx ry q=>?_)
 obtain ⟨z,i,c,rfl,rfl,h0,h63,h1,hc,q⟩:=q
 obtain ⟨t,rfl⟩:=rx
 obtain ⟨t',rfl⟩:=ry
 have e:seqIndex? i z.length=some i.toNat:=PySem.StrLaws.seqIndex_nonneg h0 h1
 exact tail_any (typeIs_str s2 z t) slot_str_getitem.lookup (getItem_str (c:=c) (by
  have e1:decide (i < -(2 ^ 63:Int))=false:=decide_eq_false (by omega)
  have e2:decide (i ≥ 2 ^ 63)=false:=decide_eq_false (by omega)
  rw [e1,e2] <;> rfl) (by rw [e];exact hc) ⟨.str ⟨#[c]⟩,H2,I2.tok _,⟨_,rfl⟩,q⟩) (hs _ _)
theorem vals1 {x:V} {us:List Value} (r:Vals [x] us):∃u,us=[u]∧RelV x u:=by
 cases r with
 |cons r1 r2=>cases r2;exact ⟨_,rfl,r1⟩
theorem vals2 {x y:V} {us:List Value} (r:Vals [x,y] us):∃u w',us=[u,w']∧RelV x u∧RelV y w':=by
 cases r with
 |cons r1 r2=>
  cases r2 with
  |cons r3 r4=>cases r4;exact ⟨_,_,rfl,r1,r3⟩
theorem call_abs:CallR X (.builtin "abs") (fun xs H Q=>∃i,xs=[.int i]∧Q (.int (if i<0 then -i else i)) H):=by
 intro pins s σ H xs us Q I r h
 obtain ⟨i,rfl,q⟩:=h
 obtain ⟨u,rfl,t,rfl⟩:=vals1 r
 exact call_abs_int fun u tk=>⟨.int (if i<0 then -i else i),H,I.tok _,⟨_,rfl⟩,q⟩
theorem call_int1:CallR X (.type "int") (fun xs H Q=>(∃i,xs=[.int i]∧Q (.int i) H)∨∃k,xs=[.bl k]∧Q (.int (if k then 1 else 0)) H):=by
 intro pins s σ H xs us Q I r h
 rcases h with ⟨i,rfl,q⟩|⟨k,rfl,q⟩
 ·obtain ⟨u,rfl,t,rfl⟩:=vals1 r
  exact call_int_int ⟨.int i,H,I,⟨_,rfl⟩,q⟩
 ·obtain ⟨u,rfl,r1⟩:=vals1 r
  cases r1
  exact call_int_bool ⟨.int (if k then 1 else 0),H,I.tok _,⟨_,rfl⟩,q⟩
end
section
variable {prog:Program} {w:World} {A:Around} {E:Value→Shared→Prop} {s:Shared} {K:PySem.W.Frag} {x dx C f:Addr} {mA:Str→Option Value} {name:Str} {v:Value}
end
theorem RelO.some_of {v:V} {o:Option Value} (r:RelO (some v) o):∃u,o=some u∧RelV v u:=by
 cases o with
 |none=>exact (show False from r).elim
 |some u=>exact ⟨u,rfl,r⟩
section
variable {P:Program} {w:World} {H H':Hp} {h h':Heap} {a C dx:Addr} {fs fs':List (Str × V)}
end
section
variable {X:Cx} {pins:List (Addr × Obj)} {σ:St} {H:Hp} {s:Shared} {a C dx:Addr} {fs:List (Str × V)} {f:Str} {v:V} {A:Around} {E:Value→Shared→Prop}
end
section
variable {X:Cx} {o e value:Expr} {f:Str} {pos pos' tpos:Pos} {ta tv:TE}
end
section
variable {X:Cx} {pins:List (Addr × Obj)} {σ:St} {H:Hp} {s:Shared} {A:Around} {E:Value→Shared→Prop} {Q:Value→Shared→Prop} {c:Value} {b:Bool}
end
structure Room (k:Nat) (A:Around):Prop where
 hd:A.handled=none
 dp:A.depth+3 * k+5<recursionLimit
 un:A.units+16 * k+200<cLine
theorem Room.mono {j k:Nat} {A:Around} (r:Room k A) (h:j≤k):Room j A:=⟨r.hd,by have:=r.dp;omega,by have:=r.un;omega⟩
theorem Room.deeper {k:Nat} {A:Around} (r:Room (k+1) A) (env:Env):Room k (A.deeper env):=
 ⟨r.hd,by have:=r.dp;show A.depth+1+3 * k+5<_;omega,by have:=r.un;show A.units+3+16 * k+200<_;omega⟩
theorem Room.depth {k:Nat} {A:Around} (r:Room k A):A.depth<recursionLimit:=by have:=r.dp;omega
theorem Room.units {k:Nat} {A:Around} (r:Room k A):A.units+64<cLine:=by have:=r.un;omega
def tNil:TA:=fun _ H Q=>Q [] H
def tCons (ta:TE) (tr:TA):TA:=fun σ H Q=>ta σ H fun x H1=>tr σ H1 fun xs H2=>Q (x::xs) H2
section
variable {X:Cx} {e:Expr} {es:List Expr} {te:TE} {t:TA} {pos:Pos}
theorem pa_nil:PA X [] tNil:=fun _ _ _ _ H Q I h=>Calls.spliced_nil ⟨[],H,I,.nil,h⟩
theorem pa_cons (ha:PE X e te) (hr:PA X es t) (hs:starEach (e::es) X.env=(false,eval e X.env)::starEach es X.env:=by rfl):PA X (e::es) (tCons te t):=by
 intro pos pins s σ H Q I h
 rw [hs]
 show wpAny _ _ (spliced ((false,eval e X.env)::backTo pos (starEach es X.env))) _ _ s
 refine Calls.spliced_cons (thn (ha pins s σ H _ I h) fun u s1 ⟨x,H1,I1,r1,q1⟩=>?_)
 exact thn (hr pos pins s1 σ H1 _ I1 q1) fun us s2 ⟨xs,H2,I2,r2,q2⟩=>⟨x::xs,H2,I2,.cons r1 r2,q2⟩
def tTup (t:TA):TE:=fun σ H Q=>t σ H fun xs H1=>xs.length≤sizeLine∧∀p,H1 p=none→Q (.ref p) (upd H1 p (.tup xs))
theorem pe_tup {x1} (h:PA X es t):PE X (.Tuple es x1 pos) (tTup t):=by
 intro pins s σ H Q I hq
 refine wpAny_Tuple_spliced (thn (h pos pins s σ H _ I hq) fun us s1 ⟨xs,H1,I1,r,z,q⟩=>⟨by rw [←r.length];exact z,?_⟩)
 have hf:H1 s1.heap.objs.size=none:=I1.hok.fresh (Nat.le_refl _)
 refine ⟨.ref s1.heap.objs.size,upd H1 s1.heap.objs.size (.tup xs),I1.laid (t':=s1.toks) (fun b u e=>Heap.get?_push_of_some _ e) (Nat.le_refl _) ?_,rfl,q _ hf⟩
 exact ⟨z,us,r,.of (Heap.get?_push_size _ rfl) rfl ⟨_,Heap.get?_push_size _ rfl,rfl,_,rfl⟩⟩
end
abbrev Sp:=List V→Hp→VK→XK→Prop
abbrev CXT:=List Env→Hp→Shared→XK→Value→Shared→Prop
structure Env0 (P:Program) (w:World) (K:PySem.W.Frag) (mg:Str→Option Value) (base:Heap) (A:Around) (outer:List Env) (s:Shared) (H:Hp):Prop where
 frames:A.frames=some outer
 mod:Mod K mg base
 bs:∀b o,base.get? b=some o→s.heap.get? b=some o∧H b=none
 bsz:base.objs.size≤s.heap.objs.size
 funs:s.heap.FunFrames base outer
 frf:∀b∈frs outer,H b=none
 hok:HOk P w H s.heap
 bare:AllBare s.gens
def CE (outer:List Env) (P:Program) (w:World) (H:Hp) (s:Shared) (Q:VK) (u:Value) (s':Shared):Prop:=
 ∃v H',s'.os=s.os∧AllBare s'.gens∧Un (frs outer) [] H H' s.heap s'.heap∧HOk P w H' s'.heap∧RelV v u∧Q v H'
def CR (CX:CXT) (outer:List Env) (P:Program) (w:World) (H:Hp) (s:Shared) (Q:VK) (E:XK) (r:Result) (s':Shared):Prop:=
 match r with
 |.ok (.ret u)=>CE outer P w H s Q u s'
 |.ok _=>False
 |.error e=>CX outer H s E e s'
structure FnOk (P:Program) (w:World) (K:PySem.W.Frag) (mg:Str→Option Value) (base:Heap) (CX:CXT) (k:Nat) (f:Addr) (fd:FuncData) (ps:List Str) (sp:Sp):Prop where
 len:∀vs H Q E,sp vs H Q E→vs.length=ps.length
 run:∀(A:Around) (outer:List Env) (s:Shared) (H:Hp) (args:Args) (us:List Value) (vs:List V) (Q:VK) (E:XK),Room k A→Env0 P w K mg base A outer s H→BindsTo s fd args (ps.zip us)→Vals vs us→sp vs H Q E →
  codeAny (model P w) A (.call (.ref f) args) (CR CX outer P w H s Q E) s
theorem FnOk.mono {P:Program} {w:World} {K:PySem.W.Frag} {mg:Str→Option Value} {base:Heap} {CX:CXT} {j k:Nat} {f:Addr} {fd:FuncData} {ps:List Str} {sp:Sp} (F:FnOk P w K mg base CX j f fd ps sp) (h:j≤k) :
  FnOk P w K mg base CX k f fd ps sp:=⟨F.len,fun A outer s H args us vs Q E hr=>F.run A outer s H args us vs Q E (hr.mono h)⟩
theorem FnOk.imp {P:Program} {w:World} {K:PySem.W.Frag} {mg:Str→Option Value} {base:Heap} {CX:CXT} {k:Nat} {f:Addr} {fd:FuncData} {ps:List Str} {sp sp':Sp} (F:FnOk P w K mg base CX k f fd ps sp)
  (h:∀vs H Q E,sp' vs H Q E→sp vs H Q E):FnOk P w K mg base CX k f fd ps sp':=
 ⟨fun vs H Q E q=>F.len vs H Q E (h _ _ _ _ q),fun A outer s H args us vs Q E hr he hb hv hs=>F.run A outer s H args us vs Q E hr he hb hv (h _ _ _ _ hs)⟩
section
variable {X:Cx} {pins:List (Addr × Obj)} {σ:St} {H:Hp} {s s':Shared}
theorem Inv.env0 (I:Inv X pins σ H s):Env0 X.prog X.w X.K X.mg X.base X.A X.stack s H:=
 ⟨I.ok.frames,I.ok.mod,I.bs,Nat.le_trans I.ok.bsz I.sz,I.stack,I.stkFree,I.hok,I.bare⟩
theorem Inv.after {Q:VK} {u:Value} (I:Inv X pins σ H s) (h:CE X.stack X.prog X.w H s Q u s'):EP X pins σ Q u s':=by
 obtain ⟨v,H',os,bare,un,hok,r,q⟩:=h
 obtain ⟨hh,g,d,t,os'⟩:=s'
 obtain rfl:os'=s.os:=os
 exact ⟨v,H',I.call (h':=hh) (g':=g) (d':=d) (t':=t) (ch:=[]) un hok bare (fun b z=>absurd z (by simp)),r,q⟩
end
def tCall (sp:Sp) (dvs:List V) (E:XK) (t:TA):TE:=fun σ H Q=>t σ H fun vs H1=>sp (vs++dvs) H1 Q E
def Binds (K:PySem.W.Frag) (fd:FuncData) (ps:List Str) (ds:List Value):Prop:=
 ∀(s:Shared) (us:List Value),K.In s.heap→(us++ds).length=ps.length→BindsTo s fd ⟨us,[]⟩ (ps.zip (us++ds))
theorem Binds.all {K:PySem.W.Frag} {fd:FuncData} {ps:List Str} (h:∀us:List Value,us.length=ps.length→bindArgs fd ⟨us,[]⟩=pure (ps.zip us)):Binds K fd ps []:=fun s us _ hl=>by
 rw [List.append_nil] at hl ⊢
 exact .of_eq (h us hl)
def Passes (CX:CXT) (X:Cx) (E:XK):Prop:=∀(pins:List (Addr × Obj)) (σ:St) (H:Hp) (s:Shared) (e:Value) (s':Shared),Inv X pins σ H s→CX X.stack H s E e s'→X.xe e s'
section
variable {X:Cx} {CX:CXT} {k:Nat} {f C:Addr} {fd:FuncData} {ps:List Str} {sp:Sp} {dvs:List V} {ds:List Value} {E:XK} {x m:Str} {p pos apos:Pos} {e o:Expr} {es:List Expr} {ta:TE} {t:TA}
theorem run_fn {pins:List (Addr × Obj)} {σ:St} {H:Hp} {s:Shared} {Q:VK} {us:List Value} {vs:List V} (F:FnOk X.prog X.w X.K X.mg X.base CX k f fd ps sp) (hr:Room k X.A) (hb:Binds X.K fd ps ds) (hd:Vals dvs ds) (hx:Passes CX X E)
  (I:Inv X pins σ H s) (r:Vals vs us) (h:sp (vs++dvs) H Q E):wpAny (model X.prog X.w) X.A (call (.ref f) us) (EP X pins σ Q) X.xe s:=by
 have r2:Vals (vs++dvs) (us++ds):=r.append hd
 have hl:(us++ds).length=ps.length:=by rw [←r2.length];exact F.len _ _ _ _ h
 refine wpAny_call (codeAny_mono (F.run X.A X.stack s H ⟨us,[]⟩ (us++ds) (vs++dvs) Q E hr I.env0 (hb s us I.kIn hl) r2 h) fun r s' hq=>?_)
 cases r with
 |error e=>exact hx pins σ H s e s' I hq
 |ok fl=>
  cases fl with
  |ret u=>exact I.after hq
  |next=>exact False.elim hq
  |brk=>exact False.elim hq
  |cont=>exact False.elim hq
theorem pe_call (F:FnOk X.prog X.w X.K X.mg X.base CX k f fd ps sp) (hr:Room k X.A) (hg:Gl X x) (hm:X.mg x=some (.ref f)) (hk:PySem.W.keepIn X.K (.ref f)=true) (hb:Binds X.K fd ps ds) (hd:Vals dvs ds) (hx:Passes CX X E)
  (ha:PA X (e::es) t) (hdb:(x == ("__debug__":Str))=false:=by decide) (he:starEach (e::es) X.env=(false,eval e X.env)::starEach es X.env:=by rfl) (hpl:(backTo pos (starEach es X.env)).any (·.1)=false:=by rfl) :
  PE X (.Call (.Name x p) (e::es) [] pos) (tCall sp dvs E t):=by
 intro pins s σ H Q I h
 refine wpAny_Call_Name_kw (ld_glob I hg hm ?_ hdb)
 refine PySem.W.callWith_K (h₀:=X.base) I.ok.mod.kin hk (thn (ha pos pins s σ H _ I h) fun us s1 ⟨vs,H1,I1,r,q⟩=>⟨I1.kIn,?_⟩) he hpl
 exact run_fn F hr hb hd hx I1 r q
theorem pe_call0 (F:FnOk X.prog X.w X.K X.mg X.base CX k f fd ps sp) (hr:Room k X.A) (hg:Gl X x) (hm:X.mg x=some (.ref f)) (hk:PySem.W.keepIn X.K (.ref f)=true) (hb:Binds X.K fd ps ds) (hd:Vals dvs ds) (hx:Passes CX X E)
  (hdb:(x == ("__debug__":Str))=false:=by decide):PE X (.Call (.Name x p) [] [] pos) (tCall sp dvs E tNil):=by
 intro pins s σ H Q I h
 refine wpAny_Call_Name_kw (ld_glob I hg hm ?_ hdb)
 exact PySem.W.callWith_K0 I.kIn hk (run_fn (us:=[]) F hr hb hd hx I .nil h)
end
section
variable {X:Cx} {CX:CXT} {k:Nat} {f C:Addr} {fd:FuncData} {ps ks:List Str} {sp:Sp} {E:XK} {x m:Str} {p pos apos kpos:Pos} {e o:Expr} {es:List Expr} {kws:List Keyword} {te ta:TE} {t tk:TA} {nm:Option Str}
variable {g:List Value→List Value→List Value} {gV:List V→List V→List V}
end
structure FnScope (N P:List Str) (sc:Scope):Prop where
 kind:sc.kind=.function
 co:sc.isCoroutine=false
 gen:sc.isGenerator=false
 nd:N.Nodup
 pre:N.take P.length=P
 par:∀x∈P,sc.names.lookup x=some .local∨sc.names.lookup x=some .cell
 nofree:∀y∈sc.names,y.2≠.free
theorem bindL_out {kindOf:Str→Option NameKind} {x:Str}:∀{binds:List (Str × Value)} {m:Str→Option Value},(∀v,(x,v)∉binds)→bindL kindOf binds m x=m x
 |[],_,_=>rfl
 |(n,v)::r,m,h=>by
  unfold bindL
  rw [bindL_out fun w hw=>h w (List.mem_cons_of_mem _ hw)]
  split
  ·have:x≠n:=by rintro rfl;exact h v List.mem_cons_self
   simp [this]
  ·rfl
theorem bindC_out {kindOf:Str→Option NameKind} {x:Str}:∀{binds:List (Str × Value)} {m:Str→Option Value},(∀v,(x,v)∉binds)→bindC kindOf binds m x=m x
 |[],_,_=>rfl
 |(n,v)::r,m,h=>by
  unfold bindC
  rw [bindC_out fun w hw=>h w (List.mem_cons_of_mem _ hw)]
  split
  ·rfl
  ·have:x≠n:=by rintro rfl;exact h v List.mem_cons_self
   simp [this]
theorem bindL_get {kindOf:Str→Option NameKind} {x:Str} {v:Value}:∀{P:List Str} {vs:List Value} {i:Nat} {m:Str→Option Value},P.Nodup→P[i]?=some x→vs[i]?=some v→kindOf x=some .local →
  bindL kindOf (P.zip vs) m x=some v
 |[],_,_,_,_,h,_,_=>by simp at h
 |_::_,[],_,_,_,_,h,_=>by simp at h
 |p::P,w::vs,0,m,nd,h1,h2,hk=>by
  simp at h1 h2;subst h1;subst h2
  show bindL kindOf ((p,w)::P.zip vs) m p=_
  unfold bindL
  rw [bindL_out fun v hv=>(List.nodup_cons.mp nd).1 (List.of_mem_zip hv).1,if_pos hk]
  simp
 |p::P,w::vs,i+1,m,nd,h1,h2,hk=>by
  show bindL kindOf ((p,w)::P.zip vs) m x=_
  unfold bindL
  exact bindL_get (i:=i) (List.nodup_cons.mp nd).2 (by simpa using h1) (by simpa using h2) hk
theorem bindC_get {kindOf:Str→Option NameKind} {x:Str} {v:Value}:∀{P:List Str} {vs:List Value} {i:Nat} {m:Str→Option Value},P.Nodup→P[i]?=some x→vs[i]?=some v→kindOf x≠some .local →
  bindC kindOf (P.zip vs) m x=some v
 |[],_,_,_,_,h,_,_=>by simp at h
 |_::_,[],_,_,_,_,h,_=>by simp at h
 |p::P,w::vs,0,m,nd,h1,h2,hk=>by
  simp at h1 h2;subst h1;subst h2
  show bindC kindOf ((p,w)::P.zip vs) m p=_
  unfold bindC
  rw [bindC_out fun v hv=>(List.nodup_cons.mp nd).1 (List.of_mem_zip hv).1,if_neg hk]
  simp
 |p::P,w::vs,i+1,m,nd,h1,h2,hk=>by
  show bindC kindOf ((p,w)::P.zip vs) m x=_
  unfold bindC
  exact bindC_get (i:=i) (List.nodup_cons.mp nd).2 (by simpa using h1) (by simpa using h2) hk
def start (N:List Str) (vs:List V):St:=vs.map some++List.replicate (N.length - vs.length) none
def cxOf (CX:CXT) (P:Program) (w:World) (K:PySem.W.Frag) (mg:Str→Option Value) (base:Heap) (N:List Str) (qual:Str) (scope:Scope) (f:Addr) (cd:Value) (A:Around) (outer:List Env) (s:Shared) (H:Hp) (E:XK):Cx where
 prog:=P
 w:=w
 K:=K
 mg:=mg
 base:=base
 A:=A.deeper (envOfC qual scope s.heap.objs.size f cd)
 N:=N
 s₀:=s
 H₀:=H
 env:=envOfC qual scope s.heap.objs.size f cd
 outer:=outer
 stack:=envOfC qual scope s.heap.objs.size f cd::outer
 ex:=[]
 calm:=true
 fn:=fun _=>true
 pn:=[]
 xe:=fun e s'=>wpAny (model P w) (A.deeper (envOfC qual scope s.heap.objs.size f cd)) (leaving (envOfC qual scope s.heap.objs.size f cd) e) (fun _ s''=>CX outer H s E e s'') (fun e' s''=>CX outer H s E e' s'') s'
theorem cell_has {sc:Scope} {n:Nat} {x:Str} (h:sc.names.lookup x=some .cell):∃c,(cellsFrom n sc.names []).lookup x=some c:=by
 have q:=PySem.W.cellsFrom_some sc.names n [] (.inl h)
 exact Option.isSome_iff_exists.mp q
theorem inv_start {CX:CXT} {P:Program} {w:World} {K:PySem.W.Frag} {mg:Str→Option Value} {base:Heap} {N ps:List Str} {qual:Str} {scope:Scope} {f:Addr} {cd:Value} {A:Around} {outer:List Env} {s s1:Shared} {H:Hp} {E:XK} {us:List Value} {vs:List V}
  (S:FnScope N ps scope) (hd:A.handled=none) (e0:Env0 P w K mg base A outer s H) (hl:vs.length=ps.length) (r:Vals vs us)
  (x:InCallC s s.heap.objs.size (bindL (envOfC qual scope s.heap.objs.size f cd).kindOf (ps.zip us) fun _=>none) (cellsFrom (s.heap.objs.size+1) scope.names []) (bindC (envOfC qual scope s.heap.objs.size f cd).kindOf (ps.zip us) fun _=>none) s1) :
  Inv (cxOf CX P w K mg base N qual scope f cd A outer s H E) [] (start N vs) H s1:=by
 have hpl:ps.length≤N.length:=by have:=congrArg List.length S.pre;rw [List.length_take] at this;omega
 obtain ⟨h1,tk,rfl,hk⟩:=x.done
 have noA:∀b:Addr,b∉(cxOf CX P w K mg base N qual scope f cd A outer s H E).ex:=fun b z=>absurd (show b∈([]:List Addr) from z) (by simp)
 refine ⟨⟨e0.mod,S.kind,rfl,rfl,Nat.le_refl _,fun y z c h1 h2=>?_,fun y hy=>?_,fun y c _ h=>?_,fun _=>hd,Around.frames_deeper e0.frames,.inr ⟨rfl,rfl⟩,fun b z=>absurd z (noA b),e0.bs,e0.bsz,fun b _ _=>noA b,fun b z=>absurd z (noA b),e0.funs,e0.frf⟩,
  rfl,e0.bare,Un.kept hk,⟨_,x.toInCall.ns,fun i y v h1 h2 h3=>?_⟩,fun y c h=>⟨_,x.cell y c h⟩,e0.hok.fresh (Nat.le_refl _),fun y c h=>?_,fun p hp=>absurd (show p∈([]:List (Addr × Obj)) from hp) (by simp),e0.hok.kept hk,?_⟩
 ·exact name_of_addr x.apart (PySem.mem_of_lookup h1) (PySem.mem_of_lookup h2)
 ·have hy:scope.names.lookup y=some .cell∨scope.names.lookup y=some .free:=hy
  rcases hy with hy|hy
  ·exact cell_has hy
  ·exact absurd rfl (S.nofree _ (PySem.mem_of_lookup hy))
 ·exact Nat.le_of_lt (x.above y c (PySem.mem_of_lookup h))
 ·have hi:i<vs.length:=by
   unfold start at h2
   by_cases hi:i<vs.length
   ·exact hi
   ·rw [List.getElem?_append_right (by simpa using hi)] at h2
    rw [List.getElem?_replicate] at h2
    split at h2 <;> cases h2
  have ha:vs[i]?=some v:=by
   unfold start at h2
   rw [List.getElem?_append_left (by simpa using hi),List.getElem?_map] at h2
   cases e:vs[i]? with
   |none=>rw [e] at h2;cases h2
   |some a=>rw [e] at h2;cases h2;rfl
  obtain ⟨u,hu,rv⟩:=r.get ha
  have hp:ps[i]?=some y:=by
   rw [←S.pre,List.getElem?_take_of_lt (by omega)];exact h1
  have ndP:ps.Nodup:=by rw [←S.pre];exact S.nd.sublist (List.take_sublist _ _)
  refine ⟨u,rv,?_⟩
  rcases S.par y (List.mem_of_getElem? hp) with k|k
  ·exact .inl ⟨k,bindL_get ndP hp hu k⟩
  ·obtain ⟨c,e⟩:=cell_has (n:=s.heap.objs.size+1) k
   refine .inr ⟨.inl k,c,e,?_⟩
   have q:=x.cell y c e
   rw [bindC_get ndP hp hu (by show scope.names.lookup y≠_;rw [k];decide)] at q
   exact q
 ·exact e0.hok.fresh (Nat.le_of_lt (x.above y c (PySem.mem_of_lookup h)))
 ·unfold start
  show _=N.length
  rw [List.length_append,List.length_map,List.length_replicate]
  omega
theorem fn_of {CX:CXT} {P:Program} {w:World} {K:PySem.W.Frag} {mg:Str→Option Value} {base:Heap} {k:Nat} {f:Addr} {name qual:Str} {params:Arguments} {body:List Stmt} {scope:Scope} {dV kV doc pm cdv ct oc:Value} {an od:Option Addr}
  {osl:Array (Option Value)} {N ps:List Str} {sp:Sp} (lk:K.lookup f=some ⟨oc,od,.func (PySem.W.fnOf name qual params body scope dV kV doc pm an cdv ct),osl⟩) (hcd:PySem.W.codeIn K cdv qual=true) (S:FnScope N ps scope)
  (len:∀vs H Q E,sp vs H Q E→vs.length=ps.length)
  (hbody:∀(A:Around) (outer:List Env) (s:Shared) (H:Hp) (vs:List V) (Q:VK) (E:XK),Room k (A.deeper (envOfC qual scope s.heap.objs.size f cdv))→sp vs H Q E →
   ∃t,PSs (cxOf CX P w K mg base N qual scope f cdv A outer s H E) body t∧t { nx:=fun _ H'=>Q .non H',rt:=Q } (start N vs) H) :
  FnOk P w K mg base CX (k+1) f (PySem.W.fnOf name qual params body scope dV kV doc pm an cdv ct) ps sp:=by
 refine ⟨len,fun A outer s H args us vs Q E hr e0 hb r hsp=>?_⟩
 have hl:=len _ _ _ _ hsp
 have KX:K.In s.heap:=e0.mod.kin.keeps fun b o e=>(e0.bs b o e).1
 have lim:s.heap.NoLimit:=e0.mod.nolimit.keeps fun b o e=>(e0.bs b o e).1
 have hkind:∀y∈ps.zip us,scope.names.lookup y.1=some .local∨(scope.names.lookup y.1=some .cell∧((cellsFrom (s.heap.objs.size+1) scope.names []).lookup y.1).isSome=true):=fun ⟨n,v⟩ hy=>by
  rcases S.par n (List.of_mem_zip hy).1 with q|q
  ·exact .inl q
  ·exact .inr ⟨q,PySem.W.cellsFrom_some _ _ _ (.inl q)⟩
 refine codeAny_call_function hr.depth (KX _ _ lk) rfl S.co S.gen rfl (PySem.W.codeRec_of KX hcd) (hb _ _ _ _ ?_)
 refine wpAny_newFunctionEnv_cells S.kind hkind fun env he s1 x=>?_
 subst he
 refine ⟨lim.keeps x.toInCall.keep,codeAny_func ?_⟩
 obtain ⟨t,ht,hq⟩:=hbody A outer s H vs Q E (hr.deeper _) hsp
 have I:Inv (cxOf CX P w K mg base N qual scope f cdv A outer s H E) [] (start N vs) H s1:=inv_start S hr.hd e0 hl r x
 refine wpAny_mono (ht [] s1 (start N vs) H _ I hq) (fun fl s' hs=>?_) fun e s' hs=>hs
 have fin:∀{σ':St} {H':Hp} {v:V} {u:Value},Inv (cxOf CX P w K mg base N qual scope f cdv A outer s H E) [] σ' H' s'→RelV v u→Q v H'→CE outer P w H s Q u s':=
  fun {σ' H' v u} J rv q=>⟨v,H',J.os,J.bare,J.base,J.hok,rv,q⟩
 cases fl with
 |ret u=>
  obtain ⟨v,σ',H',J,rv,q⟩:=hs
  exact fin J rv q
 |next=>
  obtain ⟨σ',H',J,q⟩:=hs
  exact fin (v:=V.non) (u:=Value.none) J rfl q
 |brk=>
  obtain ⟨_,_,_,q⟩:=hs
  exact False.elim q
 |cont=>
  obtain ⟨_,_,_,q⟩:=hs
  exact False.elim q
section
variable {X:Cx} {x:Str} {p pos:Pos} {e:Expr} {es:List Expr} {t:TA} {id T:String} {r:List V→Hp→VK→Prop}
def tCB (r:List V→Hp→VK→Prop) (t:TA):TE:=fun σ H Q=>t σ H fun vs H1=>r vs H1 Q
theorem pe_callB (hc:CallR X (.builtin id) r) (hg:Gl X x) (hm:X.mg x=none) (hv:bootBuiltins x=some (.builtin id)) (ha:PA X (e::es) t) (hn:x≠"__name__":=by decide) (hdb:(x == ("__debug__":Str))=false:=by decide)
  (he:starEach (e::es) X.env=(false,eval e X.env)::starEach es X.env:=by rfl) (hpl:(backTo pos (starEach es X.env)).any (·.1)=false:=by rfl):PE X (.Call (.Name x p) (e::es) [] pos) (tCB r t):=by
 intro pins s σ H Q I h
 refine wpAny_Call_Name_kw (ld_blt I hg hm hv ?_ hn hdb)
 exact PyProof.Rows.callWith_builtin1 (thn (ha pos pins s σ H _ I h) fun us s1 ⟨vs,H1,I1,r1,q1⟩=>hc pins s1 σ H1 vs us Q I1 r1 q1) he hpl
theorem pe_callTy (hc:CallR X (.type T) r) (hg:Gl X x) (hm:X.mg x=none) (hv:bootBuiltins x=some (.type T)) (ha:PA X (e::es) t) (hn:x≠"__name__":=by decide) (hdb:(x == ("__debug__":Str))=false:=by decide)
  (he:starEach (e::es) X.env=(false,eval e X.env)::starEach es X.env:=by rfl) (hpl:(backTo pos (starEach es X.env)).any (·.1)=false:=by rfl):PE X (.Call (.Name x p) (e::es) [] pos) (tCB r t):=by
 intro pins s σ H Q I h
 refine wpAny_Call_Name_kw (ld_blt I hg hm hv ?_ hn hdb)
 exact PyProof.Rows.callWith_type1 (thn (ha pos pins s σ H _ I h) fun us s1 ⟨vs,H1,I1,r1,q1⟩=>hc pins s1 σ H1 vs us Q I1 r1 q1) he hpl
end
end L2
namespace HT
open PySem PyProof.Rows
section
open PySem.SeqAt
open PySem.AutoSeq1 (wpAny_loadPart')
open PySem.MeetsSeq PySem.MeetsSeq2 PySem.MeetsSeq3
end
section
variable {prog:Program} {w:World} {A:Around} {E:Value→Shared→Prop} {s:Shared}
theorem cat_tup {t b:Addr} {vs ws:List Value} {Q:Value→Shared→Prop} (ht:IsTup s.heap t vs.toArray) (hb:IsTup s.heap b ws.toArray) (hv:vs≠[])
  (h1:ws=[]→Q (.ref t) s) (h2:ws≠[]→Q (.ref s.heap.objs.size) { s with heap:=s.heap.push { cls:=.type "tuple",data:=.seq (vs++ws).toArray } })
  (hsz:vs.length+ws.length≤sizeLine):wpAny (model prog w) A (binaryOp .Add (.ref t) (.ref b)) Q E s:=by
 obtain ⟨⟨cls,dd,data,sl⟩,ho,hc,n,hd⟩:=id ht
 obtain ⟨⟨cls2,dd2,data2,sl2⟩,ho2,hc2,n2,hd2⟩:=id hb
 simp only at hc hd hc2 hd2
 subst hc hd hc2 hd2
 have e:vs.toArray++ws.toArray=(vs++ws).toArray:=by simp
 by_cases hw:ws=[]
 ·exact concat_meets ⟨_,ho,rfl⟩ ⟨_,ho2,rfl⟩ noFill_tuple_add seq_tuple_add PySem.F.slot_tuple_add PySem.F.entry_tuple_add (PySem.F.args_tuple_add_2 _ _)
   (tuple_addW1 t b vs.toArray ws.toArray n n2 dd dd2 sl sl2 (by simpa using hv) (by simp [hw])) ⟨ho,ho2,h1 hw⟩
 ·refine concat_meets ⟨_,ho,rfl⟩ ⟨_,ho2,rfl⟩ noFill_tuple_add seq_tuple_add PySem.F.slot_tuple_add PySem.F.entry_tuple_add (PySem.F.args_tuple_add_2 _ _)
   (tuple_addW2 t b vs.toArray ws.toArray n n2 dd dd2 sl sl2 (by simpa using hv) (by simpa using hw) (by rw [List.size_toArray,List.size_toArray];exact hsz)) ⟨ho,ho2,?_⟩
  rw [e]
  exact h2 hw
def sIx (n d:Nat):Option Int→Nat
 |none=>d
 |some v=>if v<0 then (v+(n:Int)).toNat else min v.toNat n
theorem sIx_none (n d:Nat):sIx n d none=d:=rfl
theorem sIx_nat (n d k:Nat):sIx n d (some (k:Int))=min k n:=by
 show (if (k:Int)<0 then ((k:Int)+(n:Int)).toNat else min (k:Int).toNat n)=min k n
 rw [if_neg (by omega),Int.toNat_natCast]
theorem sIx_le (n d:Nat) (hd:d≤n) (o:Option Int):sIx n d o≤n:=by
 cases o with
 |none=>exact hd
 |some v=>
  show (if v<0 then (v+(n:Int)).toNat else min v.toNat n)≤n
  by_cases hv:v<0
  ·rw [if_pos hv];omega
  ·rw [if_neg hv];exact Nat.min_le_right _ _
theorem clip_eq (v:Int) (n d:Nat):(if v<0 then max (v+(n:Int)) 0 else min v (n:Int))=((sIx n d (some v):Nat):Int):=by
 show (if v<0 then max (v+(n:Int)) 0 else min v (n:Int))=(((if v<0 then (v+(n:Int)).toNat else min v.toNat n):Nat):Int)
 by_cases hv:v<0
 ·simp only [if_pos hv];omega
 ·simp only [if_neg hv];omega
theorem adjust_gen (lo hi:Option Int) (n:Nat):Builtin.Slice.sliceAdjust lo hi 1 (n:Int)=(((sIx n 0 lo:Nat):Int),((sIx n n hi:Nat):Int)):=by
 have h1:¬ ((1:Int)<0):=by omega
 unfold Builtin.Slice.sliceAdjust
 simp only [h1,if_false]
 refine Prod.ext ?_ ?_
 ·cases lo with
  |none=>rfl
  |some v=>exact clip_eq v n 0
 ·cases hi with
  |none=>rfl
  |some v=>exact clip_eq v n n
theorem places_gen (i j:Nat):Builtin.Slice.slicePlaces (i:Int) (j:Int) 1=j - i:=by
 unfold Builtin.Slice.slicePlaces
 have h1:(1:Int) > 0:=by omega
 simp only [h1,if_true,Int.ediv_one]
 split <;> omega
theorem slicePart_ {v:Value} {o:Option Int} {Q:Option Int→Shared→Prop} (p:IsPart v o) (h:Q o s):wpAny (model prog w) A (Builtin.Slice.slicePartIndex v) Q E s:=by
 cases p with
 |none=>exact slicePart_none h
 |int i t=>exact slicePart_int h
theorem sliceApplied_gen {sl:Addr} {vl vu:Value} {lo hi:Option Int} {n:Nat} {Q:Int × Int × Nat→Shared→Prop} (hs:s.heap.IsSliceOf sl vl vu .none) (pl:IsPart vl lo) (pu:IsPart vu hi)
  (h:Q (((sIx n 0 lo:Nat):Int),1,sIx n n hi - sIx n 0 lo) s):wpAny (model prog w) A (Builtin.Slice.sliceApplied (.ref sl) (pure (n:Int))) Q E s:=by
 obtain ⟨os,hos,hcs,hds⟩:=id hs
 unfold Builtin.Slice.sliceApplied Builtin.Slice.sliceFields
 refine wpAny_bind (wpAny_bind (wpAny_field hos hds (x:=vl) rfl (wpAny_bind (wpAny_field hos hds (x:=vu) rfl (wpAny_bind (wpAny_field hos hds (x:=.none) rfl (wpAny_pure ?_)))))))
 refine wpAny_bind (slicePart_none ?_)
 show wpAny _ _ (if ((1:Int) == 0)=true then _ else _) _ _ s
 rw [if_neg (by decide)]
 refine wpAny_bind (slicePart_ pl (wpAny_bind (slicePart_ pu (wpAny_bind (wpAny_pure ?_)))))
 show wpAny _ _ (match Builtin.Slice.sliceAdjust lo hi 1 (n:Int) with|(lo,hi)=>pure (lo,(1:Int),Builtin.Slice.slicePlaces lo hi 1)) _ _ s
 rw [adjust_gen lo hi n]
 show wpAny _ _ (pure (((sIx n 0 lo:Nat):Int),(1:Int),Builtin.Slice.slicePlaces ((sIx n 0 lo:Nat):Int) ((sIx n n hi:Nat):Int) 1)) _ _ s
 rw [places_gen]
 exact wpAny_pure h
theorem pick_gen (xs:Array Value) (i k:Nat):((List.range k).filterMap fun (m:Nat)=>xs[((i:Int)+(m:Int) * 1).toNat]?).toArray=((xs.toList.drop i).take k).toArray:=by
 have e:(fun (m:Nat)=>xs[((i:Int)+(m:Int) * 1).toNat]?)=fun m=>xs[i+m]?:=by
  funext m
  have:((i:Int)+(m:Int) * 1).toNat=i+m:=by omega
  rw [this]
 rw [e]
 have:=pick_run xs i k
 rw [List.filterMap_map] at this
 have e2:((fun x=>xs[x]?) ∘ fun x=>i+x)=fun m=>xs[i+m]?:=rfl
 rw [e2] at this
 rw [this]
theorem getItem_tuple_cut {t sl:Addr} {items:Array Value} {vl vu:Value} {lo hi:Option Int} {Q:Value→Shared→Prop} (ht:IsTup s.heap t items) (hs:s.heap.IsSliceOf sl vl vu .none) (pl:IsPart vl lo) (pu:IsPart vu hi)
  (hw:¬ (sIx items.size 0 lo=0∧sIx items.size items.size hi=items.size))
  (h:Q (.ref s.heap.objs.size) { s with heap:=s.heap.push { cls:=.type "tuple",data:=.seq ((items.toList.drop (sIx items.size 0 lo)).take (sIx items.size items.size hi - sIx items.size 0 lo)).toArray } })
  (hsz:items.size≤sizeLine):wpAny (model prog w) A (getItem (.ref t) (.ref sl)) Q E s:=by
 have htake:sizeOk (.seq ((items.toList.drop (sIx items.size 0 lo)).take (sIx items.size items.size hi - sIx items.size 0 lo)).toArray):=by
  show ((items.toList.drop (sIx items.size 0 lo)).take (sIx items.size items.size hi - sIx items.size 0 lo)).toArray.size≤sizeLine
  rw [List.size_toArray,List.length_take,List.length_drop,Array.length_toList]
  omega
 have hj:sIx items.size items.size hi≤items.size:=sIx_le _ _ (Nat.le_refl _) hi
 obtain ⟨os,hos,hcs,hds⟩:=id hs
 have hTs:s.TypeIs (.ref sl) "slice":=⟨os,hos,hcs⟩
 unfold getItem
 try with_reducible refine wpAny_holding ?_
 first|refine wpAny_bind (wpAny_pure ?_)|skip
 refine wpAny_bind (wpAny_sequenceKey ht.typeIs (by decide) ?_)
 refine wpAny_bind (wpAny_callSpecial?_slot (name:=Str.ofString "__getitem__") ht.typeIs PyProof.Rows.slot_tuple_getitem
  (wpAny_call_entry PyProof.Rows.slot_tuple_getitem ht.typeIs entry_tuple_getitem ?_ (args_tuple_getitem _ _)))
 show wpAny _ _ (Builtin.Tuple.tupleItemsOf (.ref t) >>= _) _ _ s
 refine wpAny_bind (tupleItemsOf_ ht ?_)
 refine wpAny_bind (wpAny_typeOf hTs ?_)
 rw [if_pos (by decide)]
 refine wpAny_bind (sliceApplied_gen hs pl pu ?_)
 have hno:¬ ((((sIx items.size 0 lo:Nat):Int) == 0 && (1:Int) == 1 && (sIx items.size items.size hi - sIx items.size 0 lo) == items.size)=true):=by
  intro q
  rw [Bool.and_eq_true,Bool.and_eq_true] at q
  have q1:((sIx items.size 0 lo:Nat):Int)=0:=eq_of_beq q.1.1
  have q2:sIx items.size items.size hi - sIx items.size 0 lo=items.size:=eq_of_beq q.2
  exact hw ⟨by omega,by omega⟩
 show wpAny _ _ (if (((sIx items.size 0 lo:Nat):Int) == 0 && (1:Int) == 1 && (sIx items.size items.size hi - sIx items.size 0 lo) == items.size)=true then _ else _) _ _ s
 rw [if_neg hno,pick_gen]
 first
  |exact wpAny_bind (m:=Builtin.Tuple.tupleExact _) (wpAny_newObj_type (wpAny_pure ⟨_,rfl,wpAny_pure h⟩) htake)
  |exact wpAny_bind (m:=Builtin.Tuple.tupleExact _) (wpAny_newObj_type (wpAny_bind (wpAny_pure (wpAny_pure ⟨_,rfl,wpAny_pure h⟩))) htake)
  |exact wpAny_bind (wpAny_bind (m:=Builtin.Tuple.tupleExact _) (wpAny_newObj_type (wpAny_pure (wpAny_pure ⟨_,rfl,wpAny_pure h⟩)) htake))
  |exact wpAny_bind (wpAny_bind (m:=Builtin.Tuple.tupleExact _) (wpAny_newObj_type (wpAny_pure ⟨_,rfl,wpAny_pure h⟩) htake))
end
end HT
namespace L2
open PySem PySem.Spec PyProof.Rows
abbrev TO:=St→Hp→(Option Int→Hp→Prop)→Prop
def PO (X:Cx) (e:Option Expr) (t:TO):Prop:=
 ∀(pins:List (Addr × Obj)) (s:Shared) (σ:St) (H:Hp) (Q:Option Int→Hp→Prop),Inv X pins σ H s→t σ H Q →
  wpAny (model X.prog X.w) X.A (evalPart e X.env) (fun u s'=>∃o H',Inv X pins σ H' s'∧IsPart u o∧Q o H') X.xe s
def tNoPart:TO:=fun _ H Q=>Q none H
def tPart (t:TE):TO:=fun σ H Q=>t σ H fun x H1=>∃i,x=.int i∧Q (some i) H1
section
variable {X:Cx} {e:Expr} {te:TE} {lo hi:Option Expr} {tl th:TO} {pos p2:Pos}
theorem po_none:PO X none tNoPart:=by
 intro pins s σ H Q I h
 rw [evalPart_none]
 exact wpAny_pure ⟨none,H,I,.none,h⟩
theorem po_some (h:PE X e te):PO X (some e) (tPart te):=by
 intro pins s σ H Q I hw
 rw [evalPart_some]
 refine thn (h pins s σ H _ I hw) fun u s1 ⟨x,H1,I1,r1,q1⟩=>?_
 obtain ⟨i,rfl,q⟩:=q1
 obtain ⟨t,rfl⟩:=r1
 exact ⟨some i,H1,I1,.int i t,q⟩
def SlR (X:Cx) (r:V→Option Int→Option Int→Hp→VK→Prop):Prop:=
 ∀(pins:List (Addr × Obj)) (s:Shared) (σ:St) (H:Hp) (x:V) (v vl vu:Value) (lo hi:Option Int) (sl:Addr) (Q:VK),Inv X pins σ H s→RelV x v→s.heap.IsSliceOf sl vl vu .none→IsPart vl lo→IsPart vu hi→r x lo hi H Q →
  ∃T id,typeLookup (.type T) "__getitem__"=pure (some (.builtin id))∧s.TypeIs v T∧wpAny (model X.prog X.w) X.A (getItem v (.ref sl)) (EP X pins σ Q) X.xe s
def tSl (r:V→Option Int→Option Int→Hp→VK→Prop) (te:TE) (tl th:TO):TE:=fun σ H Q=>te σ H fun x H1=>tl σ H1 fun l H2=>th σ H2 fun u H3=>r x l u H3 Q
theorem pe_slice {r:V→Option Int→Option Int→Hp→VK→Prop} (hr:SlR X r) (he:PE X e te) (hl:PO X lo tl) (hu:PO X hi th):PE X (.Subscript e (.Slice lo hi none p2) pos) (tSl r te tl th):=by
 intro pins s σ H Q I h
 refine Subscript_ (thn (he pins s σ H _ I h) fun v s1 ⟨x,H1,I1,r1,q1⟩=>?_)
 refine wpAny_Slice (thn (hl pins s1 σ H1 _ I1 q1) fun vl s2 ⟨l,H2,I2,pl,q2⟩=>thn (hu pins s2 σ H2 _ I2 q2) fun vu s3 ⟨u,H3,I3,pu,q3⟩=>?_)
 rw [evalPart_none]
 refine wpAny_pure ?_
 have I4:Inv X pins σ H3 { s3 with heap:=s3.heap.push { cls:=.type "slice",data:=.fields #[vl,vu,.none] } }:=I3.kept (t':=s3.toks) fun b ob q=>Heap.get?_push_of_some _ q
 obtain ⟨T,id,hT,ht,hg⟩:=hr pins { s3 with heap:=s3.heap.push { cls:=.type "slice",data:=.fields #[vl,vu,.none] } } σ H3 x v vl vu l u s3.heap.objs.size Q I4 r1 (Heap.IsSliceOf.new ..) pl pu q3
 show wpAny (model X.prog X.w) X.A (subscriptTail e (.Slice lo hi none p2) v (.ref s3.heap.objs.size)) (EP X pins σ Q) X.xe { s3 with heap:=s3.heap.push { cls:=.type "slice",data:=.fields #[vl,vu,.none] } }
 exact tail_any (ops:=[.ref s3.heap.objs.size,v]) ht hT hg (by with_unfolding_all rfl)
def cutV (xs:List V) (lo hi:Option Int):List V:=(xs.drop (HT.sIx xs.length 0 lo)).take (HT.sIx xs.length xs.length hi - HT.sIx xs.length 0 lo)
theorem cutV_length (xs:List V) (lo hi:Option Int):(cutV xs lo hi).length≤xs.length:=by
 unfold cutV
 rw [List.length_take,List.length_drop]
 omega
def rSlT (K:PySem.W.Frag):V→Option Int→Option Int→Hp→VK→Prop:=fun x lo hi H Q=>∃a xs,x=.ref a∧SqT K H a xs ∧
 ¬ (HT.sIx xs.length 0 lo=0∧HT.sIx xs.length xs.length hi=xs.length)∧∀p,H p=none→Q (.ref p) (upd H p (.tup (cutV xs lo hi)))
theorem sl_tup:SlR X (rSlT X.K):=by
 intro pins s σ H x v vl vu lo hi sl Q I rx hs pl pu h
 obtain ⟨a,xs,rfl,hx,hw,q⟩:=h
 cases rx
 obtain ⟨its,r,ht,hz⟩:=I.tuple hx
 have hlen:its.toArray.size=xs.length:=by rw [List.size_toArray];exact r.length.symm
 refine ⟨"tuple",_,PyProof.Rows.slot_tuple_getitem.lookup,ht.typeIs,?_⟩
 refine HT.getItem_tuple_cut ht hs pl pu (by rw [hlen];exact hw) ?_ (by rw [hlen];exact hz)
 rw [hlen]
 refine ⟨.ref s.heap.objs.size,_,I.laid (t':=s.toks) (o:=.tup (cutV xs lo hi)) (fun b ob q=>Heap.get?_push_of_some _ q) (Nat.le_refl _) ?_,rfl,q _ (I.hok.fresh (Nat.le_refl _))⟩
 exact ⟨Nat.le_trans (cutV_length xs lo hi) hz,_,(r.drop (HT.sIx xs.length 0 lo)).take (HT.sIx xs.length xs.length hi - HT.sIx xs.length 0 lo),tL.new _ _⟩
def rCatT (K:PySem.W.Frag):R2:=fun x y H Q=>∃a b xs ys,x=.ref a∧y=.ref b∧SqT K H a xs∧SqT K H b ys∧xs≠[]∧xs.length+ys.length≤sizeLine ∧
 (ys=[]→Q (.ref a) H)∧(ys≠[]→∀p,H p=none→Q (.ref p) (upd H p (.tup (xs++ys))))
theorem Vals.nil_iff {xs:List V} {us:List Value} (r:Vals xs us):us=[]↔xs=[]:=by
 cases r with
 |nil=>simp
 |cons _ _=>simp
theorem op_catT:OpR X (binaryOp .Add) (rCatT X.K):=by
 intro pins s σ H x y v u Q I rx ry h
 obtain ⟨a,b,xs,ys,rfl,rfl,ha,hb,hx,hz,q1,q2⟩:=h
 cases rx
 cases ry
 obtain ⟨its,r1,p1,_⟩:=I.tuple ha
 obtain ⟨its2,r2,p2,_⟩:=I.tuple hb
 refine HT.cat_tup p1 p2 (fun z=>hx (r1.nil_iff.mp z)) (fun z=>⟨.ref a,H,I,rfl,q1 (r2.nil_iff.mp z)⟩) (fun z=>?_) (by rw [←r1.length,←r2.length];exact hz)
 refine ⟨.ref s.heap.objs.size,_,I.laid (t':=s.toks) (o:=.tup (xs++ys)) (fun b ob q=>Heap.get?_push_of_some _ q) (Nat.le_refl _) ?_,rfl,q2 (fun w=>z (r2.nil_iff.mpr w)) _ (I.hok.fresh (Nat.le_refl _))⟩
 exact ⟨by rw [List.length_append];exact hz,_,r1.append r2,tL.new _ _⟩
end
def ixN (n:Nat) (i:Int):Option Nat:=if 0≤i then (if i<n then some i.toNat else none) else if -(n:Int)≤i then some (i+n).toNat else none
def atI {α:Type} (xs:List α) (i:Int):Option α:=(ixN xs.length i).bind fun j=>xs[j]?
theorem ixN_seq {n:Nat} {i:Int} {j:Nat} (h:ixN n i=some j):seqIndex? i n=some j∧j<n∧-(n:Int)≤i∧i<n:=by
 unfold ixN at h
 by_cases h0:0≤i
 ·rw [if_pos h0] at h
  by_cases h1:i<n
  ·rw [if_pos h1] at h
   have e:i.toNat=j:=Option.some.inj h
   exact ⟨by rw [seqIndex_of h0 h1,e],by omega,by omega,h1⟩
  ·rw [if_neg h1] at h;cases h
 ·rw [if_neg h0] at h
  by_cases h1:-(n:Int)≤i
  ·rw [if_pos h1] at h
   have e:(i+n).toNat=j:=Option.some.inj h
   exact ⟨by rw [seqIndex_neg (by omega) h1,e],by omega,h1,by omega⟩
  ·rw [if_neg h1] at h;cases h
theorem atI_get {α:Type} {xs:List α} {i:Int} {v:α} (h:atI xs i=some v):∃j,seqIndex? i xs.length=some j∧xs[j]?=some v∧j<xs.length∧-(xs.length:Int)≤i∧i<xs.length:=by
 unfold atI at h
 cases e:ixN xs.length i with
 |none=>rw [e] at h;cases h
 |some j=>
  rw [e] at h
  obtain ⟨h1,h2,h3,h4⟩:=ixN_seq e
  exact ⟨j,h1,h,h2,h3,h4⟩
theorem atI_nat {α:Type} {xs:List α} {j:Nat} {v:α} (h:xs[j]?=some v):atI xs (j:Int)=some v:=by
 have hj:j<xs.length:=(List.getElem?_eq_some_iff.mp h).1
 have e:ixN xs.length (j:Int)=some j:=by
  unfold ixN
  rw [if_pos (by omega),if_pos (by omega)];simp
 unfold atI;rw [e];exact h
def PlainIx (b:Expr):Prop:=∀o i,subscripted b false o i=operate [o,i] (getItem o i)
def IxR (X:Cx) (r:R2):Prop:=
 ∀(value slice:Expr) (pins:List (Addr × Obj)) (s:Shared) (σ:St) (H:Hp) (x y:V) (v u:Value) (Q:VK),Inv X pins σ H s→RelV x v→RelV y u→r x y H Q →
  subscripted slice false v u=operate [v,u] (getItem v u)→wpAny (model X.prog X.w) X.A (subscriptTail value slice v u) (EP X pins σ Q) X.xe s
def MtR (X:Cx) (id:String) (r:V→List V→Hp→VK→Prop):Prop:=
 ∀(pins:List (Addr × Obj)) (s:Shared) (σ:St) (H:Hp) (x:V) (xs:List V) (v:Value) (us:List Value) (Q:VK),Inv X pins σ H s→RelV x v→Vals xs us→r x xs H Q →
  wpAny (model X.prog X.w) X.A (call (.builtin id) (v::us)) (EP X pins σ Q) X.xe s
section
variable {X:Cx} {a b:Expr} {ta tb:TE} {pos:Pos}
theorem pe_ix {r:R2} (hr:IxR X r) (ha:PE X a ta) (hb:PE X b tb) (hs:PlainIx b):PE X (.Subscript a b pos) (tOp r ta tb):=by
 intro pins s σ H Q I h
 exact Subscript_ (binT ha hb I h fun v u s2 x y H2 I2 rx ry q=>hr a b pins s2 σ H2 x y v u Q I2 rx ry q (hs _ _))
def rIxL (K:PySem.W.Frag):R2:=fun x y H Q=>∃p xs i v,x=.ref p∧y=.int i∧SqL K H p xs∧atI xs i=some v∧Q v H
def rIxT (K:PySem.W.Frag):R2:=fun x y H Q=>∃p xs i v,x=.ref p∧y=.int i∧SqT K H p xs∧atI xs i=some v∧Q v H
theorem ix_list:IxR X (rIxL X.K):=by
 intro value slice pins s σ H x y v u Q I rx ry h hs
 obtain ⟨p,xs,i,z,rfl,rfl,hq,he,q⟩:=h
 cases rx
 obtain ⟨t,rfl⟩:=ry
 obtain ⟨its,r,pl,hz⟩:=I.list hq
 obtain ⟨j,h1,h2,h3,h4,h5⟩:=atI_get he
 obtain ⟨w,ew,rw'⟩:=r.get h2
 have hl:=r.length
 have hn:=line63
 have fin:EP X pins σ Q w s:=⟨z,H,I,rw',q⟩
 by_cases h0:0≤i
 ·have hj:i.toNat=j:=by
   rw [seqIndex_of h0 h5] at h1
   exact Option.some.inj h1
  exact item_listR pl.isList h0 (by omega) (by rw [hj];simpa using ew) fin hs
 ·have hj:(i+(its.toArray.size:Int)).toNat=j:=by
   rw [seqIndex_neg (by omega) h4] at h1
   rw [List.size_toArray,←hl]
   exact Option.some.inj h1
  exact subscriptTail_builtinR (x:=w) pl.isList.typeIs slot_list_getitem.lookup
   (wpAny_getItem_list_neg (Q:=fun r s'=>r=w∧EP X pins σ Q r s') pl.isList (by omega) (by rw [List.size_toArray] <;> omega) (by omega) (by rw [hj];simpa using ew) ⟨rfl,fin⟩) hs
theorem ix_tup:IxR X (rIxT X.K):=by
 intro value slice pins s σ H x y v u Q I rx ry h hs
 obtain ⟨p,xs,i,z,rfl,rfl,hq,he,q⟩:=h
 cases rx
 obtain ⟨t,rfl⟩:=ry
 obtain ⟨its,r,pl,hz⟩:=I.tuple hq
 obtain ⟨j,h1,h2,h3,h4,h5⟩:=atI_get he
 obtain ⟨w,ew,rw'⟩:=r.get h2
 have hl:=r.length
 have hn:=line63
 have fin:EP X pins σ Q w s:=⟨z,H,I,rw',q⟩
 exact subscriptTail_builtinR (x:=w) pl.typeIs slot_tuple_getitem.lookup
  (getItem_tuple (j:=j) (Q:=fun r s'=>r=w∧EP X pins σ Q r s') pl (by omega) (by omega) (by rw [List.size_toArray,←hl];exact h1) (by simpa using ew) ⟨rfl,fin⟩) hs
theorem mapSeq_set (its:List Value) (n j:Nat) (u:Value):Obj.mapSeq (·.setIfInBounds j u) { cls:=.type "list",data:=.seq its.toArray n }={ cls:=.type "list",data:=.seq (its.set j u).toArray n }:=by
 simp [Obj.mapSeq]
theorem Inv.lst {pins:List (Addr × Obj)} {σ:St} {H:Hp} {s:Shared} {p:Addr} {xs:List V} (I:Inv X pins σ H s) (h:H p=some (.lst xs)) :
  ∃(its:List Value) (n:Nat),Vals xs its∧s.heap.get? p=some { cls:=.type "list",data:=.seq its.toArray n }∧xs.length≤sizeLine:=by
 obtain ⟨z,its,n,r,e⟩:=I.hok p _ h
 exact ⟨its,n,r,e,z⟩
theorem Inv.lstUpd {pins:List (Addr × Obj)} {σ:St} {H:Hp} {s:Shared} {p:Addr} {xs ys:List V} {its its':List Value} {n n':Nat} {f:Obj→Obj} (I:Inv X pins σ H s) (h:H p=some (.lst xs))
  (ho:s.heap.get? p=some { cls:=.type "list",data:=.seq its.toArray n }) (hf:f { cls:=.type "list",data:=.seq its.toArray n }={ cls:=.type "list",data:=.seq its'.toArray n' }) (r:Vals ys its') (hz:ys.length≤sizeLine) (t:Nat) :
  Inv X pins σ (upd H p (.lst ys)) { s with heap:=s.heap.update p f,toks:=t }:=by
 have e:(s.heap.update p f).get? p=some { cls:=.type "list",data:=.seq its'.toArray n' }:=by
  rw [Heap.get?_update_self f ho (by rw [hf] <;> rfl),hf]
 refine I.write (x:=p) (e:=p) (by rw [h];trivial) (.inl rfl) (fun b u hb q=>(Heap.get?_update_other _ _ (Ne.symm hb)).trans q) ⟨_,e⟩ ?_
 exact ⟨hz,its',n',r,e⟩
def rSetL:V→V→V→Hp→(Hp→Prop)→Prop:=fun o i v H Q=>∃p xs k j,o=.ref p∧i=.int k∧H p=some (.lst xs)∧ixN xs.length k=some j∧Q (upd H p (.lst (xs.set j v)))
theorem set_list:PSet X rSetL:=by
 intro pins s σ H o i v ov iv u Q I ro ri rv h
 obtain ⟨p,xs,k,j,rfl,rfl,hp,hj,q⟩:=h
 cases ro
 obtain ⟨t,rfl⟩:=ri
 obtain ⟨its,n,r,ho,hz⟩:=I.lst hp
 obtain ⟨h1,h2,h3,h4⟩:=ixN_seq hj
 have hl:=r.length
 have hn:=line63
 have I':Inv X pins σ (upd H p (.lst (xs.set j v))) { s with heap:=s.heap.update p (Obj.mapSeq (·.setIfInBounds j u)) }:=
  I.lstUpd hp ho (mapSeq_set its n j u) (r.set rv j) (by rw [List.length_set];exact hz) s.toks
 by_cases h0:0≤k
 ·have hk:k.toNat=j:=by
   rw [seqIndex_of h0 h4] at h1
   exact Option.some.inj h1
  exact PySem.W.ki_setAt ho h0 (by omega) (by rw [List.size_toArray,←hl];exact h4) (by rw [hk];exact ⟨_,I',q⟩)
 ·have hk:(k+(its.toArray.size:Int)).toNat=j:=by
   rw [seqIndex_neg (by omega) h3] at h1
   rw [List.size_toArray,←hl]
   exact Option.some.inj h1
  exact PySem.W.ki_setBack ho (by omega) (by rw [List.size_toArray,←hl];exact h3) (by omega) (by rw [hk];exact ⟨_,I',q⟩)
theorem slice_bounds (lo hi:Option Int) (n:Nat):(sliceBounds lo hi none n).1=((HT.sIx n 0 lo:Nat):Int)∧(sliceBounds lo hi none n).2.1=((HT.sIx n n hi:Nat):Int)∧(sliceBounds lo hi none n).2.2=1:=by
 refine ⟨?_,?_,rfl⟩
 ·cases lo with
  |none=>simp [sliceBounds,HT.sIx]
  |some i=>
   simp only [sliceBounds,HT.sIx,Option.getD_none,show (1:Int) > 0 by decide,if_true]
   by_cases h:i<0
   ·simp only [h,if_true] <;> omega
   ·simp only [h,if_false] <;> omega
 ·cases hi with
  |none=>simp [sliceBounds,HT.sIx]
  |some i=>
   simp only [sliceBounds,HT.sIx,Option.getD_none,show (1:Int) > 0 by decide,if_true]
   by_cases h:i<0
   ·simp only [h,if_true] <;> omega
   ·simp only [h,if_false] <;> omega
theorem slicePick_cut (its:List Value) (lo hi:Option Int):slicePick its.toArray lo hi none=((its.drop (HT.sIx its.length 0 lo)).take (HT.sIx its.length its.length hi - HT.sIx its.length 0 lo)).toArray:=by
 obtain ⟨h1,h2,h3⟩:=slice_bounds lo hi its.toArray.size
 unfold slicePick
 rw [h1,h2,h3]
 simp only [sliceRange_one,pick_run,List.size_toArray] <;> rfl
def rSlL (K:PySem.W.Frag):V→Option Int→Option Int→Hp→VK→Prop:=fun x lo hi H Q=>∃a xs,x=.ref a∧SqL K H a xs∧∀p,H p=none→Q (.ref p) (upd H p (.lst (cutV xs lo hi)))
theorem sl_list:SlR X (rSlL X.K):=by
 intro pins s σ H x v vl vu lo hi sl Q I rx hs pl pu h
 obtain ⟨a,xs,rfl,hx,q⟩:=h
 cases rx
 obtain ⟨its,r,ht,hz⟩:=I.list hx
 have hlen:=r.length
 refine ⟨"list",_,slot_list_getitem.lookup,ht.isList.typeIs,?_⟩
 refine wpAny_getItem_list_slice ht.isList hs pl pu .none (by simp) ?_ (by rw [List.size_toArray] <;> omega)
 rw [slicePick_cut,←hlen]
 refine ⟨.ref s.heap.objs.size,_,I.laid (t':=s.toks) (o:=.lst (cutV xs lo hi)) (fun b ob q=>Heap.get?_push_of_some _ q) (Nat.le_refl _) ?_,rfl,q _ (I.hok.fresh (Nat.le_refl _))⟩
 exact ⟨Nat.le_trans (cutV_length xs lo hi) hz,_,0,(r.drop (HT.sIx xs.length 0 lo)).take (HT.sIx xs.length xs.length hi - HT.sIx xs.length 0 lo),Heap.get?_push_size _ rfl⟩
def flatV:V→Bool
 |.non=>true
 |.bl _=>true
 |.int _=>true
 |.str _=>true
 |_=>false
def eqV:V→V→Bool
 |.non,.non=>true
 |.bl a,.bl b=>a == b
 |.bl a,.int b=>(if a then 1 else 0) == b
 |.int a,.bl b=>a == (if b then 1 else 0)
 |.int a,.int b=>a == b
 |.str a,.str b=>a == b
 |_,_=>false
theorem eqAt_V {A:Around} {s:Shared} {y x:V} {u v:Value} (ry:RelV y u) (rx:RelV x v) (fy:flatV y=true) (fx:flatV x=true):SeqAt.EqAt A s u v (eqV y x):=by
 cases y with
 |non=>
  cases ry
  cases x with
  |non=>cases rx;exact SeqAt.EqAt.same _
  |bl b=>cases rx;exact SeqAt.EqAt.none_bool b
  |int b=>obtain ⟨t,rfl⟩:=rx;exact SeqAt.EqAt.none_int b t
  |str b=>obtain ⟨t,rfl⟩:=rx;exact SeqAt.EqAt.none_str b t
  |_=>exact absurd (show false=true from fx) Bool.false_ne_true
 |bl a=>
  cases ry
  cases x with
  |non=>cases rx;exact SeqAt.EqAt.bool_none a
  |bl b=>cases rx;exact SeqAt.EqAt.bool_bool a b
  |int b=>obtain ⟨t,rfl⟩:=rx;exact SeqAt.EqAt.bool_int a b t
  |str b=>obtain ⟨t,rfl⟩:=rx;exact SeqAt.EqAt.bool_str a b t
  |_=>exact absurd (show false=true from fx) Bool.false_ne_true
 |int a=>
  obtain ⟨t',rfl⟩:=ry
  cases x with
  |non=>cases rx;exact SeqAt.EqAt.int_none a t'
  |bl b=>cases rx;exact SeqAt.EqAt.int_bool a t' b
  |int b=>obtain ⟨t,rfl⟩:=rx;exact SeqAt.EqAt.int_int a t' b t
  |str b=>obtain ⟨t,rfl⟩:=rx;exact SeqAt.EqAt.int_str a t' b t
  |_=>exact absurd (show false=true from fx) Bool.false_ne_true
 |str a=>
  obtain ⟨t',rfl⟩:=ry
  cases x with
  |non=>cases rx;exact SeqAt.EqAt.str_none a t'
  |bl b=>cases rx;exact SeqAt.EqAt.str_bool a t' b
  |int b=>obtain ⟨t,rfl⟩:=rx;exact SeqAt.EqAt.str_int a t' b t
  |str b=>obtain ⟨t,rfl⟩:=rx;exact SeqAt.EqAt.str_str a t' b t
  |_=>exact absurd (show false=true from fx) Bool.false_ne_true
 |_=>exact absurd (show false=true from fy) Bool.false_ne_true
def eqU (x:V) (u:Value):Bool:=match u with
 |.none=>eqV .non x
 |.bool b=>eqV (.bl b) x
 |.int i _=>eqV (.int i) x
 |.str z _=>eqV (.str z) x
 |_=>false
theorem eqU_of {x y:V} {u:Value} (r:RelV y u) (f:flatV y=true):eqU x u=eqV y x:=by
 cases y with
 |non=>cases r;rfl
 |bl b=>cases r;rfl
 |int i=>obtain ⟨t,rfl⟩:=r;rfl
 |str z=>obtain ⟨t,rfl⟩:=r;rfl
 |_=>exact absurd (show false=true from f) Bool.false_ne_true
theorem any_eqU {x:V}:∀{xs:List V} {us:List Value},Vals xs us→xs.all flatV=true→us.any (eqU x)=xs.any fun y=>eqV y x
 |_,_,.nil,_=>rfl
 |y::xs,u::us,.cons r t,f=>by
  rw [List.all_cons,Bool.and_eq_true] at f
  rw [List.any_cons,List.any_cons,eqU_of r f.1,any_eqU t f.2]
theorem mem_eqAt {A:Around} {s:Shared} {x:V} {v:Value} (rx:RelV x v) (fx:flatV x=true):∀{xs:List V} {us:List Value},Vals xs us→xs.all flatV=true→∀u∈us,SeqAt.EqAt A s u v (eqU x u)
 |_,_,.nil,_=>fun u hu=>by cases hu
 |y::xs,u::us,.cons r t,f=>fun u' hu=>by
  rw [List.all_cons,Bool.and_eq_true] at f
  rcases List.mem_cons.mp hu with rfl|hu
  ·rw [eqU_of r f.1];exact eqAt_V r rx f.1 fx
  ·exact mem_eqAt rx fx t f.2 u' hu
def inV (x:V) (xs:List V):Bool:=xs.any fun y=>eqV y x
def rIn (K:PySem.W.Frag) (neg:Bool):R2:=fun x y H Q=>∃p xs,y=.ref p∧(SqL K H p xs∨SqT K H p xs)∧flatV x=true∧xs.all flatV=true∧Q (.bl (if neg then !inV x xs else inV x xs)) H
theorem op_in_seq:OpR X (compareOp .In) (rIn X.K false):=by
 intro pins s σ H x y v u Q I rx ry h
 obtain ⟨p,xs,rfl,hq,fx,fs,q⟩:=h
 cases ry
 rcases hq with hq|hq
 ·obtain ⟨its,r,pl,hz⟩:=I.list hq
  refine SeqAt.in_listAt (eqU x) pl.isList (fun w hw=>mem_eqAt rx fx r fs w (by simpa using hw)) ⟨.bl _,H,I,rfl,?_⟩
  rw [show its.toArray.any (eqU x)=its.any (eqU x) by simp,any_eqU r fs]
  exact q
 ·obtain ⟨its,r,pl,hz⟩:=I.tuple hq
  refine SeqAt.in_tupleAt (eqU x) pl (fun w hw=>mem_eqAt rx fx r fs w (by simpa using hw)) ⟨.bl _,H,I,rfl,?_⟩
  rw [show its.toArray.any (eqU x)=its.any (eqU x) by simp,any_eqU r fs]
  exact q
theorem op_notIn_seq:OpR X (compareOp .NotIn) (rIn X.K true):=by
 intro pins s σ H x y v u Q I rx ry h
 obtain ⟨p,xs,rfl,hq,fx,fs,q⟩:=h
 cases ry
 rcases hq with hq|hq
 ·obtain ⟨its,r,pl,hz⟩:=I.list hq
  refine SeqAt.notIn_listAt (eqU x) pl.isList (fun w hw=>mem_eqAt rx fx r fs w (by simpa using hw)) ⟨.bl _,H,I,rfl,?_⟩
  rw [show its.toArray.any (eqU x)=its.any (eqU x) by simp,any_eqU r fs]
  exact q
 ·obtain ⟨its,r,pl,hz⟩:=I.tuple hq
  refine SeqAt.notIn_tupleAt (eqU x) pl (fun w hw=>mem_eqAt rx fx r fs w (by simpa using hw)) ⟨.bl _,H,I,rfl,?_⟩
  rw [show its.toArray.any (eqU x)=its.any (eqU x) by simp,any_eqU r fs]
  exact q
theorem call_len_seq:CallR X (.builtin "len") (fun xs H Q=>∃p ys,xs=[.ref p]∧(SqL X.K H p ys∨SqT X.K H p ys)∧Q (.int ys.length) H):=by
 intro pins s σ H xs us Q I r h
 obtain ⟨p,ys,rfl,hq,q⟩:=h
 obtain ⟨u,rfl,rx⟩:=vals1 r
 cases rx
 have hn:=line63
 rcases hq with hq|hq
 ·obtain ⟨its,r',pl,hz⟩:=I.list hq
  have hlen:=r'.length
  exact Calls.call_len_list pl.isList (by simp only [List.size_toArray] <;> omega) ⟨.int ys.length,H,I.tok _,⟨s.toks+1,by rw [List.size_toArray,hlen]⟩,q⟩
 ·obtain ⟨its,r',pl,hz⟩:=I.tuple hq
  have hlen:=r'.length
  exact len_tuple pl (by simp only [List.size_toArray] <;> omega) ⟨.int ys.length,H,I.tok _,⟨s.toks+1,by rw [List.size_toArray,hlen]⟩,q⟩
theorem call_len_str:CallR X (.builtin "len") (fun xs H Q=>∃z,xs=[.str z]∧z.length≤sizeLine∧Q (.int z.length) H):=by
 intro pins s σ H xs us Q I r h
 obtain ⟨z,rfl,hz,q⟩:=h
 obtain ⟨u,rfl,t,rfl⟩:=vals1 r
 have hn:=line63
 exact len_str (by omega) ⟨.int z.length,H,I.tok _,⟨_,rfl⟩,q⟩
theorem CallR.or {f:Value} {r r':List V→Hp→VK→Prop} (h:CallR X f r) (h':CallR X f r'):CallR X f (fun xs H Q=>r xs H Q∨r' xs H Q):=by
 intro pins s σ H xs us Q I rs q
 rcases q with q|q
 ·exact h pins s σ H xs us Q I rs q
 ·exact h' pins s σ H xs us Q I rs q
theorem call_list_of:CallR X (.type "list") (fun xs H Q=>∃p ys,xs=[.ref p]∧(SqL X.K H p ys∨SqT X.K H p ys)∧∀l,H l=none→Q (.ref l) (upd H l (.lst ys))):=by
 intro pins s σ H xs us Q I r h
 obtain ⟨p,ys,rfl,hq,q⟩:=h
 obtain ⟨u,rfl,rx⟩:=vals1 r
 cases rx
 have fin:∀(its:List Value),Vals ys its→ys.length≤sizeLine→∀(h':Heap) (c':Nat),(∀b o',s.heap.get? b=some o'→h'.get? b=some o') →
   h'.get? s.heap.objs.size=some { cls:=.type "list",dict:=none,data:=.seq its.toArray c',slots:=#[] }→EP X pins σ Q (.ref s.heap.objs.size) { s with heap:=h' }:=fun its r' hz h' c' kp e=>
  ⟨.ref s.heap.objs.size,_,I.laid (t':=s.toks) kp (Nat.le_refl _) (show ObjOk X.prog X.w _ h' _ (.lst ys) from ⟨hz,its,c',r',e⟩),rfl,q _ (I.hok.fresh (Nat.le_refl _))⟩
 rcases hq with hq|hq
 ·obtain ⟨its,r',pl,hz⟩:=I.list hq
  have hlen:=r'.length
  obtain ⟨o,ho,hc,n,hd⟩:=pl.isList
  exact call_list_seq p (.inl rfl) ho hc hd (fun h' c' kp e=>fin its r' hz h' c' kp e) (by simp only [List.size_toArray] <;> omega)
 ·obtain ⟨its,r',pl,hz⟩:=I.tuple hq
  have hlen:=r'.length
  obtain ⟨o,ho,hc,n,hd⟩:=pl
  exact call_list_seq p (.inr rfl) ho hc hd (fun h' c' kp e=>fin its r' hz h' c' kp e) (by simp only [List.size_toArray] <;> omega)
theorem call_tuple_of:CallR X (.type "tuple") (fun xs H Q=>∃p ys,xs=[.ref p]∧((SqL X.K H p ys∧∀l,H l=none→Q (.ref l) (upd H l (.tup ys)))∨(SqT X.K H p ys∧Q (.ref p) H))):=by
 intro pins s σ H xs us Q I r h
 obtain ⟨p,ys,rfl,h⟩:=h
 obtain ⟨u,rfl,rx⟩:=vals1 r
 cases rx
 rcases h with ⟨hq,q⟩|⟨hq,q⟩
 ·obtain ⟨its,r',pl,hz⟩:=I.list hq
  have hlen:=r'.length
  refine call_tuple_list pl.isList (fun h' kp=>?_) (by simp only [List.size_toArray] <;> omega)
  have I1:Inv X pins σ H { s with heap:=h' }:=I.kept (t':=s.toks) kp
  have I2:Inv X pins σ (upd H h'.objs.size (.tup ys)) { s with heap:=h'.push { cls:=.type "tuple",data:=.seq its.toArray } }:=
   I1.laid (t':=s.toks) (fun b o e=>Heap.get?_push_of_some _ e) (Nat.le_refl _) (show ObjOk X.prog X.w _ _ _ (.tup ys) from ⟨hz,its,r',tL.new _ _⟩)
  exact ⟨.ref h'.objs.size,_,I2,rfl,q _ (I1.hok.fresh (Nat.le_refl _))⟩
 ·obtain ⟨its,r',pl,hz⟩:=I.tuple hq
  exact call_tuple_same pl ⟨.ref p,H,I,rfl,q⟩
def tyV (K:PySem.W.Frag) (T:String) (x:V) (H:Hp):Prop:=match x with
 |.str _=>T = "str"
 |.int _=>T = "int"
 |.ref p=>(T = "list"∧∃xs,SqL K H p xs)∨(T = "tuple"∧∃o,K.lookup p=some o∧o.cls=.type "tuple"∧o.dict=none) ∨
   (T = "dict"∧((∃kvs,H p=some (.dK kvs))∨∃kvs,H p=some (.dT kvs)))∨(T = "set"∧∃S n,H p=some (.set S n))
 |_=>False
theorem tyV_is {pins:List (Addr × Obj)} {σ:St} {H:Hp} {s:Shared} {T:String} {x:V} {v:Value} (I:Inv X pins σ H s) (r:RelV x v) (ty:tyV X.K T x H) :
  s.TypeIs v T∧∀a,v=.ref a→∃ob,s.heap.get? a=some ob∧ob.dict=none:=by
 cases x with
 |str z=>
  obtain ⟨t,rfl⟩:=r
  cases (show T = "str" from ty)
  exact ⟨typeIs_str s z t,fun _ e=>nomatch e⟩
 |int i=>
  obtain ⟨t,rfl⟩:=r
  cases (show T = "int" from ty)
  exact ⟨typeIs_int s i t,fun _ e=>nomatch e⟩
 |ref p=>
  cases r
  rcases ty with ⟨rfl,xs,hq⟩|⟨rfl,o,hk,hc,hd⟩|⟨rfl,hk⟩|⟨rfl,S,n,hk⟩
  ·obtain ⟨its,_,pl,_⟩:=I.list hq
   refine ⟨pl.isList.typeIs,fun a e=>?_⟩
   cases e
   obtain ⟨o,n,e,c,hd,_⟩:=pl
   exact ⟨o,e,hd⟩
  ·refine ⟨⟨o,I.kIn p o hk,hc⟩,fun a e=>?_⟩
   cases e
   exact ⟨o,I.kIn _ o hk,hd⟩
  ·have z:∃o,s.heap.get? p=some o∧o.ExactDict:=by
    rcases hk with ⟨kvs,hk⟩|⟨kvs,hk⟩
    ·obtain ⟨_,_,_,_,o,_,_,e,ex,_⟩:=I.hok p _ hk
     exact ⟨o,e,ex⟩
    ·obtain ⟨_,_,_,_,o,_,_,e,ex,_⟩:=I.hok p _ hk
     exact ⟨o,e,ex⟩
   obtain ⟨o,e,ex⟩:=z
   refine ⟨⟨o,e,ex.1⟩,fun a e2=>?_⟩
   cases e2
   exact ⟨o,e,ex.2.1⟩
  ·obtain ⟨o,_,_,_,e,ex,_⟩:=I.hok p _ hk
   refine ⟨⟨o,e,ex.1⟩,fun a e2=>?_⟩
   cases e2
   exact ⟨o,e,ex.2.1⟩
 |_=>exact False.elim ty
def tBM0 (K:PySem.W.Frag) (T:String) (r:V→List V→Hp→VK→Prop) (to:TE):TE:=fun σ H Q=>to σ H fun x H1=>tyV K T x H1∧r x [] H1 Q
def tBM (K:PySem.W.Frag) (T:String) (r:V→List V→Hp→VK→Prop) (to:TE) (t:TA):TE:=fun σ H Q=>to σ H fun x H1=>tyV K T x H1∧t σ H1 fun xs H2=>r x xs H2 Q
variable {o e:Expr} {es:List Expr} {to:TE} {t:TA} {name:Str} {apos cpos:Pos} {T id:String} {r:V→List V→Hp→VK→Prop}
theorem pe_bm0 (pa:PlainAttrs T) (slot:Slot T name id) (hty:typeOf (.builtin id)=pure (.type "method_descriptor")) (hm:MtR X id r) (ho:PE X o to)
  (hbase:attributeBase o name X.env (eval o X.env)=eval o X.env:=by rfl) (hline:(apos.endLine == cpos.line)=true:=by rfl):PE X (.Call (.Attribute o name apos) [] [] cpos) (tBM0 X.K T r to):=by
 intro pins s σ H Q I h
 refine wpAny_Call_method0_late hbase hline (thn (ho pins s σ H _ I h) fun v s1 ⟨x,H1,I1,r1,ty,q1⟩=>?_)
 obtain ⟨h1,h2⟩:=tyV_is I1 r1 ty
 exact ⟨T,id,pa,slot,hty,h1,h2,Calls.callWith_builtin rfl (PySem.evalArgs_none (hm pins s1 σ H1 x [] v [] Q I1 r1 .nil q1))⟩
theorem pe_bm (pa:PlainAttrs T) (slot:Slot T name id) (hty:typeOf (.builtin id)=pure (.type "method_descriptor")) (hm:MtR X id r) (ho:PE X o to) (ha:PA X (e::es) t)
  (hbase:attributeBase o name X.env (eval o X.env)=eval o X.env:=by rfl)
  (hfew:((backTo cpos (starEach (e::es) X.env)).all (fun x=>!x.1) && (backToKw cpos (keywordEach [] X.env)).all (fun x=>x.1.isSome)
   && decide ((e::es).length+([]:List Keyword).length+(if ([]:List Keyword).isEmpty then 0 else 1)<30))=true:=by rfl)
  (hline:(apos.endLine == cpos.line)=true:=by rfl) (hs:starEach (e::es) X.env=(false,eval e X.env)::starEach es X.env:=by rfl) (hplain:(backTo cpos (starEach es X.env)).any (·.1)=false:=by rfl) :
  PE X (.Call (.Attribute o name apos) (e::es) [] cpos) (tBM X.K T r to t):=by
 intro pins s σ H Q I h
 refine wpAny_Call_method_late hbase hfew hline rfl (thn (ho pins s σ H _ I h) fun v s1 ⟨x,H1,I1,r1,ty,q1⟩=>?_)
 obtain ⟨h1,h2⟩:=tyV_is I1 r1 ty
 refine ⟨T,id,pa,slot,hty,h1,h2,?_⟩
 have hA:=ha cpos pins s1 σ H1 _ I1 q1
 rw [hs] at hA ⊢
 refine Calls.callWith_builtin (by show (false || (backTo cpos (starEach es X.env)).any (·.1))=false;rw [hplain] <;> rfl) (Calls.evalArgs_plain ?_)
 exact thn hA fun us s2 ⟨vs,H2,I2,r2,q2⟩=>hm pins s2 σ H2 x vs v us Q I2 r1 r2 q2
end
def MtM (X:Cx) (id:String) (r:V→List V→Hp→VK→Prop):Prop:=
 ∀(pins:List (Addr × Obj)) (s:Shared) (σ:St) (H:Hp) (x:V) (xs:List V) (v:Value) (us:List Value) (Q:VK),Inv X pins σ H s→RelV x v→Vals xs us→r x xs H Q →
  wpAny (model X.prog X.w) X.A (call (.builtin id) (v::us)) (EP X pins σ Q) X.xe s
theorem Vals.one:∀{x:V} {us:List Value},Vals [x] us→∃u,us=[u]∧RelV x u
 |_,_,.cons r .nil=>⟨_,rfl,r⟩
theorem Vals.two:∀{x y:V} {us:List Value},Vals [x,y] us→∃u v,us=[u,v]∧RelV x u∧RelV y v
 |_,_,_,.cons r (.cons q .nil)=>⟨_,_,rfl,r,q⟩
theorem Vals.zero:∀{us:List Value},Vals [] us→us=[]
 |_,.nil=>rfl
theorem Vals.dropLast {xs:List V} {us:List Value} (h:Vals xs us):Vals xs.dropLast us.dropLast:=by
 induction h with
 |nil=>exact .nil
 |cons r t ih=>
  cases t with
  |nil=>exact .nil
  |cons q t'=>exact .cons r ih
theorem Vals.reverse {xs:List V} {us:List Value} (h:Vals xs us):Vals xs.reverse us.reverse:=by
 induction h with
 |nil=>exact .nil
 |cons r t ih=>rw [List.reverse_cons,List.reverse_cons];exact Vals.append ih (.cons r .nil)
theorem erase_last {α:Type} (l:List α):l.eraseIdx (l.length - 1)=l.dropLast:=by
 induction l with
 |nil=>rfl
 |cons a r ih=>
  cases r with
  |nil=>rfl
  |cons b r=>
   have e:(a::b::r).length - 1=((b::r).length - 1)+1:=by
    have h1:(a::b::r).length=r.length+2:=rfl
    have h2:(b::r).length=r.length+1:=rfl
    omega
   rw [e,List.eraseIdx_cons_succ,ih]
   all_goals rfl
section
variable {X:Cx} {pins:List (Addr × Obj)} {σ:St} {H:Hp} {s:Shared} {l b:Addr} {xs ys zs:List V}
theorem Inv.lset {its its':List Value} {n:Nat} {f:Array Value→Array Value} {t':Nat} (I:Inv X pins σ H s) (hH:H l=some (.lst xs))
  (e:s.heap.get? l=some { cls:=.type "list",data:=.seq its.toArray n }) (hf:f its.toArray=its'.toArray) (hv:Vals ys its') (hz:ys.length≤sizeLine) :
  Inv X pins σ (upd H l (.lst ys)) { s with heap:=s.heap.update l (Obj.mapSeq f),toks:=t' }:=by
 have q:=PySem.IsL.update e f
 rw [hf] at q
 refine I.write (x:=l) (e:=l) (by rw [hH];exact trivial) (.inl rfl) (fun b' u hb hu=>(Heap.get?_update_other s.heap (Obj.mapSeq f) (Ne.symm hb)).trans hu) ⟨_,q⟩ ?_
 exact ⟨hz,its',_,hv,q⟩
theorem Inv.lnew {its:List Value} {t':Nat} (I:Inv X pins σ H s) (hv:Vals ys its) (hz:ys.length≤sizeLine) :
  Inv X pins σ (upd H s.heap.objs.size (.lst ys)) { s with heap:=s.heap.push { cls:=.type "list",data:=.seq its.toArray },toks:=t' }:=
 I.laid (fun _ _ q=>Heap.get?_push_of_some _ q) (Nat.le_refl _) ⟨hz,its,0,hv,Heap.get?_push_size _ rfl⟩
theorem Inv.fresh (I:Inv X pins σ H s):H s.heap.objs.size=none:=I.hok.fresh (Nat.le_refl _)
theorem Inv.lstM (I:Inv X pins σ H s) (hH:H l=some (.lst xs)):xs.length≤sizeLine∧∃(its:List Value) (n:Nat),Vals xs its∧xs.length=its.length∧s.heap.get? l=some { cls:=.type "list",data:=.seq its.toArray n }:=by
 obtain ⟨z,its,n,r,e⟩:=I.hok l _ hH
 exact ⟨z,its,n,r,r.length,e⟩
theorem notLongL {n:Nat} (h:n≤sizeLine):Builtin.List.listTooLong n=false:=by
 unfold Builtin.List.listTooLong
 exact decide_eq_false (by omega)
end
section
variable {X:Cx}
def rAppend:V→List V→Hp→VK→Prop:=fun x vs H Q=>∃l xs y,x=.ref l∧vs=[y]∧H l=some (.lst xs)∧xs.length<sizeLine∧Q .non (upd H l (.lst (xs++[y])))
theorem mt_append:MtM X "list.append" rAppend:=by
 intro pins s σ H x vs v us Q I rx rv h
 obtain ⟨l,xs,y,rfl,rfl,hH,hz,q⟩:=h
 cases rx
 obtain ⟨u,rfl,ru⟩:=rv.one
 obtain ⟨z,its,n,r,hl,e⟩:=I.lstM hH
 refine call_meets F.slot_list_append ⟨_,e,rfl⟩ F.entry_list_append (F.args_list_append_2 _ _) (PySem.list_append l its.toArray n u (by rw [List.size_toArray];omega)) ⟨e,?_⟩
 refine ⟨.non,_,I.lset (its':=its++[u]) hH e (by simp) (r.append (.cons ru .nil)) ?_,rfl,q⟩
 rw [List.length_append,List.length_singleton]
 omega
def rExtend:V→List V→Hp→VK→Prop:=fun x vs H Q=>∃l b xs zs,x=.ref l∧vs=[.ref b]∧H l=some (.lst xs)∧H b=some (.lst zs)∧xs.length+zs.length≤sizeLine∧Q .non (upd H l (.lst (xs++zs)))
theorem mt_extend:MtM X "list.extend" rExtend:=by
 intro pins s σ H x vs v us Q I rx rv h
 obtain ⟨l,b,xs,zs,rfl,rfl,hH,hB,hz,q⟩:=h
 cases rx
 obtain ⟨u,rfl,ru⟩:=rv.one
 cases ru
 obtain ⟨z,its,n,r,hl,e⟩:=I.lstM hH
 obtain ⟨z2,its2,n2,r2,hl2,e2⟩:=I.lstM hB
 have hsz:its.toArray.size+its2.toArray.size≤sizeLine:=by rw [List.size_toArray,List.size_toArray];omega
 have hlong:¬ (!its.toArray.isEmpty && Builtin.List.listTooLong (its.toArray.size+its2.toArray.size))=true:=by
  rw [notLongL hsz,Bool.and_false]
  exact Bool.false_ne_true
 refine call_meets F.slot_list_extend ⟨_,e,rfl⟩ F.entry_list_extend (F.args_list_extend_2 _ _)
  (AutoSeq1.list_extend_list_list_0 l its.toArray n b its2.toArray n2 hlong (by rw [List.size_toArray];omega) (by omega)) ⟨e,e2,?_⟩
 refine ⟨.non,_,I.lset (its':=its++its2) hH e (by simp) (r.append r2) ?_,rfl,q⟩
 rw [List.length_append]
 omega
def rPop:V→List V→Hp→VK→Prop:=fun x vs H Q=>∃l xs y,x=.ref l∧vs=[]∧H l=some (.lst xs)∧xs[xs.length - 1]?=some y∧Q y (upd H l (.lst xs.dropLast))
theorem mt_pop:MtM X "list.pop" rPop:=by
 intro pins s σ H x vs v us Q I rx rv h
 obtain ⟨l,xs,y,rfl,rfl,hH,hy,q⟩:=h
 cases rx
 have hus:=rv.zero
 subst hus
 obtain ⟨z,its,n,r,hl,e⟩:=I.lstM hH
 obtain ⟨u,hu,ru⟩:=r.get hy
 have hy':its.toArray[its.toArray.size - 1]?=some u:=by
  show its.toArray[its.length - 1]?=some u
  rw [←Array.getElem?_toList,←hl]
  exact hu
 refine call_meets F.slot_list_pop ⟨_,e,rfl⟩ F.entry_list_pop (F.args_list_pop_1 _) (MeetsSeq.list_pop_last l its.toArray n u hy' (by rw [List.size_toArray];omega)) ⟨e,?_⟩
 refine ⟨y,_,I.lset (its':=its.dropLast) hH e ?_ r.dropLast ?_,ru,q⟩
 ·show its.toArray.eraseIdxIfInBounds (its.toArray.size - 1)=its.dropLast.toArray
  rw [List.size_toArray,List.eraseIdxIfInBounds_toArray,erase_last]
 ·rw [List.length_dropLast]
  omega
def rReverse:V→List V→Hp→VK→Prop:=fun x vs H Q=>∃l xs,x=.ref l∧vs=[]∧H l=some (.lst xs)∧Q .non (upd H l (.lst xs.reverse))
theorem mt_reverse:MtM X "list.reverse" rReverse:=by
 intro pins s σ H x vs v us Q I rx rv h
 obtain ⟨l,xs,rfl,rfl,hH,q⟩:=h
 cases rx
 have hus:=rv.zero
 subst hus
 obtain ⟨z,its,n,r,hl,e⟩:=I.lstM hH
 refine call_meets F.slot_list_reverse ⟨_,e,rfl⟩ F.entry_list_reverse (F.args_list_reverse_1 _) (AutoSeq1.list_reverse_list_0 l its.toArray n (by rw [List.size_toArray];omega)) ⟨e,?_⟩
 refine ⟨.non,_,I.lset (its':=its.reverse) hH e (by simp) r.reverse ?_,rfl,q⟩
 rw [List.length_reverse]
 omega
def rClear:V→List V→Hp→VK→Prop:=fun x vs H Q=>∃l xs,x=.ref l∧vs=[]∧H l=some (.lst xs)∧Q .non (upd H l (.lst []))
theorem mt_clear:MtM X "list.clear" rClear:=by
 intro pins s σ H x vs v us Q I rx rv h
 obtain ⟨l,xs,rfl,rfl,hH,q⟩:=h
 cases rx
 have hus:=rv.zero
 subst hus
 obtain ⟨z,its,n,r,hl,e⟩:=I.lstM hH
 refine call_meets F.slot_list_clear ⟨_,e,rfl⟩ F.entry_list_clear (F.args_list_clear_1 _) (AutoSeq1.list_clear_list_0 l its.toArray n (by rw [List.size_toArray];omega)) ⟨e,?_⟩
 exact ⟨.non,_,I.lset (its':=[]) (ys:=[]) hH e rfl .nil (Nat.zero_le _),rfl,q⟩
def rCat:R2:=fun x y H Q=>∃l b xs zs,x=.ref l∧y=.ref b∧H l=some (.lst xs)∧H b=some (.lst zs)∧xs.length+zs.length≤sizeLine∧∀p,H p=none→Q (.ref p) (upd H p (.lst (xs++zs)))
theorem op_cat:OpR X (binaryOp .Add) rCat:=by
 intro pins s σ H x y v u Q I rx ry h
 obtain ⟨l,b,xs,zs,rfl,rfl,hH,hB,hz,q⟩:=h
 cases rx
 cases ry
 obtain ⟨z,its,n,r,hl,e⟩:=I.lstM hH
 obtain ⟨z2,its2,n2,r2,hl2,e2⟩:=I.lstM hB
 refine PySem.P.add_list e e2 ?_ (by rw [List.size_toArray,List.size_toArray];omega)
 have ea:its.toArray++its2.toArray=(its++its2).toArray:=by simp
 rw [ea]
 exact ⟨.ref _,_,I.lnew (t':=s.toks) (r.append r2) (by rw [List.length_append];omega),rfl,q _ I.fresh⟩
end
section
variable {prog:Program} {w:World} {A:Around} {E:Value→Shared→Prop} {s:Shared}
end
section
variable {X:Cx}
end
end L2
namespace Att
open PySem PySem.W PySem.Calls PyProof.Rows
theorem ints_of_wellAll {P:Params} {h:Heap}:∀(ns:List Int) (vs:List Value),WellAll P h vs (ns.map WData.int)→IntsAre vs ns:=by
 intro ns
 induction ns with
 |nil=>
  intro vs w
  rw [List.map_nil] at w
  cases w
  exact .nil
 |cons n ns ih=>
  intro vs w
  rw [List.map_cons] at w
  cases w with
  |cons a b=>
   cases a
   exact .cons _ _ (ih _ b)
theorem script_of {l:OpenLaw} {n:Nat} (hn:l.most=some n) {P:Params} {h:Heap} {args:List WData} {vals:List Value}
  (hpre:l.row.toRowW.claim.pre args=true) (hwl:WellAll P h vals args) :
  ∃a vs ns,vals=[Value.ref a]∧args=[WData.list (ns.map WData.int)]∧h.get? a=some { cls:=.type "list",data:=.seq vs.toArray }∧IntsAre vs ns∧ns.length≤n:=by
 have hsh:WShape.hasAll [] args [.list .int]=true:=(pre_splitW hpre).1
 have hc:l.pre.holds [] { args:=args }=true:=(pre_splitW hpre).2
 obtain ⟨d,r,rfl,h1,h2⟩:=hasAllW_cons hsh
 obtain rfl:=hasAllW_nil h2
 obtain ⟨xs,rfl,h3⟩:=hasW_list h1
 obtain ⟨ns,rfl⟩:=items_int h3
 have hlen:ns.length≤n:=by
  unfold OpenLaw.pre at hc
  have h4:(WTm.not (.lt (.lit (.int (n:Int))) (.len (.arg 0)))).holds [] { args:=[.list (ns.map .int)] }=true:=by
   have h4:=(holds_andW hc).1
   rw [hn] at h4
   exact h4
  have h5:=condW_of h4 (w_not (w_lt w_lit (w_len_list (w_arg rfl))))
  rw [List.length_map] at h5
  refine Nat.le_of_not_lt fun q=>?_
  have q':(n:Int)<((ns.length:Nat):Int):=by omega
  first
   |(rw [decide_eq_true q'] at h5;exact absurd h5 (by decide))
   |(simp at h5;omega)
 cases hwl with
 |cons w1 w2=>
  cases w2
  cases w1 with
  |list ho hall=>exact ⟨_,_,ns,rfl,rfl,ho,ints_of_wellAll ns _ hall,hlen⟩
theorem post_true (l:OpenLaw) (args:List WData):l.row.toRowW.claim.post args (.bool true) args=true:=
 postW_of (r:=l.row.toRowW) (X:=(true == true))
  (show WShape.has [] (.bool true) .bool=true by first|rfl|decide|simp [WShape.has,WShape.arms,WShape.armsAll])
  (show (WTm.eq .res (.lit (.bool true))).value [] { args:=args,res:=some (.bool true),after:=args }=some (.bool (true == true)) from w_eq_bool (w_res rfl) w_lit) rfl
theorem attach_call {l:OpenLaw} {n:Nat} {q:Program} {loose:List Str} {XP:(Str→Option Value)→Heap→Prop} {YP:World→Heap→Prop} {d:DefRec}
  (hn:l.most=some n) (hdf:d.params.defaults=[])
  (call:∀(w:World) (s₀ s₁:Shared) (mg mb:Str→Option Value) (fa:Addr) (o:Obj) (pm cd doc:Value) (a:Addr) (vs:List Value) (ns:List Int),
   Ground q loose [] XP w s₀ mg mb s₁.heap→YP w s₁.heap →
   s₁.heap.get? fa=some o→o.data=.func (docDef d.name d.params d.body d.scope pm cd doc)→s₁.heap.CodeRec cd d.name→mg d.name=some (.ref fa) →
   s₁.heap.get? a=some { cls:=.type "list",data:=.seq vs.toArray }→IntsAre vs ns→ns.length≤n→s₁.gens=#[] →
   codeAny (model l.prog w) callerA (.call (.ref fa) ⟨[.ref a],[]⟩) (fun r s'=>r=.ok (.ret (.bool true))∧OldK s₁.heap s'.heap∧s'.os=s₁.os∧AllBare s'.gens) s₁) :
  WalkO q loose XP YP l.row.toRowW d [] (fun f vs=>PySem.call f vs):=by
 intro w s₀ s₁ mg mb G Y fa o pm cd doc dV kV ho hd hcd hD hmg hg args vals as hpre hlay hrd hwl hlo
 obtain rfl:dV=.none:=Dflts.none hD hdf
 obtain rfl:kV=.none:=Dflts.noKw hD
 obtain ⟨a,vs,ns,rfl,rfl,hobj,hints,hlen⟩:=script_of hn hpre hwl
 refine enter_call (codeAny_mono (call w s₀ s₁ mg mb fa o pm cd doc a vs ns G Y ho (fd_plain hd) hcd hmg hobj hints hlen hg) fun r s' hq=>?_)
 obtain ⟨rfl,h2,h3,h4⟩:=hq
 exact ⟨.inl ⟨.bool true,.bool true,[],rfl,fun _=>rfl,.bool true,post_true l _,fun _=>⟨List.Pairwise.nil,fun _ hm=>(nomatch hm)⟩⟩,h2,h3,h4⟩
section
variable {prog:Program} {w:World} {A:Around} {E:Value→Shared→Prop} {s:Shared} {K:Frag}
end
end Att
namespace L2
open PySem PySem.Spec PyProof.Rows
theorem vals_ints:∀{vs:List Value} {ns:List Int},IntsAre vs ns→Vals (ns.map V.int) vs
 |_,_,.nil=>.nil
 |_,_,.cons n t h=>.cons ⟨t,rfl⟩ (vals_ints h)
def Only (H:Hp):Prop:=∀b,H b=none∨∃o xs,H b=some (.frz o (.lst xs))
theorem law_call {P:Program} {w:World} {K:PySem.W.Frag} {mg mb:Str→Option Value} {CX:CXT} {k:Nat} {fa a:Addr} {fd:FuncData} {x:Str} {sp:Sp} {s₁:Shared} {vs:List Value} {ns:List Int}
  (KX:K.In s₁.heap) (hns:s₁.heap.Ns mainGlobals mg) (hb:s₁.heap.Ns builtinsNs mb) (hbb:∀x:Str,x≠"__name__"→mb x=bootBuiltins x) (hlim:s₁.heap.NoLimit) (hg:s₁.gens=#[])
  (ha:s₁.heap.get? a=some { cls:=.type "list",data:=.seq vs.toArray }) (hi:IntsAre vs ns) (hl:ns.length≤sizeLine) (hr:Room k callerA)
  (F:∀base:Heap,K.In base→base.Ns mainGlobals mg→FnOk P w K mg base CX k fa fd [x] sp) (hbind:∀(s:Shared) (u:Value),BindsTo s fd ⟨[u],[]⟩ [(x,u)])
  (hsp:∀H:Hp,Only H→SqL K H a (ns.map V.int)→sp [.ref a] H (fun v _=>v=.bl true) fun _ _ _=>False)
  (hCX:∀H e s',CX [] H s₁ (fun _ _ _=>False) e s'→False) :
  codeAny (model P w) callerA (.call (.ref fa) ⟨[.ref a],[]⟩) (fun r s'=>r=.ok (.ret (.bool true))∧OldK s₁.heap s'.heap∧s'.os=s₁.os∧AllBare s'.gens) s₁:=by
 have rv:=vals_ints hi
 have lenV:=hi.length
 have core:∀H:Hp,Only H→SqL K H a (ns.map V.int)→HOk P w H s₁.heap→(∀b,H b≠none→b=a)→(H a≠none→K.lookup a=none) →
   codeAny (model P w) callerA (.call (.ref fa) ⟨[.ref a],[]⟩) (fun r s'=>r=.ok (.ret (.bool true))∧OldK s₁.heap s'.heap∧s'.os=s₁.os∧AllBare s'.gens) s₁:=by
  intro H hO hS hok hA hK
  have base_of:∀{b:Addr} {o:Obj},s₁.heap.get? b=some o→H b=none→(hidT s₁.heap H).get? b=some o:=fun e n=>hidT_get e n
  have noA:∀{b:Addr} {o:Obj} {es:Array DictEntry} {ep:Nat},s₁.heap.get? b=some o→o.data=.dict es ep→H b=none:=fun {b o es ep} e d=>by
   cases q:H b with
   |none=>rfl
   |some u=>
    have e':b=a:=hA b (by rw [q];simp)
    subst e'
    rw [ha] at e;cases e
    have d':Data.seq vs.toArray _=Data.dict es ep:=d
    cases d'
  have nsK:∀{b:Addr} {m:Str→Option Value},s₁.heap.Ns b m→(hidT s₁.heap H).Ns b m:=fun {b m} ⟨o,es,ep,e,d,r⟩=>⟨o,es,ep,base_of e (noA e d),d,r⟩
  have hKb:K.In (hidT s₁.heap H):=fun b o e=>base_of (KX b o e) (by
   cases q:H b with
   |none=>rfl
   |some u=>
    have e':b=a:=hA b (by rw [q];simp)
    subst e'
    rw [hK (by rw [q];simp)] at e;cases e)
  have hM:Mod K mg (hidT s₁.heap H):=⟨hKb,nsK hns,⟨mb,nsK hb,hbb⟩,let ⟨mc,h1,h2⟩:=hlim;⟨mc,nsK h1,h2⟩⟩
  have e0:Env0 P w K mg (hidT s₁.heap H) callerA [] s₁ H:=⟨rfl,hM,fun b o e=>of_hidT e,Nat.le_of_eq (hidT_size _ _),trivial,fun b hb=>absurd (show b∈([]:List Addr) from hb) (by simp),hok,.of_eq hg⟩
  refine codeAny_mono ((F _ hKb (nsK hns)).run callerA [] s₁ H ⟨[.ref a],[]⟩ [.ref a] [.ref a] _ _ hr e0 (hbind s₁ (.ref a)) (.cons rfl .nil) (hsp H hO hS)) fun r s' h=>?_
  cases r with
  |error e=>exact (hCX H e s' h).elim
  |ok fl=>
   cases fl with
   |next=>exact False.elim h
   |brk=>exact False.elim h
   |cont=>exact False.elim h
   |ret u=>
    obtain ⟨v,H',os,bare,un,hok',r',q⟩:=h
    have q':v=.bl true:=q
    subst q'
    obtain rfl:u=Value.bool true:=r'
    refine ⟨rfl,OldK.of_keep fun b o e=>?_,os,bare⟩
    cases q:H b with
    |none=>exact un.keep b o e q (by intro z;exact absurd (show b∈([]:List Addr) from z) (by simp)) (by simp)
    |some u=>
     rcases hO b with z|⟨ob,xs,z⟩
     ·rw [q] at z;cases z
     ·have z2:=un.frzs b ob _ z
      obtain ⟨e1,_⟩:=hok b _ z
      obtain ⟨e2,_⟩:=hok' b _ z2
      rw [e] at e1;cases e1
      exact e2
 cases hk:K.lookup a with
 |some o=>
  have e:=KX a o hk
  rw [ha] at e
  cases e
  refine core (fun _=>none) (fun _=>.inl rfl) (.inr ⟨_,vs.toArray,_,hk,rfl,rfl,rfl,by rw [List.size_toArray,lenV];exact hl,by simpa using rv⟩) (fun b u z=>by have z':(none:Option HO)=some u:=z;cases z') (fun b z=>absurd rfl z) fun z=>absurd rfl z
 |none=>
  refine core (fun b=>if b=a then some (.frz { cls:=.type "list",data:=.seq vs.toArray } (.lst (ns.map V.int))) else none) (fun b=>?_) (.inl (.inr ⟨{ cls:=.type "list",data:=.seq vs.toArray },if_pos rfl⟩)) (fun b u z=>?_) (fun b z=>?_) fun _=>hk
  ·by_cases hb:b=a
   ·exact .inr ⟨_,_,if_pos hb⟩
   ·exact .inl (if_neg hb)
  ·by_cases hb:b=a
   ·have z':=(if_pos hb).symm.trans z
    cases z'
    subst hb
    exact ⟨ha,by rw [List.length_map];exact hl,vs,_,rv,ha⟩
   ·have z':=(if_neg hb).symm.trans z
    cases z'
  ·by_cases hb:b=a
   ·exact hb
   ·exact absurd (if_neg hb) z
abbrev KOf {K:PySem.W.Frag} {h:Heap} (_:K.In h):PySem.W.Frag:=K
theorem walk_of {l:PySem.W.OpenLaw} {n k:Nat} {q:Program} {loose:List Str} {XP:(Str→Option Value)→Heap→Prop} {YP:World→Heap→Prop} {d:DefRec} {K:Params→PySem.W.Frag} {CX:World→CXT} {sp:World→Sp} {x:Str}
  (hn:l.most=some n) (hn2:n≤sizeLine) (hdf:d.params.defaults=[]) (hr:Room k callerA)
  (hY:∀(w:World) (h:Heap),YP w h→(K w.params).In h)
  (F:∀(w:World) (mg:Str→Option Value) (fa:Addr) (h:Heap),(K w.params).In h→h.Ns mainGlobals mg→mg d.name=some (.ref fa) →
   ∃fd:FuncData,(∀(s:Shared) (u:Value),BindsTo s fd ⟨[u],[]⟩ [(x,u)]) ∧
    ∀base:Heap,(K w.params).In base→base.Ns mainGlobals mg→FnOk l.prog w (K w.params) mg base (CX w) k fa fd [x] (sp w))
  (hsp:∀(w:World) (H:Hp) (a:Addr) (ns:List Int),ns.length≤n→Only H→SqL (K w.params) H a (ns.map V.int)→sp w [.ref a] H (fun v _=>v=.bl true) fun _ _ _=>False)
  (hCX:∀(w:World) (H:Hp) (s:Shared) (e:Value) (s':Shared),CX w [] H s (fun _ _ _=>False) e s'→False) :
  PySem.W.WalkO q loose XP YP l.row.toRowW d [] (fun f vs=>PySem.call f vs):=by
 refine Att.attach_call hn hdf fun w s₀ s₁ mg mb fa o pm cd doc a vs ns G Y ho hd hcd hmg hobj hints hlen hg=>?_
 have KX:=hY w _ Y
 obtain ⟨fd,hb,hF⟩:=F w mg fa _ KX G.T.g hmg
 exact law_call KX G.T.g G.T.b G.T.builtins G.T.nolimit hg hobj hints (Nat.le_trans hlen hn2) hr hF hb (fun H hO hS=>hsp w H a ns hlen hO hS) fun H e s'=>hCX w H s₁ e s'
theorem walk_ofK {l:PySem.W.OpenLaw} {n k:Nat} {q:Program} {loose:List Str} {XP:(Str→Option Value)→Heap→Prop} {YP:World→Heap→Prop} {d:DefRec} {K:Params→PySem.W.Frag} {CX:CXT} {sp:PySem.W.Frag→Sp} {x:Str}
  (hn:l.most=some n) (hn2:n≤sizeLine) (hdf:d.params.defaults=[]) (hr:Room k callerA)
  (hY:∀(w:World) (h:Heap),YP w h→(K w.params).In h)
  (F:∀(w:World) (mg:Str→Option Value) (fa:Addr) (h:Heap),(K w.params).In h→h.Ns mainGlobals mg→mg d.name=some (.ref fa) →
   ∃fd:FuncData,(∀(s:Shared) (u:Value),BindsTo s fd ⟨[u],[]⟩ [(x,u)]) ∧
    ∀base:Heap,(K w.params).In base→base.Ns mainGlobals mg→FnOk l.prog w (K w.params) mg base CX k fa fd [x] (sp (K w.params)))
  (hsp:∀(K:PySem.W.Frag) (H:Hp) (a:Addr) (ns:List Int),ns.length≤n→Only H→SqL K H a (ns.map V.int)→sp K [.ref a] H (fun v _=>v=.bl true) fun _ _ _=>False)
  (hCX:∀(H:Hp) (s:Shared) (e:Value) (s':Shared),CX [] H s (fun _ _ _=>False) e s'→False) :
  PySem.W.WalkO q loose XP YP l.row.toRowW d [] (fun f vs=>PySem.call f vs):=
 walk_of (K:=K) (CX:=fun _=>CX) (sp:=fun w=>sp (K w.params)) hn hn2 hdf hr hY F (fun w H a ns h1 h2 h3=>hsp (K w.params) H a ns h1 h2 h3) fun _ H s e s'=>hCX H s e s'
def defArgs (s:Stmt):Arguments:=match s with
 |.FunctionDef _ a _ _ _ _ _ _ _ _=>a
 |_=>{ posonlyargs:=[],args:=[],vararg:=none,kwonlyargs:=[],kw_defaults:=[],kwarg:=none,defaults:=[] }
def defBody (s:Stmt):List Stmt:=match s with
 |.FunctionDef _ _ b _ _ _ _ _ _ _=>b
 |_=>[]
def defScope (s:Stmt):Scope:=match s with
 |.FunctionDef _ _ _ _ _ _ sc _ _ _=>sc
 |_=>{ kind:=.function,names:=[],isGenerator:=false,isCoroutine:=false }
abbrev CX0:CXT:=fun _ _ _ _ _ _=>False
abbrev E0:XK:=fun _ _ _=>False
theorem pass0 {X:Cx}:Passes CX0 X E0:=fun _ _ _ _ _ _ _ h=>h.elim
structure Fun (K:PySem.W.Frag) (x qual:Str) (st:Stmt) (f:Addr) (fd:FuncData):Prop where
 ex:∃(oc:Value) (od:Option Addr) (kV doc pm:Value) (an:Option Addr) (cdv ct:Value) (osl:Array (Option Value)),
  fd=PySem.W.fnOf x qual (defArgs st) (defBody st) (defScope st) .none kV doc pm an cdv ct∧K.lookup f=some ⟨oc,od,.func fd,osl⟩∧PySem.W.codeIn K cdv qual=true
 kp:PySem.W.keepIn K (.ref f)=true
section
variable {P:Program} {w:World} {K:PySem.W.Frag} {mg:Str→Option Value} {base:Heap}
theorem Fun.ok {x qual:Str} {st:Stmt} {f:Addr} {fd:FuncData} {N ps:List Str} {k:Nat} {sp:Sp} (F:Fun K x qual st f fd) (S:FnScope N ps (defScope st)) (len:∀vs H Q E,sp vs H Q E→vs.length=ps.length)
  (hbody:∀(cdv:Value) (A:Around) (outer:List Env) (s:Shared) (H:Hp) (vs:List V) (Q:VK) (E:XK),Room k (A.deeper (envOfC qual (defScope st) s.heap.objs.size f cdv))→sp vs H Q E →
   ∃t,PSs (cxOf CX0 P w K mg base N qual (defScope st) f cdv A outer s H E).nox (defBody st) t∧t { nx:=fun _ H'=>Q .non H',rt:=Q } (start N vs) H):FnOk P w K mg base CX0 (k+1) f fd ps sp:=by
 obtain ⟨oc,od,kV,doc,pm,an,cdv,ct,osl,rfl,lk,hcd⟩:=F.ex
 refine fn_of lk hcd S len fun A outer s H vs Q E hr hsp=>?_
 obtain ⟨t,h,q⟩:=hbody cdv A outer s H vs Q E hr hsp
 exact ⟨t,h.nox,q⟩
theorem Fun.binds {x qual:Str} {st:Stmt} {f:Addr} {fd:FuncData} {ps:List Str} (F:Fun K x qual st f fd)
  (h:∀(kV doc pm:Value) (an:Option Addr) (cdv ct:Value) (us:List Value),us.length=ps.length→bindArgs (PySem.W.fnOf x qual (defArgs st) (defBody st) (defScope st) .none kV doc pm an cdv ct) ⟨us,[]⟩=pure (ps.zip us)):Binds K fd ps []:=by
 obtain ⟨oc,od,kV,doc,pm,an,cdv,ct,osl,rfl,lk,hcd⟩:=F.ex
 exact .all (h kV doc pm an cdv ct)
theorem fun_mk {x qual:Str} {st:Stmt} {f:Addr} {oc:Value} {od an:Option Addr} {osl:Array (Option Value)} {kV doc pm cdv ct:Value} (l:K.lookup f=some ⟨oc,od,.func (PySem.W.fnOf x qual (defArgs st) (defBody st) (defScope st) .none kV doc pm an cdv ct),osl⟩)
  (c:PySem.W.codeIn K cdv qual=true) (k:PySem.W.keepIn K (.ref f)=true):Fun K x qual st f (PySem.W.fnOf x qual (defArgs st) (defBody st) (defScope st) .none kV doc pm an cdv ct):=⟨⟨oc,od,kV,doc,pm,an,cdv,ct,osl,rfl,l,c⟩,k⟩
end
theorem hu_of {A:Around} {k:Nat} (hr:Room k A):A.units+1<cLine:=Nat.lt_of_le_of_lt (Nat.add_le_add_left (by decide:1≤64) _) hr.units
theorem small1000 {n:Nat} (h:n≤1000):n<sizeLine:=Nat.lt_of_le_of_lt h (by decide)
section
variable {X:Cx}
theorem pv (i:Nat) {x:Str} {pos:Pos} (hN:X.N[i]?=some x:=by rfl) (hv:Vis X.env.scope x:=by trivial) (hd:(x == ("__debug__":Str))=false:=by decide)
  (hcd:(x == ("__classdict__":Str))=false:=by decide):PE X (.Name x pos) (tVar i):=pe_var hN hv hd hcd
end
theorem iteF {A B:Prop} (h:B):if false=true then A else B:=by
 rw [if_neg Bool.false_ne_true]
 exact h
theorem iteT {A B:Prop} (h:A):if true=true then A else B:=by
 rw [if_pos rfl]
 exact h
theorem ite2 {c A B:Prop} [Decidable c] (h1:c→A) (h2:¬ c→B):if c then A else B:=by
 by_cases h:c
 ·rw [if_pos h]
  exact h1 h
 ·rw [if_neg h]
  exact h2 h
def Same (H H':Hp):Prop:=∀b o,H b=some o→H' b=some o
theorem Same.refl (H:Hp):Same H H:=fun _ _ h=>h
theorem Same.trans {H H1 H2:Hp} (a:Same H H1) (b:Same H1 H2):Same H H2:=fun c o h=>b c o (a c o h)
theorem Same.free {H H':Hp} (e:Same H H') {l:Addr} (h:H' l=Option.none):H l=Option.none:=by
 cases q:H l with
 |none=>rfl
 |some o=>
  rw [e l o q] at h
  cases h
theorem Same.seq {K:PySem.W.Frag} {H H':Hp} {a:Addr} {xs:List V} (e:Same H H') (h:SqL K H a xs):SqL K H' a xs:=by
 rcases h with (h|⟨o,h⟩)|h
 ·exact .inl (.inl (e _ _ h))
 ·exact .inl (.inr ⟨o,e _ _ h⟩)
 ·exact .inr h
end L2
namespace PySem
namespace RvF
theorem slot_next:Slot "reversed" "__next__" "reversed.__next__":=
 .of (owner:="reversed") (n:="__next__") (by rw [typeLookup_type,builtinLookup_eq_fast];kernel_rfl) (by decide +kernel) (by decide +kernel) (by decide +kernel)
  (by first|exact .inl (by decide +kernel)|exact .inr (by decide +kernel)) (by rw [isSubtype_type];kernel_rfl)
theorem aAj:Slot "reversed" "__iter__" "reversed.__iter__":=
 .of (owner:="reversed") (n:="__iter__") (by rw [typeLookup_type,builtinLookup_eq_fast];kernel_rfl) (by decide +kernel) (by decide +kernel) (by decide +kernel)
  (by first|exact .inl (by decide +kernel)|exact .inr (by decide +kernel)) (by rw [isSubtype_type];kernel_rfl)
theorem aJn:Slot "reversed" "__init__" "object.__init__":=
 .of (owner:="object") (n:="__init__") (by rw [typeLookup_type,builtinLookup_eq_fast];kernel_rfl) (by decide +kernel) (by decide +kernel) (by decide +kernel)
  (by first|exact .inl (by decide +kernel)|exact .inr (by decide +kernel)) (by rw [isSubtype_type];kernel_rfl)
theorem entry_next:entryFor table "reversed.__next__"=some Builtin.«reversed.__next__»:=entryFor_of_tree (by kernel_rfl)
theorem aHh:entryFor table "reversed.__iter__"=some Builtin.«dict_keyiterator.__iter__»:=
 entryFor_alias (id':="dict_keyiterator.__iter__") (by kernel_rfl) (by first|rfl|decide +kernel|(unfold String.splitOn;simp +decide [String.splitOnAux])) (by decide +kernel) (by kernel_rfl)
theorem aKc:entryFor table "reversed.__new__"=some Builtin.«reversed.__new__»:=entryFor_of_tree (by kernel_rfl)
theorem owner:Manifest.owners.lookup (String.ofList ['d','e','s','r','e','v','e','r'].reverse)=some Manifest.sig_reversed:=by kernel_rfl
theorem uY (a:Value):argsOk "reversed.__next__" ⟨[a],[]⟩:=by
 unfold argsOk;rw [signature?_of (id:="reversed.__next__") (n:=['_','_','t','x','e','n','_','_']) (o:=['d','e','s','r','e','v','e','r']) (by kernel_rfl) owner];kernel_rfl
theorem aDk (a:Value):argsOk "reversed.__iter__" ⟨[a],[]⟩:=by
 unfold argsOk;rw [signature?_of (id:="reversed.__iter__") (n:=['_','_','r','e','t','i','_','_']) (o:=['d','e','s','r','e','v','e','r']) (by kernel_rfl) owner];kernel_rfl
theorem mro:mroOf (.type "reversed")=pure [.type "reversed",.type "object"]:=by rw [mroOf_type];kernel_rfl
theorem aHm:typeLookup (.type "reversed") "__new__"=pure (some (.builtin "reversed.__new__")):=by rw [typeLookup_type,builtinLookup_eq_fast];kernel_rfl
theorem sub_self:isSubtype (.type "reversed") (.type "reversed")=pure true:=by rw [isSubtype_type];kernel_rfl
theorem called:TypeCalled "reversed" "reversed.__new__" "object.__init__":=
 ⟨by decide +kernel,by decide +kernel,⟨_,_,mro⟩,madeBy_type mro aHm (by decide +kernel),by decide +kernel,sub_self,aJn⟩
theorem aGm (a:Value):checkTypeCall "reversed" ⟨[a],[]⟩=pure ():=by kernel_rfl
theorem aJy (a:Value):checkBuiltinCall "reversed.__new__" ⟨[.type "reversed",a],[]⟩=pure ():=by kernel_rfl
end RvF
theorem aF5 (a:Value):Builtin.SmallTypes.newClass "reversed" ⟨[.type "reversed",a],[]⟩=pure (.type "reversed",[a]):=by
 unfold Builtin.SmallTypes.newClass
 simp only [isType,RvF.sub_self,pure_bind,Bool.not_true,Bool.false_eq_true,if_false]
section
variable {prog:Program} {w:World} {A:Around} {E:Value→Shared→Prop} {s:Shared}
end
end PySem
namespace L2
open PySem PySem.Spec PyProof.Rows
theorem aBe:bootBuiltins "int"=some (.type "int"):=by decide +kernel
theorem aJa:bootBuiltins "bool"=some (.type "bool"):=by decide +kernel
theorem aH3:bootBuiltins "str"=some (.type "str"):=by decide +kernel
theorem qW:bootBuiltins "list"=some (.type "list"):=by decide +kernel
theorem bL:bootBuiltins "tuple"=some (.type "tuple"):=by decide +kernel
theorem aN7:bootBuiltins "dict"=some (.type "dict"):=by decide +kernel
theorem aP8:bootBuiltins "set"=some (.type "set"):=by decide +kernel
theorem aFy:bootBuiltins "reversed"=some (.type "reversed"):=by decide +kernel
theorem aQf:bootBuiltins "zip"=some (.type "zip"):=by decide +kernel
theorem aA8:bootBuiltins "enumerate"=some (.type "enumerate"):=by decide +kernel
theorem bC:bootBuiltins "isinstance"=some (.builtin "isinstance"):=by decide +kernel
theorem cA:bootBuiltins "len"=some (.builtin "len"):=by decide +kernel
theorem aC0:bootBuiltins "all"=some (.builtin "all"):=by decide +kernel
theorem aMv:bootBuiltins "any"=some (.builtin "any"):=by decide +kernel
theorem aMe:bootBuiltins "sum"=some (.builtin "sum"):=by decide +kernel
theorem aM8:bootBuiltins "min"=some (.builtin "min"):=by decide +kernel
theorem aNd:bootBuiltins "max"=some (.builtin "max"):=by decide +kernel
theorem oJ:bootBuiltins "sorted"=some (.builtin "sorted"):=by decide +kernel
theorem aQv:bootBuiltins "abs"=some (.builtin "abs"):=by decide +kernel
def sgn (x:Str) (i:Nat):Str:=⟨#[x.cps.getD i 0]⟩
theorem aMs {x:Str} {i c:Nat} (h:x.cps[i]?=some c):(⟨#[c]⟩:Str)=sgn x i:=by
 unfold sgn
 rw [Array.getD_eq_getD_getElem?,h]
 rfl
def Its (x:Str):It:=⟨fun i _=>i<x.cps.size,fun i H v H'=>H'=H∧v=.str (sgn x i),fun i _=>x.cps.size≤i⟩
theorem aJp {P:Program} {w:World} {K:PySem.W.Frag} {tg:Expr} (it:Addr) (x:Str) (t:Tok):Turn P w K tg (Its x) [it] it (fun i h=>h.IsStrIter it "str_ascii_iterator" x t i) where
 mem:=by simp
 obj:=fun i h st b hb=>by
  have e:b=it:=by simpa using hb
  subst e
  obtain ⟨o,e,c,d⟩:=st
  exact ⟨o,e,fun v z=>by rw [d] at z;cases z⟩
 keep:=fun i h h' st k=>let ⟨o,ho,r⟩:=st;⟨o,k it (by simp) o ho,r⟩
 item:=by
  intro X hP hw hK hc i pins s σ H E I hf st hg
  subst hP hw hK
  obtain ⟨f0,f1,f2,f3,f4,f5⟩:=hf it (by simp)
  refine (Walks.strAscii (prog:=X.prog) (w:=X.w) (I.ok.hd hc) it x t).item i s _ _ hg st fun v h' tk hv st' kk=>?_
  obtain ⟨c,u,hcx,rfl⟩:=hv
  have I1:Inv X pins σ H { s with heap:=h',toks:=tk }:=I.turned (fun b o hb e=>kk b o (by simpa using hb) e) f0 f1 f3 f4 f5
  obtain ⟨o,e,c',d⟩:=id st'
  exact ⟨_,rfl,go_of (s:={ s with heap:=h',toks:=tk }) e c' d (by decide) ⟨.str ⟨#[c]⟩,H,I1,⟨u,rfl⟩,⟨rfl,by rw [aMs hcx]⟩,st',fun b hb=>(hf b hb).1⟩⟩
 done:=by
  intro X hP hw hK hc i pins s σ H E I hf st hg
  subst hP hw hK
  obtain ⟨f0,f1,f2,f3,f4,f5⟩:=hf it (by simp)
  exact wpAny_pyNext_ascii_end (I.ok.hd hc) st (Array.getElem?_eq_none_iff.mpr hg) fun h' eb=>⟨rfl,I.turned (t':=s.toks) (fun b o hb e=>eb b o hb e) f0 f1 f3 f4 f5⟩
 self:=fun _ _ _ _ _ st h=>wpAny_pyIter_striter_ascii st h
theorem aJs {P:Program} {w:World} {K:PySem.W.Frag} {tg:Expr} (it:Addr) (x:Str) (t:Tok):Turn P w K tg (Its x) [it] it (fun i h=>h.IsStrIter it "str_iterator" x t i) where
 mem:=by simp
 obj:=fun i h st b hb=>by
  have e:b=it:=by simpa using hb
  subst e
  obtain ⟨o,e,c,d⟩:=st
  exact ⟨o,e,fun v z=>by rw [d] at z;cases z⟩
 keep:=fun i h h' st k=>let ⟨o,ho,r⟩:=st;⟨o,k it (by simp) o ho,r⟩
 item:=by
  intro X hP hw hK hc i pins s σ H E I hf st hg
  subst hP hw hK
  obtain ⟨f0,f1,f2,f3,f4,f5⟩:=hf it (by simp)
  refine (Walks.strWide (prog:=X.prog) (w:=X.w) (I.ok.hd hc) it x t).item i s _ _ hg st fun v h' tk hv st' kk=>?_
  obtain ⟨c,u,hcx,rfl⟩:=hv
  have I1:Inv X pins σ H { s with heap:=h',toks:=tk }:=I.turned (fun b o hb e=>kk b o (by simpa using hb) e) f0 f1 f3 f4 f5
  obtain ⟨o,e,c',d⟩:=id st'
  exact ⟨_,rfl,go_of (s:={ s with heap:=h',toks:=tk }) e c' d (by decide) ⟨.str ⟨#[c]⟩,H,I1,⟨u,rfl⟩,⟨rfl,by rw [aMs hcx]⟩,st',fun b hb=>(hf b hb).1⟩⟩
 done:=by
  intro X hP hw hK hc i pins s σ H E I hf st hg
  subst hP hw hK
  obtain ⟨f0,f1,f2,f3,f4,f5⟩:=hf it (by simp)
  exact wpAny_pyNext_wide_end (I.ok.hd hc) st (Array.getElem?_eq_none_iff.mpr hg) fun h' eb=>⟨rfl,I.turned (t':=s.toks) (fun b o hb e=>eb b o hb e) f0 f1 f3 f4 f5⟩
 self:=fun _ _ _ _ _ st h=>wpAny_pyIter_striter_wide st h
section
variable {X:Cx} {tg:Expr}
def aQh (tl:TE):TI:=fun σ H R=>tl σ H fun x H1=>∃z,x=.str z∧R (Its z) H1
theorem aQ0 {l:Expr} {tl:TE} (hl:PE X l tl):PI X tg l (aQh tl):=by
 intro pins s σ H R I h
 refine thn (hl pins s σ H _ I h) fun v s1 ⟨x,H1,I1,r1,q1⟩=>?_
 obtain ⟨z,e,q⟩:=q1
 subst e
 obtain ⟨t,rfl⟩:=r1
 have fp:∀b∈[s1.heap.objs.size],FpOk X pins H1 b:=fun b hb=>by
  have e:b=s1.heap.objs.size:=by simpa using hb
  subst e
  exact I1.fpOk (Nat.le_refl _) (I1.hok.fresh (Nat.le_refl _))
 cases ha:z.cps.all (·<128)
 ·exact wpAny_pyIter_wide ha ⟨s1.heap.objs.size,[s1.heap.objs.size],_,_,H1,rfl,I1.kept (t':=s1.toks) fun b o e=>Heap.get?_push_of_some _ e,aJs _ z t,⟨_,Heap.get?_push_size _ rfl,rfl,rfl⟩,fp,q⟩
 ·exact wpAny_pyIter_ascii ha ⟨s1.heap.objs.size,[s1.heap.objs.size],_,_,H1,rfl,I1.kept (t':=s1.toks) fun b o e=>Heap.get?_push_of_some _ e,aJp _ z t,⟨_,Heap.get?_push_size _ rfl,rfl,rfl⟩,fp,q⟩
def aGf (x:V) (T:String):Option Bool:=match x with
 |.int _=>if T = "int" then some true else if T = "bool" then some false else if T = "str" then some false else none
 |.str _=>if T = "int" then some false else if T = "bool" then some false else if T = "str" then some true else none
 |.bl _=>if T = "int" then some true else if T = "bool" then some true else if T = "str" then some false else none
 |_=>none
def aRs:List V→Hp→VK→Prop:=fun xs H Q=>∃x T b,xs=[x,.ty T]∧aGf x T=some b∧Q (.bl b) H
theorem nA:CallR X (.builtin "isinstance") aRs:=by
 intro pins s σ H xs us Q I r h
 obtain ⟨x,T,b,rfl,e,q⟩:=h
 obtain ⟨u,v,rfl,rx,rT⟩:=r.two
 cases rT
 have f0:∀{k:Bool},some k=some b→EP X pins σ Q (.bool k) s:=fun e=>by cases e;exact ⟨.bl _,H,I,rfl,q⟩
 have f1:∀{k:Bool},some k=some b→EP X pins σ Q (.bool k) { s with toks:=s.toks+1 }:=fun e=>by cases e;exact ⟨.bl _,H,I.tok _,rfl,q⟩
 cases x with
 |int i=>
  obtain ⟨t,rfl⟩:=rx
  unfold aGf at e
  dsimp only at e
  split at e
  ·rename_i hT;subst hT;exact IsiPair.int_int (f0 e)
  split at e
  ·rename_i hT;subst hT;exact IsiPair.int_bool (f1 e)
  split at e
  ·rename_i hT;subst hT;exact IsiPair.int_str (f1 e)
  ·cases e
 |str z=>
  obtain ⟨t,rfl⟩:=rx
  unfold aGf at e
  dsimp only at e
  split at e
  ·rename_i hT;subst hT;exact IsiPair.str_int (f1 e)
  split at e
  ·rename_i hT;subst hT;exact IsiPair.str_bool (f1 e)
  split at e
  ·rename_i hT;subst hT;exact IsiPair.str_str (f0 e)
  ·cases e
 |bl z=>
  cases rx
  unfold aGf at e
  dsimp only at e
  split at e
  ·rename_i hT;subst hT;exact IsiPair.bool_int (f0 e)
  split at e
  ·rename_i hT;subst hT;exact IsiPair.bool_bool (f0 e)
  split at e
  ·rename_i hT;subst hT;exact IsiPair.bool_str (f1 e)
  ·cases e
 |_=>cases (show (none:Option Bool)=some b from e)
end
theorem small {n:Nat} (h:n≤1000):n≤sizeLine:=Nat.le_of_lt (small1000 h)
theorem cH:Vals [] []:=.nil
theorem aY {x:V} {u:Value} {xs:List V} {us:List Value} (r:RelV x u) (t:Vals xs us):Vals (x::xs) (u::us):=.cons r t
def eZ:Expr→Bool
 |.Starred ..=>false
 |_=>true
theorem bI {e:Expr} {es:List Expr} {env:Env} (h:eZ e=true):starEach (e::es) env=(false,eval e env)::starEach es env:=by
 cases e <;> first|rfl|cases h
theorem aSl {X:Cx} {e:Expr} {es:List Expr} {te:TE} {t:TA} (ha:PE X e te) (hr:PA X es t) (hp:eZ e=true:=by rfl) :
  PA X (e::es) (tCons te t):=pa_cons ha hr (bI hp)
theorem aR1 {X:Cx} {x:Str} {v:V} {pos:Pos} (hg:Gl X x) (hm:∃u,X.mg x=some u∧RelV v u) (hd:(x == ("__debug__":Str))=false:=by decide):PE X (.Name x pos) (tC v):=by
 obtain ⟨u,hm,r⟩:=hm
 exact pe_glob hg hm r hd
section
variable {P:Program} {w:World} {K:PySem.W.Frag} {mg:Str→Option Value} {base:Heap}
def Dn (K:PySem.W.Frag) (mg:Str→Option Value) (x:Str) (st:Stmt) (ps:List Str):Prop:=∃f fd,Fun K x x st f fd∧Binds K fd ps []∧mg x=some (.ref f)
def Ok (P:Program) (w:World) (K:PySem.W.Frag) (mg:Str→Option Value) (base:Heap) (k:Nat) (x:Str) (ps:List Str) (sp:Sp):Prop:=
 ∃f fd,mg x=some (.ref f)∧PySem.W.keepIn K (.ref f)=true∧Binds K fd ps []∧FnOk P w K mg base CX0 k f fd ps sp
theorem Ok.mono {j k:Nat} {x:Str} {ps:List Str} {sp:Sp} (h:Ok P w K mg base j x ps sp) (hj:j≤k):Ok P w K mg base k x ps sp:=by
 obtain ⟨f,fd,h1,h2,h3,h4⟩:=h
 exact ⟨f,fd,h1,h2,h3,h4.mono hj⟩
theorem Ok.of {x:Str} {st:Stmt} {N ps:List Str} {k:Nat} {sp:Sp} (D:Dn K mg x st ps) (S:FnScope N ps (defScope st)) (len:∀vs H Q E,sp vs H Q E→vs.length=ps.length)
  (hbody:∀(f:Addr) (cdv:Value) (A:Around) (outer:List Env) (s:Shared) (H:Hp) (vs:List V) (Q:VK) (E:XK),Room k (A.deeper (envOfC x (defScope st) s.heap.objs.size f cdv))→sp vs H Q E →
   ∃t,PSs (cxOf CX0 P w K mg base N x (defScope st) f cdv A outer s H E).nox (defBody st) t∧t { nx:=fun _ H'=>Q .non H',rt:=Q } (start N vs) H):Ok P w K mg base (k+1) x ps sp:=by
 obtain ⟨f,fd,F,B,m⟩:=D
 exact ⟨f,fd,m,F.kp,B,F.ok S len fun cdv A outer s H vs Q E hr h=>hbody f cdv A outer s H vs Q E hr h⟩
end
section
variable {X:Cx} {k:Nat} {ps:List Str} {sp:Sp} {x:Str} {p pos:Pos} {e:Expr} {es:List Expr} {t:TA}
theorem aRv (G:Ok X.prog X.w X.K X.mg X.base k x ps sp) (hr:Room k X.A) (hg:Gl X x) (ha:PA X (e::es) t) (hdb:(x == ("__debug__":Str))=false:=by decide)
  (he:starEach (e::es) X.env=(false,eval e X.env)::starEach es X.env:=by rfl) (hpl:(backTo pos (starEach es X.env)).any (·.1)=false:=by rfl) :
  PE X (.Call (.Name x p) (e::es) [] pos) (tCall sp [] E0 t):=by
 obtain ⟨f,fd,h1,h2,h3,h4⟩:=G
 exact pe_call h4 hr hg h1 h2 h3 .nil pass0 ha hdb he hpl
theorem aQj (G:Ok X.prog X.w X.K X.mg X.base k x ps sp) (hr:Room k X.A) (hg:Gl X x) (hdb:(x == ("__debug__":Str))=false:=by decide) :
  PE X (.Call (.Name x p) [] [] pos) (tCall sp [] E0 tNil):=by
 obtain ⟨f,fd,h1,h2,h3,h4⟩:=G
 exact pe_call0 h4 hr hg h1 h2 h3 .nil pass0 hdb
end
theorem pP {env:Env} (f:Str × NameKind→List (Str × Addr)→Sem (ForInStep (List (Str × Addr))))
  (h1:∀n r,f (n,.free) r=(cellOf env n >>= fun a=>pure (.yield ((n,a)::r)))) (h2:∀n k r,k≠.free→f (n,k) r=pure (.yield r)) :
  ∀(names:List (Str × NameKind)) (acc:List (Str × Addr)),(∀y∈names,y.2=.free→∃c,env.cells.lookup y.1=some c) →
  ∃cl,forIn names acc f=(pure (cl++acc):Sem _)∧(∀p∈cl,env.cells.lookup p.1=some p.2∧(p.1,NameKind.free)∈names)∧∀y,(y,NameKind.free)∈names→∃c,(y,c)∈cl
 |[],acc,_=>⟨[],by simp,fun _ h=>(nomatch h),fun _ h=>(nomatch h)⟩
 |(n,k)::r,acc,h=>by
  by_cases hk:k=.free
  ·subst hk
   obtain ⟨c,hc⟩:=h (n,.free) List.mem_cons_self rfl
   obtain ⟨cl,e,p1,p2⟩:=pP f h1 h2 r ((n,c)::acc) fun y hy=>h y (List.mem_cons_of_mem _ hy)
   refine ⟨cl++[(n,c)],?_,fun p hp=>?_,fun y hy=>?_⟩
   ·rw [List.forIn_cons,h1]
    have e0:cellOf env n=pure c:=by unfold cellOf;rw [hc]
    rw [e0,pure_bind,pure_bind]
    show forIn r ((n,c)::acc) f=_
    rw [e,List.append_assoc]
    rfl
   ·rcases List.mem_append.mp hp with hp|hp
    ·exact ⟨(p1 p hp).1,List.mem_cons_of_mem _ (p1 p hp).2⟩
    ·obtain rfl:=List.mem_singleton.mp hp
     exact ⟨hc,List.mem_cons_self⟩
   ·rcases List.mem_cons.mp hy with e|hy
    ·cases e
     exact ⟨c,by simp⟩
    ·obtain ⟨c',q⟩:=p2 y hy
     exact ⟨c',List.mem_append_left _ q⟩
  ·obtain ⟨cl,e,p1,p2⟩:=pP f h1 h2 r acc fun y hy=>h y (List.mem_cons_of_mem _ hy)
   refine ⟨cl,?_,fun p hp=>⟨(p1 p hp).1,List.mem_cons_of_mem _ (p1 p hp).2⟩,fun y hy=>?_⟩
   ·rw [List.forIn_cons,h2 n k acc hk,pure_bind]
    exact e
   ·rcases List.mem_cons.mp hy with e|hy
    ·cases e
     exact absurd rfl hk
    ·exact p2 y hy
theorem pQ {scope:Scope} {env:Env} (h:∀y∈scope.names,y.2=.free→∃c,env.cells.lookup y.1=some c) :
  ∃cl,closureFor scope env=pure cl∧(∀p∈cl,env.cells.lookup p.1=some p.2∧(p.1,NameKind.free)∈scope.names)∧∀y,(y,NameKind.free)∈scope.names→∃c,(y,c)∈cl:=by
 unfold closureFor
 obtain ⟨cl,e,p1,p2⟩:=pP (env:=env) (fun x r=>match x with|(name,kind)=>if (kind == NameKind.free)=true then do let a ←cellOf env name;pure (.yield ((name,a)::r)) else pure (.yield r))
  (fun n r=>rfl) (fun n k r hk=>by
   have:(k == NameKind.free)=false:=by simpa using hk
   simp only [this,Bool.false_eq_true,if_false]) scope.names [] h
 refine ⟨cl,?_,p1,p2⟩
 rw [List.append_nil] at e
 refine Eq.trans ?_ e
 first
 |rfl
 |simp
theorem lookup_mem {α β:Type} [BEq α] [LawfulBEq α] {a:α} {b:β}:∀{l:List (α × β)},(a,b)∈l→∃b',l.lookup a=some b'
 |(x,y)::r,h=>by
  rw [List.lookup_cons]
  by_cases e:(a == x)=true
  ·exact ⟨y,by rw [e]⟩
  ·have e':(a == x)=false:=by simpa using e
   rw [e']
   rcases List.mem_cons.mp h with z|z
   ·cases z
    simp at e
   ·exact lookup_mem z
theorem lV {env:Env} {y:Str} {k:NameKind}:∀{names:List (Str × NameKind)},names.lookup y=some .free →
  (names.map fun (x:Str × NameKind)=>match x with|(n,k)=>if (k == NameKind.free && env.scope.kind == ScopeKind.function && env.kindOf n == some NameKind.cell) then (n,NameKind.cell) else (n,k)).lookup y=some .cell ∨
  (names.map fun (x:Str × NameKind)=>match x with|(n,k)=>if (k == NameKind.free && env.scope.kind == ScopeKind.function && env.kindOf n == some NameKind.cell) then (n,NameKind.cell) else (n,k)).lookup y=some .free
 |[],h=>by simp at h
 |(n,k')::r,h=>by
  rw [List.map_cons]
  rw [List.lookup_cons] at h
  by_cases e:(y == n)=true
  ·rw [e] at h
   cases h
   by_cases q:((NameKind.free == NameKind.free) && env.scope.kind == ScopeKind.function && env.kindOf n == some NameKind.cell)=true
   ·left
    simp only [q,if_true,List.lookup_cons,e]
   ·right
    have q':=Bool.eq_false_iff.mpr q
    simp only [q',Bool.false_eq_true,if_false,List.lookup_cons,e]
  ·have e':(y == n)=false:=by simpa using e
   rw [e'] at h
   have ih:=lV (env:=env) (k:=k) h
   have key:∀z:Str × NameKind,z.1=n→(List.lookup y (z::(r.map fun (x:Str × NameKind)=>match x with|(n,k)=>if (k == NameKind.free && env.scope.kind == ScopeKind.function && env.kindOf n == some NameKind.cell) then (n,NameKind.cell) else (n,k)))) =
     List.lookup y (r.map fun (x:Str × NameKind)=>match x with|(n,k)=>if (k == NameKind.free && env.scope.kind == ScopeKind.function && env.kindOf n == some NameKind.cell) then (n,NameKind.cell) else (n,k)):=fun z hz=>by
    obtain ⟨z1,z2⟩:=z
    cases hz
    rw [List.lookup_cons,e']
   have kz:(match ((n,k'):Str × NameKind) with|(n,k)=>if (k == NameKind.free && env.scope.kind == ScopeKind.function && env.kindOf n == some NameKind.cell) then (n,NameKind.cell) else (n,k)).1=n:=by
    dsimp only
    split <;> rfl
   rw [key _ kz]
   exact ih
theorem rO {env:Env} {y:Str}:∀{names:List (Str × NameKind)},(∀z∈names,z.2≠.cell) →
  ((names.map fun (x:Str × NameKind)=>match x with|(n,k)=>if (k == NameKind.free && env.scope.kind == ScopeKind.function && env.kindOf n == some NameKind.cell) then (n,NameKind.cell) else (n,k)).lookup y=some .cell ∨
  (names.map fun (x:Str × NameKind)=>match x with|(n,k)=>if (k == NameKind.free && env.scope.kind == ScopeKind.function && env.kindOf n == some NameKind.cell) then (n,NameKind.cell) else (n,k)).lookup y=some .free)→(y,NameKind.free)∈names
 |[],_,h=>by simp at h
 |(n,k')::r,hc,h=>by
  rw [List.map_cons] at h
  by_cases e:(y == n)=true
  ·have ey:y=n:=by simpa using e
   subst ey
   have hk:k'=.free:=by
    by_cases q:((k' == NameKind.free) && env.scope.kind == ScopeKind.function && env.kindOf y == some NameKind.cell)=true
    ·rw [Bool.and_eq_true,Bool.and_eq_true] at q
     simpa using q.1.1
    ·have q':=Bool.eq_false_iff.mpr q
     simp only [q',Bool.false_eq_true,if_false,List.lookup_cons,e] at h
     rcases h with h|h
     ·cases h
      exact absurd rfl (hc (y,.cell) List.mem_cons_self)
     ·cases h;rfl
   subst hk
   exact List.mem_cons_self
  ·have e':(y == n)=false:=by simpa using e
   have key:∀z:Str × NameKind,z.1=n→(List.lookup y (z::(r.map fun (x:Str × NameKind)=>match x with|(n,k)=>if (k == NameKind.free && env.scope.kind == ScopeKind.function && env.kindOf n == some NameKind.cell) then (n,NameKind.cell) else (n,k)))) =
     List.lookup y (r.map fun (x:Str × NameKind)=>match x with|(n,k)=>if (k == NameKind.free && env.scope.kind == ScopeKind.function && env.kindOf n == some NameKind.cell) then (n,NameKind.cell) else (n,k)):=fun z hz=>by
    obtain ⟨z1,z2⟩:=z
    cases hz
    rw [List.lookup_cons,e']
   have kz:(match ((n,k'):Str × NameKind) with|(n,k)=>if (k == NameKind.free && env.scope.kind == ScopeKind.function && env.kindOf n == some NameKind.cell) then (n,NameKind.cell) else (n,k)).1=n:=by
    dsimp only
    split <;> rfl
   rw [key _ kz] at h
   exact List.mem_cons_of_mem _ (rO (fun z hz=>hc z (List.mem_cons_of_mem _ hz)) h)
section
variable {prog:Program} {w:World} {A:Around} {E:Value→Shared→Prop} {R:Result→Shared→Prop} {s:Shared}
theorem tZ {elt target iter:Expr} {ifs:List Expr} {scope:Scope} {pos:Pos} {it acc:Value} {env:Env} (I:Nat→Shared→Prop)
  (turn:∀n s,I n s→wpAny (model prog w) A (pyNext it) (fun r s₁=>match r with
   |none=>R (.ok .next) s₁
   |some v=>wpAny (model prog w) A (letOwnedTupleGo target it v) (fun _ s'=>wpAny (model prog w) A (assign target env v) (fun _ s₂=>
     wpAny (model prog w) A (forIn ifs true fun c r=>if r=true then do let ok ←isTrue c env (eval c env);pure (ForInStep.yield ok) else pure (ForInStep.yield r)) (fun ok s₃=>
      if ok=true then wpAny (model prog w) A (eval elt env) (fun x s₄=>
       wpAny (model prog w) A (call (.builtin "list.append") [acc,x]) (fun _ s₅=>∃m,m<n∧I m s₅) (notedBy (model prog w) A env fun e s'=>R (.error e) s') s₄) (notedBy (model prog w) A env fun e s'=>R (.error e) s') s₃
      else ∃m,m<n∧I m s₃) (notedBy (model prog w) A env fun e s'=>R (.error e) s') s₂) (notedBy (model prog w) A env fun e s'=>R (.error e) s') s') (notedBy (model prog w) A env fun e s'=>R (.error e) s') s₁)
   (notedBy (model prog w) A env fun e s'=>R (.error e) s') s)
  (n:Nat) (h:I n s):codeAny (model prog w) A (.compLoop (.ListComp elt [⟨target,iter,ifs,0⟩] scope pos) 0 it acc env) R s:=by
 refine codeAny_loop rfl I (fun n s hI=>?_) n h
 show wpAny _ A ((compTurn (.ListComp elt [⟨target,iter,ifs,0⟩] scope pos) 0 it acc env).onRaise (fun x=>do noteFrame x env;theTreesLotGoes x)) _ _ s
 refine wpAny_noted ?_
 rw [compTurn_list]
 refine wpAny_bind (wpAny_standAt (wpAny_bind (wpAny_mono (turn n s hI) (fun r s₁ h₁=>?_) fun _ _ h'=>h')))
 cases r with
 |none=>exact wpAny_pure h₁
 |some v=>
  refine wpAny_bind (wpAny_mono h₁ (fun _ s' h₁'=>wpAny_bind (wpAny_mono h₁' (fun _ s₂ h₂=>wpAny_bind (wpAny_mono h₂ (fun ok s₃ h₃=>?_) fun _ _ h'=>h')) fun _ _ h'=>h')) fun _ _ h'=>h')
  cases ok with
  |false=>exact wpAny_pure ⟨rfl,h₃⟩
  |true=>
   exact wpAny_bind (wpAny_bind (wpAny_mono h₃ (fun x s₄ h₄=>wpAny_bind (wpAny_mono h₄ (fun _ s₅ h₅=>wpAny_pure (wpAny_pure ⟨rfl,h₅⟩)) fun _ _ h'=>h')) fun _ _ h'=>h'))
end
def cxC (X:Cx) (N:List Str) (scope:Scope) (cl:List (Str × Addr)) (s:Shared) (H:Hp) (fp:List Addr):Cx:=
 { X with N:=N,s₀:=s,H₀:=H,env:=compEnvC scope cl s.heap.objs.size X.env,outer:=X.stack,stack:=X.stack,ex:=fp,fn:=fun _=>false,pn:=[],xe:=fun _ _=>False }
def aKe (X:Cx) (ifs:List Expr) (tt:TT):Prop:=
 ∀(pins:List (Addr × Obj)) (s:Shared) (σ:St) (H:Hp) (Q:Bool→Hp→Prop),Inv X pins σ H s→tt σ H Q →
  wpAny (model X.prog X.w) X.A (forIn ifs true fun c r=>if r=true then do let ok ←isTrue c X.env (eval c X.env);pure (ForInStep.yield ok) else pure (ForInStep.yield r)) (TP X pins σ Q) X.xe s
def jT:TT:=fun _ H Q=>Q true H
theorem aRb {X:Cx}:aKe X [] jT:=fun _ _ _ H _ I h=>wpAny_tests_nil ⟨H,I,h⟩
theorem aQq {X:Cx} {c:Expr} {tc:TT} (h:PT X c tc):aKe X [c] tc:=fun pins s σ H Q I q=>wpAny_tests_one (h pins s σ H Q I q)
structure uJ (scope:Scope) (N:List Str):Prop where
 cell:∀y∈scope.names,y.2≠.cell
 kind:scope.kind=.function
 names:∀y∈scope.names,y.2=.local→scope.names.lookup y.1=some .local
 free:∀y∈scope.names,y.2=.free→scope.names.lookup y.1=some .free
def Cap (X:Cx) (scope:Scope) (N:List Str) (σ σ':St):Prop:=
 σ'.length=N.length∧∀(i:Nat) (y:Str) (v:V),N[i]?=some y→σ'[i]?=some (some v)→(y,NameKind.free)∈scope.names∧∃j:Nat,X.N[j]?=some y∧σ[j]?=some (some v)∧Vis X.env.scope y
theorem aFw {X:Cx} {pins:List (Addr × Obj)} {σ σ':St} {H:Hp} {s:Shared} {scope:Scope} {N:List Str} {cl:List (Str × Addr)} {fp:List Addr} {h1:Heap} {tk:Nat} {m1:Str→Option Value}
  (I:Inv X pins σ H s) (C:uJ scope N) (hfr:∀y,(y,NameKind.free)∈scope.names→X.env.kindOf y=some .cell∨X.env.kindOf y=some .free)
  (p1:∀p∈cl,X.env.cells.lookup p.1=some p.2∧(p.1,NameKind.free)∈scope.names) (p2:∀y,(y,NameKind.free)∈scope.names→∃c,(y,c)∈cl)
  (cap:Cap X scope N σ σ') (hf:∀b∈fp,FpOk X pins H b) (hfl:∀b∈fp,b<s.heap.objs.size)
  (hn:h1.Ns s.heap.objs.size m1) (hk:∀b o,s.heap.get? b=some o→h1.get? b=some o) :
  Inv (cxC X N scope cl s H fp) [] σ' H { s with heap:=h1,toks:=tk }:=by
 have ok:=I.ok
 have lk:∀y c,cl.lookup y=some c→X.env.cells.lookup y=some c:=fun y c e=>(p1 _ (PySem.mem_of_lookup e)).1
 have lk2:∀y,(y,NameKind.free)∈scope.names→∃c,cl.lookup y=some c∧X.env.cells.lookup y=some c:=fun y hy=>by
  obtain ⟨c,hc⟩:=p2 y hy
  obtain ⟨c',e⟩:=lookup_mem hc
  exact ⟨c',e,lk y c' e⟩
 have fsub:∀b∈fp,b∉frs X.stack:=fun b hb z=>by
  obtain ⟨f0,f1,f2,_⟩:=hf b hb
  rcases List.mem_cons.mp (I.stkSub b z) with e|e
  ·exact f1 e
  ·exact f2 e
 have ok':(cxC X N scope cl s H fp).Ok:=by
  refine ⟨ok.mod,C.kind,ok.glob,ok.blt,Nat.le_refl _,fun x y c h1 h2=>ok.inj x y c (lk x c h1) (lk y c h2),fun y hy=>?_,fun y c h _=>?_,ok.hd,ok.frames,.inl rfl,fun b hb=>?_,I.bs,Nat.le_trans ok.bsz I.sz,
   fun b o e hb=>?_,fsub,I.stack,I.stkFree⟩
  ·obtain ⟨c,e,_⟩:=lk2 y (rO (env:=X.env) C.cell hy)
   exact ⟨c,e⟩
  ·exact absurd (show false=true from h) Bool.false_ne_true
  ·obtain ⟨f0,f1,f2,f3,f4,f5⟩:=hf b hb
   exact ⟨Nat.ne_of_lt (hfl b hb),fun x c e=>f4 x c (lk x c e)⟩
  ·obtain ⟨f0,f1,f2,f3,f4,f5⟩:=hf b hb
   rcases f3 with z|z
   ·exact ok.noex b o e z
   ·exact absurd (Nat.lt_of_lt_of_le (Heap.lt_size e) (Nat.le_trans ok.bsz z)) (Nat.lt_irrefl _)
 refine ⟨ok',rfl,I.bare,Un.kept hk,⟨m1,hn,fun i y v e1 e2 e3=>?_⟩,fun y c e=>?_,I.hok.fresh (Nat.le_refl _),fun y c e=>I.freeC y c (lk y c e),fun p hp=>absurd (show p∈([]:List (Addr × Obj)) from hp) (by simp),I.hok.kept hk,cap.1⟩
 ·obtain ⟨hy,j,e4,e5,e6⟩:=cap.2 i y v e1 e2
  obtain ⟨m,_,hl⟩:=I.loc
  obtain ⟨u,r,l⟩:=hl j y v e4 e5 e6
  refine ⟨u,r,.inr ?_⟩
  rcases l with ⟨k,_⟩|⟨k,c,e,z⟩
  ·rcases hfr y hy with q|q <;> (rw [k] at q;cases q)
  ·obtain ⟨c',e',e''⟩:=lk2 y hy
   rw [e] at e''
   cases e''
   have rl:=lV (env:=X.env) (k:=.free) (C.free (y,.free) hy rfl)
   refine ⟨rl,c,e',?_⟩
   obtain ⟨o,ho,hd⟩:=z
   exact ⟨o,hk _ _ ho,hd⟩
 ·obtain ⟨v,o,ho,hd⟩:=I.cell y c (lk y c e)
  exact ⟨v,o,hk _ _ ho,hd⟩
def eX (X:Cx) (scope:Scope) (N:List Str) (wi:TI) (g:TG) (tt:TT) (te:TE):TE:=fun σ H Q=>∃σ0,Cap X scope N σ σ0∧wi σ H fun J H1=>∀D,H1 D=none→∃W:Nat→Nat→St→Hp→List V→Prop,(∃m,W 0 m σ0 (upd H1 D (.lst [])) []) ∧
 ∀i m σ' H' ys,W i m σ' H' ys→H' D=some (.lst ys)∧((J.stop i H'∧Q (.ref D) H')∨(J.go i H'∧∀x H2,J.yld i H' x H2→g x σ' H2 fun σ3 H3=>tt σ3 H3 fun b H4=>
  if b=true then te σ3 H4 fun y H5=>H5 D=some (.lst ys)∧ys.length<sizeLine∧∃m',m'<m∧W (i+1) m' σ3 (upd H5 D (.lst (ys++[y]))) (ys++[y]) else H4 D=some (.lst ys)∧∃m',m'<m∧W (i+1) m' σ3 H4 ys))
theorem aOj {X:Cx} {elt target iter:Expr} {ifs:List Expr} {scope:Scope} {pos:Pos} {N:List Str} {wi:TI} {g:TG} {tt:TT} {te:TE}
  (C:uJ scope N) (hfr:∀y,(y,NameKind.free)∈scope.names→X.env.kindOf y=some .cell∨X.env.kindOf y=some .free) (hc:X.calm=true)
  (hi:PI X target iter wi)
  (hb:∀cl s H fp,PG (cxC X N scope cl s H fp) target g∧aKe (cxC X N scope cl s H fp) ifs tt∧PE (cxC X N scope cl s H fp) elt te)
  (hs:∀x,foldedSetIterable iter X.env x=pure x:=by intro _;rfl) :
  PE X (.ListComp elt [⟨target,iter,ifs,0⟩] scope pos) (eX X scope N wi g tt te):=by
 intro pins s σ H Q I hq
 obtain ⟨σ0,cap,hq⟩:=hq
 obtain ⟨cl,hcl,p1,p2⟩:=pQ (scope:=scope) (env:=X.env) (fun y hy hk=>by
  obtain ⟨n,k⟩:=y
  cases hk
  exact I.ok.has n (hfr n hy))
 rw [eval_ListComp]
 refine wpAny_comprehension_free (use:=none) rfl hs hcl C.kind C.names (thn (hi pins s σ H _ I hq) fun xv s1 h1=>thn h1 fun itv s2 h2=>?_)
 obtain ⟨it,fp,tn,J,H2,rfl,I2,T,st2,f2,q2⟩:=h2
 refine wpAny_newObj_type (wpAny_newFunctionEnv C.cell (by intro y hy;simp at hy) (fun h₁ hns₁ hsb₁=>?_) C.kind)
 dsimp only at hns₁ hsb₁ ⊢
 have hD:H2 s2.heap.objs.size=none:=I2.hok.fresh (Nat.le_refl _)
 have I3:Inv X pins σ (upd H2 s2.heap.objs.size (.lst [])) { s2 with heap:=s2.heap.push { cls:=.type "list",dict:=none,data:=.seq ([]:List Value).toArray } }:=
  I2.laid (t':=s2.toks) (fun b u e=>Heap.get?_push_of_some _ e) (Nat.le_refl _) ⟨Nat.zero_le _,[],0,.nil,Heap.get?_push_size _ rfl⟩
 generalize hs3:({ s2 with heap:=s2.heap.push { cls:=.type "list",dict:=none,data:=.seq ([]:List Value).toArray } }:Shared)=s3 at I3
 have hh3:s2.heap.push { cls:=.type "list",dict:=none,data:=.seq ([]:List Value).toArray }=s3.heap:=by rw [←hs3]
 rw [hh3] at hns₁ hsb₁
 have fl2:∀b∈fp,b<s2.heap.objs.size:=fun b hb=>by
  obtain ⟨o,e,_⟩:=T.obj _ _ st2 b hb
  exact Heap.lt_size e
 have fl3:∀b∈fp,b<s3.heap.objs.size:=fun b hb=>by
  rw [←hh3,Heap.size_push]
  exact Nat.lt_succ_of_lt (fl2 b hb)
 have f3:∀b∈fp,FpOk X pins (upd H2 s2.heap.objs.size (.lst [])) b:=fun b hb=>by
  obtain ⟨f0,fr⟩:=f2 b hb
  exact ⟨by rw [upd_ne (Nat.ne_of_lt (fl2 b hb))];exact f0,fr⟩
 have keep3:∀b o,s3.heap.get? b=some o→h₁.get? b=some o:=fun b o e=>hsb₁.extBut b o (Nat.ne_of_lt (Heap.lt_size e)) (Heap.get?_push_of_some _ e)
 have I4:=aFw (tk:=s3.toks) I3 C hfr p1 p2 cap f3 fl3 hns₁ keep3
 have st4:tn 0 h₁:=T.keep _ _ _ st2 fun b hb o e=>keep3 b o (by rw [←hh3];exact Heap.get?_push_of_some _ e)
 obtain ⟨W,⟨m0,w0⟩,turn⟩:=q2 s2.heap.objs.size hD
 have fpc:∀{H':Hp},(∀b∈fp,H' b=none)→∀b∈fp,FpOk (cxC X N scope cl s3 (upd H2 s2.heap.objs.size (.lst [])) fp) [] H' b:=fun {H'} hn b hb=>by
  obtain ⟨e1,e2⟩:=I4.ok.exf b hb
  exact ⟨hn b hb,e1,I4.ok.exfs b hb,.inl hb,e2,fun p hp=>absurd (show p∈([]:List (Addr × Obj)) from hp) (by simp)⟩
 have loop:∀s4:Shared,s4={ s3 with heap:=h₁,toks:=s3.toks } →
   codeAny (model X.prog X.w) X.A (.compLoop (.ListComp elt [⟨target,iter,ifs,0⟩] scope pos) 0 (.ref it) (.ref s2.heap.objs.size) (compEnvC scope cl s3.heap.objs.size X.env))
    (compPost (model X.prog X.w) X.A X.xe none (EP X pins σ Q) (.ref s2.heap.objs.size) s3.heap.objs.size) s4:=by
  rintro s4 rfl
  refine tZ (fun n s'=>∃i σ' H' ys,Inv (cxC X N scope cl s3 (upd H2 s2.heap.objs.size (.lst [])) fp) [] σ' H' s'∧tn i s'.heap∧(∀b∈fp,H' b=none)∧W i n σ' H' ys) ?_ m0 ⟨0,σ0,_,[],I4,st4,fun b hb=>(f3 b hb).1,w0⟩
  rintro n s5 ⟨i,σ5,H5,ys,I5,st5,fr5,w5⟩
  obtain ⟨hacc,w5⟩:=turn i n σ5 H5 ys w5
  have noE:∀{α:Type} {t:Sem α} {Q':α→Shared→Prop} {E':Value→Shared→Prop} {s':Shared},wpAny (model X.prog X.w) X.A t Q' (fun _ _=>False) s'→wpAny (model X.prog X.w) X.A t Q' E' s':=fun h=>wpAny_mono h (fun _ _ q=>q) fun _ _ z=>z.elim
  rcases w5 with ⟨stop,qn⟩|⟨go,step⟩
  ·refine noE (thn (T.done (cxC X N scope cl s3 (upd H2 s2.heap.objs.size (.lst [])) fp) rfl rfl rfl hc i [] s5 σ5 H5 _ I5 (fpc fr5) st5 stop) fun r s6 ⟨hr,I6⟩=>?_)
   subst hr
   obtain ⟨m6,hn6,_⟩:=I6.loc
   refine ⟨m6,hn6,fun h' sb=>?_⟩
   have kp:∀b o,b≠s3.heap.objs.size→s6.heap.get? b=some o→h'.get? b=some o:=fun b o hb e=>sb.extBut b o hb e
   have ne3:∀b o,s3.heap.get? b=some o→b≠s3.heap.objs.size:=fun b o e=>Nat.ne_of_lt (Heap.lt_size e)
   have un:Un (frs X.stack) fp (upd H2 s2.heap.objs.size (.lst [])) H5 s3.heap h':=by
    have u:=I6.base
    exact ⟨fun b o e n hb hx=>kp b o (ne3 b o e) (u.keep b o e n hb hx),fun b o e n hb hx=>by
     obtain ⟨sl,e1⟩:=u.slot b o e n hb hx
     exact ⟨sl,kp b _ (ne3 b o e) e1⟩,u.free,fun b o e hx=>by
     obtain ⟨o',e1⟩:=u.there b o e hx
     exact ⟨o',kp b _ (ne3 b o e) e1⟩,u.tups,u.frzs,u.tbls⟩
   have hok:HOk X.prog X.w H5 h':=fun b u e=>by
    refine (I6.hok b u e).stay (fun c v hc' q=>kp c v ?_ q) (fun _ q=>q) fun _ _ q=>q
    have hfree:H5 s3.heap.objs.size=none:=I6.free
    rintro rfl
    rcases hc' with z|z
    ·rw [z] at hfree;rw [hfree] at e;cases e
    ·rw [hfree] at z;cases z
   have I7:Inv X pins σ H5 { s6 with heap:=h' }:=by
    refine I3.call' (s':={ s6 with heap:=h' }) I6.os un hok I6.bare fun b hb=>?_
    obtain ⟨f0,f1,f2',f3',f4,f5⟩:=f3 b hb
    exact ⟨f3',f1,f4,f5⟩
   exact ⟨.ref s2.heap.objs.size,H5,I7,rfl,qn⟩
  ·refine noE (thn (T.item (cxC X N scope cl s3 (upd H2 s2.heap.objs.size (.lst [])) fp) rfl rfl rfl hc i [] s5 σ5 H5 (fun _ _=>False) I5 (fpc fr5) st5 go) fun r s6 ⟨u,hr,h6⟩=>?_)
   subst hr
   refine noE (thn h6 fun _ s7 ⟨x,H7,I7,r7,y7,st7,fr7⟩=>?_)
   obtain ⟨hg,ht,he⟩:=hb cl s3 (upd H2 s2.heap.objs.size (.lst [])) fp
   have I7':=I7.pinned (fpc fr7) (T.obj _ _ st7)
   have back:∀{σ8:St} {H8:Hp} {s8:Shared},Inv (cxC X N scope cl s3 (upd H2 s2.heap.objs.size (.lst [])) fp) ([]++pinsAt fp s7.heap) σ8 H8 s8→tn (i+1) s8.heap∧∀b∈fp,H8 b=none:=fun {σ8 H8 s8} I8=>
    ⟨T.keep _ _ _ st7 fun b hb o e=>(I8.pin (b,o) (List.mem_append_right _ (List.mem_append_right _ (mem_pinsAt hb e)))).1,fun b hb=>by
     obtain ⟨o,e,d⟩:=T.obj _ _ st7 b hb
     exact (I8.pin (b,o) (List.mem_append_right _ (List.mem_append_right _ (mem_pinsAt hb e)))).2.1⟩
   refine noE (thn (hg _ s7 σ5 H7 x u _ I7' r7 (step x H7 y7)) fun _ s8 ⟨σ8,H8,I8,q8⟩=>?_)
   refine noE (thn (ht _ s8 σ8 H8 _ I8 q8) fun b s9 ⟨H9,I9,q9⟩=>?_)
   cases b with
   |false=>
    rw [if_neg Bool.false_ne_true] at q9 ⊢
    obtain ⟨_,m',hm,w9⟩:=q9
    exact ⟨m',hm,i+1,σ8,H9,ys,I9.unpinned,(back I9).1,(back I9).2,w9⟩
   |true=>
    rw [if_pos rfl] at q9 ⊢
    refine noE (thn (he _ s9 σ8 H9 _ I9 q9) fun yv s10 ⟨y,H10,I10,r10,hacc10,hlen,m',hm,w10⟩=>?_)
    refine noE (thn (mt_append _ s10 σ8 H10 (.ref s2.heap.objs.size) [y] (.ref s2.heap.objs.size) [yv] (fun _ H11=>H11=upd H10 s2.heap.objs.size (.lst (ys++[y]))) I10 rfl (.cons r10 .nil) ⟨_,_,_,rfl,rfl,hacc10,hlen,rfl⟩) fun _ s11 ⟨z,H11,I11,_,e11⟩=>?_)
    subst e11
    exact ⟨m',hm,i+1,σ8,_,ys++[y],I11.unpinned,(back I11).1,(back I11).2,w10⟩
 have fin:=codeAny_compStart_list (loop { s3 with heap:=h₁,toks:=s3.toks } rfl) (T.self _ _ _ _ _ st4 (loop { s3 with heap:=h₁,toks:=s3.toks } rfl))
 subst hs3
 exact fin
end L2
namespace PySem
open Sem (wp)
namespace IfF
theorem aNg:typeLookup (.type "function") "__class__"=pure (some (.builtin "object.__class__")):=by rw [typeLookup_type,builtinLookup_eq_fast];kernel_rfl
theorem vO:Slot "function" "__getattribute__" "object.__getattribute__":=
 .of (owner:="object") (n:="__getattribute__") (by rw [typeLookup_type,builtinLookup_eq_fast];kernel_rfl) (by decide +kernel) (by decide +kernel) (by decide +kernel)
  (by first|exact .inl (by decide +kernel)|exact .inr (by decide +kernel)) (by rw [isSubtype_type];kernel_rfl)
theorem aNm:entryFor table "object.__getattribute__"=some Builtin.«object.__getattribute__»:=entryFor_of_tree (by kernel_rfl)
theorem vK:isSubtype (.type "function") (.type (".".intercalate ("object.__class__".cutAt '.').dropLast))=pure true:=by
 rw [F.owner_object_class,isSubtype_type];kernel_rfl
theorem sub_int:isSubtype (.type "function") (.type "int")=pure false:=by rw [isSubtype_type];kernel_rfl
theorem sub_bool:isSubtype (.type "function") (.type "bool")=pure false:=by rw [isSubtype_type];kernel_rfl
theorem aOw:isSubtype (.type "function") (.type "str")=pure false:=by rw [isSubtype_type];kernel_rfl
end IfF
section
variable {prog:Program} {w:World} {A:Around} {E:Value→Shared→Prop} {h:Heap} {g:Array GenState} {d:Drawn} {t:Nat} {os:OsState} {a:Addr} {o:Obj}
theorem aCs {R:Result→Shared→Prop} (hx:h.get? a=some o) (hc:o.cls=.type "function") (hq:R (.ok (.ret (.type "function"))) ⟨h,g,d,t,os⟩) :
  codeAny (model prog w) A (.call (.builtin "getset_descriptor.__get__") ⟨[.builtin "object.__class__",.ref a,.type "function"],[]⟩) R ⟨h,g,d,t,os⟩:=by
 have hT:(⟨h,g,d,t,os⟩:Shared).TypeIs (.ref a) "function":=⟨_,hx,hc⟩
 have hT5:(⟨h,g,d,t,os⟩:Shared).TypeIs (.builtin "object.__class__") "getset_descriptor":=F.typeOf_object_class
 have f8:=IfF.vK
 refine codeAny_call_builtin F.slot_gs_get.plain F.entry_gs_get (F.slot_gs_get.check _ _ _ _ _ _ _ _ hT5 (F.args_gs_get _ _ _) ?_)
 repeat (any_goals (first|assumption|wp_step))
 refine ⟨Code.quiet_builtin _ (by decide +kernel),codeAny_builtin F.entry_object_class ?_⟩
 repeat (any_goals (first|assumption|wp_step))
theorem xO {tk:Tok} {Q:Fin→Shared→Prop} (hx:h.get? a=some o) (hc:o.cls=.type "function") (hq:Q (.done (.ret (.type "function"))) ⟨h,g,d,t,os⟩) :
  wpAny (model prog w) A (Builtin.«object.__getattribute__» ⟨[.ref a,.str "__class__" tk],[]⟩) Q E ⟨h,g,d,t,os⟩:=by
 have hT:(⟨h,g,d,t,os⟩:Shared).TypeIs (.ref a) "function":=⟨_,hx,hc⟩
 have hT5:(⟨h,g,d,t,os⟩:Shared).TypeIs (.builtin "object.__class__") "getset_descriptor":=F.typeOf_object_class
 have f4:=IfF.aNg
 have f5:=F.typeOf_object_class
 have f6:=F.slot_gs_get.lookup
 have f7:=F.slot_gs_set.lookup
 repeat (any_goals (first|assumption|wp_step))
 refine aCs hx hc ?_
 repeat (any_goals (first|assumption|wp_step))
theorem aDl {tk:Tok} {Q:Value→Shared→Prop} (hx:h.get? a=some o) (hc:o.cls=.type "function") (hq:Q (.type "function") ⟨h,g,d,t,os⟩):wpAny (model prog w) A (getAttrBy (.ref a) (.str "__class__" tk) false) Q E ⟨h,g,d,t,os⟩:=by
 have hT:(⟨h,g,d,t,os⟩:Shared).TypeIs (.ref a) "function":=⟨_,hx,hc⟩
 have f2:=IfF.vO.lookup
 have f3:=IfF.vO.bind (.ref a)
 repeat (any_goals (first|assumption|wp_step))
 refine codeAny_call_builtin IfF.vO.plain IfF.aNm (IfF.vO.check _ _ _ _ _ _ _ _ hT (F.args_object_getattribute_2 _ _) (xO hx hc ?_))
 repeat (any_goals (first|assumption|wp_step))
theorem zK {Q:Option Value→Shared→Prop} (hx:h.get? a=some o) (hc:o.cls=.type "function") (hq:Q (some (.type "function")) ⟨h,g,d,t+1,os⟩):wpAny (model prog w) A (getAttr? (.ref a) "__class__") Q E ⟨h,g,d,t,os⟩:=by
 unfold getAttr? getAttrBy?
 repeat (any_goals (first|assumption|with_reducible apply aDl hx hc|wp_step))
theorem yR {T:String} {dep:Int} {tk:Tok} {Q:Fin→Shared→Prop} (hx:h.get? a=some o) (hc:o.cls=.type "function") (hne:(Value.type "function" == Value.type T)=false) (hty:typeOf (.type T)=pure (.type "type"))
  (hsub:isSubtype (.type "function") (.type T)=pure false) (hq:Q (.done (.ret (.bool false))) ⟨h,g,d,t+1,os⟩) :
  wpAny (model prog w) A (Builtin.«isinstance.nested» ⟨[.ref a,.type T,.int dep tk],[]⟩) Q E ⟨h,g,d,t,os⟩:=by
 have hT:(⟨h,g,d,t,os⟩:Shared).TypeIs (.ref a) "function":=⟨_,hx,hc⟩
 repeat (any_goals (first|assumption|with_reducible apply zK hx hc|wp_step))
end
theorem mD {a:Addr} {T:String} (hne:(Value.type "function" == Value.type T)=false) (hty:typeOf (.type T)=pure (.type "type")) (hsub:isSubtype (.type "function") (.type T)=pure false) :
  Meets (Builtin.«isinstance» ⟨[.ref a,.type T],[]⟩) (fun _ R s=>(∃o,s.heap.get? a=some o∧o.cls=.type "function")∧R (.ok (.ret (.bool false))) { s with toks:=s.toks+1 }):=
 fun _ _ _ _ s hs=>by
  obtain ⟨h,g,d,t,os⟩:=s
  obtain ⟨⟨o,hx,hc⟩,hq⟩:=hs
  exact isinstance_outer (yR hx hc hne hty hsub hq)
section
variable {prog:Program} {w:World} {A:Around} {E:Value→Shared→Prop} {s:Shared} {Q:Value→Shared→Prop} {a:Addr} {o:Obj}
theorem aHf (hx:s.heap.get? a=some o) (hc:o.cls=.type "function") (h:Q (.bool false) { s with toks:=s.toks+1 }):wpAny (model prog w) A (call (.builtin "isinstance") [.ref a,.type "int"]) Q E s:=
 call_isinstance (mD (by decide) F.isi_meta_int IfF.sub_int) ⟨⟨o,hx,hc⟩,h⟩
theorem aEf (hx:s.heap.get? a=some o) (hc:o.cls=.type "function") (h:Q (.bool false) { s with toks:=s.toks+1 }):wpAny (model prog w) A (call (.builtin "isinstance") [.ref a,.type "bool"]) Q E s:=
 call_isinstance (mD (by decide) F.isi_meta_bool IfF.sub_bool) ⟨⟨o,hx,hc⟩,h⟩
theorem aG6 (hx:s.heap.get? a=some o) (hc:o.cls=.type "function") (h:Q (.bool false) { s with toks:=s.toks+1 }):wpAny (model prog w) A (call (.builtin "isinstance") [.ref a,.type "str"]) Q E s:=
 call_isinstance (mD (by decide) F.isi_meta_str IfF.aOw) ⟨⟨o,hx,hc⟩,h⟩
end
end PySem
namespace L2
open PySem PySem.Spec PyProof.Rows
section
variable {X:Cx}
theorem PE.imp {e:Expr} {t t':TE} (h:PE X e t) (k:∀σ H Q,t' σ H Q→t σ H Q):PE X e t':=fun pins s σ H Q I q=>h pins s σ H Q I (k σ H Q q)
def aRq (K:PySem.W.Frag):List V→Hp→VK→Prop:=fun xs H Q=>∃(p:Addr) (bs:List Bool),xs=[.ref p]∧SqL K H p (bs.map V.bl)∧Q (.bl (bs.all id)) H
theorem all_range (bs:List Bool):(List.range bs.length).all (fun i=>bs.getD i false)=bs.all id:=by
 rw [Bool.eq_iff_iff,List.all_eq_true,List.all_eq_true]
 constructor
 ·intro h b hb
  obtain ⟨i,hi,e⟩:=List.mem_iff_getElem.mp hb
  have:=h i (List.mem_range.mpr hi)
  rw [List.getD_eq_getElem?_getD,List.getElem?_eq_getElem hi] at this
  rw [←e]
  exact this
 ·intro h i hi
  have hi:=List.mem_range.mp hi
  rw [List.getD_eq_getElem?_getD,List.getElem?_eq_getElem hi]
  exact h _ (List.getElem_mem hi)
theorem rA (hc:X.calm=true):CallR X (.builtin "all") (aRq X.K):=by
 intro pins s σ H xs us Q I r h
 obtain ⟨p,bs,rfl,hq,q⟩:=h
 obtain ⟨u,rfl,rx⟩:=r.one
 cases rx
 obtain ⟨its,rv,pl,hz⟩:=I.list hq
 have hl:=rv.length
 rw [List.length_map] at hl
 have hne:p≠s.heap.objs.size:=by
  obtain ⟨o,ho,_⟩:=pl.isList
  exact Nat.ne_of_lt (Heap.lt_size ho)
 refine call_all_walk (wpAny_pyIter_list pl.isList ?_)
 refine ⟨s.heap.objs.size,_,_,_,_,_,fun i=>bs.getD i false,rfl,Walks.list (show X.A.in1.handled=none from I.ok.hd hc) _ p hne its.toArray,⟨⟨_,Heap.get?_push_size _ rfl,rfl,rfl⟩,?_⟩,?_,fun h' tk kp=>?_⟩
 ·exact pl.isList.at fun o e=>Heap.get?_push_of_some _ e
 ·intro i v s' Q' E' hv hq'
  have hv':its[i]?=some v:=by simpa using hv
  have hi:i<bs.length:=by rw [hl];exact (List.getElem?_eq_some_iff.mp hv').1
  obtain ⟨u,hu,ru⟩:=rv.get (i:=i) (x:=.bl bs[i]) (by rw [List.getElem?_map,List.getElem?_eq_getElem hi];rfl)
  rw [hv'] at hu
  cases hu
  cases ru
  have e:bs.getD i false=bs[i]:=by rw [List.getD_eq_getElem?_getD,List.getElem?_eq_getElem hi];rfl
  replace hq':Q' (bs.getD i false) s':=hq'
  rw [e] at hq'
  exact wpAny_truthy_bool hq'
 ·have e:(List.range its.toArray.size).all (fun i=>bs.getD i false)=bs.all id:=by
   rw [List.size_toArray,←hl];exact all_range bs
  rw [e]
  refine ⟨.bl (bs.all id),H,?_,rfl,q⟩
  exact I.kept fun b o eo=>kp b o (by
   intro z
   have:b=s.heap.objs.size:=by simpa using z
   rw [this] at eo
   exact absurd (Heap.lt_size eo) (Nat.lt_irrefl _)) (Heap.get?_push_of_some _ eo)
inductive Rk (K:PySem.W.Frag) (H:Hp):V→String→Prop
 |non:Rk K H .non "NoneType"
 |lst {a xs}:SqL K H a xs→Rk K H (.ref a) "list"
 |tup {a xs}:SqT K H a xs→Rk K H (.ref a) "tuple"
 |dct {a kvs}:H a=some (.dK kvs)→Rk K H (.ref a) "dict"
 |fn {a o}:K.lookup a=some o→o.cls=.type "function"→Rk K H (.ref a) "function"
def aPx (K:PySem.W.Frag):List V→Hp→VK→Prop:=fun xs H Q=>∃x k T,xs=[x,.ty T]∧Rk K H x k∧(T = "int"∨T = "bool"∨T = "str")∧Q (.bl false) H
theorem oK:CallR X (.builtin "isinstance") (aPx X.K):=by
 intro pins s σ H xs us Q I r h
 obtain ⟨x,k,T,rfl,hx,hT,q⟩:=h
 obtain ⟨u,v,rfl,rx,rT⟩:=r.two
 cases rT
 have f1:EP X pins σ Q (.bool false) { s with toks:=s.toks+1 }:=⟨.bl _,H,I.tok _,rfl,q⟩
 cases hx with
 |non=>
  cases rx
  rcases hT with rfl|rfl|rfl
  ·exact IsiPair.NoneType_int f1
  ·exact IsiPair.NoneType_bool f1
  ·exact IsiPair.NoneType_str f1
 |lst hq=>
  cases rx
  obtain ⟨its,rv,⟨o,n,e,c,_⟩,hz⟩:=I.list hq
  rcases hT with rfl|rfl|rfl
  ·exact IsiPair.list_int e c f1
  ·exact IsiPair.list_bool e c f1
  ·exact IsiPair.list_str e c f1
 |tup hq=>
  cases rx
  obtain ⟨its,rv,⟨o,e,c,_⟩,hz⟩:=I.tuple hq
  rcases hT with rfl|rfl|rfl
  ·exact IsiPair.tuple_int e c f1
  ·exact IsiPair.tuple_bool e c f1
  ·exact IsiPair.tuple_str e c f1
 |dct hq=>
  cases rx
  obtain ⟨_,_,_,_,o,_,_,e,ex,_⟩:=I.hok _ _ hq
  rcases hT with rfl|rfl|rfl
  ·exact IsiPair.dict_int e ex.1 f1
  ·exact IsiPair.dict_bool e ex.1 f1
  ·exact IsiPair.dict_str e ex.1 f1
 |fn hk hc=>
  cases rx
  have e:=I.kIn _ _ hk
  rcases hT with rfl|rfl|rfl
  ·exact aHf e hc f1
  ·exact aEf e hc f1
  ·exact aG6 e hc f1
end
theorem dZ {X:Cx} {scope:Scope} (h:∀z∈scope.names,z.2≠.free):∀y,(y,NameKind.free)∈scope.names→X.env.kindOf y=some .cell∨X.env.kindOf y=some .free:=fun y hy=>absurd rfl (h _ hy)
theorem bT {X:Cx} {scope:Scope} (sc:Scope) (e:X.env.scope=sc) (h:∀z∈scope.names,z.2=.free→sc.names.lookup z.1=some .cell∨sc.names.lookup z.1=some .free) :
  ∀y,(y,NameKind.free)∈scope.names→X.env.kindOf y=some .cell∨X.env.kindOf y=some .free:=fun y hy=>by
 show X.env.scope.names.lookup y=some .cell∨X.env.scope.names.lookup y=some .free
 rw [e]
 exact h _ hy rfl
theorem Same.aN {K:PySem.W.Frag} {H H':Hp} {a:Addr} {xs:List V} (e:Same H H') (h:SqT K H a xs):SqT K H' a xs:=by
 rcases h with (h|⟨o,h⟩)|h
 ·exact .inl (.inl (e _ _ h))
 ·exact .inl (.inr ⟨o,e _ _ h⟩)
 ·exact .inr h
theorem aW {H:Hp} {p:Addr} (h:H p=none) (o:HO):Same H (upd H p o):=fun b u q=>by rw [upd_ne (ne_of_none q h)];exact q
theorem Rk.same {K:PySem.W.Frag} {H H':Hp} {v:V} {k:String} (e:Same H H') (h:Rk K H v k):Rk K H' v k:=by
 cases h with
 |non=>exact .non
 |lst q=>exact .lst (e.seq q)
 |tup q=>exact .tup (e.aN q)
 |dct q=>exact .dct (e _ _ q)
 |fn q c=>exact .fn q c
theorem iT {X:Cx} {scope:Scope} {x:Str} {σ:St}:Cap X scope [x] σ [none]:=⟨rfl,fun i y v _ h2=>by
 cases i with
 |zero=>cases h2
 |succ i=>cases h2⟩
section
theorem aJu {X:Cx} {scope:Scope} {N:List Str} {wi:TI} {te:TE} {σ:St} {H:Hp} {Q:VK} (xs:List V) (f:V→V) (σ0:St) (cap:Cap X scope N σ σ0) (hsz:xs.length≤sizeLine)
  (hw:∀R:It→Hp→Prop,(∀J:It,(∀H' i x,Same H H'→xs[i]?=some x→J.go i H'∧∀y H2,J.yld i H' y H2→H2=H'∧y=x)→(∀H',Same H H'→J.stop xs.length H')→R J H)→wi σ H R)
  (he:∀x∈xs,∀H' R l,Same H H'→R (f x) H'→te ((σ0.set 0 l).set 0 (some x)) H' R) (h0:σ0[0]?=some none)
  (q:∀D,H D=none→Q (.ref D) (upd H D (.lst (xs.map f)))) :
  eX X scope N wi (gName 0) jT te σ H Q:=by
 refine ⟨σ0,cap,hw _ fun J go stop D hD=>?_⟩
 have sm:∀ys:List V,Same H (upd H D (.lst ys)):=fun ys b o e=>by rw [upd_ne (ne_of_none e hD)];exact e
 refine ⟨fun i m σ' H' ys=>i≤xs.length∧m=xs.length - i∧(∃l,σ'=σ0.set 0 l)∧H'=upd H D (.lst ys)∧ys=(xs.take i).map f,⟨xs.length,Nat.zero_le _,rfl,⟨none,?_⟩,rfl,rfl⟩,?_⟩
 ·refine (List.ext_getElem? fun j=>?_)
  rw [List.getElem?_set]
  split
  ·rename_i hj
   subst hj
   split
   ·exact h0
   ·rename_i hlt
    exact List.getElem?_eq_none_iff.mpr (by omega)
  ·rfl
 ·rintro i m σ' H' ys ⟨hi,rfl,⟨l,rfl⟩,rfl,rfl⟩
  refine ⟨upd_same,?_⟩
  by_cases hlt:i<xs.length
  ·right
   obtain ⟨g1,g2⟩:=go (upd H D (.lst ((xs.take i).map f))) i xs[i] (sm _) (List.getElem?_eq_getElem hlt)
   refine ⟨g1,fun x H2 hy=>?_⟩
   obtain ⟨rfl,rfl⟩:=g2 x H2 hy
   unfold gName jT
   dsimp only
   rw [if_pos rfl]
   refine he xs[i] (List.getElem_mem hlt) _ _ l (sm _) ⟨upd_same,?_,xs.length - (i+1),by omega,hlt,rfl,⟨some xs[i],?_⟩,?_,?_⟩
   ·rw [List.length_map,List.length_take];omega
   ·rw [List.set_set]
   ·rw [upd_upd]
   ·rw [List.take_add_one,List.getElem?_eq_getElem hlt,List.map_append]
    rfl
  ·left
   have e:i=xs.length:=by omega
   subst e
   refine ⟨stop _ (sm _),?_⟩
   rw [List.take_length]
   exact q D hD
theorem aRc {z:Str} {tl:TE} {σ:St} {H:Hp} (h:∀R:VK,R (.str z) H→tl σ H R) (R:It→Hp→Prop)
  (q:∀J:It,(∀H' i x,Same H H'→((List.range z.cps.size).map fun i=>V.str (sgn z i))[i]?=some x→J.go i H'∧∀y H2,J.yld i H' y H2→H2=H'∧y=x) →
   (∀H',Same H H'→J.stop ((List.range z.cps.size).map fun i=>V.str (sgn z i)).length H')→R J H):aQh tl σ H R:=by
 refine h _ ⟨z,rfl,q _ (fun H' i x _ e=>?_) fun H' _=>?_⟩
 ·rw [List.getElem?_map] at e
  have hi:i<z.cps.size:=by
   cases hr:(List.range z.cps.size)[i]? with
   |none=>rw [hr] at e;cases e
   |some j=>have:=(List.getElem?_eq_some_iff.mp hr).1;rwa [List.length_range] at this
  rw [List.getElem?_range hi] at e
  cases e
  exact ⟨hi,fun y H2 hy=>hy⟩
 ·rw [List.length_map,List.length_range]
  exact Nat.le_refl _
theorem jH {K:PySem.W.Frag} {a:Addr} {xs:List V} {tl:TE} {σ:St} {H:Hp} (hS:∀H',Same H H'→SqL K H' a xs) (h:∀R:VK,R (.ref a) H→tl σ H R) (R:It→Hp→Prop)
  (q:∀J:It,(∀H' i x,Same H H'→xs[i]?=some x→J.go i H'∧∀y H2,J.yld i H' y H2→H2=H'∧y=x)→(∀H',Same H H'→J.stop xs.length H')→R J H):iList K tl σ H R:=by
 refine h _ ⟨a,rfl,⟨xs,hS H (Same.refl H)⟩,q _ (fun H' i x s e=>⟨⟨xs,x,hS H' s,e⟩,fun y H2 hy=>?_⟩) fun H' s=>⟨xs,hS H' s,Nat.le_refl _⟩⟩
 obtain ⟨e1,e2⟩:=hy
 have e3:=e2 xs (hS H' s)
 rw [e] at e3
 cases e3
 exact ⟨e1,rfl⟩
end
end L2
namespace PySem
abbrev oV (t:Addr) (i:Nat):Obj:={ cls:=.type "tuple_iterator",data:=.fields #[.ref t,.int (i:Int) 0] }
abbrev tE (f0:Value) (TI TO:Addr):Obj:={ cls:=.type "zip",dict:=none,data:=.fields #[f0,.bool false,.bool false,.ref TI,.ref TO],slots:=#[] }
abbrev lM (a b:Value):Obj:={ cls:=.type "tuple",data:=.seq #[a,b] }
section
variable {prog:Program} {w:World} {A:Around} {E:Value→Shared→Prop} {s:Shared}
theorem wZ {it t:Addr} {i:Nat} {its:Array Value} {x:Value} {Q:Value→Shared→Prop} (ho:s.heap.get? it=some (oV t i)) (ht:s.heap.IsTuple t its) (hx:its[i]?=some x)
  (q:∀h',h'.get? it=some (oV t (i+1))→Heap.SameBut it s.heap h'→Q x { s with heap:=h' }):wpAny (model prog w) A (Builtin.SmallTypes.nextOf (.ref it)) Q E s:=by
 have hT:s.TypeIs (.ref it) "tuple_iterator":=⟨_,ho,rfl⟩
 obtain ⟨ol,hol,_,nl,hdl⟩:=ht
 unfold Builtin.SmallTypes.nextOf
 refine wpAny_bind (wpAny_callSpecial?_slot (name:=Str.ofString "__next__") hT F.slot_tuple_iterator_next (wpAny_call_entry F.slot_tuple_iterator_next hT F.entry_tuple_iterator_next ?_ (F.args_tuple_iterator_next_1 _)))
 refine wpAny_bind (m:=field (.ref it) 0) (wpAny_field ho rfl (x:=.ref t) rfl ?_)
 refine (if_neg (show ¬ ((Value.ref t == Value.none)=true) from Bool.false_ne_true)).symm ▸ ?_
 refine wpAny_bind (m:=field (.ref it) 1) (wpAny_field ho rfl (x:=.int i 0) rfl ?_)
 refine wpAny_bind (m:=seqItems? (.ref t)) (wpAny_seqItems hol hdl ?_)
 simp only [Int.toNat_natCast,hx]
 refine wpAny_bind (wpAny_setField ho rfl (by simp) (wpAny_pure ⟨x,rfl,wpAny_pure (q _ ?_ (Heap.SameBut.update ..))⟩))
 exact Heap.get?_update_self _ ho rfl
theorem wX {it t:Addr} {i:Nat} {its:Array Value} {Q:Value→Shared→Prop} (hh:A.handled=none) (ho:s.heap.get? it=some (oV t i)) (ht:s.heap.IsTuple t its) (hx:its[i]?=none)
  (q:∀h' e,Heap.ExtBut it s.heap h'→(∃o,h'.get? e=some o∧o.cls=.type "StopIteration")→E (.ref e) { s with heap:=h' }):wpAny (model prog w) A (Builtin.SmallTypes.nextOf (.ref it)) Q E s:=by
 have hT:s.TypeIs (.ref it) "tuple_iterator":=⟨_,ho,rfl⟩
 obtain ⟨ol,hol,_,nl,hdl⟩:=ht
 unfold Builtin.SmallTypes.nextOf
 refine wpAny_bind (wpAny_callSpecial?_slot (name:=Str.ofString "__next__") hT F.slot_tuple_iterator_next (wpAny_call_entry F.slot_tuple_iterator_next hT F.entry_tuple_iterator_next ?_ (F.args_tuple_iterator_next_1 _)))
 refine wpAny_bind (m:=field (.ref it) 0) (wpAny_field ho rfl (x:=.ref t) rfl ?_)
 refine (if_neg (show ¬ ((Value.ref t == Value.none)=true) from Bool.false_ne_true)).symm ▸ ?_
 refine wpAny_bind (m:=field (.ref it) 1) (wpAny_field ho rfl (x:=.int i 0) rfl ?_)
 refine wpAny_bind (m:=seqItems? (.ref t)) (wpAny_seqItems hol hdl ?_)
 simp only [Int.toNat_natCast,hx]
 refine wpAny_bind (wpAny_rule (wpAny_bind (wpAny_setField ho rfl (by simp) ?_)))
 unfold Builtin.SmallTypes.stopIteration
 refine wpAny_bind ?_
 simp only [newExc,newTuple]
 refine wpAny_bind (wpAny_newObj_type ?_ (by size_fits))
 refine wpAny_bind (m:=firstArgMember _ _) (wpAny_of_eq (a:=Value.none) (by first|rfl|(simp only [firstArgMember];rfl)) ?_)
 refine wpAny_newObj_type ?_ (by size_fits)
 simp only [raiseNew]
 refine wpAny_bind (wpAny_handled ?_)
 first|rw [show A.in1.handled=none from hh]|rw [hh]
 refine wpAny_bind (wpAny_pure (wpAny_throw ?_))
 exact q _ _ (((Heap.SameBut.update ..).extBut.push _).push _) ⟨_,Heap.get?_push_size _ rfl,rfl⟩
structure aAz (z TI TO a b:Addr):Prop where
 h1:TI≠z
 h2:TO≠z
 h3:a≠z
 h4:b≠z
 h5:TI≠TO
 h6:TI≠a
 h7:TI≠b
 h8:TO≠a
 h9:TO≠b
 h10:a≠b
theorem aI5 {T:Addr} {a b x:Value} {k:Nat} {Q:Unit→Shared→Prop} (hT:s.heap.get? T=some (lM a b))
  (q:∀h',h'.get? T=some { cls:=.type "tuple",data:=.seq ((#[a,b]:Array Value).setIfInBounds k x) }→Heap.SameBut T s.heap h'→Q () { s with heap:=h' }) :
  wpAny (model prog w) A (updateSeq T (·.setIfInBounds k x)) Q E s:=by
 refine wpAny_updateSeq hT rfl (q _ ?_ (Heap.SameBut.update ..))
 rw [Heap.get?_update_self _ hT rfl]
 simp [Obj.mapSeq]
theorem aJ7 {z TI TO i1 i2 t u:Addr} {k:Nat} {xs ys:Array Value} {x y a b:Value} {Q:Option Value→Shared→Prop} (D:aAz z TI TO i1 i2)
  (hz:s.heap.get? z=some (tE .none TI TO)) (hTI:s.heap.get? TI=some (lM (.ref i1) (.ref i2))) (hTO:s.heap.get? TO=some (lM a b))
  (g1:s.heap.get? i1=some (oV t k)) (g2:s.heap.get? i2=some (oV u k)) (ht:s.heap.IsTuple t xs) (hu:s.heap.IsTuple u ys) (hx:xs[k]?=some x) (hy:ys[k]?=some y)
  (t1:t≠z) (t2:t≠TO) (t3:t≠i1) (t4:t≠i2) (u1:u≠z) (u2:u≠TO) (u3:u≠i1) (u4:u≠i2)
  (q:∀h',h'.get? z=some (tE (rawInt s.heap.objs.size) TI TO)→h'.get? TO=some (lM x y)→h'.get? i1=some (oV t (k+1))→h'.get? i2=some (oV u (k+1))→h'.get? s.heap.objs.size=some (lM x y) →
   (∀c o,c≠z→c≠TO→c≠i1→c≠i2→s.heap.get? c=some o→h'.get? c=some o)→Q (some (.ref s.heap.objs.size)) { s with heap:=h' }) :
  wpAny (model prog w) A (pyNext (.ref z)) Q E s:=by
 have hT:s.TypeIs (.ref z) "zip":=⟨_,hz,rfl⟩
 unfold pyNext
 refine wpAny_bind (wpAny_attempt (wpAny_callSpecial?_slot (name:=Str.ofString "__next__") hT F.slot_zip_next (wpAny_call_entry F.slot_zip_next hT F.entry_zip_next ?_ (F.args_zip_next_1 _))))
 refine wpAny_bind (m:=field (.ref z) 2) (wpAny_field hz rfl (x:=.bool false) rfl ?_)
 refine wpAny_bind (m:=field (.ref z) 3) (wpAny_field hz rfl (x:=.ref TI) rfl (wpAny_bind (wpAny_seqItems hTI rfl ?_)))
 refine wpAny_bind (m:=Builtin.SmallTypes.ownedTupleIsFree (.ref z)) ?_
 unfold Builtin.SmallTypes.ownedTupleIsFree
 refine wpAny_bind (wpAny_field hz rfl (x:=.none) rfl (wpAny_pure ?_))
 simp only [if_true]
 refine wpAny_bind (wpAny_rule (wpAny_bind (wpAny_field hz rfl (x:=.ref TO) rfl (wpAny_bind (wpAny_setField_rec hz (by simp) fun h1 z1 s1=>?_)))))
 replace z1:h1.get? z=some (tE .ellipsis TI TO):=z1
 refine wpAny_bind ?_
 simp only [List.zipIdx_cons,List.zipIdx_nil,List.forIn_cons,List.forIn_nil]
 refine wpAny_bind (wpAny_bind (wpAny_onRaise ?_))
 refine wpAny_bind (m:=Builtin.SmallTypes.nextOf (.ref i1)) (wZ (s:={ s with heap:=h1 }) (s1.extBut _ _ D.h3 g1) (ht.extBut s1.extBut t1) hx fun h2 g12 s2=>wpAny_pure ?_)
 have TO2:h2.get? TO=some (lM a b):=s2.extBut _ _ D.h8 (s1.extBut _ _ D.h2 hTO)
 refine wpAny_bind (wpAny_seqItems TO2 rfl (wpAny_bind (aI5 (s:={ s with heap:=h2 }) TO2 fun h3 TO3 s3=>wpAny_bind (wpAny_letGo (wpAny_pure ?_)))))
 replace TO3:h3.get? TO=some (lM x b):=TO3
 refine wpAny_bind (wpAny_bind (wpAny_onRaise ?_))
 refine wpAny_bind (m:=Builtin.SmallTypes.nextOf (.ref i2)) (wZ (s:={ s with heap:=h3 }) (s3.extBut _ _ D.h9.symm (s2.extBut _ _ D.h10.symm (s1.extBut _ _ D.h4 g2))) (((hu.extBut s1.extBut u1).extBut s2.extBut u3).extBut s3.extBut u2) hy fun h4 g24 s4=>wpAny_pure ?_)
 have TO4:h4.get? TO=some (lM x b):=s4.extBut _ _ D.h9 TO3
 refine wpAny_bind (wpAny_seqItems TO4 rfl (wpAny_bind (aI5 (s:={ s with heap:=h4 }) TO4 fun h5 TO5 s5=>wpAny_bind (wpAny_letGo (wpAny_pure (wpAny_pure ?_))))))
 replace TO5:h5.get? TO=some (lM x y):=TO5
 refine wpAny_bind (wpAny_seqItems TO5 rfl (wpAny_bind (wpAny_newTuple ?_)))
 have hsz:h5.objs.size=s.heap.objs.size:=by rw [s5.1,s4.1,s3.1,s2.1,s1.1]
 have z5:h5.get? z=some (tE .ellipsis TI TO):=s5.extBut _ _ D.h2.symm (s4.extBut _ _ D.h4.symm (s3.extBut _ _ D.h2.symm (s2.extBut _ _ D.h3.symm z1)))
 have kp:∀c o,c≠z→c≠TO→c≠i1→c≠i2→s.heap.get? c=some o→h5.get? c=some o:=fun c o c1 c2 c3 c4 e=>s5.extBut _ _ c2 (s4.extBut _ _ c4 (s3.extBut _ _ c2 (s2.extBut _ _ c3 (s1.extBut _ _ c1 e))))
 have g15:h5.get? i1=some (oV t (k+1)):=s5.extBut _ _ D.h8.symm (s4.extBut _ _ D.h10 (s3.extBut _ _ D.h8.symm g12))
 have g25:h5.get? i2=some (oV u (k+1)):=s5.extBut _ _ D.h9.symm g24
 refine wpAny_bind (m:=Builtin.SmallTypes.ownedTupleHandOut (.ref z) (.ref h5.objs.size)) ?_
 unfold Builtin.SmallTypes.ownedTupleHandOut
 have z6:(h5.push (lM x y)).get? z=some (tE .ellipsis TI TO):=Heap.get?_push_of_some _ z5
 refine wpAny_bind (wpAny_setField_rec z6 (by simp) fun h7 z7 s7=>?_)
 replace z7:h7.get? z=some (tE (rawInt h5.objs.size) TI TO):=z7
 refine wpAny_setField_rec z7 (by simp) fun h8 z8 s8=>?_
 replace z8:h8.get? z=some (tE (rawInt h5.objs.size) TI TO):=z8
 have up:∀c o,c≠z→h5.get? c=some o→h8.get? c=some o:=fun c o c1 e=>s8.extBut _ _ c1 (s7.extBut _ _ c1 (Heap.get?_push_of_some _ e))
 have nz:h5.objs.size≠z:=Nat.ne_of_gt (Heap.lt_size z5)
 have T8:h8.get? h5.objs.size=some (lM x y):=s8.extBut _ _ nz (s7.extBut _ _ nz (Heap.get?_push_size _ rfl))
 rw [hsz] at z8 T8
 refine wpAny_pure ⟨_,rfl,wpAny_pure ?_⟩
 show Q (some (.ref h5.objs.size)) _
 rw [hsz]
 exact q h8 z8 (up _ _ D.h2 TO5) (up _ _ D.h3 g15) (up _ _ D.h4 g25) T8 fun c o c1 c2 c3 c4 e=>up c o c1 (kp c o c1 c2 c3 c4 e)
theorem aLx {z TI TO i1 i2 t:Addr} {k:Nat} {xs:Array Value} {a b:Value} {Q:Option Value→Shared→Prop} (hh:A.handled=none) (D:aAz z TI TO i1 i2)
  (hz:s.heap.get? z=some (tE .none TI TO)) (hTI:s.heap.get? TI=some (lM (.ref i1) (.ref i2))) (hTO:s.heap.get? TO=some (lM a b))
  (g1:s.heap.get? i1=some (oV t k)) (ht:s.heap.IsTuple t xs) (hx:xs[k]?=none) (t1:t≠z)
  (q:∀h',(∀c o,c≠z→c≠TO→c≠i1→c≠i2→s.heap.get? c=some o→h'.get? c=some o)→Q none { s with heap:=h' }) :
  wpAny (model prog w) A (pyNext (.ref z)) Q E s:=by
 have hT:s.TypeIs (.ref z) "zip":=⟨_,hz,rfl⟩
 unfold pyNext
 refine wpAny_bind (wpAny_attempt (wpAny_callSpecial?_slot (name:=Str.ofString "__next__") hT F.slot_zip_next (wpAny_call_entry F.slot_zip_next hT F.entry_zip_next ?_ (F.args_zip_next_1 _))))
 refine wpAny_bind (m:=field (.ref z) 2) (wpAny_field hz rfl (x:=.bool false) rfl ?_)
 refine wpAny_bind (m:=field (.ref z) 3) (wpAny_field hz rfl (x:=.ref TI) rfl (wpAny_bind (wpAny_seqItems hTI rfl ?_)))
 refine wpAny_bind (m:=Builtin.SmallTypes.ownedTupleIsFree (.ref z)) ?_
 unfold Builtin.SmallTypes.ownedTupleIsFree
 refine wpAny_bind (wpAny_field hz rfl (x:=.none) rfl (wpAny_pure ?_))
 simp only [if_true]
 refine wpAny_bind (wpAny_rule (wpAny_bind (wpAny_field hz rfl (x:=.ref TO) rfl (wpAny_bind (wpAny_setField_rec hz (by simp) fun h1 z1 s1=>?_)))))
 replace z1:h1.get? z=some (tE .ellipsis TI TO):=z1
 refine wpAny_bind ?_
 simp only [List.zipIdx_cons,List.zipIdx_nil,List.forIn_cons,List.forIn_nil]
 refine wpAny_bind (wpAny_bind (wpAny_onRaise ?_))
 refine wpAny_bind (m:=Builtin.SmallTypes.nextOf (.ref i1)) (wX (s:={ s with heap:=h1 }) hh (s1.extBut _ _ D.h3 g1) (ht.extBut s1.extBut t1) hx fun h2 e s2 he=>?_)
 obtain ⟨oe,hoe,hce⟩:=he
 have z2:h2.get? z=some (tE .ellipsis TI TO):=s2 _ _ D.h3.symm z1
 have hez:e≠z:=fun x=>by subst x;rw [z2] at hoe;cases hoe;simp at hce
 refine wpAny_setField_rec z2 (by simp) fun h3 _ s3=>?_
 refine wpAny_bind (wpAny_isInstance (T:="StopIteration") (b:=true) ⟨oe,s3.extBut _ _ hez hoe,hce⟩ isSubtype_stop ?_)
 exact wpAny_pure (q _ fun c o c1 _ c3 _ x=>s3.extBut _ _ c1 (s2 _ _ c3 (s1.extBut _ _ c1 x)))
end
end PySem
namespace PySem
section
variable {prog:Program} {w:World} {A:Around} {E:Value→Shared→Prop} {s:Shared}
abbrev zT1 (h:Heap) (t:Addr):Heap:=h.push (oV t 0)
abbrev zT2 (h:Heap) (t u:Addr):Heap:=(zT1 h t).push (oV u 0)
abbrev zT3 (h:Heap) (t u:Addr):Heap:=(zT2 h t u).push (lM (.ref h.objs.size) (.ref (zT1 h t).objs.size))
abbrev zT4 (h:Heap) (t u:Addr):Heap:=(zT3 h t u).push (lM .none .none)
abbrev zT5 (h:Heap) (t u:Addr):Heap:=(zT4 h t u).push (tE .none (zT2 h t u).objs.size (zT3 h t u).objs.size)
theorem aHx (t u:Addr) (xs ys:Array Value):Meets (Builtin.«zip.__new__» ⟨[.type "zip",.ref t,.ref u],[]⟩)
  (fun _ R s=>s.heap.IsTuple t xs∧s.heap.IsTuple u ys∧R (.ok (.ret (.ref (zT4 s.heap t u).objs.size))) { s with heap:=zT5 s.heap t u }):=
 .of_wp fun prog w A R s h=>by
  obtain ⟨hp,g,d,tk,os⟩:=s
  obtain ⟨a1,a2,h⟩:=h
  have hsub:=sub_zip
  have b1:Heap.IsTuple (Shared.heap ⟨hp,g,d,tk,os⟩) t xs:=a1
  have b2:Heap.IsTuple (Shared.heap ⟨hp.push { cls:=.type "tuple_iterator",data:=.fields #[.ref t,.int 0 0] },g,d,tk,os⟩) u ys:=by
   obtain ⟨o,ho,r⟩:=a2
   exact ⟨o,Heap.get?_push_of_some _ ho,r⟩
  wp_walk using wpAny_pyIter_tuple b1,wpAny_pyIter_tuple b2
  exact ⟨_,rfl,h⟩
theorem aJt {t u:Addr} {xs ys:Array Value} {Q:Value→Shared→Prop} (ht:s.heap.IsTuple t xs) (hu:s.heap.IsTuple u ys) (q:Q (.ref (zT4 s.heap t u).objs.size) { s with heap:=zT5 s.heap t u }) :
  wpAny (model prog w) A (call (.type "zip") [.ref t,.ref u]) Q E s:=by
 refine callType_new F.called_zip (by decide) (F.typeCall_zip_2 _ _) (F.newCall_zip_2 _ _) (fun obj=>F.args_object_init_3 obj _ _) F.entry_zip_new (aHx t u xs ys) ⟨ht,hu,?_⟩
 exact ⟨⟨_,Heap.get?_push_size _ rfl,rfl⟩,q⟩
end
end PySem
namespace L2
open PySem PySem.Spec PyProof.Rows
section
variable {X:Cx} {pins:List (Addr × Obj)} {σ:St} {H:Hp} {s:Shared}
theorem Inv.tup_ne {t b:Addr} {xs:List V} (I:Inv X pins σ H s) (h:SqT X.K H t xs) (f:FpOk X pins H b):t≠b:=by
 rintro rfl
 obtain ⟨f0,f1,f2,f3,_⟩:=f
 rcases h with (h|⟨o,h⟩)|⟨o,its,n,hk,_⟩
 ·rw [f0] at h;cases h
 ·rw [f0] at h;cases h
 ·have e:=I.ok.mod.kin t o hk
  rcases f3 with z|z
  ·exact I.ok.noex t o e z
  ·exact absurd (Nat.lt_of_lt_of_le (Heap.lt_size e) (Nat.le_trans I.ok.bsz z)) (Nat.lt_irrefl _)
theorem Inv.drawn {ch:List Addr} {h':Heap} {vs:List V} {its:List Value} {T:Addr} (I:Inv X pins σ H s) (hch:∀b∈ch,FpOk X pins H b) (kp:∀b o,b∉ch→s.heap.get? b=some o→h'.get? b=some o)
  (hT:s.heap.objs.size≤T) (hv:Vals vs its) (hz:vs.length≤sizeLine) (ho:tL h' T its.toArray) (hth:∀b∈ch,∃o,h'.get? b=some o):Inv X pins σ (upd H T (.tup vs)) { s with heap:=h' }:=by
 have fT:H T=none:=I.hok.fresh hT
 have nT:∀b o,s.heap.get? b=some o→b≠T:=fun b o e=>Nat.ne_of_lt (Nat.lt_of_lt_of_le (Heap.lt_size e) hT)
 have nch:∀b u,H b=some u→b∉ch:=fun b u e z=>by rw [(hch b z).1] at e;cases e
 refine I.step (g':=s.gens) (d':=s.drawn) (t':=s.toks) (ch:=ch) (fun b hb=>?_) (fun b o _ _ hc e _=>kp b o hc e) (fun b o _ _ hc e _=>⟨o.slots,kp b o hc e⟩) (fun b o hc e n=>by rw [upd_ne (nT b o e)];exact n)
  (fun b o hc e=>⟨o,kp b o hc e⟩) (fun b xs e=>by rw [upd_ne (ne_of_none e fT)];exact e) (fun b o u e=>by rw [upd_ne (ne_of_none e fT)];exact e) (fun b ps e=>⟨#[],by rw [upd_ne (ne_of_none e fT),e];simp⟩) (fun m hm=>?_) (fun b u e=>?_) I.bare
 ·obtain ⟨_,f1,_,f3,f4,f5⟩:=hch b hb
  exact ⟨f3,f1,f4,f5⟩
 ·obtain ⟨o,es,ep,ho',r⟩:=hm
  exact ⟨o,es,ep,kp _ o (fun z=>(hch _ z).2.1 rfl) ho',r⟩
 ·by_cases hb:b=T
  ·subst hb
   rw [upd_same] at e
   cases e
   exact ⟨hz,its,hv,ho⟩
  ·rw [upd_ne hb] at e
   refine (I.hok b u e).stay (fun c v hc' q=>kp c v ?_ q) (fun c q=>by rw [upd_ne (ne_of_none q fT)];exact q) fun c xs q=>by rw [upd_ne (ne_of_none q fT)];exact q
   rcases hc' with z|z
   ·rw [z];exact nch b u e
   ·exact nch c _ z
theorem Inv.aIz {ch:List Addr} {h':Heap} (I:Inv X pins σ H s) (hch:∀b∈ch,FpOk X pins H b) (kp:∀b o,b∉ch→s.heap.get? b=some o→h'.get? b=some o):Inv X pins σ H { s with heap:=h' }:=by
 have nch:∀b u,H b=some u→b∉ch:=fun b u e z=>by rw [(hch b z).1] at e;cases e
 refine I.step (g':=s.gens) (d':=s.drawn) (t':=s.toks) (ch:=ch) (fun b hb=>?_) (fun b o _ _ hc e _=>kp b o hc e) (fun b o _ _ hc e _=>⟨o.slots,kp b o hc e⟩) (fun _ _ _ _ n=>n)
  (fun b o hc e=>⟨o,kp b o hc e⟩) (fun _ _ e=>e) (fun _ _ _ e=>e) (fun b ps e=>⟨#[],by rw [e];simp⟩) (fun m hm=>?_) (fun b u e=>?_) I.bare
 ·obtain ⟨_,f1,_,f3,f4,f5⟩:=hch b hb
  exact ⟨f3,f1,f4,f5⟩
 ·obtain ⟨o,es,ep,ho',r⟩:=hm
  exact ⟨o,es,ep,kp _ o (fun z=>(hch _ z).2.1 rfl) ho',r⟩
 ·refine (I.hok b u e).stay (fun c v hc' q=>kp c v ?_ q) (fun _ q=>q) fun _ _ q=>q
  rcases hc' with z|z
  ·rw [z];exact nch b u e
  ·exact nch c _ z
end
def Itz (K:PySem.W.Frag) (t u:Addr) (xs ys:List V):It:=
 ⟨fun i H=>SqT K H t xs∧SqT K H u ys∧i<xs.length∧i<ys.length,fun i H v H'=>∃T a b,H T=none∧v=.ref T∧H'=upd H T (.tup [a,b])∧xs[i]?=some a∧ys[i]?=some b,fun i H=>SqT K H t xs∧xs.length≤i⟩
def ztn (z TI TO i1 i2 t u:Addr) (i:Nat) (h:Heap):Prop:=
 h.get? z=some (tE .none TI TO)∧h.get? TI=some (lM (.ref i1) (.ref i2))∧(∃a b,h.get? TO=some (lM a b))∧h.get? i1=some (oV t i)∧h.get? i2=some (oV u i)
theorem aL9 {P:Program} {w:World} {K:PySem.W.Frag} {elts:List Expr} {kt:Nat} {pos:Pos} {z TI TO i1 i2 t u:Addr} {xs ys:List V} (D:aAz z TI TO i1 i2) :
  Turn P w K (.Tuple elts kt pos) (Itz K t u xs ys) [z,TI,TO,i1,i2] z (ztn z TI TO i1 i2 t u) where
 mem:=by simp
 obj:=fun i h st b hb=>by
  obtain ⟨e1,e2,⟨a,c,e3⟩,e4,e5⟩:=st
  simp only [List.mem_cons,List.not_mem_nil,or_false] at hb
  rcases hb with rfl|rfl|rfl|rfl|rfl
  ·exact ⟨_,e1,fun v z=>by cases (show Data.fields _=Data.cell v from z)⟩
  ·exact ⟨_,e2,fun v z=>by cases (show Data.seq _ _=Data.cell v from z)⟩
  ·exact ⟨_,e3,fun v z=>by cases (show Data.seq _ _=Data.cell v from z)⟩
  ·exact ⟨_,e4,fun v z=>by cases (show Data.fields _=Data.cell v from z)⟩
  ·exact ⟨_,e5,fun v z=>by cases (show Data.fields _=Data.cell v from z)⟩
 keep:=fun i h h' st k=>by
  obtain ⟨e1,e2,⟨a,c,e3⟩,e4,e5⟩:=st
  exact ⟨k z (by simp) _ e1,k TI (by simp) _ e2,⟨a,c,k TO (by simp) _ e3⟩,k i1 (by simp) _ e4,k i2 (by simp) _ e5⟩
 item:=by
  intro X hP hw hK hc i pins s σ H E I hf st hg
  subst hP hw hK
  obtain ⟨e1,e2,⟨a0,c0,e3⟩,e4,e5⟩:=st
  obtain ⟨ht,hu,l1,l2⟩:=hg
  obtain ⟨its,rv,pt,hz⟩:=I.tuple ht
  obtain ⟨jts,rw',pu,hz'⟩:=I.tuple hu
  obtain ⟨x,hx,rx⟩:=rv.get (List.getElem?_eq_getElem l1)
  obtain ⟨y,hy,ry⟩:=rw'.get (List.getElem?_eq_getElem l2)
  have fz:=hf z (by simp)
  have fO:=hf TO (by simp)
  have f1:=hf i1 (by simp)
  have f2:=hf i2 (by simp)
  refine aJ7 D e1 e2 e3 e4 e5 (show s.heap.IsTuple t its.toArray from pt) (show s.heap.IsTuple u jts.toArray from pu) (by simpa using hx) (by simpa using hy) (I.tup_ne ht fz) (I.tup_ne ht fO) (I.tup_ne ht f1) (I.tup_ne ht f2)
   (I.tup_ne hu fz) (I.tup_ne hu fO) (I.tup_ne hu f1) (I.tup_ne hu f2) fun h' a1 a2 a3 a4 a5 kp=>?_
  refine ⟨_,rfl,?_⟩
  have fT:H s.heap.objs.size=none:=I.hok.fresh (Nat.le_refl _)
  have I1:Inv X pins σ (upd H s.heap.objs.size (.tup [xs[i],ys[i]])) { s with heap:=h' }:=by
   refine I.drawn (ch:=[z,TO,i1,i2]) (its:=[x,y]) (fun b hb=>?_) (fun b o hb e=>?_) (Nat.le_refl _) (.cons rx (.cons ry .nil)) (small (by simp)) (.of a5 rfl ⟨_,a5,rfl,_,rfl⟩) (fun b hb=>?_)
   ·refine hf b ?_
    simp only [List.mem_cons,List.not_mem_nil,or_false] at hb ⊢
    rcases hb with h|h|h|h <;> simp [h]
   ·simp only [List.mem_cons,List.not_mem_nil,or_false,not_or] at hb
    exact kp b o hb.1 hb.2.1 hb.2.2.1 hb.2.2.2 e
   ·simp only [List.mem_cons,List.not_mem_nil,or_false] at hb
    rcases hb with rfl|rfl|rfl|rfl
    ·exact ⟨_,a1⟩
    ·exact ⟨_,a2⟩
    ·exact ⟨_,a3⟩
    ·exact ⟨_,a4⟩
  have nT:∀b∈[z,TI,TO,i1,i2],b≠s.heap.objs.size:=fun b hb=>by
   have e:∃o,s.heap.get? b=some o:=by
    simp only [List.mem_cons,List.not_mem_nil,or_false] at hb
    rcases hb with rfl|rfl|rfl|rfl|rfl
    ·exact ⟨_,e1⟩
    ·exact ⟨_,e2⟩
    ·exact ⟨_,e3⟩
    ·exact ⟨_,e4⟩
    ·exact ⟨_,e5⟩
   obtain ⟨o,e⟩:=e
   exact Nat.ne_of_lt (Heap.lt_size e)
  refine wpAny_letOwnedTupleGo_zip (s:={ s with heap:=h' }) a1 fun h2 z2 s2=>?_
  obtain ⟨g0,g1,g2,g3,g4,g5⟩:=fz
  have I2:Inv X pins σ (upd H s.heap.objs.size (.tup [xs[i],ys[i]])) { s with heap:=h2 }:=Inv.turned (s:={ s with heap:=h' }) I1 (t':=s.toks) (it:=z) (fun b o hb e=>(s2.2 b hb).trans e) (by rw [upd_ne (nT z (by simp))];exact g0) g1 g3 g4 g5
  refine ⟨.ref s.heap.objs.size,_,I2,rfl,⟨_,_,_,fT,rfl,rfl,List.getElem?_eq_getElem l1,List.getElem?_eq_getElem l2⟩,?_,fun b hb=>by rw [upd_ne (nT b hb)];exact (hf b hb).1⟩
  exact ⟨z2,s2.extBut _ _ D.h1 (kp TI _ D.h1 D.h5 D.h6 D.h7 e2),⟨_,_,s2.extBut _ _ D.h2 a2⟩,s2.extBut _ _ D.h3 a3,s2.extBut _ _ D.h4 a4⟩
 done:=by
  intro X hP hw hK hc i pins s σ H E I hf st hg
  subst hP hw hK
  obtain ⟨e1,e2,⟨a0,c0,e3⟩,e4,e5⟩:=st
  obtain ⟨ht,hl⟩:=hg
  obtain ⟨its,rv,pt,hz⟩:=I.tuple ht
  have hlen:=rv.length
  refine aLx (I.ok.hd hc) D e1 e2 e3 e4 (show s.heap.IsTuple t its.toArray from pt) (by simp;omega) (I.tup_ne ht (hf z (by simp))) fun h' kp=>⟨rfl,?_⟩
  refine Inv.aIz (ch:=[z,TO,i1,i2]) I (fun b hb=>hf b ?_) fun b o hb e=>?_
  ·simp only [List.mem_cons,List.not_mem_nil,or_false] at hb ⊢
   rcases hb with h|h|h|h <;> simp [h]
  ·simp only [List.mem_cons,List.not_mem_nil,or_false,not_or] at hb
   exact kp b o hb.1 hb.2.1 hb.2.2.1 hb.2.2.2 e
 self:=fun _ _ _ _ _ st h=>wpAny_pyIter_zip st.1 h
section
variable {X:Cx}
def aIl (K:PySem.W.Frag) (ta:TA):TI:=fun σ H R=>ta σ H fun vs H1=>∃t u xs ys,vs=[.ref t,.ref u]∧SqT K H1 t xs∧SqT K H1 u ys∧R (Itz K t u xs ys) H1
theorem aOd {elts:List Expr} {kt:Nat} {tp:Pos} {a b:Expr} {ta:TA} {p pos:Pos} (hg:Gl X "zip") (hm:X.mg "zip"=none) (ha:PA X [a,b] ta) (hs:starEach [a,b] X.env=(false,eval a X.env)::starEach [b] X.env:=by rfl)
  (hs2:starEach [b] X.env=[(false,eval b X.env)]:=by rfl):PI X (.Tuple elts kt tp) (.Call (.Name "zip" p) [a,b] [] pos) (aIl X.K ta):=by
 intro pins s σ H R I h
 refine Call_ (ld_blt I hg hm aQf (PyProof.Rows.callWith_type1 (thn (ha pos pins s σ H _ I h) fun us s1 ⟨vs,H1,I1,r1,q1⟩=>?_) hs (by rw [hs2];rfl)))
 obtain ⟨t,u,xs,ys,e,ht,hu,q⟩:=q1
 subst e
 obtain ⟨its,rv,pt,hz⟩:=I1.tuple ht
 obtain ⟨jts,rw',pu,hz'⟩:=I1.tuple hu
 cases r1 with
 |cons r rr=>
  cases rr with
  |cons r' rr'=>
   cases rr'
   cases r
   cases r'
   refine aJt (show s1.heap.IsTuple t its.toArray from pt) (show s1.heap.IsTuple u jts.toArray from pu) ?_
   have z1:(zT1 s1.heap t).objs.size=s1.heap.objs.size+1:=Heap.size_push ..
   have z2:(zT2 s1.heap t u).objs.size=s1.heap.objs.size+2:=by rw [Heap.size_push,z1]
   have z3:(zT3 s1.heap t u).objs.size=s1.heap.objs.size+3:=by rw [Heap.size_push,z2]
   have z4:(zT4 s1.heap t u).objs.size=s1.heap.objs.size+4:=by rw [Heap.size_push,z3]
   have D:aAz (zT4 s1.heap t u).objs.size (zT2 s1.heap t u).objs.size (zT3 s1.heap t u).objs.size s1.heap.objs.size (zT1 s1.heap t).objs.size:=by
    constructor <;> (show (_:Nat)≠(_:Nat);rw [Ne];intro h;simp only [z1,z2,z3,z4] at h;omega)
   have g5:(zT5 s1.heap t u).get? (zT4 s1.heap t u).objs.size=some (tE .none (zT2 s1.heap t u).objs.size (zT3 s1.heap t u).objs.size):=Heap.get?_push_size _ rfl
   have g4:(zT5 s1.heap t u).get? (zT3 s1.heap t u).objs.size=some (lM .none .none):=Heap.get?_push_of_some _ (Heap.get?_push_size _ rfl)
   have g3:(zT5 s1.heap t u).get? (zT2 s1.heap t u).objs.size=some (lM (.ref s1.heap.objs.size) (.ref (zT1 s1.heap t).objs.size)):=Heap.get?_push_of_some _ (Heap.get?_push_of_some _ (Heap.get?_push_size _ rfl))
   have g2:(zT5 s1.heap t u).get? (zT1 s1.heap t).objs.size=some (oV u 0):=Heap.get?_push_of_some _ (Heap.get?_push_of_some _ (Heap.get?_push_of_some _ (Heap.get?_push_size _ rfl)))
   have g1:(zT5 s1.heap t u).get? s1.heap.objs.size=some (oV t 0):=Heap.get?_push_of_some _ (Heap.get?_push_of_some _ (Heap.get?_push_of_some _ (Heap.get?_push_of_some _ (Heap.get?_push_size _ rfl))))
   have I2:Inv X pins σ H1 { s1 with heap:=zT5 s1.heap t u }:=I1.kept (t':=s1.toks) fun b o e=>Heap.get?_push_of_some _ (Heap.get?_push_of_some _ (Heap.get?_push_of_some _ (Heap.get?_push_of_some _ (Heap.get?_push_of_some _ e))))
   refine wpAny_pyIter_zip (s:={ s1 with heap:=zT5 s1.heap t u }) g5 ⟨_,_,_,_,H1,rfl,I2,aL9 (xs:=xs) (ys:=ys) D,⟨g5,g3,⟨_,_,g4⟩,g1,g2⟩,fun b hb=>?_,q⟩
   have hb':s1.heap.objs.size≤b:=by
    simp only [List.mem_cons,List.not_mem_nil,or_false] at hb
    rcases hb with rfl|rfl|rfl|rfl|rfl
    ·rw [z4];exact Nat.le_add_right ..
    ·rw [z2];exact Nat.le_add_right ..
    ·rw [z3];exact Nat.le_add_right ..
    ·exact Nat.le_refl _
    ·rw [z1];exact Nat.le_add_right ..
   exact I1.fpOk hb' (I1.hok.fresh hb')
end
section
variable {X:Cx}
inductive Tk (K:PySem.W.Frag) (H:Hp):V→Bool→Prop
 |int {i}:Tk K H (.int i) false
 |str {x}:Tk K H (.str x) false
 |bl {b}:Tk K H (.bl b) false
 |non:Tk K H .non false
 |lst {a xs}:SqL K H a xs→Tk K H (.ref a) false
 |dct {a kvs}:H a=some (.dK kvs)→Tk K H (.ref a) false
 |tup {a xs}:SqT K H a xs→Tk K H (.ref a) true
def aRt (K:PySem.W.Frag):List V→Hp→VK→Prop:=fun xs H Q=>∃x b,xs=[x,.ty "tuple"]∧Tk K H x b∧Q (.bl b) H
theorem gO:CallR X (.builtin "isinstance") (aRt X.K):=by
 intro pins s σ H xs us Q I r h
 obtain ⟨x,b,rfl,hx,q⟩:=h
 obtain ⟨u,v,rfl,rx,rT⟩:=r.two
 cases rT
 have f0:EP X pins σ Q (.bool b) s:=⟨.bl _,H,I,rfl,q⟩
 have f1:EP X pins σ Q (.bool b) { s with toks:=s.toks+1 }:=⟨.bl _,H,I.tok _,rfl,q⟩
 cases hx with
 |int=>obtain ⟨t,rfl⟩:=rx;exact IsiPair.int_tuple f1
 |str=>obtain ⟨t,rfl⟩:=rx;exact IsiPair.str_tuple f1
 |bl=>cases rx;exact IsiPair.bool_tuple f1
 |non=>cases rx;exact IsiPair.NoneType_tuple f1
 |lst hq=>
  cases rx
  obtain ⟨its,rv,⟨o,n,e,c,_⟩,hz⟩:=I.list hq
  exact IsiPair.list_tuple e c f1
 |dct hq=>
  cases rx
  obtain ⟨_,_,_,_,o,_,_,e,ex,_⟩:=I.hok _ _ hq
  exact IsiPair.dict_tuple e ex.1 f1
 |tup hq=>
  cases rx
  obtain ⟨its,rv,⟨o,e,c,_⟩,hz⟩:=I.tuple hq
  exact IsiPair.tuple_tuple e c f0
end
section
variable {X:Cx} {scope:Scope} {N:List Str} {wi:TI} {te:TE} {σ:St} {H:Hp} {Q:VK}
theorem cU {σ0:St} {j:Nat} (h0:σ0[j]?=some none):σ0=σ0.set j none:=by
 refine (List.ext_getElem? fun i=>?_)
 rw [List.getElem?_set]
 split
 ·rename_i hj
  subst hj
  split
  ·exact h0
  ·rename_i hlt
   exact List.getElem?_eq_none_iff.mpr (by omega)
 ·rfl
theorem aK5 (xs:List V) (f:V→V) (σ0:St) (cap:Cap X scope N σ σ0) (hsz:xs.length≤sizeLine)
  (hw:∀R:It→Hp→Prop,(∀J:It,(∀H' i x,Same H H'→xs[i]?=some x→J.go i H'∧∀y H2,J.yld i H' y H2→H2=H'∧y=x)→(∀H',Same H H'→J.stop xs.length H')→R J H)→wi σ H R)
  (he:∀x∈xs,∀H' R l,Same H H'→(∀H2,Same H' H2→R (f x) H2)→te ((σ0.set 0 l).set 0 (some x)) H' R) (h0:σ0[0]?=some none)
  (q:∀D H',Same H H'→H' D=some (.lst (xs.map f))→Q (.ref D) H') :
  eX X scope N wi (gName 0) jT te σ H Q:=by
 refine ⟨σ0,cap,hw _ fun J go stop D hD=>?_⟩
 refine ⟨fun i m σ' H' ys=>i≤xs.length∧m=xs.length - i∧(∃l,σ'=σ0.set 0 l)∧Same H H'∧H' D=some (.lst ys)∧ys=(xs.take i).map f,⟨xs.length,Nat.zero_le _,rfl,⟨none,cU h0⟩,aW hD _,upd_same,rfl⟩,?_⟩
 rintro i m σ' H' ys ⟨hi,rfl,⟨l,rfl⟩,sm,hL,rfl⟩
 refine ⟨hL,?_⟩
 by_cases hlt:i<xs.length
 ·right
  obtain ⟨g1,g2⟩:=go H' i xs[i] sm (List.getElem?_eq_getElem hlt)
  refine ⟨g1,fun x H2 hy=>?_⟩
  obtain ⟨rfl,rfl⟩:=g2 x H2 hy
  unfold gName jT
  dsimp only
  rw [if_pos rfl]
  refine he xs[i] (List.getElem_mem hlt) _ _ l sm fun H3 s3=>⟨s3 _ _ hL,?_,xs.length - (i+1),by omega,hlt,rfl,⟨some xs[i],?_⟩,?_,upd_same,?_⟩
  ·rw [List.length_map,List.length_take];omega
  ·rw [List.set_set]
  ·intro b o e
   rw [upd_ne (ne_of_none e hD)]
   exact s3 _ _ (sm _ _ e)
  ·rw [List.take_add_one,List.getElem?_eq_getElem hlt,List.map_append]
   rfl
 ·left
  have e:i=xs.length:=by omega
  subst e
  refine ⟨stop _ sm,?_⟩
  rw [List.take_length] at hL
  exact q D _ sm hL
theorem gP {K:PySem.W.Frag} {a:Addr} {xs:List V} {tl:TE} (hS:SqT K H a xs) (h:∀R:VK,R (.ref a) H→tl σ H R) (R:It→Hp→Prop)
  (q:∀J:It,(∀H' i x,Same H H'→xs[i]?=some x→J.go i H'∧∀y H2,J.yld i H' y H2→H2=H'∧y=x)→(∀H',Same H H'→J.stop xs.length H')→R J H):iTup K tl σ H R:=by
 refine h _ ⟨a,rfl,⟨xs,hS⟩,q _ (fun H' i x s e=>⟨⟨xs,x,s.aN hS,e⟩,fun y H2 hy=>?_⟩) fun H' s=>⟨xs,s.aN hS,Nat.le_refl _⟩⟩
 obtain ⟨e1,e2⟩:=hy
 have e3:=e2 xs (s.aN hS)
 rw [e] at e3
 cases e3
 exact ⟨e1,rfl⟩
end
section
variable {κ:Type} [DecidableEq κ]
def valV (kvs:List (κ × V)) (k:κ):Option V:=(kvs.find? fun kv=>decide (kv.1=k)).map (·.2)
def putK (kvs:List (κ × V)) (k:κ) (v:V):List (κ × V):=
 if (kvs.any fun kv=>decide (kv.1=k))=true then kvs.map (fun kv=>if kv.1=k then (kv.1,v) else kv) else kvs++[(k,v)]
theorem valV_pos {p:κ × V} {r:List (κ × V)} {k:κ} (e:p.1=k):valV (p::r) k=some p.2:=by simp [valV,List.find?_cons,e]
theorem valV_neg {p:κ × V} {r:List (κ × V)} {k:κ} (e:¬ p.1=k):valV (p::r) k=valV r k:=by simp [valV,List.find?_cons,e]
theorem valV_any (k:κ):∀kvs:List (κ × V),(kvs.any fun kv=>decide (kv.1=k))=(valV kvs k).isSome
 |[]=>rfl
 |p::r=>by
  rw [List.any_cons]
  by_cases e:p.1=k
  ·simp only [valV_pos e,decide_eq_true e,Bool.true_or,Option.isSome_some]
  ·rw [valV_neg e,decide_eq_false e,Bool.false_or];exact valV_any k r
theorem length_putK (kvs:List (κ × V)) (k:κ) (v:V):(putK kvs k v).length≤kvs.length+1:=by
 unfold putK
 split
 ·rw [List.length_map];omega
 ·rw [List.length_append,List.length_cons,List.length_nil];omega
theorem putK_new {kvs:List (κ × V)} {k:κ} (v:V) (h:valV kvs k=none):putK kvs k v=kvs++[(k,v)]:=by
 unfold putK
 rw [valV_any,h]
 exact if_neg (by decide)
theorem RelO.isSome_eq {o:Option V} {u:Option Value} (r:RelO o u):o.isSome=u.isSome:=by
 cases o with
 |none=>cases u with
  |none=>rfl
  |some _=>exact (show False from r).elim
 |some _=>cases u with
  |none=>exact (show False from r).elim
  |some _=>rfl
theorem KV.val {kvs:List (κ × V)} {vs:List (κ × Value)} (r:KV kvs vs) (k:κ):RelO (valV kvs k) (valueAt vs k):=by
 unfold KV at r
 induction r with
 |nil=>exact True.intro
 |@cons p q ps qs h t ih=>
  obtain ⟨h1,h2⟩:=h
  by_cases e:p.1=k
  ·have e':q.1=k:=h1.symm.trans e
   have b:valueAt (q::qs) k=some q.2:=by simp [valueAt,List.find?_cons,e']
   rw [valV_pos e,b];exact h2
  ·have e':¬ q.1=k:=fun z=>e (h1.trans z)
   have b:valueAt (q::qs) k=valueAt qs k:=by simp [valueAt,List.find?_cons,e']
   rw [valV_neg e,b];exact ih
theorem KV.any {kvs:List (κ × V)} {vs:List (κ × Value)} (r:KV kvs vs) (k:κ):(kvs.any fun kv=>decide (kv.1=k))=vs.any fun kv=>decide (kv.1=k):=by
 unfold KV at r
 induction r with
 |nil=>rfl
 |cons h t ih=>rw [List.any_cons,List.any_cons,ih,h.1]
theorem KV.repl {kvs:List (κ × V)} {vs:List (κ × Value)} (r:KV kvs vs) (k:κ) {y:V} {u:Value} (ry:RelV y u) :
  KV (kvs.map fun kv=>if kv.1=k then (kv.1,y) else kv) (vs.map fun kv=>if kv.1=k then (kv.1,u) else kv):=by
 unfold KV at r ⊢
 induction r with
 |nil=>exact .nil
 |@cons p q ps qs h t ih=>
  rw [List.map_cons,List.map_cons]
  refine .cons ?_ ih
  obtain ⟨h1,h2⟩:=h
  by_cases e:p.1=k
  ·rw [if_pos e,if_pos (h1.symm.trans e)];exact ⟨h1,ry⟩
  ·rw [if_neg e,if_neg (fun z=>e (h1.trans z))];exact ⟨h1,h2⟩
theorem KV.put {kvs:List (κ × V)} {vs:List (κ × Value)} (r:KV kvs vs) (k:κ) {y:V} {u:Value} (ry:RelV y u):KV (putK kvs k y) (stored vs k u):=by
 unfold putK stored
 rw [r.any k]
 by_cases e:(vs.any fun kv=>decide (kv.1=k))=true
 ·rw [if_pos e,if_pos e];exact r.repl k ry
 ·rw [if_neg e,if_neg e];exact Paired.snoc r ⟨rfl,ry⟩
theorem KV.length {kvs:List (κ × V)} {vs:List (κ × Value)} (r:KV kvs vs):kvs.length=vs.length:=Paired.length r
end
theorem kV_is {P:Program} {w:World} {k:Key} {u:Value} (r:RelV (kV k) u):(mixKind P w).is k u=true:=by
 cases k with
 |inl i=>obtain ⟨t,e⟩:=(show ∃t,u=Value.int i t from r);subst e;exact mixKind_int P w i t
 |inr x=>obtain ⟨t,e⟩:=(show ∃t,u=Value.str x t from r);subst e;exact mixKind_str P w x t
theorem items_are {P:Program} {w:World}:∀{ks:List Key} {us:List Value},Vals (ks.map kV) us→ItemsAre (mixKind P w) ks us
 |[],_,r=>by rw [List.map_nil] at r;cases r;exact .nil
 |k::ks,_,r=>by
  rw [List.map_cons] at r
  cases r with
  |cons h t=>exact .cons (kV_is h) (items_are t)
abbrev KT (H:Hp):List (List Key × V)→List (List Key × Addr × Value)→Prop:=Paired fun p q=>p.1=q.1∧H q.2.1=some (.tup (p.1.map kV))∧RelV p.2 q.2.2
theorem KT.val {H:Hp} {kvs:List (List Key × V)} {xs:List (List Key × Addr × Value)} (r:KT H kvs xs) (k:List Key):RelO (valV kvs k) ((atKey xs k).map (·.2)):=by
 induction r with
 |nil=>exact True.intro
 |@cons p q ps qs h t ih=>
  obtain ⟨h1,_,h2⟩:=h
  by_cases e:p.1=k
  ·have e':q.1=k:=h1.symm.trans e
   have b:atKey (q::qs) k=some q.2:=by simp [atKey,List.find?_cons,e']
   rw [valV_pos e,b];exact h2
  ·have e':¬ q.1=k:=fun z=>e (h1.trans z)
   have b:atKey (q::qs) k=atKey qs k:=by simp [atKey,List.find?_cons,e']
   rw [valV_neg e,b];exact ih
theorem KT.repl {H:Hp} {kvs:List (List Key × V)} {xs:List (List Key × Addr × Value)} (r:KT H kvs xs) (k:List Key) {y:V} {u:Value} (ry:RelV y u) :
  KT H (kvs.map fun kv=>if kv.1=k then (kv.1,y) else kv) (xs.map (putAt k u)):=by
 induction r with
 |nil=>exact .nil
 |@cons p q ps qs h t ih=>
  rw [List.map_cons,List.map_cons]
  refine .cons ?_ ih
  obtain ⟨h1,h2,h3⟩:=h
  unfold putAt
  by_cases e:p.1=k
  ·rw [if_pos e,if_pos (h1.symm.trans e)];exact ⟨h1,h2,ry⟩
  ·rw [if_neg e,if_neg (fun z=>e (h1.trans z))];exact ⟨h1,h2,h3⟩
theorem KT.put {H:Hp} {kvs:List (List Key × V)} {xs:List (List Key × Addr × Value)} (r:KT H kvs xs) (k:List Key) {b:Addr} {y:V} {u:Value} (hb:H b=some (.tup (k.map kV))) (ry:RelV y u) :
  KT H (putK kvs k y) (storedH xs k b u):=by
 have e:(kvs.any fun kv=>decide (kv.1=k))=(atKey xs k).isSome:=by
  rw [valV_any,(r.val k).isSome_eq,Option.isSome_map]
 unfold putK storedH
 rw [e]
 by_cases q:(atKey xs k).isSome=true
 ·rw [if_pos q,if_pos q];exact r.repl k ry
 ·rw [if_neg q,if_neg q];exact Paired.snoc r ⟨rfl,hb,ry⟩
theorem KT.keeps {H H':Hp} {kvs:List (List Key × V)} {xs:List (List Key × Addr × Value)} (r:KT H kvs xs) (ht:∀b ys,H b=some (.tup ys)→H' b=some (.tup ys)):KT H' kvs xs:=
 Paired.mapP r fun _ _ z=>⟨z.1,ht _ _ z.2.1,z.2.2⟩
section
variable {P:Program} {w:World} {H:Hp} {h:Heap} {a:Addr}
theorem rd_of {u:HO} (ok:HOk P w H h) (e:Rd H a u):ObjOk P w H h a u:=e.ok ok
theorem dk_rd {kvs:List (Key × V)} (ok:HOk P w H h) (e:Rd H a (.dK kvs)):kvs.length≤sizeLine∧(a == sysModules)=false∧∃vs,KV kvs vs∧h.DictOf (mixKind P w) a vs:=
 show ObjOk P w H h a (.dK kvs) from rd_of ok e
theorem dk_of {kvs:List (Key × V)} (ok:HOk P w H h) (e:H a=some (.dK kvs)):kvs.length≤sizeLine∧(a == sysModules)=false∧∃vs,KV kvs vs∧h.DictOf (mixKind P w) a vs:=dk_rd ok (.inl e)
theorem key_of {ks:List Key} (ok:HOk P w H h) (e:H a=some (.tup (ks.map kV))):(tupleKind (mixKind P w)).is h ks a:=by
 obtain ⟨_,its,r,⟨o,h1,h2,n,h3⟩,_⟩:=(show ObjOk P w H h a (.tup (ks.map kV)) from ok a _ e)
 exact ⟨o,its.toArray,n,h1,h2,h3,by simpa using items_are r⟩
theorem dt_rd {kvs:List (List Key × V)} (ok:HOk P w H h) (e:Rd H a (.dT kvs)):kvs.length≤sizeLine∧(a == sysModules)=false ∧
  ∃xs,KT H kvs xs∧h.DictOfH (tupleKind (mixKind P w)) a xs:=by
 obtain ⟨z,y,xs,r,o,es,ep,h1,h2,h3,h4,h5⟩:=(show ObjOk P w H h a (.dT kvs) from rd_of ok e)
 refine ⟨z,y,xs,r,o,es,ep,h1,h2,h3,h4,fun x hx=>?_,h5⟩
 have all:∀{l:List (List Key × V)} {m:List (List Key × Addr × Value)},KT H l m→∀x∈m,(tupleKind (mixKind P w)).is h x.1 x.2.1:=by
  intro l m q
  induction q with
  |nil=>intro x hx;exact nomatch hx
  |@cons p q ps qs hq t ih=>
   intro x hx
   rcases List.mem_cons.mp hx with e|hx
   ·subst e
    exact key_of ok (by rw [←hq.1];exact hq.2.1)
   ·exact ih x hx
 exact all r x hx
theorem dt_of {kvs:List (List Key × V)} (ok:HOk P w H h) (e:H a=some (.dT kvs)):kvs.length≤sizeLine∧(a == sysModules)=false ∧
  ∃xs,KT H kvs xs∧h.DictOfH (tupleKind (mixKind P w)) a xs:=dt_rd ok (.inl e)
end
def DGet (H:Hp) (a:Addr) (y:V) (r:Option V):Prop:=
 (∃kvs k,Rd H a (.dK kvs)∧y=kV k∧r=valV kvs k)∨∃kvs k b,Rd H a (.dT kvs)∧y=.ref b∧H b=some (.tup (k.map kV))∧r=valV kvs k
theorem DGet.k {H:Hp} {a:Addr} {kvs:List (Key × V)} {k:Key} (e:H a=some (.dK kvs)):DGet H a (kV k) (valV kvs k):=.inl ⟨kvs,k,.inl e,rfl,rfl⟩
section
variable {X:Cx} {pins:List (Addr × Obj)} {σ:St} {H:Hp} {s:Shared} {a:Addr} {y v:V} {u r:Value} {o:Option V} {A:Around} {E:Value→Shared→Prop}
theorem Inv.big (I:Inv X pins σ H s):sysModules<s.heap.objs.size:=by
 have h:mainGlobals<s.heap.objs.size:=(I.mod.glob.keeps I.bk).lt
 exact Nat.lt_trans (by decide) h
theorem d_getItem {Q:Value→Shared→Prop} (hu:A.units+1<cLine) (I:Inv X pins σ H s) (g:DGet H a y (some v)) (ry:RelV y u) (h:∀w' s',Inv X pins σ H s'→RelV v w'→Q w' s') :
  wpAny (model X.prog X.w) A (getItem (.ref a) u) Q E s:=by
 rcases g with ⟨kvs,k,e,ey,l⟩|⟨kvs,k,b,e,ey,eb,l⟩
 ·subst ey
  obtain ⟨z,hd,vs,rel,dd⟩:=dk_rd I.hok e
  obtain ⟨w',hw,rw'⟩:=RelO.some_of (v:=v) (o:=valueAt vs k) (by rw [l];exact rel.val k)
  exact wpAny_getItem_of (kV_is ry) dd.mapOf hw (h w' _ (I.tok _) rw')
 ·subst ey
  cases (show u=Value.ref b from ry)
  obtain ⟨z,hd,xs,rel,dd⟩:=dt_rd I.hok e
  obtain ⟨w',hw,rw'⟩:=RelO.some_of (v:=v) (o:=(atKey xs k).map (·.2)) (by rw [l];exact rel.val k)
  obtain ⟨p,hp,hp2⟩:=Option.map_eq_some_iff.mp hw
  refine wpAny_getItem_heap (tupleKind_room_in1 hu) (key_of I.hok eb) dd hp ?_
  rw [hp2]
  exact h w' _ (I.tok _) rw'
theorem d_notIn {Q:Value→Shared→Prop} (hu:A.units+1<cLine) (I:Inv X pins σ H s) (g:DGet H a y o) (ry:RelV y u) (h:∀s',Inv X pins σ H s'→Q (.bool (!o.isSome)) s') :
  wpAny (model X.prog X.w) A (compareOp .NotIn u (.ref a)) Q E s:=by
 rcases g with ⟨kvs,k,e,ey,l⟩|⟨kvs,k,b,e,ey,eb,l⟩
 ·subst ey
  obtain ⟨z,hd,vs,rel,dd⟩:=dk_rd I.hok e
  refine wpAny_notIn_of (kV_is ry) hd dd.mapOf ?_
  rw [←(rel.val k).isSome_eq,←l]
  exact h _ (I.tok _)
 ·subst ey
  cases (show u=Value.ref b from ry)
  obtain ⟨z,hd,xs,rel,dd⟩:=dt_rd I.hok e
  refine wpAny_notIn_heap (tupleKind_room_in1 hu) (key_of I.hok eb) hd dd ?_
  have q:=(rel.val k).isSome_eq
  rw [Option.isSome_map] at q
  rw [←q,←l]
  exact h _ (I.tok _)
theorem d_write {h':Heap} {t':Nat} {ob:HO} (I:Inv X pins σ H s) (mu:Mut (H a)) (hs:Heap.SameBut a s.heap h') (he:∃q,h'.get? a=some q) (new:ObjOk X.prog X.w (upd H a ob) h' a ob) :
  Inv X pins σ (upd H a ob) { s with heap:=h',toks:=t' }:=
 I.write (x:=a) (e:=a) mu (.inl rfl) (fun b q hb z=>(hs.2 b hb).trans z) he new
theorem dk_new {P:Program} {w:World} {H':Hp} {h':Heap} {kvs:List (Key × V)} {vs:List (Key × Value)} (z:kvs.length≤sizeLine) (hd:(a == sysModules)=false) (rel:KV kvs vs) (dd:h'.DictOf (mixKind P w) a vs) :
  ObjOk P w H' h' a (.dK kvs):=⟨z,hd,vs,rel,dd⟩
end
section
variable {X:Cx} {pins:List (Addr × Obj)} {σ:St} {H:Hp} {s:Shared} {a:Addr} {kvs:List (Key × V)} {k:Key} {u:Value} {A:Around} {E:Value→Shared→Prop}
end
def NoSl (i:Expr):Prop:=∀ov iv,subscripted i false ov iv=operate [ov,iv] (getItem ov iv)
theorem subD_of {prog:Program} {w:World} {A:Around} {E:Value→Shared→Prop} {s:Shared} {env:Env} {value slice:Expr} {pos:Pos} {T id:String} {Q:Value→Shared→Prop}
  (hl:typeLookup (.type T) "__getitem__"=pure (some (.builtin id))) (hs:NoSl slice)
  (h:wpAny (model prog w) A (eval value env) (fun o s₁=>wpAny (model prog w) A (eval slice env) (fun i s₂=>s₂.TypeIs o T∧wpAny (model prog w) A (getItem o i) Q E s₂) E s₁) E s) :
  wpAny (model prog w) A (eval (.Subscript value slice pos) env) Q E s:=by
 refine Subscript_ (wpAny_mono h (fun o s₁ h₁=>wpAny_mono h₁ (fun i s₂ h₂=>?_) fun _ _ x=>x) fun _ _ x=>x)
 obtain ⟨hT,h₂⟩:=h₂
 unfold subscriptTail
 refine wpAny_bind ?_
 rw [getitemInPython_of_ne hT.not_modules]
 refine wpAny_bind (wpAny_specialOf hT hl ?_)
 have fin:wpAny (model prog w) A (subscripted slice false o i) (fun r s₃=>wpAny (model prog w) A (letTemporaryGo value o r >>= fun _=>pure r) Q E s₃) E s₂:=by
  rw [hs o i]
  exact wpAny_operating (wpAny_mono h₂ (fun r s₃ h₃=>wpAny_bind (wpAny_letTemporaryGo (wpAny_pure h₃))) fun _ _ x=>x)
 first
  |exact wpAny_pure (wpAny_bind fin)
  |exact wpAny_bind (wpAny_pure (wpAny_bind fin))
  |exact wpAny_bind fin
theorem dict_typeIs {X:Cx} {pins:List (Addr × Obj)} {σ:St} {H:Hp} {s:Shared} {a:Addr} {y:V} {o:Option V} (I:Inv X pins σ H s) (g:DGet H a y o):s.TypeIs (.ref a) "dict":=by
 rcases g with ⟨kvs,k,e,_,_⟩|⟨kvs,k,b,e,_,_,_⟩
 ·obtain ⟨_,_,vs,_,dd⟩:=dk_rd I.hok e
  exact dd.typeIs
 ·obtain ⟨_,_,xs,_,dd⟩:=dt_rd I.hok e
  exact dd.typeIs
def tDGet (td ty:TE):TE:=fun σ H Q=>td σ H fun x H1=>ty σ H1 fun y H2=>∃a v,x=.ref a∧DGet H2 a y (some v)∧Q v H2
def tDNotIn (ty td:TE):TE:=fun σ H Q=>ty σ H fun y H1=>td σ H1 fun x H2=>∃a o,x=.ref a∧DGet H2 a y o∧Q (.bl (!o.isSome)) H2
section
variable {X:Cx} {o i e value:Expr} {pos pos' tpos:Pos} {td ty tv:TE}
theorem pe_dget (hu:X.A.units+1<cLine) (ho:PE X o td) (hi:PE X i ty) (hs:NoSl i):PE X (.Subscript o i pos) (tDGet td ty):=by
 intro pins s σ H Q I h
 refine subD_of PySem.F.slot_dict_getitem.lookup hs (thn (ho pins s σ H _ I h) fun u s1 ⟨x,H1,I1,rx,q1⟩=>thn (hi pins s1 σ H1 _ I1 q1) fun iv s2 ⟨y,H2,I2,ry,a,v,ex,g,q2⟩=>?_)
 subst ex
 obtain rfl:u=Value.ref a:=rx
 exact ⟨dict_typeIs I2 g,d_getItem hu I2 g ry fun w' s3 I3 rw'=>⟨v,H2,I3,rw',q2⟩⟩
theorem pc_dnotin (hu:X.A.units+1<cLine) (hi:PE X i ty) (ho:PE X o td):PC X .NotIn i o (tDNotIn ty td):=by
 intro pins s σ H Q I h
 refine thn (hi pins s σ H _ I h) fun iv s1 ⟨y,H1,I1,ry,q1⟩=>thn (ho pins s1 σ H1 _ I1 q1) fun u s2 ⟨x,H2,I2,rx,a,ov,ex,g,q2⟩=>?_
 subst ex
 obtain rfl:u=Value.ref a:=rx
 exact d_notIn hu I2 g ry fun s3 I3=>⟨.bl (!ov.isSome),H2,I3,rfl,q2⟩
end
theorem dk_empty {P:Program} {w:World} {H:Hp} (h:Heap) (hb:sysModules<h.objs.size):ObjOk P w H (h.push { cls:=.type "dict",data:=.dict #[] }) h.objs.size (.dK []):=
 ⟨Nat.zero_le _,beq_eq_false_iff_ne.mpr (Ne.symm (Nat.ne_of_lt hb)),[],.nil,Heap.DictOf.new h⟩
theorem dt_empty {P:Program} {w:World} {H:Hp} (h:Heap) (hb:sysModules<h.objs.size):ObjOk P w H (h.push { cls:=.type "dict",data:=.dict #[] }) h.objs.size (.dT []):=
 ⟨Nat.zero_le _,beq_eq_false_iff_ne.mpr (Ne.symm (Nat.ne_of_lt hb)),[],.nil,_,#[],0,Heap.get?_push_size _ rfl,⟨rfl,rfl,rfl⟩,rfl,rfl,List.nodup_nil⟩
def tDNewT:TE:=fun _ H Q=>∀p,H p=none→Q (.ref p) (upd H p (.dT []))
section
variable {X:Cx} {pos:Pos}
theorem pe_dnewT:PE X (.Dict [] [] pos) tDNewT:=fun pins s σ H Q I h=>
 wpAny_Dict_empty ⟨.ref s.heap.objs.size,_,I.laid (a:=s.heap.objs.size) (o:=.dT []) (t':=s.toks) (fun _ _ q=>Heap.get?_push_of_some _ q) (Nat.le_refl _) (dt_empty s.heap I.big),rfl,h _ (I.hok.fresh (Nat.le_refl _))⟩
end
def tPairs:List (TE × TE)→St→Hp→(List (V × V)→Hp→Prop)→Prop
 |[],_,H,Q=>Q [] H
 |(tk,tv)::r,σ,H,Q=>tk σ H fun x H1=>tv σ H1 fun y H2=>tPairs r σ H2 fun ps H3=>Q ((x,y)::ps) H3
abbrev VV:List (V × V)→List (Value × Value)→Prop:=Paired fun p q=>RelV p.1 q.1∧RelV p.2 q.2
def PPs (X:Cx) (pos:Pos) (keys:List (Option Expr)) (values:List Expr) (trs:List (TE × TE)):Prop:=
 ∀(pins:List (Addr × Obj)) (s:Shared) (σ:St) (H:Hp) (Q:List (V × V)→Hp→Prop),Inv X pins σ H s→tPairs trs σ H Q →
  wpAny (model X.prog X.w) X.A (evalPairs (pairTrees keys values X.env pos)) (fun vs s'=>∃ps H',Inv X pins σ H' s'∧VV ps vs∧Q ps H') X.xe s
theorem pps_nil {X:Cx} {pos:Pos}:PPs X pos [] [] []:=fun pins s σ H Q I h=>pairTrees_nil_walk ⟨[],H,I,.nil,h⟩
theorem pps_cons {X:Cx} {pos:Pos} {k v:Expr} {ks:List (Option Expr)} {vs:List Expr} {tk tv:TE} {trs:List (TE × TE)} (hk:PE X k tk) (hv:PE X v tv) (hr:PPs X pos ks vs trs) :
  PPs X pos (some k::ks) (v::vs) ((tk,tv)::trs):=fun pins s σ H Q I h=>
 pairTrees_cons_walk (thn (hk pins s σ H _ I h) fun u s1 ⟨x,H1,I1,rx,q1⟩=>thn (hv pins s1 σ H1 _ I1 q1) fun w2 s2 ⟨y,H2,I2,ry,q2⟩=>
  thn (hr pins s2 σ H2 _ I2 q2) fun ws s3 ⟨ps,H3,I3,rel,q3⟩=>⟨(x,y)::ps,H3,I3,.cons ⟨rx,ry⟩ rel,q3⟩)
def mergeK (kvs more:List (Key × V)):List (Key × V):=more.foldl (fun acc kv=>putK acc kv.1 kv.2) kvs
theorem KV.merge:∀{more:List (Key × V)} {rs:List (Key × Value)} {kvs:List (Key × V)} {vs:List (Key × Value)},KV more rs→KV kvs vs→KV (mergeK kvs more) (merged vs rs):=by
 intro more rs kvs vs r
 unfold KV at r
 induction r generalizing kvs vs with
 |nil=>intro q;exact q
 |@cons p q ps qs h t ih=>
  intro r0
  have e:KV (putK kvs p.1 p.2) (stored vs q.1 q.2):=by
   have:=r0.put p.1 h.2
   rw [←h.1];exact this
  exact ih e
theorem length_mergeK:∀(more kvs:List (Key × V)),(mergeK kvs more).length≤kvs.length+more.length
 |[],kvs=>by show kvs.length≤kvs.length+0;omega
 |p::r,kvs=>by
  have h1:=length_mergeK r (putK kvs p.1 p.2)
  have h2:=length_putK kvs p.1 p.2
  show (mergeK (putK kvs p.1 p.2) r).length≤_
  rw [List.length_cons];omega
theorem carries_of {P:Program} {w:World}:∀{kvs:List (Key × V)} {ws:List (Value × Value)},VV (kvs.map fun kv=>(kV kv.1,kv.2)) ws→∃rs,Carries (mixKind P w) ws rs∧KV kvs rs
 |[],_,r=>by rw [List.map_nil] at r;cases r;exact ⟨[],True.intro,.nil⟩
 |p::kvs,_,r=>by
  rw [List.map_cons] at r
  cases r with
  |@cons a b as bs h t=>
   obtain ⟨rs,c,q⟩:=carries_of (P:=P) (w:=w) t
   obtain ⟨b1,b2⟩:=b
   exact ⟨(p.1,b2)::rs,⟨kV_is h.1,rfl,c⟩,.cons ⟨rfl,h.2⟩ q⟩
def tDisp (trs:List (TE × TE)):TE:=fun σ H Q=>∀p,H p=none→tPairs trs σ (upd H p (.dK [])) fun ps H2=>H2 p=some (.dK [])∧∃kvs:List (Key × V),ps=kvs.map (fun kv=>(kV kv.1,kv.2))∧kvs.length≤15∧Q (.ref p) (upd H2 p (.dK (mergeK [] kvs)))
theorem pe_disp {X:Cx} {pos:Pos} {keys:List (Option Expr)} {values:List Expr} {trs:List (TE × TE)} (h:PPs X pos keys values trs) (hall:keys.all (·.isSome)=true) (hl:keys.length=values.length) (h0:keys≠[])
  (h15:keys.length≤15):PE X (.Dict keys values pos) (tDisp trs):=by
 intro pins s σ H Q I q
 have hn:=I.hok.fresh (Nat.le_refl s.heap.objs.size)
 have I1:=I.laid (a:=s.heap.objs.size) (o:=.dK []) (h':=s.heap.push { cls:=.type "dict",data:=.dict #[] }) (t':=s.toks) (fun _ _ q=>Heap.get?_push_of_some _ q) (Nat.le_refl _) (dk_empty s.heap I.big)
 refine wpAny_Dict_walk (knd:=mixKind X.prog X.w) hall hl h0 h15 (thn (h pins _ σ _ _ I1 (q _ hn)) fun ws s2 ⟨ps,H2,I2,rel,e,kvs,ep,lk,q2⟩=>?_)
 subst ep
 obtain ⟨rs,c,rk⟩:=carries_of (P:=X.prog) (w:=X.w) rel
 obtain ⟨z,hd,vs0,r0,dd⟩:=dk_of I2.hok e
 cases r0
 refine ⟨rs,c,dd,fun h' dd' hs=>⟨.ref s.heap.objs.size,_,?_,rfl,q2⟩⟩
 have hz:(mergeK [] kvs).length≤sizeLine:=by
  have h1:=length_mergeK kvs []
  rw [List.length_nil] at h1
  rw [sizeLine_eq];omega
 have he:∃q,h'.get? s.heap.objs.size=some q:=let ⟨q,_,_,hq,_⟩:=dd';⟨q,hq⟩
 exact d_write I2 (by rw [e];exact True.intro) hs he (dk_new hz hd (rk.merge .nil) dd')
section
variable {X:Cx} {pins:List (Addr × Obj)} {σ:St} {H:Hp} {s:Shared} {a:Addr} {y d:V} {u r:Value} {o:Option V} {A:Around} {E:Value→Shared→Prop}
end
section
variable {X:Cx} {o e f:Expr} {apos cpos:Pos} {td ty tx:TE}
end
section
variable {X:Cx} {pins:List (Addr × Obj)} {σ:St} {H:Hp} {s:Shared} {a:Addr} {kvs:List (Key × V)} {A:Around} {E:Value→Shared→Prop}
end
section
variable {X:Cx} {pins:List (Addr × Obj)} {σ:St} {H:Hp} {s:Shared} {a:Addr} {y:V} {u:Value} {A:Around} {E:Value→Shared→Prop}
end
section
variable {X:Cx}
end
section
variable {κ:Type} [DecidableEq κ]
theorem valV_in {kvs:List (κ × V)} {k:κ} {v:V} (h:valV kvs k=some v):k∈kvs.map (·.1):=by
 have q:(kvs.any fun kv=>decide (kv.1=k))=true:=by
  rw [valV_any,h]
  all_goals rfl
 obtain ⟨p,hp,e⟩:=List.any_eq_true.mp q
 exact List.mem_map.mpr ⟨p,hp,of_decide_eq_true e⟩
end
structure VE (X:Cx) (e:Expr) (t:TE):Prop where
 out:PE X e t
structure VT (X:Cx) (e:Expr) (t:TT):Prop where
 out:PT X e t
structure VW (X:Cx) (e:Expr) (t:TT):Prop where
 out:PW X e t
structure VA (X:Cx) (es:List Expr) (t:TA):Prop where
 out:PA X es t
structure VS (X:Cx) (st:Stmt) (t:TS):Prop where
 out:PS X st t
structure VSs (X:Cx) (st:List Stmt) (t:TS):Prop where
 out:PSs X st t
structure VI (X:Cx) (tg iter:Expr) (t:TI):Prop where
 out:PI X tg iter t
structure VG (X:Cx) (tg:Expr) (t:TG):Prop where
 out:PG X tg t
structure VGs (X:Cx) (tg:List Expr) (t:TGs):Prop where
 out:PGs X tg t
structure VO (X:Cx) (e:Option Expr) (t:TO):Prop where
 out:PO X e t
structure VF (X:Cx) (ifs:List Expr) (t:TT):Prop where
 out:aKe X ifs t
structure VP (X:Cx) (pos:Pos) (keys:List (Option Expr)) (values:List Expr) (trs:List (TE × TE)):Prop where
 out:PPs X pos keys values trs
section
variable {X:Cx} {a b c e:Expr} {es:List Expr} {ta tb tc te:TE} {t:TA} {tA tB':TT} {pos p:Pos} {x:Str}
theorem vv (i:Nat) {x:Str} {pos:Pos} (hN:X.N[i]?=some x:=by rfl) (hv:Vis X.env.scope x:=by trivial) (hd:(x == ("__debug__":Str))=false:=by decide)
  (hcd:(x == ("__classdict__":Str))=false:=by decide):VE X (.Name x pos) (tVar i):=⟨pv i hN hv hd hcd⟩
theorem dF {v:V} (hg:Gl X x) (hm:∃u,X.mg x=some u∧RelV v u) (hd:(x == ("__debug__":Str))=false:=by decide):VE X (.Name x pos) (tC v):=⟨aR1 hg hm hd⟩
theorem cW {v:V} {u:Value} (hg:Gl X x) (hm:X.mg x=none) (hv:bootBuiltins x=some u) (r:RelV v u) (hn:x≠"__name__":=by decide) (hd:(x == ("__debug__":Str))=false:=by decide):VE X (.Name x pos) (tC v):=⟨pe_bltn hg hm hv r hn hd⟩
theorem aD {i j}:VE X (.Constant (.int i) j pos) (tC (.int i)):=⟨pe_int⟩
theorem iG {b j}:VE X (.Constant (.bool b) j pos) (tC (.bl b)):=⟨pe_bl⟩
theorem aBy {j}:VE X (.Constant .none j pos) (tC .non):=⟨pe_non⟩
theorem aO {x j}:VE X (.Constant (.str x) j pos) (tC (.str x)):=⟨pe_str⟩
theorem bK {op:Operator} {r:R2} (ho:OpR X (binaryOp op) r) (ha:VE X a ta) (hb:VE X b tb):VE X (.BinOp a op b pos) (tOp r ta tb):=⟨pe_op ho ha.1 hb.1⟩
theorem dD {op:CmpOp} {r:R2} (ho:OpR X (compareOp op) r) (ha:VE X a ta) (hb:VE X b tb) (hm:behindInMarks op b=false):VE X (.Compare a [op] [b] pos) (tOp r ta tb):=⟨pe_cmpR ho ha.1 hb.1 hm⟩
theorem aM {op:CmpOp} {r:R2} (ho:OpR X (compareOp op) r) (ha:VE X a ta) (hb:VE X b tb) (hm:behindInMarks op b=false):VT X (.Compare a [op] [b] pos) (tTest (tOp r ta tb)):=⟨pt_cmpR ho ha.1 hb.1 hm⟩
theorem aLf {op op':CmpOp} {r r':R2} (ho:OpR X (compareOp op) r) (ho':OpR X (compareOp op') r') (ha:VE X a ta) (hb:VE X b tb) (hc:VE X c tc)
  (hm:lastMarks [op,op'] [b,c]=false:=by with_unfolding_all rfl):VE X (.Compare a [op,op'] [b,c] pos) (tChain r r' ta tb tc):=⟨pe_chain ho ho' ha.1 hb.1 hc.1 hm⟩
theorem aD1 {op op':CmpOp} {r r':R2} (ho:OpR X (compareOp op) r) (ho':OpR X (compareOp op') r') (ha:VE X a ta) (hb:VE X b tb) (hc:VE X c tc)
  (hm:lastMarks [op,op'] [b,c]=false:=by with_unfolding_all rfl):VT X (.Compare a [op,op'] [b,c] pos) (tTest (tChain r r' ta tb tc)):=⟨pt_chain ho ho' ha.1 hb.1 hc.1 hm⟩
theorem mF {op} (h:VE X a te):VE X (.BoolOp op [a] pos) te:=⟨pe_one h.1⟩
theorem lU {rest:List Expr} (ha:VE X a ta) (hb:VE X (.BoolOp .And (b::rest) pos) tb):VE X (.BoolOp .And (a::b::rest) pos) (tAndV ta tb):=⟨pe_and ha.1 hb.1⟩
theorem aPg {rest:List Expr} (ha:VE X a ta) (hb:VE X (.BoolOp .Or (b::rest) pos) tb):VE X (.BoolOp .Or (a::b::rest) pos) (tOrV ta tb):=⟨pe_or ha.1 hb.1⟩
theorem aL0 (ha:VE X a ta):VE X (.UnaryOp .Not a pos) (tNotV ta):=⟨pe_not ha.1⟩
theorem eE (hc:VT X c tA) (ha:VE X a ta) (hb:VE X b tb):VE X (.IfExp c a b pos) (tIf tA ta tb):=⟨pe_ifExp hc.1 ha.1 hb.1⟩
theorem aA:VA X [] tNil:=⟨pa_nil⟩
theorem aB (ha:VE X e te) (hr:VA X es t) (hp:eZ e=true:=by rfl):VA X (e::es) (tCons te t):=⟨aSl ha.1 hr.1 hp⟩
theorem aH {k:Nat} {ps:List Str} {sp:Sp} (G:Ok X.prog X.w X.K X.mg X.base k x ps sp) (hr:Room k X.A) (hg:Gl X x) (ha:VA X (e::es) t) (hdb:(x == ("__debug__":Str))=false:=by decide)
  (hp:eZ e=true:=by rfl) (hpl:(backTo pos (starEach es X.env)).any (·.1)=false:=by rfl) :
  VE X (.Call (.Name x p) (e::es) [] pos) (tCall sp [] E0 t):=⟨aRv G hr hg ha.1 hdb (bI hp) hpl⟩
theorem aQ8 {k:Nat} {ps:List Str} {sp:Sp} (G:Ok X.prog X.w X.K X.mg X.base k x ps sp) (hr:Room k X.A) (hg:Gl X x) (hdb:(x == ("__debug__":Str))=false:=by decide) :
  VE X (.Call (.Name x p) [] [] pos) (tCall sp [] E0 tNil):=⟨aQj G hr hg hdb⟩
theorem aL {id:String} {r:List V→Hp→VK→Prop} (hc:CallR X (.builtin id) r) (hg:Gl X x) (hm:X.mg x=none) (hv:bootBuiltins x=some (.builtin id)) (ha:VA X (e::es) t) (hn:x≠"__name__":=by decide) (hdb:(x == ("__debug__":Str))=false:=by decide)
  (hp:eZ e=true:=by rfl) (hpl:(backTo pos (starEach es X.env)).any (·.1)=false:=by rfl):VE X (.Call (.Name x p) (e::es) [] pos) (tCB r t):=⟨pe_callB hc hg hm hv ha.1 hn hdb (bI hp) hpl⟩
theorem bD {T:String} {r:List V→Hp→VK→Prop} (hc:CallR X (.type T) r) (hg:Gl X x) (hm:X.mg x=none) (hv:bootBuiltins x=some (.type T)) (ha:VA X (e::es) t) (hn:x≠"__name__":=by decide) (hdb:(x == ("__debug__":Str))=false:=by decide)
  (hp:eZ e=true:=by rfl) (hpl:(backTo pos (starEach es X.env)).any (·.1)=false:=by rfl):VE X (.Call (.Name x p) (e::es) [] pos) (tCB r t):=⟨pe_callTy hc hg hm hv ha.1 hn hdb (bI hp) hpl⟩
theorem jZ {o:Expr} {to:TE} {name:Str} {apos cpos:Pos} {T id:String} {r:V→List V→Hp→VK→Prop} (pa:PlainAttrs T) (slot:Slot T name id) (hty:typeOf (.builtin id)=pure (.type "method_descriptor")) (hm:MtR X id r) (ho:VE X o to) (ha:VA X (e::es) t)
  (hbase:attributeBase o name X.env (eval o X.env)=eval o X.env:=by rfl)
  (hfew:((backTo cpos (starEach (e::es) X.env)).all (fun x=>!x.1) && (backToKw cpos (keywordEach [] X.env)).all (fun x=>x.1.isSome)
   && decide ((e::es).length+([]:List Keyword).length+(if ([]:List Keyword).isEmpty then 0 else 1)<30))=true:=by rfl)
  (hline:(apos.endLine == cpos.line)=true:=by rfl) (hp:eZ e=true:=by rfl) (hplain:(backTo cpos (starEach es X.env)).any (·.1)=false:=by rfl) :
  VE X (.Call (.Attribute o name apos) (e::es) [] cpos) (tBM X.K T r to t):=⟨pe_bm pa slot hty hm ho.1 ha.1 hbase hfew hline (bI hp) hplain⟩
theorem oF (ha:VE X a ta) (hb:VE X b tb) (hs:PlainIxT b) :
  VE X (.Subscript a b pos) (tOp (fun x y H Q=>∃z i c,x=.str z∧y=.int i∧0≤i∧i<2 ^ 63∧i<z.length∧z.cps[i.toNat]?=some c∧Q (.str ⟨#[c]⟩) H) ta tb):=⟨pe_item_str ha.1 hb.1 hs⟩
theorem lC:VO X none tNoPart:=⟨po_none⟩
theorem fU (h:VE X e te):VO X (some e) (tPart te):=⟨po_some h.1⟩
theorem fJ {r:V→Option Int→Option Int→Hp→VK→Prop} {lo hi:Option Expr} {tl th:TO} {p2:Pos} (hr:SlR X r) (he:VE X e te) (hl:VO X lo tl) (hu:VO X hi th):VE X (.Subscript e (.Slice lo hi none p2) pos) (tSl r te tl th):=⟨pe_slice hr he.1 hl.1 hu.1⟩
theorem aJ {r:R2} (hr:IxR X r) (ha:VE X a ta) (hb:VE X b tb) (hs:PlainIx b):VE X (.Subscript a b pos) (tOp r ta tb):=⟨pe_ix hr ha.1 hb.1 hs⟩
theorem aQ6 {x1} (h:VA X es t):VE X (.Tuple es x1 pos) (tTup t):=⟨pe_tup h.1⟩
theorem aB6:VP X pos [] [] []:=⟨pps_nil⟩
theorem xK {k v:Expr} {ks:List (Option Expr)} {vs:List Expr} {tk tv:TE} {trs:List (TE × TE)} (hk:VE X k tk) (hv:VE X v tv) (hr:VP X pos ks vs trs):VP X pos (some k::ks) (v::vs) ((tk,tv)::trs):=⟨pps_cons hk.1 hv.1 hr.1⟩
theorem aBb {keys:List (Option Expr)} {values:List Expr} {trs:List (TE × TE)} (h:VP X pos keys values trs) (hall:keys.all (·.isSome)=true) (hl:keys.length=values.length) (h0:keys≠[]) (h15:keys.length≤15):VE X (.Dict keys values pos) (tDisp trs):=⟨pe_disp h.1 hall hl h0 h15⟩
theorem vV (ha:VT X a tA):VW X (.BoolOp .And [a] pos) tA:=⟨pw_and1 ha.1⟩
theorem jE (ha:VT X a tA):VW X (.BoolOp .Or [a] pos) tA:=⟨pw_or1 ha.1⟩
theorem aBf {rest:List Expr} (ha:VT X a tA) (hb:VW X (.BoolOp .And (b::rest) pos) tB'):VW X (.BoolOp .And (a::b::rest) pos) (tAnd tA tB'):=⟨pw_and ha.1 hb.1⟩
theorem mL {rest:List Expr} (ha:VT X a tA) (hb:VW X (.BoolOp .Or (b::rest) pos) tB'):VW X (.BoolOp .Or (a::b::rest) pos) (tOr tA tB'):=⟨pw_or ha.1 hb.1⟩
theorem VW.pt (h:VW X e tA):VT X e tA:=⟨h.1.pt⟩
theorem dC (ha:VT X a tA):VT X (.UnaryOp .Not a pos) (tNot tA):=⟨pt_not ha.1⟩
theorem cQ (h:VE X e te) (he:∀whole,isTrue e X.env whole=(do let v ←whole;standAt e.pos;holding [v] (truthy v)):=by intro _;rfl):VT X e (tB te):=⟨pt_val h.1 he⟩
theorem aM6 (ha:VE X a ta) (he:∀whole,isTrue a X.env whole=(do let v ←whole;standAt a.pos;holding [v] (truthy v)):=by intro _;rfl) :
  VT X a (fun σ H Q=>ta σ H fun x H'=>∃k,TruV X.K x H' k∧Q k H'):=⟨pt_truth ha.1 he⟩
variable {st:Stmt} {rest:List Stmt} {u w':TS}
theorem aP:VSs X [] tNext:=⟨pss_nil⟩
theorem aC (h1:VS X st u) (h2:VSs X rest w'):VSs X (st::rest) (tSeq u w'):=⟨pss_cons h1.1 h2.1⟩
theorem aF (h1:VS X st u):VSs X [st] u:=⟨pss_one h1.1⟩
theorem aG (he:VE X e te):VS X (.Return (some e) pos) (tRet te):=⟨ps_ret he.1⟩
theorem bA {a b:List Stmt} (hc:VT X c tA) (ha:VSs X a u) (hb:VSs X b w'):VS X (.If c a b pos) (tIfS tA u w'):=⟨ps_if hc.1 ha.1 hb.1⟩
theorem aR {i:Nat} {pos':Pos} (hN:X.N.Nodup) (hi:X.N[i]?=some x) (hx:Loc X.env.scope x) (he:VE X e te) (hs:swapsWith e (some (.Name x pos')) pos.line X.env=pure false:=by rfl) (hf:X.fn x=true∨X.env.scope.names.lookup x=some .local:=by first|exact .inl rfl|exact .inr rfl|assumption) :
  VS X (.Assign [.Name x pos'] e pos) (tAsg te (gName i)):=⟨ps_set hN hi hx he.1 hs hf⟩
theorem bW (he:VE X e te) (hs:swapsWith e none pos.line X.env=pure false:=by rfl):VS X (.Expr e pos) (tDrop te):=⟨ps_expr he.1 hs⟩
theorem dR {tg iter:Expr} {body:List Stmt} {wi:TI} {g:TG} {tb:TS} (hp:PassesOwn (model X.prog X.w) X.A X.env X.xe) (hc:X.calm=true) (hi:VI X tg iter wi) (hg:VG X tg g) (hb:VSs X body tb)
  (hs:∀x,foldedSetIterable iter X.env x=pure x:=by intro _;rfl):VS X (.For tg iter body [] pos) (tFor wi g tb):=⟨ps_for hp hc hi.1 hg.1 hb.1 hs⟩
theorem aK {i:Nat} (hN:X.N.Nodup) (hi:X.N[i]?=some x) (hx:Loc X.env.scope x) (hf:X.fn x=true∨X.env.scope.names.lookup x=some .local:=by first|exact .inl rfl|exact .inr rfl|assumption):VG X (.Name x pos) (gName i):=⟨pg_name hN hi hx hf⟩
theorem dM:VGs X [] gNil:=⟨pgs_nil⟩
theorem bB {t:TG} {u:TGs} (h1:VG X e t) (h2:VGs X es u) (hs:(assignEach (e::es) X.env).map (·.2)=assign e X.env::(assignEach es X.env).map (·.2):=by rfl):VGs X (e::es) (gCons t u):=⟨pgs_cons h1.1 h2.1 hs⟩
theorem nO {k:Nat} {t:TGs} {n:Nat} (hc:X.calm=true) (h:VGs X es t) (hn:(assignEach es X.env).length=n:=by rfl) (hst:(assignEach es X.env).findIdx? (·.1)=none:=by rfl):VG X (.Tuple es k pos) (gTup X.K n t):=⟨pg_tup hc h.1 hn hst⟩
variable {tg:Expr}
theorem cN (h:VE X e te):VI X tg e (iList X.K te):=⟨pi_list h.1⟩
theorem cY (h:VE X e te):VI X tg e (iTup X.K te):=⟨pi_tup h.1⟩
theorem aQe (h:VE X e te):VI X tg e (aQh te):=⟨aQ0 h.1⟩
theorem eU (hg:Gl X "range") (hm:X.mg "range"=none) (ha:VA X [a] t) (hp:eZ a=true:=by rfl):VI X tg (.Call (.Name "range" p) [a] [] pos) (iRng1 t):=⟨pi_range1 hg hm ha.1 (bI (es:=[]) hp)⟩
theorem bJ:VF X [] jT:=⟨aRb⟩
theorem aB5 (h:VT X c tA):VF X [c] tA:=⟨aQq h.1⟩
theorem bM {elt target iter:Expr} {ifs:List Expr} {scope:Scope} {N:List Str} {wi:TI} {g:TG} {tt:TT}
  (C:uJ scope N) (hfr:∀y,(y,NameKind.free)∈scope.names→X.env.kindOf y=some .cell∨X.env.kindOf y=some .free) (hc:X.calm=true)
  (hi:VI X target iter wi)
  (hb:∀cl s H fp,VG (cxC X N scope cl s H fp) target g∧VF (cxC X N scope cl s H fp) ifs tt∧VE (cxC X N scope cl s H fp) elt te)
  (hs:∀x,foldedSetIterable iter X.env x=pure x:=by intro _;rfl) :
  VE X (.ListComp elt [⟨target,iter,ifs,0⟩] scope pos) (eX X scope N wi g tt te):=
 ⟨aOj C hfr hc hi.1 (fun cl s H fp=>⟨(hb cl s H fp).1.1,(hb cl s H fp).2.1.1,(hb cl s H fp).2.2.1⟩) hs⟩
end
section
variable {P:Program} {w:World} {K:PySem.W.Frag} {mg:Str→Option Value} {base:Heap}
theorem Fun.okV {x qual:Str} {st:Stmt} {f:Addr} {fd:FuncData} {N ps:List Str} {k:Nat} {sp:Sp} (F:Fun K x qual st f fd) (S:FnScope N ps (defScope st)) (len:∀vs H Q E,sp vs H Q E→vs.length=ps.length)
  (hbody:∀(cdv:Value) (A:Around) (outer:List Env) (s:Shared) (H:Hp) (vs:List V) (Q:VK) (E:XK),Room k (A.deeper (envOfC qual (defScope st) s.heap.objs.size f cdv))→sp vs H Q E →
   ∃t,VSs (cxOf CX0 P w K mg base N qual (defScope st) f cdv A outer s H E).nox (defBody st) t∧t { nx:=fun _ H'=>Q .non H',rt:=Q } (start N vs) H):FnOk P w K mg base CX0 (k+1) f fd ps sp:=
 F.ok S len fun cdv A outer s H vs Q E hr h=>let ⟨t,h1,h2⟩:=hbody cdv A outer s H vs Q E hr h;⟨t,h1.1,h2⟩
theorem Ok.ofV {x:Str} {st:Stmt} {N ps:List Str} {k:Nat} {sp:Sp} (D:Dn K mg x st ps) (S:FnScope N ps (defScope st)) (len:∀vs H Q E,sp vs H Q E→vs.length=ps.length)
  (hbody:∀(f:Addr) (cdv:Value) (A:Around) (outer:List Env) (s:Shared) (H:Hp) (vs:List V) (Q:VK) (E:XK),Room k (A.deeper (envOfC x (defScope st) s.heap.objs.size f cdv))→sp vs H Q E →
   ∃t,VSs (cxOf CX0 P w K mg base N x (defScope st) f cdv A outer s H E).nox (defBody st) t∧t { nx:=fun _ H'=>Q .non H',rt:=Q } (start N vs) H):Ok P w K mg base (k+1) x ps sp:=
 Ok.of D S len fun f cdv A outer s H vs Q E hr h=>let ⟨t,h1,h2⟩:=hbody f cdv A outer s H vs Q E hr h;⟨t,h1.1,h2⟩
end
def Held (P:Program) (w:World) (K:PySem.W.Frag) (mg:Str→Option Value) (base:Heap) (k:Nat) (f:Addr) (ps:List Str) (sp:Sp):Prop:=
 ∃fd,PySem.W.keepIn K (.ref f)=true∧Binds K fd ps []∧FnOk P w K mg base CX0 k f fd ps sp
theorem Ok.held {P:Program} {w:World} {K:PySem.W.Frag} {mg:Str→Option Value} {base:Heap} {k:Nat} {x:Str} {ps:List Str} {sp:Sp} (G:Ok P w K mg base k x ps sp):∃f,mg x=some (.ref f)∧Held P w K mg base k f ps sp:=by
 obtain ⟨f,fd,h1,h2,h3,h4⟩:=G
 exact ⟨f,h1,fd,h2,h3,h4⟩
theorem Held.mono {P:Program} {w:World} {K:PySem.W.Frag} {mg:Str→Option Value} {base:Heap} {j k:Nat} {f:Addr} {ps:List Str} {sp:Sp} (h:Held P w K mg base j f ps sp) (hj:j≤k):Held P w K mg base k f ps sp:=by
 obtain ⟨fd,h1,h2,h3⟩:=h
 exact ⟨fd,h1,h2,h3.mono hj⟩
section
variable {X:Cx} {x:Str} {p pos:Pos} {e:Expr} {es:List Expr} {te:TE} {t:TA}
def aMa (P:Program) (w:World) (K:PySem.W.Frag) (mg:Str→Option Value) (base:Heap) (k:Nat) (te:TE) (t:TA):TE:=fun σ H Q=>te σ H fun v H1=>∃f ps sp,v=.ref f∧Held P w K mg base k f ps sp∧t σ H1 fun vs H2=>sp vs H2 Q E0
theorem aN6 {k:Nat} (hr:Room k X.A) (hf:PE X (.Name x p) te) (ha:PA X (e::es) t)
  (he:starEach (e::es) X.env=(false,eval e X.env)::starEach es X.env:=by rfl) (hpl:(backTo pos (starEach es X.env)).any (·.1)=false:=by rfl) :
  PE X (.Call (.Name x p) (e::es) [] pos) (aMa X.prog X.w X.K X.mg X.base k te t):=by
 intro pins s σ H Q I h
 refine wpAny_Call_Name_kw (thn (hf pins s σ H _ I h) fun u s1 ⟨v,H1,I1,r1,q1⟩=>?_)
 obtain ⟨f,ps,sp,rfl,⟨fd,hk,hb,F⟩,q⟩:=q1
 obtain rfl:u=Value.ref f:=r1
 refine PySem.W.callWith_K (h₀:=X.base) I1.ok.mod.kin hk (thn (ha pos pins s1 σ H1 _ I1 q) fun us s2 ⟨vs,H2,I2,r,q2⟩=>⟨I2.kIn,?_⟩) he hpl
 exact run_fn F hr hb .nil pass0 I2 r (by simpa using q2)
end
end L2
namespace PySem
end PySem
namespace L2
open PySem PySem.Spec PyProof.Rows
section
variable {X:Cx}
theorem aN4:OpR X (binaryOp .Add) (fun x y H Q=>∃a b ys,x=.ref a∧y=.ref b∧SqT X.K H a []∧SqT X.K H b ys∧Q (.ref b) H):=by
 intro pins s σ H x y v u Q I rx ry h
 obtain ⟨a,b,ys,rfl,rfl,ha,hb,q⟩:=h
 cases rx
 cases ry
 obtain ⟨its,r1,p1,_⟩:=I.tuple ha
 obtain ⟨its2,r2,p2,_⟩:=I.tuple hb
 cases r1
 obtain ⟨⟨cls,dd,data,sl⟩,ho,hc,n,hd⟩:=id p1
 obtain ⟨⟨cls2,dd2,data2,sl2⟩,ho2,hc2,n2,hd2⟩:=id p2
 simp only at hc hd hc2 hd2
 subst hc hd hc2 hd2
 exact concat_meets ⟨_,ho,rfl⟩ ⟨_,ho2,rfl⟩ noFill_tuple_add seq_tuple_add PySem.F.slot_tuple_add PySem.F.entry_tuple_add (PySem.F.args_tuple_add_2 _ _)
  (tuple_addW0 a b #[] its2.toArray n n2 dd dd2 sl sl2 rfl) ⟨ho,ho2,⟨.ref b,H,I,rfl,q⟩⟩
end
end L2
namespace PySem
def tX (σ:List Str) (v:Str):List Str:=if v∈σ then σ else σ++[v]
def kO (ss:List Str):List Str:=ss.foldl tX []
theorem zP (ss:List Str) (v:Str):kO (ss++[v])=tX (kO ss) v:=by
 unfold kO
 rw [List.foldl_append]
 rfl
theorem aNl (σ:List Str) (v k:Str):k∈tX σ v↔k∈σ∨k=v:=by
 unfold tX
 by_cases h:v∈σ
 ·rw [if_pos h]
  exact ⟨.inl,fun q=>q.elim id fun e=>e ▸ h⟩
 ·rw [if_neg h]
  simp
theorem aFj (σ:List Str) (v:Str):(tX σ v).length=if v∈σ then σ.length else σ.length+1:=by
 unfold tX
 split <;> simp
theorem uN:∀(ss σ:List Str),(ss.foldl tX σ).length≤σ.length+ss.length
 |[],σ=>by simp
 |v::r,σ=>by
  rw [List.foldl_cons,List.length_cons]
  have h:=uN r (tX σ v)
  rw [aFj] at h
  split at h <;> omega
theorem aLs (ss:List Str):(kO ss).length≤ss.length:=by
 have h:=uN ss []
 unfold kO
 simpa using h
section
variable {prog:Program} {w:World}
def cP (prog:Program) (w:World) (h:Heap) (D:Addr) (ss:List Str):Prop:=h.SetOf (strKind prog w) D (fun y=>decide (y∈kO ss)) (kO ss).length
theorem cP.at {h h':Heap} {D:Addr} {ss:List Str} (x:cP prog w h D ss) (e:∀o,h.get? D=some o→h'.get? D=some o):cP prog w h' D ss:=by
 obtain ⟨o,es,ep,t,ho,r⟩:=x
 exact ⟨o,es,ep,t,e o ho,r⟩
theorem cP.congr {h:Heap} {D:Addr} {S:Str→Bool} {n:Nat} {ss:List Str} (x:h.SetOf (strKind prog w) D S n) (e1:∀y,S y=decide (y∈kO ss)) (e2:n=(kO ss).length):cP prog w h D ss:=by
 have e:S=fun y=>decide (y∈kO ss):=funext e1
 subst e e2
 exact x
theorem wB {A:Around} {R:Result→Shared→Prop} {I:Addr} {fp wr:List Addr} {n:Nat} {P:Nat→Value→Prop} {St:Nat→Heap→Prop} (W:Walks prog w A.in1 I fp wr n P St) (D:Addr) (hD:D∉fp)
  (ss:List Str) (hss:ss.length=n) (hval:∀i v,P i v→∃t,v=.str (ss.getD i "") t) (hb:n+1<scanBound) :
  ∀(k i:Nat) (s:Shared),i+k=n→St i s.heap→cP prog w s.heap D (ss.take i) →
   (∀h' tk,(∀b o,b∉D::wr→s.heap.get? b=some o→h'.get? b=some o)→cP prog w h' D ss→R (.ok (.ret .none)) { s with heap:=h',toks:=tk }) →
   codeAny (model prog w) A (.builtin "set.update.loop" ⟨[.ref D,.ref I],[]⟩) R s:=by
 have hDw:D∉wr:=fun q=>hD (W.sub _ q)
 intro k
 induction k with
 |zero=>
  intro i s hi st hS q
  obtain rfl:i=n:=by omega
  refine codeAny_builtin PyProof.Rows.F.entry_set_update_loop ?_
  rw [Around.under_plainId PyProof.Rows.F.plain_set_update_loop _]
  show wpAny _ A.in1 (pyNext (.ref I) >>= _) _ _ _
  refine wpAny_bind (W.done s _ _ st fun h' tk kp=>?_)
  refine wpAny_pure (q h' tk (fun b o nb e=>kp b o (fun z=>nb (List.mem_cons_of_mem _ z)) e) ?_)
  rw [List.take_of_length_le (Nat.le_of_eq hss)] at hS
  exact hS.at fun o e=>kp D o hDw e
 |succ k ih=>
  intro i s hi st hS q
  refine codeAny_builtin PyProof.Rows.F.entry_set_update_loop ?_
  rw [Around.under_plainId PyProof.Rows.F.plain_set_update_loop _]
  show wpAny _ A.in1 (pyNext (.ref I) >>= _) _ _ _
  refine wpAny_bind (W.item i s _ _ (by omega) st fun v h1 tk1 hP st1 kp1=>?_)
  obtain ⟨t,rfl⟩:=hval i v hP
  have hS1:cP prog w h1 D (ss.take i):=hS.at fun o e=>kp1 D o hDw e
  show wpAny _ A.in1 (holding [Value.str (ss.getD i "") t] (setAdd D (.str (ss.getD i "") t)) >>= _) _ _ _
  refine wpAny_bind (wpAny_holding ?_)
  unfold setAdd
  refine wpAny_holding (wpAny_bind ((strKind prog w).pyHash (k:=ss.getD i "") (strKind_is _ _ _ _) ?_))
  have room:(kO (ss.take i)).length+1<scanBound:=by
   have h1:=aLs (ss.take i)
   have h2:(ss.take i).length≤ss.length:=by rw [List.length_take];exact Nat.min_le_right _ _
   omega
  refine wpAny_setAddHashed_of (knd:=strKind prog w) (strKind_is _ _ _ _) rfl hS1 room fun h2 sb2 hS2=>?_
  have hlt:i<ss.length:=by omega
  have et:ss.take (i+1)=ss.take i++[ss.getD i ""]:=by
   rw [List.take_add_one,List.getElem?_eq_getElem hlt,List.getD_eq_getElem?_getD,List.getElem?_eq_getElem hlt]
   rfl
  have hS3:cP prog w h2 D (ss.take (i+1)):=by
   refine cP.congr hS2 (fun y=>?_) ?_
   ·rw [et,zP,Bool.eq_iff_iff,Bool.or_eq_true,decide_eq_true_eq,decide_eq_true_eq,decide_eq_true_eq,aNl]
   ·rw [et,zP,aFj]
    by_cases z:ss.getD i ""∈kO (ss.take i)
    ·rw [if_pos z,if_pos (decide_eq_true z)]
    ·rw [if_neg z,if_neg (by rw [decide_eq_false z];exact Bool.false_ne_true)]
  have kp2:∀b o,b∉D::wr→s.heap.get? b=some o→h2.get? b=some o:=fun b o nb e=>by
   rw [sb2.2 b (fun z=>nb (by rw [z];exact List.mem_cons_self))]
   exact kp1 b o (fun z=>nb (List.mem_cons_of_mem _ z)) e
  refine wpAny_pure ⟨plainId_quiet PyProof.Rows.F.plain_set_update_loop _,ih (i+1) _ (by omega) (W.frame _ _ _ st1 fun b hb o e=>?_) hS3 fun h' tk kp hS'=>q h' tk (fun b o nb e=>kp b o nb (kp2 b o nb e)) hS'⟩
  rw [sb2.2 b (fun z=>hD (by rw [←z];exact hb))]
  exact e
variable {A:Around} {E:Value→Shared→Prop} {s:Shared}
abbrev cF (led:Bool):Obj:={ cls:=.type "set",dict:=none,data:=.set #[] 0 (.fresh 0 0 led) }
theorem aIh {A:Around} {R:Fin→Shared→Prop} {E:Value→Shared→Prop} {s:Shared} {l:Addr} {its:Array Value} {ss:List Str} (led:Bool) (hh:A.handled=none) (hl:s.heap.IsList l its) (hlen:ss.length=its.size)
  (hval:∀(i:Nat) (v:Value),its[i]?=some v→∃t,v=Value.str (ss.getD i "") t) (hb:its.size+1<scanBound)
  (q:∀h' tk,cP prog w h' s.heap.objs.size ss→(∀b o,b<s.heap.objs.size→s.heap.get? b=some o→h'.get? b=some o)→R (.done (.ret .none)) { s with heap:=h',toks:=tk }) :
  wpAny (model prog w) A (Builtin.«set.__init__» ⟨[.ref s.heap.objs.size,.ref l],[]⟩) R E { s with heap:=s.heap.push (cF led) }:=by
 obtain ⟨⟨oc,od,ox,osl⟩,hol,hcl,nl,hdl⟩:=id hl
 simp only at hcl hdl
 subst hcl hdl
 have hS:(s.heap.push (cF led)).get? s.heap.objs.size=some (cF led):=Heap.get?_push_size _ rfl
 have hT:Shared.TypeIs { s with heap:=s.heap.push (cF led) } (.ref s.heap.objs.size) "set":=⟨_,hS,rfl⟩
 have hol':(s.heap.push (cF led)).get? l=some { cls:=.type "list",dict:=od,data:=.seq its nl,slots:=osl }:=Heap.get?_push_of_some _ hol
 have f1:=F.sub_list_set
 have f2:=F.sub_list_frozenset
 have f3:(Value.type "list" == Value.type "dict")=false:=by decide
 have hl1:(s.heap.push (cF led)).IsList l its:=⟨_,hol',rfl,nl,rfl⟩
 have hlt:l<s.heap.objs.size:=Heap.lt_size hol
 unfold Builtin.«set.__init__» noKeywords Builtin.Frozenset.updateFrom
 generalize hPI:pyIter=PI
 wp_walk
 subst hPI
 refine wpAny_pyIter_list hl1 ?_
 refine wpAny_bind (wpAny_runValue ?_)
 have hz:(s.heap.push (cF led)).objs.size=s.heap.objs.size+1:=Heap.size_push ..
 have hne:l≠(s.heap.push (cF led)).objs.size:=by rw [hz];exact Nat.ne_of_lt (Nat.lt_succ_of_lt hlt)
 have hSf:s.heap.objs.size∉[(s.heap.push (cF led)).objs.size,l]:=by
  rw [hz]
  simp only [List.mem_cons,List.not_mem_nil,or_false,not_or]
  exact ⟨Nat.ne_of_lt (Nat.lt_succ_self _),Nat.ne_of_gt hlt⟩
 refine wB (Walks.list (by first|exact hh|simp [hh]) _ l hne its) s.heap.objs.size hSf ss hlen hval hb its.size 0 _ (by omega) ⟨⟨_,Heap.get?_push_size _ rfl,rfl,rfl⟩,hl1.push _⟩ ?_ fun h' tk kp hS'=>?_
 ·have hg:((s.heap.push (cF led)).push { cls:=.type "list_iterator",data:=.fields #[.ref l,.int 0 0] }).get? s.heap.objs.size=some (cF led):=Heap.get?_push_of_some _ hS
  exact cP.congr ((PyProof.Rows.setObjOf_fresh (knd:=strKind prog w) led).setOf hg (by unfold scanBound;omega)) (fun _=>rfl) rfl
 ·refine wpAny_pure (wpAny_pure (q h' tk hS' fun b o hb' e=>kp b o ?_ (Heap.get?_push_of_some _ (Heap.get?_push_of_some _ e))))
  rw [hz]
  simp only [List.mem_cons,List.not_mem_nil,or_false,not_or]
  exact ⟨Nat.ne_of_lt hb',Nat.ne_of_lt (Nat.lt_succ_of_lt hb')⟩
theorem wO {l:Addr} {its:Array Value} {ss:List Str} {Q:Value→Shared→Prop} (hh:A.handled=none) (hl:s.heap.IsList l its) (hlen:ss.length=its.size)
  (hval:∀(i:Nat) (v:Value),its[i]?=some v→∃t,v=Value.str (ss.getD i "") t) (hb:its.size+1<scanBound)
  (q:∀h' tk,cP prog w h' s.heap.objs.size ss→(∀b o,b<s.heap.objs.size→s.heap.get? b=some o→h'.get? b=some o)→Q (.ref s.heap.objs.size) { s with heap:=h',toks:=tk }) :
  wpAny (model prog w) A (call (.type "set") [.ref l]) Q E s:=by
 have ft:=F.called_set
 obtain ⟨c,tl,hmro⟩:=ft.mro
 have g1:=ft.made
 have g2:=ft.sub
 have g3:=ft.notType
 have g4:=ft.canCreate
 have g5:=F.typeCall_set_1 (.ref l)
 refine wpAny_call (codeAny_of_tree (show wpAny _ _ (callAny (.type "set") _) _ _ _ from wpAny_pure ⟨Code.quiet_builtin _ (by decide +kernel),codeAny_builtin F.entry_type_call ?_⟩))
 rw [Around.under_plain (weight_type_call_type "set" [.ref l] []) (by rfl)]
 repeat (any_goals (first|assumption|wp_step))
 refine codeAny_mono (code_set_new_1 (.ref l) (Q₁:=fun obj s1=>∃led:Bool,obj=.ref s.heap.objs.size∧s1={ s with heap:=s.heap.push (cF led) }) (E:=E) fun led=>⟨led,rfl,rfl⟩) fun r s1 hr=>?_
 rcases r with e|fl
 ·exact hr
 rcases fl with _|_|_|obj
 ·exact hr.elim
 ·exact hr.elim
 ·exact hr.elim
 obtain ⟨led,rfl,rfl⟩:=hr
 have hT:Shared.TypeIs { s with heap:=s.heap.push (cF led) } (.ref s.heap.objs.size) "set":=⟨_,Heap.get?_push_size _ rfl,rfl⟩
 have g6:=ft.init.lookup
 have g7:=ft.init.bind (.ref s.heap.objs.size)
 repeat (any_goals (first|assumption|wp_step))
 refine codeAny_mono (codeAny_call_builtin (R:=wants (fun r s2=>r=.none∧∃h' tk,s2={ s with heap:=h',toks:=tk }∧cP prog w h' s.heap.objs.size ss∧∀b o,b<s.heap.objs.size→s.heap.get? b=some o→h'.get? b=some o) E)
  ft.init.plain F.entry_set_init (check_set_init_1 hT (aIh led (by first|exact hh|simp [hh]) hl hlen hval hb fun h' tk x kp=>⟨rfl,h',tk,rfl,x,kp⟩))) fun r2 s2 hr2=>?_
 rcases r2 with e|fl
 ·exact hr2
 rcases fl with _|_|_|v
 ·exact hr2.elim
 ·exact hr2.elim
 ·exact hr2.elim
 obtain ⟨rfl,h',tk,rfl,x,kp⟩:=hr2
 repeat (any_goals (first|assumption|wp_step))
 exact q h' tk x kp
theorem aKh {D:Addr} {ss:List Str} {Q:Value→Shared→Prop} (x:cP prog w s.heap D ss) (q:Q (.int ((kO ss).length:Nat) (s.toks+1)) { s with toks:=s.toks+1+1 }):wpAny (model prog w) A (call (.builtin "len") [.ref D]) Q E s:=by
 obtain ⟨o,es,ep,t,ho,hex,hd,hel,hmem,hb,hf,hn⟩:=x
 refine call_len_set ho hex hd hf ?_ ?_
 ·unfold scanBound at hb
  omega
 ·rw [hn]
  exact q
end
end PySem
namespace L2
open PySem PySem.Spec PyProof.Rows
def aLg (P:Program) (w:World) (D:Addr) (ss:List Str):HO:=.ext fun h=>cP P w h D ss
section
variable {X:Cx}
def aQo (P:Program) (w:World) (K:PySem.W.Frag):List V→Hp→VK→Prop:=fun xs H Q=>∃(p:Addr) (ss:List Str),xs=[.ref p]∧SqL K H p (ss.map V.str)∧ss.length≤1000∧∀D,H D=none→Q (.ref D) (upd H D (aLg P w D ss))
theorem aGy (hc:X.calm=true):CallR X (.type "set") (aQo X.prog X.w X.K):=by
 intro pins s σ H xs us Q I r h
 obtain ⟨p,ss,rfl,hq,hl,q⟩:=h
 obtain ⟨u,rfl,rx⟩:=r.one
 cases rx
 obtain ⟨its,rv,pl,hz⟩:=I.list hq
 have hlen:=rv.length
 rw [List.length_map] at hlen
 refine wO (I.ok.hd hc) pl.isList (by rw [List.size_toArray];exact hlen) (fun i v hv=>?_) (by rw [List.size_toArray,←hlen];unfold scanBound;omega) fun h' tk x kp=>?_
 ·have hv':its[i]?=some v:=by simpa using hv
  have hi:i<ss.length:=by rw [hlen];exact (List.getElem?_eq_some_iff.mp hv').1
  obtain ⟨u,hu,t,rfl⟩:=rv.get (i:=i) (x:=.str ss[i]) (by rw [List.getElem?_map,List.getElem?_eq_getElem hi];rfl)
  rw [hv'] at hu
  cases hu
  exact ⟨t,by rw [List.getD_eq_getElem?_getD,List.getElem?_eq_getElem hi];rfl⟩
 ·have e:∃o,h'.get? s.heap.objs.size=some o:=by
   obtain ⟨o,_,_,_,ho,_⟩:=x
   exact ⟨o,ho⟩
  exact ⟨.ref s.heap.objs.size,_,I.laid (o:=aLg X.prog X.w s.heap.objs.size ss) (fun b o eo=>kp b o (Heap.lt_size eo) eo) (Nat.le_refl _) (show cP X.prog X.w h' s.heap.objs.size ss∧_∧_ from ⟨x,e,fun h1 h2 y k=>y.at k⟩),rfl,q _ (I.hok.fresh (Nat.le_refl _))⟩
theorem aHe:CallR X (.builtin "len") (fun xs H Q=>∃(D:Addr) (ss:List Str),xs=[.ref D]∧H D=some (aLg X.prog X.w D ss)∧Q (.int ((kO ss).length:Nat)) H):=by
 intro pins s σ H xs us Q I r h
 obtain ⟨D,ss,rfl,hD,q⟩:=h
 obtain ⟨u,rfl,rx⟩:=r.one
 cases rx
 obtain ⟨x,_⟩:=I.hok D _ hD
 exact aKh x ⟨.int ((kO ss).length:Nat),H,I.tok _,⟨_,rfl⟩,q⟩
end
theorem bU {X:Cx} {scope:Scope} {x y:Str} {σ:St} {v:V} (j:Nat) (hf:(y,NameKind.free)∈scope.names) (hj:X.N[j]?=some y) (hs:σ[j]?=some (some v)) (hv:Vis X.env.scope y):Cap X scope [x,y] σ [none,some v]:=
 ⟨rfl,fun i z u h1 h2=>by
  match i,h1,h2 with
  |0,_,h2=>cases h2
  |1,h1,h2=>cases h1;cases h2;exact ⟨hf,j,hj,hs,hv⟩
  |i+2,h1,_=>cases h1⟩
theorem oN {X:Cx} {scope:Scope} {x y:Str} {σ:St}:Cap X scope [x,y] σ [none,none]:=⟨rfl,fun i z u h1 h2=>by
  match i,h1,h2 with
  |0,_,h2=>cases h2
  |1,_,h2=>cases h2
  |i+2,h1,_=>cases h1⟩
section
variable {X:Cx} {a b e:Expr} {es:List Expr} {te:TE} {t:TA} {pos p:Pos} {x:Str}
theorem aN3 {k:Nat} (hr:Room k X.A) (hf:VE X (.Name x p) te) (ha:VA X (e::es) t) (hp:eZ e=true:=by rfl) (hpl:(backTo pos (starEach es X.env)).any (·.1)=false:=by rfl) :
  VE X (.Call (.Name x p) (e::es) [] pos) (aMa X.prog X.w X.K X.mg X.base k te t):=⟨aN6 hr hf.1 ha.1 (bI hp) hpl⟩
theorem aEa {P:Program} {w:World} {K:PySem.W.Frag} {mg:Str→Option Value} {base:Heap} {k:Nat} (hr:Room k X.A) (hf:VE X (.Name x p) te) (ha:VA X (e::es) t) (hp:eZ e=true:=by rfl) (hpl:(backTo pos (starEach es X.env)).any (·.1)=false:=by rfl)
  (h1:X.prog=P:=by rfl) (h2:X.w=w:=by rfl) (h3:X.K=K:=by rfl) (h4:X.mg=mg:=by rfl) (h5:X.base=base:=by rfl) :
  VE X (.Call (.Name x p) (e::es) [] pos) (aMa P w K mg base k te t):=by
 subst h1 h2 h3 h4 h5
 exact aN3 hr hf ha hp hpl
theorem cT {K:PySem.W.Frag} (h:X.K=K:=by rfl):IxR X (rIxT K):=by subst h;exact ix_tup
theorem oH {K:PySem.W.Frag} {k:Nat} {u:TGs} {n:Nat} (hc:X.calm=true) (h:VGs X es u) (hn:(assignEach es X.env).length=n:=by rfl) (hst:(assignEach es X.env).findIdx? (·.1)=none:=by rfl) (hK:X.K=K:=by rfl):VG X (.Tuple es k pos) (gTup K n u):=by
 subst hK
 exact nO hc h hn hst
theorem aBg {elts:List Expr} {kt:Nat} {tp:Pos} (hg:Gl X "zip") (hm:X.mg "zip"=none) (ha:VA X [a,b] t) (hp:eZ a=true:=by rfl) (hp2:eZ b=true:=by rfl) :
  VI X (.Tuple elts kt tp) (.Call (.Name "zip" p) [a,b] [] pos) (aIl X.K t):=⟨aOd hg hm ha.1 (bI hp) (bI (es:=[]) hp2)⟩
theorem aBw {tg:Expr} {g:TG} (he:VE X e te) (hg:VG X tg g) (hs:swapsWithSole [tg] e pos.line X.env=pure false:=by rfl) (hw:swappedStores [tg] e X.env=pure none:=by rfl)
  (h1:(assignEach [tg] X.env).map (·.2)=[assign tg X.env]:=by rfl):VS X (.Assign [tg] e pos) (tAsg te g):=⟨ps_asg he.1 hg.1 hs hw h1⟩
end
section
variable {X:Cx}
def aSg:V→Option Int→Option Int→Hp→VK→Prop:=fun x lo hi H Q=>∃z,x=.str z∧z.length≤sizeLine∧Q (.str (Txt.slice z lo hi)) H
theorem aC5:SlR X aSg:=by
 intro pins s σ H x v vl vu lo hi sl Q I rx hs pl pu h
 obtain ⟨z,rfl,hz,q⟩:=h
 obtain ⟨t,rfl⟩:=rx
 have fin:∀l u:Option (Int × Tok),l.map (·.1)=lo→u.map (·.1)=hi→s.heap.IsSlice sl l u none→wpAny (model X.prog X.w) X.A (getItem (.str z t) (.ref sl)) (EP X pins σ Q) X.xe s:=fun l u e1 e2 hsl=>by
  subst e1 e2
  refine wpAny_getItem_str_slice (st:=none) hsl rfl ?_
  unfold sliceMade
  have hle:=Txt.slice_le z (l.map (·.1)) (u.map (·.1))
  exact post_val_or_str ⟨Nat.le_trans hle hz,fun t' k=>⟨.str (Txt.slice z (l.map (·.1)) (u.map (·.1))),H,I.tok _,⟨_,rfl⟩,q⟩⟩
 refine ⟨"str",_,F.slot_str_getitem.lookup,typeIs_str _ _ _,?_⟩
 obtain ⟨o,ho,hc,hd⟩:=hs
 cases pl with
 |none=>
  cases pu with
  |none=>exact fin none none rfl rfl ⟨o,ho,hc,hd⟩
  |int j u=>exact fin none (some (j,u)) rfl rfl ⟨o,ho,hc,hd⟩
 |int i t=>
  cases pu with
  |none=>exact fin (some (i,t)) none rfl rfl ⟨o,ho,hc,hd⟩
  |int j u=>exact fin (some (i,t)) (some (j,u)) rfl rfl ⟨o,ho,hc,hd⟩
end
theorem aL2 {x:Str} {j:Nat} (h:j≤x.length):(Txt.slice x none (some (j:Int))).cps.toList=x.cps.toList.take j:=by
 have e:=StrLaws.sliceText_to (x:=x) (j:=(j:Int)) ⟨by omega,by rw [Array.length_toList];exact Int.ofNat_le.mpr h⟩
 show (StrLaws.sliceText x none (some (j:Int))).cps.toList=_
 rw [e]
 simp
theorem aHg {x:Str} {j:Nat} (h:j≤x.length):(Txt.slice x (some (j:Int)) none).cps.toList=x.cps.toList.drop j:=by
 have e:=StrLaws.sliceText_from (x:=x) (i:=(j:Int)) ⟨by omega,by rw [Array.length_toList];exact Int.ofNat_le.mpr h⟩
 show (StrLaws.sliceText x (some (j:Int)) none).cps.toList=_
 rw [e]
 simp only [Int.toNat_natCast]
 refine List.take_of_length_le ?_
 rw [List.length_drop]
 omega
def put (x:Str) (a:Nat) (c:Nat):Str:=Txt.slice x none (some (a:Int))++⟨#[c]⟩++Txt.slice x (some (a:Int)) none
theorem aB8 {x:Str} {a c:Nat} (h:a≤x.length):(put x a c).cps.toList=x.cps.toList.take a++c::x.cps.toList.drop a:=by
 show ((Txt.slice x none (some (a:Int))).cps++#[c]++(Txt.slice x (some (a:Int)) none).cps).toList=_
 rw [Array.toList_append,Array.toList_append,aL2 h,aHg h]
 simp
theorem aOq {x:Str} {a c d:Nat} (h:a≤x.length) (e:put x a c=put x a d):c=d:=by
 have e1:=congrArg (fun y:Str=>y.cps.toList) e
 simp only [aB8 h] at e1
 have e2:=List.append_cancel_left e1
 exact (List.cons.inj e2).1
theorem vU {x:Str} {a c:Nat} (h:a≤x.length):(put x a c).length=x.length+1:=by
 have e:=congrArg List.length (aB8 (c:=c) h)
 have l:x.length=x.cps.toList.length:=by rw [Array.length_toList];rfl
 rw [Array.length_toList,List.length_append,List.length_cons,List.length_take,List.length_drop] at e
 show (put x a c).cps.size=_
 omega
theorem aNw {x:Str} {a c d:Nat} (h:a≤x.length) (m:d∈(put x a c).cps):d=c∨d∈x.cps:=by
 have m1:d∈(put x a c).cps.toList:=Array.mem_toList_iff.mpr m
 rw [aB8 h] at m1
 rcases List.mem_append.mp m1 with z|z
 ·exact .inr (Array.mem_toList_iff.mp (List.mem_of_mem_take z))
 ·rcases List.mem_cons.mp z with z|z
  ·exact .inl z
  ·exact .inr (Array.mem_toList_iff.mp (List.mem_of_mem_drop z))
section
variable {X:Cx} {scope:Scope} {N:List Str} {wi:TI} {te:TE} {σ:St} {H:Hp} {Q:VK}
end
section
variable {X:Cx} {scope:Scope} {N:List Str} {wi:TI} {te:TE} {σ:St} {H:Hp} {Q:VK}
theorem aK7 {K:PySem.W.Frag} {tl:TA} (xs ys:List V) (f:V→V→V) (σ0:St) (cap:Cap X scope N σ σ0) (hsz:xs.length≤sizeLine) (hl:xs.length=ys.length)
  (hw:∀R:List V→Hp→Prop,(∀t u H1,Same H H1→SqT K H1 t xs→SqT K H1 u ys→R [.ref t,.ref u] H1)→tl σ H R)
  (he:∀(i:Nat) (x y:V),xs[i]?=some x→ys[i]?=some y→∀H' R l1 l2,Same H H'→(∀H2,Same H' H2→R (f x y) H2)→te ((((σ0.set 0 l1).set 1 l2).set 0 (some x)).set 1 (some y)) H' R) (h0:σ0[0]?=some none) (h1:σ0[1]?=some none)
  (q:∀D H',Same H H'→H' D=some (.lst (List.zipWith f xs ys))→Q (.ref D) H') :
  eX X scope N (aIl K tl) (gTup K 2 (gCons (gName 0) (gCons (gName 1) gNil))) jT te σ H Q:=by
 refine ⟨σ0,cap,hw _ fun t u H1 s1 ht hu=>⟨t,u,xs,ys,rfl,ht,hu,fun D hD=>?_⟩⟩
 refine ⟨fun i m σ' H' zs=>i≤xs.length∧m=xs.length - i∧(∃l1 l2,σ'=(σ0.set 0 l1).set 1 l2)∧Same H1 H'∧H' D=some (.lst zs)∧zs=(List.zipWith f xs ys).take i,⟨xs.length,Nat.zero_le _,rfl,⟨none,none,?_⟩,aW hD _,upd_same,rfl⟩,?_⟩
 ·rw [←cU h0];exact cU h1
 rintro i m σ' H' zs ⟨hi,rfl,⟨l1,l2,rfl⟩,sm,hL,rfl⟩
 refine ⟨hL,?_⟩
 by_cases hlt:i<xs.length
 ·right
  refine ⟨⟨sm.aN ht,sm.aN hu,hlt,by omega⟩,fun v H2 hy=>?_⟩
  obtain ⟨T,a,b,hT,rfl,rfl,ha,hb⟩:=hy
  have s2:Same H' (upd H' T (.tup [a,b])):=aW hT _
  refine ⟨T,[a,b],rfl,.inl (.inl upd_same),rfl,a,[b],rfl,b,[],rfl,rfl,?_⟩
  unfold jT
  dsimp only
  rw [if_pos rfl]
  refine he i a b ha hb _ _ l1 l2 (fun b o e=>s2 _ _ (sm _ _ (s1 _ _ e))) fun H3 s3=>⟨s3 _ _ (s2 _ _ hL),?_,xs.length - (i+1),by omega,hlt,rfl,⟨some a,some b,?_⟩,?_,upd_same,?_⟩
  ·rw [List.length_take,List.length_zipWith];omega
  ·rw [List.set_comm _ _ (show (1:Nat)≠0 by decide),List.set_set,List.set_set]
  ·intro c o e
   rw [upd_ne (ne_of_none e hD)]
   exact s3 _ _ (s2 _ _ (sm _ _ e))
  ·rw [List.take_add_one,List.getElem?_zipWith,ha,hb]
   rfl
 ·left
  have e:i=xs.length:=by omega
  subst e
  refine ⟨⟨sm.aN ht,Nat.le_refl _⟩,?_⟩
  rw [List.take_of_length_le (by rw [List.length_zipWith];omega)] at hL
  exact q D _ (s1.trans sm) hL
end
section
variable {X:Cx} {e:Expr} {es:List Expr} {t:TA} {pos:Pos}
def aSb (t:TA):TE:=fun σ H Q=>t σ H fun xs H1=>xs.length≤sizeLine∧∀p H',H1 p=none→Same H1 H'→H' p=some (.tup xs)→Q (.ref p) H'
def aPc (t:TA):TE:=fun σ H Q=>t σ H fun xs H1=>xs.length≤sizeLine∧∀p H',H1 p=none→Same H1 H'→H' p=some (.lst xs)→Q (.ref p) H'
theorem bY {x1} (h:VA X es t):VE X (.Tuple es x1 pos) (aSb t):=⟨by
 intro pins s σ H Q I hq
 refine wpAny_Tuple_spliced (thn (h.1 pos pins s σ H _ I hq) fun us s1 ⟨xs,H1,I1,r,z,q⟩=>⟨by rw [←r.length];exact z,?_⟩)
 have hf:H1 s1.heap.objs.size=none:=I1.hok.fresh (Nat.le_refl _)
 refine ⟨.ref s1.heap.objs.size,upd H1 s1.heap.objs.size (.tup xs),I1.laid (t':=s1.toks) (fun b u e=>Heap.get?_push_of_some _ e) (Nat.le_refl _) ?_,rfl,q _ _ hf (aW hf _) upd_same⟩
 exact ⟨z,us,r,.of (Heap.get?_push_size _ rfl) rfl ⟨_,Heap.get?_push_size _ rfl,rfl,_,rfl⟩⟩⟩
theorem cB (h:VA X es t):VE X (.List es pos) (aPc t):=⟨by
 intro pins s σ H Q I hq
 refine wpAny_List_spliced (thn (h.1 pos pins s σ H _ I hq) fun us s1 ⟨xs,H1,I1,r,z,q⟩=>⟨by rw [←r.length];exact z,?_⟩)
 have hf:H1 s1.heap.objs.size=none:=I1.hok.fresh (Nat.le_refl _)
 refine ⟨.ref s1.heap.objs.size,upd H1 s1.heap.objs.size (.lst xs),I1.laid (t':=s1.toks) (fun b u e=>Heap.get?_push_of_some _ e) (Nat.le_refl _) ?_,rfl,q _ _ hf (aW hf _) upd_same⟩
 exact ⟨z,us,0,r,Heap.get?_push_size _ rfl⟩⟩
theorem OpR.imp {f:Value→Value→Sem Value} {r r':R2} (h:OpR X f r) (k:∀x y H Q,r' x y H Q→r x y H Q):OpR X f r':=fun pins s σ H x y v u Q I rx ry q=>h pins s σ H x y v u Q I rx ry (k _ _ _ _ q)
theorem CallR.imp {f:Value} {r r':List V→Hp→VK→Prop} (h:CallR X f r) (k:∀xs H Q,r' xs H Q→r xs H Q):CallR X f r':=fun pins s σ H xs us Q I rv q=>h pins s σ H xs us Q I rv (k _ _ _ q)
def aP1 (K:PySem.W.Frag):R2:=fun x y H Q=>∃a b xs ys,x=.ref a∧y=.ref b∧SqT K H a xs∧SqT K H b ys∧xs.length+ys.length≤sizeLine∧∀r H',Same H H'→SqT K H' r (xs++ys)→Q (.ref r) H'
theorem vN:OpR X (binaryOp .Add) (aP1 X.K):=OpR.imp (op_catT.or aN4) fun x y H Q ⟨a,b,xs,ys,ex,ey,ha,hb,hz,q⟩=>by
 by_cases h:xs=[]
 ·subst h
  exact .inr ⟨a,b,ys,ex,ey,ha,hb,q b H (Same.refl H) hb⟩
 ·refine .inl ⟨a,b,xs,ys,ex,ey,ha,hb,h,hz,fun z=>?_,fun _ p hp=>q p _ (aW hp _) (SqT.of upd_same)⟩
  subst z
  exact q a H (Same.refl H) (by rw [List.append_nil];exact ha)
def aSe (K:PySem.W.Frag):V→Option Int→Option Int→Hp→VK→Prop:=fun x lo hi H Q=>∃a xs,x=.ref a∧SqT K H a xs ∧
 ¬ (HT.sIx xs.length 0 lo=0∧HT.sIx xs.length xs.length hi=xs.length)∧∀p H',Same H H'→H' p=some (.tup (cutV xs lo hi))→Q (.ref p) H'
theorem aCx:SlR X (aSe X.K):=fun pins s σ H x v vl vu lo hi sl Q I rx hs pl pu ⟨a,xs,e,ha,hn,q⟩=>
 sl_tup pins s σ H x v vl vu lo hi sl Q I rx hs pl pu ⟨a,xs,e,ha,hn,fun p hp=>q p _ (aW hp _) upd_same⟩
def aQa:R2:=fun x y H Q=>∃l b xs zs,x=.ref l∧y=.ref b∧H l=some (.lst xs)∧H b=some (.lst zs)∧xs.length+zs.length≤sizeLine∧∀p H',H p=none→Same H H'→H' p=some (.lst (xs++zs))→Q (.ref p) H'
theorem aL1:OpR X (binaryOp .Add) aQa:=OpR.imp op_cat fun x y H Q ⟨l,b,xs,zs,ex,ey,hl,hb,hz,q⟩=>⟨l,b,xs,zs,ex,ey,hl,hb,hz,fun p hp=>q p _ hp (aW hp _) upd_same⟩
def aP4 (K:PySem.W.Frag):List V→Hp→VK→Prop:=fun xs H Q=>∃p ys,xs=[.ref p]∧(SqL K H p ys∨SqT K H p ys)∧∀l H',H l=none→Same H H'→H' l=some (.lst ys)→Q (.ref l) H'
theorem pK:CallR X (.type "list") (aP4 X.K):=CallR.imp call_list_of fun xs H Q ⟨p,ys,e,h,q⟩=>⟨p,ys,e,h,fun l hl=>q l _ hl (aW hl _) upd_same⟩
def aI3 (K:PySem.W.Frag):List V→Hp→VK→Prop:=fun xs H Q=>∃p ys,xs=[.ref p]∧SqL K H p ys∧∀l H',H l=none→Same H H'→H' l=some (.tup ys)→Q (.ref l) H'
theorem bN:CallR X (.type "tuple") (aI3 X.K):=CallR.imp call_tuple_of fun xs H Q ⟨p,ys,e,h,q⟩=>⟨p,ys,e,.inl ⟨h,fun l hl=>q l _ hl (aW hl _) upd_same⟩⟩
theorem dH:MtR X "list.append" rAppend:=mt_append
theorem bR {H H':Hp} {D:Addr} {o:HO} (f:H D=none) (s:Same H H'):Same H (upd H' D o):=fun b u e=>by rw [upd_ne (ne_of_none e f)];exact s _ _ e
end
end L2
namespace PySem
section
variable {prog:Program} {w:World} {A:Around} {E:Value→Shared→Prop} {s:Shared} {T:String} {r d:Addr} {n:Nat} {P:Nat→Value→Prop} {OK:Heap→Prop}
theorem aFo {Q:List Value→Shared→Prop} (Kd:PySem.W.KdlSrc prog w T r d n P OK) (hh:A.handled=none) (hok:OK s.heap)
  (hQ:∀h' tk acc,(∀b o,s.heap.get? b=some o→h'.get? b=some o)→ItemsOf P acc n→Q acc.toList { s with heap:=h',toks:=tk }) (hn:n≤sizeLine) :
  wpAny (model prog w) A (collect (.ref r)) Q E s:=by
 unfold collect
 refine wpAny_bind (wpAny_runValue (codeAny_builtin F.entry_proto_collect ?_))
 rw [Around.under_plainId F.plain_proto_collect _]
 show wpAny _ A.in1 (newList [] >>= fun l=>again (.builtin "list.__iadd__" ⟨[l,.ref r],[]⟩)) _ _ s
 refine wpAny_bind (wpAny_newObj_type ?_)
 refine wpAny_pure ⟨plainId_quiet F.plain_list_iadd _,codeAny_builtin F.entry_list_iadd ?_⟩
 rw [Around.under_plainId F.plain_list_iadd _]
 show wpAny _ A.in1 (Builtin.List.listExtendWith (.ref s.heap.objs.size) (.ref r) (.ref s.heap.objs.size)) _ _ _
 have hS:(s.heap.push { cls:=.type "list",data:=.seq ([]:List Value).toArray }).get? s.heap.objs.size=some { cls:=.type "list",data:=.seq #[] 0 }:=Heap.get?_push_size _ rfl
 have hlt:=Kd.there _ hok
 have fin':∀h' tk acc' c',(∀b o,b≠s.heap.objs.size→(s.heap.push { cls:=.type "list",data:=.seq ([]:List Value).toArray }).get? b=some o→h'.get? b=some o) →
   h'.get? s.heap.objs.size=some { cls:=.type "list",dict:=none,data:=.seq acc' c',slots:=#[] }→ItemsOf P acc' n →
   wpAny (model prog w) A (match Value.ref s.heap.objs.size with
   |Value.ref a=>do
    match (←load a).data with
     |Data.seq xs _=>pure xs.toList
     |_=>unsupported "internal:collect"
   |_=>unsupported "internal:collect") Q E { s with heap:=h',toks:=tk }:=by
  intro h' tk acc' c' kp hS' hacc
  show wpAny _ A (load s.heap.objs.size >>= _) _ _ _
  refine wpAny_bind (wpAny_load hS' ?_)
  refine wpAny_pure ?_
  exact hQ h' tk acc' (fun b o e=>kp b o (Nat.ne_of_lt (Heap.lt_size e)) (Heap.get?_push_of_some _ e)) hacc
 refine wpAny_mono (PySem.W.kdl_extend (A:=A) (R:=fun q s'=>∃h' tk acc' c',q=.ok (.ret (.ref s.heap.objs.size))∧s'={ s with heap:=h',toks:=tk }∧(∀b o,b≠s.heap.objs.size→(s.heap.push { cls:=.type "list",data:=.seq ([]:List Value).toArray }).get? b=some o→h'.get? b=some o) ∧
   h'.get? s.heap.objs.size=some { cls:=.type "list",dict:=none,data:=.seq acc' c',slots:=#[] }∧ItemsOf P acc' n)
  (s:={ s with heap:=s.heap.push { cls:=.type "list",data:=.seq ([]:List Value).toArray } }) Kd hh (Kd.keep _ _ hok fun b _ o e=>Heap.get?_push_of_some _ e) s.heap.objs.size (Nat.ne_of_gt hlt.1) (Nat.ne_of_gt hlt.2) (.ref s.heap.objs.size) 0 hS
   (fun h' tk acc' c' kp hS' hacc=>⟨h',tk,acc',c',rfl,rfl,kp,hS',hacc⟩) hn) (fun fin s' h=>?_) (fun e s' h=>?_)
 ·cases fin with
  |done f=>
   obtain ⟨h',tk,acc',c',e,rfl,kp,hS',hacc⟩:=h
   cases e
   exact fin' h' tk acc' c' kp hS' hacc
  |again c'=>exact ⟨h.1,codeAny_mono h.2 fun q s'' hr=>by
    obtain ⟨h',tk,acc',c',rfl,rfl,kp,hS',hacc⟩:=hr
    exact fin' h' tk acc' c' kp hS' hacc⟩
 ·obtain ⟨_,_,_,_,e,_⟩:=h
  cases e
end
theorem oA {prog:Program} {w:World} (d:Addr) (kvs:List (Str × Value)) (lo:(d == sysModules)=false) (hn:kvs.length≤sizeLine) :
  MeetsIn prog w (Builtin.«tuple.__new__» ⟨[.type "tuple",.ref d],[]⟩)
   (fun A R s=>A.handled=none∧(s.heap.DictOf (strKind prog w) d kvs)∧∀(h':Heap) (tk:Nat) (acc:Array Value),(∀b o,s.heap.get? b=some o→h'.get? b=some o) →
    ItemsOf (fun i v=>∃k x t,kvs[i]?=some (k,x)∧v=.str k t) acc kvs.length→R (.ok (.ret (.ref h'.objs.size))) { s with heap:=h'.push { cls:=.type "tuple",data:=.seq acc },toks:=tk }):=
 .of_wp fun A R s h=>by
  obtain ⟨hh,hm,h⟩:=h
  have hsub:=sub_tuple_self
  have hinit:=init_tuple_lookup
  have hmh:=madeHere_tuple
  have hT:s.TypeIs (.ref d) "dict":=hm.typeIs
  have hh1:A.in1.handled=none:=hh
  obtain ⟨ep,hat⟩:=hm.dictAt
  obtain ⟨o,es,ho,hx⟩:=id hat
  wp_walk using AutoSeq1.wpAny_loadPart' ho,wpAny_typeOf hT,aFo (hn:=hn) (PySem.W.kdl_dict (knd:=strKind prog w) (kvs:=kvs) (ep:=ep) lo) hh1 hat
  intro h' tk acc kp hacc
  show wpAny _ _ (Builtin.Tuple.tupleExact acc.toList.toArray >>= fun v=>ret v) _ _ _
  unfold Builtin.Tuple.tupleExact
  refine wpAny_bind (wpAny_newObj_type ?_ (show acc.toList.toArray.size≤sizeLine by simp only [Array.toArray_toList];rw [hacc.1];exact hn))
  refine wpAny_pure ⟨_,rfl,?_⟩
  have e:acc.toList.toArray=acc:=by simp
  rw [e]
  refine h h' tk acc kp ⟨hacc.1,fun j v hv=>?_⟩
  obtain ⟨k,x,e1,e2⟩:=hacc.2 j v hv
  obtain ⟨t,rfl⟩:=Value.isStrOf_shape (x:=k) (v:=v) e2
  exact ⟨k,x,t,e1,rfl⟩
end PySem
namespace L2
open PySem PySem.Spec PyProof.Rows
def aOs (w:World) (K:PySem.W.Frag) (d:Addr) (kvs:List (Str × Addr)):Prop:=∃o,K.lookup d=some o∧(d == sysModules)=false∧∀P:Program,o.IsDictOf (strKind P w) (kvs.map fun p=>(p.1,Value.ref p.2))
section
variable {X:Cx}
def aSm (w:World) (K:PySem.W.Frag):R2:=fun x y H Q=>∃d kvs k p,x=.ref d∧y=.str k∧aOs w K d kvs∧(kvs.find? fun q=>decide (q.1=k)).map (·.2)=some p∧Q (.ref p) H
theorem aLj (kvs:List (Str × Addr)) (k:Str) {p:Addr} (h:(kvs.find? fun q=>decide (q.1=k)).map (·.2)=some p):valueAt (kvs.map fun q=>(q.1,Value.ref q.2)) k=some (.ref p):=by
 unfold valueAt
 rw [List.find?_map]
 cases e:kvs.find? fun q=>decide (q.1=k) with
 |none=>rw [e] at h;cases h
 |some q=>
  rw [e] at h
  have h:q.2=p:=Option.some.inj h
  have e':kvs.find? ((fun kv:Str × Value=>decide (kv.1=k)) ∘ fun q=>(q.1,Value.ref q.2))=some q:=e
  rw [e',←h]
  rfl
theorem aOp:IxR X (aSm X.w X.K):=by
 intro value slice pins s σ H x y v u Q I rx ry h hs
 obtain ⟨d,kvs,k,p,rfl,rfl,⟨o,hk,lo,hd⟩,hp,q⟩:=h
 cases rx
 obtain ⟨t,rfl⟩:=ry
 have hm:s.heap.DictOf (strKind X.prog X.w) d (kvs.map fun p=>(p.1,Value.ref p.2)):=Heap.dictOf_iff.mpr ⟨o,I.kIn _ _ hk,hd _⟩
 exact tail_any hm.typeIs slot_dict_getitem.lookup (wpAny_getItem_of (strKind_is _ _ _ _) hm.mapOf (aLj kvs k hp) ⟨.ref p,H,I.tok _,rfl,q⟩) hs
def aR5 (w:World) (K:PySem.W.Frag):List V→Hp→VK→Prop:=fun xs H Q=>∃d kvs,xs=[.ref d]∧aOs w K d kvs∧kvs.length≤1000∧∀p H',Same H H'→H' p=some (.tup (kvs.map fun q=>V.str q.1))→Q (.ref p) H'
theorem zO:∀(kvs:List (Str × Value)) (vs:List Value),vs.length=kvs.length→(∀(j:Nat) (v:Value),vs[j]?=some v→∃k x t,kvs[j]?=some (k,x)∧v=.str k t)→Vals (kvs.map fun q=>V.str q.1) vs
 |[],[],_,_=>.nil
 |(k,x)::r,v::vs,hl,h=>by
  obtain ⟨k',x',t,e,rfl⟩:=h 0 v rfl
  cases e
  exact .cons ⟨t,rfl⟩ (zO r vs (by simpa using hl) fun j u e=>h (j+1) u e)
theorem aKm (hc:X.calm=true):CallR X (.type "tuple") (aR5 X.w X.K):=by
 intro pins s σ H xs us Q I r h
 obtain ⟨d,kvs,rfl,⟨o,hk,lo,hd⟩,hl,q⟩:=h
 obtain ⟨u,rfl,ru⟩:=vals1 r
 cases ru
 have hm:s.heap.DictOf (strKind X.prog X.w) d (kvs.map fun p=>(p.1,Value.ref p.2))  :=Heap.dictOf_iff.mpr ⟨o,I.kIn _ _ hk,hd _⟩
 have hn:(kvs.map fun p=>(p.1,Value.ref p.2)).length≤sizeLine:=small (by rw [List.length_map];exact hl)
 refine callType_newIn F.called_tuple (by decide) (F.typeCall_tuple_1 _) (F.newCall_tuple_1 _) (fun obj=>F.args_object_init_2 obj _) F.entry_tuple_new
  (oA d _ lo hn) ⟨I.ok.hd hc,hm,fun h' tk acc kp hacc=>⟨⟨_,Heap.get?_push_size _ rfl,rfl⟩,?_⟩⟩
 have hv:=zO (kvs.map fun p=>(p.1,Value.ref p.2)) acc.toList (by rw [Array.length_toList];exact hacc.1) fun j v e=>hacc.2 j v (by rw [←Array.getElem?_toList];exact e)
 rw [List.map_map] at hv
 have hv:Vals (kvs.map fun q=>V.str q.1) acc.toList:=hv
 have I1:Inv X pins σ H { s with heap:=h',toks:=tk }:=I.kept (t':=tk) kp
 refine ⟨.ref h'.objs.size,_,I1.laid (t':=tk) (o:=.tup (kvs.map fun q=>V.str q.1)) (fun b ob e=>Heap.get?_push_of_some _ e) (Nat.le_refl _) ?_,rfl,q _ _ (aW (I1.hok.fresh (Nat.le_refl _)) _) upd_same⟩
 have ea:acc.toList.toArray=acc:=by simp
 refine ⟨small (by rw [List.length_map];exact hl),acc.toList,hv,?_⟩
 rw [ea]
 exact .of (Heap.get?_push_size _ rfl) rfl ⟨_,Heap.get?_push_size _ rfl,rfl,_,rfl⟩
end
section
variable {X:Cx} {pins:List (Addr × Obj)} {σ:St} {H:Hp} {s:Shared}
end
def Ite (K:PySem.W.Frag) (l:Addr) (xs:List V):It:=
 ⟨fun i H=>SqL K H l xs∧i<xs.length,fun i H v H'=>∃T a,H T=none∧v=.ref T∧H'=upd H T (.tup [.int (i:Nat),a])∧xs[i]?=some a,fun i H=>SqL K H l xs∧xs.length≤i⟩
def etn (e it l:Addr) (i:Nat) (h:Heap):Prop:=(∃old,IsEnum h e it (i:Int) old)∧h.IsListIter it l i
theorem aKj {P:Program} {w:World} {K:PySem.W.Frag} {elts:List Expr} {kt:Nat} {pos:Pos} {e it l:Addr} {xs:List V} (hne:e≠it) :
  Turn P w K (.Tuple elts kt pos) (Ite K l xs) [e,it] e (etn e it l) where
 mem:=by simp
 obj:=fun i h st b hb=>by
  obtain ⟨⟨old,e1⟩,o,e2,c2,d2⟩:=st
  simp only [List.mem_cons,List.not_mem_nil,or_false] at hb
  rcases hb with rfl|rfl
  ·exact ⟨_,e1,fun v z=>by cases (show Data.fields _=Data.cell v from z)⟩
  ·exact ⟨_,e2,fun v z=>by rw [d2] at z;cases z⟩
 keep:=fun i h h' st k=>by
  obtain ⟨⟨old,e1⟩,o,e2,r⟩:=st
  exact ⟨⟨old,k e (by simp) _ e1⟩,o,k it (by simp) _ e2,r⟩
 item:=by
  intro X hP hw hK hc i pins s σ H E I hf st hg
  subst hP hw hK
  obtain ⟨⟨old,e1⟩,e2⟩:=st
  obtain ⟨hl,l1⟩:=hg
  obtain ⟨its,rv,pl,hz⟩:=I.list hl
  obtain ⟨x,hx,rx⟩:=rv.get (List.getElem?_eq_getElem l1)
  have fe:=hf e (by simp)
  have fi:=hf it (by simp)
  refine wpAny_pyNext_enum_item e1 e2 pl.isList (by simpa using hx) hne fun h' a1 a2 a3 a4 kp=>?_
  refine ⟨_,rfl,?_⟩
  have fT:H s.heap.objs.size=none:=I.hok.fresh (Nat.le_refl _)
  obtain ⟨oi,e2',_⟩:=id e2
  obtain ⟨oi2,a2',_⟩:=id a2
  have I1:Inv X pins σ (upd H s.heap.objs.size (.tup [.int (i:Nat),xs[i]])) { s with heap:=h' }:=by
   refine I.drawn (ch:=[e,it]) (its:=[.int i s.toks,x]) (fun b hb=>hf b hb) (fun b o hb z=>?_) (Nat.le_refl _) (.cons ⟨_,rfl⟩ (.cons rx .nil)) (small (by simp)) (.of a3 rfl ⟨_,a3,rfl,_,rfl⟩) (fun b hb=>?_)
   ·simp only [List.mem_cons,List.not_mem_nil,or_false,not_or] at hb
    exact kp b o hb.1 hb.2 z
   ·simp only [List.mem_cons,List.not_mem_nil,or_false] at hb
    rcases hb with rfl|rfl
    ·exact ⟨_,a1⟩
    ·exact ⟨_,a2'⟩
  have I1':Inv X pins σ (upd H s.heap.objs.size (.tup [.int (i:Nat),xs[i]])) { s with heap:=h',toks:=s.toks+1 }:=I1.tok _
  have nT:∀b∈[e,it],b≠s.heap.objs.size:=fun b hb=>by
   simp only [List.mem_cons,List.not_mem_nil,or_false] at hb
   rcases hb with rfl|rfl
   ·exact Nat.ne_of_lt (Heap.lt_size e1)
   ·exact Nat.ne_of_lt (Heap.lt_size e2')
  refine wpAny_letOwnedTupleGo_enum (s:={ s with heap:=h',toks:=s.toks+1 }) a1 fun h2 z2 s2=>?_
  obtain ⟨g0,g1,g2,g3,g4,g5⟩:=fe
  have I2:Inv X pins σ (upd H s.heap.objs.size (.tup [.int (i:Nat),xs[i]])) { s with heap:=h2,toks:=s.toks+1 }:=Inv.turned (s:={ s with heap:=h',toks:=s.toks+1 }) I1' (t':=s.toks+1) (it:=e) (fun b o hb z=>(s2.2 b hb).trans z) (by rw [upd_ne (nT e (by simp))];exact g0) g1 g3 g4 g5
  refine ⟨.ref s.heap.objs.size,_,I2,rfl,⟨_,_,fT,rfl,rfl,List.getElem?_eq_getElem l1⟩,⟨⟨x,?_⟩,?_⟩,fun b hb=>by rw [upd_ne (nT b hb)];exact (hf b hb).1⟩
  ·rw [show ((i+1:Nat):Int)=(i:Int)+1 from by omega]
   exact z2
  ·obtain ⟨o,ho,r⟩:=a2
   exact ⟨o,(s2.2 it (Ne.symm hne)).trans ho,r⟩
 done:=by
  intro X hP hw hK hc i pins s σ H E I hf st hg
  subst hP hw hK
  obtain ⟨⟨old,e1⟩,e2⟩:=st
  obtain ⟨hl,hi⟩:=hg
  obtain ⟨its,rv,pl,hz⟩:=I.list hl
  have hlen:=rv.length
  refine wpAny_pyNext_enum_end (I.ok.hd hc) e1 e2 pl.isList (by simp;omega) fun h' kp=>⟨rfl,?_⟩
  refine Inv.aIz (ch:=[it]) I (fun b hb=>hf b (List.mem_cons_of_mem _ hb)) fun b o hb z=>kp b o (by simpa using hb) z
 self:=fun _ _ _ _ _ st h=>by
  obtain ⟨⟨old,e1⟩,_⟩:=st
  exact wpAny_pyIter_enum e1 h
section
variable {X:Cx}
def aPr (K:PySem.W.Frag) (ta:TA):TI:=fun σ H R=>ta σ H fun vs H1=>∃l xs,vs=[.ref l]∧SqL K H1 l xs∧R (Ite K l xs) H1
theorem aOz {elts:List Expr} {kt:Nat} {tp:Pos} {a:Expr} {ta:TA} {p pos:Pos} (hg:Gl X "enumerate") (hm:X.mg "enumerate"=none) (ha:PA X [a] ta) (hs:starEach [a] X.env=[(false,eval a X.env)]:=by rfl) :
  PI X (.Tuple elts kt tp) (.Call (.Name "enumerate" p) [a] [] pos) (aPr X.K ta):=by
 intro pins s σ H R I h
 refine Call_ (ld_blt I hg hm aA8 (PyProof.Rows.callWith_type1 (thn (ha pos pins s σ H _ I h) fun us s1 ⟨vs,H1,I1,r1,q1⟩=>?_) hs (by rfl)))
 obtain ⟨l,xs,e,hl,q⟩:=q1
 subst e
 obtain ⟨its,rv,pl,hz⟩:=I1.list hl
 obtain ⟨u,rfl,ru⟩:=vals1 r1
 cases ru
 refine call_enumerate_list pl.isList fun h' a1 a2 a3 kp=>?_
 have I2:Inv X pins σ H1 { s1 with heap:=h' }:=I1.kept (t':=s1.toks) kp
 refine wpAny_pyIter_enum (s:={ s1 with heap:=h' }) a1 ⟨_,_,_,_,H1,rfl,I2,aKj (xs:=xs) (l:=l) (Nat.ne_of_gt (Nat.lt_succ_self _)),⟨⟨_,a1⟩,a2⟩,fun b hb=>?_,q⟩
 have hb':s1.heap.objs.size≤b:=by
  simp only [List.mem_cons,List.not_mem_nil,or_false] at hb
  rcases hb with rfl|rfl
  ·exact Nat.le_succ _
  ·exact Nat.le_refl _
 exact I1.fpOk hb' (I1.hok.fresh hb')
theorem aMb {K:PySem.W.Frag} {l:Addr} {xs:List V} {g:TG} {tb:TS} {D:Ends} {σ:St} {H:Hp} (Pv:Nat→St→Hp→Prop) (h0:Pv 0 σ H) (hl:∀i σ H,i≤xs.length→Pv i σ H→SqL K H l xs)
  (hs:∀i σ H a T H',xs[i]?=some a→Pv i σ H→H T=none→H'=upd H T (.tup [.int (i:Nat),a])→g (.ref T) σ H' fun σ2 H2=>tb { D with nx:=Pv (i+1),ct:=Pv (i+1),bk:=D.nx } σ2 H2) (hd:∀σ H,Pv xs.length σ H→D.nx σ H) :
  ∃W:Nat→Nat→St→Hp→Prop,(∃m,W 0 m σ H)∧∀i m σ H,W i m σ H →
   ((Ite K l xs).stop i H∧D.nx σ H)∨((Ite K l xs).go i H∧∃N:St→Hp→Prop,(∀σ' H',N σ' H'→∃m',m'<m∧W (i+1) m' σ' H')∧∀x H',(Ite K l xs).yld i H x H'→g x σ H' fun σ2 H2=>tb { D with nx:=N,ct:=N,bk:=D.nx } σ2 H2):=by
 refine ⟨fun i m σ H=>m=xs.length - i∧i≤xs.length∧Pv i σ H,⟨xs.length,by simp,Nat.zero_le _,h0⟩,?_⟩
 rintro i m σ H ⟨rfl,hi,p⟩
 by_cases hlt:i<xs.length
 ·refine .inr ⟨⟨hl i σ H hi p,hlt⟩,Pv (i+1),fun σ' H' p'=>⟨xs.length - (i+1),by omega,rfl,hlt,p'⟩,fun x H' y=>?_⟩
  obtain ⟨T,a,hT,rfl,e,ha⟩:=y
  exact hs i σ H a T H' ha p hT e
 ·have e:i=xs.length:=by omega
  subst e
  exact .inl ⟨⟨hl _ σ H hi p,Nat.le_refl _⟩,hd σ H p⟩
end
section
variable {X:Cx} {a c e:Expr} {st:Stmt} {body:List Stmt} {tc:TT} {tb:TS} {t:TA} {te:TE} {pos p:Pos}
theorem gG:VS X st tNever:=⟨ps_never⟩
theorem aLl (hp:PassesOwn (model X.prog X.w) X.A X.env X.xe) (hc:VT X c tc) (hb:VSs X body tb):VS X (.While c body [] pos) (tWhile tc tb):=⟨ps_while hp hc.1 hb.1⟩
theorem aOb {elts:List Expr} {kt:Nat} {tp:Pos} (hg:Gl X "enumerate") (hm:X.mg "enumerate"=none) (ha:VA X [a] t) (hp:eZ a=true:=by rfl) :
  VI X (.Tuple elts kt tp) (.Call (.Name "enumerate" p) [a] [] pos) (aPr X.K t):=⟨aOz hg hm ha.1 (bI (es:=[]) hp)⟩
theorem aOa:MtR X "list.pop" rPop:=mt_pop
theorem aHk:MtR X "list.extend" rExtend:=mt_extend
theorem aCl {o:Expr} {to:TE} {name:Str} {apos cpos:Pos} {T id:String} {r:V→List V→Hp→VK→Prop} (pa:PlainAttrs T) (slot:Slot T name id) (hty:typeOf (.builtin id)=pure (.type "method_descriptor")) (hm:MtR X id r) (ho:VE X o to)
  (hbase:attributeBase o name X.env (eval o X.env)=eval o X.env:=by rfl) (hline:(apos.endLine == cpos.line)=true:=by rfl):VE X (.Call (.Attribute o name apos) [] [] cpos) (tBM0 X.K T r to):=⟨pe_bm0 pa slot hty hm ho.1 hbase hline⟩
end
section
variable {P:Program} {w:World} {K:PySem.W.Frag} {mg:Str→Option Value} {base:Heap}
theorem Ok.aL3 {k:Nat} {x:Str} {ps:List Str} {sp:Sp} {f:Addr} (G:Ok P w K mg base k x ps sp) (m:mg x=some (.ref f)):Held P w K mg base k f ps sp:=by
 obtain ⟨g,m',h⟩:=G.held
 rw [m] at m'
 cases m'
 exact h
end
section
variable {X:Cx} {scope:Scope} {N:List Str} {wi:TI} {te:TE} {σ:St} {H:Hp} {Q:VK}
theorem uL (xs:List V) (Rel:Nat→Hp→V→Prop) (st:∀{i H1 H2 y},Same H1 H2→Rel i H1 y→Rel i H2 y) (su:∀{i H1 D ys zs y},H1 D=some (.lst ys)→Rel i H1 y→Rel i (upd H1 D (.lst zs)) y)
  (σ0:St) (cap:Cap X scope N σ σ0) (hsz:xs.length≤sizeLine)
  (hw:∀R:It→Hp→Prop,(∀J:It,(∀H' i x,Same H H'→xs[i]?=some x→J.go i H'∧∀y H2,J.yld i H' y H2→H2=H'∧y=x)→(∀H',Same H H'→J.stop xs.length H')→R J H)→wi σ H R)
  (he:∀(i:Nat) (x:V),xs[i]?=some x→∀H' R l,Same H H'→(∀y H2,Same H' H2→Rel i H2 y→R y H2)→te ((σ0.set 0 l).set 0 (some x)) H' R) (h0:σ0[0]?=some none)
  (q:∀D H' ys,Same H H'→H' D=some (.lst ys)→ys.length=xs.length→(∀(i:Nat) (y:V),ys[i]?=some y→Rel i H' y)→Q (.ref D) H') :
  eX X scope N wi (gName 0) jT te σ H Q:=by
 refine ⟨σ0,cap,hw _ fun J go stop D hD=>?_⟩
 refine ⟨fun i m σ' H' ys=>i≤xs.length∧m=xs.length - i∧(∃l,σ'=σ0.set 0 l)∧Same H H'∧H' D=some (.lst ys)∧ys.length=i∧∀(j:Nat) (y:V),ys[j]?=some y→Rel j H' y,⟨xs.length,Nat.zero_le _,rfl,⟨none,cU h0⟩,aW hD _,upd_same,rfl,fun j y e=>by simp at e⟩,?_⟩
 rintro i m σ' H' ys ⟨hi,rfl,⟨l,rfl⟩,sm,hL,hl,hR⟩
 refine ⟨hL,?_⟩
 by_cases hlt:i<xs.length
 ·right
  obtain ⟨g1,g2⟩:=go H' i xs[i] sm (List.getElem?_eq_getElem hlt)
  refine ⟨g1,fun x H2 hy=>?_⟩
  obtain ⟨rfl,rfl⟩:=g2 x H2 hy
  unfold gName jT
  dsimp only
  rw [if_pos rfl]
  refine he i xs[i] (List.getElem?_eq_getElem hlt) _ _ l sm fun y H3 s3 r3=>⟨s3 _ _ hL,by omega,xs.length - (i+1),by omega,hlt,rfl,⟨some xs[i],?_⟩,?_,upd_same,?_,?_⟩
  ·rw [List.set_set]
  ·intro b o e
   rw [upd_ne (ne_of_none e hD)]
   exact s3 _ _ (sm _ _ e)
  ·rw [List.length_append,List.length_singleton,hl]
  ·intro j z ez
   refine su (s3 _ _ hL) ?_
   by_cases hj:j<ys.length
   ·rw [List.getElem?_append_left hj] at ez
    exact st s3 (hR j z ez)
   ·rw [List.getElem?_append_right (by omega)] at ez
    have hj0:j - ys.length=0:=by
     by_cases z0:j - ys.length=0
     ·exact z0
     ·rw [List.getElem?_eq_none (by simp;omega)] at ez;cases ez
    have hj1:j=i:=by omega
    subst hj1
    rw [hj0] at ez
    cases ez
    exact r3
 ·left
  have e:i=xs.length:=by omega
  subst e
  exact ⟨stop _ sm,q D _ ys sm hL hl hR⟩
theorem cX (xs ys:List V) (hly:ys.length=xs.length) (σ0:St) (cap:Cap X scope N σ σ0) (hsz:xs.length≤sizeLine)
  (hw:∀R:It→Hp→Prop,(∀J:It,(∀H' i x,Same H H'→xs[i]?=some x→J.go i H'∧∀y H2,J.yld i H' y H2→H2=H'∧y=x)→(∀H',Same H H'→J.stop xs.length H')→R J H)→wi σ H R)
  (he:∀(i:Nat) (x y:V),xs[i]?=some x→ys[i]?=some y→∀H' R l,Same H H'→(∀H2,Same H' H2→R y H2)→te ((σ0.set 0 l).set 0 (some x)) H' R) (h0:σ0[0]?=some none)
  (q:∀D H',Same H H'→H' D=some (.lst ys)→Q (.ref D) H') :
  eX X scope N wi (gName 0) jT te σ H Q:=by
 refine uL xs (fun i _ y=>ys[i]?=some y) (fun _ h=>h) (fun _ h=>h) σ0 cap hsz hw (fun i x ex H' R l sm r=>?_) h0 fun D H' zs sm hD hl hR=>?_
 ·have hi:i<ys.length:=by rw [hly];exact (List.getElem?_eq_some_iff.mp ex).1
  exact he i x ys[i] ex (List.getElem?_eq_getElem hi) H' R l sm fun H2 s2=>r _ H2 s2 (List.getElem?_eq_getElem hi)
 ·have e:zs=ys:=by
   refine List.ext_getElem? fun i=>?_
   by_cases hi:i<zs.length
   ·rw [hR i zs[i] (List.getElem?_eq_getElem hi),List.getElem?_eq_getElem hi]
   ·rw [List.getElem?_eq_none (by omega),List.getElem?_eq_none (by omega)]
  subst e
  exact q D H' sm hD
theorem aKo {K:PySem.W.Frag} {tl:TA} (xs ys:List V) (Rel:Nat→Hp→V→Prop) (st:∀{i H1 H2 y},Same H1 H2→Rel i H1 y→Rel i H2 y) (su:∀{i H1 D ys zs y},H1 D=some (.lst ys)→Rel i H1 y→Rel i (upd H1 D (.lst zs)) y)
  (σ0:St) (cap:Cap X scope N σ σ0) (hsz:xs.length≤sizeLine) (hl:xs.length=ys.length)
  (hw:∀R:List V→Hp→Prop,(∀t u H1,Same H H1→SqT K H1 t xs→SqT K H1 u ys→R [.ref t,.ref u] H1)→tl σ H R)
  (he:∀(i:Nat) (x y:V),xs[i]?=some x→ys[i]?=some y→∀H' R l1 l2,Same H H'→(∀z H2,Same H' H2→Rel i H2 z→R z H2)→te ((((σ0.set 0 l1).set 1 l2).set 0 (some x)).set 1 (some y)) H' R) (h0:σ0[0]?=some none) (h1:σ0[1]?=some none)
  (q:∀D H' zs,Same H H'→H' D=some (.lst zs)→zs.length=xs.length→(∀(i:Nat) (z:V),zs[i]?=some z→Rel i H' z)→Q (.ref D) H') :
  eX X scope N (aIl K tl) (gTup K 2 (gCons (gName 0) (gCons (gName 1) gNil))) jT te σ H Q:=by
 refine ⟨σ0,cap,hw _ fun t u H1 s1 ht hu=>⟨t,u,xs,ys,rfl,ht,hu,fun D hD=>?_⟩⟩
 refine ⟨fun i m σ' H' zs=>i≤xs.length∧m=xs.length - i∧(∃l1 l2,σ'=(σ0.set 0 l1).set 1 l2)∧Same H1 H'∧H' D=some (.lst zs)∧zs.length=i∧∀(j:Nat) (z:V),zs[j]?=some z→Rel j H' z,⟨xs.length,Nat.zero_le _,rfl,⟨none,none,?_⟩,aW hD _,upd_same,rfl,fun j y e=>by simp at e⟩,?_⟩
 ·rw [←cU h0];exact cU h1
 rintro i m σ' H' zs ⟨hi,rfl,⟨l1,l2,rfl⟩,sm,hL,hlz,hR⟩
 refine ⟨hL,?_⟩
 by_cases hlt:i<xs.length
 ·right
  refine ⟨⟨sm.aN ht,sm.aN hu,hlt,by omega⟩,fun v H2 hy=>?_⟩
  obtain ⟨T,a,b,hT,rfl,rfl,ha,hb⟩:=hy
  have s2:Same H' (upd H' T (.tup [a,b])):=aW hT _
  refine ⟨T,[a,b],rfl,.inl (.inl upd_same),rfl,a,[b],rfl,b,[],rfl,rfl,?_⟩
  unfold jT
  dsimp only
  rw [if_pos rfl]
  refine he i a b ha hb _ _ l1 l2 (fun b o e=>s2 _ _ (sm _ _ (s1 _ _ e))) fun y H3 s3 r3=>⟨s3 _ _ (s2 _ _ hL),by omega,xs.length - (i+1),by omega,hlt,rfl,⟨some a,some b,?_⟩,?_,upd_same,?_,?_⟩
  ·rw [List.set_comm _ _ (show (1:Nat)≠0 by decide),List.set_set,List.set_set]
  ·intro c o e
   rw [upd_ne (ne_of_none e hD)]
   exact s3 _ _ (s2 _ _ (sm _ _ e))
  ·rw [List.length_append,List.length_singleton,hlz]
  ·intro j z ez
   refine su (s3 _ _ (s2 _ _ hL)) ?_
   by_cases hj:j<zs.length
   ·rw [List.getElem?_append_left hj] at ez
    exact st s3 (st s2 (hR j z ez))
   ·rw [List.getElem?_append_right (by omega)] at ez
    have hj0:j - zs.length=0:=by
     by_cases z0:j - zs.length=0
     ·exact z0
     ·rw [List.getElem?_eq_none (by simp;omega)] at ez;cases ez
    have hj1:j=i:=by omega
    subst hj1
    rw [hj0] at ez
    cases ez
    exact r3
 ·left
  have e:i=xs.length:=by omega
  subst e
  exact ⟨⟨sm.aN ht,Nat.le_refl _⟩,q D _ zs (s1.trans sm) hL hlz hR⟩
end
section
variable {X:Cx} {tg e o i:Expr} {te td ty:TE} {pos:Pos}
theorem aQd (h:VE X e te):VI X tg e (fun σ H R=>iList X.K te σ H R∨iTup X.K te σ H R):=⟨fun pins s σ H R I q=>q.elim (pi_list h.1 pins s σ H R I) (pi_tup h.1 pins s σ H R I)⟩
theorem rR (hu:X.A.units+1<cLine) (ho:VE X o td) (hi:VE X i ty) (hs:NoSl i):VE X (.Subscript o i pos) (tDGet td ty):=⟨pe_dget hu ho.1 hi.1 hs⟩
def aSk (K:PySem.W.Frag):R2:=fun x y H Q=>∃(a b:Addr) (xs:List Str),x=.ref a∧y=.ref b∧SqL K H a (xs.map V.str)∧SqL K H b (xs.map V.str)∧Q (.bl false) H
theorem aQ4 (hu:X.A.units<cLine):OpR X (compareOp .NotEq) (aSk X.K):=by
 intro pins s σ H x y v u Q I rx ry h
 obtain ⟨a,b,xs,rfl,rfl,ha,hb,q⟩:=h
 cases rx
 cases ry
 obtain ⟨its,rv,pl,hz⟩:=I.list ha
 obtain ⟨jts,rw',pm,hw⟩:=I.list hb
 have e1:=rv.length
 have e2:=rw'.length
 rw [List.length_map] at e1 e2
 refine SeqAt.RcNeAt.lists (e:=fun _=>true) pl.isList pm.isList (by rw [List.size_toArray,List.size_toArray];omega) hu (fun j h1 h2=>?_) _ _ _ _ ?_
 ·have hj1:j<xs.length:=by rw [List.size_toArray] at h1;omega
  obtain ⟨u1,hu1,t1,rfl⟩:=rv.get (i:=j) (x:=.str xs[j]) (by rw [List.getElem?_map,List.getElem?_eq_getElem hj1];rfl)
  obtain ⟨u2,hu2,t2,rfl⟩:=rw'.get (i:=j) (x:=.str xs[j]) (by rw [List.getElem?_map,List.getElem?_eq_getElem hj1];rfl)
  have g1:its.toArray[j]=Value.str xs[j] t1:=by
   rw [List.getElem_toArray]
   exact (List.getElem?_eq_some_iff.mp hu1).2
  have g2:jts.toArray[j]=Value.str xs[j] t2:=by
   rw [List.getElem_toArray]
   exact (List.getElem?_eq_some_iff.mp hu2).2
  rw [g1,g2]
  have z:=SeqAt.EqAt.str_str (A:=X.A.in1) (s:=s) xs[j] t1 xs[j] t2
  simpa using z
 ·have z:(List.range its.toArray.size).all (fun _=>true)=true:=by rw [List.all_eq_true];intro _ _;rfl
  rw [z]
  exact ⟨.bl _,H,I,rfl,q⟩
end
theorem aO1 {K:PySem.W.Frag} {t u:Addr} {xs ys:List V} {g:TG} {tb:TS} {D:Ends} {σ:St} {H:Hp} (Pv:Nat→St→Hp→Prop) (hxy:xs.length=ys.length) (h0:Pv 0 σ H) (hl:∀i σ H,i≤xs.length→Pv i σ H→SqT K H t xs∧SqT K H u ys)
  (hs:∀i σ H a b T H',xs[i]?=some a→ys[i]?=some b→Pv i σ H→H T=none→H'=upd H T (.tup [a,b])→g (.ref T) σ H' fun σ2 H2=>tb { D with nx:=Pv (i+1),ct:=Pv (i+1),bk:=D.nx } σ2 H2) (hd:∀σ H,Pv xs.length σ H→D.nx σ H) :
  ∃W:Nat→Nat→St→Hp→Prop,(∃m,W 0 m σ H)∧∀i m σ H,W i m σ H →
   ((Itz K t u xs ys).stop i H∧D.nx σ H)∨((Itz K t u xs ys).go i H∧∃N:St→Hp→Prop,(∀σ' H',N σ' H'→∃m',m'<m∧W (i+1) m' σ' H')∧∀x H',(Itz K t u xs ys).yld i H x H'→g x σ H' fun σ2 H2=>tb { D with nx:=N,ct:=N,bk:=D.nx } σ2 H2):=by
 refine ⟨fun i m σ H=>m=xs.length - i∧i≤xs.length∧Pv i σ H,⟨xs.length,by simp,Nat.zero_le _,h0⟩,?_⟩
 rintro i m σ H ⟨rfl,hi,p⟩
 by_cases hlt:i<xs.length
 ·refine .inr ⟨⟨(hl i σ H hi p).1,(hl i σ H hi p).2,hlt,by omega⟩,Pv (i+1),fun σ' H' p'=>⟨xs.length - (i+1),by omega,rfl,hlt,p'⟩,fun x H' y=>?_⟩
  obtain ⟨T,a,b,hT,rfl,e,ha,hb⟩:=y
  exact hs i σ H a b T H' ha hb p hT e
 ·have e:i=xs.length:=by omega
  subst e
  exact .inl ⟨⟨(hl _ σ H hi p).1,Nat.le_refl _⟩,hd σ H p⟩
theorem aJi {X:Cx} {i o:Expr} {td ty:TE} {pos:Pos} (hu:X.A.units+1<cLine) (hi:VE X i ty) (ho:VE X o td) (h1:behindInMarks .NotIn o=false:=by first|exact nobehind _ (by decide) (by decide)|rfl):VT X (.Compare i [.NotIn] [o] pos) (tB (tDNotIn ty td)):=⟨pt_cmp (pc_dnotin hu hi.1 ho.1) h1⟩
theorem pA {X:Cx} {K:PySem.W.Frag} (h:X.K=K:=by rfl):OpR X (compareOp .NotIn) (rIn K true):=by subst h;exact op_notIn_seq
def sel {α:Type} (p:Nat→Bool):Nat→List α→List α
 |_,[]=>[]
 |i,x::r=>if p i then x::sel p (i+1) r else sel p (i+1) r
theorem qX {α:Type} (p:Nat→Bool) (x:α):∀(k:Nat) (xs:List α),sel p k (xs++[x])=sel p k xs++(if p (k+xs.length) then [x] else [])
 |k,[]=>by
  show (if p k then x::sel p (k+1) [] else sel p (k+1) [])=[]++(if p (k+0) then [x] else [])
  rw [Nat.add_zero,List.nil_append]
  rfl
 |k,y::r=>by
  show (if p k then y::sel p (k+1) (r++[x]) else sel p (k+1) (r++[x]))=(if p k then y::sel p (k+1) r else sel p (k+1) r)++_
  rw [qX p x (k+1) r,List.length_cons,show k+1+r.length=k+(r.length+1) by omega]
  split <;> rfl
theorem qU {α:Type} (p:Nat→Bool):∀(k:Nat) (xs:List α),(sel p k xs).length≤xs.length
 |_,[]=>Nat.le_refl _
 |k,y::r=>by
  have:=qU p (k+1) r
  show (if p k then y::sel p (k+1) r else sel p (k+1) r).length≤r.length+1
  split
  ·rw [List.length_cons];omega
  ·omega
section
variable {X:Cx} {scope:Scope} {N:List Str} {wi:TI} {te:TE} {σ:L2.St} {H:Hp} {Q:VK}
theorem aNn {tt:TT} (xs:List V) (p:Nat→Bool) (σ0:L2.St) (cap:Cap X scope N σ σ0) (hsz:xs.length≤sizeLine)
  (hw:∀R:It→Hp→Prop,(∀J:It,(∀H' i x,Same H H'→xs[i]?=some x→J.go i H'∧∀y H2,J.yld i H' y H2→H2=H'∧y=x)→(∀H',Same H H'→J.stop xs.length H')→R J H)→wi σ H R)
  (ht:∀(i:Nat) (x:V),xs[i]?=some x→∀H' R l,Same H H'→(∀H2,Same H' H2→R (p i) H2)→tt ((σ0.set 0 l).set 0 (some x)) H' R) (h0:σ0[0]?=some none)
  (q:∀D H',Same H H'→H' D=some (.lst (sel p 0 xs))→Q (.ref D) H') :
  eX X scope N wi (gName 0) tt (tVar 0) σ H Q:=by
 refine ⟨σ0,cap,hw _ fun J go stop D hD=>?_⟩
 refine ⟨fun i m σ' H' ys=>i≤xs.length∧m=xs.length - i∧(∃l,σ'=σ0.set 0 l)∧Same H H'∧H' D=some (.lst ys)∧ys=sel p 0 (xs.take i),⟨xs.length,Nat.zero_le _,rfl,⟨none,cU h0⟩,aW hD _,upd_same,rfl⟩,?_⟩
 rintro i m σ' H' ys ⟨hi,rfl,⟨l,rfl⟩,sm,hL,rfl⟩
 refine ⟨hL,?_⟩
 by_cases hlt:i<xs.length
 ·right
  obtain ⟨g1,g2⟩:=go H' i xs[i] sm (List.getElem?_eq_getElem hlt)
  refine ⟨g1,fun x H2 hy=>?_⟩
  obtain ⟨rfl,rfl⟩:=g2 x H2 hy
  unfold gName
  dsimp only
  have hj:0<σ0.length:=by
   by_cases z:0<σ0.length
   ·exact z
   ·rw [List.getElem?_eq_none (by omega)] at h0;cases h0
  have tk:sel p 0 (xs.take (i+1))=sel p 0 (xs.take i)++(if p i then [xs[i]] else []):=by
   rw [List.take_add_one,List.getElem?_eq_getElem hlt]
   show sel p 0 (xs.take i++[xs[i]])=_
   rw [qX,List.length_take,Nat.zero_add,Nat.min_eq_left (Nat.le_of_lt hlt)]
  refine ht i xs[i] (List.getElem?_eq_getElem hlt) _ _ l sm fun H3 s3=>?_
  cases hp:p i with
  |true=>
   rw [if_pos rfl]
   refine ⟨xs[i],by rw [List.set_set,List.getElem?_set_self hj],s3 _ _ hL,?_,xs.length - (i+1),by omega,hlt,rfl,⟨some xs[i],by rw [List.set_set]⟩,?_,upd_same,?_⟩
   ·have:=qU p 0 (xs.take i)
    rw [List.length_take] at this
    omega
   ·intro b o e
    rw [upd_ne (ne_of_none e hD)]
    exact s3 _ _ (sm _ _ e)
   ·rw [tk,hp];rfl
  |false=>
   rw [if_neg (by simp)]
   refine ⟨s3 _ _ hL,xs.length - (i+1),by omega,hlt,rfl,⟨some xs[i],by rw [List.set_set]⟩,sm.trans s3,s3 _ _ hL,?_⟩
   rw [tk,hp]
   simp
 ·left
  have e:i=xs.length:=by omega
  subst e
  refine ⟨stop _ sm,?_⟩
  rw [List.take_length] at hL
  exact q D _ sm hL
end
theorem aN5 {X:Cx} {i0:Nat} {x0:Str} {pos' spos:Pos} {elt target iter:Expr} {ifs:List Expr} {scope:Scope} {pos:Pos} {N:List Str} {wi:TI} {g:TG} {tt:TT} {te:TE}
  (hN:X.N.Nodup) (hi0:X.N[i0]?=some x0) (hx0:Loc X.env.scope x0) (C:uJ scope N) (hfr:∀y,(y,NameKind.free)∈scope.names→X.env.kindOf y=some .cell∨X.env.kindOf y=some .free) (hc:X.calm=true)
  (hi:PI X target iter wi)
  (hb:∀cl s H fp,PG (cxC X N scope cl s H fp) target g∧aKe (cxC X N scope cl s H fp) ifs tt∧PE (cxC X N scope cl s H fp) elt te)
  (hs:∀x,foldedSetIterable iter X.env x=pure x:=by intro _;rfl) (hsw:swapsWith (.ListComp elt [⟨target,iter,ifs,0⟩] scope pos) (some (.Name x0 pos')) spos.line X.env=pure true:=by rfl)
  (hf:X.fn x0=true∨X.env.scope.names.lookup x0=some .local:=by first|exact .inl rfl|exact .inr rfl|assumption) :
  PS X (.Assign [.Name x0 pos'] (.ListComp elt [⟨target,iter,ifs,0⟩] scope pos) spos) (tAsg (eX X scope N wi g tt te) (gName i0)):=by
 intro pins s σ H Dn I hq
 obtain ⟨σ0,cap,hq⟩:=hq
 obtain ⟨cl,hcl,p1,p2⟩:=pQ (scope:=scope) (env:=X.env) (fun y hy hk=>by
  obtain ⟨n,k⟩:=y
  cases hk
  exact I.ok.has n (hfr n hy))
 rw [exec_Assign_Name_used _ _ _ _ hsw]
 refine wpAny_bind (wpAny_standAt (wpAny_bind ?_))
 show wpAny _ X.A (do let _ ←comprehension (.ListComp elt [⟨target,iter,ifs,0⟩] scope pos) scope X.env _ (newList []) false (eval iter X.env) (some (assign (.Name x0 pos') X.env))) _ _ s
 refine wpAny_bind (wpAny_mono (wpAny_comprehension_free (use:=some (assign (.Name x0 pos') X.env)) (Q:=fun _ s'=>SP X pins Dn .next s') rfl hs hcl C.kind C.names (thn (hi pins s σ H _ I hq) fun xv s1 h1=>thn h1 fun itv s2 h2=>?_))
  (fun _ s' hq=>wpAny_pure (wpAny_pure hq)) fun _ _ e=>e)
 obtain ⟨it,fp,tn,J,H2,rfl,I2,T,st2,f2,q2⟩:=h2
 refine wpAny_newObj_type (wpAny_newFunctionEnv C.cell (by intro y hy;simp at hy) (fun h₁ hns₁ hsb₁=>?_) C.kind)
 dsimp only at hns₁ hsb₁ ⊢
 have hD:H2 s2.heap.objs.size=none:=I2.hok.fresh (Nat.le_refl _)
 have I3:Inv X pins σ (upd H2 s2.heap.objs.size (.lst [])) { s2 with heap:=s2.heap.push { cls:=.type "list",dict:=none,data:=.seq ([]:List Value).toArray } }:=
  I2.laid (t':=s2.toks) (fun b u e=>Heap.get?_push_of_some _ e) (Nat.le_refl _) ⟨Nat.zero_le _,[],0,.nil,Heap.get?_push_size _ rfl⟩
 generalize hs3:({ s2 with heap:=s2.heap.push { cls:=.type "list",dict:=none,data:=.seq ([]:List Value).toArray } }:Shared)=s3 at I3
 have hh3:s2.heap.push { cls:=.type "list",dict:=none,data:=.seq ([]:List Value).toArray }=s3.heap:=by rw [←hs3]
 rw [hh3] at hns₁ hsb₁
 have fl2:∀b∈fp,b<s2.heap.objs.size:=fun b hb=>by
  obtain ⟨o,e,_⟩:=T.obj _ _ st2 b hb
  exact Heap.lt_size e
 have fl3:∀b∈fp,b<s3.heap.objs.size:=fun b hb=>by
  rw [←hh3,Heap.size_push]
  exact Nat.lt_succ_of_lt (fl2 b hb)
 have f3:∀b∈fp,FpOk X pins (upd H2 s2.heap.objs.size (.lst [])) b:=fun b hb=>by
  obtain ⟨f0,fr⟩:=f2 b hb
  exact ⟨by rw [upd_ne (Nat.ne_of_lt (fl2 b hb))];exact f0,fr⟩
 have keep3:∀b o,s3.heap.get? b=some o→h₁.get? b=some o:=fun b o e=>hsb₁.extBut b o (Nat.ne_of_lt (Heap.lt_size e)) (Heap.get?_push_of_some _ e)
 have I4:=aFw (tk:=s3.toks) I3 C hfr p1 p2 cap f3 fl3 hns₁ keep3
 have st4:tn 0 h₁:=T.keep _ _ _ st2 fun b hb o e=>keep3 b o (by rw [←hh3];exact Heap.get?_push_of_some _ e)
 obtain ⟨W,⟨m0,w0⟩,turn⟩:=q2 s2.heap.objs.size hD
 have fpc:∀{H':Hp},(∀b∈fp,H' b=none)→∀b∈fp,FpOk (cxC X N scope cl s3 (upd H2 s2.heap.objs.size (.lst [])) fp) [] H' b:=fun {H'} hn b hb=>by
  obtain ⟨e1,e2⟩:=I4.ok.exf b hb
  exact ⟨hn b hb,e1,I4.ok.exfs b hb,.inl hb,e2,fun p hp=>absurd (show p∈([]:List (Addr × Obj)) from hp) (by simp)⟩
 have loop:∀s4:Shared,s4={ s3 with heap:=h₁,toks:=s3.toks } →
   codeAny (model X.prog X.w) X.A (.compLoop (.ListComp elt [⟨target,iter,ifs,0⟩] scope pos) 0 (.ref it) (.ref s2.heap.objs.size) (compEnvC scope cl s3.heap.objs.size X.env))
    (compPost (model X.prog X.w) X.A X.xe (some (assign (.Name x0 pos') X.env)) (fun _ s'=>SP X pins Dn .next s') (.ref s2.heap.objs.size) s3.heap.objs.size) s4:=by
  rintro s4 rfl
  refine tZ (fun n s'=>∃i σ' H' ys,Inv (cxC X N scope cl s3 (upd H2 s2.heap.objs.size (.lst [])) fp) [] σ' H' s'∧tn i s'.heap∧(∀b∈fp,H' b=none)∧W i n σ' H' ys) ?_ m0 ⟨0,σ0,_,[],I4,st4,fun b hb=>(f3 b hb).1,w0⟩
  rintro n s5 ⟨i,σ5,H5,ys,I5,st5,fr5,w5⟩
  obtain ⟨hacc,w5⟩:=turn i n σ5 H5 ys w5
  have noE:∀{α:Type} {t:Sem α} {Q':α→Shared→Prop} {E':Value→Shared→Prop} {s':Shared},wpAny (model X.prog X.w) X.A t Q' (fun _ _=>False) s'→wpAny (model X.prog X.w) X.A t Q' E' s':=fun h=>wpAny_mono h (fun _ _ q=>q) fun _ _ z=>z.elim
  rcases w5 with ⟨stop,qn⟩|⟨go,step⟩
  ·refine noE (thn (T.done (cxC X N scope cl s3 (upd H2 s2.heap.objs.size (.lst [])) fp) rfl rfl rfl hc i [] s5 σ5 H5 _ I5 (fpc fr5) st5 stop) fun r s6 ⟨hr,I6⟩=>?_)
   subst hr
   obtain ⟨m6,hn6,_⟩:=I6.loc
   have kp:∀b o,b≠s3.heap.objs.size→s6.heap.get? b=some o→s6.heap.get? b=some o:=fun b o hb e=>e
   have ne3:∀b o,s3.heap.get? b=some o→b≠s3.heap.objs.size:=fun b o e=>Nat.ne_of_lt (Heap.lt_size e)
   have un:Un (frs X.stack) fp (upd H2 s2.heap.objs.size (.lst [])) H5 s3.heap s6.heap:=by
    have u:=I6.base
    exact ⟨fun b o e n hb hx=>kp b o (ne3 b o e) (u.keep b o e n hb hx),fun b o e n hb hx=>by
     obtain ⟨sl,e1⟩:=u.slot b o e n hb hx
     exact ⟨sl,kp b _ (ne3 b o e) e1⟩,u.free,fun b o e hx=>by
     obtain ⟨o',e1⟩:=u.there b o e hx
     exact ⟨o',kp b _ (ne3 b o e) e1⟩,u.tups,u.frzs,u.tbls⟩
   have hok:HOk X.prog X.w H5 s6.heap:=fun b u e=>by
    refine (I6.hok b u e).stay (fun c v hc' q=>kp c v ?_ q) (fun _ q=>q) fun _ _ q=>q
    have hfree:H5 s3.heap.objs.size=none:=I6.free
    rintro rfl
    rcases hc' with z|z
    ·rw [z] at hfree;rw [hfree] at e;cases e
    ·rw [hfree] at z;cases z
   have I7:Inv X pins σ H5 s6:=by
    refine I3.call' (s':=s6) I6.os un hok I6.bare fun b hb=>?_
    obtain ⟨f0,f1,f2',f3',f4,f5⟩:=f3 b hb
    exact ⟨f3',f1,f4,f5⟩
   have hfree:H5 s3.heap.objs.size=none:=I6.free
   obtain ⟨g0,g1,g2,g3,g4,g5⟩:=I3.fpOk (Nat.le_refl _) hfree
   show wpAny (model X.prog X.w) X.A (assign (.Name x0 pos') X.env (.ref s2.heap.objs.size)) _ _ s6
   refine wpAny_assign_Name (store_ok2 I7 hN hi0 hx0 (v:=.ref s2.heap.objs.size) rfl (fun s8 I8 ⟨a,sb,ha⟩=>?_) hf)
   have nea:s3.heap.objs.size≠a:=by
    rcases ha with z|z
    ·rw [z];exact g1
    ·exact fun e=>g4 x0 a z e.symm
   refine ⟨m6,hn6.sameBut sb nea,fun h' sb'=>?_⟩
   exact ⟨_,H5,Inv.turned I8 (t':=s8.toks) (it:=s3.heap.objs.size) (fun b o hb e=>sb'.extBut b o hb e) g0 g1 g3 g4 g5,qn⟩
  ·refine noE (thn (T.item (cxC X N scope cl s3 (upd H2 s2.heap.objs.size (.lst [])) fp) rfl rfl rfl hc i [] s5 σ5 H5 (fun _ _=>False) I5 (fpc fr5) st5 go) fun r s6 ⟨u,hr,h6⟩=>?_)
   subst hr
   refine noE (thn h6 fun _ s7 ⟨x,H7,I7,r7,y7,st7,fr7⟩=>?_)
   obtain ⟨hg,ht,he⟩:=hb cl s3 (upd H2 s2.heap.objs.size (.lst [])) fp
   have I7':=I7.pinned (fpc fr7) (T.obj _ _ st7)
   have back:∀{σ8:St} {H8:Hp} {s8:Shared},Inv (cxC X N scope cl s3 (upd H2 s2.heap.objs.size (.lst [])) fp) ([]++pinsAt fp s7.heap) σ8 H8 s8→tn (i+1) s8.heap∧∀b∈fp,H8 b=none:=fun {σ8 H8 s8} I8=>
    ⟨T.keep _ _ _ st7 fun b hb o e=>(I8.pin (b,o) (List.mem_append_right _ (List.mem_append_right _ (mem_pinsAt hb e)))).1,fun b hb=>by
     obtain ⟨o,e,d⟩:=T.obj _ _ st7 b hb
     exact (I8.pin (b,o) (List.mem_append_right _ (List.mem_append_right _ (mem_pinsAt hb e)))).2.1⟩
   refine noE (thn (hg _ s7 σ5 H7 x u _ I7' r7 (step x H7 y7)) fun _ s8 ⟨σ8,H8,I8,q8⟩=>?_)
   refine noE (thn (ht _ s8 σ8 H8 _ I8 q8) fun b s9 ⟨H9,I9,q9⟩=>?_)
   cases b with
   |false=>
    rw [if_neg Bool.false_ne_true] at q9 ⊢
    obtain ⟨_,m',hm,w9⟩:=q9
    exact ⟨m',hm,i+1,σ8,H9,ys,I9.unpinned,(back I9).1,(back I9).2,w9⟩
   |true=>
    rw [if_pos rfl] at q9 ⊢
    refine noE (thn (he _ s9 σ8 H9 _ I9 q9) fun yv s10 ⟨y,H10,I10,r10,hacc10,hlen,m',hm,w10⟩=>?_)
    refine noE (thn (mt_append _ s10 σ8 H10 (.ref s2.heap.objs.size) [y] (.ref s2.heap.objs.size) [yv] (fun _ H11=>H11=upd H10 s2.heap.objs.size (.lst (ys++[y]))) I10 rfl (.cons r10 .nil) ⟨_,_,_,rfl,rfl,hacc10,hlen,rfl⟩) fun _ s11 ⟨z,H11,I11,_,e11⟩=>?_)
    subst e11
    exact ⟨m',hm,i+1,σ8,_,ys++[y],I11.unpinned,(back I11).1,(back I11).2,w10⟩
 have fin:=codeAny_compStart_list (loop { s3 with heap:=h₁,toks:=s3.toks } rfl) (T.self _ _ _ _ _ st4 (loop { s3 with heap:=h₁,toks:=s3.toks } rfl))
 subst hs3
 exact fin
theorem gW {X:Cx} {i0:Nat} {x0:Str} {pos' spos:Pos} {elt target iter:Expr} {ifs:List Expr} {scope:Scope} {pos:Pos} {N:List Str} {wi:TI} {g:TG} {tt:TT} {te:TE}
  (hN:X.N.Nodup) (hi0:X.N[i0]?=some x0) (hx0:Loc X.env.scope x0) (C:uJ scope N) (hfr:∀y,(y,NameKind.free)∈scope.names→X.env.kindOf y=some .cell∨X.env.kindOf y=some .free) (hc:X.calm=true)
  (hi:VI X target iter wi)
  (hb:∀cl s H fp,VG (cxC X N scope cl s H fp) target g∧VF (cxC X N scope cl s H fp) ifs tt∧VE (cxC X N scope cl s H fp) elt te)
  (hs:∀x,foldedSetIterable iter X.env x=pure x:=by intro _;rfl) (hsw:swapsWith (.ListComp elt [⟨target,iter,ifs,0⟩] scope pos) (some (.Name x0 pos')) spos.line X.env=pure true:=by rfl)
  (hf:X.fn x0=true∨X.env.scope.names.lookup x0=some .local:=by first|exact .inl rfl|exact .inr rfl|assumption) :
  VS X (.Assign [.Name x0 pos'] (.ListComp elt [⟨target,iter,ifs,0⟩] scope pos) spos) (tAsg (eX X scope N wi g tt te) (gName i0)):=
 ⟨aN5 hN hi0 hx0 C hfr hc hi.1 (fun cl s H fp=>⟨(hb cl s H fp).1.1,(hb cl s H fp).2.1.1,(hb cl s H fp).2.2.1⟩) hs hsw hf⟩
section
variable {te:TE} {H:Hp} {Q:VK}
theorem aIe (xs:List V) (Rel:Nat→Hp→V→Prop) (st:∀{i H1 H2 y},Same H1 H2→Rel i H1 y→Rel i H2 y) (su:∀{i H1 D ys zs y},H1 D=some (.lst ys)→Rel i H1 y→Rel i (upd H1 D (.lst zs)) y)
  (σ0:St) (hsz:xs.length≤sizeLine)
  (J:It) (go:∀H' i x,Same H H'→xs[i]?=some x→J.go i H'∧∀y H2,J.yld i H' y H2→H2=H'∧y=x) (stop:∀H',Same H H'→J.stop xs.length H')
  (he:∀(i:Nat) (x:V),xs[i]?=some x→∀H' R l,Same H H'→(∀y H2,Same H' H2→Rel i H2 y→R y H2)→te ((σ0.set 0 l).set 0 (some x)) H' R) (h0:σ0[0]?=some none)
  (q:∀D H' ys,Same H H'→H' D=some (.lst ys)→ys.length=xs.length→(∀(i:Nat) (y:V),ys[i]?=some y→Rel i H' y)→Q (.ref D) H') :
  ∀D,H D=none→∃W:Nat→Nat→St→Hp→List V→Prop,(∃m,W 0 m σ0 (upd H D (.lst [])) []) ∧
   ∀i m σ' H' ys,W i m σ' H' ys→H' D=some (.lst ys)∧((J.stop i H'∧Q (.ref D) H')∨(J.go i H'∧∀x H2,J.yld i H' x H2→gName 0 x σ' H2 fun σ3 H3=>jT σ3 H3 fun b H4=>
    if b=true then te σ3 H4 fun y H5=>H5 D=some (.lst ys)∧ys.length<sizeLine∧∃m',m'<m∧W (i+1) m' σ3 (upd H5 D (.lst (ys++[y]))) (ys++[y]) else H4 D=some (.lst ys)∧∃m',m'<m∧W (i+1) m' σ3 H4 ys)):=by
 intro D hD
 refine ⟨fun i m σ' H' ys=>i≤xs.length∧m=xs.length - i∧(∃l,σ'=σ0.set 0 l)∧Same H H'∧H' D=some (.lst ys)∧ys.length=i∧∀(j:Nat) (y:V),ys[j]?=some y→Rel j H' y,⟨xs.length,Nat.zero_le _,rfl,⟨none,cU h0⟩,aW hD _,upd_same,rfl,fun j y e=>by simp at e⟩,?_⟩
 rintro i m σ' H' ys ⟨hi,rfl,⟨l,rfl⟩,sm,hL,hl,hR⟩
 refine ⟨hL,?_⟩
 by_cases hlt:i<xs.length
 ·right
  obtain ⟨g1,g2⟩:=go H' i xs[i] sm (List.getElem?_eq_getElem hlt)
  refine ⟨g1,fun x H2 hy=>?_⟩
  obtain ⟨rfl,rfl⟩:=g2 x H2 hy
  unfold gName jT
  dsimp only
  rw [if_pos rfl]
  refine he i xs[i] (List.getElem?_eq_getElem hlt) _ _ l sm fun y H3 s3 r3=>⟨s3 _ _ hL,by omega,xs.length - (i+1),by omega,hlt,rfl,⟨some xs[i],?_⟩,?_,upd_same,?_,?_⟩
  ·rw [List.set_set]
  ·intro b o e
   rw [upd_ne (ne_of_none e hD)]
   exact s3 _ _ (sm _ _ e)
  ·rw [List.length_append,List.length_singleton,hl]
  ·intro j z ez
   refine su (s3 _ _ hL) ?_
   by_cases hj:j<ys.length
   ·rw [List.getElem?_append_left hj] at ez
    exact st s3 (hR j z ez)
   ·rw [List.getElem?_append_right (by omega)] at ez
    have hj0:j - ys.length=0:=by
     by_cases z0:j - ys.length=0
     ·exact z0
     ·rw [List.getElem?_eq_none (by simp;omega)] at ez;cases ez
    have hj1:j=i:=by omega
    subst hj1
    rw [hj0] at ez
    cases ez
    exact r3
 ·left
  have e:i=xs.length:=by omega
  subst e
  exact ⟨stop _ sm,q D _ ys sm hL hl hR⟩
end
section
variable {K:PySem.W.Frag}
theorem aQp {a:Addr} {xs:List V} {H:Hp} (hS:∀H',Same H H'→SqL K H' a xs):∀H' i x,Same H H'→xs[i]?=some x→(Itl K a).go i H'∧∀y H2,(Itl K a).yld i H' y H2→H2=H'∧y=x:=fun H' i x s e=>
 ⟨⟨xs,x,hS H' s,e⟩,fun y H2 hy=>by
  obtain ⟨e1,e2⟩:=hy
  have e3:=e2 xs (hS H' s)
  rw [e] at e3
  cases e3
  exact ⟨e1,rfl⟩⟩
theorem aLp {a:Addr} {xs:List V} {H:Hp} (hS:∀H',Same H H'→SqL K H' a xs):∀H',Same H H'→(Itl K a).stop xs.length H':=fun H' s=>⟨xs,hS H' s,Nat.le_refl _⟩
end
section
variable {X:Cx} {K:PySem.W.Frag} {scope:Scope} {N:List Str} {tl te:TE} {σ:L2.St} {H:Hp} {Q:VK}
theorem aAo (Pr:List V→Prop) (Rel:Nat→Hp→V→Prop) (st:∀{i H1 H2 y},Same H1 H2→Rel i H1 y→Rel i H2 y) (su:∀{i H1 D ys zs y},H1 D=some (.lst ys)→Rel i H1 y→Rel i (upd H1 D (.lst zs)) y)
  (σ0:L2.St) (cap:Cap X scope N σ σ0) (h0:σ0[0]?=some none)
  (hw:∀R:VK,(∀D H1 us,Same H H1→H1 D=some (.lst us)→Pr us→R (.ref D) H1)→tl σ H R)
  (hsz:∀us,Pr us→us.length≤sizeLine)
  (he:∀us,Pr us→∀(i:Nat) (x:V),us[i]?=some x→∀H' R l,Same H H'→(∀y H2,Same H' H2→Rel i H2 y→R y H2)→te ((σ0.set 0 l).set 0 (some x)) H' R)
  (q:∀us,Pr us→∀D H' ys,Same H H'→H' D=some (.lst ys)→ys.length=us.length→(∀(i:Nat) (y:V),ys[i]?=some y→Rel i H' y)→Q (.ref D) H') :
  eX X scope N (iList K tl) (gName 0) jT te σ H Q:=
 ⟨σ0,cap,hw _ fun D H1 us s1 g1 p=>⟨D,rfl,⟨us,SqL.of g1⟩,aIe us Rel st su σ0 (hsz us p) (Itl K D) (aQp fun H' sm=>SqL.of (sm _ _ g1)) (aLp fun H' sm=>SqL.of (sm _ _ g1))
  (fun i x ex H' R l sm r=>he us p i x ex H' R l (s1.trans sm) r) h0 fun D2 H' ys sm=>q us p D2 H' ys (s1.trans sm)⟩⟩
end
theorem SqT.lG {K:PySem.W.Frag} {H:Hp} {a D:Addr} {xs ys zs:List V} (hD:H D=some (.lst ys)) (h:SqT K H a xs):SqT K (upd H D (.lst zs)) a xs:=by
 rcases h with (h|⟨o,h⟩)|h
 ·exact .inl (.inl (by rw [upd_ne (ne_of h hD (by intro z;cases z))];exact h))
 ·exact .inl (.inr ⟨o,by rw [upd_ne (ne_of h hD (by intro z;cases z))];exact h⟩)
 ·exact .inr h
end L2
namespace PySem
theorem aFf:∀(ss σ:List Str),(ss.foldl tX σ).length=σ.length+ss.length↔ss.Nodup∧∀k∈ss,k∉σ
 |[],σ=>by simp
 |v::r,σ=>by
  rw [List.foldl_cons,List.length_cons,List.nodup_cons]
  by_cases h:v∈σ
  ·have e:tX σ v=σ:=by unfold tX;rw [if_pos h]
   rw [e]
   have l:=uN r σ
   constructor
   ·intro z;omega
   ·intro z;exact absurd h (z.2 v (by simp))
  ·have e:tX σ v=σ++[v]:=by unfold tX;rw [if_neg h]
   rw [e]
   have ih:=aFf r (σ++[v])
   rw [List.length_append,List.length_singleton] at ih
   rw [show σ.length+(r.length+1)=σ.length+1+r.length by omega,ih]
   constructor
   ·rintro ⟨a,b⟩
    refine ⟨⟨fun z=>(b v z) (by simp),a⟩,fun k hk=>?_⟩
    rcases List.mem_cons.mp hk with rfl|hk
    ·exact h
    ·exact fun z=>b k hk (by simp [z])
   ·rintro ⟨⟨a,b⟩,c⟩
    refine ⟨b,fun k hk z=>?_⟩
    rcases List.mem_append.mp z with z|z
    ·exact c k (by simp [hk]) z
    ·have:k=v:=by simpa using z
     subst this
     exact a hk
theorem aN0 (ss:List Str):(kO ss).length=ss.length↔ss.Nodup:=by
 have h:=aFf ss []
 simp only [List.length_nil,Nat.zero_add,List.not_mem_nil,not_false_eq_true,implies_true,and_true] at h
 exact h
end PySem
namespace My
open PySem PySem.Spec PyProof.Rows L2
def top (i:Nat):Stmt:=PySem.Challenge.pw_shardask_k12_grouped.main.body.getD i (.Pass ⟨0,0,0,0⟩)
abbrev pR:Stmt:=top 13
abbrev tQ:Stmt:=top 14
abbrev mU:Stmt:=top 15
abbrev gU:Stmt:=top 16
abbrev lW:Stmt:=top 17
abbrev pY:Stmt:=top 18
abbrev tH:Stmt:=top 19
abbrev pX:Stmt:=top 20
abbrev tV:Stmt:=top 21
abbrev pL:Stmt:=top 33
abbrev tK:Stmt:=top 34
abbrev uE:Stmt:=top 35
abbrev wK:Stmt:=top 36
abbrev wF:Stmt:=top 37
abbrev sV:Stmt:=top 38
abbrev mW:Stmt:=top 39
abbrev oE:Stmt:=top 40
abbrev fH:Stmt:=top 41
abbrev nG:Stmt:=top 42
abbrev qI:Stmt:=top 43
abbrev pJ:Stmt:=top 44
abbrev fZ:Stmt:=top 45
abbrev qG:Stmt:=top 47
abbrev jA:Stmt:=top 48
abbrev pZ:Stmt:=top 49
abbrev uQ:Stmt:=top 50
abbrev uO:Stmt:=top 51
abbrev fG:Stmt:=top 52
abbrev jX:Stmt:=top 53
abbrev lK:Stmt:=top 54
abbrev lQ:Stmt:=top 55
abbrev fX:Stmt:=top 56
abbrev jP:Stmt:=top 57
abbrev lJ:Stmt:=top 58
abbrev eV:Stmt:=top 59
abbrev pF:Stmt:=top 60
abbrev iJ:Stmt:=top 61
abbrev lD:Stmt:=top 62
abbrev mZ:Stmt:=top 63
abbrev gZ:Stmt:=top 64
abbrev uB:Stmt:=top 65
abbrev pM:Stmt:=top 67
abbrev jK:Stmt:=top 68
abbrev qO:Stmt:=top 69
abbrev uI:Stmt:=top 70
abbrev pO:Stmt:=top 71
abbrev aB4:Stmt:=top 72
abbrev iQ:Stmt:=top 73
abbrev jO:Stmt:=top 74
abbrev nR:Stmt:=top 75
abbrev rZ:Stmt:=top 76
abbrev iH:Stmt:=top 77
abbrev mQ:Stmt:=top 78
abbrev uC:Stmt:=top 79
abbrev mG:Stmt:=top 80
abbrev mR:Stmt:=top 81
abbrev dU:Stmt:=top 82
abbrev fB:Stmt:=top 83
abbrev tR:Stmt:=top 84
abbrev aBd:Stmt:=top 85
abbrev nW:Stmt:=top 87
abbrev lX:Stmt:=top 88
abbrev nH:Stmt:=top 89
abbrev kW:Stmt:=top 90
abbrev iK:Stmt:=top 91
abbrev lO:Stmt:=top 92
abbrev lY:Stmt:=top 93
abbrev nU:Stmt:=top 94
abbrev lN:Stmt:=top 95
abbrev jJ:Stmt:=top 96
abbrev nP:Stmt:=top 97
abbrev tY:Stmt:=top 98
abbrev jV:Stmt:=top 99
abbrev cJ:Stmt:=top 100
abbrev nQ:Stmt:=top 101
abbrev zY:Stmt:=top 102
structure Txt (w:World) (K:PySem.W.Frag) (mg:Str→Option Value):Prop where
 aRj:mg "abs"=none
 aIm:mg "all"=none
 aPz:mg "any"=none
 aL5:mg "bool"=none
 aRe:mg "dict"=none
 aNa:mg "divmod"=none
 aE5:mg "enumerate"=none
 aIj:mg "int"=none
 bG:mg "isinstance"=none
 cZ:mg "len"=none
 wA:mg "list"=none
 aPn:mg "max"=none
 aPt:mg "min"=none
 jL:mg "range"=none
 aIb:mg "reversed"=none
 aRk:mg "set"=none
 qL:mg "sorted"=none
 aLh:mg "str"=none
 aPo:mg "sum"=none
 bV:mg "tuple"=none
 aM3:mg "zip"=none
 gR:∃a,mg "QUESTION_WORDS"=some (.ref a)∧∀H,SqT K H a [.str "and",.str "by",.str "count",.str "down",.str "first",.str "group",.str "join",.str "keep",.str "least",.str "most",.str "named",.str "on",.str "sum",.str "table",.str "up",.str "where",.str "with"]
 aK3:∃u,mg "LETTERS"=some u∧RelV (.str "abcdefghijklmnopqrstuvwxyz") u
 wQ:∃u,mg "MOST_LETTERS"=some u∧RelV (.int 8) u
 wV:∃u,mg "MOST_COLUMNS"=some u∧RelV (.int 8) u
 aBa:∃a,mg "SIGNS"=some (.ref a)∧∀H,SqT K H a [.str "=",.str "<",.str ">",.str "!"]
 mV:∃a,mg "SUM_WORDS"=some (.ref a)∧∀H,SqT K H a [.str "count",.str "sum",.str "least",.str "most"]
 aGu:∃a,mg "WAYS"=some (.ref a)∧∀H,SqT K H a [.str "up",.str "down"]
 aCb:∃u,mg "MOST_TESTS"=some u∧RelV (.int 3) u
 qN:∃u,mg "MOST_NAMES"=some u∧RelV (.int 8) u
 aAw:∃u,mg "MOST_PAIRS"=some u∧RelV (.int 3) u
 aFg:∃u,mg "MOST_SUMS"=some u∧RelV (.int 4) u
 aFh:∃u,mg "MOST_KEYS"=some u∧RelV (.int 3) u
 aFt:∃u,mg "MOST_ROWS"=some u∧RelV (.int 60) u
 aEd:∃u,mg "MOST_SIZE"=some u∧RelV (.int 20) u
 vW:∃d t0 t1 t2 t3 t4 t5 t6:Addr,mg "FORMS"=some (.ref d)∧aOs w K d [("table",t0),("where",t1),("keep",t2),("named",t3),("join",t4),("group",t5),("first",t6)]∧(∃f0:Addr,(∀H,SqT K H t0 [.ref f0])∧mg "is_name"=some (.ref f0))∧(∃f0 f1:Addr,(∀H,SqT K H t1 [.ref f0,.ref f1])∧mg "may_be_question"=some (.ref f0)∧mg "are_tests"=some (.ref f1))∧(∃f0 f1:Addr,(∀H,SqT K H t2 [.ref f0,.ref f1])∧mg "may_be_question"=some (.ref f0)∧mg "are_names"=some (.ref f1))∧(∃f0 f1:Addr,(∀H,SqT K H t3 [.ref f0,.ref f1])∧mg "may_be_question"=some (.ref f0)∧mg "are_names"=some (.ref f1))∧(∃f0 f1 f2:Addr,(∀H,SqT K H t4 [.ref f0,.ref f1,.ref f2])∧mg "may_be_question"=some (.ref f0)∧mg "may_be_question"=some (.ref f1)∧mg "are_pairs"=some (.ref f2))∧(∃f0 f1 f2:Addr,(∀H,SqT K H t5 [.ref f0,.ref f1,.ref f2])∧mg "may_be_question"=some (.ref f0)∧mg "are_group_names"=some (.ref f1)∧mg "are_sums"=some (.ref f2))∧(∃f0 f1 f2:Addr,(∀H,SqT K H t6 [.ref f0,.ref f1,.ref f2])∧mg "may_be_question"=some (.ref f0)∧mg "are_keys"=some (.ref f1)∧mg "is_many"=some (.ref f2))
 iV:∃f o,(∃u,mg "is_name"=some u∧RelV (.ref f) u)∧K.lookup f=some o∧o.cls=.type "function"
 aAe:∃f o,(∃u,mg "is_test"=some u∧RelV (.ref f) u)∧K.lookup f=some o∧o.cls=.type "function"
 zU:∃f o,(∃u,mg "is_pair"=some u∧RelV (.ref f) u)∧K.lookup f=some o∧o.cls=.type "function"
 aD5:∃f o,(∃u,mg "is_sum"=some u∧RelV (.ref f) u)∧K.lookup f=some o∧o.cls=.type "function"
 aE0:∃f o,(∃u,mg "is_key"=some u∧RelV (.ref f) u)∧K.lookup f=some o∧o.cls=.type "function"
 aIc:Dn K mg "is_whole" pR ["thing"]
 aKz:Dn K mg "is_word" tQ ["thing"]
 aE6:Dn K mg "is_one_of" mU ["thing","texts"]
 yK:Dn K mg "is_tuple_of" gU ["thing","least","most","is_part"]
 aCa:Dn K mg "are_unlike" lW ["names"]
 aHi:Dn K mg "names_of" pY ["head"]
 aKb:Dn K mg "is_name" tH ["thing"]
 aHv:Dn K mg "is_value" pX ["thing"]
 aKl:Dn K mg "kind_of" tV ["value"]
 aH2:Dn K mg "is_other" pL ["thing"]
 aLa:Dn K mg "is_test" tK ["thing"]
 aKg:Dn K mg "is_pair" uE ["thing"]
 aLe:Dn K mg "is_sum" wK ["thing"]
 aNj:Dn K mg "is_key" wF ["thing"]
 aJj:Dn K mg "is_many" sV ["thing"]
 aDw:Dn K mg "are_tests" mW ["thing"]
 aEt:Dn K mg "are_names" oE ["thing"]
 sH:Dn K mg "are_group_names" fH ["thing"]
 aFr:Dn K mg "are_pairs" nG ["thing"]
 aH9:Dn K mg "are_sums" qI ["thing"]
 aGt:Dn K mg "are_keys" pJ ["thing"]
 rP:Dn K mg "may_be_question" fZ ["thing"]
 aHl:Dn K mg "has_form" qG ["thing"]
 wN:Dn K mg "questions_in" jA ["question"]
 aGr:Dn K mg "own_size" pZ ["question"]
 aJq:Dn K mg "checked" uQ ["thing"]
 aKv:Dn K mg "kind_in" uO ["head","name"]
 rM:Dn K mg "need_like_kinds" fG ["kinds","others"]
 zA:Dn K mg "need_unlike" jX ["names"]
 aBj:Dn K mg "table_head" lK ["heads","name"]
 aDc:Dn K mg "other_kind" lQ ["head","other"]
 aBx:Dn K mg "where_head" fX ["head","tests"]
 aEg:Dn K mg "keep_head" jP ["head","names"]
 aCu:Dn K mg "named_head" lJ ["head","names"]
 aDo:Dn K mg "join_head" eV ["head","other","pairs"]
 aHu:Dn K mg "sum_kind" pF ["head","part"]
 aBh:Dn K mg "group_head" iJ ["head","names","sums"]
 aBz:Dn K mg "first_head" lD ["head","keys"]
 aE4:Dn K mg "head_here" mZ ["heads","question","inner"]
 oZ:Dn K mg "head_within" gZ ["heads","question"]
 aKd:Dn K mg "head_of" uB ["heads","question"]
 aIf:Dn K mg "place_of" pM ["head","name"]
 aDq:Dn K mg "places_of" jK ["head","names"]
 aLz:Dn K mg "picked" qO ["row","places"]
 aJw:Dn K mg "rows_by" uI ["rows","places"]
 aHs:Dn K mg "compares" pO ["value","sign","other"]
 aO5:Dn K mg "holds" aB4 ["head","row","test"]
 aC8:Dn K mg "where_rows" iQ ["head","rows","tests"]
 aDs:Dn K mg "keep_rows" jO ["head","rows","names"]
 aGb:Dn K mg "join_rows" nR ["head","rows","other_head","other_rows","pairs"]
 aMj:Dn K mg "summed" rZ ["head","rows","part"]
 aBs:Dn K mg "group_rows" iH ["head","rows","names","sums"]
 aD6:Dn K mg "sorted_by" mQ ["rows","place","way"]
 aJ6:Dn K mg "ordered" uC ["head","rows","keys"]
 aC9:Dn K mg "first_rows" mG ["head","rows","keys","many"]
 aEj:Dn K mg "rows_here" mR ["question","heads","rows"]
 oX:Dn K mg "rows_within" dU ["heads","tables","question"]
 sS:Dn K mg "in_answer_order" fB ["head","rows","question"]
 aKs:Dn K mg "rows_of" tR ["heads","tables","question"]
 aOl:Dn K mg "whole" aBd ["heads","tables","question"]
 aEb:Dn K mg "_law_seed" nW ["_law_script"]
 aCo:Dn K mg "_law_begin" lX ["_law_script"]
 aFp:Dn K mg "_law_next" nH ["_law_state","_law_many"]
 aCf:Dn K mg "_law_words" kW []
 aBr:Dn K mg "_law_names" iK ["_law_state","_law_many"]
 aC3:Dn K mg "_law_great" lO ["_law_state"]
 aCd:Dn K mg "_law_value" lY ["_law_state","_law_kind"]
 aFx:Dn K mg "_law_head" nU ["_law_state","_law_names_here"]
 aG1:Dn K mg "_law_row" lN ["_law_state","_law_head_here"]
 aDj:Dn K mg "_law_some" jJ ["_law_state","_law_head_here","_law_least"]
 aFl:Dn K mg "_law_sums" nP ["_law_state","_law_head_here","_law_fresh"]
 aJk:Dn K mg "_law_at" tY ["_law_head_here","_law_name"]
 yN:Dn K mg "_law_summed" jV ["_law_word","_law_some_here"]
 xY:Dn K mg "_law_grouped" cJ ["_law_head_here","_law_rows","_law_names_here","_law_sums_here"]
 aFd:Dn K mg "_law_same" nQ ["_law_found","_law_due"]
 aRu:Dn K mg "law" zY ["_law_script"]
abbrev abc:Str:="abcdefghijklmnopqrstuvwxyz"
abbrev words:List V:=[.str "and",.str "by",.str "count",.str "down",.str "first",.str "group",.str "join",.str "keep",.str "least",.str "most",.str "named",.str "on",.str "sum",.str "table",.str "up",.str "where",.str "with"]
def Th (K:PySem.W.Frag) (H:Hp) (v:V):Prop:=(∃x,v=.str x∧x.length≤1000)∨(∃i,v=.int i)∨(∃b,v=.bl b)∨∃k,Rk K H v k
theorem Th.same {K:PySem.W.Frag} {H H':Hp} {v:V} (e:Same H H') (h:Th K H v):Th K H' v:=by
 rcases h with h|h|h|⟨k,h⟩
 ·exact .inl h
 ·exact .inr (.inl h)
 ·exact .inr (.inr (.inl h))
 ·exact .inr (.inr (.inr ⟨k,h.same e⟩))
def aOv:V→String→Bool
 |.int _,T=>T == "int"
 |.str _,T=>T == "str"
 |.bl _,T=>T == "int" || T == "bool"
 |_,_=>false
def isS:V→Bool
 |.str _=>true
 |_=>false
def whole:V→Bool
 |.int _=>true
 |_=>false
theorem sG {K:PySem.W.Frag} {H:Hp} {v:V} {T:String} {Q:VK} (hv:Th K H v) (hT:T = "int"∨T = "bool"∨T = "str") (q:Q (.bl (aOv v T)) H):aRs [v,.ty T] H Q∨aPx K [v,.ty T] H Q:=by
 rcases hv with ⟨x,rfl,_⟩|⟨i,rfl⟩|⟨b,rfl⟩|⟨k,h⟩
 ·refine .inl ⟨_,_,_,rfl,?_,q⟩
  rcases hT with rfl|rfl|rfl <;> simp [aGf,aOv]
 ·refine .inl ⟨_,_,_,rfl,?_,q⟩
  rcases hT with rfl|rfl|rfl <;> simp [aGf,aOv]
 ·refine .inl ⟨_,_,_,rfl,?_,q⟩
  rcases hT with rfl|rfl|rfl <;> simp [aGf,aOv]
 ·refine .inr ⟨_,_,_,rfl,h,hT,?_⟩
  cases h <;> exact q
def inA (y:Str):Bool:=!(Builtin.Str.occurrences abc y 0 abc.length 1).isEmpty
def allIn (x:Str):Bool:=((List.range x.cps.size).map fun i=>inA (sgn x i)).all id
def nY (l:Nat):V→Bool
 |.str x=>decide (l≤x.length) && (decide (x.length≤8) && allIn x)
 |_=>false
def nameB (v:V):Bool:=nY 1 v && !inV v words
def aHp (v:V):Bool:=whole v || nY 0 v
def rB (K:PySem.W.Frag):Sp:=fun vs H Q _=>∃v,vs=[v]∧Th K H v∧Q (.bl (whole v)) H
def xQ (K:PySem.W.Frag) (f:V→Bool):Sp:=fun vs H Q _=>∃v,vs=[v]∧Th K H v∧∀H',Same H H'→Q (.bl (f v)) H'
def aJe (K:PySem.W.Frag):Sp:=fun vs H Q _=>∃v,vs=[v]∧Th K H v∧Q (.str (if whole v then "number" else "word")) H
def sp_law (K:PySem.W.Frag):Sp:=fun vs H Q _=>∃(a:Addr) (ns:List Int),vs=[.ref a]∧SqL K H a (ns.map V.int)∧ns.length≤63∧∀H',Q (.bl true) H'
theorem aJz {K:PySem.W.Frag} {H:Hp} {a:Addr} {ns:List Int} (h:ns.length≤63) (hS:SqL K H a (ns.map V.int)):sp_law K [.ref a] H (fun v _=>v=.bl true) fun _ _ _=>False:=
 ⟨a,ns,rfl,hS,h,fun _=>rfl⟩
theorem aF0:FnScope ["thing"] ["thing"] (defScope pR):=by trivial
theorem aHw:FnScope ["thing"] ["thing"] (defScope tQ):=by trivial
theorem aA4:FnScope ["thing","texts"] ["thing","texts"] (defScope mU):=by trivial
theorem xR:FnScope ["thing","least","most","is_part"] ["thing","least","most","is_part"] (defScope gU):=by trivial
theorem yD:FnScope ["names"] ["names"] (defScope lW):=by trivial
theorem aD8:FnScope ["head"] ["head"] (defScope pY):=by trivial
theorem aH8:FnScope ["thing"] ["thing"] (defScope tH):=by trivial
theorem aE2:FnScope ["thing"] ["thing"] (defScope pX):=by trivial
theorem aGk:FnScope ["value"] ["value"] (defScope tV):=by trivial
theorem aEq:FnScope ["thing"] ["thing"] (defScope pL):=by trivial
theorem aHc:FnScope ["thing"] ["thing"] (defScope tK):=by trivial
theorem aGq:FnScope ["thing"] ["thing"] (defScope uE):=by trivial
theorem aJl:FnScope ["thing"] ["thing"] (defScope wK):=by trivial
theorem aK1:FnScope ["thing"] ["thing"] (defScope wF):=by trivial
theorem aGg:FnScope ["thing"] ["thing"] (defScope sV):=by trivial
theorem aBk:FnScope ["thing"] ["thing"] (defScope mW):=by trivial
theorem aBv:FnScope ["thing"] ["thing"] (defScope oE):=by trivial
theorem pH:FnScope ["thing"] ["thing"] (defScope fH):=by trivial
theorem aB9:FnScope ["thing"] ["thing"] (defScope nG):=by trivial
theorem aD3:FnScope ["thing"] ["thing"] (defScope qI):=by trivial
theorem aF1:FnScope ["thing"] ["thing"] (defScope pJ):=by trivial
theorem pI:FnScope ["thing"] ["thing"] (defScope fZ):=by trivial
theorem uX:FnScope ["thing","form"] ["thing"] (defScope qG):=by trivial
theorem vL:FnScope ["question"] ["question"] (defScope jA):=by trivial
theorem aEo:FnScope ["question"] ["question"] (defScope pZ):=by trivial
theorem jC:FnScope ["thing","size","waiting","part"] ["thing"] (defScope uQ):=by trivial
theorem wD:FnScope ["head","name","column"] ["head","name"] (defScope uO):=by trivial
theorem pW:FnScope ["kinds","others"] ["kinds","others"] (defScope fG):=by trivial
theorem xF:FnScope ["names"] ["names"] (defScope jX):=by trivial
theorem yO:FnScope ["heads","name"] ["heads","name"] (defScope lK):=by trivial
theorem zJ:FnScope ["head","other"] ["head","other"] (defScope lQ):=by trivial
theorem yU:FnScope ["head","tests"] ["head","tests"] (defScope fX):=by trivial
theorem aA9:FnScope ["head","names"] ["head","names"] (defScope jP):=by trivial
theorem zB:FnScope ["head","names"] ["head","names"] (defScope lJ):=by trivial
theorem mC:FnScope ["head","other","pairs","here","there"] ["head","other","pairs"] (defScope eV):=by trivial
theorem aFe:FnScope ["head","part"] ["head","part"] (defScope pF):=by trivial
theorem eF:FnScope ["head","names","sums","kept","made","part","column"] ["head","names","sums"] (defScope iJ):=by trivial
theorem pC:FnScope ["head","keys","names"] ["head","keys"] (defScope lD):=by trivial
theorem qQ:FnScope ["heads","question","inner","sort"] ["heads","question","inner"] (defScope mZ):=by trivial
theorem fQ:FnScope ["heads","question","inner","head"] ["heads","question"] (defScope gZ):=by trivial
theorem aGl:FnScope ["heads","question"] ["heads","question"] (defScope uB):=by trivial
theorem aFm:FnScope ["head","name"] ["head","name"] (defScope pM):=by trivial
theorem aCq:FnScope ["head","names"] ["head","names"] (defScope jK):=by trivial
theorem aJ5:FnScope ["row","places"] ["row","places"] (defScope qO):=by trivial
theorem qD:FnScope ["rows","places","lots","row"] ["rows","places"] (defScope uI):=by trivial
theorem aGc:FnScope ["value","sign","other"] ["value","sign","other"] (defScope pO):=by trivial
theorem xV:FnScope ["head","row","test","other","against"] ["head","row","test"] (defScope aB4):=by trivial
theorem yH:FnScope ["head","rows","tests"] ["head","rows","tests"] (defScope iQ):=by trivial
theorem rJ:FnScope ["head","rows","names","places"] ["head","rows","names"] (defScope jO):=by trivial
theorem aDf:FnScope ["head","rows","other_head","other_rows","pairs","here","there","left_over","lots","joined","row","other"] ["head","rows","other_head","other_rows","pairs"] (defScope nR):=by trivial
theorem uP:FnScope ["head","rows","part","place","column"] ["head","rows","part"] (defScope rZ):=by trivial
theorem pB:FnScope ["head","rows","names","sums","lots"] ["head","rows","names","sums"] (defScope iH):=by trivial
theorem aBm:FnScope ["rows","place","way"] ["rows","place","way"] (defScope mQ):=by trivial
theorem lL:FnScope ["head","rows","keys","told","key"] ["head","rows","keys"] (defScope uC):=by trivial
theorem yS:FnScope ["head","rows","keys","many"] ["head","rows","keys","many"] (defScope mG):=by trivial
theorem rC:FnScope ["question","heads","rows","sort"] ["question","heads","rows"] (defScope mR):=by trivial
theorem fM:FnScope ["heads","tables","question","inner","rows"] ["heads","tables","question"] (defScope dU):=by trivial
theorem qH:FnScope ["head","rows","question"] ["head","rows","question"] (defScope fB):=by trivial
theorem aH7:FnScope ["heads","tables","question"] ["heads","tables","question"] (defScope tR):=by trivial
theorem aDz:FnScope ["heads","tables","question","head"] ["heads","tables","question"] (defScope aBd):=by trivial
theorem fC:FnScope ["_law_script","_law_seed_here","_law_k","_law_cell"] ["_law_script"] (defScope nW):=by trivial
theorem jW:FnScope ["_law_script","_law_digits"] ["_law_script"] (defScope lX):=by trivial
theorem rH:FnScope ["_law_state","_law_many","_law_digit"] ["_law_state","_law_many"] (defScope nH):=by trivial
theorem pD:FnScope ["_law_words_here"] [] (defScope kW):=by trivial
theorem bQ:FnScope ["_law_state","_law_many","_law_small","_law_odd","_law_base","_law_k","_law_at_here","_law_names_here"] ["_law_state","_law_many"] (defScope iK):=by trivial
theorem gY:FnScope ["_law_state","_law_number","_law_k"] ["_law_state"] (defScope lO):=by trivial
theorem dW:FnScope ["_law_state","_law_kind","_law_way","_law_word","_law_k"] ["_law_state","_law_kind"] (defScope lY):=by trivial
theorem fP:FnScope ["_law_state","_law_names_here","_law_start","_law_head_here","_law_k","_law_kind"] ["_law_state","_law_names_here"] (defScope nU):=by trivial
theorem aDx:FnScope ["_law_state","_law_head_here"] ["_law_state","_law_head_here"] (defScope lN):=by trivial
theorem lE:FnScope ["_law_state","_law_head_here","_law_least","_law_some_here"] ["_law_state","_law_head_here","_law_least"] (defScope jJ):=by trivial
theorem cO:FnScope ["_law_state","_law_head_here","_law_fresh","_law_sums_here","_law_k","_law_name","_law_kind","_law_many","_law_word"] ["_law_state","_law_head_here","_law_fresh"] (defScope nP):=by trivial
theorem aG5:FnScope ["_law_head_here","_law_name"] ["_law_head_here","_law_name"] (defScope tY):=by trivial
theorem xG:FnScope ["_law_word","_law_some_here"] ["_law_word","_law_some_here"] (defScope jV):=by trivial
theorem aU:FnScope ["_law_head_here","_law_rows","_law_names_here","_law_sums_here","_law_spots","_law_lots","_law_row_here","_law_columns","_law_word","_law_name","_law_new","_law_kind","_law_found","_law_lot","_law_those","_law_spot"] ["_law_head_here","_law_rows","_law_names_here","_law_sums_here"] (defScope cJ):=by trivial
theorem rD:FnScope ["_law_found","_law_due","_law_k"] ["_law_found","_law_due"] (defScope nQ):=by trivial
theorem dI:FnScope ["_law_script","_law_state","_law_names_here","_law_head_here","_law_rows","_law_some_here","_law_fresh","_law_sums_here","_law_those","_law_due","_law_question","_law_heads","_law_tables"] ["_law_script"] (defScope zY):=by trivial
section
variable {P:Program} {w:World} {K:PySem.W.Frag} {mg:Str→Option Value} {base:Heap}
theorem aFu (T:Txt w K mg):Ok P w K mg base 1 "is_whole" ["thing"] (rB K):=by
 refine Ok.ofV T.aIc aF0 (fun vs H Q E h=>?_) (fun f cdv A outer s H vs Q E hr h=>?_)
 ·obtain ⟨v,rfl,_⟩:=h;rfl
 obtain ⟨v,rfl,hv,q⟩:=h
 refine ⟨_,(aF (aG (lU (aL (nA.or oK) (by rfl) T.bG bC (aB (vv 0) (aB (cW (v:=.ty "int") (by rfl) T.aIj aBe rfl) aA))) (mF (aL0 (aL (nA.or oK) (by rfl) T.bG bC (aB (vv 0) (aB (cW (v:=.ty "bool") (by rfl) T.aL5 aJa rfl) aA)))))))),?_⟩
 refine ⟨_,rfl,sG hv (.inl rfl) ⟨_,rfl,?_⟩⟩
 rcases id hv with ⟨x,rfl,_⟩|⟨i,rfl⟩|⟨b,rfl⟩|⟨k,h⟩
 ·exact iteF q
 ·exact iteT ⟨_,rfl,sG hv (.inr (.inl rfl)) ⟨_,rfl,q⟩⟩
 ·exact iteT ⟨_,rfl,sG hv (.inr (.inl rfl)) ⟨_,rfl,q⟩⟩
 ·cases h <;> exact iteF q
theorem aMm (x:Str):(((List.range x.cps.size).map fun i=>V.str (sgn x i)).map fun v=>match v with|.str y=>V.bl (inA y)|_=>.bl false)=(((List.range x.cps.size).map fun i=>inA (sgn x i)).map V.bl):=by
 rw [List.map_map,List.map_map]
 rfl
theorem aGz (T:Txt w K mg):Ok P w K mg base 1 "is_word" ["thing"] (xQ K (nY 0)):=by
 refine Ok.ofV T.aKz aHw (fun vs H Q E h=>?_) (fun f cdv A outer s H vs Q E hr h=>?_)
 ·obtain ⟨v,rfl,_⟩:=h;rfl
 obtain ⟨v,rfl,hv,q⟩:=h
 refine ⟨_,(aC (bA (VW.pt (mL (dC (cQ (aL (nA.or oK) (by rfl) T.bG bC (aB (vv 0) (aB (cW (v:=.ty "str") (by rfl) T.aLh aH3 rfl) aA))))) (jE (aM op_gt (aL call_len_str (by rfl) T.cZ cA (aB (vv 0) aA)) (dF (by rfl) T.wQ) (nomark _))))) (aF (aG iG)) aP) (aF (aG (aL (rA rfl) (by rfl) T.aIm aC0 (aB (bM (N:=["sign"]) (by trivial) (dZ (by decide +kernel)) rfl (aQe (vv 0)) (fun cl s' H' fp=>⟨(aK (i:=0) (show (["sign"]:List Str).Nodup from by decide +kernel) rfl (Or.inl rfl)),bJ,(dD op_in_str (vv 0) (dF (by rfl) T.aK3) (by with_unfolding_all rfl))⟩)) aA))))),?_⟩
 refine ⟨_,rfl,sG hv (.inr (.inr rfl)) ⟨_,rfl,?_⟩⟩
 have no:isS v=false→Q (.bl false) H:=fun e=>by
  have z:nY 0 v=false:=by cases v <;> first|rfl|cases e
  rw [←z];exact q H (Same.refl H)
 rcases id hv with ⟨x,rfl,hx⟩|⟨i,rfl⟩|⟨b,rfl⟩|⟨k,h⟩
 ·refine iteF ⟨_,rfl,_,rfl,small hx,_,_,rfl,rfl,_,rfl,?_⟩
  refine ite2 (fun c=>?_) (fun c=>?_)
  ·have c':(8:Int)<x.length:=of_decide_eq_true c
   have z:nY 0 (.str x)=false:=by
    show (decide (0≤x.length) && (decide (x.length≤8) && allIn x))=false
    rw [decide_eq_false (p:=x.length≤8) (by omega)]
    simp
   rw [←z];exact q H (Same.refl H)
  ·have c':¬ (8:Int)<x.length:=of_decide_eq_false (Bool.eq_false_iff.mpr c)
   dsimp only [tNext,tRet,tCB,tCons]
   refine aJu ((List.range x.cps.size).map fun i=>V.str (sgn x i)) (fun v=>match v with|.str y=>V.bl (inA y)|_=>.bl false) [none] iT ?_
    (fun R r=>aRc (z:=x) (fun R' r'=>⟨_,rfl,r'⟩) R r) (fun v hv' H' R l sm r=>?_) rfl fun D hD=>?_
   ·rw [List.length_map,List.length_range];exact small hx
   ·obtain ⟨i,_,rfl⟩:=List.mem_map.mp hv'
    exact ⟨_,rfl,_,_,rfl,rfl,r⟩
   ·refine ⟨D,(List.range x.cps.size).map fun i=>inA (sgn x i),rfl,SqL.of (by rw [upd_same,aMm]),?_⟩
    have z:nY 0 (.str x)=allIn x:=by
     show (decide (0≤x.length) && (decide (x.length≤8) && allIn x))=allIn x
     rw [decide_eq_true (p:=x.length≤8) (by omega)]
     simp
    show Q (.bl (allIn x)) _
    rw [←z]
    exact q _ (aW hD _)
 ·exact iteT (no rfl)
 ·exact iteT (no rfl)
 ·cases h <;> exact iteT (no rfl)
theorem vQ {v:V} {l:Nat} (h:nY l v=true):∃x,v=.str x∧l≤x.length∧x.length≤8∧allIn x=true:=by
 cases v with
 |str x=>
  have h:(decide (l≤x.length) && (decide (x.length≤8) && allIn x))=true:=h
  rw [Bool.and_eq_true,Bool.and_eq_true] at h
  exact ⟨x,rfl,of_decide_eq_true h.1,of_decide_eq_true h.2.1,h.2.2⟩
 |_=>cases h
theorem zQ {x:Str}:x=("":Str)↔x.length=0:=by
 constructor
 ·rintro rfl;decide +kernel
 ·intro h
  obtain ⟨cps⟩:=x
  have h:cps.size=0:=h
  rw [Array.size_eq_zero_iff] at h
  subst h
  decide +kernel
theorem wY:words.all flatV=true:=rfl
theorem aH0 (T:Txt w K mg) (tM:Ok P w K mg base 1 "is_word" ["thing"] (xQ K (nY 0))):Ok P w K mg base 2 "is_name" ["thing"] (xQ K nameB):=by
 refine Ok.ofV T.aKb aH8 (fun vs H Q E h=>?_) (fun f cdv A outer s H vs Q E hr h=>?_)
 ·obtain ⟨v,rfl,_⟩:=h;rfl
 obtain ⟨v,rfl,hv,q⟩:=h
 obtain ⟨qa,mq,hqa⟩:=T.gR
 have gR:∃u,mg "QUESTION_WORDS"=some u∧RelV (.ref qa) u:=⟨_,mq,rfl⟩
 refine ⟨_,(aF (aG (lU (aH (tM.mono (by decide)) hr (by rfl) (aB (vv 0) aA)) (lU (dD op_ne (vv 0) aO (nomark _)) (mF (dD op_notIn_seq (vv 0) (dF (by rfl) gR) (by with_unfolding_all rfl))))))),?_⟩
 refine ⟨_,rfl,_,rfl,hv,fun H1 s1=>⟨_,rfl,?_⟩⟩
 refine ite2 (fun c=>?_) (fun c=>?_)
 ·obtain ⟨x,rfl,_,h8,ha⟩:=vQ c
  refine ⟨_,rfl,rfl,_,rfl,?_⟩
  by_cases e:x.length=0
  ·have ex:=zQ.mpr e
   subst ex
   refine iteF ?_
   have z:nameB (.str "")=false:=by decide +kernel
   rw [←z];exact q H1 s1
  ·have ne:¬ (V.str x=V.str ""):=fun z=>e (zQ.mp (V.str.inj z))
   have e2:(!decide (V.str x=V.str ""))=true:=by rw [decide_eq_false ne];rfl
   rw [e2]
   refine iteT ⟨_,rfl,qa,words,rfl,.inr (hqa _),rfl,wY,?_⟩
   have z:nameB (.str x)=!inV (.str x) words:=by
    show ((decide (1≤x.length) && (decide (x.length≤8) && allIn x)) && !inV (.str x) words)=!inV (.str x) words
    rw [decide_eq_true (p:=1≤x.length) (by omega),decide_eq_true h8,ha]
    rfl
   show Q (.bl (!inV (.str x) words)) H1
   rw [←z];exact q H1 s1
 ·have z:nameB v=false:=by
   show (nY 1 v && !inV v words)=false
   cases hv1:nY 1 v with
   |false=>rfl
   |true=>
    obtain ⟨x,rfl,h1,h8,ha⟩:=vQ hv1
    refine absurd ?_ c
    show (decide (0≤x.length) && (decide (x.length≤8) && allIn x))=true
    rw [decide_eq_true h8,ha,decide_eq_true (Nat.zero_le _)]
    rfl
  rw [←z];exact q H1 s1
theorem aDm (T:Txt w K mg) (iW:Ok P w K mg base 1 "is_whole" ["thing"] (rB K)) (tM:Ok P w K mg base 1 "is_word" ["thing"] (xQ K (nY 0))) :
  Ok P w K mg base 2 "is_value" ["thing"] (xQ K aHp):=by
 refine Ok.ofV T.aHv aE2 (fun vs H Q E h=>?_) (fun f cdv A outer s H vs Q E hr h=>?_)
 ·obtain ⟨v,rfl,_⟩:=h;rfl
 obtain ⟨v,rfl,hv,q⟩:=h
 refine ⟨_,(aF (aG (aPg (aH (iW.mono (by decide)) hr (by rfl) (aB (vv 0) aA)) (mF (aH (tM.mono (by decide)) hr (by rfl) (aB (vv 0) aA)))))),?_⟩
 refine ⟨_,rfl,_,rfl,hv,_,rfl,?_⟩
 cases hw:whole v with
 |true=>
  refine iteT ?_
  have z:aHp v=true:=by show (whole v || nY 0 v)=true;rw [hw];rfl
  rw [←z];exact q H (Same.refl H)
 |false=>
  refine iteF ⟨_,rfl,_,rfl,hv,fun H1 s1=>?_⟩
  have z:aHp v=nY 0 v:=by show (whole v || nY 0 v)=nY 0 v;rw [hw];rfl
  rw [←z];exact q H1 s1
theorem aG2 (T:Txt w K mg) (iW:Ok P w K mg base 1 "is_whole" ["thing"] (rB K)):Ok P w K mg base 2 "kind_of" ["value"] (aJe K):=by
 refine Ok.ofV T.aKl aGk (fun vs H Q E h=>?_) (fun f cdv A outer s H vs Q E hr h=>?_)
 ·obtain ⟨v,rfl,_⟩:=h;rfl
 obtain ⟨v,rfl,hv,q⟩:=h
 refine ⟨_,(aF (aG (eE (cQ (aH (iW.mono (by decide)) hr (by rfl) (aB (vv 0) aA))) aO aO))),?_⟩
 refine ⟨_,rfl,_,rfl,hv,_,rfl,?_⟩
 cases hw:whole v with
 |true=>rw [hw] at q;exact iteT q
 |false=>rw [hw] at q;exact iteF q
theorem at0 (x:V) (r:List V):atI (x::r) 0=some x:=by
 unfold atI ixN
 simp
theorem at1 (x y:V) (r:List V):atI (x::y::r) 1=some y:=by
 unfold atI ixN
 simp only [List.length_cons]
 rw [if_pos (by omega),if_pos (by omega)]
 rfl
structure Tells (R:Hp→V→Bool→Prop):Prop where
 same:∀{H H' v b},Same H H'→R H v b→R H' v b
def eN (R:Hp→V→Bool→Prop):Sp:=fun vs H Q _=>∃v b,vs=[v]∧R H v b∧∀H',Same H H'→Q (.bl b) H'
inductive aAf (K:PySem.W.Frag) (R:Hp→V→Bool→Prop) (lo hi:Nat) (H:Hp):V→Bool→Prop
 |no {v}:Tk K H v false→aAf K R lo hi H v false
 |len {a xs}:SqT K H a xs→¬ (lo≤xs.length∧xs.length≤hi)→aAf K R lo hi H (.ref a) false
 |yes {a xs} (f:V→Bool):SqT K H a xs→lo≤xs.length→xs.length≤hi→(∀x∈xs,R H x (f x))→aAf K R lo hi H (.ref a) (xs.all f)
def tG (K:PySem.W.Frag):Sp:=fun vs H Q _=>∃v a xs,vs=[v,.ref a]∧Th K H v∧SqT K H a xs∧xs.all flatV=true∧Q (.bl (isS v && inV v xs)) H
def iD (P:Program) (w:World) (K:PySem.W.Frag) (mg:Str→Option Value) (base:Heap) (k:Nat):Sp:=fun vs H Q _=>∃v lo hi f ps R b,vs=[v,.int (lo:Nat),.int (hi:Nat),.ref f]∧hi≤1000∧Held P w K mg base k f ps (eN R)∧Tells R∧aAf K R lo hi H v b∧∀H',Same H H'→Q (.bl b) H'
def aAi (K:PySem.W.Frag):Sp:=fun vs H Q _=>∃a ss,vs=[.ref a]∧SqL K H a (ss.map V.str)∧ss.length≤1000∧∀H',Same H H'→Q (.bl (decide ((kO ss).length=ss.length))) H'
theorem aAu (T:Txt w K mg):Ok P w K mg base 1 "is_one_of" ["thing","texts"] (tG K):=by
 refine Ok.ofV T.aE6 aA4 (fun vs H Q E h=>?_) (fun f cdv A outer s H vs Q E hr h=>?_)
 ·obtain ⟨v,a,xs,rfl,_⟩:=h;rfl
 obtain ⟨v,a,xs,rfl,hv,ha,hf,q⟩:=h
 refine ⟨_,(aF (aG (lU (aL (nA.or oK) (by rfl) T.bG bC (aB (vv 0) (aB (cW (v:=.ty "str") (by rfl) T.aLh aH3 rfl) aA))) (mF (dD op_in_seq (vv 0) (vv 1) (by with_unfolding_all rfl)))))),?_⟩
 refine ⟨_,rfl,sG hv (.inr (.inr rfl)) ⟨_,rfl,?_⟩⟩
 rcases id hv with ⟨x,rfl,_⟩|⟨i,rfl⟩|⟨b,rfl⟩|⟨k,h⟩
 ·exact iteT ⟨_,rfl,_,rfl,a,xs,rfl,.inr ha,rfl,hf,q⟩
 ·exact iteF q
 ·exact iteF q
 ·cases h <;> exact iteF q
theorem cG {k:Nat} (T:Txt w K mg):Ok P w K mg base (k+1) "is_tuple_of" ["thing","least","most","is_part"] (iD P w K mg base k):=by
 refine Ok.ofV T.yK xR (fun vs H Q E h=>?_) (fun f cdv A outer s H vs Q E hr h=>?_)
 ·obtain ⟨v,lo,hi,f,ps,R,b,rfl,_⟩:=h;rfl
 obtain ⟨v,lo,hi,g,ps,R,b,rfl,h1000,hg,hR,hv,q⟩:=h
 refine ⟨_,(aC (bA (VW.pt (mL (dC (cQ (aL gO (by rfl) T.bG bC (aB (vv 0) (aB (cW (v:=.ty "tuple") (by rfl) T.bV bL rfl) aA))))) (jE (dC (aD1 op_le op_le (vv 1) (aL call_len_seq (by rfl) T.cZ cA (aB (vv 0) aA)) (vv 2)))))) (aF (aG iG)) aP) (aF (aG (aL (rA rfl) (by rfl) T.aIm aC0 (aB (bM (N:=["part","is_part"]) (by trivial) (bT (defScope gU) rfl (by decide +kernel)) rfl (cY (vv 0)) (fun cl s' H' fp=>⟨(aK (i:=0) (show (["part","is_part"]:List Str).Nodup from by decide +kernel) rfl (Or.inl rfl)),bJ,(aEa (P:=P) (w:=w) (K:=K) (mg:=mg) (base:=base) hr (vv 1) (aB (vv 0) aA))⟩)) aA))))),?_⟩
 cases hv with
 |no h=>
  exact ⟨_,rfl,_,_,rfl,h,_,rfl,iteT (q H (Same.refl H))⟩
 |@len a xs ha hn=>
  refine ⟨_,rfl,_,_,rfl,.tup ha,_,rfl,iteF ?_⟩
  refine ⟨_,rfl,_,rfl,_,_,rfl,.inr ha,_,_,rfl,rfl,_,rfl,?_⟩
  refine ite2 (fun c=>⟨_,rfl,_,_,rfl,rfl,_,rfl,?_⟩) (fun c=>⟨_,rfl,iteT (q H (Same.refl H))⟩)
  have c':(lo:Int)≤xs.length:=of_decide_eq_true c
  have e:decide ((xs.length:Int)≤(hi:Int))=false:=decide_eq_false fun z=>hn ⟨by omega,by omega⟩
  rw [e]
  exact iteT (q H (Same.refl H))
 |@yes a xs t ha h1 h2 hx=>
  refine ⟨_,rfl,_,_,rfl,.tup ha,_,rfl,iteF ?_⟩
  refine ⟨_,rfl,_,rfl,_,_,rfl,.inr ha,_,_,rfl,rfl,_,rfl,?_⟩
  have e1:decide ((lo:Int)≤(xs.length:Int))=true:=decide_eq_true (by omega)
  have e2:decide ((xs.length:Int)≤(hi:Int))=true:=decide_eq_true (by omega)
  rw [e1]
  refine iteT ⟨_,rfl,_,_,rfl,rfl,_,rfl,?_⟩
  rw [e2]
  refine iteF ?_
  dsimp only [tNext,tRet,tCB,tCons]
  refine aK5 xs (fun x=>.bl (t x)) [none,some (.ref g)] ?_ (small (by omega)) (fun R r=>gP ha (fun R' r'=>⟨_,rfl,r'⟩) R r) (fun x hx' H' R l sm r=>?_) rfl fun D H' sm hD=>?_
  ·exact bU 3 (by decide +kernel) rfl rfl (by trivial)
  ·exact ⟨_,rfl,g,ps,_,rfl,hg,_,rfl,x,t x,rfl,hR.same sm (hx x hx'),r⟩
  ·refine ⟨D,xs.map t,rfl,SqL.of (by rw [hD,List.map_map];rfl),?_⟩
   rw [List.all_map]
   exact q H' sm
theorem zL (T:Txt w K mg):Ok P w K mg base 1 "are_unlike" ["names"] (aAi K):=by
 refine Ok.ofV T.aCa yD (fun vs H Q E h=>?_) (fun f cdv A outer s H vs Q E hr h=>?_)
 ·obtain ⟨a,ss,rfl,_⟩:=h;rfl
 obtain ⟨a,ss,rfl,ha,hl,q⟩:=h
 refine ⟨_,(aF (aG (dD op_eq (aL aHe (by rfl) T.cZ cA (aB (bD (aGy rfl) (by rfl) T.aRk aP8 (aB (vv 0) aA)) aA)) (aL call_len_seq (by rfl) T.cZ cA (aB (vv 0) aA)) (nomark _)))),?_⟩
 refine ⟨_,rfl,a,ss,rfl,ha,hl,fun D hD=>⟨D,ss,rfl,upd_same,_,rfl,a,_,rfl,.inl ((aW hD _).seq ha),rfl,?_⟩⟩
 have e:decide (V.int ((kO ss).length:Nat)=V.int (ss.map V.str).length)=decide ((kO ss).length=ss.length):=by
  rw [List.length_map]
  by_cases z:(kO ss).length=ss.length
  ·rw [z];simp
  ·rw [decide_eq_false z,decide_eq_false (by intro y;apply z;have:=V.int.inj y;omega)]
 rw [e]
 exact q _ (aW hD _)
theorem at2 (x y z:V) (r:List V):atI (x::y::z::r) 2=some z:=by
 unfold atI ixN
 simp only [List.length_cons]
 rw [if_pos (by omega),if_pos (by omega)]
 rfl
theorem jU {K:PySem.W.Frag} {H:Hp} {x:Str} (h:x.length≤8):Th K H (.str x):=.inl ⟨x,rfl,by omega⟩
def Nm (x:Str):Prop:=nameB (.str x)=true
theorem aLv {x:Str} (h:nameB (.str x)=true):x.length≤8:=by
 have h:(nY 1 (.str x) && !inV (.str x) words)=true:=h
 rw [Bool.and_eq_true] at h
 obtain ⟨y,e,_,h8,_⟩:=vQ h.1
 cases e
 exact h8
theorem Nm.th {K:PySem.W.Frag} {H:Hp} {x:Str} (h:Nm x):Th K H (.str x):=jU (aLv h)
abbrev signs:List V:=[.str "=",.str "<",.str ">",.str "!"]
abbrev wR:List V:=[.str "count",.str "sum",.str "least",.str "most"]
abbrev aMd:List V:=[.str "up",.str "down"]
inductive Oth where
 |val (x:V)
 |col (d:Str)
structure Tst where
 c:Str
 sg:Str
 o:Oth
structure Sm where
 wd:Str
 c:Option Str
 new:Str
def IsO (K:PySem.W.Frag) (H:Hp) (v:V):Oth→Prop
 |.val x=>∃a,v=.ref a∧SqT K H a [.str "value",x]∧Th K H x∧aHp x=true
 |.col d=>∃a,v=.ref a∧SqT K H a [.str "column",.str d]∧Nm d
def aQ7 (x:Str):Prop:=x = "="∨x = "<"∨x = ">"∨x = "!"
def IsT (K:PySem.W.Frag) (H:Hp) (v:V) (t:Tst):Prop:=∃a w,v=.ref a∧SqT K H a [.str t.c,.str t.sg,w]∧Nm t.c∧aQ7 t.sg∧IsO K H w t.o
def sU (K:PySem.W.Frag) (H:Hp) (v:V) (p:Str × Str):Prop:=∃a,v=.ref a∧SqT K H a [.str p.1,.str p.2]∧Nm p.1∧Nm p.2
def rE (K:PySem.W.Frag) (H:Hp) (v:V) (p:Str × Str):Prop:=∃a,v=.ref a∧SqT K H a [.str p.1,.str p.2]∧Nm p.1∧(p.2 = "up"∨p.2 = "down")
def aCw (x:Str):Prop:=x = "sum"∨x = "least"∨x = "most"
def fK (K:PySem.W.Frag) (H:Hp) (v:V) (s:Sm):Prop:=∃a,v=.ref a∧Nm s.new∧((s.wd = "count"∧s.c=none∧SqT K H a [.str "count",.non,.str s.new])∨(∃c,s.c=some c∧Nm c∧aCw s.wd∧SqT K H a [.str s.wd,.str c,.str s.new]))
def IsN (v:V) (x:Str):Prop:=v=.str x∧Nm x
inductive aZ {α β:Type} (R:α→β→Prop):List α→List β→Prop
 |nil:aZ R [] []
 |cons {a b as bs}:R a b→aZ R as bs→aZ R (a::as) (b::bs)
theorem aZ.len {α β:Type} {R:α→β→Prop} {as:List α} {bs:List β} (h:aZ R as bs):as.length=bs.length:=by
 induction h with
 |nil=>rfl
 |cons _ _ ih=>rw [List.length_cons,List.length_cons,ih]
theorem aZ.imp {α β:Type} {R S:α→β→Prop} {as:List α} {bs:List β} (h:aZ R as bs) (k:∀a b,R a b→S a b):aZ S as bs:=by
 induction h with
 |nil=>exact .nil
 |cons r _ ih=>exact .cons (k _ _ r) ih
theorem aZ.mem {α β:Type} {R:α→β→Prop} {as:List α} {bs:List β} (h:aZ R as bs) {a:α} (m:a∈as):∃b,b∈bs∧R a b:=by
 induction h with
 |nil=>cases m
 |cons r _ ih=>
  rcases List.mem_cons.mp m with rfl|m
  ·exact ⟨_,List.mem_cons_self ..,r⟩
  ·obtain ⟨b,hb,q⟩:=ih m
   exact ⟨b,List.mem_cons_of_mem _ hb,q⟩
theorem aZ.app {α β:Type} {R:α→β→Prop} {as cs:List α} {bs ds:List β} (h:aZ R as bs) (k:aZ R cs ds):aZ R (as++cs) (bs++ds):=by
 induction h with
 |nil=>exact k
 |cons r _ ih=>exact .cons r ih
def oR {α:Type} (K:PySem.W.Frag) (H:Hp) (R:V→α→Prop) (v:V) (xs:List α):Prop:=∃a vs,v=.ref a∧SqT K H a vs∧aZ R vs xs
theorem oR.same {α:Type} {K:PySem.W.Frag} {H H':Hp} {R S:V→α→Prop} {v:V} {xs:List α} (e:Same H H') (k:∀a b,R a b→S a b) (h:oR K H R v xs):oR K H' S v xs:=by
 obtain ⟨a,vs,rfl,ha,hr⟩:=h
 exact ⟨a,vs,rfl,e.aN ha,hr.imp k⟩
theorem IsO.same {K:PySem.W.Frag} {H H':Hp} {v:V} {o:Oth} (e:Same H H') (h:IsO K H v o):IsO K H' v o:=by
 cases o with
 |val x=>obtain ⟨a,rfl,ha,hx,hv⟩:=h;exact ⟨a,rfl,e.aN ha,hx.same e,hv⟩
 |col d=>obtain ⟨a,rfl,ha,hd⟩:=h;exact ⟨a,rfl,e.aN ha,hd⟩
theorem IsT.same {K:PySem.W.Frag} {H H':Hp} {v:V} {t:Tst} (e:Same H H') (h:IsT K H v t):IsT K H' v t:=by
 obtain ⟨a,w,rfl,ha,h1,h2,h3⟩:=h
 exact ⟨a,w,rfl,e.aN ha,h1,h2,h3.same e⟩
theorem sU.same {K:PySem.W.Frag} {H H':Hp} {v:V} {t:Str × Str} (e:Same H H') (h:sU K H v t):sU K H' v t:=by
 obtain ⟨a,rfl,ha,h1⟩:=h
 exact ⟨a,rfl,e.aN ha,h1⟩
theorem rE.same {K:PySem.W.Frag} {H H':Hp} {v:V} {t:Str × Str} (e:Same H H') (h:rE K H v t):rE K H' v t:=by
 obtain ⟨a,rfl,ha,h1⟩:=h
 exact ⟨a,rfl,e.aN ha,h1⟩
theorem fK.same {K:PySem.W.Frag} {H H':Hp} {v:V} {t:Sm} (e:Same H H') (h:fK K H v t):fK K H' v t:=by
 obtain ⟨a,rfl,hn,h1⟩:=h
 refine ⟨a,rfl,hn,?_⟩
 rcases h1 with ⟨x,y,z⟩|⟨c,x,y,z,u⟩
 ·exact .inl ⟨x,y,e.aN z⟩
 ·exact .inr ⟨c,x,y,z,e.aN u⟩
def dO {α:Type} (K:PySem.W.Frag) (S:PySem.W.Frag→Hp→V→α→Prop):Hp→V→Bool→Prop:=fun H v b=>b=true∧∃t,S K H v t
theorem gQ {α:Type} {K:PySem.W.Frag} {S:PySem.W.Frag→Hp→V→α→Prop} (st:∀{H H' v t},Same H H'→S K H v t→S K H' v t):Tells (dO K S):=⟨fun e h=>⟨h.1,let ⟨t,q⟩:=h.2;⟨t,st e q⟩⟩⟩
def dY (_:PySem.W.Frag) (_:Hp) (v:V) (x:Str):Prop:=IsN v x
theorem tupof {α:Type} {S:PySem.W.Frag→Hp→V→α→Prop} {lo hi:Nat} {H:Hp} {v:V} {xs:List α} (h:oR K H (S K H) v xs) (h1:lo≤xs.length) (h2:xs.length≤hi):aAf K (dO K S) lo hi H v true:=by
 obtain ⟨a,vs,rfl,ha,hr⟩:=h
 have z:=aAf.yes (K:=K) (R:=dO K S) (lo:=lo) (hi:=hi) (fun _=>true) ha (by rw [hr.len];exact h1) (by rw [hr.len];exact h2) (fun x hx=>by
  obtain ⟨b,_,q⟩:=hr.mem hx
  exact ⟨rfl,b,q⟩)
 have e:vs.all (fun _=>true)=true:=by rw [List.all_eq_true];intro _ _;rfl
 rw [e] at z
 exact z
def gJ {α:Type} (S:PySem.W.Frag→Hp→V→α→Prop) (lo hi:Nat):PySem.W.Frag→Hp→V→List α→Prop:=fun K H v xs=>oR K H (S K H) v xs∧lo≤xs.length∧xs.length≤hi
theorem aD4 (T:Txt w K mg) (cD:Ok P w K mg base 1 "is_one_of" ["thing","texts"] (tG K)) (aHa:Ok P w K mg base 2 "is_value" ["thing"] (xQ K aHp)) (bZ:Ok P w K mg base 2 "is_name" ["thing"] (xQ K nameB)) :
  Ok P w K mg base 3 "is_other" ["thing"] (eN (dO K IsO)):=by
 refine Ok.ofV T.aH2 aEq (fun vs H Q E h=>?_) (fun f cdv A outer s H vs Q E hr h=>?_)
 ·obtain ⟨v,b,rfl,_⟩:=h;rfl
 obtain ⟨v,b,rfl,⟨rfl,o,ho⟩,q⟩:=h
 refine ⟨_,(aC (bA (VW.pt (mL (dC (cQ (aL gO (by rfl) T.bG bC (aB (vv 0) (aB (cW (v:=.ty "tuple") (by rfl) T.bV bL rfl) aA))))) (jE (aM op_ne (aL call_len_seq (by rfl) T.cZ cA (aB (vv 0) aA)) aD (nomark _))))) (aF (aG iG)) aP) (aC (bA (cQ (aH (cD.mono (by decide)) hr (by rfl) (aB (aJ ix_tup (vv 0) aD (fun _ _=>rfl)) (aB (bY (aB aO aA)) aA)))) (aF (aG (aH (aHa.mono (by decide)) hr (by rfl) (aB (aJ ix_tup (vv 0) aD (fun _ _=>rfl)) aA)))) aP) (aF (aG (lU (aH (cD.mono (by decide)) hr (by rfl) (aB (aJ ix_tup (vv 0) aD (fun _ _=>rfl)) (aB (bY (aB aO aA)) aA))) (mF (aH (bZ.mono (by decide)) hr (by rfl) (aB (aJ ix_tup (vv 0) aD (fun _ _=>rfl)) aA)))))))),?_⟩
 cases o with
 |val x=>
  obtain ⟨a,rfl,ha,hx,hv⟩:=ho
  refine ⟨_,rfl,_,_,rfl,.tup ha,_,rfl,iteF ?_⟩
  refine ⟨_,rfl,_,_,rfl,.inr ha,rfl,_,rfl,iteF ?_⟩
  refine ⟨_,rfl,a,_,0,_,rfl,rfl,ha,at0 _ _,(by show 1≤sizeLine;decide),fun p1 H1 _ s1 g1=>⟨_,p1,_,rfl,jU (by decide +kernel),SqT.of g1,rfl,_,rfl,iteT ?_⟩⟩
  refine ⟨_,rfl,a,_,1,_,rfl,rfl,s1.aN ha,at1 _ _ _,x,rfl,hx.same s1,fun H2 s2=>?_⟩
  rw [hv]
  exact q H2 (s1.trans s2)
 |col d=>
  obtain ⟨a,rfl,ha,hd⟩:=ho
  refine ⟨_,rfl,_,_,rfl,.tup ha,_,rfl,iteF ?_⟩
  refine ⟨_,rfl,_,_,rfl,.inr ha,rfl,_,rfl,iteF ?_⟩
  refine ⟨_,rfl,a,_,0,_,rfl,rfl,ha,at0 _ _,(by show 1≤sizeLine;decide),fun p1 H1 _ s1 g1=>⟨_,p1,_,rfl,jU (by decide +kernel),SqT.of g1,rfl,_,rfl,iteF ?_⟩⟩
  refine ⟨_,rfl,a,_,0,_,rfl,rfl,s1.aN ha,at0 _ _,(by show 1≤sizeLine;decide),fun p2 H2 _ s2 g2=>⟨_,p2,_,rfl,jU (by decide +kernel),SqT.of g2,rfl,_,rfl,iteT ?_⟩⟩
  refine ⟨_,rfl,a,_,1,_,rfl,rfl,s2.aN (s1.aN ha),at1 _ _ _,_,rfl,hd.th,fun H3 s3=>?_⟩
  rw [show nameB (.str d)=true from hd]
  exact q H3 (s1.trans (s2.trans s3))
theorem aPk {x:Str} (h:aQ7 x):(isS (.str x) && inV (.str x) signs)=true∧x.length≤8:=by
 rcases h with rfl|rfl|rfl|rfl <;> exact ⟨by decide +kernel,by decide +kernel⟩
theorem aGv (T:Txt w K mg) (cD:Ok P w K mg base 1 "is_one_of" ["thing","texts"] (tG K)) (bZ:Ok P w K mg base 2 "is_name" ["thing"] (xQ K nameB)) (aG3:Ok P w K mg base 3 "is_other" ["thing"] (eN (dO K IsO))) :
  Ok P w K mg base 4 "is_test" ["thing"] (eN (dO K IsT)):=by
 refine Ok.ofV T.aLa aHc (fun vs H Q E h=>?_) (fun f cdv A outer s H vs Q E hr h=>?_)
 ·obtain ⟨v,b,rfl,_⟩:=h;rfl
 obtain ⟨v,b,rfl,⟨rfl,t,a,o,rfl,ha,hc,hs,ho⟩,q⟩:=h
 obtain ⟨ka,mk,hka⟩:=T.aBa
 have aBa:∃u,mg "SIGNS"=some u∧RelV (.ref ka) u:=⟨_,mk,rfl⟩
 refine ⟨_,(aC (bA (VW.pt (mL (dC (cQ (aL gO (by rfl) T.bG bC (aB (vv 0) (aB (cW (v:=.ty "tuple") (by rfl) T.bV bL rfl) aA))))) (jE (aM op_ne (aL call_len_seq (by rfl) T.cZ cA (aB (vv 0) aA)) aD (nomark _))))) (aF (aG iG)) aP) (aF (aG (lU (aH (bZ.mono (by decide)) hr (by rfl) (aB (aJ ix_tup (vv 0) aD (fun _ _=>rfl)) aA)) (lU (aH (cD.mono (by decide)) hr (by rfl) (aB (aJ ix_tup (vv 0) aD (fun _ _=>rfl)) (aB (dF (by rfl) aBa) aA))) (mF (aH (aG3.mono (by decide)) hr (by rfl) (aB (aJ ix_tup (vv 0) aD (fun _ _=>rfl)) aA)))))))),?_⟩
 refine ⟨_,rfl,_,_,rfl,.tup ha,_,rfl,iteF ?_⟩
 refine ⟨_,rfl,_,_,rfl,.inr ha,rfl,_,rfl,iteF ?_⟩
 refine ⟨_,rfl,a,_,0,_,rfl,rfl,ha,at0 _ _,_,rfl,hc.th,fun H1 s1=>⟨_,rfl,?_⟩⟩
 rw [show nameB (.str t.c)=true from hc]
 refine iteT ⟨_,rfl,a,_,1,_,rfl,rfl,s1.aN ha,at1 _ _ _,_,ka,signs,rfl,jU (aPk hs).2,hka _,rfl,_,rfl,?_⟩
 rw [(aPk hs).1]
 refine iteT ⟨_,rfl,a,_,2,_,rfl,rfl,s1.aN ha,at2 _ _ _ _,o,true,rfl,⟨rfl,_,ho.same s1⟩,fun H2 s2=>q H2 (s1.trans s2)⟩
theorem aGi (T:Txt w K mg) (bZ:Ok P w K mg base 2 "is_name" ["thing"] (eN (dO K dY))) (bF:Ok P w K mg base 3 "is_tuple_of" ["thing","least","most","is_part"] (iD P w K mg base 2)) :
  Ok P w K mg base 4 "is_pair" ["thing"] (eN (dO K sU)):=by
 refine Ok.ofV T.aKg aGq (fun vs H Q E h=>?_) (fun f cdv A outer s H vs Q E hr h=>?_)
 ·obtain ⟨v,b,rfl,_⟩:=h;rfl
 obtain ⟨v,b,rfl,⟨rfl,p,a,rfl,ha,h1,h2⟩,q⟩:=h
 obtain ⟨fa,mf,hf⟩:=bZ.held
 have iV:∃u,mg "is_name"=some u∧RelV (.ref fa) u:=⟨_,mf,rfl⟩
 refine ⟨_,(aF (aG (aH (bF.mono (by decide)) hr (by rfl) (aB (vv 0) (aB aD (aB aD (aB (dF (by rfl) iV) aA))))))),?_⟩
 exact ⟨_,rfl,_,2,2,fa,_,_,_,rfl,by decide,hf,gQ (S:=dY) (fun _ h=>h),tupof (S:=dY) (xs:=[p.1,p.2]) ⟨a,_,rfl,ha,.cons ⟨rfl,h1⟩ (.cons ⟨rfl,h2⟩ .nil)⟩ (Nat.le_refl _) (Nat.le_refl _),fun H1 s1=>q H1 s1⟩
theorem aKt (T:Txt w K mg) (cD:Ok P w K mg base 1 "is_one_of" ["thing","texts"] (tG K)) (bZ:Ok P w K mg base 2 "is_name" ["thing"] (xQ K nameB)):Ok P w K mg base 3 "is_key" ["thing"] (eN (dO K rE)):=by
 refine Ok.ofV T.aNj aK1 (fun vs H Q E h=>?_) (fun f cdv A outer s H vs Q E hr h=>?_)
 ·obtain ⟨v,b,rfl,_⟩:=h;rfl
 obtain ⟨v,b,rfl,⟨rfl,⟨c,wy⟩,a,rfl,ha,hc,hw⟩,q⟩:=h
 obtain ⟨ka,mk,hka⟩:=T.aGu
 have aGu:∃u,mg "WAYS"=some u∧RelV (.ref ka) u:=⟨_,mk,rfl⟩
 refine ⟨_,(aC (bA (VW.pt (mL (dC (cQ (aL gO (by rfl) T.bG bC (aB (vv 0) (aB (cW (v:=.ty "tuple") (by rfl) T.bV bL rfl) aA))))) (jE (aM op_ne (aL call_len_seq (by rfl) T.cZ cA (aB (vv 0) aA)) aD (nomark _))))) (aF (aG iG)) aP) (aF (aG (lU (aH (bZ.mono (by decide)) hr (by rfl) (aB (aJ ix_tup (vv 0) aD (fun _ _=>rfl)) aA)) (mF (aH (cD.mono (by decide)) hr (by rfl) (aB (aJ ix_tup (vv 0) aD (fun _ _=>rfl)) (aB (dF (by rfl) aGu) aA)))))))),?_⟩
 refine ⟨_,rfl,_,_,rfl,.tup ha,_,rfl,iteF ?_⟩
 refine ⟨_,rfl,_,_,rfl,.inr ha,rfl,_,rfl,iteF ?_⟩
 refine ⟨_,rfl,a,_,0,_,rfl,rfl,ha,at0 _ _,_,rfl,hc.th,fun H1 s1=>⟨_,rfl,?_⟩⟩
 rw [show nameB (.str c)=true from hc]
 have e:(isS (.str wy) && inV (.str wy) aMd)=true∧wy.length≤8:=by
  rcases hw with e|e <;> (have e:wy=_:=e;subst e;exact ⟨by decide +kernel,by decide +kernel⟩)
 refine iteT ⟨_,rfl,a,_,1,_,rfl,rfl,s1.aN ha,at1 _ _ _,_,ka,aMd,rfl,jU e.2,hka _,rfl,?_⟩
 show Q (.bl (isS (.str wy) && inV (.str wy) aMd)) H1
 rw [e.1]
 exact q H1 s1
theorem aJv (T:Txt w K mg) (cD:Ok P w K mg base 1 "is_one_of" ["thing","texts"] (tG K)) (bZ:Ok P w K mg base 2 "is_name" ["thing"] (xQ K nameB)):Ok P w K mg base 3 "is_sum" ["thing"] (eN (dO K fK)):=by
 refine Ok.ofV T.aLe aJl (fun vs H Q E h=>?_) (fun f cdv A outer s H vs Q E hr h=>?_)
 ·obtain ⟨v,b,rfl,_⟩:=h;rfl
 obtain ⟨v,b,rfl,⟨rfl,⟨wd,oc,new⟩,a,rfl,hn,hs⟩,q⟩:=h
 obtain ⟨ka,mk,hka⟩:=T.mV
 have mV:∃u,mg "SUM_WORDS"=some u∧RelV (.ref ka) u:=⟨_,mk,rfl⟩
 refine ⟨_,(aC (bA (VW.pt (mL (dC (cQ (aL gO (by rfl) T.bG bC (aB (vv 0) (aB (cW (v:=.ty "tuple") (by rfl) T.bV bL rfl) aA))))) (jE (aM op_ne (aL call_len_seq (by rfl) T.cZ cA (aB (vv 0) aA)) aD (nomark _))))) (aF (aG iG)) aP) (aC (bA (VW.pt (mL (dC (cQ (aH (cD.mono (by decide)) hr (by rfl) (aB (aJ ix_tup (vv 0) aD (fun _ _=>rfl)) (aB (dF (by rfl) mV) aA))))) (jE (dC (cQ (aH (bZ.mono (by decide)) hr (by rfl) (aB (aJ ix_tup (vv 0) aD (fun _ _=>rfl)) aA))))))) (aF (aG iG)) aP) (aF (aG (eE (aM op_eq (aJ ix_tup (vv 0) aD (fun _ _=>rfl)) aO (nomark _)) (dD op_isN (aJ ix_tup (vv 0) aD (fun _ _=>rfl)) aBy (nomark _)) (aH (bZ.mono (by decide)) hr (by rfl) (aB (aJ ix_tup (vv 0) aD (fun _ _=>rfl)) aA))))))),?_⟩
 have hn':nameB (.str new)=true:=hn
 rcases hs with ⟨e,_,ha⟩|⟨c,e,hc,hw,ha⟩
 ·refine ⟨_,rfl,_,_,rfl,.tup ha,_,rfl,iteF ?_⟩
  refine ⟨_,rfl,_,_,rfl,.inr ha,rfl,_,rfl,iteF ?_⟩
  refine ⟨_,rfl,a,_,0,_,rfl,rfl,ha,at0 _ _,_,ka,wR,rfl,jU (by decide +kernel),hka _,rfl,_,rfl,iteF ?_⟩
  refine ⟨_,rfl,a,_,2,_,rfl,rfl,ha,at2 _ _ _ _,_,rfl,hn.th,fun H1 s1=>⟨_,rfl,?_⟩⟩
  rw [hn']
  refine iteF ⟨_,rfl,a,_,0,_,rfl,rfl,s1.aN ha,at0 _ _,rfl,_,rfl,iteT ?_⟩
  exact ⟨_,rfl,a,_,1,_,rfl,rfl,s1.aN ha,at1 _ _ _,rfl,q H1 s1⟩
 ·have ew:(isS (.str wd) && inV (.str wd) wR)=true∧wd.length≤8∧decide (V.str wd=V.str "count")=false:=by
   rcases hw with e|e|e <;> (have e:wd=_:=e;subst e;exact ⟨by decide +kernel,by decide +kernel,by decide +kernel⟩)
  refine ⟨_,rfl,_,_,rfl,.tup ha,_,rfl,iteF ?_⟩
  refine ⟨_,rfl,_,_,rfl,.inr ha,rfl,_,rfl,iteF ?_⟩
  refine ⟨_,rfl,a,_,0,_,rfl,rfl,ha,at0 _ _,_,ka,wR,rfl,jU ew.2.1,hka _,rfl,_,rfl,?_⟩
  rw [ew.1]
  refine iteF ⟨_,rfl,a,_,2,_,rfl,rfl,ha,at2 _ _ _ _,_,rfl,hn.th,fun H1 s1=>⟨_,rfl,?_⟩⟩
  rw [hn']
  refine iteF ⟨_,rfl,a,_,0,_,rfl,rfl,s1.aN ha,at0 _ _,rfl,_,rfl,?_⟩
  rw [ew.2.2]
  refine iteF ⟨_,rfl,a,_,1,_,rfl,rfl,s1.aN ha,at1 _ _ _,_,rfl,hc.th,fun H2 s2=>?_⟩
  rw [show nameB (.str c)=true from hc]
  exact q H2 (s1.trans s2)
def aPy (_:PySem.W.Frag) (_:Hp) (v:V) (n:Nat):Prop:=v=.int n∧n≤60
theorem aH4 (T:Txt w K mg) (iW:Ok P w K mg base 1 "is_whole" ["thing"] (rB K)):Ok P w K mg base 2 "is_many" ["thing"] (eN (dO K aPy)):=by
 refine Ok.ofV T.aJj aGg (fun vs H Q E h=>?_) (fun f cdv A outer s H vs Q E hr h=>?_)
 ·obtain ⟨v,b,rfl,_⟩:=h;rfl
 obtain ⟨v,b,rfl,⟨rfl,n,rfl,hn⟩,q⟩:=h
 refine ⟨_,(aF (aG (lU (aH (iW.mono (by decide)) hr (by rfl) (aB (vv 0) aA)) (mF (aLf op_le op_le aD (vv 0) (dF (by rfl) T.aFt)))))),?_⟩
 refine ⟨_,rfl,_,rfl,.inr (.inl ⟨_,rfl⟩),_,rfl,iteT ?_⟩
 refine ⟨_,rfl,_,_,rfl,rfl,_,rfl,?_⟩
 have e1:decide ((0:Int)≤(n:Int))=true:=decide_eq_true (by omega)
 have e2:decide ((n:Int)≤60)=true:=decide_eq_true (by omega)
 rw [e1]
 refine iteT ⟨_,_,rfl,rfl,?_⟩
 show Q (.bl (decide ((n:Int)≤60))) H
 rw [e2]
 exact q H (Same.refl H)
theorem pU (T:Txt w K mg):Ok P w K mg base 1 "may_be_question" ["thing"] (fun vs H Q _=>∃v,vs=[v]∧Q (.bl true) H):=by
 refine Ok.ofV T.rP pI (fun vs H Q E h=>?_) (fun f cdv A outer s H vs Q E hr h=>?_)
 ·obtain ⟨v,rfl,_⟩:=h;rfl
 obtain ⟨v,rfl,q⟩:=h
 exact ⟨_,(aF (aG iG)),q⟩
theorem aRa {k:Nat} {x:Str} {ps:List Str} {sp sp':Sp} (G:Ok P w K mg base k x ps sp) (h:∀vs H Q E,sp' vs H Q E→sp vs H Q E):Ok P w K mg base k x ps sp':=
 let ⟨f,fd,h1,h2,h3,h4⟩:=G;⟨f,fd,h1,h2,h3,h4.imp h⟩
theorem aM4 (G:Ok P w K mg base 2 "is_name" ["thing"] (xQ K nameB)):Ok P w K mg base 2 "is_name" ["thing"] (eN (dO K dY)):=
 aRa G fun vs H Q E h=>by
  obtain ⟨v,b,rfl,⟨rfl,x,rfl,hx⟩,q⟩:=h
  exact ⟨_,rfl,Nm.th hx,fun H' s'=>by rw [show nameB (.str x)=true from hx];exact q H' s'⟩
theorem aBu (T:Txt w K mg) (aJ0:Ok P w K mg base 4 "is_test" ["thing"] (eN (dO K IsT))) (bF:Ok P w K mg base 5 "is_tuple_of" ["thing","least","most","is_part"] (iD P w K mg base 4)) :
  Ok P w K mg base 6 "are_tests" ["thing"] (eN (dO K (gJ IsT 1 3))):=by
 refine Ok.ofV T.aDw aBk (fun vs H Q E h=>?_) (fun f cdv A outer s H vs Q E hr h=>?_)
 ·obtain ⟨v,b,rfl,_⟩:=h;rfl
 obtain ⟨v,b,rfl,⟨rfl,xs,hx,l1,l2⟩,q⟩:=h
 obtain ⟨fa,mf,hf⟩:=aJ0.held
 have aAe:∃u,mg "is_test"=some u∧RelV (.ref fa) u:=⟨_,mf,rfl⟩
 refine ⟨_,(aF (aG (aH (bF.mono (by decide)) hr (by rfl) (aB (vv 0) (aB aD (aB (dF (by rfl) T.aCb) (aB (dF (by rfl) aAe) aA))))))),?_⟩
 exact ⟨_,rfl,_,1,3,fa,_,_,_,rfl,by decide,hf,gQ (S:=IsT) (fun e h=>h.same e),tupof (S:=IsT) hx l1 l2,fun H1 s1=>q H1 s1⟩
theorem aBi (T:Txt w K mg) (bZ:Ok P w K mg base 2 "is_name" ["thing"] (eN (dO K dY))) (bF:Ok P w K mg base 3 "is_tuple_of" ["thing","least","most","is_part"] (iD P w K mg base 2)) :
  Ok P w K mg base 4 "are_names" ["thing"] (eN (dO K (gJ dY 1 8))):=by
 refine Ok.ofV T.aEt aBv (fun vs H Q E h=>?_) (fun f cdv A outer s H vs Q E hr h=>?_)
 ·obtain ⟨v,b,rfl,_⟩:=h;rfl
 obtain ⟨v,b,rfl,⟨rfl,xs,hx,l1,l2⟩,q⟩:=h
 obtain ⟨fa,mf,hf⟩:=bZ.held
 have iV:∃u,mg "is_name"=some u∧RelV (.ref fa) u:=⟨_,mf,rfl⟩
 refine ⟨_,(aF (aG (aH (bF.mono (by decide)) hr (by rfl) (aB (vv 0) (aB aD (aB (dF (by rfl) T.qN) (aB (dF (by rfl) iV) aA))))))),?_⟩
 exact ⟨_,rfl,_,1,8,fa,_,_,_,rfl,by decide,hf,gQ (S:=dY) (fun e h=>h),tupof (S:=dY) hx l1 l2,fun H1 s1=>q H1 s1⟩
theorem qC (T:Txt w K mg) (bZ:Ok P w K mg base 2 "is_name" ["thing"] (eN (dO K dY))) (bF:Ok P w K mg base 3 "is_tuple_of" ["thing","least","most","is_part"] (iD P w K mg base 2)) :
  Ok P w K mg base 4 "are_group_names" ["thing"] (eN (dO K (gJ dY 0 8))):=by
 refine Ok.ofV T.sH pH (fun vs H Q E h=>?_) (fun f cdv A outer s H vs Q E hr h=>?_)
 ·obtain ⟨v,b,rfl,_⟩:=h;rfl
 obtain ⟨v,b,rfl,⟨rfl,xs,hx,l1,l2⟩,q⟩:=h
 obtain ⟨fa,mf,hf⟩:=bZ.held
 have iV:∃u,mg "is_name"=some u∧RelV (.ref fa) u:=⟨_,mf,rfl⟩
 refine ⟨_,(aF (aG (aH (bF.mono (by decide)) hr (by rfl) (aB (vv 0) (aB aD (aB (dF (by rfl) T.qN) (aB (dF (by rfl) iV) aA))))))),?_⟩
 exact ⟨_,rfl,_,0,8,fa,_,_,_,rfl,by decide,hf,gQ (S:=dY) (fun e h=>h),tupof (S:=dY) hx l1 l2,fun H1 s1=>q H1 s1⟩
theorem aCi (T:Txt w K mg) (aK4:Ok P w K mg base 4 "is_pair" ["thing"] (eN (dO K sU))) (bF:Ok P w K mg base 5 "is_tuple_of" ["thing","least","most","is_part"] (iD P w K mg base 4)) :
  Ok P w K mg base 6 "are_pairs" ["thing"] (eN (dO K (gJ sU 1 3))):=by
 refine Ok.ofV T.aFr aB9 (fun vs H Q E h=>?_) (fun f cdv A outer s H vs Q E hr h=>?_)
 ·obtain ⟨v,b,rfl,_⟩:=h;rfl
 obtain ⟨v,b,rfl,⟨rfl,xs,hx,l1,l2⟩,q⟩:=h
 obtain ⟨fa,mf,hf⟩:=aK4.held
 have zU:∃u,mg "is_pair"=some u∧RelV (.ref fa) u:=⟨_,mf,rfl⟩
 refine ⟨_,(aF (aG (aH (bF.mono (by decide)) hr (by rfl) (aB (vv 0) (aB aD (aB (dF (by rfl) T.aAw) (aB (dF (by rfl) zU) aA))))))),?_⟩
 exact ⟨_,rfl,_,1,3,fa,_,_,_,rfl,by decide,hf,gQ (S:=sU) (fun e h=>h.same e),tupof (S:=sU) hx l1 l2,fun H1 s1=>q H1 s1⟩
theorem aEm (T:Txt w K mg) (aMr:Ok P w K mg base 3 "is_sum" ["thing"] (eN (dO K fK))) (bF:Ok P w K mg base 4 "is_tuple_of" ["thing","least","most","is_part"] (iD P w K mg base 3)) :
  Ok P w K mg base 5 "are_sums" ["thing"] (eN (dO K (gJ fK 0 4))):=by
 refine Ok.ofV T.aH9 aD3 (fun vs H Q E h=>?_) (fun f cdv A outer s H vs Q E hr h=>?_)
 ·obtain ⟨v,b,rfl,_⟩:=h;rfl
 obtain ⟨v,b,rfl,⟨rfl,xs,hx,l1,l2⟩,q⟩:=h
 obtain ⟨fa,mf,hf⟩:=aMr.held
 have aD5:∃u,mg "is_sum"=some u∧RelV (.ref fa) u:=⟨_,mf,rfl⟩
 refine ⟨_,(aF (aG (aH (bF.mono (by decide)) hr (by rfl) (aB (vv 0) (aB aD (aB (dF (by rfl) T.aFg) (aB (dF (by rfl) aD5) aA))))))),?_⟩
 exact ⟨_,rfl,_,0,4,fa,_,_,_,rfl,by decide,hf,gQ (S:=fK) (fun e h=>h.same e),tupof (S:=fK) hx l1 l2,fun H1 s1=>q H1 s1⟩
theorem aEk (T:Txt w K mg) (aLu:Ok P w K mg base 3 "is_key" ["thing"] (eN (dO K rE))) (bF:Ok P w K mg base 4 "is_tuple_of" ["thing","least","most","is_part"] (iD P w K mg base 3)) :
  Ok P w K mg base 5 "are_keys" ["thing"] (eN (dO K (gJ rE 0 3))):=by
 refine Ok.ofV T.aGt aF1 (fun vs H Q E h=>?_) (fun f cdv A outer s H vs Q E hr h=>?_)
 ·obtain ⟨v,b,rfl,_⟩:=h;rfl
 obtain ⟨v,b,rfl,⟨rfl,xs,hx,l1,l2⟩,q⟩:=h
 obtain ⟨fa,mf,hf⟩:=aLu.held
 have aE0:∃u,mg "is_key"=some u∧RelV (.ref fa) u:=⟨_,mf,rfl⟩
 refine ⟨_,(aF (aG (aH (bF.mono (by decide)) hr (by rfl) (aB (vv 0) (aB aD (aB (dF (by rfl) T.aFh) (aB (dF (by rfl) aE0) aA))))))),?_⟩
 exact ⟨_,rfl,_,0,3,fa,_,_,_,rfl,by decide,hf,gQ (S:=rE) (fun e h=>h.same e),tupof (S:=rE) hx l1 l2,fun H1 s1=>q H1 s1⟩
inductive Qn where
 |table (T:Str)
 |whr (q:Qn) (ts:List Tst)
 |keep (q:Qn) (ns:List Str)
 |nmd (q:Qn) (ns:List Str)
 |join (q r:Qn) (ps:List (Str × Str))
 |group (q:Qn) (ns:List Str) (ss:List Sm)
 |first (q:Qn) (ks:List (Str × Str)) (m:Nat)
inductive IsQ (K:PySem.W.Frag) (H:Hp):V→Qn→Prop
 |table {a T}:SqT K H a [.str "table",.str T]→Nm T→IsQ K H (.ref a) (.table T)
 |whr {a v q w ts}:SqT K H a [.str "where",v,w]→IsQ K H v q→gJ IsT 1 3 K H w ts→IsQ K H (.ref a) (.whr q ts)
 |keep {a v q w ns}:SqT K H a [.str "keep",v,w]→IsQ K H v q→gJ dY 1 8 K H w ns→IsQ K H (.ref a) (.keep q ns)
 |nmd {a v q w ns}:SqT K H a [.str "named",v,w]→IsQ K H v q→gJ dY 1 8 K H w ns→IsQ K H (.ref a) (.nmd q ns)
 |join {a v q u r w ps}:SqT K H a [.str "join",v,u,w]→IsQ K H v q→IsQ K H u r→gJ sU 1 3 K H w ps→IsQ K H (.ref a) (.join q r ps)
 |group {a v q w ns u ss}:SqT K H a [.str "group",v,w,u]→IsQ K H v q→gJ dY 0 8 K H w ns→gJ fK 0 4 K H u ss→IsQ K H (.ref a) (.group q ns ss)
 |first {a v q w ks m}:SqT K H a [.str "first",v,w,.int (m:Nat)]→IsQ K H v q→gJ rE 0 3 K H w ks→m≤60→IsQ K H (.ref a) (.first q ks m)
theorem gJ.same {α:Type} {S:PySem.W.Frag→Hp→V→α→Prop} {lo hi:Nat} {K:PySem.W.Frag} {H H':Hp} {v:V} {xs:List α} (e:Same H H') (k:∀{v t},S K H v t→S K H' v t) (h:gJ S lo hi K H v xs):gJ S lo hi K H' v xs:=
 ⟨h.1.same e fun _ _=>k,h.2⟩
theorem IsQ.same {K:PySem.W.Frag} {H H':Hp} {v:V} {q:Qn} (e:Same H H') (h:IsQ K H v q):IsQ K H' v q:=by
 induction h with
 |table a b=>exact .table (e.aN a) b
 |whr a _ c ih=>exact .whr (e.aN a) ih (c.same e fun h=>h.same e)
 |keep a _ c ih=>exact .keep (e.aN a) ih (c.same e fun h=>h)
 |nmd a _ c ih=>exact .nmd (e.aN a) ih (c.same e fun h=>h)
 |join a _ _ c ih1 ih2=>exact .join (e.aN a) ih1 ih2 (c.same e fun h=>h.same e)
 |group a _ c d ih=>exact .group (e.aN a) ih (c.same e fun h=>h) (d.same e fun h=>h.same e)
 |first a _ c d ih=>exact .first (e.aN a) ih (c.same e fun h=>h.same e) d
def Part (P:Program) (w:World) (K:PySem.W.Frag) (mg:Str→Option Value) (base:Heap) (H:Hp) (f x:V):Prop:=∃fa ps sp,f=.ref fa∧Held P w K mg base 6 fa ps sp∧∀H' Q,Same H H'→(∀H2,Same H' H2→Q (.bl true) H2)→sp [x] H' Q E0
theorem gB {k:Nat} {x:Str} {ps:List Str} {α:Type} {S:PySem.W.Frag→Hp→V→α→Prop} {f:Addr} {H:Hp} {v:V} {t:α} (G:Ok P w K mg base k x ps (eN (dO K S))) (hk:k≤6) (m:mg x=some (.ref f)) (st:∀{H H' v t},Same H H'→S K H v t→S K H' v t) (h:S K H v t):Part P w K mg base H (.ref f) v:=
 ⟨f,_,_,rfl,(G.aL3 m).mono hk,fun H' Q s' q=>⟨v,true,rfl,⟨rfl,t,st s' h⟩,q⟩⟩
abbrev forms:List Str:=["table","where","keep","named","join","group","first"]
def aRi (K:PySem.W.Frag):Sp:=fun vs H Q _=>∃v q,vs=[v]∧IsQ K H v q∧∀H',Same H H'→Q (.bl true) H'
theorem iZ {f:Addr} {H:Hp} {v:V} (G:Ok P w K mg base 1 "may_be_question" ["thing"] (fun vs H Q _=>∃v,vs=[v]∧Q (.bl true) H)) (m:mg "may_be_question"=some (.ref f)):Part P w K mg base H (.ref f) v:=
 ⟨f,_,_,rfl,(G.aL3 m).mono (by decide),fun H' Q s' q=>⟨v,rfl,q H' (Same.refl H')⟩⟩
structure Forms (P:Program) (w:World) (K:PySem.W.Frag) (mg:Str→Option Value) (base:Heap):Prop where
 name:Ok P w K mg base 2 "is_name" ["thing"] (eN (dO K dY))
 any:Ok P w K mg base 1 "may_be_question" ["thing"] (fun vs H Q _=>∃v,vs=[v]∧Q (.bl true) H)
 tests:Ok P w K mg base 6 "are_tests" ["thing"] (eN (dO K (gJ IsT 1 3)))
 names:Ok P w K mg base 4 "are_names" ["thing"] (eN (dO K (gJ dY 1 8)))
 gnames:Ok P w K mg base 4 "are_group_names" ["thing"] (eN (dO K (gJ dY 0 8)))
 pairs:Ok P w K mg base 6 "are_pairs" ["thing"] (eN (dO K (gJ sU 1 3)))
 sums:Ok P w K mg base 5 "are_sums" ["thing"] (eN (dO K (gJ fK 0 4)))
 keys:Ok P w K mg base 5 "are_keys" ["thing"] (eN (dO K (gJ rE 0 3)))
 many:Ok P w K mg base 2 "is_many" ["thing"] (eN (dO K aPy))
theorem aO4 (T:Txt w K mg) (F:Forms P w K mg base):∃d kvs,mg "FORMS"=some (.ref d)∧aOs w K d kvs∧kvs.length≤1000∧(kvs.map fun q=>V.str q.1).all flatV=true ∧
  ∀H v q,IsQ K H v q→∃a k xs t fs,v=.ref a∧SqT K H a (.str k::xs)∧k.length≤8∧inV (.str k) (kvs.map fun q=>V.str q.1)=true∧(kvs.find? fun z=>decide (z.1=k)).map (·.2)=some t∧(∀H,SqT K H t fs)∧fs.length≤8∧aZ (Part P w K mg base H) fs xs:=by
 obtain ⟨d,t0,t1,t2,t3,t4,t5,t6,md,hd,⟨f00,h0,m00⟩,⟨f10,f11,h1,m10,m11⟩,⟨f20,f21,h2,m20,m21⟩,⟨f30,f31,h3,m30,m31⟩,⟨f40,f41,f42,h4,m40,m41,m42⟩,⟨f50,f51,f52,h5,m50,m51,m52⟩,⟨f60,f61,f62,h6,m60,m61,m62⟩⟩:=T.vW
 refine ⟨d,_,md,hd,(by show 7≤1000;decide),rfl,fun H v q hq=>?_⟩
 cases hq with
 |table a b=>exact ⟨_,_,_,t0,_,rfl,a,by decide +kernel,(by show inV (.str "table") (forms.map V.str)=true;decide +kernel),rfl,h0,(by show 1≤8;decide),.cons (gB F.name (by decide) m00 (fun _ h=>h) ⟨rfl,b⟩) .nil⟩
 |whr a _ c=>exact ⟨_,_,_,t1,_,rfl,a,by decide +kernel,(by show inV (.str "where") (forms.map V.str)=true;decide +kernel),rfl,h1,(by show 2≤8;decide),.cons (iZ F.any m10) (.cons (gB F.tests (by decide) m11 (fun e h=>h.same e fun q=>q.same e) c) .nil)⟩
 |keep a _ c=>exact ⟨_,_,_,t2,_,rfl,a,by decide +kernel,(by show inV (.str "keep") (forms.map V.str)=true;decide +kernel),rfl,h2,(by show 2≤8;decide),.cons (iZ F.any m20) (.cons (gB F.names (by decide) m21 (fun e h=>h.same e fun q=>q) c) .nil)⟩
 |nmd a _ c=>exact ⟨_,_,_,t3,_,rfl,a,by decide +kernel,(by show inV (.str "named") (forms.map V.str)=true;decide +kernel),rfl,h3,(by show 2≤8;decide),.cons (iZ F.any m30) (.cons (gB F.names (by decide) m31 (fun e h=>h.same e fun q=>q) c) .nil)⟩
 |join a _ _ c=>exact ⟨_,_,_,t4,_,rfl,a,by decide +kernel,(by show inV (.str "join") (forms.map V.str)=true;decide +kernel),rfl,h4,(by show 3≤8;decide),.cons (iZ F.any m40) (.cons (iZ F.any m41) (.cons (gB F.pairs (by decide) m42 (fun e h=>h.same e fun q=>q.same e) c) .nil))⟩
 |group a _ c e=>exact ⟨_,_,_,t5,_,rfl,a,by decide +kernel,(by show inV (.str "group") (forms.map V.str)=true;decide +kernel),rfl,h5,(by show 3≤8;decide),.cons (iZ F.any m50) (.cons (gB F.gnames (by decide) m51 (fun e h=>h.same e fun q=>q) c) (.cons (gB F.sums (by decide) m52 (fun e h=>h.same e fun q=>q.same e) e) .nil))⟩
 |first a _ c e=>exact ⟨_,_,_,t6,_,rfl,a,by decide +kernel,(by show inV (.str "first") (forms.map V.str)=true;decide +kernel),rfl,h6,(by show 3≤8;decide),.cons (iZ F.any m60) (.cons (gB F.keys (by decide) m61 (fun e h=>h.same e fun q=>q.same e) c) (.cons (gB F.many (by decide) m62 (fun _ h=>h) ⟨rfl,e⟩) .nil))⟩
theorem cI {α β:Type} {R:α→β→Prop}:∀{as:List α} {bs:List β},aZ R as bs→∀{i:Nat} {a:α} {b:β},as[i]?=some a→bs[i]?=some b→R a b
 |_,_,.cons r t,0,_,_,h1,h2=>by cases h1;cases h2;exact r
 |_,_,.cons r t,i+1,a,b,h1,h2=>cI t (i:=i) (by simpa using h1) (by simpa using h2)
theorem aO6 {xs ys:List V}:(List.zipWith (fun _ _:V=>V.bl true) xs ys)=(List.zipWith (fun _ _:V=>true) xs ys).map V.bl:=by
 rw [List.map_zipWith]
theorem aMp:∀(xs ys:List V),((List.zipWith (fun _ _:V=>true) xs ys).all id)=true
 |[],_=>by simp
 |_::_,[]=>by simp
 |x::xs,y::ys=>by rw [List.zipWith_cons_cons,List.all_cons,aMp xs ys];rfl
theorem aSi (x:V) (xs:List V):cutV (x::xs) (some 1) none=xs:=by
 unfold cutV
 have e:HT.sIx (x::xs).length 0 (some 1)=1:=by
  rw [show (1:Int)=((1:Nat):Int) from rfl,HT.sIx_nat,List.length_cons]
  omega
 rw [e,HT.sIx_none,List.length_cons]
 simp
theorem nw1 (x:V) (xs:List V):¬ (HT.sIx (x::xs).length 0 (some 1)=0∧HT.sIx (x::xs).length (x::xs).length none=(x::xs).length):=by
 rw [show (1:Int)=((1:Nat):Int) from rfl,HT.sIx_nat,List.length_cons]
 omega
theorem aEp (T:Txt w K mg) (F:Forms P w K mg base) (cD:Ok P w K mg base 1 "is_one_of" ["thing","texts"] (tG K)):Ok P w K mg base 7 "has_form" ["thing"] (aRi K):=by
 refine Ok.ofV T.aHl uX (fun vs H Q E h=>?_) (fun f cdv A outer s H vs Q E hr h=>?_)
 ·obtain ⟨v,q,rfl,_⟩:=h;rfl
 obtain ⟨v,q0,rfl,hq,q⟩:=h
 obtain ⟨d,kvs,md,hd,hl,hfl,hat⟩:=aO4 T F
 have vW:∃u,mg "FORMS"=some u∧RelV (.ref d) u:=⟨_,md,rfl⟩
 obtain ⟨a,k,xs,t,fs,rfl,ha,hk8,hin,hf,ht,hf8,hp⟩:=hat H v q0 hq
 have hlen:=hp.len
 refine ⟨_,(aC (bA (VW.pt (mL (dC (cQ (aL gO (by rfl) T.bG bC (aB (vv 0) (aB (cW (v:=.ty "tuple") (by rfl) T.bV bL rfl) aA))))) (mL (aM op_eq (aL call_len_seq (by rfl) T.cZ cA (aB (vv 0) aA)) aD (nomark _)) (jE (dC (cQ (aH (cD.mono (by decide)) hr (by rfl) (aB (aJ ix_tup (vv 0) aD (fun _ _=>rfl)) (aB (bD (aKm rfl) (by rfl) T.bV bL (aB (dF (by rfl) vW) aA)) aA))))))))) (aF (aG iG)) aP) (aC (aR (i:=1) uX.nd rfl (by trivial) (aJ aOp (dF (by rfl) vW) (aJ ix_tup (vv 0) aD (fun _ _=>rfl)) (fun _ _=>rfl))) (aC (bA (aM op_ne (aL call_len_seq (by rfl) T.cZ cA (aB (vv 0) aA)) (bK op_add (aL call_len_seq (by rfl) T.cZ cA (aB (vv 1) aA)) aD) (nomark _)) (aF (aG iG)) aP) (aF (aG (aL (rA rfl) (by rfl) T.aIm aC0 (aB (bM (N:=["is_part","part"]) (by trivial) (dZ (by decide +kernel)) rfl (aBg (by rfl) T.aM3 (aB (vv 1) (aB (fJ aCx (vv 0) (fU aD) lC) aA))) (fun cl s' H' fp=>⟨(oH (K:=K) (n:=2) rfl (bB (aK (i:=0) (show (["is_part","part"]:List Str).Nodup from by decide +kernel) rfl (Or.inl rfl)) (bB (aK (i:=1) (show (["is_part","part"]:List Str).Nodup from by decide +kernel) rfl (Or.inl rfl)) dM))),bJ,(aEa (P:=P) (w:=w) (K:=K) (mg:=mg) (base:=base) hr (vv 0) (aB (vv 1) aA))⟩)) aA))))))),?_⟩
 refine ⟨_,rfl,_,_,rfl,.tup ha,_,rfl,iteF ?_⟩
 refine ⟨_,rfl,_,_,rfl,.inr ha,rfl,_,rfl,?_⟩
 have e0:decide (V.int (((V.str k::xs).length:Nat):Int)=V.int 0)=false:=decide_eq_false (by intro z;have:=V.int.inj z;rw [List.length_cons] at this;omega)
 rw [e0]
 refine iteF ⟨_,rfl,a,_,0,_,rfl,rfl,ha,at0 _ _,d,kvs,rfl,hd,hl,fun p1 H1 s1 g1=>⟨_,p1,_,rfl,jU hk8,SqT.of g1,hfl,_,rfl,?_⟩⟩
 have e1:(isS (.str k) && inV (.str k) (kvs.map fun q=>V.str q.1))=true:=by rw [hin];rfl
 rw [e1]
 refine iteF ⟨_,rfl,a,_,0,_,rfl,rfl,s1.aN ha,at0 _ _,d,kvs,k,t,rfl,rfl,hd,hf,?_⟩
 refine ⟨_,rfl,_,_,rfl,.inr (s1.aN ha),_,rfl,_,_,rfl,.inr (ht _),_,_,rfl,rfl,rfl,_,rfl,?_⟩
 have e2:(!decide (V.int (((V.str k::xs).length:Nat):Int)=V.int ((fs.length:Nat)+1:Int)))=false:=by rw [List.length_cons,hlen];simp
 rw [e2]
 refine iteF ?_
 dsimp only [tNext,tRet,tCB,tCons]
 refine aK7 fs xs (fun _ _=>.bl true) [none,none] oN (small (by omega)) hlen (fun R r=>⟨_,rfl,_,rfl,_,rfl,a,_,rfl,s1.aN ha,nw1 _ _,fun p2 H2 s2 g2=>?_⟩) (fun i fv x ef ex H' R l1 l2 sm r=>?_) rfl rfl fun D H' sm hD=>?_
 ·rw [aSi] at g2
  exact r t p2 H2 s2 (ht _) (SqT.of g2)
 ·obtain ⟨fa,ps,sp,rfl,hh,hc⟩:=cI hp ef ex
  exact ⟨_,rfl,fa,ps,sp,rfl,hh,_,rfl,hc H' R (s1.trans sm) fun H2 s2=>r H2 s2⟩
 ·refine ⟨D,List.zipWith (fun _ _=>true) fs xs,rfl,SqL.of (by rw [hD,aO6]),?_⟩
  rw [aMp]
  exact q H' (s1.trans sm)
def kids:Qn→List Qn
 |.table _=>[]
 |.whr q _=>[q]
 |.keep q _=>[q]
 |.nmd q _=>[q]
 |.join q r _=>[q,r]
 |.group q _ _=>[q]
 |.first q _ _=>[q]
def own:Qn→Nat
 |.whr _ ts=>ts.length
 |_=>1
def size:Qn→Nat
 |.table _=>1
 |.whr q ts=>size q+ts.length
 |.keep q _=>size q+1
 |.nmd q _=>size q+1
 |.join q r _=>size q+size r+1
 |.group q _ _=>size q+1
 |.first q _ _=>size q+1
def sizes (qs:List Qn):Nat:=(qs.map size).sum
theorem mY (q:Qn):size q=own q+sizes (kids q):=by
 cases q <;> simp [size,own,sizes,kids] <;> omega
theorem qP {K:PySem.W.Frag} {H:Hp} {v:V} {q:Qn} (h:IsQ K H v q):1≤own q:=by
 cases h with
 |whr _ _ c=>exact c.2.1
 |_=>exact Nat.le_refl _
def aJd (K:PySem.W.Frag):Sp:=fun vs H Q _=>∃v q H0,vs=[v]∧Same H0 H∧IsQ K H0 v q∧∀D H' us,H D=none→Same H H'→H' D=some (.lst us)→aZ (IsQ K H0) us (kids q)→Q (.ref D) H'
theorem mK (T:Txt w K mg):Ok P w K mg base 1 "questions_in" ["question"] (aJd K):=by
 refine Ok.ofV T.wN vL (fun vs H Q E h=>?_) (fun f cdv A outer s H vs Q E hr h=>?_)
 ·obtain ⟨v,q,H0,rfl,_⟩:=h;rfl
 obtain ⟨v,q0,H0,rfl,e,hq,q⟩:=h
 refine ⟨_,(aC (bA (aM op_eq (aJ ix_tup (vv 0) aD (fun _ _=>rfl)) aO (nomark _)) (aF (aG (cB aA))) aP) (aF (aG (eE (aM op_eq (aJ ix_tup (vv 0) aD (fun _ _=>rfl)) aO (nomark _)) (bD pK (by rfl) T.wA qW (aB (fJ aCx (vv 0) (fU aD) (fU aD)) aA)) (cB (aB (aJ ix_tup (vv 0) aD (fun _ _=>rfl)) aA)))))),?_⟩
 cases hq with
 |table a b=>exact ⟨_,rfl,_,_,0,_,rfl,rfl,(e.aN a),at0 _ _,rfl,_,rfl,iteT ⟨(by show 0≤sizeLine;decide),fun D H' f s' g=>q D H' _ f s' g .nil⟩⟩
 |whr a b c=>exact ⟨_,rfl,_,_,0,_,rfl,rfl,(e.aN a),at0 _ _,rfl,_,rfl,iteF ⟨_,rfl,_,_,0,_,rfl,rfl,(e.aN a),at0 _ _,rfl,_,rfl,iteF ⟨_,rfl,_,_,1,_,rfl,rfl,(e.aN a),at1 _ _ _,(by show 1≤sizeLine;decide),fun D H' f s' g=>q D H' _ f s' g (.cons b .nil)⟩⟩⟩
 |keep a b c=>exact ⟨_,rfl,_,_,0,_,rfl,rfl,(e.aN a),at0 _ _,rfl,_,rfl,iteF ⟨_,rfl,_,_,0,_,rfl,rfl,(e.aN a),at0 _ _,rfl,_,rfl,iteF ⟨_,rfl,_,_,1,_,rfl,rfl,(e.aN a),at1 _ _ _,(by show 1≤sizeLine;decide),fun D H' f s' g=>q D H' _ f s' g (.cons b .nil)⟩⟩⟩
 |nmd a b c=>exact ⟨_,rfl,_,_,0,_,rfl,rfl,(e.aN a),at0 _ _,rfl,_,rfl,iteF ⟨_,rfl,_,_,0,_,rfl,rfl,(e.aN a),at0 _ _,rfl,_,rfl,iteF ⟨_,rfl,_,_,1,_,rfl,rfl,(e.aN a),at1 _ _ _,(by show 1≤sizeLine;decide),fun D H' f s' g=>q D H' _ f s' g (.cons b .nil)⟩⟩⟩
 |group a b c d=>exact ⟨_,rfl,_,_,0,_,rfl,rfl,(e.aN a),at0 _ _,rfl,_,rfl,iteF ⟨_,rfl,_,_,0,_,rfl,rfl,(e.aN a),at0 _ _,rfl,_,rfl,iteF ⟨_,rfl,_,_,1,_,rfl,rfl,(e.aN a),at1 _ _ _,(by show 1≤sizeLine;decide),fun D H' f s' g=>q D H' _ f s' g (.cons b .nil)⟩⟩⟩
 |first a b c d=>exact ⟨_,rfl,_,_,0,_,rfl,rfl,(e.aN a),at0 _ _,rfl,_,rfl,iteF ⟨_,rfl,_,_,0,_,rfl,rfl,(e.aN a),at0 _ _,rfl,_,rfl,iteF ⟨_,rfl,_,_,1,_,rfl,rfl,(e.aN a),at1 _ _ _,(by show 1≤sizeLine;decide),fun D H' f s' g=>q D H' _ f s' g (.cons b .nil)⟩⟩⟩
 |join a b c d=>
  refine ⟨_,rfl,_,_,0,_,rfl,rfl,(e.aN a),at0 _ _,rfl,_,rfl,iteF ⟨_,rfl,_,_,0,_,rfl,rfl,(e.aN a),at0 _ _,rfl,_,rfl,iteT ⟨_,rfl,_,rfl,_,rfl,_,_,rfl,(e.aN a),(by show ¬ (HT.sIx 4 0 (some 1)=0∧HT.sIx 4 4 (some 3)=4);decide),fun p H1 s1 g1=>⟨p,_,rfl,.inr (SqT.of g1),fun D H' f s' g=>q D H' _ (s1.free f) (s1.trans s') g (.cons b (.cons c .nil))⟩⟩⟩⟩
def aLc (K:PySem.W.Frag):Sp:=fun vs H Q _=>∃v q,vs=[v]∧IsQ K H v q∧Q (.int (own q:Nat)) H
theorem aDn (T:Txt w K mg):Ok P w K mg base 1 "own_size" ["question"] (aLc K):=by
 refine Ok.ofV T.aGr aEo (fun vs H Q E h=>?_) (fun f cdv A outer s H vs Q E hr h=>?_)
 ·obtain ⟨v,q,rfl,_⟩:=h;rfl
 obtain ⟨v,q0,rfl,hq,q⟩:=h
 refine ⟨_,(aF (aG (eE (aM op_eq (aJ ix_tup (vv 0) aD (fun _ _=>rfl)) aO (nomark _)) (aL call_len_seq (by rfl) T.cZ cA (aB (aJ ix_tup (vv 0) aD (fun _ _=>rfl)) aA)) aD))),?_⟩
 cases hq with
 |whr a b c=>
  obtain ⟨⟨p,us,rfl,hp,hr'⟩,_⟩:=c
  refine ⟨_,rfl,_,_,0,_,rfl,rfl,a,at0 _ _,rfl,_,rfl,iteT ⟨_,rfl,_,_,2,_,rfl,rfl,a,at2 _ _ _ _,_,_,rfl,.inr hp,?_⟩⟩
  rw [hr'.len]
  exact q
 |table a b=>exact ⟨_,rfl,_,_,0,_,rfl,rfl,a,at0 _ _,rfl,_,rfl,iteF q⟩
 |keep a b c=>exact ⟨_,rfl,_,_,0,_,rfl,rfl,a,at0 _ _,rfl,_,rfl,iteF q⟩
 |nmd a b c=>exact ⟨_,rfl,_,_,0,_,rfl,rfl,a,at0 _ _,rfl,_,rfl,iteF q⟩
 |group a b c d=>exact ⟨_,rfl,_,_,0,_,rfl,rfl,a,at0 _ _,rfl,_,rfl,iteF q⟩
 |first a b c d=>exact ⟨_,rfl,_,_,0,_,rfl,rfl,a,at0 _ _,rfl,_,rfl,iteF q⟩
 |join a b c d=>exact ⟨_,rfl,_,_,0,_,rfl,rfl,a,at0 _ _,rfl,_,rfl,iteF q⟩
def aL6 (K:PySem.W.Frag):Sp:=fun vs H Q _=>∃v q,vs=[v]∧IsQ K H v q∧size q≤20∧∀H',Same H H'→Q v H'
theorem aJm {α β:Type} {R:α→β→Prop} {as:List α} {bs:List β} (h:aZ R as bs) (ne:as≠[]):∃as' a bs' b,as=as'++[a]∧bs=bs'++[b]∧aZ R as' bs'∧R a b:=by
 induction h with
 |nil=>exact absurd rfl ne
 |@cons a b as bs r t ih=>
  cases t with
  |nil=>exact ⟨[],a,[],b,rfl,rfl,.nil,r⟩
  |cons r' t'=>
   obtain ⟨as',x,bs',y,e1,e2,h1,h2⟩:=ih (by simp)
   exact ⟨a::as',x,b::bs',y,by rw [e1];rfl,by rw [e2];rfl,.cons r h1,h2⟩
theorem tW (xs ys:List Qn):sizes (xs++ys)=sizes xs+sizes ys:=by unfold sizes;rw [List.map_append,List.sum_append]
theorem aJ2 {K:PySem.W.Frag} {H:Hp} {us:List V} {qs:List Qn} (h:aZ (IsQ K H) us qs):us.length≤sizes qs:=by
 induction h with
 |nil=>exact Nat.le_refl _
 |@cons v q us qs r _ ih=>
  have:=qP r
  have e:=mY q
  show us.length+1≤(((q::qs).map size).sum)
  rw [List.map_cons,List.sum_cons]
  unfold sizes at ih
  omega
theorem aGj (T:Txt w K mg) (aH6:Ok P w K mg base 7 "has_form" ["thing"] (aRi K)) (cL:Ok P w K mg base 1 "questions_in" ["question"] (aJd K)) (aHy:Ok P w K mg base 1 "own_size" ["question"] (aLc K)):Ok P w K mg base 8 "checked" ["thing"] (aL6 K):=by
 refine Ok.ofV T.aJq jC (fun vs H Q E h=>?_) (fun f cdv A outer s H vs Q E hr h=>?_)
 ·obtain ⟨v,q,rfl,_⟩:=h;rfl
 obtain ⟨v,q0,rfl,hq,h20,q⟩:=h
 refine ⟨_,(aC (aR (i:=1) jC.nd rfl (by trivial) aD) (aC (aR (i:=2) jC.nd rfl (by trivial) (cB (aB (vv 0) aA))) (aC (aLl PassesOwn.never (aM6 (vv 2)) (aC (aR (i:=3) jC.nd rfl (by trivial) (aCl PySem.F.plainAttrs_list PySem.F.slot_list_pop PySem.F.type_list_pop aOa (vv 2))) (aC (bA (dC (cQ (aH (aH6.mono (by decide)) hr (by rfl) (aB (vv 3) aA)))) (aF gG) aP) (aC (aR (i:=1) jC.nd rfl (by trivial) (bK op_add (vv 1) (aH (aHy.mono (by decide)) hr (by rfl) (aB (vv 3) aA)))) (aC (bA (aM op_gt (vv 1) (dF (by rfl) T.aEd) (nomark _)) (aF gG) aP) (aF (bW (jZ PySem.F.plainAttrs_list PySem.F.slot_list_extend PySem.F.type_list_extend aHk (vv 2) (aB (aH (cL.mono (by decide)) hr (by rfl) (aB (vv 3) aA)) aA))))))))) (aF (aG (vv 0)))))),?_⟩
 refine ⟨_,rfl,(by show 1≤sizeLine;decide),fun W H1 fW s1 g1=>?_⟩
 refine ⟨fun m σ H'=>∃sz us qs l,σ=[some v,some (.int (sz:Nat)),some (.ref W),l]∧Same H H'∧H' W=some (.lst us)∧aZ (IsQ K H) us qs∧sz+sizes qs=size q0∧m=sizes qs,⟨_,0,_,[q0],_,rfl,s1,g1,.cons hq .nil,by simp [sizes],rfl⟩,?_⟩
 rintro m σ H' ⟨sz,us,qs,l,rfl,sm,eW,hu,hs,rfl⟩
 by_cases hne:us=[]
 ·subst hne
  refine ⟨_,rfl,false,.inl ⟨[],SqL.of eW,rfl⟩,?_⟩
  refine iteF ?_
  exact ⟨_,rfl,q H' sm⟩
 ·obtain ⟨us',u,qs',p,rfl,rfl,hu',hp⟩:=aJm hu hne
  refine ⟨_,rfl,true,.inl ⟨_,SqL.of eW,by cases us' <;> rfl⟩,?_⟩
  refine iteT ?_
  have hso:=mY p
  have hop:=qP hp
  have hsz:sizes (qs'++[p])=sizes qs'+size p:=by rw [tW];simp [sizes]
  refine ⟨fun σ' H''=>∃m',m'<sizes (qs'++[p])∧∃sz us qs l,σ'=[some v,some (.int (sz:Nat)),some (.ref W),l]∧Same H H''∧H'' W=some (.lst us)∧aZ (IsQ K H) us qs∧sz+sizes qs=size q0∧m'=sizes qs,fun σ' H'' h=>h,?_⟩
  refine ⟨_,rfl,.inl ⟨rfl,_,SqL.of eW⟩,W,_,u,rfl,rfl,eW,?_,?_⟩
  ·rw [List.length_append,List.length_singleton,Nat.add_sub_cancel,List.getElem?_append_right (Nat.le_refl _),Nat.sub_self]
   rfl
  rw [List.dropLast_concat]
  have sx:Same H (upd H' W (.lst us')):=bR fW sm
  have ex:upd H' W (.lst us') W=some (.lst us'):=upd_same
  generalize upd H' W (.lst us')=Hx at sx ex
  refine ⟨_,rfl,u,p,rfl,hp.same sx,fun H2 s2=>⟨_,rfl,iteF ?_⟩⟩
  refine ⟨_,rfl,_,rfl,u,p,rfl,hp.same (sx.trans s2),_,_,rfl,rfl,?_⟩
  refine ⟨_,rfl,_,_,rfl,rfl,_,rfl,?_⟩
  have e20:decide ((20:Int)<(sz:Int)+(own p:Int))=false:=decide_eq_false (by omega)
  rw [e20]
  refine iteF ?_
  refine ⟨_,rfl,.inl ⟨rfl,_,SqL.of (s2 _ _ ex)⟩,?_⟩
  refine ⟨_,rfl,u,p,H,rfl,sx.trans s2,hp,fun D H3 ws fD s3 gD hw=>?_⟩
  have lw:=hw.len
  have lu:=aJ2 hu'
  have lk:(kids p).length≤2:=by cases p <;> simp [kids]
  refine ⟨W,D,_,_,rfl,rfl,s3 _ _ (s2 _ _ ex),gD,small (by omega),?_⟩
  refine ⟨_,?_,sz+own p,us'++ws,qs'++kids p,some u,?_,bR fW (sx.trans (s2.trans s3)),upd_same,hu'.app hw,?_,rfl⟩
  ·rw [tW];omega
  ·rw [show ((sz+own p:Nat):Int)=(sz:Int)+(own p:Int) from by omega];rfl
  ·rw [tW];omega
abbrev Hdr:=List (Str × Str)
def IsC (K:PySem.W.Frag) (H:Hp) (v:V) (c:Str × Str):Prop:=∃p,v=.ref p∧SqT K H p [.str c.1,.str c.2]
theorem IsC.same {K:PySem.W.Frag} {H H':Hp} {v:V} {c:Str × Str} (e:Same H H') (h:IsC K H v c):IsC K H' v c:=by
 obtain ⟨p,rfl,hp⟩:=h
 exact ⟨p,rfl,e.aN hp⟩
def cM (K:PySem.W.Frag) (H:Hp) (v:V) (hd:Hdr):Prop:=oR K H (IsC K H) v hd
theorem cM.same {K:PySem.W.Frag} {H H':Hp} {v:V} {hd:Hdr} (e:Same H H') (h:cM K H v hd):cM K H' v hd:=oR.same e (fun _ _ q=>q.same e) h
def look (hd:Hdr) (n:Str):Option Str:=(hd.find? fun c=>decide (c.1=n)).map (·.2)
theorem aJb {n k:Str}:∀{hd:Hdr},look hd n=some k→∃i,hd[i]?=some (n,k)∧∀(j:Nat) (c:Str × Str),j<i→hd[j]?=some c→c.1≠n
 |[],h=>by cases h
 |(m,j)::r,h=>by
  unfold look at h
  rw [List.find?_cons] at h
  by_cases e:m=n
  ·rw [decide_eq_true (p:=(m,j).1=n) e] at h
   have h':j=k:=Option.some.inj h
   subst e h'
   exact ⟨0,rfl,fun j c hj=>absurd hj (Nat.not_lt_zero _)⟩
  ·rw [decide_eq_false (p:=(m,j).1=n) e] at h
   obtain ⟨i,h1,h2⟩:=aJb (hd:=r) h
   refine ⟨i+1,by simpa using h1,fun j' c hj hc=>?_⟩
   cases j' with
   |zero=>cases hc;exact e
   |succ j'=>exact h2 j' c (by omega) (by simpa using hc)
theorem aV {α β:Type} {R:α→β→Prop}:∀{as:List α} {bs:List β},aZ R as bs→∀{i:Nat} {a:α},as[i]?=some a→∃b,bs[i]?=some b∧R a b
 |_,_,.cons r t,0,_,h1=>by cases h1;exact ⟨_,rfl,r⟩
 |_,_,.cons r t,i+1,a,h1=>by
  obtain ⟨b,e,q⟩:=aV t (i:=i) (a:=a) (by simpa using h1)
  exact ⟨b,by simpa using e,q⟩
theorem aDg {α β:Type} {R:α→β→Prop}:∀{as:List α} {bs:List β},as.length=bs.length→(∀(i:Nat) (a:α) (b:β),as[i]?=some a→bs[i]?=some b→R a b)→aZ R as bs
 |[],[],_,_=>.nil
 |a::as,b::bs,hl,h=>.cons (h 0 a b rfl rfl) (aDg (by simpa using hl) fun i x y h1 h2=>h (i+1) x y (by simpa using h1) (by simpa using h2))
theorem vZ {us:List V} {ns:List Str} (h:aZ (dY K H) us ns):us=ns.map V.str:=by
 induction h with
 |nil=>rfl
 |cons r _ ih=>rw [List.map_cons,ih,r.1]
def tO (K:PySem.W.Frag):Sp:=fun vs H Q _=>∃vh n hd k,vs=[vh,.str n]∧cM K H vh hd∧look hd n=some k∧Q (.str k) H
theorem aHd (T:Txt w K mg):Ok P w K mg base 1 "kind_in" ["head","name"] (tO K):=by
 refine Ok.ofV T.aKv wD (fun vs H Q E h=>?_) (fun f cdv A outer s H vs Q E hr h=>?_)
 ·obtain ⟨vh,n,hd,k,rfl,_⟩:=h;rfl
 obtain ⟨vh,n,hd,k,rfl,⟨a,us,rfl,ha,hu⟩,hk,q⟩:=h
 refine ⟨_,(aC (dR PassesOwn.never rfl (cY (vv 0)) (aK (i:=2) wD.nd rfl (by trivial)) (aF (bA (aM op_eq (aJ (cT (K:=K)) (vv 2) aD (fun _ _=>rfl)) (vv 1) (nomark _)) (aF (aG (aJ (cT (K:=K)) (vv 2) aD (fun _ _=>rfl)))) aP))) (aF gG)),?_⟩
 obtain ⟨i0,h0,hf⟩:=aJb hk
 have hi0:i0<us.length:=by rw [hu.len];exact (List.getElem?_eq_some_iff.mp h0).1
 refine ⟨_,rfl,a,rfl,⟨_,ha⟩,for_tup (xs:=us) (fun i σ H'=>H'=H∧i≤i0∧∃l,σ=[some (.ref a),some (.str n),l]) ⟨rfl,Nat.zero_le _,_,rfl⟩ (fun i σ H' _ ⟨e,_⟩=>by rw [e];exact ha) ?_ ?_⟩
 ·rintro i x σ H' hx ⟨rfl,hi,l,rfl⟩
  obtain ⟨c,hc,p,rfl,hp⟩:=aV hu hx
  refine ⟨_,rfl,p,_,0,_,rfl,rfl,hp,at0 _ _,_,rfl,rfl,_,rfl,?_⟩
  by_cases e:i=i0
  ·subst e
   rw [h0] at hc
   cases hc
   rw [decide_eq_true rfl]
   exact iteT ⟨_,rfl,p,_,1,_,rfl,rfl,hp,at1 _ _ _,q⟩
  ·have hn:=hf i c (by omega) hc
   rw [decide_eq_false (by intro z;exact hn (V.str.inj z))]
   exact iteF ⟨rfl,by omega,_,rfl⟩
 ·rintro σ H' ⟨rfl,hi,_⟩
  omega
def aA5 (K:PySem.W.Frag):Sp:=fun vs H Q _=>∃(a b:Addr) (xs:List Str),vs=[.ref a,.ref b]∧SqL K H a (xs.map V.str)∧SqL K H b (xs.map V.str)∧Q .non H
theorem qJ (T:Txt w K mg):Ok P w K mg base 1 "need_like_kinds" ["kinds","others"] (aA5 K):=by
 refine Ok.ofV T.rM pW (fun vs H Q E h=>?_) (fun f cdv A outer s H vs Q E hr h=>?_)
 ·obtain ⟨a,b,xs,rfl,_⟩:=h;rfl
 obtain ⟨a,b,xs,rfl,ha,hb,q⟩:=h
 have hu:=hu_of hr
 exact ⟨_,(aF (bA (aM (aQ4 (Nat.lt_of_succ_lt hu)) (vv 0) (vv 1) (nomark _)) (aF gG) aP)),⟨_,rfl,_,rfl,a,b,xs,rfl,rfl,ha,hb,_,rfl,iteF q⟩⟩
def aB2 (K:PySem.W.Frag):Sp:=fun vs H Q _=>∃(a:Addr) (ss:List Str),vs=[.ref a]∧SqL K H a (ss.map V.str)∧ss.length≤1000∧ss.Nodup∧∀H',Same H H'→Q .non H'
theorem wI (T:Txt w K mg) (aA3:Ok P w K mg base 1 "are_unlike" ["names"] (aAi K)):Ok P w K mg base 2 "need_unlike" ["names"] (aB2 K):=by
 refine Ok.ofV T.zA xF (fun vs H Q E h=>?_) (fun f cdv A outer s H vs Q E hr h=>?_)
 ·obtain ⟨a,ss,rfl,_⟩:=h;rfl
 obtain ⟨a,ss,rfl,ha,hl,nd,q⟩:=h
 refine ⟨_,(aF (bA (dC (cQ (aH (aA3.mono (by decide)) hr (by rfl) (aB (vv 0) aA)))) (aF gG) aP)),?_⟩
 refine ⟨_,rfl,a,ss,rfl,ha,hl,fun H1 s1=>⟨_,rfl,?_⟩⟩
 rw [decide_eq_true ((aN0 ss).mpr nd)]
 exact iteF (q H1 s1)
def aPq:Sp:=fun vs H Q _=>∃d n v kvs,vs=[.ref d,.str n]∧H d=some (.dK kvs)∧valV kvs (Sum.inr n)=some v∧Q v H
theorem zM (T:Txt w K mg):Ok P w K mg base 1 "table_head" ["heads","name"] aPq:=by
 refine Ok.ofV T.aBj yO (fun vs H Q E h=>?_) (fun f cdv A outer s H vs Q E hr h=>?_)
 ·obtain ⟨d,n,v,kvs,rfl,_⟩:=h;rfl
 obtain ⟨d,n,v,kvs,rfl,hd,hv,q⟩:=h
 have hu:=hu_of hr
 refine ⟨_,(aC (bA (aJi hu (vv 1) (vv 0)) (aF gG) aP) (aF (aG (rR hu (vv 0) (vv 1) (fun _ _=>rfl))))),?_⟩
 have g:=DGet.k (k:=Sum.inr n) hd
 rw [hv] at g
 exact ⟨_,rfl,_,rfl,d,_,rfl,g,_,rfl,iteF ⟨_,rfl,_,rfl,d,v,rfl,g,q⟩⟩
def kindS (v:V):Str:=if whole v then "number" else "word"
def aR8 (hd:Hdr):Oth→Option Str
 |.val x=>some (kindS x)
 |.col d=>look hd d
def aNs (K:PySem.W.Frag):Sp:=fun vs H Q _=>∃vh u hd o k,vs=[vh,u]∧cM K H vh hd∧IsO K H u o∧aR8 hd o=some k∧Q (.str k) H
theorem zG (T:Txt w K mg) (aKp:Ok P w K mg base 2 "kind_of" ["value"] (aJe K)) (dB:Ok P w K mg base 1 "kind_in" ["head","name"] (tO K)):Ok P w K mg base 3 "other_kind" ["head","other"] (aNs K):=by
 refine Ok.ofV T.aDc zJ (fun vs H Q E h=>?_) (fun f cdv A outer s H vs Q E hr h=>?_)
 ·obtain ⟨vh,u,hd,o,k,rfl,_⟩:=h;rfl
 obtain ⟨vh,u,hd,o,k,rfl,hh,ho,hk,q⟩:=h
 refine ⟨_,(aF (aG (eE (aM op_eq (aJ ix_tup (vv 1) aD (fun _ _=>rfl)) aO (nomark _)) (aH (aKp.mono (by decide)) hr (by rfl) (aB (aJ ix_tup (vv 1) aD (fun _ _=>rfl)) aA)) (aH (dB.mono (by decide)) hr (by rfl) (aB (vv 0) (aB (aJ ix_tup (vv 1) aD (fun _ _=>rfl)) aA)))))),?_⟩
 cases o with
 |val x=>
  obtain ⟨a,rfl,ha,hx,_⟩:=ho
  cases hk
  exact ⟨_,rfl,a,_,0,_,rfl,rfl,ha,at0 _ _,rfl,_,rfl,iteT ⟨_,rfl,a,_,1,_,rfl,rfl,ha,at1 _ _ _,x,rfl,hx,q⟩⟩
 |col d=>
  obtain ⟨a,rfl,ha,_⟩:=ho
  exact ⟨_,rfl,a,_,0,_,rfl,rfl,ha,at0 _ _,rfl,_,rfl,iteF ⟨_,rfl,_,rfl,a,_,1,_,rfl,rfl,ha,at1 _ _ _,_,_,hd,k,rfl,hh,hk,q⟩⟩
def xH (hd:Hdr) (t:Tst):Prop:=∃k,look hd t.c=some k∧aR8 hd t.o=some k
def aPf (K:PySem.W.Frag):Sp:=fun vs H Q _=>∃vh u hd ts,vs=[vh,u]∧cM K H vh hd∧oR K H (IsT K H) u ts∧ts.length≤8∧(∀t∈ts,xH hd t)∧∀H',Same H H'→Q vh H'
theorem kinds_of {α:Type} {p:α→Str→Prop}:∀{ts:List α},(∀t∈ts,∃k,p t k)→∃ks,aZ p ts ks
 |[],_=>⟨[],.nil⟩
 |t::r,h=>by
  obtain ⟨k,hk⟩:=h t (List.mem_cons_self ..)
  obtain ⟨ks,hks⟩:=kinds_of (ts:=r) fun u hu=>h u (List.mem_cons_of_mem _ hu)
  exact ⟨k::ks,.cons hk hks⟩
theorem eY {α:Type} {f:α→V} {xs:List α} {i:Nat} {y:V} (h:(xs.map f)[i]?=some y):∃x,xs[i]?=some x∧y=f x:=by
 rw [List.getElem?_map] at h
 cases e:xs[i]? with
 |none=>rw [e] at h;cases h
 |some x=>rw [e] at h;cases h;exact ⟨x,rfl,rfl⟩
theorem yF (T:Txt w K mg) (gH:Ok P w K mg base 1 "need_like_kinds" ["kinds","others"] (aA5 K)) (dB:Ok P w K mg base 1 "kind_in" ["head","name"] (tO K)) (aCk:Ok P w K mg base 3 "other_kind" ["head","other"] (aNs K)) :
  Ok P w K mg base 4 "where_head" ["head","tests"] (aPf K):=by
 refine Ok.ofV T.aBx yU (fun vs H Q E h=>?_) (fun f cdv A outer s H vs Q E hr h=>?_)
 ·obtain ⟨vh,u,hd,ts,rfl,_⟩:=h;rfl
 obtain ⟨vh,u,hd,ts,rfl,hh,⟨a,us,rfl,ha,hu⟩,hl8,hok,q⟩:=h
 refine ⟨_,(aC (bW (aH (gH.mono (by decide)) hr (by rfl) (aB (bM (N:=["test","head"]) (by trivial) (bT (defScope fX) rfl (by decide +kernel)) rfl (cY (vv 1)) (fun cl s' H' fp=>⟨(aK (i:=0) (show (["test","head"]:List Str).Nodup from by decide +kernel) rfl (Or.inl rfl)),bJ,(aH (dB.mono (by decide)) hr (by rfl) (aB (vv 1) (aB (aJ (cT (K:=K)) (vv 0) aD (fun _ _=>rfl)) aA)))⟩)) (aB (bM (N:=["test","head"]) (by trivial) (bT (defScope fX) rfl (by decide +kernel)) rfl (cY (vv 1)) (fun cl s' H' fp=>⟨(aK (i:=0) (show (["test","head"]:List Str).Nodup from by decide +kernel) rfl (Or.inl rfl)),bJ,(aH (aCk.mono (by decide)) hr (by rfl) (aB (vv 1) (aB (aJ (cT (K:=K)) (vv 0) aD (fun _ _=>rfl)) aA)))⟩)) aA)))) (aF (aG (vv 0)))),?_⟩
 obtain ⟨ks,hks⟩:=kinds_of hok
 have l1:=hu.len
 have l2:=hks.len
 dsimp only [tSeq,tDrop,tCall,tCons]
 refine cX us (ks.map V.str) (by rw [List.length_map];omega) [none,some vh] ?_ (small (by omega)) (fun R r=>gP ha (fun R' r'=>⟨_,rfl,r'⟩) R r) (fun i x y ex ey H' R l sm r=>?_) rfl fun D1 H1 s1 g1=>?_
 ·exact bU 0 (by decide +kernel) rfl rfl (by trivial)
 ·obtain ⟨t,ht,p,w',rfl,hp,_,_,ho⟩:=aV hu ex
  obtain ⟨k,hk,rfl⟩:=eY ey
  have hq:=cI hks ht hk
  exact ⟨_,rfl,_,rfl,p,_,0,_,rfl,rfl,sm.aN hp,at0 _ _,_,_,hd,k,rfl,hh.same sm,hq.1,r H' (Same.refl H')⟩
 refine cX us (ks.map V.str) (by rw [List.length_map];omega) [none,some vh] ?_ (small (by omega)) (fun R r=>gP (s1.aN ha) (fun R' r'=>⟨_,rfl,r'⟩) R r) (fun i x y ex ey H' R l sm r=>?_) rfl fun D2 H2 s2 g2=>?_
 ·exact bU 0 (by decide +kernel) rfl rfl (by trivial)
 ·obtain ⟨t,ht,p,w',rfl,hp,_,_,ho⟩:=aV hu ex
  obtain ⟨k,hk,rfl⟩:=eY ey
  have hq:=cI hks ht hk
  exact ⟨_,rfl,_,rfl,p,_,2,_,rfl,rfl,sm.aN (s1.aN hp),at2 _ _ _ _,_,_,hd,t.o,k,rfl,hh.same (s1.trans sm),ho.same (s1.trans sm),hq.2,r H' (Same.refl H')⟩
 exact ⟨D1,D2,ks,rfl,SqL.of (s2 _ _ g1),SqL.of g2,⟨_,rfl,q H2 (s1.trans s2)⟩⟩
def aLn (K:PySem.W.Frag) (H:Hp) (v:V) (ns:List Str):Prop:=∃a,v=.ref a∧(SqL K H a (ns.map V.str)∨SqT K H a (ns.map V.str))
theorem aMy {lo hi:Nat} {H:Hp} {v:V} {ns:List Str} (h:gJ dY lo hi K H v ns):aLn K H v ns:=by
 obtain ⟨⟨a,us,rfl,ha,hr⟩,_⟩:=h
 rw [vZ hr] at ha
 exact ⟨a,rfl,.inr ha⟩
def Looks (hd:Hdr) (ns ks:List Str):Prop:=aZ (fun n k=>look hd n=some k) ns ks
def aIk (K:PySem.W.Frag):Sp:=fun vs H Q _=>∃vh u hd ns ks,vs=[vh,u]∧cM K H vh hd∧aLn K H u ns∧ns.length≤1000∧Looks hd ns ks∧∀v H',Same H H'→cM K H' v (ns.zip ks)→Q v H'
theorem aQb {K:PySem.W.Frag} {a:Addr} {xs:List V} {tl:TE} {σ:L2.St} {H:Hp} (hS:SqL K H a xs∨SqT K H a xs) (h:∀R:VK,R (.ref a) H→tl σ H R) (R:It→Hp→Prop)
  (q:∀J:It,(∀H' i x,Same H H'→xs[i]?=some x→J.go i H'∧∀y H2,J.yld i H' y H2→H2=H'∧y=x)→(∀H',Same H H'→J.stop xs.length H')→R J H):iList K tl σ H R∨iTup K tl σ H R:=by
 rcases hS with hS|hS
 ·exact .inl (jH (fun H' sm=>sm.seq hS) h R q)
 ·exact .inr (gP hS h R q)
def dN (K:PySem.W.Frag) (cs:Hdr):Nat→Hp→V→Prop:=fun i H y=>∃c p,cs[i]?=some c∧y=.ref p∧H p=some (.tup [.str c.1,.str c.2])
theorem dN.st {cs:Hdr} {i:Nat} {H1 H2:Hp} {y:V} (e:Same H1 H2) (h:dN K cs i H1 y):dN K cs i H2 y:=by
 obtain ⟨c,p,h1,h2,h3⟩:=h
 exact ⟨c,p,h1,h2,e _ _ h3⟩
theorem dN.su {cs:Hdr} {i:Nat} {H1:Hp} {D:Addr} {ys zs:List V} {y:V} (hD:H1 D=some (.lst ys)) (h:dN K cs i H1 y):dN K cs i (upd H1 D (.lst zs)) y:=by
 obtain ⟨c,p,h1,h2,h3⟩:=h
 exact ⟨c,p,h1,h2,by rw [upd_ne (ne_of h3 hD (by intro z;cases z))];exact h3⟩
theorem aC1 {cs:Hdr} {H:Hp} {a:Addr} {ys:List V} (ha:SqT K H a ys) (hl:ys.length=cs.length) (h:∀(i:Nat) (y:V),ys[i]?=some y→dN K cs i H y):cM K H (.ref a) cs:=by
 refine ⟨a,ys,rfl,ha,aDg hl fun i y c e1 e2=>?_⟩
 obtain ⟨c',p,h1,h2,h3⟩:=h i y e1
 rw [e2] at h1
 cases h1
 exact ⟨p,h2,SqT.of h3⟩
theorem aHq {ns ks:List Str} {i:Nat} {n k:Str} (h1:ns[i]?=some n) (h2:ks[i]?=some k):(ns.zip ks)[i]?=some (n,k):=by
 rw [List.zip,List.getElem?_zipWith,h1,h2]
theorem aBo (T:Txt w K mg) (dB:Ok P w K mg base 1 "kind_in" ["head","name"] (tO K)):Ok P w K mg base 2 "keep_head" ["head","names"] (aIk K):=by
 refine Ok.ofV T.aEg aA9 (fun vs H Q E h=>?_) (fun f cdv A outer s H vs Q E hr h=>?_)
 ·obtain ⟨vh,u,hd,ns,ks,rfl,_⟩:=h;rfl
 obtain ⟨vh,u,hd,ns,ks,rfl,hh,⟨a,rfl,ha⟩,hl,hk,q⟩:=h
 refine ⟨_,(aF (aG (bD bN (by rfl) T.bV bL (aB (bM (N:=["name","head"]) (by trivial) (bT (defScope jP) rfl (by decide +kernel)) rfl (aQd (vv 1)) (fun cl s' H' fp=>⟨(aK (i:=0) (show (["name","head"]:List Str).Nodup from by decide +kernel) rfl (Or.inl rfl)),bJ,(bY (aB (vv 0) (aB (aH (dB.mono (by decide)) hr (by rfl) (aB (vv 1) (aB (vv 0) aA))) aA)))⟩)) aA)))),?_⟩
 have hln:=hk.len
 dsimp only [tRet,tCB,tCons]
 refine uL (ns.map V.str) (dN K (ns.zip ks)) dN.st dN.su [none,some vh] ?_ (small (by rw [List.length_map];exact hl)) (fun R r=>aQb ha (fun R' r'=>⟨_,rfl,r'⟩) R r) (fun i x ex H' R l sm r=>?_) rfl fun D H' ys sm hD hly hR=>?_
 ·exact bU 0 (by decide +kernel) rfl rfl (by trivial)
 ·obtain ⟨n,hn,rfl⟩:=eY ex
  obtain ⟨k,hkk,hlk⟩:=aV hk hn
  exact ⟨_,rfl,_,rfl,_,rfl,_,_,hd,k,rfl,hh.same sm,hlk,(by show 2≤sizeLine;decide),fun p H2 _ s2 g2=>r _ _ s2 ⟨(n,k),p,aHq hn hkk,rfl,g2⟩⟩
 ·refine ⟨D,_,rfl,SqL.of hD,fun t H2 _ s2 g2=>q _ _ (sm.trans s2) (aC1 (SqT.of g2) ?_ fun i y e=>(hR i y e).st s2)⟩
  rw [hly,List.length_map,List.length_zip]
  omega
def aLk (K:PySem.W.Frag):Sp:=fun vs H Q _=>∃vh u hd ns,vs=[vh,u]∧cM K H vh hd∧(∃a,u=.ref a∧SqT K H a (ns.map V.str))∧ns.length≤1000∧ns.length=hd.length∧∀v H',Same H H'→cM K H' v (List.zipWith (fun n c=>(n,c.2)) ns hd)→Q v H'
theorem yX (T:Txt w K mg):Ok P w K mg base 1 "named_head" ["head","names"] (aLk K):=by
 refine Ok.ofV T.aCu zB (fun vs H Q E h=>?_) (fun f cdv A outer s H vs Q E hr h=>?_)
 ·obtain ⟨vh,u,hd,ns,rfl,_⟩:=h;rfl
 obtain ⟨vh,u,hd,ns,rfl,⟨b,us,rfl,hb,hu⟩,⟨a,rfl,ha⟩,hl,hle,q⟩:=h
 refine ⟨_,(aC (bA (aM op_ne (aL call_len_seq (by rfl) T.cZ cA (aB (vv 1) aA)) (aL call_len_seq (by rfl) T.cZ cA (aB (vv 0) aA)) (nomark _)) (aF gG) aP) (aF (aG (bD bN (by rfl) T.bV bL (aB (bM (N:=["name","column"]) (by trivial) (dZ (by decide +kernel)) rfl (aBg (by rfl) T.aM3 (aB (vv 1) (aB (vv 0) aA))) (fun cl s' H' fp=>⟨(oH (K:=K) (n:=2) rfl (bB (aK (i:=0) (show (["name","column"]:List Str).Nodup from by decide +kernel) rfl (Or.inl rfl)) (bB (aK (i:=1) (show (["name","column"]:List Str).Nodup from by decide +kernel) rfl (Or.inl rfl)) dM))),bJ,(bY (aB (vv 0) (aB (aJ (cT (K:=K)) (vv 1) aD (fun _ _=>rfl)) aA)))⟩)) aA))))),?_⟩
 have hlu:=hu.len
 refine ⟨_,rfl,_,_,rfl,.inr ha,_,rfl,_,_,rfl,.inr hb,rfl,_,rfl,?_⟩
 have e:(!decide (V.int ((ns.map V.str).length:Nat)=V.int (us.length:Nat)))=false:=by rw [List.length_map,hle,hlu];simp
 rw [e]
 refine iteF ?_
 dsimp only [tNext,tRet,tCB,tCons]
 refine aKo (ns.map V.str) us (dN K (List.zipWith (fun n c=>(n,c.2)) ns hd)) dN.st dN.su [none,none] oN (small (by rw [List.length_map];exact hl)) (by rw [List.length_map];omega) (fun R r=>⟨_,rfl,_,rfl,r a b H (Same.refl H) ha hb⟩) (fun i x y ex ey H' R l1 l2 sm r=>?_) rfl rfl fun D H' zs sm hD hlz hR=>?_
 ·obtain ⟨n,hn,rfl⟩:=eY ex
  obtain ⟨c,hc,p,rfl,hp⟩:=aV hu ey
  refine ⟨_,rfl,_,rfl,p,_,1,_,rfl,rfl,sm.aN hp,at1 _ _ _,(by show 2≤sizeLine;decide),fun t H2 _ s2 g2=>r _ _ s2 ⟨(n,c.2),t,?_,rfl,g2⟩⟩
  rw [List.getElem?_zipWith,hn,hc]
 ·refine ⟨D,_,rfl,SqL.of hD,fun t H2 _ s2 g2=>q _ _ (sm.trans s2) (aC1 (SqT.of g2) ?_ fun i y e=>(hR i y e).st s2)⟩
  rw [hlz,List.length_map,List.length_zipWith]
  omega
def aPv (K:PySem.W.Frag):Sp:=fun vs H Q _=>∃vh vo u hd ho ps ks,vs=[vh,vo,u]∧cM K H vh hd∧cM K H vo ho∧oR K H (sU K H) u ps∧ps.length≤8∧hd.length≤100∧ho.length≤100∧aZ (fun p k=>look hd p.1=some k∧look ho p.2=some k) ps ks∧(ps.map (·.1)).Nodup∧(ps.map (·.2)).Nodup ∧
 ∀v H',Same H H'→cM K H' v (hd++ho.filter fun c=>!decide (c.1∈ps.map (·.2)))→Q v H'
theorem aCv {n:Str} {ss:List Str}:inV (.str n) (ss.map V.str)=decide (n∈ss):=by
 unfold inV
 rw [Bool.eq_iff_iff,List.any_eq_true,decide_eq_true_eq]
 constructor
 ·rintro ⟨v,hv,e⟩
  obtain ⟨z,hz,rfl⟩:=List.mem_map.mp hv
  have e2:(z == n)=true:=e
  have e3:z=n:=by simpa using e2
  rw [←e3];exact hz
 ·intro h
  refine ⟨.str n,List.mem_map.mpr ⟨n,h,rfl⟩,?_⟩
  show (n == n)=true
  simp
theorem xJ {ss:List Str}:(ss.map V.str).all flatV=true:=by
 rw [List.all_eq_true]
 intro v hv
 obtain ⟨z,_,rfl⟩:=List.mem_map.mp hv
 rfl
theorem kZ {α:Type} {p:Nat→Bool} {p':α→Bool}:∀{k:Nat} {xs:List α},(∀(i:Nat) (x:α),xs[i]?=some x→p (k+i)=p' x)→sel p k xs=xs.filter p'
 |_,[],_=>rfl
 |k,x::r,h=>by
  have h0:=h 0 x rfl
  rw [Nat.add_zero] at h0
  show (if p k then x::sel p (k+1) r else sel p (k+1) r)=_
  rw [List.filter_cons,h0,kZ (k:=k+1) (xs:=r) fun i y e=>by rw [show k+1+i=k+(i+1) by omega];exact h (i+1) y (by simpa using e)]
theorem aDy {α β:Type} {R:α→β→Prop} {p:Nat→Bool} {as:List α} {bs:List β} (h:aZ R as bs):∀k,aZ R (sel p k as) (sel p k bs):=by
 induction h with
 |nil=>exact fun _=>.nil
 |@cons a b as bs r _ ih=>
  intro k
  show aZ R (if p k then a::sel p (k+1) as else sel p (k+1) as) (if p k then b::sel p (k+1) bs else sel p (k+1) bs)
  split
  ·exact .cons r (ih _)
  ·exact ih _
def aAm (ho:Hdr) (ss:List Str) (i:Nat):Bool:=match ho[i]? with
 |some c=>!decide (c.1∈ss)
 |none=>false
theorem aC6 (T:Txt w K mg) (gH:Ok P w K mg base 1 "need_like_kinds" ["kinds","others"] (aA5 K)) (dB:Ok P w K mg base 1 "kind_in" ["head","name"] (tO K)) (cR:Ok P w K mg base 2 "need_unlike" ["names"] (aB2 K)) :
  Ok P w K mg base 3 "join_head" ["head","other","pairs"] (aPv K):=by
 refine Ok.ofV T.aDo mC (fun vs H Q E h=>?_) (fun f cdv A outer s H vs Q E hr h=>?_)
 ·obtain ⟨vh,vo,u,hd,ho,ps,ks,rfl,_⟩:=h;rfl
 obtain ⟨vh,vo,u,hd,ho,ps,ks,rfl,hh,hho,⟨a,us,rfl,ha,hu⟩,hl8,hl1,hl2,hks,nd1,nd2,q⟩:=h
 refine ⟨_,(aC (gW (i0:=3) mC.nd rfl (by trivial) (N:=["pair"]) (by trivial) (dZ (by decide +kernel)) rfl (cY (vv 2)) (fun cl s' H' fp=>⟨(aK (i:=0) (show (["pair"]:List Str).Nodup from by decide +kernel) rfl (Or.inl rfl)),bJ,(aJ (cT (K:=K)) (vv 0) aD (fun _ _=>rfl))⟩)) (aC (aR (i:=4) mC.nd rfl (by trivial) (bM (N:=["pair"]) (by trivial) (dZ (by decide +kernel)) rfl (cY (vv 2)) (fun cl s' H' fp=>⟨(aK (i:=0) (show (["pair"]:List Str).Nodup from by decide +kernel) rfl (Or.inl rfl)),bJ,(aJ (cT (K:=K)) (vv 0) aD (fun _ _=>rfl))⟩))) (aC (bW (aH (gH.mono (by decide)) hr (by rfl) (aB (bM (N:=["name","head"]) (by trivial) (bT (defScope eV) rfl (by decide +kernel)) rfl (cN (vv 3)) (fun cl s' H' fp=>⟨(aK (i:=0) (show (["name","head"]:List Str).Nodup from by decide +kernel) rfl (Or.inl rfl)),bJ,(aH (dB.mono (by decide)) hr (by rfl) (aB (vv 1) (aB (vv 0) aA)))⟩)) (aB (bM (N:=["name","other"]) (by trivial) (bT (defScope eV) rfl (by decide +kernel)) rfl (cN (vv 4)) (fun cl s' H' fp=>⟨(aK (i:=0) (show (["name","other"]:List Str).Nodup from by decide +kernel) rfl (Or.inl rfl)),bJ,(aH (dB.mono (by decide)) hr (by rfl) (aB (vv 1) (aB (vv 0) aA)))⟩)) aA)))) (aC (bW (aH (cR.mono (by decide)) hr (by rfl) (aB (vv 3) aA))) (aC (bW (aH (cR.mono (by decide)) hr (by rfl) (aB (vv 4) aA))) (aF (aG (bK vN (vv 0) (bD bN (by rfl) T.bV bL (aB (bM (N:=["column","there"]) (by trivial) (bT (defScope eV) rfl (by decide +kernel)) rfl (cY (vv 1)) (fun cl s' H' fp=>⟨(aK (i:=0) (show (["column","there"]:List Str).Nodup from by decide +kernel) rfl (Or.inl rfl)),(aB5 (aM (pA (K:=K)) (aJ (cT (K:=K)) (vv 0) aD (fun _ _=>rfl)) (vv 1) (by with_unfolding_all rfl))),(vv 0)⟩)) aA)))))))))),?_⟩
 have lu:=hu.len
 have lk:=hks.len
 dsimp only [tSeq,tAsg]
 refine cX us ((ps.map (·.1)).map V.str) (by rw [List.length_map,List.length_map];omega) [none] iT (small (by omega)) (fun R r=>gP ha (fun R' r'=>⟨_,rfl,r'⟩) R r) (fun i x y ex ey H' R l sm r=>?_) rfl fun D1 H1 s1 g1=>?_
 ·obtain ⟨p,hp,b,rfl,hb,_⟩:=aV hu ex
  obtain ⟨n,hn,rfl⟩:=eY ey
  rw [List.getElem?_map,hp] at hn
  cases hn
  exact ⟨_,rfl,b,_,0,_,rfl,rfl,sm.aN hb,at0 _ _,r H' (Same.refl H')⟩
 dsimp only [gName,tSeq,tAsg]
 refine cX us ((ps.map (·.2)).map V.str) (by rw [List.length_map,List.length_map];omega) [none] iT (small (by omega)) (fun R r=>gP (s1.aN ha) (fun R' r'=>⟨_,rfl,r'⟩) R r) (fun i x y ex ey H' R l sm r=>?_) rfl fun D2 H2 s2 g2=>?_
 ·obtain ⟨p,hp,b,rfl,hb,_⟩:=aV hu ex
  obtain ⟨n,hn,rfl⟩:=eY ey
  rw [List.getElem?_map,hp] at hn
  cases hn
  exact ⟨_,rfl,b,_,1,_,rfl,rfl,sm.aN (s1.aN hb),at1 _ _ _,r H' (Same.refl H')⟩
 dsimp only [gName,tSeq,tAsg,tDrop,tCall,tCons]
 refine cX ((ps.map (·.1)).map V.str) (ks.map V.str) (by rw [List.length_map,List.length_map,List.length_map];omega) [none,some vh] ?_ (small (by rw [List.length_map,List.length_map];omega)) (fun R r=>jH (fun H' sm=>SqL.of (sm _ _ (s2 _ _ g1))) (fun R' r'=>⟨_,rfl,r'⟩) R r) (fun i x y ex ey H' R l sm r=>?_) rfl fun D3 H3 s3 g3=>?_
 ·exact bU 0 (by decide +kernel) rfl rfl (by trivial)
 ·obtain ⟨n,hn,rfl⟩:=eY ex
  obtain ⟨k,hk,rfl⟩:=eY ey
  obtain ⟨p,hp,rfl⟩:∃p,ps[i]?=some p∧n=p.1:=by
   rw [List.getElem?_map] at hn
   cases e:ps[i]? with
   |none=>rw [e] at hn;cases hn
   |some p=>rw [e] at hn;cases hn;exact ⟨p,rfl,rfl⟩
  exact ⟨_,rfl,_,rfl,_,_,hd,k,rfl,hh.same (s1.trans (s2.trans sm)),(cI hks hp hk).1,r H' (Same.refl H')⟩
 refine cX ((ps.map (·.2)).map V.str) (ks.map V.str) (by rw [List.length_map,List.length_map,List.length_map];omega) [none,some vo] ?_ (small (by rw [List.length_map,List.length_map];omega)) (fun R r=>jH (fun H' sm=>SqL.of (sm _ _ (s3 _ _ g2))) (fun R' r'=>⟨_,rfl,r'⟩) R r) (fun i x y ex ey H' R l sm r=>?_) rfl fun D4 H4 s4 g4=>?_
 ·exact bU 1 (by decide +kernel) rfl rfl (by trivial)
 ·obtain ⟨n,hn,rfl⟩:=eY ex
  obtain ⟨k,hk,rfl⟩:=eY ey
  obtain ⟨p,hp,rfl⟩:∃p,ps[i]?=some p∧n=p.2:=by
   rw [List.getElem?_map] at hn
   cases e:ps[i]? with
   |none=>rw [e] at hn;cases hn
   |some p=>rw [e] at hn;cases hn;exact ⟨p,rfl,rfl⟩
  exact ⟨_,rfl,_,rfl,_,_,ho,k,rfl,hho.same (s1.trans (s2.trans (s3.trans sm))),(cI hks hp hk).2,r H' (Same.refl H')⟩
 refine ⟨D3,D4,ks,rfl,SqL.of (s4 _ _ g3),SqL.of g4,?_⟩
 have t4:=s1.trans (s2.trans (s3.trans s4))
 refine ⟨_,rfl,D1,_,rfl,SqL.of ((s2.trans (s3.trans s4)) _ _ g1),(by rw [List.length_map];omega),nd1,fun H5 s5=>?_⟩
 refine ⟨_,rfl,D2,_,rfl,SqL.of ((s3.trans (s4.trans s5)) _ _ g2),(by rw [List.length_map];omega),nd2,fun H6 s6=>?_⟩
 have t6:=t4.trans (s5.trans s6)
 have g6:=(s3.trans (s4.trans (s5.trans s6))) _ _ g2
 obtain ⟨b,ws,rfl,hb,hw⟩:=hho
 obtain ⟨c,zs,rfl,hc,hz⟩:=hh
 have lw:=hw.len
 have lz:=hz.len
 refine ⟨_,rfl,?_⟩
 dsimp only [tSeq,tCB,tCons]
 refine aNn ws (aAm ho (ps.map (·.2))) [none,some (.ref D2)] ?_ (small (by omega)) (fun R r=>gP (t6.aN hb) (fun R' r'=>⟨_,rfl,r'⟩) R r) (fun i x ex H' R l sm r=>?_) rfl fun D7 H7 s7 g7=>?_
 ·exact bU 4 (by decide +kernel) rfl rfl (by trivial)
 ·obtain ⟨d,hd',p,rfl,hp⟩:=aV hw ex
  refine ⟨_,rfl,p,_,0,_,rfl,rfl,sm.aN (t6.aN hp),at0 _ _,_,rfl,D2,_,rfl,.inl (SqL.of (sm _ _ g6)),rfl,xJ,_,rfl,?_⟩
  have e:aAm ho (ps.map (·.2)) i=!decide (d.1∈ps.map (·.2)):=by unfold aAm;rw [hd']
  rw [aCv]
  rw [e] at r
  exact r H' (Same.refl H')
 refine ⟨D7,_,rfl,SqL.of g7,fun t H8 _ s8 g8=>?_⟩
 have t8:=t6.trans (s7.trans s8)
 have lsel:=qU (aAm ho (ps.map (·.2))) 0 ws
 refine ⟨c,t,_,_,rfl,rfl,t8.aN hc,SqT.of g8,small (by omega),fun r H9 s9 g9=>?_⟩
 refine q _ _ (t8.trans s9) ⟨r,_,rfl,g9,(hz.imp fun _ _ h=>h.same (t8.trans s9)).app ?_⟩
 have e:sel (aAm ho (ps.map (·.2))) 0 ho=ho.filter fun c=>!decide (c.1∈ps.map (·.2)):=kZ fun i x ex=>by
  unfold aAm
  rw [Nat.zero_add,ex]
 rw [←e]
 exact (aDy hw 0).imp fun _ _ h=>h.same (t8.trans s9)
def smK (hd:Hdr) (s:Sm):Option Str:=match s.c with
 |none=>some "number"
 |some c=>look hd c
def aPi (K:PySem.W.Frag):Sp:=fun vs H Q _=>∃vh u hd s k,vs=[vh,u]∧cM K H vh hd∧fK K H u s∧smK hd s=some k∧Q (.str k) H
theorem aPl {x:Str} (h:aCw x):decide (V.str x=V.str "count")=false:=by
 rcases h with rfl|rfl|rfl <;> decide +kernel
theorem aFq (T:Txt w K mg) (dB:Ok P w K mg base 1 "kind_in" ["head","name"] (tO K)):Ok P w K mg base 2 "sum_kind" ["head","part"] (aPi K):=by
 refine Ok.ofV T.aHu aFe (fun vs H Q E h=>?_) (fun f cdv A outer s H vs Q E hr h=>?_)
 ·obtain ⟨vh,u,hd,s,k,rfl,_⟩:=h;rfl
 obtain ⟨vh,u,hd,sm,k,rfl,hh,⟨a,rfl,hn,hs⟩,hk,q⟩:=h
 refine ⟨_,(aF (aG (eE (aM op_eq (aJ ix_tup (vv 1) aD (fun _ _=>rfl)) aO (nomark _)) aO (aH (dB.mono (by decide)) hr (by rfl) (aB (vv 0) (aB (aJ ix_tup (vv 1) aD (fun _ _=>rfl)) aA)))))),?_⟩
 rcases hs with ⟨e,ec,ha⟩|⟨c,ec,hc,hw,ha⟩
 ·have ek:k = "number":=by
   unfold smK at hk
   rw [ec] at hk
   exact (Option.some.inj hk).symm
  subst ek
  exact ⟨_,rfl,a,_,0,_,rfl,rfl,ha,at0 _ _,rfl,_,rfl,iteT q⟩
 ·have hk':look hd c=some k:=by
   unfold smK at hk
   rw [ec] at hk
   exact hk
  refine ⟨_,rfl,a,_,0,_,rfl,rfl,ha,at0 _ _,rfl,_,rfl,?_⟩
  rw [aPl hw]
  exact iteF ⟨_,rfl,_,rfl,a,_,1,_,rfl,rfl,ha,at1 _ _ _,_,_,hd,k,rfl,hh,hk',q⟩
theorem aPs {H:Hp} {u:V} {s:Sm} (h:fK K H u s):∃a x,u=.ref a∧SqT K H a [.str s.wd,x,.str s.new]:=by
 obtain ⟨a,rfl,hn,hs⟩:=h
 rcases hs with ⟨e,ec,ha⟩|⟨c,ec,hc,hw,ha⟩
 ·exact ⟨a,_,rfl,by rw [e];exact ha⟩
 ·exact ⟨a,_,rfl,ha⟩
def lZ (hd:Hdr) (ss:List Sm) (js:List Str):Prop:=aZ (fun s j=>smK hd s=some j∧(s.wd = "sum"→j≠"word")) ss js
def aPe (K:PySem.W.Frag):Sp:=fun vs H Q _=>∃vh u x hd ns ss ks js,vs=[vh,u,x]∧cM K H vh hd∧aLn K H u ns∧ns.length≤100∧oR K H (fK K H) x ss∧ss.length≤100∧Looks hd ns ks∧lZ hd ss js ∧
 ∀v H',Same H H'→cM K H' v (ns.zip ks++(ss.map Sm.new).zip js)→Q v H'
theorem yG (T:Txt w K mg) (iC:Ok P w K mg base 2 "keep_head" ["head","names"] (aIk K)) (aGn:Ok P w K mg base 2 "sum_kind" ["head","part"] (aPi K)):Ok P w K mg base 3 "group_head" ["head","names","sums"] (aPe K):=by
 refine Ok.ofV T.aBh eF (fun vs H Q E h=>?_) (fun f cdv A outer s H vs Q E hr h=>?_)
 ·obtain ⟨vh,u,x,hd,ns,ss,ks,js,rfl,_⟩:=h;rfl
 obtain ⟨vh,u,x,hd,ns,ss,ks,js,rfl,hh,hns,hl,⟨a,us,rfl,ha,hu⟩,hl2,hks,hjs,q⟩:=h
 refine ⟨_,(aC (aR (i:=3) eF.nd rfl (by trivial) (aH (iC.mono (by decide)) hr (by rfl) (aB (vv 0) (aB (vv 1) aA)))) (aC (aR (i:=4) eF.nd rfl (by trivial) (bD bN (by rfl) T.bV bL (aB (bM (N:=["part","head"]) (by trivial) (bT (defScope iJ) rfl (by decide +kernel)) rfl (cY (vv 2)) (fun cl s' H' fp=>⟨(aK (i:=0) (show (["part","head"]:List Str).Nodup from by decide +kernel) rfl (Or.inl rfl)),bJ,(bY (aB (aJ (cT (K:=K)) (vv 0) aD (fun _ _=>rfl)) (aB (aH (aGn.mono (by decide)) hr (by rfl) (aB (vv 1) (aB (vv 0) aA))) aA)))⟩)) aA))) (aC (dR PassesOwn.never rfl (aBg (by rfl) T.aM3 (aB (vv 2) (aB (vv 4) aA))) (nO rfl (bB (aK (i:=5) eF.nd rfl (by trivial)) (bB (aK (i:=6) eF.nd rfl (by trivial)) dM))) (aF (bA (VW.pt (aBf (aM op_eq (aJ ix_tup (vv 5) aD (fun _ _=>rfl)) aO (nomark _)) (vV (aM op_eq (aJ ix_tup (vv 6) aD (fun _ _=>rfl)) aO (nomark _))))) (aF gG) aP))) (aF (aG (bK vN (vv 3) (vv 4))))))),?_⟩
 have lu:=hu.len
 have lj:=hjs.len
 have lk:=hks.len
 refine ⟨_,rfl,_,rfl,vh,u,hd,ns,ks,rfl,hh,hns,by omega,hks,fun kept H1 s1 hkept=>?_⟩
 dsimp only [gName,tSeq,tAsg,tCB,tCons]
 refine uL us (dN K ((ss.map Sm.new).zip js)) dN.st dN.su [none,some vh] ?_ (small (by omega)) (fun R r=>gP (s1.aN ha) (fun R' r'=>⟨_,rfl,r'⟩) R r) (fun i y ey H' R l sm r=>?_) rfl fun D H2 ys s2 hD hly hR=>?_
 ·exact bU 0 (by decide +kernel) rfl rfl (by trivial)
 ·obtain ⟨p,hp,hsm⟩:=aV hu ey
  obtain ⟨j,hj,hjk,_⟩:=aV hjs hp
  obtain ⟨b,z,rfl,hb⟩:=aPs hsm
  refine ⟨_,rfl,b,_,2,_,rfl,rfl,sm.aN (s1.aN hb),at2 _ _ _ _,_,rfl,_,rfl,_,_,hd,p,j,rfl,hh.same (s1.trans sm),hsm.same (s1.trans sm),hjk,(by show 2≤sizeLine;decide),fun t H3 _ s3 g3=>r _ _ s3 ⟨(p.new,j),t,aHq (by rw [List.getElem?_map,hp];rfl) hj,rfl,g3⟩⟩
 refine ⟨D,_,rfl,SqL.of hD,fun t H3 _ s3 g3=>?_⟩
 have lz:((ss.map Sm.new).zip js).length=ss.length:=by rw [List.length_zip,List.length_map];omega
 have hmade:cM K H3 (.ref t) ((ss.map Sm.new).zip js):=aC1 (SqT.of g3) (by rw [hly,lz];exact lu) fun i y e=>(hR i y e).st s3
 have t3:=s1.trans (s2.trans s3)
 dsimp only [gName,tSeq]
 refine ⟨_,rfl,_,rfl,a,t,us,ys,rfl,t3.aN ha,SqT.of g3,aO1 (fun i σ H'=>Same H3 H'∧∃l5 l6,σ=[some vh,some u,some (.ref a),some kept,some (.ref t),l5,l6]) (by rw [hly]) ⟨Same.refl _,_,_,rfl⟩ (fun i σ H' _ ⟨e,_⟩=>⟨e.aN (t3.aN ha),e.aN (SqT.of g3)⟩) ?_ ?_⟩
 ·rintro i σ H' x y Tp H'' ex ey ⟨sm,l5,l6,rfl⟩ hT rfl
  have s4:Same H' (upd H' Tp (.tup [x,y])):=aW hT _
  have t4:=sm.trans s4
  obtain ⟨p,hp,hsm⟩:=aV hu ex
  obtain ⟨j,hj,hjk,hjw⟩:=aV hjs hp
  obtain ⟨b,z,rfl,hb⟩:=aPs hsm
  obtain ⟨c,p2,e1,rfl,g5⟩:=hR i y ey
  have ec:c=(p.new,j):=by
   rw [aHq (n:=p.new) (k:=j) (by rw [List.getElem?_map,hp];rfl) hj] at e1
   exact (Option.some.inj e1).symm
  subst ec
  refine ⟨Tp,_,rfl,SqT.of upd_same,rfl,_,_,rfl,_,_,rfl,rfl,?_⟩
  refine ⟨_,rfl,b,_,0,_,rfl,rfl,t4.aN (t3.aN hb),at0 _ _,rfl,_,rfl,?_⟩
  refine ite2 (fun cs=>?_) (fun cs=>iteF ⟨t4,_,_,rfl⟩)
  have ew:p.wd = "sum":=V.str.inj (of_decide_eq_true cs)
  refine ⟨_,rfl,p2,_,1,_,rfl,rfl,SqT.of (t4 _ _ (s3 _ _ g5)),at1 _ _ _,rfl,_,rfl,?_⟩
  rw [decide_eq_false (by intro zz;exact hjw ew (V.str.inj zz))]
  exact iteF ⟨t4,_,_,rfl⟩
 ·rintro σ H' ⟨sm,l5,l6,rfl⟩
  obtain ⟨c,zs,rfl,hc,hz⟩:=hkept
  obtain ⟨c2,zs2,e2,hc2,hz2⟩:=hmade
  cases e2
  have l1:=hz.len
  have l2:=hz2.len
  have l3:(ns.zip ks).length≤100:=by rw [List.length_zip];omega
  refine ⟨_,rfl,_,rfl,c,t,_,_,rfl,rfl,(s2.trans (s3.trans sm)).aN hc,sm.aN hc2,small (by omega),fun r H5 s5 g5=>?_⟩
  refine q _ _ (t3.trans (sm.trans s5)) ⟨r,_,rfl,g5,(hz.imp fun _ _ h=>h.same (s2.trans (s3.trans (sm.trans s5)))).app (hz2.imp fun _ _ h=>h.same (sm.trans s5))⟩
def aPp (K:PySem.W.Frag):Sp:=fun vs H Q _=>∃vh u hd ps ks,vs=[vh,u]∧cM K H vh hd∧oR K H (rE K H) u ps∧ps.length≤100∧Looks hd (ps.map (·.1)) ks∧(ps.map (·.1)).Nodup∧∀H',Same H H'→Q vh H'
theorem zE (T:Txt w K mg) (iC:Ok P w K mg base 2 "keep_head" ["head","names"] (aIk K)) (cR:Ok P w K mg base 2 "need_unlike" ["names"] (aB2 K)):Ok P w K mg base 3 "first_head" ["head","keys"] (aPp K):=by
 refine Ok.ofV T.aBz pC (fun vs H Q E h=>?_) (fun f cdv A outer s H vs Q E hr h=>?_)
 ·obtain ⟨vh,u,hd,ps,ks,rfl,_⟩:=h;rfl
 obtain ⟨vh,u,hd,ps,ks,rfl,hh,⟨a,us,rfl,ha,hu⟩,hl,hks,nd,q⟩:=h
 refine ⟨_,(aC (gW (i0:=2) pC.nd rfl (by trivial) (N:=["key"]) (by trivial) (dZ (by decide +kernel)) rfl (cY (vv 1)) (fun cl s' H' fp=>⟨(aK (i:=0) (show (["key"]:List Str).Nodup from by decide +kernel) rfl (Or.inl rfl)),bJ,(aJ (cT (K:=K)) (vv 0) aD (fun _ _=>rfl))⟩)) (aC (bW (aH (iC.mono (by decide)) hr (by rfl) (aB (vv 0) (aB (vv 2) aA)))) (aC (bW (aH (cR.mono (by decide)) hr (by rfl) (aB (vv 2) aA))) (aF (aG (vv 0)))))),?_⟩
 have lu:=hu.len
 dsimp only [gName,tSeq,tAsg]
 refine cX us ((ps.map (·.1)).map V.str) (by rw [List.length_map,List.length_map];omega) [none] iT (small (by omega)) (fun R r=>gP ha (fun R' r'=>⟨_,rfl,r'⟩) R r) (fun i x y ex ey H' R l sm r=>?_) rfl fun D1 H1 s1 g1=>?_
 ·obtain ⟨p,hp,b,rfl,hb,_⟩:=aV hu ex
  obtain ⟨n,hn,rfl⟩:=eY ey
  rw [List.getElem?_map,hp] at hn
  cases hn
  exact ⟨_,rfl,b,_,0,_,rfl,rfl,sm.aN hb,at0 _ _,r H' (Same.refl H')⟩
 refine ⟨_,rfl,_,rfl,vh,_,hd,_,ks,rfl,hh.same s1,⟨D1,rfl,.inl (SqL.of g1)⟩,by rw [List.length_map];omega,hks,fun v H2 s2 _=>?_⟩
 refine ⟨_,rfl,D1,_,rfl,SqL.of (s2 _ _ g1),by rw [List.length_map];omega,nd,fun H3 s3=>?_⟩
 exact ⟨_,rfl,q H3 (s1.trans (s2.trans s3))⟩
def Good (hd:Hdr):Prop:=(hd.map (·.1)).Nodup∧1≤hd.length∧hd.length≤8
inductive HH (hs:Str→Option Hdr):Qn→List Hdr→Hdr→Prop
 |table {T hd}:hs T=some hd→HH hs (.table T) [] hd
 |whr {q ts hd}:(∀t∈ts,xH hd t)→HH hs (.whr q ts) [hd] hd
 |keep {q ns hd ks}:Looks hd ns ks→HH hs (.keep q ns) [hd] (ns.zip ks)
 |nmd {q ns hd}:ns.length=hd.length→HH hs (.nmd q ns) [hd] (List.zipWith (fun n c=>(n,c.2)) ns hd)
 |join {q r ps hd ho ks}:aZ (fun p k=>look hd p.1=some k∧look ho p.2=some k) ps ks→(ps.map (·.1)).Nodup→(ps.map (·.2)).Nodup→HH hs (.join q r ps) [hd,ho] (hd++ho.filter fun c=>!decide (c.1∈ps.map (·.2)))
 |group {q ns ss hd ks js}:Looks hd ns ks→lZ hd ss js→HH hs (.group q ns ss) [hd] (ns.zip ks++(ss.map Sm.new).zip js)
 |first {q ps m hd ks}:Looks hd (ps.map (·.1)) ks→(ps.map (·.1)).Nodup→HH hs (.first q ps m) [hd] hd
def iR (K:PySem.W.Frag) (H:Hp) (d:Addr) (hs:Str→Option Hdr):Prop:=∃kvs,H d=some (.dK kvs)∧∀n hd,hs n=some hd→∃v,valV kvs (Sum.inr n)=some v∧cM K H v hd
theorem iR.same {H H':Hp} {d:Addr} {hs:Str→Option Hdr} (e:Same H H') (h:iR K H d hs):iR K H' d hs:=by
 obtain ⟨kvs,hd,hh⟩:=h
 refine ⟨kvs,e _ _ hd,fun n hd hn=>?_⟩
 obtain ⟨v,h1,h2⟩:=hh n hd hn
 exact ⟨v,h1,h2.same e⟩
def aPw (K:PySem.W.Frag):Sp:=fun vs H Q _=>∃d v x us hs q ihds hd,vs=[.ref d,v,.ref x]∧iR K H d hs∧IsQ K H v q∧SqL K H x us∧aZ (cM K H) us ihds∧(∀h∈ihds,h.length≤100)∧HH hs q ihds hd∧∀v' H',Same H H'→cM K H' v' hd→Q v' H'
theorem aB3 (T:Txt w K mg) (aCg:Ok P w K mg base 1 "table_head" ["heads","name"] aPq) (aC2:Ok P w K mg base 4 "where_head" ["head","tests"] (aPf K)) (iC:Ok P w K mg base 2 "keep_head" ["head","names"] (aIk K))
  (aBn:Ok P w K mg base 1 "named_head" ["head","names"] (aLk K)) (aFa:Ok P w K mg base 3 "join_head" ["head","other","pairs"] (aPv K)) (aC7:Ok P w K mg base 3 "group_head" ["head","names","sums"] (aPe K))
  (aAx:Ok P w K mg base 3 "first_head" ["head","keys"] (aPp K)):Ok P w K mg base 5 "head_here" ["heads","question","inner"] (aPw K):=by
 refine Ok.ofV T.aE4 qQ (fun vs H Q E h=>?_) (fun f cdv A outer s H vs Q E hr h=>?_)
 ·obtain ⟨d,v,x,us,hs,q,ihds,hd,rfl,_⟩:=h;rfl
 obtain ⟨d,v,x,us,hs,q0,ihds,hd,rfl,hds,hq,hx,hu,hlen,hh,q⟩:=h
 refine ⟨_,(aC (aR (i:=3) qQ.nd rfl (by trivial) (aJ ix_tup (vv 1) aD (fun _ _=>rfl))) (aC (bA (aM op_eq (vv 3) aO (nomark _)) (aF (aG (aH (aCg.mono (by decide)) hr (by rfl) (aB (vv 0) (aB (aJ ix_tup (vv 1) aD (fun _ _=>rfl)) aA))))) aP) (aC (bA (aM op_eq (vv 3) aO (nomark _)) (aF (aG (aH (aC2.mono (by decide)) hr (by rfl) (aB (aJ ix_list (vv 2) aD (fun _ _=>rfl)) (aB (aJ ix_tup (vv 1) aD (fun _ _=>rfl)) aA))))) aP) (aC (bA (aM op_eq (vv 3) aO (nomark _)) (aF (aG (aH (iC.mono (by decide)) hr (by rfl) (aB (aJ ix_list (vv 2) aD (fun _ _=>rfl)) (aB (aJ ix_tup (vv 1) aD (fun _ _=>rfl)) aA))))) aP) (aC (bA (aM op_eq (vv 3) aO (nomark _)) (aF (aG (aH (aBn.mono (by decide)) hr (by rfl) (aB (aJ ix_list (vv 2) aD (fun _ _=>rfl)) (aB (aJ ix_tup (vv 1) aD (fun _ _=>rfl)) aA))))) aP) (aC (bA (aM op_eq (vv 3) aO (nomark _)) (aF (aG (aH (aFa.mono (by decide)) hr (by rfl) (aB (aJ ix_list (vv 2) aD (fun _ _=>rfl)) (aB (aJ ix_list (vv 2) aD (fun _ _=>rfl)) (aB (aJ ix_tup (vv 1) aD (fun _ _=>rfl)) aA)))))) aP) (aC (bA (aM op_eq (vv 3) aO (nomark _)) (aF (aG (aH (aC7.mono (by decide)) hr (by rfl) (aB (aJ ix_list (vv 2) aD (fun _ _=>rfl)) (aB (aJ ix_tup (vv 1) aD (fun _ _=>rfl)) (aB (aJ ix_tup (vv 1) aD (fun _ _=>rfl)) aA)))))) aP) (aF (aG (aH (aAx.mono (by decide)) hr (by rfl) (aB (aJ ix_list (vv 2) aD (fun _ _=>rfl)) (aB (aJ ix_tup (vv 1) aD (fun _ _=>rfl)) aA)))))))))))),?_⟩
 cases hh with
 |table hT=>
  cases hq with
  |table a b=>
   obtain ⟨kvs,hd',hmem⟩:=hds
   obtain ⟨v',hv',hI⟩:=hmem _ _ hT
   refine ⟨_,rfl,_,_,0,_,rfl,rfl,a,at0 _ _,?_⟩
   exact ⟨_,rfl,rfl,_,rfl,iteT ⟨_,rfl,_,rfl,_,_,1,_,rfl,rfl,a,at1 _ _ _,d,_,v',kvs,rfl,hd',hv',q _ _ (Same.refl H) hI⟩⟩
 |whr ht=>
  cases hq with
  |whr a b c=>
   cases hu with
   |cons h1 t1=>
    cases t1
    refine ⟨_,rfl,_,_,0,_,rfl,rfl,a,at0 _ _,?_⟩
    refine ⟨_,rfl,rfl,_,rfl,iteF ⟨_,rfl,rfl,_,rfl,iteT ?_⟩⟩
    exact ⟨_,rfl,x,_,0,_,rfl,rfl,hx,at0 _ _,_,rfl,_,_,2,_,rfl,rfl,a,at2 _ _ _ _,_,_,_,_,rfl,h1,c.1,by have:=c.2.2;omega,ht,fun H' s'=>q _ _ s' (h1.same s')⟩
 |keep hk=>
  cases hq with
  |keep a b c=>
   cases hu with
   |cons h1 t1=>
    cases t1
    refine ⟨_,rfl,_,_,0,_,rfl,rfl,a,at0 _ _,?_⟩
    refine ⟨_,rfl,rfl,_,rfl,iteF ⟨_,rfl,rfl,_,rfl,iteF ⟨_,rfl,rfl,_,rfl,iteT ?_⟩⟩⟩
    exact ⟨_,rfl,x,_,0,_,rfl,rfl,hx,at0 _ _,_,rfl,_,_,2,_,rfl,rfl,a,at2 _ _ _ _,_,_,_,_,_,rfl,h1,aMy c,by have:=c.2.2;omega,hk,fun v' H' s' h'=>q _ _ s' h'⟩
 |nmd hl=>
  cases hq with
  |nmd a b c=>
   cases hu with
   |cons h1 t1=>
    cases t1
    obtain ⟨⟨n,ws,rfl,hn,hw⟩,c1,c2⟩:=c
    rw [vZ hw] at hn
    refine ⟨_,rfl,_,_,0,_,rfl,rfl,a,at0 _ _,?_⟩
    refine ⟨_,rfl,rfl,_,rfl,iteF ⟨_,rfl,rfl,_,rfl,iteF ⟨_,rfl,rfl,_,rfl,iteF ⟨_,rfl,rfl,_,rfl,iteT ?_⟩⟩⟩⟩
    exact ⟨_,rfl,x,_,0,_,rfl,rfl,hx,at0 _ _,_,rfl,_,_,2,_,rfl,rfl,a,at2 _ _ _ _,_,_,_,_,rfl,h1,⟨n,rfl,hn⟩,by omega,hl,fun v' H' s' h'=>q _ _ s' h'⟩
 |join hk n1 n2=>
  cases hq with
  |join a b c e=>
   cases hu with
   |cons h1 t1=>
    cases t1 with
    |cons h2 t2=>
     cases t2
     refine ⟨_,rfl,_,_,0,_,rfl,rfl,a,at0 _ _,?_⟩
     refine ⟨_,rfl,rfl,_,rfl,iteF ⟨_,rfl,rfl,_,rfl,iteF ⟨_,rfl,rfl,_,rfl,iteF ⟨_,rfl,rfl,_,rfl,iteF ⟨_,rfl,rfl,_,rfl,iteT ?_⟩⟩⟩⟩⟩
     exact ⟨_,rfl,x,_,0,_,rfl,rfl,hx,at0 _ _,_,rfl,x,_,1,_,rfl,rfl,hx,at1 _ _ _,_,rfl,_,_,3,_,rfl,rfl,a,atI_nat (j:=3) rfl,_,_,_,_,_,_,_,rfl,h1,h2,e.1,by have:=e.2.2;omega,hlen _ (by simp),hlen _ (by simp),hk,n1,n2,fun v' H' s' h'=>q _ _ s' h'⟩
 |group hk hj=>
  cases hq with
  |group a b c e=>
   cases hu with
   |cons h1 t1=>
    cases t1
    refine ⟨_,rfl,_,_,0,_,rfl,rfl,a,at0 _ _,?_⟩
    refine ⟨_,rfl,rfl,_,rfl,iteF ⟨_,rfl,rfl,_,rfl,iteF ⟨_,rfl,rfl,_,rfl,iteF ⟨_,rfl,rfl,_,rfl,iteF ⟨_,rfl,rfl,_,rfl,iteF ⟨_,rfl,rfl,_,rfl,iteT ?_⟩⟩⟩⟩⟩⟩
    exact ⟨_,rfl,x,_,0,_,rfl,rfl,hx,at0 _ _,_,rfl,_,_,2,_,rfl,rfl,a,at2 _ _ _ _,_,rfl,_,_,3,_,rfl,rfl,a,atI_nat (j:=3) rfl,_,_,_,_,_,_,_,_,rfl,h1,aMy c,by have:=c.2.2;omega,e.1,by have:=e.2.2;omega,hk,hj,fun v' H' s' h'=>q _ _ s' h'⟩
 |first hk nd=>
  cases hq with
  |first a b c e=>
   cases hu with
   |cons h1 t1=>
    cases t1
    refine ⟨_,rfl,_,_,0,_,rfl,rfl,a,at0 _ _,?_⟩
    refine ⟨_,rfl,rfl,_,rfl,iteF ⟨_,rfl,rfl,_,rfl,iteF ⟨_,rfl,rfl,_,rfl,iteF ⟨_,rfl,rfl,_,rfl,iteF ⟨_,rfl,rfl,_,rfl,iteF ⟨_,rfl,rfl,_,rfl,iteF ?_⟩⟩⟩⟩⟩⟩
    exact ⟨_,rfl,x,_,0,_,rfl,rfl,hx,at0 _ _,_,rfl,_,_,2,_,rfl,rfl,a,at2 _ _ _ _,_,_,_,_,_,rfl,h1,c.1,by have:=c.2.2;omega,hk,nd,fun H' s'=>q _ _ s' (h1.same s')⟩
inductive HQ (hs:Str→Option Hdr):Qn→Hdr→Prop
 |mk0 {q hd}:kids q=[]→HH hs q [] hd→Good hd→HQ hs q hd
 |mk1 {q k h1 hd}:kids q=[k]→HQ hs k h1→HH hs q [h1] hd→Good hd→HQ hs q hd
 |mk2 {q k l h1 h2 hd}:kids q=[k,l]→HQ hs k h1→HQ hs l h2→HH hs q [h1,h2] hd→Good hd→HQ hs q hd
theorem HQ.good {hs:Str→Option Hdr} {q:Qn} {hd:Hdr} (h:HQ hs q hd):Good hd:=by cases h <;> assumption
theorem HQ.in {hs:Str→Option Hdr} {q:Qn} {hd:Hdr} (h:HQ hs q hd):∃ihds,aZ (HQ hs) (kids q) ihds∧HH hs q ihds hd∧Good hd:=by
 cases h with
 |mk0 e a b=>exact ⟨[],by rw [e];exact .nil,a,b⟩
 |mk1 e k a b=>exact ⟨[_],by rw [e];exact .cons k .nil,a,b⟩
 |mk2 e k l a b=>exact ⟨[_,_],by rw [e];exact .cons k (.cons l .nil),a,b⟩
def aGp (K:PySem.W.Frag):Sp:=fun vs H Q _=>∃v hd,vs=[v]∧cM K H v hd∧hd.length≤1000∧∀D H',Same H H'→H' D=some (.lst ((hd.map (·.1)).map V.str))→Q (.ref D) H'
theorem rY (T:Txt w K mg):Ok P w K mg base 1 "names_of" ["head"] (aGp K):=by
 refine Ok.ofV T.aHi aD8 (fun vs H Q E h=>?_) (fun f cdv A outer s H vs Q E hr h=>?_)
 ·obtain ⟨v,hd,rfl,_⟩:=h;rfl
 obtain ⟨v,hd,rfl,⟨a,us,rfl,ha,hu⟩,hl,q⟩:=h
 refine ⟨_,(aF (aG (bM (N:=["column"]) (by trivial) (dZ (by decide +kernel)) rfl (cY (vv 0)) (fun cl s' H' fp=>⟨(aK (i:=0) (show (["column"]:List Str).Nodup from by decide +kernel) rfl (Or.inl rfl)),bJ,(aJ (cT (K:=K)) (vv 0) aD (fun _ _=>rfl))⟩)))),?_⟩
 have lu:=hu.len
 refine cX us ((hd.map (·.1)).map V.str) (by rw [List.length_map,List.length_map];omega) [none] iT (small (by omega)) (fun R r=>gP ha (fun R' r'=>⟨_,rfl,r'⟩) R r) (fun i x y ex ey H' R l sm r=>?_) rfl fun D H' sm hD=>q D H' sm hD
 obtain ⟨c,hc,p,rfl,hp⟩:=aV hu ex
 obtain ⟨n,hn,rfl⟩:=eY ey
 rw [List.getElem?_map,hc] at hn
 cases hn
 exact ⟨_,rfl,p,_,0,_,rfl,rfl,sm.aN hp,at0 _ _,r H' (Same.refl H')⟩
def aP2 (K:PySem.W.Frag) (n:Nat):Sp:=fun vs H Q _=>∃d v hs q hd,vs=[.ref d,v]∧iR K H d hs∧IsQ K H v q∧size q≤n∧HQ hs q hd∧∀v' H',Same H H'→cM K H' v' hd→Q v' H'
theorem aAd {k:Qn}:∀{qs:List Qn},k∈qs→size k≤sizes qs
 |q::qs,h=>by
  show size k≤(((q::qs).map size).sum)
  rw [List.map_cons,List.sum_cons]
  rcases List.mem_cons.mp h with rfl|h
  ·omega
  ·have:=aAd h
   unfold sizes at this
   omega
theorem aFb {q k:Qn} (h:k∈kids q) {K:PySem.W.Frag} {H:Hp} {v:V} (hq:IsQ K H v q):size k<size q:=by
 have e:=mY q
 have o:=qP hq
 have:size k≤sizes (kids q):=by
  exact aAd h
 omega
theorem aQt {α:Type} {l:List α} {i:Nat} {x:α} (h:l[i]?=some x):x∈l:=List.mem_of_getElem? h
theorem oG (T:Txt w K mg) (cL:Ok P w K mg base 1 "questions_in" ["question"] (aJd K)) (uT:Ok P w K mg base 5 "head_here" ["heads","question","inner"] (aPw K)) (cR:Ok P w K mg base 2 "need_unlike" ["names"] (aB2 K)) (lA:Ok P w K mg base 1 "names_of" ["head"] (aGp K)) :
  ∀n:Nat,Ok P w K mg base (n+6) "head_within" ["heads","question"] (aP2 K n)
 |0=>by
  refine Ok.ofV T.oZ fQ (fun vs H Q E h=>?_) (fun f cdv A outer s H vs Q E hr h=>?_)
  ·obtain ⟨d,v,hs,q,hd,rfl,_⟩:=h;rfl
  ·obtain ⟨d,v,hs,q,hd,rfl,_,hq,hz,_⟩:=h
   have e:=mY q
   have o:=qP hq
   omega
 |n+1=>by
  have jR:=oG T cL uT cR lA n
  refine Ok.ofV T.oZ fQ (fun vs H Q E h=>?_) (fun f cdv A outer s H vs Q E hr h=>?_)
  ·obtain ⟨d,v,hs,q,hd,rfl,_⟩:=h;rfl
  obtain ⟨d,v,hs,q0,hd,rfl,hds,hq,hz,hh,q⟩:=h
  obtain ⟨ihds,hin,hone,hgood⟩:=hh.in
  refine ⟨_,(aC (gW (i0:=2) fQ.nd rfl (by trivial) (N:=["part","heads"]) (by trivial) (bT (defScope gZ) rfl (by decide +kernel)) rfl (cN (aH (cL.mono (by omega)) hr (by rfl) (aB (vv 1) aA))) (fun cl s' H' fp=>⟨(aK (i:=0) (show (["part","heads"]:List Str).Nodup from by decide +kernel) rfl (Or.inl rfl)),bJ,(aH (jR.mono (by omega)) hr (by rfl) (aB (vv 1) (aB (vv 0) aA)))⟩)) (aC (aR (i:=3) fQ.nd rfl (by trivial) (aH (uT.mono (by omega)) hr (by rfl) (aB (vv 0) (aB (vv 1) (aB (vv 2) aA))))) (aC (bW (aH (cR.mono (by omega)) hr (by rfl) (aB (aH (lA.mono (by omega)) hr (by rfl) (aB (vv 3) aA)) aA))) (aC (bA (dC (aD1 op_le op_le aD (aL call_len_seq (by rfl) T.cZ cA (aB (vv 3) aA)) (dF (by rfl) T.wV))) (aF gG) aP) (aF (aG (vv 3))))))),?_⟩
  have l2:=hin.len
  have lk:(kids q0).length≤2:=by cases q0 <;> simp [kids]
  dsimp only [tSeq,tAsg]
  refine aAo (K:=K) (fun us=>aZ (IsQ K H) us (kids q0)) (fun i H y=>∃h,ihds[i]?=some h∧cM K H y h) (fun e h=>?_) (fun e h=>?_) [none,some (.ref d)] ?_ rfl (fun R r=>⟨_,rfl,v,q0,H,rfl,Same.refl H,hq,fun D H1 us fD s1 gD hus=>r D H1 us s1 gD hus⟩) (fun us hus=>small (by have:=hus.len;omega)) (fun us hus i x ex H' R l sm r=>?_) fun us hus D2 H2 ys t2 g2 hly hR=>?_
  ·obtain ⟨h,h1,h2⟩:=h
   exact ⟨h,h1,h2.same e⟩
  ·obtain ⟨h,h1,⟨a,vs,rfl,ha,hv⟩⟩:=h
   exact ⟨h,h1,a,vs,rfl,ha.lG e,hv.imp fun _ _ ⟨p,ep,hp⟩=>⟨p,ep,hp.lG e⟩⟩
  ·exact bU 0 (by decide +kernel) rfl rfl (by trivial)
  ·obtain ⟨k,hk,hkq⟩:=aV hus ex
   obtain ⟨h,hh',hkh⟩:=aV hin hk
   have hkz:=aFb (aQt hk) hq
   exact ⟨_,rfl,_,rfl,d,x,hs,k,h,rfl,hds.same sm,hkq.same sm,by omega,hkh,fun v' H3 s3 h3=>r _ _ s3 ⟨h,hh',h3⟩⟩
  have l1:=hus.len
  have hall:aZ (cM K H2) ys ihds:=aDg (by omega) fun i y h e1 e2=>by
   obtain ⟨h',e3,q3⟩:=hR i y e1
   rw [e2] at e3
   cases e3
   exact q3
  have hl100:∀h∈ihds,h.length≤100:=fun h hm=>by
   obtain ⟨i,hi,e⟩:=List.getElem_of_mem hm
   have hi':i<(kids q0).length:=by omega
   have:=(cI hin (List.getElem?_eq_getElem hi') (by rw [List.getElem?_eq_getElem hi,e])).good
   have:=this.2.2
   omega
  refine ⟨_,rfl,_,rfl,_,rfl,d,v,D2,ys,hs,q0,ihds,hd,rfl,hds.same t2,hq.same t2,SqL.of g2,hall,hl100,hone,fun v' H3 s3 h3=>?_⟩
  obtain ⟨g1,g2',g3⟩:=hgood
  refine ⟨_,rfl,v',hd,rfl,h3,by omega,fun D4 H4 s4 g4=>?_⟩
  refine ⟨D4,hd.map (·.1),rfl,SqL.of g4,(by rw [List.length_map];omega),g1,fun H5 s5=>?_⟩
  obtain ⟨a,zs,rfl,ha,hz'⟩:=h3
  have lz:=hz'.len
  refine ⟨_,rfl,_,_,rfl,.inr ((s4.trans s5).aN ha),_,_,rfl,rfl,_,rfl,?_⟩
  have e1:decide ((1:Int)≤(zs.length:Int))=true:=decide_eq_true (by omega)
  have e2:decide ((zs.length:Int)≤8)=true:=decide_eq_true (by omega)
  rw [e1]
  refine iteT ⟨_,_,rfl,rfl,_,rfl,?_⟩
  rw [e2]
  exact iteF ⟨_,rfl,q _ _ (t2.trans (s3.trans (s4.trans s5))) ⟨a,zs,rfl,(s4.trans s5).aN ha,hz'.imp fun _ _ h=>h.same (s4.trans s5)⟩⟩
def aEc (K:PySem.W.Frag):Sp:=fun vs H Q _=>∃d v hs q hd,vs=[.ref d,v]∧iR K H d hs∧IsQ K H v q∧size q≤20∧HQ hs q hd∧∀v' H',Same H H'→cM K H' v' hd→Q v' H'
theorem aHt (T:Txt w K mg) (jR:Ok P w K mg base 26 "head_within" ["heads","question"] (aP2 K 20)) (aK8:Ok P w K mg base 8 "checked" ["thing"] (aL6 K)):Ok P w K mg base 27 "head_of" ["heads","question"] (aEc K):=by
 refine Ok.ofV T.aKd aGl (fun vs H Q E h=>?_) (fun f cdv A outer s H vs Q E hr h=>?_)
 ·obtain ⟨d,v,hs,q,hd,rfl,_⟩:=h;rfl
 obtain ⟨d,v,hs,q0,hd,rfl,hds,hq,hz,hh,q⟩:=h
 refine ⟨_,(aF (aG (aH (jR.mono (by decide)) hr (by rfl) (aB (vv 0) (aB (aH (aK8.mono (by decide)) hr (by rfl) (aB (vv 1) aA)) aA))))),?_⟩
 exact ⟨_,rfl,_,rfl,v,q0,rfl,hq,hz,fun H1 s1=>⟨d,v,hs,q0,hd,rfl,hds.same s1,hq.same s1,hz,hh,fun v' H2 s2 h2=>q _ _ (s1.trans s2) h2⟩⟩
end
end My
namespace L2
open PySem PySem.Spec PyProof.Rows
section
variable {X:Cx}
def aSp (K:PySem.W.Frag):List V→Hp→VK→Prop:=fun xs H Q=>∃(p:Addr) (bs:List Bool),xs=[.ref p]∧SqL K H p (bs.map V.bl)∧Q (.bl (bs.any id)) H
theorem any_range (bs:List Bool):(List.range bs.length).any (fun i=>bs.getD i false)=bs.any id:=by
 rw [Bool.eq_iff_iff,List.any_eq_true,List.any_eq_true]
 constructor
 ·rintro ⟨i,hi,h⟩
  have hi:=List.mem_range.mp hi
  rw [List.getD_eq_getElem?_getD,List.getElem?_eq_getElem hi] at h
  exact ⟨_,List.getElem_mem hi,h⟩
 ·rintro ⟨b,hb,h⟩
  obtain ⟨i,hi,e⟩:=List.mem_iff_getElem.mp hb
  refine ⟨i,List.mem_range.mpr hi,?_⟩
  rw [List.getD_eq_getElem?_getD,List.getElem?_eq_getElem hi]
  show bs[i]=true
  rw [e]
  exact h
theorem aGd (hc:X.calm=true):CallR X (.builtin "any") (aSp X.K):=by
 intro pins s σ H xs us Q I r h
 obtain ⟨p,bs,rfl,hq,q⟩:=h
 obtain ⟨u,rfl,rx⟩:=r.one
 cases rx
 obtain ⟨its,rv,pl,hz⟩:=I.list hq
 have hl:=rv.length
 rw [List.length_map] at hl
 have hne:p≠s.heap.objs.size:=by
  obtain ⟨o,ho,_⟩:=pl.isList
  exact Nat.ne_of_lt (Heap.lt_size ho)
 refine call_any_walk (wpAny_pyIter_list pl.isList ?_)
 refine ⟨s.heap.objs.size,_,_,_,_,_,fun i=>bs.getD i false,rfl,Walks.list (show X.A.in1.handled=none from I.ok.hd hc) _ p hne its.toArray,⟨⟨_,Heap.get?_push_size _ rfl,rfl,rfl⟩,?_⟩,?_,fun h' tk kp=>?_⟩
 ·exact pl.isList.at fun o e=>Heap.get?_push_of_some _ e
 ·intro i v s' Q' E' hv hq'
  have hv':its[i]?=some v:=by simpa using hv
  have hi:i<bs.length:=by rw [hl];exact (List.getElem?_eq_some_iff.mp hv').1
  obtain ⟨u,hu,ru⟩:=rv.get (i:=i) (x:=.bl bs[i]) (by rw [List.getElem?_map,List.getElem?_eq_getElem hi];rfl)
  rw [hv'] at hu
  cases hu
  cases ru
  have e:bs.getD i false=bs[i]:=by rw [List.getD_eq_getElem?_getD,List.getElem?_eq_getElem hi];rfl
  replace hq':Q' (bs.getD i false) s':=hq'
  rw [e] at hq'
  exact wpAny_truthy_bool hq'
 ·have e:(List.range its.toArray.size).any (fun i=>bs.getD i false)=bs.any id:=by
   rw [List.size_toArray,←hl];exact any_range bs
  rw [e]
  refine ⟨.bl (bs.any id),H,?_,rfl,q⟩
  exact I.kept fun b o eo=>kp b o (by
   intro z
   have:b=s.heap.objs.size:=by simpa using z
   rw [this] at eo
   exact absurd (Heap.lt_size eo) (Nat.lt_irrefl _)) (Heap.get?_push_of_some _ eo)
def aQr:List V→Hp→VK→Prop:=fun xs H Q=>∃z:Str,xs=[.str z]∧z.length≤1000∧∀l H',H l=none→Same H H'→H' l=some (.lst ((List.range z.cps.size).map fun i=>V.str (sgn z i)))→Q (.ref l) H'
theorem xX (z:Str):∀(n k:Nat) (vs:List Value),vs.length=n→(∀(j:Nat) (v:Value),vs[j]?=some v→∃t,v=.str (sgn z (k+j)) t)→Vals ((List.range' k n).map fun i=>V.str (sgn z i)) vs
 |0,k,[],_,_=>.nil
 |n+1,k,v::vs,hl,h=>by
  obtain ⟨t,rfl⟩:=h 0 v rfl
  rw [List.range'_succ,List.map_cons]
  refine .cons ⟨t,rfl⟩ (xX z n (k+1) vs (by simpa using hl) fun j u e=>?_)
  obtain ⟨t',e'⟩:=h (j+1) u e
  exact ⟨t',by rw [e',show k+(j+1)=k+1+j by omega]⟩
theorem aG7 (hc:X.calm=true):CallR X (.type "list") aQr:=by
 intro pins s σ H xs us Q I r h
 obtain ⟨z,rfl,hl,q⟩:=h
 obtain ⟨u,rfl,t,rfl⟩:=vals1 r
 refine call_list_str (I.ok.hd hc) z t (fun h' tk acc' c' kp hS hacc=>?_) (small hl)
 have hv:=xX z z.cps.size 0 acc'.toList (by rw [Array.length_toList];exact hacc.1) fun j v e=>by
  have hj:=hacc.2 j v (by rw [←Array.getElem?_toList];exact e)
  obtain ⟨c,t',e1,e2⟩:=hj
  refine ⟨t',?_⟩
  rw [e2]
  unfold sgn
  rw [Nat.zero_add,Array.getD_eq_getD_getElem?,e1]
  rfl
 rw [←List.range_eq_range'] at hv
 have ea:acc'.toList.toArray=acc':=by simp
 have hf:H s.heap.objs.size=none:=I.hok.fresh (Nat.le_refl _)
 refine ⟨.ref s.heap.objs.size,_,I.laid (t':=tk) (o:=.lst ((List.range z.cps.size).map fun i=>V.str (sgn z i))) kp (Nat.le_refl _) ?_,rfl,q _ _ hf (aW hf _) upd_same⟩
 refine ⟨by rw [List.length_map,List.length_range];exact small hl,acc'.toList,c',hv,?_⟩
 rw [ea]
 exact hS
end
theorem aIi {X:Cx} {K:PySem.W.Frag} (h:X.K=K:=by rfl):OpR X (compareOp .In) (rIn K false):=by subst h;exact op_in_seq
structure aOe (E:Hp→Hp→Prop) (H:Hp):Prop where
 new:∀D o,H D=none→E H (upd H D o)
 trans:∀{H1 H2},E H H1→E H1 H2→E H H2
 upd:∀D o H',H D=none→E H H'→E H (upd H' D o)
 keep:∀D H1 H2 xs,H D=none→E H H1→H1 D=some (.lst xs)→E H1 H2→H2 D=some (.lst xs)
theorem oO (H:Hp):aOe Same H:=⟨fun D o h=>aW h o,fun a b=>a.trans b,fun D o H' h s=>bR h s,fun D H1 H2 xs _ _ h s=>s _ _ h⟩
def wW (J:It) (H1:Hp) (σ0:L2.St) (g:TG) (tt:TT) (te:TE) (Q:VK):Prop:=∀D,H1 D=none→∃W:Nat→Nat→L2.St→Hp→List V→Prop,(∃m,W 0 m σ0 (L2.upd H1 D (.lst [])) []) ∧
 ∀i m σ' H' ys,W i m σ' H' ys→H' D=some (.lst ys)∧((J.stop i H'∧Q (.ref D) H')∨(J.go i H'∧∀x H2,J.yld i H' x H2→g x σ' H2 fun σ3 H3=>tt σ3 H3 fun b H4=>
  if b=true then te σ3 H4 fun y H5=>H5 D=some (.lst ys)∧ys.length<sizeLine∧∃m',m'<m∧W (i+1) m' σ3 (L2.upd H5 D (.lst (ys++[y]))) (ys++[y]) else H4 D=some (.lst ys)∧∃m',m'<m∧W (i+1) m' σ3 H4 ys))
section
variable {X:Cx} {K:PySem.W.Frag} {scope:Scope} {N:List Str} {tl te:TE} {tt:TT} {g:TG} {σ:L2.St} {H:Hp} {Q:VK}
theorem jY (σ0:L2.St) (cap:Cap X scope N σ σ0) (h:tl σ H fun v H1=>∃a,v=.ref a∧(∃xs,SqL K H1 a xs)∧wW (Itl K a) H1 σ0 g tt te Q):eX X scope N (iList K tl) g tt te σ H Q:=⟨σ0,cap,h⟩
theorem xT (σ0:L2.St) (cap:Cap X scope N σ σ0) (h:tl σ H fun v H1=>∃a,v=.ref a∧(∃xs,SqT K H1 a xs)∧wW (Itt K a) H1 σ0 g tt te Q):eX X scope N (iTup K tl) g tt te σ H Q:=⟨σ0,cap,h⟩
theorem aA6 {a:Addr} {xs:List V} {E:Hp→Hp→Prop} (hS:∀H',E H H'→SqT K H' a xs):∀H' i x,E H H'→xs[i]?=some x→(Itt K a).go i H'∧∀y H2,(Itt K a).yld i H' y H2→H2=H'∧y=x:=fun H' i x s e=>
 ⟨⟨xs,x,hS H' s,e⟩,fun y H2 hy=>by
  obtain ⟨e1,e2⟩:=hy
  have e3:=e2 xs (hS H' s)
  rw [e] at e3
  cases e3
  exact ⟨e1,rfl⟩⟩
theorem rQ {a:Addr} {xs:List V} {E:Hp→Hp→Prop} (hS:∀H',E H H'→SqT K H' a xs):∀H',E H H'→(Itt K a).stop xs.length H':=fun H' s=>⟨xs,hS H' s,Nat.le_refl _⟩
theorem vY {a:Addr} {xs:List V} {E:Hp→Hp→Prop} (hS:∀H',E H H'→SqL K H' a xs):∀H' i x,E H H'→xs[i]?=some x→(Itl K a).go i H'∧∀y H2,(Itl K a).yld i H' y H2→H2=H'∧y=x:=fun H' i x s e=>
 ⟨⟨xs,x,hS H' s,e⟩,fun y H2 hy=>by
  obtain ⟨e1,e2⟩:=hy
  have e3:=e2 xs (hS H' s)
  rw [e] at e3
  cases e3
  exact ⟨e1,rfl⟩⟩
theorem oM {a:Addr} {xs:List V} {E:Hp→Hp→Prop} (hS:∀H',E H H'→SqL K H' a xs):∀H',E H H'→(Itl K a).stop xs.length H':=fun H' s=>⟨xs,hS H' s,Nat.le_refl _⟩
inductive iY (R:Nat→V→Prop):List Nat→List V→Prop
 |nil:iY R [] []
 |cons {i y is ys}:R i y→iY R is ys→iY R (i::is) (y::ys)
theorem iY.snoc {R:Nat→V→Prop} {is:List Nat} {ys:List V} {i:Nat} {y:V} (h:iY R is ys) (r:R i y):iY R (is++[i]) (ys++[y]):=by
 induction h with
 |nil=>exact .cons r .nil
 |cons r' _ ih=>exact .cons r' ih
theorem iY.imp {R S:Nat→V→Prop} {is:List Nat} {ys:List V} (h:iY R is ys) (k:∀i y,R i y→S i y):iY S is ys:=by
 induction h with
 |nil=>exact .nil
 |cons r _ ih=>exact .cons (k _ _ r) ih
theorem iY.len {R:Nat→V→Prop} {is:List Nat} {ys:List V} (h:iY R is ys):is.length=ys.length:=by
 induction h with
 |nil=>rfl
 |cons _ _ ih=>rw [List.length_cons,List.length_cons,ih]
theorem uW {σ0:L2.St} (E:Hp→Hp→Prop) (eo:aOe E H) (xs:List V) (p:Nat→Bool) (Rel:Nat→Hp→V→Prop)
  (st:∀{i H1 H2 y},E H H1→E H1 H2→Rel i H1 y→Rel i H2 y) (su:∀{i H1 D ys zs y},H D=none→E H H1→H1 D=some (.lst ys)→Rel i H1 y→Rel i (L2.upd H1 D (.lst zs)) y)
  (At:Nat→L2.St→Prop) (Ps:L2.St→Prop) (h0:Ps σ0) (hsz:xs.length≤sizeLine)
  (J:It) (go:∀H' i x,E H H'→xs[i]?=some x→J.go i H'∧∀y H2,J.yld i H' y H2→H2=H'∧y=x) (stop:∀H',E H H'→J.stop xs.length H')
  (hg:∀(i:Nat) (x:V) σ' H' Q',xs[i]?=some x→Ps σ'→E H H'→(∀σ2,Ps σ2→At i σ2→Q' σ2 H')→g x σ' H' Q')
  (ht:∀(i:Nat) (x:V) σ2,xs[i]?=some x→At i σ2→∀H' R,E H H'→(∀H2,E H' H2→R (p i) H2)→tt σ2 H' R)
  (he:∀(i:Nat) (x:V) σ2,xs[i]?=some x→At i σ2→p i=true→∀H' R,E H H'→(∀y H2,E H' H2→Rel i H2 y→R y H2)→te σ2 H' R)
  (q:∀D H' ys,E H H'→H D=none→H' D=some (.lst ys)→iY (fun i y=>Rel i H' y) (sel p 0 (List.range xs.length)) ys→Q (.ref D) H'):wW J H σ0 g tt te Q:=by
 intro D hD
 refine ⟨fun i m σ' H' ys=>i≤xs.length∧m=xs.length - i∧Ps σ'∧E H H'∧H' D=some (.lst ys)∧iY (fun i y=>Rel i H' y) (sel p 0 (List.range i)) ys,⟨xs.length,Nat.zero_le _,rfl,h0,eo.new _ _ hD,upd_same,.nil⟩,?_⟩
 rintro i m σ' H' ys ⟨hi,rfl,hps,sm,hL,hR⟩
 refine ⟨hL,?_⟩
 by_cases hlt:i<xs.length
 ·right
  have hx:=List.getElem?_eq_getElem hlt
  obtain ⟨g1,g2⟩:=go H' i xs[i] sm hx
  refine ⟨g1,fun x H2 hy=>?_⟩
  obtain ⟨rfl,rfl⟩:=g2 x H2 hy
  have tk:sel p 0 (List.range (i+1))=sel p 0 (List.range i)++(if p i then [i] else []):=by
   rw [List.range_succ,qX,List.length_range,Nat.zero_add]
  have lR:=hR.len
  have lS:=qU p 0 (List.range i)
  rw [List.length_range] at lS
  refine hg i xs[i] σ' _ _ hx hps sm fun σ2 hp2 hat=>?_
  refine ht i xs[i] σ2 hx hat _ _ sm fun H3 s3=>?_
  have sm3:=eo.trans sm s3
  have hL3:=eo.keep D _ _ _ hD sm hL s3
  cases hp:p i with
  |true=>
   rw [if_pos rfl]
   refine he i xs[i] σ2 hx hat hp _ _ sm3 fun y H4 s4 r4=>?_
   have sm4:=eo.trans sm3 s4
   have hL4:=eo.keep D _ _ _ hD sm3 hL3 s4
   refine ⟨hL4,by omega,xs.length - (i+1),by omega,hlt,rfl,hp2,eo.upd D _ _ hD sm4,upd_same,?_⟩
   rw [tk,hp]
   exact iY.snoc (hR.imp fun j z r=>su hD sm4 hL4 (st sm3 s4 (st sm s3 r))) (su hD sm4 hL4 r4)
  |false=>
   rw [if_neg (by simp)]
   refine ⟨hL3,xs.length - (i+1),by omega,hlt,rfl,hp2,sm3,hL3,?_⟩
   rw [tk,hp]
   simp only [Bool.false_eq_true,if_false,List.append_nil]
   exact hR.imp fun j z r=>st sm s3 r
 ·left
  have e:i=xs.length:=by omega
  subst e
  exact ⟨stop _ sm,q D _ ys sm hD hL hR⟩
theorem aR4 {σ0:L2.St} (E:Hp→Hp→Prop) (eo:aOe E H) (xs:List V) (Rel:Nat→Hp→V→Prop)
  (st:∀{i H1 H2 y},E H H1→E H1 H2→Rel i H1 y→Rel i H2 y) (su:∀{i H1 D ys zs y},H D=none→E H H1→H1 D=some (.lst ys)→Rel i H1 y→Rel i (L2.upd H1 D (.lst zs)) y)
  (At:Nat→L2.St→Prop) (Ps:L2.St→Prop) (h0:Ps σ0) (hsz:xs.length≤sizeLine)
  (J:It) (go:∀H' i x,E H H'→xs[i]?=some x→J.go i H'∧∀y H2,J.yld i H' y H2→H2=H'∧y=x) (stop:∀H',E H H'→J.stop xs.length H')
  (hg:∀(i:Nat) (x:V) σ' H' Q',xs[i]?=some x→Ps σ'→E H H'→(∀σ2,Ps σ2→At i σ2→Q' σ2 H')→g x σ' H' Q')
  (ht:∀(i:Nat) (x:V) σ2,xs[i]?=some x→At i σ2→∀H' R,E H H'→(∀b H2,E H' H2→R b H2)→tt σ2 H' R)
  (he:∀(i:Nat) (x:V) σ2,xs[i]?=some x→At i σ2→∀H' R,E H H'→(∀y H2,E H' H2→Rel i H2 y→R y H2)→te σ2 H' R)
  (q:∀D H' ys,E H H'→H D=none→H' D=some (.lst ys)→(∃is:List Nat,is.Sublist (List.range xs.length)∧iY (fun i y=>Rel i H' y) is ys)→Q (.ref D) H'):wW J H σ0 g tt te Q:=by
 intro D hD
 refine ⟨fun i m σ' H' ys=>i≤xs.length∧m=xs.length - i∧Ps σ'∧E H H'∧H' D=some (.lst ys)∧∃is:List Nat,is.Sublist (List.range i)∧iY (fun i y=>Rel i H' y) is ys,⟨xs.length,Nat.zero_le _,rfl,h0,eo.new _ _ hD,upd_same,[],List.nil_sublist _,.nil⟩,?_⟩
 rintro i m σ' H' ys ⟨hi,rfl,hps,sm,hL,is,hsub,hR⟩
 refine ⟨hL,?_⟩
 by_cases hlt:i<xs.length
 ·right
  have hx:=List.getElem?_eq_getElem hlt
  obtain ⟨g1,g2⟩:=go H' i xs[i] sm hx
  refine ⟨g1,fun x H2 hy=>?_⟩
  obtain ⟨rfl,rfl⟩:=g2 x H2 hy
  have lR:=hR.len
  have lS:=hsub.length_le
  rw [List.length_range] at lS
  refine hg i xs[i] σ' _ _ hx hps sm fun σ2 hp2 hat=>?_
  refine ht i xs[i] σ2 hx hat _ _ sm fun bb H3 s3=>?_
  have sm3:=eo.trans sm s3
  have hL3:=eo.keep D _ _ _ hD sm hL s3
  cases bb with
  |true=>
   rw [if_pos rfl]
   refine he i xs[i] σ2 hx hat _ _ sm3 fun y H4 s4 r4=>?_
   have sm4:=eo.trans sm3 s4
   have hL4:=eo.keep D _ _ _ hD sm3 hL3 s4
   refine ⟨hL4,by omega,xs.length - (i+1),by omega,hlt,rfl,hp2,eo.upd D _ _ hD sm4,upd_same,is++[i],by rw [List.range_succ];exact hsub.append (List.Sublist.refl _),?_⟩
   exact iY.snoc (hR.imp fun j z r=>su hD sm4 hL4 (st sm3 s4 (st sm s3 r))) (su hD sm4 hL4 r4)
  |false=>
   rw [if_neg (by simp)]
   refine ⟨hL3,xs.length - (i+1),by omega,hlt,rfl,hp2,sm3,hL3,is,by rw [List.range_succ];exact hsub.trans (List.sublist_append_left _ _),?_⟩
   exact hR.imp fun j z r=>st sm s3 r
 ·left
  have e:i=xs.length:=by omega
  subst e
  exact ⟨stop _ sm,q D _ ys sm hD hL ⟨is,hsub,hR⟩⟩
end
def At1 (σ0:L2.St) (v:V) (σ:L2.St):Prop:=∃l,σ=(σ0.set 0 l).set 0 (some v)
def Ps1 (σ0:L2.St) (σ:L2.St):Prop:=∃l,σ=σ0.set 0 l
def At2 (σ0:L2.St) (a b:V) (σ:L2.St):Prop:=σ=(σ0.set 0 (some a)).set 1 (some b)
def Ps2 (σ0:L2.St) (σ:L2.St):Prop:=∃l m,σ=(σ0.set 0 l).set 1 m
theorem hg1 {σ0:L2.St} {i:Nat} {x:V} {σ':L2.St} {H':Hp} {Q':L2.St→Hp→Prop} (h:Ps1 σ0 σ') (q:∀σ2,Ps1 σ0 σ2→At1 σ0 x σ2→Q' σ2 H'):gName 0 x σ' H' Q':=by
 obtain ⟨l,rfl⟩:=h
 exact q _ ⟨some x,by rw [List.set_set]⟩ ⟨l,rfl⟩
theorem hg2 {K:PySem.W.Frag} {σ0:L2.St} {p:Addr} {a b:V} {σ':L2.St} {H':Hp} {Q':L2.St→Hp→Prop} (hp:SqT K H' p [a,b]) (h:Ps2 σ0 σ') (q:∀σ2,Ps2 σ0 σ2→At2 σ0 a b σ2→Q' σ2 H'):gTup K 2 (gCons (gName 0) (gCons (gName 1) gNil)) (.ref p) σ' H' Q':=by
 obtain ⟨l,m,rfl⟩:=h
 have e:(((σ0.set 0 l).set 1 m).set 0 (some a)).set 1 (some b)=(σ0.set 0 (some a)).set 1 (some b):=by
  rw [List.set_comm _ _ (show (1:Nat)≠0 by decide),List.set_set,List.set_set]
 refine ⟨p,_,rfl,hp,rfl,_,_,rfl,_,_,rfl,rfl,?_⟩
 show Q' ((((σ0.set 0 l).set 1 m).set 0 (some a)).set 1 (some b)) H'
 rw [e]
 exact q _ ⟨some a,some b,rfl⟩ rfl
theorem aPa (xs:List V) (n:Nat):cutV xs none (some (n:Int))=xs.take n:=by
 unfold cutV
 rw [HT.sIx_none,HT.sIx_nat,List.drop_zero,Nat.sub_zero]
 by_cases h:n≤xs.length
 ·rw [Nat.min_eq_left h]
 ·rw [Nat.min_eq_right (by omega),List.take_length,List.take_of_length_le (by omega)]
theorem uG (xs:List V) (n:Nat):cutV xs (some (n:Int)) none=xs.drop n:=by
 unfold cutV
 rw [HT.sIx_none,HT.sIx_nat]
 by_cases h:n≤xs.length
 ·rw [Nat.min_eq_left h]
  exact List.take_of_length_le (by rw [List.length_drop];omega)
 ·rw [Nat.min_eq_right (by omega),List.drop_length,List.drop_of_length_le (by omega),List.take_nil]
def aR9 (K:PySem.W.Frag):V→Option Int→Option Int→Hp→VK→Prop:=fun x lo hi H Q=>∃a xs,x=.ref a∧SqL K H a xs∧∀p H',H p=none→Same H H'→H' p=some (.lst (cutV xs lo hi))→Q (.ref p) H'
theorem aEr {X:Cx}:SlR X (aR9 X.K):=fun pins s σ H x v vl vu lo hi sl Q I rx hs pl pu ⟨a,xs,e,ha,q⟩=>
 sl_list pins s σ H x v vl vu lo hi sl Q I rx hs pl pu ⟨a,xs,e,ha,fun p hp=>q p _ hp (aW hp _) upd_same⟩
end L2
namespace HT
open PySem PySem.Spec PyProof.Rows L2
section
variable {prog:Program} {w:World} {A:Around} {E:Value→Shared→Prop} {s:Shared}
theorem oU {t sl:Addr} {items:Array Value} {vl vu:Value} {lo hi:Option Int} {Q:Value→Shared→Prop} (ht:IsTup s.heap t items) (hs:s.heap.IsSliceOf sl vl vu .none) (pl:IsPart vl lo) (pu:IsPart vu hi)
  (hw:sIx items.size 0 lo=0∧sIx items.size items.size hi=items.size) (h:Q (.ref t) s):wpAny (model prog w) A (getItem (.ref t) (.ref sl)) Q E s:=by
 obtain ⟨os,hos,hcs,hds⟩:=id hs
 have hTs:s.TypeIs (.ref sl) "slice":=⟨os,hos,hcs⟩
 obtain ⟨⟨cls,dd,data,slt⟩,ho,hc,n,hd⟩:=id ht
 simp only at hc hd
 subst hc hd
 unfold getItem
 try with_reducible refine wpAny_holding ?_
 first|refine wpAny_bind (wpAny_pure ?_)|skip
 refine wpAny_bind (wpAny_sequenceKey ht.typeIs (by decide) ?_)
 refine wpAny_bind (wpAny_callSpecial?_slot (name:=Str.ofString "__getitem__") ht.typeIs PyProof.Rows.slot_tuple_getitem
  (wpAny_call_entry PyProof.Rows.slot_tuple_getitem ht.typeIs entry_tuple_getitem ?_ (args_tuple_getitem _ _)))
 show wpAny _ _ (Builtin.Tuple.tupleItemsOf (.ref t) >>= _) _ _ s
 refine wpAny_bind (tupleItemsOf_ ht ?_)
 refine wpAny_bind (wpAny_typeOf hTs ?_)
 rw [if_pos (by decide)]
 refine wpAny_bind (sliceApplied_gen hs pl pu ?_)
 have hyes:((((sIx items.size 0 lo:Nat):Int) == 0 && (1:Int) == 1 && (sIx items.size items.size hi - sIx items.size 0 lo) == items.size)=true):=by
  rw [hw.1,hw.2]
  simp
 show wpAny _ _ (if (((sIx items.size 0 lo:Nat):Int) == 0 && (1:Int) == 1 && (sIx items.size items.size hi - sIx items.size 0 lo) == items.size)=true then _ else _) _ _ s
 rw [if_pos hyes]
 obtain ⟨hp,g,d,tk,os'⟩:=s
 wp_walk using AutoSeq1.wpAny_loadPart' ho
 exact ⟨_,rfl,wpAny_pure h⟩
end
end HT
namespace L2
open PySem PySem.Spec PyProof.Rows
def aSt (K:PySem.W.Frag):V→Option Int→Option Int→Hp→VK→Prop:=fun x lo hi H Q=>∃a xs,x=.ref a∧SqT K H a xs∧∀p H',Same H H'→SqT K H' p (cutV xs lo hi)→Q (.ref p) H'
theorem aJh {X:Cx}:SlR X (aSt X.K):=by
 intro pins s σ H x v vl vu lo hi sl Q I rx hs pl pu h
 obtain ⟨a,xs,rfl,hx,q⟩:=h
 by_cases hw:HT.sIx xs.length 0 lo=0∧HT.sIx xs.length xs.length hi=xs.length
 ·cases rx
  obtain ⟨its,r,ht,hz⟩:=I.tuple hx
  have hlen:its.toArray.size=xs.length:=by rw [List.size_toArray];exact r.length.symm
  refine ⟨"tuple",_,PyProof.Rows.slot_tuple_getitem.lookup,ht.typeIs,?_⟩
  refine HT.oU ht hs pl pu (by rw [hlen];exact hw) ⟨.ref a,H,I,rfl,q a H (Same.refl H) ?_⟩
  have e:cutV xs lo hi=xs:=by
   unfold cutV
   rw [hw.1,hw.2,List.drop_zero,Nat.sub_zero,List.take_length]
  rw [e]
  exact hx
 ·exact aCx pins s σ H _ v vl vu lo hi sl Q I rx hs pl pu ⟨a,xs,rfl,hx,hw,fun p H' s' g'=>q p H' s' (SqT.of g')⟩
def aSr (K:PySem.W.Frag):R2:=fun x y H Q=>∃(a b:Addr) (xs:List V),x=.ref a∧y=.ref b∧SqL K H a xs∧SqL K H b []∧Q (.bl xs.isEmpty) H
theorem aQ1 {X:Cx} (hu:X.A.units<cLine):OpR X (compareOp .Eq) (aSr X.K):=by
 intro pins s σ H x y v u Q I rx ry h
 obtain ⟨a,b,xs,rfl,rfl,ha,hb,q⟩:=h
 cases rx
 cases ry
 obtain ⟨its,rv,pl,hz⟩:=I.list ha
 obtain ⟨jts,rw',pm,hw⟩:=I.list hb
 have e1:=rv.length
 have e2:=rw'.length
 have ej:jts=[]:=List.length_eq_zero_iff.mp e2.symm
 subst ej
 cases xs with
 |nil=>
  have ei:its=[]:=List.length_eq_zero_iff.mp e1.symm
  subst ei
  refine SeqAt.RcAt.lists (e:=fun _=>true) pl.isList pm.isList rfl hu (fun j h1 h2=>by simp at h1) _ _ _ _ ?_
  exact ⟨.bl true,H,I,rfl,q⟩
 |cons y ys=>
  refine SeqAt.RcAt.lists_lengths pl.isList pm.isList ?_ hu _ _ _ _ ?_
  ·rw [List.length_cons] at e1
   simp only [List.size_toArray,List.length_nil]
   rw [←e1]
   simp
  ·exact ⟨.bl false,H,I,rfl,q⟩
section
variable {X:Cx}
end
inductive PH (P:Program) (w:World):List DictEntry→List (Str × Value)→Prop
 |nil:PH P w [] []
 |cons {e:DictEntry} {kv:Str × Value} {es:List DictEntry} {kvs:List (Str × Value)}:(strKind P w).is kv.1 e.key=true→e.hash=(strKind P w).hash kv.1→e.val=kv.2→PH P w es kvs→PH P w (e::es) (kv::kvs)
theorem PH.keys {P:Program} {w:World} {es:List DictEntry} {kvs:List (Str × Value)} (h:PH P w es kvs):∀e∈es,∃k,(strKind P w).is k e.key=true∧e.hash=(strKind P w).hash k:=by
 induction h with
 |nil=>intro e he;cases he
 |cons a b c _ ih=>
  intro e he
  rcases List.mem_cons.mp he with rfl|he
  ·exact ⟨_,a,b⟩
  ·exact ih e he
theorem PH.pairs {P:Program} {w:World} {es:List DictEntry} {kvs:List (Str × Value)} (h:PH P w es kvs):Pairs (strKind P w) es kvs:=by
 induction h with
 |nil=>exact .nil
 |cons a b c _ ih=>exact .cons a c ih
theorem aJ1 {P:Program} {w:World} {o:Obj} {es:Array DictEntry} {ep:Nat} {kvs:List (Str × Value)} (hx:o.ExactDict) (hd:o.data=.dict es ep) (h:PH P w es.toList kvs) (nd:(kvs.map (·.1)).Nodup):o.IsDictOf (strKind P w) kvs:=
 ⟨es,ep,hx,hd,fun e he=>h.keys e (Array.mem_toList_iff.mpr he),h.pairs,nd⟩
end L2
namespace PySem
theorem vJ:typeLookup (.type "tuple") "keys"=pure none:=am_miss_of_fast (by decide +kernel)
section
variable {prog:Program} {w:World} {A:Around} {E:Value→Shared→Prop} {s:Shared}
theorem aBq {a:Addr} {o:Obj} {xs:Array Value} {k:Nat} {Q:Option Value→Shared→Prop} (hx:s.heap.get? a=some o) (hc:o.cls=.type "tuple") (hdat:o.data=.seq xs k) (hd:o.dict=none) (hA:A.handled=none)
  (h:∀h' tk,(∀b u,s.heap.get? b=some u→h'.get? b=some u)→Q none { s with heap:=h',toks:=tk }):wpAny (model prog w) A (getAttr? (.ref a) "keys") Q E s:=by
 obtain ⟨c,dct,dat,sl⟩:=o
 simp only at hc hdat hd
 subst hc hdat hd
 obtain ⟨hp,g,d,tk,os⟩:=s
 have hT:∀tk',(⟨hp,g,d,tk',os⟩:Shared).TypeIs (.ref a) "tuple":=fun _=>⟨_,hx,rfl⟩
 have f1:=sub_AttributeError
 have f3:=F.slot_tuple_getattribute.lookup
 have f4:=F.slot_tuple_getattribute.bind (.ref a)
 have f5:=am_tuple_getattr_none
 unfold getAttr? getAttrBy? getAttrBy
 repeat (any_goals (first|assumption|exact hT _|((with_reducible show wpAny _ _ (call (Value.builtin "tuple.__getattribute__") _ _) _ _ _);refine call_meets F.slot_tuple_getattribute (hT _) am_entry_tuple_getattribute (F.args_tuple_getattribute_2 _ _) (meets_getattribute_miss_tuple a xs k sl "keys" _ vJ (by decide +kernel) (by size_fits)) ⟨hx,hA,fun h' tk' e hx'=>?_⟩)|wp_step))
 obtain ⟨t',u',he⟩:=hx'.there
 show wpAny _ _ (getattributeRaised _ _ _ _ _ _ _) _ _ _
 unfold getattributeRaised
 repeat (any_goals (first|assumption|wp_step))
 exact h _ _ hx'.keeps
end
end PySem
namespace PySem
theorem gA:entryFor table "dict.update.loop"=some Builtin.«dict.update.loop»:=entryFor_of_tree (by kernel_rfl)
theorem cC:plainId "dict.update.loop"=true:=by decide +kernel
section
variable {prog:Program} {w:World} {κ:Type} [DecidableEq κ] {knd:KeyKind prog w κ}
def pG (knd:KeyKind prog w κ) (h:Heap) (v:Value) (kv:κ × Value):Prop:=∃p key,v=.ref p∧PyProof.Rows.IsTup h p #[key,kv.2]∧knd.is kv.1 key=true
theorem pG.at {h h':Heap} {v:Value} {kv:κ × Value} (x:pG knd h v kv) (k:∀p,v=.ref p→∀o,h.get? p=some o→h'.get? p=some o):pG knd h' v kv:=by
 obtain ⟨p,key,rfl,⟨o,ho,r⟩,hk⟩:=x
 exact ⟨p,key,rfl,⟨o,k p rfl o ho,r⟩,hk⟩
theorem vA {A:Around} {R:Result→Shared→Prop} {I:Addr} {fp wr:List Addr} {n:Nat} {P:Nat→Value→Prop} {St:Nat→Heap→Prop} (W:Walks prog w A.in1 I fp wr n P St) (D:Addr) (hD:D∉fp)
  (kvs:List (κ × Value)) (hlen:kvs.length=n) (hb:n≤1000) (hP:∀i v,P i v→∀p,v=.ref p→p∉D::wr) :
  ∀(k i:Nat) (s:Shared) (t:Tok),i+k=n→St i s.heap→s.heap.DictOf knd D (merged [] (kvs.take i))→(∀j v kv,P j v→kvs[j]?=some kv→pG knd s.heap v kv) →
   (∀h' tk,(∀b o,b∉D::wr→s.heap.get? b=some o→h'.get? b=some o)→h'.DictOf knd D (merged [] kvs)→R (.ok (.ret .none)) { s with heap:=h',toks:=tk }) →
   codeAny (model prog w) A (.builtin "dict.update.loop" ⟨[.ref D,.ref I,.int (i:Nat) t,.none],[]⟩) R s:=by
 have hDw:D∉wr:=fun q=>hD (W.sub _ q)
 intro k
 induction k with
 |zero=>
  intro i s t hi st hd hp q
  obtain rfl:i=n:=by omega
  refine codeAny_builtin gA ?_
  rw [Around.under_plainId cC _]
  show wpAny _ A.in1 (pyNext (.ref I) >>= _) _ _ _
  refine wpAny_bind (W.done s _ _ st fun h' tk kp=>?_)
  show wpAny _ _ (Builtin.Dict.addKeywords D [] >>= _) _ _ _
  refine wpAny_bind (wpAny_pure (wpAny_pure (q h' tk (fun b o nb e=>kp b o (fun z=>nb (List.mem_cons_of_mem _ z)) e) ?_)))
  rw [List.take_of_length_le (Nat.le_of_eq hlen)] at hd
  exact hd.at fun o e=>kp D o hDw e
 |succ k ih=>
  intro i s t hi st hd hp q
  refine codeAny_builtin gA ?_
  rw [Around.under_plainId cC _]
  show wpAny _ A.in1 (pyNext (.ref I) >>= _) _ _ _
  refine wpAny_bind (W.item i s _ _ (by omega) st fun v h1 tk1 hv st1 kp1=>?_)
  have hlt:i<kvs.length:=by omega
  have hkv:=List.getElem?_eq_getElem hlt
  have hd1:h1.DictOf knd D (merged [] (kvs.take i)):=hd.at fun o e=>kp1 D o hDw e
  have hp1:∀j v kv,P j v→kvs[j]?=some kv→pG knd h1 v kv:=fun j v kv pj e=>(hp j v kv pj e).at fun p ev o eo=>kp1 p o (fun z=>hP j v pj p ev (List.mem_cons_of_mem _ z)) eo
  obtain ⟨p,key,rfl,⟨⟨oc,od,ox,osl⟩,ho,hc,m,hx⟩,hk⟩:=hp1 i v _ hv hkv
  simp only at hc hx
  subst hc hx
  have hml:(merged [] (kvs.take i)).length≤i:=by
   have:=merged_length_le [] (kvs.take i)
   rw [List.length_take] at this
   simp only [List.length_nil] at this
   omega
  obtain ⟨hp0,g,d,tk,os⟩:=s
  have hT:(⟨h1,g,d,tk1,os⟩:Shared).TypeIs (.ref p) "tuple":=⟨_,ho,rfl⟩
  have hpi:∀(Q:List Value→Shared→Prop) (E:Value→Shared→Prop),Q [key,kvs[i].2] ⟨h1,g,d,tk1,os⟩→wpAny (model prog w) A.in1 (Builtin.Dict.pairItems (.ref p)) Q E ⟨h1,g,d,tk1,os⟩:=by
   intro Q E h
   unfold Builtin.Dict.pairItems
   wp_walk
   exact h
  show wpAny _ A.in1 (holding [.ref p] _ >>= _) _ _ ⟨h1,g,d,tk1,os⟩
  refine wpAny_bind (wpAny_holding (wpAny_bind (wpAny_tryCatch (hpi _ _ ?_))))
  show wpAny _ A.in1 (holding [key,kvs[i].2] (dictSet D key kvs[i].2)) _ _ ⟨h1,g,d,tk1,os⟩
  refine wpAny_holding (wpAny_dictSet_pairs (s:=⟨h1,g,d,tk1,os⟩) hk hd1 (fun h2 hd2 sb2=>?_) (Nat.le_trans hml (Nat.le_trans (by omega) (show 1000≤sizeLine by decide))))
  have e1:merged [] (kvs.take (i+1))=stored (merged [] (kvs.take i)) kvs[i].1 kvs[i].2:=merged_take_succ [] kvs i _ hkv
  rw [←e1] at hd2
  refine wpAny_pure ⟨plainId_quiet cC _,?_⟩
  have kp2:∀b o,b∉D::wr→hp0.get? b=some o→h2.get? b=some o:=fun b o nb e=>by
   rw [sb2.2 b (fun z=>nb (by rw [z];exact List.mem_cons_self))]
   exact kp1 b o (fun z=>nb (List.mem_cons_of_mem _ z)) e
  refine ih (i+1) _ _ (by omega) (W.frame _ _ _ st1 fun b hb o e=>?_) hd2 (fun j v kv pj e=>(hp1 j v kv pj e).at fun p' ev o eo=>?_) fun h' tk' kp hd'=>q h' tk' (fun b o nb e=>kp b o nb (kp2 b o nb e)) hd'
  ·rw [sb2.2 b (fun z=>hD (by rw [←z];exact hb))]
   exact e
  ·rw [sb2.2 p' (fun z=>hP j v pj p' ev (by rw [z];exact List.mem_cons_self))]
   exact eo
end
end PySem
namespace PySem
section
variable {prog:Program} {w:World} {κ:Type} [DecidableEq κ] {knd:KeyKind prog w κ} {A:Around} {E:Value→Shared→Prop} {s:Shared}
theorem vG {t:Addr} {its:Array Value} {kvs:List (κ × Value)} {Q:Value→Shared→Prop} (hh:A.handled=none) (ht:PyProof.Rows.IsTup s.heap t its) (hd:∀o,s.heap.get? t=some o→o.dict=none) (hlen:kvs.length=its.size) (hb:its.size≤1000)
  (hp:∀(j:Nat) (v:Value) (kv:κ × Value),its[j]?=some v→kvs[j]?=some kv→pG knd s.heap v kv)
  (q:∀h' tk,h'.DictOf knd s.heap.objs.size (merged [] kvs)→(∀b o,s.heap.get? b=some o→h'.get? b=some o)→Q (.ref s.heap.objs.size) { s with heap:=h',toks:=tk }) :
  wpAny (model prog w) A (call (.type "dict") [.ref t]) Q E s:=by
 refine callType_codes (Q₁:=fun obj s₁=>obj=.ref s.heap.objs.size∧s₁={ s with heap:=s.heap.push { cls:=.type "dict",data:=.dict #[] } }) F.kt_called_dict (F.kt_typeCall_dict_1 _) F.entry_dict_init (kt_code_dict_new _ ⟨rfl,rfl⟩) ?_
 rintro obj s₁ ⟨rfl,rfl⟩
 have hnew:(s.heap.push { cls:=.type "dict",data:=.dict #[] }).DictOf knd s.heap.objs.size []:=Heap.DictOf.new s.heap
 obtain ⟨o,ho,hc,n,hx⟩:=id ht
 have hod:=hd o ho
 have ho1:(s.heap.push { cls:=.type "dict",data:=.dict #[] }).get? t=some o:=Heap.get?_push_of_some _ ho
 have hT:Shared.TypeIs { s with heap:=s.heap.push { cls:=.type "dict",data:=.dict #[] } } (.ref t) "tuple":=⟨o,ho1,hc⟩
 have hlt:t<s.heap.objs.size:=Heap.lt_size ho
 refine ⟨hnew.typeIs,F.args_dict_init_2 _ _,?_⟩
 unfold Builtin.«dict.__init__»
 refine wpAny_bind ?_
 unfold Builtin.Dict.selfAndRest
 refine wpAny_bind (wpAny_notOrdered_dict hnew.typeIs ?_)
 show wpAny _ _ (pure (s.heap.objs.size,[Value.ref t])) _ _ _
 refine wpAny_pure ?_
 show wpAny _ _ (Builtin.Dict.updateFrom "dict.__init__" s.heap.objs.size (.ref t) [] .none) _ _ _
 unfold Builtin.Dict.updateFrom
 refine wpAny_bind (wpAny_typeOf hT ?_)
 rw [if_pos (by decide)]
 refine wpAny_bind (aBq ho1 hc hx hod (by first|exact hh|simp [hh]) fun h2 tk2 kp2=>?_)
 rw [if_pos (show (none:Option Value).isNone=true from rfl)]
 have ho2:h2.get? t=some o:=kp2 _ _ ho1
 have ht2:h2.IsTuple t its:=⟨o,ho2,hc,n,hx⟩
 refine wpAny_bind (wpAny_rule (wpAny_bind (wpAny_pyIter_tuple ht2 ?_)))
 have hs1:(s.heap.push { cls:=.type "dict",data:=.dict #[] }).objs.size=s.heap.objs.size+1:=Heap.size_push ..
 have hs2:s.heap.objs.size<h2.objs.size:=by
  obtain ⟨od,_,_,hg,_⟩:=id hnew
  exact Heap.lt_size (kp2 _ _ hg)
 refine wpAny_pure ⟨plainId_quiet cC _,?_⟩
 have hne:t≠h2.objs.size:=Nat.ne_of_lt (Nat.lt_trans hlt hs2)
 refine vA (knd:=knd) (Walks.tuple (by first|exact hh|simp [hh]) _ t hne its) s.heap.objs.size ?_ kvs hlen hb ?_ its.size 0 _ _ (by omega) ⟨⟨_,Heap.get?_push_size _ rfl,rfl,rfl⟩,ht2.push _⟩ ?_ ?_ fun h' tk kp hd'=>?_
 ·simp only [List.mem_cons,List.not_mem_nil,or_false,not_or]
  exact ⟨Nat.ne_of_lt hs2,Nat.ne_of_gt hlt⟩
 ·intro j v e p ev
  have hj:j<kvs.length:=by
   rw [hlen]
   exact (Array.getElem?_eq_some_iff.mp e).1
  obtain ⟨p',key,ev',⟨o',ho',_⟩,_⟩:=hp j v _ e (List.getElem?_eq_getElem hj)
  rw [ev] at ev'
  cases ev'
  have:=Heap.lt_size ho'
  simp only [List.mem_cons,List.not_mem_nil,or_false,not_or]
  exact ⟨Nat.ne_of_lt this,Nat.ne_of_lt (Nat.lt_trans this hs2)⟩
 ·exact (hnew.at fun o e=>kp2 _ _ e).at fun o e=>Heap.get?_push_of_some _ e
 ·intro j v kv e ek
  exact (hp j v kv e ek).at fun p _ o eo=>Heap.get?_push_of_some _ (kp2 _ _ (Heap.get?_push_of_some _ eo))
 ·refine ⟨rfl,q h' tk hd' fun b o e=>kp b o ?_ (Heap.get?_push_of_some _ (kp2 _ _ (Heap.get?_push_of_some _ e)))⟩
  have:=Heap.lt_size e
  simp only [List.mem_cons,List.not_mem_nil,or_false,not_or]
  exact ⟨Nat.ne_of_lt this,Nat.ne_of_lt (Nat.lt_trans this hs2)⟩
end
end PySem
namespace PySem
open PySem.Calls PyProof.Rows
section
variable {prog:Program} {w:World} {κ:Type} [DecidableEq κ] {knd:PySem.KeyKind prog w κ} {A:Around} {E:Value→Shared→Prop} {s:Shared}
end
end PySem
namespace L2
open PySem PySem.Spec PyProof.Rows
section
variable {X:Cx}
abbrev aNp (K:PySem.W.Frag) (H:Hp):List V→List (Key × V)→Prop:=Paired fun u kv=>∃p,u=.ref p∧SqT K H p [kV kv.1,kv.2]
theorem aP5 {pins:List (Addr × Obj)} {σ:L2.St} {H:Hp} {s:Shared} (I:Inv X pins σ H s) {us:List V} {kvs:List (Key × V)} (h:aNp X.K H us kvs):∀{its:List Value},Vals us its →
  ∃vs:List (Key × Value),KV kvs vs∧vs.length=its.length∧∀(j:Nat) (v:Value) (kv:Key × Value),its[j]?=some v→vs[j]?=some kv→pG (mixKind X.prog X.w) s.heap v kv:=by
 induction h with
 |nil=>
  intro its hv
  cases hv
  exact ⟨[],.nil,rfl,fun j v kv e _=>by simp at e⟩
 |@cons u kv us kvs r t ih=>
  intro its hv
  cases hv with
  |cons q z=>
   obtain ⟨p,rfl,hp⟩:=r
   cases q
   obtain ⟨ks,rv,pl,hz⟩:=I.tuple hp
   obtain ⟨vs,h1,h2,h3⟩:=ih z
   obtain ⟨key,val,rfl,rk,rx⟩:=vals2 rv
   refine ⟨(kv.1,val)::vs,.cons ⟨rfl,rx⟩ h1,by rw [List.length_cons,List.length_cons,h2],fun j v kv' e e'=>?_⟩
   cases j with
   |zero=>
    cases e
    cases e'
    exact ⟨p,key,rfl,pl,kV_is rk⟩
   |succ j=>exact h3 j v kv' (by simpa using e) (by simpa using e')
def aQn (K:PySem.W.Frag):List V→Hp→VK→Prop:=fun xs H Q=>∃t us kvs,xs=[.ref t]∧SqT K H t us∧aNp K H us kvs∧us.length≤1000∧∀p H',H p=none→Same H H'→H' p=some (.dK (mergeK [] kvs))→Q (.ref p) H'
theorem aHb (hc:X.calm=true):CallR X (.type "dict") (aQn X.K):=by
 intro pins s σ H xs us Q I r h
 obtain ⟨t,us,kvs,rfl,ht,hp,hl,q⟩:=h
 obtain ⟨u,rfl,ru⟩:=vals1 r
 cases ru
 obtain ⟨its,rv,⟨tp,nd⟩,hz⟩:=I.aSj ht
 have e1:=rv.length
 obtain ⟨vs,h1,h2,h3⟩:=aP5 I hp rv
 have lk:=KV.length h1
 refine vG (knd:=mixKind X.prog X.w) (kvs:=vs) (I.ok.hd hc) tp nd (by rw [List.size_toArray];exact h2) (by rw [List.size_toArray];omega) (fun j v kv e e'=>h3 j v kv (by simpa using e) e') fun h' tk hd kp=>?_
 have hf:H s.heap.objs.size=none:=I.hok.fresh (Nat.le_refl _)
 refine ⟨.ref s.heap.objs.size,_,I.laid (t':=tk) (o:=.dK (mergeK [] kvs)) kp (Nat.le_refl _) ?_,rfl,q _ _ hf (aW hf _) upd_same⟩
 have lm:=length_mergeK kvs []
 simp only [List.length_nil] at lm
 exact ⟨small (by omega),beq_eq_false_iff_ne.mpr (Ne.symm (Nat.ne_of_lt I.big)),_,KV.merge h1 .nil,hd⟩
theorem xW:∀(kvs acc:List (Key × V)),((acc++kvs).map (·.1)).Nodup→mergeK acc kvs=acc++kvs
 |[],acc,_=>by simp [mergeK]
 |kv::r,acc,h=>by
  have hn:valV acc kv.1=none:=by
   cases e:valV acc kv.1 with
   |none=>rfl
   |some v=>
    exfalso
    have:=valV_in e
    rw [List.map_append,List.nodup_append] at h
    exact h.2.2 _ this _ (by rw [List.map_cons];exact List.mem_cons_self ..) rfl
  show mergeK (putK acc kv.1 kv.2) r=_
  rw [putK_new _ hn,xW r _ (by rw [List.append_assoc];exact h),List.append_assoc]
  rfl
theorem aKf {kvs:List (Key × V)} (h:(kvs.map (·.1)).Nodup):mergeK [] kvs=kvs:=xW kvs [] h
end
section
variable {X:Cx} {e st:Expr} {te ts:TE} {pos p2:Pos}
end
section
variable {X:Cx} {o i value:Expr} {td ty tv:TE} {pos pos':Pos}
end
theorem aNq {X:Cx} {pos:Pos} {o i:Expr} {to ti:TE} {t:TSet} (ho:VE X o to) (hi:VE X i ti) (hs:PSet X t)
  (ha:∀v,assign (.Subscript o i pos) X.env v=(do
   let ov ←holding [v] (eval o X.env)
   let iv ←holding [v,ov] (eval i X.env)
   standAt pos
   holding [v,ov,iv] (setItem ov iv v)
   release [v,ov,iv] []):=by intro _;rfl):VG X (.Subscript o i pos) (gSub to ti t):=⟨pg_sub ho.1 hi.1 hs ha⟩
theorem uR {X:Cx}:MtR X "list.reverse" rReverse:=mt_reverse
abbrev M61:Int:=2305843009213693951
def jF (H:Hp) (a:Addr):Prop:=∃s d:Int,H a=some (.lst [.int s,.int d])∧(0≤s∧s<M61)∧0≤d
structure Fx (a:Addr) (H H':Hp):Prop where
 same:∀b o,b≠a→H b=some o→H' b=some o
 st:jF H' a
theorem Fx.trans {a:Addr} {H H1 H2:Hp} (f:Fx a H H1) (g:Fx a H1 H2):Fx a H H2:=⟨fun b o n e=>g.same b o n (f.same b o n e),g.st⟩
theorem jF.same {a:Addr} {H H':Hp} (h:jF H a) (e:Same H H'):jF H' a:=by
 obtain ⟨s,d,h1,h2⟩:=h
 exact ⟨s,d,e _ _ h1,h2⟩
theorem Fx.of {a:Addr} {H H':Hp} (h:jF H a) (e:Same H H'):Fx a H H':=⟨fun b o _ q=>e b o q,h.same e⟩
theorem Fx.refl {a:Addr} {H:Hp} (h:jF H a):Fx a H H:=.of h (Same.refl H)
theorem Fx.sm {a:Addr} {H H1 H2:Hp} (f:Fx a H H1) (e:Same H1 H2):Fx a H H2:=f.trans (.of f.st e)
theorem jF.ne {a p:Addr} {H:Hp} (h:jF H a) (f:H p=none):p≠a:=by
 obtain ⟨s,d,h1,_⟩:=h
 exact (ne_of_none h1 f).symm
theorem Fx.aN {K:PySem.W.Frag} {a p:Addr} {H H':Hp} {xs:List V} (f:Fx a H H') (h:jF H a) (e:SqT K H p xs):SqT K H' p xs:=by
 obtain ⟨s,d,h1,_⟩:=h
 rcases e with (e|⟨o,e⟩)|e
 ·exact .inl (.inl (f.same p _ (ne_of e h1 (by intro z;cases z)) e))
 ·exact .inl (.inr ⟨o,f.same p _ (ne_of e h1 (by intro z;cases z)) e⟩)
 ·exact .inr e
theorem Fx.upd {a D:Addr} {H H':Hp} {o:HO} (f:Fx a H H') (hD:H D=none) (ne:D≠a):Fx a H (L2.upd H' D o):=⟨fun b u n e=>by rw [upd_ne (ne_of_none e hD)];exact f.same b u n e,by
 obtain ⟨s,d,h1,h2⟩:=f.st
 exact ⟨s,d,by rw [upd_ne ne.symm];exact h1,h2⟩⟩
theorem Fx.free {a p:Addr} {H H':Hp} (f:Fx a H H') (h:H' p=none):H p=none:=by
 cases e:H p with
 |none=>rfl
 |some o=>
  by_cases z:p=a
  ·subst z
   obtain ⟨s,d,hs,_⟩:=f.st
   rw [hs] at h;cases h
  ·rw [f.same p o z e] at h;cases h
theorem aLr {a:Addr} {H:Hp} (h:jF H a):aOe (Fx a) H:=⟨fun D o hD=>.of h (aW hD o),fun a b=>a.trans b,fun D o H' hD f=>f.upd hD (h.ne hD),fun D H1 H2 xs hD _ e f=>f.same _ _ (h.ne hD) e⟩
theorem aKu:bootBuiltins "divmod"=some (.builtin "divmod"):=by decide +kernel
def aRl:List V→Hp→VK→Prop:=fun xs H Q=>∃i j,xs=[.int i,.int j]∧(0<j∧j<2 ^ 64)∧∀p H',H p=none→Same H H'→H' p=some (.tup [.int (i / j),.int (i % j)])→Q (.ref p) H'
theorem aK2 {X:Cx}:CallR X (.builtin "divmod") aRl:=by
 intro pins s σ H xs us Q I r h
 obtain ⟨i,j,rfl,⟨h1,h2⟩,q⟩:=h
 obtain ⟨u,w',rfl,⟨t,rfl⟩,⟨t',rfl⟩⟩:=vals2 r
 have h64:j.natAbs<2 ^ 64:=by omega
 have hlog:j.natAbs.log2<9000:=by
  have:=(Nat.log2_lt (show j.natAbs≠0 by omega)).mpr h64
  omega
 refine divmod_int (by omega) ?_ (.inl (PyProof.noPylong_of_log2 hlog))
 rw [Int.fdiv_eq_ediv_of_nonneg i (by omega),Int.fmod_eq_emod_of_nonneg i (by omega)]
 have hn:H s.heap.objs.size=none:=I.hok.fresh (Nat.le_refl _)
 refine ⟨.ref s.heap.objs.size,upd H s.heap.objs.size (.tup [.int (i / j),.int (i % j)]),?_,rfl,q _ _ hn (aW hn _) upd_same⟩
 refine I.laid (fun b o e=>Heap.get?_push_of_some _ e) (Nat.le_refl _) ⟨by simp only [List.length_cons,List.length_nil];rw [sizeLine_eq];decide,[.int (i / j) s.toks,.int (i % j) (s.toks+1)],.cons ⟨_,rfl⟩ (.cons ⟨_,rfl⟩ .nil),?_⟩
 exact .of (Heap.get?_push_size s.heap rfl) rfl ⟨_,Heap.get?_push_size s.heap rfl,rfl,0,rfl⟩
end L2
namespace PySem
section
variable {prog:Program} {w:World} {A:Around} {E:Value→Shared→Prop} {s:Shared}
end
section
variable {prog:Program} {w:World} {κ:Type} [DecidableEq κ] {knd:KeyKind prog w κ}
end
end PySem
namespace PySem
section
variable {prog:Program} {w:World} {A:Around} {E:Value→Shared→Prop} {s:Shared}
end
section
variable {prog:Program} {w:World} {κ:Type} [DecidableEq κ] {knd:KeyKind prog w κ} {A:Around} {E:Value→Shared→Prop} {s:Shared}
end
end PySem
namespace L2
open PySem PySem.Spec PyProof.Rows
section
variable {X:Cx} {a b:Expr} {ta:TA} {pos p pos2 p2:Pos}
end
end L2
namespace My
open PySem PySem.Spec PyProof.Rows L2
section
variable {P:Program} {w:World} {K:PySem.W.Frag} {mg:Str→Option Value} {base:Heap}
theorem aIr {z:Str} {j:Int} (h0:0≤j) (h1:j<z.length):∃c,z.cps[j.toNat]?=some c:=
 ⟨_,Array.getElem?_eq_getElem (by show j.toNat<z.length;omega)⟩
theorem aB1 (x y:Str):(x++y).length=x.length+y.length:=by
 show (x.cps++y.cps).size=_
 rw [Array.size_append]
 rfl
theorem at_of {xs:List V} {j:Int} (h0:0≤j) (h1:j<xs.length):∃v,atI xs j=some v∧v∈xs:=by
 have hj:j.toNat<xs.length:=by omega
 refine ⟨xs[j.toNat],?_,List.getElem_mem hj⟩
 have e2:atI xs ((j.toNat:Nat):Int)=some xs[j.toNat]:=atI_nat (List.getElem?_eq_getElem hj)
 rw [show ((j.toNat:Nat):Int)=j by omega] at e2
 exact e2
def Lets (x:Str):Prop:=∀c∈x.cps,97≤c∧c≤122
theorem aO2:∀k:_root_.Fin 26,inA ⟨#[97+k.val]⟩=true:=by decide +kernel
theorem aQs {c:Nat} (h1:97≤c) (h2:c≤122):inA ⟨#[c]⟩=true:=by
 have:=aO2 ⟨c - 97,by omega⟩
 simp only at this
 rw [show 97+(c - 97)=c by omega] at this
 exact this
theorem allIn_of {x:Str} (h:Lets x):allIn x=true:=by
 unfold allIn
 rw [List.all_eq_true]
 intro b hb
 obtain ⟨i,hi,rfl⟩:=List.mem_map.mp hb
 have hi':i<x.cps.size:=List.mem_range.mp hi
 have e:x.cps.getD i 0=x.cps[i]:=by rw [Array.getD_eq_getD_getElem?,Array.getElem?_eq_getElem hi'];rfl
 obtain ⟨h1,h2⟩:=h _ (Array.getElem_mem hi')
 show inA (sgn x i)=true
 unfold sgn
 rw [e]
 exact aQs h1 h2
theorem Lets.add {x y:Str} (hx:Lets x) (hy:Lets y):Lets (x++y):=fun c hc=>by
 have hc:c∈x.cps++y.cps:=hc
 rcases Array.mem_append.mp hc with h|h
 ·exact hx c h
 ·exact hy c h
theorem Lets.one {z:Str} {i c:Nat} (hz:Lets z) (h:z.cps[i]?=some c):Lets ⟨#[c]⟩:=fun d hd=>by
 have hd:d∈#[c]:=hd
 have e:d=c:=by simpa using hd
 subst e
 exact hz _ (Array.mem_of_getElem? h)
theorem aE7:Lets abc:=by
 have h:(abc.cps.all fun c=>decide (97≤c) && decide (c≤122))=true:=by decide +kernel
 intro c hc
 have:=(Array.all_eq_true_iff_forall_mem.mp h) c hc
 rw [Bool.and_eq_true] at this
 exact ⟨of_decide_eq_true this.1,of_decide_eq_true this.2⟩
inductive tU:Str→V→Prop
 |num {i}:tU "number" (.int i)
 |wrd {x}:Lets x→x.length≤8→tU "word" (.str x)
def aA0 (K:PySem.W.Frag):Sp:=fun vs H Q _=>∃(a:Addr) (ns:List Int),vs=[.ref a]∧SqL K H a (ns.map V.int)∧ns.length≤63∧∀c H',Same H H'→0≤c→c<M61→Q (.int c) H'
theorem aC4 (T:Txt w K mg):Ok P w K mg base 1 "_law_seed" ["_law_script"] (aA0 K):=by
 refine Ok.ofV T.aEb fC (fun vs H Q E h=>?_) (fun f cdv A outer s H vs Q E hr h=>?_)
 ·obtain ⟨a,ns,rfl,_⟩:=h;rfl
 obtain ⟨a,ns,rfl,ha,h63,q⟩:=h
 refine ⟨_,(aC (aR (i:=1) fC.nd rfl (by trivial) aD) (aC (dR PassesOwn.never rfl (aOb (by rfl) T.aE5 (aB (vv 0) aA)) (nO rfl (bB (aK (i:=2) fC.nd rfl (by trivial)) (bB (aK (i:=3) fC.nd rfl (by trivial)) dM))) (aF (aR (i:=1) fC.nd rfl (by trivial) (bK op_mod (bK op_add (bK op_add (bK op_add (bK op_mul (vv 1) aD) (bK op_mod (vv 3) (bK op_pow aD aD))) (bK op_mul aD (vv 2))) aD) aD)))) (aF (aG (vv 1))))),?_⟩
 refine ⟨_,rfl,a,ns.map V.int,rfl,ha,aMb (fun i σ H'=>Same H H'∧∃(c:Int) (l2 l3:Option V),0≤c∧c<M61∧σ=[some (.ref a),some (.int c),l2,l3]) ⟨Same.refl H,7,_,_,by decide,by decide,rfl⟩ (fun i σ H' _ ⟨e,_⟩=>e.seq ha) ?_ ?_⟩
 ·rintro i σ H' x Tp H'' ex ⟨sm,c,l2,l3,c0,c1,rfl⟩ hT rfl
  obtain ⟨z,hz,rfl⟩:=eY ex
  refine ⟨Tp,_,rfl,SqT.of upd_same,rfl,_,_,rfl,_,_,rfl,rfl,?_⟩
  refine ⟨_,rfl,_,_,rfl,rfl,.inr ⟨by decide,by decide⟩,_,rfl,_,_,rfl,rfl,⟨by decide,by decide,by decide⟩,_,_,rfl,rfl,(by show (0:Int)<10 ^ 30;decide),_,_,rfl,rfl,_,rfl,_,_,rfl,rfl,.inl ⟨by decide,by decide⟩,_,_,rfl,rfl,_,_,rfl,rfl,_,_,rfl,rfl,(by show (0:Int)<2305843009213693951;decide),?_⟩
  exact ⟨sm.trans (aW hT _),_,_,_,Int.emod_nonneg _ (by decide),Int.emod_lt_of_pos _ (by decide),rfl⟩
 ·rintro σ H' ⟨sm,c,l2,l3,c0,c1,rfl⟩
  exact ⟨_,rfl,q c H' sm c0 c1⟩
def jM:Sp:=fun vs H Q _=>∃(a:Addr) (m:Int),vs=[.ref a,.int m]∧jF H a∧(0<m∧m<2 ^ 64)∧∀c H',Fx a H H'→0≤c→c<m→Q (.int c) H'
theorem aCh (T:Txt w K mg):Ok P w K mg base 1 "_law_next" ["_law_state","_law_many"] jM:=by
 refine Ok.ofV T.aFp rH (fun vs H Q E h=>?_) (fun f cdv A outer s H vs Q E hr h=>?_)
 ·obtain ⟨a,m,rfl,_⟩:=h;rfl
 obtain ⟨a,m,rfl,⟨st,dg,hs,s0,d0⟩,⟨hm,hm2⟩,q⟩:=h
 refine ⟨_,(aC (bA (aM op_gt (aJ ix_list (vv 0) aD (fun _ _=>rfl)) aD (nomark _)) (aC (aBw (aL aK2 (by rfl) T.aNa aKu (aB (aJ ix_list (vv 0) aD (fun _ _=>rfl)) (aB (vv 1) aA))) (nO rfl (bB (aNq (vv 0) aD set_list) (bB (aK (i:=2) rH.nd rfl (by trivial)) dM)))) (aF (aG (vv 2)))) aP) (aC (aBw (bK op_mod (bK op_add (bK op_mul (aJ ix_list (vv 0) aD (fun _ _=>rfl)) aD) aD) aD) (aNq (vv 0) aD set_list)) (aF (aG (bK op_mod (bK op_fdiv (aJ ix_list (vv 0) aD (fun _ _=>rfl)) aD) (vv 1)))))),?_⟩
 refine ⟨_,rfl,a,_,1,_,rfl,rfl,SqL.of hs,at1 _ _ _,_,_,rfl,rfl,_,rfl,ite2 (fun c=>?_) fun c=>?_⟩
 ·refine ⟨_,rfl,a,_,1,_,rfl,rfl,SqL.of hs,at1 _ _ _,_,rfl,_,_,rfl,⟨hm,hm2⟩,fun p H1 fp s1 g1=>?_⟩
  refine ⟨p,_,rfl,SqT.of g1,rfl,_,_,rfl,⟨_,rfl,a,_,1,1,rfl,rfl,s1 _ _ hs,rfl,?_⟩⟩
  refine ⟨_,_,rfl,rfl,_,rfl,?_⟩
  exact q _ _ ⟨fun b o n h=>by rw [upd_ne n];exact s1 _ _ h,st,dg / m,upd_same,s0,Int.ediv_nonneg d0 (by omega)⟩ (Int.emod_nonneg _ (by omega)) (Int.emod_lt_of_pos _ hm)
 ·refine ⟨_,rfl,a,_,0,_,rfl,rfl,SqL.of hs,at0 _ _,_,_,rfl,rfl,.inr ⟨by decide,by decide⟩,_,_,rfl,rfl,_,_,rfl,rfl,(by show (0:Int)<2305843009213693951;decide),?_⟩
  refine ⟨_,rfl,a,_,0,0,rfl,rfl,hs,rfl,?_⟩
  refine ⟨_,rfl,a,[.int ((st * 1181783497276652981+12345678910987) % 2305843009213693951),.int dg],0,_,rfl,rfl,SqL.of upd_same,at0 _ _,_,_,rfl,rfl,⟨by decide,by decide⟩,_,rfl,_,_,rfl,rfl,hm,?_⟩
  exact q _ _ ⟨fun b o n h=>by rw [upd_ne n];exact h,(st * 1181783497276652981+12345678910987) % 2305843009213693951,dg,upd_same,⟨Int.emod_nonneg _ (by decide),Int.emod_lt_of_pos _ (by decide)⟩,d0⟩ (Int.emod_nonneg _ (by omega)) (Int.emod_lt_of_pos _ hm)
def aDp (K:PySem.W.Frag):Sp:=fun vs H Q _=>∃(a:Addr) (ns:List Int),vs=[.ref a]∧SqL K H a (ns.map V.int)∧ns.length≤63∧∀p H',H p=none→Same H H'→jF H' p→Q (.ref p) H'
theorem zF (T:Txt w K mg) (aFs:Ok P w K mg base 1 "_law_seed" ["_law_script"] (aA0 K)):Ok P w K mg base 2 "_law_begin" ["_law_script"] (aDp K):=by
 refine Ok.ofV T.aCo jW (fun vs H Q E h=>?_) (fun f cdv A outer s H vs Q E hr h=>?_)
 ·obtain ⟨a,ns,rfl,_⟩:=h;rfl
 obtain ⟨a,ns,rfl,ha,h63,q⟩:=h
 refine ⟨_,(aC (aR (i:=1) jW.nd rfl (by trivial) aD) (aC (bA (VW.pt (aBf (aM op_gt (aL call_len_seq (by rfl) T.cZ cA (aB (vv 0) aA)) aD (nomark _)) (vV (aM op_eq (bK op_mod (aJ ix_list (vv 0) aD (fun _ _=>rfl)) aD) aD (nomark _))))) (aF (aR (i:=1) jW.nd rfl (by trivial) (bK op_fdiv (aL call_abs (by rfl) T.aRj aQv (aB (aJ ix_list (vv 0) aD (fun _ _=>rfl)) aA)) aD))) aP) (aF (aG (cB (aB (aH (aFs.mono (by decide)) hr (by rfl) (aB (vv 0) aA)) (aB (vv 1) aA))))))),?_⟩
 have fin:∀dg:Int,0≤dg→∀(σ:L2.St),σ=[some (.ref a),some (.int dg)]→(tRet (aPc (tCons (tCall (aA0 K) [] E0 (tCons (tVar 0) tNil)) (tCons (tVar 1) tNil)))) { nx:=fun _ H'=>Q V.non H',rt:=Q } σ H:=by
  rintro dg d0 σ rfl
  exact ⟨_,rfl,a,ns,rfl,ha,h63,fun c H1 s1 c0 c1=>⟨_,rfl,(by show 2≤sizeLine;decide),fun p H2 fp s2 g2=>q p H2 (s1.free fp) (s1.trans s2) ⟨c,dg,g2,⟨c0,c1⟩,d0⟩⟩⟩
 refine ⟨_,rfl,a,_,rfl,.inl ha,_,_,rfl,rfl,_,rfl,?_⟩
 cases ns with
 |nil=>exact iteF (fin 0 (by decide) _ rfl)
 |cons n r=>
  have e1:decide ((0:Int)<((n::r).map V.int).length)=true:=decide_eq_true (by simp)
  rw [show (decide (((((n::r).map V.int).length:Nat):Int) > 0))=true from e1]
  refine iteT ⟨_,rfl,a,_,0,.int n,rfl,rfl,ha,at0 _ _,_,_,rfl,rfl,(by show (0:Int)<2;decide),rfl,_,rfl,ite2 (fun c=>?_) fun c=>?_⟩
  ·exact ⟨_,rfl,a,_,0,.int n,rfl,rfl,ha,at0 _ _,_,rfl,_,_,rfl,rfl,⟨by decide,by decide⟩,fin _ (Int.ediv_nonneg (by split <;> omega) (by decide)) _ rfl⟩
  ·exact fin 0 (by decide) _ rfl
def aF3:Sp:=fun vs H Q _=>∃a:Addr,vs=[.ref a]∧jF H a∧∀i H',Fx a H H'→Q (.int i) H'
theorem yV (T:Txt w K mg) (aQ:Ok P w K mg base 1 "_law_next" ["_law_state","_law_many"] jM):Ok P w K mg base 2 "_law_great" ["_law_state"] aF3:=by
 refine Ok.ofV T.aC3 gY (fun vs H Q E h=>?_) (fun f cdv A outer s H vs Q E hr h=>?_)
 ·obtain ⟨a,rfl,_⟩:=h;rfl
 obtain ⟨a,rfl,hs,q⟩:=h
 refine ⟨_,(aC (aR (i:=1) gY.nd rfl (by trivial) aD) (aC (dR PassesOwn.never rfl (eU (by rfl) T.jL (aB aD aA)) (aK (i:=2) gY.nd rfl (by trivial)) (aF (aR (i:=1) gY.nd rfl (by trivial) (bK op_add (bK op_mul (vv 1) (bK op_pow aD aD)) (aH (aQ.mono (by decide)) hr (by rfl) (aB (vv 0) (aB (bK op_pow aD aD) aA))))))) (aF (aG (aJ ix_list (cB (aB (vv 1) (aB (bK op_sub aD (vv 1)) aA))) (aH (aQ.mono (by decide)) hr (by rfl) (aB (vv 0) (aB aD aA))) (fun _ _=>rfl)))))),?_⟩
 refine ⟨_,rfl,by decide,by decide,for_range (n:=4) (fun i σ H'=>Fx a H H'∧∃(c:Int) (l2:Option V),σ=[some (.ref a),some (.int c),l2]) ⟨.refl hs,0,_,rfl⟩ ?_ ?_⟩
 ·rintro i σ H' hi ⟨fx,c,l2,rfl⟩
  refine ⟨_,rfl,_,_,rfl,rfl,⟨by decide,by decide,by decide⟩,_,_,rfl,rfl,.inr ⟨by decide,by decide⟩,_,rfl,_,_,rfl,rfl,⟨by decide,by decide,by decide⟩,a,_,rfl,fx.st,(by show (0:Int)<10 ^ 15∧(10:Int) ^ 15<2 ^ 64;decide),fun d H1 f1 _ _=>?_⟩
  exact ⟨_,_,rfl,rfl,fx.trans f1,_,_,rfl⟩
 ·rintro σ H' ⟨fx,c,l2,rfl⟩
  refine ⟨_,rfl,_,rfl,_,_,rfl,rfl,(by show 2≤sizeLine;decide),fun p H1 fp s1 g1=>?_⟩
  refine ⟨_,rfl,a,2,rfl,fx.st.same s1,by decide,fun d H2 f2 d0 d1=>?_⟩
  obtain ⟨v,hv,mv⟩:=at_of (xs:=[.int c,.int (0 - c)]) d0 (by show d<2;omega)
  refine ⟨p,_,_,v,rfl,rfl,SqL.of (f2.same _ _ (fx.st.ne fp) g1),hv,?_⟩
  simp only [List.mem_cons,List.not_mem_nil,or_false] at mv
  rcases mv with rfl|rfl
  ·exact q _ _ ((fx.sm s1).trans f2)
  ·exact q _ _ ((fx.sm s1).trans f2)
abbrev aIa:List V:=[.str "",.str "a",.str "b",.str "ab"]
def vD (k:Str):Prop:=k = "number"∨k = "word"
def aIn:Sp:=fun vs H Q _=>∃(a:Addr) (kd:Str),vs=[.ref a,.str kd]∧jF H a∧vD kd∧∀v H',Fx a H H'→tU kd v→Q v H'
theorem aHn {v:V} (h:v∈aIa):tU "word" v:=by
 simp only [aIa,List.mem_cons,List.not_mem_nil,or_false] at h
 have le:∀x:Str,(x.cps.all fun c=>decide (97≤c) && decide (c≤122))=true→Lets x:=fun x hx c hc=>by
  have:=(Array.all_eq_true_iff_forall_mem.mp hx) c hc
  rw [Bool.and_eq_true] at this
  exact ⟨of_decide_eq_true this.1,of_decide_eq_true this.2⟩
 rcases h with rfl|rfl|rfl|rfl
 ·exact .wrd (le _ (by decide +kernel)) (by decide +kernel)
 ·exact .wrd (le _ (by decide +kernel)) (by decide +kernel)
 ·exact .wrd (le _ (by decide +kernel)) (by decide +kernel)
 ·exact .wrd (le _ (by decide +kernel)) (by decide +kernel)
theorem yI (T:Txt w K mg) (aQ:Ok P w K mg base 1 "_law_next" ["_law_state","_law_many"] jM) (aAv:Ok P w K mg base 2 "_law_great" ["_law_state"] aF3):Ok P w K mg base 3 "_law_value" ["_law_state","_law_kind"] aIn:=by
 refine Ok.ofV T.aCd dW (fun vs H Q E h=>?_) (fun f cdv A outer s H vs Q E hr h=>?_)
 ·obtain ⟨a,kd,rfl,_⟩:=h;rfl
 obtain ⟨a,kd,rfl,hs,hk,q⟩:=h
 refine ⟨_,(aC (aR (i:=2) dW.nd rfl (by trivial) (aH (aQ.mono (by decide)) hr (by rfl) (aB (vv 0) (aB aD aA)))) (aC (bA (aM op_eq (vv 1) aO (nomark _)) (aF (aG (aJ ix_list (cB (aB (bK op_sub (aH (aQ.mono (by decide)) hr (by rfl) (aB (vv 0) (aB aD aA))) aD) (aB (aH (aAv.mono (by decide)) hr (by rfl) (aB (vv 0) aA)) aA))) (bD call_int1 (by rfl) T.aIj aBe (aB (dD op_eq (vv 2) aD (nomark _)) aA)) (fun _ _=>rfl)))) aP) (aC (bA (aM op_lt (vv 2) aD (nomark _)) (aF (aG (aJ ix_list (cB (aB aO (aB aO (aB aO (aB aO aA))))) (bK op_mod (vv 2) aD) (fun _ _=>rfl)))) aP) (aC (aR (i:=3) dW.nd rfl (by trivial) aO) (aC (dR PassesOwn.never rfl (eU (by rfl) T.jL (aB (aH (aQ.mono (by decide)) hr (by rfl) (aB (vv 0) (aB aD aA))) aA)) (aK (i:=4) dW.nd rfl (by trivial)) (aF (aR (i:=3) dW.nd rfl (by trivial) (bK op_add_str (vv 3) (oF aO (aH (aQ.mono (by decide)) hr (by rfl) (aB (vv 0) (aB aD aA))) (fun _ _=>rfl)))))) (aF (aG (vv 3)))))))),?_⟩
 refine ⟨_,rfl,a,10,rfl,hs,by decide,fun way H1 f1 w0 w1=>?_⟩
 rcases hk with rfl|rfl
 ·refine ⟨_,rfl,rfl,_,rfl,iteT ?_⟩
  refine ⟨_,rfl,a,4,rfl,f1.st,by decide,fun d H2 f2 d0 d1=>?_⟩
  refine ⟨_,_,rfl,rfl,_,rfl,a,rfl,f2.st,fun g H3 f3=>?_⟩
  refine ⟨(by show 2≤sizeLine;decide),fun p H4 _ s4 g4=>?_⟩
  have fx:=(f1.trans (f2.trans f3)).sm s4
  refine ⟨_,rfl,rfl,.inr ⟨_,rfl,?_⟩⟩
  by_cases e:way=9
  ·rw [decide_eq_true (congrArg V.int e)]
   exact ⟨p,_,_,_,rfl,rfl,SqL.of g4,atI_nat (j:=1) rfl,q _ _ fx .num⟩
  ·rw [decide_eq_false (by intro z;exact e (V.int.inj z))]
   exact ⟨p,_,_,_,rfl,rfl,SqL.of g4,atI_nat (j:=0) rfl,q _ _ fx .num⟩
 ·refine ⟨_,rfl,rfl,_,rfl,iteF ?_⟩
  refine ⟨_,rfl,_,_,rfl,rfl,_,rfl,ite2 (fun _=>?_) (fun _=>?_)⟩
  ·refine ⟨(by show 4≤sizeLine;decide),fun p H4 _ s4 g4=>?_⟩
   obtain ⟨v,hv,mv⟩:=at_of (xs:=aIa) (j:=way % 4) (by omega) (by show way % 4<4;omega)
   exact ⟨_,rfl,_,_,rfl,rfl,(by show (0:Int)<4;decide),p,_,_,v,rfl,rfl,SqL.of g4,hv,q _ _ (f1.sm s4) (aHn mv)⟩
  ·refine ⟨_,rfl,a,9,rfl,f1.st,by decide,fun n H2 f2 n0 n1=>?_⟩
   refine ⟨_,rfl,by omega,by omega,for_range (n:=n.toNat) (fun i σ H'=>Fx a H H'∧∃(x:Str) (l4:Option V),σ=[some (.ref a),some (.str "word"),some (.int way),some (.str x),l4]∧x.length≤i∧Lets x) ⟨f1.trans f2,_,_,rfl,by decide +kernel,fun d hd=>by simp [show (("":Str).cps)=#[] from rfl] at hd⟩ ?_ ?_⟩
   ·rintro i σ H' hi ⟨fx,x,l4,rfl,hl,hx⟩
    have al:abc.length=26:=by decide +kernel
    refine ⟨_,rfl,_,rfl,a,26,rfl,fx.st,by decide,fun d H3 f3 d0 d1=>?_⟩
    obtain ⟨ch,hch⟩:=aIr (z:=abc) d0 (by rw [al];exact d1)
    refine ⟨_,_,_,rfl,rfl,d0,(by omega),(by rw [al];exact d1),hch,_,_,rfl,rfl,?_,fx.trans f3,_,_,rfl,?_,hx.add (aE7.one hch)⟩
    ·show x.length+1≤sizeLine
     exact small (by omega)
    ·rw [aB1]
     show x.length+1≤i+1
     omega
   ·rintro σ H' ⟨fx,x,l4,rfl,hl,hx⟩
    exact ⟨_,rfl,q _ _ fx (.wrd hx (by omega))⟩
def zZ:Sp:=fun vs H Q _=>vs=[]∧∀p H',H p=none→Same H H'→H' p=some (.lst words)→Q (.ref p) H'
theorem yZ (T:Txt w K mg):Ok P w K mg base 1 "_law_words" [] zZ:=by
 refine Ok.ofV T.aCf pD (fun vs H Q E h=>?_) (fun f cdv A outer s H vs Q E hr h=>?_)
 ·obtain ⟨rfl,_⟩:=h;rfl
 obtain ⟨rfl,q⟩:=h
 refine ⟨_,(aC (aR (i:=0) pD.nd rfl (by trivial) (cB (aB aO (aB aO (aB aO (aB aO (aB aO (aB aO (aB aO (aB aO (aB aO aA))))))))))) (aF (aG (bK aL1 (vv 0) (cB (aB aO (aB aO (aB aO (aB aO (aB aO (aB aO (aB aO (aB aO aA))))))))))))),?_⟩
 refine ⟨(by show 9≤sizeLine;decide),fun p1 H1 _ s1 g1=>?_⟩
 refine ⟨_,rfl,(by show 8≤sizeLine;decide),fun p2 H2 _ s2 g2=>?_⟩
 exact ⟨p1,p2,_,_,rfl,rfl,s2 _ _ g1,g2,(by show 9+8≤sizeLine;decide),fun p H3 f3 s3 g3=>q p H3 ((s1.trans s2).free f3) (s1.trans (s2.trans s3)) g3⟩
def oW (ns:List Str):Prop:=ns.length=17∧(∀n∈ns,Nm n)∧ns.Nodup
theorem oW.rev {ns:List Str} (h:oW ns):oW ns.reverse:=⟨by rw [List.length_reverse];exact h.1,fun n hn=>h.2.1 n (List.mem_reverse.mp hn),List.pairwise_reverse.mpr (h.2.2.imp fun q=>Ne.symm q)⟩
theorem aQu:∀j:_root_.Fin 26,abc.cps[j.val]?=some (97+j.val):=by decide +kernel
theorem aOf {j:Nat} (h:j<26):abc.cps[j]?=some (97+j):=aQu ⟨j,h⟩
def sgl (o:Nat):List Str:=(List.range 17).map fun k=>⟨#[97+(o+k)]⟩
theorem aIx:∀o:_root_.Fin 10,((sgl o.val).all fun n=>nameB (.str n))=true∧(Txt.slice abc (some (o.val:Int)) (some ((o.val:Int)+17))).cps.size=17∧((List.range 17).all fun i=>decide (sgn (Txt.slice abc (some (o.val:Int)) (some ((o.val:Int)+17))) i=⟨#[97+(o.val+i)]⟩))=true:=by decide +kernel
theorem aMo {a b:Nat} (h:(⟨#[a]⟩:Str)=⟨#[b]⟩):a=b:=by
 have:=congrArg (fun x:Str=>x.cps.toList) h
 simpa using this
theorem aNh {o:Nat} (h:o<10):oW (sgl o):=by
 refine ⟨by simp [sgl],fun n hn=>?_,?_⟩
 ·have:=(aIx ⟨o,h⟩).1
  rw [List.all_eq_true] at this
  exact this n hn
 ·refine List.pairwise_map.mpr (List.Pairwise.imp_of_mem ?_ List.nodup_range)
  intro k l _ _ ne e
  have:=aMo e
  exact ne (by omega)
theorem aOg {o:Nat} (h:o<10):((List.range (Txt.slice abc (some (o:Int)) (some ((o:Int)+17))).cps.size).map fun i=>V.str (sgn (Txt.slice abc (some (o:Int)) (some ((o:Int)+17))) i))=(sgl o).map V.str:=by
 obtain ⟨_,h2,h3⟩:=aIx ⟨o,h⟩
 have h2:(Txt.slice abc (some (o:Int)) (some ((o:Int)+17))).cps.size=17:=h2
 rw [h2]
 unfold sgl
 rw [List.map_map]
 refine List.map_congr_left fun i hi=>?_
 rw [List.all_eq_true] at h3
 have:=of_decide_eq_true (h3 i hi)
 show V.str _=V.str _
 exact congrArg V.str this
def stm (b:Str) (a o:Nat):Nat→List Str:=fun i=>(List.range i).map fun k=>put b a (97+(o+k))
theorem aQ2 {b:Str} {a o:Nat} (hb:Lets b) (hl:b.length≤7) (ha:a≤b.length) (ho:o<10) (hw:∀w∈words,inV w ((stm b a o 17).map V.str)=false):oW (stm b a o 17):=by
 refine ⟨by simp [stm],fun n hn=>?_,?_⟩
 ·obtain ⟨k,hk,rfl⟩:=List.mem_map.mp hn
  have hk:=List.mem_range.mp hk
  have hin:inV (.str (put b a (97+(o+k)))) words=false:=by
   cases e:inV (.str (put b a (97+(o+k)))) words with
   |false=>rfl
   |true=>
    exfalso
    unfold inV at e
    rw [List.any_eq_true] at e
    obtain ⟨v,hv,ev⟩:=e
    have hvs:∃z:Str,v=.str z:=by
     simp only [words,List.mem_cons,List.not_mem_nil,or_false] at hv
     rcases hv with rfl|rfl|rfl|rfl|rfl|rfl|rfl|rfl|rfl|rfl|rfl|rfl|rfl|rfl|rfl|rfl|rfl <;> exact ⟨_,rfl⟩
    obtain ⟨z,rfl⟩:=hvs
    have e2:(z == put b a (97+(o+k)))=true:=ev
    have e3:z=put b a (97+(o+k)):=by simpa using e2
    have:=hw _ hv
    rw [aCv,decide_eq_false_iff_not] at this
    exact this (by rw [e3];exact hn)
  show ((decide (1≤(put b a (97+(o+k))).length) && (decide ((put b a (97+(o+k))).length≤8) && allIn (put b a (97+(o+k))))) && !inV (.str (put b a (97+(o+k)))) words)=true
  have hL:Lets (put b a (97+(o+k))):=fun c hc=>by
   rcases aNw ha hc with rfl|z
   ·omega
   ·exact hb c z
  rw [vU ha,decide_eq_true (p:=1≤b.length+1) (by omega),decide_eq_true (p:=b.length+1≤8) (by omega),allIn_of hL,hin]
  rfl
 ·refine List.pairwise_map.mpr (List.Pairwise.imp_of_mem ?_ List.nodup_range)
  intro k l _ _ ne e
  have:=aOq ha e
  exact ne (by omega)
def aNe:Sp:=fun vs H Q _=>∃a:Addr,vs=[.ref a,.int 17]∧jF H a∧∀p H' ns,Fx a H H'→H p=none→H' p=some (.lst (ns.map V.str))→oW ns→Q (.ref p) H'
theorem yC (T:Txt w K mg) (aQ:Ok P w K mg base 1 "_law_next" ["_law_state","_law_many"] jM) (aDa:Ok P w K mg base 1 "_law_words" [] zZ):Ok P w K mg base 2 "_law_names" ["_law_state","_law_many"] aNe:=by
 refine Ok.ofV T.aBr bQ (fun vs H Q E h=>?_) (fun f cdv A outer s H vs Q E hr h=>?_)
 ·obtain ⟨a,rfl,_⟩:=h;rfl
 obtain ⟨a,rfl,hs,q⟩:=h
 refine ⟨_,(aC (aR (i:=2) bQ.nd rfl (by trivial) aO) (aC (aR (i:=3) bQ.nd rfl (by trivial) (aH (aQ.mono (by decide)) hr (by rfl) (aB (vv 0) (aB (bK op_sub aD (vv 1)) aA)))) (aC (aR (i:=4) bQ.nd rfl (by trivial) aO) (aC (dR PassesOwn.never rfl (eU (by rfl) T.jL (aB (aH (aQ.mono (by decide)) hr (by rfl) (aB (vv 0) (aB aD aA))) aA)) (aK (i:=5) bQ.nd rfl (by trivial)) (aF (aR (i:=4) bQ.nd rfl (by trivial) (bK op_add_str (vv 4) (oF (vv 2) (aH (aQ.mono (by decide)) hr (by rfl) (aB (vv 0) (aB aD aA))) (fun _ _=>rfl)))))) (aC (aR (i:=6) bQ.nd rfl (by trivial) (aH (aQ.mono (by decide)) hr (by rfl) (aB (vv 0) (aB (bK op_add (aL call_len_str (by rfl) T.cZ cA (aB (vv 4) aA)) aD) aA)))) (aC (aR (i:=7) bQ.nd rfl (by trivial) (cB aA)) (aC (dR PassesOwn.never rfl (eU (by rfl) T.jL (aB (vv 1) aA)) (aK (i:=5) bQ.nd rfl (by trivial)) (aF (bW (jZ PySem.F.plainAttrs_list PySem.F.slot_list_append PySem.F.type_list_append dH (vv 7) (aB (bK op_add_str (bK op_add_str (fJ aC5 (vv 4) lC (fU (vv 6))) (oF (vv 2) (bK op_add (vv 3) (vv 5)) (fun _ _=>rfl))) (fJ aC5 (vv 4) (fU (vv 6)) lC)) aA))))) (aC (bA (cQ (aL (aGd rfl) (by rfl) T.aPz aMv (aB (bM (N:=["_law_word","_law_names_here"]) (by trivial) (bT (defScope iK) rfl (by decide +kernel)) rfl (cN (aQ8 (aDa.mono (by decide)) hr (by rfl))) (fun cl s' H' fp=>⟨(aK (i:=0) (show (["_law_word","_law_names_here"]:List Str).Nodup from by decide +kernel) rfl (Or.inl rfl)),bJ,(dD (aIi (K:=K)) (vv 0) (vv 1) (by with_unfolding_all rfl))⟩)) aA))) (aF (aR (i:=7) bQ.nd rfl (by trivial) (bD (aG7 rfl) (by rfl) T.wA qW (aB (fJ aC5 (vv 2) (fU (vv 3)) (fU (bK op_add (vv 3) (vv 1)))) aA)))) aP) (aC (bA (aM op_eq (aH (aQ.mono (by decide)) hr (by rfl) (aB (vv 0) (aB aD aA))) aD (nomark _)) (aF (bW (aCl PySem.F.plainAttrs_list PySem.F.slot_list_reverse PySem.F.type_list_reverse uR (vv 7)))) aP) (aF (aG (vv 7)))))))))))),?_⟩
 have al:abc.length=26:=by decide +kernel
 refine ⟨_,rfl,_,rfl,_,_,rfl,rfl,a,10,rfl,hs,by decide,fun od H1 f1 o0 o1=>?_⟩
 obtain ⟨o,rfl⟩:∃o:Nat,od=o:=⟨od.toNat,by omega⟩
 have ho:o<10:=by omega
 refine ⟨_,rfl,a,8,rfl,f1.st,by decide,fun n H2 f2 n0 n1=>?_⟩
 refine ⟨_,rfl,by omega,by omega,for_range (n:=n.toNat) (fun i σ H'=>Fx a H H'∧∃(x:Str) (l5:Option V),σ=[some (.ref a),some (.int 17),some (.str abc),some (.int (o:Nat)),some (.str x),l5,none,none]∧x.length≤i∧Lets x) ⟨f1.trans f2,_,_,rfl,by decide +kernel,fun d hd=>by simp [show (("":Str).cps)=#[] from rfl] at hd⟩ ?_ ?_⟩
 ·rintro i σ H' hi ⟨fx,x,l5,rfl,hl,hx⟩
  refine ⟨_,rfl,_,rfl,_,rfl,a,26,rfl,fx.st,by decide,fun d H3 f3 d0 d1=>?_⟩
  obtain ⟨ch,hch⟩:=aIr (z:=abc) d0 (by rw [al];exact d1)
  refine ⟨_,_,_,rfl,rfl,d0,(by omega),(by rw [al];exact d1),hch,_,_,rfl,rfl,?_,fx.trans f3,_,_,rfl,?_,hx.add (aE7.one hch)⟩
  ·show x.length+1≤sizeLine
   exact small (by omega)
  ·rw [aB1]
   show x.length+1≤i+1
   omega
 rintro σ H3 ⟨f3,b,l5,rfl,hl,hb⟩
 have hb7:b.length≤7:=by omega
 refine ⟨_,rfl,_,rfl,_,rfl,small (by omega),_,_,rfl,rfl,a,_,rfl,f3.st,(by show (0:Int)<(b.length:Int)+1∧(b.length:Int)+1<2 ^ 64;omega),fun ai H4 f4 a0 a1=>?_⟩
 obtain ⟨at',rfl⟩:∃at':Nat,ai=at':=⟨ai.toNat,by omega⟩
 have ha:at'≤b.length:=by
  have:(at':Int)<(b.length:Int)+1:=a1
  omega
 have fx4:=f3.trans f4
 refine ⟨(by show 0≤sizeLine;decide),fun p H5 fp s5 g5=>?_⟩
 have fp0:H p=none:=fx4.free fp
 have npa:p≠a:=hs.ne fp0
 refine ⟨_,rfl,_,rfl,by decide,by decide,for_range (n:=17) (fun i σ H'=>Fx a H H'∧H' p=some (.lst ((stm b at' o i).map V.str))∧∃l5,σ=[some (.ref a),some (.int 17),some (.str abc),some (.int (o:Nat)),some (.str b),l5,some (.int (at':Nat)),some (.ref p)]) ⟨fx4.sm s5,g5,_,rfl⟩ ?_ ?_⟩
 ·rintro i σ H' hi ⟨fx,gp,l5,rfl⟩
  have s1:=Txt.slice_le b none (some ((at':Nat):Int))
  have s2:=Txt.slice_le b (some ((at':Nat):Int)) none
  have ej:((o:Int)+(0+(i:Int))).toNat=o+i:=by omega
  have hch:abc.cps[((o:Int)+(0+(i:Int))).toNat]?=some (97+(o+i)):=by rw [ej];exact aOf (by omega)
  refine ⟨_,rfl,.inl ⟨rfl,_,SqL.of gp⟩,_,rfl,_,rfl,_,rfl,_,rfl,small (by omega),_,rfl,_,rfl,_,rfl,_,_,rfl,rfl,_,_,_,rfl,rfl,(by show 0≤(o:Int)+(0+(i:Int));omega),(by show (o:Int)+(0+(i:Int))<2 ^ 63;omega),(by rw [al];show (o:Int)+(0+(i:Int))<26;omega),hch,_,_,rfl,rfl,?_,_,rfl,_,rfl,_,rfl,_,rfl,small (by omega),_,_,rfl,rfl,?_,?_⟩
  ·show (Txt.slice b none (some ((at':Nat):Int))).length+1≤sizeLine
   exact small (by omega)
  ·rw [aB1]
   show (Txt.slice b none (some ((at':Nat):Int))).length+1+_≤sizeLine
   exact small (by omega)
  refine ⟨p,_,_,rfl,rfl,gp,?_,fx.upd fp0 npa,?_,_,rfl⟩
  ·rw [List.length_map]
   exact small1000 (by simp [stm];omega)
  ·rw [upd_same]
   unfold stm
   rw [List.range_succ,List.map_append,List.map_append]
   rfl
 rintro σ H6 ⟨f6,g6,l5',rfl⟩
 dsimp only [tSeq,tIfS,tB,tCB,tCons]
 refine aAo (K:=K) (fun us=>us=words) (fun i _ y=>∃w',words[i]?=some w'∧y=.bl (inV w' ((stm b at' o 17).map V.str))) (fun _ h=>h) (fun _ h=>h) [none,some (.ref p)] ?_ rfl (fun R r=>⟨rfl,fun W H7 _ s7 g7=>r W H7 _ s7 g7 rfl⟩) (fun us e=>by subst e;exact small (by decide)) (fun us e i x ex H' R l sm r=>?_) fun us e D H7 ys s7 g7 hly hR=>?_
 ·exact bU 7 (by decide +kernel) rfl rfl (by trivial)
 ·subst e
  have fl:flatV x=true:=by
   have:=wY
   rw [List.all_eq_true] at this
   exact this x (List.mem_of_getElem? ex)
  exact ⟨_,rfl,_,rfl,p,_,rfl,.inl (SqL.of (sm _ _ g6)),fl,xJ,r _ _ (Same.refl _) ⟨x,ex,rfl⟩⟩
 subst e
 have ey:ys=(words.map fun w'=>inV w' ((stm b at' o 17).map V.str)).map V.bl:=by
  rw [List.map_map]
  refine List.ext_getElem? fun i=>?_
  by_cases hi:i<ys.length
  ·obtain ⟨w',h1,h2⟩:=hR i ys[i] (List.getElem?_eq_getElem hi)
   rw [List.getElem?_eq_getElem hi,List.getElem?_map,h1,h2]
   rfl
  ·rw [List.getElem?_eq_none (by omega),List.getElem?_eq_none (by rw [List.length_map];omega)]
 rw [ey] at g7
 refine ⟨D,_,rfl,SqL.of g7,_,rfl,?_⟩
 have f7:=f6.sm s7
 refine ite2 (fun c=>?_) (fun c=>?_)
 ·refine ⟨_,rfl,_,rfl,_,rfl,_,rfl,_,rfl,_,_,rfl,rfl,_,rfl,abc,rfl,small (by rw [al];decide),?_⟩
  refine ⟨_,rfl,?_,fun p2 H8 fp2 s8 g8=>?_⟩
  ·have:=Txt.slice_le abc (some (o:Int)) (some ((o:Int)+17))
   rw [al] at this
   exact Nat.le_trans this (by decide)
  have g8':H8 p2=some (.lst ((sgl o).map V.str)):=by rw [g8];exact congrArg (fun z=>some (HO.lst z)) (aOg ho)
  have f8:=f7.sm s8
  have fp20:H p2=none:=f7.free fp2
  refine ⟨_,rfl,a,2,rfl,f8.st,by decide,fun d H9 f9 d0 d1=>?_⟩
  have g9:=f9.same _ _ (hs.ne fp20) g8'
  refine ⟨rfl,_,rfl,ite2 (fun _=>?_) (fun _=>?_)⟩
  ·refine ⟨_,rfl,.inl ⟨rfl,_,SqL.of g9⟩,p2,_,rfl,rfl,g9,?_⟩
   refine ⟨_,rfl,q p2 _ (sgl o).reverse ((f8.trans f9).upd fp20 (hs.ne fp20)) fp20 ?_ (aNh ho).rev⟩
   rw [upd_same,List.map_reverse]
  ·exact ⟨_,rfl,q p2 _ (sgl o) (f8.trans f9) fp20 g9 (aNh ho)⟩
 ·have hw:∀w'∈words,inV w' ((stm b at' o 17).map V.str)=false:=fun w' hw'=>by
   cases e:inV w' ((stm b at' o 17).map V.str) with
   |false=>rfl
   |true=>
    exfalso
    apply c
    rw [List.any_eq_true]
    exact ⟨true,List.mem_map.mpr ⟨w',hw',e⟩,rfl⟩
  have hn:=aQ2 hb hb7 ha ho hw
  refine ⟨_,rfl,a,2,rfl,f7.st,by decide,fun d H9 f9 d0 d1=>?_⟩
  have g9:=f9.same _ _ npa (s7 _ _ g6)
  refine ⟨rfl,_,rfl,ite2 (fun _=>?_) (fun _=>?_)⟩
  ·refine ⟨_,rfl,.inl ⟨rfl,_,SqL.of g9⟩,p,_,rfl,rfl,g9,?_⟩
   refine ⟨_,rfl,q p _ (stm b at' o 17).reverse ((f7.trans f9).upd fp0 npa) fp0 ?_ hn.rev⟩
   rw [upd_same,List.map_reverse]
  ·exact ⟨_,rfl,q p _ (stm b at' o 17) (f7.trans f9) fp0 g9 hn⟩
def aP7 (hd:Hdr):Prop:=Good hd∧∀c∈hd,Nm c.1∧vD c.2
def aF4 (K:PySem.W.Frag):Sp:=fun vs H Q _=>∃(a N:Addr) (ns:List Str),vs=[.ref a,.ref N]∧jF H a∧H N=some (.lst (ns.map V.str))∧N≠a∧oW ns∧∀v H' hd,Fx a H H'→cM K H' v hd→aP7 hd→hd.length≤7→Q v H'
theorem aQw {α:Type} {l:List α} (h:l.Nodup) {i j:Nat} {x:α} (h1:l[i]?=some x) (h2:l[j]?=some x):i=j:=by
 have hp:=List.pairwise_iff_getElem.mp h
 obtain ⟨hi,e1⟩:=List.getElem?_eq_some_iff.mp h1
 obtain ⟨hj,e2⟩:=List.getElem?_eq_some_iff.mp h2
 rcases Nat.lt_trichotomy i j with q|q|q
 ·exact absurd (e1.trans e2.symm) (hp i j hi hj q)
 ·exact q
 ·exact absurd (e2.trans e1.symm) (hp j i hj hi q)
theorem aR3 {α:Type} {l:List α} (h:∀(i j:Nat) (x:α),l[i]?=some x→l[j]?=some x→i=j):l.Nodup:=by
 refine List.pairwise_iff_getElem.mpr fun i j hi hj hij e=>?_
 have:=h i j l[i] (List.getElem?_eq_getElem hi) (by rw [List.getElem?_eq_getElem hj,e])
 omega
theorem aMz {ns:List Str} (hn:oW ns) {st:Nat} {hd:Hdr} (hl:hd.length≤8) (h:∀(j:Nat) (c:Str × Str),hd[j]?=some c→ns[3+(st+j) % 8]?=some c.1):(hd.map (·.1)).Nodup:=by
 refine aR3 fun i j x h1 h2=>?_
 have g:∀k,(hd.map (·.1))[k]?=some x→k<hd.length∧ns[3+(st+k) % 8]?=some x:=fun k hk=>by
  rw [List.getElem?_map] at hk
  cases e:hd[k]? with
  |none=>rw [e] at hk;cases hk
  |some c=>
   rw [e] at hk
   cases hk
   exact ⟨(List.getElem?_eq_some_iff.mp e).1,h k c e⟩
 obtain ⟨l1,g1⟩:=g i h1
 obtain ⟨l2,g2⟩:=g j h2
 have:=aQw hn.2.2 g1 g2
 omega
theorem aA1 (T:Txt w K mg) (aQ:Ok P w K mg base 1 "_law_next" ["_law_state","_law_many"] jM):Ok P w K mg base 2 "_law_head" ["_law_state","_law_names_here"] (aF4 K):=by
 refine Ok.ofV T.aFx fP (fun vs H Q E h=>?_) (fun f cdv A outer s H vs Q E hr h=>?_)
 ·obtain ⟨a,N,ns,rfl,_⟩:=h;rfl
 obtain ⟨a,N,ns,rfl,hs,hN,nN,hn,q⟩:=h
 refine ⟨_,(aC (aR (i:=2) fP.nd rfl (by trivial) (aH (aQ.mono (by decide)) hr (by rfl) (aB (vv 0) (aB aD aA)))) (aC (aR (i:=3) fP.nd rfl (by trivial) (cB aA)) (aC (dR PassesOwn.never rfl (eU (by rfl) T.jL (aB (bK op_add aD (aH (aQ.mono (by decide)) hr (by rfl) (aB (vv 0) (aB aD aA)))) aA)) (aK (i:=4) fP.nd rfl (by trivial)) (aC (aR (i:=5) fP.nd rfl (by trivial) (aJ ix_list (cB (aB aO (aB aO (aB aO aA)))) (aH (aQ.mono (by decide)) hr (by rfl) (aB (vv 0) (aB aD aA))) (fun _ _=>rfl))) (aF (bW (jZ PySem.F.plainAttrs_list PySem.F.slot_list_append PySem.F.type_list_append dH (vv 3) (aB (bY (aB (aJ ix_list (vv 1) (bK op_add aD (bK op_mod (bK op_add (vv 2) (vv 4)) aD)) (fun _ _=>rfl)) (aB (vv 5) aA))) aA)))))) (aF (aG (bD bN (by rfl) T.bV bL (aB (vv 3) aA))))))),?_⟩
 have l17:=hn.1
 refine ⟨_,rfl,a,8,rfl,hs,by decide,fun st0 H1 f1 st00 st01=>?_⟩
 obtain ⟨st,rfl⟩:∃st:Nat,st0=st:=⟨st0.toNat,by omega⟩
 refine ⟨(by show 0≤sizeLine;decide),fun p H2 fp s2 g2=>?_⟩
 have f2:=f1.sm s2
 have fp0:H p=none:=f1.free fp
 have npa:p≠a:=hs.ne fp0
 refine ⟨_,rfl,a,4,rfl,f2.st,by decide,fun m H3 f3 m0 m1=>?_⟩
 have f4':=f2.trans f3
 have g4:=f3.same _ _ npa g2
 obtain ⟨z,ez,z1,z7⟩:∃z:Nat,1+m=(z:Int)∧1≤z∧z≤4:=⟨(1+m).toNat,by omega,by omega,by omega⟩
 refine ⟨_,_,rfl,rfl,(z:Int),?_,by omega,by omega,?_⟩
 ·show [V.int (1+m)]=_
  rw [ez]
 rw [Int.toNat_natCast]
 refine for_range (n:=z) (fun i σ H'=>Fx a H H'∧∃(us:List V) (hd:Hdr) (l4 l5:Option V),H' p=some (.lst us)∧hd.length=i∧aZ (IsC K H') us hd∧(∀(j:Nat) (c:Str × Str),hd[j]?=some c→ns[3+(st+j) % 8]?=some c.1∧vD c.2)∧σ=[some (.ref a),some (.ref N),some (.int (st:Nat)),some (.ref p),l4,l5]) ⟨f4',[],[],_,_,g4,rfl,.nil,fun j c h=>by simp at h,rfl⟩ ?_ ?_
 ·rintro i σ H' hi ⟨fx,us,hd,l4,l5,gp,hl,hu,hc,rfl⟩
  have lu:=hu.len
  refine ⟨(by show 3≤sizeLine;decide),fun p1 H5 fp1 s5 g5=>?_⟩
  refine ⟨_,rfl,a,3,rfl,fx.st.same s5,by decide,fun d H6 f6 d0 d1=>?_⟩
  obtain ⟨kv,hkv,mkv⟩:=at_of (xs:=[.str "number",.str "number",.str "word"]) d0 (by show d<3;omega)
  obtain ⟨kd,rfl,hkd⟩:∃kd:Str,kv=.str kd∧vD kd:=by
   simp only [List.mem_cons,List.not_mem_nil,or_false] at mkv
   rcases mkv with rfl|rfl|rfl
   ·exact ⟨_,rfl,.inl rfl⟩
   ·exact ⟨_,rfl,.inl rfl⟩
   ·exact ⟨_,rfl,.inr rfl⟩
  have f6':=(fx.sm s5).trans f6
  refine ⟨p1,_,_,_,rfl,rfl,SqL.of (f6.same _ _ (fx.st.ne fp1) g5),hkv,?_⟩
  have gp6:=f6.same _ _ npa (s5 _ _ gp)
  have hN6:=f6'.same _ _ nN hN
  have hu6:aZ (IsC K H6) us hd:=hu.imp fun _ _ ⟨p',ep,hp⟩=>⟨p',ep,f6.aN (fx.st.same s5) (s5.aN hp)⟩
  have hix:3+(st+i) % 8<ns.length:=by omega
  refine ⟨_,rfl,.inl ⟨rfl,_,SqL.of gp6⟩,?_⟩
  refine ⟨_,rfl,_,rfl,_,rfl,_,_,rfl,rfl,_,_,rfl,rfl,(by show (0:Int)<8;decide),_,_,rfl,rfl,N,_,_,.str ns[3+(st+i) % 8],rfl,rfl,SqL.of hN6,?_,_,rfl,(by show 2≤sizeLine;decide),fun t H7 ft s7 g7=>?_⟩
  ·have e8:(3:Int)+((st:Int)+(0+(i:Int))) % 8=((3+(st+i) % 8:Nat):Int):=by omega
   show atI (ns.map V.str) ((3:Int)+((st:Int)+(0+(i:Int))) % 8)=_
   rw [e8]
   exact atI_nat (by rw [List.getElem?_map,List.getElem?_eq_getElem hix];rfl)
  refine ⟨p,_,_,rfl,rfl,s7 _ _ gp6,small1000 (by omega),?_⟩
  have ntp:t≠p:=(ne_of_none gp6 ft).symm
  refine ⟨(f6'.sm s7).upd fp0 npa,us++[.ref t],hd++[(ns[3+(st+i) % 8],kd)],_,_,upd_same,by rw [List.length_append,hl];rfl,?_,fun j c h=>?_,rfl⟩
  ·refine (hu6.imp fun _ _ ⟨p',ep,hp⟩=>⟨p',ep,(s7.aN hp).lG (s7 _ _ gp6)⟩).app (.cons ⟨t,rfl,SqT.of (by rw [upd_ne ntp];exact g7)⟩ .nil)
  ·by_cases hj:j<hd.length
   ·rw [List.getElem?_append_left hj] at h
    exact hc j c h
   ·rw [List.getElem?_append_right (by omega)] at h
    have hj0:j - hd.length=0:=by
     by_cases z0:j - hd.length=0
     ·exact z0
     ·rw [List.getElem?_eq_none (by simp;omega)] at h;cases h
    rw [hj0] at h
    cases h
    have:j=i:=by omega
    subst this
    exact ⟨List.getElem?_eq_getElem hix,hkd⟩
 ·rintro σ H' ⟨fx,us,hd,l4,l5,gp,hl,hu,hc,rfl⟩
  refine ⟨_,rfl,p,us,rfl,SqL.of gp,fun t H5 _ s5 g5=>q _ _ hd (fx.sm s5) ⟨t,us,rfl,SqT.of g5,hu.imp fun _ _ h=>h.same s5⟩ ⟨⟨aMz hn (by omega) fun j c h=>(hc j c h).1,by omega,by omega⟩,fun c hcm=>?_⟩ (by omega)⟩
  obtain ⟨j,hj,e⟩:=List.getElem_of_mem hcm
  have h2:=hc j c (by rw [List.getElem?_eq_getElem hj,e])
  exact ⟨hn.2.1 _ (List.mem_of_getElem? h2.1),h2.2⟩
def TK (K:PySem.W.Frag) (H H':Hp):Prop:=∀p xs,SqT K H p xs→SqT K H' p xs
theorem _root_.L2.Fx.tk {K:PySem.W.Frag} {a:Addr} {H H':Hp} (f:Fx a H H') (h:jF H a):TK K H H':=fun _ _ e=>f.aN h e
theorem TK.of {K:PySem.W.Frag} {H H':Hp} (s:Same H H'):TK K H H':=fun _ _ e=>s.aN e
theorem IsC.tk {K:PySem.W.Frag} {H H':Hp} {v:V} {c:Str × Str} (e:TK K H H') (h:IsC K H v c):IsC K H' v c:=by
 obtain ⟨p,rfl,hp⟩:=h
 exact ⟨p,rfl,e _ _ hp⟩
theorem aIt {α:Type} {K:PySem.W.Frag} {H H':Hp} {R S:V→α→Prop} {v:V} {xs:List α} (e:TK K H H') (k:∀a b,R a b→S a b) (h:oR K H R v xs):oR K H' S v xs:=by
 obtain ⟨a,vs,rfl,ha,hr⟩:=h
 exact ⟨a,vs,rfl,e _ _ ha,hr.imp k⟩
theorem cM.tk {K:PySem.W.Frag} {H H':Hp} {v:V} {hd:Hdr} (e:TK K H H') (h:cM K H v hd):cM K H' v hd:=aIt e (fun _ _ q=>q.tk e) h
theorem aQx {K:PySem.W.Frag} {H:Hp} {x:V} (h:aHp x=true):Th K H x:=by
 cases x with
 |int i=>exact .inr (.inl ⟨i,rfl⟩)
 |str z=>
  have h:(false || nY 0 (.str z))=true:=h
  rw [Bool.false_or] at h
  obtain ⟨y,e,_,h8,_⟩:=vQ h
  cases e
  exact jU h8
 |_=>cases h
theorem IsO.tk {K:PySem.W.Frag} {H H':Hp} {v:V} {o:Oth} (e:TK K H H') (h:IsO K H v o):IsO K H' v o:=by
 cases o with
 |val x=>obtain ⟨a,rfl,ha,hx,hv⟩:=h;exact ⟨a,rfl,e _ _ ha,aQx hv,hv⟩
 |col d=>obtain ⟨a,rfl,ha,hd⟩:=h;exact ⟨a,rfl,e _ _ ha,hd⟩
theorem IsT.tk {K:PySem.W.Frag} {H H':Hp} {v:V} {t:Tst} (e:TK K H H') (h:IsT K H v t):IsT K H' v t:=by
 obtain ⟨a,w,rfl,ha,h1,h2,h3⟩:=h
 exact ⟨a,w,rfl,e _ _ ha,h1,h2,h3.tk e⟩
theorem sU.tk {K:PySem.W.Frag} {H H':Hp} {v:V} {t:Str × Str} (e:TK K H H') (h:sU K H v t):sU K H' v t:=by
 obtain ⟨a,rfl,ha,h1⟩:=h
 exact ⟨a,rfl,e _ _ ha,h1⟩
theorem rE.tk {K:PySem.W.Frag} {H H':Hp} {v:V} {t:Str × Str} (e:TK K H H') (h:rE K H v t):rE K H' v t:=by
 obtain ⟨a,rfl,ha,h1⟩:=h
 exact ⟨a,rfl,e _ _ ha,h1⟩
theorem fK.tk {K:PySem.W.Frag} {H H':Hp} {v:V} {t:Sm} (e:TK K H H') (h:fK K H v t):fK K H' v t:=by
 obtain ⟨a,rfl,hn,h1⟩:=h
 refine ⟨a,rfl,hn,?_⟩
 rcases h1 with ⟨x,y,z⟩|⟨c,x,y,z,u⟩
 ·exact .inl ⟨x,y,e _ _ z⟩
 ·exact .inr ⟨c,x,y,z,e _ _ u⟩
theorem gJ.tk {α:Type} {S:PySem.W.Frag→Hp→V→α→Prop} {lo hi:Nat} {K:PySem.W.Frag} {H H':Hp} {v:V} {xs:List α} (e:TK K H H') (k:∀{v t},S K H v t→S K H' v t) (h:gJ S lo hi K H v xs):gJ S lo hi K H' v xs:=
 ⟨aIt e (fun _ _=>k) h.1,h.2⟩
theorem IsQ.tk {K:PySem.W.Frag} {H H':Hp} {v:V} {q:Qn} (e:TK K H H') (h:IsQ K H v q):IsQ K H' v q:=by
 induction h with
 |table a b=>exact .table (e _ _ a) b
 |whr a _ c ih=>exact .whr (e _ _ a) ih (c.tk e fun h=>h.tk e)
 |keep a _ c ih=>exact .keep (e _ _ a) ih (c.tk e fun h=>h)
 |nmd a _ c ih=>exact .nmd (e _ _ a) ih (c.tk e fun h=>h)
 |join a _ _ c ih1 ih2=>exact .join (e _ _ a) ih1 ih2 (c.tk e fun h=>h.tk e)
 |group a _ c d ih=>exact .group (e _ _ a) ih (c.tk e fun h=>h) (d.tk e fun h=>h.tk e)
 |first a _ c d ih=>exact .first (e _ _ a) ih (c.tk e fun h=>h.tk e) d
theorem aE8 {hd:Hdr} (nd:(hd.map (·.1)).Nodup) {c:Str × Str} (h:c∈hd):look hd c.1=some c.2:=by
 induction hd with
 |nil=>cases h
 |cons x r ih=>
  rw [List.map_cons,List.nodup_cons] at nd
  unfold look
  rw [List.find?_cons]
  rcases List.mem_cons.mp h with rfl|h
  ·rw [decide_eq_true rfl];rfl
  ·have ne:¬ x.1=c.1:=fun z=>nd.1 (by rw [z];exact List.mem_map.mpr ⟨c,h,rfl⟩)
   rw [decide_eq_false ne]
   exact ih nd.2 h
theorem aMh {α:Type} (l:List α):∀n,(List.range n).filterMap (fun i=>l[i]?)=l.take n
 |0=>by simp
 |n+1=>by
  rw [List.range_succ,List.filterMap_append,aMh l n,List.take_add_one]
  cases e:l[n]? with
  |none=>simp [e]
  |some x=>simp [e]
theorem aJ3 {H:Hp} {us:List V} {hd:Hdr} (hu:aZ (IsC K H) us hd) {is:List Nat} {ys:List V} (h:iY (fun i y=>us[i]?=some y) is ys):aZ (IsC K H) ys (is.filterMap fun i=>hd[i]?):=by
 induction h with
 |nil=>exact .nil
 |@cons i y is ys r _ ih=>
  obtain ⟨c,hc,q⟩:=aV hu r
  rw [List.filterMap_cons,hc]
  exact .cons q ih
theorem aLw {α β:Type} {R:α→β→Prop} {as:List α} {bs:List β} (h:aZ R as bs):aZ R as.reverse bs.reverse:=by
 induction h with
 |nil=>exact .nil
 |cons r _ ih=>
  rw [List.reverse_cons,List.reverse_cons]
  exact ih.app (.cons r .nil)
def sE (hd' hd:Hdr):Prop:=(∀c∈hd',c∈hd)∧(hd'.map (·.1)).Nodup∧hd'.length≤hd.length
theorem aNr {hd' hd:Hdr} (h:hd'.Sublist hd) (nd:(hd.map (·.1)).Nodup):sE hd' hd:=⟨fun c hc=>h.subset hc,nd.sublist (h.map _),h.length_le⟩
theorem sE.rev {hd' hd:Hdr} (h:sE hd' hd):sE hd'.reverse hd:=⟨fun c hc=>h.1 c (List.mem_reverse.mp hc),by
 rw [List.map_reverse];exact List.pairwise_reverse.mpr (h.2.1.imp fun q=>Ne.symm q),by rw [List.length_reverse];exact h.2.2⟩
theorem sE.take {hd' hd:Hdr} (h:sE hd' hd) (n:Nat):sE (hd'.take n) hd:=⟨fun c hc=>h.1 c (List.mem_of_mem_take hc),h.2.1.sublist ((List.take_sublist n hd').map _),by have:=h.2.2;rw [List.length_take];omega⟩
def aI9 (K:PySem.W.Frag):Sp:=fun vs H Q _=>∃(a:Addr) (vh:V) (hd:Hdr) (n:Nat),vs=[.ref a,vh,.int (n:Nat)]∧jF H a∧cM K H vh hd∧Good hd∧n≤1 ∧
 ∀D H' us hd',Fx a H H'→H D=none→H' D=some (.lst us)→aZ (IsC K H') us hd'→sE hd' hd→n≤hd'.length→Q (.ref D) H'
theorem aBc (T:Txt w K mg) (aQ:Ok P w K mg base 1 "_law_next" ["_law_state","_law_many"] jM):Ok P w K mg base 2 "_law_some" ["_law_state","_law_head_here","_law_least"] (aI9 K):=by
 refine Ok.ofV T.aDj lE (fun vs H Q E h=>?_) (fun f cdv A outer s H vs Q E hr h=>?_)
 ·obtain ⟨a,vh,hd,n,rfl,_⟩:=h;rfl
 obtain ⟨a,vh,hd,n,rfl,hs,⟨b,us,rfl,hb,hu⟩,⟨nd,l1,l8⟩,hn,q⟩:=h
 refine ⟨_,(aC (gW (i0:=3) lE.nd rfl (by trivial) (N:=["_law_column","_law_state"]) (by trivial) (bT (defScope jJ) rfl (by decide +kernel)) rfl (cY (vv 1)) (fun cl s' H' fp=>⟨(aK (i:=0) (show (["_law_column","_law_state"]:List Str).Nodup from by decide +kernel) rfl (Or.inl rfl)),(aB5 (aM op_eq (aH (aQ.mono (by decide)) hr (by rfl) (aB (vv 1) (aB aD aA))) aD (nomark _))),(vv 0)⟩)) (aC (bA (aM op_lt (aL call_len_seq (by rfl) T.cZ cA (aB (vv 3) aA)) (vv 2) (nomark _)) (aF (aR (i:=3) lE.nd rfl (by trivial) (cB (aB (aJ ix_tup (vv 1) (aH (aQ.mono (by decide)) hr (by rfl) (aB (vv 0) (aB (aL call_len_seq (by rfl) T.cZ cA (aB (vv 1) aA)) aA))) (fun _ _=>rfl)) aA)))) aP) (aC (bA (aM op_eq (aH (aQ.mono (by decide)) hr (by rfl) (aB (vv 0) (aB aD aA))) aD (nomark _)) (aF (bW (aCl PySem.F.plainAttrs_list PySem.F.slot_list_reverse PySem.F.type_list_reverse uR (vv 3)))) aP) (aF (aG (vv 3)))))),?_⟩
 have lu:=hu.len
 have fin:∀D H' zs hd',Fx a H H'→H D=none→H' D=some (.lst zs)→aZ (IsC K H') zs hd'→sE hd' hd→n≤hd'.length→∀H2,Fx a H' H2→Q (.ref D) H2∧Q (.ref D) (upd H2 D (.lst zs.reverse)):=by
  intro D H' zs hd' fx hD gD hz hsub hle H2 f2
  have nDa:D≠a:=hs.ne hD
  have g2:=f2.same _ _ nDa gD
  have hz2:aZ (IsC K H2) zs hd':=hz.imp fun _ _ h=>h.tk (f2.tk fx.st)
  refine ⟨q D H2 zs hd' (fx.trans f2) hD g2 hz2 hsub hle,q D _ zs.reverse hd'.reverse ((fx.trans f2).upd hD nDa) hD upd_same ?_ hsub.rev (by rw [List.length_reverse];exact hle)⟩
  exact aLw (hz2.imp fun _ _ h=>h.tk fun _ _ e=>e.lG g2)
 dsimp only [tSeq,tAsg]
 refine xT [none,some (.ref a)] ?_ ⟨_,rfl,b,rfl,⟨_,hb⟩,aR4 (Fx a) (aLr hs) us (fun i _ y=>us[i]?=some y) (fun _ _ h=>h) (fun _ _ _ h=>h) (fun i σ=>∃x,us[i]?=some x∧At1 [none,some (.ref a)] x σ) (Ps1 [none,some (.ref a)]) ⟨none,rfl⟩ (small (by omega)) _ (aA6 fun H' f'=>f'.aN hs hb) (rQ fun H' f'=>f'.aN hs hb) (fun i x σ' H' Q' ex hps s' qq=>hg1 (i:=i) hps fun σ2 h1 h2=>qq σ2 h1 ⟨x,ex,h2⟩) (fun i x σ2 ex hA H' R s' r=>?_) (fun i x σ2 ex hA H' R s' r=>?_) fun D H1 ys f1 fD g1 hys=>?_⟩
 ·exact bU 0 (by decide +kernel) rfl rfl (by trivial)
 ·obtain ⟨x',_,l,rfl⟩:=hA
  exact ⟨_,rfl,a,2,rfl,s'.st,by decide,fun d H2 f2 _ _=>⟨rfl,_,rfl,r _ _ f2⟩⟩
 ·obtain ⟨x',hx',l,rfl⟩:=hA
  rw [ex] at hx'
  cases hx'
  exact ⟨_,rfl,r _ _ (.refl s'.st) ex⟩
 obtain ⟨is,hsub,hys⟩:=hys
 have hu1:aZ (IsC K H1) us hd:=hu.imp fun _ _ h=>h.tk (f1.tk hs)
 have hcol:=aJ3 hu1 hys
 have hsubH:sE (is.filterMap fun i=>hd[i]?) hd:=by
  refine aNr ?_ nd
  have:=hsub.filterMap (fun i=>hd[i]?)
  rw [aMh,lu,List.take_length] at this
  exact this
 have lcol:=hcol.len
 dsimp only [gName]
 refine ⟨_,rfl,D,_,rfl,.inl (SqL.of g1),_,rfl,_,_,rfl,rfl,_,rfl,ite2 (fun c=>?_) (fun c=>?_)⟩
 ·refine ⟨_,rfl,_,rfl,_,rfl,_,_,rfl,.inr (f1.aN hs hb),a,_,rfl,f1.st,(by show (0:Int)<(us.length:Int)∧(us.length:Int)<2 ^ 64;omega),fun d H2 f2 d0 d1=>?_⟩
  obtain ⟨u,hat,hm⟩:=at_of (xs:=us) d0 d1
  obtain ⟨cc,hcm,hcc⟩:=hu.mem hm
  have fx2:=f1.trans f2
  refine ⟨b,_,_,u,rfl,rfl,fx2.aN hs hb,hat,(by show 1≤sizeLine;decide),fun p H3 fp s3 g3=>?_⟩
  have fx3:=fx2.sm s3
  have fp0:H p=none:=fx2.free fp
  have key:=fin p H3 [u] [cc] fx3 fp0 g3 (.cons (hcc.tk (fx3.tk hs)) .nil) ⟨fun c' hc'=>by rw [List.mem_singleton.mp hc'];exact hcm,by simp,by show 1≤hd.length;exact l1⟩ (by show n≤1;exact hn)
  refine ⟨_,rfl,a,2,rfl,fx3.st,by decide,fun e H4 f4 _ _=>⟨rfl,_,rfl,?_⟩⟩
  refine ite2 (fun _=>?_) (fun _=>⟨_,rfl,(key H4 f4).1⟩)
  have g4:=f4.same _ _ (hs.ne fp0) g3
  exact ⟨_,rfl,.inl ⟨rfl,_,SqL.of g4⟩,p,_,rfl,rfl,g4,_,rfl,(key H4 f4).2⟩
 ·have c':¬ (ys.length:Int)<(n:Int):=of_decide_eq_false (Bool.eq_false_iff.mpr c)
  have key:=fin D H1 ys _ f1 fD g1 hcol hsubH (by omega)
  refine ⟨_,rfl,a,2,rfl,f1.st,by decide,fun e H4 f4 _ _=>⟨rfl,_,rfl,?_⟩⟩
  refine ite2 (fun _=>?_) (fun _=>⟨_,rfl,(key H4 f4).1⟩)
  have g4:=f4.same _ _ (hs.ne fD) g1
  exact ⟨_,rfl,.inl ⟨rfl,_,SqL.of g4⟩,D,_,rfl,rfl,g4,_,rfl,(key H4 f4).2⟩
theorem aMg {hd hd':Hdr} (nd:(hd.map (·.1)).Nodup) (h:∀c∈hd',c∈hd):Looks hd (hd'.map (·.1)) (hd'.map (·.2)):=by
 induction hd' with
 |nil=>exact .nil
 |cons c r ih=>exact .cons (aE8 nd (h c (List.mem_cons_self ..))) (ih fun x hx=>h x (List.mem_cons_of_mem _ hx))
end
end My
namespace PySem.W
open PySem PySem.Calls PyProof.Rows
def KasT.ev {α:Type} (f:Nat→Nat→Bool):KasT α→α
 |.ret a=>a
 |.ask i j k=>(k (f i j)).ev f
inductive KasT.Low {α:Type} (n:Nat) (P:α→Prop):KasT α→Prop
 |ret {a}:P a→KasT.Low n P (.ret a)
 |ask {i j k}:i<n→j<n→(∀b,KasT.Low n P (k b))→KasT.Low n P (.ask i j k)
theorem KasT.Low.bind {α β:Type} {n:Nat} {P:α→Prop} {R:β→Prop} {t:KasT α} {f:α→KasT β} (h:t.Low n P) (hf:∀a,P a→(f a).Low n R):(t.bind f).Low n R:=by
 induction h with
 |ret h=>exact hf _ h
 |ask a b _ ih=>exact .ask a b ih
theorem KasT.Low.of {α:Type} {n:Nat} {P:α→Prop} {t:KasT α} (h:t.Low n P) (f:Nat→Nat→Bool):P (t.ev f):=by
 induction h with
 |ret h=>exact h
 |@ask i j k a b _ ih=>exact ih (f i j)
theorem aQl {α:Type} {n:Nat} {P:α→Prop} {f:Nat→Nat→Bool} {cmp:Nat→Nat→(Bool→Shared→Prop)→Shared→Prop} {s:Shared} (hc:∀i j C,i<n→j<n→C (f i j) s→cmp i j C s) {t:KasT α} (h:t.Low n P) {Q:α→Shared→Prop} (q:Q (t.ev f) s):t.kasWp cmp Q s:=by
 induction h with
 |ret h=>exact q
 |@ask i j k a b _ ih=>exact hc i j _ a b (ih (f i j) q)
def Pl (n:Nat) (p:Array Nat):Prop:=p.size=n∧∀k,p.getD k 0<n
theorem Pl.perm {n:Nat} {p q:Array Nat} (h:Pl n p) (e:q.Perm p) (h0:0<n):Pl n q:=by
 refine ⟨e.size_eq.trans h.1,fun k=>?_⟩
 by_cases hk:k<q.size
 ·have hm:q[k]∈p.toList:=(Array.perm_iff_toList_perm.mp e).mem_iff.mp (by simp)
  obtain ⟨j,hj,ej⟩:=List.getElem_of_mem hm
  have hj':j<p.size:=by simpa using hj
  have:=h.2 j
  rw [Array.getD_eq_getD_getElem?,Array.getElem?_eq_getElem hj',Option.getD_some] at this
  rw [Array.getD_eq_getD_getElem?,Array.getElem?_eq_getElem hk,Option.getD_some,←ej]
  simpa using this
 ·rw [Array.getD_eq_getD_getElem?,Array.getElem?_eq_none (by omega)]
  exact h0
theorem aBp {n:Nat} {p:Array Nat} (h:Pl n p):∀f m,(kas_asc p f m).Low n (fun r=>m≤r∧r≤m+f)
 |0,m=>.ret ⟨Nat.le_refl _,Nat.le_refl _⟩
 |f+1,m=>by
  refine .ask (h.2 _) (h.2 _) fun c=>?_
  by_cases e:c=true
  ·rw [if_pos e];exact .ret ⟨Nat.le_refl _,by omega⟩
  ·rw [if_neg e]
   have z:=aBp h f (m+1)
   generalize kas_asc p f (m+1)=t at z
   induction z with
   |ret q=>exact .ret ⟨by omega,by omega⟩
   |ask a b _ ih=>exact .ask a b ih
theorem sO {n:Nat} (h0:0<n):∀(f:Nat) (p:Array Nat) (m q:Nat),Pl n p→(kas_desc f p m q).Low n (fun r=>Pl n r.1)
 |0,p,m,q,h=>.ret h
 |f+1,p,m,q,h=>by
  refine .ask (h.2 _) (h.2 _) fun c=>?_
  by_cases e:c=true
  ·rw [if_pos e]
   by_cases e2:q > 0
   ·rw [if_pos e2];exact sO h0 f _ _ _ (h.perm (mirror_perm _ _ _ _) h0)
   ·rw [if_neg e2];exact sO h0 f _ _ _ h
  ·rw [if_neg e]
   refine .ask (h.2 _) (h.2 _) fun d=>?_
   by_cases e3:d=true
   ·rw [if_pos e3];exact .ret h
   ·rw [if_neg e3];exact sO h0 f _ _ _ h
theorem aAb {n:Nat} (h0:0<n) {p:Array Nat} (h:Pl n p) (m nrem:Nat):(kas_tail3 m nrem p).Low n (fun r=>Pl n r.2):=by
 have h':Pl n (kas_rev p 0 m):=h.perm (mirror_perm _ _ _ _) h0
 exact (aBp h' _ _).bind fun _ _=>.ret h'
theorem qT {n:Nat} (h0:0<n) {p:Array Nat} (h:Pl n p) (m nrem:Nat):(kas_descPart m nrem p).Low n (fun r=>Pl n r.2):=by
 refine (sO h0 _ _ _ _ h).bind fun r hr=>?_
 by_cases e:r.2.2 > 0
 ·rw [if_pos e];exact aAb h0 (hr.perm (mirror_perm _ _ _ _) h0) _ _
 ·rw [if_neg e];exact aAb h0 hr _ _
theorem aJo {n:Nat} (h0:0<n) {p:Array Nat} (h:Pl n p) (nrem:Nat):(kas_count nrem p).Low n (fun r=>Pl n r.2):=by
 refine (aBp h _ _).bind fun m _=>?_
 by_cases e:(m == nrem)=true
 ·rw [if_pos e];exact .ret h
 ·rw [if_neg e]
  by_cases e2:m > 1
  ·rw [if_pos e2]
   refine .ask (h.2 _) (h.2 _) fun c=>?_
   by_cases e3:c=true
   ·rw [if_pos e3];exact .ret h
   ·rw [if_neg e3];exact qT h0 (h.perm (mirror_perm _ _ _ _) h0) _ _
  ·rw [if_neg e2];exact qT h0 h _ _
theorem sW {n:Nat} {p:Array Nat} (h:Pl n p) (k:Nat):∀f l r,(kas_place p k f l r).Low n (fun _=>True)
 |0,l,r=>.ret trivial
 |f+1,l,r=>by
  unfold kas_place
  by_cases e:l ≥ r
  ·rw [if_pos e];exact .ret trivial
  ·rw [if_neg e]
   refine .ask (h.2 _) (h.2 _) fun c=>?_
   by_cases e2:c=true
   ·rw [if_pos e2];exact sW h k f _ _
   ·rw [if_neg e2];exact sW h k f _ _
theorem aIy {n:Nat} (h0:0<n):∀(f:Nat) (p:Array Nat) (k:Nat),Pl n p→(kas_bin f p k).Low n (Pl n)
 |0,p,k,h=>.ret h
 |f+1,p,k,h=>(sW h k k 0 k).bind fun l _=>aIy h0 f _ _ (h.perm (bubble_perm _ _ _) h0)
theorem aL8 {n:Nat} (h0:0<n):Pl n (List.toArray (List.range n)):=by
 refine ⟨by simp,fun k=>?_⟩
 rw [Array.getD_eq_getD_getElem?,List.getElem?_toArray]
 by_cases h:k<n
 ·rw [List.getElem?_range h];exact h
 ·rw [List.getElem?_eq_none (by simpa using h)];exact h0
theorem wU {n:Nat} (h0:0<n):(kas_sort n).Low n (Pl n):=by
 refine (aJo h0 (aL8 h0) n).bind fun r hr=>?_
 by_cases e:r.1<n
 ·rw [if_pos e];exact aIy h0 _ _ _ hr
 ·rw [if_neg e];exact .ret hr
def kE (n:Nat) (f:Nat→Nat→Bool):List Nat:=if n<2 then List.range n else ((kas_sort n).ev f).toList
theorem aAk (n:Nat) (f:Nat→Nat→Bool):(kE n f).length=n:=by
 unfold kE
 by_cases h:n<2
 ·rw [if_pos h,List.length_range]
 ·rw [if_neg h,Array.length_toList]
  exact ((wU (by omega)).of f).1
theorem uK {n:Nat} {f:Nat→Nat→Bool} {i:Nat} (h:i∈kE n f):i<n:=by
 unfold kE at h
 by_cases h2:n<2
 ·rw [if_pos h2] at h;exact List.mem_range.mp h
 ·rw [if_neg h2] at h
  have z:=(wU (n:=n) (by omega)).of f
  obtain ⟨j,hj,e⟩:=List.getElem_of_mem h
  have hj':j<((kas_sort n).ev f).size:=by simpa using hj
  have:=z.2 j
  rw [Array.getD_eq_getD_getElem?,Array.getElem?_eq_getElem hj',Option.getD_some] at this
  rw [←e]
  simpa using this
section
variable {prog:Program} {w:World} {A:Around} {E:Value→Shared→Prop} {s:Shared} {f:Nat→Nat→Bool}
theorem vM {a:Addr} {vs:List Value} {n:Nat} {P:PySem.Fin→Shared→Prop} (ho:s.heap.get? a=some (seqObj "list" vs.toArray n)) (h64:vs.length<64)
  (hk:2≤vs.length→∀h',(∀b o,b≠a→s.heap.get? b=some o→h'.get? b=some o)→∃κ,(∀(Q:SortKind→Shared→Prop),Q κ { s with heap:=h' }→wpAny (model prog w) A (keyKind' vs.toArray) Q (fun _ _=>False) { s with heap:=h' })∧∀i j (C:Bool→Shared→Prop),i<vs.length→j<vs.length→C (f i j) { s with heap:=h' }→kas_ask prog w A κ vs i j C { s with heap:=h' })
  (h:P (.done (.ret .none)) { s with heap:=sortedHeap s.heap a vs (List.toArray ((kE vs.length f).map fun i=>vs.getD i Value.none)) }) :
  wpAny (model prog w) A (Builtin.«list.sort» ⟨[.ref a],[]⟩) P E s:=by
 rw [list_sort_plain]
 have ha:a<s.heap.objs.size:=Heap.lt_size ho
 refine wpAny_bind (listItems_at ho rfl ?_)
 refine wpAny_bind (listUpdate_at ho rfl ?_ (by rw [List.size_toArray,sizeLine_eq];omega) (Nat.zero_le _))
 obtain ⟨e1,ho1⟩:∃e1,(s.heap.update a (Obj.mapSeq fun _=>#[])).get? a=some (seqObj "list" #[] e1):=⟨_,get?_update_seq ho (fun _=>#[])⟩
 refine wpAny_bind (seqEpoch_at ho1 rfl ?_)
 refine wpAny_bind (wpAny_newTuple ?_ (by show vs.length≤_;rw [sizeLine_eq];omega))
 refine wpAny_bind (wpAny_newList ?_ (Nat.zero_le _))
 refine wpAny_holding ?_
 have ho6:(((s.heap.update a (Obj.mapSeq fun _=>#[])).push (seqObj "tuple" vs.toArray 0)).push (seqObj "list" #[] 0)).get? a=some (seqObj "list" #[] e1):=by
  rw [Heap.get?_push_ne _ _ _ (by rw [size_push',Heap.size_update];exact Nat.ne_of_lt (Nat.lt_succ_of_lt ha)),Heap.get?_push_ne _ _ _ (by rw [Heap.size_update];exact Nat.ne_of_lt ha)]
  exact ho1
 have keep:∀b o,b≠a→s.heap.get? b=some o→(((s.heap.update a (Obj.mapSeq fun _=>(#[]:Array Value))).push (seqObj "tuple" vs.toArray 0)).push (seqObj "list" #[] 0)).get? b=some o:=fun b o ne q=>by
  refine Heap.get?_push_of_some _ (Heap.get?_push_of_some _ ?_)
  rw [Heap.get?_update_ne _ _ _ _ ne]
  exact q
 show wpAny (model prog w) A _ P E { s with heap:=((s.heap.update a (Obj.mapSeq fun _=>#[])).push (seqObj "tuple" vs.toArray 0)).push (seqObj "list" #[] 0) }
 dsimp only
 have hsz:vs.toArray.size=vs.length:=by simp
 by_cases h2:vs.toArray.size<2
 ·rw [if_pos h2,if_pos h2]
  refine wpAny_bind (wpAny_pure ?_)
  rw [StateT.run_pure]
  refine wpAny_bind (wpAny_pure ?_)
  dsimp only
  refine wpAny_bind (seqEpoch_at ho6 rfl ?_)
  refine wpAny_bind (listUpdate_at ho6 rfl ?_ (hsz2:=by rw [Array.size_map];show (pairsOf vs).size≤_;rw [pairsOf_size,sizeLine_eq];omega))
  simp only [bne_self_eq_false,Bool.false_eq_true,if_false]
  refine wpAny_pure ?_
  have e:((arrOf (SortSt.mk' general' (vs.toArray.zip vs.toArray) #[] 7 none)).map (·.2))=List.toArray ((kE vs.length f).map fun i=>vs.getD i Value.none):=by
   show ((vs.toArray.zip vs.toArray).map (·.2))=_
   unfold kE
   rw [if_pos (by omega)]
   match vs,hsz,h2 with
   |[],_,_=>simp
   |[x],_,_=>simp [List.range,List.range.loop]
   |_::_::_,hsz,h2=>rw [hsz,List.length_cons,List.length_cons] at h2;omega
  rw [e]
  exact h
 ·rw [if_neg h2,if_neg h2]
  have h2':2≤vs.length:=by omega
  obtain ⟨κ,hk1,hk2⟩:=hk h2' _ keep
  refine wpAny_bind (wpAny_mono (hk1 (fun κ' s'=>(kas_sort vs.length).kasWp (kas_ask prog w A κ' vs) (fun p s'=>s'={ s with heap:=((s.heap.update a (Obj.mapSeq fun _=>#[])).push (seqObj "tuple" vs.toArray 0)).push (seqObj "list" #[] 0) }∧p=(kas_sort vs.length).ev f) s') (aQl (n:=vs.length) (P:=Pl vs.length) (f:=f) (cmp:=kas_ask prog w A κ vs) (t:=kas_sort vs.length) hk2 (wU (by omega)) (Q:=fun p s'=>s'={ s with heap:=((s.heap.update a (Obj.mapSeq fun _=>#[])).push (seqObj "tuple" vs.toArray 0)).push (seqObj "list" #[] 0) }∧p=(kas_sort vs.length).ev f) ⟨rfl,rfl⟩)) (fun κ' s0 hk=>?_) fun _ _ x=>x.elim)
  refine wpAny_bind (wpAny_mono (kat_run (Q:=fun st' s'=>∃p:Array Nat,p.size=vs.length∧arrOf st'=p.map (kas_item (vs.toArray.zip vs.toArray))∧failedOf st'=none∧s'={ s with heap:=((s.heap.update a (Obj.mapSeq fun _=>#[])).push (seqObj "tuple" vs.toArray 0)).push (seqObj "list" #[] 0) }∧p=(kas_sort vs.length).ev f)
   rfl h2' h64 (fun p' st' s' a1 a2 a3 a4=>⟨p',a1,a2,a3,a4⟩) hk) ?_ fun _ _ e=>e)
  rintro ⟨⟨⟩,st'⟩ s' ⟨p,hp,har,hf,rfl,rfl⟩
  dsimp only
  have hout:=kat_snds rfl har
  rw [hout]
  refine wpAny_bind (seqEpoch_at ho6 rfl ?_)
  refine wpAny_bind (listUpdate_at ho6 rfl ?_ (Nat.zero_le _) (by rw [List.size_toArray,List.length_map,Array.length_toList,hp,sizeLine_eq];omega))
  rw [hf]
  simp only [bne_self_eq_false,Bool.false_eq_true,if_false]
  refine wpAny_pure ?_
  have e:kE vs.length f=((kas_sort vs.length).ev f).toList:=by unfold kE;rw [if_neg (by omega)]
  rw [e] at h
  exact h
theorem aCn {l:Addr} {vs:List Value} {Q:Value→Shared→Prop} (hl:s.heap.IsList l vs.toArray) (h64:vs.length<64)
  (hk:2≤vs.length→∀h',(∀b o,s.heap.get? b=some o→h'.get? b=some o)→∃κ,(∀(Q:SortKind→Shared→Prop),Q κ { s with heap:=h' }→wpAny (model prog w) A.in1.in1 (keyKind' vs.toArray) Q (fun _ _=>False) { s with heap:=h' })∧∀i j (C:Bool→Shared→Prop),i<vs.length→j<vs.length→C (f i j) { s with heap:=h' }→kas_ask prog w A.in1.in1 κ vs i j C { s with heap:=h' })
  (h:Q (.ref (s.heap.objs.size+1)) { s with heap:=sortedAll s.heap vs (List.toArray ((kE vs.length f).map fun i=>vs.getD i Value.none)) }) :
  wpAny (model prog w) A (call (.builtin "sorted") [.ref l]) Q E s:=by
 refine Calls.call_function_entry kind_sorted plain_sorted entry_sorted (args_sorted1 _) ?_
 unfold Builtin.«sorted»
 refine wpAny_bind (m:=checkCount "sorted" 1 1 _) (wpAny_pure ?_)
 refine wpAny_bind (collect_list hl ?_ (by rw [sizeLine_eq];omega))
 refine wpAny_bind (wpAny_newList ?_ (by rw [sizeLine_eq];omega))
 have hsz:((s.heap.push (seqObj "list" #[] 0)).update s.heap.objs.size (Obj.mapSeq (·++vs.toArray))).objs.size=s.heap.objs.size+1:=by
  rw [Heap.size_update,size_push']
 have hoL:(((s.heap.push (seqObj "list" #[] 0)).update s.heap.objs.size (Obj.mapSeq (·++vs.toArray))).push (seqObj "list" vs.toArray 0)).get? (s.heap.objs.size+1)=some (seqObj "list" vs.toArray 0):=by
  rw [←hsz];exact Heap.get?_push_size _ rfl
 have keep:∀b o,s.heap.get? b=some o→(((s.heap.push (seqObj "list" #[] 0)).update s.heap.objs.size (Obj.mapSeq (·++vs.toArray))).push (seqObj "list" vs.toArray 0)).get? b=some o:=fun b o q=>by
  have hlt:b<s.heap.objs.size:=Heap.lt_size q
  rw [Heap.get?_push_ne _ _ _ (by rw [hsz];exact Nat.ne_of_lt (Nat.lt_succ_of_lt hlt)),Heap.get?_update_ne _ _ _ _ (Nat.ne_of_lt hlt),Heap.get?_push_ne _ _ _ (Nat.ne_of_lt hlt)]
  exact q
 show wpAny _ _ _ _ _ { s with heap:=((s.heap.push (seqObj "list" #[] 0)).update s.heap.objs.size (Obj.mapSeq (·++vs.toArray))).push (seqObj "list" vs.toArray 0) }
 rw [hsz]
 refine wpAny_bind (wpAny_holding (wpAny_call_entry slot_list_sort ⟨_,hoL,rfl⟩ entry_list_sort (vM (f:=f) (s:={ s with heap:=((s.heap.push (seqObj "list" #[] 0)).update s.heap.objs.size (Obj.mapSeq (·++vs.toArray))).push (seqObj "list" vs.toArray 0) }) hoL h64 (fun h2 h' kp=>hk h2 h' fun b o q=>kp b o (Nat.ne_of_lt (Nat.lt_succ_of_lt (Heap.lt_size q))) (keep b o q)) ⟨_,rfl,?_⟩) (args_list_sort _)))
 exact wpAny_pure ⟨_,rfl,h⟩
end
end PySem.W
namespace L2
open PySem PySem.Spec PyProof.Rows
inductive Al2 {α β:Type} (R:α→β→Prop):List α→List β→Prop
 |nil:Al2 R [] []
 |cons {a b as bs}:R a b→Al2 R as bs→Al2 R (a::as) (b::bs)
theorem Al2.len {α β:Type} {R:α→β→Prop} {as:List α} {bs:List β} (h:Al2 R as bs):as.length=bs.length:=by
 induction h with
 |nil=>rfl
 |cons _ _ ih=>rw [List.length_cons,List.length_cons,ih]
theorem Al2.at {α β:Type} {R:α→β→Prop} {as:List α} {bs:List β} (h:Al2 R as bs):∀{j:Nat} {a:α},as[j]?=some a→∃b,bs[j]?=some b∧R a b:=by
 induction h with
 |nil=>intro j a e;simp at e
 |cons r _ ih=>
  intro j a e
  cases j with
  |zero=>cases e;exact ⟨_,rfl,r⟩
  |succ j=>exact ih (by simpa using e)
def DEq (K:PySem.W.Frag) (H:Hp):Nat→V→V→Prop
 |0,x,y=>flatV x=true∧x=y
 |n+1,x,y=>(flatV x=true∧x=y)∨∃a b xs ys,x=.ref a∧y=.ref b∧SqT K H a xs∧SqT K H b ys∧Al2 (DEq K H n) xs ys
theorem zR {A:Around} {s:Shared} {x:V} {v u:Value} (h:flatV x=true) (rv:RelV x v) (ru:RelV x u):SeqAt.EqAt A s v u true:=by
 cases x with
 |non=>cases rv;cases ru;exact SeqAt.EqAt.same _
 |bl b=>cases rv;cases ru;exact SeqAt.EqAt.same _
 |int i=>
  obtain ⟨t,rfl⟩:=rv
  obtain ⟨t',rfl⟩:=ru
  have z:=SeqAt.EqAt.int_int (A:=A) (s:=s) i t i t'
  simpa using z
 |str y=>
  obtain ⟨t,rfl⟩:=rv
  obtain ⟨t',rfl⟩:=ru
  have z:=SeqAt.EqAt.str_str (A:=A) (s:=s) y t y t'
  simpa using z
 |_=>cases h
section
variable {X:Cx} {pins:List (Addr × Obj)} {σ:L2.St} {H:Hp} {s:Shared}
theorem xZ (I:Inv X pins σ H s) {n:Nat} {A:Around} {xs ys:List V} {its jts:List Value} (rv:Vals xs its) (rw':Vals ys jts) (h:Al2 (DEq X.K H n) xs ys)
  (ih:∀{x y v u},DEq X.K H n x y→RelV x v→RelV y u→SeqAt.EqAt A s v u true):∀(j:Nat) (h1:j<its.toArray.size) (h2:j<jts.toArray.size),SeqAt.EqAt A s its.toArray[j] jts.toArray[j] ((fun _=>true) j):=fun j h1 h2=>by
 have e1:=rv.length
 have hj1:j<xs.length:=by rw [List.size_toArray] at h1;omega
 obtain ⟨y,hy,d⟩:=h.at (List.getElem?_eq_getElem hj1)
 obtain ⟨u1,hu1,r1⟩:=rv.get (List.getElem?_eq_getElem hj1)
 obtain ⟨u2,hu2,r2⟩:=rw'.get hy
 have g1:its.toArray[j]=u1:=by
  rw [List.getElem_toArray]
  exact (List.getElem?_eq_some_iff.mp hu1).2
 have g2:jts.toArray[j]=u2:=by
  rw [List.getElem_toArray]
  exact (List.getElem?_eq_some_iff.mp hu2).2
 rw [g1,g2]
 exact ih d r1 r2
theorem kI (n:Nat):(List.range n).all (fun _=>true)=true:=by rw [List.all_eq_true];intro _ _;rfl
theorem aAp (I:Inv X pins σ H s):∀(n:Nat) {A:Around} {x y:V} {v u:Value},DEq X.K H n x y→RelV x v→RelV y u→A.units+n<cLine→SeqAt.EqAt A s v u true
 |0,A,x,y,v,u,h,rv,ru,_=>by
  obtain ⟨h,rfl⟩:=h
  exact zR h rv ru
 |n+1,A,x,y,v,u,h,rv,ru,hu=>by
  rcases h with ⟨h,rfl⟩|⟨a,b,xs,ys,rfl,rfl,ha,hb,h⟩
  ·exact zR h rv ru
  cases rv
  cases ru
  by_cases e:a=b
  ·subst e;exact SeqAt.EqAt.same _
  obtain ⟨its,r1,pl,hz⟩:=I.tuple ha
  obtain ⟨jts,r2,pm,hw⟩:=I.tuple hb
  refine SeqAt.EqAt.of_refs e ?_
  have z:=SeqAt.RcAt.tuples (A:=A) (e:=fun _=>true) (show s.heap.IsTuple a its.toArray from pl) (show s.heap.IsTuple b jts.toArray from pm) (by omega) (xZ I r1 r2 h fun d q1 q2=>aAp I n d q1 q2 (by show A.units+1+n<cLine;omega))
  have z2:(its.toArray.size == jts.toArray.size)=true:=by rw [List.size_toArray,List.size_toArray];have:=r1.length;have:=r2.length;have:=h.len;simp;omega
  rw [kI,z2] at z
  exact z
end
def aSq (K:PySem.W.Frag) (r:Bool):R2:=fun x y H Q=>∃a b xs ys,x=.ref a∧y=.ref b∧SqT K H a xs∧SqT K H b ys∧Al2 (DEq K H 40) xs ys∧Q (.bl r) H
theorem aQi {X:Cx} (hu:X.A.units+64<cLine):OpR X (compareOp .NotEq) (aSq X.K false):=by
 intro pins s σ H x y v u Q I rx ry h
 obtain ⟨a,b,xs,ys,rfl,rfl,ha,hb,h,q⟩:=h
 cases rx
 cases ry
 obtain ⟨its,r1,pl,hz⟩:=I.tuple ha
 obtain ⟨jts,r2,pm,hw⟩:=I.tuple hb
 refine SeqAt.RcNeAt.tuples (e:=fun _=>true) (show s.heap.IsTuple a its.toArray from pl) (show s.heap.IsTuple b jts.toArray from pm) (by omega) (xZ I r1 r2 h fun d q1 q2=>aAp I 40 d q1 q2 (by show X.A.units+1+40<cLine;omega)) _ _ _ _ ?_
 have z2:(its.toArray.size == jts.toArray.size)=true:=by rw [List.size_toArray,List.size_toArray];have:=r1.length;have:=r2.length;have:=h.len;simp;omega
 rw [kI,z2]
 exact ⟨.bl _,H,I,rfl,q⟩
def jG (K:PySem.W.Frag) (H:Hp) (u:V) (r:List V):Prop:=∃a,u=.ref a∧SqT K H a r
theorem jG.same {K:PySem.W.Frag} {H H':Hp} {u:V} {r:List V} (e:Same H H') (h:jG K H u r):jG K H' u r:=by
 obtain ⟨a,rfl,ha⟩:=h
 exact ⟨a,rfl,e.aN ha⟩
def KdV:Bool→V→Prop
 |true,x=>∃i,x=.int i
 |false,x=>∃z,x=.str z
def KdR (ks:List Bool) (r:List V):Prop:=Al2 KdV ks r
def rlt:List V→List V→Bool
 |.int a::xs,.int b::ys=>if (a == b)=true then rlt xs ys else decide (a<b)
 |.str a::xs,.str b::ys=>if (a == b)=true then rlt xs ys else decide (a.cps.toList<b.cps.toList)
 |_,_=>false
def srt (rs:List (List V)):List (List V):=(PySem.W.kE rs.length fun i j=>rlt (rs.getD i []) (rs.getD j [])).map fun i=>rs.getD i []
theorem aI7 (rs:List (List V)):(srt rs).length=rs.length:=by unfold srt;rw [List.length_map,PySem.W.aAk]
theorem aO3 {rs:List (List V)} {r:List V} (h:r∈srt rs):r∈rs:=by
 obtain ⟨i,hi,rfl⟩:=List.mem_map.mp h
 have:=PySem.W.uK hi
 have e:rs.getD i []=rs[i]:=by simp [this]
 rw [e]
 exact List.getElem_mem this
theorem Al2.get {α β:Type} {R:α→β→Prop} {as:List α} {bs:List β} (h:Al2 R as bs) {i:Nat} {a:α} {b:β} (h1:as[i]?=some a) (h2:bs[i]?=some b):R a b:=by
 obtain ⟨b',e,r⟩:=h.at h1
 rw [h2] at e
 cases e
 exact r
section
variable {prog:Program} {w:World} {A:Around} {s:Shared} {b:Bool} {Q:Bool→Shared→Prop}
theorem aOc (ks:List Bool):∀{r1 r2:List V} {i1 i2:List Value},KdR ks r1→KdR ks r2→Vals r1 i1→Vals r2 i2→∀i:Nat,Q (rlt r1 r2) s→PySem.W.KatLex prog w A b false Q (i1.zip i2) i s:=by
 induction ks with
 |nil=>
  intro r1 r2 i1 i2 h1 h2 v1 v2 i q
  cases h1;cases h2;cases v1;cases v2
  exact q
 |cons k ks ih=>
  intro r1 r2 i1 i2 h1 h2 v1 v2 i q
  cases h1 with
  |cons a1 t1=>
   cases h2 with
   |cons a2 t2=>
    cases v1 with
    |cons p1 w1=>
     cases v2 with
     |cons p2 w2=>
      cases k with
      |true=>
       obtain ⟨x,rfl⟩:=a1
       obtain ⟨y,rfl⟩:=a2
       obtain ⟨t,rfl⟩:=p1
       obtain ⟨u,rfl⟩:=p2
       refine (SeqAt.EqAt.int_int x t y u) prog w _ _ ?_
       unfold rlt at q
       by_cases e:(x == y)=true
       ·rw [e,if_pos rfl]
        rw [if_pos e] at q
        exact ih t1 t2 w1 w2 (i+1) q
       ·rw [if_neg e] at q
        rw [Bool.not_eq_true] at e
        rw [e,if_neg (by decide)]
        cases hb:(b && i == 0) with
        |true=>exact oneLt_int q
        |false=>exact PySem.W.kat_one _ _ (lt_int q)
      |false=>
       obtain ⟨x,rfl⟩:=a1
       obtain ⟨y,rfl⟩:=a2
       obtain ⟨t,rfl⟩:=p1
       obtain ⟨u,rfl⟩:=p2
       refine (SeqAt.EqAt.str_str x t y u) prog w _ _ ?_
       unfold rlt at q
       by_cases e:(x == y)=true
       ·rw [e,if_pos rfl]
        rw [if_pos e] at q
        exact ih t1 t2 w1 w2 (i+1) q
       ·rw [if_neg e] at q
        rw [Bool.not_eq_true] at e
        rw [e,if_neg (by decide)]
        cases hb:(b && i == 0) with
        |true=>exact oneLt_str q
        |false=>exact PySem.W.kat_one _ _ (lt_str q)
end
section
variable {X:Cx}
def aRf (K:PySem.W.Frag):List V→Hp→VK→Prop:=fun xs H Q=>∃(l:Addr) (us:List V) (rs:List (List V)) (ks:List Bool),xs=[.ref l]∧SqL K H l us∧Al2 (jG K H) us rs∧us.length<64∧ks≠[]∧(∀r∈rs,KdR ks r) ∧
 ∀D H' us',H D=none→Same H H'→H' D=some (.lst us')→Al2 (jG K H) us' (srt rs)→Q (.ref D) H'
theorem aIw {pins:List (Addr × Obj)} {σ:L2.St} {H:Hp} {s:Shared} {h':Heap} {k:Bool} {ks:List Bool} (I:Inv X pins σ H s) (kp:∀b o,s.heap.get? b=some o→h'.get? b=some o):∀{us:List V} {rs:List (List V)} {its:List Value},Al2 (jG X.K H) us rs→Vals us its→(∀r∈rs,KdR (k::ks) r) →
  ∃fs,PySem.W.KatTups h' its fs∧fs.length=its.length∧∀f∈fs,∀M:Model,PySem.W.Looks M h' (typeOf f) (.type (if k=true then "int" else "str"))
 |_,_,_,.nil,.nil,_=>⟨[],.nil,rfl,fun f h=>by cases h⟩
 |_,_,_,.cons (b:=r) hr t,.cons q z,hk=>by
  obtain ⟨fs,h1,h2,h3⟩:=aIw I kp t z fun r m=>hk r (List.mem_cons_of_mem _ m)
  obtain ⟨a,rfl,ha⟩:=hr
  cases q
  obtain ⟨ks',rv,⟨o,ho,hc,n,hd⟩,_⟩:=I.tuple ha
  have hkr:=hk r (List.mem_cons_self ..)
  cases hkr with
  |cons hx _=>
   cases rv with
   |@cons _ f _ fr rx _=>
    refine ⟨f::fs,.cons (kp _ _ ho) hc hd (by simp) h1,by rw [List.length_cons,List.length_cons,h2],fun g hg M=>?_⟩
    rcases List.mem_cons.mp hg with rfl|hg
    ·cases k with
     |true=>
      obtain ⟨i,rfl⟩:=hx
      obtain ⟨tk,rfl⟩:=rx
      exact .now
     |false=>
      obtain ⟨i,rfl⟩:=hx
      obtain ⟨tk,rfl⟩:=rx
      exact .now
    ·exact h3 g hg M
theorem lH:CallR X (.builtin "sorted") (aRf X.K):=by
 intro pins s σ H xs us0 Q I r h
 obtain ⟨l,us,rs,ks,rfl,hl,hr,h64,hne,hk,q⟩:=h
 obtain ⟨u,rfl,ru⟩:=vals1 r
 cases ru
 obtain ⟨its,rv,pl,hz⟩:=I.list hl
 have e1:=rv.length
 have e2:=hr.len
 obtain ⟨k,ks',rfl⟩:∃k ks',ks=k::ks':=by
  cases ks with
  |nil=>exact absurd rfl hne
  |cons k ks'=>exact ⟨k,ks',rfl⟩
 refine PySem.W.aCn (f:=fun i j=>rlt (rs.getD i []) (rs.getD j [])) pl.isList (by omega) (fun h2 h' kp=>?_) ?_
 ·obtain ⟨fs,t1,t2,t3⟩:=aIw I kp hr rv hk
  refine ⟨_,fun Q hq=>PySem.W.kat_kind (s:={ s with heap:=h' }) (T:=.type (if k=true then "int" else "str")) t1 (by omega) (fun v hv=>t3 v hv _) (by simp) hq,fun i j C hi hj hC=>?_⟩
  have row:∀{i:Nat},i<its.length→∃a o r xs n,its.getD i Value.none=.ref a∧h'.get? a=some o∧o.data=.seq (List.toArray xs) n∧Vals r xs∧rs.getD i []=r∧KdR (k::ks') r:=fun {i} hi=>by
   have hiu:i<us.length:=by omega
   have hir:i<rs.length:=by omega
   obtain ⟨a,ea,ha⟩:=hr.get (List.getElem?_eq_getElem hiu) (List.getElem?_eq_getElem hir)
   obtain ⟨v,hv,rx⟩:=rv.get (List.getElem?_eq_getElem hiu)
   rw [ea] at rx
   cases rx
   obtain ⟨xs,rr,⟨o,ho,hc,n,hd⟩,_⟩:=I.tuple ha
   refine ⟨a,o,rs[i],xs,n,?_,kp _ _ ho,hd,rr,by simp [hir],hk _ (List.getElem_mem hir)⟩
   rw [List.getD_eq_getElem?_getD,hv]
   rfl
  obtain ⟨a,o,r1,x1,n1,g1,g2,g3,g4,g5,g6⟩:=row hi
  obtain ⟨b,o',r2,x2,n2,g1',g2',g3',g4',g5',g6'⟩:=row hj
  show wpAny _ _ (keyLt' _ (its.getD i Value.none) (its.getD j Value.none)) C _ _
  rw [g1,g1']
  refine PySem.W.kat_lt (s:={ s with heap:=h' }) g2 g3 g2' g3' ?_
  have hsz:decide ((List.toArray x1).size<(List.toArray x2).size)=false:=by
   rw [List.size_toArray,List.size_toArray]
   have:=g4.length
   have:=g4'.length
   have:=Al2.len g6
   have:=Al2.len g6'
   exact decide_eq_false (by omega)
  rw [hsz]
  refine aOc (k::ks') g6 g6' g4 g4' 0 ?_
  have hC:C (rlt (rs.getD i []) (rs.getD j [])) { s with heap:=h' }:=hC
  rw [g5,g5'] at hC
  exact hC
 ·obtain ⟨e,he⟩:=sortedAll_at s.heap its (List.toArray ((PySem.W.kE its.length fun i j=>rlt (rs.getD i []) (rs.getD j [])).map fun i=>its.getD i Value.none))
  have hf:H (s.heap.objs.size+1)=none:=I.hok.fresh (Nat.le_succ _)
  have el:its.length=rs.length:=by omega
  refine ⟨.ref (s.heap.objs.size+1),_,I.laid (t':=s.toks) (o:=.lst ((PySem.W.kE rs.length fun i j=>rlt (rs.getD i []) (rs.getD j [])).map fun i=>us.getD i .non)) (fun b o q=>sortedAll_old q) (Nat.le_succ _) ?_,rfl,q _ _ _ hf (aW hf _) upd_same ?_⟩
  ·refine ⟨small (by rw [List.length_map,PySem.W.aAk];omega),_,e,?_,he⟩
   rw [el]
   have aux:∀L:List Nat,(∀i∈L,i<us.length)→Vals (L.map fun i=>us.getD i .non) (L.map fun i=>its.getD i Value.none):=by
    intro L
    induction L with
    |nil=>intro _;exact .nil
    |cons i L ih=>
     intro hL
     have hi:=hL i (List.mem_cons_self ..)
     obtain ⟨v,hv,rx⟩:=rv.get (List.getElem?_eq_getElem hi)
     refine .cons ?_ (ih fun j hj=>hL j (List.mem_cons_of_mem _ hj))
     show RelV (us.getD i .non) (its.getD i Value.none)
     rw [List.getD_eq_getElem?_getD,List.getElem?_eq_getElem hi,List.getD_eq_getElem?_getD,hv]
     exact rx
   exact aux _ fun i hi=>by have:=PySem.W.uK hi;omega
  ·unfold srt
   have aux:∀L:List Nat,(∀i∈L,i<us.length)→Al2 (jG X.K H) (L.map fun i=>us.getD i .non) (L.map fun i=>rs.getD i []):=by
    intro L
    induction L with
    |nil=>intro _;exact .nil
    |cons i L ih=>
     intro hL
     have hi:=hL i (List.mem_cons_self ..)
     have hir:i<rs.length:=by omega
     refine .cons ?_ (ih fun j hj=>hL j (List.mem_cons_of_mem _ hj))
     show jG X.K H (us.getD i .non) (rs.getD i [])
     rw [List.getD_eq_getElem?_getD,List.getElem?_eq_getElem hi,List.getD_eq_getElem?_getD,List.getElem?_eq_getElem hir]
     exact hr.get (List.getElem?_eq_getElem hi) (List.getElem?_eq_getElem hir)
   exact aux _ fun i hi=>by have:=PySem.W.uK hi;omega
end
section
variable {X:Cx}
def aRw:R2:=fun x y H Q=>(∃a b,x=.int a∧y=.int b∧Q (.bl (decide (a<b))) H)∨∃a b:Str,x=.str a∧y=.str b∧Q (.bl (decide (a.cps.toList<b.cps.toList))) H
theorem aRd:OpR X (compareOp .Lt) aRw:=by
 intro pins s σ H x y v u Q I rx ry h
 rcases h with ⟨a,b,rfl,rfl,q⟩|⟨a,b,rfl,rfl,q⟩
 ·obtain ⟨t,rfl⟩:=rx
  obtain ⟨t',rfl⟩:=ry
  exact lt_int ⟨.bl _,H,I,rfl,q⟩
 ·obtain ⟨t,rfl⟩:=rx
  obtain ⟨t',rfl⟩:=ry
  exact lt_str ⟨.bl _,H,I,rfl,q⟩
def aSa:R2:=fun x y H Q=>(∃a b,x=.int a∧y=.int b∧Q (.bl (decide (b<a))) H)∨∃a b:Str,x=.str a∧y=.str b∧Q (.bl (decide (b.cps.toList<a.cps.toList))) H
theorem aQ3:OpR X (compareOp .Gt) aSa:=by
 intro pins s σ H x y v u Q I rx ry h
 rcases h with ⟨a,b,rfl,rfl,q⟩|⟨a,b,rfl,rfl,q⟩
 ·obtain ⟨t,rfl⟩:=rx
  obtain ⟨t',rfl⟩:=ry
  exact PyProof.Rows.gt_int ⟨.bl _,H,I,rfl,q⟩
 ·obtain ⟨t,rfl⟩:=rx
  obtain ⟨t',rfl⟩:=ry
  exact P.gt_str ⟨.bl _,H,I,rfl,q⟩
def aOo (K:PySem.W.Frag):V→List V→Hp→VK→Prop:=fun x vs H Q=>∃(l:Addr) (ss:List Str) (n:Str) (i:Nat),x=.ref l∧vs=[.str n]∧SqL K H l (ss.map V.str)∧ss.length≤1000∧ss[i]?=some n∧(∀(j:Nat) (m:Str),j<i→ss[j]?=some m→m≠n)∧Q (.int (i:Nat)) H
def aGx (n:Str):Value→Bool
 |.str x _=>x == n
 |_=>false
theorem zN:MtR X "list.index" (aOo X.K):=by
 intro pins s σ H x vs v us Q I rx rv h
 obtain ⟨l,ss,n,i,rfl,rfl,hH,h1000,hi,hno,q⟩:=h
 cases rx
 obtain ⟨u,rfl,ru⟩:=rv.one
 obtain ⟨t,rfl⟩:=ru
 obtain ⟨its,r,pl,hz⟩:=I.list hH
 have el:=r.length
 rw [List.length_map] at el
 obtain ⟨⟨cls,dd,data,sl⟩,ho,hc,nn,hd⟩:=id pl.isList
 simp only at hc hd
 subst hc hd
 have hil:=(List.getElem?_eq_some_iff.mp hi).1
 have get:∀{j:Nat} (hj:j<its.length),∃m t',ss[j]?=some m∧its[j]=.str m t':=fun {j} hj=>by
  have hj':j<ss.length:=by omega
  obtain ⟨w,hw,rw'⟩:=r.get (show (ss.map V.str)[j]?=some (.str ss[j]) by rw [List.getElem?_map,List.getElem?_eq_getElem hj'];rfl)
  obtain ⟨t',rfl⟩:=rw'
  exact ⟨ss[j],t',List.getElem?_eq_getElem hj',(List.getElem?_eq_some_iff.mp hw).2⟩
 refine call_meets PySem.F.slot_list_index ⟨_,ho,rfl⟩ PySem.F.entry_list_index (PySem.F.args_list_index_2 _ _)
  (SeqAt.list_indexAt l its.toArray nn dd sl (.str n t) (aGx n) i (by rw [List.size_toArray];omega) (by omega) ?_ ?_) ⟨ho,fun y hy=>?_,⟨.int _,H,I.tok _,⟨_,rfl⟩,q⟩⟩
 ·obtain ⟨m,t',h1,h2⟩:=get (j:=i) (by omega)
  rw [hi] at h1
  cases h1
  show aGx n its[i]=true
  rw [h2]
  show (n == n)=true
  simp
 ·intro j hj hlt
  obtain ⟨m,t',h1,h2⟩:=get (j:=j) (by simpa using hj)
  show aGx n its[j]=false
  rw [h2]
  have:=hno j m hlt h1
  show (m == n)=false
  simpa using this
 ·have hy:y∈its:=by simpa using hy
  obtain ⟨j,hj,rfl⟩:=List.getElem_of_mem hy
  obtain ⟨m,t',h1,h2⟩:=get (j:=j) hj
  rw [h2]
  exact SeqAt.EqAt.str_str m t' n t
end
end L2
namespace L2
open PySem PySem.Spec PyProof.Rows Builtin
section
variable {prog:Program} {w:World} {A:Around} {E:Value→Shared→Prop} {s:Shared}
theorem aEu {x Tx:Value} {P:Shared→Prop} (hP:∀s tk,P s→P { s with toks:=tk }) {tp:Addr} {o:Obj} {n:Nat} {tk:Tok} {cs:List Value} {vs:List Bool} {Q:PySem.Fin→Shared→Prop}
  (T:PySem.W.Looks (model prog w) s.heap (typeOf x) Tx) (ne:¬ (Tx == Value.ref tp)=true) (ho:s.heap.get? tp=some o) (hc:o.cls=.type "tuple") (hd:o.data=.seq cs.toArray n) (ha:AnswersAll P x cs vs) (hp:P s)
  (hq:∀t,Q (.done (.ret (.bool (vs.any id)))) { s with toks:=t }) :
  wpAny (model prog w) A (Builtin.«isinstance.nested» ⟨[x,.ref tp,.int 0 tk],[]⟩) Q E s:=by
 obtain ⟨h,g,d,t,os⟩:=s
 have T2:PySem.W.Looks (model prog w) h (typeOf (.ref tp)) (.type "tuple"):=hc ▸ (PySem.W.Looks.ld ho).andThen .now
 unfold Builtin.«isinstance.nested»
 refine wpAny_bind (T.at ?_)
 rw [if_neg ne]
 refine wpAny_bind (T2.at ?_)
 rw [if_neg (by decide)]
 unfold Builtins.unionMembers
 refine wpAny_bind (wpAny_bind (T2.at ?_))
 rw [if_neg (by decide)]
 refine wpAny_pure ?_
 have LI:PySem.W.Looks (model prog w) h (isInstance (.ref tp) (.type "tuple")) true:=T2.andThen (PySem.W.Looks.of_pure F.isi_sub_tuple)
 have SI:PySem.W.Looks (model prog w) h (seqItems? (.ref tp)) (some cs.toArray):=(PySem.W.Looks.ld ho).andThen (by rw [hd];exact .now)
 refine wpAny_bind (LI.at ?_)
 rw [if_pos rfl]
 dsimp only
 rw [if_neg (by decide)]
 refine wpAny_bind (SI.at (wpAny_bind ?_))
 rw [Option.getD_some]
 have e0:∀{F:Value→Option Fin × Unit→Sem (ForInStep (Option Fin × Unit))} {b:Option Fin × Unit},forIn cs.toArray b F=forIn cs b F:=by intros;simp
 rw [e0]
 refine isinstance_items (dep:=0) (P:=P) hP cs vs _ _ ha hp fun tk'=>?_
 cases hv:vs.any id with
 |true=>
  rw [if_pos rfl]
  exact wpAny_pure (hv ▸ hq tk')
 |false=>
  rw [if_neg (by decide)]
  exact wpAny_pure (hv ▸ hq tk')
end
section
variable {X:Cx}
def aPh (K:PySem.W.Frag):List V→Hp→VK→Prop:=fun xs H Q=>∃x t,xs=[x,.ref t]∧SqT K H t [.ty "int",.ty "str"]∧((∃i,x=.int i)∨∃z,x=.str z)∧Q (.bl true) H
theorem aK0:CallR X (.builtin "isinstance") (aPh X.K):=by
 intro pins s σ H xs us Q I r h
 obtain ⟨x,t,rfl,ht,hx,q⟩:=h
 obtain ⟨u,v,rfl,rx,rT⟩:=r.two
 obtain rfl:v=Value.ref t:=rT
 obtain ⟨its,rv,⟨o,ho,hoc,n,hod⟩,_⟩:=I.tuple ht
 have ei:its=[.type "int",.type "str"]:=by
  cases rv with
  |cons a b=>cases b with
   |cons c d=>cases d;rw [show _=Value.type "int" from a,show _=Value.type "str" from c]
 subst ei
 rcases hx with ⟨i,rfl⟩|⟨z,rfl⟩
 ·obtain ⟨tk,rfl⟩:=rx
  have ha:AnswersAll (fun s=>s.TypeIs (.int i tk) "int") (.int i tk) [.type "int",.type "str"] [true,false]:=⟨Answers.of_true F.isi_meta_int F.isi_self_int,Answers.of_false_int (by decide +kernel) F.isi_meta_str F.sub_int_str,trivial⟩
  have g:Meets (Builtin.«isinstance» ⟨[.int i tk,.ref t],[]⟩) (fun _ R s=>s.heap.get? t=some o∧∀t,R (.ok (.ret (.bool true))) { s with toks:=t }):=
   fun prog w A R s hs=>isinstance_outer (aEu (vs:=[true,false]) (fun _ _ h=>h) (.now) (by intro z;exact absurd (beq_iff_eq.mp z) (by intro y;cases y)) hs.1 hoc hod ha (typeIs_int s i tk) fun t=>hs.2 t) (by intro z;cases z)
  exact call_isinstance g ⟨ho,fun t=>⟨.bl true,H,I.tok t,rfl,q⟩⟩
 ·obtain ⟨tk,rfl⟩:=rx
  have ha:AnswersAll (fun s=>s.TypeIs (.str z tk) "str") (.str z tk) [.type "int",.type "str"] [false,true]:=⟨Answers.of_false_str (by decide +kernel) F.isi_meta_int F.sub_str_int,Answers.of_true F.isi_meta_str F.isi_self_str,trivial⟩
  have g:Meets (Builtin.«isinstance» ⟨[.str z tk,.ref t],[]⟩) (fun _ R s=>s.heap.get? t=some o∧∀t,R (.ok (.ret (.bool true))) { s with toks:=t }):=
   fun prog w A R s hs=>isinstance_outer (aEu (vs:=[false,true]) (fun _ _ h=>h) (.now) (by intro z;exact absurd (beq_iff_eq.mp z) (by intro y;cases y)) hs.1 hoc hod ha (typeIs_str s z tk) fun t=>hs.2 t) (by intro z;cases z)
  exact call_isinstance g ⟨ho,fun t=>⟨.bl true,H,I.tok t,rfl,q⟩⟩
theorem aG4 {K:PySem.W.Frag} (hK:X.K=K:=by rfl):CallR X (.builtin "isinstance") (aPh K):=by subst hK;exact aK0
def aR6 (K:PySem.W.Frag):List V→Hp→VK→Prop:=fun xs H Q=>∃l us,xs=[.ref l,.ty "list"]∧SqL K H l us∧Q (.bl true) H
theorem aJ8:CallR X (.builtin "isinstance") (aR6 X.K):=by
 intro pins s σ H xs us Q I r h
 obtain ⟨l,zs,rfl,hl,q⟩:=h
 obtain ⟨u,v,rfl,rx,rT⟩:=r.two
 obtain rfl:v=Value.type "list":=rT
 obtain rfl:u=Value.ref l:=rx
 obtain ⟨its,rv,pl,_⟩:=I.list hl
 obtain ⟨o,ho,hc,_⟩:=id pl.isList
 exact call_isinstance (isinstance_true F.isi_meta_list F.isi_self_list) ⟨⟨o,ho,hc⟩,⟨.bl true,H,I,rfl,q⟩⟩
end
section
variable {X:Cx} {pins:List (Addr × Obj)} {σ:L2.St} {H:Hp} {s:Shared} {d:Addr} {o:Obj} {kvs:List (Key × V)}
theorem aNu {u u':HO} (ok:HOk X.prog X.w H s.heap) (hd:H d=some u) (nt:∀xs,u≠.tup xs) (no:∀a,u≠.own a) (h:ObjOk X.prog X.w H s.heap d u'):HOk X.prog X.w (upd H d u') s.heap:=by
 have st:∀{b v},ObjOk X.prog X.w H s.heap b v→ObjOk X.prog X.w (upd H d u') s.heap b v:=fun {b v} z=>z.stay (fun _ _ _ q=>q) (fun c q=>by
  rw [upd_ne (fun e=>by subst e;rw [hd] at q;exact no _ (Option.some.inj q))]
  exact q) fun c xs q=>by
  rw [upd_ne (fun e=>by subst e;rw [hd] at q;exact nt _ (Option.some.inj q))]
  exact q
 intro b v e
 by_cases hb:b=d
 ·subst hb
  rw [upd_same] at e
  cases e
  exact st h
 ·rw [upd_ne hb] at e
  exact st (ok b v e)
theorem Inv.setd {u u':HO} (I:Inv X pins σ H s) (hd:H d=some u) (nt:∀xs,u≠.tup xs) (no:∀a,u≠.own a) (nb:∀ps,u≠.tbl ps) (nf:∀ob v,X.H₀ d≠some (.frz ob v)) (h:ObjOk X.prog X.w H s.heap d u'):Inv X pins σ (upd H d u') s:=by
 have ne:∀{b},H b=none→upd H d u' b=none:=fun {b} e=>by
  rw [upd_ne (fun z=>by subst z;rw [hd] at e;cases e)]
  exact e
 refine ⟨I.ok,I.os,I.bare,⟨I.base.keep,I.base.slot,fun b ob e n hx=>ne (I.base.free b ob e n hx),I.base.there,fun b xs e=>?_,fun b ob v e=>?_,fun b ps e=>?_⟩,I.loc,I.cell,ne I.free,fun x c e=>ne (I.freeC x c e),fun p hp=>?_,aNu I.hok hd nt no h,I.len⟩
 ·have q:=I.base.tups b xs e
  rw [upd_ne (fun z=>by subst z;rw [hd] at q;exact nt _ (Option.some.inj q))]
  exact q
 ·have q:=I.base.frzs b ob v e
  rw [upd_ne (fun z=>by subst z;exact nf _ _ e)]
  exact q
 ·obtain ⟨more,q⟩:=I.base.tbls b ps e
  refine ⟨more,?_⟩
  rw [upd_ne (fun z=>by subst z;rw [hd] at q;exact nb _ (Option.some.inj q))]
  exact q
 ·obtain ⟨h1,h2,h3⟩:=I.pin p hp
  exact ⟨h1,ne h2,h3⟩
end
section
variable {X:Cx} {tg:Expr}
end
section
variable {X:Cx} {tg:Expr}
end
theorem uD:∀{xs:List V} {is js:List Value},(∀x∈xs,∃a,x=.ref a)→Vals xs is→Vals xs js→is=js
 |_,_,_,_,.nil,.nil=>rfl
 |_,_,_,h,.cons r t,.cons r' t'=>by
  obtain ⟨a,rfl⟩:=h _ (List.mem_cons_self ..)
  cases r
  cases r'
  rw [uD (fun x hx=>h x (List.mem_cons_of_mem _ hx)) t t']
def aRh (K:PySem.W.Frag):R2:=fun x y H Q=>∃(d e:Addr) (k:Key) (a b:Addr) (xs:List V),x=.ref d∧y=.ref e∧H d=some (.dK [(k,.ref a)])∧H e=some (.dK [(k,.ref b)])∧SqL K H a xs∧SqL K H b xs∧(∀x∈xs,∃p,x=.ref p)∧Q (.bl false) H
theorem aN2 {X:Cx} (hu:X.A.units+64<cLine):OpR X (compareOp .NotEq) (aRh X.K):=by
 intro pins s σ H x y v u Q I rx ry h
 obtain ⟨d,e,k,a,b,xs,rfl,rfl,hd,he,ha,hb,hr,q⟩:=h
 cases rx
 cases ry
 obtain ⟨z,hm,vs,rel,dd⟩:=dk_of I.hok hd
 obtain ⟨z',hm',us,rel',de⟩:=dk_of I.hok he
 obtain ⟨rfl⟩:vs=[(k,Value.ref a)]:=by
  cases rel with
  |cons q t=>cases t;obtain ⟨k1,r1⟩:=q;exact congrArg (·::[]) (Prod.ext k1.symm r1)
 obtain ⟨rfl⟩:us=[(k,Value.ref b)]:=by
  cases rel' with
  |cons q t=>cases t;obtain ⟨k1,r1⟩:=q;exact congrArg (·::[]) (Prod.ext k1.symm r1)
 have eq:SeqAt.EqAt X.A.in1 s (.ref a) (.ref b) true:=by
  by_cases e:a=b
  ·subst e;exact SeqAt.EqAt.same _
  obtain ⟨its,r1,pl,_⟩:=I.list ha
  obtain ⟨jts,r2,pm,_⟩:=I.list hb
  obtain rfl:=uD hr r1 r2
  refine SeqAt.EqAt.of_refs e ?_
  have zz:=SeqAt.RcAt.lists (A:=X.A.in1) (e:=fun _=>true) pl.isList pm.isList rfl (by show X.A.units+1<cLine;omega) (fun j h1 h2=>SeqAt.EqAt.same _)
  rw [kI] at zz
  exact zz
 have eq':SeqAt.EqAt X.A.in1 s (.ref b) (.ref a) true:=by
  by_cases e:b=a
  ·subst e;exact SeqAt.EqAt.same _
  obtain ⟨its,r1,pl,_⟩:=I.list ha
  obtain ⟨jts,r2,pm,_⟩:=I.list hb
  obtain rfl:=uD hr r1 r2
  refine SeqAt.EqAt.of_refs e ?_
  have zz:=SeqAt.RcAt.lists (A:=X.A.in1) (e:=fun _=>true) pm.isList pl.isList rfl (by show X.A.units+1<cLine;omega) (fun j h1 h2=>SeqAt.EqAt.same _)
  rw [kI] at zz
  exact zz
 have hv:valueAt [(k,Value.ref b)] k=some (.ref b):=by simp [valueAt]
 refine PySem.W.keq_ne (r:=true) hm hm' dd de (by omega) (fun _=>by
  first
   |exact PySem.W.KeqHits.hit (e:=true) (b:=true) hv eq .nil
   |exact PySem.W.KeqHits.hit (e:=true) (b:=true) hv eq' .nil) ?_
 exact ⟨.bl false,H,I,rfl,q⟩
theorem oY {env:Env} {c y:Str}:∀{names:List (Str × NameKind)},(∀z∈names,z.2=.cell→z.1=c) →
  ((names.map fun (x:Str × NameKind)=>match x with|(n,k)=>if (k == NameKind.free && env.scope.kind == ScopeKind.function && env.kindOf n == some NameKind.cell) then (n,NameKind.cell) else (n,k)).lookup y=some .cell ∨
  (names.map fun (x:Str × NameKind)=>match x with|(n,k)=>if (k == NameKind.free && env.scope.kind == ScopeKind.function && env.kindOf n == some NameKind.cell) then (n,NameKind.cell) else (n,k)).lookup y=some .free)→y=c∨(y,NameKind.free)∈names
 |[],_,h=>by simp at h
 |(n,k')::r,hc,h=>by
  rw [List.map_cons] at h
  by_cases e:(y == n)=true
  ·have ey:y=n:=by simpa using e
   subst ey
   have hk:y=c∨k'=.free:=by
    by_cases q:((k' == NameKind.free) && env.scope.kind == ScopeKind.function && env.kindOf y == some NameKind.cell)=true
    ·rw [Bool.and_eq_true,Bool.and_eq_true] at q
     exact .inr (by simpa using q.1.1)
    ·have q':=Bool.eq_false_iff.mpr q
     simp only [q',Bool.false_eq_true,if_false,List.lookup_cons,e] at h
     rcases h with h|h
     ·cases h
      exact .inl (hc (y,.cell) List.mem_cons_self rfl)
     ·cases h;exact .inr rfl
   rcases hk with hk|hk
   ·exact .inl hk
   subst hk
   exact .inr List.mem_cons_self
  ·have e':(y == n)=false:=by simpa using e
   have key:∀z:Str × NameKind,z.1=n→(List.lookup y (z::(r.map fun (x:Str × NameKind)=>match x with|(n,k)=>if (k == NameKind.free && env.scope.kind == ScopeKind.function && env.kindOf n == some NameKind.cell) then (n,NameKind.cell) else (n,k)))) =
     List.lookup y (r.map fun (x:Str × NameKind)=>match x with|(n,k)=>if (k == NameKind.free && env.scope.kind == ScopeKind.function && env.kindOf n == some NameKind.cell) then (n,NameKind.cell) else (n,k)):=fun z hz=>by
    obtain ⟨z1,z2⟩:=z
    cases hz
    rw [List.lookup_cons,e']
   have kz:(match ((n,k'):Str × NameKind) with|(n,k)=>if (k == NameKind.free && env.scope.kind == ScopeKind.function && env.kindOf n == some NameKind.cell) then (n,NameKind.cell) else (n,k)).1=n:=by
    dsimp only
    split <;> rfl
   rw [key _ kz] at h
   exact (oY (fun z hz=>hc z (List.mem_cons_of_mem _ hz)) h).imp id (List.mem_cons_of_mem _)
structure vR (scope:Scope) (N:List Str) (y0:Str):Prop where
 one:∀y∈scope.names,y.2=.cell→y.1=y0
 cf:∀n acc,cellsFrom n scope.names acc=(y0,n)::acc
 pc:∀h,pushCells h scope.names=h.push { cls:=.type "cell",data:=.cell none }
 ny:(y0,NameKind.free)∉scope.names
 kind:scope.kind=.function
 names:∀y∈scope.names,y.2=.local→scope.names.lookup y.1=some .local
 free:∀y∈scope.names,y.2=.free→scope.names.lookup y.1=some .free
def cxY (X:Cx) (N:List Str) (scope:Scope) (y0:Str) (cl:List (Str × Addr)) (s:Shared) (H:Hp) (fp:List Addr):Cx:=
 { cxC X N scope ((y0,s.heap.objs.size+1)::cl) s H fp with fn:=fun x=>x == y0 }
theorem aOt {M:Model} {A:Around} {E:Value→Shared→Prop} {s:Shared} {scope:Scope} {N:List Str} {y0:Str} {globals:Addr} {cl:List (Str × Addr)} {qual:Str} {env:Env} {Q:Env→Shared→Prop} (C:vR scope N y0)
  (hQ:∀h',h'.Ns s.heap.objs.size (fun _=>none)→h'.IsCell (s.heap.objs.size+1) none→(∀b o,s.heap.get? b=some o→h'.get? b=some o) →
   Q { scope:=scope,locals:=s.heap.objs.size,globals:=globals,cells:=(y0,s.heap.objs.size+1)::cl,qual:=qual,func:=none,code:=env.code,frame:=env.frame,builtins:=env.builtins } { s with heap:=h' }) :
  wpAny M A (newFunctionEnv scope globals cl [] qual none .none (some env)) Q E s:=by
 simp only [newFunctionEnv,Option.isSome_some,if_true]
 refine wpAny_bind (wpAny_alloc ?_)
 refine wpAny_bind (wpAny_layCells _ (fun name kind cells=>by cases hkc:kind == NameKind.cell <;> simp [hkc]) _ _ _ _ ?_)
 rw [C.cf,C.pc]
 have hz:(s.heap.push { cls:=.type "dict",data:=.dict #[] }).objs.size=s.heap.objs.size+1:=Heap.size_push ..
 show wpAny M A _ Q E { s with heap:=(s.heap.push { cls:=.type "dict",data:=.dict #[] }).push { cls:=.type "cell",data:=.cell none } }
 simp only [List.forIn_nil]
 refine wpAny_bind (wpAny_pure (wpAny_pure ?_))
 have hz':({ s with heap:=s.heap.push { cls:=.type "dict",data:=.dict #[] } }:Shared).heap.objs.size=s.heap.objs.size+1:=hz
 rw [hz']
 refine hQ _ ((Heap.Ns.new s.heap (.type "dict")).keeps fun b o e=>Heap.get?_push_of_some _ e) ?_ fun b o e=>Heap.get?_push_of_some _ (Heap.get?_push_of_some _ e)
 refine ⟨{ cls:=.type "cell",data:=.cell none },?_,rfl⟩
 rw [←hz]
 exact Heap.get?_push_size _ rfl
theorem aKw {X:Cx} {pins:List (Addr × Obj)} {σ σ':St} {H:Hp} {s:Shared} {scope:Scope} {N:List Str} {y0:Str} {cl:List (Str × Addr)} {fp:List Addr} {h1:Heap} {tk:Nat} {m1:Str→Option Value}
  (I:Inv X pins σ H s) (C:vR scope N y0) (hfr:∀y,(y,NameKind.free)∈scope.names→X.env.kindOf y=some .cell∨X.env.kindOf y=some .free)
  (p1:∀p∈cl,X.env.cells.lookup p.1=some p.2∧(p.1,NameKind.free)∈scope.names) (p2:∀y,(y,NameKind.free)∈scope.names→∃c,(y,c)∈cl)
  (cap:Cap X scope N σ σ') (hf:∀b∈fp,FpOk X pins H b) (hfl:∀b∈fp,b<s.heap.objs.size)
  (hn:h1.Ns s.heap.objs.size m1) (hcl:h1.IsCell (s.heap.objs.size+1) none) (hk:∀b o,s.heap.get? b=some o→h1.get? b=some o) :
  Inv (cxY X N scope y0 cl s H fp) [] σ' H { s with heap:=h1,toks:=tk }:=by
 have ok:=I.ok
 have lk:∀y c,cl.lookup y=some c→X.env.cells.lookup y=some c:=fun y c e=>(p1 _ (PySem.mem_of_lookup e)).1
 have lk2:∀y,(y,NameKind.free)∈scope.names→∃c,cl.lookup y=some c∧X.env.cells.lookup y=some c:=fun y hy=>by
  obtain ⟨c,hc⟩:=p2 y hy
  obtain ⟨c',e⟩:=lookup_mem hc
  exact ⟨c',e,lk y c' e⟩
 have old:∀x c,X.env.cells.lookup x=some c→c<s.heap.objs.size:=fun x c e=>by
  obtain ⟨v,o,ho,_⟩:=I.cell x c e
  exact Heap.lt_size ho
 have lkY:∀x c,List.lookup x ((y0,s.heap.objs.size+1)::cl)=some c→(x=y0∧c=s.heap.objs.size+1)∨(x≠y0∧cl.lookup x=some c):=fun x c e=>by
  rw [List.lookup_cons] at e
  by_cases q:(x == y0)=true
  ·rw [q] at e
   cases e
   exact .inl ⟨by simpa using q,rfl⟩
  ·have q':(x == y0)=false:=by simpa using q
   rw [q'] at e
   exact .inr ⟨by simpa using q,e⟩
 have lkN:∀x c,x≠y0→cl.lookup x=some c→List.lookup x ((y0,s.heap.objs.size+1)::cl)=some c:=fun x c n e=>by
  rw [List.lookup_cons,show (x == y0)=false by simpa using n]
  exact e
 have fsub:∀b∈fp,b∉frs X.stack:=fun b hb z=>by
  obtain ⟨f0,f1,f2,_⟩:=hf b hb
  rcases List.mem_cons.mp (I.stkSub b z) with e|e
  ·exact f1 e
  ·exact f2 e
 have ok':(cxY X N scope y0 cl s H fp).Ok:=by
  refine ⟨ok.mod,C.kind,ok.glob,ok.blt,Nat.le_refl _,fun x y c h1 h2=>?_,fun y hy=>?_,fun y c h h2=>?_,ok.hd,ok.frames,.inl rfl,fun b hb=>?_,I.bs,Nat.le_trans ok.bsz I.sz,
   fun b o e hb=>?_,fsub,I.stack,I.stkFree⟩
  ·rcases lkY x c h1 with ⟨a1,a2⟩|⟨a1,a2⟩
   ·rcases lkY y c h2 with ⟨b1,b2⟩|⟨b1,b2⟩
    ·rw [a1,b1]
    ·have:=old y c (lk y c b2)
     rw [a2] at this
     exact absurd this (Nat.not_lt_of_le (Nat.le_succ _))
   ·rcases lkY y c h2 with ⟨b1,b2⟩|⟨b1,b2⟩
    ·have:=old x c (lk x c a2)
     rw [b2] at this
     exact absurd this (Nat.not_lt_of_le (Nat.le_succ _))
    ·exact ok.inj x y c (lk x c a2) (lk y c b2)
  ·rcases oY (env:=X.env) (c:=y0) C.one hy with e|e
   ·subst e
    exact ⟨s.heap.objs.size+1,by show List.lookup y ((y,s.heap.objs.size+1)::cl)=_;rw [List.lookup_cons,beq_self_eq_true]⟩
   ·obtain ⟨c,e',_⟩:=lk2 y e
    exact ⟨c,lkN y c (fun z=>C.ny (by rw [←z];exact e)) e'⟩
  ·rcases lkY y c h2 with ⟨a1,a2⟩|⟨a1,a2⟩
   ·rw [a2];exact Nat.le_succ _
   ·have h:(y == y0)=true:=h
    exact absurd (by simpa using h) a1
  ·obtain ⟨f0,f1,f2,f3,f4,f5⟩:=hf b hb
   refine ⟨Nat.ne_of_lt (hfl b hb),fun x c e=>?_⟩
   rcases lkY x c e with ⟨a1,a2⟩|⟨a1,a2⟩
   ·have:=hfl b hb
    rw [a2]
    intro z
    rw [←z] at this
    exact absurd this (Nat.not_lt_of_le (Nat.le_succ _))
   ·exact f4 x c (lk x c a2)
  ·obtain ⟨f0,f1,f2,f3,f4,f5⟩:=hf b hb
   rcases f3 with z|z
   ·exact ok.noex b o e z
   ·exact absurd (Nat.lt_of_lt_of_le (Heap.lt_size e) (Nat.le_trans ok.bsz z)) (Nat.lt_irrefl _)
 refine ⟨ok',rfl,I.bare,Un.kept hk,⟨m1,hn,fun i y v e1 e2 e3=>?_⟩,fun y c e=>?_,I.hok.fresh (Nat.le_refl _),fun y c e=>?fc,fun p hp=>absurd (show p∈([]:List (Addr × Obj)) from hp) (by simp),I.hok.kept hk,cap.1⟩
 ·obtain ⟨hy,j,e4,e5,e6⟩:=cap.2 i y v e1 e2
  obtain ⟨m,_,hl⟩:=I.loc
  obtain ⟨u,r,l⟩:=hl j y v e4 e5 e6
  refine ⟨u,r,.inr ?_⟩
  rcases l with ⟨k,_⟩|⟨k,c,e,z⟩
  ·rcases hfr y hy with q|q <;> (rw [k] at q;cases q)
  ·obtain ⟨c',e',e''⟩:=lk2 y hy
   rw [e] at e''
   cases e''
   have rl:=lV (env:=X.env) (k:=.free) (C.free (y,.free) hy rfl)
   refine ⟨rl,c,lkN y c (fun z=>C.ny (by rw [←z];exact hy)) e',?_⟩
   obtain ⟨o,ho,hd⟩:=z
   exact ⟨o,hk _ _ ho,hd⟩
 ·rcases lkY y c e with ⟨a1,a2⟩|⟨a1,a2⟩
  ·rw [a2];exact ⟨none,hcl⟩
  ·obtain ⟨v,o,ho,hd⟩:=I.cell y c (lk y c a2)
   exact ⟨v,o,hk _ _ ho,hd⟩
 case fc=>
  rcases lkY y c e with ⟨a1,a2⟩|⟨a1,a2⟩
  ·rw [a2];exact I.hok.fresh (Nat.le_succ _)
  ·exact I.freeC y c (lk y c a2)
theorem aMf {X:Cx} {elt target iter:Expr} {ifs:List Expr} {scope:Scope} {pos:Pos} {N:List Str} {y0:Str} {wi:TI} {g:TG} {tt:TT} {te:TE}
  (C:vR scope N y0) (hfr:∀y,(y,NameKind.free)∈scope.names→X.env.kindOf y=some .cell∨X.env.kindOf y=some .free) (hc:X.calm=true)
  (hi:PI X target iter wi)
  (hb:∀cl s H fp,PG (cxY X N scope y0 cl s H fp) target g∧aKe (cxY X N scope y0 cl s H fp) ifs tt∧PE (cxY X N scope y0 cl s H fp) elt te)
  (hs:∀x,foldedSetIterable iter X.env x=pure x:=by intro _;rfl) :
  PE X (.ListComp elt [⟨target,iter,ifs,0⟩] scope pos) (eX X scope N wi g tt te):=by
 intro pins s σ H Q I hq
 obtain ⟨σ0,cap,hq⟩:=hq
 obtain ⟨cl,hcl,p1,p2⟩:=pQ (scope:=scope) (env:=X.env) (fun y hy hk=>by
  obtain ⟨n,k⟩:=y
  cases hk
  exact I.ok.has n (hfr n hy))
 rw [eval_ListComp]
 refine wpAny_comprehension_free (use:=none) rfl hs hcl C.kind C.names (thn (hi pins s σ H _ I hq) fun xv s1 h1=>thn h1 fun itv s2 h2=>?_)
 obtain ⟨it,fp,tn,J,H2,rfl,I2,T,st2,f2,q2⟩:=h2
 refine wpAny_newObj_type (aOt C fun h₁ hns₁ hcl₁ hkp₁=>?_)
 dsimp only at hns₁ hcl₁ hkp₁ ⊢
 have hD:H2 s2.heap.objs.size=none:=I2.hok.fresh (Nat.le_refl _)
 have I3:Inv X pins σ (upd H2 s2.heap.objs.size (.lst [])) { s2 with heap:=s2.heap.push { cls:=.type "list",dict:=none,data:=.seq ([]:List Value).toArray } }:=
  I2.laid (t':=s2.toks) (fun b u e=>Heap.get?_push_of_some _ e) (Nat.le_refl _) ⟨Nat.zero_le _,[],0,.nil,Heap.get?_push_size _ rfl⟩
 generalize hs3:({ s2 with heap:=s2.heap.push { cls:=.type "list",dict:=none,data:=.seq ([]:List Value).toArray } }:Shared)=s3 at I3
 have hh3:s2.heap.push { cls:=.type "list",dict:=none,data:=.seq ([]:List Value).toArray }=s3.heap:=by rw [←hs3]
 rw [hh3] at hns₁ hcl₁ hkp₁
 have fl2:∀b∈fp,b<s2.heap.objs.size:=fun b hb=>by
  obtain ⟨o,e,_⟩:=T.obj _ _ st2 b hb
  exact Heap.lt_size e
 have fl3:∀b∈fp,b<s3.heap.objs.size:=fun b hb=>by
  rw [←hh3,Heap.size_push]
  exact Nat.lt_succ_of_lt (fl2 b hb)
 have f3:∀b∈fp,FpOk X pins (upd H2 s2.heap.objs.size (.lst [])) b:=fun b hb=>by
  obtain ⟨f0,fr⟩:=f2 b hb
  exact ⟨by rw [upd_ne (Nat.ne_of_lt (fl2 b hb))];exact f0,fr⟩
 have keep3:∀b o,s3.heap.get? b=some o→h₁.get? b=some o:=hkp₁
 have I4:=aKw (tk:=s3.toks) I3 C hfr p1 p2 cap f3 fl3 hns₁ hcl₁ keep3
 have st4:tn 0 h₁:=T.keep _ _ _ st2 fun b hb o e=>keep3 b o (by rw [←hh3];exact Heap.get?_push_of_some _ e)
 obtain ⟨W,⟨m0,w0⟩,turn⟩:=q2 s2.heap.objs.size hD
 have fpc:∀{H':Hp},(∀b∈fp,H' b=none)→∀b∈fp,FpOk (cxY X N scope y0 cl s3 (upd H2 s2.heap.objs.size (.lst [])) fp) [] H' b:=fun {H'} hn b hb=>by
  obtain ⟨e1,e2⟩:=I4.ok.exf b hb
  exact ⟨hn b hb,e1,I4.ok.exfs b hb,.inl hb,e2,fun p hp=>absurd (show p∈([]:List (Addr × Obj)) from hp) (by simp)⟩
 have loop:∀s4:Shared,s4={ s3 with heap:=h₁,toks:=s3.toks } →
   codeAny (model X.prog X.w) X.A (.compLoop (.ListComp elt [⟨target,iter,ifs,0⟩] scope pos) 0 (.ref it) (.ref s2.heap.objs.size) (compEnvC scope ((y0,s3.heap.objs.size+1)::cl) s3.heap.objs.size X.env))
    (compPost (model X.prog X.w) X.A X.xe none (EP X pins σ Q) (.ref s2.heap.objs.size) s3.heap.objs.size) s4:=by
  rintro s4 rfl
  refine tZ (fun n s'=>∃i σ' H' ys,Inv (cxY X N scope y0 cl s3 (upd H2 s2.heap.objs.size (.lst [])) fp) [] σ' H' s'∧tn i s'.heap∧(∀b∈fp,H' b=none)∧W i n σ' H' ys) ?_ m0 ⟨0,σ0,_,[],I4,st4,fun b hb=>(f3 b hb).1,w0⟩
  rintro n s5 ⟨i,σ5,H5,ys,I5,st5,fr5,w5⟩
  obtain ⟨hacc,w5⟩:=turn i n σ5 H5 ys w5
  have noE:∀{α:Type} {t:Sem α} {Q':α→Shared→Prop} {E':Value→Shared→Prop} {s':Shared},wpAny (model X.prog X.w) X.A t Q' (fun _ _=>False) s'→wpAny (model X.prog X.w) X.A t Q' E' s':=fun h=>wpAny_mono h (fun _ _ q=>q) fun _ _ z=>z.elim
  rcases w5 with ⟨stop,qn⟩|⟨go,step⟩
  ·refine noE (thn (T.done (cxY X N scope y0 cl s3 (upd H2 s2.heap.objs.size (.lst [])) fp) rfl rfl rfl hc i [] s5 σ5 H5 _ I5 (fpc fr5) st5 stop) fun r s6 ⟨hr,I6⟩=>?_)
   subst hr
   obtain ⟨m6,hn6,_⟩:=I6.loc
   refine ⟨m6,hn6,fun h' sb=>?_⟩
   have kp:∀b o,b≠s3.heap.objs.size→s6.heap.get? b=some o→h'.get? b=some o:=fun b o hb e=>sb.extBut b o hb e
   have ne3:∀b o,s3.heap.get? b=some o→b≠s3.heap.objs.size:=fun b o e=>Nat.ne_of_lt (Heap.lt_size e)
   have un:Un (frs X.stack) fp (upd H2 s2.heap.objs.size (.lst [])) H5 s3.heap h':=by
    have u:=I6.base
    exact ⟨fun b o e n hb hx=>kp b o (ne3 b o e) (u.keep b o e n hb hx),fun b o e n hb hx=>by
     obtain ⟨sl,e1⟩:=u.slot b o e n hb hx
     exact ⟨sl,kp b _ (ne3 b o e) e1⟩,u.free,fun b o e hx=>by
     obtain ⟨o',e1⟩:=u.there b o e hx
     exact ⟨o',kp b _ (ne3 b o e) e1⟩,u.tups,u.frzs,u.tbls⟩
   have hok:HOk X.prog X.w H5 h':=fun b u e=>by
    refine (I6.hok b u e).stay (fun c v hc' q=>kp c v ?_ q) (fun _ q=>q) fun _ _ q=>q
    have hfree:H5 s3.heap.objs.size=none:=I6.free
    rintro rfl
    rcases hc' with z|z
    ·rw [z] at hfree;rw [hfree] at e;cases e
    ·rw [hfree] at z;cases z
   have I7:Inv X pins σ H5 { s6 with heap:=h' }:=by
    refine I3.call' (s':={ s6 with heap:=h' }) I6.os un hok I6.bare fun b hb=>?_
    obtain ⟨f0,f1,f2',f3',f4,f5⟩:=f3 b hb
    exact ⟨f3',f1,f4,f5⟩
   exact ⟨.ref s2.heap.objs.size,H5,I7,rfl,qn⟩
  ·refine noE (thn (T.item (cxY X N scope y0 cl s3 (upd H2 s2.heap.objs.size (.lst [])) fp) rfl rfl rfl hc i [] s5 σ5 H5 (fun _ _=>False) I5 (fpc fr5) st5 go) fun r s6 ⟨u,hr,h6⟩=>?_)
   subst hr
   refine noE (thn h6 fun _ s7 ⟨x,H7,I7,r7,y7,st7,fr7⟩=>?_)
   obtain ⟨hg,ht,he⟩:=hb cl s3 (upd H2 s2.heap.objs.size (.lst [])) fp
   have I7':=I7.pinned (fpc fr7) (T.obj _ _ st7)
   have back:∀{σ8:St} {H8:Hp} {s8:Shared},Inv (cxY X N scope y0 cl s3 (upd H2 s2.heap.objs.size (.lst [])) fp) ([]++pinsAt fp s7.heap) σ8 H8 s8→tn (i+1) s8.heap∧∀b∈fp,H8 b=none:=fun {σ8 H8 s8} I8=>
    ⟨T.keep _ _ _ st7 fun b hb o e=>(I8.pin (b,o) (List.mem_append_right _ (List.mem_append_right _ (mem_pinsAt hb e)))).1,fun b hb=>by
     obtain ⟨o,e,d⟩:=T.obj _ _ st7 b hb
     exact (I8.pin (b,o) (List.mem_append_right _ (List.mem_append_right _ (mem_pinsAt hb e)))).2.1⟩
   refine noE (thn (hg _ s7 σ5 H7 x u _ I7' r7 (step x H7 y7)) fun _ s8 ⟨σ8,H8,I8,q8⟩=>?_)
   refine noE (thn (ht _ s8 σ8 H8 _ I8 q8) fun b s9 ⟨H9,I9,q9⟩=>?_)
   cases b with
   |false=>
    rw [if_neg Bool.false_ne_true] at q9 ⊢
    obtain ⟨_,m',hm,w9⟩:=q9
    exact ⟨m',hm,i+1,σ8,H9,ys,I9.unpinned,(back I9).1,(back I9).2,w9⟩
   |true=>
    rw [if_pos rfl] at q9 ⊢
    refine noE (thn (he _ s9 σ8 H9 _ I9 q9) fun yv s10 ⟨y,H10,I10,r10,hacc10,hlen,m',hm,w10⟩=>?_)
    refine noE (thn (mt_append _ s10 σ8 H10 (.ref s2.heap.objs.size) [y] (.ref s2.heap.objs.size) [yv] (fun _ H11=>H11=upd H10 s2.heap.objs.size (.lst (ys++[y]))) I10 rfl (.cons r10 .nil) ⟨_,_,_,rfl,rfl,hacc10,hlen,rfl⟩) fun _ s11 ⟨z,H11,I11,_,e11⟩=>?_)
    subst e11
    exact ⟨m',hm,i+1,σ8,_,ys++[y],I11.unpinned,(back I11).1,(back I11).2,w10⟩
 have fin:=codeAny_compStart_list (loop { s3 with heap:=h₁,toks:=s3.toks } rfl) (T.self _ _ _ _ _ st4 (loop { s3 with heap:=h₁,toks:=s3.toks } rfl))
 subst hs3
 exact fin
theorem aFk {X:Cx} {elt target iter:Expr} {ifs:List Expr} {scope:Scope} {pos:Pos} {N:List Str} {y0:Str} {wi:TI} {g:TG} {tt:TT} {te:TE}
  (C:vR scope N y0) (hfr:∀y,(y,NameKind.free)∈scope.names→X.env.kindOf y=some .cell∨X.env.kindOf y=some .free) (hc:X.calm=true)
  (hi:VI X target iter wi)
  (hb:∀cl s H fp,VG (cxY X N scope y0 cl s H fp) target g∧VF (cxY X N scope y0 cl s H fp) ifs tt∧VE (cxY X N scope y0 cl s H fp) elt te)
  (hs:∀x,foldedSetIterable iter X.env x=pure x:=by intro _;rfl) :
  VE X (.ListComp elt [⟨target,iter,ifs,0⟩] scope pos) (eX X scope N wi g tt te):=
 ⟨aMf C hfr hc hi.1 (fun cl s H fp=>⟨(hb cl s H fp).1.1,(hb cl s H fp).2.1.1,(hb cl s H fp).2.2.1⟩) hs⟩
def aQm (M:List Str) (sc scope:Scope) (N:List Str) (σ σ':St):Prop:=
 σ'.length=N.length∧∀(i:Nat) (y:Str) (v:V),N[i]?=some y→σ'[i]?=some (some v)→(y,NameKind.free)∈scope.names∧∃j:Nat,M[j]?=some y∧σ[j]?=some (some v)∧Vis sc y
def aMk (M:List Str) (sc scope:Scope) (N:List Str) (wi:TI) (g:TG) (tt:TT) (te:TE):TE:=fun σ H Q=>∃σ0,aQm M sc scope N σ σ0∧wi σ H fun J H1=>∀D,H1 D=none→∃W:Nat→Nat→St→Hp→List V→Prop,(∃m,W 0 m σ0 (upd H1 D (.lst [])) []) ∧
 ∀i m σ' H' ys,W i m σ' H' ys→H' D=some (.lst ys)∧((J.stop i H'∧Q (.ref D) H')∨(J.go i H'∧∀x H2,J.yld i H' x H2→g x σ' H2 fun σ3 H3=>tt σ3 H3 fun b H4=>
  if b=true then te σ3 H4 fun y H5=>H5 D=some (.lst ys)∧ys.length<sizeLine∧∃m',m'<m∧W (i+1) m' σ3 (upd H5 D (.lst (ys++[y]))) (ys++[y]) else H4 D=some (.lst ys)∧∃m',m'<m∧W (i+1) m' σ3 H4 ys))
theorem aFc {X:Cx} {M:List Str} {sc:Scope} {elt target iter:Expr} {ifs:List Expr} {scope:Scope} {pos:Pos} {N:List Str} {wi:TI} {g:TG} {tt:TT} {te:TE} (hM:X.N=M) (hS:X.env.scope=sc)
  (C:uJ scope N) (hfr:∀y,(y,NameKind.free)∈scope.names→X.env.kindOf y=some .cell∨X.env.kindOf y=some .free) (hc:X.calm=true)
  (hi:VI X target iter wi)
  (hb:∀cl s H fp,VG (cxC X N scope cl s H fp) target g∧VF (cxC X N scope cl s H fp) ifs tt∧VE (cxC X N scope cl s H fp) elt te)
  (hs:∀x,foldedSetIterable iter X.env x=pure x:=by intro _;rfl) :
  VE X (.ListComp elt [⟨target,iter,ifs,0⟩] scope pos) (aMk M sc scope N wi g tt te):=by
 subst hM hS
 exact bM C hfr hc hi hb hs
variable {X:Cx}
def aSs (K:PySem.W.Frag):R2:=fun x y H Q=>∃a b xs,x=.ref a∧y=.ref b∧SqT K H a xs∧SqT K H b []∧Q (.bl xs.isEmpty) H
theorem aNo {X:Cx} (hu:X.A.units<cLine):OpR X (compareOp .Eq) (aSs X.K):=by
 intro pins s σ H x y v u Q I rx ry h
 obtain ⟨a,b,xs,rfl,rfl,ha,hb,q⟩:=h
 cases rx
 cases ry
 obtain ⟨its,r1,pl,hz⟩:=I.tuple ha
 obtain ⟨jts,r2,pm,hw⟩:=I.tuple hb
 have e1:=r1.length
 have e2:=r2.length
 cases jts with
 |cons _ _=>cases e2
 |nil=>
  refine SeqAt.RcAt.tuples (e:=fun _=>true) (show s.heap.IsTuple a its.toArray from pl) (show s.heap.IsTuple b ([]:List Value).toArray from pm) hu (fun j h1 h2=>by simp at h2) _ _ _ _ ?_
  rw [kI]
  have z2:(its.toArray.size == ([]:List Value).toArray.size)=xs.isEmpty:=by
   cases xs with
   |nil=>cases its with
    |nil=>rfl
    |cons _ _=>cases e1
   |cons _ _=>cases its with
    |nil=>cases e1
    |cons _ _=>rfl
  rw [z2]
  exact ⟨.bl _,H,I,rfl,q⟩
end L2
namespace PySem
open PySem.Spec
section
variable {prog:Program} {w:World} {A:Around} {R:Result→Shared→Prop} {s:Shared} {l:Addr} {items:Array Value} {n:Nat} {dd:Option Addr} {sl:Array (Option Value)} {x:Value} {j:Nat}
end
end PySem
namespace L2
open PySem PySem.Spec PyProof.Rows
end L2
namespace PySem
open PySem.Spec
section
variable {prog:Program} {w:World} {κ:Type} [DecidableEq κ] {knd:KeyKind prog w κ}
end
end PySem
namespace L2
open PySem PySem.Spec PyProof.Rows
section
variable {X:Cx} {i o:Expr} {ty td:TE} {apos cpos:Pos}
end
end L2
namespace PySem
namespace RvF
theorem aGo:typeLookup (.type "tuple") "__reversed__"=pure none:=by rw [typeLookup_type,builtinLookup_eq_fast];kernel_rfl
theorem aCt:isSubtype (.type "tuple") (.type "dict")=pure false:=by rw [isSubtype_type];kernel_rfl
end RvF
def rvT (u:Addr) (i:Int):Obj:={ cls:=.type "reversed",data:=.fields #[.ref u,rawInt i] }
theorem aSo {prog:Program} {w:World} {A:Around} {E:Value→Shared→Prop} {s:Shared} {u:Addr} {items:Array Value} {Q:Value→Shared→Prop} (ht:s.heap.IsTuple u items) (hfit:(items.size:Int)<2 ^ 63) (h:Q (.int items.size (s.toks+1)) { s with toks:=s.toks+1+1 }) :
  wpAny (model prog w) A (call (.builtin "len") [.ref u]) Q E s:=PyProof.Rows.len_tuple ht hfit h
theorem yJ (u:Addr) (items:Array Value) (hfit:(items.size:Int)<2 ^ 63) :
  Meets (Builtin.«reversed.__new__» ⟨[.type "reversed",.ref u],[]⟩) (fun _ R s=>s.heap.IsTuple u items ∧
   ∀tk,R (.ok (.ret (.ref s.heap.objs.size))) { s with heap:=s.heap.push (rvT u ((items.size:Int) - 1)),toks:=tk }):=
 .of_wp fun prog w A R s ⟨ht,h⟩=>by
  obtain ⟨hp,g,d,tk,os⟩:=s
  have f1:=RvF.aGo
  have f2:=RvF.aCt
  have f3:=F.slot_tuple_getitem.lookup
  have hT:(⟨hp,g,d,tk,os⟩:Shared).TypeIs (.ref u) "tuple":=PyProof.Rows.IsTup.typeIs ht
  unfold Builtin.«reversed.__new__»
  refine wpAny_bind (wpAny_of_eq (aF5 _) ?_)
  wp_walk using aSo ht hfit
  exact ⟨_,rfl,h _⟩
section
variable {prog:Program} {w:World} {A:Around} {E:Value→Shared→Prop} {s:Shared}
theorem rG {u:Addr} {items:Array Value} {Q:Value→Shared→Prop} (ht:s.heap.IsTuple u items) (hfit:(items.size:Int)<2 ^ 63)
  (h:∀tk,Q (.ref s.heap.objs.size) { s with heap:=s.heap.push (rvT u ((items.size:Int) - 1)),toks:=tk }):wpAny (model prog w) A (call (.type "reversed") [.ref u]) Q E s:=by
 refine callType_new RvF.called (by decide) (RvF.aGm _) (RvF.aJy _) (fun obj=>F.args_object_init_2 obj _) RvF.aKc (yJ u items hfit) ?_
 refine ⟨ht,fun tk=>?_⟩
 exact ⟨⟨_,Heap.get?_push_size _ rfl,rfl⟩,h tk⟩
theorem xN {it u:Addr} {i:Int} {Q:Value→Shared→Prop} (hit:s.heap.get? it=some (rvT u i)) (h:Q (.ref it) s):wpAny (model prog w) A (pyIter (.ref it)) Q E s:=by
 have hT:s.TypeIs (.ref it) "reversed":=⟨_,hit,rfl⟩
 refine wpAny_pyIter_slot hT RvF.aAj (wpAny_call_entry RvF.aAj hT RvF.aHh ?_ (RvF.aDk _))
 show wpAny _ _ (ret (.ref it)) _ _ s
 exact wpAny_pure ⟨_,rfl,"reversed",_,hT,RvF.slot_next.lookup,h⟩
theorem aSu {hp:Heap} {g:Array GenState} {d:Drawn} {tk:Nat} {os:_} {u:Addr} {items:Array Value} {k:Int} {t:Tok} {j:Nat} {x:Value} {Q:Value→Shared→Prop} (ht:hp.IsTuple u items)
  (hlo:-(2 ^ 63)≤k) (hhi:k<2 ^ 63) (hj:seqIndex? k items.size=some j) (hx:items[j]?=some x) (h:Q x ⟨hp,g,d,tk,os⟩):wpAny (model prog w) A (getItem (.ref u) (.int k t)) Q E ⟨hp,g,d,tk,os⟩:=PyProof.Rows.getItem_tuple (s:=⟨hp,g,d,tk,os⟩) ht hlo hhi hj hx h
theorem vB {it u:Addr} {i:Nat} {items:Array Value} {y:Value} {Q:Option Value→Shared→Prop} (hit:s.heap.get? it=some (rvT u (i:Int))) (ht:s.heap.IsTuple u items) (hx:items[i]?=some y) (hfit:items.size≤sizeLine)
  (hQ:∀h' tk,h'.get? it=some (rvT u ((i:Int) - 1))→Heap.SameBut it s.heap h'→Q (some y) { s with heap:=h',toks:=tk }):wpAny (model prog w) A (pyNext (.ref it)) Q E s:=by
 have hT0:s.TypeIs (.ref it) "reversed":=⟨_,hit,rfl⟩
 obtain ⟨hp,g,d,tk,os⟩:=s
 have hi:i<items.size:=(Array.getElem?_eq_some_iff.mp hx).1
 have hz:sizeLine<2 ^ 62:=by decide
 have f3:=F.slot_tuple_getitem.lookup
 have hT:(⟨hp,g,d,tk,os⟩:Shared).TypeIs (.ref u) "tuple":=PyProof.Rows.IsTup.typeIs ht
 have ho:hp.get? it=some { cls:=.type "reversed",data:=.fields #[.ref u,rawInt (i:Int)] }:=hit
 unfold pyNext
 refine wpAny_bind (wpAny_attempt (wpAny_callSpecial?_slot (name:=Str.ofString "__next__") hT0 RvF.slot_next
  (wpAny_call_entry RvF.slot_next hT0 RvF.entry_next ?_ (RvF.uY _))))
 unfold Builtin.«reversed.__next__»
 refine wpAny_bind (wpAny_of_eq (a:=(Value.ref it,[])) rfl ?_)
 try dsimp only
 refine wpAny_bind (wpAny_field ho rfl (x:=.ref u) rfl ?_)
 refine wpAny_bind (wpAny_field ho rfl (x:=rawInt (i:Int)) rfl ?_)
 show wpAny _ _ (if (i:Int)<0 then _ else _) _ _ _
 rw [if_neg (by omega)]
 have hj:seqIndex? (i:Int) items.size=some i:=by
  unfold seqIndex?
  have h1:¬ ((i:Int)<0):=by omega
  simp [h1,hi]
 wp_walk using aSu ht (by omega) (by omega) hj hx
 refine ⟨_,rfl,wpAny_pure (hQ _ _ ?_ (Heap.SameBut.update ..))⟩
 exact Heap.get?_update_self _ ho rfl
theorem wM {it u:Addr} {Q:Option Value→Shared→Prop} (hh:A.handled=none) (hit:s.heap.get? it=some (rvT u (-1)))
  (hQ:∀h',Heap.ExtBut it s.heap h'→Q none { s with heap:=h' }):wpAny (model prog w) A (pyNext (.ref it)) Q E s:=by
 have ho:s.heap.get? it=some { cls:=.type "reversed",data:=.fields #[.ref u,rawInt (-1)] }:=hit
 unfold pyNext
 refine wpAny_bind (wpAny_attempt (wpAny_callSpecial?_slot (name:=Str.ofString "__next__") (⟨_,hit,rfl⟩:s.TypeIs (.ref it) "reversed") RvF.slot_next
  (wpAny_call_entry RvF.slot_next (⟨_,hit,rfl⟩:s.TypeIs (.ref it) "reversed") RvF.entry_next ?_ (RvF.uY _))))
 unfold Builtin.«reversed.__next__»
 refine wpAny_bind (wpAny_of_eq (a:=(Value.ref it,[])) rfl ?_)
 try dsimp only
 refine wpAny_bind (wpAny_field ho rfl (x:=.ref u) rfl ?_)
 refine wpAny_bind (wpAny_field ho rfl (x:=rawInt (-1)) rfl ?_)
 show wpAny _ _ (if (-1:Int)<0 then _ else _) _ _ _
 rw [if_pos (by decide)]
 refine wpAny_bind (wpAny_rule ?_)
 refine wpAny_bind ?_
 refine wpAny_bind (wpAny_setField ho rfl (by simp) ?_)
 have ho2:(s.heap.update it (Obj.mapFields (·.setIfInBounds 1 (rawInt (-1))))).get? it=some { cls:=.type "reversed",data:=.fields #[.ref u,rawInt (-1)] }:=Heap.get?_update_self _ ho rfl
 refine wpAny_setField (s:={ s with heap:=s.heap.update it (Obj.mapFields (·.setIfInBounds 1 (rawInt (-1)))) }) ho2 rfl (by simp) ?_
 first
 |show wpAny _ _ (newExc (.type "StopIteration") [] >>= _) _ _ _
 |(refine wpAny_bind ?_;show wpAny _ _ (newExc (.type "StopIteration") [] >>= _) _ _ _)
 refine wpAny_bind ?_
 simp only [newExc,newTuple]
 refine wpAny_bind (wpAny_newObj_type ?_ (by size_fits))
 refine wpAny_bind (m:=firstArgMember _ _) (wpAny_of_eq (a:=Value.none) (by first|rfl|(simp only [firstArgMember];rfl)) ?_)
 refine wpAny_newObj_type ?_ (by size_fits)
 simp only [raiseNew]
 refine wpAny_bind (wpAny_handled ?_)
 first|rw [show A.in1.handled=none from hh]|rw [hh]
 refine wpAny_bind (wpAny_pure (wpAny_throw ?_))
 refine wpAny_bind (wpAny_isInstance (T:="StopIteration") (b:=true) ⟨_,Heap.get?_push_size _ rfl,rfl⟩ isSubtype_stop ?_)
 exact wpAny_pure (hQ _ ((((Heap.SameBut.update ..).trans (Heap.SameBut.update ..)).extBut.push _).push _))
end
end PySem
namespace L2
open PySem PySem.Spec PyProof.Rows
def Itu (K:PySem.W.Frag) (a:Addr) (n:Nat):It:=
 ⟨fun i H=>∃xs x,SqT K H a xs∧xs.length=n∧i<n∧xs[n - 1 - i]?=some x,fun i H x H'=>H'=H∧∀xs,SqT K H a xs→xs[n - 1 - i]?=some x,fun i _=>i=n⟩
theorem aNk {P:Program} {w:World} {K:PySem.W.Frag} {tg:Expr} (a it:Addr) (n:Nat):Turn P w K tg (Itu K a n) [it] it (fun i h=>h.get? it=some (rvT a ((n:Int) - 1 - (i:Int)))) where
 mem:=by simp
 obj:=fun i h st b hb=>by
  have e:b=it:=by simpa using hb
  subst e
  exact ⟨_,st,fun v z=>by
   have z':Data.fields _=Data.cell v:=z
   cases z'⟩
 keep:=fun i h h' st k=>k it (by simp) _ st
 item:=by
  intro X hP hw hK hc i pins s σ H E I hf st hg
  subst hP hw hK
  obtain ⟨xs,x,hq,hl,hi,hx⟩:=hg
  obtain ⟨its,rv,p,hz⟩:=I.tuple hq
  obtain ⟨u,hu,ru⟩:=rv.get hx
  obtain ⟨f0,f1,f2,f3,f4,f5⟩:=hf it (by simp)
  have lr:=rv.length
  have e:(n:Int) - 1 - (i:Int)=((n - 1 - i:Nat):Int):=by omega
  rw [e] at st
  refine vB st (show s.heap.IsTuple a its.toArray from p) (y:=u) (by simpa using hu) (by rw [List.size_toArray];omega) fun h' tk st' sb=>?_
  have e2:((n - 1 - i:Nat):Int) - 1=(n:Int) - 1 - ((i+1:Nat):Int):=by omega
  rw [e2] at st'
  have I1:Inv X pins σ H { s with heap:=h',toks:=tk }:=I.turned (fun b o hb e=>(sb.2 b hb).trans e) f0 f1 f3 f4 f5
  exact ⟨_,rfl,go_of (s:={ s with heap:=h',toks:=tk }) (n:="reversed") st' rfl rfl (by decide) ⟨x,H,I1,ru,⟨rfl,fun ys hy=>by rw [I.tuple_inj hy hq];exact hx⟩,st',fun b hb=>(hf b hb).1⟩⟩
 done:=by
  intro X hP hw hK hc i pins s σ H E I hf st hg
  subst hP hw hK
  obtain ⟨f0,f1,f2,f3,f4,f5⟩:=hf it (by simp)
  have hi:i=n:=hg
  rw [hi,show (n:Int) - 1 - (n:Int)=-1 by omega] at st
  exact wM (I.ok.hd hc) st fun h' eb=>⟨rfl,I.turned (t':=s.toks) (fun b o hb e=>eb b o hb e) f0 f1 f3 f4 f5⟩
 self:=fun _ _ _ _ _ st h=>xN st h
section
variable {X:Cx} {tg:Expr}
def aRg (K:PySem.W.Frag) (ta:TA):TI:=fun σ H R=>ta σ H fun vs H1=>∃a xs,vs=[.ref a]∧SqT K H1 a xs∧R (Itu K a xs.length) H1
theorem aOi {a:Expr} {ta:TA} {p pos:Pos} (hg:Gl X "reversed") (hm:X.mg "reversed"=none) (ha:VA X [a] ta) (hp:eZ a=true:=by rfl):VI X tg (.Call (.Name "reversed" p) [a] [] pos) (aRg X.K ta):=⟨by
 intro pins s σ H R I h
 refine Call_ (ld_blt I hg hm aFy (PyProof.Rows.callWith_type1 (thn (ha.1 pos pins s σ H _ I h) fun us s1 ⟨vs,H1,I1,r1,q1⟩=>?_) (bI (es:=[]) hp) rfl))
 obtain ⟨z,xs,e,hz,q⟩:=q1
 subst e
 cases r1 with
 |cons r rr=>
  cases rr
  cases r
  obtain ⟨its,rv,pt,hsz⟩:=I1.tuple hz
  have lr:=rv.length
  have h63:=line63
  refine rG (show s1.heap.IsTuple z its.toArray from pt) (by rw [List.size_toArray];omega) fun tk=>?_
  have I2:Inv X pins σ H1 { s1 with heap:=s1.heap.push (rvT z ((its.toArray.size:Int) - 1)),toks:=tk }:=I1.kept fun b o e=>Heap.get?_push_of_some _ e
  refine xN (s:={ s1 with heap:=s1.heap.push (rvT z ((its.toArray.size:Int) - 1)),toks:=tk }) (Heap.get?_push_size _ rfl) ?_
  refine ⟨s1.heap.objs.size,[s1.heap.objs.size],_,_,H1,rfl,I2,aNk z _ xs.length,?_,fun b hb=>?_,q⟩
  ·show (s1.heap.push (rvT z ((its.toArray.size:Int) - 1))).get? s1.heap.objs.size=some (rvT z ((xs.length:Int) - 1 - ((0:Nat):Int)))
   rw [show (xs.length:Int) - 1 - ((0:Nat):Int)=(its.toArray.size:Int) - 1 by rw [List.size_toArray];omega]
   exact Heap.get?_push_size _ rfl
  ·have e:b=s1.heap.objs.size:=by simpa using hb
   subst e
   exact I1.fpOk (Nat.le_refl _) (I1.hok.fresh (Nat.le_refl _))⟩
end
theorem aMq {K:PySem.W.Frag} {a:Addr} {xs:List V} {g:TG} {tb:TS} {D:Ends} {σ:L2.St} {H:Hp} (Pv:Nat→L2.St→Hp→Prop) (h0:Pv 0 σ H) (hl:∀i σ H,i≤xs.length→Pv i σ H→SqT K H a xs)
  (hs:∀i x σ H,i<xs.length→xs[xs.length - 1 - i]?=some x→Pv i σ H→g x σ H fun σ2 H2=>tb { D with nx:=Pv (i+1),ct:=Pv (i+1),bk:=D.nx } σ2 H2) (hd:∀σ H,Pv xs.length σ H→D.nx σ H) :
  ∃W:Nat→Nat→L2.St→Hp→Prop,(∃m,W 0 m σ H)∧∀i m σ H,W i m σ H →
   ((Itu K a xs.length).stop i H∧D.nx σ H)∨((Itu K a xs.length).go i H∧∃N:L2.St→Hp→Prop,(∀σ' H',N σ' H'→∃m',m'<m∧W (i+1) m' σ' H')∧∀x H',(Itu K a xs.length).yld i H x H'→g x σ H' fun σ2 H2=>tb { D with nx:=N,ct:=N,bk:=D.nx } σ2 H2):=by
 refine ⟨fun i m σ H=>m=xs.length - i∧i≤xs.length∧Pv i σ H,⟨xs.length,by simp,Nat.zero_le _,h0⟩,?_⟩
 rintro i m σ H ⟨rfl,hi,p⟩
 have q:=hl i σ H hi p
 by_cases hlt:i<xs.length
 ·right
  have hx:xs[xs.length - 1 - i]?=some (xs[xs.length - 1 - i]'(by omega)):=List.getElem?_eq_getElem (by omega)
  refine ⟨⟨xs,_,q,rfl,hlt,hx⟩,Pv (i+1),fun σ' H' h=>⟨xs.length - (i+1),by omega,rfl,by omega,h⟩,?_⟩
  rintro x H' ⟨rfl,hy⟩
  exact hs i x σ H' hlt (hy xs q) p
 ·left
  have e:i=xs.length:=by omega
  subst e
  exact ⟨rfl,hd σ H p⟩
section
variable {X:Cx} {scope:Scope} {N:List Str} {wi:TI} {te:TE} {σ:L2.St} {H:Hp} {Q:VK}
theorem aK9 {tt:TT} (xs:List V) (p:Nat→Bool) (σ0:L2.St) (cap:Cap X scope N σ σ0) (hsz:xs.length≤sizeLine)
  (hw:∀R:It→Hp→Prop,(∀J:It,(∀H' i x,Same H H'→xs[i]?=some x→J.go i H'∧∀y H2,J.yld i H' y H2→H2=H'∧y=x)→(∀H',Same H H'→J.stop xs.length H')→R J H)→wi σ H R)
  (ht:∀(i:Nat) (x:V),xs[i]?=some x→∀H' R l,Same H H'→(∀H2,Same H' H2→R (p i) H2)→tt ((σ0.set 0 l).set 0 (some x)) H' R) (h0:σ0[0]?=some none)
  (q:∀D H',H D=none→Same H H'→H' D=some (.lst (sel p 0 xs))→Q (.ref D) H') :
  eX X scope N wi (gName 0) tt (tVar 0) σ H Q:=by
 refine ⟨σ0,cap,hw _ fun J go stop D hD=>?_⟩
 refine ⟨fun i m σ' H' ys=>i≤xs.length∧m=xs.length - i∧(∃l,σ'=σ0.set 0 l)∧Same H H'∧H' D=some (.lst ys)∧ys=sel p 0 (xs.take i),⟨xs.length,Nat.zero_le _,rfl,⟨none,cU h0⟩,aW hD _,upd_same,rfl⟩,?_⟩
 rintro i m σ' H' ys ⟨hi,rfl,⟨l,rfl⟩,sm,hL,rfl⟩
 refine ⟨hL,?_⟩
 by_cases hlt:i<xs.length
 ·right
  obtain ⟨g1,g2⟩:=go H' i xs[i] sm (List.getElem?_eq_getElem hlt)
  refine ⟨g1,fun x H2 hy=>?_⟩
  obtain ⟨rfl,rfl⟩:=g2 x H2 hy
  unfold gName
  dsimp only
  have hj:0<σ0.length:=by
   by_cases z:0<σ0.length
   ·exact z
   ·rw [List.getElem?_eq_none (by omega)] at h0;cases h0
  have tk:sel p 0 (xs.take (i+1))=sel p 0 (xs.take i)++(if p i then [xs[i]] else []):=by
   rw [List.take_add_one,List.getElem?_eq_getElem hlt]
   show sel p 0 (xs.take i++[xs[i]])=_
   rw [qX,List.length_take,Nat.zero_add,Nat.min_eq_left (Nat.le_of_lt hlt)]
  refine ht i xs[i] (List.getElem?_eq_getElem hlt) _ _ l sm fun H3 s3=>?_
  cases hp:p i with
  |true=>
   rw [if_pos rfl]
   refine ⟨xs[i],by rw [List.set_set,List.getElem?_set_self hj],s3 _ _ hL,?_,xs.length - (i+1),by omega,hlt,rfl,⟨some xs[i],by rw [List.set_set]⟩,?_,upd_same,?_⟩
   ·have:=qU p 0 (xs.take i)
    rw [List.length_take] at this
    omega
   ·intro b o e
    rw [upd_ne (ne_of_none e hD)]
    exact s3 _ _ (sm _ _ e)
   ·rw [tk,hp];rfl
  |false=>
   rw [if_neg (by simp)]
   refine ⟨s3 _ _ hL,xs.length - (i+1),by omega,hlt,rfl,⟨some xs[i],by rw [List.set_set]⟩,sm.trans s3,s3 _ _ hL,?_⟩
   rw [tk,hp]
   simp
 ·left
  have e:i=xs.length:=by omega
  subst e
  refine ⟨stop _ sm,?_⟩
  rw [List.take_length] at hL
  exact q D _ hD sm hL
end
end L2
namespace My
open PySem PySem.Spec PyProof.Rows L2
section
variable {P:Program} {w:World} {K:PySem.W.Frag} {mg:Str→Option Value} {base:Heap}
def plc:Hdr→Str→Nat
 |[],_=>0
 |c::r,n=>if c.1=n then 0 else plc r n+1
theorem eG {n k:Str}:∀{hd:Hdr},look hd n=some k→hd[plc hd n]?=some (n,k)∧∀(j:Nat) (c:Str × Str),j<plc hd n→hd[j]?=some c→c.1≠n
 |[],h=>by cases h
 |(m,q)::r,h=>by
  unfold look at h
  rw [List.find?_cons] at h
  by_cases e:m=n
  ·rw [decide_eq_true (p:=(m,q).1=n) e] at h
   have h':q=k:=Option.some.inj h
   subst e h'
   have z:plc ((m,q)::r) m=0:=if_pos rfl
   rw [z]
   exact ⟨rfl,fun j c hj=>absurd hj (Nat.not_lt_zero _)⟩
  ·rw [decide_eq_false (p:=(m,q).1=n) e] at h
   obtain ⟨h1,h2⟩:=eG (hd:=r) h
   have z:plc ((m,q)::r) n=plc r n+1:=if_neg e
   rw [z]
   refine ⟨by simpa using h1,fun j c hj hc=>?_⟩
   cases j with
   |zero=>cases hc;exact e
   |succ j=>exact h2 j c (by omega) (by simpa using hc)
def jB (K:PySem.W.Frag):Sp:=fun vs H Q _=>∃vh n hd k,vs=[vh,.str n]∧cM K H vh hd∧hd.length≤1000∧look hd n=some k∧∀H',Same H H'→Q (.int (plc hd n:Nat)) H'
theorem aD9 (T:Txt w K mg) (lA:Ok P w K mg base 1 "names_of" ["head"] (aGp K)):Ok P w K mg base 2 "place_of" ["head","name"] (jB K):=by
 refine Ok.ofV T.aIf aFm (fun vs H Q E h=>?_) (fun f cdv A outer s H vs Q E hr h=>?_)
 ·obtain ⟨vh,n,hd,k,rfl,_⟩:=h;rfl
 obtain ⟨vh,n,hd,k,rfl,hI,hl,hk,q⟩:=h
 obtain ⟨h1,h2⟩:=eG hk
 refine ⟨_,(aF (aG (jZ PySem.F.plainAttrs_list PySem.F.slot_list_index PySem.F.type_list_index zN (aH (lA.mono (by decide)) hr (by rfl) (aB (vv 0) aA)) (aB (vv 1) aA)))),?_⟩
 refine ⟨_,rfl,vh,hd,rfl,hI,hl,fun D H1 s1 g1=>?_⟩
 refine ⟨.inl ⟨rfl,_,SqL.of g1⟩,_,rfl,D,hd.map (·.1),n,plc hd n,rfl,rfl,SqL.of g1,by rw [List.length_map];exact hl,by rw [List.getElem?_map,h1];rfl,fun j m hj hm=>?_,q H1 s1⟩
 rw [List.getElem?_map] at hm
 obtain ⟨c,hc,rfl⟩:=Option.map_eq_some_iff.mp hm
 exact h2 j c hj hc
def tD (K:PySem.W.Frag):Sp:=fun vs H Q _=>∃(vh:V) (hd:Hdr) (t:Addr) (ns ks:List Str),vs=[vh,.ref t]∧cM K H vh hd∧hd.length≤1000∧SqT K H t (ns.map V.str)∧ns.length≤1000∧Looks hd ns ks∧∀D H',Same H H'→H' D=some (.lst (ns.map fun n=>.int (plc hd n:Nat)))→Q (.ref D) H'
theorem aB7 (T:Txt w K mg) (dJ:Ok P w K mg base 2 "place_of" ["head","name"] (jB K)):Ok P w K mg base 3 "places_of" ["head","names"] (tD K):=by
 refine Ok.ofV T.aDq aCq (fun vs H Q E h=>?_) (fun f cdv A outer s H vs Q E hr h=>?_)
 ·obtain ⟨vh,hd,t,ns,ks,rfl,_⟩:=h;rfl
 obtain ⟨vh,hd,t,ns,ks,rfl,hI,hl,ht,hn,hk,q⟩:=h
 refine ⟨_,(aF (aG (bM (N:=["name","head"]) (by trivial) (bT (defScope jK) rfl (by decide +kernel)) rfl (cY (vv 1)) (fun cl s' H' fp=>⟨(aK (i:=0) (show (["name","head"]:List Str).Nodup from by decide +kernel) rfl (Or.inl rfl)),bJ,(aH (dJ.mono (by decide)) hr (by rfl) (aB (vv 1) (aB (vv 0) aA)))⟩)))),?_⟩
 refine cX (ns.map V.str) (ns.map fun n=>.int (plc hd n:Nat)) (by rw [List.length_map,List.length_map]) [none,some vh] (bU 0 (by decide +kernel) rfl rfl (by trivial)) (small (by rw [List.length_map];exact hn)) (fun R r=>gP ht (fun R' r'=>⟨_,rfl,r'⟩) R r) (fun i x y ex ey H' R l sm r=>?_) rfl fun D H' sm hD=>q D H' sm hD
 rw [List.getElem?_map] at ex ey
 obtain ⟨n,en,rfl⟩:=Option.map_eq_some_iff.mp ex
 rw [en] at ey
 cases ey
 obtain ⟨k,ek,lk⟩:=aV hk en
 exact ⟨_,rfl,_,rfl,vh,n,hd,k,rfl,hI.same sm,hl,lk,fun H2 s2=>r H2 s2⟩
def fY (is:List Nat) (r:List V):List V:=is.map fun i=>r.getD i .non
def uM (K:PySem.W.Frag):Sp:=fun vs H Q _=>∃(vr:V) (D:Addr) (r:List V) (is:List Nat),vs=[vr,.ref D]∧jG K H vr r∧SqL K H D (is.map fun i=>V.int (i:Nat))∧is.length≤1000∧(∀i∈is,i<r.length)∧∀t H',Same H H'→H' t=some (.tup (fY is r))→Q (.ref t) H'
theorem aKx (T:Txt w K mg):Ok P w K mg base 1 "picked" ["row","places"] (uM K):=by
 refine Ok.ofV T.aLz aJ5 (fun vs H Q E h=>?_) (fun f cdv A outer s H vs Q E hr h=>?_)
 ·obtain ⟨vr,D,r,is,rfl,_⟩:=h;rfl
 obtain ⟨vr,D,r,is,rfl,⟨a,rfl,ha⟩,hD,hl,hi,q⟩:=h
 refine ⟨_,(aF (aG (bD bN (by rfl) T.bV bL (aB (bM (N:=["place","row"]) (by trivial) (bT (defScope qO) rfl (by decide +kernel)) rfl (cN (vv 1)) (fun cl s' H' fp=>⟨(aK (i:=0) (show (["place","row"]:List Str).Nodup from by decide +kernel) rfl (Or.inl rfl)),bJ,(aJ (cT (K:=K)) (vv 1) (vv 0) (fun _ _=>rfl))⟩)) aA)))),?_⟩
 dsimp only [tRet,tCB,tCons]
 refine cX (is.map fun i=>V.int (i:Nat)) (fY is r) (by unfold fY;rw [List.length_map,List.length_map]) [none,some (.ref a)] (bU 0 (by decide +kernel) rfl rfl (by trivial)) (small (by rw [List.length_map];exact hl)) (fun R r=>jH (fun H' sm=>sm.seq hD) (fun R' r'=>⟨_,rfl,r'⟩) R r) (fun i x y ex ey H' R l sm rr=>?_) rfl fun D2 H2 s2 g2=>?_
 ·unfold fY at ey
  rw [List.getElem?_map] at ex ey
  obtain ⟨n,en,rfl⟩:=Option.map_eq_some_iff.mp ex
  rw [en] at ey
  cases ey
  have hn:=hi n (List.mem_of_getElem? en)
  refine ⟨_,rfl,_,rfl,a,r,_,_,rfl,rfl,sm.aN ha,?_,rr H' (Same.refl _)⟩
  have e:r.getD n .non=r[n]:=by simp [hn]
  show atI r ((n:Nat):Int)=some (r.getD n .non)
  rw [e]
  exact atI_nat (List.getElem?_eq_getElem hn)
 ·exact ⟨D2,_,rfl,SqL.of g2,fun t H3 _ s3 g3=>q t H3 (s2.trans s3) g3⟩
def vlt:V→V→Bool
 |.int a,.int b=>decide (a<b)
 |.str a,.str b=>decide (a.cps.toList<b.cps.toList)
 |_,_=>false
def aR7 (sg:Str) (x y:V):Bool:=if sg = "=" then decide (x=y) else if sg = "!" then !decide (x=y) else if sg = "<" then vlt x y else vlt y x
def Alike (x y:V):Prop:=(∃a b,x=.int a∧y=.int b)∨∃a b,x=.str a∧y=.str b
theorem Alike.scal {x y:V} (h:Alike x y):scal x y=true:=by
 rcases h with ⟨a,b,rfl,rfl⟩|⟨a,b,rfl,rfl⟩ <;> rfl
theorem Alike.lt {x y:V} {H:Hp} {Q:VK} (h:Alike x y) (q:Q (.bl (vlt x y)) H):aRw x y H Q:=by
 rcases h with ⟨a,b,rfl,rfl⟩|⟨a,b,rfl,rfl⟩
 ·exact .inl ⟨a,b,rfl,rfl,q⟩
 ·exact .inr ⟨a,b,rfl,rfl,q⟩
theorem Alike.gt {x y:V} {H:Hp} {Q:VK} (h:Alike x y) (q:Q (.bl (vlt y x)) H):aSa x y H Q:=by
 rcases h with ⟨a,b,rfl,rfl⟩|⟨a,b,rfl,rfl⟩
 ·exact .inl ⟨a,b,rfl,rfl,q⟩
 ·exact .inr ⟨a,b,rfl,rfl,q⟩
def aG9:Sp:=fun vs H Q _=>∃x sg y,vs=[x,.str sg,y]∧Alike x y∧aQ7 sg∧Q (.bl (aR7 sg x y)) H
theorem aDi (T:Txt w K mg):Ok P w K mg base 1 "compares" ["value","sign","other"] aG9:=by
 refine Ok.ofV T.aHs aGc (fun vs H Q E h=>?_) (fun f cdv A outer s H vs Q E hr h=>?_)
 ·obtain ⟨x,sg,y,rfl,_⟩:=h;rfl
 obtain ⟨x,sg,y,rfl,ha,hs,q⟩:=h
 refine ⟨_,(aC (bA (aM op_eq (vv 1) aO (nomark _)) (aF (aG (dD op_eq (vv 0) (vv 2) (nomark _)))) aP) (aC (bA (aM op_eq (vv 1) aO (nomark _)) (aF (aG (dD op_ne (vv 0) (vv 2) (nomark _)))) aP) (aF (aG (eE (aM op_eq (vv 1) aO (nomark _)) (dD aRd (vv 0) (vv 2) (nomark _)) (dD aQ3 (vv 0) (vv 2) (nomark _))))))),?_⟩
 rcases hs with rfl|rfl|rfl|rfl
 ·exact ⟨_,rfl,rfl,_,rfl,iteT ⟨_,rfl,_,rfl,ha.scal,q⟩⟩
 ·exact ⟨_,rfl,rfl,_,rfl,iteF ⟨_,rfl,rfl,_,rfl,iteF ⟨_,rfl,rfl,_,rfl,iteT ⟨_,rfl,_,rfl,ha.lt q⟩⟩⟩⟩
 ·exact ⟨_,rfl,rfl,_,rfl,iteF ⟨_,rfl,rfl,_,rfl,iteF ⟨_,rfl,rfl,_,rfl,iteF ⟨_,rfl,_,rfl,ha.gt q⟩⟩⟩⟩
 ·exact ⟨_,rfl,rfl,_,rfl,iteF ⟨_,rfl,rfl,_,rfl,iteT ⟨_,rfl,_,rfl,ha.scal,q⟩⟩⟩
def mH (k:Str):Bool:=decide (k = "number")
def knds (hd:Hdr):List Bool:=hd.map fun c=>mH c.2
def aRm (hd:Hdr) (r:List V):Oth→V
 |.val x=>x
 |.col d=>r.getD (plc hd d) .non
def aAa (hd:Hdr) (r:List V) (t:Tst):Bool:=aR7 t.sg (r.getD (plc hd t.c) .non) (aRm hd r t.o)
theorem mJ {hd:Hdr} {r:List V} (h:KdR (knds hd) r) {i:Nat} {c:Str × Str} (hc:hd[i]?=some c):i<r.length∧KdV (mH c.2) (r.getD i .non):=by
 obtain ⟨x,hx,hk⟩:=Al2.at h (show (knds hd)[i]?=some (mH c.2) by unfold knds;rw [List.getElem?_map,hc];rfl)
 have hi:=(List.getElem?_eq_some_iff.mp hx).1
 refine ⟨hi,?_⟩
 rw [List.getD_eq_getElem?_getD,hx]
 exact hk
theorem aFv {b:Bool} {x y:V} (h1:KdV b x) (h2:KdV b y):Alike x y:=by
 cases b with
 |true=>obtain ⟨i,rfl⟩:=h1;obtain ⟨j,rfl⟩:=h2;exact .inl ⟨i,j,rfl,rfl⟩
 |false=>obtain ⟨i,rfl⟩:=h1;obtain ⟨j,rfl⟩:=h2;exact .inr ⟨i,j,rfl,rfl⟩
theorem aQc {H:Hp} {x:V} (ht:Th K H x) (hv:aHp x=true):KdV (mH (kindS x)) x:=by
 rcases ht with ⟨z,rfl,_⟩|⟨i,rfl⟩|⟨b,rfl⟩|⟨k,hk⟩
 ·exact ⟨z,rfl⟩
 ·exact ⟨i,rfl⟩
 ·cases hv
 ·cases hk <;> cases hv
def aDt (K:PySem.W.Frag):Sp:=fun vs H Q _=>∃vh vr vt hd r t,vs=[vh,vr,vt]∧cM K H vh hd∧hd.length≤1000∧jG K H vr r∧KdR (knds hd) r∧IsT K H vt t∧xH hd t∧∀H',Same H H'→Q (.bl (aAa hd r t)) H'
theorem aLd (T:Txt w K mg) (dJ:Ok P w K mg base 2 "place_of" ["head","name"] (jB K)) (aGe:Ok P w K mg base 1 "compares" ["value","sign","other"] aG9):Ok P w K mg base 3 "holds" ["head","row","test"] (aDt K):=by
 refine Ok.ofV T.aO5 xV (fun vs H Q E h=>?_) (fun f cdv A outer s H vs Q E hr h=>?_)
 ·obtain ⟨vh,vr,vt,hd,r,t,rfl,_⟩:=h;rfl
 obtain ⟨vh,vr,vt,hd,r,t,rfl,hI,hl,⟨a,rfl,ha⟩,hk,⟨p,wo,rfl,hp,hn,hs,ho⟩,⟨k,tk1,tk2⟩,q⟩:=h
 refine ⟨_,(aC (aR (i:=3) xV.nd rfl (by trivial) (aJ ix_tup (vv 2) aD (fun _ _=>rfl))) (aC (aR (i:=4) xV.nd rfl (by trivial) (eE (aM op_eq (aJ ix_tup (vv 3) aD (fun _ _=>rfl)) aO (nomark _)) (aJ ix_tup (vv 3) aD (fun _ _=>rfl)) (aJ ix_tup (vv 1) (aH (dJ.mono (by decide)) hr (by rfl) (aB (vv 0) (aB (aJ ix_tup (vv 3) aD (fun _ _=>rfl)) aA))) (fun _ _=>rfl)))) (aF (aG (aH (aGe.mono (by decide)) hr (by rfl) (aB (aJ ix_tup (vv 1) (aH (dJ.mono (by decide)) hr (by rfl) (aB (vv 0) (aB (aJ ix_tup (vv 2) aD (fun _ _=>rfl)) aA))) (fun _ _=>rfl)) (aB (aJ ix_tup (vv 2) aD (fun _ _=>rfl)) (aB (vv 4) aA)))))))),?_⟩
 obtain ⟨c1,c2⟩:=eG tk1
 obtain ⟨l1,k1⟩:=mJ hk c1
 have e1:r.getD (plc hd t.c) .non=r[plc hd t.c]:=by simp [l1]
 have at1':atI r ((plc hd t.c:Nat):Int)=some (r.getD (plc hd t.c) .non):=by rw [e1];exact atI_nat (List.getElem?_eq_getElem l1)
 refine ⟨_,rfl,p,_,2,_,rfl,rfl,hp,at2 _ _ _ _,?_⟩
 have fin:∀y H1,Same H H1→Alike (r.getD (plc hd t.c) .non) y→y=aRm hd r t.o→∀H2,Same H1 H2→aG9 [r.getD (plc hd t.c) .non,.str t.sg,y] H2 (fun v H3=>Q v H3) E0:=fun y H1 s1 al ey H2 s2=>⟨_,_,_,rfl,al,hs,by rw [ey];exact q H2 (s1.trans s2)⟩
 cases ot:t.o with
 |val x=>
  rw [ot] at ho fin tk2
  obtain ⟨b,rfl,hb,hx,hv⟩:=ho
  have al:Alike (r.getD (plc hd t.c) .non) x:=by
   have:=aQc hx hv
   have e:kindS x=k:=Option.some.inj tk2
   rw [e] at this
   exact aFv k1 this
  refine ⟨_,rfl,b,_,0,_,rfl,rfl,hb,at0 _ _,rfl,_,rfl,iteT ⟨_,rfl,b,_,1,_,rfl,rfl,hb,at1 _ _ _,?_⟩⟩
  refine ⟨_,rfl,_,rfl,_,rfl,p,_,0,_,rfl,rfl,hp,at0 _ _,vh,t.c,hd,k,rfl,hI,hl,tk1,fun H1 s1=>?_⟩
  refine ⟨a,r,_,_,rfl,rfl,s1.aN ha,at1',_,rfl,p,_,1,_,rfl,rfl,s1.aN hp,at1 _ _ _,_,rfl,?_⟩
  exact fin x H1 s1 al rfl H1 (Same.refl _)
 |col dd=>
  rw [ot] at ho fin tk2
  obtain ⟨b,rfl,hb,hnd⟩:=ho
  have tk2:look hd dd=some k:=tk2
  obtain ⟨d1,d2⟩:=eG tk2
  obtain ⟨l2,k2⟩:=mJ hk d1
  have e2:r.getD (plc hd dd) .non=r[plc hd dd]:=by simp [l2]
  have at2':atI r ((plc hd dd:Nat):Int)=some (r.getD (plc hd dd) .non):=by rw [e2];exact atI_nat (List.getElem?_eq_getElem l2)
  have al:Alike (r.getD (plc hd t.c) .non) (r.getD (plc hd dd) .non):=aFv k1 k2
  refine ⟨_,rfl,b,_,0,_,rfl,rfl,hb,at0 _ _,rfl,_,rfl,iteF ⟨_,rfl,_,rfl,_,rfl,b,_,1,_,rfl,rfl,hb,at1 _ _ _,vh,dd,hd,k,rfl,hI,hl,tk2,fun H0 s0=>⟨a,r,_,_,rfl,rfl,s0.aN ha,at2',?_⟩⟩⟩
  refine ⟨_,rfl,_,rfl,_,rfl,p,_,0,_,rfl,rfl,s0.aN hp,at0 _ _,vh,t.c,hd,k,rfl,hI.same s0,hl,tk1,fun H1 s1=>?_⟩
  refine ⟨a,r,_,_,rfl,rfl,(s0.trans s1).aN ha,at1',_,rfl,p,_,1,_,rfl,rfl,(s0.trans s1).aN hp,at1 _ _ _,_,rfl,?_⟩
  exact fin _ H0 s0 al rfl H1 s1
theorem iB {α:Type}:∀(k:Nat) (xs:List α),sel (fun _=>true) k xs=xs
 |_,[]=>rfl
 |k,x::r=>by
  show (if true=true then x::sel (fun _=>true) (k+1) r else _)=_
  rw [if_pos rfl,iB (k+1) r]
theorem eO {R:Nat→V→Prop} {n:Nat} {ys:List V} (h:iY R (List.range n) ys):ys.length=n∧∀(i:Nat) (y:V),ys[i]?=some y→R i y:=by
 have aux:∀{is:List Nat} {ys:List V},iY R is ys→∀(i:Nat) (y:V),ys[i]?=some y→∃j,is[i]?=some j∧R j y:=by
  intro is ys h
  induction h with
  |nil=>intro i y e;simp at e
  |cons r _ ih=>
   intro i y e
   cases i with
   |zero=>cases e;exact ⟨_,rfl,r⟩
   |succ i=>obtain ⟨j,h1,h2⟩:=ih i y (by simpa using e);exact ⟨j,by simpa using h1,h2⟩
 have l:=h.len
 rw [List.length_range] at l
 refine ⟨l.symm,fun i y e=>?_⟩
 obtain ⟨j,h1,h2⟩:=aux h i y e
 have hi:i<n:=by
  have:=(List.getElem?_eq_some_iff.mp e).1
  omega
 rw [List.getElem?_range hi] at h1
 cases h1
 exact h2
theorem aKa {X:Cx} {K:PySem.W.Frag} (hK:X.K=K) (hc:X.calm=true):CallR X (.builtin "all") (aRq K):=by subst hK;exact rA hc
theorem aIu {X:Cx} {K:PySem.W.Frag} {tg e:Expr} {te:TE} (h:VE X e te) (hK:X.K=K:=by rfl):VI X tg e (iTup K te):=by subst hK;exact cY h
theorem aPj {M:List Str} {sc scope:Scope} {x y z:Str} {σ:L2.St} {u v:V} (i j:Nat) (hf:(y,NameKind.free)∈scope.names) (hg:(z,NameKind.free)∈scope.names) (hi:M[i]?=some y) (hj:M[j]?=some z) (hs:σ[i]?=some (some u)) (ht:σ[j]?=some (some v)) (hv:Vis sc y) (hw:Vis sc z):aQm M sc scope [x,y,z] σ [none,some u,some v]:=
 ⟨rfl,fun n q r h1 h2=>by
  match n,h1,h2 with
  |0,_,h2=>cases h2
  |1,h1,h2=>cases h1;cases h2;exact ⟨hf,i,hi,hs,hv⟩
  |2,h1,h2=>cases h1;cases h2;exact ⟨hg,j,hj,ht,hw⟩
  |n+3,h1,_=>cases h1⟩
theorem aCz {X:Cx} {scope:Scope} {x y z:Str} {σ:L2.St} {u v:V} (i j:Nat) (hf:(y,NameKind.free)∈scope.names) (hg:(z,NameKind.free)∈scope.names) (hi:X.N[i]?=some y) (hj:X.N[j]?=some z) (hs:σ[i]?=some (some u)) (ht:σ[j]?=some (some v)) (hv:Vis X.env.scope y) (hw:Vis X.env.scope z):Cap X scope [x,y,z] σ [none,some u,some v]:=
 ⟨rfl,fun n q r h1 h2=>by
  match n,h1,h2 with
  |0,_,h2=>cases h2
  |1,h1,h2=>cases h1;cases h2;exact ⟨hf,i,hi,hs,hv⟩
  |2,h1,h2=>cases h1;cases h2;exact ⟨hg,j,hj,ht,hw⟩
  |n+3,h1,_=>cases h1⟩
def scW:Scope:={ kind:=.function,names:=[(".0",.local),("row",.cell),("all",.globalImplicit),("head",.cell),("tests",.cell)],isGenerator:=false,isCoroutine:=false }
theorem aDv {M:List Str} {sc scope:Scope} {N:List Str} {K:PySem.W.Frag} {tl te:TE} {σ:L2.St} {H:Hp} {Q:VK} {a:Addr} (xs ys:List V) (hly:ys.length=xs.length) (σ0:L2.St) (cap:aQm M sc scope N σ σ0) (hsz:xs.length≤sizeLine) (ha:SqT K H a xs) (hl:∀R:VK,R (.ref a) H→tl σ H R)
  (he:∀(i:Nat) (x y:V),xs[i]?=some x→ys[i]?=some y→∀H' R l,Same H H'→(∀H2,Same H' H2→R y H2)→te ((σ0.set 0 l).set 0 (some x)) H' R) (h0:σ0[0]?=some none)
  (q:∀D H',Same H H'→H' D=some (.lst ys)→Q (.ref D) H'):aMk M sc scope N (iTup K tl) (gName 0) jT te σ H Q:=by
 refine ⟨σ0,cap,hl _ ⟨a,rfl,⟨xs,ha⟩,?_⟩⟩
 refine uW Same (oO H) xs (fun _=>true) (fun i _ y=>ys[i]?=some y) (fun _ _ h=>h) (fun _ _ _ h=>h) (fun i σ=>∃x l,xs[i]?=some x∧σ=(σ0.set 0 l).set 0 (some x)) (fun σ=>∃l,σ=σ0.set 0 l) ⟨none,cU h0⟩ hsz (Itt K a) (aA6 fun H' e=>e.aN ha) (rQ fun H' e=>e.aN ha) (fun i x σ' H' Q' ex ps sm r=>?_) (fun i x σ2 ex at2 H' R sm r=>r H' (Same.refl _)) (fun i x σ2 ex at2 _ H' R sm r=>?_) fun D H' zs sm hD hz al=>?_
 ·obtain ⟨l,rfl⟩:=ps
  have z:(σ0.set 0 l).set 0 (some x)=σ0.set 0 (some x):=List.set_set ..
  have:=r ((σ0.set 0 l).set 0 (some x)) ⟨some x,z⟩ ⟨x,l,ex,rfl⟩
  exact this
 ·obtain ⟨x',l,ex',rfl⟩:=at2
  rw [ex] at ex'
  cases ex'
  have hi:i<ys.length:=by rw [hly];exact (List.getElem?_eq_some_iff.mp ex).1
  exact he i x ys[i] ex (List.getElem?_eq_getElem hi) H' R l sm fun H2 s2=>r _ H2 s2 (List.getElem?_eq_getElem hi)
 ·rw [iB] at al
  obtain ⟨l1,l2⟩:=eO al
  have e:zs=ys:=List.ext_getElem? fun i=>by
   cases ez:zs[i]? with
   |some z=>exact (l2 i z ez).symm
   |none=>
    have:=List.getElem?_eq_none_iff.mp ez
    exact (List.getElem?_eq_none (by omega)).symm
  rw [e] at hz
  exact q D H' sm hz
theorem none_of {H H':Hp} {D:Addr} (e:Same H H') (h:H' D=none):H D=none:=by
 cases z:H D with
 |none=>rfl
 |some o=>rw [e _ _ z] at h;cases h
def aM2 (hd:Hdr) (ts:List Tst) (rs:List (List V)):List (List V):=rs.filter fun r=>ts.all (aAa hd r)
def bH (K:PySem.W.Frag) (H:Hp) (D:Addr) (rs:List (List V)):Prop:=∃us,H D=some (.lst us)∧aZ (jG K H) us rs
theorem bH.same {H H':Hp} {D:Addr} {rs:List (List V)} (e:Same H H') (h:bH K H D rs):bH K H' D rs:=by
 obtain ⟨us,h1,h2⟩:=h
 exact ⟨us,e _ _ h1,h2.imp fun _ _ r=>r.same e⟩
def aDr (K:PySem.W.Frag):Sp:=fun vs H Q _=>∃vh D vt hd rs ts,vs=[vh,.ref D,vt]∧cM K H vh hd∧hd.length≤1000∧bH K H D rs∧rs.length≤sizeLine∧(∀r∈rs,KdR (knds hd) r)∧oR K H (IsT K H) vt ts∧ts.length≤8∧(∀t∈ts,xH hd t)∧∀D' H',H D'=none→Same H H'→bH K H' D' (aM2 hd ts rs)→Q (.ref D') H'
theorem yP (T:Txt w K mg) (aNx:Ok P w K mg base 3 "holds" ["head","row","test"] (aDt K)):Ok P w K mg base 4 "where_rows" ["head","rows","tests"] (aDr K):=by
 refine Ok.ofV T.aC8 yH (fun vs H Q E h=>?_) (fun f cdv A outer s H vs Q E hr h=>?_)
 ·obtain ⟨vh,D,vt,hd,rs,ts,rfl,_⟩:=h;rfl
 obtain ⟨vh,D,vt,hd,rs,ts,rfl,hI,hl,⟨us,hD,hu⟩,hsz,hk,⟨t,vs,rfl,ht,hv⟩,h8,hok,q⟩:=h
 refine ⟨_,(aF (aG (aFk (N:=["row","head","tests"]) (y0:="row") ⟨by decide +kernel,fun _ _=>rfl,fun _=>rfl,by decide +kernel,rfl,by decide +kernel,by decide +kernel⟩ (bT (defScope iQ) rfl (by decide +kernel)) rfl (cN (vv 1)) (fun cl s' H' fp=>⟨(aK (i:=0) (show (["row","head","tests"]:List Str).Nodup from by decide +kernel) rfl (Or.inr rfl) (Or.inl rfl)),(aB5 (cQ (aL (aKa (K:=K) rfl rfl) (by rfl) T.aIm aC0 (aB (aFc (M:=["row","head","tests"]) (sc:=scW) (N:=["test","head","row"]) rfl rfl (by trivial) (bT scW rfl (by decide +kernel)) rfl (aIu (K:=K) (vv 2)) (fun cl2 s2' H2' fp2=>⟨(aK (i:=0) (show (["test","head","row"]:List Str).Nodup from by decide +kernel) rfl (Or.inl rfl)),bJ,(aH (aNx.mono (by decide)) hr (by rfl) (aB (vv 1) (aB (vv 2) (aB (vv 0) aA))))⟩)) aA)))),(vv 0)⟩)))),?_⟩
 have lu:=hu.len
 have lv:=hv.len
 refine aK9 us (fun i=>ts.all (aAa hd (rs.getD i []))) [none,some vh,some (.ref t)] ?_ (by omega) (fun R r=>jH (fun H' sm=>SqL.of (sm _ _ hD)) (fun R' r'=>⟨_,rfl,r'⟩) R r) (fun i u ex H' R l sm rr=>?_) rfl fun D' H' hN sm hD'=>?_
 ·exact aCz 0 2 (by decide +kernel) (by decide +kernel) rfl rfl rfl rfl (by trivial) (by trivial)
 ·obtain ⟨r,er,hr'⟩:=aV hu ex
  have hkr:=hk r (List.mem_of_getElem? er)
  have eg:rs.getD i []=r:=by rw [List.getD_eq_getElem?_getD,er];rfl
  rw [eg] at rr
  dsimp only [tB,tCB,tCons]
  refine aDv vs (ts.map fun t=>V.bl (aAa hd r t)) (by rw [List.length_map];omega) [none,some vh,some u] ?_ (small (by omega)) (sm.aN ht) (fun R' r'=>⟨_,rfl,r'⟩) (fun j x y ex ey H2 R2 l2 s2 r2=>?_) rfl fun D2 H2 s2 g2=>?_
  ·exact aPj 1 0 (by decide +kernel) (by decide +kernel) rfl rfl rfl rfl (by trivial) (by trivial)
  ·obtain ⟨tt,et,htt⟩:=aV hv ex
   rw [List.getElem?_map,et] at ey
   cases ey
   exact ⟨_,rfl,_,rfl,_,rfl,vh,u,x,hd,r,tt,rfl,hI.same (sm.trans s2),hl,hr'.same (sm.trans s2),hkr,htt.same (sm.trans s2),hok tt (List.mem_of_getElem? et),fun H3 s3=>r2 H3 s3⟩
  ·refine ⟨D2,ts.map (aAa hd r),rfl,SqL.of (by rw [g2,List.map_map];rfl),?_⟩
   rw [List.all_map]
   exact ⟨_,rfl,rr H2 s2⟩
 ·refine q D' H' hN sm ⟨_,hD',?_⟩
  have e:aM2 hd ts rs=sel (fun i=>ts.all (aAa hd (rs.getD i []))) 0 rs:=(kZ fun i r er=>by rw [Nat.zero_add,List.getD_eq_getElem?_getD,er];rfl).symm
  rw [e]
  exact (aDy hu 0).imp fun _ _ r=>r.same sm
theorem eQ {α β:Type} {R:α→β→Prop}:∀{as:List α} {bs:List β},as.length=bs.length→(∀(i:Nat) (a:α) (b:β),as[i]?=some a→bs[i]?=some b→R a b)→aZ R as bs
 |[],[],_,_=>.nil
 |[],_::_,h,_=>by cases h
 |_::_,[],h,_=>by cases h
 |a::as,b::bs,h,k=>.cons (k 0 a b rfl rfl) (eQ (by simpa using h) fun i x y e1 e2=>k (i+1) x y (by simpa using e1) (by simpa using e2))
def keepR (hd:Hdr) (ns:List Str) (rs:List (List V)):List (List V):=rs.map (fY (ns.map (plc hd)))
def aF2 (K:PySem.W.Frag):Sp:=fun vs H Q _=>∃vh D t hd rs ns ks,vs=[vh,.ref D,.ref t]∧cM K H vh hd∧hd.length≤1000∧bH K H D rs∧rs.length≤sizeLine∧(∀r∈rs,KdR (knds hd) r)∧SqT K H t (ns.map V.str)∧ns.length≤1000∧Looks hd ns ks∧∀D' H',H D'=none→Same H H'→bH K H' D' (keepR hd ns rs)→Q (.ref D') H'
theorem aAy (T:Txt w K mg) (mO:Ok P w K mg base 3 "places_of" ["head","names"] (tD K)) (wC:Ok P w K mg base 1 "picked" ["row","places"] (uM K)):Ok P w K mg base 4 "keep_rows" ["head","rows","names"] (aF2 K):=by
 refine Ok.ofV T.aDs rJ (fun vs H Q E h=>?_) (fun f cdv A outer s H vs Q E hr h=>?_)
 ·obtain ⟨vh,D,t,hd,rs,ns,ks,rfl,_⟩:=h;rfl
 obtain ⟨vh,D,t,hd,rs,ns,ks,rfl,hI,hl,⟨us,hD,hu⟩,hsz,hk,ht,hn,hlk,q⟩:=h
 refine ⟨_,(aC (aR (i:=3) rJ.nd rfl (by trivial) (aH (mO.mono (by decide)) hr (by rfl) (aB (vv 0) (aB (vv 2) aA)))) (aF (aG (bM (N:=["row","places"]) (by trivial) (bT (defScope jO) rfl (by decide +kernel)) rfl (cN (vv 1)) (fun cl s' H' fp=>⟨(aK (i:=0) (show (["row","places"]:List Str).Nodup from by decide +kernel) rfl (Or.inl rfl)),bJ,(aH (wC.mono (by decide)) hr (by rfl) (aB (vv 0) (aB (vv 1) aA)))⟩))))),?_⟩
 have lu:=hu.len
 refine ⟨_,rfl,_,rfl,vh,hd,t,ns,ks,rfl,hI,hl,ht,hn,hlk,fun C H1 s1 g1=>?_⟩
 refine jY [none,some (.ref C)] (bU 3 (by decide +kernel) rfl rfl (by trivial)) ⟨_,rfl,D,rfl,⟨us,SqL.of (s1 _ _ hD)⟩,?_⟩
 refine uW Same (oO H1) us (fun _=>true) (fun i H' y=>∃r,rs[i]?=some r∧jG K H' y (fY (ns.map (plc hd)) r)) (fun _ s2 ⟨r,e,h⟩=>⟨r,e,h.same s2⟩) (fun hD0 _ hL ⟨r,e,a,ea,h⟩=>⟨r,e,a,ea,?_⟩) (fun i σ=>∃u l,us[i]?=some u∧σ=(List.set [none,some (.ref C)] 0 l).set 0 (some u)) (fun σ=>∃l,σ=List.set [none,some (.ref C)] 0 l) ⟨none,rfl⟩ (by omega) (Itl K D) (vY fun H' e=>SqL.of (e _ _ (s1 _ _ hD))) (oM fun H' e=>SqL.of (e _ _ (s1 _ _ hD))) (fun i x σ' H' Q' ex ps sm r=>?_) (fun i x σ2 ex at2 H' R sm r=>r H' (Same.refl _)) (fun i x σ2 ex at2 _ H' R sm rr=>?_) fun D' H' zs sm hD0 hz al=>?_
 ·exact SqT.lG hL h
 ·obtain ⟨l,rfl⟩:=ps
  exact r _ ⟨some x,rfl⟩ ⟨x,l,ex,rfl⟩
 ·obtain ⟨x',l,ex',rfl⟩:=at2
  rw [ex] at ex'
  cases ex'
  obtain ⟨r,er,hr'⟩:=aV hu ex
  have hkr:=hk r (List.mem_of_getElem? er)
  refine ⟨_,rfl,_,rfl,x,C,r,ns.map (plc hd),rfl,hr'.same (s1.trans sm),?_,by rw [List.length_map];exact hn,?_,fun t2 H2 s2 g2=>rr _ H2 s2 ⟨r,er,t2,rfl,.inl (.inl g2)⟩⟩
  ·exact SqL.of (by rw [List.map_map];exact sm _ _ g1)
  ·intro i hi
   obtain ⟨n,hn',rfl⟩:=List.mem_map.mp hi
   obtain ⟨j,hj⟩:=List.mem_iff_getElem?.mp hn'
   obtain ⟨k,ek,lk⟩:=aV hlk hj
   exact (mJ hkr (eG lk).1).1
 ·rw [iB] at al
  obtain ⟨l1,l2⟩:=eO al
  refine q D' H' (none_of s1 hD0) (s1.trans sm) ⟨zs,hz,?_⟩
  refine eQ (by unfold keepR;rw [List.length_map];omega) fun i z y ez ey=>?_
  obtain ⟨r,er,hz'⟩:=l2 i z ez
  unfold keepR at ey
  rw [List.getElem?_map,er] at ey
  cases ey
  exact hz'
end
end My
namespace PySem
section
variable {prog:Program} {w:World} {K:Type} [DecidableEq K] {knd:HeapKind prog w K} {A:Around} {E:Value→Shared→Prop} {s:Shared}
theorem aOh {d a:Addr} {xs:List (K × Addr × Value)} {k:K} {z:Value} {Q:Value→Shared→Prop} (ru:knd.room A) (ik:knd.is s.heap k a) (dm:s.heap.DictOfH knd d xs) (lx:xs.length≤sizeLine)
  (h1:∀p,atKey xs k=some p→Q p.2 { s with toks:=s.toks+knd.draws k })
  (h2:atKey xs k=none→∀h',h'.DictOfH knd d (storedH xs k a z)→Heap.SameBut d s.heap h'→Q z { s with heap:=h',toks:=s.toks+knd.draws k }) :
  wpAny (model prog w) A (dictSetDefault d (.ref a) z) Q E s:=by
 obtain ⟨ob,ents,epo,g1,g2,g3,g4,g5,g6⟩:=dm
 have lz:=size_of_entries g4
 unfold dictSetDefault
 try with_reducible refine wpAny_holding ?_
 refine wpAny_bind (knd.pyHash ru ik (wpAny_bind (wpAny_dictFind_heap (s:={ s with toks:=s.toks+knd.draws k }) ru ik g1 g3 g4 g5 g6 (fun no=>?_) fun j p hj=>?_)))
 ·have an:=atKey_none_of_get no
  have nk:k∉xs.map (·.1):=not_mem_keys_of_get no
  refine wpAny_bind (wpAny_rule (wpAny_bind (wpAny_updateDictKeys (hz:=by omega) (s:={ s with toks:=s.toks+knd.draws k }) g1 g3 (wpAny_pure ?_))))
  refine h2 an _ ⟨_,_,epo+1,Heap.get?_update_self _ g1 (Obj.isFreed_of_dict (Obj.data_mapDictKeys g3 _)),g2.mapDictKeys _,Obj.data_mapDictKeys g3 _,?_,?_,?_⟩ (Heap.SameBut.update ..)
  ·rw [storedH_new an];simp [g4,entryOfKey]
  ·rw [storedH_new an]
   intro x hx
   rcases List.mem_append.mp hx with hx|hx
   ·exact knd.keeps (g5 x hx) g1 g3 (Heap.SameBut.update ..)
   ·cases List.mem_singleton.mp hx
    exact knd.keeps ik g1 g3 (Heap.SameBut.update ..)
  ·rw [storedH_new an,List.map_append,List.nodup_append]
   refine ⟨g6,by simp,fun x hx y hy e=>?_⟩
   cases List.mem_singleton.mp (show y∈[k] from hy)
   exact nk (e ▸ hx)
 ·have ap:=atKey_of_get g6 hj
  refine wpAny_bind (wpAny_dictEntries (s:={ s with toks:=s.toks+knd.draws k }) g1 g3 ?_)
  rw [entry_at g4 j,hj]
  exact wpAny_bind (wpAny_rule (wpAny_pure (h1 p ap)))
end
end PySem
namespace L2
open PySem PySem.Spec PyProof.Rows
section
variable {X:Cx}
def aPu:V→List V→Hp→VK→Prop:=fun x vs H Q=>∃(d b:Addr) (kvs:List (List Key × V)) (k:List Key) (z:V),x=.ref d∧vs=[.ref b,z]∧H d=some (.dT kvs)∧H b=some (.tup (k.map kV))∧kvs.length<sizeLine ∧
 (∀v,valV kvs k=some v→Q v H)∧(valV kvs k=none→Q z (upd H d (.dT (putK kvs k z))))
theorem aI2 (hu:X.A.units+1<cLine):MtR X "dict.setdefault" aPu:=by
 intro pins s σ H x vs v us Q I rx rv h
 obtain ⟨d,b,kvs,k,z,rfl,rfl,e,eb,l,h1,h2⟩:=h
 cases rx
 obtain ⟨u1,u2,rfl,r1,r2⟩:=rv.two
 cases (show u1=Value.ref b from r1)
 obtain ⟨zz,hd,xs,rel,dd⟩:=dt_of I.hok e
 have hz:xs.length≤sizeLine:=by rw [←Paired.length rel];exact zz
 have hl:(putK kvs k z).length≤sizeLine:=by have:=length_putK kvs k z;omega
 refine wpAny_call_entry PySem.F.slot_dict_setdefault dd.typeIs PySem.F.entry_dict_setdefault ?_ (PySem.F.args_dict_setdefault_3 _ _ _)
 unfold Builtin.«dict.setdefault»
 refine wpAny_bind ?_
 unfold Builtin.Dict.keyAndDefault
 refine wpAny_bind (wpAny_notOrdered_dict dd.typeIs ?_)
 show wpAny _ _ (pure (d,Value.ref b,some u2)) _ _ s
 refine wpAny_pure ?_
 show wpAny _ _ (if (d == sysModules)=true then _ else (dictSetDefault d (.ref b) u2 >>= _)) _ _ s
 rw [if_neg (by rw [hd];exact Bool.false_ne_true)]
 refine wpAny_bind (aOh (tupleKind_room_in1 hu) (key_of I.hok eb) dd hz (fun p hp=>?_) fun hn h' dd' hs=>?_)
 ·have q:=rel.val k
  rw [hp] at q
  cases hv:valV kvs k with
  |none=>rw [hv] at q;exact q.elim
  |some v=>
   rw [hv] at q
   exact wpAny_pure ⟨p.2,rfl,v,H,I.tok _,q,h1 v hv⟩
 ·have q:=rel.val k
  rw [hn] at q
  cases hv:valV kvs k with
  |some v=>rw [hv] at q;exact q.elim
  |none=>
   obtain ⟨o,es,ep,hq,g2,g3,g4,_,g5⟩:=dd'
   have ok:ObjOk X.prog X.w (upd H d (.dT (putK kvs k z))) h' d (.dT (putK kvs k z)):=by
    refine ⟨hl,hd,_,(rel.put k eb r2).keeps fun c ys ec=>?_,o,es,ep,hq,g2,g3,g4,g5⟩
    rw [upd_ne (ne_of ec e (fun z=>nomatch z))]
    exact ec
   exact wpAny_pure ⟨u2,rfl,z,_,d_write I (by rw [e];exact True.intro) hs ⟨o,hq⟩ ok,r2,h2 hv⟩
end
section
variable {X:Cx}
def aG8 (ns:List Int):Int:=preSum (fun i=>ns.getD i 0) ns.length
def aSc (K:PySem.W.Frag):List V→Hp→VK→Prop:=fun xs H Q=>∃(p:Addr) (ns:List Int),xs=[.ref p]∧SqL K H p (ns.map V.int)∧Q (.int (aG8 ns)) H
theorem zW (hc:X.calm=true):CallR X (.builtin "sum") (aSc X.K):=by
 intro pins s σ H xs us Q I r h
 obtain ⟨p,ns,rfl,hq,q⟩:=h
 obtain ⟨u,rfl,rx⟩:=r.one
 cases rx
 obtain ⟨its,rv,pl,hz⟩:=I.list hq
 have hl:=rv.length
 rw [List.length_map] at hl
 have hne:p≠s.heap.objs.size:=by
  obtain ⟨o,ho,_⟩:=pl.isList
  exact Nat.ne_of_lt (Heap.lt_size ho)
 refine call_sum_walkG (wpAny_pyIter_list pl.isList ?_)
 refine ⟨s.heap.objs.size,_,_,_,_,_,fun i=>ns.getD i 0,rfl,Walks.list (show X.A.in1.handled=none from I.ok.hd hc) _ p hne its.toArray,⟨⟨_,Heap.get?_push_size _ rfl,rfl,rfl⟩,?_⟩,?_,?_,fun h' tk t' kp=>?_⟩
 ·exact pl.isList.at fun o e=>Heap.get?_push_of_some _ e
 ·intro b hb
  rw [Heap.size_push]
  obtain ⟨o,ho,_⟩:=pl.isList
  rcases List.mem_cons.mp hb with rfl|hb
  ·exact Nat.lt_succ_self _
  ·have:b=p:=by simpa using hb
   rw [this]
   exact Nat.lt_succ_of_lt (Heap.lt_size ho)
 ·intro i v hv
  have hv':its[i]?=some v:=by simpa using hv
  have hi:i<ns.length:=by rw [hl];exact (List.getElem?_eq_some_iff.mp hv').1
  obtain ⟨u,hu,ru⟩:=rv.get (i:=i) (x:=.int ns[i]) (by rw [List.getElem?_map,List.getElem?_eq_getElem hi];rfl)
  rw [hv'] at hu
  cases hu
  obtain ⟨t,rfl⟩:=ru
  have e:ns.getD i 0=ns[i]:=by rw [List.getD_eq_getElem?_getD,List.getElem?_eq_getElem hi];rfl
  exact ⟨t,by show Value.int ns[i] t=Value.int (ns.getD i 0) t;rw [e]⟩
 ·have e:preSum (fun i=>ns.getD i 0) its.toArray.size=aG8 ns:=by
   rw [List.size_toArray,←hl];rfl
  rw [e]
  refine ⟨.int (aG8 ns),H,?_,⟨_,rfl⟩,q⟩
  exact I.kept fun b o eo=>kp b o (by
   intro z
   have:b=s.heap.objs.size:=by simpa using z
   rw [this] at eo
   exact absurd (Heap.lt_size eo) (Nat.lt_irrefl _)) (Heap.get?_push_of_some _ eo)
def ltS:V→V→Bool
 |.int a,.int b=>decide (a<b)
 |.str a,.str b=>decide (a.cps.toList<b.cps.toList)
 |_,_=>false
def wJ (us:List V):V:=us.getD (argBest (fun i j=>ltS (us.getD j .non) (us.getD i .non)) (us.length - 1)) .non
def qF (us:List V):V:=us.getD (argBest (fun i j=>ltS (us.getD i .non) (us.getD j .non)) (us.length - 1)) .non
def aPd (K:PySem.W.Frag) (f:List V→V):List V→Hp→VK→Prop:=fun xs H Q=>∃(p:Addr) (us:List V) (b:Bool),xs=[.ref p]∧SqL K H p us∧0<us.length∧(∀x∈us,KdV b x)∧Q (f us) H
theorem wL (bt:Nat→Nat→Bool):∀n,argBest bt n≤n
 |0=>Nat.le_refl _
 |n+1=>by
  unfold argBest
  split
  ·exact Nat.le_refl _
  ·exact Nat.le_succ_of_le (wL bt n)
theorem uH {us:List V} {its:List Value} (rv:Vals us its) {i:Nat} {v:Value} (hv:its[i]?=some v):us[i]?=some (us.getD i .non)∧RelV (us.getD i .non) v:=by
 have hi:i<us.length:=by rw [rv.length];exact (List.getElem?_eq_some_iff.mp hv).1
 have e:us.getD i .non=us[i]:=by rw [List.getD_eq_getElem?_getD,List.getElem?_eq_getElem hi];rfl
 obtain ⟨u,hu,ru⟩:=rv.get (i:=i) (x:=us[i]) (List.getElem?_eq_getElem hi)
 rw [hv] at hu
 cases hu
 rw [e]
 exact ⟨List.getElem?_eq_getElem hi,ru⟩
theorem cmp_gt {prog:Program} {w:World} {A:Around} {us:List V} {its:List Value} {b:Bool} (rv:Vals us its) (hk:∀x∈us,KdV b x):CmpOf prog w A .Gt (fun i v=>its.toArray[i]?=some v) (fun i j=>ltS (us.getD j .non) (us.getD i .non)):=by
 intro i j vi vj s Q E hi hj hq
 obtain ⟨a1,a2⟩:=uH rv (show its[i]?=some vi by simpa using hi)
 obtain ⟨b1,b2⟩:=uH rv (show its[j]?=some vj by simpa using hj)
 have ka:=hk _ (List.mem_of_getElem? a1)
 have kb:=hk _ (List.mem_of_getElem? b1)
 dsimp only at hq
 revert hq a2 b2 ka kb
 generalize us.getD i .non=x
 generalize us.getD j .non=y
 intro hq a2 b2 ka kb
 cases b with
 |true=>
  obtain ⟨m,rfl⟩:=ka
  obtain ⟨n,rfl⟩:=kb
  obtain ⟨t,rfl⟩:=a2
  obtain ⟨t',rfl⟩:=b2
  exact PyProof.Rows.gt_int hq
 |false=>
  obtain ⟨m,rfl⟩:=ka
  obtain ⟨n,rfl⟩:=kb
  obtain ⟨t,rfl⟩:=a2
  obtain ⟨t',rfl⟩:=b2
  exact P.gt_str hq
theorem aQ9 {prog:Program} {w:World} {A:Around} {us:List V} {its:List Value} {b:Bool} (rv:Vals us its) (hk:∀x∈us,KdV b x):CmpOf prog w A .Lt (fun i v=>its.toArray[i]?=some v) (fun i j=>ltS (us.getD i .non) (us.getD j .non)):=by
 intro i j vi vj s Q E hi hj hq
 obtain ⟨a1,a2⟩:=uH rv (show its[i]?=some vi by simpa using hi)
 obtain ⟨b1,b2⟩:=uH rv (show its[j]?=some vj by simpa using hj)
 have ka:=hk _ (List.mem_of_getElem? a1)
 have kb:=hk _ (List.mem_of_getElem? b1)
 dsimp only at hq
 revert hq a2 b2 ka kb
 generalize us.getD i .non=x
 generalize us.getD j .non=y
 intro hq a2 b2 ka kb
 cases b with
 |true=>
  obtain ⟨m,rfl⟩:=ka
  obtain ⟨n,rfl⟩:=kb
  obtain ⟨t,rfl⟩:=a2
  obtain ⟨t',rfl⟩:=b2
  exact lt_int hq
 |false=>
  obtain ⟨m,rfl⟩:=ka
  obtain ⟨n,rfl⟩:=kb
  obtain ⟨t,rfl⟩:=a2
  obtain ⟨t',rfl⟩:=b2
  exact lt_str hq
theorem aAq (hc:X.calm=true):CallR X (.builtin "max") (aPd X.K wJ):=by
 intro pins s σ H xs us0 Q I r h
 obtain ⟨p,us,b,rfl,hq,h0,hk,q⟩:=h
 obtain ⟨u,rfl,rx⟩:=r.one
 cases rx
 obtain ⟨its,rv,pl,hz⟩:=I.list hq
 have hl:=rv.length
 have hne:p≠s.heap.objs.size:=by
  obtain ⟨o,ho,_⟩:=pl.isList
  exact Nat.ne_of_lt (Heap.lt_size ho)
 refine call_max_walk (wpAny_pyIter_list pl.isList ?_)
 refine ⟨s.heap.objs.size,_,_,_,_,_,fun i j=>ltS (us.getD j .non) (us.getD i .non),rfl,Walks.list (show X.A.in1.handled=none from I.ok.hd hc) _ p hne its.toArray,⟨⟨_,Heap.get?_push_size _ rfl,rfl,rfl⟩,?_⟩,?_,?_,cmp_gt rv hk,fun v h' tk hv kp=>?_⟩
 ·exact pl.isList.at fun o e=>Heap.get?_push_of_some _ e
 ·intro c hb
  rw [Heap.size_push]
  obtain ⟨o,ho,_⟩:=pl.isList
  rcases List.mem_cons.mp hb with rfl|hb
  ·exact Nat.lt_succ_self _
  ·have:c=p:=by simpa using hb
   rw [this]
   exact Nat.lt_succ_of_lt (Heap.lt_size ho)
 ·rw [List.size_toArray];omega
 ·rw [List.size_toArray,←hl] at hv
  obtain ⟨_,rv'⟩:=uH rv (show its[_]?=some v by simpa using hv)
  refine ⟨wJ us,H,?_,rv',q⟩
  exact I.kept fun c o eo=>kp c o (by
   intro z
   have:c=s.heap.objs.size:=by simpa using z
   rw [this] at eo
   exact absurd (Heap.lt_size eo) (Nat.lt_irrefl _)) (Heap.get?_push_of_some _ eo)
theorem aAc (hc:X.calm=true):CallR X (.builtin "min") (aPd X.K qF):=by
 intro pins s σ H xs us0 Q I r h
 obtain ⟨p,us,b,rfl,hq,h0,hk,q⟩:=h
 obtain ⟨u,rfl,rx⟩:=r.one
 cases rx
 obtain ⟨its,rv,pl,hz⟩:=I.list hq
 have hl:=rv.length
 have hne:p≠s.heap.objs.size:=by
  obtain ⟨o,ho,_⟩:=pl.isList
  exact Nat.ne_of_lt (Heap.lt_size ho)
 refine call_min_walk (wpAny_pyIter_list pl.isList ?_)
 refine ⟨s.heap.objs.size,_,_,_,_,_,fun i j=>ltS (us.getD i .non) (us.getD j .non),rfl,Walks.list (show X.A.in1.handled=none from I.ok.hd hc) _ p hne its.toArray,⟨⟨_,Heap.get?_push_size _ rfl,rfl,rfl⟩,?_⟩,?_,?_,aQ9 rv hk,fun v h' tk hv kp=>?_⟩
 ·exact pl.isList.at fun o e=>Heap.get?_push_of_some _ e
 ·intro c hb
  rw [Heap.size_push]
  obtain ⟨o,ho,_⟩:=pl.isList
  rcases List.mem_cons.mp hb with rfl|hb
  ·exact Nat.lt_succ_self _
  ·have:c=p:=by simpa using hb
   rw [this]
   exact Nat.lt_succ_of_lt (Heap.lt_size ho)
 ·rw [List.size_toArray];omega
 ·rw [List.size_toArray,←hl] at hv
  obtain ⟨_,rv'⟩:=uH rv (show its[_]?=some v by simpa using hv)
  refine ⟨qF us,H,?_,rv',q⟩
  exact I.kept fun c o eo=>kp c o (by
   intro z
   have:c=s.heap.objs.size:=by simpa using z
   rw [this] at eo
   exact absurd (Heap.lt_size eo) (Nat.lt_irrefl _)) (Heap.get?_push_of_some _ eo)
end
end L2
namespace PySem
section
variable {prog:Program} {w:World} {A:Around} {E:Value→Shared→Prop} {s:Shared}
theorem rawNext {it d:Addr} {i ep:Nat} {od:Obj} {es:Array DictEntry} {Q:Option Value→Shared→Prop} (ki:s.heap.IsKeyIter it d i es.size ep) (gd:s.heap.get? d=some od) (dd:od.data=.dict es ep) (lt:i<es.size)
  (q:∀h',h'.IsKeyIter it d (i+1) es.size ep→Heap.SameBut it s.heap h'→Q (some es[i].key) { s with heap:=h' }):wpAny (model prog w) A (pyNext (.ref it)) Q E s:=by
 obtain ⟨oi,gi,ci,di⟩:=id ki
 have ty:=ki.typeIs
 unfold pyNext
 refine wpAny_bind (wpAny_attempt (wpAny_callSpecial?_slot (name:="__next__") ty F.slot_dict_keyiterator_next (wpAny_call_entry F.slot_dict_keyiterator_next ty F.entry_dict_keyiterator_next (wpAny_bind (wpAny_pure (wpAny_bind (wpAny_bind ?_)))) (F.args_dict_keyiterator_next_1 _))))
 refine wpAny_bind (wpAny_typeNameOfWhole_keyiter ty (wpAny_pure (wpAny_bind (wpAny_fieldsOf gi di ?_))))
 rw [show Builtin.Dict_items.ownsTuple "dict_keyiterator"=false from by decide]
 simp only [Bool.false_eq_true,if_false]
 have nz:¬ ((Value.ref d == Value.none)=true):=Bool.false_ne_true
 show wpAny _ _ (ite ((Value.ref d == Value.none)=true) _ _) _ _ s
 rw [if_neg nz]
 refine wpAny_bind (wpAny_pure (wpAny_bind (wpAny_dictEntries gd dd ?_)))
 rw [if_neg (by simp)]
 refine wpAny_bind (wpAny_pure (wpAny_bind (wpAny_dictEpoch gd dd ?_)))
 rw [if_neg (by simp)]
 have ni:¬ ((i:Int)<0):=by omega
 refine wpAny_pure ?_
 simp only [ni,if_false,Int.toNat_natCast,Array.getElem?_eq_getElem lt]
 refine wpAny_bind (wpAny_bind (wpAny_typeNameOfWhole_keyiter ty (wpAny_pure (wpAny_bind (wpAny_isOneOf_keyiter ty ?_)))))
 show wpAny _ _ (setField (.ref it) 1 (rawInt ((i:Int)+1)) >>= _) _ _ s
 refine wpAny_bind (wpAny_setField gi di (by simp) ?_)
 generalize eh:s.heap.update it (Obj.mapFields fun x=>x.setIfInBounds 1 (rawInt ((i:Int)+1)))=h1
 have ki1:h1.IsKeyIter it d (i+1) es.size ep:=by
  rw [←eh]
  exact ⟨_,Heap.get?_update_self _ gi (Obj.isFreed_of_fields (Obj.data_mapFields di _)),(Obj.cls_mapFields ..).trans ci,by rw [Obj.data_mapFields di];simp [rawInt]⟩
 have sb:Heap.SameBut it s.heap h1:=by rw [←eh];exact Heap.SameBut.update ..
 refine wpAny_bind (wpAny_holding (wpAny_bind (wpAny_isOneOf_keyiter (s:={ s with heap:=h1 }) ki1.typeIs ?_)))
 show wpAny _ _ (pure es[i].key) _ _ _
 exact wpAny_pure (wpAny_pure ⟨_,rfl,wpAny_pure (q _ ki1 sb)⟩)
theorem aQk {it d:Addr} {ep:Nat} {od:Obj} {es:Array DictEntry} {Q:Option Value→Shared→Prop} (hh:A.handled=none) (ki:s.heap.IsKeyIter it d es.size es.size ep) (gd:s.heap.get? d=some od) (dd:od.data=.dict es ep)
  (q:∀h',Heap.ExtBut it s.heap h'→Q none { s with heap:=h' }):wpAny (model prog w) A (pyNext (.ref it)) Q E s:=by
 obtain ⟨oi,gi,ci,di⟩:=id ki
 have ty:=ki.typeIs
 unfold pyNext
 refine wpAny_bind (wpAny_attempt (wpAny_callSpecial?_slot (name:="__next__") ty F.slot_dict_keyiterator_next (wpAny_call_entry F.slot_dict_keyiterator_next ty F.entry_dict_keyiterator_next (wpAny_bind (wpAny_pure (wpAny_bind (wpAny_bind ?_)))) (F.args_dict_keyiterator_next_1 _))))
 refine wpAny_bind (wpAny_typeNameOfWhole_keyiter ty (wpAny_pure (wpAny_bind (wpAny_fieldsOf gi di ?_))))
 rw [show Builtin.Dict_items.ownsTuple "dict_keyiterator"=false from by decide]
 simp only [Bool.false_eq_true,if_false]
 have nz:¬ ((Value.ref d == Value.none)=true):=Bool.false_ne_true
 show wpAny _ _ (ite ((Value.ref d == Value.none)=true) _ _) _ _ s
 rw [if_neg nz]
 refine wpAny_bind (wpAny_pure (wpAny_bind (wpAny_dictEntries gd dd ?_)))
 rw [if_neg (by simp)]
 refine wpAny_bind (wpAny_pure (wpAny_bind (wpAny_dictEpoch gd dd ?_)))
 rw [if_neg (by simp)]
 have ni:¬ ((es.size:Int)<0):=by omega
 refine wpAny_pure ?_
 simp only [ni,if_false,Int.toNat_natCast,Array.getElem?_eq_none (Nat.le_refl es.size)]
 refine wpAny_bind (wpAny_bind (wpAny_typeNameOfWhole_keyiter ty (wpAny_pure ?_)))
 show wpAny _ _ (setField (.ref it) 0 .none >>= _) _ _ s
 refine wpAny_bind (wpAny_setField gi di (by simp) ?_)
 show wpAny _ _ (newExc (.type "StopIteration") [] >>= _) _ _ _
 refine wpAny_bind ?_
 simp only [newExc,newTuple,raiseNew]
 refine wpAny_bind (wpAny_newObj_type ?_ (by size_fits))
 refine wpAny_bind (m:=firstArgMember _ _) (wpAny_of_eq (a:=Value.none) (by simp only [firstArgMember];rfl) ?_)
 refine wpAny_newObj_type (wpAny_bind (wpAny_handled ?_)) (by size_fits)
 rw [show A.in1.handled=none from hh]
 refine wpAny_bind (wpAny_pure (wpAny_throw ?_))
 refine wpAny_bind (wpAny_isInstance (T:="StopIteration") (b:=true) ⟨_,Heap.get?_push_size _ rfl,rfl⟩ isSubtype_stop ?_)
 exact wpAny_pure (q _ (((Heap.SameBut.update ..).extBut.push _).push _))
theorem aOk {d:Addr} {ep:Nat} {od:Obj} {es:Array DictEntry} {Q:Value→Shared→Prop} (nd:(d == sysModules)=false) (ty:s.TypeIs (.ref d) "dict") (gd:s.heap.get? d=some od) (dd:od.data=.dict es ep)
  (q:Q (.ref s.heap.objs.size) { s with heap:=s.heap.push { cls:=.type "dict_keyiterator",data:=.fields #[.ref d,.int 0 0,.int es.size 0,.int ep 0] } }):wpAny (model prog w) A (pyIter (.ref d)) Q E s:=by
 refine wpAny_pyIter_slot ty F.slot_dict_iter (wpAny_call_entry F.slot_dict_iter ty F.entry_dict_iter ?_ (F.args_dict_iter_1 _))
 unfold Builtin.«dict.__iter__» Builtin.Dict.dictSlotNone;refine wpAny_bind (wpAny_bind (wpAny_notOrdered_dict ty ?_));show wpAny _ _ (pure (Value.ref d)) _ _ s;refine wpAny_pure ?_
 show wpAny _ _ (Builtin.Dict.showsAll d >>= _) _ _ _;unfold Builtin.Dict.showsAll;rw [if_neg (show ¬ (d == sysModules)=true by rw [nd];exact Bool.false_ne_true)]
 refine wpAny_bind (wpAny_pure (wpAny_bind (wpAny_dictEntries gd dd (wpAny_bind (wpAny_dictEpoch gd dd (wpAny_bind (wpAny_newObj_type (wpAny_pure ⟨_,rfl,"dict_keyiterator",_,⟨_,Heap.get?_push_size _ rfl,rfl⟩,F.slot_dict_keyiterator_next.lookup,?_⟩))))))))
 simpa [rawInt] using q
end
end PySem
namespace L2
open PySem PySem.Spec PyProof.Rows
def aL4 (d:Addr) (o:Obj) (kvs:List (List Key × V)):It:=
 ⟨fun i H=>H d=some (.frz o (.dT kvs))∧i<kvs.length,fun i H x H'=>H'=H∧∀kv,kvs[i]?=some kv→∃b,x=.ref b∧H b=some (.tup (kv.1.map kV)),fun i H=>H d=some (.frz o (.dT kvs))∧i=kvs.length⟩
theorem kt_at {H:Hp} {kvs:List (List Key × V)} {xs:List (List Key × Addr × Value)} (r:KT H kvs xs):∀{i:Nat} {kv:List Key × V},kvs[i]?=some kv→∃x,xs[i]?=some x∧kv.1=x.1∧H x.2.1=some (.tup (kv.1.map kV))∧RelV kv.2 x.2.2:=by
 induction r with
 |nil=>intro i kv e;simp at e
 |@cons p q ps qs h t ih=>
  intro i kv e
  cases i with
  |zero=>cases e;exact ⟨q,rfl,h⟩
  |succ i=>exact ih (by simpa using e)
theorem rF {P:Program} {w:World} {H:Hp} {h:Heap} {d:Addr} {o:Obj} {kvs:List (List Key × V)} {es:Array DictEntry} {ep:Nat} (hep:o.data=.dict es ep) (ok:ObjOk P w H h d (.frz o (.dT kvs))):∃xs,KT H kvs xs∧h.get? d=some o∧es.toList=xs.map (entryOfKey (tupleKind (mixKind P w))):=by
 obtain ⟨ho,_,_,xs,r,o',es',ep',h1,h2,h3,h4,h5⟩:=ok
 rw [ho] at h1
 cases h1
 rw [hep] at h3
 cases h3
 exact ⟨xs,r,ho,h4⟩
theorem aKi {P:Program} {w:World} {K:PySem.W.Frag} {tg:Expr} (d it:Addr) (o:Obj) (kvs:List (List Key × V)) (es:Array DictEntry) (ep:Nat) (hep:o.data=.dict es ep):Turn P w K tg (aL4 d o kvs) [it] it (fun i h=>h.IsKeyIter it d i kvs.length ep) where
 mem:=by simp
 obj:=fun i h st b hb=>by
  have e:b=it:=by simpa using hb
  subst e
  obtain ⟨ob,h1,h2,h3⟩:=st
  exact ⟨ob,h1,fun v z=>by rw [h3] at z;cases z⟩
 keep:=fun i h h' st k=>st.at fun ob e=>k it (by simp) ob e
 item:=by
  intro X hP hw hK hc i pins s σ H E I hf st hg
  subst hP hw hK
  obtain ⟨hd,hi⟩:=hg
  obtain ⟨xs,rel,gd,he⟩:=rF hep (I.hok d _ hd)
  have lk:es.size=kvs.length:=by rw [size_of_entries he,Paired.length rel]
  obtain ⟨f0,f1,f2,f3,f4,f5⟩:=hf it (by simp)
  have hkv:kvs[i]?=some kvs[i]:=List.getElem?_eq_getElem hi
  obtain ⟨x,hx,e1,e2,e3⟩:=kt_at rel hkv
  have hie:i<es.size:=by omega
  have ek:es[i].key=.ref x.2.1:=by
   have z:=entry_at he i
   rw [hx,Array.getElem?_eq_getElem hie] at z
   have z:=Option.some.inj z
   rw [z]
   rfl
  rw [←lk] at st
  refine rawNext st gd hep hie fun h' hit' hs'=>?_
  have I1:Inv X pins σ H { s with heap:=h',toks:=s.toks }:=I.turned (fun b ob hb e=>(hs'.2 b hb).trans e) f0 f1 f3 f4 f5
  obtain ⟨oi,hoi,ci,di⟩:=hit'
  rw [ek]
  refine ⟨_,rfl,go_of (s:={ s with heap:=h' }) (n:="dict_keyiterator") hoi ci di (by decide) ⟨.ref x.2.1,H,I1,rfl,⟨rfl,fun kv e=>?_⟩,?_,fun b hb=>(hf b hb).1⟩⟩
  ·rw [hkv] at e
   cases e
   exact ⟨_,rfl,e2⟩
  ·rw [←lk]
   exact ⟨oi,hoi,ci,di⟩
 done:=by
  intro X hP hw hK hc i pins s σ H E I hf st hg
  subst hP hw hK
  obtain ⟨f0,f1,f2,f3,f4,f5⟩:=hf it (by simp)
  obtain ⟨hd,hi⟩:=hg
  obtain ⟨xs,rel,gd,he⟩:=rF hep (I.hok d _ hd)
  have lk:es.size=kvs.length:=by rw [size_of_entries he,Paired.length rel]
  rw [hi,←lk] at st
  exact aQk (I.ok.hd hc) st gd hep fun h' eb=>⟨rfl,I.turned (t':=s.toks) (fun b o hb e=>eb b o hb e) f0 f1 f3 f4 f5⟩
 self:=fun _ _ _ _ _ st h=>wpAny_pyIter_keyiter st h
section
variable {X:Cx} {tg:Expr}
def aRz (te:TE):TI:=fun σ H R=>te σ H fun v H1=>∃d kvs,v=.ref d∧H1 d=some (.dT kvs)∧(∀ob u,X.H₀ d≠some (.frz ob u))∧∀o,R (aL4 d o kvs) (upd H1 d (.frz o (.dT kvs)))
end
section
variable {X:Cx} {tg:Expr}
theorem aOm {e:Expr} {te:TE} (h:VE X e te):VI X tg e (aRz (X:=X) te):=⟨by
 intro pins s σ H R I hh
 refine thn (h.1 pins s σ H _ I hh) fun v s1 ⟨x,H1,I1,r1,q1⟩=>?_
 obtain ⟨d,kvs,e,hd,nf,q⟩:=q1
 subst e
 cases r1
 obtain ⟨z,hm,xs,rel,⟨o,es,ep,h1,h2,h3,h4,h5,h6⟩⟩:=dt_of I1.hok hd
 have lk:es.size=kvs.length:=by rw [size_of_entries h4,Paired.length rel]
 have ty:s1.TypeIs (.ref d) "dict":=(show s1.heap.DictOfH (tupleKind (mixKind X.prog X.w)) d xs from ⟨o,es,ep,h1,h2,h3,h4,h5,h6⟩).typeIs
 have I2:Inv X pins σ (upd H1 d (.frz o (.dT kvs))) s1:=I1.setd hd (fun _ z=>by cases z) (fun _ z=>by cases z) (fun _ z=>by cases z) nf ⟨h1,I1.hok d _ hd⟩
 refine aOk hm ty h1 h3 ?_
 refine ⟨s1.heap.objs.size,[s1.heap.objs.size],_,_,_,rfl,I2.kept (t':=s1.toks) fun b o e=>Heap.get?_push_of_some _ e,aKi d _ o kvs es ep h3,?_,fun b hb=>?_,q o⟩
 ·rw [lk]
  exact ⟨_,Heap.get?_push_size _ rfl,rfl,rfl⟩
 ·have e:b=s1.heap.objs.size:=by simpa using hb
  subst e
  exact I2.fpOk (Nat.le_refl _) (I2.hok.fresh (Nat.le_refl _))⟩
def aR0 (d:Addr) (kvs:List (List Key × V)) (D:Ends):Ends:={ nx:=fun σ H=>(∃o,H d=some (.frz o (.dT kvs)))∧D.nx σ (upd H d (.dT kvs)),rt:=fun v H=>(∃o,H d=some (.frz o (.dT kvs)))∧D.rt v (upd H d (.dT kvs)) }
def aRr (X:Cx) (t:TS):TS:=fun D σ H=>∃d kvs,H d=some (.dT kvs)∧((∀ob u,X.H₀ d≠some (.frz ob u))→t (aR0 d kvs D) σ H)
theorem aOr {st:Stmt} {t:TS} (h:VS X st t):VS X st (aRr X t):=⟨by
 intro pins s σ H D I ⟨d,kvs,hd,q⟩
 have nf:∀ob u,X.H₀ d≠some (.frz ob u):=fun ob u e=>by
  have:=I.base.frzs d ob u e
  rw [hd] at this
  cases this
 have thaw:∀{σ' H' s' o},Inv X pins σ' H' s'→H' d=some (.frz o (.dT kvs))→Inv X pins σ' (upd H' d (.dT kvs)) s':=fun {σ' H' s' o} I' ho=>I'.setd ho (fun _ z=>by cases z) (fun _ z=>by cases z) (fun _ z=>by cases z) nf (I'.hok d _ ho).2
 refine thn (h.1 pins s σ H _ I (q nf)) fun f s' hf=>?_
 cases f with
 |next=>obtain ⟨σ',H',I',⟨o,ho⟩,q'⟩:=hf;exact ⟨σ',_,thaw I' ho,q'⟩
 |brk=>obtain ⟨_,_,_,z⟩:=hf;exact z.elim
 |cont=>obtain ⟨_,_,_,z⟩:=hf;exact z.elim
 |ret u=>obtain ⟨v,σ',H',I',r,⟨o,ho⟩,q'⟩:=hf;exact ⟨v,σ',_,thaw I' ho,r,q'⟩⟩
end
theorem aMt {d:Addr} {o:Obj} {kvs:List (List Key × V)} {g:TG} {tb:TS} {D:Ends} {σ:L2.St} {H:Hp} (Pv:Nat→L2.St→Hp→Prop) (h0:Pv 0 σ H) (hl:∀i σ H,i≤kvs.length→Pv i σ H→H d=some (.frz o (.dT kvs)))
  (hs:∀i kv b σ H,kvs[i]?=some kv→H b=some (.tup (kv.1.map kV))→Pv i σ H→g (.ref b) σ H fun σ2 H2=>tb { D with nx:=Pv (i+1),ct:=Pv (i+1),bk:=D.nx } σ2 H2) (hd:∀σ H,Pv kvs.length σ H→D.nx σ H) :
  ∃W:Nat→Nat→L2.St→Hp→Prop,(∃m,W 0 m σ H)∧∀i m σ H,W i m σ H →
   ((aL4 d o kvs).stop i H∧D.nx σ H)∨((aL4 d o kvs).go i H∧∃N:L2.St→Hp→Prop,(∀σ' H',N σ' H'→∃m',m'<m∧W (i+1) m' σ' H')∧∀x H',(aL4 d o kvs).yld i H x H'→g x σ H' fun σ2 H2=>tb { D with nx:=N,ct:=N,bk:=D.nx } σ2 H2):=by
 refine ⟨fun i m σ H=>m=kvs.length - i∧i≤kvs.length∧Pv i σ H,⟨kvs.length,by simp,Nat.zero_le _,h0⟩,?_⟩
 rintro i m σ H ⟨rfl,hi,p⟩
 have q:=hl i σ H hi p
 by_cases hlt:i<kvs.length
 ·right
  refine ⟨⟨q,hlt⟩,Pv (i+1),fun σ' H' h=>⟨kvs.length - (i+1),by omega,rfl,by omega,h⟩,?_⟩
  rintro x H' ⟨rfl,hy⟩
  obtain ⟨b,rfl,hb⟩:=hy _ (List.getElem?_eq_getElem hlt)
  exact hs i _ b σ H' (List.getElem?_eq_getElem hlt) hb p
 ·left
  have e:i=kvs.length:=by omega
  subst e
  exact ⟨⟨q,rfl⟩,hd σ H p⟩
end L2
namespace My
open PySem PySem.Spec PyProof.Rows L2
section
variable {P:Program} {w:World} {K:PySem.W.Frag} {mg:Str→Option Value} {base:Heap}
theorem zV {c:Bool} {A B:Prop} (h:c=false) (b:B):if c=true then A else B:=by subst h;exact b
def aNv:TE:=fun _ H Q=>∀p H',H p=none→Same H H'→H' p=some (.dT [])→Q (.ref p) H'
theorem zT {X:Cx} {pos:Pos}:VE X (.Dict [] [] pos) aNv:=⟨PE.imp pe_dnewT fun σ H Q h p hp=>h p _ hp (aW hp _) upd_same⟩
def keyOf:V→Key
 |.int i=>Sum.inl i
 |.str z=>Sum.inr z
 |_=>Sum.inl 0
def keysOf (is:List Nat) (r:List V):List Key:=(fY is r).map keyOf
theorem aD0 {x:V} (h:(∃i,x=.int i)∨∃z,x=.str z):kV (keyOf x)=x:=by
 rcases h with ⟨i,rfl⟩|⟨z,rfl⟩ <;> rfl
def bO (k:List Key) (r:List V):List (List Key × List (List V))→List (List Key × List (List V))
 |[]=>[(k,[r])]
 |p::t=>if p.1=k then (p.1,p.2++[r])::t else p::bO k r t
def cV (is:List Nat) (rows:List (List V)):List (List Key × List (List V)):=rows.foldl (fun acc r=>bO (keysOf is r) r acc) []
def xM (K:PySem.W.Frag) (H:Hp) (kv:List Key × V) (lot:List Key × List (List V)):Prop:=kv.1=lot.1∧∃L,kv.2=.ref L∧bH K H L lot.2
theorem jD {α β:Type} {R:α→β→Prop} {as cs:List α} {bs ds:List β} (h:aZ R as bs) (h2:aZ R cs ds):aZ R (as++cs) (bs++ds):=by
 induction h with
 |nil=>exact h2
 |cons r _ ih=>exact .cons r ih
theorem bH.upd {H:Hp} {D L:Addr} {o:HO} {us:List V} {rs:List (List V)} (hL:H L=some (.lst us)) (ne:D≠L) (h:bH K H D rs):∀zs,bH K (L2.upd H L (.lst zs)) D rs:=fun zs=>by
 obtain ⟨vs,h1,h2⟩:=h
 exact ⟨vs,by rw [upd_ne ne];exact h1,h2.imp fun _ _ ⟨p,e,hp⟩=>⟨p,e,SqT.lG hL hp⟩⟩
theorem aIq {H:Hp} {k:List Key} {L:Addr} {us:List V} {u:V} {r:List V} (hL:H L=some (.lst us)) (hu:jG K H u r):∀{kvs:List (List Key × V)} {lots:List (List Key × List (List V))},aZ (xM K H) kvs lots→(kvs.map (·.2)).Nodup→valV kvs k=some (.ref L) →
  aZ (xM K (L2.upd H L (.lst (us++[u])))) kvs (bO k r lots)
 |_,_,.nil,_,h=>by cases h
 |p::ps,q::qs,.cons hq t,nd,h=>by
  obtain ⟨e1,D,e2,hD⟩:=hq
  have nd':=List.nodup_cons.mp nd
  by_cases e:p.1=k
  ·rw [valV_pos e,e2] at h
   cases h
   have eq:bO k r (q::qs)=(q.1,q.2++[r])::qs:=if_pos (e1.symm.trans e)
   rw [eq]
   obtain ⟨vs,g1,g2⟩:=id hD
   rw [hL] at g1
   cases g1
   refine .cons ⟨e1,L,e2,us++[u],upd_same,jD (g2.imp fun _ _ ⟨p,e,hp⟩=>⟨p,e,SqT.lG hL hp⟩) (.cons (by obtain ⟨p',e',hp'⟩:=hu;exact ⟨p',e',SqT.lG hL hp'⟩) .nil)⟩ ?_
   have aux:∀{ps:List (List Key × V)} {qs:List (List Key × List (List V))},aZ (xM K H) ps qs→V.ref L∉ps.map (·.2)→aZ (xM K (L2.upd H L (.lst (us++[u])))) ps qs:=by
    intro ps qs t
    induction t with
    |nil=>exact fun _=>.nil
    |@cons a b as bs h _ ih=>
     intro hn
     obtain ⟨x1,D2,x2,hx⟩:=h
     refine .cons ⟨x1,D2,x2,hx.upd (o:=.lst us) hL (fun z=>hn ?_) _⟩ (ih fun z=>hn (List.mem_cons_of_mem _ z))
     rw [List.map_cons,x2,z]
     exact List.mem_cons_self
   exact aux t (by rw [←e2];exact nd'.1)
  ·rw [valV_neg e] at h
   have eq:bO k r (q::qs)=q::bO k r qs:=if_neg fun z=>e (e1.trans z)
   rw [eq]
   refine .cons ⟨e1,D,e2,hD.upd (o:=.lst us) hL (fun z=>nd'.1 ?_) _⟩ (aIq hL hu t nd'.2 h)
   show p.2∈ps.map (·.2)
   rw [e2,z]
   unfold valV at h
   obtain ⟨kv,hf,hv⟩:=Option.map_eq_some_iff.mp h
   rw [←hv]
   exact List.mem_map.mpr ⟨kv,List.mem_of_find?_eq_some hf,rfl⟩
theorem aI1 {k:List Key} {r:List V}:∀{kvs:List (List Key × V)} {lots:List (List Key × List (List V))} {R:List Key × V→List Key × List (List V)→Prop},(∀a b,R a b→a.1=b.1)→aZ R kvs lots→valV kvs k=none→bO k r lots=lots++[(k,[r])]
 |_,_,_,_,.nil,_=>rfl
 |p::ps,q::qs,R,hR,.cons hq t,h=>by
  by_cases e:p.1=k
  ·rw [valV_pos e] at h;cases h
  ·rw [valV_neg e] at h
   have eq:bO k r (q::qs)=q::bO k r qs:=if_neg fun z=>e ((hR _ _ hq).trans z)
   rw [eq,aI1 hR t h]
   rfl
theorem SqT.aQz {K:PySem.W.Frag} {H:Hp} {a D:Addr} {xs:List V} {kvs:List (List Key × V)} {u:HO} (hD:H D=some (.dT kvs)) (h:SqT K H a xs):SqT K (L2.upd H D u) a xs:=by
 rcases h with (h|⟨o,h⟩)|h
 ·exact .inl (.inl (by rw [upd_ne (ne_of h hD (by intro z;cases z))];exact h))
 ·exact .inl (.inr ⟨o,by rw [upd_ne (ne_of h hD (by intro z;cases z))];exact h⟩)
 ·exact .inr h
theorem vU (k:List Key) (r:List V):∀lots,(bO k r lots).length≤lots.length+1
 |[]=>Nat.le_refl _
 |p::t=>by
  unfold bO
  have:=vU k r t
  split
  ·rw [List.length_cons,List.length_cons];omega
  ·rw [List.length_cons,List.length_cons];omega
theorem aAl (is:List Nat) (rows:List (List V)) (r:List V):cV is (rows++[r])=bO (keysOf is r) r (cV is rows):=by
 unfold cV;rw [List.foldl_append];rfl
theorem rN (is:List Nat) (rows:List (List V)):(cV is rows).length≤rows.length:=by
 suffices ∀(l acc:List _),(l.foldl (fun acc r=>bO (keysOf is r) r acc) acc).length≤acc.length+l.length by
  have:=this rows []
  simpa [cV] using this
 intro l
 induction l with
 |nil=>intro acc;exact Nat.le_refl _
 |cons r t ih=>
  intro acc
  have h1:=ih (bO (keysOf is r) r acc)
  have h2:=vU (keysOf is r) r acc
  rw [List.foldl_cons,List.length_cons]
  omega
theorem aJf {k:List Key} {r:List V} {n:Nat}:∀{lots:List (List Key × List (List V))},(∀l∈lots,l.2.length≤n)→∀l∈bO k r lots,l.2.length≤n+1
 |[],_,l,hl=>by
  cases List.mem_singleton.mp hl
  exact Nat.le_add_left 1 n
 |p::t,h,l,hl=>by
  unfold bO at hl
  split at hl
  ·rcases List.mem_cons.mp hl with rfl|hl
   ·have:=h p List.mem_cons_self
    show (p.2++[r]).length≤n+1
    rw [List.length_append,List.length_singleton];omega
   ·have:=h l (List.mem_cons_of_mem _ hl)
    omega
  ·rcases List.mem_cons.mp hl with rfl|hl
   ·have:=h l List.mem_cons_self
    omega
   ·exact aJf (fun x hx=>h x (List.mem_cons_of_mem _ hx)) l hl
theorem xP (is:List Nat) (rows:List (List V)):∀l∈cV is rows,l.2.length≤rows.length:=by
 suffices ∀(l acc:List _) (n:Nat),(∀x∈acc,x.2.length≤n)→∀x∈l.foldl (fun acc r=>bO (keysOf is r) r acc) acc,x.2.length≤n+l.length by
  intro l hl
  have:=this rows [] 0 (fun x hx=>by cases hx) l hl
  omega
 intro l
 induction l with
 |nil=>intro acc n h x hx;exact h x hx
 |cons r t ih=>
  intro acc n h x hx
  have:=ih _ (n+1) (aJf h) x hx
  rw [List.length_cons]
  omega
def nZ (K:PySem.W.Frag) (H0 H:Hp) (d:Addr) (lots:List (List Key × List (List V))):Prop:=∃kvs,H d=some (.dT kvs)∧aZ (xM K H) kvs lots∧(kvs.map (·.2)).Nodup∧∀kv∈kvs,∃L,kv.2=.ref L∧H0 L=none∧L≠d
theorem xM.same {H H':Hp} {kv:List Key × V} {lot:List Key × List (List V)} (e:Same H H') (h:xM K H kv lot):xM K H' kv lot:=⟨h.1,let ⟨L,h1,h2⟩:=h.2;⟨L,h1,h2.same e⟩⟩
theorem nZ.same {H0 H H':Hp} {d:Addr} {lots:List (List Key × List (List V))} (e:Same H H') (h:nZ K H0 H d lots):nZ K H0 H' d lots:=by
 obtain ⟨kvs,h1,h2,h3,h4⟩:=h
 exact ⟨kvs,e _ _ h1,h2.imp fun _ _ r=>r.same e,h3,h4⟩
theorem aIs {H H1 H3:Hp} {d t L:Addr} {x:V} {r:List V} {is:List Nat} {rows:List (List V)} {Q:VK} (nd:H d=none) (sm:Same H H1) (hl:nZ K H H1 d (cV is rows)) (s3:Same H1 H3) (nL':H1 L=none) (g3:H3 L=some (.lst [])) (gt:H3 t=some (.tup (fY is r))) (hr':jG K H1 x r) (o1:∀i∈is,i<r.length) (o2:∀x∈r,(∃i,x=.int i)∨∃z,x=.str z) (h1000:rows.length≤1000)
  (q:∀L' vs H4,H4 L'=some (.lst vs)→vs.length<sizeLine→Same H (L2.upd H4 L' (.lst (vs++[x])))→nZ K H (L2.upd H4 L' (.lst (vs++[x]))) d (cV is (rows++[r]))→Q (.ref L') H4):aPu (.ref d) [.ref t,.ref L] H3 Q:=by
 obtain ⟨kvs,hd,hlr,hnd,hfr⟩:=hl
 have lk:kvs.length≤1000:=by
  have h1:=hlr.len
  have h2:=rN is rows
  omega
 have ekv:(keysOf is r).map kV=fY is r:=by
  unfold keysOf
  rw [List.map_map]
  refine (List.map_congr_left fun x hx=>?_).trans (List.map_id _)
  refine aD0 ?_
  unfold fY at hx
  obtain ⟨n,hn,rfl⟩:=List.mem_map.mp hx
  have:=o1 n hn
  have e:r.getD n .non=r[n]:=by simp [this]
  rw [e]
  exact o2 _ (List.getElem_mem this)
 have hd3:=s3 _ _ hd
 have nL0:H L=none:=none_of sm nL'
 have nLd:L≠d:=fun z=>by rw [z,hd] at nL';cases nL'
 have hlr3:=hlr.imp fun _ _ h=>h.same s3
 refine ⟨d,t,kvs,keysOf is r,.ref L,rfl,rfl,hd3,by rw [ekv];exact gt,Nat.lt_of_le_of_lt lk (by decide),fun v hv=>?_,fun hv=>?_⟩
 ·obtain ⟨kv,hf,hv'⟩:=Option.map_eq_some_iff.mp (show (kvs.find? fun kv=>decide (kv.1=keysOf is r)).map (·.2)=some v from hv)
  have hm:=List.mem_of_find?_eq_some hf
  obtain ⟨L',e',n1,n2⟩:=hfr kv hm
  have ev:v=.ref L':=hv'.symm.trans e'
  subst ev
  obtain ⟨j,hj⟩:=List.mem_iff_getElem?.mp hm
  obtain ⟨lot,hlot,_,L2',e2',vs,g4,g5⟩:=aV hlr3 hj
  rw [e'] at e2'
  cases e2'
  have lv:vs.length≤1000:=by
   have h1:=xP is rows lot (List.mem_of_getElem? hlot)
   have h2:=g5.len
   omega
  refine q L' vs H3 g4 (Nat.lt_of_le_of_lt lv (by decide)) (bR n1 (sm.trans s3)) ⟨kvs,by rw [upd_ne n2.symm];exact hd3,?_,hnd,hfr⟩
  rw [aAl]
  exact aIq g4 (hr'.same s3) hlr3 hnd hv
 ·have ep:putK kvs (keysOf is r) (.ref L)=kvs++[(keysOf is r,.ref L)]:=by
   unfold putK
   rw [if_neg (by rw [valV_any,hv];exact Bool.false_ne_true)]
  have gL4:L2.upd H3 d (.dT (putK kvs (keysOf is r) (.ref L))) L=some (.lst []):=by rw [upd_ne nLd];exact g3
  refine q L [] _ gL4 (by decide) (bR nL0 (bR nd (sm.trans s3))) ⟨kvs++[(keysOf is r,.ref L)],by rw [upd_ne nLd.symm,upd_same,ep],?_,?_,fun kv hkv=>?_⟩
  ·rw [aAl,aI1 (R:=xM K H3) (fun _ _ h=>h.1) hlr3 hv]
   have tup:∀{p:Addr} {ys:List V},SqT K H3 p ys→SqT K (L2.upd (L2.upd H3 d (.dT (putK kvs (keysOf is r) (.ref L)))) L (.lst ([]++[x]))) p ys:=fun h=>SqT.lG gL4 (SqT.aQz hd3 h)
   refine jD (eQ hlr3.len fun j kv lot e1 e2=>?_) (.cons ⟨rfl,L,rfl,[x],upd_same,.cons (by obtain ⟨p,e,hp⟩:=hr'.same s3;exact ⟨p,e,tup hp⟩) .nil⟩ .nil)
   obtain ⟨h1,D2,h2,vs,g4,g5⟩:=cI hlr3 e1 e2
   obtain ⟨L',e',n1,n2⟩:=hfr kv (List.mem_of_getElem? e1)
   rw [h2] at e'
   cases e'
   have nDL:D2≠L:=by
    obtain ⟨_,D3,h3,vs',g6,_⟩:=cI hlr e1 e2
    rw [h2] at h3
    cases h3
    exact ne_of_none g6 nL'
   exact ⟨h1,D2,h2,vs,by rw [upd_ne nDL,upd_ne n2];exact g4,g5.imp fun _ _ ⟨p,e,hp⟩=>⟨p,e,tup hp⟩⟩
  ·rw [List.map_append]
   refine List.nodup_append.mpr ⟨hnd,by simp,fun a ha b hb e=>?_⟩
   have eb:b=.ref L:=by simpa using hb
   rw [eb] at e
   subst e
   obtain ⟨kv,hkv,ekv'⟩:=List.mem_map.mp ha
   obtain ⟨j,hj⟩:=List.mem_iff_getElem?.mp hkv
   obtain ⟨lot,_,_,D3,h3,vs',g6,_⟩:=aV hlr hj
   have:V.ref L=.ref D3:=ekv'.symm.trans h3
   cases this
   rw [nL'] at g6
   cases g6
  ·rcases List.mem_append.mp hkv with h|h
   ·exact hfr kv h
   ·cases List.mem_singleton.mp h
    exact ⟨L,rfl,nL0,nLd⟩
theorem qK {α:Type} {l:List α} {i:Nat} {r:α} (e:l[i]?=some r):l.take (i+1)=l.take i++[r]:=by rw [List.take_add_one,e];rfl
def aNb (K:PySem.W.Frag):Sp:=fun vs H Q _=>∃D C rows is,vs=[.ref D,.ref C]∧bH K H D rows∧rows.length≤1000∧SqL K H C (is.map fun i=>V.int (i:Nat))∧is.length≤1000∧(∀r∈rows,(∀i∈is,i<r.length)∧∀x∈r,(∃i,x=.int i)∨∃z,x=.str z)∧∀d H',H d=none→Same H H'→nZ K H H' d (cV is rows)→Q (.ref d) H'
theorem aH5 (T:Txt w K mg) (wC:Ok P w K mg base 1 "picked" ["row","places"] (uM K)):Ok P w K mg base 2 "rows_by" ["rows","places"] (aNb K):=by
 refine Ok.ofV T.aJw qD (fun vs H Q E h=>?_) (fun f cdv A outer s H vs Q E hr h=>?_)
 ·obtain ⟨D,C,rows,is,rfl,_⟩:=h;rfl
 obtain ⟨D,C,rows,is,rfl,⟨us,hD,hu'⟩,hl,hC,hil,hok,q⟩:=h
 have hu:=hu_of hr
 refine ⟨_,(aC (aR (i:=2) qD.nd rfl (by trivial) zT) (aC (dR PassesOwn.never rfl (cN (vv 0)) (aK (i:=3) qD.nd rfl (by trivial)) (aF (bW (jZ PySem.F.plainAttrs_list PySem.F.slot_list_append PySem.F.type_list_append dH (jZ PySem.F.plainAttrs_dict PySem.F.slot_dict_setdefault PySem.F.type_dict_setdefault (aI2 hu) (vv 2) (aB (aH (wC.mono (by decide)) hr (by rfl) (aB (vv 3) (aB (vv 1) aA))) (aB (cB aA) aA))) (aB (vv 3) aA))))) (aF (aG (vv 2))))),?_⟩
 have lu:=hu'.len
 intro d H1 nd s1 gd
 refine ⟨_,rfl,D,rfl,⟨us,SqL.of (s1 _ _ hD)⟩,?_⟩
 refine for_list (xs:=us) (fun i σ H'=>Same H H'∧(∃l,σ=[some (.ref D),some (.ref C),some (.ref d),l])∧nZ K H H' d (cV is (rows.take i))) ⟨s1,⟨_,rfl⟩,[],gd,.nil,List.nodup_nil,fun kv h=>by cases h⟩ (fun i σ H' _ p=>SqL.of (p.1 _ _ hD)) (fun i x σ H' ex p=>?_) fun σ H' p=>?_
 ·obtain ⟨sm,⟨l,rfl⟩,hL⟩:=p
  obtain ⟨r,er,hr'⟩:=aV hu' ex
  obtain ⟨o1,o2⟩:=hok r (List.mem_of_getElem? er)
  obtain ⟨kvs,hd,_⟩:=id hL
  refine ⟨_,rfl,.inr (.inr (.inl ⟨rfl,.inr ⟨kvs,hd⟩⟩)),_,rfl,_,rfl,x,C,r,is,rfl,hr'.same sm,sm.seq hC,hil,o1,fun t H2 s2 g2=>?_⟩
  refine ⟨Nat.zero_le _,fun L H3 nL s3 g3=>?_⟩
  dsimp only [tNil]
  refine aIs nd sm hL (s2.trans s3) (none_of s2 nL) g3 (s3 _ _ g2) (hr'.same sm) o1 o2 (by rw [List.length_take];omega) fun L' vs H4 g4 lv s4 h4=>⟨.inl ⟨rfl,_,SqL.of g4⟩,_,rfl,L',vs,x,rfl,rfl,g4,lv,s4,⟨_,rfl⟩,by rw [qK er];exact h4⟩
 ·obtain ⟨sm,⟨l,rfl⟩,hL⟩:=p
  rw [List.take_of_length_le (by omega)] at hL
  exact ⟨_,rfl,q d H' nd sm hL⟩
end
end My
namespace PySem
section
variable {prog:Program} {w:World} {A:Around} {E:Value→Shared→Prop} {s:Shared}
theorem aN8 {it d:Addr} {i ep:Nat} {od:Obj} {es:Array DictEntry} {k0 v0:Value} {Q:Option Value→Shared→Prop} (ki:IsItemIter s.heap it d i es.size ep k0 v0) (gd:s.heap.get? d=some od) (dd:od.data=.dict es ep) (lt:i<es.size)
  (q:∀h',IsItemIterOut h' it d (i+1) es.size ep es[i].key es[i].val s.heap.objs.size→h'.get? s.heap.objs.size=some { cls:=.type "tuple",data:=.seq #[es[i].key,es[i].val] }→h'.objs.size=s.heap.objs.size+1 →
   (∀b o,b≠it→s.heap.get? b=some o→h'.get? b=some o)→Q (some (.ref s.heap.objs.size)) { s with heap:=h' }):wpAny (model prog w) A (pyNext (.ref it)) Q E s:=by
 have ty:s.TypeIs (.ref it) "dict_itemiterator":=⟨_,ki,rfl⟩
 have li:it<s.heap.objs.size:=Heap.lt_size ki
 unfold pyNext
 refine wpAny_bind (wpAny_attempt (wpAny_callSpecial?_slot (name:="__next__") ty F.slot_dict_itemiterator_next (wpAny_call_entry F.slot_dict_itemiterator_next ty F.entry_dict_itemiterator_next (wpAny_bind (wpAny_pure (wpAny_bind (wpAny_bind ?_)))) (F.args_dict_itemiterator_next_1 _))))
 refine wpAny_bind (wpAny_typeNameOfWhole_itemiter ty (wpAny_pure (wpAny_bind (wpAny_fieldsOf ki rfl ?_))))
 rw [show Builtin.Dict_items.ownsTuple "dict_itemiterator"=true from by decide]
 simp only [if_true]
 have nz:¬ ((Value.ref d == Value.none)=true):=Bool.false_ne_true
 show wpAny _ _ (ite ((Value.ref d == Value.none)=true) _ _) _ _ _
 rw [if_neg nz]
 refine wpAny_bind (wpAny_pure (wpAny_bind (wpAny_dictEntries gd dd ?_)))
 rw [if_neg (by simp)]
 refine wpAny_bind (wpAny_pure (wpAny_bind (wpAny_dictEpoch gd dd ?_)))
 rw [if_neg (by simp)]
 have ni:¬ ((i:Int)<0):=by omega
 refine wpAny_pure ?_
 simp only [ni,if_false,Int.toNat_natCast,Array.getElem?_eq_getElem lt]
 refine wpAny_bind (wpAny_bind (wpAny_typeNameOfWhole_itemiter ty (wpAny_pure (wpAny_bind (wpAny_isOneOf_itemiter ty ?_)))))
 show wpAny _ _ (setField (.ref it) 3 (rawInt ((i:Int)+1)) >>= _) _ _ s
 refine wpAny_bind (wpAny_setField_rec ki (by simp) fun h1 e1 s1=>?_)
 have f1:IsItemIter h1 it d (i+1) es.size ep k0 v0:=by
  have z:((i+1:Nat):Int)=(i:Int)+1:=by omega
  unfold IsItemIter
  rw [z]
  simpa [rawInt] using e1
 have ty1:Shared.TypeIs { s with heap:=h1 } (.ref it) "dict_itemiterator":=⟨_,f1,rfl⟩
 refine wpAny_bind (wpAny_holding (wpAny_bind (wpAny_isOneOf_itemiter ty1 (wpAny_bind (wpAny_isOneOf_itemiter ty1 ?_)))))
 have sz1:h1.objs.size=s.heap.objs.size:=s1.1
 show wpAny _ _ (Builtin.Dict_items.pairFromOwner (.ref it) 6 es[i].key es[i].val) _ _ { s with heap:=h1 }
 unfold Builtin.Dict_items.pairFromOwner
 refine wpAny_bind (wpAny_newTuple ?_)
 have f2:IsItemIter (h1.push { cls:=.type "tuple",data:=.seq #[es[i].key,es[i].val] }) it d (i+1) es.size ep k0 v0:=Heap.get?_push_of_some _ f1
 have t2:(h1.push { cls:=.type "tuple",data:=.seq #[es[i].key,es[i].val] }).get? s.heap.objs.size=some { cls:=.type "tuple",data:=.seq #[es[i].key,es[i].val] }:=by rw [←sz1];exact Heap.get?_push_size _ rfl
 have sz2:(h1.push { cls:=.type "tuple",data:=.seq #[es[i].key,es[i].val] }).objs.size=s.heap.objs.size+1:=by rw [Heap.size_push,sz1]
 have k2:∀b o,b≠it→s.heap.get? b=some o→(h1.push { cls:=.type "tuple",data:=.seq #[es[i].key,es[i].val] }).get? b=some o:=fun b o hb e=>Heap.get?_push_of_some _ (s1.extBut b o hb e)
 rw [show ({ s with heap:=h1 }:Shared).heap.objs.size=s.heap.objs.size from sz1]
 show wpAny _ _ (Builtin.Dict_items.ownedTupleIsFree (.ref it) >>= _) _ _ { s with heap:=h1.push { cls:=.type "tuple",data:=.seq #[es[i].key,es[i].val] } }
 generalize h1.push { cls:=.type "tuple",data:=.seq #[es[i].key,es[i].val] }=h2 at f2 t2 sz2 k2 ⊢
 unfold Builtin.Dict_items.ownedTupleIsFree
 refine wpAny_bind (wpAny_bind (wpAny_field f2 rfl (x:=.none) rfl (wpAny_pure ?_)))
 simp only [if_true]
 refine wpAny_bind (wpAny_field f2 rfl (x:=k0) rfl (wpAny_bind (wpAny_field f2 rfl (x:=v0) rfl (wpAny_bind (wpAny_setField_rec f2 (by simp) fun h3 e3 s3=>?_)))))
 have f3:IsItemIter h3 it d (i+1) es.size ep es[i].key v0:=e3
 refine wpAny_bind (wpAny_setField_rec f3 (by simp) fun h4 e4 s4=>?_)
 have f4:IsItemIter h4 it d (i+1) es.size ep es[i].key es[i].val:=e4
 refine wpAny_bind (wpAny_setField_rec f4 (by simp) fun h5 e5 s5=>?_)
 have f5:IsItemIterOut h5 it d (i+1) es.size ep es[i].key es[i].val s.heap.objs.size:=e5
 refine wpAny_bind (wpAny_setField_rec f5 (by simp) fun h6 e6 s6=>?_)
 have f6:IsItemIterOut h6 it d (i+1) es.size ep es[i].key es[i].val s.heap.objs.size:=e6
 have go:∀b o,b≠it→h2.get? b=some o→h6.get? b=some o:=fun b o hb e=>s6.extBut b o hb (s5.extBut b o hb (s4.extBut b o hb (s3.extBut b o hb e)))
 have sz6:h6.objs.size=s.heap.objs.size+1:=by
  have a3:h3.objs.size=h2.objs.size:=s3.1
  have a4:h4.objs.size=h3.objs.size:=s4.1
  have a5:h5.objs.size=h4.objs.size:=s5.1
  have a6:h6.objs.size=h5.objs.size:=s6.1
  omega
 exact wpAny_bind (wpAny_letGo (wpAny_pure (wpAny_pure ⟨_,rfl,wpAny_pure (q h6 f6 (go _ _ (Nat.ne_of_gt li) t2) sz6 fun b o hb e=>go b o hb (k2 b o hb e))⟩)))
theorem aIg {it d:Addr} {ep:Nat} {od:Obj} {es:Array DictEntry} {k0 v0:Value} {Q:Option Value→Shared→Prop} (hh:A.handled=none) (ki:IsItemIter s.heap it d es.size es.size ep k0 v0) (gd:s.heap.get? d=some od) (dd:od.data=.dict es ep)
  (q:∀h',Heap.ExtBut it s.heap h'→Q none { s with heap:=h' }):wpAny (model prog w) A (pyNext (.ref it)) Q E s:=by
 have ty:s.TypeIs (.ref it) "dict_itemiterator":=⟨_,ki,rfl⟩
 unfold pyNext
 refine wpAny_bind (wpAny_attempt (wpAny_callSpecial?_slot (name:="__next__") ty F.slot_dict_itemiterator_next (wpAny_call_entry F.slot_dict_itemiterator_next ty F.entry_dict_itemiterator_next (wpAny_bind (wpAny_pure (wpAny_bind (wpAny_bind ?_)))) (F.args_dict_itemiterator_next_1 _))))
 refine wpAny_bind (wpAny_typeNameOfWhole_itemiter ty (wpAny_pure (wpAny_bind (wpAny_fieldsOf ki rfl ?_))))
 rw [show Builtin.Dict_items.ownsTuple "dict_itemiterator"=true from by decide]
 simp only [if_true]
 have nz:¬ ((Value.ref d == Value.none)=true):=Bool.false_ne_true
 show wpAny _ _ (ite ((Value.ref d == Value.none)=true) _ _) _ _ _
 rw [if_neg nz]
 refine wpAny_bind (wpAny_pure (wpAny_bind (wpAny_dictEntries gd dd ?_)))
 rw [if_neg (by simp)]
 refine wpAny_bind (wpAny_pure (wpAny_bind (wpAny_dictEpoch gd dd ?_)))
 rw [if_neg (by simp)]
 have ni:¬ ((es.size:Int)<0):=by omega
 refine wpAny_pure ?_
 simp only [ni,if_false,Int.toNat_natCast,Array.getElem?_eq_none (Nat.le_refl es.size)]
 refine wpAny_bind (wpAny_bind (wpAny_typeNameOfWhole_itemiter ty (wpAny_pure ?_)))
 show wpAny _ _ (setField (.ref it) 2 .none >>= _) _ _ s
 refine wpAny_bind (wpAny_setField ki rfl (by simp) ?_)
 show wpAny _ _ (newExc (.type "StopIteration") [] >>= _) _ _ _
 refine wpAny_bind ?_
 simp only [newExc,newTuple,raiseNew]
 refine wpAny_bind (wpAny_newObj_type ?_ (by size_fits))
 refine wpAny_bind (m:=firstArgMember _ _) (wpAny_of_eq (a:=Value.none) (by simp only [firstArgMember];rfl) ?_)
 refine wpAny_newObj_type (wpAny_bind (wpAny_handled ?_)) (by size_fits)
 rw [show A.in1.handled=none from hh]
 refine wpAny_bind (wpAny_pure (wpAny_throw ?_))
 refine wpAny_bind (wpAny_isInstance (T:="StopIteration") (b:=true) ⟨_,Heap.get?_push_size _ rfl,rfl⟩ isSubtype_stop ?_)
 exact wpAny_pure (q _ (((Heap.SameBut.update ..).extBut.push _).push _))
theorem aM7 {d:Addr} {Q:Value→Shared→Prop} (nd:(d == sysModules)=false) (ty:s.TypeIs (.ref d) "dict")
  (q:Q (.ref s.heap.objs.size) { s with heap:=s.heap.push { cls:=.type "dict_items",data:=.fields #[.ref d] } }):wpAny (model prog w) A (call (.builtin "dict.items") [.ref d]) Q E s:=by
 refine wpAny_call_entry F.slot_dict_items ty F.entry_dict_items ?_ (F.args_dict_items_1 _)
 unfold Builtin.«dict.items» Builtin.Dict.noArgs;refine wpAny_bind (wpAny_bind (wpAny_notOrdered_dict ty ?_));show wpAny _ _ (pure d) _ _ s;refine wpAny_pure ?_
 show wpAny _ _ (Builtin.Dict.showsAll d >>= _) _ _ _;unfold Builtin.Dict.showsAll;rw [if_neg (show ¬ (d == sysModules)=true by rw [nd];exact Bool.false_ne_true)]
 exact wpAny_bind (wpAny_pure (wpAny_bind (wpAny_newObj_type (wpAny_pure ⟨_,rfl,q⟩))))
theorem aEi {v d:Addr} {ep:Nat} {od:Obj} {es:Array DictEntry} {Q:Value→Shared→Prop} (hv:s.heap.IsItemsView v d) (gd:s.heap.get? d=some od) (dd:od.data=.dict es ep)
  (q:Q (.ref s.heap.objs.size) { s with heap:=s.heap.push { cls:=.type "dict_itemiterator",data:=.fields #[.none,.bool false,.ref d,.int 0 0,.int es.size 0,.int ep 0,.none,.none] } }):wpAny (model prog w) A (pyIter (.ref v)) Q E s:=by
 obtain ⟨ov,g1,g2,g3⟩:=id hv
 refine wpAny_pyIter_slot hv.typeIs F.slot_dict_items_iter (wpAny_call_entry F.slot_dict_items_iter hv.typeIs F.entry_dict_items_iter ?_ (F.args_dict_items_iter_1 _))
 unfold Builtin.«dict_items.__iter__» Builtin.Dict_items.dictOf;refine wpAny_bind (wpAny_pure (wpAny_bind (wpAny_bind (wpAny_field g1 g3 (x:=.ref d) rfl (wpAny_pure ?_)))))
 refine wpAny_bind ?_;unfold Builtin.Dict_items.newIterator;refine wpAny_bind (wpAny_dictEntries gd dd (wpAny_bind (wpAny_dictEpoch gd dd ?_)))
 rw [show Builtin.Dict_items.ownsTuple "dict_itemiterator"=true from by decide]
 simp only [if_true]
 refine wpAny_newObj_type (wpAny_pure ⟨_,rfl,"dict_itemiterator",_,⟨_,Heap.get?_push_size _ rfl,rfl⟩,F.slot_dict_itemiterator_next.lookup,?_⟩) (by simp only [sizeOk,Builtin.Dict_items.ownedTupleFields,List.size_toArray,List.length_append,List.length_cons,List.length_nil,sizeLine_eq];omega)
 simpa [rawInt,Builtin.Dict_items.ownedTupleFields] using q
end
end PySem
namespace PySem
open Builtin in
theorem xU:entryFor table "dict_itemiterator.__iter__"=some Builtin.«dict_keyiterator.__iter__»:=entryFor_alias (id':="dict_keyiterator.__iter__") (by kernel_rfl) rfl (by decide +kernel) (by kernel_rfl)
end PySem
namespace L2
open PySem PySem.Spec PyProof.Rows
def aSd (d:Addr) (o:Obj) (kvs:List (List Key × V)):It:=
 ⟨fun i H=>H d=some (.frz o (.dT kvs))∧i<kvs.length,fun i H x H'=>∃T b kv,H T=none∧x=.ref T∧kvs[i]?=some kv∧H b=some (.tup (kv.1.map kV))∧H'=upd H T (.tup [.ref b,kv.2]),fun i H=>H d=some (.frz o (.dT kvs))∧i=kvs.length⟩
theorem aFz {P:Program} {w:World} {K:PySem.W.Frag} {elts:List Expr} {kt:Nat} {pos:Pos} (d it:Addr) (o:Obj) (kvs:List (List Key × V)) (es:Array DictEntry) (ep:Nat) (hep:o.data=.dict es ep) :
  Turn P w K (.Tuple elts kt pos) (aSd d o kvs) [it] it (fun i h=>∃k0 v0,IsItemIter h it d i kvs.length ep k0 v0) where
 mem:=by simp
 obj:=fun i h st b hb=>by
  have e:b=it:=by simpa using hb
  subst e
  obtain ⟨k0,v0,h1⟩:=st
  exact ⟨_,h1,fun v z=>by cases (show Data.fields _=Data.cell v from z)⟩
 keep:=fun i h h' st k=>by
  obtain ⟨k0,v0,h1⟩:=st
  exact ⟨k0,v0,k it (by simp) _ h1⟩
 item:=by
  intro X hP hw hK hc i pins s σ H E I hf st hg
  subst hP hw hK
  obtain ⟨k0,v0,st⟩:=st
  obtain ⟨hd,hi⟩:=hg
  obtain ⟨xs,rel,gd,he⟩:=rF hep (I.hok d _ hd)
  have lk:es.size=kvs.length:=by rw [size_of_entries he,Paired.length rel]
  have hkv:kvs[i]?=some kvs[i]:=List.getElem?_eq_getElem hi
  obtain ⟨x,hx,e1,e2,e3⟩:=kt_at rel hkv
  have hie:i<es.size:=by omega
  have ek:es[i]=entryOfKey (tupleKind (mixKind X.prog X.w)) x:=by
   have z:=entry_at he i
   rw [hx,Array.getElem?_eq_getElem hie] at z
   exact Option.some.inj z
  have ek1:es[i].key=.ref x.2.1:=by rw [ek];rfl
  have ek2:es[i].val=x.2.2:=by rw [ek];rfl
  have fit:=hf it (by simp)
  rw [←lk] at st
  refine aN8 st gd hep hie fun h' a1 a2 a3 kp=>?_
  rw [ek1,ek2] at a1 a2
  refine ⟨_,rfl,?_⟩
  have fT:H s.heap.objs.size=none:=I.hok.fresh (Nat.le_refl _)
  have nit:it≠s.heap.objs.size:=Nat.ne_of_lt (Heap.lt_size st)
  have I1:Inv X pins σ (upd H s.heap.objs.size (.tup [.ref x.2.1,kvs[i].2])) { s with heap:=h' }:=by
   refine I.drawn (ch:=[it]) (its:=[.ref x.2.1,x.2.2]) (fun b hb=>?_) (fun b o hb e=>kp b o (by simpa using hb) e) (Nat.le_refl _) (.cons rfl (.cons e3 .nil)) (small (by simp)) (.of a2 rfl ⟨_,a2,rfl,_,rfl⟩) (fun b hb=>?_)
   ·have:b=it:=by simpa using hb
    rw [this];exact fit
   ·have:b=it:=by simpa using hb
    rw [this];exact ⟨_,a1⟩
  refine wpAny_letOwnedTupleGo_items (s:={ s with heap:=h' }) a1 fun h2 z2 s2=>?_
  obtain ⟨g0,g1,g2,g3,g4,g5⟩:=fit
  have I2:Inv X pins σ (upd H s.heap.objs.size (.tup [.ref x.2.1,kvs[i].2])) { s with heap:=h2 }:=Inv.turned (s:={ s with heap:=h' }) I1 (t':=s.toks) (it:=it) (fun b o hb e=>(s2.2 b hb).trans e) (by rw [upd_ne nit];exact g0) g1 g3 g4 g5
  refine ⟨.ref s.heap.objs.size,_,I2,rfl,⟨_,x.2.1,kvs[i],fT,rfl,hkv,e2,rfl⟩,⟨_,_,by rw [←lk];exact z2⟩,fun b hb=>?_⟩
  have:b=it:=by simpa using hb
  rw [this,upd_ne nit]
  exact g0
 done:=by
  intro X hP hw hK hc i pins s σ H E I hf st hg
  subst hP hw hK
  obtain ⟨k0,v0,st⟩:=st
  obtain ⟨f0,f1,f2,f3,f4,f5⟩:=hf it (by simp)
  obtain ⟨hd,hi⟩:=hg
  obtain ⟨xs,rel,gd,he⟩:=rF hep (I.hok d _ hd)
  have lk:es.size=kvs.length:=by rw [size_of_entries he,Paired.length rel]
  rw [hi,←lk] at st
  exact aIg (I.ok.hd hc) st gd hep fun h' eb=>⟨rfl,I.turned (t':=s.toks) (fun b o hb e=>eb b o hb e) f0 f1 f3 f4 f5⟩
 self:=fun A i s Q E st h=>by
  obtain ⟨k0,v0,st⟩:=st
  have ty:s.TypeIs (.ref it) "dict_itemiterator":=⟨_,st,rfl⟩
  refine wpAny_pyIter_slot ty PySem.F.slot_dict_itemiterator_iter (wpAny_call_entry PySem.F.slot_dict_itemiterator_iter ty PySem.xU ?_ (PySem.F.args_dict_itemiterator_iter_1 _))
  show wpAny _ _ (ret (.ref it)) _ _ s
  exact wpAny_pure ⟨_,rfl,"dict_itemiterator",_,ty,PySem.F.slot_dict_itemiterator_next.lookup,h⟩
section
variable {X:Cx}
def aN1 (te:TE):TI:=fun σ H R=>te σ H fun v H1=>∃d kvs,v=.ref d∧H1 d=some (.dT kvs)∧(∀ob u,X.H₀ d≠some (.frz ob u))∧∀o,R (aSd d o kvs) (upd H1 d (.frz o (.dT kvs)))
end
section
variable {X:Cx}
theorem aK6 {elts:List Expr} {kt:Nat} {tp apos cpos:Pos} {e:Expr} {te:TE} (h:VE X e te) (hbase:attributeBase e "items" X.env (eval e X.env)=eval e X.env:=by rfl) (hline:(apos.endLine == cpos.line)=true:=by rfl) :
  VI X (.Tuple elts kt tp) (.Call (.Attribute e "items" apos) [] [] cpos) (aN1 (X:=X) te):=⟨by
 intro pins s σ H R I hh
 refine wpAny_Call_method0_late hbase hline (thn (h.1 pins s σ H _ I hh) fun v s1 ⟨x,H1,I1,r1,q1⟩=>?_)
 obtain ⟨d,kvs,e,hd,nf,q⟩:=q1
 subst e
 cases r1
 obtain ⟨z,hm,xs,rel,⟨o,es,ep,h1,h2,h3,h4,h5,h6⟩⟩:=dt_of I1.hok hd
 have lk:es.size=kvs.length:=by rw [size_of_entries h4,Paired.length rel]
 have ty:s1.TypeIs (.ref d) "dict":=(show s1.heap.DictOfH (tupleKind (mixKind X.prog X.w)) d xs from ⟨o,es,ep,h1,h2,h3,h4,h5,h6⟩).typeIs
 obtain ⟨y1,y2⟩:=tyV_is (T:="dict") I1 (show RelV (.ref d) (.ref d) from rfl) (.inr (.inr (.inl ⟨rfl,.inr ⟨kvs,hd⟩⟩)))
 refine ⟨"dict","dict.items",PySem.F.plainAttrs_dict,PySem.F.slot_dict_items,PySem.F.type_dict_items,y1,y2,Calls.callWith_builtin rfl (PySem.evalArgs_none ?_)⟩
 refine aM7 hm ty ?_
 have I2:Inv X pins σ (upd H1 d (.frz o (.dT kvs))) s1:=I1.setd hd (fun _ z=>by cases z) (fun _ z=>by cases z) (fun _ z=>by cases z) nf ⟨h1,I1.hok d _ hd⟩
 have I3:Inv X pins σ (upd H1 d (.frz o (.dT kvs))) { s1 with heap:=s1.heap.push { cls:=.type "dict_items",data:=.fields #[.ref d] } }:=I2.kept (t':=s1.toks) fun b o e=>Heap.get?_push_of_some _ e
 have gv:(s1.heap.push { cls:=.type "dict_items",data:=.fields #[.ref d] }).IsItemsView s1.heap.objs.size d:=⟨_,Heap.get?_push_size _ rfl,rfl,rfl⟩
 have gd:(s1.heap.push { cls:=.type "dict_items",data:=.fields #[.ref d] }).get? d=some o:=Heap.get?_push_of_some _ h1
 generalize s1.heap.push { cls:=.type "dict_items",data:=.fields #[.ref d] }=hp at I3 gv gd ⊢
 refine aEi (s:={ s1 with heap:=hp }) gv gd h3 ?_
 refine ⟨hp.objs.size,[hp.objs.size],_,_,_,rfl,I3.kept (t':=s1.toks) fun b o e=>Heap.get?_push_of_some _ e,aFz d _ o kvs es ep h3,?_,fun b hb=>?_,q o⟩
 ·rw [←lk]
  exact ⟨_,_,Heap.get?_push_size _ rfl⟩
 ·have e:b=hp.objs.size:=by simpa using hb
  subst e
  exact I3.fpOk (Nat.le_refl _) (I3.hok.fresh (Nat.le_refl _))⟩
end
end L2
namespace My
open PySem PySem.Spec PyProof.Rows L2
section
variable {P:Program} {w:World} {K:PySem.W.Frag} {mg:Str→Option Value} {base:Heap}
def intOf:V→Int
 |.int i=>i
 |_=>0
def fV (i:Nat) (rows:List (List V)):List V:=rows.map fun r=>r.getD i .non
def smV (hd:Hdr) (rows:List (List V)) (s:Sm):V:=match s.c with
 |none=>.int (rows.length:Nat)
 |some c=>if s.wd = "sum" then .int (aG8 ((fV (plc hd c) rows).map intOf)) else if s.wd = "least" then qF (fV (plc hd c) rows) else wJ (fV (plc hd c) rows)
def aMw (K:PySem.W.Frag):Sp:=fun vs H Q _=>∃vh D vp hd rows s k,vs=[vh,.ref D,vp]∧cM K H vh hd∧hd.length≤1000∧bH K H D rows∧0<rows.length∧rows.length≤1000∧(∀r∈rows,KdR (knds hd) r)∧fK K H vp s∧smK hd s=some k∧(s.wd = "sum"→k = "number")∧∀H',Same H H'→Q (smV hd rows s) H'
theorem aJ4 (T:Txt w K mg) (dJ:Ok P w K mg base 2 "place_of" ["head","name"] (jB K)):Ok P w K mg base 3 "summed" ["head","rows","part"] (aMw K):=by
 refine Ok.ofV T.aMj uP (fun vs H Q E h=>?_) (fun f cdv A outer s H vs Q E hr h=>?_)
 ·obtain ⟨vh,D,vp,hd,rows,sm,k,rfl,_⟩:=h;rfl
 obtain ⟨vh,D,vp,hd,rows,⟨wd,oc,nw⟩,k,rfl,hI,hl,⟨us,hD,hu'⟩,h0,h1000,hk,⟨a,rfl,hn,hs⟩,hsk,hnum,q⟩:=h
 refine ⟨_,(aC (bA (aM op_eq (aJ ix_tup (vv 2) aD (fun _ _=>rfl)) aO (nomark _)) (aF (aG (aL call_len_seq (by rfl) T.cZ cA (aB (vv 1) aA)))) aP) (aC (aR (i:=3) uP.nd rfl (by trivial) (aH (dJ.mono (by decide)) hr (by rfl) (aB (vv 0) (aB (aJ ix_tup (vv 2) aD (fun _ _=>rfl)) aA)))) (aC (gW (i0:=4) uP.nd rfl (by trivial) (N:=["row","place"]) (by trivial) (bT (defScope rZ) rfl (by decide +kernel)) rfl (cN (vv 1)) (fun cl s' H' fp=>⟨(aK (i:=0) (show (["row","place"]:List Str).Nodup from by decide +kernel) rfl (Or.inl rfl)),bJ,(aJ (cT (K:=K)) (vv 0) (vv 1) (fun _ _=>rfl))⟩)) (aC (bA (aM op_eq (aJ ix_tup (vv 2) aD (fun _ _=>rfl)) aO (nomark _)) (aF (aG (aL (zW rfl) (by rfl) T.aPo aMe (aB (vv 4) aA)))) aP) (aF (aG (eE (aM op_eq (aJ ix_tup (vv 2) aD (fun _ _=>rfl)) aO (nomark _)) (aL (aAc rfl) (by rfl) T.aPt aM8 (aB (vv 4) aA)) (aL (aAq rfl) (by rfl) T.aPn aNd (aB (vv 4) aA))))))))),?_⟩
 have lu:=hu'.len
 rcases hs with ⟨e,ec,ha⟩|⟨c,ec,hc,hw,ha⟩
 ·have ec:oc=none:=ec
  subst ec
  refine ⟨_,rfl,a,_,0,_,rfl,rfl,ha,at0 _ _,rfl,_,rfl,iteT ⟨_,rfl,D,us,rfl,.inl (SqL.of hD),?_⟩⟩
  rw [lu]
  exact q H (Same.refl H)
 ·have ec:oc=some c:=ec
  subst ec
  have hw:aCw wd:=hw
  have ha:SqT K H a [.str wd,.str c,.str nw]:=ha
  have hk':look hd c=some k:=hsk
  have hnum:wd = "sum"→k = "number":=hnum
  have q:∀H',Same H H'→Q (if wd = "sum" then .int (aG8 ((fV (plc hd c) rows).map intOf)) else if wd = "least" then qF (fV (plc hd c) rows) else wJ (fV (plc hd c) rows)) H':=q
  obtain ⟨c1,c2⟩:=eG hk'
  refine ⟨_,rfl,a,_,0,_,rfl,rfl,ha,at0 _ _,rfl,_,rfl,zV (aPl hw) ?_⟩
  refine ⟨_,rfl,_,rfl,a,_,1,_,rfl,rfl,ha,at1 _ _ _,vh,c,hd,k,rfl,hI,hl,hk',fun H1 s1=>?_⟩
  dsimp only [gName,tSeq,tAsg]
  refine cX us (fV (plc hd c) rows) (by unfold fV;rw [List.length_map];omega) [none,some (.int (plc hd c:Nat))] (bU 3 (by decide +kernel) rfl rfl (by trivial)) (small (by omega)) (fun R r=>jH (fun H' sm=>SqL.of (sm _ _ (s1 _ _ hD))) (fun R' r'=>⟨_,rfl,r'⟩) R r) (fun i x y ex ey H' R l sm rr=>?_) rfl fun C H2 s2 g2=>?_
  ·obtain ⟨r,er,p,rfl,hp⟩:=aV hu' ex
   unfold fV at ey
   rw [List.getElem?_map,er] at ey
   cases ey
   have hi:=(mJ (hk r (List.mem_of_getElem? er)) c1).1
   refine ⟨_,rfl,_,rfl,p,r,_,_,rfl,rfl,(s1.trans sm).aN hp,?_,rr H' (Same.refl _)⟩
   have e:r.getD (plc hd c) .non=r[plc hd c]:=by simp [hi]
   show atI r ((plc hd c:Nat):Int)=some (r.getD (plc hd c) .non)
   rw [e]
   exact atI_nat (List.getElem?_eq_getElem hi)
  have s02:=s1.trans s2
  have kcol:∀x∈fV (plc hd c) rows,KdV (mH k) x:=fun x hx=>by
   unfold fV at hx
   obtain ⟨r,hr',rfl⟩:=List.mem_map.mp hx
   exact (mJ (hk r hr') c1).2
  have lcol:0<(fV (plc hd c) rows).length:=by unfold fV;rw [List.length_map];exact h0
  generalize fV (plc hd c) rows=col at q g2 kcol lcol
  have ha2:=s02.aN ha
  rcases hw with rfl|rfl|rfl
  ·rw [if_pos rfl] at q
   have ek:=hnum rfl
   subst ek
   have ecol:col=(col.map intOf).map V.int:=by
    rw [List.map_map]
    refine (List.map_id _).symm.trans (List.map_congr_left fun x hx=>?_)
    obtain ⟨i,rfl⟩:=(show ∃i,x=.int i from kcol x hx)
    rfl
   refine ⟨_,rfl,a,_,0,_,rfl,rfl,ha2,at0 _ _,rfl,_,rfl,iteT ⟨_,rfl,C,col.map intOf,rfl,SqL.of (by rw [←ecol];exact g2),q H2 s02⟩⟩
  ·rw [if_neg (by decide +kernel),if_pos rfl] at q
   refine ⟨_,rfl,a,_,0,_,rfl,rfl,ha2,at0 _ _,rfl,_,rfl,iteF ⟨_,rfl,a,_,0,_,rfl,rfl,ha2,at0 _ _,rfl,_,rfl,iteT ⟨_,rfl,C,col,mH k,rfl,SqL.of g2,lcol,kcol,q H2 s02⟩⟩⟩
  ·rw [if_neg (by decide +kernel),if_neg (by decide +kernel)] at q
   refine ⟨_,rfl,a,_,0,_,rfl,rfl,ha2,at0 _ _,rfl,_,rfl,iteF ⟨_,rfl,a,_,0,_,rfl,rfl,ha2,at0 _ _,rfl,_,rfl,iteF ⟨_,rfl,C,col,mH k,rfl,SqL.of g2,lcol,kcol,q H2 s02⟩⟩⟩
theorem qR {ks:List Bool} {r:List V} (h:KdR ks r):∀x∈r,(∃i,x=.int i)∨∃z,x=.str z:=by
 unfold KdR at h
 induction h with
 |nil=>intro x hx;cases hx
 |@cons b y _ _ hy _ ih=>
  intro x hx
  rcases List.mem_cons.mp hx with rfl|hx
  ·cases b with
   |true=>exact .inl hy
   |false=>exact .inr hy
  ·exact ih x hx
theorem aB0 {X:Cx} {K:PySem.W.Frag} (hK:X.K=K:=by rfl):CallR X (.type "tuple") (aI3 K):=by subst hK;exact bN
theorem aL7 {X:Cx} {K:PySem.W.Frag} (hK:X.K=K:=by rfl):OpR X (binaryOp .Add) (aP1 K):=by subst hK;exact vN
def scG:Scope:={ kind:=.function,names:=[(".0",.local),("lot",.local),("members",.cell),("tuple",.globalImplicit),("head",.cell),("sums",.cell)],isGenerator:=false,isCoroutine:=false }
theorem aM5 {k:List Key} {r:List V} {Pr:List V→Prop} (hr:Pr r):∀{lots:List (List Key × List (List V))},(∀l∈lots,0<l.2.length∧∀x∈l.2,Pr x)→∀l∈bO k r lots,0<l.2.length∧∀x∈l.2,Pr x
 |[],_,l,hl=>by
  cases List.mem_singleton.mp hl
  exact ⟨Nat.zero_lt_one,fun x hx=>by cases List.mem_singleton.mp hx;exact hr⟩
 |p::t,h,l,hl=>by
  unfold bO at hl
  split at hl
  ·rcases List.mem_cons.mp hl with rfl|hl
   ·refine ⟨?_,fun x hx=>?_⟩
    ·show 0<(p.2++[r]).length
     rw [List.length_append,List.length_singleton];omega
    ·rcases List.mem_append.mp hx with hx|hx
     ·exact (h p List.mem_cons_self).2 x hx
     ·cases List.mem_singleton.mp hx;exact hr
   ·exact h l (List.mem_cons_of_mem _ hl)
  ·rcases List.mem_cons.mp hl with rfl|hl
   ·exact h l List.mem_cons_self
   ·exact aM5 hr (fun x hx=>h x (List.mem_cons_of_mem _ hx)) l hl
theorem aAr (is:List Nat) {Pr:List V→Prop}:∀(rows:List (List V)),(∀r∈rows,Pr r)→∀l∈cV is rows,0<l.2.length∧∀x∈l.2,Pr x:=by
 suffices ∀(l acc:List _),(∀r∈l,Pr r)→(∀x∈acc,0<x.2.length∧∀y∈x.2,Pr y)→∀x∈l.foldl (fun acc r=>bO (keysOf is r) r acc) acc,0<x.2.length∧∀y∈x.2,Pr y by
  intro rows h
  exact this rows [] h fun x hx=>by cases hx
 intro l
 induction l with
 |nil=>intro acc _ h x hx;exact h x hx
 |cons r t ih=>intro acc h1 h2 x hx;exact ih _ (fun y hy=>h1 y (List.mem_cons_of_mem _ hy)) (aM5 (h1 r List.mem_cons_self) h2) x hx
theorem aI8 {k:List Key} {r:List V} {n:Nat} (hk:k.length=n):∀{lots:List (List Key × List (List V))},(∀l∈lots,l.1.length=n)→∀l∈bO k r lots,l.1.length=n
 |[],_,l,hl=>by
  cases List.mem_singleton.mp hl
  exact hk
 |p::t,h,l,hl=>by
  unfold bO at hl
  split at hl
  ·rcases List.mem_cons.mp hl with rfl|hl
   ·exact h p List.mem_cons_self
   ·exact h l (List.mem_cons_of_mem _ hl)
  ·rcases List.mem_cons.mp hl with rfl|hl
   ·exact h l List.mem_cons_self
   ·exact aI8 hk (fun x hx=>h x (List.mem_cons_of_mem _ hx)) l hl
theorem aEh (is:List Nat):∀(rows:List (List V)),∀l∈cV is rows,l.1.length=is.length:=by
 suffices ∀(l acc:List _),(∀x∈acc,x.1.length=is.length)→∀x∈l.foldl (fun acc r=>bO (keysOf is r) r acc) acc,x.1.length=is.length by
  intro rows
  exact this rows [] fun x hx=>by cases hx
 intro l
 induction l with
 |nil=>intro acc h x hx;exact h x hx
 |cons r t ih=>intro acc h2 x hx;exact ih _ (aI8 (by unfold keysOf fY;rw [List.length_map,List.length_map]) h2) x hx
def kY (hd:Hdr) (ns:List Str) (ss:List Sm) (rows:List (List V)):List (List V):=(cV (ns.map (plc hd)) rows).map fun l=>l.1.map kV++ss.map (smV hd l.2)
def aEz (K:PySem.W.Frag):Sp:=fun vs H Q _=>∃vh D t u hd rows ns ks ss js,vs=[vh,.ref D,.ref t,u]∧cM K H vh hd∧hd.length≤1000∧bH K H D rows∧rows.length≤1000∧(∀r∈rows,KdR (knds hd) r)∧SqT K H t (ns.map V.str)∧ns.length≤1000∧Looks hd ns ks∧oR K H (fK K H) u ss∧ss.length≤1000 ∧
 aZ (fun s k=>smK hd s=some k∧(s.wd = "sum"→k = "number")) ss js∧∀D' H',H D'=none→Same H H'→bH K H' D' (kY hd ns ss rows)→Q (.ref D') H'
theorem yQ (T:Txt w K mg) (mO:Ok P w K mg base 3 "places_of" ["head","names"] (tD K)) (aJr:Ok P w K mg base 2 "rows_by" ["rows","places"] (aNb K)) (aLy:Ok P w K mg base 3 "summed" ["head","rows","part"] (aMw K)):Ok P w K mg base 4 "group_rows" ["head","rows","names","sums"] (aEz K):=by
 refine Ok.ofV T.aBs pB (fun vs H Q E h=>?_) (fun f cdv A outer s H vs Q E hr h=>?_)
 ·obtain ⟨vh,D,t,u,hd,rows,ns,ks,ss,js,rfl,_⟩:=h;rfl
 obtain ⟨vh,D,t,u,hd,rows,ns,ks,ss,js,rfl,hI,hl,hD,h1000,hk,ht,hnl,hlk,⟨p,vs,rfl,hp,hv⟩,hsl,hjs,q⟩:=h
 refine ⟨_,(aC (aR (i:=4) pB.nd rfl (by trivial) (aH (aJr.mono (by decide)) hr (by rfl) (aB (vv 1) (aB (aH (mO.mono (by decide)) hr (by rfl) (aB (vv 0) (aB (vv 2) aA))) aA)))) (aF (aG (aFk (N:=["lot","members","head","sums"]) (y0:="members") ⟨by decide +kernel,fun _ _=>rfl,fun _=>rfl,by decide +kernel,rfl,by decide +kernel,by decide +kernel⟩ (bT (defScope iH) rfl (by decide +kernel)) rfl (aK6 (vv 4)) (fun cl s' H' fp=>⟨(oH (K:=K) (n:=2) rfl (bB (aK (i:=0) (show (["lot","members","head","sums"]:List Str).Nodup from by decide +kernel) rfl (Or.inl rfl)) (bB (aK (i:=1) (show (["lot","members","head","sums"]:List Str).Nodup from by decide +kernel) rfl (Or.inr rfl) (Or.inl rfl)) dM))),bJ,(bK (aL7 (K:=K)) (vv 0) (bD (aB0 (K:=K)) (by rfl) T.bV bL (aB (aFc (M:=["lot","members","head","sums"]) (sc:=scG) (N:=["part","head","members"]) rfl rfl (by trivial) (bT scG rfl (by decide +kernel)) rfl (aIu (K:=K) (vv 3)) (fun cl2 s2' H2' fp2=>⟨(aK (i:=0) (show (["part","head","members"]:List Str).Nodup from by decide +kernel) rfl (Or.inl rfl)),bJ,(aH (aLy.mono (by decide)) hr (by rfl) (aB (vv 1) (aB (vv 2) (aB (vv 0) aA))))⟩)) aA)))⟩))))),?_⟩
 refine ⟨_,rfl,_,rfl,_,rfl,vh,hd,t,ns,ks,rfl,hI,hl,ht,hnl,hlk,fun C H1 s1 g1=>?_⟩
 refine ⟨D,C,rows,ns.map (plc hd),rfl,hD.same s1,h1000,SqL.of (by rw [List.map_map];exact g1),by rw [List.length_map];exact hnl,fun r hr'=>⟨fun i hi=>?_,qR (hk r hr')⟩,fun d H2 nd s2 ⟨kvs,hd2,hlr,hnd,hfr⟩=>?_⟩
 ·obtain ⟨n,hn',rfl⟩:=List.mem_map.mp hi
  obtain ⟨j,hj⟩:=List.mem_iff_getElem?.mp hn'
  obtain ⟨k,ek,lk⟩:=aV hlk hj
  exact (mJ (hk r hr') (eG lk).1).1
 have ll:=hlr.len
 have llen:=rN (ns.map (plc hd)) rows
 have lv:=hv.len
 have s02:=s1.trans s2
 have nd0:H d=none:=none_of s1 nd
 refine ⟨[none,none,some vh,some (.ref p)],⟨rfl,fun i y v h1 h2=>?_⟩,_,rfl,d,kvs,rfl,hd2,fun ob u e=>?_,fun o Dn hDn=>?_⟩
 ·match i,h1,h2 with
  |0,_,h2=>cases h2
  |1,_,h2=>cases h2
  |2,h1,h2=>cases h1;cases h2;exact ⟨by decide +kernel,0,rfl,rfl,by trivial⟩
  |3,h1,h2=>cases h1;cases h2;exact ⟨by decide +kernel,3,rfl,rfl,by trivial⟩
  |i+4,h1,_=>cases h1
 ·have e:H d=some (.frz ob u):=e
  rw [nd0] at e
  cases e
 have hdf:L2.upd H2 d (.frz o (.dT kvs)) d=some (.frz o (.dT kvs)):=upd_same
 have sF:Same H (L2.upd H2 d (.frz o (.dT kvs))):=bR nd0 s02
 have tF:∀{q:Addr} {zs:List V},SqT K H2 q zs→SqT K (L2.upd H2 d (.frz o (.dT kvs))) q zs:=fun h=>SqT.aQz hd2 h
 have lF:aZ (xM K (L2.upd H2 d (.frz o (.dT kvs)))) kvs (cV (ns.map (plc hd)) rows):=eQ ll fun i kv lot e1 e2=>by
  obtain ⟨h1,L,h2,us,g3,g4⟩:=cI hlr e1 e2
  obtain ⟨L',e',_,n2⟩:=hfr kv (List.mem_of_getElem? e1)
  rw [h2] at e'
  cases e'
  exact ⟨h1,L,h2,us,by rw [upd_ne n2];exact g3,g4.imp fun _ _ ⟨z,ez,hz⟩=>⟨z,ez,tF hz⟩⟩
 generalize L2.upd H2 d (.frz o (.dT kvs))=Hf at hdf sF lF hDn ⊢
 refine ⟨fun i m σ' H' ys=>i≤kvs.length∧m=kvs.length - i∧(∃l1 l2,σ'=[l1,l2,some vh,some (.ref p)])∧Same Hf H'∧H' Dn=some (.lst ys)∧aZ (jG K H') ys (((cV (ns.map (plc hd)) rows).take i).map fun l=>l.1.map kV++ss.map (smV hd l.2)),⟨kvs.length,Nat.zero_le _,rfl,⟨none,none,rfl⟩,aW hDn _,upd_same,.nil⟩,?_⟩
 rintro i m σ' H' ys ⟨hi,rfl,⟨l1,l2,rfl⟩,sm,hL,hR⟩
 refine ⟨hL,?_⟩
 by_cases hlt:i<kvs.length
 ·right
  refine ⟨⟨sm _ _ hdf,hlt⟩,fun x H3 hy=>?_⟩
  obtain ⟨T3,b,⟨kk,kvv⟩,nT,rfl,ekv,hb,rfl⟩:=hy
  obtain ⟨lot,elot,h1,L,h2,us,g3,g4⟩:=aV lF ekv
  have h2:kvv=.ref L:=h2
  have h1:kk=lot.1:=h1
  subst h2 h1
  have hm:=List.mem_of_getElem? elot
  obtain ⟨i1,i2⟩:=aAr (ns.map (plc hd)) (Pr:=KdR (knds hd)) rows hk lot hm
  have i3:=xP (ns.map (plc hd)) rows lot hm
  have s4:Same H' (L2.upd H' T3 (.tup [.ref b,.ref L])):=aW nT _
  have gT:L2.upd H' T3 (.tup [.ref b,.ref L]) T3=some (.tup [.ref b,.ref L]):=upd_same
  generalize L2.upd H' T3 (.tup [.ref b,.ref L])=H4 at s4 gT ⊢
  have sF4:=sm.trans s4
  have s04:=sF.trans sF4
  refine ⟨T3,_,rfl,SqT.of gT,rfl,_,_,rfl,_,_,rfl,rfl,?_⟩
  dsimp only [jT]
  rw [if_pos rfl]
  refine ⟨_,rfl,?_⟩
  dsimp only [tCB,tCons]
  refine aDv vs (ss.map (smV hd lot.2)) (by rw [List.length_map];omega) [none,some vh,some (.ref L)] (aPj 2 1 (by decide +kernel) (by decide +kernel) rfl rfl rfl rfl (by trivial) (by trivial)) (small (by omega)) (s04.aN hp) (fun R' r'=>⟨_,rfl,r'⟩) (fun j x y ex ey H5 R5 l5 s5 r5=>?_) rfl fun D6 H6 s6 g6=>?_
  ·obtain ⟨sm',es,hs'⟩:=aV hv ex
   obtain ⟨k,ek,hk1,hk2⟩:=aV hjs es
   rw [List.getElem?_map,es] at ey
   cases ey
   have s05:=s04.trans s5
   exact ⟨_,rfl,_,rfl,_,rfl,vh,L,x,hd,lot.2,sm',k,rfl,hI.same s05,hl,⟨us,(sF4.trans s5) _ _ g3,g4.imp fun _ _ z=>z.same (sF4.trans s5)⟩,i1,by omega,i2,hs'.tk (TK.of s05),hk1,hk2,fun H7 s7=>r5 H7 s7⟩
  ·refine ⟨D6,_,rfl,SqL.of g6,fun t7 H7 n7 s7 g7=>?_⟩
   have s47:=s6.trans s7
   have s8':=s4.trans s47
   refine ⟨b,t7,_,_,rfl,rfl,SqT.of (s8' _ _ hb),SqT.of g7,?_,fun r8 H8 s8 h8=>?_⟩
   ·have:=aEh (ns.map (plc hd)) rows lot hm
    rw [List.length_map] at this
    rw [List.length_map,List.length_map]
    exact Nat.le_trans (show lot.1.length+ss.length≤2000 by omega) (by decide)
   have s48:=s8'.trans s8
   have lR:=hR.len
   rw [List.length_map,List.length_take] at lR
   refine ⟨s48 _ _ hL,Nat.lt_of_le_of_lt (show ys.length≤1000 by omega) (by decide),kvs.length - (i+1),by omega,hlt,rfl,⟨_,_,rfl⟩,bR hDn (sm.trans s48),upd_same,?_⟩
   rw [List.take_add_one,elot]
   show aZ _ _ (List.map _ (_++[lot]))
   rw [List.map_append]
   exact jD (hR.imp fun _ _ z=>by obtain ⟨p',e',hp'⟩:=z.same s48;exact ⟨p',e',SqT.lG (s48 _ _ hL) hp'⟩) (.cons ⟨r8,rfl,SqT.lG (s48 _ _ hL) h8⟩ .nil)
 ·left
  have e:i=kvs.length:=by omega
  subst e
  refine ⟨⟨sm _ _ hdf,rfl⟩,?_⟩
  rw [ll,List.take_length] at hR
  exact q Dn H' (none_of sF hDn) (sF.trans sm) ⟨ys,hL,hR⟩
def aRy (K:PySem.W.Frag) (H:Hp) (v:V) (rs:List (List V)):Prop:=∃D,v=.ref D∧bH K H D rs
def Fit (hd:Hdr) (rs:List (List V)):Prop:=rs.length≤63∧∀r∈rs,KdR (knds hd) r
inductive RH:Qn→List Hdr→List (List (List V))→List (List V)→Prop
 |whr {q ts hd rs}:(∀t∈ts,xH hd t)→RH (.whr q ts) [hd] [rs] (aM2 hd ts rs)
 |keep {q ns hd ks rs}:Looks hd ns ks→RH (.keep q ns) [hd] [rs] (keepR hd ns rs)
 |nmd {q ns hd rs}:RH (.nmd q ns) [hd] [rs] rs
 |group {q ns ss hd ks js rs}:Looks hd ns ks→aZ (fun s k=>smK hd s=some k∧(s.wd = "sum"→k = "number")) ss js→RH (.group q ns ss) [hd] [rs] (kY hd ns ss rs)
def aMx:Sp:=fun _ _ _ _=>False
theorem aDh (T:Txt w K mg):Ok P w K mg base 1 "join_rows" ["head","rows","other_head","other_rows","pairs"] aMx:=Ok.ofV T.aGb aDf (fun _ _ _ _ h=>h.elim) (fun _ _ _ _ _ _ _ _ _ _ h=>h.elim)
theorem yM (T:Txt w K mg):Ok P w K mg base 1 "first_rows" ["head","rows","keys","many"] aMx:=Ok.ofV T.aC9 yS (fun _ _ _ _ h=>h.elim) (fun _ _ _ _ _ _ _ _ _ _ h=>h.elim)
theorem aAt (T:Txt w K mg):Ok P w K mg base 1 "sorted_by" ["rows","place","way"] aMx:=Ok.ofV T.aD6 aBm (fun _ _ _ _ h=>h.elim) (fun _ _ _ _ _ _ _ _ _ _ h=>h.elim)
def aPm (K:PySem.W.Frag):Sp:=fun vs H Q _=>∃v x y us ws q ihds irs rs,vs=[v,.ref x,.ref y]∧IsQ K H v q∧SqL K H x us∧aZ (cM K H) us ihds∧(∀h∈ihds,h.length≤100)∧SqL K H y ws∧aZ (aRy K H) ws irs∧aZ Fit ihds irs∧RH q ihds irs rs∧∀D' H',(H D'=none∨.ref D'∈ws)→Same H H'→bH K H' D' rs→Q (.ref D') H'
theorem aDd (T:Txt w K mg) (aCy:Ok P w K mg base 4 "where_rows" ["head","rows","tests"] (aDr K)) (aEw:Ok P w K mg base 4 "keep_rows" ["head","rows","names"] (aF2 K)) (aDb:Ok P w K mg base 4 "group_rows" ["head","rows","names","sums"] (aEz K)):Ok P w K mg base 5 "rows_here" ["question","heads","rows"] (aPm K):=by
 have aE3:=aDh (P:=P) (base:=base) T
 have aCj:=yM (P:=P) (base:=base) T
 refine Ok.ofV T.aEj rC (fun vs H Q E h=>?_) (fun f cdv A outer s H vs Q E hr h=>?_)
 ·obtain ⟨v,x,y,us,ws,q0,ihds,irs,rs,rfl,_⟩:=h;rfl
 obtain ⟨v,x,y,us,ws,q0,ihds,irs,rs,rfl,hq,hx,hu,hlen,hy,hw,hf,hh,q⟩:=h
 refine ⟨_,(aC (aR (i:=3) rC.nd rfl (by trivial) (aJ ix_tup (vv 0) aD (fun _ _=>rfl))) (aC (bA (aM op_eq (vv 3) aO (nomark _)) (aF (aG (aH (aCy.mono (by decide)) hr (by rfl) (aB (aJ ix_list (vv 1) aD (fun _ _=>rfl)) (aB (aJ ix_list (vv 2) aD (fun _ _=>rfl)) (aB (aJ ix_tup (vv 0) aD (fun _ _=>rfl)) aA)))))) aP) (aC (bA (aM op_eq (vv 3) aO (nomark _)) (aF (aG (aH (aEw.mono (by decide)) hr (by rfl) (aB (aJ ix_list (vv 1) aD (fun _ _=>rfl)) (aB (aJ ix_list (vv 2) aD (fun _ _=>rfl)) (aB (aJ ix_tup (vv 0) aD (fun _ _=>rfl)) aA)))))) aP) (aC (bA (aM op_eq (vv 3) aO (nomark _)) (aF (aG (aJ ix_list (vv 2) aD (fun _ _=>rfl)))) aP) (aC (bA (aM op_eq (vv 3) aO (nomark _)) (aF (aG (aH (aDb.mono (by decide)) hr (by rfl) (aB (aJ ix_list (vv 1) aD (fun _ _=>rfl)) (aB (aJ ix_list (vv 2) aD (fun _ _=>rfl)) (aB (aJ ix_tup (vv 0) aD (fun _ _=>rfl)) (aB (aJ ix_tup (vv 0) aD (fun _ _=>rfl)) aA))))))) aP) (aC (bA (aM op_eq (vv 3) aO (nomark _)) (aF (aG (aH (aCj.mono (by decide)) hr (by rfl) (aB (aJ ix_list (vv 1) aD (fun _ _=>rfl)) (aB (aJ ix_list (vv 2) aD (fun _ _=>rfl)) (aB (aJ ix_tup (vv 0) aD (fun _ _=>rfl)) (aB (aJ ix_tup (vv 0) aD (fun _ _=>rfl)) aA))))))) aP) (aF (aG (aH (aE3.mono (by decide)) hr (by rfl) (aB (aJ ix_list (vv 1) aD (fun _ _=>rfl)) (aB (aJ ix_list (vv 2) aD (fun _ _=>rfl)) (aB (aJ ix_list (vv 1) aD (fun _ _=>rfl)) (aB (aJ ix_list (vv 2) aD (fun _ _=>rfl)) (aB (aJ ix_tup (vv 0) aD (fun _ _=>rfl)) aA)))))))))))))),?_⟩
 cases hh with
 |whr ht=>
  cases hq with
  |whr a b c=>
   cases hu with
   |cons h1 t1=>
    cases t1
    cases hw with
    |cons w1 t2=>
     cases t2
     cases hf with
     |cons f1 _=>
      obtain ⟨D,rfl,hD⟩:=w1
      have hl:=hlen _ List.mem_cons_self
      refine ⟨_,rfl,_,_,0,_,rfl,rfl,a,at0 _ _,?_⟩
      refine ⟨_,rfl,rfl,_,rfl,iteT ?_⟩
      exact ⟨_,rfl,x,_,0,_,rfl,rfl,hx,at0 _ _,_,rfl,y,_,0,_,rfl,rfl,hy,at0 _ _,_,rfl,_,_,2,_,rfl,rfl,a,at2 _ _ _ _,_,D,_,_,_,_,rfl,h1,by omega,hD,by have:=f1.1;exact small (by omega),f1.2,c.1,by have:=c.2.2;omega,ht,fun D' H' n' s' h'=>q D' H' (.inl n') s' h'⟩
 |keep hk=>
  cases hq with
  |keep a b c=>
   cases hu with
   |cons h1 t1=>
    cases t1
    cases hw with
    |cons w1 t2=>
     cases t2
     cases hf with
     |cons f1 _=>
      obtain ⟨D,rfl,hD⟩:=w1
      have hl:=hlen _ List.mem_cons_self
      refine ⟨_,rfl,_,_,0,_,rfl,rfl,a,at0 _ _,?_⟩
      refine ⟨_,rfl,rfl,_,rfl,iteF ⟨_,rfl,rfl,_,rfl,iteT ?_⟩⟩
      have l8:=c.2.2
      obtain ⟨⟨t,us',rfl,ht,hr'⟩,_⟩:=c
      rw [vZ hr'] at ht
      exact ⟨_,rfl,x,_,0,_,rfl,rfl,hx,at0 _ _,_,rfl,y,_,0,_,rfl,rfl,hy,at0 _ _,_,rfl,_,_,2,_,rfl,rfl,a,at2 _ _ _ _,_,D,t,_,_,_,_,rfl,h1,by omega,hD,by have:=f1.1;exact small (by omega),f1.2,ht,by omega,hk,fun D' H' n' s' h'=>q D' H' (.inl n') s' h'⟩
 |nmd=>
  cases hq with
  |nmd a b c=>
   cases hw with
   |cons w1 t2=>
    cases t2
    obtain ⟨D,rfl,hD⟩:=w1
    refine ⟨_,rfl,_,_,0,_,rfl,rfl,a,at0 _ _,?_⟩
    refine ⟨_,rfl,rfl,_,rfl,iteF ⟨_,rfl,rfl,_,rfl,iteF ⟨_,rfl,rfl,_,rfl,iteT ?_⟩⟩⟩
    exact ⟨_,rfl,y,_,0,_,rfl,rfl,hy,at0 _ _,q D H (.inr List.mem_cons_self) (Same.refl H) hD⟩
 |group hlk hjs=>
  cases hq with
  |group a b c e=>
   cases hu with
   |cons h1 t1=>
    cases t1
    cases hw with
    |cons w1 t2=>
     cases t2
     cases hf with
     |cons f1 _=>
      obtain ⟨D,rfl,hD⟩:=w1
      have hl:=hlen _ List.mem_cons_self
      have l63:=f1.1
      refine ⟨_,rfl,_,_,0,_,rfl,rfl,a,at0 _ _,?_⟩
      refine ⟨_,rfl,rfl,_,rfl,iteF ⟨_,rfl,rfl,_,rfl,iteF ⟨_,rfl,rfl,_,rfl,iteF ⟨_,rfl,rfl,_,rfl,iteT ?_⟩⟩⟩⟩
      have l8:=c.2.2
      have l9:=e.2.2
      obtain ⟨⟨t,us',rfl,ht,hr'⟩,_⟩:=c
      rw [vZ hr'] at ht
      exact ⟨_,rfl,x,_,0,_,rfl,rfl,hx,at0 _ _,_,rfl,y,_,0,_,rfl,rfl,hy,at0 _ _,_,rfl,_,_,2,_,rfl,rfl,a,rfl,_,rfl,_,_,3,_,rfl,rfl,a,rfl,_,D,t,_,_,_,_,_,_,_,rfl,h1,by omega,hD,by omega,f1.2,ht,by omega,hlk,e.1,by omega,hjs,fun D' H' n' s' h'=>q D' H' (.inl n') s' h'⟩
def TabsAt (K:PySem.W.Frag) (H:Hp) (tb:Addr) (tabs:Str→Option (Addr × List (List V))):Prop:=∃kvs,H tb=some (.dK kvs)∧∀n D rs,tabs n=some (D,rs)→valV kvs (Sum.inr n)=some (.ref D)∧bH K H D rs
theorem TabsAt.same {H H':Hp} {tb:Addr} {tabs:Str→Option (Addr × List (List V))} (e:Same H H') (h:TabsAt K H tb tabs):TabsAt K H' tb tabs:=by
 obtain ⟨kvs,h1,h2⟩:=h
 exact ⟨kvs,e _ _ h1,fun n D rs h=>⟨(h2 n D rs h).1,(h2 n D rs h).2.same e⟩⟩
inductive RQ (hs:Str→Option Hdr) (tabs:Str→Option (Addr × List (List V))):Qn→List (List V)→Prop
 |table {n D rs}:tabs n=some (D,rs)→RQ hs tabs (.table n) rs
 |one {q k h1 r1 rs}:kids q=[k]→HQ hs k h1→RQ hs tabs k r1→Fit h1 r1→RH q [h1] [r1] rs→RQ hs tabs q rs
theorem aO9 {K:PySem.W.Frag} {H:Hp} {v:V} {q:Qn} {i1:List Hdr} {i2:List (List (List V))} {rs:List (List V)} (h:RH q i1 i2 rs) (hq:IsQ K H v q):∃a s xs,v=.ref a∧SqT K H a (.str s::xs)∧decide (V.str s=V.str "table")=false:=by
 cases h <;> cases hq
 ·exact ⟨_,"where",_,rfl,by assumption,by decide +kernel⟩
 ·exact ⟨_,"keep",_,rfl,by assumption,by decide +kernel⟩
 ·exact ⟨_,"named",_,rfl,by assumption,by decide +kernel⟩
 ·exact ⟨_,"group",_,rfl,by assumption,by decide +kernel⟩
theorem aAg {K:PySem.W.Frag} {Dk:Addr} {u:V} {H1:Hp} {σ0:L2.St} {te:TE} {Q:VK} (gD:H1 Dk=some (.lst [u]))
  (h:∀D R,H1 D=none→(∀y H5,Same (L2.upd H1 D (.lst [])) H5→Q (.ref D) (L2.upd H5 D (.lst [y]))→R y H5)→te (σ0.set 0 (some u)) (L2.upd H1 D (.lst [])) R):wW (Itl K Dk) H1 σ0 (gName 0) jT te Q:=by
 intro D hD
 refine ⟨fun i m σ' H' ys=>(i=0∧m=1∧σ'=σ0∧H'=L2.upd H1 D (.lst [])∧ys=[])∨(i=1∧m=0∧H' Dk=some (.lst [u])∧H' D=some (.lst ys)∧Q (.ref D) H'),⟨1,.inl ⟨rfl,rfl,rfl,rfl,rfl⟩⟩,?_⟩
 rintro i m σ' H' ys (⟨rfl,rfl,rfl,rfl,rfl⟩|⟨rfl,rfl,g1,g2,g3⟩)
 ·have hn:=ne_of_none gD hD
  have g:L2.upd H1 D (.lst []) Dk=some (.lst [u]):=by rw [upd_ne hn];exact gD
  refine ⟨upd_same,.inr ⟨⟨[u],u,SqL.of g,rfl⟩,fun x H2 hy=>?_⟩⟩
  obtain ⟨rfl,e2⟩:=hy
  have e3:=e2 [u] (SqL.of g)
  cases e3
  show te _ _ _
  refine h D _ hD fun y H5 s5 q5=>⟨s5 _ _ upd_same,by decide,0,by decide,.inr ⟨rfl,rfl,?_,upd_same,q5⟩⟩
  rw [upd_ne hn]
  exact s5 _ _ g
 ·exact ⟨g2,.inl ⟨⟨[u],SqL.of g1,Nat.le_refl _⟩,g3⟩⟩
theorem aIo {H:Hp} {tb:Addr} {kvs:List (Key × V)} {k:Key} {v:V} (hk:H tb=some (.dK kvs)) (e:valV kvs k=some v):DGet H tb (kV k) (some v):=by rw [←e];exact DGet.k hk
def aM0 (K:PySem.W.Frag) (n:Nat):Sp:=fun vs H Q _=>∃d tb v hs tabs q rs,vs=[.ref d,.ref tb,v]∧iR K H d hs∧TabsAt K H tb tabs∧IsQ K H v q∧size q≤n∧size q≤20∧RQ hs tabs q rs∧∀D' H',(H D'=none∨∃n rs,tabs n=some (D',rs))→Same H H'→bH K H' D' rs→Q (.ref D') H'
theorem nJ (T:Txt w K mg) (cL:Ok P w K mg base 1 "questions_in" ["question"] (aJd K)) (uV:Ok P w K mg base 5 "rows_here" ["question","heads","rows"] (aPm K)) (iU:Ok P w K mg base 27 "head_of" ["heads","question"] (aEc K)) :
  ∀n:Nat,Ok P w K mg base (n+28) "rows_within" ["heads","tables","question"] (aM0 K n)
 |0=>by
  refine Ok.ofV T.oX fM (fun vs H Q E h=>?_) (fun f cdv A outer s H vs Q E hr h=>?_)
  ·obtain ⟨d,tb,v,hs,tabs,q0,rs,rfl,_⟩:=h;rfl
  ·obtain ⟨d,tb,v,hs,tabs,q0,rs,rfl,_,_,hq,hz,_⟩:=h
   have e:=mY q0
   have o:=qP hq
   omega
 |n+1=>by
  have dX:=nJ T cL uV iU n
  refine Ok.ofV T.oX fM (fun vs H Q E h=>?_) (fun f cdv A outer s H vs Q E hr h=>?_)
  ·obtain ⟨d,tb,v,hs,tabs,q0,rs,rfl,_⟩:=h;rfl
  obtain ⟨d,tb,v,hs,tabs,q0,rs,rfl,hds,htb,hq,hz,h20,hh,q⟩:=h
  have hu:=hu_of hr
  refine ⟨_,(aC (bA (aM op_eq (aJ ix_tup (vv 2) aD (fun _ _=>rfl)) aO (nomark _)) (aF (aG (rR hu (vv 1) (aJ ix_tup (vv 2) aD (fun _ _=>rfl)) (fun _ _=>rfl)))) aP) (aC (aR (i:=3) fM.nd rfl (by trivial) (aH (cL.mono (by omega)) hr (by rfl) (aB (vv 2) aA))) (aC (gW (i0:=4) fM.nd rfl (by trivial) (N:=["part","heads","tables"]) (by trivial) (bT (defScope dU) rfl (by decide +kernel)) rfl (cN (vv 3)) (fun cl s' H' fp=>⟨(aK (i:=0) (show (["part","heads","tables"]:List Str).Nodup from by decide +kernel) rfl (Or.inl rfl)),bJ,(aH (dX.mono (by omega)) hr (by rfl) (aB (vv 1) (aB (vv 2) (aB (vv 0) aA))))⟩)) (aF (aG (aH (uV.mono (by omega)) hr (by rfl) (aB (vv 2) (aB (bM (N:=["part","heads"]) (by trivial) (bT (defScope dU) rfl (by decide +kernel)) rfl (cN (vv 3)) (fun cl s' H' fp=>⟨(aK (i:=0) (show (["part","heads"]:List Str).Nodup from by decide +kernel) rfl (Or.inl rfl)),bJ,(aH (iU.mono (by omega)) hr (by rfl) (aB (vv 1) (aB (vv 0) aA)))⟩)) (aB (vv 4) aA))))))))),?_⟩
  cases hh with
  |table ht=>
   cases hq with
   |table a b=>
    obtain ⟨kvs,hk,hv⟩:=htb
    obtain ⟨v1,v2⟩:=hv _ _ _ ht
    have g:=aIo hk v1
    exact ⟨_,rfl,_,_,0,_,rfl,rfl,a,at0 _ _,rfl,_,rfl,iteT ⟨_,rfl,_,rfl,_,_,1,_,rfl,rfl,a,at1 _ _ _,tb,_,rfl,g,q _ H (.inr ⟨_,_,ht⟩) (Same.refl H) v2⟩⟩
  |@one _ k1 h1 r1 _ hk hh1 hr1 hf hrh=>
   obtain ⟨a,z,zs,rfl,ha,hne⟩:=aO9 hrh hq
   refine ⟨_,rfl,_,_,0,_,rfl,rfl,ha,at0 _ _,rfl,_,rfl,zV hne ?_⟩
   refine ⟨_,rfl,_,q0,H,rfl,Same.refl H,hq,fun Dk H1 us fD s1 gD hus=>?_⟩
   rw [hk] at hus
   cases hus with
   |cons hu0 t0=>
   cases t0
   have kz:=aFb (by rw [hk];exact List.mem_cons_self) hq
   dsimp only [gName,tSeq,tAsg]
   refine jY [none,some (.ref d),some (.ref tb)] (aCz 0 1 (by decide +kernel) (by decide +kernel) rfl rfl rfl rfl (by trivial) (by trivial)) ⟨_,rfl,Dk,rfl,⟨_,SqL.of gD⟩,aAg gD fun D R hD r=>?_⟩
   have s2:Same H1 (L2.upd H1 D (.lst [])):=aW hD _
   refine ⟨_,rfl,_,rfl,_,rfl,d,tb,_,hs,tabs,_,_,rfl,hds.same (s1.trans s2),htb.same (s1.trans s2),hu0.same (s1.trans s2),by omega,by omega,hr1,fun D' H5 fr s5 hrs=>r _ H5 s5 ?_⟩
   have hDD:D'≠D:=by
    rcases fr with fr|⟨n',rs',e⟩
    ·rintro rfl
     rw [upd_same] at fr
     cases fr
    ·obtain ⟨kvs,_,hv⟩:=htb.same s1
     obtain ⟨us',g',_⟩:=(hv _ _ _ e).2
     exact ne_of_none g' hD
   have s6:Same H1 (L2.upd H5 D (.lst [.ref D'])):=bR hD (s2.trans s5)
   have hrs6:bH K (L2.upd H5 D (.lst [.ref D'])) D' r1:=by
    obtain ⟨us',g',hg⟩:=hrs
    exact ⟨us',by rw [upd_ne hDD];exact g',hg.imp fun _ _ ⟨p,ep,hp⟩=>⟨p,ep,SqT.lG (s5 _ _ upd_same) hp⟩⟩
   have gDD:L2.upd H5 D (.lst [.ref D']) D=some (.lst [.ref D']):=upd_same
   generalize L2.upd H5 D (.lst [.ref D'])=H6 at s6 hrs6 gDD ⊢
   refine ⟨_,rfl,?_⟩
   dsimp only [tCons]
   refine jY [none,some (.ref d)] (bU 0 (by decide +kernel) rfl rfl (by trivial)) ⟨_,rfl,Dk,rfl,⟨_,SqL.of (s6 _ _ gD)⟩,aAg (s6 _ _ gD) fun D2 R2 hD2 r2=>?_⟩
   have s7:Same H6 (L2.upd H6 D2 (.lst [])):=aW hD2 _
   have sA:=s1.trans (s6.trans s7)
   refine ⟨_,rfl,_,rfl,d,_,hs,k1,h1,rfl,hds.same sA,hu0.same sA,by omega,hh1,fun v' H7 s8 hI=>r2 _ H7 s8 ?_⟩
   have s9:Same H6 (L2.upd H7 D2 (.lst [v'])):=bR hD2 (s7.trans s8)
   have hI9:cM K (L2.upd H7 D2 (.lst [v'])) v' h1:=by
    obtain ⟨b,vs',rfl,hb,hv⟩:=hI
    exact ⟨b,vs',rfl,SqT.lG (s8 _ _ upd_same) hb,hv.imp fun _ _ ⟨p,ep,hp⟩=>⟨p,ep,SqT.lG (s8 _ _ upd_same) hp⟩⟩
   have g9:L2.upd H7 D2 (.lst [v']) D2=some (.lst [v']):=upd_same
   generalize L2.upd H7 D2 (.lst [v'])=H9 at s9 hI9 g9 ⊢
   have s0:=s1.trans (s6.trans s9)
   have gd:=hh1.good
   refine ⟨_,rfl,_,D2,D,[v'],[.ref D'],q0,[h1],[r1],rs,rfl,hq.same s0,SqL.of g9,.cons hI9 .nil,fun h hm=>?_,SqL.of (s9 _ _ gDD),.cons ⟨D',rfl,hrs6.same s9⟩ .nil,.cons hf .nil,hrh,fun D3 H3 fr3 s3 h3=>q D3 H3 ?_ (s0.trans s3) h3⟩
   ·cases hm with
    |head=>have:=gd.2.2;omega
    |tail _ z=>cases z
   ·rcases fr3 with z|z
    ·exact .inl (none_of s0 z)
    ·cases z with
     |head=>
      rcases fr with fr|fr
      ·exact .inl (none_of (s1.trans s2) fr)
      ·exact .inr fr
     |tail _ z=>cases z
theorem kJ {α β:Type} {R:α→β→Prop} {as:List α} {bs:List β} (h:aZ R as bs):Al2 R as bs:=by
 induction h with
 |nil=>exact .nil
 |cons r _ ih=>exact .cons r ih
theorem mX {α β:Type} {R:α→β→Prop} {as:List α} {bs:List β} (h:Al2 R as bs):aZ R as bs:=by
 induction h with
 |nil=>exact .nil
 |cons r _ ih=>exact .cons r ih
theorem aO0 {K:PySem.W.Frag} {H:Hp} {v:V} {q:Qn} {hs:Str→Option Hdr} {tabs:Str→Option (Addr × List (List V))} {rs:List (List V)} (h:RQ hs tabs q rs) (hq:IsQ K H v q):∃a s xs,v=.ref a∧SqT K H a (.str s::xs)∧decide (V.str s=V.str "first")=false:=by
 cases h with
 |table _=>cases hq;exact ⟨_,"table",_,rfl,by assumption,by decide +kernel⟩
 |one _ _ _ _ h=>
  cases h <;> cases hq
  ·exact ⟨_,"where",_,rfl,by assumption,by decide +kernel⟩
  ·exact ⟨_,"keep",_,rfl,by assumption,by decide +kernel⟩
  ·exact ⟨_,"named",_,rfl,by assumption,by decide +kernel⟩
  ·exact ⟨_,"group",_,rfl,by assumption,by decide +kernel⟩
def aNc (K:PySem.W.Frag):Sp:=fun vs H Q _=>∃vh D t rs ks,vs=[vh,.ref D,.ref t]∧SqT K H t []∧bH K H D rs∧rs.length≤63∧ks≠[]∧(∀r∈rs,KdR ks r)∧∀D' H',H D'=none→Same H H'→bH K H' D' (srt rs)→Q (.ref D') H'
theorem aHr (T:Txt w K mg) (dJ:Ok P w K mg base 2 "place_of" ["head","name"] (jB K)):Ok P w K mg base 3 "ordered" ["head","rows","keys"] (aNc K):=by
 have aEs:=aAt (P:=P) (base:=base) T
 refine Ok.ofV T.aJ6 lL (fun vs H Q E h=>?_) (fun f cdv A outer s H vs Q E hr h=>?_)
 ·obtain ⟨vh,D,t,rs,ks,rfl,_⟩:=h;rfl
 obtain ⟨vh,D,t,rs,ks,rfl,ht,⟨us,hD,hu⟩,h63,hne,hk,q⟩:=h
 refine ⟨_,(aC (aR (i:=3) lL.nd rfl (by trivial) (aL lH (by rfl) T.qL oJ (aB (vv 1) aA))) (aC (dR PassesOwn.never rfl (aOi (by rfl) T.aIb (aB (vv 2) aA)) (aK (i:=4) lL.nd rfl (by trivial)) (aF (aR (i:=3) lL.nd rfl (by trivial) (aH (aEs.mono (by decide)) hr (by rfl) (aB (vv 3) (aB (aH (dJ.mono (by decide)) hr (by rfl) (aB (vv 0) (aB (aJ ix_tup (vv 4) aD (fun _ _=>rfl)) aA))) (aB (aJ ix_tup (vv 4) aD (fun _ _=>rfl)) aA))))))) (aF (aG (vv 3))))),?_⟩
 have lu:=hu.len
 refine ⟨_,rfl,D,us,rs,ks,rfl,SqL.of hD,kJ hu,by omega,hne,hk,fun D' H' us' hN sm hD' hu'=>?_⟩
 refine ⟨_,rfl,t,[],rfl,sm.aN ht,?_⟩
 refine aMq (xs:=[]) (fun i σ H2=>H2=H'∧σ[3]?=some (some (.ref D'))) ⟨rfl,rfl⟩ (fun i σ H2 _ p=>by rw [p.1];exact sm.aN ht) (fun i x σ H2 hi=>absurd hi (Nat.not_lt_zero _)) fun σ H2 ⟨e1,e2⟩=>?_
 subst e1
 exact ⟨_,e2,q D' _ hN sm ⟨us',hD',(mX hu').imp fun _ _ r=>r.same sm⟩⟩
def aNf (K:PySem.W.Frag):Sp:=fun vs H Q _=>∃vh D v rs ks a z zs,vs=[vh,.ref D,v]∧v=.ref a∧SqT K H a (.str z::zs)∧decide (V.str z=V.str "first")=false∧bH K H D rs∧rs.length≤63∧ks≠[]∧(∀r∈rs,KdR ks r)∧∀D' H',H D'=none→Same H H'→bH K H' D' (srt rs)→Q (.ref D') H'
theorem pN (T:Txt w K mg) (aKy:Ok P w K mg base 3 "ordered" ["head","rows","keys"] (aNc K)):Ok P w K mg base 4 "in_answer_order" ["head","rows","question"] (aNf K):=by
 refine Ok.ofV T.sS qH (fun vs H Q E h=>?_) (fun f cdv A outer s H vs Q E hr h=>?_)
 ·obtain ⟨vh,D,v,rs,ks,a,z,zs,rfl,_⟩:=h;rfl
 obtain ⟨vh,D,v,rs,ks,a,z,zs,rfl,rfl,ha,hz,hD,h63,hne,hk,q⟩:=h
 refine ⟨_,(aF (aG (aH (aKy.mono (by decide)) hr (by rfl) (aB (vv 0) (aB (vv 1) (aB (eE (aM op_eq (aJ ix_tup (vv 2) aD (fun _ _=>rfl)) aO (nomark _)) (aJ ix_tup (vv 2) aD (fun _ _=>rfl)) (aQ6 aA)) aA)))))),?_⟩
 refine ⟨_,rfl,_,rfl,_,rfl,_,_,0,_,rfl,rfl,ha,at0 _ _,rfl,_,rfl,zV hz ?_⟩
 refine ⟨Nat.zero_le _,fun t hN0=>?_⟩
 have s1:Same H (L2.upd H t (.tup [])):=aW hN0 _
 exact ⟨vh,D,t,rs,ks,rfl,SqT.of upd_same,hD.same s1,h63,hne,hk,fun D' H' hN s2 h2=>q D' H' (none_of s1 hN) (s1.trans s2) h2⟩
def uF (K:PySem.W.Frag):Sp:=fun vs H Q _=>∃d tb v hs tabs q hd rs,vs=[.ref d,.ref tb,v]∧iR K H d hs∧TabsAt K H tb tabs∧IsQ K H v q∧size q≤20∧HQ hs q hd∧RQ hs tabs q rs∧Fit hd rs∧∀D' H',H D'=none→Same H H'→bH K H' D' (srt rs)→Q (.ref D') H'
theorem vP {hd:Hdr} (h:Good hd):knds hd≠[]:=fun z=>by
 have:=congrArg List.length z
 unfold knds at this
 rw [List.length_map] at this
 have h1:=h.2.1
 rw [this] at h1
 exact absurd h1 (by decide)
theorem aHo (T:Txt w K mg) (iU:Ok P w K mg base 27 "head_of" ["heads","question"] (aEc K)) (dX:Ok P w K mg base 48 "rows_within" ["heads","tables","question"] (aM0 K 20)):Ok P w K mg base 49 "rows_of" ["heads","tables","question"] (uF K):=by
 refine Ok.ofV T.aKs aH7 (fun vs H Q E h=>?_) (fun f cdv A outer s H vs Q E hr h=>?_)
 ·obtain ⟨d,tb,v,hs,tabs,q0,hd,rs,rfl,_⟩:=h;rfl
 obtain ⟨d,tb,v,hs,tabs,q0,hd,rs,rfl,hds,htb,hq,hz,hh,hr1,hf,q⟩:=h
 refine ⟨_,(aC (bW (aH (iU.mono (by decide)) hr (by rfl) (aB (vv 0) (aB (vv 2) aA)))) (aF (aG (aL lH (by rfl) T.qL oJ (aB (aH (dX.mono (by decide)) hr (by rfl) (aB (vv 0) (aB (vv 1) (aB (vv 2) aA)))) aA))))),?_⟩
 refine ⟨_,rfl,_,rfl,d,v,hs,q0,hd,rfl,hds,hq,hz,hh,fun v' H1 s1 _=>?_⟩
 refine ⟨_,rfl,_,rfl,_,rfl,d,tb,v,hs,tabs,q0,rs,rfl,hds.same s1,htb.same s1,hq.same s1,hz,hz,hr1,fun D H2 _ s2 ⟨us,hD,hu⟩=>?_⟩
 have lu:=hu.len
 refine ⟨D,us,rs,knds hd,rfl,SqL.of hD,kJ hu,by have:=hf.1;omega,vP hh.good,hf.2,fun D' H3 us' hN s3 hD' hu'=>?_⟩
 exact q D' H3 (none_of (s1.trans s2) hN) (s1.trans (s2.trans s3)) ⟨us',hD',(mX hu').imp fun _ _ r=>r.same s3⟩
theorem aMl (T:Txt w K mg) (iU:Ok P w K mg base 27 "head_of" ["heads","question"] (aEc K)) (dX:Ok P w K mg base 48 "rows_within" ["heads","tables","question"] (aM0 K 20)) (sJ:Ok P w K mg base 4 "in_answer_order" ["head","rows","question"] (aNf K)):Ok P w K mg base 49 "whole" ["heads","tables","question"] (uF K):=by
 refine Ok.ofV T.aOl aDz (fun vs H Q E h=>?_) (fun f cdv A outer s H vs Q E hr h=>?_)
 ·obtain ⟨d,tb,v,hs,tabs,q0,hd,rs,rfl,_⟩:=h;rfl
 obtain ⟨d,tb,v,hs,tabs,q0,hd,rs,rfl,hds,htb,hq,hz,hh,hr1,hf,q⟩:=h
 refine ⟨_,(aC (aR (i:=3) aDz.nd rfl (by trivial) (aH (iU.mono (by decide)) hr (by rfl) (aB (vv 0) (aB (vv 2) aA)))) (aF (aG (aH (sJ.mono (by decide)) hr (by rfl) (aB (vv 3) (aB (aH (dX.mono (by decide)) hr (by rfl) (aB (vv 0) (aB (vv 1) (aB (vv 2) aA)))) (aB (vv 2) aA))))))),?_⟩
 refine ⟨_,rfl,_,rfl,d,v,hs,q0,hd,rfl,hds,hq,hz,hh,fun v' H1 s1 _=>?_⟩
 refine ⟨_,rfl,_,rfl,_,rfl,_,rfl,d,tb,v,hs,tabs,q0,rs,rfl,hds.same s1,htb.same s1,hq.same s1,hz,hz,hr1,fun D H2 _ s2 hD=>?_⟩
 obtain ⟨a,z,zs,rfl,ha,hne⟩:=aO0 hr1 hq
 exact ⟨_,rfl,v',D,_,rs,knds hd,a,z,zs,rfl,rfl,(s1.trans s2).aN ha,hne,hD,hf.1,vP hh.good,hf.2,fun D' H3 hN s3 h3=>q D' H3 (none_of (s1.trans s2) hN) (s1.trans (s2.trans s3)) h3⟩
theorem aRn {kd:Str} {v:V} (h:tU kd v):KdV (mH kd) v:=by
 cases h with
 |num=>exact ⟨_,rfl⟩
 |wrd _ _=>exact ⟨_,rfl⟩
def aI0 (K:PySem.W.Frag):Sp:=fun vs H Q _=>∃(a:Addr) (vh:V) (hd:Hdr),vs=[.ref a,vh]∧jF H a∧cM K H vh hd∧aP7 hd∧∀t H' r,Fx a H H'→H' t=some (.tup r)→KdR (knds hd) r→Q (.ref t) H'
theorem uA {α β:Type} {R:α→β→Prop} {as:List α} {bs:List β} (hl:as.length=bs.length) (h:∀(i:Nat) (a:α) (b:β),as[i]?=some a→bs[i]?=some b→R a b):Al2 R as bs:=kJ (eQ hl h)
theorem aF8 (T:Txt w K mg) (aDe:Ok P w K mg base 3 "_law_value" ["_law_state","_law_kind"] aIn):Ok P w K mg base 4 "_law_row" ["_law_state","_law_head_here"] (aI0 K):=by
 refine Ok.ofV T.aG1 aDx (fun vs H Q E h=>?_) (fun f cdv A outer s H vs Q E hr h=>?_)
 ·obtain ⟨a,vh,hd,rfl,_⟩:=h;rfl
 obtain ⟨a,vh,hd,rfl,hs,⟨b,us,rfl,hb,hu⟩,⟨hgd,hok⟩,q⟩:=h
 refine ⟨_,(aF (aG (bD bN (by rfl) T.bV bL (aB (bM (N:=["_law_name","_law_kind","_law_state"]) (by trivial) (bT (defScope lN) rfl (by decide +kernel)) rfl (cY (vv 1)) (fun cl s' H' fp=>⟨(oH (K:=K) (n:=2) rfl (bB (aK (i:=0) (show (["_law_name","_law_kind","_law_state"]:List Str).Nodup from by decide +kernel) rfl (Or.inl rfl)) (bB (aK (i:=1) (show (["_law_name","_law_kind","_law_state"]:List Str).Nodup from by decide +kernel) rfl (Or.inl rfl)) dM))),bJ,(aH (aDe.mono (by decide)) hr (by rfl) (aB (vv 2) (aB (vv 1) aA)))⟩)) aA)))),?_⟩
 have lu:=hu.len
 have l8:=hgd.2.2
 dsimp only [tRet,tCB,tCons]
 refine xT [none,none,some (.ref a)] ?_ ⟨_,rfl,b,rfl,⟨_,hb⟩,uW (Fx a) (aLr hs) us (fun _=>true) (fun i _ y=>∃c',hd[i]?=some c'∧tU c'.2 y) (fun _ _ h=>h) (fun _ _ _ h=>h) (fun i σ=>∃c',hd[i]?=some c'∧At2 [none,none,some (.ref a)] (.str c'.1) (.str c'.2) σ) (Ps2 [none,none,some (.ref a)]) ⟨none,none,rfl⟩ (small (by omega)) _ (aA6 fun H' f'=>f'.aN hs hb) (rQ fun H' f'=>f'.aN hs hb) (fun i x σ' H' Q' ex hps f' qq=>?_) (fun i x σ2 ex hA H' R f' r=>r H' (Fx.refl f'.st)) (fun i x σ2 ex hA hp H' R f' r=>?_) fun D H6 ys f6 fD g6 hys=>?_⟩
 ·refine ⟨rfl,fun i y v h1 h2=>?_⟩
  match i,h1,h2 with
  |0,_,h2=>cases h2
  |1,_,h2=>cases h2
  |2,h1,h2=>cases h1;cases h2;exact ⟨by decide +kernel,0,rfl,rfl,by trivial⟩
  |i+3,h1,_=>cases h1
 ·obtain ⟨c',hc',p',rfl,hp'⟩:=aV hu ex
  exact hg2 (f'.aN hs hp') hps fun σ2 h1 h2=>qq σ2 h1 ⟨c',hc',h2⟩
 ·obtain ⟨c',hc',rfl⟩:=hA
  exact ⟨_,rfl,_,rfl,a,c'.2,rfl,f'.st,(hok c' (List.mem_of_getElem? hc')).2,fun v H2 f2 hv=>r v H2 f2 ⟨c',hc',hv⟩⟩
 ·rw [iB] at hys
  obtain ⟨l1,l2⟩:=eO hys
  refine ⟨D,_,rfl,SqL.of g6,fun t H3 _ s3 g3=>q t H3 ys (f6.sm s3) g3 (uA (by unfold knds;rw [List.length_map];omega) fun i k y ek ey=>?_)⟩
  obtain ⟨c',hc',hv⟩:=l2 i y ey
  unfold knds at ek
  rw [List.getElem?_map,hc'] at ek
  cases ek
  exact aRn hv
theorem aH1 (T:Txt w K mg):Ok P w K mg base 1 "_law_at" ["_law_head_here","_law_name"] (jB K):=by
 refine Ok.ofV T.aJk aG5 (fun vs H Q E h=>?_) (fun f cdv A outer s H vs Q E hr h=>?_)
 ·obtain ⟨vh,n,hd,k,rfl,_⟩:=h;rfl
 obtain ⟨vh,n,hd,k,rfl,⟨b,us,rfl,hb,hu⟩,hl,hk,q⟩:=h
 obtain ⟨h1,h2⟩:=eG hk
 refine ⟨_,(aF (aG (jZ PySem.F.plainAttrs_list PySem.F.slot_list_index PySem.F.type_list_index zN (bM (N:=["_law_column","_law_kind"]) (by trivial) (dZ (by decide +kernel)) rfl (cY (vv 0)) (fun cl s' H' fp=>⟨(oH (K:=K) (n:=2) rfl (bB (aK (i:=0) (show (["_law_column","_law_kind"]:List Str).Nodup from by decide +kernel) rfl (Or.inl rfl)) (bB (aK (i:=1) (show (["_law_column","_law_kind"]:List Str).Nodup from by decide +kernel) rfl (Or.inl rfl)) dM))),bJ,(vv 0)⟩)) (aB (vv 1) aA)))),?_⟩
 have lu:=hu.len
 dsimp only [tRet,tBM]
 refine xT [none,none] oN ⟨_,rfl,b,rfl,⟨_,hb⟩,uW Same (oO H) us (fun _=>true) (fun i _ y=>∃c',hd[i]?=some c'∧y=.str c'.1) (fun _ _ h=>h) (fun _ _ _ h=>h) (fun i σ=>∃c',hd[i]?=some c'∧At2 [none,none] (.str c'.1) (.str c'.2) σ) (Ps2 [none,none]) ⟨none,none,rfl⟩ (small (by omega)) _ (aA6 fun H' s'=>s'.aN hb) (rQ fun H' s'=>s'.aN hb) (fun i x σ' H' Q' ex hps s' qq=>?_) (fun i x σ2 ex hA H' R s' r=>r H' (Same.refl _)) (fun i x σ2 ex hA hp H' R s' r=>?_) fun D H6 ys s6 fD g6 hys=>?_⟩
 ·obtain ⟨c',hc',p',rfl,hp'⟩:=aV hu ex
  exact hg2 (s'.aN hp') hps fun σ2 h1 h2=>qq σ2 h1 ⟨c',hc',h2⟩
 ·obtain ⟨c',hc',rfl⟩:=hA
  exact ⟨_,rfl,r _ _ (Same.refl H') ⟨c',hc',rfl⟩⟩
 ·rw [iB] at hys
  obtain ⟨l1,l2⟩:=eO hys
  have ey:ys=(hd.map (·.1)).map V.str:=List.ext_getElem? fun i=>by
   cases ez:ys[i]? with
   |some z=>
    obtain ⟨c',hc',rfl⟩:=l2 i z ez
    rw [List.getElem?_map,List.getElem?_map,hc'];rfl
   |none=>
    have:=List.getElem?_eq_none_iff.mp ez
    exact (List.getElem?_eq_none (by rw [List.length_map,List.length_map];omega)).symm
  subst ey
  refine ⟨.inl ⟨rfl,_,SqL.of g6⟩,_,rfl,D,hd.map (·.1),n,plc hd n,rfl,rfl,SqL.of g6,by rw [List.length_map];exact hl,by rw [List.getElem?_map,h1];rfl,fun j m hj hm=>?_,q H6 s6⟩
  rw [List.getElem?_map] at hm
  obtain ⟨c,hc,rfl⟩:=Option.map_eq_some_iff.mp hm
  exact h2 j c hj hc
theorem aEx {K:PySem.W.Frag} {H:Hp}:∀{r:List V},(∀x∈r,(∃i,x=.int i)∨∃z,x=.str z)→Al2 (DEq K H 40) r r
 |[],_=>.nil
 |x::r,h=>.cons (.inl ⟨by rcases h x List.mem_cons_self with ⟨i,rfl⟩|⟨z,rfl⟩ <;> rfl,rfl⟩) (aEx fun y hy=>h y (List.mem_cons_of_mem _ hy))
def aIv (K:PySem.W.Frag):Sp:=fun vs H Q _=>∃D C rs ks,vs=[.ref D,.ref C]∧bH K H D rs∧bH K H C rs∧rs.length≤63∧(ks.length≤1000∧∀r∈rs,KdR ks r)∧∀H',Same H H'→Q (.bl true) H'
theorem kd_len {ks:List Bool} {r:List V} (h:KdR ks r):ks.length=r.length:=by
 unfold KdR at h
 induction h with
 |nil=>rfl
 |cons _ _ ih=>rw [List.length_cons,List.length_cons,ih]
theorem aBt (T:Txt w K mg):Ok P w K mg base 1 "_law_same" ["_law_found","_law_due"] (aIv K):=by
 refine Ok.ofV T.aFd rD (fun vs H Q E h=>?_) (fun f cdv A outer s H vs Q E hr h=>?_)
 ·obtain ⟨D,C,rs,ks,rfl,_⟩:=h;rfl
 obtain ⟨D,C,rs,ks,rfl,⟨us,hD,hu⟩,⟨ws,hC,hw⟩,h63,⟨hkl,hk⟩,q⟩:=h
 have hU:=hr.units
 refine ⟨_,(aC (bA (VW.pt (mL (dC (cQ (aL aJ8 (by rfl) T.bG bC (aB (vv 0) (aB (cW (v:=.ty "list") (by rfl) T.wA qW rfl) aA))))) (jE (aM op_ne (aL call_len_seq (by rfl) T.cZ cA (aB (vv 0) aA)) (aL call_len_seq (by rfl) T.cZ cA (aB (vv 1) aA)) (nomark _))))) (aF (aG iG)) aP) (aC (dR PassesOwn.never rfl (eU (by rfl) T.jL (aB (aL call_len_seq (by rfl) T.cZ cA (aB (vv 1) aA)) aA)) (aK (i:=2) rD.nd rfl (by trivial)) (aC (bA (VW.pt (mL (dC (cQ (aL gO (by rfl) T.bG bC (aB (aJ ix_list (vv 0) (vv 2) (fun _ _=>rfl)) (aB (cW (v:=.ty "tuple") (by rfl) T.bV bL rfl) aA))))) (jE (aM (aQi hU) (aJ ix_list (vv 0) (vv 2) (fun _ _=>rfl)) (aJ ix_list (vv 1) (vv 2) (fun _ _=>rfl)) (nomark _))))) (aF (aG iG)) aP) (aF (bA (cQ (aL (aGd rfl) (by rfl) T.aPz aMv (aB (bM (N:=["_law_value_here"]) (by trivial) (dZ (by decide +kernel)) rfl (cY (aJ ix_list (vv 0) (vv 2) (fun _ _=>rfl))) (fun cl s' H' fp=>⟨(aK (i:=0) (show (["_law_value_here"]:List Str).Nodup from by decide +kernel) rfl (Or.inl rfl)),bJ,(aPg (aL nA (by rfl) T.bG bC (aB (vv 0) (aB (cW (v:=.ty "bool") (by rfl) T.aL5 aJa rfl) aA))) (mF (aL0 (aL (aG4 (K:=K)) (by rfl) T.bG bC (aB (vv 0) (aB (bY (aB (cW (v:=.ty "int") (by rfl) T.aIj aBe rfl) (aB (cW (v:=.ty "str") (by rfl) T.aLh aH3 rfl) aA))) aA))))))⟩)) aA))) (aF (aG iG)) aP)))) (aF (aG iG)))),?_⟩
 have lu:=hu.len
 have lw:=hw.len
 refine ⟨_,rfl,D,us,rfl,SqL.of hD,_,rfl,iteF ⟨_,rfl,D,us,rfl,.inl (SqL.of hD),_,rfl,C,ws,rfl,.inl (SqL.of hC),rfl,_,rfl,zV ?_ ?_⟩⟩
 ·rw [lu,lw];simp
 refine ⟨_,rfl,C,ws,rfl,.inl (SqL.of hC),_,rfl,by omega,by omega,for_range (n:=ws.length) (fun i σ H'=>Same H H'∧∃l,σ=[some (.ref D),some (.ref C),l]) ⟨Same.refl H,_,rfl⟩ (fun i σ H1 hi p=>?_) fun σ H1 p=>?_⟩
 ·obtain ⟨s1,l,rfl⟩:=p
  obtain ⟨r,er,b,eb,hb⟩:=aV hw (List.getElem?_eq_getElem hi)
  have hi':i<us.length:=by omega
  obtain ⟨r',er',a,ea,ha⟩:=aV hu (List.getElem?_eq_getElem hi')
  rw [er] at er'
  cases er'
  have hkr:=hk r (List.mem_of_getElem? er)
  have lr:=kd_len hkr
  have au:atI us ((i:Nat):Int)=some (.ref a):=by rw [←ea];exact atI_nat (List.getElem?_eq_getElem hi')
  have aw:atI ws ((i:Nat):Int)=some (.ref b):=by rw [←eb];exact atI_nat (List.getElem?_eq_getElem hi)
  have e0:(0:Int)+(i:Nat)=((i:Nat):Int):=Int.zero_add _
  rw [e0]
  refine ⟨_,rfl,_,rfl,D,us,_,_,rfl,rfl,SqL.of (s1 _ _ hD),au,_,true,rfl,.tup (s1.aN ha),_,rfl,iteF ?_⟩
  refine ⟨_,rfl,_,rfl,D,us,_,_,rfl,rfl,SqL.of (s1 _ _ hD),au,_,rfl,_,rfl,C,ws,_,_,rfl,rfl,SqL.of (s1 _ _ hC),aw,?_⟩
  refine ⟨a,b,r,r,rfl,rfl,s1.aN ha,s1.aN hb,aEx (qR hkr),_,rfl,iteF ?_⟩
  dsimp only [tNext,tIfS,tB,tCB,tCons]
  refine cX r (r.map fun _=>.bl false) (by rw [List.length_map]) [none] iT (small (by omega)) (fun R rr=>gP (s1.aN ha) (fun R' r'=>⟨_,rfl,_,rfl,D,us,_,_,rfl,rfl,SqL.of (s1 _ _ hD),au,r'⟩) R rr) (fun j x y ex ey H2 R l sm rr=>?_) rfl fun D2 H2 s2 g2=>?_
  ·rw [List.getElem?_map,ex] at ey
   cases ey
   have hx:=qR hkr x (List.mem_of_getElem? ex)
   refine ⟨_,rfl,x,"bool",false,rfl,by rcases hx with ⟨i,rfl⟩|⟨z,rfl⟩ <;> rfl,_,rfl,iteF ?_⟩
   exact ⟨_,rfl,by decide,fun t H3 hN s3 g3=>⟨x,t,rfl,SqT.of g3,hx,_,rfl,rr H3 s3⟩⟩
  ·refine ⟨D2,r.map fun _=>false,rfl,SqL.of (by rw [g2,List.map_map];rfl),_,rfl,zV (by simp) ?_⟩
   exact ⟨s1.trans s2,_,rfl⟩
 ·obtain ⟨s1,l,rfl⟩:=p
  exact q H1 s1
def aOy (wd:Str) (col:List V):V:=if wd = "count" then .int (col.length:Nat) else if wd = "sum" then .int (aG8 (col.map intOf)) else if wd = "least" then qF col else wJ col
def aHz (K:PySem.W.Frag):Sp:=fun vs H Q _=>∃wd C col b,vs=[.str wd,.ref C]∧SqL K H C col∧(wd = "count"∨aCw wd)∧(wd≠"count"→0<col.length∧∀x∈col,KdV b x)∧(wd = "sum"→b=true)∧Q (aOy wd col) H
theorem wH (T:Txt w K mg):Ok P w K mg base 1 "_law_summed" ["_law_word","_law_some_here"] (aHz K):=by
 refine Ok.ofV T.yN xG (fun vs H Q E h=>?_) (fun f cdv A outer s H vs Q E hr h=>?_)
 ·obtain ⟨wd,C,col,b,rfl,_⟩:=h;rfl
 obtain ⟨wd,C,col,b,rfl,hC,hw,hc,hb,q⟩:=h
 refine ⟨_,(aC (bA (aM op_eq (vv 0) aO (nomark _)) (aF (aG (aL call_len_seq (by rfl) T.cZ cA (aB (vv 1) aA)))) aP) (aC (bA (aM op_eq (vv 0) aO (nomark _)) (aF (aG (aL (zW rfl) (by rfl) T.aPo aMe (aB (vv 1) aA)))) aP) (aC (bA (aM op_eq (vv 0) aO (nomark _)) (aF (aG (aL (aAc rfl) (by rfl) T.aPt aM8 (aB (vv 1) aA)))) aP) (aF (aG (aL (aAq rfl) (by rfl) T.aPn aNd (aB (vv 1) aA))))))),?_⟩
 rcases hw with rfl|rfl|rfl|rfl
 ·exact ⟨_,rfl,rfl,_,rfl,iteT ⟨_,rfl,C,col,rfl,.inl hC,q⟩⟩
 ·obtain ⟨c1,c2⟩:=hc (by decide +kernel)
  have eb:=hb rfl
  subst eb
  have ecol:col=(col.map intOf).map V.int:=by
   rw [List.map_map]
   refine (List.map_id _).symm.trans (List.map_congr_left fun x hx=>?_)
   obtain ⟨i,rfl⟩:=(show ∃i,x=.int i from c2 x hx)
   rfl
  exact ⟨_,rfl,rfl,_,rfl,iteF ⟨_,rfl,rfl,_,rfl,iteT ⟨_,rfl,C,col.map intOf,rfl,by rw [←ecol];exact hC,q⟩⟩⟩
 ·obtain ⟨c1,c2⟩:=hc (by decide +kernel)
  exact ⟨_,rfl,rfl,_,rfl,iteF ⟨_,rfl,rfl,_,rfl,iteF ⟨_,rfl,rfl,_,rfl,iteT ⟨_,rfl,C,col,b,rfl,hC,c1,c2,q⟩⟩⟩⟩
 ·obtain ⟨c1,c2⟩:=hc (by decide +kernel)
  exact ⟨_,rfl,rfl,_,rfl,iteF ⟨_,rfl,rfl,_,rfl,iteF ⟨_,rfl,rfl,_,rfl,iteF ⟨_,rfl,C,col,b,rfl,hC,c1,c2,q⟩⟩⟩⟩
abbrev aSf:List V:=[.str "count",.str "least",.str "most",.str "sum"]
def aGa (K:PySem.W.Frag):Sp:=fun vs H Q _=>∃(a F:Addr) (vh:V) (hd:Hdr) (fs:List Str),vs=[.ref a,vh,.ref F]∧jF H a∧cM K H vh hd∧aP7 hd∧H F=some (.lst (fs.map V.str))∧F≠a∧2≤fs.length∧(∀n∈fs,Nm n) ∧
 ∀v H' ss js,Fx a H H'→gJ fK 1 2 K H' v ss→lZ hd ss js→ss.map Sm.new=fs.take ss.length→(∀(s:Sm) (j:Str),(s,j)∈ss.zip js→vD j)→Q v H'
theorem aNz {w:Int} (h0:0≤w) (h1:w<4):∃x:Str,atI aSf w=some (.str x)∧((w=0∧x = "count")∨(w=1∧x = "least")∨(w=2∧x = "most")∨(w=3∧x = "sum")):=by
 obtain ⟨n,rfl⟩:∃n:Nat,w=n:=⟨w.toNat,by omega⟩
 match n,h1 with
 |0,_=>exact ⟨_,atI_nat (j:=0) rfl,.inl ⟨rfl,rfl⟩⟩
 |1,_=>exact ⟨_,atI_nat (j:=1) rfl,.inr (.inl ⟨rfl,rfl⟩)⟩
 |2,_=>exact ⟨_,atI_nat (j:=2) rfl,.inr (.inr (.inl ⟨rfl,rfl⟩))⟩
 |3,_=>exact ⟨_,atI_nat (j:=3) rfl,.inr (.inr (.inr ⟨rfl,rfl⟩))⟩
 |n+4,h=>omega
theorem aEe {α β:Type}:∀{as:List α} {bs:List β} {a:α} {b:β},as.length=bs.length→(as++[a]).zip (bs++[b])=as.zip bs++[(a,b)]
 |[],[],_,_,_=>rfl
 |x::as,y::bs,a,b,h=>by
  rw [List.cons_append,List.cons_append,List.zip_cons_cons,List.zip_cons_cons,aEe (by simpa using h)]
  rfl
theorem aCp (T:Txt w K mg) (aQ:Ok P w K mg base 1 "_law_next" ["_law_state","_law_many"] jM):Ok P w K mg base 2 "_law_sums" ["_law_state","_law_head_here","_law_fresh"] (aGa K):=by
 refine Ok.ofV T.aFl cO (fun vs H Q E h=>?_) (fun f cdv A outer s H vs Q E hr h=>?_)
 ·obtain ⟨a,F,vh,hd,fs,rfl,_⟩:=h;rfl
 obtain ⟨a,F,vh,hd,fs,rfl,hs,⟨b,us,rfl,hb,hu⟩,⟨⟨nd,l1,l8⟩,hc⟩,hF,nF,lf,hfn,q⟩:=h
 refine ⟨_,(aC (aR (i:=3) cO.nd rfl (by trivial) (cB aA)) (aC (dR PassesOwn.never rfl (eU (by rfl) T.jL (aB (bK op_add aD (aH (aQ.mono (by decide)) hr (by rfl) (aB (vv 0) (aB aD aA)))) aA)) (aK (i:=4) cO.nd rfl (by trivial)) (aC (aBw (aJ ix_tup (vv 1) (aH (aQ.mono (by decide)) hr (by rfl) (aB (vv 0) (aB (aL call_len_seq (by rfl) T.cZ cA (aB (vv 1) aA)) aA))) (fun _ _=>rfl)) (nO rfl (bB (aK (i:=5) cO.nd rfl (by trivial)) (bB (aK (i:=6) cO.nd rfl (by trivial)) dM)))) (aC (aR (i:=7) cO.nd rfl (by trivial) (bK op_add aD (bD call_int1 (by rfl) T.aIj aBe (aB (dD op_eq (vv 6) aO (nomark _)) aA)))) (aC (aR (i:=8) cO.nd rfl (by trivial) (aJ ix_list (cB (aB aO (aB aO (aB aO (aB aO aA))))) (aH (aQ.mono (by decide)) hr (by rfl) (aB (vv 0) (aB (vv 7) aA))) (fun _ _=>rfl))) (aC (bA (aM op_eq (vv 8) aO (nomark _)) (aF (aR (i:=5) cO.nd rfl (by trivial) aBy)) aP) (aF (bW (jZ PySem.F.plainAttrs_list PySem.F.slot_list_append PySem.F.type_list_append dH (vv 3) (aB (bY (aB (vv 8) (aB (vv 5) (aB (aJ ix_list (vv 2) (vv 4) (fun _ _=>rfl)) aA)))) aA))))))))) (aF (aG (bD bN (by rfl) T.bV bL (aB (vv 3) aA)))))),?_⟩
 have lu:=hu.len
 refine ⟨(by show 0≤sizeLine;decide),fun p H1 fp s1 g1=>?_⟩
 have f1:=Fx.of hs s1
 have npa:p≠a:=hs.ne fp
 refine ⟨_,rfl,a,2,rfl,f1.st,by decide,fun m H2 f2 m0 m1=>?_⟩
 have f2':=f1.trans f2
 have g2:=f2.same _ _ npa g1
 refine ⟨_,_,rfl,rfl,_,rfl,(by show -(2 ^ 62)≤1+m;omega),(by show 1+m<2 ^ 62;omega),?_⟩
 refine for_range (n:=(1+m).toNat) (fun i σ H'=>Fx a H H'∧∃(ws:List V) (ss:List Sm) (js:List Str) (l4 l5 l6 l7 l8:Option V),H' p=some (.lst ws)∧ss.length=i∧aZ (fK K H') ws ss∧lZ hd ss js∧ss.map Sm.new=fs.take i∧(∀(s:Sm) (j:Str),(s,j)∈ss.zip js→vD j)∧σ=[some (.ref a),some (.ref b),some (.ref F),some (.ref p),l4,l5,l6,l7,l8]) ⟨f2',[],[],[],_,_,_,_,_,g2,rfl,.nil,.nil,rfl,(fun s j h=>by cases h),rfl⟩ ?_ ?_
 ·rintro i σ H' hi ⟨fx,ws,ss,js,l4,l5,l6,l7,l8,gp,hl,hw,hsj,hnw,hkj,rfl⟩
  have lw:=hw.len
  have lj:=hsj.len
  have tk0:TK K H H':=fx.tk hs
  refine ⟨_,rfl,_,rfl,_,rfl,_,_,rfl,.inr (tk0 _ _ hb),a,_,rfl,fx.st,(by show (0:Int)<(us.length:Int)∧(us.length:Int)<2 ^ 64;omega),fun d H3 f3 d0 d1=>?_⟩
  obtain ⟨u,hat,hmem⟩:=at_of (xs:=us) d0 d1
  obtain ⟨c,hcm,pc,rfl,hpc⟩:=hu.mem hmem
  obtain ⟨hcn,hck⟩:=hc c hcm
  have fx3:=fx.trans f3
  have tk3:TK K H H3:=fx3.tk hs
  refine ⟨b,_,_,_,rfl,rfl,tk3 _ _ hb,hat,pc,_,rfl,tk3 _ _ hpc,rfl,_,_,rfl,_,_,rfl,rfl,?_⟩
  have lcc:look hd c.1=some c.2:=aE8 nd hcm
  have hif:fs.take (i+1)=fs.take i++[fs[i]'(by omega)]:=by rw [List.take_add_one,List.getElem?_eq_getElem (by omega)];rfl
  have hni:Nm (fs[i]'(by omega)):=hfn _ (List.getElem_mem _)
  have hat':∀Hz,Fx a H Hz→SqL K Hz F (fs.map V.str):=fun Hz fz=>SqL.of (fz.same _ _ nF hF)
  have hix:atI (fs.map V.str) (0+(i:Int))=some (.str (fs[i]'(by omega))):=by
   rw [Int.zero_add]
   exact atI_nat (by rw [List.getElem?_map,List.getElem?_eq_getElem (by omega)];rfl)
  refine ⟨_,rfl,rfl,.inr ⟨_,rfl,_,_,rfl,rfl,?_⟩⟩
  obtain ⟨mn,emn,hmn,hm3⟩:∃mn:Int,(3+(if decide (V.str c.2=V.str "number") then 1 else 0):Int)=mn∧3≤mn∧(mn≤3∨(mn=4∧c.2 = "number")):=by
   by_cases e:c.2 = "number"
   ·exact ⟨4,by rw [decide_eq_true (congrArg V.str e)];rfl,by decide,.inr ⟨rfl,e⟩⟩
   ·exact ⟨3,by rw [decide_eq_false (by intro z;exact e (V.str.inj z))];rfl,by decide,.inl (by decide)⟩
  dsimp only [gName]
  rw [emn]
  refine ⟨(by show 4≤sizeLine;decide),fun p4 H4 fp4 s4 g4=>?_⟩
  have fx4:=fx3.sm s4
  refine ⟨_,rfl,_,rfl,a,mn,rfl,fx4.st,by omega,fun w' H5 f5 w0 w1=>?_⟩
  have fx5:=fx4.trans f5
  have fl5:Fx a H' H5:=(f3.sm s4).trans f5
  have gp5:=f5.same _ _ npa (s4 _ _ (f3.same _ _ npa gp))
  obtain ⟨x,hx,hxc⟩:=aNz w0 (show w'<4 by omega)
  refine ⟨p4,_,_,_,rfl,rfl,SqL.of (f5.same _ _ (fx3.st.ne fp4) g4),hx,?_⟩
  have rest:∀(nv:V) (sm:Sm) (j:Str),(∀Hz tz,SqT K Hz tz [.str x,nv,.str (fs[i]'(by omega))]→fK K Hz (.ref tz) sm)→sm.new=fs[i]'(by omega)→smK hd sm=some j→(sm.wd = "sum"→j≠"word")→vD j→∀tz Hy,H5 tz=none→Same H5 Hy→Hy tz=some (.tup [.str x,nv,.str (fs[i]'(by omega))]) →
    Hy p=some (.lst ws)∧(Fx a H (upd Hy p (.lst (ws++[.ref tz])))∧aZ (fK K (upd Hy p (.lst (ws++[.ref tz])))) (ws++[.ref tz]) (ss++[sm])∧lZ hd (ss++[sm]) (js++[j])∧(ss++[sm]).map Sm.new=fs.take (i+1)∧∀(s:Sm) (j':Str),(s,j')∈(ss++[sm]).zip (js++[j])→vD j'):=by
   intro nv sm j hsm hnew hk hsum hkd tz Hy ftz sy gy
   have gpy:=sy _ _ gp5
   have ntp:tz≠p:=(ne_of_none gp5 ftz).symm
   refine ⟨gpy,(fx5.sm sy).upd fp npa,?_,?_,?_,?_⟩
   ·exact (hw.imp fun _ _ h=>(h.tk ((fl5.sm sy).tk fx.st)).tk fun _ _ e=>e.lG gpy).app (.cons (hsm _ tz (SqT.of (by rw [upd_ne ntp];exact gy))) .nil)
   ·exact aZ.app hsj (.cons ⟨hk,hsum⟩ .nil)
   ·rw [List.map_append,hnw,hif,List.map_singleton,hnew]
   ·intro s j' hm
    rw [aEe (by omega)] at hm
    rcases List.mem_append.mp hm with hm|hm
    ·exact hkj s j' hm
    ·cases List.mem_singleton.mp hm
     exact hkd
  refine ⟨_,rfl,rfl,_,rfl,?_⟩
  by_cases ec:x = "count"
  ·subst ec
   rw [decide_eq_true rfl]
   refine iteT ?_
   refine ⟨_,rfl,.inl ⟨rfl,_,SqL.of gp5⟩,_,rfl,_,rfl,_,rfl,_,rfl,F,_,_,_,rfl,rfl,hat' _ fx5,hix,(by show 3≤sizeLine;decide),fun tz Hy ftz sy gy=>?_⟩
   obtain ⟨k1,k2,k3,k4,k5,k6⟩:=rest .non ⟨"count",none,fs[i]'(by omega)⟩ "number" (fun Hz tz h=>⟨tz,rfl,hni,.inl ⟨rfl,rfl,h⟩⟩) rfl rfl (fun _=>by decide +kernel) (.inl rfl) tz Hy ftz sy gy
   exact ⟨p,_,_,rfl,rfl,k1,small1000 (by omega),k2,_,_,_,_,_,_,_,_,upd_same,by rw [List.length_append,hl];rfl,k3,k4,k5,k6,rfl⟩
  ·rw [decide_eq_false (by intro z;exact ec (V.str.inj z))]
   refine iteF ?_
   have hwd:aCw x:=by
    rcases hxc with ⟨_,e⟩|⟨_,e⟩|⟨_,e⟩|⟨_,e⟩
    ·exact absurd e ec
    ·exact .inr (.inl e)
    ·exact .inr (.inr e)
    ·exact .inl e
   have hsum:x = "sum"→c.2≠"word":=fun e=>by
    rcases hxc with ⟨_,e'⟩|⟨_,e'⟩|⟨_,e'⟩|⟨e3,e'⟩
    ·exact absurd e' ec
    ·rw [e] at e';exact absurd e' (by decide +kernel)
    ·rw [e] at e';exact absurd e' (by decide +kernel)
    ·rcases hm3 with z|⟨_,z⟩
     ·omega
     ·rw [z];decide +kernel
   refine ⟨_,rfl,.inl ⟨rfl,_,SqL.of gp5⟩,_,rfl,_,rfl,_,rfl,_,rfl,F,_,_,_,rfl,rfl,hat' _ fx5,hix,(by show 3≤sizeLine;decide),fun tz Hy ftz sy gy=>?_⟩
   obtain ⟨k1,k2,k3,k4,k5,k6⟩:=rest (.str c.1) ⟨x,some c.1,fs[i]'(by omega)⟩ c.2 (fun Hz tz h=>⟨tz,rfl,hni,.inr ⟨c.1,rfl,hcn,hwd,h⟩⟩) rfl lcc hsum hck tz Hy ftz sy gy
   exact ⟨p,_,_,rfl,rfl,k1,small1000 (by omega),k2,_,_,_,_,_,_,_,_,upd_same,by rw [List.length_append,hl];rfl,k3,k4,k5,k6,rfl⟩
 ·rintro σ H' ⟨fx,ws,ss,js,l4,l5,l6,l7,l8,gp,hl,hw,hsj,hnw,hkj,rfl⟩
  exact ⟨_,rfl,p,ws,rfl,SqL.of gp,fun t H5 _ s5 g5=>q _ _ ss js (fx.sm s5) ⟨⟨t,ws,rfl,SqT.of g5,hw.imp fun _ _ h=>h.same s5⟩,by omega,by omega⟩ hsj (by rw [hnw,hl]) hkj⟩
def hdK (hd:Hdr):List (Key × V):=hd.map fun c=>((Sum.inr c.1:Key),V.str c.2)
theorem aQg {H:Hp} {us:List V} {hd:Hdr} (h:aZ (IsC K H) us hd):aNp K H us (hdK hd):=by
 induction h with
 |nil=>exact .nil
 |cons r _ ih=>
  obtain ⟨p,rfl,hp⟩:=r
  exact .cons ⟨p,rfl,hp⟩ ih
theorem aP6 {hd:Hdr} (h:(hd.map (·.1)).Nodup):((hdK hd).map (·.1)).Nodup:=by
 unfold hdK
 rw [List.map_map]
 have e:((fun x:Key × V=>x.1) ∘ fun c:Str × Str=>((Sum.inr c.1:Key),V.str c.2))=(fun n:Str=>(Sum.inr n:Key)) ∘ fun c:Str × Str=>c.1:=rfl
 rw [e,←List.map_map]
 exact List.pairwise_map.mpr (h.imp fun ne z=>ne (Sum.inr.inj z))
theorem aJg (n:Str):∀hd:Hdr,valV (hdK hd) (Sum.inr n)=(look hd n).map V.str
 |[]=>rfl
 |c::r=>by
  show valV (((Sum.inr c.1:Key),V.str c.2)::hdK r) (Sum.inr n)=_
  unfold look
  rw [List.find?_cons]
  by_cases e:c.1=n
  ·rw [valV_pos (by rw [e]),decide_eq_true e]
   rfl
  ·rw [valV_neg (by intro z;exact e (Sum.inr.inj z)),decide_eq_false e]
   exact aJg n r
abbrev lmW:List V:=[.str "least",.str "most"]
theorem SqT.aSh {K:PySem.W.Frag} {H:Hp} {a D:Addr} {xs:List V} {o:Obj} {kvs:List (List Key × V)} {u:HO} (hD:H D=some (.frz o (.dT kvs))) (h:SqT K H a xs):SqT K (L2.upd H D u) a xs:=by
 rcases h with (h|⟨o,h⟩)|h
 ·exact .inl (.inl (by rw [upd_ne (ne_of h hD (by intro z;cases z))];exact h))
 ·exact .inl (.inr ⟨o,by rw [upd_ne (ne_of h hD (by intro z;cases z))];exact h⟩)
 ·exact .inr h
theorem aDu (k:List Key) (r:List V):∀lots:List (List Key × List (List V)),(∃l∈lots,l.1=k)∧(bO k r lots).map (·.1)=lots.map (·.1)∨(∀l∈lots,l.1≠k)∧(bO k r lots).map (·.1)=lots.map (·.1)++[k]
 |[]=>.inr ⟨fun l h=>by (cases h),rfl⟩
 |p::t=>by
  unfold bO
  by_cases e:p.1=k
  ·rw [if_pos e]
   exact .inl ⟨⟨p,List.mem_cons_self,e⟩,rfl⟩
  ·rw [if_neg e]
   rcases aDu k r t with ⟨⟨l,hl,el⟩,h2⟩|⟨h1,h2⟩
   ·exact .inl ⟨⟨l,List.mem_cons_of_mem _ hl,el⟩,by rw [List.map_cons,h2,List.map_cons]⟩
   ·refine .inr ⟨fun l hl=>?_,by rw [List.map_cons,h2,List.map_cons];rfl⟩
    rcases List.mem_cons.mp hl with rfl|hl
    ·exact e
    ·exact h1 l hl
theorem aOn (is:List Nat) (rows:List (List V)):((cV is rows).map (·.1)).Nodup:=by
 suffices ∀(l acc:List _),(acc.map (fun x:List Key × List (List V)=>x.1)).Nodup→((l.foldl (fun acc r=>bO (keysOf is r) r acc) acc).map (·.1)).Nodup from this rows [] List.nodup_nil
 intro l
 induction l with
 |nil=>intro acc h;exact h
 |cons r t ih=>
  intro acc h
  refine ih _ ?_
  rcases aDu (keysOf is r) r acc with ⟨_,e⟩|⟨hn,e⟩
  ·rw [e];exact h
  ·rw [e]
   refine List.nodup_append.mpr ⟨h,by simp,fun a ha b hb z=>?_⟩
   have eb:b=keysOf is r:=by simpa using hb
   obtain ⟨l,hl,rfl⟩:=List.mem_map.mp ha
   exact hn l hl (z.trans eb)
theorem aOu {kvs:List (List Key × V)} {i:Nat} {kv:List Key × V} (nd:(kvs.map (·.1)).Nodup) (e:kvs[i]?=some kv):valV kvs kv.1=some kv.2:=by
 induction kvs generalizing i with
 |nil=>cases e
 |cons p t ih=>
  rw [List.map_cons,List.nodup_cons] at nd
  cases i with
  |zero=>cases e;exact valV_pos rfl
  |succ i=>
   have e:t[i]?=some kv:=e
   rw [valV_neg (fun z=>nd.1 (by rw [z];exact List.mem_map.mpr ⟨kv,List.mem_of_getElem? e,rfl⟩))]
   exact ih nd.2 e
theorem aKk {R:List Key × V→List Key × List (List V)→Prop} (hR:∀a b,R a b→a.1=b.1) {kvs:List (List Key × V)} {lots:List (List Key × List (List V))} (h:aZ R kvs lots):kvs.map (·.1)=lots.map (·.1):=by
 induction h with
 |nil=>rfl
 |cons r _ ih=>rw [List.map_cons,List.map_cons,hR _ _ r,ih]
theorem getD_at {xs:List V} {n:Nat} (h:n<xs.length):atI xs ((n:Nat):Int)=some (xs.getD n .non):=by
 have e:xs.getD n .non=xs[n]:=by simp [h]
 rw [e]
 exact atI_nat (List.getElem?_eq_getElem h)
theorem aRx {c:Bool} {p q:Prop} (h:c=true) (hp:p):if c=true then p else q:=by rw [if_pos h];exact hp
theorem aA2 {S R:TS} {D:Ends} {σ:L2.St} {H:Hp} (J:L2.St→Hp→Prop) (h1:∀N:L2.St→Hp→Prop,(∀σ' H',J σ' H'→N σ' H')→S { D with nx:=N } σ H) (h2:∀σ' H',J σ' H'→R D σ' H'):tSeq S R D σ H:=h1 _ h2
theorem aJx {X:Cx} {scope:Scope} {N:List Str} {K:PySem.W.Frag} {tl te:TE} {σ:L2.St} {H:Hp} {Q:VK} {a:Addr} (xs ys:List V) (hly:ys.length=xs.length) (σ0:L2.St) (cap:Cap X scope N σ σ0) (hsz:xs.length≤sizeLine) (ha:H a=some (.lst xs)) (hl:∀R:VK,R (.ref a) H→tl σ H R)
  (he:∀(i:Nat) (x y:V),xs[i]?=some x→ys[i]?=some y→∀H' R l,Same H H'→(∀H2,Same H' H2→R y H2)→te ((σ0.set 0 l).set 0 (some x)) H' R) (h0:σ0[0]?=some none)
  (q:∀D H',H D=none→Same H H'→H' D=some (.lst ys)→Q (.ref D) H'):eX X scope N (iList K tl) (gName 0) jT te σ H Q:=by
 refine jY σ0 cap (hl _ ⟨a,rfl,⟨xs,SqL.of ha⟩,?_⟩)
 refine uW Same (oO H) xs (fun _=>true) (fun i _ y=>ys[i]?=some y) (fun _ _ h=>h) (fun _ _ _ h=>h) (fun i σ=>∃x l,xs[i]?=some x∧σ=(σ0.set 0 l).set 0 (some x)) (fun σ=>∃l,σ=σ0.set 0 l) ⟨none,cU h0⟩ hsz (Itl K a) (vY fun H' e=>SqL.of (e _ _ ha)) (oM fun H' e=>SqL.of (e _ _ ha)) (fun i x σ' H' Q' ex ps sm r=>?_) (fun i x σ2 ex at2 H' R sm r=>r H' (Same.refl _)) (fun i x σ2 ex at2 _ H' R sm r=>?_) fun D H' zs sm hD hz al=>?_
 ·obtain ⟨l,rfl⟩:=ps
  have z:(σ0.set 0 l).set 0 (some x)=σ0.set 0 (some x):=List.set_set ..
  exact r ((σ0.set 0 l).set 0 (some x)) ⟨some x,z⟩ ⟨x,l,ex,rfl⟩
 ·obtain ⟨x',l,ex',rfl⟩:=at2
  rw [ex] at ex'
  cases ex'
  have hi:i<ys.length:=by rw [hly];exact (List.getElem?_eq_some_iff.mp ex).1
  exact he i x ys[i] ex (List.getElem?_eq_getElem hi) H' R l sm fun H2 s2=>r _ H2 s2 (List.getElem?_eq_getElem hi)
 ·rw [iB] at al
  obtain ⟨l1,l2⟩:=eO al
  have e:zs=ys:=List.ext_getElem? fun i=>by
   cases ez:zs[i]? with
   |some z=>exact (l2 i z ez).symm
   |none=>
    have:=List.getElem?_eq_none_iff.mp ez
    exact (List.getElem?_eq_none (by omega)).symm
  rw [e] at hz
  exact q D H' hD sm hz
def spotOf (hd:Hdr) (s:Sm):Nat:=match s.c with
 |none=>0
 |some c=>plc hd c
theorem aP9 {K:PySem.W.Frag} {H:Hp} {v:V} {hd:Hdr} {s:Sm} (h:fK K H v s) (rows:List (List V)):aOy s.wd (fV (spotOf hd s) rows)=smV hd rows s:=by
 obtain ⟨wd,oc,nw⟩:=s
 obtain ⟨a,_,_,hs⟩:=h
 rcases hs with ⟨e,ec,_⟩|⟨c,ec,_,hw,_⟩
 ·have ec:oc=none:=ec
  have e:wd = "count":=e
  subst ec e
  unfold aOy smV fV
  rw [if_pos rfl,List.length_map]
 ·have ec:oc=some c:=ec
  subst ec
  have hw:aCw wd:=hw
  unfold aOy smV spotOf
  have:wd≠"count":=by rcases hw with rfl|rfl|rfl <;> decide +kernel
  rw [if_neg this]
def aLo (K:PySem.W.Frag):Sp:=fun vs H Q _=>∃(vh:V) (D t:Addr) (u:V) (hd:Hdr) (rows:List (List V)) (ns ks:List Str) (ss:List Sm) (js:List Str),vs=[vh,.ref D,.ref t,u]∧cM K H vh hd∧Good hd∧bH K H D rows∧rows.length≤1000∧(∀r∈rows,KdR (knds hd) r)∧SqT K H t (ns.map V.str)∧ns.length≤1000∧Looks hd ns ks∧oR K H (fK K H) u ss∧ss.length≤1000 ∧
 aZ (fun s k=>smK hd s=some k∧(s.wd = "sum"→k = "number")) ss js∧∀T C D' H',H D'=none→Same H H'→H' T=some (.tup [.ref C,.ref D'])→bH K H' D' (kY hd ns ss rows)→Q (.ref T) H'
theorem aD2 {K:PySem.W.Frag} {H:Hp} {x:V} {sm:Sm} {hd:Hdr} {j:Str} (h:fK K H x sm) (hj:smK hd sm=some j):∃b cv,x=.ref b∧SqT K H b [.str sm.wd,cv,.str sm.new]∧((cv=.non∧sm.wd = "count"∧sm.c=none)∨∃c,cv=.str c∧sm.c=some c∧aCw sm.wd∧look hd c=some j):=by
 obtain ⟨b,rfl,hnm,hcase⟩:=h
 rcases hcase with ⟨e,ec,hb⟩|⟨c,ec,hcn,hwd,hb⟩
 ·exact ⟨b,_,rfl,by rw [e];exact hb,.inl ⟨rfl,e,ec⟩⟩
 ·refine ⟨b,_,rfl,hb,.inr ⟨c,rfl,ec,hwd,?_⟩⟩
  unfold smK at hj
  rw [ec] at hj
  exact hj
theorem vI (T:Txt w K mg) (zX:Ok P w K mg base 1 "_law_at" ["_law_head_here","_law_name"] (jB K)) (zH:Ok P w K mg base 1 "_law_summed" ["_law_word","_law_some_here"] (aHz K)):Ok P w K mg base 2 "_law_grouped" ["_law_head_here","_law_rows","_law_names_here","_law_sums_here"] (aLo K):=by
 refine Ok.ofV T.xY aU (fun vs H Q E h=>?_) (fun f cdv A outer s H vs Q E hr h=>?_)
 ·obtain ⟨vh,D,t,u,hd,rows,ns,ks,ss,js,rfl,_⟩:=h;rfl
 obtain ⟨vh,D,t,u,hd,rows,ns,ks,ss,js,rfl,hI,hg,⟨us,hD,hu'⟩,h1000,hk,ht,hnl,hlk,⟨p,vs,rfl,hp,hv⟩,hsl,hjs,q⟩:=h
 have hu:=hu_of hr
 have l1:=hg.2.1
 have l8:=hg.2.2
 refine ⟨_,(aC (gW (i0:=4) aU.nd rfl (by trivial) (N:=["_law_name","_law_head_here"]) (by trivial) (bT (defScope cJ) rfl (by decide +kernel)) rfl (cY (vv 2)) (fun cl s' H' fp=>⟨(aK (i:=0) (show (["_law_name","_law_head_here"]:List Str).Nodup from by decide +kernel) rfl (Or.inl rfl)),bJ,(aH (zX.mono (by decide)) hr (by rfl) (aB (vv 1) (aB (vv 0) aA)))⟩)) (aC (aR (i:=5) aU.nd rfl (by trivial) zT) (aC (dR PassesOwn.never rfl (cN (vv 1)) (aK (i:=6) aU.nd rfl (by trivial)) (aF (bW (jZ PySem.F.plainAttrs_list PySem.F.slot_list_append PySem.F.type_list_append dH (jZ PySem.F.plainAttrs_dict PySem.F.slot_dict_setdefault PySem.F.type_dict_setdefault (aI2 hu) (vv 5) (aB (bD bN (by rfl) T.bV bL (aB (bM (N:=["_law_k","_law_row_here"]) (by trivial) (bT (defScope cJ) rfl (by decide +kernel)) rfl (cN (vv 4)) (fun cl s' H' fp=>⟨(aK (i:=0) (show (["_law_k","_law_row_here"]:List Str).Nodup from by decide +kernel) rfl (Or.inl rfl)),bJ,(aJ (cT (K:=K)) (vv 1) (vv 0) (fun _ _=>rfl))⟩)) aA)) (aB (cB aA) aA))) (aB (vv 6) aA))))) (aC (gW (i0:=7) aU.nd rfl (by trivial) (N:=["_law_k","_law_head_here"]) (by trivial) (bT (defScope cJ) rfl (by decide +kernel)) rfl (cN (vv 4)) (fun cl s' H' fp=>⟨(aK (i:=0) (show (["_law_k","_law_head_here"]:List Str).Nodup from by decide +kernel) rfl (Or.inl rfl)),bJ,(aJ (cT (K:=K)) (vv 1) (vv 0) (fun _ _=>rfl))⟩)) (aC (dR PassesOwn.never rfl (cY (vv 3)) (nO rfl (bB (aK (i:=8) aU.nd rfl (by trivial)) (bB (aK (i:=9) aU.nd rfl (by trivial)) (bB (aK (i:=10) aU.nd rfl (by trivial)) dM)))) (aC (aR (i:=11) aU.nd rfl (by trivial) aO) (aC (bA (aM op_in_seq (vv 8) (bY (aB aO (aB aO aA))) (by with_unfolding_all rfl)) (aF (aR (i:=11) aU.nd rfl (by trivial) (rR hu (bD (aHb rfl) (by rfl) T.aRe aN7 (aB (vv 0) aA)) (vv 9) (fun _ _=>rfl)))) aP) (aF (bW (jZ PySem.F.plainAttrs_list PySem.F.slot_list_append PySem.F.type_list_append dH (vv 7) (aB (bY (aB (vv 10) (aB (vv 11) aA))) aA))))))) (aC (aR (i:=12) aU.nd rfl (by trivial) (cB aA)) (aC (aOr (dR PassesOwn.never rfl (aOm (vv 5)) (aK (i:=13) aU.nd rfl (by trivial)) (aC (aR (i:=14) aU.nd rfl (by trivial) (bD pK (by rfl) T.wA qW (aB (vv 13) aA))) (aC (dR PassesOwn.never rfl (cY (vv 3)) (nO rfl (bB (aK (i:=8) aU.nd rfl (by trivial)) (bB (aK (i:=9) aU.nd rfl (by trivial)) (bB (aK (i:=10) aU.nd rfl (by trivial)) dM)))) (aC (aR (i:=15) aU.nd rfl (by trivial) aD) (aC (bA (aM op_notN (vv 9) aBy (nomark _)) (aF (aR (i:=15) aU.nd rfl (by trivial) (aH (zX.mono (by decide)) hr (by rfl) (aB (vv 0) (aB (vv 9) aA))))) aP) (aF (bW (jZ PySem.F.plainAttrs_list PySem.F.slot_list_append PySem.F.type_list_append dH (vv 14) (aB (aH (zH.mono (by decide)) hr (by rfl) (aB (vv 8) (aB (bM (N:=["_law_row_here","_law_spot"]) (by trivial) (bT (defScope cJ) rfl (by decide +kernel)) rfl (cN (rR hu (vv 5) (vv 13) (fun _ _=>rfl))) (fun cl s' H' fp=>⟨(aK (i:=0) (show (["_law_row_here","_law_spot"]:List Str).Nodup from by decide +kernel) rfl (Or.inl rfl)),bJ,(aJ (cT (K:=K)) (vv 0) (vv 1) (fun _ _=>rfl))⟩)) aA))) aA))))))) (aF (bW (jZ PySem.F.plainAttrs_list PySem.F.slot_list_append PySem.F.type_list_append dH (vv 12) (aB (bD bN (by rfl) T.bV bL (aB (vv 14) aA)) aA)))))))) (aF (aG (bY (aB (bD bN (by rfl) T.bV bL (aB (vv 7) aA)) (aB (vv 12) aA)))))))))))),?_⟩
 have lu:=hu'.len
 have lv:=hv.len
 try dsimp only [gName,tSeq,tAsg]
 refine cX (ns.map V.str) (ns.map fun n=>.int (plc hd n:Nat)) (by rw [List.length_map,List.length_map]) [none,some vh] (bU 0 (by decide +kernel) rfl rfl (by trivial)) (small (by rw [List.length_map];exact hnl)) (fun R r=>gP ht (fun R' r'=>⟨_,rfl,r'⟩) R r) (fun i x y ex ey H' R l sm r=>?_) rfl fun S H1 s1 g1=>?_
 ·rw [List.getElem?_map] at ex ey
  obtain ⟨n,en,rfl⟩:=Option.map_eq_some_iff.mp ex
  rw [en] at ey
  cases ey
  obtain ⟨k,ek,lk⟩:=aV hlk en
  exact ⟨_,rfl,_,rfl,vh,n,hd,k,rfl,hI.same sm,by omega,lk,fun H2 s2=>r H2 s2⟩
 have gS:H1 S=some (.lst ((ns.map (plc hd)).map fun i=>V.int (i:Nat))):=by rw [List.map_map];exact g1
 have lis:(ns.map (plc hd)).length≤1000:=by rw [List.length_map];exact hnl
 have his:∀r∈rows,∀i∈ns.map (plc hd),i<r.length:=fun r hr' i hi=>by
  obtain ⟨n,hn',rfl⟩:=List.mem_map.mp hi
  obtain ⟨j,hj⟩:=List.mem_iff_getElem?.mp hn'
  obtain ⟨k,ek,lk⟩:=aV hlk hj
  exact (mJ (hk r hr') (eG lk).1).1
 intro d H2 nd s2 gd
 try dsimp only [gName,tSeq,tAsg]
 refine ⟨_,rfl,D,rfl,⟨us,SqL.of ((s1.trans s2) _ _ hD)⟩,?_⟩
 refine for_list (xs:=us) (fun i σ H'=>Same H1 H'∧(∃l,σ=[some vh,some (.ref D),some (.ref t),some (.ref p),some (.ref S),some (.ref d),l,none,none,none,none,none,none,none,none,none])∧nZ K H1 H' d (cV (ns.map (plc hd)) (rows.take i))) ⟨s2,⟨_,rfl⟩,[],gd,.nil,List.nodup_nil,fun kv h=>by cases h⟩ (fun i σ H' _ p=>SqL.of (p.1 _ _ (s1 _ _ hD))) (fun i x σ H' ex p=>?_) fun σ H' p=>?_
 ·obtain ⟨sm,⟨l,rfl⟩,hL⟩:=p
  obtain ⟨r,er,pr,rfl,hpr⟩:=aV hu' ex
  have hm:=List.mem_of_getElem? er
  have hpr':SqT K H' pr r:=(s1.trans sm).aN hpr
  obtain ⟨kvs,hd',_⟩:=id hL
  refine ⟨_,rfl,.inr (.inr (.inl ⟨rfl,.inr ⟨kvs,hd'⟩⟩)),?_⟩
  dsimp only [tCB,tCons]
  refine cX ((ns.map (plc hd)).map fun i=>V.int (i:Nat)) (fY (ns.map (plc hd)) r) (by simp [fY]) [none,some (.ref pr)] (bU 6 (by decide +kernel) rfl rfl (by trivial)) (small (by rw [List.length_map];exact lis)) (fun R r=>jH (fun H' sm'=>SqL.of (sm' _ _ (sm _ _ gS))) (fun R' r'=>⟨_,rfl,r'⟩) R r) (fun i x y ex ey H' R l sm' rr=>?_) rfl fun D2 H3 s3 g3=>?_
  ·unfold fY at ey
   rw [List.getElem?_map] at ex ey
   obtain ⟨n,en,rfl⟩:=Option.map_eq_some_iff.mp ex
   rw [en] at ey
   cases ey
   have hn':=his r hm n (List.mem_of_getElem? en)
   refine ⟨_,rfl,_,rfl,pr,r,_,_,rfl,rfl,sm'.aN hpr',?_,rr _ (Same.refl _)⟩
   have e:r.getD n .non=r[n]:=by simp [hn']
   show atI r ((n:Nat):Int)=some (r.getD n .non)
   rw [e]
   exact atI_nat (List.getElem?_eq_getElem hn')
  ·refine ⟨D2,_,rfl,SqL.of g3,fun t4 H4 _ s4 g4=>⟨Nat.zero_le _,fun L H5 nL s5 g5=>?_⟩⟩
   have s34:=s3.trans s4
   dsimp only [tNil]
   exact aIs nd sm hL (s34.trans s5) (none_of s34 nL) g5 (s5 _ _ g4) ⟨pr,rfl,hpr'⟩ (his r hm) (qR (hk r hm)) (by rw [List.length_take];omega) fun L' vs H4 g4 lv s4 h4=>⟨.inl ⟨rfl,_,SqL.of g4⟩,_,rfl,L',vs,_,rfl,rfl,g4,lv,s4,⟨_,rfl⟩,by rw [qK er];exact h4⟩
 obtain ⟨sm3,⟨l6,rfl⟩,hL⟩:=p
 rw [List.take_of_length_le (by omega)] at hL
 have s03:=s1.trans sm3
 obtain ⟨hb,hus,rfl,hhb,hhu⟩:=id hI
 have lhu:=hhu.len
 have hsp:∀i∈ns.map (plc hd),i<hd.length:=fun i hi=>by
  obtain ⟨n,hn',rfl⟩:=List.mem_map.mp hi
  obtain ⟨j,hj⟩:=List.mem_iff_getElem?.mp hn'
  obtain ⟨k,ek,lk⟩:=aV hlk hj
  exact (List.getElem?_eq_some_iff.mp (eG lk).1).1
 try dsimp only [gName,tSeq,tAsg]
 refine aJx ((ns.map (plc hd)).map fun i=>V.int (i:Nat)) ((ns.map (plc hd)).map fun i=>hus.getD i .non) (by simp) [none,some (.ref hb)] (bU 0 (by decide +kernel) rfl rfl (by trivial)) (small (by rw [List.length_map];exact lis)) (sm3 _ _ gS) (fun R r=>⟨_,rfl,r⟩) (fun i x y ex ey H4 R l sm' rr=>?_) rfl fun C H4 nC s4 g4=>?_
 ·rw [List.getElem?_map] at ex ey
  obtain ⟨n,en,rfl⟩:=Option.map_eq_some_iff.mp ex
  rw [en] at ey
  cases ey
  exact ⟨_,rfl,_,rfl,hb,hus,_,_,rfl,rfl,(s03.trans sm').aN hhb,getD_at (by have:=hsp n (List.mem_of_getElem? en);omega),rr _ (Same.refl _)⟩
 generalize hw0:((ns.map (plc hd)).map fun i=>hus.getD i .non)=ws0 at g4
 have lw0:ws0.length≤1000:=by rw [←hw0,List.length_map];exact lis
 clear hw0
 try dsimp only [gName,tSeq,tAsg]
 refine ⟨_,rfl,p,rfl,⟨_,(s03.trans s4).aN hp⟩,for_tup (xs:=vs) (fun i σ H5=>Same H' H5∧∃(ws:List V) (l8 l9 l10 l11:Option V),H5 C=some (.lst ws)∧ws.length≤1000+i∧σ=[some (.ref hb),some (.ref D),some (.ref t),some (.ref p),some (.ref S),some (.ref d),l6,some (.ref C),l8,l9,l10,l11,none,none,none,none]) ⟨s4,ws0,_,_,_,_,g4,by omega,rfl⟩ (fun i σ H' _ ⟨e,_⟩=>(s03.trans e).aN hp) ?_ ?_⟩
 ·rintro i x σ H5 hx ⟨e3,ws,l8',l9,l10,l11,gC,lws,rfl⟩
  obtain ⟨sm,es,hism⟩:=aV hv hx
  obtain ⟨j,ej,hj1,hj2⟩:=aV hjs es
  obtain ⟨b,cv,rfl,hb',hcv⟩:=aD2 hism hj1
  have hi:i<vs.length:=(List.getElem?_eq_some_iff.mp hx).1
  have e03:=s03.trans e3
  refine ⟨b,_,rfl,e03.aN hb',rfl,_,_,rfl,_,_,rfl,_,_,rfl,rfl,?_⟩
  refine ⟨_,rfl,(by show 2≤sizeLine;decide),fun tt Ht ftt st gt=>⟨tt,lmW,rfl,.inr (SqT.of gt),rfl,rfl,_,rfl,?_⟩⟩
  have hif:(inV (.str sm.wd) lmW=true∧∃c,cv=.str c∧look hd c=some j)∨inV (.str sm.wd) lmW=false:=by
   rcases hcv with ⟨_,e,_⟩|⟨c,rfl,_,hw,hlk⟩
   ·exact .inr (by rw [e];decide +kernel)
   ·rcases hw with e|e|e
    ·exact .inr (by rw [e];decide +kernel)
    ·exact .inl ⟨by rw [e];decide +kernel,c,rfl,hlk⟩
    ·exact .inl ⟨by rw [e];decide +kernel,c,rfl,hlk⟩
  rcases hif with ⟨ew,c,rfl,hlk'⟩|ew
  ·show if inV (.str sm.wd) lmW=true then _ else _
   rw [ew]
   refine iteT ?_
   have hhu':aZ (IsC K Ht) hus hd:=hhu.imp fun _ _ h=>h.same (e03.trans st)
   refine ⟨_,rfl,hb,_,_,rfl,(e03.trans st).aN hhb,aQg hhu',by omega,fun dd Hd fdd sd gd=>?_⟩
   rw [aKf (aP6 hg.1)] at gd
   refine ⟨_,rfl,dd,.str j,rfl,?_,?_⟩
   ·have hg:=DGet.k (k:=(Sum.inr c:Key)) gd
    rw [aJg,hlk'] at hg
    exact hg
   ·have sx:=st.trans sd
    refine ⟨_,rfl,.inl ⟨rfl,_,SqL.of (sx _ _ gC)⟩,_,rfl,_,rfl,(by show 2≤sizeLine;decide),fun tz Hy ftz sy gy=>?_⟩
    exact ⟨C,_,_,rfl,rfl,(sx.trans sy) _ _ gC,Nat.lt_of_le_of_lt (show ws.length≤2000 by omega) (by decide),bR nC (e3.trans (sx.trans sy)),_,_,_,_,_,upd_same,by rw [List.length_append];show ws.length+1≤_;omega,rfl⟩
  ·show if inV (.str sm.wd) lmW=true then _ else _
   rw [ew]
   refine iteF ?_
   refine ⟨_,rfl,.inl ⟨rfl,_,SqL.of (st _ _ gC)⟩,_,rfl,_,rfl,(by show 2≤sizeLine;decide),fun tz Hy ftz sy gy=>?_⟩
   exact ⟨C,_,_,rfl,rfl,(st.trans sy) _ _ gC,Nat.lt_of_le_of_lt (show ws.length≤2000 by omega) (by decide),bR nC (e3.trans (st.trans sy)),_,_,_,_,_,upd_same,by rw [List.length_append];show ws.length+1≤_;omega,rfl⟩
 rintro σ H5 ⟨e3,ws,l8',l9,l10,l11,gC,lws,rfl⟩
 refine ⟨Nat.zero_le _,fun F H6 nF s6 g6=>?_⟩
 obtain ⟨kvs,gd5,hlr,hnd,hfr⟩:=hL.same e3
 have nd0:H d=none:=none_of s1 nd
 have s05:=s03.trans e3
 refine ⟨d,kvs,s6 _ _ gd5,fun nf=>⟨_,rfl,d,kvs,rfl,s6 _ _ gd5,nf,fun o=>?_⟩⟩
 have nFd:F≠d:=(ne_of_none gd5 nF).symm
 have nCd:C≠d:=by
  obtain ⟨kvs',gd',_⟩:=hL
  exact (ne_of_none gd' nC).symm
 have hdB:L2.upd H5 d (.frz o (.dT kvs)) d=some (.frz o (.dT kvs)):=upd_same
 have sB:Same H (L2.upd H5 d (.frz o (.dT kvs))):=bR nd0 s05
 have nFB:L2.upd H5 d (.frz o (.dT kvs)) F=none:=by rw [upd_ne nFd];exact nF
 have gCB:L2.upd H5 d (.frz o (.dT kvs)) C=some (.lst ws):=by rw [upd_ne nCd];exact gC
 have lB:aZ (xM K (L2.upd H5 d (.frz o (.dT kvs)))) kvs (cV (ns.map (plc hd)) rows):=eQ hlr.len fun i kv lot e1 e2=>by
  obtain ⟨h1,L,h2,us,g3,g4⟩:=cI hlr e1 e2
  obtain ⟨L',e',_,n2⟩:=hfr kv (List.mem_of_getElem? e1)
  rw [h2] at e'
  cases e'
  exact ⟨h1,L,h2,us,by rw [upd_ne n2];exact g3,g4.imp fun _ _ ⟨z,ez,hz⟩=>⟨z,ez,SqT.aQz gd5 hz⟩⟩
 have sBf:Same (L2.upd H5 d (.frz o (.dT kvs))) (L2.upd H6 d (.frz o (.dT kvs))):=fun b ob e=>by
  by_cases z:b=d
  ·subst z;rw [upd_same] at e ⊢;exact e
  ·rw [upd_ne z] at e ⊢;exact s6 _ _ e
 have gFf:L2.upd H6 d (.frz o (.dT kvs)) F=some (.lst []):=by rw [upd_ne nFd];exact g6
 have keyN:(kvs.map (·.1)).Nodup:=by rw [aKk (fun _ _ h=>h.1) hlr];exact aOn _ _
 generalize L2.upd H5 d (.frz o (.dT kvs))=B at hdB sB nFB gCB lB sBf
 generalize L2.upd H6 d (.frz o (.dT kvs))=Hf at sBf gFf ⊢
 have llen:=rN (ns.map (plc hd)) rows
 have lkv:=lB.len
 refine aMt (fun i σ Hx=>Same B Hx∧(∃ys,Hx F=some (.lst ys)∧aZ (jG K Hx) ys (((cV (ns.map (plc hd)) rows).take i).map fun l=>l.1.map kV++ss.map (smV hd l.2)))∧∃(l8 l9 l10 l11 l13 l14 l15:Option V),σ=[some (.ref hb),some (.ref D),some (.ref t),some (.ref p),some (.ref S),some (.ref d),l6,some (.ref C),l8,l9,l10,l11,some (.ref F),l13,l14,l15]) ⟨sBf,⟨[],gFf,.nil⟩,_,_,_,_,_,_,_,rfl⟩ (fun i σ Hx _ pv=>pv.1 _ _ hdB) (fun i kv b σ Hx ekv gb pv=>?_) fun σ Hx pv=>?_
 ·obtain ⟨sX,⟨ys,gF,hys⟩,l8,l9,l10,l11,l13,l14,l15,rfl⟩:=pv
  obtain ⟨lot,elot,h1,L,h2,us',gL,hus'⟩:=aV lB ekv
  have hvl:=aOu keyN ekv
  obtain ⟨kk,kvv⟩:=kv
  have h2:kvv=.ref L:=h2
  have h1:kk=lot.1:=h1
  subst h2 h1
  have hvl:valV kvs lot.1=some (.ref L):=hvl
  have gb:Hx b=some (.tup (lot.1.map kV)):=gb
  have hm:=List.mem_of_getElem? elot
  obtain ⟨i1,i2⟩:=aAr (ns.map (plc hd)) (Pr:=KdR (knds hd)) rows hk lot hm
  have i3:=xP (ns.map (plc hd)) rows lot hm
  have i4:=aEh (ns.map (plc hd)) rows lot hm
  have lus':=hus'.len
  have s0X:=sB.trans sX
  refine ⟨_,rfl,b,_,rfl,.inr (SqT.of gb),fun Th H7 nTh s7 g7=>?_⟩
  dsimp only [gName]
  refine ⟨_,rfl,p,rfl,⟨_,(s0X.trans s7).aN hp⟩,for_tup (xs:=vs) (fun j σ Hy=>Same Hx Hy∧Hy Th=some (.lst (lot.1.map kV++(ss.take j).map (smV hd lot.2)))∧∃(l8 l9 l10 l15:Option V),σ=[some (.ref hb),some (.ref D),some (.ref t),some (.ref p),some (.ref S),some (.ref d),l6,some (.ref C),l8,l9,l10,l11,some (.ref F),some (.ref b),some (.ref Th),l15]) ⟨s7,by rw [List.take_zero,List.map_nil,List.append_nil];exact g7,_,_,_,_,rfl⟩ (fun j σ Hy _ e=>(s0X.trans e.1).aN hp) ?_ ?_⟩
  ·rintro j x σ Hy hx ⟨sY,gTh,k8,k9,k10,k15,rfl⟩
   obtain ⟨sm,es,hism⟩:=aV hv hx
   obtain ⟨kj,ej,hj1,hj2⟩:=aV hjs es
   obtain ⟨b',cv,rfl,hb',hcv⟩:=aD2 hism hj1
   have hj:j<ss.length:=(List.getElem?_eq_some_iff.mp es).1
   have s0Y:=s0X.trans sY
   refine ⟨b',_,rfl,s0Y.aN hb',rfl,_,_,rfl,_,_,rfl,_,_,rfl,rfl,?_⟩
   have hspot:∀r∈lot.2,spotOf hd sm<r.length:=fun r hr'=>by
    rcases hcv with ⟨_,_,ec⟩|⟨c,_,ec,_,hlk'⟩
    ·unfold spotOf
     rw [ec]
     have:=kd_len (i2 r hr')
     unfold knds at this
     rw [List.length_map] at this
     show 0<r.length
     omega
    ·unfold spotOf
     rw [ec]
     exact (mJ (i2 r hr') (eG hlk').1).1
   have key:∀(Hz:Hp) (Q':VK),Same Hy Hz→(∀v H9,Same Hz H9→v=smV hd lot.2 sm→Q' v H9)→∀C9 H9,Same Hz H9→H9 C9=some (.lst (fV (spotOf hd sm) lot.2))→∀E',aHz K [.str sm.wd,.ref C9] H9 Q' E':=by
    intro Hz Q' sZ hq C9 H9 s9 g9 E'
    refine ⟨sm.wd,C9,_,mH kj,rfl,SqL.of g9,?_,fun hne=>⟨by unfold fV;rw [List.length_map];exact i1,fun x hx=>?_⟩,fun e=>?_,hq _ _ s9 (aP9 hism lot.2)⟩
    ·rcases hcv with ⟨_,e,_⟩|⟨_,_,_,hw,_⟩
     ·exact .inl e
     ·exact .inr hw
    ·unfold fV at hx
     obtain ⟨r,hr',rfl⟩:=List.mem_map.mp hx
     rcases hcv with ⟨_,e,_⟩|⟨c,_,ec,_,hlk'⟩
     ·exact absurd e hne
     ·unfold spotOf
      rw [ec]
      exact (mJ (i2 r hr') (eG hlk').1).2
    ·rw [hj2 e];rfl
   refine aA2 (S:=tAsg _ _) (fun σ' H'=>σ'=List.set [some (.ref hb),some (.ref D),some (.ref t),some (.ref p),some (.ref S),some (.ref d),l6,some (.ref C),some (.str sm.wd),some cv,some (.str sm.new),l11,some (.ref F),some (.ref b),some (.ref Th),k15] 15 (some (.int 0))∧H'=Hy) (fun N hN=>hN _ _ ⟨rfl,rfl⟩) ?_
   rintro σ' H' ⟨rfl,rfl⟩
   refine aA2 (S:=tIfS _ _ _) (fun σ' Hz=>Same H' Hz∧σ'=[some (.ref hb),some (.ref D),some (.ref t),some (.ref p),some (.ref S),some (.ref d),l6,some (.ref C),some (.str sm.wd),some cv,some (.str sm.new),l11,some (.ref F),some (.ref b),some (.ref Th),some (.int (spotOf hd sm:Nat))]) (fun N hN=>?_) ?_
   ·rcases hcv with ⟨rfl,_,ec⟩|⟨c,rfl,ec,_,hlk'⟩
    ·have e0:spotOf hd sm=0:=by unfold spotOf;rw [ec]
     rw [e0] at hN
     exact ⟨_,rfl,rfl,_,rfl,zV rfl (hN _ _ ⟨Same.refl _,rfl⟩)⟩
    ·have e0:spotOf hd sm=plc hd c:=by unfold spotOf;rw [ec]
     rw [e0] at hN
     refine ⟨_,rfl,rfl,_,rfl,aRx rfl ⟨_,rfl,_,rfl,.ref hb,c,hd,kj,rfl,hI.same s0Y,by omega,hlk',fun H8 s8=>hN _ _ ⟨s8,rfl⟩⟩⟩
   rintro σ' Hz ⟨sZ,rfl⟩
   have s0Z:=s0Y.trans sZ
   have gTz:=sZ _ _ gTh
   have gdz:Hz d=some (.frz o (.dT kvs)):=(sX.trans (sY.trans sZ)) _ _ hdB
   have gbz:Hz b=some (.tup (lot.1.map kV)):=(sY.trans sZ) _ _ gb
   have gLz:Hz L=some (.lst us'):=(sX.trans (sY.trans sZ)) _ _ gL
   have hgt:DGet Hz d (.ref b) (some (.ref L)):=by rw [←hvl];exact .inr ⟨kvs,lot.1,b,.inr ⟨o,gdz⟩,rfl,gbz,rfl⟩
   refine ⟨_,rfl,.inl ⟨rfl,_,SqL.of gTz⟩,_,rfl,?_⟩
   dsimp only [tCB,tCons]
   refine cX us' (fV (spotOf hd sm) lot.2) (by unfold fV;rw [List.length_map];omega) [none,some (.int (spotOf hd sm:Nat))] (bU 15 (by decide +kernel) rfl rfl (by trivial)) (small (by omega)) (fun R r=>jH (fun H' sm'=>SqL.of (sm' _ _ gLz)) (fun R' r'=>⟨_,rfl,_,rfl,d,_,rfl,hgt,r'⟩) R r) (fun i x y ex ey H9 R l sm' rr=>?_) rfl fun C9 H9 s9 g9=>?_
   ·obtain ⟨r,er,pr,rfl,hpr⟩:=aV hus' ex
    unfold fV at ey
    rw [List.getElem?_map,er] at ey
    cases ey
    exact ⟨_,rfl,_,rfl,pr,r,_,_,rfl,rfl,(sX.trans (sY.trans (sZ.trans sm'))).aN hpr,getD_at (hspot r (List.mem_of_getElem? er)),rr _ (Same.refl _)⟩
   ·dsimp only [tNil,List.append_nil]
    refine key Hz _ sZ (fun v H10 s10 ev=>?_) C9 H9 s9 g9 _
    subst ev
    refine ⟨Th,_,_,rfl,rfl,s10 _ _ gTz,Nat.lt_of_le_of_lt (m:=3000) ?_ (by decide),bR nTh (sY.trans (sZ.trans s10)),?_,_,_,_,_,rfl⟩
    ·rw [List.length_map] at i4
     rw [List.length_append,List.length_map,List.length_map,List.length_take]
     omega
    ·rw [upd_same,qK es,List.map_append,List.append_assoc]
     rfl
  ·rintro σ Hy ⟨sY,gTh,k8,k9,k10,k15,rfl⟩
   rw [List.take_of_length_le (by omega)] at gTh
   refine ⟨_,rfl,.inl ⟨rfl,_,SqL.of (sY _ _ gF)⟩,_,rfl,Th,_,rfl,SqL.of gTh,fun t9 H9 _ s9 g9=>?_⟩
   have sX9:=sY.trans s9
   have lys:=hys.len
   rw [List.length_map,List.length_take] at lys
   refine ⟨F,_,_,rfl,rfl,sX9 _ _ gF,Nat.lt_of_le_of_lt (show ys.length≤1000 by omega) (by decide),bR nFB (sX.trans sX9),⟨_,upd_same,?_⟩,_,_,_,_,_,_,_,rfl⟩
   rw [qK elot,List.map_append]
   exact jD (hys.imp fun _ _ z=>by obtain ⟨p',e',hp'⟩:=z.same sX9;exact ⟨p',e',SqT.lG (sX9 _ _ gF) hp'⟩) (.cons ⟨t9,rfl,SqT.lG (sX9 _ _ gF) (SqT.of g9)⟩ .nil)
 ·obtain ⟨sX,⟨ys,gF,hys⟩,k8,k9,k10,k11,k13,k14,k15,rfl⟩:=pv
  rw [lkv,List.take_length] at hys
  have gdX:=sX _ _ hdB
  refine ⟨⟨o,gdX⟩,?_⟩
  have sT:Same H (L2.upd Hx d (.dT kvs)):=bR nd0 (sB.trans sX)
  have gFT:L2.upd Hx d (.dT kvs) F=some (.lst ys):=by rw [upd_ne nFd];exact gF
  have gCT:L2.upd Hx d (.dT kvs) C=some (.lst ws):=by rw [upd_ne nCd];exact sX _ _ gCB
  have hT:aZ (jG K (L2.upd Hx d (.dT kvs))) ys (kY hd ns ss rows):=hys.imp fun _ _ ⟨z,ez,hz⟩=>⟨z,ez,SqT.aSh gdX hz⟩
  generalize L2.upd Hx d (.dT kvs)=HT at sT gFT gCT hT ⊢
  refine ⟨_,rfl,C,ws,rfl,SqL.of gCT,fun t8 H8 _ s8 g8=>⟨_,rfl,(by show 2≤sizeLine;decide),fun p9 H9 _ s9 g9=>?_⟩⟩
  have s89:=s8.trans s9
  exact q p9 t8 F H9 (none_of s05 nF) (sT.trans s89) g9 ⟨ys,s89 _ _ gFT,hT.imp fun _ _ z=>z.same s89⟩
end
end My
namespace L2
open PySem PySem.Spec PyProof.Rows
def aSn (K:PySem.W.Frag):R2:=fun x y H Q=>∃a b xs,x=.ref a∧y=.ref b∧SqT K H a xs∧SqT K H b []∧Q (.bl (!xs.isEmpty)) H
theorem aQy {X:Cx} (hu:X.A.units<cLine):OpR X (compareOp .NotEq) (aSn X.K):=by
 intro pins s σ H x y v u Q I rx ry h
 obtain ⟨a,b,xs,rfl,rfl,ha,hb,q⟩:=h
 cases rx
 cases ry
 obtain ⟨its,r1,pl,hz⟩:=I.tuple ha
 obtain ⟨jts,r2,pm,hw⟩:=I.tuple hb
 have e1:=r1.length
 have e2:=r2.length
 cases jts with
 |cons _ _=>cases e2
 |nil=>
  refine SeqAt.RcNeAt.tuples (e:=fun _=>true) (show s.heap.IsTuple a its.toArray from pl) (show s.heap.IsTuple b ([]:List Value).toArray from pm) hu (fun j h1 h2=>by simp at h2) _ _ _ _ ?_
  rw [kI]
  have z2:(its.toArray.size == ([]:List Value).toArray.size)=xs.isEmpty:=by
   cases xs with
   |nil=>cases its with
    |nil=>rfl
    |cons _ _=>cases e1
   |cons _ _=>cases its with
    |nil=>cases e1
    |cons _ _=>rfl
  rw [z2]
  exact ⟨.bl _,H,I,rfl,q⟩
theorem aJ9 {X:Cx}:MtR X "list.clear" rClear:=mt_clear
end L2
namespace My
open PySem PySem.Spec PyProof.Rows L2
section
variable {P:Program} {w:World} {K:PySem.W.Frag} {mg:Str→Option Value} {base:Heap}
theorem aJc {n:Str}:∀{l:List Str},l.Nodup→l.length≤(l.filter fun x=>!decide (x=n)).length+1
 |[],_=>by simp
 |x::r,h=>by
  rw [List.nodup_cons] at h
  rw [List.filter_cons,List.length_cons]
  by_cases e:x=n
  ·subst e
   rw [decide_eq_true rfl]
   have:r.filter (fun y=>!decide (y=x))=r:=List.filter_eq_self.mpr fun y hy=>by
    rw [decide_eq_false (fun z=>h.1 (by rw [←z];exact hy))]
    rfl
   simp [this]
  ·rw [decide_eq_false e]
   have:=aJc (n:=n) h.2
   simp only [Bool.not_false,if_true,List.length_cons]
   omega
theorem aE9 {l:List Str} (h:l.Nodup):∀S:List Str,l.length≤(l.filter fun x=>!decide (x∈S)).length+S.length
 |[]=>by
  have e:(l.filter fun x=>!decide (x∈([]:List Str)))=l:=List.filter_eq_self.mpr (by intro x _;simp)
  rw [e]
  exact Nat.le_add_right _ _
 |s::S=>by
  have e:(l.filter fun x=>!decide (x∈s::S))=(l.filter fun x=>!decide (x∈S)).filter fun x=>!decide (x=s):=by
   rw [List.filter_filter]
   refine List.filter_congr fun x _=>?_
   by_cases a:x=s <;> by_cases b:x∈S <;> simp [a,b]
  have h1:=aE9 h S
  have h2:=aJc (n:=s) (h.sublist (List.filter_sublist (p:=fun x=>!decide (x∈S))))
  rw [e,List.length_cons]
  omega
theorem aFn {p:Nat→Bool} {R:Nat→V→Prop}:∀{k:Nat} {l:List Str} {ys:List V},(∀(j:Nat) (n:Str),l[j]?=some n→∀y,R (k+j) y→y=.str n)→iY R (sel p k (List.range' k l.length)) ys→ys=(sel p k l).map V.str
 |k,[],ys,_,h=>by cases h;rfl
 |k,n::r,ys,hR,h=>by
  rw [List.length_cons,List.range'_succ] at h
  have h:iY R (if p k then k::sel p (k+1) (List.range' (k+1) r.length) else sel p (k+1) (List.range' (k+1) r.length)) ys:=h
  have ih:∀{zs:List V},iY R (sel p (k+1) (List.range' (k+1) r.length)) zs→zs=(sel p (k+1) r).map V.str:=fun {zs} hz=>
   aFn (k:=k+1) (l:=r) (fun j m hj y hy=>hR (j+1) m (by simpa using hj) y (by rw [show k+(j+1)=k+1+j by omega];exact hy)) hz
  show ys=(if p k then n::sel p (k+1) r else sel p (k+1) r).map V.str
  split at h
  ·rename_i hp
   rw [if_pos hp]
   cases h with
   |cons r' t=>
    rw [List.map_cons,←ih t,hR 0 n rfl _ r']
  ·rename_i hp
   rw [if_neg hp]
   exact ih h
theorem aM1 {ys:List V} {cs:Hdr} (hl:ys.length=cs.length) (h:∀(i:Nat) (y:V),ys[i]?=some y→∃c,cs[i]?=some c∧y=.str c.1):ys=(cs.map (·.1)).map V.str:=by
 rw [List.map_map]
 refine List.ext_getElem? fun i=>?_
 by_cases hi:i<ys.length
 ·obtain ⟨c,h1,h2⟩:=h i ys[i] (List.getElem?_eq_getElem hi)
  rw [List.getElem?_eq_getElem hi,List.getElem?_map,h1,h2]
  rfl
 ·rw [List.getElem?_eq_none (by omega),List.getElem?_eq_none (by rw [List.length_map];omega)]
def frP (l used:List Str) (i:Nat):Bool:=match l[i]? with
 |some n=>!decide (n∈used)
 |none=>false
def iI (ns used:List Str):List Str:=(ns.drop 3).filter fun n=>!decide (n∈used)
theorem aM9 {ns used:List Str} (h:oW ns):(iI ns used).Nodup∧(∀n∈iI ns used,Nm n∧n∉used)∧14≤(iI ns used).length+used.length∧(iI ns used).length≤14:=by
 have hd:(ns.drop 3).Nodup:=h.2.2.sublist (List.drop_sublist 3 ns)
 have hl:(ns.drop 3).length=14:=by rw [List.length_drop,h.1]
 refine ⟨hd.sublist List.filter_sublist,fun n hn=>?_,?_,?_⟩
 ·obtain ⟨h1,h2⟩:=List.mem_filter.mp hn
  exact ⟨h.2.1 n (List.mem_of_mem_drop h1),by simpa using h2⟩
 ·have:=aE9 hd used
  unfold iI
  omega
 ·have:=List.length_filter_le (fun n=>!decide (n∈used)) (ns.drop 3)
  unfold iI
  omega
theorem aG0 {X:Cx} {scope:Scope} {Nn:List Str} {tl:TE} {tt:TT} {σ:L2.St} {H:Hp} {Q:VK} {U:V} {ns used:List Str} (hn:oW ns) (cap:Cap X scope Nn σ [none,some U]) (hw:∀R:VK,(∀p H1,H p=none→Same H H1→H1 p=some (.lst ((ns.drop 3).map V.str))→R (.ref p) H1)→tl σ H R)
  (ht:∀(n:Str) l H' R,Same H H'→(∀H2,Same H' H2→R (!decide (n∈used)) H2)→tt (([none,some U].set 0 l).set 0 (some (.str n))) H' R)
  (q:∀D H',H D=none→Same H H'→H' D=some (.lst ((iI ns used).map V.str))→Q (.ref D) H'):eX X scope Nn (iList K tl) (gName 0) tt (tVar 0) σ H Q:=by
 have hl:(ns.drop 3).length=14:=by rw [List.length_drop,hn.1]
 refine jY [none,some U] cap (hw _ fun p H1 fp s1 g1=>⟨p,rfl,⟨_,SqL.of g1⟩,uW Same (oO H1) ((ns.drop 3).map V.str) (frP (ns.drop 3) used) (fun i _ y=>∃n,(ns.drop 3)[i]?=some n∧y=.str n) (fun _ _ h=>h) (fun _ _ _ h=>h) (fun i σ=>∃n,(ns.drop 3)[i]?=some n∧At1 [none,some U] (.str n) σ) (Ps1 [none,some U]) ⟨none,rfl⟩ (small (by rw [List.length_map];omega)) _ (vY fun H' s'=>SqL.of (s' _ _ g1)) (oM fun H' s'=>SqL.of (s' _ _ g1)) (fun i x σ' H' Q' ex hps s' qq=>?_) (fun i x σ2 ex hA H' R s' r=>?_) (fun i x σ2 ex hA _ H' R s' r=>?_) fun D H2 ys s2 fD g2 hys=>?_⟩)
 ·obtain ⟨n,hn',rfl⟩:=eY ex
  exact hg1 (i:=i) hps fun σ2 h1 h2=>qq σ2 h1 ⟨n,hn',h2⟩
 ·obtain ⟨n,hn',l,rfl⟩:=hA
  refine ht n l H' _ (s1.trans s') fun H2 s2=>?_
  have e:frP (ns.drop 3) used i=!decide (n∈used):=by unfold frP;rw [hn']
  rw [←e]
  exact r H2 s2
 ·obtain ⟨n,hn',l,rfl⟩:=hA
  exact ⟨_,by cases l <;> rfl,r _ _ (Same.refl H') ⟨n,hn',rfl⟩⟩
 ·rw [List.length_map,List.range_eq_range'] at hys
  have ey:=aFn (k:=0) (l:=ns.drop 3) (fun j n hj y hy=>by
   obtain ⟨m,hm,e⟩:=hy
   rw [Nat.zero_add,hj] at hm
   cases hm
   exact e) hys
  have es:sel (frP (ns.drop 3) used) 0 (ns.drop 3)=iI ns used:=kZ fun i x ex=>by
   unfold frP
   rw [Nat.zero_add,ex]
  rw [ey,es] at g2
  exact q D H2 (s1.free fD) (s1.trans s2) g2
def hs1 (n:Str) (hd:Hdr):Str→Option Hdr:=fun m=>if m=n then some hd else none
def tb1 (n:Str) (L:Addr) (rs:List (List V)):Str→Option (Addr × List (List V)):=fun m=>if m=n then some (L,rs) else none
theorem aLq {n:Str} {v:V}:valV [((Sum.inr n:Key),v)] (Sum.inr n)=some v:=by
 unfold valV
 rw [List.find?_cons,decide_eq_true (show ((Sum.inr n:Key),v).1=Sum.inr n from rfl)]
 rfl
theorem aGh {H:Hp} {d:Addr} {n:Str} {vh:V} {hd:Hdr} (h:H d=some (.dK [(Sum.inr n,vh)])) (hI:cM K H vh hd):iR K H d (hs1 n hd):=by
 refine ⟨_,h,fun m hd' e=>?_⟩
 unfold hs1 at e
 by_cases z:m=n
 ·subst z
  rw [if_pos rfl] at e
  cases e
  exact ⟨vh,aLq,hI⟩
 ·rw [if_neg z] at e;cases e
theorem aLt {H:Hp} {d L:Addr} {n:Str} {rs:List (List V)} (h:H d=some (.dK [(Sum.inr n,.ref L)])) (hI:bH K H L rs):TabsAt K H d (tb1 n L rs):=by
 refine ⟨_,h,fun m D rs' e=>?_⟩
 unfold tb1 at e
 by_cases z:m=n
 ·subst z
  rw [if_pos rfl] at e
  cases e
  exact ⟨aLq,hI⟩
 ·rw [if_neg z] at e;cases e
theorem aNy {K:PySem.W.Frag} {H:Hp} {us:List V} {rs:List (List V)} (h:aZ (jG K H) us rs):∀x∈us,∃p,x=.ref p:=by
 induction h with
 |nil=>intro x hx;cases hx
 |cons r _ ih=>
  intro x hx
  rcases List.mem_cons.mp hx with rfl|hx
  ·obtain ⟨a,e,_⟩:=r;exact ⟨a,e⟩
  ·exact ih x hx
theorem aO8 {hd:Hdr} {rs:List (List V)} (hg:Good hd) (h:Fit hd rs):(srt rs).length≤63∧((knds hd).length≤1000∧∀r∈srt rs,KdR (knds hd) r):=by
 refine ⟨by rw [aI7];exact h.1,?_,fun r hr=>h.2 r (aO3 hr)⟩
 unfold knds
 rw [List.length_map]
 have:=hg.2.2
 omega
theorem bH.fx {a:Addr} {H H':Hp} {D:Addr} {rs:List (List V)} (f:Fx a H H') (h:jF H a) (hD:D≠a) (r:bH K H D rs):bH K H' D rs:=by
 obtain ⟨us,h1,h2⟩:=r
 exact ⟨us,f.same _ _ hD h1,h2.imp fun _ _ ⟨p,e,hp⟩=>⟨p,e,f.aN h hp⟩⟩
theorem aP3 {n i:Nat} {x:V} (e:((List.range n).map fun i:Nat=>V.int (0+(i:Int)))[i]?=some x):i<n∧x=.int (0+(i:Int)):=by
 have hi:i<n:=by
  have:=(List.getElem?_eq_some_iff.mp e).1
  rw [List.length_map,List.length_range] at this
  exact this
 rw [List.getElem?_map,List.getElem?_range hi] at e
 exact ⟨hi,(Option.some.inj e).symm⟩
theorem zip_fst_snd:∀(hd:Hdr),(hd.map (·.1)).zip (hd.map (·.2))=hd
 |[]=>rfl
 |c::r=>by rw [List.map_cons,List.map_cons,List.zip_cons_cons,zip_fst_snd r]
theorem aMc {X:Cx} {scope:Scope} {N:List Str} {ta:TA} {te:TE} {tt:TT} {g:TG} {σ:L2.St} {H:Hp} {Q:VK} (σ0:L2.St) (cap:Cap X scope N σ σ0) (h:ta σ H fun vs H1=>∃j:Int,vs=[.int j]∧-(2 ^ 62)≤j∧j<2 ^ 62∧wW (Itr 0 j.toNat) H1 σ0 g tt te Q):eX X scope N (iRng1 ta) g tt te σ H Q:=⟨σ0,cap,h⟩
theorem aI6 {K:PySem.W.Frag} {H:Hp} {Pr:List V→Prop}:∀{ys:List V},(∀y∈ys,∃r,jG K H y r∧Pr r)→∃rs,aZ (jG K H) ys rs∧∀r∈rs,Pr r
 |[],_=>⟨[],.nil,fun r h=>by cases h⟩
 |y::ys,h=>by
  obtain ⟨r,h1,h2⟩:=h y List.mem_cons_self
  obtain ⟨rs,h3,h4⟩:=aI6 (ys:=ys) fun z hz=>h z (List.mem_cons_of_mem _ hz)
  refine ⟨r::rs,.cons h1 h3,fun x hx=>?_⟩
  rcases List.mem_cons.mp hx with rfl|hx
  ·exact h2
  ·exact h4 x hx
theorem aP0 {c:TT} {t u:TS} {D:Ends} {σ:L2.St} {H:Hp} (Y N:Hp→Prop) (hc:∀R:Bool→Hp→Prop,(∀H8,Y H8→R true H8)→(∀H8,N H8→R false H8)→c σ H R) (go:∀H8,Y H8→t D σ H8) (no:∀H8,N H8→u D σ H8):tIfS c t u D σ H:=
 hc _ (fun H8 y=>iteT (go H8 y)) (fun H8 y=>iteF (no H8 y))
theorem aNi {K:PySem.W.Frag} {b:Addr} {us:List V} {cs:Hdr} {H:Hp} {Q:VK} (hb:H b=some (.lst us)) (hu:aZ (IsC K H) us cs) (h8:cs.length≤100)
  (q:∀D H',H D=none→Same H H'→H' D=some (.lst ((cs.map (·.1)).map V.str))→Q (.ref D) H'):wW (Itl K b) H [none,none] (gTup K 2 (gCons (gName 0) (gCons (gName 1) gNil))) jT (tVar 0) Q:=by
 have lu:=hu.len
 refine uW Same (oO H) us (fun _=>true) (fun i _ y=>∃c,cs[i]?=some c∧y=.str c.1) (fun _ _ h=>h) (fun _ _ _ h=>h) (fun i σ=>∃c,cs[i]?=some c∧At2 [none,none] (.str c.1) (.str c.2) σ) (Ps2 [none,none]) ⟨none,none,rfl⟩ (small (by omega)) _ (vY fun H' s'=>SqL.of (s' _ _ hb)) (oM fun H' s'=>SqL.of (s' _ _ hb)) (fun i x σ' H' Q' ex hps s' qq=>?_) (fun i x σ2 ex hA H' R s' r=>r _ (Same.refl _)) (fun i x σ2 ex hA _ H' R s' r=>?_) fun D H1 ys s1 fD g1 hys=>?_
 ·obtain ⟨c,hc,p,rfl,hp⟩:=aV hu ex
  exact hg2 (s'.aN hp) hps fun σ2 h1 h2=>qq σ2 h1 ⟨c,hc,h2⟩
 ·obtain ⟨c,hc,rfl⟩:=hA
  exact ⟨_,rfl,r _ _ (Same.refl H') ⟨c,hc,rfl⟩⟩
 ·rw [iB] at hys
  obtain ⟨l,hg⟩:=eO hys
  rw [aM1 (by omega) hg] at g1
  exact q D H1 fD s1 g1
theorem aEn {us:List V} (bt:Nat→Nat→Bool) (h:0<us.length):us.getD (argBest bt (us.length - 1)) .non∈us:=by
 have hl:=wL bt (us.length - 1)
 have hi:argBest bt (us.length - 1)<us.length:=by omega
 have e:us.getD (argBest bt (us.length - 1)) .non=us[argBest bt (us.length - 1)]:=by simp [hi]
 rw [e]
 exact List.getElem_mem hi
theorem aKq {us:List V} (h:0<us.length):qF us∈us:=aEn _ h
theorem aNt {us:List V} (h:0<us.length):wJ us∈us:=aEn _ h
theorem aRp {hd:Hdr} {rows:List (List V)} {s:Sm} {k:Str} (h0:0<rows.length) (hk:∀r∈rows,KdR (knds hd) r) (hs:smK hd s=some k) (hw:s.c≠none→aCw s.wd) (hn:s.wd = "sum"→k = "number"):KdV (mH k) (smV hd rows s):=by
 obtain ⟨wd,oc,nw⟩:=s
 cases oc with
 |none=>
  have e:some ("number":Str)=some k:=hs
  cases e
  exact ⟨_,rfl⟩
 |some c=>
  have hw:aCw wd:=hw (fun z=>by cases z)
  have hs:look hd c=some k:=hs
  have hn:wd = "sum"→k = "number":=hn
  have kcol:∀x∈fV (plc hd c) rows,KdV (mH k) x:=fun x hx=>by
   unfold fV at hx
   obtain ⟨r,hr',rfl⟩:=List.mem_map.mp hx
   exact (mJ (hk r hr') (eG hs).1).2
  have lcol:0<(fV (plc hd c) rows).length:=by unfold fV;rw [List.length_map];exact h0
  show KdV (mH k) (if wd = "sum" then .int (aG8 ((fV (plc hd c) rows).map intOf)) else if wd = "least" then qF (fV (plc hd c) rows) else wJ (fV (plc hd c) rows))
  by_cases e:wd = "sum"
  ·rw [if_pos e,hn e]
   exact ⟨_,rfl⟩
  ·rw [if_neg e]
   by_cases e2:wd = "least"
   ·rw [if_pos e2];exact kcol _ (aKq lcol)
   ·rw [if_neg e2];exact kcol _ (aNt lcol)
theorem aOx {hd:Hdr} {ns ks:List Str} {r:List V} (hl:Looks hd ns ks) (hk:KdR (knds hd) r):KdR (knds (ns.zip ks)) (fY (ns.map (plc hd)) r):=by
 have ll:=aZ.len hl
 refine uA (by unfold knds fY;rw [List.length_map,List.length_map,List.length_map,List.length_zip];omega) fun i b x e1 e2=>?_
 unfold knds at e1
 unfold fY at e2
 rw [List.getElem?_map] at e1
 obtain ⟨c,hc,rfl⟩:=Option.map_eq_some_iff.mp e1
 rw [List.getElem?_map,List.getElem?_map] at e2
 obtain ⟨n1,n2⟩:=List.getElem?_zip_eq_some.mp hc
 rw [n1] at e2
 cases e2
 exact (mJ hk (eG (cI hl n1 n2)).1).2
theorem aF7 {k:List Key} {r:List V} {Pr:List V→Prop} (hr:Pr (k.map kV)):∀{lots:List (List Key × List (List V))},(∀l∈lots,Pr (l.1.map kV))→∀l∈bO k r lots,Pr (l.1.map kV)
 |[],_,l,hl=>by
  cases List.mem_singleton.mp hl
  exact hr
 |p::t,h,l,hl=>by
  unfold bO at hl
  split at hl
  ·rcases List.mem_cons.mp hl with rfl|hl
   ·exact h p List.mem_cons_self
   ·exact h l (List.mem_cons_of_mem _ hl)
  ·rcases List.mem_cons.mp hl with rfl|hl
   ·exact h l List.mem_cons_self
   ·exact aF7 hr (fun x hx=>h x (List.mem_cons_of_mem _ hx)) l hl
theorem aKr {is:List Nat} {Pr:List V→Prop}:∀(rows:List (List V)),(∀r∈rows,Pr ((keysOf is r).map kV))→∀l∈cV is rows,Pr (l.1.map kV):=by
 suffices ∀(l acc:List _),(∀r∈l,Pr ((keysOf is r).map kV))→(∀x∈acc,Pr (x.1.map kV))→∀x∈l.foldl (fun acc r=>bO (keysOf is r) r acc) acc,Pr (x.1.map kV) by
  intro rows h
  exact this rows [] h fun x hx=>by cases hx
 intro l
 induction l with
 |nil=>intro acc _ h x hx;exact h x hx
 |cons r t ih=>intro acc h1 h2 x hx;exact ih _ (fun y hy=>h1 y (List.mem_cons_of_mem _ hy)) (aF7 (h1 r List.mem_cons_self) h2) x hx
theorem aLb {is:List Nat} {r:List V} (o1:∀i∈is,i<r.length) (o2:∀x∈r,(∃i,x=.int i)∨∃z,x=.str z):(keysOf is r).map kV=fY is r:=by
 unfold keysOf
 rw [List.map_map]
 refine (List.map_congr_left fun x hx=>?_).trans (List.map_id _)
 refine aD0 ?_
 unfold fY at hx
 obtain ⟨n,hn,rfl⟩:=List.mem_map.mp hx
 have:=o1 n hn
 have e:r.getD n .non=r[n]:=by simp [this]
 rw [e]
 exact o2 _ (List.getElem_mem this)
theorem aLm {hd:Hdr} {ns ks:List Str} {r:List V} (hl:Looks hd ns ks) (hk:KdR (knds hd) r):∀i∈ns.map (plc hd),i<r.length:=fun i hi=>by
 obtain ⟨n,hn',rfl⟩:=List.mem_map.mp hi
 obtain ⟨j,hj⟩:=List.mem_iff_getElem?.mp hn'
 obtain ⟨k,ek,lk⟩:=aV hl hj
 exact (mJ hk (eG lk).1).1
theorem aN9 {α β:Type} {R:α→β→Prop} {as cs:List α} {bs ds:List β} (h:Al2 R as bs) (h2:Al2 R cs ds):Al2 R (as++cs) (bs++ds):=kJ (jD (mX h) (mX h2))
theorem aKn {K:PySem.W.Frag} {H:Hp} {vs:List V} {hd:Hdr} {ns ks:List Str} {ss:List Sm} {js:List Str} {rows:List (List V)} (hl:Looks hd ns ks) (hv:aZ (fK K H) vs ss) (hj:aZ (fun s k=>smK hd s=some k∧(s.wd = "sum"→k = "number")) ss js) (h:Fit hd rows):Fit (ns.zip ks++(ss.map Sm.new).zip js) (kY hd ns ss rows):=by
 unfold kY
 refine ⟨by rw [List.length_map];exact Nat.le_trans (rN _ _) h.1,fun r hr=>?_⟩
 obtain ⟨l,hl',rfl⟩:=List.mem_map.mp hr
 have e:knds (ns.zip ks++(ss.map Sm.new).zip js)=knds (ns.zip ks)++knds ((ss.map Sm.new).zip js):=by unfold knds;rw [List.map_append]
 rw [e]
 obtain ⟨i1,i2⟩:=aAr (ns.map (plc hd)) (Pr:=KdR (knds hd)) rows h.2 l hl'
 have lj:=hj.len
 have lv:=hv.len
 refine aN9 (aKr (Pr:=KdR (knds (ns.zip ks))) rows (fun r hr=>?_) l hl') (uA (by unfold knds;rw [List.length_map,List.length_map,List.length_zip,List.length_map];omega) fun i b x e1 e2=>?_)
 ·rw [aLb (aLm hl (h.2 r hr)) (qR (h.2 r hr))]
  exact aOx hl (h.2 r hr)
 ·unfold knds at e1
  rw [List.getElem?_map] at e1 e2
  obtain ⟨c,hc,rfl⟩:=Option.map_eq_some_iff.mp e1
  obtain ⟨n1,n2⟩:=List.getElem?_zip_eq_some.mp hc
  obtain ⟨s,es,rfl⟩:=Option.map_eq_some_iff.mp e2
  obtain ⟨hk,hn⟩:=cI hj es n2
  refine aRp i1 i2 hk (fun hne=>?_) hn
  have hi:i<vs.length:=by rw [lv];exact (List.getElem?_eq_some_iff.mp es).1
  obtain ⟨a,_,_,hs⟩:=cI hv (List.getElem?_eq_getElem hi) es
  rcases hs with ⟨_,ec,_⟩|⟨c,_,_,hw,_⟩
  ·exact absurd ec hne
  ·exact hw
theorem aMn {hd:Hdr} {ss:List Sm} {js:List Str} (h:lZ hd ss js) (hk:∀(s:Sm) (j:Str),(s,j)∈ss.zip js→vD j):aZ (fun s k=>smK hd s=some k∧(s.wd = "sum"→k = "number")) ss js:=by
 refine eQ (aZ.len h) fun i s j e1 e2=>?_
 obtain ⟨h1,h2⟩:=cI h e1 e2
 refine ⟨h1,fun e=>?_⟩
 rcases hk s j (List.mem_of_getElem? (List.getElem?_zip_eq_some.mpr ⟨e1,e2⟩)) with z|z
 ·exact z
 ·exact absurd z (h2 e)
theorem aGs {lo hi:Nat} {H:Hp} {t:Addr} {ns:List Str} (h:SqT K H t (ns.map V.str)) (hn:∀n∈ns,Nm n) (l1:lo≤ns.length) (l2:ns.length≤hi):gJ dY lo hi K H (.ref t) ns:=by
 refine ⟨⟨t,_,rfl,h,?_⟩,l1,l2⟩
 clear h l1 l2
 induction ns with
 |nil=>exact .nil
 |cons n r ih=>exact .cons ⟨rfl,hn n (List.mem_cons_self ..)⟩ (ih fun m hm=>hn m (List.mem_cons_of_mem _ hm))
theorem aAh {α β:Type} {R:α→β→Prop} {as:List α} {bs:List β} (h:aZ R as bs):∀n,aZ R (as.drop n) (bs.drop n):=by
 induction h with
 |nil=>intro n;rw [List.drop_nil,List.drop_nil];exact .nil
 |cons r t ih=>
  intro n
  cases n with
  |zero=>exact .cons r t
  |succ n=>exact ih n
theorem aMu {S:TS} {D:Ends} {σ:L2.St} {H:Hp} (J:L2.St→Hp→Prop) (h1:∀N:L2.St→Hp→Prop,(∀σ' H',J σ' H'→N σ' H')→S { D with nx:=N } σ H) (h2:∀σ' H',J σ' H'→D.nx σ' H'):S D σ H:=h1 D.nx h2
structure LS (K:PySem.W.Frag) (a N L:Addr) (ns:List Str) (vh:V) (hd:Hdr) (rows:List (List V)) (H:Hp):Prop where
 st:jF H a
 nm:H N=some (.lst (ns.map V.str))
 hd:cM K H vh hd
 rw':bH K H L rows
theorem LS.fx {a N L:Addr} {ns:List Str} {vh:V} {hd:Hdr} {rows:List (List V)} {H H':Hp} (W:LS K a N L ns vh hd rows H) (h1:N≠a) (h4:L≠a) (f:Fx a H H'):LS K a N L ns vh hd rows H':=
 ⟨f.st,f.same _ _ h1 W.nm,W.hd.tk (f.tk W.st),W.rw'.fx f W.st h4⟩
theorem LS.same {a N L:Addr} {ns:List Str} {vh:V} {hd:Hdr} {rows:List (List V)} {H H':Hp} (W:LS K a N L ns vh hd rows H) (s:Same H H'):LS K a N L ns vh hd rows H':=
 ⟨W.st.same s,s _ _ W.nm,W.hd.same s,W.rw'.same s⟩
structure SS (K:PySem.W.Frag) (hd:Hdr) (fr:List Str) (H:Hp) (p:Addr) (us:List V) (ss:List Sm) (js:List Str):Prop where
 at':SqT K H p us
 sm:aZ (fK K H) us ss
 ok:lZ hd ss js
 kd:∀(s:Sm) (j:Str),(s,j)∈ss.zip js→vD j
 nd:(ss.map Sm.new).Nodup
 mem:∀n∈ss.map Sm.new,n∈fr
 len:ss.length≤4
theorem SS.tk {hd:Hdr} {fr:List Str} {H H':Hp} {p:Addr} {us:List V} {ss:List Sm} {js:List Str} (t:TK K H H') (h:SS K hd fr H p us ss js):SS K hd fr H' p us ss js:=
 ⟨t _ _ h.at',h.sm.imp fun _ _ x=>x.tk t,h.ok,h.kd,h.nd,h.mem,h.len⟩
theorem SS.nil {hd:Hdr} {fr:List Str} {H:Hp} {p:Addr} (h:SqT K H p []):SS K hd fr H p [] [] []:=
 ⟨h,.nil,.nil,fun _ _ h=>(by cases h),List.nodup_nil,fun _ h=>(by cases h),Nat.zero_le _⟩
theorem SS.aRo {hd:Hdr} {fr:List Str} {H:Hp} {p q:Addr} {us:List V} {ss:List Sm} {js:List Str} {n:Nat} (h:SS K hd fr H p us ss js) (hq:SqT K H q (us.drop n)):SS K hd fr H q (us.drop n) (ss.drop n) (js.drop n):=by
 refine ⟨hq,aAh h.sm n,aAh h.ok n,fun s j hm=>h.kd s j ?_,?_,fun x hx=>h.mem x ?_,by rw [List.length_drop];have:=h.len;omega⟩
 ·rw [List.zip,←List.drop_zipWith] at hm
  exact List.mem_of_mem_drop hm
 ·rw [List.map_drop];exact h.nd.sublist (List.drop_sublist _ _)
 ·rw [List.map_drop] at hx;exact List.mem_of_mem_drop hx
theorem SS.two {hd:Hdr} {fr:List Str} {H:Hp} {q:Addr} {us1 us2:List V} {ss1 ss2:List Sm} {js1 js2:List Str} (fnd:fr.Nodup) (hq:SqT K H q (us1++us2)) (h1:aZ (fK K H) us1 ss1) (h2:aZ (fK K H) us2 ss2) (o1:lZ hd ss1 js1) (o2:lZ hd ss2 js2) (k1:∀(s:Sm) (j:Str),(s,j)∈ss1.zip js1→vD j) (k2:∀(s:Sm) (j:Str),(s,j)∈ss2.zip js2→vD j)
  (w1:ss1.map Sm.new=fr.take ss1.length) (w2:ss2.map Sm.new=(fr.drop 2).take ss2.length) (l1:ss1.length≤2) (l2:ss2.length≤2):SS K hd fr H q (us1++us2) (ss1++ss2) (js1++js2):=by
 have hsub:(ss1++ss2).map Sm.new |>.Sublist fr:=by
  rw [List.map_append,w1,w2]
  have e:fr.take 2++fr.drop 2=fr:=List.take_append_drop 2 fr
  have h1:(fr.take ss1.length).Sublist (fr.take 2):=List.IsPrefix.sublist (List.take_prefix_take_left l1)
  have h2:((fr.drop 2).take ss2.length).Sublist (fr.drop 2):=List.take_sublist _ _
  have:=h1.append h2
  rw [e] at this
  exact this
 refine ⟨hq,jD h1 h2,jD o1 o2,fun s j hm=>?_,fnd.sublist hsub,fun x hx=>hsub.subset hx,by rw [List.length_append];omega⟩
 rw [List.zip_append (aZ.len o1)] at hm
 rcases List.mem_append.mp hm with hm|hm
 ·exact k1 s j hm
 ·exact k2 s j hm
theorem sE.nil {hd:Hdr}:sE [] hd:=⟨fun c h=>(by cases h),List.nodup_nil,Nat.zero_le _⟩
theorem aR2 {α:Type} {l:List α} (h:¬ l.isEmpty=true):1≤l.length:=by
 cases l with
 |nil=>exact absurd rfl h
 |cons _ _=>rw [List.length_cons];omega
theorem aQ5 {f:Addr} {fd:FuncData} (F:Fun K "law" "law" zY f fd) (T:Txt w K mg) (aCm:Ok P w K mg base 2 "_law_begin" ["_law_script"] (aDp K)) (aQ:Ok P w K mg base 1 "_law_next" ["_law_state","_law_many"] jM)
  (aBl:Ok P w K mg base 2 "_law_names" ["_law_state","_law_many"] aNe) (aE1:Ok P w K mg base 2 "_law_head" ["_law_state","_law_names_here"] (aF4 K))
  (aHj:Ok P w K mg base 4 "_law_row" ["_law_state","_law_head_here"] (aI0 K)) (aFi:Ok P w K mg base 2 "_law_some" ["_law_state","_law_head_here","_law_least"] (aI9 K))
  (uU:Ok P w K mg base 2 "_law_sums" ["_law_state","_law_head_here","_law_fresh"] (aGa K)) (wG:Ok P w K mg base 2 "_law_grouped" ["_law_head_here","_law_rows","_law_names_here","_law_sums_here"] (aLo K))
  (uZ:Ok P w K mg base 1 "_law_same" ["_law_found","_law_due"] (aIv K)) (aAn:Ok P w K mg base 49 "rows_of" ["heads","tables","question"] (uF K)) (aPb:Ok P w K mg base 49 "whole" ["heads","tables","question"] (uF K)) :
  FnOk P w K mg base CX0 51 f fd ["_law_script"] (sp_law K):=by
 refine Fun.okV F dI (fun vs H Q E h=>?_) (fun cdv A outer s H vs Q E hr h=>?_)
 ·obtain ⟨a,ns,rfl,_⟩:=h;rfl
 obtain ⟨sc,sn,rfl,hS,h63,q⟩:=h
 have hu:=hu_of hr
 have hU:=hr.units
 refine ⟨_,(aC (aR (i:=1) dI.nd rfl (by trivial) (aH (aCm.mono (by decide)) hr (by rfl) (aB (vv 0) aA))) (aC (aR (i:=2) dI.nd rfl (by trivial) (aH (aBl.mono (by decide)) hr (by rfl) (aB (vv 1) (aB aD aA)))) (aC (aR (i:=3) dI.nd rfl (by trivial) (aH (aE1.mono (by decide)) hr (by rfl) (aB (vv 1) (aB (vv 2) aA)))) (aC (gW (i0:=4) dI.nd rfl (by trivial) (N:=["_law_k","_law_state","_law_head_here"]) (by trivial) (bT (defScope zY) rfl (by decide +kernel)) rfl (eU (by rfl) T.jL (aB (aH (aQ.mono (by decide)) hr (by rfl) (aB (vv 1) (aB aD aA))) aA)) (fun cl s' H' fp=>⟨(aK (i:=0) (show (["_law_k","_law_state","_law_head_here"]:List Str).Nodup from by decide +kernel) rfl (Or.inl rfl)),bJ,(aH (aHj.mono (by decide)) hr (by rfl) (aB (vv 1) (aB (vv 2) aA)))⟩)) (aC (aR (i:=5) dI.nd rfl (by trivial) (fJ aJh (bD bN (by rfl) T.bV bL (aB (bM (N:=["_law_name","_law_kind"]) (by trivial) (dZ (by decide +kernel)) rfl (cN (aH (aFi.mono (by decide)) hr (by rfl) (aB (vv 1) (aB (vv 3) (aB aD aA))))) (fun cl s' H' fp=>⟨(oH (K:=K) (n:=2) rfl (bB (aK (i:=0) (show (["_law_name","_law_kind"]:List Str).Nodup from by decide +kernel) rfl (Or.inl rfl)) (bB (aK (i:=1) (show (["_law_name","_law_kind"]:List Str).Nodup from by decide +kernel) rfl (Or.inl rfl)) dM))),bJ,(vv 0)⟩)) aA)) lC (fU aD))) (aC (bA (aM op_eq (aH (aQ.mono (by decide)) hr (by rfl) (aB (vv 1) (aB aD aA))) aD (nomark _)) (aF (aR (i:=5) dI.nd rfl (by trivial) (bY aA))) aP) (aC (gW (i0:=6) dI.nd rfl (by trivial) (N:=["_law_name","_law_some_here"]) (by trivial) (bT (defScope zY) rfl (by decide +kernel)) rfl (cN (fJ aEr (vv 2) (fU aD) lC)) (fun cl s' H' fp=>⟨(aK (i:=0) (show (["_law_name","_law_some_here"]:List Str).Nodup from by decide +kernel) rfl (Or.inl rfl)),(aB5 (aM (pA (K:=K)) (vv 0) (vv 1) (by with_unfolding_all rfl))),(vv 0)⟩)) (aC (aR (i:=7) dI.nd rfl (by trivial) (bK vN (aH (uU.mono (by decide)) hr (by rfl) (aB (vv 1) (aB (vv 3) (aB (vv 6) aA)))) (aH (uU.mono (by decide)) hr (by rfl) (aB (vv 1) (aB (vv 3) (aB (fJ aEr (vv 6) (fU aD) lC) aA)))))) (aC (aR (i:=7) dI.nd rfl (by trivial) (fJ aJh (vv 7) (fU (aH (aQ.mono (by decide)) hr (by rfl) (aB (vv 1) (aB aD aA)))) lC)) (aC (bA (VW.pt (aBf (aM (aQy (Nat.lt_of_succ_lt hu)) (vv 5) (bY aA) (nomark _)) (vV (aM op_eq (aH (aQ.mono (by decide)) hr (by rfl) (aB (vv 1) (aB aD aA))) aD (nomark _))))) (aF (aR (i:=7) dI.nd rfl (by trivial) (bY aA))) aP) (aC (bA (VW.pt (aBf (aM (aNo (Nat.lt_of_succ_lt hu)) (vv 5) (bY aA) (nomark _)) (vV (aM (aNo (Nat.lt_of_succ_lt hu)) (vv 7) (bY aA) (nomark _))))) (aF (aR (i:=7) dI.nd rfl (by trivial) (bY (aB (bY (aB aO (aB aBy (aB (aJ ix_list (vv 6) aD (fun _ _=>rfl)) aA)))) aA)))) aP) (aC (aBw (aH (wG.mono (by decide)) hr (by rfl) (aB (vv 3) (aB (vv 4) (aB (vv 5) (aB (vv 7) aA))))) (nO rfl (bB (aK (i:=8) dI.nd rfl (by trivial)) (bB (aK (i:=9) dI.nd rfl (by trivial)) dM)))) (aC (aR (i:=10) dI.nd rfl (by trivial) (bY (aB aO (aB (bY (aB aO (aB (aJ ix_list (vv 2) aD (fun _ _=>rfl)) aA))) (aB (vv 5) (aB (vv 7) aA)))))) (aC (aR (i:=11) dI.nd rfl (by trivial) (aBb (xK (aJ ix_list (vv 2) aD (fun _ _=>rfl)) (vv 3) aB6) rfl rfl (by simp) (by decide))) (aC (aR (i:=12) dI.nd rfl (by trivial) (aBb (xK (aJ ix_list (vv 2) aD (fun _ _=>rfl)) (bD pK (by rfl) T.wA qW (aB (vv 4) aA)) aB6) rfl rfl (by simp) (by decide))) (aC (bA (dC (cQ (aH (uZ.mono (by decide)) hr (by rfl) (aB (aH (aAn.mono (by decide)) hr (by rfl) (aB (vv 11) (aB (vv 12) (aB (vv 10) aA)))) (aB (aL lH (by rfl) T.qL oJ (aB (vv 9) aA)) aA))))) (aF (aG iG)) aP) (aC (bA (VW.pt (mL (dC (cQ (aH (uZ.mono (by decide)) hr (by rfl) (aB (aH (aPb.mono (by decide)) hr (by rfl) (aB (vv 11) (aB (vv 12) (aB (vv 10) aA)))) (aB (aL lH (by rfl) T.qL oJ (aB (vv 9) aA)) aA))))) (jE (aM (aN2 hU) (vv 12) (aBb (xK (aJ ix_list (vv 2) aD (fun _ _=>rfl)) (vv 4) aB6) rfl rfl (by simp) (by decide)) (nomark _))))) (aF (aG iG)) aP) (aC (bW (aCl PySem.F.plainAttrs_list PySem.F.slot_list_clear PySem.F.type_list_clear aJ9 (rR hu (vv 12) (aJ ix_list (vv 2) aD (fun _ _=>rfl)) (fun _ _=>rfl)))) (aF (aG (dD (aQ1 (Nat.lt_of_succ_lt hu)) (aH (aAn.mono (by decide)) hr (by rfl) (aB (vv 11) (aB (vv 12) (aB (vv 10) aA)))) (cB aA) (nomark _)))))))))))))))))))))),?_⟩
 refine ⟨_,rfl,sc,sn,rfl,hS,h63,fun a H2 fa s2 hst=>?_⟩
 refine ⟨_,rfl,a,rfl,hst,fun N H3 ns f3 fN g3 hn=>?_⟩
 have nNa:N≠a:=hst.ne fN
 have hst3:=f3.st
 refine ⟨_,rfl,_,rfl,a,N,ns,rfl,hst3,g3,nNa,hn,fun vh H4 hd f4 hh hok _=>?_⟩
 have hst4:=f4.st
 have g4:=f4.same _ _ nNa g3
 dsimp only [gName,tSeq,tAsg]
 refine aMc [none,some (.ref a),some vh] ?_ ?_
 ·exact aCz 1 3 (by decide +kernel) (by decide +kernel) rfl rfl rfl rfl (by trivial) (by trivial)
 refine ⟨_,rfl,a,41,rfl,hst4,by decide,fun z H5 f5 z0 z1=>?_⟩
 refine ⟨z,rfl,by omega,by omega,?_⟩
 have fx5:Fx a H4 H5:=f5
 have hh5:=hh.tk (f5.tk (K:=K) hst4)
 refine uW (Fx a) (aLr f5.st) ((List.range z.toNat).map fun i:Nat=>V.int (0+(i:Int))) (fun _=>true) (fun _ H' y=>∃r,jG K H' y r∧KdR (knds hd) r) (fun f1 f2 ⟨r,⟨p,e,hp⟩,h⟩=>⟨r,⟨p,e,f2.aN f1.st hp⟩,h⟩) (fun _ _ gD ⟨r,⟨p,e,hp⟩,h⟩=>⟨r,⟨p,e,SqT.lG gD hp⟩,h⟩) (fun i σ=>∃x,σ=[some x,some (.ref a),some vh]) (fun σ=>∃l,σ=[l,some (.ref a),some vh]) ⟨none,rfl⟩ (small (by rw [List.length_map,List.length_range];omega)) (Itr 0 z.toNat) (fun H' i x _ ex=>?_) (fun H' _=>?_) (fun i x σ' H' Q' ex ps f' r=>?_) (fun i x σ2 ex at2 H' R f' r=>r H' (Fx.refl f'.st)) (fun i x σ2 ex at2 _ H' R f' r=>?_) fun L H6 ys f6 fL gL hys=>?_
 ·obtain ⟨hi,rfl⟩:=aP3 ex
  exact ⟨hi,fun y H2 hy=>hy⟩
 ·show z.toNat≤_
  rw [List.length_map,List.length_range];exact Nat.le_refl _
 ·obtain ⟨l,rfl⟩:=ps
  exact r _ ⟨some x,rfl⟩ ⟨x,rfl⟩
 ·obtain ⟨x',rfl⟩:=at2
  exact ⟨_,rfl,_,rfl,a,vh,hd,rfl,f'.st,hh5.tk (f'.tk f5.st),hok,fun t H2 r' f2 g2 hk=>r _ H2 f2 ⟨r',⟨t,rfl,SqT.of g2⟩,hk⟩⟩
 rw [iB,List.length_map,List.length_range] at hys
 obtain ⟨ly,hy⟩:=eO hys
 obtain ⟨rows,hrow,hkd⟩:=aI6 (ys:=ys) fun y hm=>by
  obtain ⟨i,hi⟩:=List.mem_iff_getElem?.mp hm
  exact hy i y hi
 have lrow:=hrow.len
 have hfit:Fit hd rows:=⟨by omega,hkd⟩
 have nLa:L≠a:=f5.st.ne fL
 have g6:=(f5.trans f6).same _ _ nNa g4
 have hh6:=hh5.tk (f6.tk (K:=K) f5.st)
 have hst6:=f6.st
 have hL6:bH K H6 L rows:=⟨ys,gL,hrow⟩
 have l17:=hn.1
 obtain ⟨n0,nr,rfl⟩:∃n0 nr,ns=n0::nr:=by
  cases ns with
  |nil=>cases l17
  |cons x r=>exact ⟨x,r,rfl⟩
 have hn0:Nm n0:=hn.2.1 n0 List.mem_cons_self
 have S6:LS K a N L (n0::nr) vh hd rows H6:=⟨hst6,g6,hh6,hL6⟩
 have SF:∀{H H':Hp},LS K a N L (n0::nr) vh hd rows H→Fx a H H'→LS K a N L (n0::nr) vh hd rows H':=fun W f=>W.fx nNa nLa f
 have l8:=hok.1.2.2
 have l1:=hok.1.2.1
 clear g6 hh6 hL6 g4 g3 hh hh5 hrow hy hys gL ly
 dsimp only [tSl,tCB,tCons]
 refine jY [none,none] oN ⟨_,rfl,_,rfl,a,vh,hd,0,rfl,hst6,S6.hd,hok.1,by decide,fun S H7 cs hd2 f7 fS gS hS sub _=>⟨S,rfl,⟨_,SqL.of gS⟩,aNi gS hS (by have:=sub.2.2;omega) fun D8 H8 fD8 s8 g8=>?_⟩⟩
 refine ⟨D8,_,rfl,SqL.of g8,fun t9 H9 _ s9 g9=>⟨_,rfl,t9,_,rfl,SqT.of g9,fun p10 H10 s10 hp10=>?_⟩⟩
 rw [show (3:Int)=((3:Nat):Int) from rfl,aPa,←List.map_take,←List.map_take] at hp10
 have sub3:=sub.take 3
 have l3:(hd2.take 3).length≤3:=by rw [List.length_take];omega
 have f10:Fx a H6 H10:=((f7.sm s8).sm s9).sm s10
 generalize hd2.take 3=hd3 at hp10 sub3 l3
 have S10:=SF S6 f10
 refine aMu (S:=tIfS _ _ _) (fun σ' H'=>Fx a H6 H'∧∃p hd3,σ'=[some (.ref sc),some (.ref a),some (.ref N),some vh,some (.ref L),some (.ref p),none,none,none,none,none,none,none]∧SqT K H' p ((hd3.map Prod.fst).map V.str)∧sE hd3 hd∧hd3.length≤3) (fun N' hN=>?_) ?_
 ·refine ⟨_,rfl,a,5,rfl,S10.st,by decide,fun z H11 f11 z0 z1=>⟨rfl,_,rfl,ite2 (fun _=>?_) (fun _=>?_)⟩⟩
  ·exact ⟨(by show 0≤sizeLine;decide),fun p H' _ s' g'=>hN _ _ ⟨(f10.trans f11).sm s',p,[],rfl,SqT.of g',sE.nil,by decide⟩⟩
  ·exact hN _ _ ⟨f10.trans f11,p10,hd3,rfl,f11.aN S10.st hp10,sub3,l3⟩
 clear hp10 sub3 l3 f10 S10 gS hS sub g8 g9 f7
 rintro σ' H12 ⟨f12,p5,hd3,rfl,hp5,sub3,l3⟩
 have S12:=SF S6 f12
 try dsimp only [gName,tSeq,tAsg]
 refine aG0 (K:=K) (U:=.ref p5) (used:=hd3.map (·.1)) hn ?_ (fun R r=>?_) (fun n l H' R s' r=>?_) fun F13 H13 fF s13 gF=>?_
 ·exact bU 5 (by decide +kernel) rfl rfl (by trivial)
 ·refine ⟨_,rfl,_,rfl,N,_,rfl,SqL.of S12.nm,fun p' H' fp' s' g'=>r p' H' fp' s' ?_⟩
  rw [g',show (3:Int)=((3:Nat):Int) from rfl,uG,List.map_drop]
 ·refine ⟨_,rfl,_,rfl,p5,_,rfl,.inr (s'.aN hp5),rfl,xJ,_,rfl,?_⟩
  rw [aCv]
  exact r H' (Same.refl H')
 obtain ⟨fnd,fnm,flen,flen2⟩:=aM9 (used:=hd3.map (·.1)) hn
 rw [List.length_map] at flen
 generalize hfr:iI (n0::nr) (hd3.map (·.1))=fr at gF fnd fnm flen flen2
 clear hfr
 have f13:=f12.sm s13
 have S13:=SF S6 f13
 have nFa:F13≠a:=S12.st.ne fF
 try dsimp only [gName]
 refine ⟨_,rfl,_,rfl,_,rfl,a,F13,vh,hd,fr,rfl,S13.st,S13.hd,hok,gF,nFa,by omega,fun n h=>(fnm n h).1,fun v1 H14 ss1 js1 f14 hs1' hj1 hw1 hk1=>?_⟩
 have f14':=f13.trans f14
 have S14:=SF S6 f14'
 have gF14:=f14.same _ _ nFa gF
 refine ⟨_,rfl,_,rfl,_,rfl,_,rfl,F13,_,rfl,SqL.of gF14,fun p15 H15 fp15 s15 g15=>?_⟩
 rw [show (2:Int)=((2:Nat):Int) from rfl,uG,←List.map_drop] at g15
 have f15:=f14'.sm s15
 have S15:=SF S6 f15
 have n15:p15≠a:=S14.st.ne fp15
 refine ⟨a,p15,vh,hd,fr.drop 2,rfl,S15.st,S15.hd,hok,g15,n15,by rw [List.length_drop];omega,fun n h=>(fnm n (List.mem_of_mem_drop h)).1,fun v2 H16 ss2 js2 f16 hs2' hj2 hw2 hk2=>?_⟩
 obtain ⟨⟨p1,us1,rfl,hp1,hu1⟩,l1a,l1b⟩:=hs1'
 obtain ⟨⟨p2,us2,rfl,hp2,hu2⟩,l2a,l2b⟩:=hs2'
 have lu1:=hu1.len
 have lu2:=hu2.len
 have f16':=f15.trans f16
 have tk:TK K H14 H16:=fun _ _ e=>f16.aN S15.st (s15.aN e)
 refine ⟨p1,p2,us1,us2,rfl,rfl,tk _ _ hp1,hp2,small (by omega),fun p17 H17 s17 hp17=>?_⟩
 have f17:=f16'.sm s17
 have S17:=SF S6 f17
 have Z17:=SS.two fnd hp17 (hu1.imp fun _ _ h=>(h.tk tk).same s17) (hu2.imp fun _ _ h=>h.same s17) hj1 hj2 hk1 hk2 hw1 hw2 l1b l2b
 generalize us1++us2=us17 at Z17 hp17
 generalize ss1++ss2=ss17 at Z17
 generalize js1++js2=js17 at Z17
 have gF17:H17 F13=some (.lst (fr.map V.str)):=s17 _ _ (f16.same _ _ nFa (s15 _ _ gF14))
 have hp5':SqT K H17 p5 ((hd3.map Prod.fst).map V.str):=s17.aN (f16.aN S15.st (s15.aN (f14.aN S13.st (s13.aN hp5))))
 clear hp1 hp2 hu1 hu2 lu1 lu2 hj1 hj2 hw1 hw2 hk1 hk2 f16' f16 f15 f14 f14' S14 S15 g15 gF14 gF tk hp5 S12 S13
 try dsimp only [gName,tSeq,tAsg]
 refine ⟨_,rfl,_,rfl,a,3,rfl,S17.st,by decide,fun z H18 f18 z0 z1=>?_⟩
 obtain ⟨zn,rfl⟩:∃zn:Nat,z=zn:=⟨z.toNat,by omega⟩
 refine ⟨_,rfl,p17,_,rfl,f18.aN S17.st hp17,fun p19 H19 s19 hp19=>?_⟩
 rw [uG] at hp19
 have tk19:TK K H17 H19:=fun _ _ e=>s19.aN (f18.aN S17.st e)
 have f19:=(f17.trans f18).sm s19
 have S19:=SF S6 f19
 have Z19:=(Z17.tk tk19).aRo hp19
 generalize us17.drop zn=us19 at Z19
 generalize ss17.drop zn=ss19 at Z19
 generalize js17.drop zn=js19 at Z19
 have gF19:=s19 _ _ (f18.same _ _ nFa gF17)
 have hp5:=tk19 _ _ hp5'
 clear hp5' gF17 Z17 tk19 hp19 hp17 S17 f17 f18
 refine aMu (S:=tIfS _ _ _) (fun σ' H'=>Fx a H19 H'∧∃p7 us ss js,σ'=[some (.ref sc),some (.ref a),some (.ref N),some vh,some (.ref L),some (.ref p5),some (.ref F13),some (.ref p7),none,none,none,none,none]∧SS K hd fr H' p7 us ss js) (fun N' hN=>?_) ?_
 ·refine aP0 (fun H8=>Fx a H19 H8) (fun H8=>Fx a H19 H8) (fun R y n=>?_) (fun H8 f8=>?_) (fun H8 f8=>hN _ _ ⟨f8,p19,us19,ss19,js19,rfl,Z19.tk (f8.tk S19.st)⟩)
  ·refine ⟨_,rfl,(by show 0≤sizeLine;decide),fun E8 H8 _ s8 g8=>⟨p5,E8,_,rfl,rfl,s8.aN hp5,SqT.of g8,_,rfl,ite2 (fun c1=>?_) (fun _=>n H8 (.of S19.st s8))⟩⟩
   refine ⟨_,rfl,a,7,rfl,S19.st.same s8,by decide,fun z H9 f9 _ _=>⟨rfl,_,rfl,?_⟩⟩
   have f9':Fx a H19 H9:=(Fx.of S19.st s8).trans f9
   cases hz:decide (V.int z=V.int 0) with
   |true=>exact y H9 f9'
   |false=>exact n H9 f9'
  ·exact ⟨(by show 0≤sizeLine;decide),fun p H' _ s' g'=>hN _ _ ⟨f8.sm s',p,[],[],[],rfl,SS.nil (SqT.of g')⟩⟩
 rintro σ' H20 ⟨f20,p7,us20,ss20,js20,rfl,Z20⟩
 have S20:=SF S19 f20
 have gF20:=f20.same _ _ nFa gF19
 have hp5':=f20.aN S19.st hp5
 obtain ⟨f0,frr,rfl⟩:∃f0 frr,fr=f0::frr:=by
  cases fr with
  |nil=>rw [List.length_nil] at flen;omega
  |cons x r=>exact ⟨x,r,rfl⟩
 clear Z19 gF19 hp5
 dsimp only
 refine aA2 (S:=tIfS _ _ _) (fun σ' H'=>Fx a H20 H'∧∃p7 us ss js,σ'=[some (.ref sc),some (.ref a),some (.ref N),some vh,some (.ref L),some (.ref p5),some (.ref F13),some (.ref p7),none,none,none,none,none]∧SS K hd (f0::frr) H' p7 us ss js∧1≤hd3.length+ss.length) (fun N' hN=>?_) ?_
 ·refine aP0 (fun H8=>Fx a H20 H8) (fun H8=>Fx a H20 H8∧1≤hd3.length+ss20.length) (fun R y n=>?_) (fun H8 f8=>?_) (fun H8 f8=>hN _ _ ⟨f8.1,p7,us20,ss20,js20,rfl,Z20.tk (f8.1.tk S20.st),f8.2⟩)
  ·refine ⟨_,rfl,(by show 0≤sizeLine;decide),fun E8 H8 _ s8 g8=>⟨p5,E8,_,rfl,rfl,s8.aN hp5',SqT.of g8,_,rfl,ite2 (fun c1=>?_) (fun c1=>n H8 ⟨.of S20.st s8,?_⟩)⟩⟩
   ·refine ⟨_,rfl,(by show 0≤sizeLine;decide),fun E9 H9 _ s9 g9=>⟨p7,E9,_,rfl,rfl,(s8.trans s9).aN Z20.at',SqT.of g9,_,rfl,?_⟩⟩
    have f9':Fx a H20 H9:=Fx.of S20.st (s8.trans s9)
    cases hz:us20.isEmpty with
    |true=>exact y H9 f9'
    |false=>
     refine n H9 ⟨f9',?_⟩
     have:=aR2 (l:=us20) (by rw [hz];exact Bool.false_ne_true)
     have:=Z20.sm.len
     omega
   ·have:=aR2 c1
    rw [List.length_map,List.length_map] at this
    omega
  ·have gF8:=f8.same _ _ nFa gF20
   refine ⟨_,rfl,F13,_,0,_,rfl,rfl,SqL.of gF8,at0 _ _,(by show 3≤sizeLine;decide),fun t H' _ s' g'=>⟨(by show 1≤sizeLine;decide),fun t2 H'' _ s'' g''=>hN _ _ ⟨(f8.sm s').sm s'',t2,[.ref t],[⟨"count",none,f0⟩],["number"],rfl,⟨SqT.of g'',.cons ⟨t,rfl,(fnm f0 List.mem_cons_self).1,.inl ⟨rfl,rfl,SqT.of (s'' _ _ g')⟩⟩ .nil,.cons ⟨rfl,fun _=>by decide +kernel⟩ .nil,fun s j hm=>?_,by simp,fun n hm=>?_,by show 1≤4;decide⟩,by show 1≤hd3.length+1;omega⟩⟩⟩
   ·cases hm with
    |head=>exact .inl rfl
    |tail _ z=>cases z
   ·cases hm with
    |head=>exact List.mem_cons_self
    |tail _ z=>cases z
 clear Z20 gF20
 rintro σ' H21 ⟨f21,p7,us,ss,js,rfl,Z21,l1s⟩
 have S21:=SF S20 f21
 have hp5:=f21.aN S20.st hp5'
 clear hp5'
 have lss:=Z21.len
 have hnum:=aMn Z21.ok Z21.kd
 have lks:Looks hd (hd3.map Prod.fst) (hd3.map Prod.snd):=aMg hok.1.1 sub3.1
 have ljs:=aZ.len Z21.ok
 have l63:=hfit.1
 refine ⟨_,rfl,_,rfl,_,rfl,_,rfl,vh,L,p5,.ref p7,hd,rows,hd3.map Prod.fst,hd3.map Prod.snd,ss,js,rfl,S21.hd,hok.1,S21.rw',by omega,hfit.2,hp5,by rw [List.length_map];omega,lks,⟨p7,us,rfl,Z21.at',Z21.sm⟩,by omega,hnum,fun T22 C22 D22 H22 nD s22 gT hR22=>?_⟩
 have S22:=S21.same s22
 refine ⟨T22,_,rfl,SqT.of gT,rfl,_,_,rfl,_,_,rfl,rfl,?_⟩
 refine ⟨_,rfl,N,_,0,_,rfl,rfl,SqL.of S22.nm,at0 _ _,(by show 2≤sizeLine;decide),fun pq H23 _ s23 g23=>⟨_,rfl,_,rfl,(by show 4≤sizeLine;decide),fun pw H24 _ s24 g24=>?_⟩⟩
 have s2224:=s23.trans s24
 have s2124:=s22.trans s2224
 have S24:=S22.same s2224
 have hR24:=hR22.same s2224
 have hq24:IsQ K H24 (.ref pw) (.group (.table n0) (hd3.map Prod.fst) ss):=.group (SqT.of g24) (.table (s24.aN (SqT.of g23)) hn0) (aGs (s2124.aN hp5) (fun n hm=>by
  obtain ⟨c,hc,rfl⟩:=List.mem_map.mp hm
  exact (hok.2 c (sub3.1 c hc)).1) (Nat.zero_le _) (by rw [List.length_map];omega)) ⟨⟨p7,us,rfl,s2124.aN Z21.at',Z21.sm.imp fun _ _ h=>h.same s2124⟩,Nat.zero_le _,lss⟩
 have hgd:Good ((hd3.map Prod.fst).zip (hd3.map Prod.snd)++(ss.map Sm.new).zip js):=by
  have e1:(hd3.map Prod.fst).zip (hd3.map Prod.snd)=hd3:=zip_fst_snd hd3
  have e2:((ss.map Sm.new).zip js).map Prod.fst=ss.map Sm.new:=List.map_fst_zip (by rw [List.length_map];omega)
  have e3:((ss.map Sm.new).zip js).length=ss.length:=by rw [List.length_zip,List.length_map];omega
  rw [e1]
  refine ⟨?_,by rw [List.length_append,e3];omega,by rw [List.length_append,e3];omega⟩
  rw [List.map_append]
  refine List.nodup_append.mpr ⟨sub3.2.1,by rw [e2];exact Z21.nd,fun x hx y hy e=>?_⟩
  rw [e2] at hy
  exact (fnm y (Z21.mem y hy)).2 (by rw [←e];exact hx)
 have hfit2:∀rows',Fit hd rows'→Fit ((hd3.map Prod.fst).zip (hd3.map Prod.snd)++(ss.map Sm.new).zip js) (kY hd (hd3.map Prod.fst) ss rows'):=fun rows' h=>aKn lks Z21.sm hnum h
 have hHQ0:HQ (hs1 n0 hd) (.table n0) hd:=.mk0 rfl (.table (by unfold hs1;rw [if_pos rfl])) hok.1
 have hHQ:HQ (hs1 n0 hd) (.group (.table n0) (hd3.map Prod.fst) ss) ((hd3.map Prod.fst).zip (hd3.map Prod.snd)++(ss.map Sm.new).zip js):=.mk1 rfl hHQ0 (.group lks Z21.ok) hgd
 have hRQ:∀M rows',Fit hd rows'→RQ (hs1 n0 hd) (tb1 n0 M rows') (.group (.table n0) (hd3.map Prod.fst) ss) (kY hd (hd3.map Prod.fst) ss rows'):=fun M rows' h=>.one rfl hHQ0 (.table (D:=M) (by unfold tb1;rw [if_pos rfl])) h (.group lks hnum)
 have hsz:size (.group (.table n0) (hd3.map Prod.fst) ss)≤20:=by show 1+1≤20;decide
 generalize (hd3.map Prod.fst).zip (hd3.map Prod.snd)++(ss.map Sm.new).zip js=hd' at hgd hfit2 hHQ
 have fit1:=hfit2 rows hfit
 have fit0:Fit hd ([]:List (List V)):=⟨by decide,fun r h=>by cases h⟩
 have hRQ1:=fun M=>hRQ M rows hfit
 have hRQ2:∀M,RQ (hs1 n0 hd) (tb1 n0 M []) (.group (.table n0) (hd3.map Prod.fst) ss) []:=fun M=>hRQ M [] fit0
 have fit2:Fit hd' ([]:List (List V)):=hfit2 [] fit0
 generalize kY hd (hd3.map Prod.fst) ss rows=rs at hR24 fit1 hRQ1
 generalize (Qn.group (.table n0) (hd3.map Prod.fst) ss)=q0 at hq24 hHQ hRQ1 hRQ2 hsz
 clear hRQ hfit2 Z21 lks hnum hp5 hR22 g23 g24 gT S22 S21 S20 S19
 refine fun d fd=>?_
 have s25:Same H24 (L2.upd H24 d (.dK [])):=aW fd _
 refine ⟨_,rfl,N,_,0,_,rfl,rfl,SqL.of (s25 _ _ S24.nm),at0 _ _,_,rfl,upd_same,[(Sum.inr n0,vh)],rfl,by show 1≤15;decide,?_⟩
 have s26:Same H24 (L2.upd (L2.upd H24 d (.dK [])) d (.dK (mergeK [] [(Sum.inr n0,vh)]))):=bR fd s25
 have gd26:L2.upd (L2.upd H24 d (.dK [])) d (.dK (mergeK [] [(Sum.inr n0,vh)])) d=some (.dK [(Sum.inr n0,vh)]):=upd_same
 generalize L2.upd (L2.upd H24 d (.dK [])) d (.dK (mergeK [] [(Sum.inr n0,vh)]))=H26 at s26 gd26 ⊢
 refine fun tb ftb=>?_
 have s27:Same H26 (L2.upd H26 tb (.dK [])):=aW ftb _
 have S26:=S24.same s26
 obtain ⟨us0,hL0,hu0⟩:=id S26.rw'
 refine ⟨_,rfl,N,_,0,_,rfl,rfl,SqL.of (s27 _ _ S26.nm),at0 _ _,_,rfl,L,us0,rfl,.inl (SqL.of (s27 _ _ hL0)),fun M H28 nM s28 gM=>⟨s28 _ _ upd_same,[(Sum.inr n0,.ref M)],rfl,by show 1≤15;decide,?_⟩⟩
 have nMt:M≠tb:=fun z=>by rw [z,upd_same] at nM;cases nM
 have s29:Same H26 (L2.upd H28 tb (.dK (mergeK [] [(Sum.inr n0,.ref M)]))):=bR ftb (s27.trans s28)
 have gt29:L2.upd H28 tb (.dK (mergeK [] [(Sum.inr n0,.ref M)])) tb=some (.dK [(Sum.inr n0,.ref M)]):=upd_same
 have gM29:L2.upd H28 tb (.dK (mergeK [] [(Sum.inr n0,.ref M)])) M=some (.lst us0):=by rw [upd_ne nMt];exact gM
 generalize L2.upd H28 tb (.dK (mergeK [] [(Sum.inr n0,.ref M)]))=H29 at s29 gt29 gM29 ⊢
 have S29:=S26.same s29
 have gd29:=s29 _ _ gd26
 have s2429:=s26.trans s29
 have hq29:=hq24.same s2429
 have hR29:=hR24.same s2429
 have hu29:=hu0.imp fun _ _ h=>h.same s29
 clear S26 S24 hq24 hR24 gM gd26 s28 s27 s25
 have hsr:=aO8 hgd fit1
 have l63':=fit1.1
 obtain ⟨usr,hDr,hur⟩:=id hR29
 have lur:=hur.len
 have askC:∀{Hx Hy:Hp} {C:Addr} {us:List V},Hx C=some (.lst us)→Same Hy Hx→Al2 (jG K Hy) us (srt rs)→bH K Hx C (srt rs):=fun g s h=>⟨_,g,(mX h).imp fun _ _ r=>r.same s⟩
 refine ⟨_,rfl,_,rfl,_,rfl,d,tb,.ref pw,hs1 n0 hd,tb1 n0 M rows,q0,hd',rs,rfl,aGh gd29 S29.hd,aLt gt29 ⟨us0,gM29,hu29⟩,hq29,hsz,hHQ,hRQ1 M,fit1,fun D30 H30 _ s30 hR30=>⟨_,rfl,D22,usr,rs,knds hd',rfl,SqL.of (s30 _ _ hDr),kJ (hur.imp fun _ _ h=>h.same s30),by omega,vP hgd,fit1.2,fun C31 H31 us31 _ s31 g31 h31=>⟨D30,C31,srt rs,knds hd',rfl,hR30.same s31,askC g31 s31 h31,hsr.1,hsr.2,fun H32 s32=>⟨_,rfl,iteF ?_⟩⟩⟩⟩
 have t32:=s30.trans (s31.trans s32)
 refine ⟨_,rfl,_,rfl,_,rfl,d,tb,.ref pw,hs1 n0 hd,tb1 n0 M rows,q0,hd',rs,rfl,aGh (t32 _ _ gd29) (S29.hd.same t32),aLt (t32 _ _ gt29) ⟨us0,t32 _ _ gM29,hu29.imp fun _ _ h=>h.same t32⟩,hq29.same t32,hsz,hHQ,hRQ1 M,fit1,fun D33 H33 _ s33 hR33=>⟨_,rfl,D22,usr,rs,knds hd',rfl,SqL.of ((t32.trans s33) _ _ hDr),kJ (hur.imp fun _ _ h=>h.same (t32.trans s33)),by omega,vP hgd,fit1.2,fun C34 H34 us34 _ s34 g34 h34=>⟨D33,C34,srt rs,knds hd',rfl,hR33.same s34,askC g34 s34 h34,hsr.1,hsr.2,fun H35 s35=>⟨_,rfl,iteF ?_⟩⟩⟩⟩
 have t35:=t32.trans (s33.trans (s34.trans s35))
 refine ⟨_,rfl,fun e fe=>?_⟩
 have s36:Same H35 (L2.upd H35 e (.dK [])):=aW fe _
 refine ⟨_,rfl,N,_,0,_,rfl,rfl,SqL.of ((t35.trans s36) _ _ S29.nm),at0 _ _,_,rfl,upd_same,[(Sum.inr n0,.ref L)],rfl,by show 1≤15;decide,?_⟩
 have s37:Same H35 (L2.upd (L2.upd H35 e (.dK [])) e (.dK (mergeK [] [(Sum.inr n0,.ref L)]))):=bR fe s36
 have ge37:L2.upd (L2.upd H35 e (.dK [])) e (.dK (mergeK [] [(Sum.inr n0,.ref L)])) e=some (.dK [(Sum.inr n0,.ref L)]):=upd_same
 generalize L2.upd (L2.upd H35 e (.dK [])) e (.dK (mergeK [] [(Sum.inr n0,.ref L)]))=H37 at s37 ge37 ⊢
 have t37:=t35.trans s37
 have gM37:=t37 _ _ gM29
 refine ⟨tb,e,Sum.inr n0,M,L,us0,rfl,rfl,t37 _ _ gt29,ge37,SqL.of gM37,SqL.of (t37 _ _ (s29 _ _ hL0)),aNy hu0,_,rfl,iteF ?_⟩
 refine ⟨_,rfl,_,rfl,N,_,0,_,rfl,rfl,SqL.of (t37 _ _ S29.nm),at0 _ _,tb,_,rfl,aIo (t37 _ _ gt29) aLq,.inl ⟨rfl,_,SqL.of gM37⟩,M,_,rfl,rfl,gM37,?_⟩
 have gd37:=t37 _ _ gd29
 have gt37:=t37 _ _ gt29
 have tkC:TK K H37 (L2.upd H37 M (.lst [])):=fun _ _ e=>e.lG gM37
 have gdC:L2.upd H37 M (.lst []) d=some (.dK [(Sum.inr n0,vh)]):=by rw [upd_ne (ne_of gd37 gM37 (by intro z;cases z))];exact gd37
 have gtC:L2.upd H37 M (.lst []) tb=some (.dK [(Sum.inr n0,.ref M)]):=by rw [upd_ne (ne_of gt37 gM37 (by intro z;cases z))];exact gt37
 have gMC:L2.upd H37 M (.lst []) M=some (.lst []):=upd_same
 have hqC:=(hq29.same t37).tk tkC
 have hhC:=(S29.hd.same t37).tk tkC
 generalize L2.upd H37 M (.lst [])=HC at gdC gtC gMC hqC hhC ⊢
 refine ⟨_,rfl,_,rfl,_,rfl,d,tb,.ref pw,hs1 n0 hd,tb1 n0 M [],q0,hd',[],rfl,aGh gdC hhC,aLt gtC ⟨[],gMC,.nil⟩,hqC,hsz,hHQ,hRQ2 M,fit2,fun D38 H38 _ s38 ⟨us38,g38,h38⟩=>?_⟩
 have e38:us38=[]:=by
  have:=h38.len
  rw [aI7] at this
  exact List.length_eq_zero_iff.mp this
 subst e38
 exact ⟨(by show 0≤sizeLine;decide),fun E39 H39 _ s39 g39=>⟨D38,E39,[],rfl,rfl,SqL.of (s39 _ _ g38),SqL.of g39,q H39⟩⟩
theorem aF9 (T:Txt w K mg):Ok P w K mg base 27 "head_of" ["heads","question"] (aEc K):=by
 have g1:=aFu (P:=P) (base:=base) T
 have g2:=aGz (P:=P) (base:=base) T
 have g3:=aH0 T g2
 have g4:=aDm T g1 g2
 have g5:=aG2 T g1
 have g6:=aAu (P:=P) (base:=base) T
 have g7:=aM4 g3
 have fm:Forms P w K mg base:=⟨g7,pU T,aBu T (aGv T g6 g3 (aD4 T g6 g4 g3)) (cG T),aBi T g7 (cG T),qC T g7 (cG T),aCi T (aGi T g7 (cG T)) (cG T),aEm T (aJv T g6 g3) (cG T),aEk T (aKt T g6 g3) (cG T),aH4 T g1⟩
 have g8:=mK (P:=P) (base:=base) T
 have g9:=aHd (P:=P) (base:=base) T
 have g10:=qJ (P:=P) (base:=base) T
 have g11:=wI T (zL (P:=P) (base:=base) T)
 have g12:=aBo T g9
 have g13:=aB3 T (zM T) (yF T g10 g9 (zG T g5 g9)) g12 (yX T) (aC6 T g10 g9 g11) (yG T g12 (aFq T g9)) (zE T g12 g11)
 exact aHt T (oG T g8 g13 g11 (rY T) 20) (aGj T (aEp T fm g6) g8 (aDn T))
theorem all_rows (T:Txt w K mg):Ok P w K mg base 49 "rows_of" ["heads","tables","question"] (uF K)∧Ok P w K mg base 49 "whole" ["heads","tables","question"] (uF K):=by
 have g1:=aF9 (P:=P) (base:=base) T
 have g2:=aD9 T (rY (P:=P) (base:=base) T)
 have g5:=aKx (P:=P) (base:=base) T
 have g6:=aB7 T g2
 have g3:=aDd T (yP T (aLd T g2 (aDi T))) (aAy T g6 g5) (yQ T g6 (aH5 T g5) (aJ4 T g2))
 have g4:=nJ T (mK T) g3 g1 20
 exact ⟨aHo T g1 g4,aMl T g1 g4 (pN T (aHr T g2))⟩
theorem law_fn {fa:Addr} (T:Txt w K mg) (hmg:mg "law"=some (.ref fa)) :
  ∃fd:FuncData,(∀(s:Shared) (u:Value),BindsTo s fd ⟨[u],[]⟩ [("_law_script",u)])∧∀base:Heap,K.In base→base.Ns mainGlobals mg→FnOk P w K mg base CX0 51 fa fd ["_law_script"] (sp_law K):=by
 obtain ⟨f,fd,F,B,m⟩:=T.aRu
 have e:fa=f:=by
  rw [m] at hmg
  injection hmg with e
  injection e with e
  exact e.symm
 subst e
 refine ⟨fd,?_,fun base _ _=>?_⟩
 ·obtain ⟨⟨oc,od,kV,doc,pm,an,cdv,ct,osl,rfl,lk,hcd⟩,kp⟩:=F
  exact fun s u=>.of_eq rfl
 ·have n1:=aCh (P:=P) (base:=base) T
  have n2:=yI T n1 (yV T n1)
  have n3:=aBc T n1
  have n6:=aH1 (P:=P) (base:=base) T
  obtain ⟨r1,r2⟩:=all_rows (P:=P) (base:=base) T
  exact aQ5 F T (zF T (aC4 T)) n1 (yC T n1 (yZ T)) (aA1 T n1) (aF8 T n2) n3 (aCp T n1) (vI T n6 (wH T)) (aBt T) r1 r2
end
inductive FA (K:PySem.W.Frag) (n:Str) (s:Stmt) (f:Addr):Prop
 |mk {od an:Option Addr} {sl:Array (Option Value)} {kV dc pm cd ct:Value}:PySem.W.nsIn K mainGlobals n=some (some (.ref f))→K.lookup f=some ⟨.type "function",od,.func (PySem.W.fnOf n n (defArgs s) (defBody s) (defScope s) .none kV dc pm an cd ct),sl⟩→PySem.W.codeIn K cd n=true→PySem.W.keepIn K (.ref f)=true→FA K n s f
section
variable {K:PySem.W.Frag} {h:Heap} {mg:Str→Option Value} {n:Str} {s:Stmt} {f:Addr} {ps:List Str}
theorem gK (X:K.In h) (G:h.Ns mainGlobals mg) (a:FA K n s f):mg n=some (.ref f):=by
 obtain ⟨a,_,_,_⟩:=a
 exact PySem.W.mg_of X G a
theorem aX (X:K.In h) (G:h.Ns mainGlobals mg) (a:FA K n s f) (b:∀(kV doc pm:Value) (an:Option Addr) (cdv ct:Value) (us:List Value),us.length=ps.length→bindArgs (PySem.W.fnOf n n (defArgs s) (defBody s) (defScope s) .none kV doc pm an cdv ct) ⟨us,[]⟩=pure (ps.zip us)):Dn K mg n s ps:=by
 have m:=gK X G a
 obtain ⟨_,l,c,k⟩:=a
 exact ⟨f,_,fun_mk l c k,(fun_mk l c k).binds b,m⟩
theorem aEy (X:K.In h) (G:h.Ns mainGlobals mg) (a:FA K n s f):∃f o,(∃u,mg n=some u∧RelV (.ref f) u)∧K.lookup f=some o∧o.cls=.type "function":=by
 have m:=gK X G a
 obtain ⟨_,l,c,k⟩:=a
 exact ⟨f,_,⟨_,m,rfl⟩,l,rfl⟩
end
theorem ln0 {P:List Value→Prop} (h:P []):∀us:List Value,us.length=0→P us
 |[],_=>h
theorem ln1 {P:List Value→Prop} (h:∀a0,P [a0]):∀us:List Value,us.length=1→P us
 |[a0],_=>h a0
theorem ln2 {P:List Value→Prop} (h:∀a0 a1,P [a0,a1]):∀us:List Value,us.length=2→P us
 |[a0,a1],_=>h a0 a1
theorem ln3 {P:List Value→Prop} (h:∀a0 a1 a2,P [a0,a1,a2]):∀us:List Value,us.length=3→P us
 |[a0,a1,a2],_=>h a0 a1 a2
theorem ln4 {P:List Value→Prop} (h:∀a0 a1 a2 a3,P [a0,a1,a2,a3]):∀us:List Value,us.length=4→P us
 |[a0,a1,a2,a3],_=>h a0 a1 a2 a3
theorem ln5 {P:List Value→Prop} (h:∀a0 a1 a2 a3 a4,P [a0,a1,a2,a3,a4]):∀us:List Value,us.length=5→P us
 |[a0,a1,a2,a3,a4],_=>h a0 a1 a2 a3 a4
theorem ln6 {P:List Value→Prop} (h:∀a0 a1 a2 a3 a4 a5,P [a0,a1,a2,a3,a4,a5]):∀us:List Value,us.length=6→P us
 |[a0,a1,a2,a3,a4,a5],_=>h a0 a1 a2 a3 a4 a5
local macro_rules
 |`(tactic| trivial)=>`(tactic| first|exact (fun _ _ _ _ _ _=>ln1 fun _=>rfl)|exact (fun _ _ _ _ _ _=>ln2 fun _ _=>rfl)|exact (fun _ _ _ _ _ _=>ln3 fun _ _ _=>rfl)|exact (fun _ _ _ _ _ _=>ln4 fun _ _ _ _=>rfl)|exact (fun _ _ _ _ _ _=>ln0 rfl)|exact (fun _ _ _ _ _ _=>ln5 fun _ _ _ _ _=>rfl)|exact (fun _ _ _ _ _ _=>ln6 fun _ _ _ _ _ _=>rfl))
theorem txt_mk {K:PySem.W.Frag} {h:Heap} {mg:Str→Option Value} (X:K.In h) (G:h.Ns mainGlobals mg) {w:World} {f0 f1 f2 f3 f4 f5 f6 f7 f8 f9 f10 f11 f12 f13 f14 f15 f16 f17 f18 f19 f20 f21 f22 f23 f24 f25 f26 f27 f28 f29 f30 f31 f32 f33 f34 f35 f36 f37 f38 f39 f40 f41 f42 f43 f44 f45 f46 f47 f48 f49 f50 f51 f52 f53 f54 f55 f56 f57 f58 f59 f60 f61 f62 f63 f64 f65 f66 f67 f68 f69 f70 f71 f72 f73 f74 f75:Addr} {jN:Addr} {dG:Obj} {jQ:Array Value} {rK:Nat} {aGw:Tok} {vH:Tok} {vC:Tok} {aD7:Addr} {rW:Obj} {aF6:Array Value} {aMi:Nat} {qY:Addr} {iM:Obj} {qZ:Array Value} {aCe:Nat} {aI4:Addr} {vX:Obj} {aIp:Array Value} {aO7:Nat} {yW:Tok} {yL:Tok} {yE:Tok} {aAs:Tok} {aA7:Tok} {aCc:Tok} {aCr:Tok} {qM:Addr} {sI:Obj} {aEv:Array DictEntry} {aLi:Nat} {tt14_0:Addr} {to14_0:Obj} {ti14_0:Array Value} {tn14_0:Nat} {tt14_1:Addr} {to14_1:Obj} {ti14_1:Array Value} {tn14_1:Nat} {tt14_2:Addr} {to14_2:Obj} {ti14_2:Array Value} {tn14_2:Nat} {tt14_3:Addr} {to14_3:Obj} {ti14_3:Array Value} {tn14_3:Nat} {tt14_4:Addr} {to14_4:Obj} {ti14_4:Array Value} {tn14_4:Nat} {tt14_5:Addr} {to14_5:Obj} {ti14_5:Array Value} {tn14_5:Nat} {tt14_6:Addr} {to14_6:Obj} {ti14_6:Array Value} {tn14_6:Nat}
  (a0:FA K "is_whole" pR f0)
  (a1:FA K "is_word" tQ f1)
  (a2:FA K "is_one_of" mU f2)
  (a3:FA K "is_tuple_of" gU f3)
  (a4:FA K "are_unlike" lW f4)
  (a5:FA K "names_of" pY f5)
  (a6:FA K "is_name" tH f6)
  (a7:FA K "is_value" pX f7)
  (a8:FA K "kind_of" tV f8)
  (a9:FA K "is_other" pL f9)
  (a10:FA K "is_test" tK f10)
  (a11:FA K "is_pair" uE f11)
  (a12:FA K "is_sum" wK f12)
  (a13:FA K "is_key" wF f13)
  (a14:FA K "is_many" sV f14)
  (a15:FA K "are_tests" mW f15)
  (a16:FA K "are_names" oE f16)
  (a17:FA K "are_group_names" fH f17)
  (a18:FA K "are_pairs" nG f18)
  (a19:FA K "are_sums" qI f19)
  (a20:FA K "are_keys" pJ f20)
  (a21:FA K "may_be_question" fZ f21)
  (a22:FA K "has_form" qG f22)
  (a23:FA K "questions_in" jA f23)
  (a24:FA K "own_size" pZ f24)
  (a25:FA K "checked" uQ f25)
  (a26:FA K "kind_in" uO f26)
  (a27:FA K "need_like_kinds" fG f27)
  (a28:FA K "need_unlike" jX f28)
  (a29:FA K "table_head" lK f29)
  (a30:FA K "other_kind" lQ f30)
  (a31:FA K "where_head" fX f31)
  (a32:FA K "keep_head" jP f32)
  (a33:FA K "named_head" lJ f33)
  (a34:FA K "join_head" eV f34)
  (a35:FA K "sum_kind" pF f35)
  (a36:FA K "group_head" iJ f36)
  (a37:FA K "first_head" lD f37)
  (a38:FA K "head_here" mZ f38)
  (a39:FA K "head_within" gZ f39)
  (a40:FA K "head_of" uB f40)
  (a41:FA K "place_of" pM f41)
  (a42:FA K "places_of" jK f42)
  (a43:FA K "picked" qO f43)
  (a44:FA K "rows_by" uI f44)
  (a45:FA K "compares" pO f45)
  (a46:FA K "holds" aB4 f46)
  (a47:FA K "where_rows" iQ f47)
  (a48:FA K "keep_rows" jO f48)
  (a49:FA K "join_rows" nR f49)
  (a50:FA K "summed" rZ f50)
  (a51:FA K "group_rows" iH f51)
  (a52:FA K "sorted_by" mQ f52)
  (a53:FA K "ordered" uC f53)
  (a54:FA K "first_rows" mG f54)
  (a55:FA K "rows_here" mR f55)
  (a56:FA K "rows_within" dU f56)
  (a57:FA K "in_answer_order" fB f57)
  (a58:FA K "rows_of" tR f58)
  (a59:FA K "whole" aBd f59)
  (a60:FA K "_law_seed" nW f60)
  (a61:FA K "_law_begin" lX f61)
  (a62:FA K "_law_next" nH f62)
  (a63:FA K "_law_words" kW f63)
  (a64:FA K "_law_names" iK f64)
  (a65:FA K "_law_great" lO f65)
  (a66:FA K "_law_value" lY f66)
  (a67:FA K "_law_head" nU f67)
  (a68:FA K "_law_row" lN f68)
  (a69:FA K "_law_some" jJ f69)
  (a70:FA K "_law_sums" nP f70)
  (a71:FA K "_law_at" tY f71)
  (a72:FA K "_law_summed" jV f72)
  (a73:FA K "_law_grouped" cJ f73)
  (a74:FA K "_law_same" nQ f74)
  (a75:FA K "law" zY f75)
  (q0:PySem.W.nsIn K mainGlobals "QUESTION_WORDS"=some (some (.ref jN))) (r0:K.lookup jN=some dG) (t0:dG.cls=.type "tuple") (y0:dG.dict=none) (u0:dG.data=.seq jQ rK) (v0:Vals [.str "and",.str "by",.str "count",.str "down",.str "first",.str "group",.str "join",.str "keep",.str "least",.str "most",.str "named",.str "on",.str "sum",.str "table",.str "up",.str "where",.str "with"] jQ.toList)
  (q1:PySem.W.nsIn K mainGlobals "LETTERS"=some (some (.str "abcdefghijklmnopqrstuvwxyz" aGw)))
  (q2:PySem.W.nsIn K mainGlobals "MOST_LETTERS"=some (some (.int 8 vH)))
  (q3:PySem.W.nsIn K mainGlobals "MOST_COLUMNS"=some (some (.int 8 vC)))
  (q4:PySem.W.nsIn K mainGlobals "SIGNS"=some (some (.ref aD7))) (r4:K.lookup aD7=some rW) (t4:rW.cls=.type "tuple") (y4:rW.dict=none) (u4:rW.data=.seq aF6 aMi) (v4:Vals [.str "=",.str "<",.str ">",.str "!"] aF6.toList)
  (q5:PySem.W.nsIn K mainGlobals "SUM_WORDS"=some (some (.ref qY))) (r5:K.lookup qY=some iM) (t5:iM.cls=.type "tuple") (y5:iM.dict=none) (u5:iM.data=.seq qZ aCe) (v5:Vals [.str "count",.str "sum",.str "least",.str "most"] qZ.toList)
  (q6:PySem.W.nsIn K mainGlobals "WAYS"=some (some (.ref aI4))) (r6:K.lookup aI4=some vX) (t6:vX.cls=.type "tuple") (y6:vX.dict=none) (u6:vX.data=.seq aIp aO7) (v6:Vals [.str "up",.str "down"] aIp.toList)
  (q7:PySem.W.nsIn K mainGlobals "MOST_TESTS"=some (some (.int 3 yW)))
  (q8:PySem.W.nsIn K mainGlobals "MOST_NAMES"=some (some (.int 8 yL)))
  (q9:PySem.W.nsIn K mainGlobals "MOST_PAIRS"=some (some (.int 3 yE)))
  (q10:PySem.W.nsIn K mainGlobals "MOST_SUMS"=some (some (.int 4 aAs)))
  (q11:PySem.W.nsIn K mainGlobals "MOST_KEYS"=some (some (.int 3 aA7)))
  (q12:PySem.W.nsIn K mainGlobals "MOST_ROWS"=some (some (.int 60 aCc)))
  (q13:PySem.W.nsIn K mainGlobals "MOST_SIZE"=some (some (.int 20 aCr)))
  (q14:PySem.W.nsIn K mainGlobals "FORMS"=some (some (.ref qM))) (r14:K.lookup qM=some sI) (x14:sI.ExactDict) (o14:(qM == sysModules)=false) (u14:sI.data=.dict aEv aLi) (h14:∀P:Program,PH P w aEv.toList [("table",Value.ref tt14_0),("where",Value.ref tt14_1),("keep",Value.ref tt14_2),("named",Value.ref tt14_3),("join",Value.ref tt14_4),("group",Value.ref tt14_5),("first",Value.ref tt14_6)])
  (r14_0:K.lookup tt14_0=some to14_0) (t14_0:to14_0.cls=.type "tuple") (y14_0:to14_0.dict=none) (u14_0:to14_0.data=.seq ti14_0 tn14_0) (v14_0:Vals [.ref f6] ti14_0.toList)
  (r14_1:K.lookup tt14_1=some to14_1) (t14_1:to14_1.cls=.type "tuple") (y14_1:to14_1.dict=none) (u14_1:to14_1.data=.seq ti14_1 tn14_1) (v14_1:Vals [.ref f21,.ref f15] ti14_1.toList)
  (r14_2:K.lookup tt14_2=some to14_2) (t14_2:to14_2.cls=.type "tuple") (y14_2:to14_2.dict=none) (u14_2:to14_2.data=.seq ti14_2 tn14_2) (v14_2:Vals [.ref f21,.ref f16] ti14_2.toList)
  (r14_3:K.lookup tt14_3=some to14_3) (t14_3:to14_3.cls=.type "tuple") (y14_3:to14_3.dict=none) (u14_3:to14_3.data=.seq ti14_3 tn14_3) (v14_3:Vals [.ref f21,.ref f16] ti14_3.toList)
  (r14_4:K.lookup tt14_4=some to14_4) (t14_4:to14_4.cls=.type "tuple") (y14_4:to14_4.dict=none) (u14_4:to14_4.data=.seq ti14_4 tn14_4) (v14_4:Vals [.ref f21,.ref f21,.ref f18] ti14_4.toList)
  (r14_5:K.lookup tt14_5=some to14_5) (t14_5:to14_5.cls=.type "tuple") (y14_5:to14_5.dict=none) (u14_5:to14_5.data=.seq ti14_5 tn14_5) (v14_5:Vals [.ref f21,.ref f17,.ref f19] ti14_5.toList)
  (r14_6:K.lookup tt14_6=some to14_6) (t14_6:to14_6.cls=.type "tuple") (y14_6:to14_6.dict=none) (u14_6:to14_6.data=.seq ti14_6 tn14_6) (v14_6:Vals [.ref f21,.ref f20,.ref f14] ti14_6.toList)
  (z0:PySem.W.nsIn K mainGlobals "abs"=some none)
  (z1:PySem.W.nsIn K mainGlobals "all"=some none)
  (z2:PySem.W.nsIn K mainGlobals "any"=some none)
  (z3:PySem.W.nsIn K mainGlobals "bool"=some none)
  (z4:PySem.W.nsIn K mainGlobals "dict"=some none)
  (z5:PySem.W.nsIn K mainGlobals "divmod"=some none)
  (z6:PySem.W.nsIn K mainGlobals "enumerate"=some none)
  (z7:PySem.W.nsIn K mainGlobals "int"=some none)
  (z8:PySem.W.nsIn K mainGlobals "isinstance"=some none)
  (z9:PySem.W.nsIn K mainGlobals "len"=some none)
  (z10:PySem.W.nsIn K mainGlobals "list"=some none)
  (z11:PySem.W.nsIn K mainGlobals "max"=some none)
  (z12:PySem.W.nsIn K mainGlobals "min"=some none)
  (z13:PySem.W.nsIn K mainGlobals "range"=some none)
  (z14:PySem.W.nsIn K mainGlobals "reversed"=some none)
  (z15:PySem.W.nsIn K mainGlobals "set"=some none)
  (z16:PySem.W.nsIn K mainGlobals "sorted"=some none)
  (z17:PySem.W.nsIn K mainGlobals "str"=some none)
  (z18:PySem.W.nsIn K mainGlobals "sum"=some none)
  (z19:PySem.W.nsIn K mainGlobals "tuple"=some none)
  (z20:PySem.W.nsIn K mainGlobals "zip"=some none):Txt w K mg:=
 ⟨PySem.W.mg_none_of X G z0,
  PySem.W.mg_none_of X G z1,
  PySem.W.mg_none_of X G z2,
  PySem.W.mg_none_of X G z3,
  PySem.W.mg_none_of X G z4,
  PySem.W.mg_none_of X G z5,
  PySem.W.mg_none_of X G z6,
  PySem.W.mg_none_of X G z7,
  PySem.W.mg_none_of X G z8,
  PySem.W.mg_none_of X G z9,
  PySem.W.mg_none_of X G z10,
  PySem.W.mg_none_of X G z11,
  PySem.W.mg_none_of X G z12,
  PySem.W.mg_none_of X G z13,
  PySem.W.mg_none_of X G z14,
  PySem.W.mg_none_of X G z15,
  PySem.W.mg_none_of X G z16,
  PySem.W.mg_none_of X G z17,
  PySem.W.mg_none_of X G z18,
  PySem.W.mg_none_of X G z19,
  PySem.W.mg_none_of X G z20,
  ⟨_,PySem.W.mg_of X G q0,fun H=>.inr ⟨_,_,_,r0,t0,y0,u0,by have e:=v0.length;simp only [Array.length_toList] at e;rw [←e];exact small (by decide),v0⟩⟩,
  ⟨_,PySem.W.mg_of X G q1,_,rfl⟩,
  ⟨_,PySem.W.mg_of X G q2,_,rfl⟩,
  ⟨_,PySem.W.mg_of X G q3,_,rfl⟩,
  ⟨_,PySem.W.mg_of X G q4,fun H=>.inr ⟨_,_,_,r4,t4,y4,u4,by have e:=v4.length;simp only [Array.length_toList] at e;rw [←e];exact small (by decide),v4⟩⟩,
  ⟨_,PySem.W.mg_of X G q5,fun H=>.inr ⟨_,_,_,r5,t5,y5,u5,by have e:=v5.length;simp only [Array.length_toList] at e;rw [←e];exact small (by decide),v5⟩⟩,
  ⟨_,PySem.W.mg_of X G q6,fun H=>.inr ⟨_,_,_,r6,t6,y6,u6,by have e:=v6.length;simp only [Array.length_toList] at e;rw [←e];exact small (by decide),v6⟩⟩,
  ⟨_,PySem.W.mg_of X G q7,_,rfl⟩,
  ⟨_,PySem.W.mg_of X G q8,_,rfl⟩,
  ⟨_,PySem.W.mg_of X G q9,_,rfl⟩,
  ⟨_,PySem.W.mg_of X G q10,_,rfl⟩,
  ⟨_,PySem.W.mg_of X G q11,_,rfl⟩,
  ⟨_,PySem.W.mg_of X G q12,_,rfl⟩,
  ⟨_,PySem.W.mg_of X G q13,_,rfl⟩,
  ⟨qM,tt14_0,tt14_1,tt14_2,tt14_3,tt14_4,tt14_5,tt14_6,PySem.W.mg_of X G q14,⟨sI,r14,o14,fun P=>aJ1 x14 u14 (h14 P) (by show (List.map (fun x:Str × Value=>x.1) [("table",Value.ref tt14_0),("where",Value.ref tt14_1),("keep",Value.ref tt14_2),("named",Value.ref tt14_3),("join",Value.ref tt14_4),("group",Value.ref tt14_5),("first",Value.ref tt14_6)]).Nodup;exact (by decide +kernel:(["table","where","keep","named","join","group","first"]:List Str).Nodup))⟩,⟨f6,fun H=>.inr ⟨_,_,_,r14_0,t14_0,y14_0,u14_0,by have e:=v14_0.length;simp only [Array.length_toList] at e;rw [←e];exact small (by show 1≤1000;decide),v14_0⟩,gK X G a6⟩,⟨f21,f15,fun H=>.inr ⟨_,_,_,r14_1,t14_1,y14_1,u14_1,by have e:=v14_1.length;simp only [Array.length_toList] at e;rw [←e];exact small (by show 2≤1000;decide),v14_1⟩,gK X G a21,gK X G a15⟩,⟨f21,f16,fun H=>.inr ⟨_,_,_,r14_2,t14_2,y14_2,u14_2,by have e:=v14_2.length;simp only [Array.length_toList] at e;rw [←e];exact small (by show 2≤1000;decide),v14_2⟩,gK X G a21,gK X G a16⟩,⟨f21,f16,fun H=>.inr ⟨_,_,_,r14_3,t14_3,y14_3,u14_3,by have e:=v14_3.length;simp only [Array.length_toList] at e;rw [←e];exact small (by show 2≤1000;decide),v14_3⟩,gK X G a21,gK X G a16⟩,⟨f21,f21,f18,fun H=>.inr ⟨_,_,_,r14_4,t14_4,y14_4,u14_4,by have e:=v14_4.length;simp only [Array.length_toList] at e;rw [←e];exact small (by show 3≤1000;decide),v14_4⟩,gK X G a21,gK X G a21,gK X G a18⟩,⟨f21,f17,f19,fun H=>.inr ⟨_,_,_,r14_5,t14_5,y14_5,u14_5,by have e:=v14_5.length;simp only [Array.length_toList] at e;rw [←e];exact small (by show 3≤1000;decide),v14_5⟩,gK X G a21,gK X G a17,gK X G a19⟩,⟨f21,f20,f14,fun H=>.inr ⟨_,_,_,r14_6,t14_6,y14_6,u14_6,by have e:=v14_6.length;simp only [Array.length_toList] at e;rw [←e];exact small (by show 3≤1000;decide),v14_6⟩,gK X G a21,gK X G a20,gK X G a14⟩⟩,
  aEy X G a6,
  aEy X G a10,
  aEy X G a11,
  aEy X G a12,
  aEy X G a13,
  aX X G a0 (by trivial),
  aX X G a1 (by trivial),
  aX X G a2 (by trivial),
  aX X G a3 (by trivial),
  aX X G a4 (by trivial),
  aX X G a5 (by trivial),
  aX X G a6 (by trivial),
  aX X G a7 (by trivial),
  aX X G a8 (by trivial),
  aX X G a9 (by trivial),
  aX X G a10 (by trivial),
  aX X G a11 (by trivial),
  aX X G a12 (by trivial),
  aX X G a13 (by trivial),
  aX X G a14 (by trivial),
  aX X G a15 (by trivial),
  aX X G a16 (by trivial),
  aX X G a17 (by trivial),
  aX X G a18 (by trivial),
  aX X G a19 (by trivial),
  aX X G a20 (by trivial),
  aX X G a21 (by trivial),
  aX X G a22 (by trivial),
  aX X G a23 (by trivial),
  aX X G a24 (by trivial),
  aX X G a25 (by trivial),
  aX X G a26 (by trivial),
  aX X G a27 (by trivial),
  aX X G a28 (by trivial),
  aX X G a29 (by trivial),
  aX X G a30 (by trivial),
  aX X G a31 (by trivial),
  aX X G a32 (by trivial),
  aX X G a33 (by trivial),
  aX X G a34 (by trivial),
  aX X G a35 (by trivial),
  aX X G a36 (by trivial),
  aX X G a37 (by trivial),
  aX X G a38 (by trivial),
  aX X G a39 (by trivial),
  aX X G a40 (by trivial),
  aX X G a41 (by trivial),
  aX X G a42 (by trivial),
  aX X G a43 (by trivial),
  aX X G a44 (by trivial),
  aX X G a45 (by trivial),
  aX X G a46 (by trivial),
  aX X G a47 (by trivial),
  aX X G a48 (by trivial),
  aX X G a49 (by trivial),
  aX X G a50 (by trivial),
  aX X G a51 (by trivial),
  aX X G a52 (by trivial),
  aX X G a53 (by trivial),
  aX X G a54 (by trivial),
  aX X G a55 (by trivial),
  aX X G a56 (by trivial),
  aX X G a57 (by trivial),
  aX X G a58 (by trivial),
  aX X G a59 (by trivial),
  aX X G a60 (by trivial),
  aX X G a61 (by trivial),
  aX X G a62 (by trivial),
  aX X G a63 (by trivial),
  aX X G a64 (by trivial),
  aX X G a65 (by trivial),
  aX X G a66 (by trivial),
  aX X G a67 (by trivial),
  aX X G a68 (by trivial),
  aX X G a69 (by trivial),
  aX X G a70 (by trivial),
  aX X G a71 (by trivial),
  aX X G a72 (by trivial),
  aX X G a73 (by trivial),
  aX X G a74 (by trivial),
  aX X G a75 (by trivial)⟩
end My
open PySem PySem.W PyProof.Rows
def PySem.W.Fast.tw8203840283608063601:=0
def PySem.W.Fast.tw1667963710331162048:=0
def PySem.W.Fast.tw15929074127320216245:=0
def PySem.W.Fast.tw6172218905851138772:=0
def PySem.W.Fast.tw5487879795149798085:=0
def PySem.W.Fast.tw5112523073895971397:=0
def PySem.W.Fast.tw11860793879841545641:=0
def PySem.W.Fast.tw9334327950410508833:=0
def PySem.W.Fast.tw14669879718288849950:=0
def PySem.W.Fast.tw5315342915667310665:=0
def PySem.W.Fast.tw12260560982778548245:=0
def PySem.W.Fast.tw17977229376022353501:=0
def PySem.W.Fast.tw10071530435605427026:=0
def PySem.W.Fast.tw2906377366247229414:=0
def PySem.W.Fast.tw8749324683156434546:=0
def PySem.W.Fast.tw8889145801711564246:=0
def PySem.W.Fast.tw9517725401139632436:=0
def PySem.W.Fast.tw17404953065120626125:=0
def PySem.W.Fast.tw6696178309494845250:=0
def PySem.W.Fast.tw2797090496702619532:=0
def PySem.W.Fast.tw792801396043947138:=0
def PySem.W.Fast.tw7635651471782965716:=0
def PySem.W.Fast.tw2946856762264681706:=0
def PySem.W.Fast.tw15700334391373089613:=0
def PySem.W.Fast.tw7556570905662498196:=0
def PySem.W.Fast.tw1687037714245034354:=0
def PySem.W.Fast.tw2837826412437766165:=0
def PySem.W.Fast.tw4085856862678044464:=0
def PySem.W.Fast.tw3522951410883430837:=0
def PySem.W.Fast.tw846775052866220588:=0
def PySem.W.Fast.tw2047906802150516266:=0
def PySem.W.Fast.tw2216380323776400592:=0
def PySem.W.Fast.tw4416614292498123124:=0
def PySem.W.Fast.tw16817682140507517515:=0
def PySem.W.Fast.tw7552897969146005276:=0
def PySem.W.Fast.tw11591273261519734827:=0
def PySem.W.Fast.tw6279885453225661149:=0
def PySem.W.Fast.tw14999659650818095585:=0
def PySem.W.Fast.tw15169520643165663630:=0
def PySem.W.Fast.tw10595341964519482195:=0
def PySem.W.Fast.tw12402548085894387235:=0
def PySem.W.Fast.tw5396057376841589734:=0
def PySem.W.Fast.tw10726260064920410450:=0
def PySem.W.Fast.tw9394717710559688166:=0
def PySem.W.Fast.tw4404433604050574130:=0
def PySem.W.Fast.tw12861639766130391189:=0
def PySem.W.Fast.tw16391764530255380744:=0
def PySem.W.Fast.tw11354428218026112762:=0
def PySem.W.Fast.tw9254213124342946461:=0
def PySem.W.Fast.tw16279256626157936415:=0
def PySem.W.Fast.tw18035428745952991008:=0
def PySem.W.Fast.tw8337874995232352916:=0
def PySem.W.Fast.tw4212436686827485909:=0
def PySem.W.Fast.tw17722130958748740897:=0
def PySem.W.Fast.tw149974538595478883:=0
def PySem.W.Fast.tw5274525697991167476:=0
def PySem.W.Fast.tw10966344754520097485:=0
def PySem.W.Fast.tw1786804719215541937:=0
def PySem.W.Fast.tw14492289438487490806:=0
def PySem.W.Fast.tw5823903494590963561:=0
def PySem.W.Fast.tw15727696528227360325:=0
def PySem.W.Fast.tw15530271594160248826:=0
def PySem.W.Fast.tw7148733817545125905:=0
def PySem.W.Fast.tw14947771506303029616:=0
def PySem.W.Fast.tw854546797896358331:=0
def PySem.W.Fast.tw3516404306603501481:=0
def PySem.W.Fast.tw14394001369738811473:=0
def PySem.W.Fast.tw1067868502084067367:=0
def PySem.W.Fast.tw11582886240141925184:=0
def PySem.W.Fast.tw16185419964544982418:=0
def PySem.W.Fast.tw1864036341111615256:=0
def PySem.W.Fast.tw955927460392987308:=0
def PySem.W.Fast.tw4064770320614788102:=0
def PySem.W.Fast.tw13984033492315342697:=0
def PySem.W.Fast.tw1972146384573350605:=0
def PySem.W.Fast.tw12276994052617581465:=0
def PySem.W.Fast.tw6211292999913908016:=0
def PySem.W.Fast.tw12261828091097523756:=0
def PySem.W.Fast.tw9879252788028748967:=0
def PySem.W.Fast.tw18147108235927865266:=0
def PySem.W.Fast.tw12897453699072043723:=0
def PySem.W.Fast.tw13105878789653955829:=0
def PySem.W.Fast.tw16722272420743407865:=0
def PySem.W.Fast.tw10715646553048609530:=0
def PySem.W.Fast.tw6400772014954686343:=0
def PySem.W.Fast.tw10345299457146517236:=0
def PySem.W.Fast.tw13078497318827736119:=0
def PySem.W.Fast.tw3549877440985730330:=0
def PySem.W.Fast.tw3061660435358566664:=0
def PySem.W.Fast.tw14532536372299099212:=0
def PySem.W.Fast.tw8498506699461737043:=0
def PySem.W.Fast.tw2794448918930237360:=0
def PySem.W.Fast.tw9243718469880196866:=0
def PySem.W.Fast.tw1998618369505710679:=0
def PySem.W.Fast.tw8365106248983388239:=0
def PySem.W.Fast.tw10851546522723130848:=0
def PySem.W.Fast.tw15816850456247491697:=0
def PySem.W.Fast.tw4327373530517124437:=0
def PySem.W.Fast.tw6372611666769806251:=0
def PySem.W.Fast.tw1435024360888529327:=0
def PySem.W.Fast.tw5126155283144985865:=0
def PySem.W.Fast.tw7863141157700687014:=0
def PySem.W.Fast.tw1948941733548532104:=0
def PySem.W.Fast.tw6445501834926710048:=0
def PySem.W.Fast.tw3923571875581806705:=0
def PySem.W.Fast.tw9580262836460235824:=0
def PySem.W.Fast.tw5481588710517298466:=0
def PySem.W.Fast.tw4746081994022929058:=0
def PySem.W.Fast.tw4398417958904000084:=0
def PySem.W.Fast.tw12426271223650471492:=0
def PySem.W.Fast.tw9081374111969357422:=0
def PySem.W.Fast.tw9781298031492719389:=0
def PySem.W.Fast.tw10309561061478778643:=0
def PySem.W.Fast.tw14056914220629996726:=0
def PySem.W.Fast.tw4808728746011161298:=0
def PySem.W.Fast.tw6674506662612195537:=0
def PySem.W.Fast.tw6775288532826216956:=0
def PySem.W.Fast.tw336524966491010819:=0
def PySem.W.Fast.tw11824806959368220182:=0
def PySem.W.Fast.tw17946380578569910357:=0
def PySem.W.Fast.tw17303695063395254672:=0
def PySem.W.Fast.tw353021881144366094:=0
def PySem.W.Fast.tw130208433062473529:=0
def PySem.W.Fast.tw13794673937225470755:=0
def PySem.W.Fast.tw8433067726211265407:=0
def PySem.W.Fast.tw1736485516545300855:=0
def PySem.W.Fast.tw9355811648709749640:=0
def PySem.W.Fast.tw11497001643929036965:=0
def PySem.W.Fast.tw7174994250954678196:=0
def PySem.W.Fast.tw17332926420808389604:=0
def PySem.W.Fast.tw10726946833925412848:=0
def PySem.W.Fast.tw5211316179911949854:=0
def PySem.W.Fast.tw7079495160334946908:=0
def PySem.W.Fast.tw5860226951812819144:=0
def PySem.W.Fast.tw3616691435710039486:=0
def PySem.W.Fast.tw14306376538077535534:=0
def PySem.W.Fast.tw2794879751043602013:=0
def PySem.W.Fast.tw18083630390188774829:=0
def PySem.W.Fast.tw6530542902246848421:=0
def PySem.W.Fast.tw10874689583145233557:=0
def PySem.W.Fast.tw5728153605196995384:=0
def PySem.W.Fast.tw3077035793987612793:=0
def PySem.W.Fast.tw15858594427974022002:=0
def PySem.W.Fast.tw3987093913875448942:=0
def PySem.W.Fast.tw4457856709182233382:=0
def PySem.W.Fast.tw4781114100382680993:=0
def PySem.W.Fast.tw7898882602337470145:=0
def PySem.W.Fast.tw13449300632059380674:=0
def PySem.W.Fast.tw13247008297161879572:=0
def PySem.W.Fast.tw771860829262653283:=0
def PySem.W.Fast.tw13073713294553984255:=0
def PySem.W.Fast.tw10390135912302864528:=0
def PySem.W.Fast.tw5339027828674154069:=0
def PySem.W.Fast.tw10781832987768407721:=0
def PySem.W.Fast.tw1760134071915498340:=0
def PySem.W.Fast.tw17829696583046639543:=0
def PySem.W.Fast.tw6223376654741797616:=0
def PySem.W.Fast.tw9700467986512894033:=0
def PySem.W.Fast.tw5093818621047546957:=0
def PySem.W.Fast.tw755256500635663232:=0
def PySem.W.Fast.tw11309890209097807390:=0
def PySem.W.Fast.tw16467310295498202507:=0
def PySem.W.Fast.tw29796154854377160:=0
def PySem.W.Fast.tw12103115041828281815:=0
def PySem.W.Fast.tw9252360456105904361:=0
def PySem.W.Fast.tw5022614888101642998:=0
def PySem.W.Fast.tw12892656907728587831:=0
def PySem.W.Fast.tw11864221337037230944:=0
def PySem.W.Fast.tw13359040620722071326:=0
def PySem.W.Fast.tw8596691945393921594:=0
def PySem.W.Fast.tw13649734839444003015:=0
def PySem.W.Fast.tw5140123694114090791:=0
def PySem.W.Fast.tw8171436226244125748:=0
def PySem.W.Fast.tw9562477393702153093:=0
def PySem.W.Fast.tw5608650090321427186:=0
def PySem.W.Fast.tw14655993389563218155:=0
def PySem.W.Fast.tw8214123319564990196:=0
def PySem.W.Fast.tw7349397920067334183:=0
def PySem.W.Fast.tw5543360077051595452:=0
def PySem.W.Fast.tw6274231626386609795:=0
def PySem.W.Fast.tw2781246399026704428:=0
def PySem.W.Fast.tw3035576953867998882:=0
def PySem.W.Fast.tw15249687745788799146:=0
def PySem.W.Fast.tw8416112118353804826:=0
def PySem.W.Fast.tw15346462081278766648:=0
def PySem.W.Fast.tw15988978545851589230:=0
def PySem.W.Fast.tw5178271050746978469:=0
def PySem.W.Fast.tw5641328391546443924:=0
def PySem.W.Fast.tw598624903301054657:=0
def PySem.W.Fast.tw7227750138611051653:=0
def PySem.W.Fast.tw15223346398232972220:=0
def PySem.W.Fast.tw14817962174629037269:=0
def PySem.W.Fast.tw7458621272562490880:=0
def PySem.W.Fast.tw16699045979947209086:=0
def PySem.W.Fast.tw9952051036504026323:=0
def PySem.W.Fast.tw7950235366469369337:=0
def PySem.W.Fast.tw11816235123485441120:=0
def PySem.W.Fast.tw8030218876889922960:=0
def PySem.W.Fast.tw2316912719464353532:=0
def PySem.W.Fast.tw17134228550388546141:=0
def PySem.W.Fast.tw1696309496594718277:=0
def PySem.W.Fast.tw14694511997346791413:=0
def PySem.W.Fast.tw11237729251623053237:=0
def PySem.W.Fast.tw14600346407634730167:=0
def PySem.W.Fast.tw12482062810083817405:=0
def PySem.W.Fast.tw10385292176078831803:=0
def PySem.W.Fast.tw651404218793305715:=0
def PySem.W.Fast.tw3764610630130976104:=0
def PySem.W.Fast.tw12220339062187277837:=0
def PySem.W.Fast.tw10576312850066028369:=0
def PySem.W.Fast.tw15001032519033229324:=0
def PySem.W.Fast.tw7847796834109836658:=0
def PySem.W.Fast.tw14411982663639016166:=0
def PySem.W.Fast.tw5073862268863516712:=0
def PySem.W.Fast.tw8249002941310516427:=0
def PySem.W.Fast.tw13406904022864240238:=0
def PySem.W.Fast.tw18320916455902874901:=0
def PySem.W.Fast.tw1688070123054552027:=0
def PySem.W.Fast.tw1713476627474949458:=0
def PySem.W.Fast.tw9127453607845420564:=0
def PySem.W.Fast.tw122134268324685940:=0
def PySem.W.Fast.tw11985102388914716942:=0
def PySem.W.Fast.tw4610714204523379700:=0
def PySem.W.Fast.tw16496772675143457778:=0
def PySem.W.Fast.tw8172918563760697007:=0
def PySem.W.Fast.tw7464322550534198618:=0
def PySem.W.Fast.tw17212577546987789434:=0
def PySem.W.Fast.tw17992350184896260763:=0
def PySem.W.Fast.tw16529578704650657546:=0
def PySem.W.Fast.tw9576525102558672993:=0
def PySem.W.Fast.tw12833561119712738985:=0
def PySem.W.Fast.tw7147572943810295713:=0
def PySem.W.Fast.tw17935973143665160244:=0
def PySem.W.Fast.tw709233496354096869:=0
def PySem.W.Fast.tw5168972133462867411:=0
def PySem.W.Fast.tw3365257691108093760:=0
def PySem.W.Fast.tw17010773392232242212:=0
def PySem.W.Fast.tw4048772715846935299:=0
def PySem.W.Fast.tw14497073082934655191:=0
def PySem.W.Fast.tw2635136095132059028:=0
def PySem.W.Fast.tw7948590647357889915:=0
def PySem.W.Fast.tw6422356216248478025:=0
def PySem.W.Fast.tw4958142977274837311:=0
def PySem.W.Fast.tw11422728653637824609:=0
def PySem.W.Fast.tw5677736985755725872:=0
def PySem.W.Fast.tw15741089626672729040:=0
def PySem.W.Fast.tw5797266463091505723:=0
def PySem.W.Fast.tw9658121357366266291:=0
def PySem.W.Fast.tw9940377789478961271:=0
def PySem.W.Fast.tw10231138442341134166:=0
def PySem.W.Fast.tw10969908806768068164:=0
def PySem.W.Fast.tw18413250206857743676:=0
def PySem.W.Fast.tw9089824364146137671:=0
def PySem.W.Fast.tw13590865277866006867:=0
def PySem.W.Fast.tw10387799272558809034:=0
def PySem.W.Fast.tw15558964319900303629:=0
def PySem.W.Fast.tw2927097459309675323:=0
def PySem.W.Fast.tw6184962593977872656:=0
def PySem.W.Fast.tw11130267312711797909:=0
def PySem.W.Fast.tw14420881077766135339:=0
def PySem.W.Fast.tw5165997957188480804:=0
def PySem.W.Fast.tw15102753996571632061:=0
def PySem.W.Fast.tw15814802757974631324:=0
def PySem.W.Fast.tw7570604195402591925:=0
def PySem.W.Fast.tw6801071736852622624:=0
def PySem.W.Fast.tw14740182433512342741:=0
def PySem.W.Fast.tw3659962942492209242:=0
def PySem.W.Fast.tw8605023216694408474:=0
def PySem.W.Fast.tw4035468398406400078:=0
def PySem.W.Fast.tw15343664177969931567:=0
def PySem.W.Fast.tw4748090650696715553:=0
def PySem.W.Fast.tw2505517687839470732:=0
def PySem.W.Fast.tw452705989824047350:=0
def PySem.W.Fast.tw743182071158603346:=0
def PySem.W.Fast.tw5547028421081162025:=0
def PySem.W.Fast.tw1170816813441457054:=0
def PySem.W.Fast.tw2289151105823216623:=0
def PySem.W.Fast.tw173080211925012861:=0
def PySem.W.Fast.tw8220001627499820132:=0
def PySem.W.Fast.tw10610374657578761037:=0
def PySem.W.Fast.tw4186111568543079115:=0
def PySem.W.Fast.tw8701247464677610535:=0
def PySem.W.Fast.tw11459332475925063701:=0
def PySem.W.Fast.tw13965935212037629719:=0
def PySem.W.Fast.tw14561692442748446221:=0
def PySem.W.Fast.tw1283806746181488016:=0
def PySem.W.Fast.tw9319342090819234633:=0
def PySem.W.Fast.tw17895653785540379047:=0
def PySem.W.Fast.tw7834531293627821393:=0
def PySem.W.Fast.tw1898694740180575550:=0
def PySem.W.Fast.tw4690092341433834981:=0
def PySem.W.Fast.tw14846912968632828759:=0
def PySem.W.Fast.tw16810099261348880341:=0
def PySem.W.Fast.tw17574380065902635942:=0
def PySem.W.Fast.tw15391774364666346916:=0
def PySem.W.Fast.tw2025925104914554086:=0
def PySem.W.Fast.tw16968617143398786025:=0
def PySem.W.Fast.tw2767654320486756344:=0
def PySem.W.Fast.tw18315775895669461293:=0
def PySem.W.Fast.tw16138745485337369914:=0
def PySem.W.Fast.tw2021979725453540566:=0
def PySem.W.Fast.tw6658624052798028986:=0
def PySem.W.Fast.tw2948581658928009772:=0
def PySem.W.Fast.tw4040199947927247248:=0
def PySem.W.Fast.tw15912913759130495642:=0
def PySem.W.Fast.tw15165332494859226341:=0
def PySem.W.Fast.tw16437987259472009367:=0
def PySem.W.Fast.tw14929901646586471139:=0
def PySem.W.Fast.tw7968682822165247204:=0
def PySem.W.Fast.tw2959978855003714915:=0
def PySem.W.Fast.tw3797128838734934658:=0
def PySem.W.Fast.tw14494516445752804021:=0
def PySem.W.Fast.tw9322475094290279360:=0
def PySem.W.Fast.tw2812394060628077719:=0
def PySem.W.Fast.tw5319706792303813245:=0
def PySem.W.Fast.tw12217549023783145298:=0
def PySem.W.Fast.tw13224473560962131831:=0
def PySem.W.Fast.tw5344698795640177563:=0
def PySem.W.Fast.tw8849730996896525389:=0
def PySem.W.Fast.tw12403492501001023965:=0
def PySem.W.Fast.tw1783769778965287478:=0
def PySem.W.Fast.tw17498446871696243442:=0
def PySem.W.Fast.tw6615132465988800241:=0
def PySem.W.Fast.tw13221560623162396317:=0
def PySem.W.Fast.tw7167223671533713846:=0
def PySem.W.Fast.tw17474624246833473629:=0
def PySem.W.Fast.tw7443428240244799834:=0
def PySem.W.Fast.tw9010085723262053701:=0
def PySem.W.Fast.tw11551375689628103804:=0
def PySem.W.Fast.tw12591229598831133601:=0
def PySem.W.Fast.tw4041444898899545659:=0
def PySem.W.Fast.tw11073427790109907181:=0
def PySem.W.Fast.tw3506809974913101124:=0
def PySem.W.Fast.tw17824727567374104080:=0
def PySem.W.Fast.tw14696956163031726200:=0
def PySem.W.Fast.tw17440455981923362411:=0
def PySem.W.Fast.tw17735554004579155830:=0
def PySem.W.Fast.tw661047585913821185:=0
def PySem.W.Fast.tw8403328290551769558:=0
def PySem.W.Fast.tw14158038022876551752:=0
def PySem.W.Fast.tw3583152236739200185:=0
def PySem.W.Fast.tw11460037039238290757:=0
def PySem.W.Fast.tw9615558372375687384:=0
def PySem.W.Fast.tw17890119100217563683:=0
def PySem.W.Fast.tw11428689659987944845:=0
def PySem.W.Fast.tw4158678683691482108:=0
def PySem.W.Fast.tw18296326407228549466:=0
def PySem.W.Fast.tw13056825402884275148:=0
def PySem.W.Fast.tw13398222035121456349:=0
def PySem.W.Fast.tw11524879464162110822:=0
def PySem.W.Fast.tw13125065974165055934:=0
def PySem.W.Fast.tw10500620068768040047:=0
def PySem.W.Fast.tw4677180223746974355:=0
def PySem.W.Fast.tw42532184681098213:=0
def PySem.W.Fast.tw10124172065221372986:=0
def PySem.W.Fast.tw5916381513861138900:=0
def PySem.W.Fast.tw17523907479532279744:=0
def PySem.W.Fast.tw9520396499647135690:=0
def PySem.W.Fast.tw17082239975040403463:=0
def PySem.W.Fast.tw11742033388743183950:=0
def PySem.W.Fast.tw7400648316442155818:=0
def PySem.W.Fast.tw15947571125221480297:=0
def PySem.W.Fast.tw9698663568121679841:=0
def PySem.W.Fast.tw16288946414181853412:=0
def PySem.W.Fast.tw6906122489704095724:=0
def PySem.W.Fast.tw12870585859715663490:=0
def PySem.W.Fast.tw18177180677756140789:=0
def PySem.W.Fast.tw11402647127225639551:=0
def PySem.W.Fast.tw10108570716666642882:=0
def PySem.W.Fast.tw18366680715433438670:=0
def PySem.W.Fast.tw2065565097712341641:=0
def PySem.W.Fast.tw1050365836258618639:=0
def PySem.W.Fast.tw1175374778734647179:=0
def PySem.W.Fast.tw8231333325280740874:=0
def PySem.W.Fast.tw10106496081343216180:=0
def PySem.W.Fast.tw5152159391135686948:=0
def PySem.W.Fast.tw12306485754074748243:=0
def PySem.W.Fast.tw7388354100550255761:=0
def PySem.W.Fast.tw16476352088519054762:=0
def PySem.W.Fast.tw11340239732686508808:=0
def PySem.W.Fast.tw522517189054265313:=0
def PySem.W.Fast.tw8826751124031346748:=0
def PySem.W.Fast.tw9760064629525505573:=0
def PySem.W.Fast.tw3479421726970567932:=0
def PySem.W.Fast.tw12122774279167090352:=0
def PySem.W.Fast.tw6277924829333419701:=0
def PySem.W.Fast.tw5976034058270248611:=0
def PySem.W.Fast.tw17843642931392689635:=0
def PySem.W.Fast.tw14515280245880689030:=0
def PySem.W.Fast.tw14906055464066244857:=0
def PySem.W.Fast.tw10039210864999629964:=0
def PySem.W.Fast.tw5258488335252378760:=0
def PySem.W.Fast.tw12957396784650579509:=0
def PySem.W.Fast.tw5113742575548062512:=0
def PySem.W.Fast.tw16798709615829953328:=0
def PySem.W.Fast.tw5747971825183344521:=0
def PySem.W.Fast.tw16021085570306454280:=0
def PySem.W.Fast.tw11656522496361248163:=0
def PySem.W.Fast.tw2950195939598476676:=0
def PySem.W.Fast.tw14596851700200919779:=0
def PySem.W.Fast.tw151532945623421748:=0
def PySem.W.Fast.tw13169751334043459988:=0
def PySem.W.Fast.tw12366314090602579372:=0
def PySem.W.Fast.tw6120453143704026019:=0
def PySem.W.Fast.tw16433876999782263032:=0
def PySem.W.Fast.tw11360458809840355245:=0
def PySem.W.Fast.tw8044863111859191709:=0
def PySem.W.Fast.tw5119458724851011714:=0
def PySem.W.Fast.tw14323800509289569917:=0
def PySem.W.Fast.tw1185244101504947422:=0
def PySem.W.Fast.tw1217110136607324676:=0
def PySem.W.Fast.tw10574257725902179287:=0
def PySem.W.Fast.tw14997626446084310952:=0
def PySem.W.Fast.tw15951724425546348845:=0
def PySem.W.Fast.tw50418634266857840:=0
def PySem.W.Fast.tw6798704791320072062:=0
def PySem.W.Fast.tw9916120643865606390:=0
def PySem.W.Fast.tw7000600718916510323:=0
def PySem.W.Fast.tw1472882703680437728:=0
def PySem.W.Fast.tw18208514937841650992:=0
def PySem.W.Fast.tw1197678411989752041:=0
def PySem.W.Fast.tw14645477945611354453:=0
def PySem.W.Fast.tw13451656989045779372:=0
def PySem.W.Fast.tw7852321092436322348:=0
def PySem.W.Fast.tw11046802476636986729:=0
def PySem.W.Fast.tw2675080057117251689:=0
def PySem.W.Fast.tw8712093506685687789:=0
def PySem.W.Fast.tw9825961956602319623:=0
def PySem.W.Fast.tw18130964587415272190:=0
def PySem.W.Fast.tw15671620839401789975:=0
def PySem.W.Fast.tw1783938694392810408:=0
def PySem.W.Fast.tw8301371105737755319:=0
def PySem.W.Fast.tw18063766083814990764:=0
def PySem.W.Fast.tw1035841211588919535:=0
def PySem.W.Fast.tw3964665831752407110:=0
def PySem.W.Fast.tw7716251753518827169:=0
def PySem.W.Fast.tw13517247236871292502:=0
def PySem.W.Fast.tw9427358306036947777:=0
def PySem.W.Fast.tw922837040538778972:=0
def PySem.W.Fast.tw14322226237604059552:=0
def PySem.W.Fast.tw9049997600601556253:=0
def PySem.W.Fast.tw8394784942837025244:=0
def PySem.W.Fast.tw15130109132198388558:=0
def PySem.W.Fast.tw12952700931194833262:=0
def PySem.W.Fast.tw3193759262778175232:=0
def PySem.W.Fast.tw15811657118191906605:=0
def PySem.W.Fast.tw4099206806671018398:=0
def PySem.W.Fast.tw15714392702403082541:=0
def PySem.W.Fast.tw15179670582365964896:=0
def PySem.W.Fast.tw12774701033245023911:=0
def PySem.W.Fast.tw18048455462644147538:=0
def PySem.W.Fast.tw18344398149418132234:=0
def PySem.W.Fast.tw5020991580440430987:=0
def PySem.W.Fast.tw10210079903767050670:=0
def PySem.W.Fast.tw12841476459486078099:=0
def PySem.W.Fast.tw17626072799396206274:=0
def PySem.W.Fast.tw8618774223520997106:=0
def PySem.W.Fast.tw7335284827922646260:=0
def PySem.W.Fast.tw14807241898546043192:=0
def PySem.W.Fast.tw15555463628002027831:=0
def PySem.W.Fast.tw14420769054387865591:=0
def PySem.W.Fast.tw13927220998982410067:=0
def PySem.W.Fast.tw28716091006612164:=0
def PySem.W.Fast.tw7145650472496737311:=0
def PySem.W.Fast.tw2935210229310894978:=0
def PySem.W.Fast.tw8119424468921091862:=0
def PySem.W.Fast.tw9055350285592436062:=0
def PySem.W.Fast.tw14525563575649515279:=0
def PySem.W.Fast.tw471531929816962001:=0
def PySem.W.Fast.tw15754478142901220416:=0
def PySem.W.Fast.tw14444074204280554938:=0
def PySem.W.Fast.tw4863108208604156127:=0
def PySem.W.Fast.tw7066739050658444183:=0
def PySem.W.Fast.tw17912041435674582635:=0
def PySem.W.Fast.tw17791941810137067936:=0
def PySem.W.Fast.tw2142508424773880161:=0
def PySem.W.Fast.tw12031323731373952223:=0
def PySem.W.Fast.tw17192854196166996181:=0
def PySem.W.Fast.tw13442528520547510859:=0
def PySem.W.Fast.tw1213172461759724931:=0
def PySem.W.Fast.tw844285752395070374:=0
def PySem.W.Fast.tw11752805123137865914:=0
def PySem.W.Fast.tw4880949791680669557:=0
def PySem.W.Fast.tw14857618187458921782:=0
def PySem.W.Fast.tw17928163219748543867:=0
def PySem.W.Fast.tw1203013353313059934:=0
def PySem.W.Fast.tw9761869793792192867:=0
def PySem.W.Fast.tw16437116549704484730:=0
def PySem.W.Fast.tw6756808724341786815:=0
def PySem.W.Fast.tw11466508177348856035:=0
def PySem.W.Fast.tw15571600334810116926:=0
def PySem.W.Fast.tw11977092672231577910:=0
def PySem.W.Fast.tw12386965234660000733:=0
def PySem.W.Fast.tw14862863555657606755:=0
def PySem.W.Fast.tw14547464930012496505:=0
def PySem.W.Fast.tw13434910803748796040:=0
def PySem.W.Fast.tw1365015366229921843:=0
def PySem.W.Fast.tw11836335376683325503:=0
def PySem.W.Fast.tw5580923333770341017:=0
def PySem.W.Fast.tw11118343809127889491:=0
def PySem.W.Fast.tw14402049175518901092:=0
def PySem.W.Fast.tw3281382384078535909:=0
def PySem.W.Fast.tw15126617055877911922:=0
def PySem.W.Fast.tw11105641927299003865:=0
def PySem.W.Fast.tw719422632338338976:=0
def PySem.W.Fast.tw17593669217377226121:=0
def PySem.W.Fast.tw16249927603346340119:=0
def PySem.W.Fast.tw3036057859927964771:=0
def PySem.W.Fast.tw7730441211732638795:=0
def PySem.W.Fast.tw10381609159884835372:=0
def PySem.W.Fast.tw5899357825139726709:=0
def PySem.W.Fast.tw5986192652594003894:=0
def PySem.W.Fast.tw13375535217886729291:=0
def PySem.W.Fast.tw1072160809625620565:=0
def PySem.W.Fast.tw692537364842831861:=0
def PySem.W.Fast.tw7824714195965579660:=0
def PySem.W.Fast.tw15765096155203462654:=0
def PySem.W.Fast.tw14080396162974618203:=0
def PySem.W.Fast.tw4910945065359724329:=0
def PySem.W.Fast.tw18009853351232586232:=0
def PySem.W.Fast.tw17477522987637966627:=0
def PySem.W.Fast.tw11492682348761365312:=0
def PySem.W.Fast.tw8649260968360692700:=0
def PySem.W.Fast.tw12824026429060901755:=0
def PySem.W.Fast.tw4034714497457055450:=0
def PySem.W.Fast.tw4388515920377282392:=0
def PySem.W.Fast.tw11665955301661783019:=0
def PySem.W.Fast.tw13385308433383968384:=0
def PySem.W.Fast.tw9428414684738379251:=0
def PySem.W.Fast.tw10422676361900216620:=0
def PySem.W.Fast.tw18397805937822802545:=0
def PySem.W.Fast.tw772926053549441010:=0
def PySem.W.Fast.tw18053349085750592861:=0
def PySem.W.Fast.tw1030589747479717646:=0
def PySem.W.Fast.tw8442921634424081331:=0
def PySem.W.Fast.tw4408309490431205629:=0
def PySem.W.Fast.tw9083823310185195786:=0
def PySem.W.Fast.tw17373602830250860361:=0
def PySem.W.Fast.tw2847068290053771239:=0
def PySem.W.Fast.tw10011745133329870057:=0
def PySem.W.Fast.tw2674856567265357042:=0
def PySem.W.Fast.tw12495715278698575541:=0
def PySem.W.Fast.tw4965464482305477327:=0
def PySem.W.Fast.tw2313363370410334156:=0
def PySem.W.Fast.tw17475533696134476884:=0
def PySem.W.Fast.tw14010348633939867386:=0
def PySem.W.Fast.tw5376048467352363066:=0
def PySem.W.Fast.tw2819857568513665924:=0
def PySem.W.Fast.tw4605672804304788216:=0
def PySem.W.Fast.tw6428658717867378655:=0
def PySem.W.Fast.tw17652508224163288350:=0
def PySem.W.Fast.tw5079936657843395855:=0
def PySem.W.Fast.tw11686055473988155733:=0
def PySem.W.Fast.tw575978327654613048:=0
def PySem.W.Fast.tw14672186575408966973:=0
def PySem.W.Fast.tw8237783697395015937:=0
def PySem.W.Fast.tw17607238232732941078:=0
def PySem.W.Fast.tw13242112176577001247:=0
set_option maxRecDepth 100000 in
set_option maxHeartbeats 0 in
theorem PySem.Challenge.cw_shardask_k12_grouped_holds : PySem.Challenge.rw_shardask_k12_grouped.Holds := by
 w_on;o_law;k_head;(case hw=>w_witness2)
 k_fill
 refine L2.walk_ofK (l:=PySem.Challenge.rw_shardask_k12_grouped) (n:=63) (k:=51) (x:="_law_script") (CX:=L2.CX0) (sp:=My.sp_law) rfl (by decide) rfl ⟨rfl,by decide,by decide⟩ (fun w h Y=>PySem.W.km_in_of Y) ?F (fun K H a ns hl hO hS=>My.aJz hl hS) (fun _ _ _ _ z=>z)
 case F=>
  intro w mg fa h KX G hmg
  have T:My.Txt w (L2.KOf KX) mg:=by
   dsimp only [L2.KOf]
   refine' My.txt_mk KX G ?a0 ?a1 ?a2 ?a3 ?a4 ?a5 ?a6 ?a7 ?a8 ?a9 ?a10 ?a11 ?a12 ?a13 ?a14 ?a15 ?a16 ?a17 ?a18 ?a19 ?a20 ?a21 ?a22 ?a23 ?a24 ?a25 ?a26 ?a27 ?a28 ?a29 ?a30 ?a31 ?a32 ?a33 ?a34 ?a35 ?a36 ?a37 ?a38 ?a39 ?a40 ?a41 ?a42 ?a43 ?a44 ?a45 ?a46 ?a47 ?a48 ?a49 ?a50 ?a51 ?a52 ?a53 ?a54 ?a55 ?a56 ?a57 ?a58 ?a59 ?a60 ?a61 ?a62 ?a63 ?a64 ?a65 ?a66 ?a67 ?a68 ?a69 ?a70 ?a71 ?a72 ?a73 ?a74 ?a75 ?q0 ?r0 ?t0 ?y0 ?u0 ?v0 ?q1 ?q2 ?q3 ?q4 ?r4 ?t4 ?y4 ?u4 ?v4 ?q5 ?r5 ?t5 ?y5 ?u5 ?v5 ?q6 ?r6 ?t6 ?y6 ?u6 ?v6 ?q7 ?q8 ?q9 ?q10 ?q11 ?q12 ?q13 ?q14 ?r14 ?x14 ?o14 ?u14 ?h14 ?r14_0 ?t14_0 ?y14_0 ?u14_0 ?v14_0 ?r14_1 ?t14_1 ?y14_1 ?u14_1 ?v14_1 ?r14_2 ?t14_2 ?y14_2 ?u14_2 ?v14_2 ?r14_3 ?t14_3 ?y14_3 ?u14_3 ?v14_3 ?r14_4 ?t14_4 ?y14_4 ?u14_4 ?v14_4 ?r14_5 ?t14_5 ?y14_5 ?u14_5 ?v14_5 ?r14_6 ?t14_6 ?y14_6 ?u14_6 ?v14_6 ?z0 ?z1 ?z2 ?z3 ?z4 ?z5 ?z6 ?z7 ?z8 ?z9 ?z10 ?z11 ?z12 ?z13 ?z14 ?z15 ?z16 ?z17 ?z18 ?z19 ?z20
   (case a0=>(refine' My.FA.mk ?j0 ?l0 ?c0 ?k0);(case j0=>k_is);(case l0=>k_is);(case c0=>k_is);(case k0=>k_is))
   (case a1=>(refine' My.FA.mk ?j1 ?l1 ?c1 ?k1);(case j1=>k_is);(case l1=>k_is);(case c1=>k_is);(case k1=>k_is))
   (case a2=>(refine' My.FA.mk ?j2 ?l2 ?c2 ?k2);(case j2=>k_is);(case l2=>k_is);(case c2=>k_is);(case k2=>k_is))
   (case a3=>(refine' My.FA.mk ?j3 ?l3 ?c3 ?k3);(case j3=>k_is);(case l3=>k_is);(case c3=>k_is);(case k3=>k_is))
   (case a4=>(refine' My.FA.mk ?j4 ?l4 ?c4 ?k4);(case j4=>k_is);(case l4=>k_is);(case c4=>k_is);(case k4=>k_is))
   (case a5=>(refine' My.FA.mk ?j5 ?l5 ?c5 ?k5);(case j5=>k_is);(case l5=>k_is);(case c5=>k_is);(case k5=>k_is))
   (case a6=>(refine' My.FA.mk ?j6 ?l6 ?c6 ?k6);(case j6=>k_is);(case l6=>k_is);(case c6=>k_is);(case k6=>k_is))
   (case a7=>(refine' My.FA.mk ?j7 ?l7 ?c7 ?k7);(case j7=>k_is);(case l7=>k_is);(case c7=>k_is);(case k7=>k_is))
   (case a8=>(refine' My.FA.mk ?j8 ?l8 ?c8 ?k8);(case j8=>k_is);(case l8=>k_is);(case c8=>k_is);(case k8=>k_is))
   (case a9=>(refine' My.FA.mk ?j9 ?l9 ?c9 ?k9);(case j9=>k_is);(case l9=>k_is);(case c9=>k_is);(case k9=>k_is))
   (case a10=>(refine' My.FA.mk ?j10 ?l10 ?c10 ?k10);(case j10=>k_is);(case l10=>k_is);(case c10=>k_is);(case k10=>k_is))
   (case a11=>(refine' My.FA.mk ?j11 ?l11 ?c11 ?k11);(case j11=>k_is);(case l11=>k_is);(case c11=>k_is);(case k11=>k_is))
   (case a12=>(refine' My.FA.mk ?j12 ?l12 ?c12 ?k12);(case j12=>k_is);(case l12=>k_is);(case c12=>k_is);(case k12=>k_is))
   (case a13=>(refine' My.FA.mk ?j13 ?l13 ?c13 ?k13);(case j13=>k_is);(case l13=>k_is);(case c13=>k_is);(case k13=>k_is))
   (case a14=>(refine' My.FA.mk ?j14 ?l14 ?c14 ?k14);(case j14=>k_is);(case l14=>k_is);(case c14=>k_is);(case k14=>k_is))
   (case a15=>(refine' My.FA.mk ?j15 ?l15 ?c15 ?k15);(case j15=>k_is);(case l15=>k_is);(case c15=>k_is);(case k15=>k_is))
   (case a16=>(refine' My.FA.mk ?j16 ?l16 ?c16 ?k16);(case j16=>k_is);(case l16=>k_is);(case c16=>k_is);(case k16=>k_is))
   (case a17=>(refine' My.FA.mk ?j17 ?l17 ?c17 ?k17);(case j17=>k_is);(case l17=>k_is);(case c17=>k_is);(case k17=>k_is))
   (case a18=>(refine' My.FA.mk ?j18 ?l18 ?c18 ?k18);(case j18=>k_is);(case l18=>k_is);(case c18=>k_is);(case k18=>k_is))
   (case a19=>(refine' My.FA.mk ?j19 ?l19 ?c19 ?k19);(case j19=>k_is);(case l19=>k_is);(case c19=>k_is);(case k19=>k_is))
   (case a20=>(refine' My.FA.mk ?j20 ?l20 ?c20 ?k20);(case j20=>k_is);(case l20=>k_is);(case c20=>k_is);(case k20=>k_is))
   (case a21=>(refine' My.FA.mk ?j21 ?l21 ?c21 ?k21);(case j21=>k_is);(case l21=>k_is);(case c21=>k_is);(case k21=>k_is))
   (case a22=>(refine' My.FA.mk ?j22 ?l22 ?c22 ?k22);(case j22=>k_is);(case l22=>k_is);(case c22=>k_is);(case k22=>k_is))
   (case a23=>(refine' My.FA.mk ?j23 ?l23 ?c23 ?k23);(case j23=>k_is);(case l23=>k_is);(case c23=>k_is);(case k23=>k_is))
   (case a24=>(refine' My.FA.mk ?j24 ?l24 ?c24 ?k24);(case j24=>k_is);(case l24=>k_is);(case c24=>k_is);(case k24=>k_is))
   (case a25=>(refine' My.FA.mk ?j25 ?l25 ?c25 ?k25);(case j25=>k_is);(case l25=>k_is);(case c25=>k_is);(case k25=>k_is))
   (case a26=>(refine' My.FA.mk ?j26 ?l26 ?c26 ?k26);(case j26=>k_is);(case l26=>k_is);(case c26=>k_is);(case k26=>k_is))
   (case a27=>(refine' My.FA.mk ?j27 ?l27 ?c27 ?k27);(case j27=>k_is);(case l27=>k_is);(case c27=>k_is);(case k27=>k_is))
   (case a28=>(refine' My.FA.mk ?j28 ?l28 ?c28 ?k28);(case j28=>k_is);(case l28=>k_is);(case c28=>k_is);(case k28=>k_is))
   (case a29=>(refine' My.FA.mk ?j29 ?l29 ?c29 ?k29);(case j29=>k_is);(case l29=>k_is);(case c29=>k_is);(case k29=>k_is))
   (case a30=>(refine' My.FA.mk ?j30 ?l30 ?c30 ?k30);(case j30=>k_is);(case l30=>k_is);(case c30=>k_is);(case k30=>k_is))
   (case a31=>(refine' My.FA.mk ?j31 ?l31 ?c31 ?k31);(case j31=>k_is);(case l31=>k_is);(case c31=>k_is);(case k31=>k_is))
   (case a32=>(refine' My.FA.mk ?j32 ?l32 ?c32 ?k32);(case j32=>k_is);(case l32=>k_is);(case c32=>k_is);(case k32=>k_is))
   (case a33=>(refine' My.FA.mk ?j33 ?l33 ?c33 ?k33);(case j33=>k_is);(case l33=>k_is);(case c33=>k_is);(case k33=>k_is))
   (case a34=>(refine' My.FA.mk ?j34 ?l34 ?c34 ?k34);(case j34=>k_is);(case l34=>k_is);(case c34=>k_is);(case k34=>k_is))
   (case a35=>(refine' My.FA.mk ?j35 ?l35 ?c35 ?k35);(case j35=>k_is);(case l35=>k_is);(case c35=>k_is);(case k35=>k_is))
   (case a36=>(refine' My.FA.mk ?j36 ?l36 ?c36 ?k36);(case j36=>k_is);(case l36=>k_is);(case c36=>k_is);(case k36=>k_is))
   (case a37=>(refine' My.FA.mk ?j37 ?l37 ?c37 ?k37);(case j37=>k_is);(case l37=>k_is);(case c37=>k_is);(case k37=>k_is))
   (case a38=>(refine' My.FA.mk ?j38 ?l38 ?c38 ?k38);(case j38=>k_is);(case l38=>k_is);(case c38=>k_is);(case k38=>k_is))
   (case a39=>(refine' My.FA.mk ?j39 ?l39 ?c39 ?k39);(case j39=>k_is);(case l39=>k_is);(case c39=>k_is);(case k39=>k_is))
   (case a40=>(refine' My.FA.mk ?j40 ?l40 ?c40 ?k40);(case j40=>k_is);(case l40=>k_is);(case c40=>k_is);(case k40=>k_is))
   (case a41=>(refine' My.FA.mk ?j41 ?l41 ?c41 ?k41);(case j41=>k_is);(case l41=>k_is);(case c41=>k_is);(case k41=>k_is))
   (case a42=>(refine' My.FA.mk ?j42 ?l42 ?c42 ?k42);(case j42=>k_is);(case l42=>k_is);(case c42=>k_is);(case k42=>k_is))
   (case a43=>(refine' My.FA.mk ?j43 ?l43 ?c43 ?k43);(case j43=>k_is);(case l43=>k_is);(case c43=>k_is);(case k43=>k_is))
   (case a44=>(refine' My.FA.mk ?j44 ?l44 ?c44 ?k44);(case j44=>k_is);(case l44=>k_is);(case c44=>k_is);(case k44=>k_is))
   (case a45=>(refine' My.FA.mk ?j45 ?l45 ?c45 ?k45);(case j45=>k_is);(case l45=>k_is);(case c45=>k_is);(case k45=>k_is))
   (case a46=>(refine' My.FA.mk ?j46 ?l46 ?c46 ?k46);(case j46=>k_is);(case l46=>k_is);(case c46=>k_is);(case k46=>k_is))
   (case a47=>(refine' My.FA.mk ?j47 ?l47 ?c47 ?k47);(case j47=>k_is);(case l47=>k_is);(case c47=>k_is);(case k47=>k_is))
   (case a48=>(refine' My.FA.mk ?j48 ?l48 ?c48 ?k48);(case j48=>k_is);(case l48=>k_is);(case c48=>k_is);(case k48=>k_is))
   (case a49=>(refine' My.FA.mk ?j49 ?l49 ?c49 ?k49);(case j49=>k_is);(case l49=>k_is);(case c49=>k_is);(case k49=>k_is))
   (case a50=>(refine' My.FA.mk ?j50 ?l50 ?c50 ?k50);(case j50=>k_is);(case l50=>k_is);(case c50=>k_is);(case k50=>k_is))
   (case a51=>(refine' My.FA.mk ?j51 ?l51 ?c51 ?k51);(case j51=>k_is);(case l51=>k_is);(case c51=>k_is);(case k51=>k_is))
   (case a52=>(refine' My.FA.mk ?j52 ?l52 ?c52 ?k52);(case j52=>k_is);(case l52=>k_is);(case c52=>k_is);(case k52=>k_is))
   (case a53=>(refine' My.FA.mk ?j53 ?l53 ?c53 ?k53);(case j53=>k_is);(case l53=>k_is);(case c53=>k_is);(case k53=>k_is))
   (case a54=>(refine' My.FA.mk ?j54 ?l54 ?c54 ?k54);(case j54=>k_is);(case l54=>k_is);(case c54=>k_is);(case k54=>k_is))
   (case a55=>(refine' My.FA.mk ?j55 ?l55 ?c55 ?k55);(case j55=>k_is);(case l55=>k_is);(case c55=>k_is);(case k55=>k_is))
   (case a56=>(refine' My.FA.mk ?j56 ?l56 ?c56 ?k56);(case j56=>k_is);(case l56=>k_is);(case c56=>k_is);(case k56=>k_is))
   (case a57=>(refine' My.FA.mk ?j57 ?l57 ?c57 ?k57);(case j57=>k_is);(case l57=>k_is);(case c57=>k_is);(case k57=>k_is))
   (case a58=>(refine' My.FA.mk ?j58 ?l58 ?c58 ?k58);(case j58=>k_is);(case l58=>k_is);(case c58=>k_is);(case k58=>k_is))
   (case a59=>(refine' My.FA.mk ?j59 ?l59 ?c59 ?k59);(case j59=>k_is);(case l59=>k_is);(case c59=>k_is);(case k59=>k_is))
   (case a60=>(refine' My.FA.mk ?j60 ?l60 ?c60 ?k60);(case j60=>k_is);(case l60=>k_is);(case c60=>k_is);(case k60=>k_is))
   (case a61=>(refine' My.FA.mk ?j61 ?l61 ?c61 ?k61);(case j61=>k_is);(case l61=>k_is);(case c61=>k_is);(case k61=>k_is))
   (case a62=>(refine' My.FA.mk ?j62 ?l62 ?c62 ?k62);(case j62=>k_is);(case l62=>k_is);(case c62=>k_is);(case k62=>k_is))
   (case a63=>(refine' My.FA.mk ?j63 ?l63 ?c63 ?k63);(case j63=>k_is);(case l63=>k_is);(case c63=>k_is);(case k63=>k_is))
   (case a64=>(refine' My.FA.mk ?j64 ?l64 ?c64 ?k64);(case j64=>k_is);(case l64=>k_is);(case c64=>k_is);(case k64=>k_is))
   (case a65=>(refine' My.FA.mk ?j65 ?l65 ?c65 ?k65);(case j65=>k_is);(case l65=>k_is);(case c65=>k_is);(case k65=>k_is))
   (case a66=>(refine' My.FA.mk ?j66 ?l66 ?c66 ?k66);(case j66=>k_is);(case l66=>k_is);(case c66=>k_is);(case k66=>k_is))
   (case a67=>(refine' My.FA.mk ?j67 ?l67 ?c67 ?k67);(case j67=>k_is);(case l67=>k_is);(case c67=>k_is);(case k67=>k_is))
   (case a68=>(refine' My.FA.mk ?j68 ?l68 ?c68 ?k68);(case j68=>k_is);(case l68=>k_is);(case c68=>k_is);(case k68=>k_is))
   (case a69=>(refine' My.FA.mk ?j69 ?l69 ?c69 ?k69);(case j69=>k_is);(case l69=>k_is);(case c69=>k_is);(case k69=>k_is))
   (case a70=>(refine' My.FA.mk ?j70 ?l70 ?c70 ?k70);(case j70=>k_is);(case l70=>k_is);(case c70=>k_is);(case k70=>k_is))
   (case a71=>(refine' My.FA.mk ?j71 ?l71 ?c71 ?k71);(case j71=>k_is);(case l71=>k_is);(case c71=>k_is);(case k71=>k_is))
   (case a72=>(refine' My.FA.mk ?j72 ?l72 ?c72 ?k72);(case j72=>k_is);(case l72=>k_is);(case c72=>k_is);(case k72=>k_is))
   (case a73=>(refine' My.FA.mk ?j73 ?l73 ?c73 ?k73);(case j73=>k_is);(case l73=>k_is);(case c73=>k_is);(case k73=>k_is))
   (case a74=>(refine' My.FA.mk ?j74 ?l74 ?c74 ?k74);(case j74=>k_is);(case l74=>k_is);(case c74=>k_is);(case k74=>k_is))
   (case a75=>(refine' My.FA.mk ?j75 ?l75 ?c75 ?k75);(case j75=>k_is);(case l75=>k_is);(case c75=>k_is);(case k75=>k_is))
   (case q0=>k_is)
   (case r0=>k_is)
   (case t0=>rfl)
   (case y0=>rfl)
   (case u0=>rfl)
   (case v0=>repeat (first|exact L2.cH|refine L2.aY rfl ?_|refine L2.aY ⟨_,rfl⟩ ?_))
   (case q1=>k_is)
   (case q2=>k_is)
   (case q3=>k_is)
   (case q4=>k_is)
   (case r4=>k_is)
   (case t4=>rfl)
   (case y4=>rfl)
   (case u4=>rfl)
   (case v4=>repeat (first|exact L2.cH|refine L2.aY rfl ?_|refine L2.aY ⟨_,rfl⟩ ?_))
   (case q5=>k_is)
   (case r5=>k_is)
   (case t5=>rfl)
   (case y5=>rfl)
   (case u5=>rfl)
   (case v5=>repeat (first|exact L2.cH|refine L2.aY rfl ?_|refine L2.aY ⟨_,rfl⟩ ?_))
   (case q6=>k_is)
   (case r6=>k_is)
   (case t6=>rfl)
   (case y6=>rfl)
   (case u6=>rfl)
   (case v6=>repeat (first|exact L2.cH|refine L2.aY rfl ?_|refine L2.aY ⟨_,rfl⟩ ?_))
   (case q7=>k_is)
   (case q8=>k_is)
   (case q9=>k_is)
   (case q10=>k_is)
   (case q11=>k_is)
   (case q12=>k_is)
   (case q13=>k_is)
   (case q14=>k_is)
   (case r14=>k_is)
   (case x14=>exact ⟨rfl,rfl,rfl⟩)
   (case o14=>first|rfl|decide +kernel)
   (case u14=>rfl)
   (case h14=>intro P;repeat (first|exact L2.PH.nil|refine L2.PH.cons rfl rfl rfl ?_))
   (case r14_0=>k_is)
   (case t14_0=>rfl)
   (case y14_0=>rfl)
   (case u14_0=>rfl)
   (case v14_0=>repeat (first|exact L2.cH|refine L2.aY rfl ?_|refine L2.aY ⟨_,rfl⟩ ?_))
   (case r14_1=>k_is)
   (case t14_1=>rfl)
   (case y14_1=>rfl)
   (case u14_1=>rfl)
   (case v14_1=>repeat (first|exact L2.cH|refine L2.aY rfl ?_|refine L2.aY ⟨_,rfl⟩ ?_))
   (case r14_2=>k_is)
   (case t14_2=>rfl)
   (case y14_2=>rfl)
   (case u14_2=>rfl)
   (case v14_2=>repeat (first|exact L2.cH|refine L2.aY rfl ?_|refine L2.aY ⟨_,rfl⟩ ?_))
   (case r14_3=>k_is)
   (case t14_3=>rfl)
   (case y14_3=>rfl)
   (case u14_3=>rfl)
   (case v14_3=>repeat (first|exact L2.cH|refine L2.aY rfl ?_|refine L2.aY ⟨_,rfl⟩ ?_))
   (case r14_4=>k_is)
   (case t14_4=>rfl)
   (case y14_4=>rfl)
   (case u14_4=>rfl)
   (case v14_4=>repeat (first|exact L2.cH|refine L2.aY rfl ?_|refine L2.aY ⟨_,rfl⟩ ?_))
   (case r14_5=>k_is)
   (case t14_5=>rfl)
   (case y14_5=>rfl)
   (case u14_5=>rfl)
   (case v14_5=>repeat (first|exact L2.cH|refine L2.aY rfl ?_|refine L2.aY ⟨_,rfl⟩ ?_))
   (case r14_6=>k_is)
   (case t14_6=>rfl)
   (case y14_6=>rfl)
   (case u14_6=>rfl)
   (case v14_6=>repeat (first|exact L2.cH|refine L2.aY rfl ?_|refine L2.aY ⟨_,rfl⟩ ?_))
   (case z0=>k_is)
   (case z1=>k_is)
   (case z2=>k_is)
   (case z3=>k_is)
   (case z4=>k_is)
   (case z5=>k_is)
   (case z6=>k_is)
   (case z7=>k_is)
   (case z8=>k_is)
   (case z9=>k_is)
   (case z10=>k_is)
   (case z11=>k_is)
   (case z12=>k_is)
   (case z13=>k_is)
   (case z14=>k_is)
   (case z15=>k_is)
   (case z16=>k_is)
   (case z17=>k_is)
   (case z18=>k_is)
   (case z19=>k_is)
   (case z20=>k_is)
  exact My.law_fn (P:=PySem.Challenge.rw_shardask_k12_grouped.prog) T hmg
