import PyProof.Rows.All
import Wide.All
import OpenK.AllK
import Wide.FinOn
import Lean
import PyProof.EqAt
import PyProof.EqKinds
import PyProof.TupleCall
import PyProof.ExcClass3
import PyProof.ExcBaseAll.ValueError
import PyProof.InstStoreFacts
import PyProof.ExcArgsOwn
import PyProof.ExcAttrAll.ValueError
import PyProof.CallType
import PyProof.WalkLemmas
import PyProof.StrOps
import PyProof.ForAny
import PyProof.IsInstanceH
import PyProof.IsiFacts
import PyProof.IsiFacts2
import PyProof.FactsAll.object
import PyProof.ListMulRoad
import PyProof.FactsAll.tuple_2
import PyProof.StrLawsIdx
import KE.KDictList
import PyProof.Rows.Range3
import PyProof.EnumMake
import PyProof.EnumFor
import PyProof.CompUse
import PyProof.ListStr
import PyProof.NeKinds
import KE.KIntText
import KE.KDictOf
import KE.KEqDict
import KE.KDictSum
import PyProof.AttrMissHeap
import KE.KUnpack
import PySem.Challenge.RW_shardask_k06_heads_refused
set_option Elab.async false
set_option linter.all false
set_option maxRecDepth 100000
namespace L2
open PySem PySem.Spec PyProof.Rows
abbrev Key:=Sum Int Str
def keyIs : Key→Value→Bool
  | .inl k,v=>Value.isInt k v
  | .inr x,v=>Value.isStrOf x v
def keyH (w : World) : Key→Int
  | .inl k=>hashInt k
  | .inr x=>hashStr w x
theorem keyIs_shape : ∀ {k : Key} {v : Value},keyIs k v = true→(∃ i t,k = Sum.inl i∧v = Value.int i t) ∨ (∃ x t,k = Sum.inr x∧v = Value.str x t)
  | .inl i,v,h=>by
    obtain ⟨t,e⟩:=Value.isInt_shape (k:=i) (v:=v) h
    exact .inl ⟨i,t,rfl,e⟩
  | .inr x,v,h=>by
    obtain ⟨t,e⟩:=Value.isStrOf_shape (x:=x) (v:=v) h
    exact .inr ⟨x,t,rfl,e⟩
theorem keyIs_int (i : Int) (t : Tok) : keyIs (.inl i) (.int i t) = true:=by simp [keyIs,Value.isInt]
theorem keyIs_str (x : Str) (t : Tok) : keyIs (.inr x) (.str x t) = true:=by simp [keyIs,Value.isStrOf]
theorem key_ll (a b : Int) : decide ((Sum.inl a : Key) = Sum.inl b) = (a == b):=by
  by_cases e : a = b
  · subst e; simp
  · have h : ¬ (Sum.inl a : Key) = Sum.inl b:=fun q=>e (Sum.inl.inj q)
    rw [decide_eq_false h]
    exact (beq_eq_false_iff_ne.mpr e).symm
theorem key_rr (a b : Str) : decide ((Sum.inr a : Key) = Sum.inr b) = decide (a = b):=by
  by_cases e : a = b
  · subst e; simp
  · have h : ¬ (Sum.inr a : Key) = Sum.inr b:=fun q=>e (Sum.inr.inj q)
    rw [decide_eq_false h,decide_eq_false e]
theorem key_lr (a : Int) (b : Str) : decide ((Sum.inl a : Key) = Sum.inr b) = false:=decide_eq_false (fun q=>nomatch q)
theorem key_rl (a : Str) (b : Int) : decide ((Sum.inr a : Key) = Sum.inl b) = false:=decide_eq_false (fun q=>nomatch q)
def mixKind (prog : Program) (w : World) : PySem.KeyKind prog w Key where
  is:=keyIs
  hash:=keyH w
  inj:=fun v a b ha hb=>by
    rcases keyIs_shape ha with ⟨i,t,rfl,rfl⟩ | ⟨x,t,rfl,rfl⟩
    · rcases keyIs_shape hb with ⟨j,u,rfl,e⟩ | ⟨y,u,rfl,e⟩
      · injection e with e1 _; rw [e1]
      · exact nomatch e
    · rcases keyIs_shape hb with ⟨j,u,rfl,e⟩ | ⟨y,u,rfl,e⟩
      · exact nomatch e
      · injection e with e1 _; rw [e1]
  byValue:=fun k v h=>by
    rcases keyIs_shape h with ⟨i,t,rfl,rfl⟩ | ⟨x,t,rfl,rfl⟩ <;> rfl
  pyHash:=fun hv h=>by
    rcases keyIs_shape hv with ⟨i,t,rfl,rfl⟩ | ⟨x,t,rfl,rfl⟩
    · exact wpAny_pyHash_int h
    · exact wpAny_pyHash_str h
  eqBool:=fun hu hv h=>by
    rcases keyIs_shape hu with ⟨i,t,rfl,rfl⟩ | ⟨x,t,rfl,rfl⟩
    · rcases keyIs_shape hv with ⟨j,u,rfl,rfl⟩ | ⟨y,u,rfl,rfl⟩
      · rw [key_ll] at h; exact wpAny_eqBool_int h
      · rw [key_lr] at h; exact SeqAt.EqAt.int_str i t y u _ _ _ _ h
    · rcases keyIs_shape hv with ⟨j,u,rfl,rfl⟩ | ⟨y,u,rfl,rfl⟩
      · rw [key_rl] at h; exact SeqAt.EqAt.str_int x t j u _ _ _ _ h
      · rw [key_rr] at h; exact wpAny_eqBool_str h
  «strs»:=fun k x t v h=>by
    rcases keyIs_shape h with ⟨i,u,rfl,e⟩ | ⟨y,u,rfl,e⟩
    · exact nomatch e
    · injection e with e1 _
      subst e1
      cases v <;> rfl
theorem mixKind_int (prog : Program) (w : World) (i : Int) (t : Tok) : (mixKind prog w).is (.inl i) (.int i t) = true:=keyIs_int i t
theorem mixKind_str (prog : Program) (w : World) (x : Str) (t : Tok) : (mixKind prog w).is (.inr x) (.str x t) = true:=keyIs_str x t
end L2
namespace L2
open PySem PySem.Spec PyProof.Rows
inductive V where
  | non | bl (b : Bool) | int (i : Int) | str (x : Str) | byt (b : Array UInt8) | flt (b : UInt64) | ref (a : Addr) | ty (n : String)
  deriving DecidableEq
def RelV : V→Value→Prop
  | .non,u=>u = Value.none
  | .bl b,u=>u = Value.bool b
  | .int i,u=>∃ t,u = Value.int i t
  | .str x,u=>∃ t,u = Value.str x t
  | .byt b,u=>∃ t,u = Value.bytes b t
  | .flt b,u=>∃ t,u = Value.float b t
  | .ref a,u=>u = Value.ref a
  | .ty n,u=>u = Value.type n
abbrev Vals : List V→List Value→Prop:=Paired RelV
theorem Vals.length {xs : List V} {us : List Value} (r : Vals xs us) : xs.length = us.length:=Paired.length r
theorem Vals.get : ∀ {xs : List V} {us : List Value} {i : Nat} {x : V},Vals xs us→xs[i]? = some x→∃ u,us[i]? = some u∧RelV x u
  | _,_,_,_,.nil,e=>by simp at e
  | _,_,0,_,.cons r _,e=>by simp at e; subst e; exact ⟨_,rfl,r⟩
  | _,_,i + 1,x,.cons _ t,e=>by
    obtain ⟨u,h1,h2⟩:=Vals.get (i:=i) (x:=x) t (by simpa using e)
    exact ⟨u,by simpa using h1,h2⟩
theorem Vals.set {x : V} {u : Value} (r : RelV x u) : ∀ {xs : List V} {us : List Value} (i : Nat),Vals xs us→Vals (xs.set i x) (us.set i u)
  | _,_,_,.nil=>.nil
  | _,_,0,.cons _ t=>.cons r t
  | _,_,i + 1,.cons q t=>.cons q (Vals.set r i t)
theorem Vals.append : ∀ {xs ys : List V} {us ws : List Value},Vals xs us→Vals ys ws→Vals (xs ++ ys) (us ++ ws)
  | _,_,_,_,.nil,s=>s
  | _,_,_,_,.cons r t,s=>.cons r (Vals.append t s)
theorem Vals.take : ∀ {xs : List V} {us : List Value} (n : Nat),Vals xs us→Vals (xs.take n) (us.take n)
  | _,_,0,_=>.nil
  | _,_,_ + 1,.nil=>.nil
  | _,_,n + 1,.cons r t=>.cons r (Vals.take n t)
theorem Vals.drop : ∀ {xs : List V} {us : List Value} (n : Nat),Vals xs us→Vals (xs.drop n) (us.drop n)
  | _,_,0,r=>r
  | _,_,_ + 1,.nil=>.nil
  | _,_,n + 1,.cons _ t=>Vals.drop n t
def RelO : Option V→Option Value→Prop
  | some v,some u=>RelV v u
  | none,none=>True
  | _,_=>False
def KV {κ : Type} : List (κ × V)→List (κ × Value)→Prop:=Paired fun (p : κ × V) (q : κ × Value)=>p.1 = q.1∧RelV p.2 q.2
def kV : Key→V
  | .inl i=>.int i
  | .inr x=>.str x
inductive HO where
  /-- a list -/
  | lst (xs : List V)
  /-- a tuple (never changes) -/
  | tup (xs : List V)
  /-- a dict whose keys are ints and texts; one whose keys are tuples of ints and texts (the empty one is both) -/
  | dK (kvs : List (Key × V)) | dT (kvs : List (List Key × V))
  /-- a set of ints: its members,its size -/
  | set (S : Int→Bool) (n : Nat)
  /-- an instance of the class at C,its dict at dx,its attributes -/
  | ins (C dx : Addr) (fs : List (Str × V))
  /-- the dict of the instance at x -/
  | own (x : Addr)
  /-- the dict of an exception -/
  | xd (fs : List (Str × V))
  /-- a bound method,f of x -/
  | met (f x : Addr)
  /-- a range object lo,lo + 1,.. below hi -/
  | rng (lo hi : Int)
  /-- a thing that is known to the object (the script; a dict while a loop walks it): read,never written while it is so -/
  | frz (o : Obj) (u : HO)
  /-- a code object's table -/
  | tbl (ps : Array Value)
  /-- any other thing,by what is true of its one object (a def of one's own: SetO a S n:=HO.ext fun h=>..) -/
  | ext (φ : Heap→Prop)
abbrev Hp:=Addr→Option HO
def upd (H : Hp) (a : Addr) (o : HO) : Hp:=fun b=>if b = a then some o else H b
theorem upd_same {H : Hp} {a : Addr} {o : HO} : upd H a o a = some o:=by unfold upd; rw [if_pos rfl]
theorem upd_ne {H : Hp} {a b : Addr} {o : HO} (h : b ≠ a) : upd H a o b = H b:=by unfold upd; rw [if_neg h]
theorem upd_upd {H : Hp} {a : Addr} {o u : HO} : upd (upd H a o) a u = upd H a u:=by
  funext b; unfold upd; split <;> rfl
theorem ne_of {H : Hp} {a b : Addr} {o u : HO} (h : H a = some o) (h' : H b = some u) (d : o ≠ u) : a ≠ b:=by
  intro e; subst e; rw [h] at h'; exact d (Option.some.inj h')
theorem ne_of_none {H : Hp} {a b : Addr} {o : HO} (h : H a = some o) (h' : H b = none) : a ≠ b:=by
  intro e; subst e; rw [h] at h'; cases h'
def IsTN (h : Heap) (a : Addr) (items : Array Value) : Prop:=IsTup h a items∧∀ o,h.get? a = some o→o.dict = none
theorem IsTN.of {h : Heap} {a : Addr} {items : Array Value} {o : Obj} (e : h.get? a = some o) (d : o.dict = none) (x : IsTup h a items) : IsTN h a items:=⟨x,fun o' e'=>by rw [e] at e'; cases e'; exact d⟩
theorem IsTN.new (h : Heap) (items : Array Value) : IsTN (h.push { cls:=.type "tuple",data:=.seq items }) h.objs.size items:=.of (Heap.get?_push_size _ rfl) rfl (IsTup.new _ _)
theorem IsTN.keep {h h' : Heap} {a : Addr} {items : Array Value} (x : IsTN h a items) (k : ∀ o,h.get? a = some o→h'.get? a = some o) : IsTN h' a items:=by
  obtain ⟨⟨o,e,c⟩,d⟩:=x
  exact .of (k o e) (d o e) ⟨o,k o e,c⟩
section
variable (P : Program) (w : World)
def ObjOk (H : Hp) (h : Heap) (a : Addr) : HO→Prop
  | .lst xs=>xs.length ≤ sizeLine∧∃ (its : List Value) (n : Nat),Vals xs its∧h.get? a = some { cls:=.type "list",data:=.seq its.toArray n }
  | .tup xs=>xs.length ≤ sizeLine∧∃ its : List Value,Vals xs its∧IsTN h a its.toArray
  | .dK kvs=>kvs.length ≤ sizeLine∧(a == sysModules) = false∧∃ vs,KV kvs vs∧h.DictOf (mixKind P w) a vs
  | .dT kvs=>kvs.length ≤ sizeLine∧(a == sysModules) = false∧∃ xs : List (List Key × Addr × Value),
      Paired (fun (p : List Key × V) (q : List Key × Addr × Value)=>p.1 = q.1∧H q.2.1 = some (.tup (p.1.map kV))∧RelV p.2 q.2.2) kvs xs ∧
      ∃ o es ep,h.get? a = some o∧o.ExactDict∧o.data = .dict es ep∧es.toList = xs.map (entryOfKey (tupleKind (mixKind P w)))∧(xs.map (·.1)).Nodup
  | .set S n=>h.SetOf (intKind P w) a S n
  | .ins C dx fs=>H dx = some (.own a)∧fs.length ≤ 1000∧dx ≠ a∧h.get? a = some (PySem.W.instObj C dx) ∧
      ∃ mA,h.Ns1 dx mA∧(∀ f,RelO (fs.lookup f) (mA f))∧PySem.Within mA (fs.map (·.1))
  | .own _=>∃ o,h.get? a = some o
  | .xd fs=>∃ mA,h.Ns1 a mA∧∀ f,RelO (fs.lookup f) (mA f)
  | .rng lo hi=>∃ t u v,h.get? a = some { cls:=.type "range",data:=.fields #[.int lo t,.int hi u,.int 1 v] }
  | .frz o u=>h.get? a = some o∧ObjOk H h a u
  | .tbl ps=>h.get? a = some { cls:=.none,data:=.fields ps }
  | .met f x=>h.get? a = some (PySem.W.methodObj (.ref f) (.ref x))
  | .ext φ=>φ h∧(∃ o,h.get? a = some o)∧∀ h1 h2 : Heap,φ h1→(∀ o,h1.get? a = some o→h2.get? a = some o)→φ h2
def HOk (H : Hp) (h : Heap) : Prop:=∀ a o,H a = some o→ObjOk P w H h a o
end
section
variable {P : Program} {w : World} {H H' : Hp} {h h' : Heap} {a : Addr} {o : HO}
theorem ObjOk.lt (x : ObjOk P w H h a o) : a < h.objs.size:=by
  cases o with
  | lst xs=>obtain ⟨_,_,_,_,e⟩:=x; exact Heap.lt_size e
  | tup xs=>obtain ⟨_,_,_,p⟩:=x; exact p.1.lt
  | dK kvs=>obtain ⟨_,_,_,_,o,_,_,e,_⟩:=x; exact Heap.lt_size e
  | dT kvs=>obtain ⟨_,_,_,_,o,_,_,e,_⟩:=x; exact Heap.lt_size e
  | set S n=>obtain ⟨o,_,_,_,e,_⟩:=x; exact Heap.lt_size e
  | ins C dx fs=>obtain ⟨_,_,_,e,_⟩:=x; exact Heap.lt_size e
  | own y=>obtain ⟨_,e⟩:=x; exact Heap.lt_size e
  | xd fs=>obtain ⟨_,⟨_,_,_,e,_⟩,_⟩:=x; exact Heap.lt_size e
  | rng lo hi=>obtain ⟨_,_,_,e⟩:=x; exact Heap.lt_size e
  | frz ob u=>obtain ⟨e,_⟩:=x; exact Heap.lt_size e
  | tbl ps=>exact Heap.lt_size (show h.get? a = some _ from x)
  | met f y=>exact Heap.lt_size (show h.get? a = some _ from x)
  | ext φ=>obtain ⟨_,⟨_,e⟩,_⟩:=x; exact Heap.lt_size e
theorem Paired.mapP {α β : Type} {F G : α→β→Prop} : ∀ {l₁ : List α} {l₂ : List β},Paired F l₁ l₂→(∀ a b,F a b→G a b)→Paired G l₁ l₂
  | _,_,.nil,_=>.nil
  | _,_,.cons r t,f=>.cons (f _ _ r) (Paired.mapP t f)
theorem ObjOk.stay (x : ObjOk P w H h a o) (k : ∀ b u,(b = a ∨ H b = some (.own a))→h.get? b = some u→h'.get? b = some u)
    (ho : ∀ b,H b = some (.own a)→H' b = some (.own a)) (ht : ∀ b xs,H b = some (.tup xs)→H' b = some (.tup xs)) : ObjOk P w H' h' a o:=by
  induction o with
  | lst xs=>obtain ⟨z,its,n,r,e⟩:=x; exact ⟨z,its,n,r,k _ _ (.inl rfl) e⟩
  | tup xs=>obtain ⟨z,its,r,p⟩:=x; exact ⟨z,its,r,p.keep fun o e=>k _ _ (.inl rfl) e⟩
  | dK kvs=>obtain ⟨z,y,vs,r,ob,es,ep,e,c⟩:=x; exact ⟨z,y,vs,r,ob,es,ep,k _ _ (.inl rfl) e,c⟩
  | dT kvs =>
    obtain ⟨z,y,xs,r,ob,es,ep,e,c⟩:=x
    exact ⟨z,y,xs,Paired.mapP r fun p q z=>⟨z.1,ht _ _ z.2.1,z.2.2⟩,ob,es,ep,k _ _ (.inl rfl) e,c⟩
  | set S n=>obtain ⟨ob,es,ep,t,e,c⟩:=x; exact ⟨ob,es,ep,t,k _ _ (.inl rfl) e,c⟩
  | ins C dx fs =>
    obtain ⟨d,z,ne,e,mA,⟨od,es,ep,e2,c⟩,r⟩:=x
    exact ⟨ho _ d,z,ne,k _ _ (.inl rfl) e,mA,⟨od,es,ep,k _ _ (.inr d) e2,c⟩,r⟩
  | own y=>obtain ⟨ob,e⟩:=x; exact ⟨ob,k _ _ (.inl rfl) e⟩
  | xd fs=>obtain ⟨mA,⟨od,es,ep,e,c⟩,r⟩:=x; exact ⟨mA,⟨od,es,ep,k _ _ (.inl rfl) e,c⟩,r⟩
  | rng lo hi=>obtain ⟨t,u,v,e⟩:=x; exact ⟨t,u,v,k _ _ (.inl rfl) e⟩
  | frz ob u ih=>obtain ⟨e,q⟩:=x; exact ⟨k _ _ (.inl rfl) e,ih q⟩
  | tbl ps =>
    have e : h.get? a = some { cls:=.none,data:=.fields ps }:=x
    show h'.get? a = some { cls:=.none,data:=.fields ps }
    exact k a _ (.inl rfl) e
  | met f y =>
    have e : h.get? a = some (PySem.W.methodObj (.ref f) (.ref y)):=x
    show h'.get? a = some (PySem.W.methodObj (.ref f) (.ref y))
    exact k a _ (.inl rfl) e
  | ext φ=>obtain ⟨p,⟨o,e⟩,st⟩:=x; exact ⟨st _ _ p fun o q=>k _ _ (.inl rfl) q,⟨o,k _ _ (.inl rfl) e⟩,st⟩
theorem HOk.lt (x : HOk P w H h) (e : H a = some o) : a < h.objs.size:=(x a o e).lt
theorem HOk.fresh (x : HOk P w H h) (e : h.objs.size ≤ a) : H a = none:=by
  cases q : H a with
  | none=>rfl
  | some u=>exact absurd (Nat.lt_of_lt_of_le (x.lt q) e) (Nat.lt_irrefl _)
theorem HOk.kept (x : HOk P w H h) (k : ∀ b u,h.get? b = some u→h'.get? b = some u) : HOk P w H h':=fun a o e =>
  (x a o e).stay (fun b u _ q=>k b u q) (fun _ q=>q) fun _ _ q=>q
theorem HOk.laid (x : HOk P w H h) (k : ∀ b u,h.get? b = some u→h'.get? b = some u) (hp : h.objs.size ≤ a) (new : ObjOk P w (upd H a o) h' a o) : HOk P w (upd H a o) h':=fun b u e=>by
  have hn:=x.fresh hp
  by_cases hb : b = a
  · subst hb; rw [upd_same] at e; cases e; exact new
  · rw [upd_ne hb] at e
    exact (x b u e).stay (fun c v _ q=>k c v q) (fun c q=>by rw [upd_ne (ne_of_none q hn)]; exact q) fun c xs q=>by rw [upd_ne (ne_of_none q hn)]; exact q
end
def Rd (H : Hp) (a : Addr) (u : HO) : Prop:=H a = some u ∨ ∃ o,H a = some (.frz o u)
theorem Rd.ok {P : Program} {w : World} {H : Hp} {h : Heap} {a : Addr} {u : HO} (r : Rd H a u) (x : HOk P w H h) : ObjOk P w H h a u:=by
  rcases r with r | ⟨o,r⟩
  · exact x a u r
  · obtain ⟨_,q⟩:=x a _ r
    exact q
def Mut : Option HO→Prop
  | some (.lst _)=>True
  | some (.dK _)=>True
  | some (.dT _)=>True
  | some (.set _ _)=>True
  | some (.ins _ _ _)=>True
  | some (.ext _)=>True
  | _=>False
section
variable {P : Program} {w : World} {H : Hp} {h h' : Heap} {x e : Addr} {o' : HO}
theorem HOk.write (ok : HOk P w H h) (mu : Mut (H x)) (he : e = x ∨ H e = some (.own x)) (k : ∀ b u,b ≠ e→h.get? b = some u→h'.get? b = some u) (heo : ∃ u,h'.get? e = some u)
    (new : ObjOk P w (upd H x o') h' x o') : HOk P w (upd H x o') h':=fun b u q=>by
  have nown : ∀ c y,H c = some (.own y)→c ≠ x:=fun c y r z=>by subst z; rw [r] at mu; exact mu
  have ntup : ∀ c xs,H c = some (.tup xs)→c ≠ x:=fun c xs r z=>by subst z; rw [r] at mu; exact mu
  by_cases hb : b = x
  · subst hb; rw [upd_same] at q; cases q; exact new
  · rw [upd_ne hb] at q
    by_cases hbe : b = e
    · have q' : H b = some (.own x):=by
        rcases he with z | z
        · exact absurd (hbe.trans z) hb
        · rw [hbe]; exact z
      rw [q] at q'; cases q'
      obtain ⟨v,hv⟩:=heo
      exact ⟨v,by rw [hbe]; exact hv⟩
    · refine (ok b u q).stay (fun c v hc r=>k c v ?_ r) (fun c r=>by rw [upd_ne (nown c b r)]; exact r) fun c xs r=>by rw [upd_ne (ntup c xs r)]; exact r
      rcases hc with rfl | hc
      · exact hbe
      · rintro rfl
        rcases he with z | z
        · exact nown c b hc z
        · rw [hc] at z; cases z; exact hb rfl
end
structure Un (fs ex : List Addr) (H H' : Hp) (h h' : Heap) : Prop where
  keep : ∀ b o,h.get? b = some o→H b = none→b ∉ fs→b ∉ ex→h'.get? b = some o
  slot : ∀ b o,h.get? b = some o→H b = none→b ∈ fs→b ∉ ex→∃ sl,h'.get? b = some { o with slots:=sl }
  free : ∀ b o,h.get? b = some o→H b = none→b ∉ ex→H' b = none
  there : ∀ b o,h.get? b = some o→b ∉ ex→∃ o',h'.get? b = some o'
  tups : ∀ b xs,H b = some (.tup xs)→H' b = some (.tup xs)
  frzs : ∀ b o u,H b = some (.frz o u)→H' b = some (.frz o u)
  tbls : ∀ b ps,H b = some (.tbl ps)→∃ more,H' b = some (.tbl (ps ++ more))
section
variable {fs fs' ex ex' : List Addr} {H H1 H2 : Hp} {h h1 h2 h' : Heap} {a x e : Addr} {o : HO}
theorem Un.any (u : Un fs ex H H1 h h1) {b : Addr} {ob : Obj} (q : h.get? b = some ob) (n : H b = none) (hx : b ∉ ex) : ∃ sl,h1.get? b = some { ob with slots:=sl }:=by
  by_cases hb : b ∈ fs
  · exact u.slot b ob q n hb hx
  · exact ⟨ob.slots,u.keep b ob q n hb hx⟩
theorem Un.kept (k : ∀ b u,h.get? b = some u→h'.get? b = some u) : Un fs ex H H h h' :=
  ⟨fun b ob q _ _ _=>k b ob q,fun b ob q _ _ _=>⟨ob.slots,k b ob q⟩,fun _ _ _ n _=>n,fun b ob q _=>⟨ob,k b ob q⟩,fun _ _ q=>q,fun _ _ _ q=>q,fun _ ps q=>⟨#[],by rw [q]; simp⟩⟩
theorem Un.refl : Un fs ex H H h h:=Un.kept fun _ _ q=>q
theorem Un.laid (k : ∀ b u,h.get? b = some u→h'.get? b = some u) (hp : h.objs.size ≤ a) (hn : H a = none) : Un fs ex H (upd H a o) h h' where
  keep:=fun b u q _ _ _=>k b u q
  slot:=fun b u q _ _ _=>⟨u.slots,k b u q⟩
  free:=fun b u q n _=>by rw [upd_ne (Nat.ne_of_lt (Nat.lt_of_lt_of_le (Heap.lt_size q) hp))]; exact n
  there:=fun b u q _=>⟨u,k b u q⟩
  tups:=fun b xs q=>by rw [upd_ne (ne_of_none q hn)]; exact q
  frzs:=fun b u xs q=>by rw [upd_ne (ne_of_none q hn)]; exact q
  tbls:=fun b ps q=>⟨#[],by rw [upd_ne (ne_of_none q hn),q]; simp⟩
theorem Un.write (mu : Mut (H x)) (he : e = x ∨ H e = some (.own x)) (k : ∀ b u,b ≠ e→h.get? b = some u→h'.get? b = some u) (heo : ∃ u,h'.get? e = some u) : Un fs ex H (upd H x o) h h':=by
  have hx : ∀ b,H b = none→b ≠ x:=fun b n z=>by subst z; rw [n] at mu; exact mu
  have hb : ∀ b,H b = none→b ≠ e:=fun b n z=>by
    subst z
    rcases he with r | r
    · exact hx b n r
    · rw [n] at r; cases r
  have hm : ∀ b u,H b = some u→¬ Mut (some u)→b ≠ x:=fun b u q nm z=>by subst z; rw [q] at mu; exact nm mu
  refine ⟨fun b u q n _ _=>k b u (hb b n) q,fun b u q n _ _=>⟨u.slots,k b u (hb b n) q⟩,fun b u q n _=>by rw [upd_ne (hx b n)]; exact n,fun b u q _=>?_,
    fun b xs q=>by rw [upd_ne (hm b _ q fun z=>z)]; exact q,fun b u xs q=>by rw [upd_ne (hm b _ q fun z=>z)]; exact q,fun b ps q=>⟨#[],by rw [upd_ne (hm b _ q fun z=>z),q]; simp⟩⟩
  by_cases hbe : b = e
  · subst hbe; exact heo
  · exact ⟨u,k b u hbe q⟩
end
def trk (h : Heap) (H : Hp) : List Addr:=(List.range h.objs.size).filter fun a=>(H a).isSome
def hidT (h : Heap) (H : Hp) : Heap:=PySem.W.hideAll h (trk h H)
theorem hidT_size (h : Heap) (H : Hp) : (hidT h H).objs.size = h.objs.size:=PySem.W.hideAll_size _ _
theorem hidT_get {h : Heap} {H : Hp} {b : Addr} {o : Obj} (e : h.get? b = some o) (n : H b = none) : (hidT h H).get? b = some o :=
  PySem.W.hideAll_get _ e fun hm=>by
    have q : (H b).isSome = true:=(List.mem_filter.mp hm).2
    rw [n] at q; simp at q
theorem of_hidT {h : Heap} {H : Hp} {b : Addr} {o : Obj} (e : (hidT h H).get? b = some o) : h.get? b = some o∧H b = none:=by
  have e' : h.get? b = some o:=PySem.W.of_hideAll (trk h H) e
  refine ⟨e',?_⟩
  cases q : H b with
  | none=>rfl
  | some x =>
    have hm : b ∈ trk h H:=List.mem_filter.mpr ⟨List.mem_range.mpr (Heap.lt_size e'),by simp [q]⟩
    have z : (hidT h H).get? b = none:=PySem.W.hideAll_none (trk h H) hm
    rw [z] at e; cases e
end L2
namespace L2
open PySem PySem.Spec PyProof.Rows
structure Mod (K : PySem.W.Frag) (mg : Str→Option Value) (base : Heap) : Prop where
  kin : K.In base
  glob : base.Ns mainGlobals mg
  blt : ∃ mb,base.Ns builtinsNs mb∧∀ x : Str,x ≠ "__name__"→mb x = bootBuiltins x
  nolimit : base.NoLimit
structure Cx where
  prog : Program
  w : World
  K : PySem.W.Frag
  mg : Str→Option Value
  base : Heap
  A : Around
  N : List Str
  s₀ : Shared
  H₀ : Hp
  env : Env
  outer : List Env
  stack : List Env
  ex : List Addr
  fn : Str→Bool
  calm : Bool
  pn : List (Addr × Obj)
  xe : Value→Shared→Prop
def frs (l : List Env) : List Addr:=l.filterMap (·.frame)
abbrev Cx.fs (X : Cx) : List Addr:=frs X.outer
def Vis (sc : Scope) (x : Str) : Prop:=sc.names.lookup x = some .local ∨ sc.names.lookup x = some .cell ∨ sc.names.lookup x = some .free
def Loc (sc : Scope) (x : Str) : Prop:=sc.names.lookup x = some .local ∨ sc.names.lookup x = some .cell
def Look (env : Env) (h : Heap) (m : Str→Option Value) (x : Str) (u : Value) : Prop :=
  (env.kindOf x = some .local∧m x = some u) ∨ ((env.kindOf x = some .cell ∨ env.kindOf x = some .free)∧∃ c,env.cells.lookup x = some c∧h.IsCell c (some u))
structure Cx.Ok (X : Cx) : Prop where
  mod : Mod X.K X.mg X.base
  kind : X.env.scope.kind = .function
  glob : X.env.globals = mainGlobals
  blt : X.env.builtins = builtinsNs
  above : X.s₀.heap.objs.size ≤ X.env.locals
  inj : ∀ x y c,X.env.cells.lookup x = some c→X.env.cells.lookup y = some c→x = y
  has : ∀ x,(X.env.kindOf x = some .cell ∨ X.env.kindOf x = some .free)→∃ c,X.env.cells.lookup x = some c
  cab : ∀ x c,X.fn x = true→X.env.cells.lookup x = some c→X.s₀.heap.objs.size ≤ c
  hd : X.calm = true→X.A.handled = none
  frames : X.A.frames = some X.stack
  stk : X.stack = X.outer ∨ (X.stack = X.env :: X.outer∧X.env.frame = some X.env.locals)
  exf : ∀ b ∈ X.ex,b ≠ X.env.locals∧∀ x c,X.env.cells.lookup x = some c→c ≠ b
  bs : ∀ b o,X.base.get? b = some o→X.s₀.heap.get? b = some o∧X.H₀ b = none
  bsz : X.base.objs.size ≤ X.s₀.heap.objs.size
  noex : ∀ b o,X.base.get? b = some o→b ∉ X.ex
  exfs : ∀ b ∈ X.ex,b ∉ X.fs
  funs : X.s₀.heap.FunFrames X.base X.outer
  frf : ∀ b ∈ X.fs,X.H₀ b = none
structure Inv (X : Cx) (pins : List (Addr × Obj)) (σ : List (Option V)) (H : Hp) (s : Shared) : Prop where
  ok : X.Ok
  os : s.os = X.s₀.os
  bare : AllBare s.gens
  base : Un X.fs X.ex X.H₀ H X.s₀.heap s.heap
  loc : ∃ m,s.heap.Ns X.env.locals m∧∀ (i : Nat) (x : Str) (v : V),X.N[i]? = some x→σ[i]? = some (some v)→Vis X.env.scope x→∃ u,RelV v u∧Look X.env s.heap m x u
  cell : ∀ x c,X.env.cells.lookup x = some c→∃ v,s.heap.IsCell c v
  free : H X.env.locals = none
  freeC : ∀ x c,X.env.cells.lookup x = some c→H c = none
  pin : ∀ p ∈ X.pn ++ pins,s.heap.get? p.1 = some p.2∧H p.1 = none∧p.1 ≠ X.env.locals∧p.1 ∉ X.fs∧∀ v,p.2.data ≠ .cell v
  hok : HOk X.prog X.w H s.heap
  len : σ.length = X.N.length
section
variable {X : Cx} {pins : List (Addr × Obj)} {σ : List (Option V)} {H H' : Hp} {s : Shared} {h' : Heap}
theorem Cx.Ok.nofr (ok : X.Ok) {b : Addr} {o : Obj} (e : X.base.get? b = some o) : b ∉ X.fs:=fun hb=>by
  have:=(ok.funs.mem hb).1
  rw [e] at this; cases this
theorem Inv.bs (I : Inv X pins σ H s) : ∀ b o,X.base.get? b = some o→s.heap.get? b = some o∧H b = none:=fun b o e =>
  ⟨I.base.keep b o (I.ok.bs b o e).1 (I.ok.bs b o e).2 (I.ok.nofr e) (I.ok.noex b o e),I.base.free b o (I.ok.bs b o e).1 (I.ok.bs b o e).2 (I.ok.noex b o e)⟩
theorem Inv.bk (I : Inv X pins σ H s) : ∀ b o,X.base.get? b = some o→s.heap.get? b = some o:=fun b o e=>(I.bs b o e).1
theorem Inv.mod (I : Inv X pins σ H s) : Mod X.K X.mg X.base:=I.ok.mod
theorem Inv.kIn (I : Inv X pins σ H s) : X.K.In s.heap:=I.ok.mod.kin.keeps I.bk
theorem Inv.fr (I : Inv X pins σ H s) : ∃ m,Fr X.base X.env.locals s.heap m :=
  let ⟨m,hn,_⟩:=I.loc
  ⟨m,hn,I.bk,Nat.le_trans I.ok.bsz I.ok.above⟩
theorem Inv.lt (I : Inv X pins σ H s) : X.env.locals < s.heap.objs.size:=let ⟨_,hn,_⟩:=I.loc; hn.lt
theorem Inv.sz (I : Inv X pins σ H s) : X.s₀.heap.objs.size ≤ s.heap.objs.size:=Nat.le_trans I.ok.above (Nat.le_of_lt I.lt)
theorem Inv.nofs (I : Inv X pins σ H s) {a : Addr} (h : s.heap.objs.size ≤ a) : a ∉ X.fs:=fun hb=>by
  obtain ⟨_,o,ho,_⟩:=I.ok.funs.mem hb
  exact absurd (Nat.lt_of_lt_of_le (Heap.lt_size ho) (Nat.le_trans I.sz h)) (Nat.lt_irrefl _)
theorem Inv.cne (I : Inv X pins σ H s) : ∀ x c,X.env.cells.lookup x = some c→c ≠ X.env.locals:=fun x c e z=>by
  obtain ⟨v,o,ho,hd⟩:=I.cell x c e
  obtain ⟨m,⟨o',es,ep,ho',hd',_⟩,_⟩:=I.loc
  rw [z,ho'] at ho; cases ho; rw [hd'] at hd; cases hd
theorem Inv.funs (I : Inv X pins σ H s) : s.heap.FunFrames X.base X.outer:=by
  have all : ∀ (l : List Env),(∀ b ∈ frs l,b ∈ X.fs)→X.s₀.heap.FunFrames X.base l→s.heap.FunFrames X.base l:=by
    intro l
    induction l with
    | nil=>intro _ _; trivial
    | cons env r ih =>
      intro hs hl
      obtain ⟨hk,⟨L,o,hf,hn,ho,hd⟩,hr⟩:=hl
      have hL : L ∈ X.fs:=hs L (by unfold frs; rw [List.filterMap_cons,hf]; exact List.mem_cons_self)
      obtain ⟨sl,e⟩:=I.base.slot L o ho (I.ok.frf L hL) hL fun z=>I.ok.exfs L z hL
      exact ⟨hk,⟨L,_,hf,hn,e,hd⟩,ih (fun b hb=>hs b (by unfold frs; rw [List.filterMap_cons,hf]; exact List.mem_cons_of_mem _ hb)) hr⟩
  exact all X.outer (fun _ hb=>hb) I.ok.funs
theorem Inv.stack (I : Inv X pins σ H s) : s.heap.FunFrames X.base X.stack:=by
  rcases I.ok.stk with e | ⟨e,hf⟩
  · rw [e]; exact I.funs
  · rw [e]
    obtain ⟨m,hn,_⟩:=I.loc
    refine .cons (by rw [I.ok.kind]; decide) hf hn ?_ I.funs
    exact Heap.get?_none_of_le (Nat.le_trans I.ok.bsz I.ok.above)
theorem Inv.stkSub (I : Inv X pins σ H s) : ∀ b ∈ frs X.stack,b ∈ X.env.locals :: X.fs:=fun b hb=>by
  rcases I.ok.stk with e | ⟨e,hf⟩
  · rw [e] at hb; exact List.mem_cons_of_mem _ hb
  · rw [e] at hb
    unfold frs at hb
    rw [List.filterMap_cons,hf] at hb
    exact hb
theorem Inv.stkFree (I : Inv X pins σ H s) : ∀ b ∈ frs X.stack,H b = none:=fun b hb=>by
  rcases List.mem_cons.mp (I.stkSub b hb) with e | hb
  · rw [e]; exact I.free
  · obtain ⟨_,o,ho,_⟩:=I.ok.funs.mem hb
    exact I.base.free b o ho (I.ok.frf b hb) fun z=>I.ok.exfs b z hb
theorem Inv.step {g' : Array GenState} {t' : Nat} {d' : Drawn} {ch : List Addr} (I : Inv X pins σ H s)
    (hch : ∀ b ∈ ch,(b ∈ X.ex ∨ X.s₀.heap.objs.size ≤ b)∧b ≠ X.env.locals∧(∀ x c,X.env.cells.lookup x = some c→c ≠ b)∧∀ p ∈ X.pn ++ pins,p.1 ≠ b)
    (keep : ∀ b o,b ≠ X.env.locals→b ∉ X.fs→b ∉ ch→s.heap.get? b = some o→H b = none→h'.get? b = some o)
    (slot : ∀ b o,b ≠ X.env.locals→b ∈ X.fs→b ∉ ch→s.heap.get? b = some o→H b = none→∃ sl,h'.get? b = some { o with slots:=sl }) (free : ∀ b o,b ∉ ch→s.heap.get? b = some o→H b = none→H' b = none)
    (there : ∀ b o,b ∉ ch→s.heap.get? b = some o→∃ o',h'.get? b = some o')
    (tups : ∀ b xs,H b = some (.tup xs)→H' b = some (.tup xs)) (frzs : ∀ b o u,H b = some (.frz o u)→H' b = some (.frz o u)) (tbls : ∀ b ps,H b = some (.tbl ps)→∃ more,H' b = some (.tbl (ps ++ more)))
    (ns : ∀ m,s.heap.Ns X.env.locals m→h'.Ns X.env.locals m) (hok : HOk X.prog X.w H' h') (hg : AllBare g') :
    Inv X pins σ H' { s with heap:=h',gens:=g',drawn:=d',toks:=t' }:=by
  have neL : ∀ b o,X.s₀.heap.get? b = some o→b ≠ X.env.locals:=fun b o e=>Nat.ne_of_lt (Nat.lt_of_lt_of_le (Heap.lt_size e) I.ok.above)
  have neC : ∀ b o,X.s₀.heap.get? b = some o→b ∉ X.ex→b ∉ ch:=fun b o e hx hb=>by
    rcases (hch b hb).1 with z | z
    · exact hx z
    · exact absurd (Nat.lt_of_lt_of_le (Heap.lt_size e) z) (Nat.lt_irrefl _)
  have cellK : ∀ x c,X.env.cells.lookup x = some c→∀ v,s.heap.IsCell c v→h'.IsCell c v:=fun x c e v ⟨o,ho,hd⟩=>by
    have nch : c ∉ ch:=fun z=>(hch c z).2.2.1 x c e rfl
    by_cases hc : c ∈ X.fs
    · obtain ⟨sl,q⟩:=slot c o (I.cne x c e) hc nch ho (I.freeC x c e)
      exact ⟨_,q,hd⟩
    · exact ⟨o,keep c o (I.cne x c e) hc nch ho (I.freeC x c e),hd⟩
  refine ⟨I.ok,I.os,hg,⟨fun b o e n hb hx=>?_,fun b o e n hb hx=>?_,fun b o e n hx=>?_,fun b o e hx=>?_,fun b xs e=>tups b xs (I.base.tups b xs e),fun b o xs e=>frzs b o xs (I.base.frzs b o xs e),fun b ps e=>?_⟩,?_,fun x c e=>?_,?_,fun x c e=>?_,fun p hp=>?_,hok,I.len⟩
  · exact keep b o (neL b o e) hb (neC b o e hx) (I.base.keep b o e n hb hx) (I.base.free b o e n hx)
  · obtain ⟨sl,e1⟩:=I.base.slot b o e n hb hx
    obtain ⟨sl',e2⟩:=slot b _ (neL b o e) hb (neC b o e hx) e1 (I.base.free b o e n hx)
    exact ⟨sl',e2⟩
  · obtain ⟨o',e1⟩:=I.base.there b o e hx
    exact free b o' (neC b o e hx) e1 (I.base.free b o e n hx)
  · obtain ⟨o',e1⟩:=I.base.there b o e hx
    exact there b o' (neC b o e hx) e1
  · obtain ⟨m1,e1⟩:=I.base.tbls b ps e
    obtain ⟨m2,e2⟩:=tbls b _ e1
    exact ⟨m1 ++ m2,by rw [e2,Array.append_assoc]⟩
  · obtain ⟨m,hn,hl⟩:=I.loc
    refine ⟨m,ns m hn,fun i x v e1 e2 e3=>?_⟩
    obtain ⟨u,r,l⟩:=hl i x v e1 e2 e3
    refine ⟨u,r,?_⟩
    rcases l with l | ⟨k,c,e,z⟩
    · exact .inl l
    · exact .inr ⟨k,c,e,cellK x c e _ z⟩
  · obtain ⟨v,z⟩:=I.cell x c e
    exact ⟨v,cellK x c e v z⟩
  · obtain ⟨m,⟨o,_,_,ho,_⟩,_⟩:=I.loc
    exact free _ o (fun z=>(hch _ z).2.1 rfl) ho I.free
  · obtain ⟨v,o,ho,hd⟩:=I.cell x c e
    exact free c o (fun z=>(hch c z).2.2.1 x c e rfl) ho (I.freeC x c e)
  · obtain ⟨e,n,ne,nf,d⟩:=I.pin p hp
    have nch : p.1 ∉ ch:=fun z=>(hch p.1 z).2.2.2 p hp rfl
    exact ⟨keep p.1 p.2 ne nf nch e n,free p.1 p.2 nch e n,ne,nf,d⟩
theorem Inv.un {t' : Nat} (I : Inv X pins σ H s) (u : Un X.fs [] H H' s.heap h') (hok : HOk X.prog X.w H' h') : Inv X pins σ H' { s with heap:=h',toks:=t' }:=by
  obtain ⟨m,⟨o,es,ep,ho,r⟩,_⟩:=id I.loc
  obtain ⟨sl,hL⟩:=u.any ho I.free (by simp)
  exact I.step (g':=s.gens) (d':=s.drawn) (ch:=[]) (fun _ z=>nomatch z) (fun b o _ hb _ e n=>u.keep b o e n hb (by simp)) (fun b o _ hb _ e n=>u.slot b o e n hb (by simp)) (fun b o _ e n=>u.free b o e n (by simp)) (fun b o _ e=>u.there b o e (by simp)) u.tups u.frzs u.tbls (fun m' hm=>by
    obtain ⟨o',es',ep',ho',r'⟩:=hm
    rw [ho] at ho'; cases ho'
    exact ⟨_,es',ep',hL,r'⟩) hok I.bare
theorem Inv.call {g' : Array GenState} {t' : Nat} {d' : Drawn} {ch : List Addr} (I : Inv X pins σ H s) (u : Un (frs X.stack) ch H H' s.heap h') (hok : HOk X.prog X.w H' h') (hg : AllBare g')
    (hch : ∀ b ∈ ch,(b ∈ X.ex ∨ X.s₀.heap.objs.size ≤ b)∧b ≠ X.env.locals∧(∀ x c,X.env.cells.lookup x = some c→c ≠ b)∧∀ p ∈ X.pn ++ pins,p.1 ≠ b) :
    Inv X pins σ H' { s with heap:=h',gens:=g',drawn:=d',toks:=t' }:=by
  obtain ⟨m,⟨o,es,ep,ho,r⟩,_⟩:=id I.loc
  obtain ⟨sl,hL⟩:=u.any ho I.free fun z=>(hch _ z).2.1 rfl
  exact I.step (ch:=ch) hch (fun b o hL hb hc e n=>u.keep b o e n (fun z=>(List.mem_cons.mp (I.stkSub b z)).elim hL hb) hc) (fun b o _ _ hc e n=>u.any e n hc) (fun b o hc e n=>u.free b o e n hc) (fun b o hc e=>u.there b o e hc) u.tups u.frzs u.tbls (fun m' hm=>by
    obtain ⟨o',es',ep',ho',r'⟩:=hm
    rw [ho] at ho'; cases ho'
    exact ⟨_,es',ep',hL,r'⟩) hok hg
theorem Inv.turned {t' : Nat} {it : Addr} (I : Inv X pins σ H s) (k : ∀ b o,b ≠ it→s.heap.get? b = some o→h'.get? b = some o) (hn : H it = none) (hL : it ≠ X.env.locals)
    (h1 : it ∈ X.ex ∨ X.s₀.heap.objs.size ≤ it) (h2 : ∀ x c,X.env.cells.lookup x = some c→c ≠ it) (h3 : ∀ p ∈ X.pn ++ pins,p.1 ≠ it) : Inv X pins σ H { s with heap:=h',toks:=t' }:=by
  have nit : ∀ b u,H b = some u→b ≠ it:=fun b u e z=>by rw [z,hn] at e; cases e
  refine I.step (g':=s.gens) (d':=s.drawn) (ch:=[it]) (fun b hb=>?_) (fun b o _ _ hc e _=>k b o (fun z=>hc (by simp [z])) e) (fun b o _ _ hc e _=>⟨o.slots,k b o (fun z=>hc (by simp [z])) e⟩) (fun _ _ _ _ n=>n)
    (fun b o hc e=>⟨o,k b o (fun z=>hc (by simp [z])) e⟩) (fun _ _ e=>e) (fun _ _ _ e=>e) (fun b ps e=>⟨#[],by rw [e]; simp⟩) (fun m hm=>?_) (fun b u e=>?_) I.bare
  · have e : b = it:=by simpa using hb
    subst e
    exact ⟨h1,hL,h2,h3⟩
  · obtain ⟨o,es,ep,ho,r⟩:=hm
    exact ⟨o,es,ep,k _ o (Ne.symm hL) ho,r⟩
  · refine (I.hok b u e).stay (fun c v hc q=>k c v ?_ q) (fun _ q=>q) fun _ _ q=>q
    rcases hc with z | z
    · rw [z]; exact nit b u e
    · exact nit c _ z
theorem Inv.tok (I : Inv X pins σ H s) (t : Nat) : Inv X pins σ H { s with toks:=t }:=I.un (h':=s.heap) (t':=t) Un.refl I.hok
theorem Inv.kept {t' : Nat} (I : Inv X pins σ H s) (k : ∀ b u,s.heap.get? b = some u→h'.get? b = some u) : Inv X pins σ H { s with heap:=h',toks:=t' }:=I.un (Un.kept k) (I.hok.kept k)
theorem Inv.laid {a : Addr} {o : HO} {t' : Nat} (I : Inv X pins σ H s) (k : ∀ b u,s.heap.get? b = some u→h'.get? b = some u) (hp : s.heap.objs.size ≤ a) (new : ObjOk X.prog X.w (upd H a o) h' a o) :
    Inv X pins σ (upd H a o) { s with heap:=h',toks:=t' }:=I.un (Un.laid k hp (I.hok.fresh hp)) (I.hok.laid k hp new)
theorem Inv.write {x e : Addr} {o : HO} {t' : Nat} (I : Inv X pins σ H s) (mu : Mut (H x)) (he : e = x ∨ H e = some (.own x)) (k : ∀ b u,b ≠ e→s.heap.get? b = some u→h'.get? b = some u) (heo : ∃ u,h'.get? e = some u)
    (new : ObjOk X.prog X.w (upd H x o) h' x o) : Inv X pins σ (upd H x o) { s with heap:=h',toks:=t' }:=I.un (Un.write mu he k heo) (I.hok.write mu he k heo new)
theorem Inv.pins_of {pins' : List (Addr × Obj)} (I : Inv X pins σ H s) (h : ∀ p ∈ pins',s.heap.get? p.1 = some p.2∧H p.1 = none∧p.1 ≠ X.env.locals∧p.1 ∉ X.fs∧∀ v,p.2.data ≠ .cell v) : Inv X pins' σ H s :=
  ⟨I.ok,I.os,I.bare,I.base,I.loc,I.cell,I.free,I.freeC,fun p hp=>(List.mem_append.mp hp).elim (fun z=>I.pin p (List.mem_append_left _ z)) (h p),I.hok,I.len⟩
theorem nodup_ix {N : List Str} (hN : N.Nodup) {i j : Nat} {x : Str} (a : N[i]? = some x) (b : N[j]? = some x) : i = j:=by
  obtain ⟨h1,e1⟩:=List.getElem?_eq_some_iff.mp a
  obtain ⟨h2,e2⟩:=List.getElem?_eq_some_iff.mp b
  exact (List.getElem_inj hN).mp (e1.trans e2.symm)
theorem store_ok2 {M : Model} {A : Around} {E : Value→Shared→Prop} {i : Nat} {x : Str} {v : V} {u : Value} {Q : Unit→Shared→Prop} (I : Inv X pins σ H s) (hN : X.N.Nodup) (hi : X.N[i]? = some x) (hx : Loc X.env.scope x) (r : RelV v u)
    (h : ∀ s',Inv X pins (σ.set i (some v)) H s'→(∃ a,Heap.SameBut a s.heap s'.heap∧(a = X.env.locals ∨ X.env.cells.lookup x = some a))→Q () s') (hf : X.fn x = true ∨ X.env.scope.names.lookup x = some .local:=by first | exact .inl rfl | exact .inr rfl | assumption) : wpAny M A (storeName X.env x u) Q E s:=by
  obtain ⟨m,hn,hl⟩:=id I.loc
  have hcls : (X.env.scope.kind == .class || (X.env.scope.kind == .module && X.env.locals != X.env.globals)) = false:=by rw [I.ok.kind]; rfl
  have hiσ : i < σ.length:=by rw [I.len]; exact (List.getElem?_eq_some_iff.mp hi).1
  have cne:=I.cne
  have tracked : ∀ {a : Addr} {h' : Heap},(∃ o,s.heap.get? a = some o∧H a = none)→Heap.SameBut a s.heap h'→HOk X.prog X.w H h':=fun {a h'} ha hs b ob e=>by
    obtain ⟨_,_,hfree⟩:=ha
    refine (I.hok b ob e).stay (fun c w' hc q=>(hs.2 c ?_).trans q) (fun _ q=>q) fun _ _ q=>q
    rintro rfl
    rcases hc with rfl | hc
    · rw [hfree] at e; cases e
    · rw [hfree] at hc; cases hc
  rcases hx with hk | hk
  · refine wpAny_storeName_local hk hn (fun h' hn' hs=>?_) hcls
    obtain ⟨oL,_,_,hoL,_⟩:=id hn
    refine h _ ⟨I.ok,I.os,I.bare,⟨fun b o e n hb hx=>?_,fun b o e n hb hx=>?_,I.base.free,fun b o e hx=>?_,I.base.tups,I.base.frzs,I.base.tbls⟩,⟨_,hn',fun j y v' e1 e2 e3=>?_⟩,fun y c e=>?_,I.free,I.freeC,fun p hp=>?_,tracked ⟨oL,hoL,I.free⟩ hs,by simpa using I.len⟩ ⟨_,hs,.inl rfl⟩
    · exact (hs.2 b (Nat.ne_of_lt (Nat.lt_of_lt_of_le (Heap.lt_size e) I.ok.above))).trans (I.base.keep b o e n hb hx)
    · obtain ⟨sl,e1⟩:=I.base.slot b o e n hb hx
      exact ⟨sl,(hs.2 b (Nat.ne_of_lt (Nat.lt_of_lt_of_le (Heap.lt_size e) I.ok.above))).trans e1⟩
    · obtain ⟨o',e1⟩:=I.base.there b o e hx
      exact ⟨o',(hs.2 b (Nat.ne_of_lt (Nat.lt_of_lt_of_le (Heap.lt_size e) I.ok.above))).trans e1⟩
    · by_cases hj : j = i
      · subst hj
        rw [hi] at e1; cases e1
        rw [List.getElem?_set_self hiσ] at e2
        cases e2
        exact ⟨u,r,.inl ⟨hk,by simp⟩⟩
      · rw [List.getElem?_set_ne (Ne.symm hj)] at e2
        obtain ⟨u',r',q⟩:=hl j y v' e1 e2 e3
        refine ⟨u',r',?_⟩
        rcases q with ⟨k,e⟩ | ⟨k,c,e,z⟩
        · refine .inl ⟨k,?_⟩
          have : y ≠ x:=fun e=>hj (nodup_ix hN e1 (e ▸ hi))
          simp [this,e]
        · exact .inr ⟨k,c,e,z.sameBut hs (cne y c e)⟩
    · obtain ⟨w',z⟩:=I.cell y c e
      exact ⟨w',z.sameBut hs (cne y c e)⟩
    · obtain ⟨e,n,ne,nf,d⟩:=I.pin p hp
      exact ⟨(hs.2 p.1 ne).trans e,n,ne,nf,d⟩
  · have hfn : X.fn x = true:=by
      rcases hf with z | z
      · exact z
      · rw [z] at hk; cases hk
    obtain ⟨c,hc⟩:=I.ok.has x (.inl hk)
    obtain ⟨w',z⟩:=I.cell x c hc
    refine wpAny_storeName_cell I.ok.kind hk hc z (fun h' hc' hs=>?_)
    obtain ⟨oc,hoc,hocd⟩:=id z
    refine h { s with heap:=h' } ⟨I.ok,I.os,I.bare,⟨fun b o e n hb hx=>?_,fun b o e n hb hx=>?_,I.base.free,fun b o e hx=>?_,I.base.tups,I.base.frzs,I.base.tbls⟩,⟨m,hn.sameBut hs (Ne.symm (cne x c hc)),fun j y v' e1 e2 e3=>?_⟩,fun y c' e=>?_,I.free,I.freeC,fun p hp=>?_,tracked ⟨oc,hoc,I.freeC x c hc⟩ hs,by simpa using I.len⟩ ⟨c,hs,.inr hc⟩
    · exact (hs.2 b (Nat.ne_of_lt (Nat.lt_of_lt_of_le (Heap.lt_size e) (I.ok.cab x c hfn hc)))).trans (I.base.keep b o e n hb hx)
    · obtain ⟨sl,e1⟩:=I.base.slot b o e n hb hx
      exact ⟨sl,(hs.2 b (Nat.ne_of_lt (Nat.lt_of_lt_of_le (Heap.lt_size e) (I.ok.cab x c hfn hc)))).trans e1⟩
    · obtain ⟨o',e1⟩:=I.base.there b o e hx
      exact ⟨o',(hs.2 b (Nat.ne_of_lt (Nat.lt_of_lt_of_le (Heap.lt_size e) (I.ok.cab x c hfn hc)))).trans e1⟩
    · by_cases hj : j = i
      · subst hj
        rw [hi] at e1; cases e1
        rw [List.getElem?_set_self hiσ] at e2
        cases e2
        exact ⟨u,r,.inr ⟨.inl hk,c,hc,hc'⟩⟩
      · rw [List.getElem?_set_ne (Ne.symm hj)] at e2
        obtain ⟨u',r',q⟩:=hl j y v' e1 e2 e3
        refine ⟨u',r',?_⟩
        rcases q with q | ⟨k,c',e,z'⟩
        · exact .inl q
        · refine .inr ⟨k,c',e,z'.sameBut hs ?_⟩
          rintro rfl
          exact hj (nodup_ix hN e1 (I.ok.inj _ _ _ e hc ▸ hi))
    · by_cases hcc : c' = c
      · subst hcc; exact ⟨_,hc'⟩
      · obtain ⟨w2,z2⟩:=I.cell y c' e
        exact ⟨w2,z2.sameBut hs hcc⟩
    · obtain ⟨e,n,ne,nf,d⟩:=I.pin p hp
      refine ⟨(hs.2 p.1 ?_).trans e,n,ne,nf,d⟩
      intro q
      rw [q,hoc] at e
      have q' : oc = p.2:=Option.some.inj e
      exact d w' (by rw [← q']; exact hocd)
theorem store_ok {M : Model} {A : Around} {E : Value→Shared→Prop} {i : Nat} {x : Str} {v : V} {u : Value} {Q : Unit→Shared→Prop} (I : Inv X pins σ H s) (hN : X.N.Nodup) (hi : X.N[i]? = some x) (hx : Loc X.env.scope x) (r : RelV v u)
    (h : ∀ s',Inv X pins (σ.set i (some v)) H s'→Q () s') (hf : X.fn x = true ∨ X.env.scope.names.lookup x = some .local:=by first | exact .inl rfl | exact .inr rfl | assumption) : wpAny M A (storeName X.env x u) Q E s :=
  store_ok2 I hN hi hx r (fun s' I' _=>h s' I') hf
theorem Inv.call' {s' : Shared} {ch : List Addr} (I : Inv X pins σ H s) (ho : s'.os = s.os) (u : Un (frs X.stack) ch H H' s.heap s'.heap) (hok : HOk X.prog X.w H' s'.heap) (hg : AllBare s'.gens)
    (hch : ∀ b ∈ ch,(b ∈ X.ex ∨ X.s₀.heap.objs.size ≤ b)∧b ≠ X.env.locals∧(∀ x c,X.env.cells.lookup x = some c→c ≠ b)∧∀ p ∈ X.pn ++ pins,p.1 ≠ b) : Inv X pins σ H' s':=by
  obtain ⟨h',g',d',t',o'⟩:=s'
  have e : o' = s.os:=ho
  subst e
  exact I.call (g':=g') (t':=t') (d':=d') u hok hg hch
end
abbrev XK:=Value→Option Addr→Hp→Prop
abbrev St:=List (Option V)
abbrev VK:=V→Hp→Prop
abbrev TE:=St→Hp→VK→Prop
abbrev TT:=St→Hp→(Bool→Hp→Prop)→Prop
abbrev TA:=St→Hp→(List V→Hp→Prop)→Prop
structure Ends where
  nx : St→Hp→Prop
  rt : VK
  bk : St→Hp→Prop:=fun _ _=>False
  ct : St→Hp→Prop:=fun _ _=>False
abbrev TS:=Ends→St→Hp→Prop
def EP (X : Cx) (pins : List (Addr × Obj)) (σ : St) (Q : VK) (u : Value) (s' : Shared) : Prop:=∃ v H',Inv X pins σ H' s'∧RelV v u∧Q v H'
def TP (X : Cx) (pins : List (Addr × Obj)) (σ : St) (Q : Bool→Hp→Prop) (b : Bool) (s' : Shared) : Prop:=∃ H',Inv X pins σ H' s'∧Q b H'
def AP (X : Cx) (pins : List (Addr × Obj)) (σ : St) (Q : List V→Hp→Prop) (us : List Value) (s' : Shared) : Prop:=∃ vs H',Inv X pins σ H' s'∧Vals vs us∧Q vs H'
def SP (X : Cx) (pins : List (Addr × Obj)) (D : Ends) (f : Flow) (s' : Shared) : Prop :=
  match f with
  | .next=>∃ σ' H',Inv X pins σ' H' s'∧D.nx σ' H'
  | .brk=>∃ σ' H',Inv X pins σ' H' s'∧D.bk σ' H'
  | .cont=>∃ σ' H',Inv X pins σ' H' s'∧D.ct σ' H'
  | .ret u=>∃ v σ' H',Inv X pins σ' H' s'∧RelV v u∧D.rt v H'
def PE (X : Cx) (e : Expr) (t : TE) : Prop :=
  ∀ (pins : List (Addr × Obj)) (s : Shared) (σ : St) (H : Hp) (Q : VK),Inv X pins σ H s→t σ H Q→wpAny (model X.prog X.w) X.A (eval e X.env) (EP X pins σ Q) X.xe s
def PT (X : Cx) (e : Expr) (t : TT) : Prop :=
  ∀ (pins : List (Addr × Obj)) (s : Shared) (σ : St) (H : Hp) (Q : Bool→Hp→Prop),Inv X pins σ H s→t σ H Q→wpAny (model X.prog X.w) X.A (isTrue e X.env (eval e X.env)) (TP X pins σ Q) X.xe s
def PW (X : Cx) (e : Expr) (t : TT) : Prop :=
  ∀ (whole : Sem Value) (pins : List (Addr × Obj)) (s : Shared) (σ : St) (H : Hp) (Q : Bool→Hp→Prop),Inv X pins σ H s→t σ H Q→wpAny (model X.prog X.w) X.A (isTrue e X.env whole) (TP X pins σ Q) X.xe s
theorem PW.pt {X : Cx} {e : Expr} {t : TT} (h : PW X e t) : PT X e t:=h _
def PA (X : Cx) (es : List Expr) (t : TA) : Prop :=
  ∀ (pos : Pos) (pins : List (Addr × Obj)) (s : Shared) (σ : St) (H : Hp) (Q : List V→Hp→Prop),Inv X pins σ H s→t σ H Q→wpAny (model X.prog X.w) X.A (spliced (backTo pos (starEach es X.env))) (AP X pins σ Q) X.xe s
def PS (X : Cx) (st : Stmt) (t : TS) : Prop :=
  ∀ (pins : List (Addr × Obj)) (s : Shared) (σ : St) (H : Hp) (D : Ends),Inv X pins σ H s→t D σ H→wpAny (model X.prog X.w) X.A (exec st X.env) (SP X pins D) X.xe s
def PSs (X : Cx) (st : List Stmt) (t : TS) : Prop :=
  ∀ (pins : List (Addr × Obj)) (s : Shared) (σ : St) (H : Hp) (D : Ends),Inv X pins σ H s→t D σ H→wpAny (model X.prog X.w) X.A (execs st X.env) (SP X pins D) X.xe s
theorem thn {α : Type} {t : Sem α} {Q Q' : α→Shared→Prop} {M : Model} {A : Around} {E : Value→Shared→Prop} {s : Shared} (h : wpAny M A t Q E s) (hQ : ∀ a s,Q a s→Q' a s) : wpAny M A t Q' E s:=wpAny_mono h hQ fun _ _ x=>x
end L2
namespace L2
open PySem PySem.Spec PyProof.Rows
section
variable {X : Cx}
def tVar (i : Nat) : TE:=fun σ H Q=>∃ v,σ[i]? = some (some v)∧Q v H
def tC (v : V) : TE:=fun _ H Q=>Q v H
theorem pe_var {i : Nat} {x : Str} {pos : Pos} (hN : X.N[i]? = some x) (hv : Vis X.env.scope x) (hd : (x == ("__debug__" : Str)) = false:=by decide) (hcd : (x == ("__classdict__" : Str)) = false:=by decide) : PE X (.Name x pos) (tVar i):=by
  intro pins s σ H Q I h
  obtain ⟨v,e,h⟩:=h
  obtain ⟨m,hn,hl⟩:=I.loc
  obtain ⟨u,r,l⟩:=hl i x v hN e hv
  have fin : EP X pins σ Q u s:=⟨v,H,I,r,h⟩
  rcases l with ⟨hk,hm⟩ | ⟨hk,c,hc,hcell⟩
  · exact wpAny_Name (wpAny_loadName_local I.ok.kind hk hn hm fin) hd
  · rcases hk with hk | hk
    · exact wpAny_Name (wpAny_loadName_cell I.ok.kind hk hc hcell fin) hd
    · exact wpAny_Name (wpAny_loadName_free I.ok.kind hk hc hcell fin hcd) hd
theorem pe_int {i j pos} : PE X (.Constant (.int i) j pos) (tC (.int i)):=fun _ _ _ H _ I h=>wpAny_Constant_int ⟨.int i,H,I.tok _,⟨_,rfl⟩,h⟩
theorem pe_bl {b j pos} : PE X (.Constant (.bool b) j pos) (tC (.bl b)):=fun _ _ _ H _ I h=>Constant_bool ⟨.bl b,H,I,rfl,h⟩
theorem pe_non {j pos} : PE X (.Constant .none j pos) (tC .non):=fun _ _ _ H _ I h=>Constant_none ⟨.non,H,I,rfl,h⟩
theorem pe_str {x j pos} : PE X (.Constant (.str x) j pos) (tC (.str x)):=fun _ _ _ H _ I h=>Calls.Constant_str ⟨.str x,H,I.tok _,⟨_,rfl⟩,h⟩
def Gl (X : Cx) (x : Str) : Prop:=X.env.kindOf x = some .globalImplicit
theorem ld_glob {E : Value→Shared→Prop} {pins : List (Addr × Obj)} {s : Shared} {σ : St} {H : Hp} {x : Str} {u : Value} {pos : Pos} {Q : Value→Shared→Prop} (I : Inv X pins σ H s) (hg : Gl X x) (hm : X.mg x = some u) (h : Q u s)
    (hd : (x == ("__debug__" : Str)) = false:=by decide) : wpAny (model X.prog X.w) X.A (eval (.Name x pos) X.env) Q E s :=
  Calls.Name_function_global I.ok.kind hg (Calls.loadGlobal_global (by rw [I.ok.glob]; exact I.mod.glob.keeps I.bk) hm h) hd
theorem ld_blt {E : Value→Shared→Prop} {pins : List (Addr × Obj)} {s : Shared} {σ : St} {H : Hp} {x : Str} {u : Value} {pos : Pos} {Q : Value→Shared→Prop} (I : Inv X pins σ H s) (hg : Gl X x) (hm : X.mg x = none) (hv : bootBuiltins x = some u) (h : Q u s)
    (hn : x ≠ "__name__":=by decide) (hd : (x == ("__debug__" : Str)) = false:=by decide) : wpAny (model X.prog X.w) X.A (eval (.Name x pos) X.env) Q E s:=by
  obtain ⟨mb,h1,h2⟩:=I.mod.blt
  exact Calls.Name_function_global I.ok.kind hg (Calls.loadGlobal_builtin (by rw [I.ok.glob]; exact I.mod.glob.keeps I.bk) hm (by rw [I.ok.blt]; exact h1.keeps I.bk) ((h2 x hn).trans hv) h) hd
theorem pe_glob {x : Str} {v : V} {u : Value} {pos : Pos} (hg : Gl X x) (hm : X.mg x = some u) (r : RelV v u) (hd : (x == ("__debug__" : Str)) = false:=by decide) : PE X (.Name x pos) (tC v) :=
  fun _ _ _ H _ I h=>ld_glob I hg hm ⟨v,H,I,r,h⟩ hd
theorem pe_bltn {x : Str} {v : V} {u : Value} {pos : Pos} (hg : Gl X x) (hm : X.mg x = none) (hv : bootBuiltins x = some u) (r : RelV v u) (hn : x ≠ "__name__":=by decide) (hd : (x == ("__debug__" : Str)) = false:=by decide) : PE X (.Name x pos) (tC v) :=
  fun _ _ _ H _ I h=>ld_blt I hg hm hv ⟨v,H,I,r,h⟩ hn hd
variable {a b : Expr} {ta tb : TE} {pos : Pos}
def PC (X : Cx) (op : CmpOp) (a b : Expr) (t : TE) : Prop :=
  ∀ (pins : List (Addr × Obj)) (s : Shared) (σ : St) (H : Hp) (Q : VK),Inv X pins σ H s→t σ H Q →
    wpAny (model X.prog X.w) X.A (eval a X.env) (fun v s₁=>wpAny (model X.prog X.w) X.A (eval b X.env) (fun u s₂=>wpAny (model X.prog X.w) X.A (compareOp op v u) (EP X pins σ Q) X.xe s₂) X.xe s₁) X.xe s
def tB (t : TE) : TT:=fun σ H Q=>t σ H fun x H1=>∃ c,x = .bl c∧Q c H1
theorem pt_cmp {op : CmpOp} {t : TE} (h : PC X op a b t) (h1 : behindInMarks op b = false:=by first | exact nobehind _ (by decide) (by decide) | rfl) : PT X (.Compare a [op] [b] pos) (tB t):=by
  intro pins s σ H Q I hw
  refine wpAny_isTrue_Compare1 (thn (h pins s σ H _ I hw) fun v s1 h1=>thn h1 fun u s2 h2=>thn h2 fun c s3 ⟨x,H1,I1,r1,q1⟩=>?_) h1
  obtain ⟨d,rfl,q⟩:=q1
  cases r1
  exact wpAny_truthy_bool ⟨H1,I1,q⟩
theorem pt_val {e : Expr} {t : TE} (h : PE X e t) (he : ∀ whole,isTrue e X.env whole = (do let v ← whole; standAt e.pos; holding [v] (truthy v)):=by intro _; rfl) : PT X e (tB t):=by
  intro pins s σ H Q I hw
  refine isTrue_plain (thn (h pins s σ H _ I hw) fun v s1 ⟨x,H1,I1,r1,q1⟩=>?_) (he _)
  obtain ⟨d,rfl,q⟩:=q1
  cases r1
  exact wpAny_truthy_bool ⟨H1,I1,q⟩
variable {tA tB' : TT} {rest : List Expr}
def tAnd (t u : TT) : TT:=fun σ H Q=>t σ H fun c H1=>if c = true then u σ H1 Q else Q false H1
def tOr (t u : TT) : TT:=fun σ H Q=>t σ H fun c H1=>if c = true then Q true H1 else u σ H1 Q
def tNot (t : TT) : TT:=fun σ H Q=>t σ H fun c H1=>Q (!c) H1
theorem pw_and1 (ha : PT X a tA) : PW X (.BoolOp .And [a] pos) tA:=by
  intro wh pins s σ H Q I h
  refine isTrue_and (thn (ha pins s σ H Q I h) fun c s1 e=>?_)
  cases c with
  | true=>exact isTrue_and_nil e
  | false=>exact e
theorem pw_or1 (ha : PT X a tA) : PW X (.BoolOp .Or [a] pos) tA:=by
  intro wh pins s σ H Q I h
  refine isTrue_or (thn (ha pins s σ H Q I h) fun c s1 e=>?_)
  cases c with
  | false=>exact isTrue_or_nil e
  | true=>exact e
theorem pw_and (ha : PT X a tA) (hb : PW X (.BoolOp .And (b :: rest) pos) tB') : PW X (.BoolOp .And (a :: b :: rest) pos) (tAnd tA tB'):=by
  intro wh pins s σ H Q I h
  refine isTrue_and (thn (ha pins s σ H _ I h) fun c s1 ⟨H1,I1,q1⟩=>?_)
  cases c with
  | true=>exact hb wh pins s1 σ H1 Q I1 q1
  | false=>exact ⟨H1,I1,q1⟩
theorem pw_or (ha : PT X a tA) (hb : PW X (.BoolOp .Or (b :: rest) pos) tB') : PW X (.BoolOp .Or (a :: b :: rest) pos) (tOr tA tB'):=by
  intro wh pins s σ H Q I h
  refine isTrue_or (thn (ha pins s σ H _ I h) fun c s1 ⟨H1,I1,q1⟩=>?_)
  cases c with
  | true=>exact ⟨H1,I1,q1⟩
  | false=>exact hb wh pins s1 σ H1 Q I1 q1
theorem pt_not (ha : PT X a tA) : PT X (.UnaryOp .Not a pos) (tNot tA):=by
  intro pins s σ H Q I h
  exact isTrue_not (ha pins s σ H (fun c H1=>Q (!c) H1) I h)
def tAndV (ta tb : TE) : TE:=fun σ H Q=>ta σ H fun x H1=>∃ c,x = .bl c∧if c = true then tb σ H1 Q else Q (.bl false) H1
def tOrV (ta tb : TE) : TE:=fun σ H Q=>ta σ H fun x H1=>∃ c,x = .bl c∧if c = true then Q (.bl true) H1 else tb σ H1 Q
def tNotV (ta : TE) : TE:=fun σ H Q=>ta σ H fun x H1=>∃ c,x = .bl c∧Q (.bl (!c)) H1
theorem pe_one {op} {t : TE} (h : PE X a t) : PE X (.BoolOp op [a] pos) t:=fun pins s σ H Q I hw=>BoolOp_one (h pins s σ H Q I hw)
theorem pe_and (ha : PE X a ta) (hb : PE X (.BoolOp .And (b :: rest) pos) tb) : PE X (.BoolOp .And (a :: b :: rest) pos) (tAndV ta tb):=by
  intro pins s σ H Q I h
  refine BoolOp_and (thn (ha pins s σ H _ I h) fun v s1 ⟨x,H1,I1,r1,q1⟩=>?_)
  obtain ⟨c,rfl,q1⟩:=q1
  cases r1
  refine wpAny_truthy_bool ?_
  cases c with
  | true=>exact hb pins s1 σ H1 Q I1 q1
  | false=>exact ⟨.bl false,H1,I1,rfl,q1⟩
theorem pe_or (ha : PE X a ta) (hb : PE X (.BoolOp .Or (b :: rest) pos) tb) : PE X (.BoolOp .Or (a :: b :: rest) pos) (tOrV ta tb):=by
  intro pins s σ H Q I h
  refine BoolOp_or (thn (ha pins s σ H _ I h) fun v s1 ⟨x,H1,I1,r1,q1⟩=>?_)
  obtain ⟨c,rfl,q1⟩:=q1
  cases r1
  refine wpAny_truthy_bool ?_
  cases c with
  | false=>exact hb pins s1 σ H1 Q I1 q1
  | true=>exact ⟨.bl true,H1,I1,rfl,q1⟩
theorem pe_not (ha : PE X a ta) : PE X (.UnaryOp .Not a pos) (tNotV ta):=by
  intro pins s σ H Q I h
  refine UnaryOp_ (thn (ha pins s σ H _ I h) fun v s1 ⟨x,H1,I1,r1,q1⟩=>?_)
  obtain ⟨c,rfl,q1⟩:=q1
  cases r1
  exact not_of (wpAny_truthy_bool ⟨.bl (!c),H1,I1,rfl,q1⟩)
def tIf (t : TT) (ta tb : TE) : TE:=fun σ H Q=>t σ H fun c H1=>if c = true then ta σ H1 Q else tb σ H1 Q
theorem pe_ifExp {c : Expr} (hc : PT X c tA) (ha : PE X a ta) (hb : PE X b tb) : PE X (.IfExp c a b pos) (tIf tA ta tb):=by
  intro pins s σ H Q I h
  refine wpAny_IfExp (thn (hc pins s σ H _ I h) fun d s1 ⟨H1,I1,q1⟩=>?_)
  cases d with
  | true=>exact ha pins s1 σ H1 Q I1 q1
  | false=>exact hb pins s1 σ H1 Q I1 q1
end
end L2
namespace L2
open PySem PySem.Spec PyProof.Rows
def SqL (K : PySem.W.Frag) (H : Hp) (a : Addr) (xs : List V) : Prop :=
  Rd H a (.lst xs) ∨
    ∃ (o : Obj) (its : Array Value) (n : Nat),K.lookup a = some o∧o.cls = .type "list"∧o.dict = none∧o.data = .seq its n∧its.size ≤ sizeLine∧Vals xs its.toList
def SqT (K : PySem.W.Frag) (H : Hp) (a : Addr) (xs : List V) : Prop :=
  Rd H a (.tup xs) ∨
    ∃ (o : Obj) (its : Array Value) (n : Nat),K.lookup a = some o∧o.cls = .type "tuple"∧o.dict = none∧o.data = .seq its n∧its.size ≤ sizeLine∧Vals xs its.toList
def absV : Value→Option V
  | .none=>some .non
  | .bool b=>some (.bl b)
  | .int i _=>some (.int i)
  | .str x _=>some (.str x)
  | .bytes b _=>some (.byt b)
  | .float b _=>some (.flt b)
  | .ref a=>some (.ref a)
  | .type n=>some (.ty n)
  | _=>none
theorem RelV.abs {x : V} {u : Value} (r : RelV x u) : absV u = some x:=by
  cases x with
  | non=>cases r; rfl
  | bl _=>cases r; rfl
  | int _=>obtain ⟨t,rfl⟩:=r; rfl
  | str _=>obtain ⟨t,rfl⟩:=r; rfl
  | byt _=>obtain ⟨t,rfl⟩:=r; rfl
  | flt _=>obtain ⟨t,rfl⟩:=r; rfl
  | ref _=>cases r; rfl
  | ty _=>cases r; rfl
theorem RelV.inj {x y : V} {u : Value} (r : RelV x u) (q : RelV y u) : x = y:=Option.some.inj (r.abs.symm.trans q.abs)
theorem Vals.inj : ∀ {xs ys : List V} {us : List Value},Vals xs us→Vals ys us→xs = ys
  | _,_,_,.nil,.nil=>rfl
  | _,_,_,.cons r t,.cons r' t'=>by rw [r.inj r',Vals.inj t t']
section
variable {X : Cx} {pins : List (Addr × Obj)} {σ : St} {H : Hp} {s : Shared} {a : Addr} {xs ys : List V}
theorem SqL.of {K : PySem.W.Frag} (h : H a = some (.lst xs)) : SqL K H a xs:=.inl (.inl h)
theorem SqT.of {K : PySem.W.Frag} (h : H a = some (.tup xs)) : SqT K H a xs:=.inl (.inl h)
theorem Inv.list (I : Inv X pins σ H s) (h : SqL X.K H a xs) : ∃ its : List Value,Vals xs its∧PlainL s.heap a its.toArray∧xs.length ≤ sizeLine:=by
  rcases h with h | ⟨o,its,n,hk,hc,hd,hs,hz,r⟩
  · obtain ⟨z,its,n,r,e⟩:=h.ok I.hok
    exact ⟨its,r,⟨_,n,e,rfl,rfl,rfl⟩,z⟩
  · refine ⟨its.toList,r,⟨o,n,I.kIn a o hk,hc,hd,by simpa using hs⟩,?_⟩
    have e:=r.length
    simp only [Array.length_toList] at e
    omega
theorem Inv.tuple (I : Inv X pins σ H s) (h : SqT X.K H a xs) : ∃ its : List Value,Vals xs its∧IsTup s.heap a its.toArray∧xs.length ≤ sizeLine:=by
  rcases h with h | ⟨o,its,n,hk,hc,hd,hs,hz,r⟩
  · obtain ⟨z,its,r,p⟩:=h.ok I.hok
    exact ⟨its,r,p.1,z⟩
  · refine ⟨its.toList,r,⟨o,I.kIn a o hk,hc,n,by simpa using hs⟩,?_⟩
    have e:=r.length
    simp only [Array.length_toList] at e
    omega
theorem Inv.list_inj (I : Inv X pins σ H s) (h : SqL X.K H a xs) (h' : SqL X.K H a ys) : xs = ys:=by
  obtain ⟨its,r,⟨o,n,e,_,_,d⟩,_⟩:=I.list h
  obtain ⟨its',r',⟨o',n',e',_,_,d'⟩,_⟩:=I.list h'
  rw [e] at e'; cases e'
  rw [d] at d'
  injection d' with d1 _
  have : its = its':=by simpa using congrArg Array.toList d1
  subst this
  exact r.inj r'
theorem Inv.tuple_inj (I : Inv X pins σ H s) (h : SqT X.K H a xs) (h' : SqT X.K H a ys) : xs = ys:=by
  obtain ⟨its,r,⟨o,e,_,n,d⟩,_⟩:=I.tuple h
  obtain ⟨its',r',⟨o',e',_,n',d'⟩,_⟩:=I.tuple h'
  rw [e] at e'; cases e'
  rw [d] at d'
  injection d' with d1 _
  have : its = its':=by simpa using congrArg Array.toList d1
  subst this
  exact r.inj r'
end
abbrev Cx.wish (X : Cx) (E : Value→Shared→Prop) : Cx:={ X with xe:=E }
abbrev Cx.nox (X : Cx) : Cx:=X.wish fun _ _=>False
theorem Cx.Ok.wish {X : Cx} (ok : X.Ok) (E : Value→Shared→Prop) : (X.wish E).Ok :=
  ⟨ok.mod,ok.kind,ok.glob,ok.blt,ok.above,ok.inj,ok.has,ok.cab,ok.hd,ok.frames,ok.stk,ok.exf,ok.bs,ok.bsz,ok.noex,ok.exfs,ok.funs,ok.frf⟩
theorem Cx.Ok.unwish {X : Cx} {E : Value→Shared→Prop} (ok : (X.wish E).Ok) : X.Ok :=
  ⟨ok.mod,ok.kind,ok.glob,ok.blt,ok.above,ok.inj,ok.has,ok.cab,ok.hd,ok.frames,ok.stk,ok.exf,ok.bs,ok.bsz,ok.noex,ok.exfs,ok.funs,ok.frf⟩
section
variable {X : Cx} {pins : List (Addr × Obj)} {σ : St} {H : Hp} {s : Shared} {E : Value→Shared→Prop}
theorem Inv.wish (I : Inv X pins σ H s) (E : Value→Shared→Prop) : Inv (X.wish E) pins σ H s:=⟨I.ok.wish E,I.os,I.bare,I.base,I.loc,I.cell,I.free,I.freeC,I.pin,I.hok,I.len⟩
theorem Inv.unwish (I : Inv (X.wish E) pins σ H s) : Inv X pins σ H s:=⟨I.ok.unwish,I.os,I.bare,I.base,I.loc,I.cell,I.free,I.freeC,I.pin,I.hok,I.len⟩
theorem SP.unwish {D : Ends} {f : Flow} {s' : Shared} (h : SP (X.wish E) pins D f s') : SP X pins D f s':=by
  cases f with
  | next=>obtain ⟨σ',H',I,q⟩:=h; exact ⟨σ',H',I.unwish,q⟩
  | brk=>obtain ⟨σ',H',I,q⟩:=h; exact ⟨σ',H',I.unwish,q⟩
  | cont=>obtain ⟨σ',H',I,q⟩:=h; exact ⟨σ',H',I.unwish,q⟩
  | ret u=>obtain ⟨v,σ',H',I,r,q⟩:=h; exact ⟨v,σ',H',I.unwish,r,q⟩
theorem PSs.nox {st : List Stmt} {t : TS} (h : PSs X.nox st t) : PSs X st t:=fun pins s σ H D I hw =>
  wpAny_mono (h pins s σ H D (I.wish _) hw) (fun _ _ q=>q.unwish) fun _ _ z=>False.elim z
end
section
variable {X : Cx} {st : Stmt} {rest : List Stmt} {t u : TS} {e : Expr} {te : TE} {pos : Pos}
def tNext : TS:=fun D σ H=>D.nx σ H
def tSeq (t u : TS) : TS:=fun D σ H=>t { D with nx:=u D } σ H
theorem pss_nil : PSs X [] tNext:=fun _ _ σ H _ I h=>wpAny_execs_nil ⟨σ,H,I,h⟩
theorem pss_cons (h1 : PS X st t) (h2 : PSs X rest u) : PSs X (st :: rest) (tSeq t u):=by
  intro pins s σ H D I h
  refine wpAny_execs_cons (thn (h1 pins s σ H { D with nx:=u D } I h) fun f s1 q=>?_)
  cases f with
  | next =>
    obtain ⟨σ',H',I',q⟩:=q
    exact h2 pins s1 σ' H' D I' q
  | ret v=>exact q
  | brk=>exact q
  | cont=>exact q
theorem pss_one (h1 : PS X st t) : PSs X [st] t:=by
  intro pins s σ H D I h
  refine wpAny_execs_cons (thn (h1 pins s σ H D I h) fun f s1 q=>?_)
  cases f with
  | next=>exact wpAny_execs_nil q
  | ret v=>exact q
  | brk=>exact q
  | cont=>exact q
theorem Inv.quiet {pins : List (Addr × Obj)} {σ : St} {H : Hp} {s : Shared} (I : Inv X pins σ H s) : interactive X.env = false:=by simp [interactive,I.ok.kind]
def tDrop (te : TE) : TS:=fun D σ H=>te σ H fun _ H1=>D.nx σ H1
theorem ps_expr (he : PE X e te) (hs : swapsWith e none pos.line X.env = pure false:=by rfl) : PS X (.Expr e pos) (tDrop te):=by
  intro pins s σ H D I h
  exact wpAny_Expr_any (thn (he pins s σ H _ I h) fun v s1 ⟨x,H1,I1,r1,q1⟩=>⟨σ,H1,I1,q1⟩) I.quiet hs
def tRet (te : TE) : TS:=fun D σ H=>te σ H D.rt
theorem ps_ret (he : PE X e te) : PS X (.Return (some e) pos) (tRet te):=by
  intro pins s σ H D I h
  exact wpAny_Return_some (thn (he pins s σ H _ I h) fun v s1 ⟨x,H1,I1,r1,q1⟩=>⟨x,σ,H1,I1,r1,q1⟩)
def tIfS (c : TT) (t u : TS) : TS:=fun D σ H=>c σ H fun b H1=>if b = true then t D σ H1 else u D σ H1
theorem ps_if {c : Expr} {a b : List Stmt} {tc : TT} (hc : PT X c tc) (ha : PSs X a t) (hb : PSs X b u) : PS X (.If c a b pos) (tIfS tc t u):=by
  intro pins s σ H D I h
  refine wpAny_If (thn (hc pins s σ H _ I h) fun d s1 ⟨H1,I1,q1⟩=>?_)
  cases d with
  | true=>exact ha pins s1 σ H1 D I1 q1
  | false=>exact hb pins s1 σ H1 D I1 q1
def tNever : TS:=fun _ _ _=>False
theorem ps_never : PS X st tNever:=fun _ _ _ _ _ _ h=>h.elim
end
abbrev TG:=V→St→Hp→(St→Hp→Prop)→Prop
abbrev TGs:=List V→St→Hp→(St→Hp→Prop)→Prop
def PG (X : Cx) (target : Expr) (t : TG) : Prop :=
  ∀ (pins : List (Addr × Obj)) (s : Shared) (σ : St) (H : Hp) (v : V) (u : Value) (Q : St→Hp→Prop),Inv X pins σ H s→RelV v u→t v σ H Q →
    wpAny (model X.prog X.w) X.A (assign target X.env u) (fun _ s'=>∃ σ' H',Inv X pins σ' H' s'∧Q σ' H') X.xe s
def PGs (X : Cx) (ts : List Expr) (t : TGs) : Prop :=
  ∀ (pins : List (Addr × Obj)) (s : Shared) (σ : St) (H : Hp) (vs : List V) (us : List Value) (Q : St→Hp→Prop),Inv X pins σ H s→Vals vs us→t vs σ H Q →
    wpAny (model X.prog X.w) X.A (assignInOrder ((assignEach ts X.env).map (·.2)) us) (fun _ s'=>∃ σ' H',Inv X pins σ' H' s'∧Q σ' H') X.xe s
abbrev TSet:=V→V→V→Hp→(Hp→Prop)→Prop
def PSet (X : Cx) (t : TSet) : Prop :=
  ∀ (pins : List (Addr × Obj)) (s : Shared) (σ : St) (H : Hp) (o i v : V) (ov iv u : Value) (Q : Hp→Prop),Inv X pins σ H s→RelV o ov→RelV i iv→RelV v u→t o i v H Q →
    wpAny (model X.prog X.w) X.A (setItem ov iv u) (fun _ s'=>∃ H',Inv X pins σ H' s'∧Q H') X.xe s
section
variable {X : Cx} {pos : Pos}
def gName (i : Nat) : TG:=fun v σ H Q=>Q (σ.set i (some v)) H
theorem pg_name {i : Nat} {x : Str} (hN : X.N.Nodup) (hi : X.N[i]? = some x) (hx : Loc X.env.scope x) (hf : X.fn x = true ∨ X.env.scope.names.lookup x = some .local:=by first | exact .inl rfl | exact .inr rfl | assumption) : PG X (.Name x pos) (gName i):=by
  intro pins s σ H v u Q I r h
  exact wpAny_assign_Name (store_ok I hN hi hx r (fun s' I'=>⟨_,H,I',h⟩) hf)
def gNil : TGs:=fun vs σ H Q=>vs = []∧Q σ H
def gCons (t : TG) (u : TGs) : TGs:=fun vs σ H Q=>∃ v r,vs = v :: r∧t v σ H fun σ' H'=>u r σ' H' Q
theorem pgs_nil : PGs X [] gNil:=by
  intro pins s σ H vs us Q I r h
  obtain ⟨e,h⟩:=h
  subst e
  cases r
  exact assignInOrder_nil ⟨σ,H,I,h⟩
theorem pgs_cons {e : Expr} {es : List Expr} {t : TG} {u : TGs} (h1 : PG X e t) (h2 : PGs X es u)
    (hs : (assignEach (e :: es) X.env).map (·.2) = assign e X.env :: (assignEach es X.env).map (·.2):=by rfl) : PGs X (e :: es) (gCons t u):=by
  intro pins s σ H vs us Q I r h
  obtain ⟨v,vr,e1,h⟩:=h
  subst e1
  cases r with
  | cons r rr =>
    rw [hs]
    refine assignInOrder_cons (thn (h1 pins s σ H _ _ _ I r h) fun _ s1 ⟨σ1,H1,I1,q1⟩=>?_)
    exact h2 pins s1 σ1 H1 _ _ Q I1 rr q1
def gTup (K : PySem.W.Frag) (n : Nat) (t : TGs) : TG:=fun v σ H Q=>∃ a xs,v = .ref a∧SqT K H a xs∧xs.length = n∧t xs σ H Q
theorem pg_tup {es : List Expr} {k : Nat} {t : TGs} {n : Nat} (hc : X.calm = true) (h : PGs X es t)
    (hn : (assignEach es X.env).length = n:=by rfl) (hst : (assignEach es X.env).findIdx? (·.1) = none:=by rfl) : PG X (.Tuple es k pos) (gTup X.K n t):=by
  intro pins s σ H v u Q I r hw
  obtain ⟨a,xs,e1,hq,hl,hw⟩:=hw
  subst e1
  cases r
  obtain ⟨its,rv,ht,hz⟩:=I.tuple hq
  refine assign_Tuple_tuple (I.ok.hd hc) ht (by simp [hn,← hl,rv.length]) hst fun h' hx=>?_
  have I1 : Inv X pins σ H { s with heap:=h' }:=I.kept (t':=s.toks) fun b o e=>hx b o (Nat.ne_of_lt (Heap.lt_size e)) e
  exact h pins _ σ H xs _ Q I1 (by simpa using rv) hw
def gSub (to ti : TE) (t : TSet) : TG:=fun v σ H Q=>to σ H fun o H1=>ti σ H1 fun i H2=>t o i v H2 fun H3=>Q σ H3
theorem pg_sub {o i : Expr} {to ti : TE} {t : TSet} (ho : PE X o to) (hi : PE X i ti) (hs : PSet X t)
    (ha : ∀ v,assign (.Subscript o i pos) X.env v = (do
      let ov ← holding [v] (eval o X.env)
      let iv ← holding [v,ov] (eval i X.env)
      standAt pos
      holding [v,ov,iv] (setItem ov iv v)
      release [v,ov,iv] []):=by intro _; rfl) : PG X (.Subscript o i pos) (gSub to ti t):=by
  intro pins s σ H v u Q I r h
  rw [ha]
  refine wpAny_bind (wpAny_holding (thn (ho pins s σ H _ I h) fun ov s1 ⟨x,H1,I1,r1,q1⟩=>?_))
  refine wpAny_bind (wpAny_holding (thn (hi pins s1 σ H1 _ I1 q1) fun iv s2 ⟨y,H2,I2,r2,q2⟩=>?_))
  refine wpAny_bind (wpAny_standAt (wpAny_bind (wpAny_holding (thn (hs pins s2 σ H2 x y v ov iv u _ I2 r1 r2 r q2) fun _ s3 ⟨H3,I3,q3⟩=>?_))))
  exact wpAny_release ⟨σ,H3,I3,q3⟩
def tAsg (te : TE) (g : TG) : TS:=fun D σ H=>te σ H fun x H1=>g x σ H1 D.nx
theorem ps_asg {tg e : Expr} {te : TE} {g : TG} (he : PE X e te) (hg : PG X tg g) (hs : swapsWithSole [tg] e pos.line X.env = pure false:=by rfl) (hw : swappedStores [tg] e X.env = pure none:=by rfl)
    (h1 : (assignEach [tg] X.env).map (·.2) = [assign tg X.env]:=by rfl) : PS X (.Assign [tg] e pos) (tAsg te g):=by
  intro pins s σ H D I h
  refine wpAny_Assign_stores (thn (he pins s σ H _ I h) fun v s1 ⟨x,H1,I1,r1,q1⟩=>?_) hs hw
  rw [h1]
  exact thn (hg pins s1 σ H1 x v _ I1 r1 q1) fun _ s2 q=>q
theorem ps_set {i : Nat} {x : Str} {e : Expr} {te : TE} {pos' : Pos} (hN : X.N.Nodup) (hi : X.N[i]? = some x) (hx : Loc X.env.scope x) (he : PE X e te) (hs : swapsWith e (some (.Name x pos')) pos.line X.env = pure false:=by rfl) (hf : X.fn x = true ∨ X.env.scope.names.lookup x = some .local:=by first | exact .inl rfl | exact .inr rfl | assumption) :
    PS X (.Assign [.Name x pos'] e pos) (tAsg te (gName i)):=by
  intro pins s σ H D I h
  refine wpAny_Assign_Name (thn (he pins s σ H _ I h) fun v s1 ⟨y,H1,I1,r1,q1⟩=>?_) hs
  exact store_ok I1 hN hi hx r1 (fun s2 I2=>⟨_,H1,I2,q1⟩) hf
end
section
variable {X : Cx} {pos : Pos}
def tWhile (c : TT) (tb : TS) : TS:=fun D σ H=>∃ W : Nat→St→Hp→Prop,(∃ m,W m σ H)∧∀ m σ H,W m σ H →
  c σ H fun b H1=>if b = true then ∃ N : St→Hp→Prop,(∀ σ' H',N σ' H'→∃ m',m' < m∧W m' σ' H')∧tb { D with nx:=N,ct:=N,bk:=D.nx } σ H1 else D.nx σ H1
theorem ps_while {c : Expr} {body : List Stmt} {tc : TT} {tb : TS} (hp : PassesOwn (model X.prog X.w) X.A X.env X.xe) (hc : PT X c tc) (hb : PSs X body tb) : PS X (.While c body [] pos) (tWhile tc tb):=by
  intro pins s σ H D I h
  obtain ⟨W,⟨m0,w0⟩,turn⟩:=h
  refine wpAny_While (codeAny_whileLoop (fun n s'=>∃ σ' H',Inv X pins σ' H' s'∧W n σ' H') ?_ m0 ⟨σ,H,I,w0⟩)
  rintro n s1 ⟨σ1,H1,I1,w1⟩
  refine wpAny_passesOwn hp (thn (hc pins s1 σ1 H1 _ I1 (turn n σ1 H1 w1)) fun b s2 ⟨H2,I2,q2⟩=>?_)
  cases b with
  | true =>
    obtain ⟨N,hN,q2⟩:=q2
    rw [if_pos rfl]
    refine wpAny_passesOwn hp (thn (hb pins s2 σ1 H2 _ I2 q2) fun f s3 q3=>?_)
    cases f with
    | next =>
      obtain ⟨σ3,H3,I3,n3⟩:=q3
      obtain ⟨m',hm,w3⟩:=hN σ3 H3 n3
      exact ⟨m',hm,σ3,H3,I3,w3⟩
    | cont =>
      obtain ⟨σ3,H3,I3,n3⟩:=q3
      obtain ⟨m',hm,w3⟩:=hN σ3 H3 n3
      exact ⟨m',hm,σ3,H3,I3,w3⟩
    | brk=>exact q3
    | ret v=>exact q3
  | false =>
    rw [if_neg Bool.false_ne_true]
    exact wpAny_execs_nil ⟨σ1,H2,I2,q2⟩
end
structure It where
  go : Nat→Hp→Prop
  yld : Nat→Hp→V→Hp→Prop
  stop : Nat→Hp→Prop
def FpOk (X : Cx) (pins : List (Addr × Obj)) (H : Hp) (b : Addr) : Prop :=
  H b = none∧b ≠ X.env.locals∧b ∉ X.fs∧(b ∈ X.ex ∨ X.s₀.heap.objs.size ≤ b)∧(∀ x c,X.env.cells.lookup x = some c→c ≠ b)∧∀ p ∈ X.pn ++ pins,p.1 ≠ b
theorem Inv.fpOk {X : Cx} {pins : List (Addr × Obj)} {σ : St} {H H' : Hp} {s : Shared} {b : Addr} (I : Inv X pins σ H s) (hb : s.heap.objs.size ≤ b) (hn : H' b = none) : FpOk X pins H' b:=by
  refine ⟨hn,Nat.ne_of_gt (Nat.lt_of_lt_of_le I.lt hb),I.nofs hb,.inr (Nat.le_trans I.sz hb),fun x c e z=>?_,fun p hp z=>?_⟩
  · obtain ⟨v,q⟩:=I.cell x c e
    exact absurd (Nat.lt_of_lt_of_le q.lt (by rw [z]; exact hb)) (Nat.lt_irrefl _)
  · exact absurd (Nat.lt_of_lt_of_le (Heap.lt_size (I.pin p hp).1) (by rw [z]; exact hb)) (Nat.lt_irrefl _)
structure Turn (P : Program) (w : World) (K : PySem.W.Frag) (tg : Expr) (J : It) (fp : List Addr) (it : Addr) (tn : Nat→Heap→Prop) : Prop where
  mem : it ∈ fp
  obj : ∀ i h,tn i h→∀ b ∈ fp,∃ o,h.get? b = some o∧∀ v,o.data ≠ .cell v
  keep : ∀ i h h',tn i h→(∀ b ∈ fp,∀ o,h.get? b = some o→h'.get? b = some o)→tn i h'
  item : ∀ (X : Cx),X.prog = P→X.w = w→X.K = K→X.calm = true→∀ (i : Nat) (pins : List (Addr × Obj)) (s : Shared) (σ : St) (H : Hp) (E : Value→Shared→Prop),Inv X pins σ H s→(∀ b ∈ fp,FpOk X pins H b)→tn i s.heap→J.go i H →
    wpAny (model P w) X.A (pyNext (.ref it)) (fun r s1=>∃ u,r = some u ∧
      wpAny (model P w) X.A (letOwnedTupleGo tg (.ref it) u) (fun _ s2=>∃ x H',Inv X pins σ H' s2∧RelV x u∧J.yld i H x H'∧tn (i + 1) s2.heap∧∀ b ∈ fp,H' b = none) E s1) E s
  done : ∀ (X : Cx),X.prog = P→X.w = w→X.K = K→X.calm = true→∀ (i : Nat) (pins : List (Addr × Obj)) (s : Shared) (σ : St) (H : Hp) (E : Value→Shared→Prop),Inv X pins σ H s→(∀ b ∈ fp,FpOk X pins H b)→tn i s.heap→J.stop i H →
    wpAny (model P w) X.A (pyNext (.ref it)) (fun r s1=>r = none∧Inv X pins σ H s1) E s
  self : ∀ (A : Around) (i : Nat) (s : Shared) (Q : Value→Shared→Prop) (E : Value→Shared→Prop),tn i s.heap→Q (.ref it) s→wpAny (model P w) A (pyIter (.ref it)) Q E s
abbrev TI:=St→Hp→(It→Hp→Prop)→Prop
def PIE (X : Cx) (pins : List (Addr × Obj)) (σ : St) (tg : Expr) (R : It→Hp→Prop) (itv : Value) (s2 : Shared) : Prop :=
  ∃ (it : Addr) (fp : List Addr) (tn : Nat→Heap→Prop) (J : It) (H' : Hp),itv = .ref it∧Inv X pins σ H' s2∧Turn X.prog X.w X.K tg J fp it tn∧tn 0 s2.heap∧(∀ b ∈ fp,FpOk X pins H' b)∧R J H'
def PI (X : Cx) (tg iter : Expr) (wi : TI) : Prop :=
  ∀ (pins : List (Addr × Obj)) (s : Shared) (σ : St) (H : Hp) (R : It→Hp→Prop),Inv X pins σ H s→wi σ H R →
    wpAny (model X.prog X.w) X.A (eval iter X.env) (fun v s1=>wpAny (model X.prog X.w) X.A (pyIter v) (PIE X pins σ tg R) X.xe s1) X.xe s
theorem go_of {M : Model} {A : Around} {E : Value→Shared→Prop} {s : Shared} {tg : Expr} {it : Addr} {u : Value} {o : Obj} {n : String} {vs : Array Value} {Q : Unit→Shared→Prop} (ho : s.heap.get? it = some o) (hc : o.cls = .type n) (hd : o.data = .fields vs)
    (hn : ["enumerate","zip","dict_itemiterator","dict_reverseitemiterator","odict_iterator","itertools.zip_longest","itertools.pairwise"].contains n = false) (hQ : Q () s) : wpAny M A (letOwnedTupleGo tg (.ref it) u) Q E s:=by
  unfold letOwnedTupleGo
  cases tg <;> first
    | exact wpAny_pure hQ
    | (cases u <;> first
        | exact wpAny_pure hQ
        | (refine wpAny_bind (wpAny_load ho ?_)
           rw [hc,hd]
           show wpAny M A (if (["enumerate","zip","dict_itemiterator","dict_reverseitemiterator","odict_iterator","itertools.zip_longest","itertools.pairwise"].contains n && vs[0]? == some (rawInt _)) = true then _ else _) Q E s
           rw [if_neg (by intro h; rw [hn,Bool.false_and] at h; cases h)]
           exact wpAny_pure hQ))
def Itl (K : PySem.W.Frag) (a : Addr) : It :=
  ⟨fun i H=>∃ xs x,SqL K H a xs∧xs[i]? = some x,fun i H x H'=>H' = H∧∀ xs,SqL K H a xs→xs[i]? = some x,fun i H=>∃ xs,SqL K H a xs∧xs.length ≤ i⟩
def Itt (K : PySem.W.Frag) (a : Addr) : It :=
  ⟨fun i H=>∃ xs x,SqT K H a xs∧xs[i]? = some x,fun i H x H'=>H' = H∧∀ xs,SqT K H a xs→xs[i]? = some x,fun i H=>∃ xs,SqT K H a xs∧xs.length ≤ i⟩
def Itr (lo : Int) (n : Nat) : It:=⟨fun i _=>i < n,fun i H x H'=>H' = H∧x = .int (lo + i),fun i _=>n ≤ i⟩
theorem turn_list {P : Program} {w : World} {K : PySem.W.Frag} {tg : Expr} (a it : Addr) : Turn P w K tg (Itl K a) [it] it (fun i h=>h.IsListIter it a i) where
  mem:=by simp
  obj:=fun i h st b hb=>by
    have e : b = it:=by simpa using hb
    subst e
    obtain ⟨o,e,c,d⟩:=st
    exact ⟨o,e,fun v z=>by rw [d] at z; cases z⟩
  keep:=fun i h h' st k=>st.at fun o e=>k it (by simp) o e
  item:=by
    intro X hP hw hK hc i pins s σ H E I hf st hg
    subst hP hw hK
    obtain ⟨xs,x,hq,hx⟩:=hg
    obtain ⟨its,rv,p,hz⟩:=I.list hq
    obtain ⟨u,hu,ru⟩:=rv.get hx
    obtain ⟨f0,f1,f2,f3,f4,f5⟩:=hf it (by simp)
    refine wpAny_pyNext_list_item st p.isList (x:=u) (by simpa using hu) fun h' st' sb=>?_
    have I1 : Inv X pins σ H { s with heap:=h' }:=I.turned (t':=s.toks) (fun b o hb e=>(sb.2 b hb).trans e) f0 f1 f3 f4 f5
    obtain ⟨o,e,c,d⟩:=id st'
    exact ⟨u,rfl,go_of (s:={ s with heap:=h' }) e c d (by decide) ⟨x,H,I1,ru,⟨rfl,fun ys hy=>by rw [I.list_inj hy hq]; exact hx⟩,st',fun b hb=>(hf b hb).1⟩⟩
  done:=by
    intro X hP hw hK hc i pins s σ H E I hf st hg
    subst hP hw hK
    obtain ⟨xs,hq,hx⟩:=hg
    obtain ⟨its,rv,p,hz⟩:=I.list hq
    obtain ⟨f0,f1,f2,f3,f4,f5⟩:=hf it (by simp)
    have hl:=rv.length
    exact wpAny_pyNext_list_end (I.ok.hd hc) st p.isList (by simp; omega) fun h' eb=>⟨rfl,I.turned (t':=s.toks) (fun b o hb e=>eb b o hb e) f0 f1 f3 f4 f5⟩
  self:=fun _ _ _ _ _ st h=>wpAny_pyIter_listiter st h
theorem turn_tuple {P : Program} {w : World} {K : PySem.W.Frag} {tg : Expr} (a it : Addr) : Turn P w K tg (Itt K a) [it] it (fun i h=>h.IsTupleIter it a i) where
  mem:=by simp
  obj:=fun i h st b hb=>by
    have e : b = it:=by simpa using hb
    subst e
    obtain ⟨o,e,c,d⟩:=st
    exact ⟨o,e,fun v z=>by rw [d] at z; cases z⟩
  keep:=fun i h h' st k=>st.at fun o e=>k it (by simp) o e
  item:=by
    intro X hP hw hK hc i pins s σ H E I hf st hg
    subst hP hw hK
    obtain ⟨xs,x,hq,hx⟩:=hg
    obtain ⟨its,rv,p,hz⟩:=I.tuple hq
    obtain ⟨u,hu,ru⟩:=rv.get hx
    obtain ⟨f0,f1,f2,f3,f4,f5⟩:=hf it (by simp)
    refine wpAny_pyNext_tuple_item st (show s.heap.IsTuple a its.toArray from p) (x:=u) (by simpa using hu) fun h' st' sb=>?_
    have I1 : Inv X pins σ H { s with heap:=h' }:=I.turned (t':=s.toks) (fun b o hb e=>(sb.2 b hb).trans e) f0 f1 f3 f4 f5
    obtain ⟨o,e,c,d⟩:=id st'
    exact ⟨u,rfl,go_of (s:={ s with heap:=h' }) e c d (by decide) ⟨x,H,I1,ru,⟨rfl,fun ys hy=>by rw [I.tuple_inj hy hq]; exact hx⟩,st',fun b hb=>(hf b hb).1⟩⟩
  done:=by
    intro X hP hw hK hc i pins s σ H E I hf st hg
    subst hP hw hK
    obtain ⟨xs,hq,hx⟩:=hg
    obtain ⟨its,rv,p,hz⟩:=I.tuple hq
    obtain ⟨f0,f1,f2,f3,f4,f5⟩:=hf it (by simp)
    have hl:=rv.length
    exact wpAny_pyNext_tuple_end (I.ok.hd hc) st (show s.heap.IsTuple a its.toArray from p) (by simp; omega) fun h' eb=>⟨rfl,I.turned (t':=s.toks) (fun b o hb e=>eb b o hb e) f0 f1 f3 f4 f5⟩
  self:=fun _ _ _ _ _ st h=>wpAny_pyIter_tupleiter st h
theorem turn_range {P : Program} {w : World} {K : PySem.W.Frag} {tg : Expr} (it : Addr) (lo : Int) (n : Nat) : Turn P w K tg (Itr lo n) [it] it (fun i h=>IsRangeIter h it (lo + (i : Nat) * 1) ((n : Int) - (i : Nat)) 1) where
  mem:=by simp
  obj:=fun i h st b hb=>by
    have e : b = it:=by simpa using hb
    subst e
    exact ⟨_,st,fun v z=>by
      have z' : Data.fields _ = Data.cell v:=z
      cases z'⟩
  keep:=fun i h h' st k=>k it (by simp) _ st
  item:=by
    intro X hP hw hK hc i pins s σ H E I hf st hg
    subst hP hw hK
    obtain ⟨f0,f1,f2,f3,f4,f5⟩:=hf it (by simp)
    have W:=Walks.range (prog:=X.prog) (w:=X.w) (I.ok.hd hc) it lo 1 n
    refine W.item i s _ _ hg st fun v h' tk hv st' kk=>?_
    obtain ⟨t,rfl⟩:=hv
    have I1 : Inv X pins σ H { s with heap:=h',toks:=tk }:=I.turned (fun b o hb e=>kk b o (by simpa using hb) e) f0 f1 f3 f4 f5
    refine ⟨_,rfl,go_of (s:={ s with heap:=h',toks:=tk }) (n:="range_iterator") st' rfl rfl (by decide) ⟨.int (lo + i),H,I1,⟨t,?_⟩,⟨rfl,rfl⟩,st',fun b hb=>(hf b hb).1⟩⟩
    rw [Int.mul_one]
  done:=by
    intro X hP hw hK hc i pins s σ H E I hf st hg
    subst hP hw hK
    obtain ⟨f0,f1,f2,f3,f4,f5⟩:=hf it (by simp)
    exact wpAny_pyNext_range_end (I.ok.hd hc) st (by have : n ≤ i:=hg; omega) fun h' eb=>⟨rfl,I.turned (t':=s.toks) (fun b o hb e=>eb b o hb e) f0 f1 f3 f4 f5⟩
  self:=fun _ _ _ _ _ st h=>wpAny_pyIter_rangeiter st h
end L2
namespace L2
open PySem PySem.Spec PyProof.Rows
section
variable {X : Cx} {tg : Expr}
def iList (K : PySem.W.Frag) (tl : TE) : TI:=fun σ H R=>tl σ H fun x H1=>∃ a,x = .ref a∧(∃ xs,SqL K H1 a xs)∧R (Itl K a) H1
def iTup (K : PySem.W.Frag) (tl : TE) : TI:=fun σ H R=>tl σ H fun x H1=>∃ a,x = .ref a∧(∃ xs,SqT K H1 a xs)∧R (Itt K a) H1
theorem pi_list {l : Expr} {tl : TE} (hl : PE X l tl) : PI X tg l (iList X.K tl):=by
  intro pins s σ H R I h
  refine thn (hl pins s σ H _ I h) fun v s1 ⟨x,H1,I1,r1,q1⟩=>?_
  obtain ⟨a,e,⟨xs,hq⟩,q⟩:=q1
  subst e
  cases r1
  obtain ⟨its,rv,p,hz⟩:=I1.list hq
  refine wpAny_pyIter_list p.isList ?_
  refine ⟨s1.heap.objs.size,[s1.heap.objs.size],_,_,H1,rfl,I1.kept (t':=s1.toks) fun b o e=>Heap.get?_push_of_some _ e,turn_list a _,⟨_,Heap.get?_push_size _ rfl,rfl,rfl⟩,fun b hb=>?_,q⟩
  have e : b = s1.heap.objs.size:=by simpa using hb
  subst e
  exact I1.fpOk (Nat.le_refl _) (I1.hok.fresh (Nat.le_refl _))
theorem pi_tup {l : Expr} {tl : TE} (hl : PE X l tl) : PI X tg l (iTup X.K tl):=by
  intro pins s σ H R I h
  refine thn (hl pins s σ H _ I h) fun v s1 ⟨x,H1,I1,r1,q1⟩=>?_
  obtain ⟨a,e,⟨xs,hq⟩,q⟩:=q1
  subst e
  cases r1
  obtain ⟨its,rv,p,hz⟩:=I1.tuple hq
  refine wpAny_pyIter_tuple (show s1.heap.IsTuple a its.toArray from p) ?_
  refine ⟨s1.heap.objs.size,[s1.heap.objs.size],_,_,H1,rfl,I1.kept (t':=s1.toks) fun b o e=>Heap.get?_push_of_some _ e,turn_tuple a _,⟨_,Heap.get?_push_size _ rfl,rfl,rfl⟩,fun b hb=>?_,q⟩
  have e : b = s1.heap.objs.size:=by simpa using hb
  subst e
  exact I1.fpOk (Nat.le_refl _) (I1.hok.fresh (Nat.le_refl _))
theorem range_it {pins : List (Addr × Obj)} {σ : St} {H : Hp} {s : Shared} {R : It→Hp→Prop} {E : Value→Shared→Prop} {lo hi : Int} {t u v : Tok} {tk : Nat} (I : Inv X pins σ H s) (h1 : -(2 ^ 62) ≤ lo) (h2 : lo < 2 ^ 62) (h3 : -(2 ^ 62) ≤ hi) (h4 : hi < 2 ^ 62)
    (q : R (Itr lo (hi - lo).toNat) H) : wpAny (model X.prog X.w) X.A (pyIter (.ref s.heap.objs.size)) (PIE X pins σ tg R) E { s with heap:=s.heap.push { cls:=.type "range",data:=.fields #[.int lo t,.int hi u,.int 1 v] },toks:=tk }:=by
  refine wpAny_pyIter_range (IsRange.new ..) (small_one h1 h2 h3 h4) ?_
  have I1 : Inv X pins σ H { s with heap:=s.heap.push { cls:=.type "range",data:=.fields #[.int lo t,.int hi u,.int 1 v] },toks:=tk }:=I.kept fun b o e=>Heap.get?_push_of_some _ e
  refine ⟨(s.heap.push { cls:=.type "range",data:=.fields #[.int lo t,.int hi u,.int 1 v] }).objs.size,[(s.heap.push { cls:=.type "range",data:=.fields #[.int lo t,.int hi u,.int 1 v] }).objs.size],_,_,H,rfl,
    I1.kept (t':=tk) fun b o e=>Heap.get?_push_of_some _ e,turn_range _ lo (hi - lo).toNat,?_,fun b hb=>?_,q⟩
  · have e1 : lo + ((0 : Nat) : Int) * 1 = lo:=by simp
    have e2 : (((hi - lo).toNat : Nat) : Int) - ((0 : Nat) : Int) = Builtin.Range.rangeSize lo hi 1:=by rw [rangeSize_one]; split <;> omega
    show IsRangeIter _ _ (lo + ((0 : Nat) : Int) * 1) ((((hi - lo).toNat : Nat) : Int) - ((0 : Nat) : Int)) 1
    rw [e1,e2]
    exact Heap.get?_push_size _ rfl
  · have e : b = (s.heap.push { cls:=.type "range",data:=.fields #[.int lo t,.int hi u,.int 1 v] }).objs.size:=by simpa using hb
    subst e
    exact I1.fpOk (Nat.le_refl _) (I1.hok.fresh (Nat.le_refl _))
def iRng1 (ta : TA) : TI:=fun σ H R=>ta σ H fun vs H1=>∃ j : Int,vs = [.int j]∧-(2 ^ 62) ≤ j∧j < 2 ^ 62∧R (Itr 0 j.toNat) H1
theorem pi_range1 {a : Expr} {ta : TA} {p pos : Pos} (hg : Gl X "range") (hm : X.mg "range" = none) (ha : PA X [a] ta) (hs : starEach [a] X.env = [(false,eval a X.env)]:=by rfl) : PI X tg (.Call (.Name "range" p) [a] [] pos) (iRng1 ta):=by
  intro pins s σ H R I h
  refine Call_ (ld_blt I hg hm boot_range (PyProof.Rows.callWith_type1 (thn (ha pos pins s σ H _ I h) fun us s1 ⟨vs,H1,I1,r1,q1⟩=>?_) hs rfl))
  obtain ⟨j,e,q1,q2,q⟩:=q1
  subst e
  cases r1 with
  | cons r rr =>
    cases rr
    obtain ⟨t,rfl⟩:=r
    exact call_range_1 (range_it I1 (by omega) (by omega) q1 q2 (by simpa using q))
def tFor (wi : TI) (g : TG) (tb : TS) : TS:=fun D σ H=>wi σ H fun J H1=>∃ W : Nat→Nat→St→Hp→Prop,(∃ m,W 0 m σ H1)∧∀ i m σ H,W i m σ H →
  (J.stop i H∧D.nx σ H) ∨ (J.go i H∧∃ N : St→Hp→Prop,(∀ σ' H',N σ' H'→∃ m',m' < m∧W (i + 1) m' σ' H')∧∀ x H',J.yld i H x H'→g x σ H' fun σ2 H2=>tb { D with nx:=N,ct:=N,bk:=D.nx } σ2 H2)
def pinsAt (fp : List Addr) (h : Heap) : List (Addr × Obj):=fp.filterMap fun b=>(h.get? b).map fun o=>(b,o)
theorem mem_pinsAt {fp : List Addr} {h : Heap} {b : Addr} {o : Obj} (hb : b ∈ fp) (e : h.get? b = some o) : (b,o) ∈ pinsAt fp h:=List.mem_filterMap.mpr ⟨b,hb,by rw [e]; rfl⟩
theorem of_pinsAt {fp : List Addr} {h : Heap} {p : Addr × Obj} (hp : p ∈ pinsAt fp h) : p.1 ∈ fp∧h.get? p.1 = some p.2:=by
  obtain ⟨b,hb,e⟩:=List.mem_filterMap.mp hp
  cases q : h.get? b with
  | none=>rw [q] at e; cases e
  | some o =>
    rw [q] at e
    have e' : (b,o) = p:=Option.some.inj e
    subst e'
    exact ⟨hb,q⟩
theorem Inv.pinned {pins : List (Addr × Obj)} {σ : St} {H : Hp} {s : Shared} {fp : List Addr} (I : Inv X pins σ H s) (hf : ∀ b ∈ fp,FpOk X pins H b) (ho : ∀ b ∈ fp,∃ o,s.heap.get? b = some o∧∀ v,o.data ≠ .cell v) : Inv X (pins ++ pinsAt fp s.heap) σ H s :=
  I.pins_of fun p hp=>(List.mem_append.mp hp).elim (fun z=>I.pin p (List.mem_append_right _ z)) fun z=>by
    obtain ⟨hb,e⟩:=of_pinsAt z
    obtain ⟨f0,f1,f2,_⟩:=hf p.1 hb
    obtain ⟨o,e',d⟩:=ho p.1 hb
    rw [e] at e'; cases e'
    exact ⟨e,f0,f1,f2,d⟩
theorem Inv.unpinned {pins pl : List (Addr × Obj)} {σ : St} {H : Hp} {s : Shared} (I : Inv X (pins ++ pl) σ H s) : Inv X pins σ H s:=I.pins_of fun p hp=>I.pin p (List.mem_append_right _ (List.mem_append_left _ hp))
theorem ps_for {iter : Expr} {body : List Stmt} {wi : TI} {g : TG} {tb : TS} {pos : Pos} (hp : PassesOwn (model X.prog X.w) X.A X.env X.xe) (hc : X.calm = true) (hi : PI X tg iter wi) (hg : PG X tg g) (hb : PSs X body tb)
    (hs : ∀ x,foldedSetIterable iter X.env x = pure x:=by intro _; rfl) : PS X (.For tg iter body [] pos) (tFor wi g tb):=by
  intro pins s σ H D I h
  refine wpAny_For (thn (hi pins s σ H _ I h) fun v s1 h1=>thn h1 fun itv s2 h2=>?_) hs
  obtain ⟨it,fp,tn,J,H2,e,I2,T,st2,f2,W,⟨m0,w0⟩,turn⟩:=h2
  subst e
  -- what stays true of the iterator's objects through the loop
  have stat : ∀ {H' : Hp},(∀ b ∈ fp,H' b = none)→∀ b ∈ fp,FpOk X pins H' b:=fun hn b hb=>⟨hn b hb,(f2 b hb).2⟩
  refine codeAny_forLoop_any (fun n s'=>∃ i σ' H',Inv X pins σ' H' s'∧tn i s'.heap∧(∀ b ∈ fp,H' b = none)∧W i n σ' H') ?_ m0 ⟨0,σ,H2,I2,st2,fun b hb=>(f2 b hb).1,w0⟩
  rintro n s3 ⟨i,σ3,H3,I3,st3,fr3,w3⟩
  rcases turn i n σ3 H3 w3 with ⟨stop,qn⟩ | ⟨go,N,hN,step⟩
  · refine wpAny_passesOwn hp (thn (T.done X rfl rfl rfl hc i pins s3 σ3 H3 X.xe I3 (stat fr3) st3 stop) fun r s4 ⟨hr,I4⟩=>?_)
    subst hr
    exact wpAny_execs_nil ⟨σ3,H3,I4,qn⟩
  · refine wpAny_passesOwn hp (thn (T.item X rfl rfl rfl hc i pins s3 σ3 H3 X.xe I3 (stat fr3) st3 go) fun r s4 ⟨u,hr,h4⟩=>?_)
    subst hr
    refine wpAny_passesOwn hp (thn h4 fun _ s5 ⟨x,H5,I5,r5,y5,st5,fr5⟩=>?_)
    have I5':=I5.pinned (stat fr5) (T.obj _ _ st5)
    refine wpAny_passesOwn hp (thn (hg _ s5 σ3 H5 x u _ I5' r5 (step x H5 y5)) fun _ s6 ⟨σ6,H6,I6,q6⟩=>?_)
    refine wpAny_passesOwn hp (thn (hb _ s6 σ6 H6 _ I6 q6) fun f s7 q7=>?_)
    have again : ∀ {σ7 : St} {H7 : Hp},Inv X (pins ++ pinsAt fp s5.heap) σ7 H7 s7→N σ7 H7→∃ m,m < n∧∃ i σ' H',Inv X pins σ' H' s7∧tn i s7.heap∧(∀ b ∈ fp,H' b = none)∧W i m σ' H':=fun {σ7 H7} I7 n7=>by
      obtain ⟨m',hm,w7⟩:=hN σ7 H7 n7
      refine ⟨m',hm,i + 1,σ7,H7,I7.unpinned,T.keep _ _ _ st5 fun b hb o e=>(I7.pin (b,o) (List.mem_append_right _ (List.mem_append_right _ (mem_pinsAt hb e)))).1,fun b hb=>?_,w7⟩
      obtain ⟨o,e,d⟩:=T.obj _ _ st5 b hb
      exact (I7.pin (b,o) (List.mem_append_right _ (List.mem_append_right _ (mem_pinsAt hb e)))).2.1
    cases f with
    | next=>obtain ⟨σ7,H7,I7,n7⟩:=q7; exact again I7 n7
    | cont=>obtain ⟨σ7,H7,I7,n7⟩:=q7; exact again I7 n7
    | brk=>obtain ⟨σ7,H7,I7,q7⟩:=q7; exact ⟨σ7,H7,I7.unpinned,q7⟩
    | ret v=>obtain ⟨x7,σ7,H7,I7,r7,q7⟩:=q7; exact ⟨x7,σ7,H7,I7.unpinned,r7,q7⟩
end
theorem for_tup {K : PySem.W.Frag} {a : Addr} {xs : List V} {g : TG} {tb : TS} {D : Ends} {σ : St} {H : Hp} (Pv : Nat→St→Hp→Prop) (h0 : Pv 0 σ H) (hl : ∀ i σ H,i ≤ xs.length→Pv i σ H→SqT K H a xs)
    (hs : ∀ i x σ H,xs[i]? = some x→Pv i σ H→g x σ H fun σ2 H2=>tb { D with nx:=Pv (i + 1),ct:=Pv (i + 1),bk:=D.nx } σ2 H2) (hd : ∀ σ H,Pv xs.length σ H→D.nx σ H) :
    ∃ W : Nat→Nat→St→Hp→Prop,(∃ m,W 0 m σ H)∧∀ i m σ H,W i m σ H →
      ((Itt K a).stop i H∧D.nx σ H) ∨ ((Itt K a).go i H∧∃ N : St→Hp→Prop,(∀ σ' H',N σ' H'→∃ m',m' < m∧W (i + 1) m' σ' H')∧∀ x H',(Itt K a).yld i H x H'→g x σ H' fun σ2 H2=>tb { D with nx:=N,ct:=N,bk:=D.nx } σ2 H2):=by
  refine ⟨fun i m σ H=>m = xs.length - i∧i ≤ xs.length∧Pv i σ H,⟨xs.length,by simp,Nat.zero_le _,h0⟩,?_⟩
  rintro i m σ H ⟨rfl,hi,p⟩
  have q:=hl i σ H hi p
  by_cases hlt : i < xs.length
  · refine .inr ⟨⟨xs,xs[i],q,by simp [hlt]⟩,Pv (i + 1),fun σ' H' p'=>⟨xs.length - (i + 1),by omega,rfl,hlt,p'⟩,fun x H' y=>?_⟩
    obtain ⟨e,y⟩:=y
    subst e
    exact hs i x σ _ (y xs q) p
  · have e : i = xs.length:=by omega
    subst e
    exact .inl ⟨⟨xs,q,Nat.le_refl _⟩,hd σ H p⟩
theorem for_range {lo : Int} {n : Nat} {g : TG} {tb : TS} {D : Ends} {σ : St} {H : Hp} (Pv : Nat→St→Hp→Prop) (h0 : Pv 0 σ H)
    (hs : ∀ i σ H,i < n→Pv i σ H→g (.int (lo + i)) σ H fun σ2 H2=>tb { D with nx:=Pv (i + 1),ct:=Pv (i + 1),bk:=D.nx } σ2 H2) (hd : ∀ σ H,Pv n σ H→D.nx σ H) :
    ∃ W : Nat→Nat→St→Hp→Prop,(∃ m,W 0 m σ H)∧∀ i m σ H,W i m σ H →
      ((Itr lo n).stop i H∧D.nx σ H) ∨ ((Itr lo n).go i H∧∃ N : St→Hp→Prop,(∀ σ' H',N σ' H'→∃ m',m' < m∧W (i + 1) m' σ' H')∧∀ x H',(Itr lo n).yld i H x H'→g x σ H' fun σ2 H2=>tb { D with nx:=N,ct:=N,bk:=D.nx } σ2 H2):=by
  refine ⟨fun i m σ H=>m = n - i∧i ≤ n∧Pv i σ H,⟨n,by simp,Nat.zero_le _,h0⟩,?_⟩
  rintro i m σ H ⟨rfl,hi,p⟩
  by_cases hlt : i < n
  · refine .inr ⟨hlt,Pv (i + 1),fun σ' H' p'=>⟨n - (i + 1),by omega,rfl,hlt,p'⟩,fun x H' y=>?_⟩
    obtain ⟨e,y⟩:=y
    subst e y
    exact hs i σ _ hlt p
  · have e : i = n:=by omega
    subst e
    exact .inl ⟨Nat.le_refl _,hd σ H p⟩
end L2
namespace L2
open PySem PySem.Spec PyProof.Rows
abbrev R2:=V→V→Hp→VK→Prop
def OpR (X : Cx) (f : Value→Value→Sem Value) (r : R2) : Prop :=
  ∀ (pins : List (Addr × Obj)) (s : Shared) (σ : St) (H : Hp) (x y : V) (v u : Value) (Q : VK),Inv X pins σ H s→RelV x v→RelV y u→r x y H Q →
    wpAny (model X.prog X.w) X.A (f v u) (EP X pins σ Q) X.xe s
def CallR (X : Cx) (f : Value) (r : List V→Hp→VK→Prop) : Prop :=
  ∀ (pins : List (Addr × Obj)) (s : Shared) (σ : St) (H : Hp) (xs : List V) (us : List Value) (Q : VK),Inv X pins σ H s→Vals xs us→r xs H Q →
    wpAny (model X.prog X.w) X.A (call f us) (EP X pins σ Q) X.xe s
def TruR (X : Cx) (r : V→Hp→(Bool→Hp→Prop)→Prop) : Prop :=
  ∀ (pins : List (Addr × Obj)) (s : Shared) (σ : St) (H : Hp) (x : V) (v : Value) (Q : Bool→Hp→Prop),Inv X pins σ H s→RelV x v→r x H Q →
    wpAny (model X.prog X.w) X.A (truthy v) (TP X pins σ Q) X.xe s
def tOp (r : R2) (ta tb : TE) : TE:=fun σ H Q=>ta σ H fun x H1=>tb σ H1 fun y H2=>r x y H2 Q
def rI (C : Int→Int→Prop) (g : Int→Int→V) : R2:=fun x y H Q=>∃ i j,x = .int i∧y = .int j∧C i j∧Q (g i j) H
def rI0 (g : Int→Int→V) : R2:=fun x y H Q=>∃ i j,x = .int i∧y = .int j∧Q (g i j) H
section
variable {X : Cx} {a b c : Expr} {ta tb tc : TE} {pos : Pos}
theorem binT (ha : PE X a ta) (hb : PE X b tb) {pins : List (Addr × Obj)} {s : Shared} {σ : St} {H : Hp} {R : V→V→Hp→Prop} (I : Inv X pins σ H s)
    (h : ta σ H fun x H1=>tb σ H1 fun y H2=>R x y H2) {Q : Value→Shared→Prop} {f : Value→Value→Sem Value}
    (hf : ∀ v u s2 x y H2,Inv X pins σ H2 s2→RelV x v→RelV y u→R x y H2→wpAny (model X.prog X.w) X.A (f v u) Q X.xe s2) :
    wpAny (model X.prog X.w) X.A (eval a X.env) (fun v s₁=>wpAny (model X.prog X.w) X.A (eval b X.env) (fun u s₂=>wpAny (model X.prog X.w) X.A (f v u) Q X.xe s₂) X.xe s₁) X.xe s:=by
  refine thn (ha pins s σ H _ I h) fun v s1 ⟨x,H1,I1,r1,q1⟩=>?_
  refine thn (hb pins s1 σ H1 _ I1 q1) fun u s2 ⟨y,H2,I2,r2,q2⟩=>?_
  exact hf v u s2 x y H2 I2 r1 r2 q2
theorem pe_op {op : Operator} {r : R2} (ho : OpR X (binaryOp op) r) (ha : PE X a ta) (hb : PE X b tb) : PE X (.BinOp a op b pos) (tOp r ta tb):=by
  intro pins s σ H Q I h
  exact wpAny_BinOp (binT ha hb I h fun v u s2 x y H2 I2 rx ry q=>ho pins s2 σ H2 x y v u Q I2 rx ry q)
theorem opI {f : Value→Value→Sem Value} {C : Int→Int→Prop} {g : Int→Int→Int}
    (rule : ∀ (i j : Int) (t u : Tok) (s : Shared) (Q : Value→Shared→Prop) (E : Value→Shared→Prop),C i j→Q (.int (g i j) s.toks) { s with toks:=s.toks + 1 }→wpAny (model X.prog X.w) X.A (f (.int i t) (.int j u)) Q E s) :
    OpR X f (rI C fun i j=>.int (g i j)):=by
  intro pins s σ H x y v u Q I rx ry h
  obtain ⟨i,j,rfl,rfl,hc,q⟩:=h
  obtain ⟨t,rfl⟩:=rx
  obtain ⟨t',rfl⟩:=ry
  exact rule i j t t' s _ _ hc ⟨.int (g i j),H,I.tok _,⟨_,rfl⟩,q⟩
theorem opI0 {f : Value→Value→Sem Value} {g : Int→Int→Int}
    (rule : ∀ (i j : Int) (t u : Tok) (s : Shared) (Q : Value→Shared→Prop) (E : Value→Shared→Prop),Q (.int (g i j) s.toks) { s with toks:=s.toks + 1 }→wpAny (model X.prog X.w) X.A (f (.int i t) (.int j u)) Q E s) :
    OpR X f (rI0 fun i j=>.int (g i j)):=by
  intro pins s σ H x y v u Q I rx ry h
  obtain ⟨i,j,rfl,rfl,q⟩:=h
  obtain ⟨t,rfl⟩:=rx
  obtain ⟨t',rfl⟩:=ry
  exact rule i j t t' s _ _ ⟨.int (g i j),H,I.tok _,⟨_,rfl⟩,q⟩
theorem opB0 {f : Value→Value→Sem Value} {g : Int→Int→Bool}
    (rule : ∀ (i j : Int) (t u : Tok) (s : Shared) (Q : Value→Shared→Prop) (E : Value→Shared→Prop),Q (.bool (g i j)) s→wpAny (model X.prog X.w) X.A (f (.int i t) (.int j u)) Q E s) :
    OpR X f (rI0 fun i j=>.bl (g i j)):=by
  intro pins s σ H x y v u Q I rx ry h
  obtain ⟨i,j,rfl,rfl,q⟩:=h
  obtain ⟨t,rfl⟩:=rx
  obtain ⟨t',rfl⟩:=ry
  exact rule i j t t' s _ _ ⟨.bl (g i j),H,I,rfl,q⟩
def CDiv (i j : Int) : Prop:=0 < j∧j < 1073741824
def CPow (i j : Int) : Prop:=0 ≤ j∧j ≤ 1000000∧i.natAbs < 2 ^ 64
def CMul (i j : Int) : Prop:=(-(2 ^ 64) < i∧i < 2 ^ 64) ∨ (-(2 ^ 64) < j∧j < 2 ^ 64)
theorem CMul.ok {i j : Int} (h : CMul i j) : IntMulOk i j:=by
  rcases h with ⟨h1,h2⟩ | ⟨h1,h2⟩
  · exact .of_left (intBits_le_64 h1 h2)
  · exact .of_right (intBits_le_64 h1 h2)
theorem op_add : OpR X (binaryOp .Add) (rI0 fun i j=>.int (i + j)):=opI0 fun _ _ _ _ _ _ _ q=>add_int q
theorem op_sub : OpR X (binaryOp .Sub) (rI0 fun i j=>.int (i - j)):=opI0 fun _ _ _ _ _ _ _ q=>sub_int q
theorem op_mul : OpR X (binaryOp .Mult) (rI CMul fun i j=>.int (i * j)):=opI fun _ _ _ _ _ _ _ hc q=>mul_int q hc.ok
theorem op_fdiv : OpR X (binaryOp .FloorDiv) (rI CDiv fun i j=>.int (i / j)):=opI fun i j _ _ _ _ _ hc q=>by
  have h1 : (0 : Int) < j:=hc.1
  have h2 : j < 1073741824:=hc.2
  exact floordiv_int (by omega) (by rw [Int.fdiv_eq_ediv_of_nonneg i (by omega)]; exact q) (.inl (PyProof.noPylong_small (by omega)))
theorem op_mod : OpR X (binaryOp .Mod) (rI (fun _ j=>0 < j) fun i j=>.int (i % j)):=opI fun i j _ _ _ _ _ hc q=>by
  have h1 : (0 : Int) < j:=hc
  exact mod_int' (by omega) (by rw [Int.fmod_eq_emod_of_nonneg i (by omega)]; exact q)
theorem op_pow : OpR X (binaryOp .Pow) (rI CPow fun i j=>.int (i ^ j.toNat)):=opI fun _ _ _ _ _ _ _ hc q=>pow_int_small hc.1 hc.2.1 hc.2.2 q
end
def scal : V→V→Bool
  | .non,.non=>true | .non,.int _=>true | .int _,.non=>true | .non,.bl _=>true | .bl _,.non=>true | .non,.str _=>true | .str _,.non=>true
  | .int _,.int _=>true | .bl _,.bl _=>true | .str _,.str _=>true | .byt _,.byt _=>true
  | .int _,.str _=>true | .str _,.int _=>true | .bl _,.str _=>true | .str _,.bl _=>true
  | _,_=>false
def rEq : R2:=fun x y H Q=>scal x y = true∧Q (.bl (decide (x = y))) H
def rNe : R2:=fun x y H Q=>scal x y = true∧Q (.bl (!decide (x = y))) H
theorem dec_int {i j : Int} : decide (V.int i = V.int j) = (i == j):=by
  rw [Bool.eq_iff_iff]
  simp
theorem dec_bl {i j : Bool} : decide (V.bl i = V.bl j) = (i == j):=by
  rw [Bool.eq_iff_iff]
  simp
theorem dec_str {i j : Str} : decide (V.str i = V.str j) = (i == j):=by
  rw [Bool.eq_iff_iff]
  simp
theorem dec_byt {i j : Array UInt8} : decide (V.byt i = V.byt j) = (i.toList == j.toList):=by
  rw [Bool.eq_iff_iff]
  cases i
  cases j
  simp
section
variable {X : Cx} {a b c : Expr} {ta tb tc : TE} {pos : Pos}
theorem fin_bl {pins : List (Addr × Obj)} {σ : St} {H : Hp} {s : Shared} {Q : VK} {k k' : Bool} (I : Inv X pins σ H s) (q : Q (.bl k) H) (e : k = k') : EP X pins σ Q (.bool k') s:=by
  subst e
  exact ⟨.bl k,H,I,rfl,q⟩
theorem op_eq : OpR X (compareOp .Eq) rEq:=by
  intro pins s σ H x y v u Q I rx ry h
  obtain ⟨hs,q⟩:=h
  cases x with
  | non =>
    cases rx
    cases y with
    | non=>cases ry; exact PySem.EqNone.eq_none_none (fin_bl I q (by simp))
    | bl j=>cases ry; exact PySem.EqNone.eq_none_bool (fin_bl I q (by simp))
    | int j=>obtain ⟨t',rfl⟩:=ry; exact PySem.EqNone.eq_none_int (fin_bl I q (by simp))
    | str j=>obtain ⟨t',rfl⟩:=ry; exact PySem.EqNone.eq_none_str (fin_bl I q (by simp))
    | _=>exact absurd (show false = true from hs) Bool.false_ne_true
  | bl i =>
    cases rx
    cases y with
    | non=>cases ry; exact PySem.EqNone.eq_bool_none (fin_bl I q (by simp))
    | bl j=>cases ry; exact eq_bool (fin_bl I q dec_bl)
    | str j=>obtain ⟨t',rfl⟩:=ry; exact PySem.EqMixed.eq_bool_str (fin_bl I q (by simp))
    | _=>exact absurd (show false = true from hs) Bool.false_ne_true
  | int i =>
    obtain ⟨t,rfl⟩:=rx
    cases y with
    | non=>cases ry; exact PySem.EqNone.eq_int_none (fin_bl I q (by simp))
    | int j=>obtain ⟨t',rfl⟩:=ry; exact eq_int (fin_bl I q dec_int)
    | str j=>obtain ⟨t',rfl⟩:=ry; exact PySem.EqMixed.eq_int_str (fin_bl I q (by simp))
    | _=>exact absurd (show false = true from hs) Bool.false_ne_true
  | str i =>
    obtain ⟨t,rfl⟩:=rx
    cases y with
    | non=>cases ry; exact PySem.EqNone.eq_str_none (fin_bl I q (by simp))
    | bl j=>cases ry; exact PySem.EqMixed.eq_str_bool (fin_bl I q (by simp))
    | int j=>obtain ⟨t',rfl⟩:=ry; exact PySem.EqMixed.eq_str_int (fin_bl I q (by simp))
    | str j=>obtain ⟨t',rfl⟩:=ry; exact eq_str (fin_bl I q dec_str)
    | _=>exact absurd (show false = true from hs) Bool.false_ne_true
  | byt i =>
    obtain ⟨t,rfl⟩:=rx
    cases y with
    | byt j=>obtain ⟨t',rfl⟩:=ry; exact PySem.W.eq_bytes (fin_bl I q dec_byt)
    | _=>exact absurd (show false = true from hs) Bool.false_ne_true
  | _=>cases y <;> exact absurd (show false = true from hs) Bool.false_ne_true
theorem op_ne : OpR X (compareOp .NotEq) rNe:=by
  intro pins s σ H x y v u Q I rx ry h
  obtain ⟨hs,q⟩:=h
  cases x with
  | non =>
    cases rx
    cases y with
    | non=>cases ry; exact PySem.EqNone.ne_none_none (fin_bl I q (by simp))
    | bl j=>cases ry; exact PySem.EqNone.ne_none_bool (fin_bl I q (by simp))
    | int j=>obtain ⟨t',rfl⟩:=ry; exact PySem.EqNone.ne_none_int (fin_bl I q (by simp))
    | str j=>obtain ⟨t',rfl⟩:=ry; exact PySem.EqNone.ne_none_str (fin_bl I q (by simp))
    | _=>exact absurd (show false = true from hs) Bool.false_ne_true
  | bl i =>
    cases rx
    cases y with
    | non=>cases ry; exact PySem.EqNone.ne_bool_none (fin_bl I q (by simp))
    | bl j=>cases ry; exact ne_bool (fin_bl I q (congrArg not dec_bl))
    | str j=>obtain ⟨t',rfl⟩:=ry; exact PySem.EqMixed.ne_bool_str (fin_bl I q (by simp))
    | _=>exact absurd (show false = true from hs) Bool.false_ne_true
  | int i =>
    obtain ⟨t,rfl⟩:=rx
    cases y with
    | non=>cases ry; exact PySem.EqNone.ne_int_none (fin_bl I q (by simp))
    | int j=>obtain ⟨t',rfl⟩:=ry; exact ne_int (fin_bl I q (congrArg not dec_int))
    | str j=>obtain ⟨t',rfl⟩:=ry; exact PySem.EqMixed.ne_int_str (fin_bl I q (by simp))
    | _=>exact absurd (show false = true from hs) Bool.false_ne_true
  | str i =>
    obtain ⟨t,rfl⟩:=rx
    cases y with
    | non=>cases ry; exact PySem.EqNone.ne_str_none (fin_bl I q (by simp))
    | bl j=>cases ry; exact PySem.EqMixed.ne_str_bool (fin_bl I q (by simp))
    | int j=>obtain ⟨t',rfl⟩:=ry; exact PySem.EqMixed.ne_str_int (fin_bl I q (by simp))
    | str j=>obtain ⟨t',rfl⟩:=ry; exact ne_str (fin_bl I q (congrArg not dec_str))
    | _=>exact absurd (show false = true from hs) Bool.false_ne_true
  | byt i =>
    obtain ⟨t,rfl⟩:=rx
    cases y with
    | byt j=>obtain ⟨t',rfl⟩:=ry; exact PySem.W.ne_bytes (fin_bl I q (congrArg not dec_byt))
    | _=>exact absurd (show false = true from hs) Bool.false_ne_true
  | _=>cases y <;> exact absurd (show false = true from hs) Bool.false_ne_true
theorem op_le : OpR X (compareOp .LtE) (rI0 fun i j=>.bl (decide (i ≤ j))):=opB0 fun _ _ _ _ _ _ _ q=>le_int q
theorem op_gt : OpR X (compareOp .Gt) (rI0 fun i j=>.bl (decide (j < i))):=opB0 fun _ _ _ _ _ _ _ q=>gt_int q
theorem op_in_str : OpR X (compareOp .In) (fun x y H Q=>∃ i j,x = .str i∧y = .str j∧Q (.bl (!(Builtin.Str.occurrences j i 0 j.length 1).isEmpty)) H):=by
  intro pins s σ H x y v u Q I rx ry h
  obtain ⟨i,j,rfl,rfl,q⟩:=h
  obtain ⟨t,rfl⟩:=rx
  obtain ⟨t',rfl⟩:=ry
  exact in_str (fin_bl I q rfl)
theorem op_isN : OpR X (compareOp .Is) (fun x y H Q=>y = .non∧Q (.bl (decide (x = .non))) H):=by
  intro pins s σ H x y v u Q I rx ry h
  obtain ⟨rfl,q⟩:=h
  cases ry
  refine is_none_gen (fin_bl I q ?_)
  cases x <;> first
    | (cases rx; rfl)
    | (obtain ⟨t,rfl⟩:=rx; rfl)
theorem OpR.or {f : Value→Value→Sem Value} {r r' : R2} (h : OpR X f r) (h' : OpR X f r') : OpR X f (fun x y H Q=>r x y H Q ∨ r' x y H Q):=by
  intro pins s σ H x y v u Q I rx ry q
  rcases q with q | q
  · exact h pins s σ H x y v u Q I rx ry q
  · exact h' pins s σ H x y v u Q I rx ry q
theorem nomark (b : Expr) {op : CmpOp} (h : op ≠ .In:=by decide) (h2 : op ≠ .NotIn:=by decide) : behindInMarks op b = false:=by
  have e1 : (op == CmpOp.In) = false:=by cases op <;> first | rfl | exact absurd rfl h
  have e2 : (op == CmpOp.NotIn) = false:=by cases op <;> first | rfl | exact absurd rfl h2
  cases b <;> simp [behindInMarks,e1,e2]
theorem pe_cmpR {op : CmpOp} {r : R2} (ho : OpR X (compareOp op) r) (ha : PE X a ta) (hb : PE X b tb) (hm : behindInMarks op b = false) : PE X (.Compare a [op] [b] pos) (tOp r ta tb):=by
  intro pins s σ H Q I h
  exact wpAny_Compare1 (binT ha hb I h fun v u s2 x y H2 I2 rx ry q=>ho pins s2 σ H2 x y v u Q I2 rx ry q) hm
def tTest (t : TE) : TT:=fun σ H Q=>t σ H fun x H'=>∃ k,x = .bl k∧Q k H'
theorem pt_cmpR {op : CmpOp} {r : R2} (ho : OpR X (compareOp op) r) (ha : PE X a ta) (hb : PE X b tb) (hm : behindInMarks op b = false) : PT X (.Compare a [op] [b] pos) (tTest (tOp r ta tb)):=by
  intro pins s σ H Q I h
  refine wpAny_isTrue_Compare1 (thn (ha pins s σ H _ I h) fun v s1 ⟨x,H1,I1,r1,q1⟩=>thn (hb pins s1 σ H1 _ I1 q1) fun u s2 ⟨y,H2,I2,r2,q2⟩ =>
    thn (ho pins s2 σ H2 x y v u _ I2 r1 r2 q2) fun c s3 ⟨z,H3,I3,r3,k,e,q3⟩=>?_) hm
  subst e
  cases r3
  exact wpAny_truthy_bool ⟨H3,I3,q3⟩
def tChain (r r' : R2) (ta tb tc : TE) : TE:=fun σ H Q=>ta σ H fun x H1=>tb σ H1 fun y H2=>r x y H2 fun z H3=>∃ k,z = .bl k ∧
  (if k = true then tc σ H3 fun w' H4=>r' y w' H4 Q else Q (.bl false) H3)
theorem pe_chain {op op' : CmpOp} {r r' : R2} (ho : OpR X (compareOp op) r) (ho' : OpR X (compareOp op') r') (ha : PE X a ta) (hb : PE X b tb) (hc : PE X c tc)
    (hm : lastMarks [op,op'] [b,c] = false:=by with_unfolding_all rfl) : PE X (.Compare a [op,op'] [b,c] pos) (tChain r r' ta tb tc):=by
  intro pins s σ H Q I h
  refine Compare_chain (thn (ha pins s σ H _ I h) fun v s1 ⟨x,H1,I1,r1,q1⟩=>chain_link (thn (hb pins s1 σ H1 _ I1 q1) fun u s2 ⟨y,H2,I2,r2,q2⟩ =>
    thn (ho pins s2 σ H2 x y v u _ I2 r1 r2 q2) fun d s3 ⟨z,H3,I3,r3,k,e,q3⟩=>?_)) hm
  subst e
  cases r3
  refine wpAny_truthy_bool ?_
  cases k with
  | false=>exact ite_ff ⟨.bl false,H3,I3,rfl,q3⟩
  | true=>exact ite_tt (chain_last (thn (hc pins s3 σ H3 _ I3 q3) fun w' s4 ⟨z',H4,I4,r4,q4⟩=>ho' pins s4 σ H4 y z' u w' Q I4 r2 r4 q4))
theorem pt_chain {op op' : CmpOp} {r r' : R2} (ho : OpR X (compareOp op) r) (ho' : OpR X (compareOp op') r') (ha : PE X a ta) (hb : PE X b tb) (hc : PE X c tc)
    (hm : lastMarks [op,op'] [b,c] = false:=by with_unfolding_all rfl) : PT X (.Compare a [op,op'] [b,c] pos) (tTest (tChain r r' ta tb tc)):=by
  intro pins s σ H Q I h
  refine isTrue_chain (thn (ha pins s σ H _ I h) fun v s1 ⟨x,H1,I1,r1,q1⟩=>test_link (thn (hb pins s1 σ H1 _ I1 q1) fun u s2 ⟨y,H2,I2,r2,q2⟩ =>
    thn (ho pins s2 σ H2 x y v u _ I2 r1 r2 q2) fun d s3 ⟨z,H3,I3,r3,k,e,q3⟩=>?_)) hm
  subst e
  cases r3
  refine wpAny_truthy_bool ?_
  cases k with
  | false =>
    obtain ⟨k',e',q'⟩:=q3
    cases e'
    exact ite_ff ⟨H3,I3,q'⟩
  | true =>
    refine ite_tt (test_last (thn (hc pins s3 σ H3 _ I3 q3) fun w' s4 ⟨z',H4,I4,r4,q4⟩=>thn (ho' pins s4 σ H4 y z' u w' _ I4 r2 r4 q4) fun d' s5 ⟨z2,H5,I5,r5,k2,e2,q5⟩=>?_))
    subst e2
    cases r5
    exact wpAny_truthy_bool ⟨H5,I5,q5⟩
def TruV (K : PySem.W.Frag) (x : V) (H : Hp) (k : Bool) : Prop :=
  match x with
  | .non=>k = false
  | .bl b=>k = b
  | .int i=>k = (i != 0)
  | .str y=>y.length ≤ sizeLine∧k = ((y.length : Int) != 0)
  | .byt y=>y.size ≤ sizeLine∧k = ((y.size : Int) != 0)
  | .ref p=>(∃ xs,SqL K H p xs∧k = !xs.isEmpty) ∨ (∃ xs,SqT K H p xs∧k = !xs.isEmpty) ∨ ∃ kvs,H p = some (.dK kvs)∧k = !kvs.isEmpty
  | _=>False
theorem isEmpty_kv {κ : Type} {kvs : List (κ × V)} {vs : List (κ × Value)} (r : KV kvs vs) : (!vs.isEmpty) = !kvs.isEmpty:=by
  cases r <;> rfl
theorem isEmpty_of {xs : List V} {its : List Value} (r : Vals xs its) : (!its.toArray.isEmpty) = !xs.isEmpty:=by
  cases r <;> simp
theorem line63 : (sizeLine : Nat) < 2 ^ 63:=by rw [sizeLine_eq]; decide
theorem tru_ok : TruR X (fun x H Q=>∃ k,TruV X.K x H k∧Q k H):=by
  intro pins s σ H x v Q I rx h
  obtain ⟨k,e,q⟩:=h
  have hl:=line63
  have hs : sizeLine = 16777216:=sizeLine_eq
  cases x with
  | non =>
    cases rx
    have e' : k = false:=e
    subst e'
    exact truthy_none ⟨H,I,q⟩
  | bl b =>
    cases rx
    have e' : k = b:=e
    subst e'
    exact wpAny_truthy_bool ⟨H,I,q⟩
  | int i =>
    obtain ⟨t,rfl⟩:=rx
    have e' : k = (i != 0):=e
    subst e'
    exact PySem.P.truthy_int ⟨H,I,q⟩
  | str y =>
    obtain ⟨t,rfl⟩:=rx
    obtain ⟨hy,e'⟩ : y.length ≤ sizeLine∧k = ((y.length : Int) != 0):=e
    subst e'
    exact PySem.P.truthy_str (by omega) ⟨H,I.tok _,q⟩
  | byt y =>
    obtain ⟨t,rfl⟩:=rx
    obtain ⟨hy,e'⟩ : y.size ≤ sizeLine∧k = ((y.size : Int) != 0):=e
    subst e'
    exact PySem.W.truthy_bytes (by omega) ⟨H,I.tok _,q⟩
  | ref p =>
    cases rx
    have e' : (∃ xs,SqL X.K H p xs∧k = !xs.isEmpty) ∨ (∃ xs,SqT X.K H p xs∧k = !xs.isEmpty) ∨ ∃ kvs,H p = some (.dK kvs)∧k = !kvs.isEmpty:=e
    rcases e' with ⟨xs,hx,e'⟩ | ⟨xs,hx,e'⟩ | ⟨kvs,hx,e'⟩
    · subst e'
      obtain ⟨its,r,pl,hz⟩:=I.list hx
      have hlen:=r.length
      exact wpAny_truthy_list pl.isList (by simp only [List.size_toArray]; omega) ⟨H,I.tok _,by rw [isEmpty_of r]; exact q⟩
    · subst e'
      obtain ⟨its,r,pl,hz⟩:=I.tuple hx
      have hlen:=r.length
      exact truthy_tuple pl (by simp only [List.size_toArray]; omega) ⟨H,I.tok _,by rw [isEmpty_of r]; exact q⟩
    · subst e'
      obtain ⟨hz,hS,vs,r,m⟩ : kvs.length ≤ sizeLine∧(p == sysModules) = false∧∃ vs,KV kvs vs∧s.heap.DictOf (mixKind X.prog X.w) p vs:=I.hok p _ hx
      have hlen : kvs.length = vs.length:=Paired.length r
      exact wpAny_truthy_dict hS m (by omega) ⟨H,I.tok _,by rw [isEmpty_kv r]; exact q⟩
  | _=>exact (show False from e).elim
theorem pt_truth (ha : PE X a ta) (he : ∀ whole,isTrue a X.env whole = (do let v ← whole; standAt a.pos; holding [v] (truthy v))) :
    PT X a (fun σ H Q=>ta σ H fun x H'=>∃ k,TruV X.K x H' k∧Q k H'):=by
  intro pins s σ H Q I h
  exact isTrue_plain (thn (ha pins s σ H _ I h) fun v s1 ⟨x,H1,I1,r1,q1⟩=>tru_ok pins s1 σ H1 x v Q I1 r1 q1) (he _)
theorem op_add_str : OpR X (binaryOp .Add) (fun x y H Q=>∃ i j,x = .str i∧y = .str j∧i.length + j.length ≤ sizeLine∧Q (.str (i ++ j)) H):=by
  intro pins s σ H x y v u Q I rx ry h
  obtain ⟨i,j,rfl,rfl,hz,q⟩:=h
  obtain ⟨t,rfl⟩:=rx
  obtain ⟨t',rfl⟩:=ry
  exact add_str (fun t' tk=>⟨.str (i ++ j),H,I.tok _,⟨_,rfl⟩,q⟩) hz
def PlainIxT (b : Expr) : Prop:=∀ o i,subscripted b false o i = operate [o,i] (getItem o i)
theorem pe_item_str (ha : PE X a ta) (hb : PE X b tb) (hs : PlainIxT b) :
    PE X (.Subscript a b pos) (tOp (fun x y H Q=>∃ z i c,x = .str z∧y = .int i∧0 ≤ i∧i < 2 ^ 63∧i < z.length∧z.cps[i.toNat]? = some c∧Q (.str ⟨#[c]⟩) H) ta tb):=by
  intro pins s σ H Q I h
  refine Subscript_ (binT ha hb I h fun v u s2 x y H2 I2 rx ry q=>?_)
  obtain ⟨z,i,c,rfl,rfl,h0,h63,h1,hc,q⟩:=q
  obtain ⟨t,rfl⟩:=rx
  obtain ⟨t',rfl⟩:=ry
  have e : seqIndex? i z.length = some i.toNat:=PySem.StrLaws.seqIndex_nonneg h0 h1
  exact tail_any (typeIs_str s2 z t) slot_str_getitem.lookup (getItem_str (c:=c) (by
    have e1 : decide (i < -(2 ^ 63 : Int)) = false:=decide_eq_false (by omega)
    have e2 : decide (i ≥ 2 ^ 63) = false:=decide_eq_false (by omega)
    rw [e1,e2] <;> rfl) (by rw [e]; exact hc) ⟨.str ⟨#[c]⟩,H2,I2.tok _,⟨_,rfl⟩,q⟩) (hs _ _)
theorem vals1 {x : V} {us : List Value} (r : Vals [x] us) : ∃ u,us = [u]∧RelV x u:=by
  cases r with
  | cons r1 r2=>cases r2; exact ⟨_,rfl,r1⟩
end
end L2
namespace L2
open PySem PySem.Spec PyProof.Rows
section
variable {prog : Program} {w : World} {A : Around} {E : Value→Shared→Prop} {s : Shared} {K : PySem.W.Frag} {x dx C f : Addr} {mA : Str→Option Value} {name : Str} {v : Value}
end
theorem RelO.some_of {v : V} {o : Option Value} (r : RelO (some v) o) : ∃ u,o = some u∧RelV v u:=by
  cases o with
  | none=>exact (show False from r).elim
  | some u=>exact ⟨u,rfl,r⟩
section
variable {P : Program} {w : World} {H H' : Hp} {h h' : Heap} {a C dx : Addr} {fs fs' : List (Str × V)}
end
section
variable {X : Cx} {pins : List (Addr × Obj)} {σ : St} {H : Hp} {s : Shared} {a C dx : Addr} {fs : List (Str × V)} {f : Str} {v : V} {A : Around} {E : Value→Shared→Prop}
theorem attr_of {prog : Program} {w : World} {env : Env} {e : Expr} {f : Str} {pos : Pos} {s : Shared} {Q : Value→Shared→Prop} (hb : attributeBase e f env (eval e env) = eval e env)
    (h : wpAny (model prog w) A (eval e env) (fun o s₁=>wpAny (model prog w) A (getAttr o f true) Q E s₁) E s) : wpAny (model prog w) A (eval (.Attribute e f pos) env) Q E s :=
  Attribute_any_ h (by rw [arm_eval_Attribute,hb])
end
section
variable {X : Cx} {o e value : Expr} {f : Str} {pos pos' tpos : Pos} {ta tv : TE}
end
section
variable {X : Cx} {pins : List (Addr × Obj)} {σ : St} {H : Hp} {s : Shared} {A : Around} {E : Value→Shared→Prop} {Q : Value→Shared→Prop} {c : Value} {b : Bool}
end
end L2
namespace L2
open PySem PySem.Spec PyProof.Rows
structure Room (k : Nat) (A : Around) : Prop where
  hd : A.handled = none
  dp : A.depth + 3 * k + 5 < recursionLimit
  un : A.units + 16 * k + 200 < cLine
theorem Room.mono {j k : Nat} {A : Around} (r : Room k A) (h : j ≤ k) : Room j A:=⟨r.hd,by have:=r.dp; omega,by have:=r.un; omega⟩
theorem Room.deeper {k : Nat} {A : Around} (r : Room (k + 1) A) (env : Env) : Room k (A.deeper env) :=
  ⟨r.hd,by have:=r.dp; show A.depth + 1 + 3 * k + 5 < _; omega,by have:=r.un; show A.units + 3 + 16 * k + 200 < _; omega⟩
theorem make_depth {A : Around} {C : Addr} {us : List Value} {kw : List (Str × Value)} : (A.under (.builtin "type.__call__" ⟨.ref C :: us,kw⟩)).depth = A.depth + 1:=by
  first | rfl | simp [Around.under,Code.weight,Code.isCreation,Code.isGuard,Code.isCaller,Code.frames,Code.isFrame,guardIds]
theorem make_units {A : Around} {C : Addr} {us : List Value} {kw : List (Str × Value)} : (A.under (.builtin "type.__call__" ⟨.ref C :: us,kw⟩)).units = A.units + 1:=by
  first | rfl | simp [Around.under,Code.cUnits,Code.frames,Code.isFrame]
theorem Room.make {k : Nat} {A : Around} (r : Room (k + 1) A) (C : Addr) (us : List Value) (kw : List (Str × Value)) : Room k (A.under (.builtin "type.__call__" ⟨.ref C :: us,kw⟩)) :=
  ⟨r.hd,by have:=r.dp; rw [make_depth]; omega,by have:=r.un; rw [make_units]; omega⟩
theorem Room.depth {k : Nat} {A : Around} (r : Room k A) : A.depth < recursionLimit:=by have:=r.dp; omega
theorem Room.units {k : Nat} {A : Around} (r : Room k A) : A.units + 64 < cLine:=by have:=r.un; omega
def tNil : TA:=fun _ H Q=>Q [] H
def tCons (ta : TE) (tr : TA) : TA:=fun σ H Q=>ta σ H fun x H1=>tr σ H1 fun xs H2=>Q (x :: xs) H2
section
variable {X : Cx} {e : Expr} {es : List Expr} {te : TE} {t : TA} {pos : Pos}
theorem pa_nil : PA X [] tNil:=fun _ _ _ _ H Q I h=>Calls.spliced_nil ⟨[],H,I,.nil,h⟩
theorem pa_cons (ha : PE X e te) (hr : PA X es t) (hs : starEach (e :: es) X.env = (false,eval e X.env) :: starEach es X.env:=by rfl) : PA X (e :: es) (tCons te t):=by
  intro pos pins s σ H Q I h
  rw [hs]
  show wpAny _ _ (spliced ((false,eval e X.env) :: backTo pos (starEach es X.env))) _ _ s
  refine Calls.spliced_cons (thn (ha pins s σ H _ I h) fun u s1 ⟨x,H1,I1,r1,q1⟩=>?_)
  exact thn (hr pos pins s1 σ H1 _ I1 q1) fun us s2 ⟨xs,H2,I2,r2,q2⟩=>⟨x :: xs,H2,I2,.cons r1 r2,q2⟩
end
abbrev Sp:=List V→Hp→VK→XK→Prop
abbrev CXT:=List Env→Hp→Shared→XK→Value→Shared→Prop
structure Env0 (P : Program) (w : World) (K : PySem.W.Frag) (mg : Str→Option Value) (base : Heap) (A : Around) (outer : List Env) (s : Shared) (H : Hp) : Prop where
  frames : A.frames = some outer
  mod : Mod K mg base
  bs : ∀ b o,base.get? b = some o→s.heap.get? b = some o∧H b = none
  bsz : base.objs.size ≤ s.heap.objs.size
  funs : s.heap.FunFrames base outer
  frf : ∀ b ∈ frs outer,H b = none
  hok : HOk P w H s.heap
  bare : AllBare s.gens
def CE (outer : List Env) (P : Program) (w : World) (H : Hp) (s : Shared) (Q : VK) (u : Value) (s' : Shared) : Prop :=
  ∃ v H',s'.os = s.os∧AllBare s'.gens∧Un (frs outer) [] H H' s.heap s'.heap∧HOk P w H' s'.heap∧RelV v u∧Q v H'
def CR (CX : CXT) (outer : List Env) (P : Program) (w : World) (H : Hp) (s : Shared) (Q : VK) (E : XK) (r : Result) (s' : Shared) : Prop :=
  match r with
  | .ok (.ret u)=>CE outer P w H s Q u s'
  | .ok _=>False
  | .error e=>CX outer H s E e s'
structure FnOk (P : Program) (w : World) (K : PySem.W.Frag) (mg : Str→Option Value) (base : Heap) (CX : CXT) (k : Nat) (f : Addr) (fd : FuncData) (ps : List Str) (sp : Sp) : Prop where
  len : ∀ vs H Q E,sp vs H Q E→vs.length = ps.length
  run : ∀ (A : Around) (outer : List Env) (s : Shared) (H : Hp) (args : Args) (us : List Value) (vs : List V) (Q : VK) (E : XK),Room k A→Env0 P w K mg base A outer s H→BindsTo s fd args (ps.zip us)→Vals vs us→sp vs H Q E →
    codeAny (model P w) A (.call (.ref f) args) (CR CX outer P w H s Q E) s
theorem FnOk.mono {P : Program} {w : World} {K : PySem.W.Frag} {mg : Str→Option Value} {base : Heap} {CX : CXT} {j k : Nat} {f : Addr} {fd : FuncData} {ps : List Str} {sp : Sp} (F : FnOk P w K mg base CX j f fd ps sp) (h : j ≤ k) :
    FnOk P w K mg base CX k f fd ps sp:=⟨F.len,fun A outer s H args us vs Q E hr=>F.run A outer s H args us vs Q E (hr.mono h)⟩
theorem FnOk.imp {P : Program} {w : World} {K : PySem.W.Frag} {mg : Str→Option Value} {base : Heap} {CX : CXT} {k : Nat} {f : Addr} {fd : FuncData} {ps : List Str} {sp sp' : Sp} (F : FnOk P w K mg base CX k f fd ps sp)
    (h : ∀ vs H Q E,sp' vs H Q E→sp vs H Q E) : FnOk P w K mg base CX k f fd ps sp' :=
  ⟨fun vs H Q E q=>F.len vs H Q E (h _ _ _ _ q),fun A outer s H args us vs Q E hr he hb hv hs=>F.run A outer s H args us vs Q E hr he hb hv (h _ _ _ _ hs)⟩
theorem Env0.make {P : Program} {w : World} {K : PySem.W.Frag} {mg : Str→Option Value} {base : Heap} {A : Around} {outer : List Env} {s : Shared} {H : Hp} (e : Env0 P w K mg base A outer s H) (C : Addr) (us : List Value) (kw : List (Str × Value)) :
    Env0 P w K mg base (A.under (.builtin "type.__call__" ⟨.ref C :: us,kw⟩)) outer s H:=⟨by first | exact e.frames | (simpa [Around.under,Code.envs,Code.isFrame,pushEnvs] using e.frames),e.mod,e.bs,e.bsz,e.funs,e.frf,e.hok,e.bare⟩
section
variable {X : Cx} {pins : List (Addr × Obj)} {σ : St} {H : Hp} {s s' : Shared}
theorem Inv.env0 (I : Inv X pins σ H s) : Env0 X.prog X.w X.K X.mg X.base X.A X.stack s H :=
  ⟨I.ok.frames,I.ok.mod,I.bs,Nat.le_trans I.ok.bsz I.sz,I.stack,I.stkFree,I.hok,I.bare⟩
theorem Inv.after {Q : VK} {u : Value} (I : Inv X pins σ H s) (h : CE X.stack X.prog X.w H s Q u s') : EP X pins σ Q u s':=by
  obtain ⟨v,H',os,bare,un,hok,r,q⟩:=h
  obtain ⟨hh,g,d,t,os'⟩:=s'
  obtain rfl : os' = s.os:=os
  exact ⟨v,H',I.call (h':=hh) (g':=g) (d':=d) (t':=t) (ch:=[]) un hok bare (fun b z=>absurd z (by simp)),r,q⟩
end
def tCall (sp : Sp) (dvs : List V) (E : XK) (t : TA) : TE:=fun σ H Q=>t σ H fun vs H1=>sp (vs ++ dvs) H1 Q E
def Binds (K : PySem.W.Frag) (fd : FuncData) (ps : List Str) (ds : List Value) : Prop :=
  ∀ (s : Shared) (us : List Value),K.In s.heap→(us ++ ds).length = ps.length→BindsTo s fd ⟨us,[]⟩ (ps.zip (us ++ ds))
theorem Binds.all {K : PySem.W.Frag} {fd : FuncData} {ps : List Str} (h : ∀ us : List Value,us.length = ps.length→bindArgs fd ⟨us,[]⟩ = pure (ps.zip us)) : Binds K fd ps []:=fun s us _ hl=>by
  rw [List.append_nil] at hl ⊢
  exact .of_eq (h us hl)
def Passes (CX : CXT) (X : Cx) (E : XK) : Prop:=∀ (pins : List (Addr × Obj)) (σ : St) (H : Hp) (s : Shared) (e : Value) (s' : Shared),Inv X pins σ H s→CX X.stack H s E e s'→X.xe e s'
section
variable {X : Cx} {CX : CXT} {k : Nat} {f C : Addr} {fd : FuncData} {ps : List Str} {sp : Sp} {dvs : List V} {ds : List Value} {E : XK} {x m : Str} {p pos apos : Pos} {e o : Expr} {es : List Expr} {ta : TE} {t : TA}
theorem run_fn {pins : List (Addr × Obj)} {σ : St} {H : Hp} {s : Shared} {Q : VK} {us : List Value} {vs : List V} (F : FnOk X.prog X.w X.K X.mg X.base CX k f fd ps sp) (hr : Room k X.A) (hb : Binds X.K fd ps ds) (hd : Vals dvs ds) (hx : Passes CX X E)
    (I : Inv X pins σ H s) (r : Vals vs us) (h : sp (vs ++ dvs) H Q E) : wpAny (model X.prog X.w) X.A (call (.ref f) us) (EP X pins σ Q) X.xe s:=by
  have r2 : Vals (vs ++ dvs) (us ++ ds):=r.append hd
  have hl : (us ++ ds).length = ps.length:=by rw [← r2.length]; exact F.len _ _ _ _ h
  refine wpAny_call (codeAny_mono (F.run X.A X.stack s H ⟨us,[]⟩ (us ++ ds) (vs ++ dvs) Q E hr I.env0 (hb s us I.kIn hl) r2 h) fun r s' hq=>?_)
  cases r with
  | error e=>exact hx pins σ H s e s' I hq
  | ok fl =>
    cases fl with
    | ret u=>exact I.after hq
    | next=>exact False.elim hq
    | brk=>exact False.elim hq
    | cont=>exact False.elim hq
theorem pe_call (F : FnOk X.prog X.w X.K X.mg X.base CX k f fd ps sp) (hr : Room k X.A) (hg : Gl X x) (hm : X.mg x = some (.ref f)) (hk : PySem.W.keepIn X.K (.ref f) = true) (hb : Binds X.K fd ps ds) (hd : Vals dvs ds) (hx : Passes CX X E)
    (ha : PA X (e :: es) t) (hdb : (x == ("__debug__" : Str)) = false:=by decide) (he : starEach (e :: es) X.env = (false,eval e X.env) :: starEach es X.env:=by rfl) (hpl : (backTo pos (starEach es X.env)).any (·.1) = false:=by rfl) :
    PE X (.Call (.Name x p) (e :: es) [] pos) (tCall sp dvs E t):=by
  intro pins s σ H Q I h
  refine wpAny_Call_Name_kw (ld_glob I hg hm ?_ hdb)
  refine PySem.W.callWith_K (h₀:=X.base) I.ok.mod.kin hk (thn (ha pos pins s σ H _ I h) fun us s1 ⟨vs,H1,I1,r,q⟩=>⟨I1.kIn,?_⟩) he hpl
  exact run_fn F hr hb hd hx I1 r q
theorem pe_call0 (F : FnOk X.prog X.w X.K X.mg X.base CX k f fd ps sp) (hr : Room k X.A) (hg : Gl X x) (hm : X.mg x = some (.ref f)) (hk : PySem.W.keepIn X.K (.ref f) = true) (hb : Binds X.K fd ps ds) (hd : Vals dvs ds) (hx : Passes CX X E)
    (hdb : (x == ("__debug__" : Str)) = false:=by decide) : PE X (.Call (.Name x p) [] [] pos) (tCall sp dvs E tNil):=by
  intro pins s σ H Q I h
  refine wpAny_Call_Name_kw (ld_glob I hg hm ?_ hdb)
  exact PySem.W.callWith_K0 I.kIn hk (run_fn (us:=[]) F hr hb hd hx I .nil h)
end
section
variable {X : Cx} {CX : CXT} {k : Nat} {f C : Addr} {fd : FuncData} {ps ks : List Str} {sp : Sp} {E : XK} {x m : Str} {p pos apos kpos : Pos} {e o : Expr} {es : List Expr} {kws : List Keyword} {te ta : TE} {t tk : TA} {nm : Option Str}
variable {g : List Value→List Value→List Value} {gV : List V→List V→List V}
end
structure FnScope (N P : List Str) (sc : Scope) : Prop where
  kind : sc.kind = .function
  co : sc.isCoroutine = false
  gen : sc.isGenerator = false
  nd : N.Nodup
  pre : N.take P.length = P
  par : ∀ x ∈ P,sc.names.lookup x = some .local ∨ sc.names.lookup x = some .cell
  nofree : ∀ y ∈ sc.names,y.2 ≠ .free
theorem bindL_out {kindOf : Str→Option NameKind} {x : Str} : ∀ {binds : List (Str × Value)} {m : Str→Option Value},(∀ v,(x,v) ∉ binds)→bindL kindOf binds m x = m x
  | [],_,_=>rfl
  | (n,v) :: r,m,h=>by
    unfold bindL
    rw [bindL_out fun w hw=>h w (List.mem_cons_of_mem _ hw)]
    split
    · have : x ≠ n:=by rintro rfl; exact h v List.mem_cons_self
      simp [this]
    · rfl
theorem bindC_out {kindOf : Str→Option NameKind} {x : Str} : ∀ {binds : List (Str × Value)} {m : Str→Option Value},(∀ v,(x,v) ∉ binds)→bindC kindOf binds m x = m x
  | [],_,_=>rfl
  | (n,v) :: r,m,h=>by
    unfold bindC
    rw [bindC_out fun w hw=>h w (List.mem_cons_of_mem _ hw)]
    split
    · rfl
    · have : x ≠ n:=by rintro rfl; exact h v List.mem_cons_self
      simp [this]
theorem bindL_get {kindOf : Str→Option NameKind} {x : Str} {v : Value} : ∀ {P : List Str} {vs : List Value} {i : Nat} {m : Str→Option Value},P.Nodup→P[i]? = some x→vs[i]? = some v→kindOf x = some .local →
    bindL kindOf (P.zip vs) m x = some v
  | [],_,_,_,_,h,_,_=>by simp at h
  | _ :: _,[],_,_,_,_,h,_=>by simp at h
  | p :: P,w :: vs,0,m,nd,h1,h2,hk=>by
    simp at h1 h2; subst h1; subst h2
    show bindL kindOf ((p,w) :: P.zip vs) m p = _
    unfold bindL
    rw [bindL_out fun v hv=>(List.nodup_cons.mp nd).1 (List.of_mem_zip hv).1,if_pos hk]
    simp
  | p :: P,w :: vs,i + 1,m,nd,h1,h2,hk=>by
    show bindL kindOf ((p,w) :: P.zip vs) m x = _
    unfold bindL
    exact bindL_get (i:=i) (List.nodup_cons.mp nd).2 (by simpa using h1) (by simpa using h2) hk
theorem bindC_get {kindOf : Str→Option NameKind} {x : Str} {v : Value} : ∀ {P : List Str} {vs : List Value} {i : Nat} {m : Str→Option Value},P.Nodup→P[i]? = some x→vs[i]? = some v→kindOf x ≠ some .local →
    bindC kindOf (P.zip vs) m x = some v
  | [],_,_,_,_,h,_,_=>by simp at h
  | _ :: _,[],_,_,_,_,h,_=>by simp at h
  | p :: P,w :: vs,0,m,nd,h1,h2,hk=>by
    simp at h1 h2; subst h1; subst h2
    show bindC kindOf ((p,w) :: P.zip vs) m p = _
    unfold bindC
    rw [bindC_out fun v hv=>(List.nodup_cons.mp nd).1 (List.of_mem_zip hv).1,if_neg hk]
    simp
  | p :: P,w :: vs,i + 1,m,nd,h1,h2,hk=>by
    show bindC kindOf ((p,w) :: P.zip vs) m x = _
    unfold bindC
    exact bindC_get (i:=i) (List.nodup_cons.mp nd).2 (by simpa using h1) (by simpa using h2) hk
def start (N : List Str) (vs : List V) : St:=vs.map some ++ List.replicate (N.length - vs.length) none
def cxOf (CX : CXT) (P : Program) (w : World) (K : PySem.W.Frag) (mg : Str→Option Value) (base : Heap) (N : List Str) (qual : Str) (scope : Scope) (f : Addr) (cd : Value) (A : Around) (outer : List Env) (s : Shared) (H : Hp) (E : XK) : Cx where
  prog:=P
  w:=w
  K:=K
  mg:=mg
  base:=base
  A:=A.deeper (envOfC qual scope s.heap.objs.size f cd)
  N:=N
  s₀:=s
  H₀:=H
  env:=envOfC qual scope s.heap.objs.size f cd
  outer:=outer
  stack:=envOfC qual scope s.heap.objs.size f cd :: outer
  ex:=[]
  calm:=true
  fn:=fun _=>true
  pn:=[]
  xe:=fun e s'=>wpAny (model P w) (A.deeper (envOfC qual scope s.heap.objs.size f cd)) (leaving (envOfC qual scope s.heap.objs.size f cd) e) (fun _ s''=>CX outer H s E e s'') (fun e' s''=>CX outer H s E e' s'') s'
theorem cell_has {sc : Scope} {n : Nat} {x : Str} (h : sc.names.lookup x = some .cell) : ∃ c,(cellsFrom n sc.names []).lookup x = some c:=by
  have q:=PySem.W.cellsFrom_some sc.names n [] (.inl h)
  exact Option.isSome_iff_exists.mp q
theorem inv_start {CX : CXT} {P : Program} {w : World} {K : PySem.W.Frag} {mg : Str→Option Value} {base : Heap} {N ps : List Str} {qual : Str} {scope : Scope} {f : Addr} {cd : Value} {A : Around} {outer : List Env} {s s1 : Shared} {H : Hp} {E : XK} {us : List Value} {vs : List V}
    (S : FnScope N ps scope) (hd : A.handled = none) (e0 : Env0 P w K mg base A outer s H) (hl : vs.length = ps.length) (r : Vals vs us)
    (x : InCallC s s.heap.objs.size (bindL (envOfC qual scope s.heap.objs.size f cd).kindOf (ps.zip us) fun _=>none) (cellsFrom (s.heap.objs.size + 1) scope.names []) (bindC (envOfC qual scope s.heap.objs.size f cd).kindOf (ps.zip us) fun _=>none) s1) :
    Inv (cxOf CX P w K mg base N qual scope f cd A outer s H E) [] (start N vs) H s1:=by
  have hpl : ps.length ≤ N.length:=by have:=congrArg List.length S.pre; rw [List.length_take] at this; omega
  obtain ⟨h1,tk,rfl,hk⟩:=x.done
  have noA : ∀ b : Addr,b ∉ (cxOf CX P w K mg base N qual scope f cd A outer s H E).ex:=fun b z=>absurd (show b ∈ ([] : List Addr) from z) (by simp)
  refine ⟨⟨e0.mod,S.kind,rfl,rfl,Nat.le_refl _,fun y z c h1 h2=>?_,fun y hy=>?_,fun y c _ h=>?_,fun _=>hd,Around.frames_deeper e0.frames,.inr ⟨rfl,rfl⟩,fun b z=>absurd z (noA b),e0.bs,e0.bsz,fun b _ _=>noA b,fun b z=>absurd z (noA b),e0.funs,e0.frf⟩,
    rfl,e0.bare,Un.kept hk,⟨_,x.toInCall.ns,fun i y v h1 h2 h3=>?_⟩,fun y c h=>⟨_,x.cell y c h⟩,e0.hok.fresh (Nat.le_refl _),fun y c h=>?_,fun p hp=>absurd (show p ∈ ([] : List (Addr × Obj)) from hp) (by simp),e0.hok.kept hk,?_⟩
  · exact name_of_addr x.apart (PySem.mem_of_lookup h1) (PySem.mem_of_lookup h2)
  · have hy : scope.names.lookup y = some .cell ∨ scope.names.lookup y = some .free:=hy
    rcases hy with hy | hy
    · exact cell_has hy
    · exact absurd rfl (S.nofree _ (PySem.mem_of_lookup hy))
  · exact Nat.le_of_lt (x.above y c (PySem.mem_of_lookup h))
  · have hi : i < vs.length:=by
      unfold start at h2
      by_cases hi : i < vs.length
      · exact hi
      · rw [List.getElem?_append_right (by simpa using hi)] at h2
        rw [List.getElem?_replicate] at h2
        split at h2 <;> cases h2
    have ha : vs[i]? = some v:=by
      unfold start at h2
      rw [List.getElem?_append_left (by simpa using hi),List.getElem?_map] at h2
      cases e : vs[i]? with
      | none=>rw [e] at h2; cases h2
      | some a=>rw [e] at h2; cases h2; rfl
    obtain ⟨u,hu,rv⟩:=r.get ha
    have hp : ps[i]? = some y:=by
      rw [← S.pre,List.getElem?_take_of_lt (by omega)]; exact h1
    have ndP : ps.Nodup:=by rw [← S.pre]; exact S.nd.sublist (List.take_sublist _ _)
    refine ⟨u,rv,?_⟩
    rcases S.par y (List.mem_of_getElem? hp) with k | k
    · exact .inl ⟨k,bindL_get ndP hp hu k⟩
    · obtain ⟨c,e⟩:=cell_has (n:=s.heap.objs.size + 1) k
      refine .inr ⟨.inl k,c,e,?_⟩
      have q:=x.cell y c e
      rw [bindC_get ndP hp hu (by show scope.names.lookup y ≠ _; rw [k]; decide)] at q
      exact q
  · exact e0.hok.fresh (Nat.le_of_lt (x.above y c (PySem.mem_of_lookup h)))
  · unfold start
    show _ = N.length
    rw [List.length_append,List.length_map,List.length_replicate]
    omega
theorem fn_of {CX : CXT} {P : Program} {w : World} {K : PySem.W.Frag} {mg : Str→Option Value} {base : Heap} {k : Nat} {f : Addr} {name qual : Str} {params : Arguments} {body : List Stmt} {scope : Scope} {dV kV doc pm cdv ct oc : Value} {an od : Option Addr}
    {osl : Array (Option Value)} {N ps : List Str} {sp : Sp} (lk : K.lookup f = some ⟨oc,od,.func (PySem.W.fnOf name qual params body scope dV kV doc pm an cdv ct),osl⟩) (hcd : PySem.W.codeIn K cdv qual = true) (S : FnScope N ps scope)
    (len : ∀ vs H Q E,sp vs H Q E→vs.length = ps.length)
    (hbody : ∀ (A : Around) (outer : List Env) (s : Shared) (H : Hp) (vs : List V) (Q : VK) (E : XK),Room k (A.deeper (envOfC qual scope s.heap.objs.size f cdv))→sp vs H Q E →
      ∃ t,PSs (cxOf CX P w K mg base N qual scope f cdv A outer s H E) body t∧t { nx:=fun _ H'=>Q .non H',rt:=Q } (start N vs) H) :
    FnOk P w K mg base CX (k + 1) f (PySem.W.fnOf name qual params body scope dV kV doc pm an cdv ct) ps sp:=by
  refine ⟨len,fun A outer s H args us vs Q E hr e0 hb r hsp=>?_⟩
  have hl:=len _ _ _ _ hsp
  have KX : K.In s.heap:=e0.mod.kin.keeps fun b o e=>(e0.bs b o e).1
  have lim : s.heap.NoLimit:=e0.mod.nolimit.keeps fun b o e=>(e0.bs b o e).1
  have hkind : ∀ y ∈ ps.zip us,scope.names.lookup y.1 = some .local ∨ (scope.names.lookup y.1 = some .cell∧((cellsFrom (s.heap.objs.size + 1) scope.names []).lookup y.1).isSome = true):=fun ⟨n,v⟩ hy=>by
    rcases S.par n (List.of_mem_zip hy).1 with q | q
    · exact .inl q
    · exact .inr ⟨q,PySem.W.cellsFrom_some _ _ _ (.inl q)⟩
  refine codeAny_call_function hr.depth (KX _ _ lk) rfl S.co S.gen rfl (PySem.W.codeRec_of KX hcd) (hb _ _ _ _ ?_)
  refine wpAny_newFunctionEnv_cells S.kind hkind fun env he s1 x=>?_
  subst he
  refine ⟨lim.keeps x.toInCall.keep,codeAny_func ?_⟩
  obtain ⟨t,ht,hq⟩:=hbody A outer s H vs Q E (hr.deeper _) hsp
  have I : Inv (cxOf CX P w K mg base N qual scope f cdv A outer s H E) [] (start N vs) H s1:=inv_start S hr.hd e0 hl r x
  refine wpAny_mono (ht [] s1 (start N vs) H _ I hq) (fun fl s' hs=>?_) fun e s' hs=>hs
  have fin : ∀ {σ' : St} {H' : Hp} {v : V} {u : Value},Inv (cxOf CX P w K mg base N qual scope f cdv A outer s H E) [] σ' H' s'→RelV v u→Q v H'→CE outer P w H s Q u s' :=
    fun {σ' H' v u} J rv q=>⟨v,H',J.os,J.bare,J.base,J.hok,rv,q⟩
  cases fl with
  | ret u =>
    obtain ⟨v,σ',H',J,rv,q⟩:=hs
    exact fin J rv q
  | next =>
    obtain ⟨σ',H',J,q⟩:=hs
    exact fin (v:=V.non) (u:=Value.none) J rfl q
  | brk =>
    obtain ⟨_,_,_,q⟩:=hs
    exact False.elim q
  | cont =>
    obtain ⟨_,_,_,q⟩:=hs
    exact False.elim q
end L2
namespace L2
open PySem PySem.Spec PyProof.Rows
section
variable {X : Cx} {x : Str} {p pos : Pos} {e : Expr} {es : List Expr} {t : TA} {id T : String} {r : List V→Hp→VK→Prop}
def tCB (r : List V→Hp→VK→Prop) (t : TA) : TE:=fun σ H Q=>t σ H fun vs H1=>r vs H1 Q
theorem pe_callB (hc : CallR X (.builtin id) r) (hg : Gl X x) (hm : X.mg x = none) (hv : bootBuiltins x = some (.builtin id)) (ha : PA X (e :: es) t) (hn : x ≠ "__name__":=by decide) (hdb : (x == ("__debug__" : Str)) = false:=by decide)
    (he : starEach (e :: es) X.env = (false,eval e X.env) :: starEach es X.env:=by rfl) (hpl : (backTo pos (starEach es X.env)).any (·.1) = false:=by rfl) : PE X (.Call (.Name x p) (e :: es) [] pos) (tCB r t):=by
  intro pins s σ H Q I h
  refine wpAny_Call_Name_kw (ld_blt I hg hm hv ?_ hn hdb)
  exact PyProof.Rows.callWith_builtin1 (thn (ha pos pins s σ H _ I h) fun us s1 ⟨vs,H1,I1,r1,q1⟩=>hc pins s1 σ H1 vs us Q I1 r1 q1) he hpl
theorem pe_callTy (hc : CallR X (.type T) r) (hg : Gl X x) (hm : X.mg x = none) (hv : bootBuiltins x = some (.type T)) (ha : PA X (e :: es) t) (hn : x ≠ "__name__":=by decide) (hdb : (x == ("__debug__" : Str)) = false:=by decide)
    (he : starEach (e :: es) X.env = (false,eval e X.env) :: starEach es X.env:=by rfl) (hpl : (backTo pos (starEach es X.env)).any (·.1) = false:=by rfl) : PE X (.Call (.Name x p) (e :: es) [] pos) (tCB r t):=by
  intro pins s σ H Q I h
  refine wpAny_Call_Name_kw (ld_blt I hg hm hv ?_ hn hdb)
  exact PyProof.Rows.callWith_type1 (thn (ha pos pins s σ H _ I h) fun us s1 ⟨vs,H1,I1,r1,q1⟩=>hc pins s1 σ H1 vs us Q I1 r1 q1) he hpl
end
end L2
namespace HT
open PySem PyProof.Rows
section
open PySem.SeqAt
open PySem.AutoSeq1 (wpAny_loadPart')
open PySem.MeetsSeq PySem.MeetsSeq2 PySem.MeetsSeq3
end
section
variable {prog : Program} {w : World} {A : Around} {E : Value→Shared→Prop} {s : Shared}
theorem cat_tup {t b : Addr} {vs ws : List Value} {Q : Value→Shared→Prop} (ht : IsTup s.heap t vs.toArray) (hb : IsTup s.heap b ws.toArray) (hv : vs ≠ [])
    (h1 : ws = []→Q (.ref t) s) (h2 : ws ≠ []→Q (.ref s.heap.objs.size) { s with heap:=s.heap.push { cls:=.type "tuple",data:=.seq (vs ++ ws).toArray } })
    (hsz : vs.length + ws.length ≤ sizeLine) : wpAny (model prog w) A (binaryOp .Add (.ref t) (.ref b)) Q E s:=by
  obtain ⟨⟨cls,dd,data,sl⟩,ho,hc,n,hd⟩:=id ht
  obtain ⟨⟨cls2,dd2,data2,sl2⟩,ho2,hc2,n2,hd2⟩:=id hb
  simp only at hc hd hc2 hd2
  subst hc hd hc2 hd2
  have e : vs.toArray ++ ws.toArray = (vs ++ ws).toArray:=by simp
  by_cases hw : ws = []
  · exact concat_meets ⟨_,ho,rfl⟩ ⟨_,ho2,rfl⟩ noFill_tuple_add seq_tuple_add PySem.F.slot_tuple_add PySem.F.entry_tuple_add (PySem.F.args_tuple_add_2 _ _)
      (tuple_addW1 t b vs.toArray ws.toArray n n2 dd dd2 sl sl2 (by simpa using hv) (by simp [hw])) ⟨ho,ho2,h1 hw⟩
  · refine concat_meets ⟨_,ho,rfl⟩ ⟨_,ho2,rfl⟩ noFill_tuple_add seq_tuple_add PySem.F.slot_tuple_add PySem.F.entry_tuple_add (PySem.F.args_tuple_add_2 _ _)
      (tuple_addW2 t b vs.toArray ws.toArray n n2 dd dd2 sl sl2 (by simpa using hv) (by simpa using hw) (by rw [List.size_toArray,List.size_toArray]; exact hsz)) ⟨ho,ho2,?_⟩
    rw [e]
    exact h2 hw
def sIx (n d : Nat) : Option Int→Nat
  | none=>d
  | some v=>if v < 0 then (v + (n : Int)).toNat else min v.toNat n
theorem sIx_none (n d : Nat) : sIx n d none = d:=rfl
theorem sIx_nat (n d k : Nat) : sIx n d (some (k : Int)) = min k n:=by
  show (if (k : Int) < 0 then ((k : Int) + (n : Int)).toNat else min (k : Int).toNat n) = min k n
  rw [if_neg (by omega),Int.toNat_natCast]
theorem sIx_le (n d : Nat) (hd : d ≤ n) (o : Option Int) : sIx n d o ≤ n:=by
  cases o with
  | none=>exact hd
  | some v =>
    show (if v < 0 then (v + (n : Int)).toNat else min v.toNat n) ≤ n
    by_cases hv : v < 0
    · rw [if_pos hv]; omega
    · rw [if_neg hv]; exact Nat.min_le_right _ _
theorem clip_eq (v : Int) (n d : Nat) : (if v < 0 then max (v + (n : Int)) 0 else min v (n : Int)) = ((sIx n d (some v) : Nat) : Int):=by
  show (if v < 0 then max (v + (n : Int)) 0 else min v (n : Int)) = (((if v < 0 then (v + (n : Int)).toNat else min v.toNat n) : Nat) : Int)
  by_cases hv : v < 0
  · simp only [if_pos hv]; omega
  · simp only [if_neg hv]; omega
theorem adjust_gen (lo hi : Option Int) (n : Nat) : Builtin.Slice.sliceAdjust lo hi 1 (n : Int) = (((sIx n 0 lo : Nat) : Int),((sIx n n hi : Nat) : Int)):=by
  have h1 : ¬ ((1 : Int) < 0):=by omega
  unfold Builtin.Slice.sliceAdjust
  simp only [h1,if_false]
  refine Prod.ext ?_ ?_
  · cases lo with
    | none=>rfl
    | some v=>exact clip_eq v n 0
  · cases hi with
    | none=>rfl
    | some v=>exact clip_eq v n n
theorem places_gen (i j : Nat) : Builtin.Slice.slicePlaces (i : Int) (j : Int) 1 = j - i:=by
  unfold Builtin.Slice.slicePlaces
  have h1 : (1 : Int) > 0:=by omega
  simp only [h1,if_true,Int.ediv_one]
  split <;> omega
theorem slicePart_ {v : Value} {o : Option Int} {Q : Option Int→Shared→Prop} (p : IsPart v o) (h : Q o s) : wpAny (model prog w) A (Builtin.Slice.slicePartIndex v) Q E s:=by
  cases p with
  | none=>exact slicePart_none h
  | int i t=>exact slicePart_int h
theorem sliceApplied_gen {sl : Addr} {vl vu : Value} {lo hi : Option Int} {n : Nat} {Q : Int × Int × Nat→Shared→Prop} (hs : s.heap.IsSliceOf sl vl vu .none) (pl : IsPart vl lo) (pu : IsPart vu hi)
    (h : Q (((sIx n 0 lo : Nat) : Int),1,sIx n n hi - sIx n 0 lo) s) : wpAny (model prog w) A (Builtin.Slice.sliceApplied (.ref sl) (pure (n : Int))) Q E s:=by
  obtain ⟨os,hos,hcs,hds⟩:=id hs
  unfold Builtin.Slice.sliceApplied Builtin.Slice.sliceFields
  refine wpAny_bind (wpAny_bind (wpAny_field hos hds (x:=vl) rfl (wpAny_bind (wpAny_field hos hds (x:=vu) rfl (wpAny_bind (wpAny_field hos hds (x:=.none) rfl (wpAny_pure ?_)))))))
  refine wpAny_bind (slicePart_none ?_)
  show wpAny _ _ (if ((1 : Int) == 0) = true then _ else _) _ _ s
  rw [if_neg (by decide)]
  refine wpAny_bind (slicePart_ pl (wpAny_bind (slicePart_ pu (wpAny_bind (wpAny_pure ?_)))))
  show wpAny _ _ (match Builtin.Slice.sliceAdjust lo hi 1 (n : Int) with | (lo,hi)=>pure (lo,(1 : Int),Builtin.Slice.slicePlaces lo hi 1)) _ _ s
  rw [adjust_gen lo hi n]
  show wpAny _ _ (pure (((sIx n 0 lo : Nat) : Int),(1 : Int),Builtin.Slice.slicePlaces ((sIx n 0 lo : Nat) : Int) ((sIx n n hi : Nat) : Int) 1)) _ _ s
  rw [places_gen]
  exact wpAny_pure h
theorem pick_gen (xs : Array Value) (i k : Nat) : ((List.range k).filterMap fun (m : Nat)=>xs[((i : Int) + (m : Int) * 1).toNat]?).toArray = ((xs.toList.drop i).take k).toArray:=by
  have e : (fun (m : Nat)=>xs[((i : Int) + (m : Int) * 1).toNat]?) = fun m=>xs[i + m]?:=by
    funext m
    have : ((i : Int) + (m : Int) * 1).toNat = i + m:=by omega
    rw [this]
  rw [e]
  have:=pick_run xs i k
  rw [List.filterMap_map] at this
  have e2 : ((fun x=>xs[x]?) ∘ fun x=>i + x) = fun m=>xs[i + m]?:=rfl
  rw [e2] at this
  rw [this]
theorem getItem_tuple_cut {t sl : Addr} {items : Array Value} {vl vu : Value} {lo hi : Option Int} {Q : Value→Shared→Prop} (ht : IsTup s.heap t items) (hs : s.heap.IsSliceOf sl vl vu .none) (pl : IsPart vl lo) (pu : IsPart vu hi)
    (hw : ¬ (sIx items.size 0 lo = 0∧sIx items.size items.size hi = items.size))
    (h : Q (.ref s.heap.objs.size) { s with heap:=s.heap.push { cls:=.type "tuple",data:=.seq ((items.toList.drop (sIx items.size 0 lo)).take (sIx items.size items.size hi - sIx items.size 0 lo)).toArray } })
    (hsz : items.size ≤ sizeLine) : wpAny (model prog w) A (getItem (.ref t) (.ref sl)) Q E s:=by
  have htake : sizeOk (.seq ((items.toList.drop (sIx items.size 0 lo)).take (sIx items.size items.size hi - sIx items.size 0 lo)).toArray):=by
    show ((items.toList.drop (sIx items.size 0 lo)).take (sIx items.size items.size hi - sIx items.size 0 lo)).toArray.size ≤ sizeLine
    rw [List.size_toArray,List.length_take,List.length_drop,Array.length_toList]
    omega
  have hj : sIx items.size items.size hi ≤ items.size:=sIx_le _ _ (Nat.le_refl _) hi
  obtain ⟨os,hos,hcs,hds⟩:=id hs
  have hTs : s.TypeIs (.ref sl) "slice":=⟨os,hos,hcs⟩
  unfold getItem
  try with_reducible refine wpAny_holding ?_
  first | refine wpAny_bind (wpAny_pure ?_) | skip
  refine wpAny_bind (wpAny_sequenceKey ht.typeIs (by decide) ?_)
  refine wpAny_bind (wpAny_callSpecial?_slot (name:=Str.ofString "__getitem__") ht.typeIs PyProof.Rows.slot_tuple_getitem
    (wpAny_call_entry PyProof.Rows.slot_tuple_getitem ht.typeIs entry_tuple_getitem ?_ (args_tuple_getitem _ _)))
  show wpAny _ _ (Builtin.Tuple.tupleItemsOf (.ref t) >>= _) _ _ s
  refine wpAny_bind (tupleItemsOf_ ht ?_)
  refine wpAny_bind (wpAny_typeOf hTs ?_)
  rw [if_pos (by decide)]
  refine wpAny_bind (sliceApplied_gen hs pl pu ?_)
  have hno : ¬ ((((sIx items.size 0 lo : Nat) : Int) == 0 && (1 : Int) == 1 && (sIx items.size items.size hi - sIx items.size 0 lo) == items.size) = true):=by
    intro q
    rw [Bool.and_eq_true,Bool.and_eq_true] at q
    have q1 : ((sIx items.size 0 lo : Nat) : Int) = 0:=eq_of_beq q.1.1
    have q2 : sIx items.size items.size hi - sIx items.size 0 lo = items.size:=eq_of_beq q.2
    exact hw ⟨by omega,by omega⟩
  show wpAny _ _ (if (((sIx items.size 0 lo : Nat) : Int) == 0 && (1 : Int) == 1 && (sIx items.size items.size hi - sIx items.size 0 lo) == items.size) = true then _ else _) _ _ s
  rw [if_neg hno,pick_gen]
  first
    | exact wpAny_bind (m:=Builtin.Tuple.tupleExact _) (wpAny_newObj_type (wpAny_pure ⟨_,rfl,wpAny_pure h⟩) htake)
    | exact wpAny_bind (m:=Builtin.Tuple.tupleExact _) (wpAny_newObj_type (wpAny_bind (wpAny_pure (wpAny_pure ⟨_,rfl,wpAny_pure h⟩))) htake)
    | exact wpAny_bind (wpAny_bind (m:=Builtin.Tuple.tupleExact _) (wpAny_newObj_type (wpAny_pure (wpAny_pure ⟨_,rfl,wpAny_pure h⟩)) htake))
    | exact wpAny_bind (wpAny_bind (m:=Builtin.Tuple.tupleExact _) (wpAny_newObj_type (wpAny_pure ⟨_,rfl,wpAny_pure h⟩) htake))
end
end HT
namespace L2
open PySem PySem.Spec PyProof.Rows
abbrev TO:=St→Hp→(Option Int→Hp→Prop)→Prop
def PO (X : Cx) (e : Option Expr) (t : TO) : Prop :=
  ∀ (pins : List (Addr × Obj)) (s : Shared) (σ : St) (H : Hp) (Q : Option Int→Hp→Prop),Inv X pins σ H s→t σ H Q →
    wpAny (model X.prog X.w) X.A (evalPart e X.env) (fun u s'=>∃ o H',Inv X pins σ H' s'∧IsPart u o∧Q o H') X.xe s
def tNoPart : TO:=fun _ H Q=>Q none H
def tPart (t : TE) : TO:=fun σ H Q=>t σ H fun x H1=>∃ i,x = .int i∧Q (some i) H1
section
variable {X : Cx} {e : Expr} {te : TE} {lo hi : Option Expr} {tl th : TO} {pos p2 : Pos}
theorem po_none : PO X none tNoPart:=by
  intro pins s σ H Q I h
  rw [evalPart_none]
  exact wpAny_pure ⟨none,H,I,.none,h⟩
theorem po_some (h : PE X e te) : PO X (some e) (tPart te):=by
  intro pins s σ H Q I hw
  rw [evalPart_some]
  refine thn (h pins s σ H _ I hw) fun u s1 ⟨x,H1,I1,r1,q1⟩=>?_
  obtain ⟨i,rfl,q⟩:=q1
  obtain ⟨t,rfl⟩:=r1
  exact ⟨some i,H1,I1,.int i t,q⟩
def SlR (X : Cx) (r : V→Option Int→Option Int→Hp→VK→Prop) : Prop :=
  ∀ (pins : List (Addr × Obj)) (s : Shared) (σ : St) (H : Hp) (x : V) (v vl vu : Value) (lo hi : Option Int) (sl : Addr) (Q : VK),Inv X pins σ H s→RelV x v→s.heap.IsSliceOf sl vl vu .none→IsPart vl lo→IsPart vu hi→r x lo hi H Q →
    ∃ T id,typeLookup (.type T) "__getitem__" = pure (some (.builtin id))∧s.TypeIs v T∧wpAny (model X.prog X.w) X.A (getItem v (.ref sl)) (EP X pins σ Q) X.xe s
def tSl (r : V→Option Int→Option Int→Hp→VK→Prop) (te : TE) (tl th : TO) : TE:=fun σ H Q=>te σ H fun x H1=>tl σ H1 fun l H2=>th σ H2 fun u H3=>r x l u H3 Q
theorem pe_slice {r : V→Option Int→Option Int→Hp→VK→Prop} (hr : SlR X r) (he : PE X e te) (hl : PO X lo tl) (hu : PO X hi th) : PE X (.Subscript e (.Slice lo hi none p2) pos) (tSl r te tl th):=by
  intro pins s σ H Q I h
  refine Subscript_ (thn (he pins s σ H _ I h) fun v s1 ⟨x,H1,I1,r1,q1⟩=>?_)
  refine wpAny_Slice (thn (hl pins s1 σ H1 _ I1 q1) fun vl s2 ⟨l,H2,I2,pl,q2⟩=>thn (hu pins s2 σ H2 _ I2 q2) fun vu s3 ⟨u,H3,I3,pu,q3⟩=>?_)
  rw [evalPart_none]
  refine wpAny_pure ?_
  have I4 : Inv X pins σ H3 { s3 with heap:=s3.heap.push { cls:=.type "slice",data:=.fields #[vl,vu,.none] } }:=I3.kept (t':=s3.toks) fun b ob q=>Heap.get?_push_of_some _ q
  obtain ⟨T,id,hT,ht,hg⟩:=hr pins { s3 with heap:=s3.heap.push { cls:=.type "slice",data:=.fields #[vl,vu,.none] } } σ H3 x v vl vu l u s3.heap.objs.size Q I4 r1 (Heap.IsSliceOf.new ..) pl pu q3
  show wpAny (model X.prog X.w) X.A (subscriptTail e (.Slice lo hi none p2) v (.ref s3.heap.objs.size)) (EP X pins σ Q) X.xe { s3 with heap:=s3.heap.push { cls:=.type "slice",data:=.fields #[vl,vu,.none] } }
  exact tail_any (ops:=[.ref s3.heap.objs.size,v]) ht hT hg (by with_unfolding_all rfl)
def cutV (xs : List V) (lo hi : Option Int) : List V:=(xs.drop (HT.sIx xs.length 0 lo)).take (HT.sIx xs.length xs.length hi - HT.sIx xs.length 0 lo)
theorem cutV_length (xs : List V) (lo hi : Option Int) : (cutV xs lo hi).length ≤ xs.length:=by
  unfold cutV
  rw [List.length_take,List.length_drop]
  omega
def rSlT (K : PySem.W.Frag) : V→Option Int→Option Int→Hp→VK→Prop:=fun x lo hi H Q=>∃ a xs,x = .ref a∧SqT K H a xs ∧
  ¬ (HT.sIx xs.length 0 lo = 0∧HT.sIx xs.length xs.length hi = xs.length)∧∀ p,H p = none→Q (.ref p) (upd H p (.tup (cutV xs lo hi)))
theorem sl_tup : SlR X (rSlT X.K):=by
  intro pins s σ H x v vl vu lo hi sl Q I rx hs pl pu h
  obtain ⟨a,xs,rfl,hx,hw,q⟩:=h
  cases rx
  obtain ⟨its,r,ht,hz⟩:=I.tuple hx
  have hlen : its.toArray.size = xs.length:=by rw [List.size_toArray]; exact r.length.symm
  refine ⟨"tuple",_,PyProof.Rows.slot_tuple_getitem.lookup,ht.typeIs,?_⟩
  refine HT.getItem_tuple_cut ht hs pl pu (by rw [hlen]; exact hw) ?_ (by rw [hlen]; exact hz)
  rw [hlen]
  refine ⟨.ref s.heap.objs.size,_,I.laid (t':=s.toks) (o:=.tup (cutV xs lo hi)) (fun b ob q=>Heap.get?_push_of_some _ q) (Nat.le_refl _) ?_,rfl,q _ (I.hok.fresh (Nat.le_refl _))⟩
  exact ⟨Nat.le_trans (cutV_length xs lo hi) hz,_,(r.drop (HT.sIx xs.length 0 lo)).take (HT.sIx xs.length xs.length hi - HT.sIx xs.length 0 lo),IsTN.new _ _⟩
def rCatT (K : PySem.W.Frag) : R2:=fun x y H Q=>∃ a b xs ys,x = .ref a∧y = .ref b∧SqT K H a xs∧SqT K H b ys∧xs ≠ []∧xs.length + ys.length ≤ sizeLine ∧
  (ys = []→Q (.ref a) H)∧(ys ≠ []→∀ p,H p = none→Q (.ref p) (upd H p (.tup (xs ++ ys))))
theorem Vals.nil_iff {xs : List V} {us : List Value} (r : Vals xs us) : us = [] ↔ xs = []:=by
  cases r with
  | nil=>simp
  | cons _ _=>simp
theorem op_catT : OpR X (binaryOp .Add) (rCatT X.K):=by
  intro pins s σ H x y v u Q I rx ry h
  obtain ⟨a,b,xs,ys,rfl,rfl,ha,hb,hx,hz,q1,q2⟩:=h
  cases rx
  cases ry
  obtain ⟨its,r1,p1,_⟩:=I.tuple ha
  obtain ⟨its2,r2,p2,_⟩:=I.tuple hb
  refine HT.cat_tup p1 p2 (fun z=>hx (r1.nil_iff.mp z)) (fun z=>⟨.ref a,H,I,rfl,q1 (r2.nil_iff.mp z)⟩) (fun z=>?_) (by rw [← r1.length,← r2.length]; exact hz)
  refine ⟨.ref s.heap.objs.size,_,I.laid (t':=s.toks) (o:=.tup (xs ++ ys)) (fun b ob q=>Heap.get?_push_of_some _ q) (Nat.le_refl _) ?_,rfl,q2 (fun w=>z (r2.nil_iff.mpr w)) _ (I.hok.fresh (Nat.le_refl _))⟩
  exact ⟨by rw [List.length_append]; exact hz,_,r1.append r2,IsTN.new _ _⟩
end
end L2
namespace L2
open PySem PySem.Spec PyProof.Rows
def ixN (n : Nat) (i : Int) : Option Nat:=if 0 ≤ i then (if i < n then some i.toNat else none) else if -(n : Int) ≤ i then some (i + n).toNat else none
def atI {α : Type} (xs : List α) (i : Int) : Option α:=(ixN xs.length i).bind fun j=>xs[j]?
theorem ixN_seq {n : Nat} {i : Int} {j : Nat} (h : ixN n i = some j) : seqIndex? i n = some j∧j < n∧-(n : Int) ≤ i∧i < n:=by
  unfold ixN at h
  by_cases h0 : 0 ≤ i
  · rw [if_pos h0] at h
    by_cases h1 : i < n
    · rw [if_pos h1] at h
      have e : i.toNat = j:=Option.some.inj h
      exact ⟨by rw [seqIndex_of h0 h1,e],by omega,by omega,h1⟩
    · rw [if_neg h1] at h; cases h
  · rw [if_neg h0] at h
    by_cases h1 : -(n : Int) ≤ i
    · rw [if_pos h1] at h
      have e : (i + n).toNat = j:=Option.some.inj h
      exact ⟨by rw [seqIndex_neg (by omega) h1,e],by omega,h1,by omega⟩
    · rw [if_neg h1] at h; cases h
theorem atI_get {α : Type} {xs : List α} {i : Int} {v : α} (h : atI xs i = some v) : ∃ j,seqIndex? i xs.length = some j∧xs[j]? = some v∧j < xs.length∧-(xs.length : Int) ≤ i∧i < xs.length:=by
  unfold atI at h
  cases e : ixN xs.length i with
  | none=>rw [e] at h; cases h
  | some j =>
    rw [e] at h
    obtain ⟨h1,h2,h3,h4⟩:=ixN_seq e
    exact ⟨j,h1,h,h2,h3,h4⟩
theorem atI_nat {α : Type} {xs : List α} {j : Nat} {v : α} (h : xs[j]? = some v) : atI xs (j : Int) = some v:=by
  have hj : j < xs.length:=(List.getElem?_eq_some_iff.mp h).1
  have e : ixN xs.length (j : Int) = some j:=by
    unfold ixN
    rw [if_pos (by omega),if_pos (by omega)]; simp
  unfold atI; rw [e]; exact h
def PlainIx (b : Expr) : Prop:=∀ o i,subscripted b false o i = operate [o,i] (getItem o i)
def IxR (X : Cx) (r : R2) : Prop :=
  ∀ (value slice : Expr) (pins : List (Addr × Obj)) (s : Shared) (σ : St) (H : Hp) (x y : V) (v u : Value) (Q : VK),Inv X pins σ H s→RelV x v→RelV y u→r x y H Q →
    subscripted slice false v u = operate [v,u] (getItem v u)→wpAny (model X.prog X.w) X.A (subscriptTail value slice v u) (EP X pins σ Q) X.xe s
def MtR (X : Cx) (id : String) (r : V→List V→Hp→VK→Prop) : Prop :=
  ∀ (pins : List (Addr × Obj)) (s : Shared) (σ : St) (H : Hp) (x : V) (xs : List V) (v : Value) (us : List Value) (Q : VK),Inv X pins σ H s→RelV x v→Vals xs us→r x xs H Q →
    wpAny (model X.prog X.w) X.A (call (.builtin id) (v :: us)) (EP X pins σ Q) X.xe s
section
variable {X : Cx} {a b : Expr} {ta tb : TE} {pos : Pos}
theorem pe_ix {r : R2} (hr : IxR X r) (ha : PE X a ta) (hb : PE X b tb) (hs : PlainIx b) : PE X (.Subscript a b pos) (tOp r ta tb):=by
  intro pins s σ H Q I h
  exact Subscript_ (binT ha hb I h fun v u s2 x y H2 I2 rx ry q=>hr a b pins s2 σ H2 x y v u Q I2 rx ry q (hs _ _))
def rIxL (K : PySem.W.Frag) : R2:=fun x y H Q=>∃ p xs i v,x = .ref p∧y = .int i∧SqL K H p xs∧atI xs i = some v∧Q v H
def rIxT (K : PySem.W.Frag) : R2:=fun x y H Q=>∃ p xs i v,x = .ref p∧y = .int i∧SqT K H p xs∧atI xs i = some v∧Q v H
theorem ix_list : IxR X (rIxL X.K):=by
  intro value slice pins s σ H x y v u Q I rx ry h hs
  obtain ⟨p,xs,i,z,rfl,rfl,hq,he,q⟩:=h
  cases rx
  obtain ⟨t,rfl⟩:=ry
  obtain ⟨its,r,pl,hz⟩:=I.list hq
  obtain ⟨j,h1,h2,h3,h4,h5⟩:=atI_get he
  obtain ⟨w,ew,rw'⟩:=r.get h2
  have hl:=r.length
  have hn:=line63
  have fin : EP X pins σ Q w s:=⟨z,H,I,rw',q⟩
  by_cases h0 : 0 ≤ i
  · have hj : i.toNat = j:=by
      rw [seqIndex_of h0 h5] at h1
      exact Option.some.inj h1
    exact item_listR pl.isList h0 (by omega) (by rw [hj]; simpa using ew) fin hs
  · have hj : (i + (its.toArray.size : Int)).toNat = j:=by
      rw [seqIndex_neg (by omega) h4] at h1
      rw [List.size_toArray,← hl]
      exact Option.some.inj h1
    exact subscriptTail_builtinR (x:=w) pl.isList.typeIs slot_list_getitem.lookup
      (wpAny_getItem_list_neg (Q:=fun r s'=>r = w∧EP X pins σ Q r s') pl.isList (by omega) (by rw [List.size_toArray] <;> omega) (by omega) (by rw [hj]; simpa using ew) ⟨rfl,fin⟩) hs
theorem ix_tup : IxR X (rIxT X.K):=by
  intro value slice pins s σ H x y v u Q I rx ry h hs
  obtain ⟨p,xs,i,z,rfl,rfl,hq,he,q⟩:=h
  cases rx
  obtain ⟨t,rfl⟩:=ry
  obtain ⟨its,r,pl,hz⟩:=I.tuple hq
  obtain ⟨j,h1,h2,h3,h4,h5⟩:=atI_get he
  obtain ⟨w,ew,rw'⟩:=r.get h2
  have hl:=r.length
  have hn:=line63
  have fin : EP X pins σ Q w s:=⟨z,H,I,rw',q⟩
  exact subscriptTail_builtinR (x:=w) pl.typeIs slot_tuple_getitem.lookup
    (getItem_tuple (j:=j) (Q:=fun r s'=>r = w∧EP X pins σ Q r s') pl (by omega) (by omega) (by rw [List.size_toArray,← hl]; exact h1) (by simpa using ew) ⟨rfl,fin⟩) hs
theorem mapSeq_set (its : List Value) (n j : Nat) (u : Value) : Obj.mapSeq (·.setIfInBounds j u) { cls:=.type "list",data:=.seq its.toArray n } = { cls:=.type "list",data:=.seq (its.set j u).toArray n }:=by
  simp [Obj.mapSeq]
theorem Inv.lst {pins : List (Addr × Obj)} {σ : St} {H : Hp} {s : Shared} {p : Addr} {xs : List V} (I : Inv X pins σ H s) (h : H p = some (.lst xs)) :
    ∃ (its : List Value) (n : Nat),Vals xs its∧s.heap.get? p = some { cls:=.type "list",data:=.seq its.toArray n }∧xs.length ≤ sizeLine:=by
  obtain ⟨z,its,n,r,e⟩:=I.hok p _ h
  exact ⟨its,n,r,e,z⟩
theorem Inv.lstUpd {pins : List (Addr × Obj)} {σ : St} {H : Hp} {s : Shared} {p : Addr} {xs ys : List V} {its its' : List Value} {n n' : Nat} {f : Obj→Obj} (I : Inv X pins σ H s) (h : H p = some (.lst xs))
    (ho : s.heap.get? p = some { cls:=.type "list",data:=.seq its.toArray n }) (hf : f { cls:=.type "list",data:=.seq its.toArray n } = { cls:=.type "list",data:=.seq its'.toArray n' }) (r : Vals ys its') (hz : ys.length ≤ sizeLine) (t : Nat) :
    Inv X pins σ (upd H p (.lst ys)) { s with heap:=s.heap.update p f,toks:=t }:=by
  have e : (s.heap.update p f).get? p = some { cls:=.type "list",data:=.seq its'.toArray n' }:=by
    rw [Heap.get?_update_self f ho (by rw [hf] <;> rfl),hf]
  refine I.write (x:=p) (e:=p) (by rw [h]; trivial) (.inl rfl) (fun b u hb q=>(Heap.get?_update_other _ _ (Ne.symm hb)).trans q) ⟨_,e⟩ ?_
  exact ⟨hz,its',n',r,e⟩
def rSetL : V→V→V→Hp→(Hp→Prop)→Prop:=fun o i v H Q=>∃ p xs k j,o = .ref p∧i = .int k∧H p = some (.lst xs)∧ixN xs.length k = some j∧Q (upd H p (.lst (xs.set j v)))
theorem set_list : PSet X rSetL:=by
  intro pins s σ H o i v ov iv u Q I ro ri rv h
  obtain ⟨p,xs,k,j,rfl,rfl,hp,hj,q⟩:=h
  cases ro
  obtain ⟨t,rfl⟩:=ri
  obtain ⟨its,n,r,ho,hz⟩:=I.lst hp
  obtain ⟨h1,h2,h3,h4⟩:=ixN_seq hj
  have hl:=r.length
  have hn:=line63
  have I' : Inv X pins σ (upd H p (.lst (xs.set j v))) { s with heap:=s.heap.update p (Obj.mapSeq (·.setIfInBounds j u)) } :=
    I.lstUpd hp ho (mapSeq_set its n j u) (r.set rv j) (by rw [List.length_set]; exact hz) s.toks
  by_cases h0 : 0 ≤ k
  · have hk : k.toNat = j:=by
      rw [seqIndex_of h0 h4] at h1
      exact Option.some.inj h1
    exact PySem.W.ki_setAt ho h0 (by omega) (by rw [List.size_toArray,← hl]; exact h4) (by rw [hk]; exact ⟨_,I',q⟩)
  · have hk : (k + (its.toArray.size : Int)).toNat = j:=by
      rw [seqIndex_neg (by omega) h3] at h1
      rw [List.size_toArray,← hl]
      exact Option.some.inj h1
    exact PySem.W.ki_setBack ho (by omega) (by rw [List.size_toArray,← hl]; exact h3) (by omega) (by rw [hk]; exact ⟨_,I',q⟩)
theorem slice_bounds (lo hi : Option Int) (n : Nat) : (sliceBounds lo hi none n).1 = ((HT.sIx n 0 lo : Nat) : Int)∧(sliceBounds lo hi none n).2.1 = ((HT.sIx n n hi : Nat) : Int)∧(sliceBounds lo hi none n).2.2 = 1:=by
  refine ⟨?_,?_,rfl⟩
  · cases lo with
    | none=>simp [sliceBounds,HT.sIx]
    | some i =>
      simp only [sliceBounds,HT.sIx,Option.getD_none,show (1 : Int) > 0 by decide,if_true]
      by_cases h : i < 0
      · simp only [h,if_true] <;> omega
      · simp only [h,if_false] <;> omega
  · cases hi with
    | none=>simp [sliceBounds,HT.sIx]
    | some i =>
      simp only [sliceBounds,HT.sIx,Option.getD_none,show (1 : Int) > 0 by decide,if_true]
      by_cases h : i < 0
      · simp only [h,if_true] <;> omega
      · simp only [h,if_false] <;> omega
theorem slicePick_cut (its : List Value) (lo hi : Option Int) : slicePick its.toArray lo hi none = ((its.drop (HT.sIx its.length 0 lo)).take (HT.sIx its.length its.length hi - HT.sIx its.length 0 lo)).toArray:=by
  obtain ⟨h1,h2,h3⟩:=slice_bounds lo hi its.toArray.size
  unfold slicePick
  rw [h1,h2,h3]
  simp only [sliceRange_one,pick_run,List.size_toArray] <;> rfl
def rSlL (K : PySem.W.Frag) : V→Option Int→Option Int→Hp→VK→Prop:=fun x lo hi H Q=>∃ a xs,x = .ref a∧SqL K H a xs∧∀ p,H p = none→Q (.ref p) (upd H p (.lst (cutV xs lo hi)))
theorem sl_list : SlR X (rSlL X.K):=by
  intro pins s σ H x v vl vu lo hi sl Q I rx hs pl pu h
  obtain ⟨a,xs,rfl,hx,q⟩:=h
  cases rx
  obtain ⟨its,r,ht,hz⟩:=I.list hx
  have hlen:=r.length
  refine ⟨"list",_,slot_list_getitem.lookup,ht.isList.typeIs,?_⟩
  refine wpAny_getItem_list_slice ht.isList hs pl pu .none (by simp) ?_ (by rw [List.size_toArray] <;> omega)
  rw [slicePick_cut,← hlen]
  refine ⟨.ref s.heap.objs.size,_,I.laid (t':=s.toks) (o:=.lst (cutV xs lo hi)) (fun b ob q=>Heap.get?_push_of_some _ q) (Nat.le_refl _) ?_,rfl,q _ (I.hok.fresh (Nat.le_refl _))⟩
  exact ⟨Nat.le_trans (cutV_length xs lo hi) hz,_,0,(r.drop (HT.sIx xs.length 0 lo)).take (HT.sIx xs.length xs.length hi - HT.sIx xs.length 0 lo),Heap.get?_push_size _ rfl⟩
def flatV : V→Bool
  | .non=>true
  | .bl _=>true
  | .int _=>true
  | .str _=>true
  | _=>false
def eqV : V→V→Bool
  | .non,.non=>true
  | .bl a,.bl b=>a == b
  | .bl a,.int b=>(if a then 1 else 0) == b
  | .int a,.bl b=>a == (if b then 1 else 0)
  | .int a,.int b=>a == b
  | .str a,.str b=>a == b
  | _,_=>false
theorem eqAt_V {A : Around} {s : Shared} {y x : V} {u v : Value} (ry : RelV y u) (rx : RelV x v) (fy : flatV y = true) (fx : flatV x = true) : SeqAt.EqAt A s u v (eqV y x):=by
  cases y with
  | non =>
    cases ry
    cases x with
    | non=>cases rx; exact SeqAt.EqAt.same _
    | bl b=>cases rx; exact SeqAt.EqAt.none_bool b
    | int b=>obtain ⟨t,rfl⟩:=rx; exact SeqAt.EqAt.none_int b t
    | str b=>obtain ⟨t,rfl⟩:=rx; exact SeqAt.EqAt.none_str b t
    | _=>exact absurd (show false = true from fx) Bool.false_ne_true
  | bl a =>
    cases ry
    cases x with
    | non=>cases rx; exact SeqAt.EqAt.bool_none a
    | bl b=>cases rx; exact SeqAt.EqAt.bool_bool a b
    | int b=>obtain ⟨t,rfl⟩:=rx; exact SeqAt.EqAt.bool_int a b t
    | str b=>obtain ⟨t,rfl⟩:=rx; exact SeqAt.EqAt.bool_str a b t
    | _=>exact absurd (show false = true from fx) Bool.false_ne_true
  | int a =>
    obtain ⟨t',rfl⟩:=ry
    cases x with
    | non=>cases rx; exact SeqAt.EqAt.int_none a t'
    | bl b=>cases rx; exact SeqAt.EqAt.int_bool a t' b
    | int b=>obtain ⟨t,rfl⟩:=rx; exact SeqAt.EqAt.int_int a t' b t
    | str b=>obtain ⟨t,rfl⟩:=rx; exact SeqAt.EqAt.int_str a t' b t
    | _=>exact absurd (show false = true from fx) Bool.false_ne_true
  | str a =>
    obtain ⟨t',rfl⟩:=ry
    cases x with
    | non=>cases rx; exact SeqAt.EqAt.str_none a t'
    | bl b=>cases rx; exact SeqAt.EqAt.str_bool a t' b
    | int b=>obtain ⟨t,rfl⟩:=rx; exact SeqAt.EqAt.str_int a t' b t
    | str b=>obtain ⟨t,rfl⟩:=rx; exact SeqAt.EqAt.str_str a t' b t
    | _=>exact absurd (show false = true from fx) Bool.false_ne_true
  | _=>exact absurd (show false = true from fy) Bool.false_ne_true
def eqU (x : V) (u : Value) : Bool:=match u with
  | .none=>eqV .non x
  | .bool b=>eqV (.bl b) x
  | .int i _=>eqV (.int i) x
  | .str z _=>eqV (.str z) x
  | _=>false
theorem eqU_of {x y : V} {u : Value} (r : RelV y u) (f : flatV y = true) : eqU x u = eqV y x:=by
  cases y with
  | non=>cases r; rfl
  | bl b=>cases r; rfl
  | int i=>obtain ⟨t,rfl⟩:=r; rfl
  | str z=>obtain ⟨t,rfl⟩:=r; rfl
  | _=>exact absurd (show false = true from f) Bool.false_ne_true
theorem any_eqU {x : V} : ∀ {xs : List V} {us : List Value},Vals xs us→xs.all flatV = true→us.any (eqU x) = xs.any fun y=>eqV y x
  | _,_,.nil,_=>rfl
  | y :: xs,u :: us,.cons r t,f=>by
    rw [List.all_cons,Bool.and_eq_true] at f
    rw [List.any_cons,List.any_cons,eqU_of r f.1,any_eqU t f.2]
theorem mem_eqAt {A : Around} {s : Shared} {x : V} {v : Value} (rx : RelV x v) (fx : flatV x = true) : ∀ {xs : List V} {us : List Value},Vals xs us→xs.all flatV = true→∀ u ∈ us,SeqAt.EqAt A s u v (eqU x u)
  | _,_,.nil,_=>fun u hu=>by cases hu
  | y :: xs,u :: us,.cons r t,f=>fun u' hu=>by
    rw [List.all_cons,Bool.and_eq_true] at f
    rcases List.mem_cons.mp hu with rfl | hu
    · rw [eqU_of r f.1]; exact eqAt_V r rx f.1 fx
    · exact mem_eqAt rx fx t f.2 u' hu
def inV (x : V) (xs : List V) : Bool:=xs.any fun y=>eqV y x
def rIn (K : PySem.W.Frag) (neg : Bool) : R2:=fun x y H Q=>∃ p xs,y = .ref p∧(SqL K H p xs ∨ SqT K H p xs)∧flatV x = true∧xs.all flatV = true∧Q (.bl (if neg then !inV x xs else inV x xs)) H
theorem op_in_seq : OpR X (compareOp .In) (rIn X.K false):=by
  intro pins s σ H x y v u Q I rx ry h
  obtain ⟨p,xs,rfl,hq,fx,fs,q⟩:=h
  cases ry
  rcases hq with hq | hq
  · obtain ⟨its,r,pl,hz⟩:=I.list hq
    refine SeqAt.in_listAt (eqU x) pl.isList (fun w hw=>mem_eqAt rx fx r fs w (by simpa using hw)) ⟨.bl _,H,I,rfl,?_⟩
    rw [show its.toArray.any (eqU x) = its.any (eqU x) by simp,any_eqU r fs]
    exact q
  · obtain ⟨its,r,pl,hz⟩:=I.tuple hq
    refine SeqAt.in_tupleAt (eqU x) pl (fun w hw=>mem_eqAt rx fx r fs w (by simpa using hw)) ⟨.bl _,H,I,rfl,?_⟩
    rw [show its.toArray.any (eqU x) = its.any (eqU x) by simp,any_eqU r fs]
    exact q
theorem op_notIn_seq : OpR X (compareOp .NotIn) (rIn X.K true):=by
  intro pins s σ H x y v u Q I rx ry h
  obtain ⟨p,xs,rfl,hq,fx,fs,q⟩:=h
  cases ry
  rcases hq with hq | hq
  · obtain ⟨its,r,pl,hz⟩:=I.list hq
    refine SeqAt.notIn_listAt (eqU x) pl.isList (fun w hw=>mem_eqAt rx fx r fs w (by simpa using hw)) ⟨.bl _,H,I,rfl,?_⟩
    rw [show its.toArray.any (eqU x) = its.any (eqU x) by simp,any_eqU r fs]
    exact q
  · obtain ⟨its,r,pl,hz⟩:=I.tuple hq
    refine SeqAt.notIn_tupleAt (eqU x) pl (fun w hw=>mem_eqAt rx fx r fs w (by simpa using hw)) ⟨.bl _,H,I,rfl,?_⟩
    rw [show its.toArray.any (eqU x) = its.any (eqU x) by simp,any_eqU r fs]
    exact q
theorem call_len_seq : CallR X (.builtin "len") (fun xs H Q=>∃ p ys,xs = [.ref p]∧(SqL X.K H p ys ∨ SqT X.K H p ys)∧Q (.int ys.length) H):=by
  intro pins s σ H xs us Q I r h
  obtain ⟨p,ys,rfl,hq,q⟩:=h
  obtain ⟨u,rfl,rx⟩:=vals1 r
  cases rx
  have hn:=line63
  rcases hq with hq | hq
  · obtain ⟨its,r',pl,hz⟩:=I.list hq
    have hlen:=r'.length
    exact Calls.call_len_list pl.isList (by simp only [List.size_toArray] <;> omega) ⟨.int ys.length,H,I.tok _,⟨s.toks + 1,by rw [List.size_toArray,hlen]⟩,q⟩
  · obtain ⟨its,r',pl,hz⟩:=I.tuple hq
    have hlen:=r'.length
    exact len_tuple pl (by simp only [List.size_toArray] <;> omega) ⟨.int ys.length,H,I.tok _,⟨s.toks + 1,by rw [List.size_toArray,hlen]⟩,q⟩
theorem call_len_str : CallR X (.builtin "len") (fun xs H Q=>∃ z,xs = [.str z]∧z.length ≤ sizeLine∧Q (.int z.length) H):=by
  intro pins s σ H xs us Q I r h
  obtain ⟨z,rfl,hz,q⟩:=h
  obtain ⟨u,rfl,t,rfl⟩:=vals1 r
  have hn:=line63
  exact len_str (by omega) ⟨.int z.length,H,I.tok _,⟨_,rfl⟩,q⟩
theorem CallR.or {f : Value} {r r' : List V→Hp→VK→Prop} (h : CallR X f r) (h' : CallR X f r') : CallR X f (fun xs H Q=>r xs H Q ∨ r' xs H Q):=by
  intro pins s σ H xs us Q I rs q
  rcases q with q | q
  · exact h pins s σ H xs us Q I rs q
  · exact h' pins s σ H xs us Q I rs q
theorem call_list_of : CallR X (.type "list") (fun xs H Q=>∃ p ys,xs = [.ref p]∧(SqL X.K H p ys ∨ SqT X.K H p ys)∧∀ l,H l = none→Q (.ref l) (upd H l (.lst ys))):=by
  intro pins s σ H xs us Q I r h
  obtain ⟨p,ys,rfl,hq,q⟩:=h
  obtain ⟨u,rfl,rx⟩:=vals1 r
  cases rx
  have fin : ∀ (its : List Value),Vals ys its→ys.length ≤ sizeLine→∀ (h' : Heap) (c' : Nat),(∀ b o',s.heap.get? b = some o'→h'.get? b = some o') →
      h'.get? s.heap.objs.size = some { cls:=.type "list",dict:=none,data:=.seq its.toArray c',slots:=#[] }→EP X pins σ Q (.ref s.heap.objs.size) { s with heap:=h' }:=fun its r' hz h' c' kp e =>
    ⟨.ref s.heap.objs.size,_,I.laid (t':=s.toks) kp (Nat.le_refl _) (show ObjOk X.prog X.w _ h' _ (.lst ys) from ⟨hz,its,c',r',e⟩),rfl,q _ (I.hok.fresh (Nat.le_refl _))⟩
  rcases hq with hq | hq
  · obtain ⟨its,r',pl,hz⟩:=I.list hq
    have hlen:=r'.length
    obtain ⟨o,ho,hc,n,hd⟩:=pl.isList
    exact call_list_seq p (.inl rfl) ho hc hd (fun h' c' kp e=>fin its r' hz h' c' kp e) (by simp only [List.size_toArray] <;> omega)
  · obtain ⟨its,r',pl,hz⟩:=I.tuple hq
    have hlen:=r'.length
    obtain ⟨o,ho,hc,n,hd⟩:=pl
    exact call_list_seq p (.inr rfl) ho hc hd (fun h' c' kp e=>fin its r' hz h' c' kp e) (by simp only [List.size_toArray] <;> omega)
theorem call_tuple_of : CallR X (.type "tuple") (fun xs H Q=>∃ p ys,xs = [.ref p]∧((SqL X.K H p ys∧∀ l,H l = none→Q (.ref l) (upd H l (.tup ys))) ∨ (SqT X.K H p ys∧Q (.ref p) H))):=by
  intro pins s σ H xs us Q I r h
  obtain ⟨p,ys,rfl,h⟩:=h
  obtain ⟨u,rfl,rx⟩:=vals1 r
  cases rx
  rcases h with ⟨hq,q⟩ | ⟨hq,q⟩
  · obtain ⟨its,r',pl,hz⟩:=I.list hq
    have hlen:=r'.length
    refine call_tuple_list pl.isList (fun h' kp=>?_) (by simp only [List.size_toArray] <;> omega)
    have I1 : Inv X pins σ H { s with heap:=h' }:=I.kept (t':=s.toks) kp
    have I2 : Inv X pins σ (upd H h'.objs.size (.tup ys)) { s with heap:=h'.push { cls:=.type "tuple",data:=.seq its.toArray } } :=
      I1.laid (t':=s.toks) (fun b o e=>Heap.get?_push_of_some _ e) (Nat.le_refl _) (show ObjOk X.prog X.w _ _ _ (.tup ys) from ⟨hz,its,r',IsTN.new _ _⟩)
    exact ⟨.ref h'.objs.size,_,I2,rfl,q _ (I1.hok.fresh (Nat.le_refl _))⟩
  · obtain ⟨its,r',pl,hz⟩:=I.tuple hq
    exact call_tuple_same pl ⟨.ref p,H,I,rfl,q⟩
def tyV (K : PySem.W.Frag) (T : String) (x : V) (H : Hp) : Prop:=match x with
  | .str _=>T = "str"
  | .int _=>T = "int"
  | .ref p=>(T = "list"∧∃ xs,SqL K H p xs) ∨ (T = "tuple"∧∃ o,K.lookup p = some o∧o.cls = .type "tuple"∧o.dict = none) ∨
      (T = "dict"∧((∃ kvs,H p = some (.dK kvs)) ∨ ∃ kvs,H p = some (.dT kvs))) ∨ (T = "set"∧∃ S n,H p = some (.set S n))
  | _=>False
theorem tyV_is {pins : List (Addr × Obj)} {σ : St} {H : Hp} {s : Shared} {T : String} {x : V} {v : Value} (I : Inv X pins σ H s) (r : RelV x v) (ty : tyV X.K T x H) :
    s.TypeIs v T∧∀ a,v = .ref a→∃ ob,s.heap.get? a = some ob∧ob.dict = none:=by
  cases x with
  | str z =>
    obtain ⟨t,rfl⟩:=r
    cases (show T = "str" from ty)
    exact ⟨typeIs_str s z t,fun _ e=>nomatch e⟩
  | int i =>
    obtain ⟨t,rfl⟩:=r
    cases (show T = "int" from ty)
    exact ⟨typeIs_int s i t,fun _ e=>nomatch e⟩
  | ref p =>
    cases r
    rcases ty with ⟨rfl,xs,hq⟩ | ⟨rfl,o,hk,hc,hd⟩ | ⟨rfl,hk⟩ | ⟨rfl,S,n,hk⟩
    · obtain ⟨its,_,pl,_⟩:=I.list hq
      refine ⟨pl.isList.typeIs,fun a e=>?_⟩
      cases e
      obtain ⟨o,n,e,c,hd,_⟩:=pl
      exact ⟨o,e,hd⟩
    · refine ⟨⟨o,I.kIn p o hk,hc⟩,fun a e=>?_⟩
      cases e
      exact ⟨o,I.kIn _ o hk,hd⟩
    · have z : ∃ o,s.heap.get? p = some o∧o.ExactDict:=by
        rcases hk with ⟨kvs,hk⟩ | ⟨kvs,hk⟩
        · obtain ⟨_,_,_,_,o,_,_,e,ex,_⟩:=I.hok p _ hk
          exact ⟨o,e,ex⟩
        · obtain ⟨_,_,_,_,o,_,_,e,ex,_⟩:=I.hok p _ hk
          exact ⟨o,e,ex⟩
      obtain ⟨o,e,ex⟩:=z
      refine ⟨⟨o,e,ex.1⟩,fun a e2=>?_⟩
      cases e2
      exact ⟨o,e,ex.2.1⟩
    · obtain ⟨o,_,_,_,e,ex,_⟩:=I.hok p _ hk
      refine ⟨⟨o,e,ex.1⟩,fun a e2=>?_⟩
      cases e2
      exact ⟨o,e,ex.2.1⟩
  | _=>exact False.elim ty
def tBM0 (K : PySem.W.Frag) (T : String) (r : V→List V→Hp→VK→Prop) (to : TE) : TE:=fun σ H Q=>to σ H fun x H1=>tyV K T x H1∧r x [] H1 Q
def tBM (K : PySem.W.Frag) (T : String) (r : V→List V→Hp→VK→Prop) (to : TE) (t : TA) : TE:=fun σ H Q=>to σ H fun x H1=>tyV K T x H1∧t σ H1 fun xs H2=>r x xs H2 Q
variable {o e : Expr} {es : List Expr} {to : TE} {t : TA} {name : Str} {apos cpos : Pos} {T id : String} {r : V→List V→Hp→VK→Prop}
theorem pe_bm0 (pa : PlainAttrs T) (slot : Slot T name id) (hty : typeOf (.builtin id) = pure (.type "method_descriptor")) (hm : MtR X id r) (ho : PE X o to)
    (hbase : attributeBase o name X.env (eval o X.env) = eval o X.env:=by rfl) (hline : (apos.endLine == cpos.line) = true:=by rfl) : PE X (.Call (.Attribute o name apos) [] [] cpos) (tBM0 X.K T r to):=by
  intro pins s σ H Q I h
  refine wpAny_Call_method0_late hbase hline (thn (ho pins s σ H _ I h) fun v s1 ⟨x,H1,I1,r1,ty,q1⟩=>?_)
  obtain ⟨h1,h2⟩:=tyV_is I1 r1 ty
  exact ⟨T,id,pa,slot,hty,h1,h2,Calls.callWith_builtin rfl (PySem.evalArgs_none (hm pins s1 σ H1 x [] v [] Q I1 r1 .nil q1))⟩
theorem pe_bm (pa : PlainAttrs T) (slot : Slot T name id) (hty : typeOf (.builtin id) = pure (.type "method_descriptor")) (hm : MtR X id r) (ho : PE X o to) (ha : PA X (e :: es) t)
    (hbase : attributeBase o name X.env (eval o X.env) = eval o X.env:=by rfl)
    (hfew : ((backTo cpos (starEach (e :: es) X.env)).all (fun x=>!x.1) && (backToKw cpos (keywordEach [] X.env)).all (fun x=>x.1.isSome)
      && decide ((e :: es).length + ([] : List Keyword).length + (if ([] : List Keyword).isEmpty then 0 else 1) < 30)) = true:=by rfl)
    (hline : (apos.endLine == cpos.line) = true:=by rfl) (hs : starEach (e :: es) X.env = (false,eval e X.env) :: starEach es X.env:=by rfl) (hplain : (backTo cpos (starEach es X.env)).any (·.1) = false:=by rfl) :
    PE X (.Call (.Attribute o name apos) (e :: es) [] cpos) (tBM X.K T r to t):=by
  intro pins s σ H Q I h
  refine wpAny_Call_method_late hbase hfew hline rfl (thn (ho pins s σ H _ I h) fun v s1 ⟨x,H1,I1,r1,ty,q1⟩=>?_)
  obtain ⟨h1,h2⟩:=tyV_is I1 r1 ty
  refine ⟨T,id,pa,slot,hty,h1,h2,?_⟩
  have hA:=ha cpos pins s1 σ H1 _ I1 q1
  rw [hs] at hA ⊢
  refine Calls.callWith_builtin (by show (false || (backTo cpos (starEach es X.env)).any (·.1)) = false; rw [hplain] <;> rfl) (Calls.evalArgs_plain ?_)
  exact thn hA fun us s2 ⟨vs,H2,I2,r2,q2⟩=>hm pins s2 σ H2 x vs v us Q I2 r1 r2 q2
/- xs.append(e),list.index on a module's tuple .. are MtR facts of 06m -/
end
end L2
namespace L2
open PySem PySem.Spec PyProof.Rows
def MtM (X : Cx) (id : String) (r : V→List V→Hp→VK→Prop) : Prop :=
  ∀ (pins : List (Addr × Obj)) (s : Shared) (σ : St) (H : Hp) (x : V) (xs : List V) (v : Value) (us : List Value) (Q : VK),Inv X pins σ H s→RelV x v→Vals xs us→r x xs H Q →
    wpAny (model X.prog X.w) X.A (call (.builtin id) (v :: us)) (EP X pins σ Q) X.xe s
theorem Vals.one : ∀ {x : V} {us : List Value},Vals [x] us→∃ u,us = [u]∧RelV x u
  | _,_,.cons r .nil=>⟨_,rfl,r⟩
theorem Vals.two : ∀ {x y : V} {us : List Value},Vals [x,y] us→∃ u v,us = [u,v]∧RelV x u∧RelV y v
  | _,_,_,.cons r (.cons q .nil)=>⟨_,_,rfl,r,q⟩
theorem Vals.zero : ∀ {us : List Value},Vals [] us→us = []
  | _,.nil=>rfl
theorem Vals.dropLast {xs : List V} {us : List Value} (h : Vals xs us) : Vals xs.dropLast us.dropLast:=by
  induction h with
  | nil=>exact .nil
  | cons r t ih =>
    cases t with
    | nil=>exact .nil
    | cons q t'=>exact .cons r ih
theorem Vals.reverse {xs : List V} {us : List Value} (h : Vals xs us) : Vals xs.reverse us.reverse:=by
  induction h with
  | nil=>exact .nil
  | cons r t ih=>rw [List.reverse_cons,List.reverse_cons]; exact Vals.append ih (.cons r .nil)
theorem erase_last {α : Type} (l : List α) : l.eraseIdx (l.length - 1) = l.dropLast:=by
  induction l with
  | nil=>rfl
  | cons a r ih =>
    cases r with
    | nil=>rfl
    | cons b r =>
      have e : (a :: b :: r).length - 1 = ((b :: r).length - 1) + 1:=by
        have h1 : (a :: b :: r).length = r.length + 2:=rfl
        have h2 : (b :: r).length = r.length + 1:=rfl
        omega
      rw [e,List.eraseIdx_cons_succ,ih]
      all_goals rfl
section
variable {X : Cx} {pins : List (Addr × Obj)} {σ : St} {H : Hp} {s : Shared} {l b : Addr} {xs ys zs : List V}
theorem Inv.lset {its its' : List Value} {n : Nat} {f : Array Value→Array Value} {t' : Nat} (I : Inv X pins σ H s) (hH : H l = some (.lst xs))
    (e : s.heap.get? l = some { cls:=.type "list",data:=.seq its.toArray n }) (hf : f its.toArray = its'.toArray) (hv : Vals ys its') (hz : ys.length ≤ sizeLine) :
    Inv X pins σ (upd H l (.lst ys)) { s with heap:=s.heap.update l (Obj.mapSeq f),toks:=t' }:=by
  have q:=PySem.IsL.update e f
  rw [hf] at q
  refine I.write (x:=l) (e:=l) (by rw [hH]; exact trivial) (.inl rfl) (fun b' u hb hu=>(Heap.get?_update_other s.heap (Obj.mapSeq f) (Ne.symm hb)).trans hu) ⟨_,q⟩ ?_
  exact ⟨hz,its',_,hv,q⟩
theorem Inv.lnew {its : List Value} {t' : Nat} (I : Inv X pins σ H s) (hv : Vals ys its) (hz : ys.length ≤ sizeLine) :
    Inv X pins σ (upd H s.heap.objs.size (.lst ys)) { s with heap:=s.heap.push { cls:=.type "list",data:=.seq its.toArray },toks:=t' } :=
  I.laid (fun _ _ q=>Heap.get?_push_of_some _ q) (Nat.le_refl _) ⟨hz,its,0,hv,Heap.get?_push_size _ rfl⟩
theorem Inv.fresh (I : Inv X pins σ H s) : H s.heap.objs.size = none:=I.hok.fresh (Nat.le_refl _)
theorem Inv.lstM (I : Inv X pins σ H s) (hH : H l = some (.lst xs)) : xs.length ≤ sizeLine∧∃ (its : List Value) (n : Nat),Vals xs its∧xs.length = its.length∧s.heap.get? l = some { cls:=.type "list",data:=.seq its.toArray n }:=by
  obtain ⟨z,its,n,r,e⟩:=I.hok l _ hH
  exact ⟨z,its,n,r,r.length,e⟩
theorem notLongL {n : Nat} (h : n ≤ sizeLine) : Builtin.List.listTooLong n = false:=by
  unfold Builtin.List.listTooLong
  exact decide_eq_false (by omega)
end
section
variable {X : Cx}
def rAppend : V→List V→Hp→VK→Prop:=fun x vs H Q=>∃ l xs y,x = .ref l∧vs = [y]∧H l = some (.lst xs)∧xs.length < sizeLine∧Q .non (upd H l (.lst (xs ++ [y])))
theorem mt_append : MtM X "list.append" rAppend:=by
  intro pins s σ H x vs v us Q I rx rv h
  obtain ⟨l,xs,y,rfl,rfl,hH,hz,q⟩:=h
  cases rx
  obtain ⟨u,rfl,ru⟩:=rv.one
  obtain ⟨z,its,n,r,hl,e⟩:=I.lstM hH
  refine call_meets F.slot_list_append ⟨_,e,rfl⟩ F.entry_list_append (F.args_list_append_2 _ _) (PySem.list_append l its.toArray n u (by rw [List.size_toArray]; omega)) ⟨e,?_⟩
  refine ⟨.non,_,I.lset (its':=its ++ [u]) hH e (by simp) (r.append (.cons ru .nil)) ?_,rfl,q⟩
  rw [List.length_append,List.length_singleton]
  omega
def rExtend : V→List V→Hp→VK→Prop:=fun x vs H Q=>∃ l b xs zs,x = .ref l∧vs = [.ref b]∧H l = some (.lst xs)∧H b = some (.lst zs)∧xs.length + zs.length ≤ sizeLine∧Q .non (upd H l (.lst (xs ++ zs)))
theorem mt_extend : MtM X "list.extend" rExtend:=by
  intro pins s σ H x vs v us Q I rx rv h
  obtain ⟨l,b,xs,zs,rfl,rfl,hH,hB,hz,q⟩:=h
  cases rx
  obtain ⟨u,rfl,ru⟩:=rv.one
  cases ru
  obtain ⟨z,its,n,r,hl,e⟩:=I.lstM hH
  obtain ⟨z2,its2,n2,r2,hl2,e2⟩:=I.lstM hB
  have hsz : its.toArray.size + its2.toArray.size ≤ sizeLine:=by rw [List.size_toArray,List.size_toArray]; omega
  have hlong : ¬ (!its.toArray.isEmpty && Builtin.List.listTooLong (its.toArray.size + its2.toArray.size)) = true:=by
    rw [notLongL hsz,Bool.and_false]
    exact Bool.false_ne_true
  refine call_meets F.slot_list_extend ⟨_,e,rfl⟩ F.entry_list_extend (F.args_list_extend_2 _ _)
    (AutoSeq1.list_extend_list_list_0 l its.toArray n b its2.toArray n2 hlong (by rw [List.size_toArray]; omega) (by omega)) ⟨e,e2,?_⟩
  refine ⟨.non,_,I.lset (its':=its ++ its2) hH e (by simp) (r.append r2) ?_,rfl,q⟩
  rw [List.length_append]
  omega
def rPop : V→List V→Hp→VK→Prop:=fun x vs H Q=>∃ l xs y,x = .ref l∧vs = []∧H l = some (.lst xs)∧xs[xs.length - 1]? = some y∧Q y (upd H l (.lst xs.dropLast))
theorem mt_pop : MtM X "list.pop" rPop:=by
  intro pins s σ H x vs v us Q I rx rv h
  obtain ⟨l,xs,y,rfl,rfl,hH,hy,q⟩:=h
  cases rx
  have hus:=rv.zero
  subst hus
  obtain ⟨z,its,n,r,hl,e⟩:=I.lstM hH
  obtain ⟨u,hu,ru⟩:=r.get hy
  have hy' : its.toArray[its.toArray.size - 1]? = some u:=by
    show its.toArray[its.length - 1]? = some u
    rw [← Array.getElem?_toList,← hl]
    exact hu
  refine call_meets F.slot_list_pop ⟨_,e,rfl⟩ F.entry_list_pop (F.args_list_pop_1 _) (MeetsSeq.list_pop_last l its.toArray n u hy' (by rw [List.size_toArray]; omega)) ⟨e,?_⟩
  refine ⟨y,_,I.lset (its':=its.dropLast) hH e ?_ r.dropLast ?_,ru,q⟩
  · show its.toArray.eraseIdxIfInBounds (its.toArray.size - 1) = its.dropLast.toArray
    rw [List.size_toArray,List.eraseIdxIfInBounds_toArray,erase_last]
  · rw [List.length_dropLast]
    omega
def rReverse : V→List V→Hp→VK→Prop:=fun x vs H Q=>∃ l xs,x = .ref l∧vs = []∧H l = some (.lst xs)∧Q .non (upd H l (.lst xs.reverse))
theorem mt_reverse : MtM X "list.reverse" rReverse:=by
  intro pins s σ H x vs v us Q I rx rv h
  obtain ⟨l,xs,rfl,rfl,hH,q⟩:=h
  cases rx
  have hus:=rv.zero
  subst hus
  obtain ⟨z,its,n,r,hl,e⟩:=I.lstM hH
  refine call_meets F.slot_list_reverse ⟨_,e,rfl⟩ F.entry_list_reverse (F.args_list_reverse_1 _) (AutoSeq1.list_reverse_list_0 l its.toArray n (by rw [List.size_toArray]; omega)) ⟨e,?_⟩
  refine ⟨.non,_,I.lset (its':=its.reverse) hH e (by simp) r.reverse ?_,rfl,q⟩
  rw [List.length_reverse]
  omega
def rCat : R2:=fun x y H Q=>∃ l b xs zs,x = .ref l∧y = .ref b∧H l = some (.lst xs)∧H b = some (.lst zs)∧xs.length + zs.length ≤ sizeLine∧∀ p,H p = none→Q (.ref p) (upd H p (.lst (xs ++ zs)))
theorem op_cat : OpR X (binaryOp .Add) rCat:=by
  intro pins s σ H x y v u Q I rx ry h
  obtain ⟨l,b,xs,zs,rfl,rfl,hH,hB,hz,q⟩:=h
  cases rx
  cases ry
  obtain ⟨z,its,n,r,hl,e⟩:=I.lstM hH
  obtain ⟨z2,its2,n2,r2,hl2,e2⟩:=I.lstM hB
  refine PySem.P.add_list e e2 ?_ (by rw [List.size_toArray,List.size_toArray]; omega)
  have ea : its.toArray ++ its2.toArray = (its ++ its2).toArray:=by simp
  rw [ea]
  exact ⟨.ref _,_,I.lnew (t':=s.toks) (r.append r2) (by rw [List.length_append]; omega),rfl,q _ I.fresh⟩
end
section
variable {prog : Program} {w : World} {A : Around} {E : Value→Shared→Prop} {s : Shared}
end
section
variable {X : Cx}
end
end L2
namespace Att
open PySem PySem.W PySem.Calls PyProof.Rows
theorem ints_of_wellAll {P : Params} {h : Heap} : ∀ (ns : List Int) (vs : List Value),WellAll P h vs (ns.map WData.int)→IntsAre vs ns:=by
  intro ns
  induction ns with
  | nil =>
    intro vs w
    rw [List.map_nil] at w
    cases w
    exact .nil
  | cons n ns ih =>
    intro vs w
    rw [List.map_cons] at w
    cases w with
    | cons a b =>
      cases a
      exact .cons _ _ (ih _ b)
theorem script_of {l : OpenLaw} {n : Nat} (hn : l.most = some n) {P : Params} {h : Heap} {args : List WData} {vals : List Value}
    (hpre : l.row.toRowW.claim.pre args = true) (hwl : WellAll P h vals args) :
    ∃ a vs ns,vals = [Value.ref a]∧args = [WData.list (ns.map WData.int)]∧h.get? a = some { cls:=.type "list",data:=.seq vs.toArray }∧IntsAre vs ns∧ns.length ≤ n:=by
  have hsh : WShape.hasAll [] args [.list .int] = true:=(pre_splitW hpre).1
  have hc : l.pre.holds [] { args:=args } = true:=(pre_splitW hpre).2
  obtain ⟨d,r,rfl,h1,h2⟩:=hasAllW_cons hsh
  obtain rfl:=hasAllW_nil h2
  obtain ⟨xs,rfl,h3⟩:=hasW_list h1
  obtain ⟨ns,rfl⟩:=items_int h3
  have hlen : ns.length ≤ n:=by
    unfold OpenLaw.pre at hc
    have h4 : (WTm.not (.lt (.lit (.int (n : Int))) (.len (.arg 0)))).holds [] { args:=[.list (ns.map .int)] } = true:=by
      have h4:=(holds_andW hc).1
      rw [hn] at h4
      exact h4
    have h5:=condW_of h4 (w_not (w_lt w_lit (w_len_list (w_arg rfl))))
    rw [List.length_map] at h5
    refine Nat.le_of_not_lt fun q=>?_
    have q' : (n : Int) < ((ns.length : Nat) : Int):=by omega
    first
      | (rw [decide_eq_true q'] at h5; exact absurd h5 (by decide))
      | (simp at h5; omega)
  cases hwl with
  | cons w1 w2 =>
    cases w2
    cases w1 with
    | list ho hall=>exact ⟨_,_,ns,rfl,rfl,ho,ints_of_wellAll ns _ hall,hlen⟩
theorem post_true (l : OpenLaw) (args : List WData) : l.row.toRowW.claim.post args (.bool true) args = true :=
  postW_of (r:=l.row.toRowW) (X:=(true == true))
    (show WShape.has [] (.bool true) .bool = true by first | rfl | decide | simp [WShape.has,WShape.arms,WShape.armsAll])
    (show (WTm.eq .res (.lit (.bool true))).value [] { args:=args,res:=some (.bool true),after:=args } = some (.bool (true == true)) from w_eq_bool (w_res rfl) w_lit) rfl
theorem attach_call {l : OpenLaw} {n : Nat} {q : Program} {loose : List Str} {XP : (Str→Option Value)→Heap→Prop} {YP : World→Heap→Prop} {d : DefRec}
    (hn : l.most = some n) (hdf : d.params.defaults = [])
    (call : ∀ (w : World) (s₀ s₁ : Shared) (mg mb : Str→Option Value) (fa : Addr) (o : Obj) (pm cd doc : Value) (a : Addr) (vs : List Value) (ns : List Int),
      Ground q loose [] XP w s₀ mg mb s₁.heap→YP w s₁.heap →
      s₁.heap.get? fa = some o→o.data = .func (docDef d.name d.params d.body d.scope pm cd doc)→s₁.heap.CodeRec cd d.name→mg d.name = some (.ref fa) →
      s₁.heap.get? a = some { cls:=.type "list",data:=.seq vs.toArray }→IntsAre vs ns→ns.length ≤ n→s₁.gens = #[] →
      codeAny (model l.prog w) callerA (.call (.ref fa) ⟨[.ref a],[]⟩) (fun r s'=>r = .ok (.ret (.bool true))∧OldK s₁.heap s'.heap∧s'.os = s₁.os∧AllBare s'.gens) s₁) :
    WalkO q loose XP YP l.row.toRowW d [] (fun f vs=>PySem.call f vs):=by
  intro w s₀ s₁ mg mb G Y fa o pm cd doc dV kV ho hd hcd hD hmg hg args vals as hpre hlay hrd hwl hlo
  obtain rfl : dV = .none:=Dflts.none hD hdf
  obtain rfl : kV = .none:=Dflts.noKw hD
  obtain ⟨a,vs,ns,rfl,rfl,hobj,hints,hlen⟩:=script_of hn hpre hwl
  refine enter_call (codeAny_mono (call w s₀ s₁ mg mb fa o pm cd doc a vs ns G Y ho (fd_plain hd) hcd hmg hobj hints hlen hg) fun r s' hq=>?_)
  obtain ⟨rfl,h2,h3,h4⟩:=hq
  exact ⟨.inl ⟨.bool true,.bool true,[],rfl,fun _=>rfl,.bool true,post_true l _,fun _=>⟨List.Pairwise.nil,fun _ hm=>(nomatch hm)⟩⟩,h2,h3,h4⟩
section
variable {prog : Program} {w : World} {A : Around} {E : Value→Shared→Prop} {s : Shared} {K : Frag}
end
end Att
namespace L2
open PySem PySem.Spec PyProof.Rows
theorem vals_ints : ∀ {vs : List Value} {ns : List Int},IntsAre vs ns→Vals (ns.map V.int) vs
  | _,_,.nil=>.nil
  | _,_,.cons n t h=>.cons ⟨t,rfl⟩ (vals_ints h)
def Only (H : Hp) : Prop:=∀ b,H b = none ∨ ∃ o xs,H b = some (.frz o (.lst xs))
theorem law_call {P : Program} {w : World} {K : PySem.W.Frag} {mg mb : Str→Option Value} {CX : CXT} {k : Nat} {fa a : Addr} {fd : FuncData} {x : Str} {sp : Sp} {s₁ : Shared} {vs : List Value} {ns : List Int}
    (KX : K.In s₁.heap) (hns : s₁.heap.Ns mainGlobals mg) (hb : s₁.heap.Ns builtinsNs mb) (hbb : ∀ x : Str,x ≠ "__name__"→mb x = bootBuiltins x) (hlim : s₁.heap.NoLimit) (hg : s₁.gens = #[])
    (ha : s₁.heap.get? a = some { cls:=.type "list",data:=.seq vs.toArray }) (hi : IntsAre vs ns) (hl : ns.length ≤ sizeLine) (hr : Room k callerA)
    (F : ∀ base : Heap,K.In base→base.Ns mainGlobals mg→FnOk P w K mg base CX k fa fd [x] sp) (hbind : ∀ (s : Shared) (u : Value),BindsTo s fd ⟨[u],[]⟩ [(x,u)])
    (hsp : ∀ H : Hp,Only H→SqL K H a (ns.map V.int)→sp [.ref a] H (fun v _=>v = .bl true) fun _ _ _=>False)
    (hCX : ∀ H e s',CX [] H s₁ (fun _ _ _=>False) e s'→False) :
    codeAny (model P w) callerA (.call (.ref fa) ⟨[.ref a],[]⟩) (fun r s'=>r = .ok (.ret (.bool true))∧OldK s₁.heap s'.heap∧s'.os = s₁.os∧AllBare s'.gens) s₁:=by
  have rv:=vals_ints hi
  have lenV:=hi.length
  -- from an abstract heap in which nothing but the script may be tracked
  have core : ∀ H : Hp,Only H→SqL K H a (ns.map V.int)→HOk P w H s₁.heap→(∀ b,H b ≠ none→b = a)→(H a ≠ none→K.lookup a = none) →
      codeAny (model P w) callerA (.call (.ref fa) ⟨[.ref a],[]⟩) (fun r s'=>r = .ok (.ret (.bool true))∧OldK s₁.heap s'.heap∧s'.os = s₁.os∧AllBare s'.gens) s₁:=by
    intro H hO hS hok hA hK
    have base_of : ∀ {b : Addr} {o : Obj},s₁.heap.get? b = some o→H b = none→(hidT s₁.heap H).get? b = some o:=fun e n=>hidT_get e n
    have noA : ∀ {b : Addr} {o : Obj} {es : Array DictEntry} {ep : Nat},s₁.heap.get? b = some o→o.data = .dict es ep→H b = none:=fun {b o es ep} e d=>by
      cases q : H b with
      | none=>rfl
      | some u =>
        have e' : b = a:=hA b (by rw [q]; simp)
        subst e'
        rw [ha] at e; cases e
        have d' : Data.seq vs.toArray _ = Data.dict es ep:=d
        cases d'
    have nsK : ∀ {b : Addr} {m : Str→Option Value},s₁.heap.Ns b m→(hidT s₁.heap H).Ns b m:=fun {b m} ⟨o,es,ep,e,d,r⟩=>⟨o,es,ep,base_of e (noA e d),d,r⟩
    have hKb : K.In (hidT s₁.heap H):=fun b o e=>base_of (KX b o e) (by
      cases q : H b with
      | none=>rfl
      | some u =>
        have e' : b = a:=hA b (by rw [q]; simp)
        subst e'
        rw [hK (by rw [q]; simp)] at e; cases e)
    have hM : Mod K mg (hidT s₁.heap H):=⟨hKb,nsK hns,⟨mb,nsK hb,hbb⟩,let ⟨mc,h1,h2⟩:=hlim; ⟨mc,nsK h1,h2⟩⟩
    have e0 : Env0 P w K mg (hidT s₁.heap H) callerA [] s₁ H:=⟨rfl,hM,fun b o e=>of_hidT e,Nat.le_of_eq (hidT_size _ _),trivial,fun b hb=>absurd (show b ∈ ([] : List Addr) from hb) (by simp),hok,.of_eq hg⟩
    refine codeAny_mono ((F _ hKb (nsK hns)).run callerA [] s₁ H ⟨[.ref a],[]⟩ [.ref a] [.ref a] _ _ hr e0 (hbind s₁ (.ref a)) (.cons rfl .nil) (hsp H hO hS)) fun r s' h=>?_
    cases r with
    | error e=>exact (hCX H e s' h).elim
    | ok fl =>
      cases fl with
      | next=>exact False.elim h
      | brk=>exact False.elim h
      | cont=>exact False.elim h
      | ret u =>
        obtain ⟨v,H',os,bare,un,hok',r',q⟩:=h
        have q' : v = .bl true:=q
        subst q'
        obtain rfl : u = Value.bool true:=r'
        refine ⟨rfl,OldK.of_keep fun b o e=>?_,os,bare⟩
        cases q : H b with
        | none=>exact un.keep b o e q (by intro z; exact absurd (show b ∈ ([] : List Addr) from z) (by simp)) (by simp)
        | some u =>
          rcases hO b with z | ⟨ob,xs,z⟩
          · rw [q] at z; cases z
          · have z2:=un.frzs b ob _ z
            obtain ⟨e1,_⟩:=hok b _ z
            obtain ⟨e2,_⟩:=hok' b _ z2
            rw [e] at e1; cases e1
            exact e2
  cases hk : K.lookup a with
  | some o =>
    -- the script is one of the module's own objects
    have e:=KX a o hk
    rw [ha] at e
    cases e
    refine core (fun _=>none) (fun _=>.inl rfl) (.inr ⟨_,vs.toArray,_,hk,rfl,rfl,rfl,by rw [List.size_toArray,lenV]; exact hl,by simpa using rv⟩) (fun b u z=>by have z' : (none : Option HO) = some u:=z; cases z') (fun b z=>absurd rfl z) fun z=>absurd rfl z
  | none =>
    refine core (fun b=>if b = a then some (.frz { cls:=.type "list",data:=.seq vs.toArray } (.lst (ns.map V.int))) else none) (fun b=>?_) (.inl (.inr ⟨{ cls:=.type "list",data:=.seq vs.toArray },if_pos rfl⟩)) (fun b u z=>?_) (fun b z=>?_) fun _=>hk
    · by_cases hb : b = a
      · exact .inr ⟨_,_,if_pos hb⟩
      · exact .inl (if_neg hb)
    · by_cases hb : b = a
      · have z':=(if_pos hb).symm.trans z
        cases z'
        subst hb
        exact ⟨ha,by rw [List.length_map]; exact hl,vs,_,rv,ha⟩
      · have z':=(if_neg hb).symm.trans z
        cases z'
    · by_cases hb : b = a
      · exact hb
      · exact absurd (if_neg hb) z
end L2
namespace L2
open PySem PySem.Spec PyProof.Rows
abbrev KOf {K : PySem.W.Frag} {h : Heap} (_ : K.In h) : PySem.W.Frag:=K
theorem walk_of {l : PySem.W.OpenLaw} {n k : Nat} {q : Program} {loose : List Str} {XP : (Str→Option Value)→Heap→Prop} {YP : World→Heap→Prop} {d : DefRec} {K : Params→PySem.W.Frag} {CX : World→CXT} {sp : World→Sp} {x : Str}
    (hn : l.most = some n) (hn2 : n ≤ sizeLine) (hdf : d.params.defaults = []) (hr : Room k callerA)
    (hY : ∀ (w : World) (h : Heap),YP w h→(K w.params).In h)
    (F : ∀ (w : World) (mg : Str→Option Value) (fa : Addr) (h : Heap),(K w.params).In h→h.Ns mainGlobals mg→mg d.name = some (.ref fa) →
      ∃ fd : FuncData,(∀ (s : Shared) (u : Value),BindsTo s fd ⟨[u],[]⟩ [(x,u)]) ∧
        ∀ base : Heap,(K w.params).In base→base.Ns mainGlobals mg→FnOk l.prog w (K w.params) mg base (CX w) k fa fd [x] (sp w))
    (hsp : ∀ (w : World) (H : Hp) (a : Addr) (ns : List Int),ns.length ≤ n→Only H→SqL (K w.params) H a (ns.map V.int)→sp w [.ref a] H (fun v _=>v = .bl true) fun _ _ _=>False)
    (hCX : ∀ (w : World) (H : Hp) (s : Shared) (e : Value) (s' : Shared),CX w [] H s (fun _ _ _=>False) e s'→False) :
    PySem.W.WalkO q loose XP YP l.row.toRowW d [] (fun f vs=>PySem.call f vs):=by
  refine Att.attach_call hn hdf fun w s₀ s₁ mg mb fa o pm cd doc a vs ns G Y ho hd hcd hmg hobj hints hlen hg=>?_
  have KX:=hY w _ Y
  obtain ⟨fd,hb,hF⟩:=F w mg fa _ KX G.T.g hmg
  exact law_call KX G.T.g G.T.b G.T.builtins G.T.nolimit hg hobj hints (Nat.le_trans hlen hn2) hr hF hb (fun H hO hS=>hsp w H a ns hlen hO hS) fun H e s'=>hCX w H s₁ e s'
theorem walk_ofK {l : PySem.W.OpenLaw} {n k : Nat} {q : Program} {loose : List Str} {XP : (Str→Option Value)→Heap→Prop} {YP : World→Heap→Prop} {d : DefRec} {K : Params→PySem.W.Frag} {CX : CXT} {sp : PySem.W.Frag→Sp} {x : Str}
    (hn : l.most = some n) (hn2 : n ≤ sizeLine) (hdf : d.params.defaults = []) (hr : Room k callerA)
    (hY : ∀ (w : World) (h : Heap),YP w h→(K w.params).In h)
    (F : ∀ (w : World) (mg : Str→Option Value) (fa : Addr) (h : Heap),(K w.params).In h→h.Ns mainGlobals mg→mg d.name = some (.ref fa) →
      ∃ fd : FuncData,(∀ (s : Shared) (u : Value),BindsTo s fd ⟨[u],[]⟩ [(x,u)]) ∧
        ∀ base : Heap,(K w.params).In base→base.Ns mainGlobals mg→FnOk l.prog w (K w.params) mg base CX k fa fd [x] (sp (K w.params)))
    (hsp : ∀ (K : PySem.W.Frag) (H : Hp) (a : Addr) (ns : List Int),ns.length ≤ n→Only H→SqL K H a (ns.map V.int)→sp K [.ref a] H (fun v _=>v = .bl true) fun _ _ _=>False)
    (hCX : ∀ (H : Hp) (s : Shared) (e : Value) (s' : Shared),CX [] H s (fun _ _ _=>False) e s'→False) :
    PySem.W.WalkO q loose XP YP l.row.toRowW d [] (fun f vs=>PySem.call f vs) :=
  walk_of (K:=K) (CX:=fun _=>CX) (sp:=fun w=>sp (K w.params)) hn hn2 hdf hr hY F (fun w H a ns h1 h2 h3=>hsp (K w.params) H a ns h1 h2 h3) fun _ H s e s'=>hCX H s e s'
end L2
/- THE LAST THEOREM (shape; LID,My.* are yours):
   My.Adr: a structure of the addresses that your layer names (classes,functions); My.Txt K t: a structure (Prop) of the equations over K;
   My.txt_mk : {K} {implicit addresses ..} (e1 : nsIn K mainGlobals "law" = some (some (.ref f))) (e2 : K.lookup f = some ⟨oc,od,.func (fnOf "law" "law" params body scope dV kV doc pm an cdv ct),sl⟩) (e3 : codeIn K cdv "law" = true) .. : ∃ t,My.Txt K t
set_option maxRecDepth 100000 in
set_option maxHeartbeats 0 in
theorem PySem.Challenge.cw_LID_holds : PySem.Challenge.rw_LID.Holds:=by
  w_on; o_law; k_head; (case hw=>w_witness2)
  k_fill
  refine L2.walk_of (l:=PySem.Challenge.rw_LID) (n:=63) (k:=40) (x:="script") (CX:=fun w=>..) (sp:=fun _=>My.sp_law) rfl (by decide) rfl ⟨rfl,by decide,by decide⟩ (fun w h Y=>PySem.W.kIn_of Y) ?F ?S ?C
  case F =>
    intro w mg fa h KX G hmg
    have T : ∃ t,My.Txt (L2.KOf KX) t:=by
      dsimp only [L2.KOf]                          -- K must stand as «<heap const> w.params» for k_is
      refine' My.txt_mk ?e1 ?e2 ?e3 ..
      (case e1=>PySem.W.k_is)                    -- in the order: a name -> its address -> its object -> its parts
      (case e2=>PySem.W.k_is)
      ..
    obtain ⟨t,T⟩:=T
    have e0:=hmg.symm.trans (PySem.W.mg_of KX G T.law)
    cases e0                                       -- fa is the law's own address
    exact ⟨_,fun s u=>.of_eq rfl,fun base kb nb=>My.law_fn T kb nb⟩     -- if «.of_eq rfl» comes too early: refine' ⟨_,?b,fun base kb nb=>My.law_fn T kb nb⟩; exact fun s u=>.of_eq rfl
  case S=>exact fun w H a ns hl hO hS=>..
  case C=>exact ..
(the tactic k_is has no namespace: write k_is) -/
namespace L2
open PySem PySem.Spec PyProof.Rows
def inClass (s : Stmt) (j : Nat) : Stmt:=match s with
  | .ClassDef _ _ _ body _ _ _ _ _ _ _=>body.getD j (.Pass ⟨0,0,0,0⟩)
  | _=>.Pass ⟨0,0,0,0⟩
def defArgs (s : Stmt) : Arguments:=match s with
  | .FunctionDef _ a _ _ _ _ _ _ _ _=>a
  | _=>{ posonlyargs:=[],args:=[],vararg:=none,kwonlyargs:=[],kw_defaults:=[],kwarg:=none,defaults:=[] }
def defBody (s : Stmt) : List Stmt:=match s with
  | .FunctionDef _ _ b _ _ _ _ _ _ _=>b
  | _=>[]
def defScope (s : Stmt) : Scope:=match s with
  | .FunctionDef _ _ _ _ _ _ sc _ _ _=>sc
  | _=>{ kind:=.function,names:=[],isGenerator:=false,isCoroutine:=false }
abbrev CX0 : CXT:=fun _ _ _ _ _ _=>False
abbrev E0 : XK:=fun _ _ _=>False
theorem pass0 {X : Cx} : Passes CX0 X E0:=fun _ _ _ _ _ _ _ h=>h.elim
structure Fun (K : PySem.W.Frag) (x qual : Str) (st : Stmt) (f : Addr) (fd : FuncData) : Prop where
  ex : ∃ (oc : Value) (od : Option Addr) (kV doc pm : Value) (an : Option Addr) (cdv ct : Value) (osl : Array (Option Value)),
    fd = PySem.W.fnOf x qual (defArgs st) (defBody st) (defScope st) .none kV doc pm an cdv ct∧K.lookup f = some ⟨oc,od,.func fd,osl⟩∧PySem.W.codeIn K cdv qual = true
  kp : PySem.W.keepIn K (.ref f) = true
section
variable {P : Program} {w : World} {K : PySem.W.Frag} {mg : Str→Option Value} {base : Heap}
theorem Fun.ok {x qual : Str} {st : Stmt} {f : Addr} {fd : FuncData} {N ps : List Str} {k : Nat} {sp : Sp} (F : Fun K x qual st f fd) (S : FnScope N ps (defScope st)) (len : ∀ vs H Q E,sp vs H Q E→vs.length = ps.length)
    (hbody : ∀ (cdv : Value) (A : Around) (outer : List Env) (s : Shared) (H : Hp) (vs : List V) (Q : VK) (E : XK),Room k (A.deeper (envOfC qual (defScope st) s.heap.objs.size f cdv))→sp vs H Q E →
      ∃ t,PSs (cxOf CX0 P w K mg base N qual (defScope st) f cdv A outer s H E).nox (defBody st) t∧t { nx:=fun _ H'=>Q .non H',rt:=Q } (start N vs) H) : FnOk P w K mg base CX0 (k + 1) f fd ps sp:=by
  obtain ⟨oc,od,kV,doc,pm,an,cdv,ct,osl,rfl,lk,hcd⟩:=F.ex
  refine fn_of lk hcd S len fun A outer s H vs Q E hr hsp=>?_
  obtain ⟨t,h,q⟩:=hbody cdv A outer s H vs Q E hr hsp
  exact ⟨t,h.nox,q⟩
theorem Fun.binds {x qual : Str} {st : Stmt} {f : Addr} {fd : FuncData} {ps : List Str} (F : Fun K x qual st f fd)
    (h : ∀ (kV doc pm : Value) (an : Option Addr) (cdv ct : Value) (us : List Value),us.length = ps.length→bindArgs (PySem.W.fnOf x qual (defArgs st) (defBody st) (defScope st) .none kV doc pm an cdv ct) ⟨us,[]⟩ = pure (ps.zip us)) : Binds K fd ps []:=by
  obtain ⟨oc,od,kV,doc,pm,an,cdv,ct,osl,rfl,lk,hcd⟩:=F.ex
  exact .all (h kV doc pm an cdv ct)
theorem fun_mk {x qual : Str} {st : Stmt} {f : Addr} {oc : Value} {od an : Option Addr} {osl : Array (Option Value)} {kV doc pm cdv ct : Value} (l : K.lookup f = some ⟨oc,od,.func (PySem.W.fnOf x qual (defArgs st) (defBody st) (defScope st) .none kV doc pm an cdv ct),osl⟩)
    (c : PySem.W.codeIn K cdv qual = true) (k : PySem.W.keepIn K (.ref f) = true) : Fun K x qual st f (PySem.W.fnOf x qual (defArgs st) (defBody st) (defScope st) .none kV doc pm an cdv ct):=⟨⟨oc,od,kV,doc,pm,an,cdv,ct,osl,rfl,l,c⟩,k⟩
end
theorem hu_of {A : Around} {k : Nat} (hr : Room k A) : A.units + 1 < cLine:=Nat.lt_of_le_of_lt (Nat.add_le_add_left (by decide : 1 ≤ 64) _) hr.units
theorem small1000 {n : Nat} (h : n ≤ 1000) : n < sizeLine:=Nat.lt_of_le_of_lt h (by decide)
section
variable {X : Cx}
theorem pv (i : Nat) {x : Str} {pos : Pos} (hN : X.N[i]? = some x:=by rfl) (hv : Vis X.env.scope x:=by first | exact Or.inl rfl | exact Or.inr (Or.inl rfl) | exact Or.inr (Or.inr rfl)) (hd : (x == ("__debug__" : Str)) = false:=by decide)
    (hcd : (x == ("__classdict__" : Str)) = false:=by decide) : PE X (.Name x pos) (tVar i):=pe_var hN hv hd hcd
end
theorem iteF {A B : Prop} (h : B) : if false = true then A else B:=by
  rw [if_neg Bool.false_ne_true]
  exact h
theorem iteT {A B : Prop} (h : A) : if true = true then A else B:=by
  rw [if_pos rfl]
  exact h
theorem ite2 {c A B : Prop} [Decidable c] (h1 : c→A) (h2 : ¬ c→B) : if c then A else B:=by
  by_cases h : c
  · rw [if_pos h]
    exact h1 h
  · rw [if_neg h]
    exact h2 h
def Same (H H' : Hp) : Prop:=∀ b o,H b = some o→H' b = some o
theorem Same.refl (H : Hp) : Same H H:=fun _ _ h=>h
theorem Same.trans {H H1 H2 : Hp} (a : Same H H1) (b : Same H1 H2) : Same H H2:=fun c o h=>b c o (a c o h)
theorem Same.free {H H' : Hp} (e : Same H H') {l : Addr} (h : H' l = Option.none) : H l = Option.none:=by
  cases q : H l with
  | none=>rfl
  | some o =>
    rw [e l o q] at h
    cases h
theorem Same.seq {K : PySem.W.Frag} {H H' : Hp} {a : Addr} {xs : List V} (e : Same H H') (h : SqL K H a xs) : SqL K H' a xs:=by
  rcases h with (h | ⟨o,h⟩) | h
  · exact .inl (.inl (e _ _ h))
  · exact .inl (.inr ⟨o,e _ _ h⟩)
  · exact .inr h
end L2
set_option Elab.async false
set_option linter.all false
set_option maxRecDepth 100000
namespace PySem
open Sem (wp)
section
variable {M : Model} {prog : Program} {w : World} {A : Around} {E : Value→Shared→Prop} {R : Result→Shared→Prop} {h : Heap} {g : Array GenState} {d : Drawn} {t : Nat} {os : OsState}
variable {nm q : Str} {C N : Addr} {bs bm bmN : List Value} {hdct : Bool} {sn : List Str} {sub : List Value} {ab : Bool} {col : Option Bool} {dd : Option Addr} {k0 k1 k2 k3 k5 : Option Value} {Bn newId inN : String}
theorem x_check_new (Fn : ExcBaseFacts Bn newId inN bmN) (hBn : bm.contains (.type Bn) = true) {rest : List Value} {Q : Unit→Shared→Prop} (hC : h.get? C = some (excClassObj nm q C N bs bm hdct sn sub ab col dd k0 k1 k2 k3 k5 newId))
    (hq : Q () ⟨h,g,d,t,os⟩) : wpAny M A (checkBuiltinCall newId ⟨.ref C :: rest,[]⟩) Q E ⟨h,g,d,t,os⟩:=by
  have hcont : (Value.ref C :: bm).contains (.type Bn) = true:=by rw [List.contains_cons,hBn,Bool.or_true]
  have hstar:=Fn.noStar
  simp only [checkBuiltinCall,Fn.newKind,Fn.newSplit,Fn.newRow]
  repeat (first | refine wpAny_loadPart_at hC ?_ | (refine wpAny_isSubtype_exc hC ?_; rw [hcont]) | refine wpAny_staticBase_exc hC ?_ | refine wpAny_madeBy_exc hC ?_ | simp only [bne_self_eq_false,Bool.false_eq_true,if_false] | wp_step)
  exact hq
theorem x_new (Fn : ExcBaseFacts Bn newId inN bmN) (hBn : bm.contains (.type Bn) = true) (hA : bm.contains (.type "AttributeError") = false) (hN : bm.contains (.type "NameError") = false) {rest : List Value} (hC : h.get? C = some (excClassObj nm q C N bs bm hdct sn sub ab col dd k0 k1 k2 k3 k5 newId))
    (hq : R (.ok (.ret (.ref (h.objs.size + 1)))) ⟨(h.push { cls:=.type "tuple",data:=.seq rest.toArray }).push
      { cls:=.ref C,data:=.fields #[.ref h.objs.size,.none,.none,.none,.bool false,.none] },g,d,t,os⟩) (hrest : rest.length ≤ sizeLine:=by size_fits) :
    codeAny (model prog w) A (.builtin newId ⟨.ref C :: rest,[]⟩) R ⟨h,g,d,t,os⟩:=by
  have hends:=Fn.ends
  have hcB : (Value.ref C :: bm).contains (.type Bn) = true:=by rw [List.contains_cons,hBn,Bool.or_true]
  have hcA : (Value.ref C :: bm).contains (.type "AttributeError") = false:=by rw [List.contains_cons,hA]; rfl
  have hcN : (Value.ref C :: bm).contains (.type "NameError") = false:=by rw [List.contains_cons,hN]; rfl
  refine codeAny_builtinAt Fn.entry ?_
  unfold Builtin.«BaseException.__new__»
  refine wpAt_bind ?_
  show wpAt _ _ _ (stack >>= _) _ _ _
  refine wpAt_bind (wpAt_stack fun p below=>wpAt_of_wpAny ?_)
  wp_walk
  refine wpAt_of_wpAny ?_
  rw [Fn.owner]
  repeat (first | with_reducible refine wpAny_madeHere_exc Fn.canon hC ?_ | with_reducible refine wpAny_loadPart_at hC ?_ | (with_reducible refine wpAny_isSubtype_exc hC ?_; first | rw [hcB] | rw [hcA] | rw [hcN]) | wp_step)
  show R _ _
  rw [Heap.size_push]
  exact hq
end
end PySem
namespace L2
open PySem PySem.Spec PyProof.Rows
def onlyV : List Value→Bool
  | .ref _ :: r=>onlyV r
  | l=>l == [.type "ValueError",.type "Exception",.type "BaseException",.type "object"]
theorem refuse_onlyV (self : Value) : ∀ {l : List Value},onlyV l = true→refuseLoop self "__setattr__" l = pure ()
  | [],e=>absurd e (by decide)
  | .ref c :: r,e=>by rw [refuseLoop_ref]; exact refuse_onlyV self e
  | .none :: r,e | .bool _ :: r,e | .int _ _ :: r,e | .str _ _ :: r,e | .float _ _ :: r,e | .bytes _ _ :: r,e | .builtin _ :: r,e | .type _ :: r,e=>by
    have q:=beq_iff_eq.mp e
    rw [q]; exact PySem.F.store_ValueError.passes self
structure XC (K : PySem.W.Frag) (C fI : Addr) : Prop where
  at_ : ∃ nm q N bs bm sn sub ab col dd k0 k1 k2 k3 k5,K.lookup C = some (excClassObj nm q C N bs bm true sn sub ab col dd k0 k1 k2 k3 k5 "ValueError.__new__")∧bm.contains (.type "ValueError") = true ∧
    bm.contains (.type "AttributeError") = false∧bm.contains (.type "NameError") = false∧bm.contains (.type "BaseException") = true
  init : PySem.W.findIn K (.ref C) "__init__" = some (some (.ref fI))
  fn : PySem.W.typeIn K (.ref fI) = some (.type "function")
  row : (PySem.W.clsIn K C).any (fun cd=>onlyV cd.mro && cd.hasDict) = true
  sa : PySem.W.findIn K (.ref C) "__setattr__" = some (some (.builtin "object.__setattr__"))
  ga : PySem.W.findIn K (.ref C) "__getattribute__" = some (some (.builtin "BaseException.__getattribute__"))
  hook : PySem.W.findIn K (.ref C) "__getattr__" = some none
  act : PySem.W.findIn K (.ref C) "act" = some none
  cls : PySem.W.findIn K (.ref C) "__class__" = some (some (.builtin "object.__class__"))
section
variable {prog : Program} {w : World} {A : Around} {E : Value→Shared→Prop} {h : Heap} {g : Array GenState} {d : Drawn} {t : Nat} {os : OsState} {K : PySem.W.Frag} {C fI : Addr}
theorem x_type_call (X : K.In h) (c : XC K C fI) {rest : List Value} {Q : Fin→Shared→Prop}
    (hq : ∀ h' e,Heap.MadeExcOf h h' e (.ref C) rest→e = h.objs.size + 1→h'.get? h.objs.size = some { cls:=.type "tuple",data:=.seq rest.toArray } →
      wpAny (model prog w) A (call (.ref fI) (.ref e :: rest)) (fun r s'=>r = .none∧Q (.done (.ret (.ref e))) s') E ⟨h',g,d,t,os⟩) (hrest : rest.length ≤ sizeLine) :
    wpAny (model prog w) A (Builtin.«type.__call__» ⟨.ref C :: rest,[]⟩) Q E ⟨h,g,d,t,os⟩:=by
  obtain ⟨⟨nm,q,N,bs,bm,sn,sub,ab,col,dd,k0,k1,k2,k3,k5,lk,hB,hA,hN,hE⟩,hi,hf,_⟩:=c
  have hC:=X _ _ lk
  have F:=PySem.F.excBase_ValueError
  repeat (first | with_reducible refine wpAny_loadPart_at hC ?_ | with_reducible refine wpAny_madeBy_exc hC ?_ | wp_step)
  refine codeAny_call_builtin_code (Code.quiet_builtin _ F.quiet) (x_check_new F hB hC ?_)
  refine x_new F hB hA hN hC ?_ hrest
  show wpAny _ _ _ _ _ _
  have kp : ∀ b o,h.get? b = some o→((h.push { cls:=.type "tuple",data:=.seq rest.toArray }).push { cls:=.ref C,data:=.fields #[.ref h.objs.size,.none,.none,.none,.bool false,.none] }).get? b = some o :=
    fun b o e=>Heap.get?_push_of_some _ (Heap.get?_push_of_some _ e)
  have hC₁:=kp _ _ hC
  have X₁:=X.keeps kp
  have hget : ((h.push { cls:=.type "tuple",data:=.seq rest.toArray }).push
      { cls:=.ref C,data:=.fields #[.ref h.objs.size,.none,.none,.none,.bool false,.none] }).get? (h.objs.size + 1) = some
      { cls:=.ref C,data:=.fields #[.ref h.objs.size,.none,.none,.none,.bool false,.none] }:=by heap_get
  have htup : ((h.push { cls:=.type "tuple",data:=.seq rest.toArray }).push
      { cls:=.ref C,data:=.fields #[.ref h.objs.size,.none,.none,.none,.bool false,.none] }).get? h.objs.size = some { cls:=.type "tuple",data:=.seq rest.toArray }:=Heap.get?_push_of_some _ (Heap.get?_push_at rfl rfl)
  have hcC : (Value.ref C :: bm).contains (.ref C) = true:=by simp
  unfold isInstance
  repeat (first | with_reducible refine wpAny_loadPart_at hget ?_ | (with_reducible refine wpAny_isSubtype_exc hC₁ ?_; rw [hcC]) | wp_step)
  show wpAny _ _ (typeLookup (.ref C) _) _ _ _
  refine (PySem.W.looks_findIn X₁ hi).at ?_
  refine wpAny_holding (wpAny_bind ?_)
  unfold bindSpecial
  refine wpAny_bind ((PySem.W.looks_typeIn X₁ hf).at ?_)
  rw [if_pos (by decide)]
  refine wpAny_pure (wpAny_bind (wpAny_mono (hq _ (h.objs.size + 1) ⟨kp,Heap.get?_none_of_le (Nat.le_succ _),h.objs.size,hget,Heap.get?_none_of_le (Nat.le_refl _),htup⟩ rfl htup) (fun r s' hr=>?_) fun _ _ x=>x))
  obtain ⟨rfl,hQ⟩:=hr
  wp_walk
  exact hQ
theorem x_call (X : K.In h) (c : XC K C fI) {rest : List Value} {Q : Value→Shared→Prop}
    (hq : ∀ h' e,Heap.MadeExcOf h h' e (.ref C) rest→e = h.objs.size + 1→h'.get? h.objs.size = some { cls:=.type "tuple",data:=.seq rest.toArray } →
      wpAny (model prog w) (A.under (.builtin "type.__call__" ⟨.ref C :: rest,[]⟩)) (call (.ref fI) (.ref e :: rest)) (fun r s'=>r = .none∧Q (.ref e) s') E ⟨h',g,d,t,os⟩) (hrest : rest.length ≤ sizeLine) :
    wpAny (model prog w) A (call (.ref C) rest) Q E ⟨h,g,d,t,os⟩:=by
  obtain ⟨nm,q,N,bs,bm,sn,sub,ab,col,dd,k0,k1,k2,k3,k5,lk,hB,hA,hN,hE⟩:=c.at_
  have hC:=X _ _ lk
  have f1:=tc_lookup
  have f2:=tc_bind (.ref C)
  have hT : (⟨h,g,d,t,os⟩ : Shared).TypeIs (.ref C) "type":=⟨_,hC,rfl⟩
  refine wpAny_call (codeAny_of_tree ?_)
  show wpAny _ _ (callAny (.ref C) _) _ _ _
  repeat (any_goals (first | assumption | with_reducible refine wpAny_loadPart_at hC ?_ | wp_step))
  refine ⟨rfl,?_⟩
  refine codeAny_call_builtin_at (Code.quiet_builtin _ (by decide +kernel)) entry_typeCall (wpAny_check_type_call_sub hC (x_type_call X c (fun h' e hm h1 h2=>?_) hrest))
  exact hq h' e hm h1 h2
end
end L2
set_option Elab.async false
set_option linter.all false
set_option maxRecDepth 100000
namespace L2
open PySem PySem.Spec PyProof.Rows
def XO (e C : Addr) (d : Option Addr) : HO:=.ext fun h=>∃ vs : Array Value,h.get? e = some { cls:=.ref C,dict:=d,data:=.fields vs }∧vs.size = 6∧vs[1]? = some .none
theorem XO.at {P : Program} {w : World} {H : Hp} {h : Heap} {e C : Addr} {d : Option Addr} (x : HOk P w H h) (q : H e = some (XO e C d)) : ∃ vs : Array Value,h.get? e = some { cls:=.ref C,dict:=d,data:=.fields vs }∧vs.size = 6∧vs[1]? = some .none:=(x e _ q).1
theorem XO.ok {P : Program} {w : World} {H : Hp} {h : Heap} {e C : Addr} {d : Option Addr} {vs : Array Value} (q : h.get? e = some { cls:=.ref C,dict:=d,data:=.fields vs }) (z : vs.size = 6) (n : vs[1]? = some .none) : ObjOk P w H h e (XO e C d) :=
  ⟨⟨vs,q,z,n⟩,⟨_,q⟩,fun h1 h2 ⟨us,a,b,c⟩ k=>⟨us,k _ a,b,c⟩⟩
theorem vi_find (K : PySem.W.Frag) : PySem.W.findCls K (.type "ValueError") (.type "type") "__init__" = some (.val (.builtin "ValueError.__init__")) :=
  show PySem.W.findCls [] (.type "ValueError") (.type "type") "__init__" = some (.val (.builtin "ValueError.__init__")) by kernel_rfl
section
variable {prog : Program} {w : World} {A : Around} {E : Value→Shared→Prop} {s : Shared} {K : PySem.W.Frag} {C fI e : Addr}
theorem vi_run (X : K.In s.heap) (c : XC K C fI) {dx : Option Addr} {vs : Array Value} {sl : Array (Option Value)} {rest : List Value} {Q : Value→Shared→Prop} (he : s.heap.get? e = some { cls:=.ref C,dict:=dx,data:=.fields vs,slots:=sl }) (hz : 0 < vs.size) {u0 : Value} (h0 : vs[0]? = some u0) (hr : rest.length ≤ sizeLine)
    (h : Q .none { s with heap:=(s.heap.push { cls:=.type "tuple",data:=.seq rest.toArray }).update e (Obj.mapFields (·.setIfInBounds 0 (.ref s.heap.objs.size))) }) :
    wpAny (model prog w) A (call (.builtin "ValueError.__init__") (.ref e :: rest)) Q E s:=by
  obtain ⟨nm,q,N,bs,bm,sn,sub,ab,col,dd,k0,k1,k2,k3,k5,lk,hB,hA,hN,hE⟩:=c.at_
  have hC:=X _ _ lk
  have F:=PySem.F.excBase_ValueError
  obtain ⟨hp,g,d,t,os⟩:=s
  have hcB : (Value.ref C :: bm).contains (.type "ValueError") = true:=by rw [List.contains_cons,hB,Bool.or_true]
  refine wpAny_call (codeAny_call_builtin F.init.plain F.initEntry ?_)
  have hshort:=F.noStar
  simp only [checkBuiltinCall,F.initKind,F.initSplit,F.initRow]
  repeat (first | with_reducible refine wpAny_loadPart_at he ?_ | with_reducible refine wpAny_loadPart_at hC ?_ | (with_reducible refine wpAny_isSubtype_exc hC ?_; rw [hcB]) | wp_step)
  refine wpAny_onRaise ?_
  rw [show ∀ (a b : String) (n : Nat),Bind.check ⟨.positional,"*","ValueError",.self,[⟨"args",.varPos,false⟩]⟩ a b n (List.map (fun x=>x.fst) ({ pos:=Value.ref e :: rest } : Args).kw) = pure () from
    fun a b n=>check_star_args _ _ _ _ _ _]
  refine wpAny_pure ?_
  unfold Builtin.«BaseException.__init__» newTuple
  refine wpAny_bind (wpAny_newObj_type ?_ (by show rest.toArray.size ≤ sizeLine; rw [List.size_toArray]; exact hr))
  have he₁:=Heap.get?_push_of_some (h:=hp) { cls:=.type "tuple",data:=.seq rest.toArray } he
  refine wpAny_bind ?_
  unfold Builtin.BaseException.bexcPut
  refine wpAny_bind (wpAny_field he₁ rfl h0 ?_)
  refine wpAny_bind (wpAny_setField he₁ rfl hz ?_)
  split
  · exact wpAny_letGo (wpAny_pure h)
  · exact wpAny_pure (wpAny_pure h)
end
end L2
set_option Elab.async false
set_option linter.all false
set_option maxRecDepth 100000
namespace L2
open PySem PySem.Spec PyProof.Rows Builtin Builtin.ObjectAttr
section
variable {prog : Program} {w : World} {A : Around} {E : Value→Shared→Prop} {s : Shared} {K : PySem.W.Frag} {C fI e : Addr}
theorem x_store (X : K.In s.heap) (c : XC K C fI) {vs : Array Value} {v : Value} {Q : Unit→Shared→Prop} (he : s.heap.get? e = some { cls:=.ref C,data:=.fields vs })
    (hq : ∀ h' t',h'.get? e = some { cls:=.ref C,dict:=some s.heap.objs.size,data:=.fields vs }→h'.Ns1 s.heap.objs.size (fun y=>if y = "act" then some v else none) →
      (∀ b o,b ≠ e→s.heap.get? b = some o→h'.get? b = some o)→Q () { s with heap:=h',toks:=t' }) :
    wpAny (model prog w) A (setAttr (.ref e) "act" v) Q E s:=by
  have I : PySem.W.InstAt s.heap e { cls:=.ref C,data:=.fields vs } C none:=⟨he,rfl,rfl,trivial⟩
  refine PySem.W.set_plain X I c.sa ?_
  obtain ⟨cd,hc,ho'⟩:=PySem.W.any_some c.row
  obtain ⟨ho,hd⟩:=Bool.and_eq_true_iff.mp ho'
  have SF:=PySem.F.store_object
  have SV:=PySem.F.store_ValueError
  have hm : PySem.W.Looks (model prog w) s.heap (mroOf (.ref C)) cd.mro:=(PySem.W.looks_clsIn X hc).andThen .now
  have hasO : ∀ {l : List Value},onlyV l = true→l.contains (.type "object") = true∧l.isEmpty = false:=by
    intro l
    induction l with
    | nil=>intro z; exact absurd z (by decide)
    | cons a r ih =>
      intro z
      refine ⟨?_,rfl⟩
      cases a with
      | ref x=>rw [List.contains_cons,(ih z).1,Bool.or_true]
      | _=>have q:=beq_iff_eq.mp z; rw [q]; decide +kernel
  have sub : PySem.W.Looks (model prog w) s.heap (isInstance (.ref e) (.type "object")) true:=I.type.andThen (PySem.W.looks_mroIn X (by unfold PySem.W.mroIn; rw [hc,Option.bind_some,if_neg (by rw [(hasO ho).2]; decide),(hasO ho).1]))
  refine codeAny_call_builtin SF.slot.plain SF.entry (@PySem.W.check_slot (model prog w) _ _ { s with toks:=s.toks + 1 } "object.__setattr__" "object" "__setattr__" (.ref e) [.str "act" s.toks,v] [] _ SF.kind SF.split sub (SF.args (.ref e) (.str "act" s.toks) v) ?_)
  rw [PySem.W.osa_eq,refuse_eq]
  refine wpAny_bind (wpAny_bind (I.type _ _ _ _ (fun _ _ e=>e) (wpAny_bind (hm _ _ _ _ (fun _ _ e=>e) ?_))))
  rw [refuse_onlyV _ ho]
  refine wpAny_pure (wpAny_bind (I.type _ _ _ _ (fun _ _ e=>e) (wpAny_bind (PySem.W.looks_findIn X c.act _ _ _ _ (fun _ _ e=>e) (wpAny_bind ?_)))))
  refine wpAny_pure ?_
  dsimp only
  obtain ⟨h,g,d,t,os⟩:=s
  dsimp only at *
  unfold storeInOwnDict
  have hxs : e ≠ h.objs.size:=Nat.ne_of_lt (Heap.lt_size he)
  have hx₁ : (h.push { cls:=.type "dict",data:=.dict #[] }).get? e = some { cls:=.ref C,data:=.fields vs }:=Heap.get?_push_of_some _ he
  refine wpAny_bind (wpAny_pure (wpAny_bind ?_))
  unfold ownDictForStores instanceDict
  refine wpAny_bind (wpAny_loadPart he ?_)
  dsimp only
  refine wpAny_bind ((PySem.W.looks_clsIn X hc) _ _ _ _ (fun _ _ e=>e) ?_)
  rw [hd,if_neg (by decide),if_neg (by simp [typeHasDict])]
  refine wpAny_bind (wpAny_alloc' ?_)
  refine wpAny_bind (wpAny_update' hx₁ ?_)
  refine wpAny_pure ?_
  have hgd : ((h.push { cls:=.type "dict",data:=.dict #[] }).update e fun o=>{ cls:=o.cls,dict:=some h.objs.size,data:=o.data,slots:=o.slots }).get? h.objs.size
      = some { cls:=.type "dict",data:=.dict #[] } :=
    (Heap.get?_update_ne _ _ _ _ hxs.symm).trans (Heap.get?_push_at rfl rfl)
  have hnd : ((h.push { cls:=.type "dict",data:=.dict #[] }).update e fun o=>{ cls:=o.cls,dict:=some h.objs.size,data:=o.data,slots:=o.slots }).Ns h.objs.size (fun _=>none) :=
    ⟨_,#[],_,hgd,rfl,fun e he=>absurd he (by simp),fun _=>rfl⟩
  show wpAny _ _ (storeInDict h.objs.size (.str "act" _) "act" v) _ _ _
  unfold storeInDict newKeyGuard
  refine wpAny_bind (wpAny_pure (wpAny_bind (wpAny_nsSet1 (Heap.Ns1.of_empty hnd) fun h' hn' hs=>?_)))
  obtain ⟨oD,esD,epD,hoD,hdD,hcD⟩:=hn'.count (Within.cons "act" v Within.nil)
  refine wpAny_bind (wpAny_lookBehind hoD (by rw [hdD]; exact pastItsLine_dict (Nat.le_trans hcD (by rw [List.length_cons,List.length_nil,sizeLine_eq]; omega))) ?_)
  refine wpAny_pure ?_
  refine hq h' _ ?_ hn' fun b ob hbx hb=>(hs.2 b (Nat.ne_of_lt (Heap.lt_size hb))).trans ((Heap.get?_update_ne _ _ _ _ hbx).trans (Heap.get?_push_of_some _ hb))
  exact (hs.2 e hxs).trans (Heap.get?_update_self _ hx₁ rfl)
theorem x_load (X : K.In s.heap) (c : XC K C fI) {vs : Array Value} {dx : Addr} {v : Value} {mA : Str→Option Value} {expr : Bool} {Q : Value→Shared→Prop} (he : s.heap.get? e = some { cls:=.ref C,dict:=some dx,data:=.fields vs })
    (hn : s.heap.Ns1 dx mA) (hv : mA "act" = some v) (hh : PySem.W.handedIn v = true) (hq : Q v { s with toks:=s.toks + 1 }) :
    wpAny (model prog w) A (getAttr (.ref e) "act" expr) Q E s:=by
  obtain ⟨cd,hc,ho'⟩:=PySem.W.any_some c.row
  obtain ⟨ho,hd⟩:=Bool.and_eq_true_iff.mp ho'
  obtain ⟨h,g,d,t,os⟩:=s
  have hx2 : (Value.builtin "BaseException.__getattribute__" == Value.builtin "object.__getattribute__") = false:=by decide +kernel
  have T : PySem.W.Looks (model prog w) h (typeOf (.ref e)) (.ref C):=(PySem.W.Looks.ld he).andThen .now
  unfold getAttr
  refine wpAny_bind (wpAny_mkText ?_)
  unfold getAttrBy
  refine wpAny_holding (wpAny_bind (T.at (wpAny_bind ((PySem.W.looks_findIn X c.ga).at ?_))))
  dsimp only
  rw [show (onTheHeap (Value.ref C) && Value.builtin "BaseException.__getattribute__" == Value.builtin "object.__getattribute__") = false by rw [hx2]; rfl,if_neg (by decide)]
  unfold getAttrByItsOwn hookBefore
  rw [if_pos (show onTheHeap (Value.ref C) = true from rfl)]
  refine wpAny_bind ((PySem.W.looks_findIn X c.hook).at (wpAny_bind (wpAny_attempt (wpAny_holding ?_))))
  unfold callGetattribute
  rw [show (expr && onTheHeap (Value.builtin "BaseException.__getattribute__")) = false from Bool.and_false _,if_neg (by decide)]
  unfold boundAndCalled
  have ga:=PySem.F.attr_ValueError.ga
  rw [ga.bind]
  refine wpAny_bind (wpAny_pure ?_)
  show wpAny _ _ (call (.builtin "BaseException.__getattribute__") [.ref e,.str "act" t]) _ _ _
  obtain ⟨nm,q,N,bs,bm,sn,sub,ab,col,dd,k0,k1,k2,k3,k5,lk,hB,hA,hN,hE⟩:=c.at_
  have hcd : cd.mro = .ref C :: bm:=by
    unfold PySem.W.clsIn at hc
    rw [lk] at hc
    cases hc; rfl
  have sb : PySem.W.Looks (model prog w) h (isInstance (.ref e) (.type "BaseException")) true:=T.andThen (PySem.W.looks_mroIn X (by unfold PySem.W.mroIn; rw [hc,Option.bind_some,hcd,if_neg (by simp),List.contains_cons,hE,Bool.or_true]))
  refine wpAny_call (codeAny_call_builtin ga.plain PySem.F.entry_bexc_ga (@PySem.W.check_slot (model prog w) _ _ ⟨h,g,d,t + 1,os⟩ "BaseException.__getattribute__" "BaseException" "__getattribute__" (.ref e) [.str "act" t] [] _ (by decide +kernel) (by decide +kernel) sb (PySem.F.args_bexc_ga (.ref e) (.str "act" t)) ?_))
  obtain ⟨od,es,ep,hod,hdd,-,-,hf⟩:=hn
  have I : PySem.W.InstAt h e { cls:=.ref C,dict:=some dx,data:=.fields vs } C (some od):=⟨he,rfl,rfl,hod⟩
  have hl : PySem.W.lookIn "act" od = some (some v):=by
    have q:=(hf "act").trans hv
    unfold nsFind findBy at q
    rw [← Array.find?_toList] at q
    unfold PySem.W.lookIn
    rw [hdd]
    dsimp only
    obtain ⟨en,e1,e2⟩:=Option.map_eq_some_iff.mp q
    rw [e1]
    dsimp only
    rw [e2]
  have hfo : PySem.W.findObj K C (some od) "act" = some (.value v):=by
    unfold PySem.W.findObj
    rw [hc,Option.bind_some,c.act,Option.bind_some]
    dsimp only
    rw [Option.bind_some,Option.bind_some]
    unfold PySem.W.ownOf
    rw [hd,if_pos rfl]
    dsimp only
    rw [hl]; rfl
  refine wpAny_bind (wpAny_pure (wpAny_bind (wpAny_pure (wpAny_bind (T.at (wpAny_bind ((PySem.W.looks_find X I hfo).at ?_)))))))
  refine wpAny_pure ?_
  show wpAny _ _ (handedOut v) _ _ _
  rw [PySem.W.handedOut_of hh]
  exact wpAny_pure hq
end
end L2
set_option Elab.async false
set_option linter.all false
set_option maxRecDepth 100000
namespace L2
open PySem PySem.Spec PyProof.Rows Builtin Builtin.ObjectAttr
section
variable {prog : Program} {w : World} {A : Around} {E : Value→Shared→Prop} {s : Shared} {K : PySem.W.Frag} {C fI e : Addr}
theorem x_mro (c : XC K C fI) : ∃ cd bm,PySem.W.clsIn K C = some cd∧cd.mro = .ref C :: bm∧bm.contains (.type "BaseException") = true∧onlyV cd.mro = true∧cd.hasDict = true∧bm.contains (.type "AttributeError") = false:=by
  obtain ⟨cd,hc,ho'⟩:=PySem.W.any_some c.row
  obtain ⟨ho,hd⟩:=Bool.and_eq_true_iff.mp ho'
  obtain ⟨nm,q,N,bs,bm,sn,sub,ab,col,dd,k0,k1,k2,k3,k5,lk,hB,hA,hN,hE⟩:=c.at_
  refine ⟨cd,bm,hc,?_,hE,ho,hd,hA⟩
  unfold PySem.W.clsIn at hc
  rw [lk] at hc
  cases hc; rfl
theorem onlyV_obj : ∀ {l : List Value},onlyV l = true→l.contains (.type "object") = true
  | [],e=>absurd e (by decide)
  | .ref c :: r,e=>by rw [List.contains_cons,onlyV_obj (l:=r) e,Bool.or_true]
  | .none :: r,e | .bool _ :: r,e | .int _ _ :: r,e | .str _ _ :: r,e | .float _ _ :: r,e | .bytes _ _ :: r,e | .builtin _ :: r,e | .type _ :: r,e=>by
    have q:=beq_iff_eq.mp e
    rw [q]; decide +kernel
theorem x_class (X : K.In s.heap) (c : XC K C fI) {vs : Array Value} {dx : Option Addr} {Q : Option Value→Shared→Prop} (he : s.heap.get? e = some { cls:=.ref C,dict:=dx,data:=.fields vs }) (hd : ∀ a,dx = some a→∃ o,s.heap.get? a = some o)
    (hq : Q (some (.ref C)) { s with toks:=s.toks + 1 }) : wpAny (model prog w) A (getAttr? (.ref e) "__class__") Q E s:=by
  obtain ⟨cd,bm,hc,hm,hE,ho,hdi,hA⟩:=x_mro c
  obtain ⟨h,g,d,t,os⟩:=s
  have hx2 : (Value.builtin "BaseException.__getattribute__" == Value.builtin "object.__getattribute__") = false:=by decide +kernel
  have T : PySem.W.Looks (model prog w) h (typeOf (.ref e)) (.ref C):=(PySem.W.Looks.ld he).andThen .now
  unfold getAttr? getAttrBy?
  refine wpAny_bind (wpAny_mkText (wpAny_bind (wpAny_attempt ?_)))
  unfold getAttrBy
  refine wpAny_holding (wpAny_bind (T.at (wpAny_bind ((PySem.W.looks_findIn X c.ga).at ?_))))
  dsimp only
  rw [show (onTheHeap (Value.ref C) && Value.builtin "BaseException.__getattribute__" == Value.builtin "object.__getattribute__") = false by rw [hx2]; rfl,if_neg (by decide)]
  unfold getAttrByItsOwn hookBefore
  rw [if_pos (show onTheHeap (Value.ref C) = true from rfl)]
  refine wpAny_bind ((PySem.W.looks_findIn X c.hook).at (wpAny_bind (wpAny_attempt (wpAny_holding ?_))))
  unfold callGetattribute
  rw [show (false && onTheHeap (Value.builtin "BaseException.__getattribute__")) = false from rfl,if_neg (by decide)]
  unfold boundAndCalled
  have ga:=PySem.F.attr_ValueError.ga
  rw [ga.bind]
  refine wpAny_bind (wpAny_pure ?_)
  show wpAny _ _ (call (.builtin "BaseException.__getattribute__") [.ref e,.str "__class__" t]) _ _ _
  have sb : PySem.W.Looks (model prog w) h (isInstance (.ref e) (.type "BaseException")) true:=T.andThen (PySem.W.looks_mroIn X (by unfold PySem.W.mroIn; rw [hc,Option.bind_some,hm,if_neg (by simp),List.contains_cons,hE,Bool.or_true]))
  refine wpAny_call (codeAny_call_builtin ga.plain PySem.F.entry_bexc_ga (@PySem.W.check_slot (model prog w) _ _ ⟨h,g,d,t + 1,os⟩ "BaseException.__getattribute__" "BaseException" "__getattribute__" (.ref e) [.str "__class__" t] [] _ (by decide +kernel) (by decide +kernel) sb (PySem.F.args_bexc_ga (.ref e) (.str "__class__" t)) ?_))
  have I : ∃ od,PySem.W.InstAt h e { cls:=.ref C,dict:=dx,data:=.fields vs } C od:=by
    cases dx with
    | none=>exact ⟨none,he,rfl,rfl,trivial⟩
    | some a=>obtain ⟨o,q⟩:=hd a rfl; exact ⟨some o,he,rfl,rfl,q⟩
  obtain ⟨od,I⟩:=I
  have hfo : PySem.W.findObj K C od "__class__" = some (.bind (.builtin "getset_descriptor.__get__") (.builtin "object.__class__")):=by
    unfold PySem.W.findObj
    rw [hc,Option.bind_some,c.cls,Option.bind_some]
    dsimp only
    rw [show PySem.W.specialIn K (.builtin "object.__class__") "__get__" = some (some (.builtin "getset_descriptor.__get__")) from show PySem.W.specialIn [] (.builtin "object.__class__") "__get__" = some (some (.builtin "getset_descriptor.__get__")) by decide +kernel,Option.bind_some]
    dsimp only
    rw [show PySem.W.takesIn K (.builtin "object.__class__") = some true from show PySem.W.takesIn [] (.builtin "object.__class__") = some true by decide +kernel,Option.bind_some]
  refine wpAny_bind (wpAny_pure (wpAny_bind (wpAny_pure (wpAny_bind (T.at (wpAny_bind ((PySem.W.looks_find X I hfo).at ?_)))))))
  have hob : PySem.W.mroIn K C (.type "object") = some true:=by unfold PySem.W.mroIn; rw [hc,Option.bind_some,if_neg (by rw [hm]; simp),onlyV_obj ho]
  refine wpAny_bind (wpAny_holding (wpAny_call (PySem.W.class_get (s:=⟨h,g,d,t + 1,os⟩) X I hob ?_)))
  exact wpAny_pure (wpAny_pure (wpAny_pure hq))
theorem x_isi_nested (X : K.In s.heap) (c : XC K C fI) {vs : Array Value} {dx : Option Addr} {D : Value} {b : Bool} {Q : Fin→Shared→Prop} (he : s.heap.get? e = some { cls:=.ref C,dict:=dx,data:=.fields vs }) (hd : ∀ a,dx = some a→∃ o,s.heap.get? a = some o)
    (hD : PySem.W.Looks (model prog w) s.heap (typeOf D) (.type "type")) (hT : PySem.W.Looks (model prog w) s.heap (isType D) true) (hb : PySem.W.mroIn K C D = some b) (hq : ∀ t,Q (.done (.ret (.bool b))) { s with toks:=t }) :
    wpAny (model prog w) A (Builtin.«isinstance.nested» ⟨[.ref e,D,rawInt 0],[]⟩) Q E s:=by
  obtain ⟨cd,bm,hc,hm,hE,ho,hdi,hA⟩:=x_mro c
  have hcC : PySem.W.mroIn K C (.ref C) = some true:=by unfold PySem.W.mroIn; rw [hc,Option.bind_some,if_neg (by rw [hm]; simp),hm]; simp
  obtain ⟨h,g,d,t,os⟩:=s
  have T : PySem.W.Looks (model prog w) h (typeOf (.ref e)) (.ref C):=(PySem.W.Looks.ld he).andThen .now
  have L2:=PySem.W.looks_mroIn (M:=model prog w) X hb
  have LI : PySem.W.Looks (model prog w) h (isInstance (.ref e) D) b:=T.andThen L2
  unfold Builtin.«isinstance.nested»
  refine wpAny_bind (T.at ?_)
  by_cases q : (Value.ref C == D) = true
  · rw [if_pos q]
    have q':=beq_iff_eq.mp q
    subst q'
    rw [hcC] at hb; cases hb
    exact wpAny_bind (wpAny_rule (wpAny_bind (wpAny_pure (wpAny_pure (hq t)))))
  · rw [if_neg q]
    refine wpAny_bind (hD.at ?_)
    rw [if_pos (by decide)]
    have P : ∀ {Q' : Bool→Shared→Prop} {E' : Value→Shared→Prop} {A' : Around},(∀ t,Q' b ⟨h,g,d,t,os⟩)→wpAny (model prog w) A' (do
        if !(← isType D) then
          if ← Builtins.hasBases D then unsupported "isinstance:class-by-__bases__"
          rule "isinstance.not-a-class"; raiseError "TypeError" "isinstance() arg 2 must be a type, a tuple of types, or a union"
        if ← isInstance (.ref e) D then return true
        let some c ← getAttr? (.ref e) "__class__" | return false
        if !(← isType c) then return false
        rule "isinstance.by-__class__"; isSubtype c D) Q' E' ⟨h,g,d,t,os⟩:=by
      intro Q' E' A' hq'
      refine wpAny_bind (hT.at ?_)
      rw [if_neg (by decide)]
      refine wpAny_bind (LI.at ?_)
      cases b with
      | true=>rw [if_pos rfl]; exact wpAny_pure (hq' t)
      | false =>
        rw [if_neg (by decide)]
        refine wpAny_bind (x_class X c he hd ?_)
        dsimp only
        have tC : PySem.W.Looks (model prog w) h (isType (.ref C)) true:=by
          obtain ⟨nm,q,N,bs,bm,sn,sub,ab,col,dd,k0,k1,k2,k3,k5,lk,-⟩:=c.at_
          exact (PySem.W.Looks.ld (X _ _ lk)).andThen .now
        refine wpAny_bind (tC _ _ _ _ (fun _ _ e=>e) ?_)
        rw [if_neg (by decide)]
        exact wpAny_bind (wpAny_rule (L2 _ _ _ _ (fun _ _ e=>e) (hq' _)))
    exact wpAny_bind (P fun t=>wpAny_pure (hq t))
end
end L2
set_option Elab.async false
set_option linter.all false
set_option maxRecDepth 100000
namespace L2
open PySem PySem.Spec PyProof.Rows
section
variable {M : Model} {A : Around} {E : Value→Shared→Prop} {s : Shared} {base : Heap} {env : Env} {outer : List Env} {L e : Addr}
theorem x_entry {oe : Obj} {vs : Array Value} {head : Value} {hadNext : Bool} {Q : Unit→Shared→Prop} (hfr : A.frames = some (env :: outer)) (hl : s.heap.FunFrames base (env :: outer)) (hf : env.frame = some L)
    (he : s.heap.get? e = some oe) (hd : oe.data = .fields vs) (hsz : 1 < vs.size)
    (h : ∀ h',(∀ b o,b ≠ e→b ∉ frs (env :: outer)→s.heap.get? b = some o→h'.get? b = some o)→(∀ b o,b ≠ e→s.heap.get? b = some o→∃ sl,h'.get? b = some { o with slots:=sl }) →
      h'.get? e = some (oe.mapFields (·.setIfInBounds 1 (.ref s.heap.objs.size)))→(∃ oT ts,h'.get? s.heap.objs.size = some oT∧oT.data = .fields ts∧3 < ts.size)→Q () { s with heap:=h' }) :
    wpAny M A (do let a ← frameOf env; let pl ← entryPlaceOf L hadNext; let b ← EntryCells.newEntry head a .none (rawInt L) .none pl; setField (.ref e) 1 b) Q E s:=by
  have hene : e ∉ (env :: outer).filterMap (·.frame):=fun hm=>by
    obtain ⟨_,o,ho,hnf⟩:=hl.mem hm
    rw [he] at ho; injection ho with ho; subst ho; exact hnf vs hd
  refine wpAny_bind (wpAny_frameOf_fun hfr hl hf fun h₁ hs₁=>?_)
  refine wpAny_bind (wpAny_entryPlaceOf fun pl hpl=>?_)
  unfold EntryCells.newEntry newFields
  refine wpAny_bind (wpAny_newObj_type ?_ (hpl.sizeOk5 _ _ _ _ _))
  have he₁ : h₁.get? e = some oe:=(hs₁.2.1 e hene).trans he
  have he₂:=Heap.get?_push_of_some (h:=h₁) { cls:=.type "traceback",dict:=none,data:=.fields ([head,.ref L,.none,rawInt L,.none] ++ (if pl.isEmpty then List.replicate 6 Value.none else pl)).toArray } he₁
  have hTe : h₁.objs.size ≠ e:=Nat.ne_of_gt (Heap.lt_size he₁)
  have hd₃:=Obj.data_mapFields hd (·.setIfInBounds 1 (Value.ref h₁.objs.size))
  have he₃:=Heap.get?_update_self (Obj.mapFields (·.setIfInBounds 1 (Value.ref h₁.objs.size))) he₂ (Obj.isFreed_of_fields hd₃)
  have hT₃:=(Heap.get?_update_other (h₁.push { cls:=.type "traceback",dict:=none,data:=.fields ([head,.ref L,.none,rawInt L,.none] ++ (if pl.isEmpty then List.replicate 6 Value.none else pl)).toArray })
    (Obj.mapFields (·.setIfInBounds 1 (Value.ref h₁.objs.size))) (Ne.symm hTe)).trans (Heap.get?_push_size h₁ rfl)
  have keep : ∀ b o,b ≠ e→h₁.get? b = some o →
      ((h₁.push { cls:=.type "traceback",dict:=none,data:=.fields ([head,.ref L,.none,rawInt L,.none] ++ (if pl.isEmpty then List.replicate 6 Value.none else pl)).toArray }).update e (Obj.mapFields (·.setIfInBounds 1 (Value.ref h₁.objs.size)))).get? b = some o:=fun b o hbe hb=>by
    rw [Heap.get?_update_other _ _ (Ne.symm hbe)]
    exact Heap.get?_push_of_some _ hb
  refine wpAny_setField he₂ hd hsz (h _ (fun b o hbe hbf hb=>keep b o hbe ((hs₁.2.1 b hbf).trans hb)) (fun b o hbe hb=>?_) ?_ ?_)
  · obtain ⟨sl,hs⟩:=hs₁.2.2 b o hb
    exact ⟨sl,keep b _ hbe hs⟩
  · rw [← hs₁.1]; exact he₃
  · rw [← hs₁.1]
    exact ⟨_,_,hT₃,rfl,by simp only [List.size_toArray,List.length_append,List.length_cons,List.length_nil] <;> omega⟩
theorem x_note {oe : Obj} {vs : Array Value} {Q : Unit→Shared→Prop} (T : Option Addr) (hfr : A.frames = some (env :: outer)) (hl : s.heap.FunFrames base (env :: outer)) (hf : env.frame = some L)
    (he : s.heap.get? e = some oe) (hd : oe.data = .fields vs) (h1 : vs[1]? = some (T.elim .none .ref)) (hT : ∀ a,T = some a→a ≠ e∧∃ oT ts,s.heap.get? a = some oT∧oT.data = .fields ts∧3 < ts.size)
    (h : ∀ h' T',(∀ b o,b ≠ e→T ≠ some b→b ∉ frs (env :: outer)→s.heap.get? b = some o→h'.get? b = some o)→(∀ b o,b ≠ e→T ≠ some b→s.heap.get? b = some o→∃ sl,h'.get? b = some { o with slots:=sl })→(∀ b o,s.heap.get? b = some o→∃ o',h'.get? b = some o') →
      (∃ vs' : Array Value,h'.get? e = some { oe with data:=.fields vs' }∧vs'.size = vs.size∧vs'[1]? = some (.ref T'))→(∃ oT ts,h'.get? T' = some oT∧oT.data = .fields ts∧3 < ts.size)→(T = some T' ∨ T' = s.heap.objs.size)→Q () { s with heap:=h' }) :
    wpAny M A (noteFrame (.ref e) env) Q E s:=by
  unfold noteFrame
  simp only [hf]
  obtain ⟨u,hu,h1⟩ : ∃ u : Value,u = T.elim .none .ref∧vs[1]? = some u:=⟨_,rfl,h1⟩
  refine wpAny_bind (wpAny_field he hd h1 ?_)
  have hs1 : 1 < vs.size:=(Array.getElem?_eq_some_iff.mp h1).1
  have mf : ∀ n : Addr,oe.mapFields (·.setIfInBounds 1 (.ref n)) = { oe with data:=.fields (vs.setIfInBounds 1 (.ref n)) }:=fun n=>by
    obtain ⟨c,d,dt,sl⟩:=oe
    cases hd
    rfl
  have hfin : ∀ {h' : Heap} {n : Addr},h'.get? e = some (oe.mapFields (·.setIfInBounds 1 (.ref n)))→∃ vs' : Array Value,h'.get? e = some { oe with data:=.fields vs' }∧vs'.size = vs.size∧vs'[1]? = some (.ref n):=fun {h' n} q =>
    ⟨_,by rw [q,mf n],by simp,by simp [hs1]⟩
  cases T with
  | none =>
    obtain rfl : u = .none:=hu
    rw [if_neg (by decide)]
    refine x_entry hfr hl hf he hd hs1 fun h' k1 k2 k3 k4=>h h' _ (fun b o hb _ hf q=>k1 b o hb hf q) (fun b o hb _ q=>k2 b o hb q) (fun b o q=>?_) (hfin k3) k4 (.inr rfl)
    by_cases z : b = e
    · subst z; exact ⟨_,k3⟩
    · obtain ⟨sl,r⟩:=k2 b o z q; exact ⟨_,r⟩
  | some a =>
    obtain ⟨hae,oT,ts,hTa,hdT,h3⟩:=hT a rfl
    obtain rfl : u = .ref a:=hu
    rw [if_pos (show (Value.ref a != Value.none) = true from by simp)]
    refine wpAny_bind (wpAny_field hTa hdT (Array.getElem?_eq_getElem h3) ?_)
    by_cases hq : (ts[3] == rawInt L) = true
    · rw [if_pos hq]
      refine wpAny_pure (h s.heap a (fun b o _ _ _ q=>q) (fun b o _ _ q=>⟨o.slots,q⟩) (fun b o q=>⟨o,q⟩) ⟨vs,?_,rfl,h1⟩ ⟨oT,ts,hTa,hdT,h3⟩ (.inl rfl))
      rw [he]
      obtain ⟨c,d,dt,sl⟩:=oe
      cases hd
      rfl
    rw [if_neg hq]
    refine wpAny_bind (wpAny_setField hTa hdT h3 ?_)
    have other : ∀ b,b ≠ a→(s.heap.update a (Obj.mapFields (·.setIfInBounds 3 Value.none))).get? b = s.heap.get? b:=fun b hb=>Heap.get?_update_other _ _ (Ne.symm hb)
    have noRecord : ∀ b o,s.heap.get? b = some o→(∀ vs,o.data ≠ .fields vs)→b ≠ a:=fun b o hb hnf q=>by
      rw [q,hTa] at hb; injection hb with hb; subst hb; exact hnf ts hdT
    have hsz : (s.heap.update a (Obj.mapFields (·.setIfInBounds 3 Value.none))).objs.size = s.heap.objs.size:=Heap.size_after_update ..
    have hsame:=Heap.get?_update_self (h:=s.heap) (Obj.mapFields (·.setIfInBounds 3 Value.none)) hTa (Obj.isFreed_of_fields (Obj.data_mapFields hdT _))
    refine x_entry (s:={ s with heap:=s.heap.update a (Obj.mapFields (·.setIfInBounds 3 Value.none)) }) hfr (hl.of_keeps fun b o hb hnf=>⟨o,(other b (noRecord b o hb hnf)).trans hb,rfl⟩) hf ((other e (Ne.symm hae)).trans he) hd hs1 fun h' k1 k2 k3 k4=>?_
    dsimp only at k1 k2 k3 k4
    rw [hsz] at k3 k4
    refine h h' _ (fun b o hb hba hf q=>k1 b o hb hf ((other b fun z=>hba (by rw [z])).trans q)) (fun b o hb hba q=>k2 b o hb ((other b fun z=>hba (by rw [z])).trans q)) (fun b o q=>?_) (hfin k3) k4 (.inr rfl)
    by_cases z : b = e
    · subst z; exact ⟨_,k3⟩
    · by_cases y : b = a
      · subst y
        obtain ⟨sl,r⟩:=k2 b _ z hsame
        exact ⟨_,r⟩
      · obtain ⟨sl,r⟩:=k2 b o z ((other b y).trans q); exact ⟨_,r⟩
end
end L2
set_option Elab.async false
set_option linter.all false
set_option maxRecDepth 100000
namespace L2
open PySem PySem.Spec PyProof.Rows
def FlyO (e T C dx : Addr) : HO:=.ext fun h=>∃ vs : Array Value,h.get? e = some { cls:=.ref C,dict:=some dx,data:=.fields vs }∧vs.size = 6∧vs[1]? = some (.ref T)
def TbO (T : Addr) : HO:=.ext fun h=>∃ oT ts,h.get? T = some oT∧oT.data = .fields ts∧3 < ts.size
def up2 (H : Hp) (e T C dx : Addr) : Hp:=upd (upd H T (TbO T)) e (FlyO e T C dx)
abbrev xdA : HO:=.xd [(("act" : Str),V.non)]
theorem FlyO.ok {P : Program} {w : World} {H : Hp} {h : Heap} {e T C dx : Addr} {vs : Array Value} (q : h.get? e = some { cls:=.ref C,dict:=some dx,data:=.fields vs }) (z : vs.size = 6) (n : vs[1]? = some (.ref T)) : ObjOk P w H h e (FlyO e T C dx) :=
  ⟨⟨vs,q,z,n⟩,⟨_,q⟩,fun h1 h2 ⟨us,a,b,c⟩ k=>⟨us,k _ a,b,c⟩⟩
theorem TbO.ok {P : Program} {w : World} {H : Hp} {h : Heap} {T : Addr} (q : ∃ oT ts,h.get? T = some oT∧oT.data = .fields ts∧3 < ts.size) : ObjOk P w H h T (TbO T):=by
  obtain ⟨o,ts,a,b,c⟩:=q
  exact ⟨⟨o,ts,a,b,c⟩,⟨_,a⟩,fun h1 h2 ⟨u,us,a,b,c⟩ k=>⟨u,us,k _ a,b,c⟩⟩
theorem upd_id' {H : Hp} {a : Addr} {o : HO} (h : H a = some o) : upd H a o = H:=by
  funext b; unfold upd; split
  · rename_i e; rw [e,h]
  · rfl
def Xt : HO→Prop
  | .ext _=>True
  | _=>False
section
variable {X : Cx} {pins : List (Addr × Obj)} {σ : St} {H H₁ : Hp} {s : Shared} {e C dx : Addr} {M : Model} {E : Value→Shared→Prop} {Q : Unit→Shared→Prop}
theorem inv_noteG (I : Inv X pins σ H s) (hst : X.stack = X.env :: X.outer) (hfrm : X.env.frame = some X.env.locals) (T : Option Addr) {vs : Array Value}
    (he : s.heap.get? e = some { cls:=.ref C,dict:=some dx,data:=.fields vs }) (z : vs.size = 6) (h1 : vs[1]? = some (T.elim .none .ref))
    (hT : ∀ a,T = some a→a ≠ e∧(∃ oT ts,s.heap.get? a = some oT∧oT.data = .fields ts∧3 < ts.size)∧∃ o,H a = some o∧Xt o)
    (hx : ∃ o,H e = some o∧Xt o) (tr : ∀ b o,H₁ b = some o→b ≠ e∧T ≠ some b∧H b = some o) (cov : ∀ b o,H b = some o→b ≠ e→T ≠ some b→H₁ b = some o)
    (q : ∀ T' s',Inv X pins σ (up2 H₁ e T' C dx) s'→H₁ T' = none→T' ≠ e→Q () s') :
    wpAny M X.A (noteFrame (.ref e) X.env) Q E s:=by
  have hfun : s.heap.FunFrames X.base (X.env :: X.outer):=hst ▸ I.stack
  obtain ⟨oE,hE,hEx⟩:=hx
  refine x_note T (by rw [← hst]; exact I.ok.frames) hfun hfrm he rfl h1 (fun a ha=>⟨(hT a ha).1,(hT a ha).2.1⟩) fun h' T' k1 k2 k3 k4 k5 k6=>?_
  have fr0 : ∀ b ∈ frs (X.env :: X.outer),H b = none:=fun b hb=>I.stkFree b (by rw [hst]; exact hb)
  have un : ∀ b,H b = none→H₁ b = none:=fun b n=>by
    cases r : H₁ b with
    | none=>rfl
    | some o=>rw [(tr b o r).2.2] at n; cases n
  have h₁T : H₁ T' = none:=by
    rcases k6 with k6 | rfl
    · cases r : H₁ T' with
      | none=>rfl
      | some o=>exact absurd k6 (tr _ o r).2.1
    · exact un _ (I.hok.fresh (Nat.le_refl _))
  have nTe : T' ≠ e:=by
    rcases k6 with k6 | rfl
    · exact (hT _ k6).1
    · exact Nat.ne_of_gt (Heap.lt_size he)
  have get2 : ∀ b,b ≠ e→b ≠ T'→up2 H₁ e T' C dx b = H₁ b:=fun b n1 n2=>by unfold up2; rw [upd_ne n1,upd_ne n2]
  have trk : ∀ b o,H b = some o→T ≠ some b→b ≠ T':=fun b o r n=>by
    rcases k6 with k6 | rfl
    · exact fun zz=>n (by rw [zz]; exact k6)
    · exact Nat.ne_of_lt (I.hok.lt r)
  have old : ∀ b,H b = none→(∃ o,s.heap.get? b = some o)→b ≠ T':=fun b n ⟨o,r⟩=>by
    rcases k6 with k6 | rfl
    · intro zz
      obtain ⟨o',r',_⟩:=(hT _ k6).2.2
      rw [zz,r'] at n; cases n
    · exact Nat.ne_of_lt (Heap.lt_size r)
  have notE : ∀ b o,H b = some o→¬ Xt o→b ≠ e∧T ≠ some b:=fun b o r n=>by
    refine ⟨fun zz=>?_,fun zz=>?_⟩
    · subst zz; rw [hE] at r; cases r; exact n hEx
    · obtain ⟨o',r',x'⟩:=(hT b zz).2.2
      rw [r'] at r; cases r; exact n x'
  have keepT : ∀ b o u,H b = some o→b ≠ e→T ≠ some b→s.heap.get? b = some u→h'.get? b = some u:=fun b o u r n1 n2 r2 =>
    k1 b u n1 n2 (fun hb=>by rw [fr0 b hb] at r; cases r) r2
  have stay2 : ∀ b o,H b = some o→¬ Xt o→up2 H₁ e T' C dx b = some o:=fun b o r n=>by
    obtain ⟨n1,n2⟩:=notE b o r n
    rw [get2 b n1 (trk b o r n2)]; exact cov b o r n1 n2
  have hok : HOk X.prog X.w (up2 H₁ e T' C dx) h':=fun b o r=>by
    by_cases be : b = e
    · subst be
      unfold up2 at r; rw [upd_same] at r; cases r
      obtain ⟨vs',e1,e2,e3⟩:=k4
      exact FlyO.ok (vs:=vs') e1 (e2.trans z) e3
    · by_cases bT : b = T'
      · subst bT
        unfold up2 at r; rw [upd_ne be,upd_same] at r; cases r
        exact TbO.ok k5
      · rw [get2 b be bT] at r
        obtain ⟨n1,n2,r'⟩:=tr b o r
        refine (I.hok b o r').stay (fun c u hc r2=>?_) (fun c r2=>stay2 c _ r2 fun z=>z) fun c xs r2=>stay2 c _ r2 fun z=>z
        rcases hc with rfl | hc
        · exact keepT c o u r' n1 n2 r2
        · obtain ⟨m1,m2⟩:=notE c _ hc fun z=>z
          exact keepT c _ u hc m1 m2 r2
  have hTn : ∀ b,T = some b→H b ≠ none:=fun b hb n=>by
    obtain ⟨o',r',_⟩:=(hT b hb).2.2
    rw [r'] at n; cases n
  have U : Un (frs X.stack) [] H (up2 H₁ e T' C dx) s.heap h':=by
    refine ⟨fun b o r n hb _=>?_,fun b o r n hb _=>?_,fun b o r n _=>?_,fun b o r _=>k3 b o r,fun b xs r=>stay2 b _ r fun z=>z,fun b o u r=>stay2 b _ r fun z=>z,fun b ps r=>⟨#[],by rw [stay2 b _ r fun z=>z]; simp⟩⟩
    · exact k1 b o (fun zz=>by subst zz; rw [hE] at n; cases n) (fun zz=>hTn b zz n) (by rw [← hst]; exact hb) r
    · exact k2 b o (fun zz=>by subst zz; rw [hE] at n; cases n) (fun zz=>hTn b zz n) r
    · rw [get2 b (fun zz=>by subst zz; rw [hE] at n; cases n) (old b n ⟨o,r⟩)]; exact un b n
  exact q T' _ (I.call' (s':={ s with heap:=h' }) (ch:=[]) rfl U hok I.bare fun b z=>absurd z (by simp)) h₁T nTe
theorem inv_flight {T : Addr} {A : Around} {fr : Option Addr} (I : Inv X pins σ (up2 H₁ e T C dx) s) (hTe : T ≠ e) (q : ∀ s',Inv X pins σ (up2 H₁ e T C dx) s'→Q () s') : wpAny M A (setFlight (.ref e) fr) Q E s:=by
  have e1 : up2 H₁ e T C dx e = some (FlyO e T C dx):=upd_same
  have e2 : up2 H₁ e T C dx T = some (TbO T):=by unfold up2; rw [upd_ne hTe,upd_same]
  obtain ⟨vs,hge,hz,hv1⟩:=(I.hok e _ e1).1
  obtain ⟨oT,ts,hgT,hdT,ht3⟩:=(I.hok T _ e2).1
  unfold setFlight
  refine wpAny_bind (wpAny_field hge rfl hv1 ?_)
  rw [if_pos (show (Value.ref T != Value.none) = true from by simp)]
  refine wpAny_setField hgT hdT ht3 (q _ ?_)
  have hu:=Heap.get?_update_self (h:=s.heap) (Obj.mapFields (·.setIfInBounds 3 (fr.elim Value.none fun f=>rawInt f))) hgT (Obj.isFreed_of_fields (Obj.data_mapFields hdT _))
  have W:=I.write (x:=T) (e:=T) (o:=TbO T) (h':=s.heap.update T (Obj.mapFields (·.setIfInBounds 3 (fr.elim Value.none fun f=>rawInt f)))) (t':=s.toks) (by rw [e2]; trivial) (.inl rfl) (fun b u nb q=>(Heap.get?_update_other _ _ (Ne.symm nb)).trans q) ⟨_,hu⟩
    (TbO.ok ⟨_,_,hu,Obj.data_mapFields hdT _,by simpa using ht3⟩)
  rw [upd_id' e2] at W
  exact W
theorem inv_note1 (I : Inv X pins σ (upd H₁ e (XO e C (some dx))) s) (hst : X.stack = X.env :: X.outer) (hfrm : X.env.frame = some X.env.locals) (n : H₁ e = none)
    (q : ∀ T' s',Inv X pins σ (up2 H₁ e T' C dx) s'→H₁ T' = none→T' ≠ e→Q () s') :
    wpAny M X.A (noteFrame (.ref e) X.env) Q E s:=by
  obtain ⟨vs,he,z,h1⟩:=XO.at (d:=some dx) I.hok upd_same
  refine inv_noteG I hst hfrm none he z h1 (fun a ha=>nomatch ha) ⟨_,upd_same,trivial⟩ (fun b o r=>?_) (fun b o r ne _=>by rw [upd_ne ne] at r; exact r) q
  have ne : b ≠ e:=fun zz=>by subst zz; rw [n] at r; cases r
  exact ⟨ne,(nomatch ·),by rw [upd_ne ne]; exact r⟩
theorem inv_note2 {T : Addr} (I : Inv X pins σ (up2 H₁ e T C dx) s) (hst : X.stack = X.env :: X.outer) (hfrm : X.env.frame = some X.env.locals) (n : H₁ e = none) (nT : H₁ T = none) (hTe : T ≠ e)
    (q : ∀ T' s',Inv X pins σ (up2 H₁ e T' C dx) s'→H₁ T' = none→T' ≠ e→Q () s') :
    wpAny M X.A (noteFrame (.ref e) X.env) Q E s:=by
  have e1 : up2 H₁ e T C dx e = some (FlyO e T C dx):=upd_same
  have e2 : up2 H₁ e T C dx T = some (TbO T):=by unfold up2; rw [upd_ne hTe,upd_same]
  obtain ⟨vs,he,z,h1⟩:=(I.hok e _ e1).1
  refine inv_noteG I hst hfrm (some T) he z h1 (fun a ha=>?_) ⟨_,e1,trivial⟩ (fun b o r=>?_) (fun b o r ne nt=>?_) q
  · cases ha
    exact ⟨hTe,(I.hok T _ e2).1,_,e2,trivial⟩
  · have ne : b ≠ e:=fun zz=>by subst zz; rw [n] at r; cases r
    have nt : b ≠ T:=fun zz=>by subst zz; rw [nT] at r; cases r
    exact ⟨ne,fun zz=>nt (Option.some.inj zz).symm,by unfold up2; rw [upd_ne ne,upd_ne nt]; exact r⟩
  · unfold up2 at r
    rw [upd_ne ne,upd_ne (fun zz=>nt (by rw [zz]))] at r; exact r
end
def CXR (P : Program) (w : World) : CXT:=fun outer H s E v s'=>∃ e T dx C H₁,v = .ref e∧s'.os = s.os∧AllBare s'.gens∧H₁ e = none∧H₁ T = none∧T ≠ e∧H₁ dx = some xdA ∧
  Un (frs outer) [] H (up2 H₁ e T C dx) s.heap s'.heap∧HOk P w (up2 H₁ e T C dx) s'.heap∧E (.ref C) (some e) H₁
def Raises (X : Cx) (E : XK) : Prop:=∀ (pins : List (Addr × Obj)) (σ : St) (H₁ : Hp) (s : Shared) (e C dx : Addr),Inv X pins σ (upd H₁ e (XO e C (some dx))) s→H₁ e = none→H₁ dx = some xdA→E (.ref C) (some e) H₁→X.xe (.ref e) s
section
variable {P : Program} {w : World} {K : PySem.W.Frag} {mg : Str→Option Value} {base : Heap} {N : List Str} {qual : Str} {scope : Scope} {f : Addr} {cd : Value} {A : Around} {outer : List Env} {s₀ : Shared} {H₀ : Hp} {E : XK}
theorem leave_end {pins : List (Addr × Obj)} {σ : St} {H₁ : Hp} {s : Shared} {e T C dx : Addr} (I : Inv (cxOf (CXR P w) P w K mg base N qual scope f cd A outer s₀ H₀ E) pins σ (up2 H₁ e T C dx) s) (n : H₁ e = none) (nT : H₁ T = none) (hTe : T ≠ e) (hd : H₁ dx = some xdA) (q : E (.ref C) (some e) H₁) :
    CXR P w outer H₀ s₀ E (.ref e) s:=⟨e,T,dx,C,H₁,rfl,I.os,I.bare,n,nT,hTe,hd,I.base,I.hok,q⟩
theorem raises_cx : Raises (cxOf (CXR P w) P w K mg base N qual scope f cd A outer s₀ H₀ E) E:=by
  intro pins σ H₁ s e C dx I n hd q
  show wpAny _ _ (leaving _ (.ref e)) _ _ s
  unfold leaving
  exact wpAny_bind (inv_note1 I rfl rfl n fun T' s' I' nT hTe=>inv_flight I' hTe fun s2 I2=>leave_end I2 n nT hTe hd q)
def Thr (X : Cx) (E : XK) : Prop:=∀ (pins : List (Addr × Obj)) (σ : St) (H₁ : Hp) (s : Shared) (e T C dx : Addr),Inv X pins σ (up2 H₁ e T C dx) s→H₁ e = none→H₁ T = none→T ≠ e→H₁ dx = some xdA→E (.ref C) (some e) H₁→X.xe (.ref e) s
theorem Thr.passes {X : Cx} {E : XK} (h : Thr X E) : Passes (CXR X.prog X.w) X E:=by
  intro pins σ H s v s' I hc
  obtain ⟨e,T,dx,C,H₁,rfl,os,bare,n,nT,hTe,hd,un,hok,q⟩:=hc
  exact h pins σ H₁ s' e T C dx (I.call' (s':=s') (ch:=[]) os un hok bare fun b z=>absurd z (by simp)) n nT hTe hd q
theorem thr_cx : Thr (cxOf (CXR P w) P w K mg base N qual scope f cd A outer s₀ H₀ E) E:=by
  intro pins σ H₁ s e T C dx I n nT hTe hd q
  show wpAny _ _ (leaving _ (.ref e)) _ _ s
  unfold leaving
  exact wpAny_bind (inv_note2 I rfl rfl n nT hTe fun T' s' I' nT' hTe'=>inv_flight I' hTe' fun s2 I2=>leave_end I2 n nT' hTe' hd q)
end
end L2
set_option Elab.async false
set_option linter.all false
set_option maxRecDepth 100000
namespace L2
open PySem PySem.Spec PyProof.Rows
theorem upd_id {H : Hp} {a : Addr} {o : HO} (h : H a = some o) : upd H a o = H:=by
  funext b; unfold upd; split
  · rename_i e; rw [e,h]
  · rfl
theorem upd_comm {H : Hp} {a b : Addr} {o u : HO} (h : a ≠ b) : upd (upd H a o) b u = upd (upd H b u) a o:=by
  funext c; unfold upd
  by_cases e1 : c = b
  · by_cases e2 : c = a
    · exact absurd (e2.symm.trans e1) h
    · simp [e1,e2,Ne.symm h]
  · by_cases e2 : c = a
    · simp [e2,h]
    · simp [e1,e2]
def tVI (K : PySem.W.Frag) (fI : Addr) (t : TA) : TE:=fun σ H Q=>t σ H fun vs H1=>∃ e C v,vs = [.ref e,v]∧H1 e = some (XO e C none)∧XC K C fI∧Q .non H1
def tActS (K : PySem.W.Frag) (fI : Addr) (ta tv : TE) : TS:=fun D σ H=>tv σ H fun y H1=>ta σ H1 fun x H2=>∃ e C,y = .non∧x = .ref e∧H2 e = some (XO e C none)∧XC K C fI ∧
  ∀ dx,H2 dx = none→dx ≠ e→D.nx σ (upd (upd H2 dx xdA) e (XO e C (some dx)))
section
variable {X : Cx} {o value e1 : Expr} {es : List Expr} {p ap pos pos' cpos : Pos} {ta tv : TE} {t : TA} {fI : Addr} {pl : Sem Bool}
theorem boot_VE : bootBuiltins "ValueError" = some (.type "ValueError"):=by decide +kernel
theorem ty_VE : typeOf (.type "ValueError") = pure (.type "type"):=by first | rfl | kernel_rfl
theorem hand_VI : PySem.W.handedIn (.builtin "ValueError.__init__") = true:=by decide +kernel
theorem stub_VE : Manifest.isStub "ValueError" = false:=by decide +kernel
theorem pe_vinit (hg : Gl X "ValueError") (hm : X.mg "ValueError" = none) (ha : PA X (e1 :: es) t)
    (hst : starEach (e1 :: es) X.env = (false,eval e1 X.env) :: starEach es X.env:=by rfl) (hpl : (backTo cpos (starEach es X.env)).any (·.1) = false:=by rfl)
    (ht : eval (.Call (.Attribute (.Name "ValueError" p) "__init__" ap) (e1 :: es) [] cpos) X.env = (do
      let ov ← eval (.Name "ValueError" p) X.env
      standAt ap.atName
      let (f,first) ← holding [ov] (getMethod ov "__init__" pl)
      callWith cpos f first (backTo cpos (starEach (e1 :: es) X.env)) (backToKw cpos (keywordEach [] X.env))):=by rfl) :
    PE X (.Call (.Attribute (.Name "ValueError" p) "__init__" ap) (e1 :: es) [] cpos) (tVI X.K fI t):=by
  intro pins s σ H Q I h
  refine PySem.W.methodCall_KW (pl:=pl) (ld_blt I hg hm boot_VE ?_) ht
  obtain ⟨m,F⟩:=I.fr
  refine PySem.W.method_type (T:="ValueError") (name:="__init__") (v:=.builtin "ValueError.__init__") F I.ok.mod.kin ty_VE stub_VE (vi_find X.K) hand_VI ?_
  refine PyProof.Rows.callWith_builtin1 (thn (ha cpos pins _ σ H _ (I.tok _) h) fun us s1 ⟨vs,H1,I1,r,e,C,v,ev,he,c,q⟩=>?_) hst hpl
  subst ev
  cases r with
  | cons r0 r1 =>
    cases r1 with
    | @cons _ u2 _ _ r2 r3 =>
      cases r3
      obtain rfl:=r0
      obtain ⟨ws,hg',hz,h1⟩:=XO.at I1.hok he
      have h0 : 0 < ws.size:=by omega
      refine vi_run I1.kIn c hg' h0 (Array.getElem?_eq_getElem h0) (by rw [sizeLine_eq,List.length_cons,List.length_nil]; omega) ?_
      refine ⟨.non,H1,?_,rfl,q⟩
      have I2:=I1.kept (h':=s1.heap.push { cls:=.type "tuple",data:=.seq [u2].toArray }) (t':=s1.toks) (fun b u e=>Heap.get?_push_of_some _ e)
      have hg2:=Heap.get?_push_of_some (h:=s1.heap) { cls:=.type "tuple",data:=.seq [u2].toArray } hg'
      have hu:=Heap.get?_update_self (Obj.mapFields (·.setIfInBounds 0 (Value.ref s1.heap.objs.size))) hg2 (Obj.isFreed_of_fields (Obj.data_mapFields rfl _))
      have W:=I2.write (x:=e) (e:=e) (o:=XO e C none) (t':=s1.toks) (by rw [he]; trivial) (.inl rfl) (fun b u nb q=>(Heap.get?_update_other _ _ (Ne.symm nb)).trans q) ⟨_,hu⟩
        (XO.ok (vs:=ws.setIfInBounds 0 (.ref s1.heap.objs.size)) hu (by simp [hz]) (by rw [Array.getElem?_setIfInBounds_ne (by decide)]; exact h1))
      rw [upd_id he] at W
      exact W
theorem ps_act (ha : PE X o ta) (hv : PE X value tv) (hs : swapsWith value (some (.Attribute o "act" pos')) pos.line X.env = pure false:=by rfl) : PS X (.Assign [.Attribute o "act" pos'] value pos) (tActS X.K fI ta tv):=by
  intro pins s σ H D I h
  refine plainObj_wpAny_Assign_Attribute (thn (hv pins s σ H _ I h) fun u s1 ⟨y,H1,I1,ry,q⟩=>thn (ha pins s1 σ H1 _ I1 q) fun ov s2 ⟨x,H2,I2,rx,e,C,ey,ex,he,c,q2⟩=>?_) hs
  subst ex ey
  obtain rfl:=rx
  obtain rfl:=ry
  obtain ⟨ws,hg',hz,h1⟩:=XO.at I2.hok he
  have hdn : H2 s2.heap.objs.size = none:=I2.hok.fresh (Nat.le_refl _)
  have hne : s2.heap.objs.size ≠ e:=Nat.ne_of_gt (Heap.lt_size hg')
  refine x_store I2.kIn c hg' fun h' t' k1 k2 k3=>⟨σ,_,?_,q2 _ hdn hne⟩
  obtain ⟨od,es,ep,hod,hdd,r⟩:=id k2
  have I3:=I2.laid (a:=s2.heap.objs.size) (o:=xdA) (h':=s2.heap.push od) (t':=t') (fun b u e=>Heap.get?_push_of_some _ e) (Nat.le_refl _)
    ⟨_,⟨od,es,ep,Heap.get?_push_size _ (Heap.get?_some_iff.mp hod).2,hdd,r⟩,fun f=>by
      by_cases e : f = "act"
      · subst e; simp [RelO,RelV]
      · have n : (f == ("act" : Str)) = false:=by simpa using e
        simp [List.lookup,n,e,RelO]⟩
  refine I3.write (x:=e) (e:=e) (o:=XO e C (some s2.heap.objs.size)) (h':=h') (t':=t') (by rw [upd_ne (Ne.symm hne),he]; trivial) (.inl rfl) (fun b u nb q=>?_) ⟨_,k1⟩ (XO.ok k1 hz h1)
  by_cases eb : b = s2.heap.objs.size
  · subst eb
    rw [Heap.get?_push_size _ (Heap.get?_some_iff.mp hod).2] at q
    cases q; exact hod
  · refine k3 b u nb ?_
    obtain ⟨q1,q2⟩:=Heap.get?_some_iff.mp q
    refine Heap.get?_some_iff.mpr ⟨?_,q2⟩
    rw [← q1]
    generalize s2.heap = hh at eb ⊢
    cases hh
    simp only at eb
    simp [Heap.push,Array.getElem?_push,eb]
end
end L2
set_option Elab.async false
set_option linter.all false
set_option maxRecDepth 100000
namespace L2
open PySem PySem.Spec PyProof.Rows
def spInit (K : PySem.W.Frag) (fI : Addr) : Sp:=fun vs H Q _=>∃ e C,vs = [.ref e,.non]∧H e = some (XO e C none)∧XC K C fI∧∀ dx,H dx = none→dx ≠ e→Q .non (upd (upd H dx xdA) e (XO e C (some dx)))
def tRaise (C : Addr) (E : XK) (t : TA) : TS:=fun _ σ H=>t σ H fun vs H1=>vs = [.non]∧∀ e dx,H1 e = none→H1 dx = none→dx ≠ e→E (.ref C) (some e) (upd H1 dx xdA)
section
variable {M : Model} {A : Around} {E : Value→Shared→Prop} {env : Env} {K : PySem.W.Frag} {C fI : Addr}
theorem x_raiseStmt {s : Shared} {x : Sem Value} {Q : Flow→Shared→Prop} (c : XC K C fI) (hh : A.handled = none)
    (h : wpAny M A x (fun v s₁=>∃ e d vs,v = .ref e∧K.In s₁.heap∧s₁.heap.get? e = some { cls:=.ref C,dict:=d,data:=.fields vs }∧vs[1]? = some .none∧E (.ref e) s₁) E s) :
    wpAny M A (raiseStmt env (some x) none) Q E s:=by
  obtain ⟨nm,q,N,bs,bm,sn,sub,ab,col,dd,k0,k1,k2,k3,k5,lk,hB,hA,hN,hE⟩:=c.at_
  have hcB : (Value.ref C :: bm).contains (.type "BaseException") = true:=by rw [List.contains_cons,hE,Bool.or_true]
  unfold raiseStmt
  refine wpAny_bind (wpAny_mono h (fun v s₁ h₁=>?_) fun _ _ x=>x)
  obtain ⟨e,di,vs,rfl,X,he,h1,hE'⟩:=h₁
  have hC:=X _ _ lk
  obtain ⟨hp,g,d,tk,os⟩:=s₁
  repeat (first | with_reducible refine wpAny_loadPart_at he ?_ | with_reducible refine wpAny_loadPart_at hC ?_ | (with_reducible refine wpAny_isSubtype_exc hC ?_; rw [hcB]) | with_reducible refine wpAny_field he rfl h1 ?_ | wp_step)
  exact wpAny_raiseNew_none hh hE'
end
section
variable {X : Cx} {CX : CXT} {k : Nat} {C fI : Addr} {fd : FuncData} {ps : List Str} {E : XK} {x : Str} {np cpos pos : Pos} {a : Expr} {t : TA}
theorem run_exc {pins : List (Addr × Obj)} {σ : St} {H : Hp} {s : Shared} {Q : VK} {u : Value} (c : XC X.K C fI) (F : FnOk X.prog X.w X.K X.mg X.base CX k fI fd ps (spInit X.K fI)) (hr : Room (k + 1) X.A) (hb : Binds X.K fd ps []) (hx : Passes CX X E0)
    (I : Inv X pins σ H s) (r : RelV .non u) (h : ∀ e dx,H e = none→H dx = none→dx ≠ e→Q (.ref e) (upd (upd H dx xdA) e (XO e C (some dx)))) :
    wpAny (model X.prog X.w) X.A (call (.ref C) [u]) (EP X pins σ Q) X.xe s:=by
  obtain ⟨hp,g,d,tk,os⟩:=s
  refine x_call I.kIn c (fun h' e mk ee ht=>?_) (by rw [sizeLine_eq,List.length_cons,List.length_nil]; omega)
  obtain ⟨t0,te,-,-⟩:=mk.there
  have hen : H e = none:=I.hok.fresh (by rw [ee]; exact Nat.le_succ _)
  have I2 : Inv X pins σ (upd H e (XO e C none)) ⟨h',g,d,tk,os⟩:=I.laid (a:=e) (h':=h') (t':=tk) mk.keeps (by rw [ee]; exact Nat.le_succ _) (XO.ok te rfl rfl)
  have sp : spInit X.K fI [.ref e,.non] (upd H e (XO e C none)) (fun v H2=>v = .non∧Q (.ref e) H2) E0:=by
    refine ⟨e,C,rfl,upd_same,c,fun dx n ne=>⟨rfl,?_⟩⟩
    rw [upd_ne ne] at n
    have q:=h e dx hen n ne
    rw [upd_comm (Ne.symm ne),upd_upd]
    exact q
  have r2 : Vals [V.ref e,V.non] [Value.ref e,u]:=.cons rfl (.cons r .nil)
  have hl : ([Value.ref e,u] ++ []).length = ps.length:=by
    have q:=F.len _ _ _ _ sp
    rw [List.append_nil]; exact q
  have hb':=hb ⟨h',g,d,tk,os⟩ [Value.ref e,u] I2.kIn hl
  rw [List.append_nil] at hb'
  refine wpAny_call (codeAny_mono (F.run _ X.stack _ _ ⟨[Value.ref e,u],[]⟩ [Value.ref e,u] _ _ E0 (hr.make C [u] []) (I2.env0.make C [u] []) hb' r2 sp) fun r s' hq'=>?_)
  cases r with
  | error v=>exact hx pins σ _ _ v s' I2 hq'
  | ok fl =>
    cases fl with
    | ret w =>
      obtain ⟨v,H',I3,rv,ev,q3⟩:=I2.after hq'
      subst ev
      exact ⟨rv,⟨V.ref e,H',I3,rfl,q3⟩⟩
    | next=>exact False.elim hq'
    | brk=>exact False.elim hq'
    | cont=>exact False.elim hq'
theorem ps_raise (c : XC X.K C fI) (F : FnOk X.prog X.w X.K X.mg X.base CX k fI fd ps (spInit X.K fI)) (hr : Room (k + 1) X.A) (hb : Binds X.K fd ps []) (hx : Passes CX X E0) (hR : Raises X E) (hc : X.calm = true) (hk : PySem.W.keepIn X.K (.ref C) = true)
    (hg : Gl X x) (hm : X.mg x = some (.ref C)) (ha : PA X [a] t) (hdb : (x == ("__debug__" : Str)) = false:=by decide) (he : starEach [a] X.env = (false,eval a X.env) :: starEach [] X.env:=by rfl) :
    PS X (.Raise (some (.Call (.Name x np) [a] [] cpos)) none pos) (tRaise C E t):=by
  intro pins s σ H D I h
  rw [arm_exec_Raise]
  refine wpAny_bind (wpAny_standAt (x_raiseStmt c (I.ok.hd hc) ?_))
  refine wpAny_bind (wpAny_mono (Q:=EP X pins σ fun v H'=>∃ e dx H₁,v = .ref e∧H' = upd H₁ e (XO e C (some dx))∧H₁ e = none∧H₁ dx = some xdA∧E (.ref C) (some e) H₁) (E:=X.xe) ?_ (fun v s1 ⟨y,H',I',ry,e,dx,H₁,ey,eH,n,nd,q⟩=>?_) fun _ _ z=>z)
  · refine wpAny_Call_Name_kw (ld_glob I hg hm ?_ hdb)
    refine PySem.W.callWith_K (h₀:=X.base) I.ok.mod.kin hk (thn (ha cpos pins s σ H _ I h) fun us s1 ⟨vs,H1,I1,r,ev,q⟩=>⟨I1.kIn,?_⟩) he rfl
    subst ev
    cases r with
    | cons r0 r1 =>
      cases r1
      exact run_exc c F hr hb hx I1 r0 fun e dx n1 n2 ne=>⟨e,dx,upd H1 dx xdA,rfl,rfl,by rw [upd_ne (Ne.symm ne)]; exact n1,upd_same,q e dx n1 n2 ne⟩
  · subst ey eH
    obtain rfl:=ry
    refine wpAny_bind (wpAny_standAt (wpAny_pure ?_))
    obtain ⟨vs,hg',hz,h1⟩:=XO.at (d:=some dx) I'.hok upd_same
    exact ⟨e,_,vs,rfl,I'.kIn,hg',h1,hR pins σ H₁ s1 e C dx I' n nd q⟩
end
end L2
set_option Elab.async false
set_option linter.all false
set_option maxRecDepth 100000
namespace L2
open PySem PySem.Spec PyProof.Rows
section
variable {X : Cx} {pins : List (Addr × Obj)} {σ : St} {H : Hp} {s : Shared} {M : Model} {A : Around} {E : Value→Shared→Prop} {i : Nat} {n : Str} {pos : Pos} {Q : Unit→Shared→Prop}
theorem name_goes (I : Inv X pins σ H s) (hN : X.N.Nodup) (hi : X.N[i]? = some n) (hk : X.env.scope.names.lookup n = some .local) (h : ∀ s',Inv X pins (σ.set i none) H s'→Q () s') :
    wpAny M A (do bindName X.env n .none; unbindBehindTheSuite X.env n pos) Q E s:=by
  obtain ⟨m,hn,hl⟩:=id I.loc
  have hcls : (X.env.scope.kind == .class || (X.env.scope.kind == .module && X.env.locals != X.env.globals)) = false:=by rw [I.ok.kind]; rfl
  have hiσ : i < σ.length:=by rw [I.len]; exact (List.getElem?_eq_some_iff.mp hi).1
  have cne:=I.cne
  obtain ⟨oL,_,_,hoL,_⟩:=id hn
  refine wpAny_nameGoes_keeps hk hn hcls fun h' v hn' hs=>?_
  have lt : ∀ b o,X.s₀.heap.get? b = some o→b ≠ X.env.locals:=fun b o e=>Nat.ne_of_lt (Nat.lt_of_lt_of_le (Heap.lt_size e) I.ok.above)
  have hok : HOk X.prog X.w H h':=fun b ob e=>by
    refine (I.hok b ob e).stay (fun c w' hc q=>(hs.2 c ?_).trans q) (fun _ q=>q) fun _ _ q=>q
    rintro rfl
    rcases hc with rfl | hc
    · rw [I.free] at e; cases e
    · rw [I.free] at hc; cases hc
  refine h _ ⟨I.ok,I.os,I.bare,⟨fun b o e n hb hx=>?_,fun b o e n hb hx=>?_,I.base.free,fun b o e hx=>?_,I.base.tups,I.base.frzs,I.base.tbls⟩,⟨_,hn',fun j y v' e1 e2 e3=>?_⟩,fun y c e=>?_,I.free,I.freeC,fun p hp=>?_,hok,by simpa using I.len⟩
  · exact (hs.2 b (lt b o e)).trans (I.base.keep b o e n hb hx)
  · obtain ⟨sl,e1⟩:=I.base.slot b o e n hb hx
    exact ⟨sl,(hs.2 b (lt b o e)).trans e1⟩
  · obtain ⟨o',e1⟩:=I.base.there b o e hx
    exact ⟨o',(hs.2 b (lt b o e)).trans e1⟩
  · by_cases hj : j = i
    · subst hj
      rw [List.getElem?_set_self hiσ] at e2
      cases e2
    · rw [List.getElem?_set_ne (Ne.symm hj)] at e2
      obtain ⟨u',r',q⟩:=hl j y v' e1 e2 e3
      refine ⟨u',r',?_⟩
      rcases q with ⟨k,e⟩ | ⟨k,c,e,z⟩
      · refine .inl ⟨k,?_⟩
        have : y ≠ n:=fun e=>hj (nodup_ix hN e1 (e ▸ hi))
        simp [this,e]
      · exact .inr ⟨k,c,e,z.sameBut hs (cne y c e)⟩
  · obtain ⟨w',z⟩:=I.cell y c e
    exact ⟨w',z.sameBut hs (cne y c e)⟩
  · obtain ⟨e,n,ne,nf,d⟩:=I.pin p hp
    exact ⟨(hs.2 p.1 ne).trans e,n,ne,nf,d⟩
end
def tryCx (X : Cx) (pins : List (Addr × Obj)) (σ₀ : St) (E : XK) : Cx:={ X with pn:=X.pn ++ pins,xe:=fun v s'=>∃ e T dx C H₁,v = .ref e∧Inv X pins σ₀ (up2 H₁ e T C dx) s'∧H₁ e = none∧H₁ T = none∧T ≠ e∧H₁ dx = some xdA∧E (.ref C) (some e) H₁ }
def handCx (X : Cx) (e : Addr) : Cx:={ X with A:=X.A.mark (some (.ref e)),calm:=false,xe:=fun _ _=>False }
section
variable {X : Cx} {pins : List (Addr × Obj)} {σ σ₀ : St} {H : Hp} {s : Shared} {E : XK} {e : Addr}
theorem ok_try (ok : X.Ok) : (tryCx X pins σ₀ E).Ok:=⟨ok.mod,ok.kind,ok.glob,ok.blt,ok.above,ok.inj,ok.has,ok.cab,ok.hd,ok.frames,ok.stk,ok.exf,ok.bs,ok.bsz,ok.noex,ok.exfs,ok.funs,ok.frf⟩
theorem ok_hand (ok : X.Ok) : (handCx X e).Ok:=⟨ok.mod,ok.kind,ok.glob,ok.blt,ok.above,ok.inj,ok.has,ok.cab,(fun z=>nomatch z),ok.frames,ok.stk,ok.exf,ok.bs,ok.bsz,ok.noex,ok.exfs,ok.funs,ok.frf⟩
theorem Inv.toTry (I : Inv X pins σ H s) : Inv (tryCx X pins σ₀ E) [] σ H s:=⟨ok_try I.ok,I.os,I.bare,I.base,I.loc,I.cell,I.free,I.freeC,fun p hp=>I.pin p (by rw [List.append_nil] at hp; exact hp),I.hok,I.len⟩
theorem Inv.ofTry {pins' : List (Addr × Obj)} (ok : X.Ok) (I : Inv (tryCx X pins σ₀ E) pins' σ H s) : Inv X pins σ H s:=⟨ok,I.os,I.bare,I.base,I.loc,I.cell,I.free,I.freeC,fun p hp=>I.pin p (List.mem_append_left _ hp),I.hok,I.len⟩
theorem Inv.toHand (I : Inv X pins σ H s) : Inv (handCx X e) pins σ H s:=⟨ok_hand I.ok,I.os,I.bare,I.base,I.loc,I.cell,I.free,I.freeC,I.pin,I.hok,I.len⟩
theorem Inv.ofHand (ok : X.Ok) (I : Inv (handCx X e) pins σ H s) : Inv X pins σ H s:=⟨ok,I.os,I.bare,I.base,I.loc,I.cell,I.free,I.freeC,I.pin,I.hok,I.len⟩
end
def tCallAt (σ₀ : St) (sp : Sp) (dvs : List V) (E : XK) (t : TA) : TE:=fun σ H Q=>σ = σ₀∧t σ H fun vs H1=>sp (vs ++ dvs) H1 Q E
section
variable {X : Cx} {pins₀ : List (Addr × Obj)} {σ₀ : St} {k : Nat} {f : Addr} {fd : FuncData} {ps : List Str} {sp : Sp} {dvs : List V} {ds : List Value} {E : XK} {x : Str} {p pos : Pos} {e : Expr} {es : List Expr} {t : TA}
theorem pe_callAt (ok : X.Ok) (F : FnOk X.prog X.w X.K X.mg X.base (CXR X.prog X.w) k f fd ps sp) (hr : Room k X.A) (hg : Gl X x) (hm : X.mg x = some (.ref f)) (hk : PySem.W.keepIn X.K (.ref f) = true) (hb : Binds X.K fd ps ds) (hd : Vals dvs ds)
    (ha : PA (tryCx X pins₀ σ₀ E) (e :: es) t) (hdb : (x == ("__debug__" : Str)) = false:=by decide) (he : starEach (e :: es) X.env = (false,eval e X.env) :: starEach es X.env:=by rfl) (hpl : (backTo pos (starEach es X.env)).any (·.1) = false:=by rfl) :
    PE (tryCx X pins₀ σ₀ E) (.Call (.Name x p) (e :: es) [] pos) (tCallAt σ₀ sp dvs E t):=by
  rintro pins s σ H Q I ⟨rfl,h⟩
  refine wpAny_Call_Name_kw (ld_glob (X:=tryCx X pins₀ σ E) I hg hm ?_ hdb)
  refine PySem.W.callWith_K (h₀:=X.base) I.ok.mod.kin hk (thn (ha pos pins s σ H _ I h) fun us s1 ⟨vs,H1,I1,r,q⟩=>⟨I1.kIn,?_⟩) he hpl
  have r2 : Vals (vs ++ dvs) (us ++ ds):=r.append hd
  have hl : (us ++ ds).length = ps.length:=by rw [← r2.length]; exact F.len _ _ _ _ q
  refine wpAny_call (codeAny_mono (F.run X.A X.stack s1 H1 ⟨us,[]⟩ (us ++ ds) (vs ++ dvs) Q E hr I1.env0 (hb s1 us I1.kIn hl) r2 q) fun r s' hq=>?_)
  cases r with
  | error v =>
    obtain ⟨a,T,dx,C,H₁,rfl,os,bare,n,nT,hTe,hd',un,hok,q'⟩:=hq
    exact ⟨a,T,dx,C,H₁,rfl,(Inv.ofTry ok I1).call' (s':=s') (ch:=[]) os un hok bare (fun b z=>absurd z (by simp)),n,nT,hTe,hd',q'⟩
  | ok fl =>
    cases fl with
    | ret u=>exact I1.after hq
    | next=>exact False.elim hq
    | brk=>exact False.elim hq
    | cont=>exact False.elim hq
end
end L2
namespace L2
open PySem PySem.Spec PyProof.Rows
structure XS (K : PySem.W.Frag) (S : Addr) : Prop where
  ty : PySem.W.typeIn K (.ref S) = some (.type "type")
  cls : (PySem.W.clsIn K S).isSome = true
  base : PySem.W.mroIn K S (.type "BaseException") = some true
theorem x_matches {M : Model} {A : Around} {E : Value→Shared→Prop} {s : Shared} {K : PySem.W.Frag} {S C e : Addr} {oe : Obj} {Q : Bool→Shared→Prop} (X : K.In s.heap) (hS : XS K S) (he : s.heap.get? e = some oe) (hc : oe.cls = .ref C) (hm : PySem.W.mroIn K C (.ref S) = some true)
    (hq : Q true s) : wpAny M A (excMatches (.ref e) (.ref S)) Q E s:=by
  obtain ⟨h,g,d,t,os⟩:=s
  have T : PySem.W.Looks M h (typeOf (.ref S)) (.type "type"):=PySem.W.looks_typeIn X hS.ty
  have T0 : PySem.W.Looks M h (isInstance (.ref S) (.type "tuple")) false:=T.andThen (PySem.W.Looks.of_pure tc_notTuple)
  have Ti : PySem.W.Looks M h (isType (.ref S)) true:=by
    obtain ⟨cd,q⟩:=Option.isSome_iff_exists.mp hS.cls
    unfold PySem.W.clsIn at q
    split at q
    · rename_i ho
      exact (PySem.W.Looks.ld (X _ _ ho)).andThen .now
    · cases q
  have Te : PySem.W.Looks M h (typeOf (.ref e)) (.ref C):=hc ▸ (PySem.W.Looks.ld he).andThen .now
  have L1:=PySem.W.looks_mroIn (M:=M) X hS.base
  have L2:=PySem.W.looks_mroIn (M:=M) X hm
  have LE : PySem.W.Looks M h (isExcClass (.ref S)) true:=Ti.andThen L1
  unfold excMatches
  refine wpAny_bind (T0.at ?_)
  rw [if_neg (by decide)]
  refine wpAny_bind (wpAny_pure (a:=[Value.ref S]) ?_)
  simp only [List.forIn_cons,List.forIn_nil]
  refine wpAny_bind (wpAny_bind (wpAny_bind (LE.at ?_)))
  simp only [Bool.not_true,Bool.false_eq_true,if_false]
  refine wpAny_pure (wpAny_pure (wpAny_bind (Te.at (wpAny_bind (wpAny_bind (wpAny_bind (L2.at ?_)))))))
  simp only [if_true]
  exact wpAny_pure (wpAny_pure (wpAny_pure hq))
def goneE (D : Ends) (i : Nat) : Ends:={ nx:=fun σ H=>D.nx (σ.set i none) H,rt:=D.rt,bk:=fun σ H=>D.bk (σ.set i none) H,ct:=fun σ H=>D.ct (σ.set i none) H }
def exE (K : PySem.W.Frag) (S : Addr) (i : Nat) (th : TS) (D : Ends) (σ : St) : XK:=fun v o H₁=>∃ C e fI,v = .ref C∧o = some e∧XC K C fI∧PySem.W.mroIn K C (.ref S) = some true ∧
  ∀ T dx,H₁ e = none→H₁ T = none→T ≠ e→H₁ dx = some xdA→th (goneE D i) (σ.set i (some (.ref e))) (up2 H₁ e T C dx)
def tTry (K : PySem.W.Frag) (S : Addr) (i : Nat) (tb : St→XK→TS) (th : TS) : TS:=fun D σ H=>tb σ (exE K S i th D σ) D σ H
section
variable {X : Cx} {S : Addr} {i : Nat} {x n : Str} {np hpos pos : Pos} {body suite : List Stmt} {b₀ : Stmt} {tb : St→XK→TS} {th : TS}
theorem ps_try (hst : X.stack = X.env :: X.outer) (hfrm : X.env.frame = some X.env.locals) (hN : X.N.Nodup) (hi : X.N[i]? = some n) (hk : X.env.scope.names.lookup n = some .local)
    (hg : Gl X x) (hm : X.mg x = some (.ref S)) (hS : XS X.K S) (hb : ∀ pins σ₀ E,X.Ok→PSs (tryCx X pins σ₀ E) body (tb σ₀ E)) (hh : ∀ e,PSs (handCx X e) (b₀ :: suite) th) (hdb : (x == ("__debug__" : Str)) = false:=by decide) :
    PS X (.Try body [.ExceptHandler (some (.Name x np)) (some n) (b₀ :: suite) hpos] [] [] pos) (tTry X.K S i tb th):=by
  intro pins s σ H D I h
  refine wpAny_Try_except (wpAny_mono (hb pins σ (exE X.K S i th D σ) I.ok [] s σ H D I.toTry h) (fun f s1 h1=>?_) fun v s1 h1=>?_)
  · cases f with
    | next =>
      obtain ⟨σ',H',I',q⟩:=h1
      exact wpAny_execs_nil ⟨σ',H',Inv.ofTry I.ok I',q⟩
    | brk=>obtain ⟨σ',H',I',q⟩:=h1; exact ⟨σ',H',Inv.ofTry I.ok I',q⟩
    | cont=>obtain ⟨σ',H',I',q⟩:=h1; exact ⟨σ',H',Inv.ofTry I.ok I',q⟩
    | ret u=>obtain ⟨v,σ',H',I',r,q⟩:=h1; exact ⟨v,σ',H',Inv.ofTry I.ok I',r,q⟩
  · obtain ⟨e,T,dx,C,H₁,rfl,I1,n1,nT,hTe,hd,C',e',fI,eC,ee,c,hmr,q⟩:=h1
    cases eC; cases ee
    refine inv_note2 I1 hst hfrm n1 nT hTe fun T' s1' I1' nT' hTe'=>inv_flight I1' hTe' fun s2 I2=>?_
    have I2h : Inv (handCx X e) pins σ (up2 H₁ e T' C dx) s2:=I2.toHand
    refine wpAny_handleBy_cons (codeAny_handlers_test ?_) (by intro q; cases q)
    refine ld_glob (X:=handCx X e) I2h hg hm ?_ hdb
    have e1 : up2 H₁ e T' C dx e = some (FlyO e T' C dx):=upd_same
    obtain ⟨vs,hge,hz,hv1⟩:=(I2.hok e _ e1).1
    refine x_matches I2.kIn hS hge rfl hmr ?_
    rw [if_pos rfl]
    refine codeAny_handlers_suite_as ?_
    refine inv_flight I2 hTe' fun s2' I3=>?_
    refine store_ok I3 hN hi (.inl hk) (v:=.ref e) rfl (fun s3 I4=>?_) (.inr hk)
    refine wpAny_mono (hh e pins s3 _ _ _ I4.toHand (q T' dx n1 nT' hTe' hd)) (fun f s4 h4=>?_) fun _ _ z=>z.elim
    cases f with
    | next =>
      obtain ⟨σ',H',I',q'⟩:=h4
      exact name_goes (Inv.ofHand I.ok I') hN hi hk fun s5 I5=>⟨_,H',I5,q'⟩
    | brk =>
      obtain ⟨σ',H',I',q'⟩:=h4
      exact name_goes (Inv.ofHand I.ok I') hN hi hk fun s5 I5=>⟨_,H',I5,q'⟩
    | cont =>
      obtain ⟨σ',H',I',q'⟩:=h4
      exact name_goes (Inv.ofHand I.ok I') hN hi hk fun s5 I5=>⟨_,H',I5,q'⟩
    | ret u =>
      obtain ⟨v,σ',H',I',r,q'⟩:=h4
      exact name_goes (Inv.ofHand I.ok I') hN hi hk fun s5 I5=>⟨v,_,H',I5,r,q'⟩
end
section
variable {X : Cx} {o : Expr} {pos : Pos} {ta : TE}
def tAct (K : PySem.W.Frag) (ta : TE) : TE:=fun σ H Q=>ta σ H fun x H1=>∃ e T C dx fI,x = .ref e∧H1 e = some (FlyO e T C dx)∧XC K C fI∧H1 dx = some xdA∧Q .non H1
theorem pe_act (he : PE X o ta) (hb : attributeBase o "act" X.env (eval o X.env) = eval o X.env:=by rfl) : PE X (.Attribute o "act" pos) (tAct X.K ta):=by
  intro pins s σ H Q I h
  refine attr_of hb (thn (he pins s σ H _ I h) fun u s1 ⟨x,H1,I1,rx,e,T,C,dx,fI,ex,ea,c,ed,q⟩=>?_)
  subst ex
  obtain rfl : u = Value.ref e:=rx
  obtain ⟨vs,hge,hz,hv1⟩:=(I1.hok e _ ea).1
  obtain ⟨mA,hn,hf⟩:=I1.hok dx _ ed
  have q1:=hf "act"
  have q2 : mA "act" = some .none:=by
    cases z : mA "act" with
    | none=>rw [z] at q1; exact False.elim q1
    | some y=>rw [z] at q1; exact congrArg some q1
  exact x_load I1.kIn c hge hn q2 rfl ⟨.non,H1,I1.tok _,rfl,q⟩
def rIsE (K : PySem.W.Frag) (D : V) (Du : Value) (b : Bool→Prop) : List V→Hp→VK→Prop:=fun xs H Q=>∃ e T C dx fI bb,xs = [.ref e,D]∧H e = some (FlyO e T C dx)∧XC K C fI∧H dx = some xdA∧PySem.W.mroIn K C Du = some bb∧b bb∧Q (.bl bb) H
theorem call_isE {D : V} {Du : Value} (hr : ∀ u,RelV D u→u = Du) (hD : ∀ (M : Model) (h : Heap),X.K.In h→PySem.W.Looks M h (typeOf Du) (.type "type")) (hT : ∀ (M : Model) (h : Heap),X.K.In h→PySem.W.Looks M h (isType Du) true) :
    CallR X (.builtin "isinstance") (rIsE X.K D Du fun _=>True):=by
  rintro pins s σ H xs us Q I r ⟨e,T,C,dx,fI,bb,rfl,he,c,hd,hm,-,q⟩
  cases r with
  | cons r0 r1 =>
    cases r1 with
    | @cons _ u2 _ _ r2 r3 =>
      cases r3
      obtain rfl:=r0
      have hu : Du = u2:=(hr _ r2).symm
      subst hu
      obtain ⟨vs,hge,hz,hv1⟩:=(I.hok e _ he).1
      have hdx : ∃ o,s.heap.get? dx = some o:=by
        obtain ⟨mA,⟨o,_,_,ho,_⟩,_⟩:=I.hok dx _ hd
        exact ⟨o,ho⟩
      have g : Meets (Builtin.«isinstance» ⟨[.ref e,Du],[]⟩) (fun _ R s=>X.K.In s.heap∧s.heap.get? e = some { cls:=.ref C,dict:=some dx,data:=.fields vs }∧(∃ o,s.heap.get? dx = some o)∧∀ t,R (.ok (.ret (.bool bb))) { s with toks:=t }) :=
        fun prog w A R s hs=>isinstance_outer (x_isi_nested hs.1 c hs.2.1 (fun a z=>by cases z; exact hs.2.2.1) (hD _ _ hs.1) (hT _ _ hs.1) hm fun t=>hs.2.2.2 t) (by intro z; cases z)
      exact call_isinstance g ⟨I.kIn,hge,hdx,fun t=>⟨.bl bb,H,I.tok t,rfl,q⟩⟩
theorem isE_own {D : Addr} (hS : XS X.K D) : CallR X (.builtin "isinstance") (rIsE X.K (.ref D) (.ref D) fun _=>True):=by
  refine call_isE (fun u r=>r) (fun M h k=>PySem.W.looks_typeIn k hS.ty) fun M h k=>?_
  obtain ⟨cd,q⟩:=Option.isSome_iff_exists.mp hS.cls
  unfold PySem.W.clsIn at q
  split at q
  · rename_i ho
    exact (PySem.W.Looks.ld (k _ _ ho)).andThen .now
  · cases q
theorem isE_VE : CallR X (.builtin "isinstance") (rIsE X.K (.ty "ValueError") (.type "ValueError") fun _=>True) :=
  call_isE (fun u r=>r) (fun M h k=>PySem.W.Looks.of_pure ty_VE) fun M h k=>.now
end
end L2
set_option Elab.async false
set_option linter.all false
set_option maxRecDepth 100000
namespace PySem
namespace RvF
end RvF
section
variable {prog : Program} {w : World} {A : Around} {E : Value→Shared→Prop} {s : Shared}
end
end PySem
set_option Elab.async false
set_option linter.all false
set_option maxRecDepth 100000
namespace L2
open PySem PySem.Spec PyProof.Rows
theorem bt_int : bootBuiltins "int" = some (.type "int"):=by decide +kernel
theorem bt_bool : bootBuiltins "bool" = some (.type "bool"):=by decide +kernel
theorem bt_str : bootBuiltins "str" = some (.type "str"):=by decide +kernel
theorem bt_list : bootBuiltins "list" = some (.type "list"):=by decide +kernel
theorem bt_tuple : bootBuiltins "tuple" = some (.type "tuple"):=by decide +kernel
theorem bt_set : bootBuiltins "set" = some (.type "set"):=by decide +kernel
theorem bt_zip : bootBuiltins "zip" = some (.type "zip"):=by decide +kernel
theorem bt_enumerate : bootBuiltins "enumerate" = some (.type "enumerate"):=by decide +kernel
theorem bf_isinstance : bootBuiltins "isinstance" = some (.builtin "isinstance"):=by decide +kernel
theorem bf_len : bootBuiltins "len" = some (.builtin "len"):=by decide +kernel
theorem bf_all : bootBuiltins "all" = some (.builtin "all"):=by decide +kernel
theorem bf_any : bootBuiltins "any" = some (.builtin "any"):=by decide +kernel
def sgn (x : Str) (i : Nat) : Str:=⟨#[x.cps.getD i 0]⟩
theorem sgn_of {x : Str} {i c : Nat} (h : x.cps[i]? = some c) : (⟨#[c]⟩ : Str) = sgn x i:=by
  unfold sgn
  rw [Array.getD_eq_getD_getElem?,h]
  rfl
def Its (x : Str) : It:=⟨fun i _=>i < x.cps.size,fun i H v H'=>H' = H∧v = .str (sgn x i),fun i _=>x.cps.size ≤ i⟩
theorem turn_strA {P : Program} {w : World} {K : PySem.W.Frag} {tg : Expr} (it : Addr) (x : Str) (t : Tok) : Turn P w K tg (Its x) [it] it (fun i h=>h.IsStrIter it "str_ascii_iterator" x t i) where
  mem:=by simp
  obj:=fun i h st b hb=>by
    have e : b = it:=by simpa using hb
    subst e
    obtain ⟨o,e,c,d⟩:=st
    exact ⟨o,e,fun v z=>by rw [d] at z; cases z⟩
  keep:=fun i h h' st k=>let ⟨o,ho,r⟩:=st; ⟨o,k it (by simp) o ho,r⟩
  item:=by
    intro X hP hw hK hc i pins s σ H E I hf st hg
    subst hP hw hK
    obtain ⟨f0,f1,f2,f3,f4,f5⟩:=hf it (by simp)
    refine (Walks.strAscii (prog:=X.prog) (w:=X.w) (I.ok.hd hc) it x t).item i s _ _ hg st fun v h' tk hv st' kk=>?_
    obtain ⟨c,u,hcx,rfl⟩:=hv
    have I1 : Inv X pins σ H { s with heap:=h',toks:=tk }:=I.turned (fun b o hb e=>kk b o (by simpa using hb) e) f0 f1 f3 f4 f5
    obtain ⟨o,e,c',d⟩:=id st'
    exact ⟨_,rfl,go_of (s:={ s with heap:=h',toks:=tk }) e c' d (by decide) ⟨.str ⟨#[c]⟩,H,I1,⟨u,rfl⟩,⟨rfl,by rw [sgn_of hcx]⟩,st',fun b hb=>(hf b hb).1⟩⟩
  done:=by
    intro X hP hw hK hc i pins s σ H E I hf st hg
    subst hP hw hK
    obtain ⟨f0,f1,f2,f3,f4,f5⟩:=hf it (by simp)
    exact wpAny_pyNext_ascii_end (I.ok.hd hc) st (Array.getElem?_eq_none_iff.mpr hg) fun h' eb=>⟨rfl,I.turned (t':=s.toks) (fun b o hb e=>eb b o hb e) f0 f1 f3 f4 f5⟩
  self:=fun _ _ _ _ _ st h=>wpAny_pyIter_striter_ascii st h
theorem turn_strW {P : Program} {w : World} {K : PySem.W.Frag} {tg : Expr} (it : Addr) (x : Str) (t : Tok) : Turn P w K tg (Its x) [it] it (fun i h=>h.IsStrIter it "str_iterator" x t i) where
  mem:=by simp
  obj:=fun i h st b hb=>by
    have e : b = it:=by simpa using hb
    subst e
    obtain ⟨o,e,c,d⟩:=st
    exact ⟨o,e,fun v z=>by rw [d] at z; cases z⟩
  keep:=fun i h h' st k=>let ⟨o,ho,r⟩:=st; ⟨o,k it (by simp) o ho,r⟩
  item:=by
    intro X hP hw hK hc i pins s σ H E I hf st hg
    subst hP hw hK
    obtain ⟨f0,f1,f2,f3,f4,f5⟩:=hf it (by simp)
    refine (Walks.strWide (prog:=X.prog) (w:=X.w) (I.ok.hd hc) it x t).item i s _ _ hg st fun v h' tk hv st' kk=>?_
    obtain ⟨c,u,hcx,rfl⟩:=hv
    have I1 : Inv X pins σ H { s with heap:=h',toks:=tk }:=I.turned (fun b o hb e=>kk b o (by simpa using hb) e) f0 f1 f3 f4 f5
    obtain ⟨o,e,c',d⟩:=id st'
    exact ⟨_,rfl,go_of (s:={ s with heap:=h',toks:=tk }) e c' d (by decide) ⟨.str ⟨#[c]⟩,H,I1,⟨u,rfl⟩,⟨rfl,by rw [sgn_of hcx]⟩,st',fun b hb=>(hf b hb).1⟩⟩
  done:=by
    intro X hP hw hK hc i pins s σ H E I hf st hg
    subst hP hw hK
    obtain ⟨f0,f1,f2,f3,f4,f5⟩:=hf it (by simp)
    exact wpAny_pyNext_wide_end (I.ok.hd hc) st (Array.getElem?_eq_none_iff.mpr hg) fun h' eb=>⟨rfl,I.turned (t':=s.toks) (fun b o hb e=>eb b o hb e) f0 f1 f3 f4 f5⟩
  self:=fun _ _ _ _ _ st h=>wpAny_pyIter_striter_wide st h
section
variable {X : Cx} {tg : Expr}
def iStr (tl : TE) : TI:=fun σ H R=>tl σ H fun x H1=>∃ z,x = .str z∧R (Its z) H1
theorem pi_str {l : Expr} {tl : TE} (hl : PE X l tl) : PI X tg l (iStr tl):=by
  intro pins s σ H R I h
  refine thn (hl pins s σ H _ I h) fun v s1 ⟨x,H1,I1,r1,q1⟩=>?_
  obtain ⟨z,e,q⟩:=q1
  subst e
  obtain ⟨t,rfl⟩:=r1
  have fp : ∀ b ∈ [s1.heap.objs.size],FpOk X pins H1 b:=fun b hb=>by
    have e : b = s1.heap.objs.size:=by simpa using hb
    subst e
    exact I1.fpOk (Nat.le_refl _) (I1.hok.fresh (Nat.le_refl _))
  cases ha : z.cps.all (· < 128)
  · exact wpAny_pyIter_wide ha ⟨s1.heap.objs.size,[s1.heap.objs.size],_,_,H1,rfl,I1.kept (t':=s1.toks) fun b o e=>Heap.get?_push_of_some _ e,turn_strW _ z t,⟨_,Heap.get?_push_size _ rfl,rfl,rfl⟩,fp,q⟩
  · exact wpAny_pyIter_ascii ha ⟨s1.heap.objs.size,[s1.heap.objs.size],_,_,H1,rfl,I1.kept (t':=s1.toks) fun b o e=>Heap.get?_push_of_some _ e,turn_strA _ z t,⟨_,Heap.get?_push_size _ rfl,rfl,rfl⟩,fp,q⟩
def isiV (x : V) (T : String) : Option Bool:=match x with
  | .int _=>if T = "int" then some true else if T = "bool" then some false else if T = "str" then some false else none
  | .str _=>if T = "int" then some false else if T = "bool" then some false else if T = "str" then some true else none
  | .bl _=>if T = "int" then some true else if T = "bool" then some true else if T = "str" then some false else none
  | _=>none
def rIsi : List V→Hp→VK→Prop:=fun xs H Q=>∃ x T b,xs = [x,.ty T]∧isiV x T = some b∧Q (.bl b) H
theorem call_isi : CallR X (.builtin "isinstance") rIsi:=by
  intro pins s σ H xs us Q I r h
  obtain ⟨x,T,b,rfl,e,q⟩:=h
  obtain ⟨u,v,rfl,rx,rT⟩:=r.two
  cases rT
  have f0 : ∀ {k : Bool},some k = some b→EP X pins σ Q (.bool k) s:=fun e=>by cases e; exact ⟨.bl _,H,I,rfl,q⟩
  have f1 : ∀ {k : Bool},some k = some b→EP X pins σ Q (.bool k) { s with toks:=s.toks + 1 }:=fun e=>by cases e; exact ⟨.bl _,H,I.tok _,rfl,q⟩
  cases x with
  | int i =>
    obtain ⟨t,rfl⟩:=rx
    unfold isiV at e
    dsimp only at e
    split at e
    · rename_i hT; subst hT; exact IsiPair.int_int (f0 e)
    split at e
    · rename_i hT; subst hT; exact IsiPair.int_bool (f1 e)
    split at e
    · rename_i hT; subst hT; exact IsiPair.int_str (f1 e)
    · cases e
  | str z =>
    obtain ⟨t,rfl⟩:=rx
    unfold isiV at e
    dsimp only at e
    split at e
    · rename_i hT; subst hT; exact IsiPair.str_int (f1 e)
    split at e
    · rename_i hT; subst hT; exact IsiPair.str_bool (f1 e)
    split at e
    · rename_i hT; subst hT; exact IsiPair.str_str (f0 e)
    · cases e
  | bl z =>
    cases rx
    unfold isiV at e
    dsimp only at e
    split at e
    · rename_i hT; subst hT; exact IsiPair.bool_int (f0 e)
    split at e
    · rename_i hT; subst hT; exact IsiPair.bool_bool (f0 e)
    split at e
    · rename_i hT; subst hT; exact IsiPair.bool_str (f1 e)
    · cases e
  | _=>cases (show (none : Option Bool) = some b from e)
end
theorem small {n : Nat} (h : n ≤ 1000) : n ≤ sizeLine:=Nat.le_of_lt (small1000 h)
theorem Paired_nil : Vals [] []:=.nil
theorem Paired_cons {x : V} {u : Value} {xs : List V} {us : List Value} (r : RelV x u) (t : Vals xs us) : Vals (x :: xs) (u :: us):=.cons r t
def plainE : Expr→Bool
  | .Starred ..=>false
  | _=>true
theorem starEach_plain {e : Expr} {es : List Expr} {env : Env} (h : plainE e = true) : starEach (e :: es) env = (false,eval e env) :: starEach es env:=by
  cases e <;> first | rfl | cases h
theorem pa_c {X : Cx} {e : Expr} {es : List Expr} {te : TE} {t : TA} (ha : PE X e te) (hr : PA X es t) (hp : plainE e = true:=by rfl) :
    PA X (e :: es) (tCons te t):=pa_cons ha hr (starEach_plain hp)
theorem pe_gl {X : Cx} {x : Str} {v : V} {pos : Pos} (hg : Gl X x) (hm : ∃ u,X.mg x = some u∧RelV v u) (hd : (x == ("__debug__" : Str)) = false:=by decide) : PE X (.Name x pos) (tC v):=by
  obtain ⟨u,hm,r⟩:=hm
  exact pe_glob hg hm r hd
section
variable {P : Program} {w : World} {K : PySem.W.Frag} {mg : Str→Option Value} {base : Heap}
def Dn (K : PySem.W.Frag) (mg : Str→Option Value) (x : Str) (st : Stmt) (ps : List Str) : Prop:=∃ f fd,Fun K x x st f fd∧Binds K fd ps []∧mg x = some (.ref f)
def Ok (P : Program) (w : World) (K : PySem.W.Frag) (mg : Str→Option Value) (base : Heap) (k : Nat) (x : Str) (ps : List Str) (sp : Sp) : Prop :=
  ∃ f fd,mg x = some (.ref f)∧PySem.W.keepIn K (.ref f) = true∧Binds K fd ps []∧FnOk P w K mg base CX0 k f fd ps sp
theorem Ok.mono {j k : Nat} {x : Str} {ps : List Str} {sp : Sp} (h : Ok P w K mg base j x ps sp) (hj : j ≤ k) : Ok P w K mg base k x ps sp:=by
  obtain ⟨f,fd,h1,h2,h3,h4⟩:=h
  exact ⟨f,fd,h1,h2,h3,h4.mono hj⟩
theorem Ok.of {x : Str} {st : Stmt} {N ps : List Str} {k : Nat} {sp : Sp} (D : Dn K mg x st ps) (S : FnScope N ps (defScope st)) (len : ∀ vs H Q E,sp vs H Q E→vs.length = ps.length)
    (hbody : ∀ (f : Addr) (cdv : Value) (A : Around) (outer : List Env) (s : Shared) (H : Hp) (vs : List V) (Q : VK) (E : XK),Room k (A.deeper (envOfC x (defScope st) s.heap.objs.size f cdv))→sp vs H Q E →
      ∃ t,PSs (cxOf CX0 P w K mg base N x (defScope st) f cdv A outer s H E).nox (defBody st) t∧t { nx:=fun _ H'=>Q .non H',rt:=Q } (start N vs) H) : Ok P w K mg base (k + 1) x ps sp:=by
  obtain ⟨f,fd,F,B,m⟩:=D
  exact ⟨f,fd,m,F.kp,B,F.ok S len fun cdv A outer s H vs Q E hr h=>hbody f cdv A outer s H vs Q E hr h⟩
end
section
variable {X : Cx} {k : Nat} {ps : List Str} {sp : Sp} {x : Str} {p pos : Pos} {e : Expr} {es : List Expr} {t : TA}
theorem pe_fn (G : Ok X.prog X.w X.K X.mg X.base k x ps sp) (hr : Room k X.A) (hg : Gl X x) (ha : PA X (e :: es) t) (hdb : (x == ("__debug__" : Str)) = false:=by decide)
    (he : starEach (e :: es) X.env = (false,eval e X.env) :: starEach es X.env:=by rfl) (hpl : (backTo pos (starEach es X.env)).any (·.1) = false:=by rfl) :
    PE X (.Call (.Name x p) (e :: es) [] pos) (tCall sp [] E0 t):=by
  obtain ⟨f,fd,h1,h2,h3,h4⟩:=G
  exact pe_call h4 hr hg h1 h2 h3 .nil pass0 ha hdb he hpl
theorem pe_fn0 (G : Ok X.prog X.w X.K X.mg X.base k x ps sp) (hr : Room k X.A) (hg : Gl X x) (hdb : (x == ("__debug__" : Str)) = false:=by decide) :
    PE X (.Call (.Name x p) [] [] pos) (tCall sp [] E0 tNil):=by
  obtain ⟨f,fd,h1,h2,h3,h4⟩:=G
  exact pe_call0 h4 hr hg h1 h2 h3 .nil pass0 hdb
end
end L2
set_option Elab.async false
set_option linter.all false
set_option maxRecDepth 100000
namespace L2
open PySem PySem.Spec PyProof.Rows
theorem closure_go {env : Env} (f : Str × NameKind→List (Str × Addr)→Sem (ForInStep (List (Str × Addr))))
    (h1 : ∀ n r,f (n,.free) r = (cellOf env n >>= fun a=>pure (.yield ((n,a) :: r)))) (h2 : ∀ n k r,k ≠ .free→f (n,k) r = pure (.yield r)) :
    ∀ (names : List (Str × NameKind)) (acc : List (Str × Addr)),(∀ y ∈ names,y.2 = .free→∃ c,env.cells.lookup y.1 = some c) →
    ∃ cl,forIn names acc f = (pure (cl ++ acc) : Sem _)∧(∀ p ∈ cl,env.cells.lookup p.1 = some p.2∧(p.1,NameKind.free) ∈ names)∧∀ y,(y,NameKind.free) ∈ names→∃ c,(y,c) ∈ cl
  | [],acc,_=>⟨[],by simp,fun _ h=>(nomatch h),fun _ h=>(nomatch h)⟩
  | (n,k) :: r,acc,h=>by
    by_cases hk : k = .free
    · subst hk
      obtain ⟨c,hc⟩:=h (n,.free) List.mem_cons_self rfl
      obtain ⟨cl,e,p1,p2⟩:=closure_go f h1 h2 r ((n,c) :: acc) fun y hy=>h y (List.mem_cons_of_mem _ hy)
      refine ⟨cl ++ [(n,c)],?_,fun p hp=>?_,fun y hy=>?_⟩
      · rw [List.forIn_cons,h1]
        have e0 : cellOf env n = pure c:=by unfold cellOf; rw [hc]
        rw [e0,pure_bind,pure_bind]
        show forIn r ((n,c) :: acc) f = _
        rw [e,List.append_assoc]
        rfl
      · rcases List.mem_append.mp hp with hp | hp
        · exact ⟨(p1 p hp).1,List.mem_cons_of_mem _ (p1 p hp).2⟩
        · obtain rfl:=List.mem_singleton.mp hp
          exact ⟨hc,List.mem_cons_self⟩
      · rcases List.mem_cons.mp hy with e | hy
        · cases e
          exact ⟨c,by simp⟩
        · obtain ⟨c',q⟩:=p2 y hy
          exact ⟨c',List.mem_append_left _ q⟩
    · obtain ⟨cl,e,p1,p2⟩:=closure_go f h1 h2 r acc fun y hy=>h y (List.mem_cons_of_mem _ hy)
      refine ⟨cl,?_,fun p hp=>⟨(p1 p hp).1,List.mem_cons_of_mem _ (p1 p hp).2⟩,fun y hy=>?_⟩
      · rw [List.forIn_cons,h2 n k acc hk,pure_bind]
        exact e
      · rcases List.mem_cons.mp hy with e | hy
        · cases e
          exact absurd rfl hk
        · exact p2 y hy
theorem closure_of {scope : Scope} {env : Env} (h : ∀ y ∈ scope.names,y.2 = .free→∃ c,env.cells.lookup y.1 = some c) :
    ∃ cl,closureFor scope env = pure cl∧(∀ p ∈ cl,env.cells.lookup p.1 = some p.2∧(p.1,NameKind.free) ∈ scope.names)∧∀ y,(y,NameKind.free) ∈ scope.names→∃ c,(y,c) ∈ cl:=by
  unfold closureFor
  obtain ⟨cl,e,p1,p2⟩:=closure_go (env:=env) (fun x r=>match x with | (name,kind)=>if (kind == NameKind.free) = true then do let a ← cellOf env name; pure (.yield ((name,a) :: r)) else pure (.yield r))
    (fun n r=>rfl) (fun n k r hk=>by
      have : (k == NameKind.free) = false:=by simpa using hk
      simp only [this,Bool.false_eq_true,if_false]) scope.names [] h
  refine ⟨cl,?_,p1,p2⟩
  rw [List.append_nil] at e
  refine Eq.trans ?_ e
  first
  | rfl
  | simp
theorem lookup_mem {α β : Type} [BEq α] [LawfulBEq α] {a : α} {b : β} : ∀ {l : List (α × β)},(a,b) ∈ l→∃ b',l.lookup a = some b'
  | (x,y) :: r,h=>by
    rw [List.lookup_cons]
    by_cases e : (a == x) = true
    · exact ⟨y,by rw [e]⟩
    · have e' : (a == x) = false:=by simpa using e
      rw [e']
      rcases List.mem_cons.mp h with z | z
      · cases z
        simp at e
      · exact lookup_mem z
theorem relabel_free {env : Env} {y : Str} {k : NameKind} : ∀ {names : List (Str × NameKind)},names.lookup y = some .free →
    (names.map fun (x : Str × NameKind)=>match x with | (n,k)=>if (k == NameKind.free && env.scope.kind == ScopeKind.function && env.kindOf n == some NameKind.cell) then (n,NameKind.cell) else (n,k)).lookup y = some .cell ∨
    (names.map fun (x : Str × NameKind)=>match x with | (n,k)=>if (k == NameKind.free && env.scope.kind == ScopeKind.function && env.kindOf n == some NameKind.cell) then (n,NameKind.cell) else (n,k)).lookup y = some .free
  | [],h=>by simp at h
  | (n,k') :: r,h=>by
    rw [List.map_cons]
    rw [List.lookup_cons] at h
    by_cases e : (y == n) = true
    · rw [e] at h
      cases h
      by_cases q : ((NameKind.free == NameKind.free) && env.scope.kind == ScopeKind.function && env.kindOf n == some NameKind.cell) = true
      · left
        simp only [q,if_true,List.lookup_cons,e]
      · right
        have q':=Bool.eq_false_iff.mpr q
        simp only [q',Bool.false_eq_true,if_false,List.lookup_cons,e]
    · have e' : (y == n) = false:=by simpa using e
      rw [e'] at h
      have ih:=relabel_free (env:=env) (k:=k) h
      have key : ∀ z : Str × NameKind,z.1 = n→(List.lookup y (z :: (r.map fun (x : Str × NameKind)=>match x with | (n,k)=>if (k == NameKind.free && env.scope.kind == ScopeKind.function && env.kindOf n == some NameKind.cell) then (n,NameKind.cell) else (n,k)))) =
          List.lookup y (r.map fun (x : Str × NameKind)=>match x with | (n,k)=>if (k == NameKind.free && env.scope.kind == ScopeKind.function && env.kindOf n == some NameKind.cell) then (n,NameKind.cell) else (n,k)):=fun z hz=>by
        obtain ⟨z1,z2⟩:=z
        cases hz
        rw [List.lookup_cons,e']
      have kz : (match ((n,k') : Str × NameKind) with | (n,k)=>if (k == NameKind.free && env.scope.kind == ScopeKind.function && env.kindOf n == some NameKind.cell) then (n,NameKind.cell) else (n,k)).1 = n:=by
        dsimp only
        split <;> rfl
      rw [key _ kz]
      exact ih
theorem relabel_back {env : Env} {y : Str} : ∀ {names : List (Str × NameKind)},(∀ z ∈ names,z.2 ≠ .cell) →
    ((names.map fun (x : Str × NameKind)=>match x with | (n,k)=>if (k == NameKind.free && env.scope.kind == ScopeKind.function && env.kindOf n == some NameKind.cell) then (n,NameKind.cell) else (n,k)).lookup y = some .cell ∨
    (names.map fun (x : Str × NameKind)=>match x with | (n,k)=>if (k == NameKind.free && env.scope.kind == ScopeKind.function && env.kindOf n == some NameKind.cell) then (n,NameKind.cell) else (n,k)).lookup y = some .free)→(y,NameKind.free) ∈ names
  | [],_,h=>by simp at h
  | (n,k') :: r,hc,h=>by
    rw [List.map_cons] at h
    by_cases e : (y == n) = true
    · have ey : y = n:=by simpa using e
      subst ey
      have hk : k' = .free:=by
        by_cases q : ((k' == NameKind.free) && env.scope.kind == ScopeKind.function && env.kindOf y == some NameKind.cell) = true
        · rw [Bool.and_eq_true,Bool.and_eq_true] at q
          simpa using q.1.1
        · have q':=Bool.eq_false_iff.mpr q
          simp only [q',Bool.false_eq_true,if_false,List.lookup_cons,e] at h
          rcases h with h | h
          · cases h
            exact absurd rfl (hc (y,.cell) List.mem_cons_self)
          · cases h; rfl
      subst hk
      exact List.mem_cons_self
    · have e' : (y == n) = false:=by simpa using e
      have key : ∀ z : Str × NameKind,z.1 = n→(List.lookup y (z :: (r.map fun (x : Str × NameKind)=>match x with | (n,k)=>if (k == NameKind.free && env.scope.kind == ScopeKind.function && env.kindOf n == some NameKind.cell) then (n,NameKind.cell) else (n,k)))) =
          List.lookup y (r.map fun (x : Str × NameKind)=>match x with | (n,k)=>if (k == NameKind.free && env.scope.kind == ScopeKind.function && env.kindOf n == some NameKind.cell) then (n,NameKind.cell) else (n,k)):=fun z hz=>by
        obtain ⟨z1,z2⟩:=z
        cases hz
        rw [List.lookup_cons,e']
      have kz : (match ((n,k') : Str × NameKind) with | (n,k)=>if (k == NameKind.free && env.scope.kind == ScopeKind.function && env.kindOf n == some NameKind.cell) then (n,NameKind.cell) else (n,k)).1 = n:=by
        dsimp only
        split <;> rfl
      rw [key _ kz] at h
      exact List.mem_cons_of_mem _ (relabel_back (fun z hz=>hc z (List.mem_cons_of_mem _ hz)) h)
section
variable {prog : Program} {w : World} {A : Around} {E : Value→Shared→Prop} {R : Result→Shared→Prop} {s : Shared}
theorem comp_loop {elt target iter : Expr} {ifs : List Expr} {scope : Scope} {pos : Pos} {it acc : Value} {env : Env} (I : Nat→Shared→Prop)
    (turn : ∀ n s,I n s→wpAny (model prog w) A (pyNext it) (fun r s₁=>match r with
      | none=>R (.ok .next) s₁
      | some v=>wpAny (model prog w) A (letOwnedTupleGo target it v) (fun _ s'=>wpAny (model prog w) A (assign target env v) (fun _ s₂ =>
          wpAny (model prog w) A (forIn ifs true fun c r=>if r = true then do let ok ← isTrue c env (eval c env); pure (ForInStep.yield ok) else pure (ForInStep.yield r)) (fun ok s₃ =>
            if ok = true then wpAny (model prog w) A (eval elt env) (fun x s₄ =>
              wpAny (model prog w) A (call (.builtin "list.append") [acc,x]) (fun _ s₅=>∃ m,m < n∧I m s₅) (notedBy (model prog w) A env fun e s'=>R (.error e) s') s₄) (notedBy (model prog w) A env fun e s'=>R (.error e) s') s₃
            else ∃ m,m < n∧I m s₃) (notedBy (model prog w) A env fun e s'=>R (.error e) s') s₂) (notedBy (model prog w) A env fun e s'=>R (.error e) s') s') (notedBy (model prog w) A env fun e s'=>R (.error e) s') s₁)
      (notedBy (model prog w) A env fun e s'=>R (.error e) s') s)
    (n : Nat) (h : I n s) : codeAny (model prog w) A (.compLoop (.ListComp elt [⟨target,iter,ifs,0⟩] scope pos) 0 it acc env) R s:=by
  refine codeAny_loop rfl I (fun n s hI=>?_) n h
  show wpAny _ A ((compTurn (.ListComp elt [⟨target,iter,ifs,0⟩] scope pos) 0 it acc env).onRaise (fun x=>do noteFrame x env; theTreesLotGoes x)) _ _ s
  refine wpAny_noted ?_
  rw [compTurn_list]
  refine wpAny_bind (wpAny_standAt (wpAny_bind (wpAny_mono (turn n s hI) (fun r s₁ h₁=>?_) fun _ _ h'=>h')))
  cases r with
  | none=>exact wpAny_pure h₁
  | some v =>
    refine wpAny_bind (wpAny_mono h₁ (fun _ s' h₁'=>wpAny_bind (wpAny_mono h₁' (fun _ s₂ h₂=>wpAny_bind (wpAny_mono h₂ (fun ok s₃ h₃=>?_) fun _ _ h'=>h')) fun _ _ h'=>h')) fun _ _ h'=>h')
    cases ok with
    | false=>exact wpAny_pure ⟨rfl,h₃⟩
    | true =>
      exact wpAny_bind (wpAny_bind (wpAny_mono h₃ (fun x s₄ h₄=>wpAny_bind (wpAny_mono h₄ (fun _ s₅ h₅=>wpAny_pure (wpAny_pure ⟨rfl,h₅⟩)) fun _ _ h'=>h')) fun _ _ h'=>h'))
end
def cxC (X : Cx) (N : List Str) (scope : Scope) (cl : List (Str × Addr)) (s : Shared) (H : Hp) (fp : List Addr) : Cx :=
  { X with N:=N,s₀:=s,H₀:=H,env:=compEnvC scope cl s.heap.objs.size X.env,outer:=X.stack,stack:=X.stack,ex:=fp,fn:=fun _=>false,pn:=[],xe:=fun _ _=>False }
def PIfs (X : Cx) (ifs : List Expr) (tt : TT) : Prop :=
  ∀ (pins : List (Addr × Obj)) (s : Shared) (σ : St) (H : Hp) (Q : Bool→Hp→Prop),Inv X pins σ H s→tt σ H Q →
    wpAny (model X.prog X.w) X.A (forIn ifs true fun c r=>if r = true then do let ok ← isTrue c X.env (eval c X.env); pure (ForInStep.yield ok) else pure (ForInStep.yield r)) (TP X pins σ Q) X.xe s
def tYes : TT:=fun _ H Q=>Q true H
theorem pf_nil {X : Cx} : PIfs X [] tYes:=fun _ _ _ H _ I h=>wpAny_tests_nil ⟨H,I,h⟩
theorem pf_one {X : Cx} {c : Expr} {tc : TT} (h : PT X c tc) : PIfs X [c] tc:=fun pins s σ H Q I q=>wpAny_tests_one (h pins s σ H Q I q)
structure CompOk (scope : Scope) (N : List Str) : Prop where
  cell : ∀ y ∈ scope.names,y.2 ≠ .cell
  kind : scope.kind = .function
  names : ∀ y ∈ scope.names,y.2 = .local→scope.names.lookup y.1 = some .local
  free : ∀ y ∈ scope.names,y.2 = .free→scope.names.lookup y.1 = some .free
def Cap (X : Cx) (scope : Scope) (N : List Str) (σ σ' : St) : Prop :=
  σ'.length = N.length∧∀ (i : Nat) (y : Str) (v : V),N[i]? = some y→σ'[i]? = some (some v)→(y,NameKind.free) ∈ scope.names∧∃ j : Nat,X.N[j]? = some y∧σ[j]? = some (some v)∧Vis X.env.scope y
theorem inv_comp {X : Cx} {pins : List (Addr × Obj)} {σ σ' : St} {H : Hp} {s : Shared} {scope : Scope} {N : List Str} {cl : List (Str × Addr)} {fp : List Addr} {h1 : Heap} {tk : Nat} {m1 : Str→Option Value}
    (I : Inv X pins σ H s) (C : CompOk scope N) (hfr : ∀ y,(y,NameKind.free) ∈ scope.names→X.env.kindOf y = some .cell ∨ X.env.kindOf y = some .free)
    (p1 : ∀ p ∈ cl,X.env.cells.lookup p.1 = some p.2∧(p.1,NameKind.free) ∈ scope.names) (p2 : ∀ y,(y,NameKind.free) ∈ scope.names→∃ c,(y,c) ∈ cl)
    (cap : Cap X scope N σ σ') (hf : ∀ b ∈ fp,FpOk X pins H b) (hfl : ∀ b ∈ fp,b < s.heap.objs.size)
    (hn : h1.Ns s.heap.objs.size m1) (hk : ∀ b o,s.heap.get? b = some o→h1.get? b = some o) :
    Inv (cxC X N scope cl s H fp) [] σ' H { s with heap:=h1,toks:=tk }:=by
  have ok:=I.ok
  have lk : ∀ y c,cl.lookup y = some c→X.env.cells.lookup y = some c:=fun y c e=>(p1 _ (PySem.mem_of_lookup e)).1
  have lk2 : ∀ y,(y,NameKind.free) ∈ scope.names→∃ c,cl.lookup y = some c∧X.env.cells.lookup y = some c:=fun y hy=>by
    obtain ⟨c,hc⟩:=p2 y hy
    obtain ⟨c',e⟩:=lookup_mem hc
    exact ⟨c',e,lk y c' e⟩
  have fsub : ∀ b ∈ fp,b ∉ frs X.stack:=fun b hb z=>by
    obtain ⟨f0,f1,f2,_⟩:=hf b hb
    rcases List.mem_cons.mp (I.stkSub b z) with e | e
    · exact f1 e
    · exact f2 e
  have ok' : (cxC X N scope cl s H fp).Ok:=by
    refine ⟨ok.mod,C.kind,ok.glob,ok.blt,Nat.le_refl _,fun x y c h1 h2=>ok.inj x y c (lk x c h1) (lk y c h2),fun y hy=>?_,fun y c h _=>?_,ok.hd,ok.frames,.inl rfl,fun b hb=>?_,I.bs,Nat.le_trans ok.bsz I.sz,
      fun b o e hb=>?_,fsub,I.stack,I.stkFree⟩
    · obtain ⟨c,e,_⟩:=lk2 y (relabel_back (env:=X.env) C.cell hy)
      exact ⟨c,e⟩
    · exact absurd (show false = true from h) Bool.false_ne_true
    · obtain ⟨f0,f1,f2,f3,f4,f5⟩:=hf b hb
      exact ⟨Nat.ne_of_lt (hfl b hb),fun x c e=>f4 x c (lk x c e)⟩
    · obtain ⟨f0,f1,f2,f3,f4,f5⟩:=hf b hb
      rcases f3 with z | z
      · exact ok.noex b o e z
      · exact absurd (Nat.lt_of_lt_of_le (Heap.lt_size e) (Nat.le_trans ok.bsz z)) (Nat.lt_irrefl _)
  refine ⟨ok',rfl,I.bare,Un.kept hk,⟨m1,hn,fun i y v e1 e2 e3=>?_⟩,fun y c e=>?_,I.hok.fresh (Nat.le_refl _),fun y c e=>I.freeC y c (lk y c e),fun p hp=>absurd (show p ∈ ([] : List (Addr × Obj)) from hp) (by simp),I.hok.kept hk,cap.1⟩
  · obtain ⟨hy,j,e4,e5,e6⟩:=cap.2 i y v e1 e2
    obtain ⟨m,_,hl⟩:=I.loc
    obtain ⟨u,r,l⟩:=hl j y v e4 e5 e6
    refine ⟨u,r,.inr ?_⟩
    rcases l with ⟨k,_⟩ | ⟨k,c,e,z⟩
    · rcases hfr y hy with q | q <;> (rw [k] at q; cases q)
    · obtain ⟨c',e',e''⟩:=lk2 y hy
      rw [e] at e''
      cases e''
      have rl:=relabel_free (env:=X.env) (k:=.free) (C.free (y,.free) hy rfl)
      refine ⟨rl,c,e',?_⟩
      obtain ⟨o,ho,hd⟩:=z
      exact ⟨o,hk _ _ ho,hd⟩
  · obtain ⟨v,o,ho,hd⟩:=I.cell y c (lk y c e)
    exact ⟨v,o,hk _ _ ho,hd⟩
def tComp (X : Cx) (scope : Scope) (N : List Str) (wi : TI) (g : TG) (tt : TT) (te : TE) : TE:=fun σ H Q=>∃ σ0,Cap X scope N σ σ0∧wi σ H fun J H1=>∀ D,H1 D = none→∃ W : Nat→Nat→St→Hp→List V→Prop,(∃ m,W 0 m σ0 (upd H1 D (.lst [])) []) ∧
  ∀ i m σ' H' ys,W i m σ' H' ys→H' D = some (.lst ys)∧((J.stop i H'∧Q (.ref D) H') ∨ (J.go i H'∧∀ x H2,J.yld i H' x H2→g x σ' H2 fun σ3 H3=>tt σ3 H3 fun b H4 =>
    if b = true then te σ3 H4 fun y H5=>H5 D = some (.lst ys)∧ys.length < sizeLine∧∃ m',m' < m∧W (i + 1) m' σ3 (upd H5 D (.lst (ys ++ [y]))) (ys ++ [y]) else H4 D = some (.lst ys)∧∃ m',m' < m∧W (i + 1) m' σ3 H4 ys))
theorem pe_comp {X : Cx} {elt target iter : Expr} {ifs : List Expr} {scope : Scope} {pos : Pos} {N : List Str} {wi : TI} {g : TG} {tt : TT} {te : TE}
    (C : CompOk scope N) (hfr : ∀ y,(y,NameKind.free) ∈ scope.names→X.env.kindOf y = some .cell ∨ X.env.kindOf y = some .free) (hc : X.calm = true)
    (hi : PI X target iter wi)
    (hb : ∀ cl s H fp,PG (cxC X N scope cl s H fp) target g∧PIfs (cxC X N scope cl s H fp) ifs tt∧PE (cxC X N scope cl s H fp) elt te)
    (hs : ∀ x,foldedSetIterable iter X.env x = pure x:=by intro _; rfl) :
    PE X (.ListComp elt [⟨target,iter,ifs,0⟩] scope pos) (tComp X scope N wi g tt te):=by
  intro pins s σ H Q I hq
  obtain ⟨σ0,cap,hq⟩:=hq
  obtain ⟨cl,hcl,p1,p2⟩:=closure_of (scope:=scope) (env:=X.env) (fun y hy hk=>by
    obtain ⟨n,k⟩:=y
    cases hk
    exact I.ok.has n (hfr n hy))
  rw [eval_ListComp]
  refine wpAny_comprehension_free (use:=none) rfl hs hcl C.kind C.names (thn (hi pins s σ H _ I hq) fun xv s1 h1=>thn h1 fun itv s2 h2=>?_)
  obtain ⟨it,fp,tn,J,H2,rfl,I2,T,st2,f2,q2⟩:=h2
  refine wpAny_newObj_type (wpAny_newFunctionEnv C.cell (by intro y hy; simp at hy) (fun h₁ hns₁ hsb₁=>?_) C.kind)
  dsimp only at hns₁ hsb₁ ⊢
  have hD : H2 s2.heap.objs.size = none:=I2.hok.fresh (Nat.le_refl _)
  have I3 : Inv X pins σ (upd H2 s2.heap.objs.size (.lst [])) { s2 with heap:=s2.heap.push { cls:=.type "list",dict:=none,data:=.seq ([] : List Value).toArray } } :=
    I2.laid (t':=s2.toks) (fun b u e=>Heap.get?_push_of_some _ e) (Nat.le_refl _) ⟨Nat.zero_le _,[],0,.nil,Heap.get?_push_size _ rfl⟩
  generalize hs3 : ({ s2 with heap:=s2.heap.push { cls:=.type "list",dict:=none,data:=.seq ([] : List Value).toArray } } : Shared) = s3 at I3
  have hh3 : s2.heap.push { cls:=.type "list",dict:=none,data:=.seq ([] : List Value).toArray } = s3.heap:=by rw [← hs3]
  rw [hh3] at hns₁ hsb₁
  have fl2 : ∀ b ∈ fp,b < s2.heap.objs.size:=fun b hb=>by
    obtain ⟨o,e,_⟩:=T.obj _ _ st2 b hb
    exact Heap.lt_size e
  have fl3 : ∀ b ∈ fp,b < s3.heap.objs.size:=fun b hb=>by
    rw [← hh3,Heap.size_push]
    exact Nat.lt_succ_of_lt (fl2 b hb)
  have f3 : ∀ b ∈ fp,FpOk X pins (upd H2 s2.heap.objs.size (.lst [])) b:=fun b hb=>by
    obtain ⟨f0,fr⟩:=f2 b hb
    exact ⟨by rw [upd_ne (Nat.ne_of_lt (fl2 b hb))]; exact f0,fr⟩
  have keep3 : ∀ b o,s3.heap.get? b = some o→h₁.get? b = some o:=fun b o e=>hsb₁.extBut b o (Nat.ne_of_lt (Heap.lt_size e)) (Heap.get?_push_of_some _ e)
  have I4:=inv_comp (tk:=s3.toks) I3 C hfr p1 p2 cap f3 fl3 hns₁ keep3
  have st4 : tn 0 h₁:=T.keep _ _ _ st2 fun b hb o e=>keep3 b o (by rw [← hh3]; exact Heap.get?_push_of_some _ e)
  obtain ⟨W,⟨m0,w0⟩,turn⟩:=q2 s2.heap.objs.size hD
  have fpc : ∀ {H' : Hp},(∀ b ∈ fp,H' b = none)→∀ b ∈ fp,FpOk (cxC X N scope cl s3 (upd H2 s2.heap.objs.size (.lst [])) fp) [] H' b:=fun {H'} hn b hb=>by
    obtain ⟨e1,e2⟩:=I4.ok.exf b hb
    exact ⟨hn b hb,e1,I4.ok.exfs b hb,.inl hb,e2,fun p hp=>absurd (show p ∈ ([] : List (Addr × Obj)) from hp) (by simp)⟩
  have loop : ∀ s4 : Shared,s4 = { s3 with heap:=h₁,toks:=s3.toks } →
      codeAny (model X.prog X.w) X.A (.compLoop (.ListComp elt [⟨target,iter,ifs,0⟩] scope pos) 0 (.ref it) (.ref s2.heap.objs.size) (compEnvC scope cl s3.heap.objs.size X.env))
        (compPost (model X.prog X.w) X.A X.xe none (EP X pins σ Q) (.ref s2.heap.objs.size) s3.heap.objs.size) s4:=by
    rintro s4 rfl
    refine comp_loop (fun n s'=>∃ i σ' H' ys,Inv (cxC X N scope cl s3 (upd H2 s2.heap.objs.size (.lst [])) fp) [] σ' H' s'∧tn i s'.heap∧(∀ b ∈ fp,H' b = none)∧W i n σ' H' ys) ?_ m0 ⟨0,σ0,_,[],I4,st4,fun b hb=>(f3 b hb).1,w0⟩
    rintro n s5 ⟨i,σ5,H5,ys,I5,st5,fr5,w5⟩
    obtain ⟨hacc,w5⟩:=turn i n σ5 H5 ys w5
    have noE : ∀ {α : Type} {t : Sem α} {Q' : α→Shared→Prop} {E' : Value→Shared→Prop} {s' : Shared},wpAny (model X.prog X.w) X.A t Q' (fun _ _=>False) s'→wpAny (model X.prog X.w) X.A t Q' E' s':=fun h=>wpAny_mono h (fun _ _ q=>q) fun _ _ z=>z.elim
    rcases w5 with ⟨stop,qn⟩ | ⟨go,step⟩
    · refine noE (thn (T.done (cxC X N scope cl s3 (upd H2 s2.heap.objs.size (.lst [])) fp) rfl rfl rfl hc i [] s5 σ5 H5 _ I5 (fpc fr5) st5 stop) fun r s6 ⟨hr,I6⟩=>?_)
      subst hr
      obtain ⟨m6,hn6,_⟩:=I6.loc
      refine ⟨m6,hn6,fun h' sb=>?_⟩
      have kp : ∀ b o,b ≠ s3.heap.objs.size→s6.heap.get? b = some o→h'.get? b = some o:=fun b o hb e=>sb.extBut b o hb e
      have ne3 : ∀ b o,s3.heap.get? b = some o→b ≠ s3.heap.objs.size:=fun b o e=>Nat.ne_of_lt (Heap.lt_size e)
      have un : Un (frs X.stack) fp (upd H2 s2.heap.objs.size (.lst [])) H5 s3.heap h':=by
        have u:=I6.base
        exact ⟨fun b o e n hb hx=>kp b o (ne3 b o e) (u.keep b o e n hb hx),fun b o e n hb hx=>by
          obtain ⟨sl,e1⟩:=u.slot b o e n hb hx
          exact ⟨sl,kp b _ (ne3 b o e) e1⟩,u.free,fun b o e hx=>by
          obtain ⟨o',e1⟩:=u.there b o e hx
          exact ⟨o',kp b _ (ne3 b o e) e1⟩,u.tups,u.frzs,u.tbls⟩
      have hok : HOk X.prog X.w H5 h':=fun b u e=>by
        refine (I6.hok b u e).stay (fun c v hc' q=>kp c v ?_ q) (fun _ q=>q) fun _ _ q=>q
        have hfree : H5 s3.heap.objs.size = none:=I6.free
        rintro rfl
        rcases hc' with z | z
        · rw [z] at hfree; rw [hfree] at e; cases e
        · rw [hfree] at z; cases z
      have I7 : Inv X pins σ H5 { s6 with heap:=h' }:=by
        refine I3.call' (s':={ s6 with heap:=h' }) I6.os un hok I6.bare fun b hb=>?_
        obtain ⟨f0,f1,f2',f3',f4,f5⟩:=f3 b hb
        exact ⟨f3',f1,f4,f5⟩
      exact ⟨.ref s2.heap.objs.size,H5,I7,rfl,qn⟩
    · refine noE (thn (T.item (cxC X N scope cl s3 (upd H2 s2.heap.objs.size (.lst [])) fp) rfl rfl rfl hc i [] s5 σ5 H5 (fun _ _=>False) I5 (fpc fr5) st5 go) fun r s6 ⟨u,hr,h6⟩=>?_)
      subst hr
      refine noE (thn h6 fun _ s7 ⟨x,H7,I7,r7,y7,st7,fr7⟩=>?_)
      obtain ⟨hg,ht,he⟩:=hb cl s3 (upd H2 s2.heap.objs.size (.lst [])) fp
      have I7':=I7.pinned (fpc fr7) (T.obj _ _ st7)
      have back : ∀ {σ8 : St} {H8 : Hp} {s8 : Shared},Inv (cxC X N scope cl s3 (upd H2 s2.heap.objs.size (.lst [])) fp) ([] ++ pinsAt fp s7.heap) σ8 H8 s8→tn (i + 1) s8.heap∧∀ b ∈ fp,H8 b = none:=fun {σ8 H8 s8} I8 =>
        ⟨T.keep _ _ _ st7 fun b hb o e=>(I8.pin (b,o) (List.mem_append_right _ (List.mem_append_right _ (mem_pinsAt hb e)))).1,fun b hb=>by
          obtain ⟨o,e,d⟩:=T.obj _ _ st7 b hb
          exact (I8.pin (b,o) (List.mem_append_right _ (List.mem_append_right _ (mem_pinsAt hb e)))).2.1⟩
      refine noE (thn (hg _ s7 σ5 H7 x u _ I7' r7 (step x H7 y7)) fun _ s8 ⟨σ8,H8,I8,q8⟩=>?_)
      refine noE (thn (ht _ s8 σ8 H8 _ I8 q8) fun b s9 ⟨H9,I9,q9⟩=>?_)
      cases b with
      | false =>
        rw [if_neg Bool.false_ne_true] at q9 ⊢
        obtain ⟨_,m',hm,w9⟩:=q9
        exact ⟨m',hm,i + 1,σ8,H9,ys,I9.unpinned,(back I9).1,(back I9).2,w9⟩
      | true =>
        rw [if_pos rfl] at q9 ⊢
        refine noE (thn (he _ s9 σ8 H9 _ I9 q9) fun yv s10 ⟨y,H10,I10,r10,hacc10,hlen,m',hm,w10⟩=>?_)
        refine noE (thn (mt_append _ s10 σ8 H10 (.ref s2.heap.objs.size) [y] (.ref s2.heap.objs.size) [yv] (fun _ H11=>H11 = upd H10 s2.heap.objs.size (.lst (ys ++ [y]))) I10 rfl (.cons r10 .nil) ⟨_,_,_,rfl,rfl,hacc10,hlen,rfl⟩) fun _ s11 ⟨z,H11,I11,_,e11⟩=>?_)
        subst e11
        exact ⟨m',hm,i + 1,σ8,_,ys ++ [y],I11.unpinned,(back I11).1,(back I11).2,w10⟩
  have fin:=codeAny_compStart_list (loop { s3 with heap:=h₁,toks:=s3.toks } rfl) (T.self _ _ _ _ _ st4 (loop { s3 with heap:=h₁,toks:=s3.toks } rfl))
  subst hs3
  exact fin
end L2
set_option Elab.async false
set_option linter.all false
set_option maxRecDepth 100000
namespace PySem
open Sem (wp)
namespace IfF
theorem lk_class : typeLookup (.type "function") "__class__" = pure (some (.builtin "object.__class__")):=by rw [typeLookup_type,builtinLookup_eq_fast]; kernel_rfl
theorem slot_ga : Slot "function" "__getattribute__" "object.__getattribute__" :=
  .of (owner:="object") (n:="__getattribute__") (by rw [typeLookup_type,builtinLookup_eq_fast]; kernel_rfl) (by decide +kernel) (by decide +kernel) (by decide +kernel)
    (by first | exact .inl (by decide +kernel) | exact .inr (by decide +kernel)) (by rw [isSubtype_type]; kernel_rfl)
theorem entry_ga : entryFor table "object.__getattribute__" = some Builtin.«object.__getattribute__»:=entryFor_of_tree (by kernel_rfl)
theorem sub_class_owner : isSubtype (.type "function") (.type (".".intercalate ("object.__class__".cutAt '.').dropLast)) = pure true:=by
  rw [F.owner_object_class,isSubtype_type]; kernel_rfl
theorem sub_int : isSubtype (.type "function") (.type "int") = pure false:=by rw [isSubtype_type]; kernel_rfl
theorem sub_bool : isSubtype (.type "function") (.type "bool") = pure false:=by rw [isSubtype_type]; kernel_rfl
theorem sub_str : isSubtype (.type "function") (.type "str") = pure false:=by rw [isSubtype_type]; kernel_rfl
end IfF
section
variable {prog : Program} {w : World} {A : Around} {E : Value→Shared→Prop} {h : Heap} {g : Array GenState} {d : Drawn} {t : Nat} {os : OsState} {a : Addr} {o : Obj}
theorem fn_class_get {R : Result→Shared→Prop} (hx : h.get? a = some o) (hc : o.cls = .type "function") (hq : R (.ok (.ret (.type "function"))) ⟨h,g,d,t,os⟩) :
    codeAny (model prog w) A (.call (.builtin "getset_descriptor.__get__") ⟨[.builtin "object.__class__",.ref a,.type "function"],[]⟩) R ⟨h,g,d,t,os⟩:=by
  have hT : (⟨h,g,d,t,os⟩ : Shared).TypeIs (.ref a) "function":=⟨_,hx,hc⟩
  have hT5 : (⟨h,g,d,t,os⟩ : Shared).TypeIs (.builtin "object.__class__") "getset_descriptor":=F.typeOf_object_class
  have f8:=IfF.sub_class_owner
  refine codeAny_call_builtin F.slot_gs_get.plain F.entry_gs_get (F.slot_gs_get.check _ _ _ _ _ _ _ _ hT5 (F.args_gs_get _ _ _) ?_)
  repeat (any_goals (first | assumption | wp_step))
  refine ⟨Code.quiet_builtin _ (by decide +kernel),codeAny_builtin F.entry_object_class ?_⟩
  repeat (any_goals (first | assumption | wp_step))
theorem fn_class_entry {tk : Tok} {Q : Fin→Shared→Prop} (hx : h.get? a = some o) (hc : o.cls = .type "function") (hq : Q (.done (.ret (.type "function"))) ⟨h,g,d,t,os⟩) :
    wpAny (model prog w) A (Builtin.«object.__getattribute__» ⟨[.ref a,.str "__class__" tk],[]⟩) Q E ⟨h,g,d,t,os⟩:=by
  have hT : (⟨h,g,d,t,os⟩ : Shared).TypeIs (.ref a) "function":=⟨_,hx,hc⟩
  have hT5 : (⟨h,g,d,t,os⟩ : Shared).TypeIs (.builtin "object.__class__") "getset_descriptor":=F.typeOf_object_class
  have f4:=IfF.lk_class
  have f5:=F.typeOf_object_class
  have f6:=F.slot_gs_get.lookup
  have f7:=F.slot_gs_set.lookup
  repeat (any_goals (first | assumption | wp_step))
  refine fn_class_get hx hc ?_
  repeat (any_goals (first | assumption | wp_step))
theorem fn_class_by {tk : Tok} {Q : Value→Shared→Prop} (hx : h.get? a = some o) (hc : o.cls = .type "function") (hq : Q (.type "function") ⟨h,g,d,t,os⟩) : wpAny (model prog w) A (getAttrBy (.ref a) (.str "__class__" tk) false) Q E ⟨h,g,d,t,os⟩:=by
  have hT : (⟨h,g,d,t,os⟩ : Shared).TypeIs (.ref a) "function":=⟨_,hx,hc⟩
  have f2:=IfF.slot_ga.lookup
  have f3:=IfF.slot_ga.bind (.ref a)
  repeat (any_goals (first | assumption | wp_step))
  refine codeAny_call_builtin IfF.slot_ga.plain IfF.entry_ga (IfF.slot_ga.check _ _ _ _ _ _ _ _ hT (F.args_object_getattribute_2 _ _) (fn_class_entry hx hc ?_))
  repeat (any_goals (first | assumption | wp_step))
theorem fn_class_attr {Q : Option Value→Shared→Prop} (hx : h.get? a = some o) (hc : o.cls = .type "function") (hq : Q (some (.type "function")) ⟨h,g,d,t + 1,os⟩) : wpAny (model prog w) A (getAttr? (.ref a) "__class__") Q E ⟨h,g,d,t,os⟩:=by
  unfold getAttr? getAttrBy?
  repeat (any_goals (first | assumption | with_reducible apply fn_class_by hx hc | wp_step))
theorem isi_nested_fn {T : String} {dep : Int} {tk : Tok} {Q : Fin→Shared→Prop} (hx : h.get? a = some o) (hc : o.cls = .type "function") (hne : (Value.type "function" == Value.type T) = false) (hty : typeOf (.type T) = pure (.type "type"))
    (hsub : isSubtype (.type "function") (.type T) = pure false) (hq : Q (.done (.ret (.bool false))) ⟨h,g,d,t + 1,os⟩) :
    wpAny (model prog w) A (Builtin.«isinstance.nested» ⟨[.ref a,.type T,.int dep tk],[]⟩) Q E ⟨h,g,d,t,os⟩:=by
  have hT : (⟨h,g,d,t,os⟩ : Shared).TypeIs (.ref a) "function":=⟨_,hx,hc⟩
  repeat (any_goals (first | assumption | with_reducible apply fn_class_attr hx hc | wp_step))
end
theorem isi_false_fn {a : Addr} {T : String} (hne : (Value.type "function" == Value.type T) = false) (hty : typeOf (.type T) = pure (.type "type")) (hsub : isSubtype (.type "function") (.type T) = pure false) :
    Meets (Builtin.«isinstance» ⟨[.ref a,.type T],[]⟩) (fun _ R s=>(∃ o,s.heap.get? a = some o∧o.cls = .type "function")∧R (.ok (.ret (.bool false))) { s with toks:=s.toks + 1 }) :=
  fun _ _ _ _ s hs=>by
    obtain ⟨h,g,d,t,os⟩:=s
    obtain ⟨⟨o,hx,hc⟩,hq⟩:=hs
    exact isinstance_outer (isi_nested_fn hx hc hne hty hsub hq)
section
variable {prog : Program} {w : World} {A : Around} {E : Value→Shared→Prop} {s : Shared} {Q : Value→Shared→Prop} {a : Addr} {o : Obj}
theorem isi_fn_int (hx : s.heap.get? a = some o) (hc : o.cls = .type "function") (h : Q (.bool false) { s with toks:=s.toks + 1 }) : wpAny (model prog w) A (call (.builtin "isinstance") [.ref a,.type "int"]) Q E s :=
  call_isinstance (isi_false_fn (by decide) F.isi_meta_int IfF.sub_int) ⟨⟨o,hx,hc⟩,h⟩
theorem isi_fn_bool (hx : s.heap.get? a = some o) (hc : o.cls = .type "function") (h : Q (.bool false) { s with toks:=s.toks + 1 }) : wpAny (model prog w) A (call (.builtin "isinstance") [.ref a,.type "bool"]) Q E s :=
  call_isinstance (isi_false_fn (by decide) F.isi_meta_bool IfF.sub_bool) ⟨⟨o,hx,hc⟩,h⟩
theorem isi_fn_str (hx : s.heap.get? a = some o) (hc : o.cls = .type "function") (h : Q (.bool false) { s with toks:=s.toks + 1 }) : wpAny (model prog w) A (call (.builtin "isinstance") [.ref a,.type "str"]) Q E s :=
  call_isinstance (isi_false_fn (by decide) F.isi_meta_str IfF.sub_str) ⟨⟨o,hx,hc⟩,h⟩
end
end PySem
set_option Elab.async false
set_option linter.all false
set_option maxRecDepth 100000
namespace L2
open PySem PySem.Spec PyProof.Rows
section
variable {X : Cx}
def rAll (K : PySem.W.Frag) : List V→Hp→VK→Prop:=fun xs H Q=>∃ (p : Addr) (bs : List Bool),xs = [.ref p]∧SqL K H p (bs.map V.bl)∧Q (.bl (bs.all id)) H
theorem all_range (bs : List Bool) : (List.range bs.length).all (fun i=>bs.getD i false) = bs.all id:=by
  rw [Bool.eq_iff_iff,List.all_eq_true,List.all_eq_true]
  constructor
  · intro h b hb
    obtain ⟨i,hi,e⟩:=List.mem_iff_getElem.mp hb
    have:=h i (List.mem_range.mpr hi)
    rw [List.getD_eq_getElem?_getD,List.getElem?_eq_getElem hi] at this
    rw [← e]
    exact this
  · intro h i hi
    have hi:=List.mem_range.mp hi
    rw [List.getD_eq_getElem?_getD,List.getElem?_eq_getElem hi]
    exact h _ (List.getElem_mem hi)
theorem call_all (hc : X.calm = true) : CallR X (.builtin "all") (rAll X.K):=by
  intro pins s σ H xs us Q I r h
  obtain ⟨p,bs,rfl,hq,q⟩:=h
  obtain ⟨u,rfl,rx⟩:=r.one
  cases rx
  obtain ⟨its,rv,pl,hz⟩:=I.list hq
  have hl:=rv.length
  rw [List.length_map] at hl
  have hne : p ≠ s.heap.objs.size:=by
    obtain ⟨o,ho,_⟩:=pl.isList
    exact Nat.ne_of_lt (Heap.lt_size ho)
  refine call_all_walk (wpAny_pyIter_list pl.isList ?_)
  refine ⟨s.heap.objs.size,_,_,_,_,_,fun i=>bs.getD i false,rfl,Walks.list (show X.A.in1.handled = none from I.ok.hd hc) _ p hne its.toArray,⟨⟨_,Heap.get?_push_size _ rfl,rfl,rfl⟩,?_⟩,?_,fun h' tk kp=>?_⟩
  · exact pl.isList.at fun o e=>Heap.get?_push_of_some _ e
  · intro i v s' Q' E' hv hq'
    have hv' : its[i]? = some v:=by simpa using hv
    have hi : i < bs.length:=by rw [hl]; exact (List.getElem?_eq_some_iff.mp hv').1
    obtain ⟨u,hu,ru⟩:=rv.get (i:=i) (x:=.bl bs[i]) (by rw [List.getElem?_map,List.getElem?_eq_getElem hi]; rfl)
    rw [hv'] at hu
    cases hu
    cases ru
    have e : bs.getD i false = bs[i]:=by rw [List.getD_eq_getElem?_getD,List.getElem?_eq_getElem hi]; rfl
    replace hq' : Q' (bs.getD i false) s':=hq'
    rw [e] at hq'
    exact wpAny_truthy_bool hq'
  · have e : (List.range its.toArray.size).all (fun i=>bs.getD i false) = bs.all id:=by
      rw [List.size_toArray,← hl]; exact all_range bs
    rw [e]
    refine ⟨.bl (bs.all id),H,?_,rfl,q⟩
    exact I.kept fun b o eo=>kp b o (by
      intro z
      have : b = s.heap.objs.size:=by simpa using z
      rw [this] at eo
      exact absurd (Heap.lt_size eo) (Nat.lt_irrefl _)) (Heap.get?_push_of_some _ eo)
inductive Rk (K : PySem.W.Frag) (H : Hp) : V→String→Prop
  | non : Rk K H .non "NoneType"
  | lst {a xs} : SqL K H a xs→Rk K H (.ref a) "list"
  | tup {a xs} : SqT K H a xs→Rk K H (.ref a) "tuple"
  | dct {a kvs} : H a = some (.dK kvs)→Rk K H (.ref a) "dict"
  | fn {a o} : K.lookup a = some o→o.cls = .type "function"→Rk K H (.ref a) "function"
def rIsiR (K : PySem.W.Frag) : List V→Hp→VK→Prop:=fun xs H Q=>∃ x k T,xs = [x,.ty T]∧Rk K H x k∧(T = "int" ∨ T = "bool" ∨ T = "str")∧Q (.bl false) H
theorem call_isiR : CallR X (.builtin "isinstance") (rIsiR X.K):=by
  intro pins s σ H xs us Q I r h
  obtain ⟨x,k,T,rfl,hx,hT,q⟩:=h
  obtain ⟨u,v,rfl,rx,rT⟩:=r.two
  cases rT
  have f1 : EP X pins σ Q (.bool false) { s with toks:=s.toks + 1 }:=⟨.bl _,H,I.tok _,rfl,q⟩
  cases hx with
  | non =>
    cases rx
    rcases hT with rfl | rfl | rfl
    · exact IsiPair.NoneType_int f1
    · exact IsiPair.NoneType_bool f1
    · exact IsiPair.NoneType_str f1
  | lst hq =>
    cases rx
    obtain ⟨its,rv,⟨o,n,e,c,_⟩,hz⟩:=I.list hq
    rcases hT with rfl | rfl | rfl
    · exact IsiPair.list_int e c f1
    · exact IsiPair.list_bool e c f1
    · exact IsiPair.list_str e c f1
  | tup hq =>
    cases rx
    obtain ⟨its,rv,⟨o,e,c,_⟩,hz⟩:=I.tuple hq
    rcases hT with rfl | rfl | rfl
    · exact IsiPair.tuple_int e c f1
    · exact IsiPair.tuple_bool e c f1
    · exact IsiPair.tuple_str e c f1
  | dct hq =>
    cases rx
    obtain ⟨_,_,_,_,o,_,_,e,ex,_⟩:=I.hok _ _ hq
    rcases hT with rfl | rfl | rfl
    · exact IsiPair.dict_int e ex.1 f1
    · exact IsiPair.dict_bool e ex.1 f1
    · exact IsiPair.dict_str e ex.1 f1
  | fn hk hc =>
    cases rx
    have e:=I.kIn _ _ hk
    rcases hT with rfl | rfl | rfl
    · exact isi_fn_int e hc f1
    · exact isi_fn_bool e hc f1
    · exact isi_fn_str e hc f1
end
theorem hfr_none {X : Cx} {scope : Scope} (h : ∀ z ∈ scope.names,z.2 ≠ .free) : ∀ y,(y,NameKind.free) ∈ scope.names→X.env.kindOf y = some .cell ∨ X.env.kindOf y = some .free:=fun y hy=>absurd rfl (h _ hy)
theorem hfr_of {X : Cx} {scope : Scope} (sc : Scope) (e : X.env.scope = sc) (h : ∀ z ∈ scope.names,z.2 = .free→sc.names.lookup z.1 = some .cell ∨ sc.names.lookup z.1 = some .free) :
    ∀ y,(y,NameKind.free) ∈ scope.names→X.env.kindOf y = some .cell ∨ X.env.kindOf y = some .free:=fun y hy=>by
  show X.env.scope.names.lookup y = some .cell ∨ X.env.scope.names.lookup y = some .free
  rw [e]
  exact h _ hy rfl
theorem Same.seqT {K : PySem.W.Frag} {H H' : Hp} {a : Addr} {xs : List V} (e : Same H H') (h : SqT K H a xs) : SqT K H' a xs:=by
  rcases h with (h | ⟨o,h⟩) | h
  · exact .inl (.inl (e _ _ h))
  · exact .inl (.inr ⟨o,e _ _ h⟩)
  · exact .inr h
theorem same_new {H : Hp} {p : Addr} (h : H p = none) (o : HO) : Same H (upd H p o):=fun b u q=>by rw [upd_ne (ne_of_none q h)]; exact q
theorem Rk.same {K : PySem.W.Frag} {H H' : Hp} {v : V} {k : String} (e : Same H H') (h : Rk K H v k) : Rk K H' v k:=by
  cases h with
  | non=>exact .non
  | lst q=>exact .lst (e.seq q)
  | tup q=>exact .tup (e.seqT q)
  | dct q=>exact .dct (e _ _ q)
  | fn q c=>exact .fn q c
theorem cap_none1 {X : Cx} {scope : Scope} {x : Str} {σ : St} : Cap X scope [x] σ [none]:=⟨rfl,fun i y v _ h2=>by
  cases i with
  | zero=>cases h2
  | succ i=>cases h2⟩
section
theorem comp_pure {X : Cx} {scope : Scope} {N : List Str} {wi : TI} {te : TE} {σ : St} {H : Hp} {Q : VK} (xs : List V) (f : V→V) (σ0 : St) (cap : Cap X scope N σ σ0) (hsz : xs.length ≤ sizeLine)
    (hw : ∀ R : It→Hp→Prop,(∀ J : It,(∀ H' i x,Same H H'→xs[i]? = some x→J.go i H'∧∀ y H2,J.yld i H' y H2→H2 = H'∧y = x)→(∀ H',Same H H'→J.stop xs.length H')→R J H)→wi σ H R)
    (he : ∀ x ∈ xs,∀ H' R l,Same H H'→R (f x) H'→te ((σ0.set 0 l).set 0 (some x)) H' R) (h0 : σ0[0]? = some none)
    (q : ∀ D,H D = none→Q (.ref D) (upd H D (.lst (xs.map f)))) :
    tComp X scope N wi (gName 0) tYes te σ H Q:=by
  refine ⟨σ0,cap,hw _ fun J go stop D hD=>?_⟩
  have sm : ∀ ys : List V,Same H (upd H D (.lst ys)):=fun ys b o e=>by rw [upd_ne (ne_of_none e hD)]; exact e
  refine ⟨fun i m σ' H' ys=>i ≤ xs.length∧m = xs.length - i∧(∃ l,σ' = σ0.set 0 l)∧H' = upd H D (.lst ys)∧ys = (xs.take i).map f,⟨xs.length,Nat.zero_le _,rfl,⟨none,?_⟩,rfl,rfl⟩,?_⟩
  · refine (List.ext_getElem? fun j=>?_)
    rw [List.getElem?_set]
    split
    · rename_i hj
      subst hj
      split
      · exact h0
      · rename_i hlt
        exact List.getElem?_eq_none_iff.mpr (by omega)
    · rfl
  · rintro i m σ' H' ys ⟨hi,rfl,⟨l,rfl⟩,rfl,rfl⟩
    refine ⟨upd_same,?_⟩
    by_cases hlt : i < xs.length
    · right
      obtain ⟨g1,g2⟩:=go (upd H D (.lst ((xs.take i).map f))) i xs[i] (sm _) (List.getElem?_eq_getElem hlt)
      refine ⟨g1,fun x H2 hy=>?_⟩
      obtain ⟨rfl,rfl⟩:=g2 x H2 hy
      unfold gName tYes
      dsimp only
      rw [if_pos rfl]
      refine he xs[i] (List.getElem_mem hlt) _ _ l (sm _) ⟨upd_same,?_,xs.length - (i + 1),by omega,hlt,rfl,⟨some xs[i],?_⟩,?_,?_⟩
      · rw [List.length_map,List.length_take]; omega
      · rw [List.set_set]
      · rw [upd_upd]
      · rw [List.take_add_one,List.getElem?_eq_getElem hlt,List.map_append]
        rfl
    · left
      have e : i = xs.length:=by omega
      subst e
      refine ⟨stop _ (sm _),?_⟩
      rw [List.take_length]
      exact q D hD
theorem wi_str {z : Str} {tl : TE} {σ : St} {H : Hp} (h : ∀ R : VK,R (.str z) H→tl σ H R) (R : It→Hp→Prop)
    (q : ∀ J : It,(∀ H' i x,Same H H'→((List.range z.cps.size).map fun i=>V.str (sgn z i))[i]? = some x→J.go i H'∧∀ y H2,J.yld i H' y H2→H2 = H'∧y = x) →
      (∀ H',Same H H'→J.stop ((List.range z.cps.size).map fun i=>V.str (sgn z i)).length H')→R J H) : iStr tl σ H R:=by
  refine h _ ⟨z,rfl,q _ (fun H' i x _ e=>?_) fun H' _=>?_⟩
  · rw [List.getElem?_map] at e
    have hi : i < z.cps.size:=by
      cases hr : (List.range z.cps.size)[i]? with
      | none=>rw [hr] at e; cases e
      | some j=>have:=(List.getElem?_eq_some_iff.mp hr).1; rwa [List.length_range] at this
    rw [List.getElem?_range hi] at e
    cases e
    exact ⟨hi,fun y H2 hy=>hy⟩
  · rw [List.length_map,List.length_range]
    exact Nat.le_refl _
theorem wi_list {K : PySem.W.Frag} {a : Addr} {xs : List V} {tl : TE} {σ : St} {H : Hp} (hS : ∀ H',Same H H'→SqL K H' a xs) (h : ∀ R : VK,R (.ref a) H→tl σ H R) (R : It→Hp→Prop)
    (q : ∀ J : It,(∀ H' i x,Same H H'→xs[i]? = some x→J.go i H'∧∀ y H2,J.yld i H' y H2→H2 = H'∧y = x)→(∀ H',Same H H'→J.stop xs.length H')→R J H) : iList K tl σ H R:=by
  refine h _ ⟨a,rfl,⟨xs,hS H (Same.refl H)⟩,q _ (fun H' i x s e=>⟨⟨xs,x,hS H' s,e⟩,fun y H2 hy=>?_⟩) fun H' s=>⟨xs,hS H' s,Nat.le_refl _⟩⟩
  obtain ⟨e1,e2⟩:=hy
  have e3:=e2 xs (hS H' s)
  rw [e] at e3
  cases e3
  exact ⟨e1,rfl⟩
end
end L2
set_option Elab.async false
set_option linter.all false
set_option maxRecDepth 100000
namespace L2
open PySem PySem.Spec PyProof.Rows
section
variable {κ : Type} [DecidableEq κ]
def valV (kvs : List (κ × V)) (k : κ) : Option V:=(kvs.find? fun kv=>decide (kv.1 = k)).map (·.2)
def putK (kvs : List (κ × V)) (k : κ) (v : V) : List (κ × V) :=
  if (kvs.any fun kv=>decide (kv.1 = k)) = true then kvs.map (fun kv=>if kv.1 = k then (kv.1,v) else kv) else kvs ++ [(k,v)]
theorem valV_pos {p : κ × V} {r : List (κ × V)} {k : κ} (e : p.1 = k) : valV (p :: r) k = some p.2:=by simp [valV,List.find?_cons,e]
theorem valV_neg {p : κ × V} {r : List (κ × V)} {k : κ} (e : ¬ p.1 = k) : valV (p :: r) k = valV r k:=by simp [valV,List.find?_cons,e]
theorem valV_any (k : κ) : ∀ kvs : List (κ × V),(kvs.any fun kv=>decide (kv.1 = k)) = (valV kvs k).isSome
  | []=>rfl
  | p :: r=>by
    rw [List.any_cons]
    by_cases e : p.1 = k
    · simp only [valV_pos e,decide_eq_true e,Bool.true_or,Option.isSome_some]
    · rw [valV_neg e,decide_eq_false e,Bool.false_or]; exact valV_any k r
theorem length_putK (kvs : List (κ × V)) (k : κ) (v : V) : (putK kvs k v).length ≤ kvs.length + 1:=by
  unfold putK
  split
  · rw [List.length_map]; omega
  · rw [List.length_append,List.length_cons,List.length_nil]; omega
theorem putK_new {kvs : List (κ × V)} {k : κ} (v : V) (h : valV kvs k = none) : putK kvs k v = kvs ++ [(k,v)]:=by
  unfold putK
  rw [valV_any,h]
  exact if_neg (by decide)
theorem RelO.isSome_eq {o : Option V} {u : Option Value} (r : RelO o u) : o.isSome = u.isSome:=by
  cases o with
  | none=>cases u with
    | none=>rfl
    | some _=>exact (show False from r).elim
  | some _=>cases u with
    | none=>exact (show False from r).elim
    | some _=>rfl
theorem KV.val {kvs : List (κ × V)} {vs : List (κ × Value)} (r : KV kvs vs) (k : κ) : RelO (valV kvs k) (valueAt vs k):=by
  unfold KV at r
  induction r with
  | nil=>exact True.intro
  | @cons p q ps qs h t ih =>
    obtain ⟨h1,h2⟩:=h
    by_cases e : p.1 = k
    · have e' : q.1 = k:=h1.symm.trans e
      have b : valueAt (q :: qs) k = some q.2:=by simp [valueAt,List.find?_cons,e']
      rw [valV_pos e,b]; exact h2
    · have e' : ¬ q.1 = k:=fun z=>e (h1.trans z)
      have b : valueAt (q :: qs) k = valueAt qs k:=by simp [valueAt,List.find?_cons,e']
      rw [valV_neg e,b]; exact ih
theorem KV.any {kvs : List (κ × V)} {vs : List (κ × Value)} (r : KV kvs vs) (k : κ) : (kvs.any fun kv=>decide (kv.1 = k)) = vs.any fun kv=>decide (kv.1 = k):=by
  unfold KV at r
  induction r with
  | nil=>rfl
  | cons h t ih=>rw [List.any_cons,List.any_cons,ih,h.1]
theorem KV.repl {kvs : List (κ × V)} {vs : List (κ × Value)} (r : KV kvs vs) (k : κ) {y : V} {u : Value} (ry : RelV y u) :
    KV (kvs.map fun kv=>if kv.1 = k then (kv.1,y) else kv) (vs.map fun kv=>if kv.1 = k then (kv.1,u) else kv):=by
  unfold KV at r ⊢
  induction r with
  | nil=>exact .nil
  | @cons p q ps qs h t ih =>
    rw [List.map_cons,List.map_cons]
    refine .cons ?_ ih
    obtain ⟨h1,h2⟩:=h
    by_cases e : p.1 = k
    · rw [if_pos e,if_pos (h1.symm.trans e)]; exact ⟨h1,ry⟩
    · rw [if_neg e,if_neg (fun z=>e (h1.trans z))]; exact ⟨h1,h2⟩
theorem KV.put {kvs : List (κ × V)} {vs : List (κ × Value)} (r : KV kvs vs) (k : κ) {y : V} {u : Value} (ry : RelV y u) : KV (putK kvs k y) (stored vs k u):=by
  unfold putK stored
  rw [r.any k]
  by_cases e : (vs.any fun kv=>decide (kv.1 = k)) = true
  · rw [if_pos e,if_pos e]; exact r.repl k ry
  · rw [if_neg e,if_neg e]; exact Paired.snoc r ⟨rfl,ry⟩
theorem KV.length {kvs : List (κ × V)} {vs : List (κ × Value)} (r : KV kvs vs) : kvs.length = vs.length:=Paired.length r
end
theorem kV_is {P : Program} {w : World} {k : Key} {u : Value} (r : RelV (kV k) u) : (mixKind P w).is k u = true:=by
  cases k with
  | inl i=>obtain ⟨t,e⟩:=(show ∃ t,u = Value.int i t from r); subst e; exact mixKind_int P w i t
  | inr x=>obtain ⟨t,e⟩:=(show ∃ t,u = Value.str x t from r); subst e; exact mixKind_str P w x t
theorem items_are {P : Program} {w : World} : ∀ {ks : List Key} {us : List Value},Vals (ks.map kV) us→ItemsAre (mixKind P w) ks us
  | [],_,r=>by rw [List.map_nil] at r; cases r; exact .nil
  | k :: ks,_,r=>by
    rw [List.map_cons] at r
    cases r with
    | cons h t=>exact .cons (kV_is h) (items_are t)
abbrev KT (H : Hp) : List (List Key × V)→List (List Key × Addr × Value)→Prop:=Paired fun p q=>p.1 = q.1∧H q.2.1 = some (.tup (p.1.map kV))∧RelV p.2 q.2.2
theorem KT.val {H : Hp} {kvs : List (List Key × V)} {xs : List (List Key × Addr × Value)} (r : KT H kvs xs) (k : List Key) : RelO (valV kvs k) ((atKey xs k).map (·.2)):=by
  induction r with
  | nil=>exact True.intro
  | @cons p q ps qs h t ih =>
    obtain ⟨h1,_,h2⟩:=h
    by_cases e : p.1 = k
    · have e' : q.1 = k:=h1.symm.trans e
      have b : atKey (q :: qs) k = some q.2:=by simp [atKey,List.find?_cons,e']
      rw [valV_pos e,b]; exact h2
    · have e' : ¬ q.1 = k:=fun z=>e (h1.trans z)
      have b : atKey (q :: qs) k = atKey qs k:=by simp [atKey,List.find?_cons,e']
      rw [valV_neg e,b]; exact ih
theorem KT.repl {H : Hp} {kvs : List (List Key × V)} {xs : List (List Key × Addr × Value)} (r : KT H kvs xs) (k : List Key) {y : V} {u : Value} (ry : RelV y u) :
    KT H (kvs.map fun kv=>if kv.1 = k then (kv.1,y) else kv) (xs.map (putAt k u)):=by
  induction r with
  | nil=>exact .nil
  | @cons p q ps qs h t ih =>
    rw [List.map_cons,List.map_cons]
    refine .cons ?_ ih
    obtain ⟨h1,h2,h3⟩:=h
    unfold putAt
    by_cases e : p.1 = k
    · rw [if_pos e,if_pos (h1.symm.trans e)]; exact ⟨h1,h2,ry⟩
    · rw [if_neg e,if_neg (fun z=>e (h1.trans z))]; exact ⟨h1,h2,h3⟩
theorem KT.put {H : Hp} {kvs : List (List Key × V)} {xs : List (List Key × Addr × Value)} (r : KT H kvs xs) (k : List Key) {b : Addr} {y : V} {u : Value} (hb : H b = some (.tup (k.map kV))) (ry : RelV y u) :
    KT H (putK kvs k y) (storedH xs k b u):=by
  have e : (kvs.any fun kv=>decide (kv.1 = k)) = (atKey xs k).isSome:=by
    rw [valV_any,(r.val k).isSome_eq,Option.isSome_map]
  unfold putK storedH
  rw [e]
  by_cases q : (atKey xs k).isSome = true
  · rw [if_pos q,if_pos q]; exact r.repl k ry
  · rw [if_neg q,if_neg q]; exact Paired.snoc r ⟨rfl,hb,ry⟩
theorem KT.keeps {H H' : Hp} {kvs : List (List Key × V)} {xs : List (List Key × Addr × Value)} (r : KT H kvs xs) (ht : ∀ b ys,H b = some (.tup ys)→H' b = some (.tup ys)) : KT H' kvs xs :=
  Paired.mapP r fun _ _ z=>⟨z.1,ht _ _ z.2.1,z.2.2⟩
section
variable {P : Program} {w : World} {H : Hp} {h : Heap} {a : Addr}
theorem rd_of {u : HO} (ok : HOk P w H h) (e : Rd H a u) : ObjOk P w H h a u:=e.ok ok
theorem dk_rd {kvs : List (Key × V)} (ok : HOk P w H h) (e : Rd H a (.dK kvs)) : kvs.length ≤ sizeLine∧(a == sysModules) = false∧∃ vs,KV kvs vs∧h.DictOf (mixKind P w) a vs :=
  show ObjOk P w H h a (.dK kvs) from rd_of ok e
theorem dk_of {kvs : List (Key × V)} (ok : HOk P w H h) (e : H a = some (.dK kvs)) : kvs.length ≤ sizeLine∧(a == sysModules) = false∧∃ vs,KV kvs vs∧h.DictOf (mixKind P w) a vs:=dk_rd ok (.inl e)
theorem key_of {ks : List Key} (ok : HOk P w H h) (e : H a = some (.tup (ks.map kV))) : (tupleKind (mixKind P w)).is h ks a:=by
  obtain ⟨_,its,r,⟨o,h1,h2,n,h3⟩,_⟩:=(show ObjOk P w H h a (.tup (ks.map kV)) from ok a _ e)
  exact ⟨o,its.toArray,n,h1,h2,h3,by simpa using items_are r⟩
theorem dt_rd {kvs : List (List Key × V)} (ok : HOk P w H h) (e : Rd H a (.dT kvs)) : kvs.length ≤ sizeLine∧(a == sysModules) = false ∧
    ∃ xs,KT H kvs xs∧h.DictOfH (tupleKind (mixKind P w)) a xs:=by
  obtain ⟨z,y,xs,r,o,es,ep,h1,h2,h3,h4,h5⟩:=(show ObjOk P w H h a (.dT kvs) from rd_of ok e)
  refine ⟨z,y,xs,r,o,es,ep,h1,h2,h3,h4,fun x hx=>?_,h5⟩
  have all : ∀ {l : List (List Key × V)} {m : List (List Key × Addr × Value)},KT H l m→∀ x ∈ m,(tupleKind (mixKind P w)).is h x.1 x.2.1:=by
    intro l m q
    induction q with
    | nil=>intro x hx; exact nomatch hx
    | @cons p q ps qs hq t ih =>
      intro x hx
      rcases List.mem_cons.mp hx with e | hx
      · subst e
        exact key_of ok (by rw [← hq.1]; exact hq.2.1)
      · exact ih x hx
  exact all r x hx
theorem dt_of {kvs : List (List Key × V)} (ok : HOk P w H h) (e : H a = some (.dT kvs)) : kvs.length ≤ sizeLine∧(a == sysModules) = false ∧
    ∃ xs,KT H kvs xs∧h.DictOfH (tupleKind (mixKind P w)) a xs:=dt_rd ok (.inl e)
end
def DGet (H : Hp) (a : Addr) (y : V) (r : Option V) : Prop :=
  (∃ kvs k,Rd H a (.dK kvs)∧y = kV k∧r = valV kvs k) ∨ ∃ kvs k b,Rd H a (.dT kvs)∧y = .ref b∧H b = some (.tup (k.map kV))∧r = valV kvs k
def DPut (H : Hp) (a : Addr) (y v : V) (H' : Hp) : Prop :=
  (∃ kvs k,H a = some (.dK kvs)∧y = kV k∧kvs.length < sizeLine∧H' = upd H a (.dK (putK kvs k v))) ∨
  ∃ kvs k b,H a = some (.dT kvs)∧y = .ref b∧H b = some (.tup (k.map kV))∧kvs.length < sizeLine∧H' = upd H a (.dT (putK kvs k v))
theorem DGet.k {H : Hp} {a : Addr} {kvs : List (Key × V)} {k : Key} (e : H a = some (.dK kvs)) : DGet H a (kV k) (valV kvs k):=.inl ⟨kvs,k,.inl e,rfl,rfl⟩
theorem DPut.k {H : Hp} {a : Addr} {kvs : List (Key × V)} {k : Key} {v : V} (e : H a = some (.dK kvs)) (hl : kvs.length < sizeLine) : DPut H a (kV k) v (upd H a (.dK (putK kvs k v))):=.inl ⟨kvs,k,e,rfl,hl,rfl⟩
section
variable {X : Cx} {pins : List (Addr × Obj)} {σ : St} {H : Hp} {s : Shared} {a : Addr} {y v : V} {u r : Value} {o : Option V} {A : Around} {E : Value→Shared→Prop}
theorem Inv.big (I : Inv X pins σ H s) : sysModules < s.heap.objs.size:=by
  have h : mainGlobals < s.heap.objs.size:=(I.mod.glob.keeps I.bk).lt
  exact Nat.lt_trans (by decide) h
theorem d_getItem {Q : Value→Shared→Prop} (hu : A.units + 1 < cLine) (I : Inv X pins σ H s) (g : DGet H a y (some v)) (ry : RelV y u) (h : ∀ w' s',Inv X pins σ H s'→RelV v w'→Q w' s') :
    wpAny (model X.prog X.w) A (getItem (.ref a) u) Q E s:=by
  rcases g with ⟨kvs,k,e,ey,l⟩ | ⟨kvs,k,b,e,ey,eb,l⟩
  · subst ey
    obtain ⟨z,hd,vs,rel,dd⟩:=dk_rd I.hok e
    obtain ⟨w',hw,rw'⟩:=RelO.some_of (v:=v) (o:=valueAt vs k) (by rw [l]; exact rel.val k)
    exact wpAny_getItem_of (kV_is ry) dd.mapOf hw (h w' _ (I.tok _) rw')
  · subst ey
    cases (show u = Value.ref b from ry)
    obtain ⟨z,hd,xs,rel,dd⟩:=dt_rd I.hok e
    obtain ⟨w',hw,rw'⟩:=RelO.some_of (v:=v) (o:=(atKey xs k).map (·.2)) (by rw [l]; exact rel.val k)
    obtain ⟨p,hp,hp2⟩:=Option.map_eq_some_iff.mp hw
    refine wpAny_getItem_heap (tupleKind_room_in1 hu) (key_of I.hok eb) dd hp ?_
    rw [hp2]
    exact h w' _ (I.tok _) rw'
theorem d_notIn {Q : Value→Shared→Prop} (hu : A.units + 1 < cLine) (I : Inv X pins σ H s) (g : DGet H a y o) (ry : RelV y u) (h : ∀ s',Inv X pins σ H s'→Q (.bool (!o.isSome)) s') :
    wpAny (model X.prog X.w) A (compareOp .NotIn u (.ref a)) Q E s:=by
  rcases g with ⟨kvs,k,e,ey,l⟩ | ⟨kvs,k,b,e,ey,eb,l⟩
  · subst ey
    obtain ⟨z,hd,vs,rel,dd⟩:=dk_rd I.hok e
    refine wpAny_notIn_of (kV_is ry) hd dd.mapOf ?_
    rw [← (rel.val k).isSome_eq,← l]
    exact h _ (I.tok _)
  · subst ey
    cases (show u = Value.ref b from ry)
    obtain ⟨z,hd,xs,rel,dd⟩:=dt_rd I.hok e
    refine wpAny_notIn_heap (tupleKind_room_in1 hu) (key_of I.hok eb) hd dd ?_
    have q:=(rel.val k).isSome_eq
    rw [Option.isSome_map] at q
    rw [← q,← l]
    exact h _ (I.tok _)
theorem d_write {h' : Heap} {t' : Nat} {ob : HO} (I : Inv X pins σ H s) (mu : Mut (H a)) (hs : Heap.SameBut a s.heap h') (he : ∃ q,h'.get? a = some q) (new : ObjOk X.prog X.w (upd H a ob) h' a ob) :
    Inv X pins σ (upd H a ob) { s with heap:=h',toks:=t' } :=
  I.write (x:=a) (e:=a) mu (.inl rfl) (fun b q hb z=>(hs.2 b hb).trans z) he new
theorem dk_new {P : Program} {w : World} {H' : Hp} {h' : Heap} {kvs : List (Key × V)} {vs : List (Key × Value)} (z : kvs.length ≤ sizeLine) (hd : (a == sysModules) = false) (rel : KV kvs vs) (dd : h'.DictOf (mixKind P w) a vs) :
    ObjOk P w H' h' a (.dK kvs):=⟨z,hd,vs,rel,dd⟩
theorem d_setItem {H' : Hp} {Q : Unit→Shared→Prop} (hu : A.units + 1 < cLine) (I : Inv X pins σ H s) (g : DPut H a y v H') (ry : RelV y u) (rv : RelV v r) (h : ∀ s',Inv X pins σ H' s'→Q () s') :
    wpAny (model X.prog X.w) A (setItem (.ref a) u r) Q E s:=by
  rcases g with ⟨kvs,k,e,ey,l,eH⟩ | ⟨kvs,k,b,e,ey,eb,l,eH⟩
  · subst ey eH
    obtain ⟨z,hd,vs,rel,dd⟩:=dk_of I.hok e
    have hz : vs.length ≤ sizeLine:=by rw [← rel.length]; exact z
    have hl : (putK kvs k v).length ≤ sizeLine:=by have:=length_putK kvs k v; omega
    refine wpAny_setItem_pairs (hsz:=hz) (kV_is ry) dd fun h' dd' hs=>h _ ?_
    have he : ∃ q,h'.get? a = some q:=let ⟨q,_,_,hq,_⟩:=dd'; ⟨q,hq⟩
    exact d_write I (by rw [e]; exact True.intro) hs he (dk_new hl hd (rel.put k rv) dd')
  · subst ey eH
    cases (show u = Value.ref b from ry)
    obtain ⟨z,hd,xs,rel,dd⟩:=dt_of I.hok e
    have hz : xs.length ≤ sizeLine:=by rw [← Paired.length rel]; exact z
    have hl : (putK kvs k v).length ≤ sizeLine:=by have:=length_putK kvs k v; omega
    refine wpAny_setItem_heap (hsz:=hz) (tupleKind_room_in1 hu) (key_of I.hok eb) dd fun h' dd' hs=>h _ ?_
    obtain ⟨q,es,ep,hq,h2,h3,h4,_,h5⟩:=dd'
    refine d_write I (by rw [e]; exact True.intro) hs ⟨q,hq⟩ ⟨hl,hd,_,(rel.put k eb rv).keeps fun c ys ec=>?_,q,es,ep,hq,h2,h3,h4,h5⟩
    rw [upd_ne (ne_of ec e (fun z=>nomatch z))]
    exact ec
end
section
variable {X : Cx} {pins : List (Addr × Obj)} {σ : St} {H : Hp} {s : Shared} {a : Addr} {kvs : List (Key × V)} {k : Key} {u : Value} {A : Around} {E : Value→Shared→Prop}
end
def NoSl (i : Expr) : Prop:=∀ ov iv,subscripted i false ov iv = operate [ov,iv] (getItem ov iv)
theorem subD_of {prog : Program} {w : World} {A : Around} {E : Value→Shared→Prop} {s : Shared} {env : Env} {value slice : Expr} {pos : Pos} {T id : String} {Q : Value→Shared→Prop}
    (hl : typeLookup (.type T) "__getitem__" = pure (some (.builtin id))) (hs : NoSl slice)
    (h : wpAny (model prog w) A (eval value env) (fun o s₁=>wpAny (model prog w) A (eval slice env) (fun i s₂=>s₂.TypeIs o T∧wpAny (model prog w) A (getItem o i) Q E s₂) E s₁) E s) :
    wpAny (model prog w) A (eval (.Subscript value slice pos) env) Q E s:=by
  refine Subscript_ (wpAny_mono h (fun o s₁ h₁=>wpAny_mono h₁ (fun i s₂ h₂=>?_) fun _ _ x=>x) fun _ _ x=>x)
  obtain ⟨hT,h₂⟩:=h₂
  unfold subscriptTail
  refine wpAny_bind ?_
  rw [getitemInPython_of_ne hT.not_modules]
  refine wpAny_bind (wpAny_specialOf hT hl ?_)
  have fin : wpAny (model prog w) A (subscripted slice false o i) (fun r s₃=>wpAny (model prog w) A (letTemporaryGo value o r >>= fun _=>pure r) Q E s₃) E s₂:=by
    rw [hs o i]
    exact wpAny_operating (wpAny_mono h₂ (fun r s₃ h₃=>wpAny_bind (wpAny_letTemporaryGo (wpAny_pure h₃))) fun _ _ x=>x)
  first
    | exact wpAny_pure (wpAny_bind fin)
    | exact wpAny_bind (wpAny_pure (wpAny_bind fin))
    | exact wpAny_bind fin
theorem dict_typeIs {X : Cx} {pins : List (Addr × Obj)} {σ : St} {H : Hp} {s : Shared} {a : Addr} {y : V} {o : Option V} (I : Inv X pins σ H s) (g : DGet H a y o) : s.TypeIs (.ref a) "dict":=by
  rcases g with ⟨kvs,k,e,_,_⟩ | ⟨kvs,k,b,e,_,_,_⟩
  · obtain ⟨_,_,vs,_,dd⟩:=dk_rd I.hok e
    exact dd.typeIs
  · obtain ⟨_,_,xs,_,dd⟩:=dt_rd I.hok e
    exact dd.typeIs
def tDGet (td ty : TE) : TE:=fun σ H Q=>td σ H fun x H1=>ty σ H1 fun y H2=>∃ a v,x = .ref a∧DGet H2 a y (some v)∧Q v H2
def tDNotIn (ty td : TE) : TE:=fun σ H Q=>ty σ H fun y H1=>td σ H1 fun x H2=>∃ a o,x = .ref a∧DGet H2 a y o∧Q (.bl (!o.isSome)) H2
def sDPut (td ty tv : TE) : TS:=fun D σ H=>tv σ H fun v H1=>td σ H1 fun x H2=>ty σ H2 fun y H3=>∃ a H4,x = .ref a∧DPut H3 a y v H4∧D.nx σ H4
section
variable {X : Cx} {o i e value : Expr} {pos pos' tpos : Pos} {td ty tv : TE}
theorem pe_dget (hu : X.A.units + 1 < cLine) (ho : PE X o td) (hi : PE X i ty) (hs : NoSl i) : PE X (.Subscript o i pos) (tDGet td ty):=by
  intro pins s σ H Q I h
  refine subD_of PySem.F.slot_dict_getitem.lookup hs (thn (ho pins s σ H _ I h) fun u s1 ⟨x,H1,I1,rx,q1⟩=>thn (hi pins s1 σ H1 _ I1 q1) fun iv s2 ⟨y,H2,I2,ry,a,v,ex,g,q2⟩=>?_)
  subst ex
  obtain rfl : u = Value.ref a:=rx
  exact ⟨dict_typeIs I2 g,d_getItem hu I2 g ry fun w' s3 I3 rw'=>⟨v,H2,I3,rw',q2⟩⟩
theorem pc_dnotin (hu : X.A.units + 1 < cLine) (hi : PE X i ty) (ho : PE X o td) : PC X .NotIn i o (tDNotIn ty td):=by
  intro pins s σ H Q I h
  refine thn (hi pins s σ H _ I h) fun iv s1 ⟨y,H1,I1,ry,q1⟩=>thn (ho pins s1 σ H1 _ I1 q1) fun u s2 ⟨x,H2,I2,rx,a,ov,ex,g,q2⟩=>?_
  subst ex
  obtain rfl : u = Value.ref a:=rx
  exact d_notIn hu I2 g ry fun s3 I3=>⟨.bl (!ov.isSome),H2,I3,rfl,q2⟩
theorem ps_dput (hu : X.A.units + 1 < cLine) (ho : PE X o td) (hi : PE X i ty) (hv : PE X value tv) (hs : swapsWith value (some (.Subscript o i pos')) pos.line X.env = pure false) :
    PS X (.Assign [.Subscript o i pos'] value pos) (sDPut td ty tv):=by
  intro pins s σ H D I h
  refine wpAny_Assign_Subscript (thn (hv pins s σ H _ I h) fun r s1 ⟨v,H1,I1,rv,q1⟩=>thn (ho pins s1 σ H1 _ I1 q1) fun u s2 ⟨x,H2,I2,rx,q2⟩=>thn (hi pins s2 σ H2 _ I2 q2) fun iv s3 ⟨y,H3,I3,ry,a,H4,ex,g,q3⟩=>?_) hs
  subst ex
  obtain rfl : u = Value.ref a:=rx
  exact d_setItem hu I3 g ry rv fun s4 I4=>⟨σ,H4,I4,q3⟩
end
theorem dk_empty {P : Program} {w : World} {H : Hp} (h : Heap) (hb : sysModules < h.objs.size) : ObjOk P w H (h.push { cls:=.type "dict",data:=.dict #[] }) h.objs.size (.dK []) :=
  ⟨Nat.zero_le _,beq_eq_false_iff_ne.mpr (Ne.symm (Nat.ne_of_lt hb)),[],.nil,Heap.DictOf.new h⟩
section
variable {X : Cx} {pos : Pos}
end
def tPairs : List (TE × TE)→St→Hp→(List (V × V)→Hp→Prop)→Prop
  | [],_,H,Q=>Q [] H
  | (tk,tv) :: r,σ,H,Q=>tk σ H fun x H1=>tv σ H1 fun y H2=>tPairs r σ H2 fun ps H3=>Q ((x,y) :: ps) H3
abbrev VV : List (V × V)→List (Value × Value)→Prop:=Paired fun p q=>RelV p.1 q.1∧RelV p.2 q.2
def PPs (X : Cx) (pos : Pos) (keys : List (Option Expr)) (values : List Expr) (trs : List (TE × TE)) : Prop :=
  ∀ (pins : List (Addr × Obj)) (s : Shared) (σ : St) (H : Hp) (Q : List (V × V)→Hp→Prop),Inv X pins σ H s→tPairs trs σ H Q →
    wpAny (model X.prog X.w) X.A (evalPairs (pairTrees keys values X.env pos)) (fun vs s'=>∃ ps H',Inv X pins σ H' s'∧VV ps vs∧Q ps H') X.xe s
theorem pps_nil {X : Cx} {pos : Pos} : PPs X pos [] [] []:=fun pins s σ H Q I h=>pairTrees_nil_walk ⟨[],H,I,.nil,h⟩
theorem pps_cons {X : Cx} {pos : Pos} {k v : Expr} {ks : List (Option Expr)} {vs : List Expr} {tk tv : TE} {trs : List (TE × TE)} (hk : PE X k tk) (hv : PE X v tv) (hr : PPs X pos ks vs trs) :
    PPs X pos (some k :: ks) (v :: vs) ((tk,tv) :: trs):=fun pins s σ H Q I h =>
  pairTrees_cons_walk (thn (hk pins s σ H _ I h) fun u s1 ⟨x,H1,I1,rx,q1⟩=>thn (hv pins s1 σ H1 _ I1 q1) fun w2 s2 ⟨y,H2,I2,ry,q2⟩ =>
    thn (hr pins s2 σ H2 _ I2 q2) fun ws s3 ⟨ps,H3,I3,rel,q3⟩=>⟨(x,y) :: ps,H3,I3,.cons ⟨rx,ry⟩ rel,q3⟩)
def mergeK (kvs more : List (Key × V)) : List (Key × V):=more.foldl (fun acc kv=>putK acc kv.1 kv.2) kvs
theorem KV.merge : ∀ {more : List (Key × V)} {rs : List (Key × Value)} {kvs : List (Key × V)} {vs : List (Key × Value)},KV more rs→KV kvs vs→KV (mergeK kvs more) (merged vs rs):=by
  intro more rs kvs vs r
  unfold KV at r
  induction r generalizing kvs vs with
  | nil=>intro q; exact q
  | @cons p q ps qs h t ih =>
    intro r0
    have e : KV (putK kvs p.1 p.2) (stored vs q.1 q.2):=by
      have:=r0.put p.1 h.2
      rw [← h.1]; exact this
    exact ih e
theorem length_mergeK : ∀ (more kvs : List (Key × V)),(mergeK kvs more).length ≤ kvs.length + more.length
  | [],kvs=>by show kvs.length ≤ kvs.length + 0; omega
  | p :: r,kvs=>by
    have h1:=length_mergeK r (putK kvs p.1 p.2)
    have h2:=length_putK kvs p.1 p.2
    show (mergeK (putK kvs p.1 p.2) r).length ≤ _
    rw [List.length_cons]; omega
theorem carries_of {P : Program} {w : World} : ∀ {kvs : List (Key × V)} {ws : List (Value × Value)},VV (kvs.map fun kv=>(kV kv.1,kv.2)) ws→∃ rs,Carries (mixKind P w) ws rs∧KV kvs rs
  | [],_,r=>by rw [List.map_nil] at r; cases r; exact ⟨[],True.intro,.nil⟩
  | p :: kvs,_,r=>by
    rw [List.map_cons] at r
    cases r with
    | @cons a b as bs h t =>
      obtain ⟨rs,c,q⟩:=carries_of (P:=P) (w:=w) t
      obtain ⟨b1,b2⟩:=b
      exact ⟨(p.1,b2) :: rs,⟨kV_is h.1,rfl,c⟩,.cons ⟨rfl,h.2⟩ q⟩
def tDisp (trs : List (TE × TE)) : TE:=fun σ H Q=>∀ p,H p = none→tPairs trs σ (upd H p (.dK [])) fun ps H2=>H2 p = some (.dK [])∧∃ kvs : List (Key × V),ps = kvs.map (fun kv=>(kV kv.1,kv.2))∧kvs.length ≤ 15∧Q (.ref p) (upd H2 p (.dK (mergeK [] kvs)))
theorem pe_disp {X : Cx} {pos : Pos} {keys : List (Option Expr)} {values : List Expr} {trs : List (TE × TE)} (h : PPs X pos keys values trs) (hall : keys.all (·.isSome) = true) (hl : keys.length = values.length) (h0 : keys ≠ [])
    (h15 : keys.length ≤ 15) : PE X (.Dict keys values pos) (tDisp trs):=by
  intro pins s σ H Q I q
  have hn:=I.hok.fresh (Nat.le_refl s.heap.objs.size)
  have I1:=I.laid (a:=s.heap.objs.size) (o:=.dK []) (h':=s.heap.push { cls:=.type "dict",data:=.dict #[] }) (t':=s.toks) (fun _ _ q=>Heap.get?_push_of_some _ q) (Nat.le_refl _) (dk_empty s.heap I.big)
  refine wpAny_Dict_walk (knd:=mixKind X.prog X.w) hall hl h0 h15 (thn (h pins _ σ _ _ I1 (q _ hn)) fun ws s2 ⟨ps,H2,I2,rel,e,kvs,ep,lk,q2⟩=>?_)
  subst ep
  obtain ⟨rs,c,rk⟩:=carries_of (P:=X.prog) (w:=X.w) rel
  obtain ⟨z,hd,vs0,r0,dd⟩:=dk_of I2.hok e
  cases r0
  refine ⟨rs,c,dd,fun h' dd' hs=>⟨.ref s.heap.objs.size,_,?_,rfl,q2⟩⟩
  have hz : (mergeK [] kvs).length ≤ sizeLine:=by
    have h1:=length_mergeK kvs []
    rw [List.length_nil] at h1
    rw [sizeLine_eq]; omega
  have he : ∃ q,h'.get? s.heap.objs.size = some q:=let ⟨q,_,_,hq,_⟩:=dd'; ⟨q,hq⟩
  exact d_write I2 (by rw [e]; exact True.intro) hs he (dk_new hz hd (rk.merge .nil) dd')
section
variable {X : Cx} {pins : List (Addr × Obj)} {σ : St} {H : Hp} {s : Shared} {a : Addr} {y d : V} {u r : Value} {o : Option V} {A : Around} {E : Value→Shared→Prop}
end
section
variable {X : Cx} {o e f : Expr} {apos cpos : Pos} {td ty tx : TE}
end
section
variable {X : Cx} {pins : List (Addr × Obj)} {σ : St} {H : Hp} {s : Shared} {a : Addr} {kvs : List (Key × V)} {A : Around} {E : Value→Shared→Prop}
end
section
variable {X : Cx} {pins : List (Addr × Obj)} {σ : St} {H : Hp} {s : Shared} {a : Addr} {y : V} {u : Value} {A : Around} {E : Value→Shared→Prop}
end
end L2
namespace L2
open PySem PySem.Spec PyProof.Rows
section
variable {X : Cx}
end
section
variable {κ : Type} [DecidableEq κ]
end
end L2
set_option Elab.async false
set_option linter.all false
set_option maxRecDepth 100000
namespace L2
open PySem PySem.Spec PyProof.Rows
structure VE (X : Cx) (e : Expr) (t : TE) : Prop where
  out : PE X e t
structure VT (X : Cx) (e : Expr) (t : TT) : Prop where
  out : PT X e t
structure VW (X : Cx) (e : Expr) (t : TT) : Prop where
  out : PW X e t
structure VA (X : Cx) (es : List Expr) (t : TA) : Prop where
  out : PA X es t
structure VS (X : Cx) (st : Stmt) (t : TS) : Prop where
  out : PS X st t
structure VSs (X : Cx) (st : List Stmt) (t : TS) : Prop where
  out : PSs X st t
structure VI (X : Cx) (tg iter : Expr) (t : TI) : Prop where
  out : PI X tg iter t
structure VG (X : Cx) (tg : Expr) (t : TG) : Prop where
  out : PG X tg t
structure VGs (X : Cx) (tg : List Expr) (t : TGs) : Prop where
  out : PGs X tg t
structure VO (X : Cx) (e : Option Expr) (t : TO) : Prop where
  out : PO X e t
structure VF (X : Cx) (ifs : List Expr) (t : TT) : Prop where
  out : PIfs X ifs t
structure VP (X : Cx) (pos : Pos) (keys : List (Option Expr)) (values : List Expr) (trs : List (TE × TE)) : Prop where
  out : PPs X pos keys values trs
section
variable {X : Cx} {a b c e : Expr} {es : List Expr} {ta tb tc te : TE} {t : TA} {tA tB' : TT} {pos p : Pos} {x : Str}
theorem vv (i : Nat) {x : Str} {pos : Pos} (hN : X.N[i]? = some x:=by rfl) (hv : Vis X.env.scope x:=by first | exact Or.inl rfl | exact Or.inr (Or.inl rfl) | exact Or.inr (Or.inr rfl)) (hd : (x == ("__debug__" : Str)) = false:=by decide)
    (hcd : (x == ("__classdict__" : Str)) = false:=by decide) : VE X (.Name x pos) (tVar i):=⟨pv i hN hv hd hcd⟩
theorem ve_gl {v : V} (hg : Gl X x) (hm : ∃ u,X.mg x = some u∧RelV v u) (hd : (x == ("__debug__" : Str)) = false:=by decide) : VE X (.Name x pos) (tC v):=⟨pe_gl hg hm hd⟩
theorem ve_bltn {v : V} {u : Value} (hg : Gl X x) (hm : X.mg x = none) (hv : bootBuiltins x = some u) (r : RelV v u) (hn : x ≠ "__name__":=by decide) (hd : (x == ("__debug__" : Str)) = false:=by decide) : VE X (.Name x pos) (tC v):=⟨pe_bltn hg hm hv r hn hd⟩
theorem ve_int {i j} : VE X (.Constant (.int i) j pos) (tC (.int i)):=⟨pe_int⟩
theorem ve_bl {b j} : VE X (.Constant (.bool b) j pos) (tC (.bl b)):=⟨pe_bl⟩
theorem ve_non {j} : VE X (.Constant .none j pos) (tC .non):=⟨pe_non⟩
theorem ve_str {x j} : VE X (.Constant (.str x) j pos) (tC (.str x)):=⟨pe_str⟩
theorem ve_op {op : Operator} {r : R2} (ho : OpR X (binaryOp op) r) (ha : VE X a ta) (hb : VE X b tb) : VE X (.BinOp a op b pos) (tOp r ta tb):=⟨pe_op ho ha.1 hb.1⟩
theorem ve_cmpR {op : CmpOp} {r : R2} (ho : OpR X (compareOp op) r) (ha : VE X a ta) (hb : VE X b tb) (hm : behindInMarks op b = false) : VE X (.Compare a [op] [b] pos) (tOp r ta tb):=⟨pe_cmpR ho ha.1 hb.1 hm⟩
theorem vt_cmpR {op : CmpOp} {r : R2} (ho : OpR X (compareOp op) r) (ha : VE X a ta) (hb : VE X b tb) (hm : behindInMarks op b = false) : VT X (.Compare a [op] [b] pos) (tTest (tOp r ta tb)):=⟨pt_cmpR ho ha.1 hb.1 hm⟩
theorem ve_chain {op op' : CmpOp} {r r' : R2} (ho : OpR X (compareOp op) r) (ho' : OpR X (compareOp op') r') (ha : VE X a ta) (hb : VE X b tb) (hc : VE X c tc)
    (hm : lastMarks [op,op'] [b,c] = false:=by with_unfolding_all rfl) : VE X (.Compare a [op,op'] [b,c] pos) (tChain r r' ta tb tc):=⟨pe_chain ho ho' ha.1 hb.1 hc.1 hm⟩
theorem vt_chain {op op' : CmpOp} {r r' : R2} (ho : OpR X (compareOp op) r) (ho' : OpR X (compareOp op') r') (ha : VE X a ta) (hb : VE X b tb) (hc : VE X c tc)
    (hm : lastMarks [op,op'] [b,c] = false:=by with_unfolding_all rfl) : VT X (.Compare a [op,op'] [b,c] pos) (tTest (tChain r r' ta tb tc)):=⟨pt_chain ho ho' ha.1 hb.1 hc.1 hm⟩
theorem ve_one {op} (h : VE X a te) : VE X (.BoolOp op [a] pos) te:=⟨pe_one h.1⟩
theorem ve_and {rest : List Expr} (ha : VE X a ta) (hb : VE X (.BoolOp .And (b :: rest) pos) tb) : VE X (.BoolOp .And (a :: b :: rest) pos) (tAndV ta tb):=⟨pe_and ha.1 hb.1⟩
theorem ve_or {rest : List Expr} (ha : VE X a ta) (hb : VE X (.BoolOp .Or (b :: rest) pos) tb) : VE X (.BoolOp .Or (a :: b :: rest) pos) (tOrV ta tb):=⟨pe_or ha.1 hb.1⟩
theorem ve_not (ha : VE X a ta) : VE X (.UnaryOp .Not a pos) (tNotV ta):=⟨pe_not ha.1⟩
theorem ve_ifExp (hc : VT X c tA) (ha : VE X a ta) (hb : VE X b tb) : VE X (.IfExp c a b pos) (tIf tA ta tb):=⟨pe_ifExp hc.1 ha.1 hb.1⟩
theorem va_nil : VA X [] tNil:=⟨pa_nil⟩
theorem va_c (ha : VE X e te) (hr : VA X es t) (hp : plainE e = true:=by rfl) : VA X (e :: es) (tCons te t):=⟨pa_c ha.1 hr.1 hp⟩
theorem ve_fn {k : Nat} {ps : List Str} {sp : Sp} (G : Ok X.prog X.w X.K X.mg X.base k x ps sp) (hr : Room k X.A) (hg : Gl X x) (ha : VA X (e :: es) t) (hdb : (x == ("__debug__" : Str)) = false:=by decide)
    (hp : plainE e = true:=by rfl) (hpl : (backTo pos (starEach es X.env)).any (·.1) = false:=by rfl) :
    VE X (.Call (.Name x p) (e :: es) [] pos) (tCall sp [] E0 t):=⟨pe_fn G hr hg ha.1 hdb (starEach_plain hp) hpl⟩
theorem ve_fn0 {k : Nat} {ps : List Str} {sp : Sp} (G : Ok X.prog X.w X.K X.mg X.base k x ps sp) (hr : Room k X.A) (hg : Gl X x) (hdb : (x == ("__debug__" : Str)) = false:=by decide) :
    VE X (.Call (.Name x p) [] [] pos) (tCall sp [] E0 tNil):=⟨pe_fn0 G hr hg hdb⟩
theorem ve_callB {id : String} {r : List V→Hp→VK→Prop} (hc : CallR X (.builtin id) r) (hg : Gl X x) (hm : X.mg x = none) (hv : bootBuiltins x = some (.builtin id)) (ha : VA X (e :: es) t) (hn : x ≠ "__name__":=by decide) (hdb : (x == ("__debug__" : Str)) = false:=by decide)
    (hp : plainE e = true:=by rfl) (hpl : (backTo pos (starEach es X.env)).any (·.1) = false:=by rfl) : VE X (.Call (.Name x p) (e :: es) [] pos) (tCB r t):=⟨pe_callB hc hg hm hv ha.1 hn hdb (starEach_plain hp) hpl⟩
theorem ve_callTy {T : String} {r : List V→Hp→VK→Prop} (hc : CallR X (.type T) r) (hg : Gl X x) (hm : X.mg x = none) (hv : bootBuiltins x = some (.type T)) (ha : VA X (e :: es) t) (hn : x ≠ "__name__":=by decide) (hdb : (x == ("__debug__" : Str)) = false:=by decide)
    (hp : plainE e = true:=by rfl) (hpl : (backTo pos (starEach es X.env)).any (·.1) = false:=by rfl) : VE X (.Call (.Name x p) (e :: es) [] pos) (tCB r t):=⟨pe_callTy hc hg hm hv ha.1 hn hdb (starEach_plain hp) hpl⟩
theorem ve_bm {o : Expr} {to : TE} {name : Str} {apos cpos : Pos} {T id : String} {r : V→List V→Hp→VK→Prop} (pa : PlainAttrs T) (slot : Slot T name id) (hty : typeOf (.builtin id) = pure (.type "method_descriptor")) (hm : MtR X id r) (ho : VE X o to) (ha : VA X (e :: es) t)
    (hbase : attributeBase o name X.env (eval o X.env) = eval o X.env:=by rfl)
    (hfew : ((backTo cpos (starEach (e :: es) X.env)).all (fun x=>!x.1) && (backToKw cpos (keywordEach [] X.env)).all (fun x=>x.1.isSome)
      && decide ((e :: es).length + ([] : List Keyword).length + (if ([] : List Keyword).isEmpty then 0 else 1) < 30)) = true:=by rfl)
    (hline : (apos.endLine == cpos.line) = true:=by rfl) (hp : plainE e = true:=by rfl) (hplain : (backTo cpos (starEach es X.env)).any (·.1) = false:=by rfl) :
    VE X (.Call (.Attribute o name apos) (e :: es) [] cpos) (tBM X.K T r to t):=⟨pe_bm pa slot hty hm ho.1 ha.1 hbase hfew hline (starEach_plain hp) hplain⟩
theorem ve_item_str (ha : VE X a ta) (hb : VE X b tb) (hs : PlainIxT b) :
    VE X (.Subscript a b pos) (tOp (fun x y H Q=>∃ z i c,x = .str z∧y = .int i∧0 ≤ i∧i < 2 ^ 63∧i < z.length∧z.cps[i.toNat]? = some c∧Q (.str ⟨#[c]⟩) H) ta tb):=⟨pe_item_str ha.1 hb.1 hs⟩
theorem vo_none : VO X none tNoPart:=⟨po_none⟩
theorem vo_some (h : VE X e te) : VO X (some e) (tPart te):=⟨po_some h.1⟩
theorem ve_slice {r : V→Option Int→Option Int→Hp→VK→Prop} {lo hi : Option Expr} {tl th : TO} {p2 : Pos} (hr : SlR X r) (he : VE X e te) (hl : VO X lo tl) (hu : VO X hi th) : VE X (.Subscript e (.Slice lo hi none p2) pos) (tSl r te tl th):=⟨pe_slice hr he.1 hl.1 hu.1⟩
theorem ve_ix {r : R2} (hr : IxR X r) (ha : VE X a ta) (hb : VE X b tb) (hs : PlainIx b) : VE X (.Subscript a b pos) (tOp r ta tb):=⟨pe_ix hr ha.1 hb.1 hs⟩
theorem vps_nil : VP X pos [] [] []:=⟨pps_nil⟩
theorem vps_cons {k v : Expr} {ks : List (Option Expr)} {vs : List Expr} {tk tv : TE} {trs : List (TE × TE)} (hk : VE X k tk) (hv : VE X v tv) (hr : VP X pos ks vs trs) : VP X pos (some k :: ks) (v :: vs) ((tk,tv) :: trs):=⟨pps_cons hk.1 hv.1 hr.1⟩
theorem ve_disp {keys : List (Option Expr)} {values : List Expr} {trs : List (TE × TE)} (h : VP X pos keys values trs) (hall : keys.all (·.isSome) = true) (hl : keys.length = values.length) (h0 : keys ≠ []) (h15 : keys.length ≤ 15) : VE X (.Dict keys values pos) (tDisp trs):=⟨pe_disp h.1 hall hl h0 h15⟩
theorem vw_and1 (ha : VT X a tA) : VW X (.BoolOp .And [a] pos) tA:=⟨pw_and1 ha.1⟩
theorem vw_or1 (ha : VT X a tA) : VW X (.BoolOp .Or [a] pos) tA:=⟨pw_or1 ha.1⟩
theorem vw_and {rest : List Expr} (ha : VT X a tA) (hb : VW X (.BoolOp .And (b :: rest) pos) tB') : VW X (.BoolOp .And (a :: b :: rest) pos) (tAnd tA tB'):=⟨pw_and ha.1 hb.1⟩
theorem vw_or {rest : List Expr} (ha : VT X a tA) (hb : VW X (.BoolOp .Or (b :: rest) pos) tB') : VW X (.BoolOp .Or (a :: b :: rest) pos) (tOr tA tB'):=⟨pw_or ha.1 hb.1⟩
theorem VW.pt (h : VW X e tA) : VT X e tA:=⟨h.1.pt⟩
theorem vt_not (ha : VT X a tA) : VT X (.UnaryOp .Not a pos) (tNot tA):=⟨pt_not ha.1⟩
theorem vt_val (h : VE X e te) (he : ∀ whole,isTrue e X.env whole = (do let v ← whole; standAt e.pos; holding [v] (truthy v)):=by intro _; rfl) : VT X e (tB te):=⟨pt_val h.1 he⟩
theorem vt_truth (ha : VE X a ta) (he : ∀ whole,isTrue a X.env whole = (do let v ← whole; standAt a.pos; holding [v] (truthy v)):=by intro _; rfl) :
    VT X a (fun σ H Q=>ta σ H fun x H'=>∃ k,TruV X.K x H' k∧Q k H'):=⟨pt_truth ha.1 he⟩
variable {st : Stmt} {rest : List Stmt} {u w' : TS}
theorem vss_nil : VSs X [] tNext:=⟨pss_nil⟩
theorem vss_cons (h1 : VS X st u) (h2 : VSs X rest w') : VSs X (st :: rest) (tSeq u w'):=⟨pss_cons h1.1 h2.1⟩
theorem vss_one (h1 : VS X st u) : VSs X [st] u:=⟨pss_one h1.1⟩
theorem vs_ret (he : VE X e te) : VS X (.Return (some e) pos) (tRet te):=⟨ps_ret he.1⟩
theorem vs_if {a b : List Stmt} (hc : VT X c tA) (ha : VSs X a u) (hb : VSs X b w') : VS X (.If c a b pos) (tIfS tA u w'):=⟨ps_if hc.1 ha.1 hb.1⟩
theorem vs_set {i : Nat} {pos' : Pos} (hN : X.N.Nodup) (hi : X.N[i]? = some x) (hx : Loc X.env.scope x) (he : VE X e te) (hs : swapsWith e (some (.Name x pos')) pos.line X.env = pure false:=by rfl) (hf : X.fn x = true ∨ X.env.scope.names.lookup x = some .local:=by first | exact .inl rfl | exact .inr rfl | assumption) :
    VS X (.Assign [.Name x pos'] e pos) (tAsg te (gName i)):=⟨ps_set hN hi hx he.1 hs hf⟩
theorem vs_expr (he : VE X e te) (hs : swapsWith e none pos.line X.env = pure false:=by rfl) : VS X (.Expr e pos) (tDrop te):=⟨ps_expr he.1 hs⟩
theorem vs_for {tg iter : Expr} {body : List Stmt} {wi : TI} {g : TG} {tb : TS} (hp : PassesOwn (model X.prog X.w) X.A X.env X.xe) (hc : X.calm = true) (hi : VI X tg iter wi) (hg : VG X tg g) (hb : VSs X body tb)
    (hs : ∀ x,foldedSetIterable iter X.env x = pure x:=by intro _; rfl) : VS X (.For tg iter body [] pos) (tFor wi g tb):=⟨ps_for hp hc hi.1 hg.1 hb.1 hs⟩
theorem vg_name {i : Nat} (hN : X.N.Nodup) (hi : X.N[i]? = some x) (hx : Loc X.env.scope x) (hf : X.fn x = true ∨ X.env.scope.names.lookup x = some .local:=by first | exact .inl rfl | exact .inr rfl | assumption) : VG X (.Name x pos) (gName i):=⟨pg_name hN hi hx hf⟩
theorem vgs_nil : VGs X [] gNil:=⟨pgs_nil⟩
theorem vgs_cons {t : TG} {u : TGs} (h1 : VG X e t) (h2 : VGs X es u) (hs : (assignEach (e :: es) X.env).map (·.2) = assign e X.env :: (assignEach es X.env).map (·.2):=by rfl) : VGs X (e :: es) (gCons t u):=⟨pgs_cons h1.1 h2.1 hs⟩
theorem vg_tup {k : Nat} {t : TGs} {n : Nat} (hc : X.calm = true) (h : VGs X es t) (hn : (assignEach es X.env).length = n:=by rfl) (hst : (assignEach es X.env).findIdx? (·.1) = none:=by rfl) : VG X (.Tuple es k pos) (gTup X.K n t):=⟨pg_tup hc h.1 hn hst⟩
variable {tg : Expr}
theorem vi_list (h : VE X e te) : VI X tg e (iList X.K te):=⟨pi_list h.1⟩
theorem vi_tup (h : VE X e te) : VI X tg e (iTup X.K te):=⟨pi_tup h.1⟩
theorem vi_str (h : VE X e te) : VI X tg e (iStr te):=⟨pi_str h.1⟩
theorem vi_range1 (hg : Gl X "range") (hm : X.mg "range" = none) (ha : VA X [a] t) (hp : plainE a = true:=by rfl) : VI X tg (.Call (.Name "range" p) [a] [] pos) (iRng1 t):=⟨pi_range1 hg hm ha.1 (starEach_plain (es:=[]) hp)⟩
theorem vf_nil : VF X [] tYes:=⟨pf_nil⟩
theorem vf_one (h : VT X c tA) : VF X [c] tA:=⟨pf_one h.1⟩
theorem ve_comp {elt target iter : Expr} {ifs : List Expr} {scope : Scope} {N : List Str} {wi : TI} {g : TG} {tt : TT}
    (C : CompOk scope N) (hfr : ∀ y,(y,NameKind.free) ∈ scope.names→X.env.kindOf y = some .cell ∨ X.env.kindOf y = some .free) (hc : X.calm = true)
    (hi : VI X target iter wi)
    (hb : ∀ cl s H fp,VG (cxC X N scope cl s H fp) target g∧VF (cxC X N scope cl s H fp) ifs tt∧VE (cxC X N scope cl s H fp) elt te)
    (hs : ∀ x,foldedSetIterable iter X.env x = pure x:=by intro _; rfl) :
    VE X (.ListComp elt [⟨target,iter,ifs,0⟩] scope pos) (tComp X scope N wi g tt te) :=
  ⟨pe_comp C hfr hc hi.1 (fun cl s H fp=>⟨(hb cl s H fp).1.1,(hb cl s H fp).2.1.1,(hb cl s H fp).2.2.1⟩) hs⟩
end
section
variable {P : Program} {w : World} {K : PySem.W.Frag} {mg : Str→Option Value} {base : Heap}
theorem Fun.okV {x qual : Str} {st : Stmt} {f : Addr} {fd : FuncData} {N ps : List Str} {k : Nat} {sp : Sp} (F : Fun K x qual st f fd) (S : FnScope N ps (defScope st)) (len : ∀ vs H Q E,sp vs H Q E→vs.length = ps.length)
    (hbody : ∀ (cdv : Value) (A : Around) (outer : List Env) (s : Shared) (H : Hp) (vs : List V) (Q : VK) (E : XK),Room k (A.deeper (envOfC qual (defScope st) s.heap.objs.size f cdv))→sp vs H Q E →
      ∃ t,VSs (cxOf CX0 P w K mg base N qual (defScope st) f cdv A outer s H E).nox (defBody st) t∧t { nx:=fun _ H'=>Q .non H',rt:=Q } (start N vs) H) : FnOk P w K mg base CX0 (k + 1) f fd ps sp :=
  F.ok S len fun cdv A outer s H vs Q E hr h=>let ⟨t,h1,h2⟩:=hbody cdv A outer s H vs Q E hr h; ⟨t,h1.1,h2⟩
theorem Ok.ofV {x : Str} {st : Stmt} {N ps : List Str} {k : Nat} {sp : Sp} (D : Dn K mg x st ps) (S : FnScope N ps (defScope st)) (len : ∀ vs H Q E,sp vs H Q E→vs.length = ps.length)
    (hbody : ∀ (f : Addr) (cdv : Value) (A : Around) (outer : List Env) (s : Shared) (H : Hp) (vs : List V) (Q : VK) (E : XK),Room k (A.deeper (envOfC x (defScope st) s.heap.objs.size f cdv))→sp vs H Q E →
      ∃ t,VSs (cxOf CX0 P w K mg base N x (defScope st) f cdv A outer s H E).nox (defBody st) t∧t { nx:=fun _ H'=>Q .non H',rt:=Q } (start N vs) H) : Ok P w K mg base (k + 1) x ps sp :=
  Ok.of D S len fun f cdv A outer s H vs Q E hr h=>let ⟨t,h1,h2⟩:=hbody f cdv A outer s H vs Q E hr h; ⟨t,h1.1,h2⟩
end
end L2
set_option Elab.async false
set_option linter.all false
set_option maxRecDepth 100000
namespace L2
open PySem PySem.Spec PyProof.Rows
section
variable {P : Program} {w : World} {K : PySem.W.Frag} {mg : Str→Option Value} {base : Heap}
def OkX (P : Program) (w : World) (K : PySem.W.Frag) (mg : Str→Option Value) (base : Heap) (k : Nat) (x : Str) (ps : List Str) (sp : Sp) : Prop :=
  ∃ f fd,mg x = some (.ref f)∧PySem.W.keepIn K (.ref f) = true∧Binds K fd ps []∧FnOk P w K mg base (CXR P w) k f fd ps sp
theorem OkX.mono {j k : Nat} {x : Str} {ps : List Str} {sp : Sp} (h : OkX P w K mg base j x ps sp) (hj : j ≤ k) : OkX P w K mg base k x ps sp:=by
  obtain ⟨f,fd,h1,h2,h3,h4⟩:=h
  exact ⟨f,fd,h1,h2,h3,h4.mono hj⟩
theorem OkX.ofV {x : Str} {st : Stmt} {N ps : List Str} {k : Nat} {sp : Sp} (D : Dn K mg x st ps) (S : FnScope N ps (defScope st)) (len : ∀ vs H Q E,sp vs H Q E→vs.length = ps.length)
    (hbody : ∀ (f : Addr) (cdv : Value) (A : Around) (outer : List Env) (s : Shared) (H : Hp) (vs : List V) (Q : VK) (E : XK),Room k (A.deeper (envOfC x (defScope st) s.heap.objs.size f cdv))→sp vs H Q E →
      ∃ t,VSs (cxOf (CXR P w) P w K mg base N x (defScope st) f cdv A outer s H E) (defBody st) t∧t { nx:=fun _ H'=>Q .non H',rt:=Q } (start N vs) H) : OkX P w K mg base (k + 1) x ps sp:=by
  obtain ⟨f,fd,F,B,m⟩:=D
  obtain ⟨oc,od,kV,doc,pm,an,cdv,ct,osl,rfl,lk,hcd⟩:=F.ex
  exact ⟨f,_,m,F.kp,B,fn_of lk hcd S len fun A outer s H vs Q E hr hsp=>let ⟨t,h1,h2⟩:=hbody f cdv A outer s H vs Q E hr hsp; ⟨t,h1.1,h2⟩⟩
theorem FnOk.calm {k : Nat} {f : Addr} {fd : FuncData} {ps : List Str} {sp sp' : Sp} (F : FnOk P w K mg base (CXR P w) k f fd ps sp) (h : ∀ vs H Q E,sp' vs H Q E→sp vs H Q E0) : FnOk P w K mg base CX0 k f fd ps sp' :=
  ⟨fun vs H Q E q=>F.len vs H Q E0 (h _ _ _ _ q),fun A outer s H args us vs Q E hr he hb hv hs=>codeAny_mono (F.run A outer s H args us vs Q E0 hr he hb hv (h _ _ _ _ hs)) fun r s' hq=>by
    cases r with
    | error v=>obtain ⟨_,_,_,_,_,_,_,_,_,_,_,_,_,_,z⟩:=hq; exact z.elim
    | ok fl=>cases fl <;> exact hq⟩
theorem OkX.calm {k : Nat} {x : Str} {ps : List Str} {sp sp' : Sp} (G : OkX P w K mg base k x ps sp) (h : ∀ vs H Q E,sp' vs H Q E→sp vs H Q E0) : Ok P w K mg base k x ps sp':=by
  obtain ⟨f,fd,h1,h2,h3,h4⟩:=G
  exact ⟨f,fd,h1,h2,h3,h4.calm h⟩
structure ExT (K : PySem.W.Frag) (mg : Str→Option Value) (st : Stmt) (x y : Str) (C S : Addr) : Prop where
  at_ : ∃ fI fd,XC K C fI∧Fun K "__init__" y st fI fd∧Binds K fd ["self","act"] []
  mg : mg x = some (.ref C)
  kp : PySem.W.keepIn K (.ref C) = true
  cls : XS K C
  over : PySem.W.mroIn K C (.ref S) = some true
theorem init_ok {k : Nat} {y : Str} {st : Stmt} {fI : Addr} {fd : FuncData} (F : Fun K "__init__" y st fI fd) (Sc : FnScope ["self","act"] ["self","act"] (defScope st))
    (hb : ∀ (X : Cx),X.N = (["self","act"] : List Str)→X.env.scope = defScope st→X.mg = mg→VSs X (defBody st) (tSeq (tDrop (tVI X.K fI (tCons (tVar 0) (tCons (tVar 1) tNil)))) (tActS X.K fI (tVar 0) (tVar 1)))) :
    FnOk P w K mg base CX0 (k + 1) fI fd ["self","act"] (spInit K fI):=by
  refine F.okV Sc (fun vs H Q E ⟨e,C,z,_⟩=>by rw [z]; rfl) fun cdv A outer s H vs Q E hr ⟨e,C,ev,he,c,q⟩=>⟨_,hb _ rfl rfl rfl,?_⟩
  subst ev
  refine ⟨_,rfl,_,rfl,e,C,.non,rfl,he,c,?_⟩
  exact ⟨_,rfl,_,rfl,e,C,rfl,rfl,he,c,fun dx n ne=>q dx n ne⟩
end
section
variable {X : Cx} {k j : Nat} {C S : Addr} {E : XK} {x y : Str} {np cpos pos : Pos} {a : Expr} {t : TA} {st : Stmt}
theorem vs_raise (hT : ExT X.K X.mg st x y C S) (hI : ∀ fI fd,Fun X.K "__init__" y st fI fd→FnOk X.prog X.w X.K X.mg X.base CX0 k fI fd ["self","act"] (spInit X.K fI)) (hr : Room (k + 1) X.A) (hR : Raises X E) (hc : X.calm = true)
    (hg : Gl X x) (ha : VA X [a] t) (hdb : (x == ("__debug__" : Str)) = false:=by decide) (hp : plainE a = true:=by rfl) :
    VS X (.Raise (some (.Call (.Name x np) [a] [] cpos)) none pos) (tRaise C E t):=by
  obtain ⟨⟨fI,fd,c,F,B⟩,m,kp,_,_⟩:=hT
  exact ⟨ps_raise c (hI fI fd F) hr B pass0 hR hc kp hg m ha.1 hdb (starEach_plain (es:=[]) hp)⟩
theorem ve_act {K : PySem.W.Frag} {o : Expr} {ta : TE} {f : Str} (he : VE X o ta) (hK : X.K = K:=by rfl) (hf : f = "act":=by first | rfl | decide) (hb : attributeBase o f X.env (eval o X.env) = eval o X.env:=by rfl) : VE X (.Attribute o f pos) (tAct K ta):=by
  subst hf hK
  exact ⟨pe_act he.1 hb⟩
theorem isE_ownK {K : PySem.W.Frag} {D : Addr} (hS : XS K D) (hK : X.K = K:=by rfl) : CallR X (.builtin "isinstance") (rIsE K (.ref D) (.ref D) fun _=>True):=by
  subst hK; exact isE_own hS
theorem isE_VEK {K : PySem.W.Frag} (hK : X.K = K:=by rfl) : CallR X (.builtin "isinstance") (rIsE K (.ty "ValueError") (.type "ValueError") fun _=>True):=by
  subst hK; exact isE_VE
theorem vs_try {i : Nat} {n : Str} {hpos : Pos} {body suite : List Stmt} {b₀ : Stmt} {tb : St→XK→TS} {th : TS} (hst : X.stack = X.env :: X.outer) (hfrm : X.env.frame = some X.env.locals) (hN : X.N.Nodup) (hi : X.N[i]? = some n) (hk : X.env.scope.names.lookup n = some .local)
    (hg : Gl X x) (hm : X.mg x = some (.ref S)) (hS : XS X.K S) (hb : ∀ pins σ₀ E,X.Ok→VSs (tryCx X pins σ₀ E) body (tb σ₀ E)) (hh : ∀ e,VSs (handCx X e) (b₀ :: suite) th) (hdb : (x == ("__debug__" : Str)) = false:=by decide) :
    VS X (.Try body [.ExceptHandler (some (.Name x np)) (some n) (b₀ :: suite) hpos] [] [] pos) (tTry X.K S i tb th) :=
  ⟨ps_try hst hfrm hN hi hk hg hm hS (fun pins σ₀ E ok=>(hb pins σ₀ E ok).1) (fun e=>(hh e).1) hdb⟩
theorem ve_callAt {pins₀ : List (Addr × Obj)} {σ₀ : St} {ps : List Str} {sp : Sp} {p : Pos} {e : Expr} {es : List Expr} (ok : X.Ok) (G : OkX X.prog X.w X.K X.mg X.base k x ps sp) (hr : Room k X.A) (hg : Gl X x)
    (ha : VA (tryCx X pins₀ σ₀ E) (e :: es) t) (hdb : (x == ("__debug__" : Str)) = false:=by decide) (hp : plainE e = true:=by rfl) (hpl : (backTo pos (starEach es X.env)).any (·.1) = false:=by rfl) :
    VE (tryCx X pins₀ σ₀ E) (.Call (.Name x p) (e :: es) [] pos) (tCallAt σ₀ sp [] E t):=by
  obtain ⟨f,fd,h1,h2,h3,h4⟩:=G
  exact ⟨pe_callAt ok h4 hr hg h1 h2 h3 .nil ha.1 hdb (starEach_plain hp) hpl⟩
end
end L2
set_option Elab.async false
set_option linter.all false
set_option maxRecDepth 100000
namespace L2
open PySem PySem.Spec PyProof.Rows
def cxCX (X : Cx) (N : List Str) (scope : Scope) (cl : List (Str × Addr)) (s : Shared) (H : Hp) (fp : List Addr) (E : XK) : Cx :=
  { cxC X N scope cl s H fp with xe:=fun v s'=>∃ e T dx C H₁ σ' pins',v = .ref e∧Inv (cxC X N scope cl s H fp) pins' σ' (up2 H₁ e T C dx) s'∧H₁ e = none∧H₁ T = none∧T ≠ e∧H₁ dx = some xdA∧E (.ref C) (some e) H₁ }
section
variable {X : Cx} {N : List Str} {scope : Scope} {cl : List (Str × Addr)} {s₁ : Shared} {H₀ : Hp} {fp : List Addr} {E : XK} {pins : List (Addr × Obj)} {σ : St} {H : Hp} {s : Shared}
theorem ok_CX (ok : (cxC X N scope cl s₁ H₀ fp).Ok) : (cxCX X N scope cl s₁ H₀ fp E).Ok:=⟨ok.mod,ok.kind,ok.glob,ok.blt,ok.above,ok.inj,ok.has,ok.cab,ok.hd,ok.frames,ok.stk,ok.exf,ok.bs,ok.bsz,ok.noex,ok.exfs,ok.funs,ok.frf⟩
theorem ok_ofCX (ok : (cxCX X N scope cl s₁ H₀ fp E).Ok) : (cxC X N scope cl s₁ H₀ fp).Ok:=⟨ok.mod,ok.kind,ok.glob,ok.blt,ok.above,ok.inj,ok.has,ok.cab,ok.hd,ok.frames,ok.stk,ok.exf,ok.bs,ok.bsz,ok.noex,ok.exfs,ok.funs,ok.frf⟩
theorem Inv.toCX (I : Inv (cxC X N scope cl s₁ H₀ fp) pins σ H s) : Inv (cxCX X N scope cl s₁ H₀ fp E) pins σ H s:=⟨ok_CX I.ok,I.os,I.bare,I.base,I.loc,I.cell,I.free,I.freeC,I.pin,I.hok,I.len⟩
theorem Inv.ofCX (I : Inv (cxCX X N scope cl s₁ H₀ fp E) pins σ H s) : Inv (cxC X N scope cl s₁ H₀ fp) pins σ H s:=⟨ok_ofCX I.ok,I.os,I.bare,I.base,I.loc,I.cell,I.free,I.freeC,I.pin,I.hok,I.len⟩
theorem thr_CX : Thr (cxCX X N scope cl s₁ H₀ fp E) E:=fun pins σ H₁ s e T C dx I n nT hTe hd q=>⟨e,T,dx,C,H₁,σ,pins,rfl,I.ofCX,n,nT,hTe,hd,q⟩
theorem Inv.outCX {pins' : List (Addr × Obj)} {σ' : St} {H' : Hp} {s' : Shared} (I3 : Inv X pins σ H s) (hf : ∀ b ∈ fp,FpOk X pins H b) (I6 : Inv (cxC X N scope cl s H fp) pins' σ' H' s') : Inv X pins σ H' s':=by
  refine I3.call' (s':=s') I6.os I6.base I6.hok I6.bare fun b hb=>?_
  obtain ⟨f0,f1,f2,f3,f4,f5⟩:=hf b hb
  exact ⟨f3,f1,f4,f5⟩
theorem Inv.sameBut {C : Addr} {h' : Heap} (I : Inv X pins σ H s) (hf : FpOk X pins H C) (sb : Heap.SameBut C s.heap h') : Inv X pins σ H { s with heap:=h' }:=by
  have kp : ∀ b o,b ≠ C→s.heap.get? b = some o→h'.get? b = some o:=fun b o hb e=>sb.extBut b o hb e
  obtain ⟨f0,f1,f2,f3,f4,f5⟩:=hf
  have nC : ∀ {b : Addr},b ∉ [C]→b ≠ C:=fun {b} hb z=>hb (by rw [z]; exact List.mem_singleton.mpr rfl)
  refine I.call' (s':={ s with heap:=h' }) (ch:=[C]) rfl ⟨fun b o e n hb hx=>kp b o (nC hx) e,fun b o e n hb hx=>⟨o.slots,kp b o (nC hx) e⟩,fun b o e n hx=>n,fun b o e hx=>⟨o,kp b o (nC hx) e⟩,fun b xs e=>e,fun b o u e=>e,fun b ps e=>⟨#[],by rw [e]; simp⟩⟩ (fun b u e=>?_) I.bare fun b hb=>?_
  · refine (I.hok b u e).stay (fun c v hc' q=>kp c v ?_ q) (fun _ q=>q) fun _ _ q=>q
    rintro rfl
    rcases hc' with z | z
    · rw [z] at f0; rw [f0] at e; cases e
    · rw [f0] at z; cases z
  · obtain rfl:=List.mem_singleton.mp hb
    exact ⟨f3,f1,f4,f5⟩
theorem noteFrame_comp {x : Value} {C : Addr} : noteFrame x (compEnvC scope cl C X.env) = noteFrame x X.env:=rfl
end
theorem pe_compX {X : Cx} {elt target iter : Expr} {ifs : List Expr} {scope : Scope} {pos : Pos} {N : List Str} {wi : TI} {g : TG} {tt : TT} {te : TE} {E : XK} (hst : X.stack = X.env :: X.outer) (hfrm : X.env.frame = some X.env.locals) (hT : Thr X E)
    (C : CompOk scope N) (hfr : ∀ y,(y,NameKind.free) ∈ scope.names→X.env.kindOf y = some .cell ∨ X.env.kindOf y = some .free) (hc : X.calm = true)
    (hi : PI X target iter wi)
    (hb : ∀ cl s H fp,PG (cxCX X N scope cl s H fp E) target g∧PIfs (cxCX X N scope cl s H fp E) ifs tt∧PE (cxCX X N scope cl s H fp E) elt te)
    (hs : ∀ x,foldedSetIterable iter X.env x = pure x:=by intro _; rfl) :
    PE X (.ListComp elt [⟨target,iter,ifs,0⟩] scope pos) (tComp X scope N wi g tt te):=by
  intro pins s σ H Q I hq
  obtain ⟨σ0,cap,hq⟩:=hq
  obtain ⟨cl,hcl,p1,p2⟩:=closure_of (scope:=scope) (env:=X.env) (fun y hy hk=>by
    obtain ⟨n,k⟩:=y
    cases hk
    exact I.ok.has n (hfr n hy))
  rw [eval_ListComp]
  refine wpAny_comprehension_free (use:=none) rfl hs hcl C.kind C.names (thn (hi pins s σ H _ I hq) fun xv s1 h1=>thn h1 fun itv s2 h2=>?_)
  obtain ⟨it,fp,tn,J,H2,rfl,I2,T,st2,f2,q2⟩:=h2
  refine wpAny_newObj_type (wpAny_newFunctionEnv C.cell (by intro y hy; simp at hy) (fun h₁ hns₁ hsb₁=>?_) C.kind)
  dsimp only at hns₁ hsb₁ ⊢
  have hD : H2 s2.heap.objs.size = none:=I2.hok.fresh (Nat.le_refl _)
  have I3 : Inv X pins σ (upd H2 s2.heap.objs.size (.lst [])) { s2 with heap:=s2.heap.push { cls:=.type "list",dict:=none,data:=.seq ([] : List Value).toArray } } :=
    I2.laid (t':=s2.toks) (fun b u e=>Heap.get?_push_of_some _ e) (Nat.le_refl _) ⟨Nat.zero_le _,[],0,.nil,Heap.get?_push_size _ rfl⟩
  generalize hs3 : ({ s2 with heap:=s2.heap.push { cls:=.type "list",dict:=none,data:=.seq ([] : List Value).toArray } } : Shared) = s3 at I3
  have hh3 : s2.heap.push { cls:=.type "list",dict:=none,data:=.seq ([] : List Value).toArray } = s3.heap:=by rw [← hs3]
  rw [hh3] at hns₁ hsb₁
  have fl2 : ∀ b ∈ fp,b < s2.heap.objs.size:=fun b hb=>by
    obtain ⟨o,e,_⟩:=T.obj _ _ st2 b hb
    exact Heap.lt_size e
  have fl3 : ∀ b ∈ fp,b < s3.heap.objs.size:=fun b hb=>by
    rw [← hh3,Heap.size_push]
    exact Nat.lt_succ_of_lt (fl2 b hb)
  have f3 : ∀ b ∈ fp,FpOk X pins (upd H2 s2.heap.objs.size (.lst [])) b:=fun b hb=>by
    obtain ⟨f0,fr⟩:=f2 b hb
    exact ⟨by rw [upd_ne (Nat.ne_of_lt (fl2 b hb))]; exact f0,fr⟩
  have keep3 : ∀ b o,s3.heap.get? b = some o→h₁.get? b = some o:=fun b o e=>hsb₁.extBut b o (Nat.ne_of_lt (Heap.lt_size e)) (Heap.get?_push_of_some _ e)
  have I4:=inv_comp (tk:=s3.toks) I3 C hfr p1 p2 cap f3 fl3 hns₁ keep3
  have st4 : tn 0 h₁:=T.keep _ _ _ st2 fun b hb o e=>keep3 b o (by rw [← hh3]; exact Heap.get?_push_of_some _ e)
  obtain ⟨W,⟨m0,w0⟩,turn⟩:=q2 s2.heap.objs.size hD
  have fpc : ∀ {H' : Hp},(∀ b ∈ fp,H' b = none)→∀ b ∈ fp,FpOk (cxCX X N scope cl s3 (upd H2 s2.heap.objs.size (.lst [])) fp E) [] H' b:=fun {H'} hn b hb=>by
    obtain ⟨e1,e2⟩:=I4.ok.exf b hb
    exact ⟨hn b hb,e1,I4.ok.exfs b hb,.inl hb,e2,fun p hp=>absurd (show p ∈ ([] : List (Addr × Obj)) from hp) (by simp)⟩
  have onE : ∀ v s',(cxCX X N scope cl s3 (upd H2 s2.heap.objs.size (.lst [])) fp E).xe v s'→notedBy (model X.prog X.w) X.A (compEnvC scope cl s3.heap.objs.size X.env)
      (fun e s''=>compPost (model X.prog X.w) X.A X.xe none (EP X pins σ Q) (.ref s2.heap.objs.size) s3.heap.objs.size (.error e) s'') v s':=by
    rintro v s' ⟨e,Tb,dx,Cx',H₁,σ',pins',rfl,I',n,nT,hTe,hd,q⟩
    have fC : FpOk X pins (up2 H₁ e Tb Cx' dx) s3.heap.objs.size:=I3.fpOk (Nat.le_refl _) I'.free
    obtain ⟨m6,⟨oL,es,ep,hoL,rL⟩,_⟩:=I'.loc
    have IX:=(I3.outCX f3 I').pinned (fp:=[s3.heap.objs.size]) (fun b hb=>by obtain rfl:=List.mem_singleton.mp hb; exact fC) (fun b hb=>by
      obtain rfl:=List.mem_singleton.mp hb
      exact ⟨oL,hoL,fun v z=>by rw [rL.1] at z; cases z⟩)
    show wpAny _ _ (noteFrame (.ref e) (compEnvC scope cl s3.heap.objs.size X.env)) _ _ s'
    rw [noteFrame_comp]
    refine inv_note2 IX hst hfrm n nT hTe fun T' s'' I'' nT' hTe'=>?_
    have pC:=(I''.pin (s3.heap.objs.size,oL) (List.mem_append_right _ (List.mem_append_right _ (mem_pinsAt (List.mem_singleton.mpr rfl) hoL))))
    refine ⟨m6,⟨oL,es,ep,pC.1,rL⟩,fun h' sb cenv _=>?_⟩
    have I7 : Inv X pins σ (up2 H₁ e T' Cx' dx) { s'' with heap:=h' }:=I''.unpinned.sameBut ⟨pC.2.1,fC.2⟩ sb
    have e1 : up2 H₁ e T' Cx' dx e = some (FlyO e T' Cx' dx):=upd_same
    obtain ⟨vs,hge,hz,hv1⟩:=(I7.hok e _ e1).1
    unfold PySem.passOn
    refine wpAny_bind (wpAny_field hge rfl hv1 ?_)
    rw [if_neg (show ¬ (Value.ref T' == Value.none) = true from by simp)]
    refine wpAny_bind (inv_flight I7 hTe' fun s8 I8=>?_)
    exact wpAny_throw (hT pins σ H₁ s8 e T' Cx' dx I8 n nT' hTe' hd q)
  have loop : ∀ s4 : Shared,s4 = { s3 with heap:=h₁,toks:=s3.toks } →
      codeAny (model X.prog X.w) X.A (.compLoop (.ListComp elt [⟨target,iter,ifs,0⟩] scope pos) 0 (.ref it) (.ref s2.heap.objs.size) (compEnvC scope cl s3.heap.objs.size X.env))
        (compPost (model X.prog X.w) X.A X.xe none (EP X pins σ Q) (.ref s2.heap.objs.size) s3.heap.objs.size) s4:=by
    rintro s4 rfl
    refine comp_loop (fun n s'=>∃ i σ' H' ys,Inv (cxCX X N scope cl s3 (upd H2 s2.heap.objs.size (.lst [])) fp E) [] σ' H' s'∧tn i s'.heap∧(∀ b ∈ fp,H' b = none)∧W i n σ' H' ys) ?_ m0 ⟨0,σ0,_,[],I4.toCX,st4,fun b hb=>(f3 b hb).1,w0⟩
    rintro n s5 ⟨i,σ5,H5,ys,I5,st5,fr5,w5⟩
    obtain ⟨hacc,w5⟩:=turn i n σ5 H5 ys w5
    have noE : ∀ {α : Type} {t : Sem α} {Q' : α→Shared→Prop} {E' : Value→Shared→Prop} {s' : Shared},wpAny (model X.prog X.w) X.A t Q' (fun _ _=>False) s'→wpAny (model X.prog X.w) X.A t Q' E' s':=fun h=>wpAny_mono h (fun _ _ q=>q) fun _ _ z=>z.elim
    have toE : ∀ {α : Type} {t : Sem α} {Q' : α→Shared→Prop} {s' : Shared},wpAny (model X.prog X.w) X.A t Q' (cxCX X N scope cl s3 (upd H2 s2.heap.objs.size (.lst [])) fp E).xe s'→wpAny (model X.prog X.w) X.A t Q' (notedBy (model X.prog X.w) X.A (compEnvC scope cl s3.heap.objs.size X.env) (fun e s''=>compPost (model X.prog X.w) X.A X.xe none (EP X pins σ Q) (.ref s2.heap.objs.size) s3.heap.objs.size (.error e) s'')) s':=fun h=>wpAny_mono h (fun _ _ q=>q) onE
    rcases w5 with ⟨stop,qn⟩ | ⟨go,step⟩
    · refine noE (thn (T.done (cxCX X N scope cl s3 (upd H2 s2.heap.objs.size (.lst [])) fp E) rfl rfl rfl hc i [] s5 σ5 H5 _ I5 (fpc fr5) st5 stop) fun r s6 ⟨hr,I6⟩=>?_)
      subst hr
      obtain ⟨m6,hn6,_⟩:=I6.loc
      refine ⟨m6,hn6,fun h' sb=>?_⟩
      have I7 : Inv X pins σ H5 { s6 with heap:=h' }:=(I3.outCX f3 I6.ofCX).sameBut (I3.fpOk (Nat.le_refl _) I6.free) sb
      exact ⟨.ref s2.heap.objs.size,H5,I7,rfl,qn⟩
    · refine noE (thn (T.item (cxCX X N scope cl s3 (upd H2 s2.heap.objs.size (.lst [])) fp E) rfl rfl rfl hc i [] s5 σ5 H5 (fun _ _=>False) I5 (fpc fr5) st5 go) fun r s6 ⟨u,hr,h6⟩=>?_)
      subst hr
      refine noE (thn h6 fun _ s7 ⟨x,H7,I7,r7,y7,st7,fr7⟩=>?_)
      obtain ⟨hg,ht,he⟩:=hb cl s3 (upd H2 s2.heap.objs.size (.lst [])) fp
      have I7':=I7.pinned (fpc fr7) (T.obj _ _ st7)
      have back : ∀ {σ8 : St} {H8 : Hp} {s8 : Shared},Inv (cxCX X N scope cl s3 (upd H2 s2.heap.objs.size (.lst [])) fp E) ([] ++ pinsAt fp s7.heap) σ8 H8 s8→tn (i + 1) s8.heap∧∀ b ∈ fp,H8 b = none:=fun {σ8 H8 s8} I8 =>
        ⟨T.keep _ _ _ st7 fun b hb o e=>(I8.pin (b,o) (List.mem_append_right _ (List.mem_append_right _ (mem_pinsAt hb e)))).1,fun b hb=>by
          obtain ⟨o,e,d⟩:=T.obj _ _ st7 b hb
          exact (I8.pin (b,o) (List.mem_append_right _ (List.mem_append_right _ (mem_pinsAt hb e)))).2.1⟩
      refine toE (thn (hg _ s7 σ5 H7 x u _ I7' r7 (step x H7 y7)) fun _ s8 ⟨σ8,H8,I8,q8⟩=>?_)
      refine toE (thn (ht _ s8 σ8 H8 _ I8 q8) fun b s9 ⟨H9,I9,q9⟩=>?_)
      cases b with
      | false =>
        rw [if_neg Bool.false_ne_true] at q9 ⊢
        obtain ⟨_,m',hm,w9⟩:=q9
        exact ⟨m',hm,i + 1,σ8,H9,ys,I9.unpinned,(back I9).1,(back I9).2,w9⟩
      | true =>
        rw [if_pos rfl] at q9 ⊢
        refine toE (thn (he _ s9 σ8 H9 _ I9 q9) fun yv s10 ⟨y,H10,I10,r10,hacc10,hlen,m',hm,w10⟩=>?_)
        refine toE (thn (mt_append _ s10 σ8 H10 (.ref s2.heap.objs.size) [y] (.ref s2.heap.objs.size) [yv] (fun _ H11=>H11 = upd H10 s2.heap.objs.size (.lst (ys ++ [y]))) I10 rfl (.cons r10 .nil) ⟨_,_,_,rfl,rfl,hacc10,hlen,rfl⟩) fun _ s11 ⟨z,H11,I11,_,e11⟩=>?_)
        subst e11
        exact ⟨m',hm,i + 1,σ8,_,ys ++ [y],I11.unpinned,(back I11).1,(back I11).2,w10⟩
  have fin:=codeAny_compStart_list (loop { s3 with heap:=h₁,toks:=s3.toks } rfl) (T.self _ _ _ _ _ st4 (loop { s3 with heap:=h₁,toks:=s3.toks } rfl))
  subst hs3
  exact fin
section
variable {X : Cx} {k : Nat} {x : Str} {ps : List Str} {sp : Sp} {E : XK} {p pos : Pos} {e : Expr} {es : List Expr} {t : TA} {te : TE}
theorem ve_compX {elt target iter : Expr} {ifs : List Expr} {scope : Scope} {N : List Str} {wi : TI} {g : TG} {tt : TT} (hst : X.stack = X.env :: X.outer) (hfrm : X.env.frame = some X.env.locals) (hT : Thr X E)
    (C : CompOk scope N) (hfr : ∀ y,(y,NameKind.free) ∈ scope.names→X.env.kindOf y = some .cell ∨ X.env.kindOf y = some .free) (hc : X.calm = true)
    (hi : VI X target iter wi)
    (hb : ∀ cl s H fp,VG (cxCX X N scope cl s H fp E) target g∧VF (cxCX X N scope cl s H fp E) ifs tt∧VE (cxCX X N scope cl s H fp E) elt te)
    (hs : ∀ x,foldedSetIterable iter X.env x = pure x:=by intro _; rfl) :
    VE X (.ListComp elt [⟨target,iter,ifs,0⟩] scope pos) (tComp X scope N wi g tt te) :=
  ⟨pe_compX hst hfrm hT C hfr hc hi.1 (fun cl s H fp=>⟨(hb cl s H fp).1.1,(hb cl s H fp).2.1.1,(hb cl s H fp).2.2.1⟩) hs⟩
theorem ve_callX (G : OkX X.prog X.w X.K X.mg X.base k x ps sp) (hr : Room k X.A) (hT : Thr X E) (hg : Gl X x)
    (ha : VA X (e :: es) t) (hdb : (x == ("__debug__" : Str)) = false:=by decide) (hp : plainE e = true:=by rfl) (hpl : (backTo pos (starEach es X.env)).any (·.1) = false:=by rfl) :
    VE X (.Call (.Name x p) (e :: es) [] pos) (tCall sp [] E t):=by
  obtain ⟨f,fd,h1,h2,h3,h4⟩:=G
  exact ⟨pe_call h4 hr hg h1 h2 h3 .nil hT.passes ha.1 hdb (starEach_plain hp) hpl⟩
end
end L2
set_option Elab.async false
set_option linter.all false
set_option maxRecDepth 100000
namespace L2
open PySem PySem.Spec PyProof.Rows
section
variable {X : Cx}
def rSlX : V→Option Int→Option Int→Hp→VK→Prop:=fun x lo hi H Q=>∃ z,x = .str z∧z.length ≤ sizeLine∧Q (.str (Txt.slice z lo hi)) H
theorem sl_strX : SlR X rSlX:=by
  intro pins s σ H x v vl vu lo hi sl Q I rx hs pl pu h
  obtain ⟨z,rfl,hz,q⟩:=h
  obtain ⟨t,rfl⟩:=rx
  have fin : ∀ l u : Option (Int × Tok),l.map (·.1) = lo→u.map (·.1) = hi→s.heap.IsSlice sl l u none→wpAny (model X.prog X.w) X.A (getItem (.str z t) (.ref sl)) (EP X pins σ Q) X.xe s:=fun l u e1 e2 hsl=>by
    subst e1 e2
    refine wpAny_getItem_str_slice (st:=none) hsl rfl ?_
    unfold sliceMade
    have hle:=Txt.slice_le z (l.map (·.1)) (u.map (·.1))
    exact post_val_or_str ⟨Nat.le_trans hle hz,fun t' k=>⟨.str (Txt.slice z (l.map (·.1)) (u.map (·.1))),H,I.tok _,⟨_,rfl⟩,q⟩⟩
  refine ⟨"str",_,F.slot_str_getitem.lookup,typeIs_str _ _ _,?_⟩
  obtain ⟨o,ho,hc,hd⟩:=hs
  cases pl with
  | none =>
    cases pu with
    | none=>exact fin none none rfl rfl ⟨o,ho,hc,hd⟩
    | int j u=>exact fin none (some (j,u)) rfl rfl ⟨o,ho,hc,hd⟩
  | int i t =>
    cases pu with
    | none=>exact fin (some (i,t)) none rfl rfl ⟨o,ho,hc,hd⟩
    | int j u=>exact fin (some (i,t)) (some (j,u)) rfl rfl ⟨o,ho,hc,hd⟩
end
end L2
set_option Elab.async false
set_option linter.all false
set_option maxRecDepth 100000
namespace PySem
abbrev titO (t : Addr) (i : Nat) : Obj:={ cls:=.type "tuple_iterator",data:=.fields #[.ref t,.int (i : Int) 0] }
abbrev zipO (f0 : Value) (TI TO : Addr) : Obj:={ cls:=.type "zip",dict:=none,data:=.fields #[f0,.bool false,.bool false,.ref TI,.ref TO],slots:=#[] }
abbrev duoO (a b : Value) : Obj:={ cls:=.type "tuple",data:=.seq #[a,b] }
section
variable {prog : Program} {w : World} {A : Around} {E : Value→Shared→Prop} {s : Shared}
theorem nextOf_tup {it t : Addr} {i : Nat} {its : Array Value} {x : Value} {Q : Value→Shared→Prop} (ho : s.heap.get? it = some (titO t i)) (ht : s.heap.IsTuple t its) (hx : its[i]? = some x)
    (q : ∀ h',h'.get? it = some (titO t (i + 1))→Heap.SameBut it s.heap h'→Q x { s with heap:=h' }) : wpAny (model prog w) A (Builtin.SmallTypes.nextOf (.ref it)) Q E s:=by
  have hT : s.TypeIs (.ref it) "tuple_iterator":=⟨_,ho,rfl⟩
  obtain ⟨ol,hol,_,nl,hdl⟩:=ht
  unfold Builtin.SmallTypes.nextOf
  refine wpAny_bind (wpAny_callSpecial?_slot (name:=Str.ofString "__next__") hT F.slot_tuple_iterator_next (wpAny_call_entry F.slot_tuple_iterator_next hT F.entry_tuple_iterator_next ?_ (F.args_tuple_iterator_next_1 _)))
  refine wpAny_bind (m:=field (.ref it) 0) (wpAny_field ho rfl (x:=.ref t) rfl ?_)
  refine (if_neg (show ¬ ((Value.ref t == Value.none) = true) from Bool.false_ne_true)).symm ▸ ?_
  refine wpAny_bind (m:=field (.ref it) 1) (wpAny_field ho rfl (x:=.int i 0) rfl ?_)
  refine wpAny_bind (m:=seqItems? (.ref t)) (wpAny_seqItems hol hdl ?_)
  simp only [Int.toNat_natCast,hx]
  refine wpAny_bind (wpAny_setField ho rfl (by simp) (wpAny_pure ⟨x,rfl,wpAny_pure (q _ ?_ (Heap.SameBut.update ..))⟩))
  exact Heap.get?_update_self _ ho rfl
theorem nextOf_tup_end {it t : Addr} {i : Nat} {its : Array Value} {Q : Value→Shared→Prop} (hh : A.handled = none) (ho : s.heap.get? it = some (titO t i)) (ht : s.heap.IsTuple t its) (hx : its[i]? = none)
    (q : ∀ h' e,Heap.ExtBut it s.heap h'→(∃ o,h'.get? e = some o∧o.cls = .type "StopIteration")→E (.ref e) { s with heap:=h' }) : wpAny (model prog w) A (Builtin.SmallTypes.nextOf (.ref it)) Q E s:=by
  have hT : s.TypeIs (.ref it) "tuple_iterator":=⟨_,ho,rfl⟩
  obtain ⟨ol,hol,_,nl,hdl⟩:=ht
  unfold Builtin.SmallTypes.nextOf
  refine wpAny_bind (wpAny_callSpecial?_slot (name:=Str.ofString "__next__") hT F.slot_tuple_iterator_next (wpAny_call_entry F.slot_tuple_iterator_next hT F.entry_tuple_iterator_next ?_ (F.args_tuple_iterator_next_1 _)))
  refine wpAny_bind (m:=field (.ref it) 0) (wpAny_field ho rfl (x:=.ref t) rfl ?_)
  refine (if_neg (show ¬ ((Value.ref t == Value.none) = true) from Bool.false_ne_true)).symm ▸ ?_
  refine wpAny_bind (m:=field (.ref it) 1) (wpAny_field ho rfl (x:=.int i 0) rfl ?_)
  refine wpAny_bind (m:=seqItems? (.ref t)) (wpAny_seqItems hol hdl ?_)
  simp only [Int.toNat_natCast,hx]
  refine wpAny_bind (wpAny_rule (wpAny_bind (wpAny_setField ho rfl (by simp) ?_)))
  unfold Builtin.SmallTypes.stopIteration
  refine wpAny_bind ?_
  simp only [newExc,newTuple]
  refine wpAny_bind (wpAny_newObj_type ?_ (by size_fits))
  refine wpAny_bind (m:=firstArgMember _ _) (wpAny_of_eq (a:=Value.none) (by first | rfl | (simp only [firstArgMember]; rfl)) ?_)
  refine wpAny_newObj_type ?_ (by size_fits)
  simp only [raiseNew]
  refine wpAny_bind (wpAny_handled ?_)
  first | rw [show A.in1.handled = none from hh] | rw [hh]
  refine wpAny_bind (wpAny_pure (wpAny_throw ?_))
  exact q _ _ (((Heap.SameBut.update ..).extBut.push _).push _) ⟨_,Heap.get?_push_size _ rfl,rfl⟩
structure ZApart (z TI TO a b : Addr) : Prop where
  h1 : TI ≠ z
  h2 : TO ≠ z
  h3 : a ≠ z
  h4 : b ≠ z
  h5 : TI ≠ TO
  h6 : TI ≠ a
  h7 : TI ≠ b
  h8 : TO ≠ a
  h9 : TO ≠ b
  h10 : a ≠ b
theorem seq_put {T : Addr} {a b x : Value} {k : Nat} {Q : Unit→Shared→Prop} (hT : s.heap.get? T = some (duoO a b))
    (q : ∀ h',h'.get? T = some { cls:=.type "tuple",data:=.seq ((#[a,b] : Array Value).setIfInBounds k x) }→Heap.SameBut T s.heap h'→Q () { s with heap:=h' }) :
    wpAny (model prog w) A (updateSeq T (·.setIfInBounds k x)) Q E s:=by
  refine wpAny_updateSeq hT rfl (q _ ?_ (Heap.SameBut.update ..))
  rw [Heap.get?_update_self _ hT rfl]
  simp [Obj.mapSeq]
theorem zipT_item {z TI TO i1 i2 t u : Addr} {k : Nat} {xs ys : Array Value} {x y a b : Value} {Q : Option Value→Shared→Prop} (D : ZApart z TI TO i1 i2)
    (hz : s.heap.get? z = some (zipO .none TI TO)) (hTI : s.heap.get? TI = some (duoO (.ref i1) (.ref i2))) (hTO : s.heap.get? TO = some (duoO a b))
    (g1 : s.heap.get? i1 = some (titO t k)) (g2 : s.heap.get? i2 = some (titO u k)) (ht : s.heap.IsTuple t xs) (hu : s.heap.IsTuple u ys) (hx : xs[k]? = some x) (hy : ys[k]? = some y)
    (t1 : t ≠ z) (t2 : t ≠ TO) (t3 : t ≠ i1) (t4 : t ≠ i2) (u1 : u ≠ z) (u2 : u ≠ TO) (u3 : u ≠ i1) (u4 : u ≠ i2)
    (q : ∀ h',h'.get? z = some (zipO (rawInt s.heap.objs.size) TI TO)→h'.get? TO = some (duoO x y)→h'.get? i1 = some (titO t (k + 1))→h'.get? i2 = some (titO u (k + 1))→h'.get? s.heap.objs.size = some (duoO x y) →
      (∀ c o,c ≠ z→c ≠ TO→c ≠ i1→c ≠ i2→s.heap.get? c = some o→h'.get? c = some o)→Q (some (.ref s.heap.objs.size)) { s with heap:=h' }) :
    wpAny (model prog w) A (pyNext (.ref z)) Q E s:=by
  have hT : s.TypeIs (.ref z) "zip":=⟨_,hz,rfl⟩
  unfold pyNext
  refine wpAny_bind (wpAny_attempt (wpAny_callSpecial?_slot (name:=Str.ofString "__next__") hT F.slot_zip_next (wpAny_call_entry F.slot_zip_next hT F.entry_zip_next ?_ (F.args_zip_next_1 _))))
  refine wpAny_bind (m:=field (.ref z) 2) (wpAny_field hz rfl (x:=.bool false) rfl ?_)
  refine wpAny_bind (m:=field (.ref z) 3) (wpAny_field hz rfl (x:=.ref TI) rfl (wpAny_bind (wpAny_seqItems hTI rfl ?_)))
  refine wpAny_bind (m:=Builtin.SmallTypes.ownedTupleIsFree (.ref z)) ?_
  unfold Builtin.SmallTypes.ownedTupleIsFree
  refine wpAny_bind (wpAny_field hz rfl (x:=.none) rfl (wpAny_pure ?_))
  simp only [if_true]
  refine wpAny_bind (wpAny_rule (wpAny_bind (wpAny_field hz rfl (x:=.ref TO) rfl (wpAny_bind (wpAny_setField_rec hz (by simp) fun h1 z1 s1=>?_)))))
  replace z1 : h1.get? z = some (zipO .ellipsis TI TO):=z1
  refine wpAny_bind ?_
  simp only [List.zipIdx_cons,List.zipIdx_nil,List.forIn_cons,List.forIn_nil]
  refine wpAny_bind (wpAny_bind (wpAny_onRaise ?_))
  refine wpAny_bind (m:=Builtin.SmallTypes.nextOf (.ref i1)) (nextOf_tup (s:={ s with heap:=h1 }) (s1.extBut _ _ D.h3 g1) (ht.extBut s1.extBut t1) hx fun h2 g12 s2=>wpAny_pure ?_)
  have TO2 : h2.get? TO = some (duoO a b):=s2.extBut _ _ D.h8 (s1.extBut _ _ D.h2 hTO)
  refine wpAny_bind (wpAny_seqItems TO2 rfl (wpAny_bind (seq_put (s:={ s with heap:=h2 }) TO2 fun h3 TO3 s3=>wpAny_bind (wpAny_letGo (wpAny_pure ?_)))))
  replace TO3 : h3.get? TO = some (duoO x b):=TO3
  refine wpAny_bind (wpAny_bind (wpAny_onRaise ?_))
  refine wpAny_bind (m:=Builtin.SmallTypes.nextOf (.ref i2)) (nextOf_tup (s:={ s with heap:=h3 }) (s3.extBut _ _ D.h9.symm (s2.extBut _ _ D.h10.symm (s1.extBut _ _ D.h4 g2))) (((hu.extBut s1.extBut u1).extBut s2.extBut u3).extBut s3.extBut u2) hy fun h4 g24 s4=>wpAny_pure ?_)
  have TO4 : h4.get? TO = some (duoO x b):=s4.extBut _ _ D.h9 TO3
  refine wpAny_bind (wpAny_seqItems TO4 rfl (wpAny_bind (seq_put (s:={ s with heap:=h4 }) TO4 fun h5 TO5 s5=>wpAny_bind (wpAny_letGo (wpAny_pure (wpAny_pure ?_))))))
  replace TO5 : h5.get? TO = some (duoO x y):=TO5
  refine wpAny_bind (wpAny_seqItems TO5 rfl (wpAny_bind (wpAny_newTuple ?_)))
  have hsz : h5.objs.size = s.heap.objs.size:=by rw [s5.1,s4.1,s3.1,s2.1,s1.1]
  have z5 : h5.get? z = some (zipO .ellipsis TI TO):=s5.extBut _ _ D.h2.symm (s4.extBut _ _ D.h4.symm (s3.extBut _ _ D.h2.symm (s2.extBut _ _ D.h3.symm z1)))
  have kp : ∀ c o,c ≠ z→c ≠ TO→c ≠ i1→c ≠ i2→s.heap.get? c = some o→h5.get? c = some o:=fun c o c1 c2 c3 c4 e=>s5.extBut _ _ c2 (s4.extBut _ _ c4 (s3.extBut _ _ c2 (s2.extBut _ _ c3 (s1.extBut _ _ c1 e))))
  have g15 : h5.get? i1 = some (titO t (k + 1)):=s5.extBut _ _ D.h8.symm (s4.extBut _ _ D.h10 (s3.extBut _ _ D.h8.symm g12))
  have g25 : h5.get? i2 = some (titO u (k + 1)):=s5.extBut _ _ D.h9.symm g24
  refine wpAny_bind (m:=Builtin.SmallTypes.ownedTupleHandOut (.ref z) (.ref h5.objs.size)) ?_
  unfold Builtin.SmallTypes.ownedTupleHandOut
  have z6 : (h5.push (duoO x y)).get? z = some (zipO .ellipsis TI TO):=Heap.get?_push_of_some _ z5
  refine wpAny_bind (wpAny_setField_rec z6 (by simp) fun h7 z7 s7=>?_)
  replace z7 : h7.get? z = some (zipO (rawInt h5.objs.size) TI TO):=z7
  refine wpAny_setField_rec z7 (by simp) fun h8 z8 s8=>?_
  replace z8 : h8.get? z = some (zipO (rawInt h5.objs.size) TI TO):=z8
  have up : ∀ c o,c ≠ z→h5.get? c = some o→h8.get? c = some o:=fun c o c1 e=>s8.extBut _ _ c1 (s7.extBut _ _ c1 (Heap.get?_push_of_some _ e))
  have nz : h5.objs.size ≠ z:=Nat.ne_of_gt (Heap.lt_size z5)
  have T8 : h8.get? h5.objs.size = some (duoO x y):=s8.extBut _ _ nz (s7.extBut _ _ nz (Heap.get?_push_size _ rfl))
  rw [hsz] at z8 T8
  refine wpAny_pure ⟨_,rfl,wpAny_pure ?_⟩
  show Q (some (.ref h5.objs.size)) _
  rw [hsz]
  exact q h8 z8 (up _ _ D.h2 TO5) (up _ _ D.h3 g15) (up _ _ D.h4 g25) T8 fun c o c1 c2 c3 c4 e=>up c o c1 (kp c o c1 c2 c3 c4 e)
theorem zipT_end {z TI TO i1 i2 t : Addr} {k : Nat} {xs : Array Value} {a b : Value} {Q : Option Value→Shared→Prop} (hh : A.handled = none) (D : ZApart z TI TO i1 i2)
    (hz : s.heap.get? z = some (zipO .none TI TO)) (hTI : s.heap.get? TI = some (duoO (.ref i1) (.ref i2))) (hTO : s.heap.get? TO = some (duoO a b))
    (g1 : s.heap.get? i1 = some (titO t k)) (ht : s.heap.IsTuple t xs) (hx : xs[k]? = none) (t1 : t ≠ z)
    (q : ∀ h',(∀ c o,c ≠ z→c ≠ TO→c ≠ i1→c ≠ i2→s.heap.get? c = some o→h'.get? c = some o)→Q none { s with heap:=h' }) :
    wpAny (model prog w) A (pyNext (.ref z)) Q E s:=by
  have hT : s.TypeIs (.ref z) "zip":=⟨_,hz,rfl⟩
  unfold pyNext
  refine wpAny_bind (wpAny_attempt (wpAny_callSpecial?_slot (name:=Str.ofString "__next__") hT F.slot_zip_next (wpAny_call_entry F.slot_zip_next hT F.entry_zip_next ?_ (F.args_zip_next_1 _))))
  refine wpAny_bind (m:=field (.ref z) 2) (wpAny_field hz rfl (x:=.bool false) rfl ?_)
  refine wpAny_bind (m:=field (.ref z) 3) (wpAny_field hz rfl (x:=.ref TI) rfl (wpAny_bind (wpAny_seqItems hTI rfl ?_)))
  refine wpAny_bind (m:=Builtin.SmallTypes.ownedTupleIsFree (.ref z)) ?_
  unfold Builtin.SmallTypes.ownedTupleIsFree
  refine wpAny_bind (wpAny_field hz rfl (x:=.none) rfl (wpAny_pure ?_))
  simp only [if_true]
  refine wpAny_bind (wpAny_rule (wpAny_bind (wpAny_field hz rfl (x:=.ref TO) rfl (wpAny_bind (wpAny_setField_rec hz (by simp) fun h1 z1 s1=>?_)))))
  replace z1 : h1.get? z = some (zipO .ellipsis TI TO):=z1
  refine wpAny_bind ?_
  simp only [List.zipIdx_cons,List.zipIdx_nil,List.forIn_cons,List.forIn_nil]
  refine wpAny_bind (wpAny_bind (wpAny_onRaise ?_))
  refine wpAny_bind (m:=Builtin.SmallTypes.nextOf (.ref i1)) (nextOf_tup_end (s:={ s with heap:=h1 }) hh (s1.extBut _ _ D.h3 g1) (ht.extBut s1.extBut t1) hx fun h2 e s2 he=>?_)
  obtain ⟨oe,hoe,hce⟩:=he
  have z2 : h2.get? z = some (zipO .ellipsis TI TO):=s2 _ _ D.h3.symm z1
  have hez : e ≠ z:=fun x=>by subst x; rw [z2] at hoe; cases hoe; simp at hce
  refine wpAny_setField_rec z2 (by simp) fun h3 _ s3=>?_
  refine wpAny_bind (wpAny_isInstance (T:="StopIteration") (b:=true) ⟨oe,s3.extBut _ _ hez hoe,hce⟩ isSubtype_stop ?_)
  exact wpAny_pure (q _ fun c o c1 _ c3 _ x=>s3.extBut _ _ c1 (s2 _ _ c3 (s1.extBut _ _ c1 x)))
end
end PySem
set_option Elab.async false
set_option linter.all false
set_option maxRecDepth 100000
namespace PySem
section
variable {prog : Program} {w : World} {A : Around} {E : Value→Shared→Prop} {s : Shared}
abbrev zT1 (h : Heap) (t : Addr) : Heap:=h.push (titO t 0)
abbrev zT2 (h : Heap) (t u : Addr) : Heap:=(zT1 h t).push (titO u 0)
abbrev zT3 (h : Heap) (t u : Addr) : Heap:=(zT2 h t u).push (duoO (.ref h.objs.size) (.ref (zT1 h t).objs.size))
abbrev zT4 (h : Heap) (t u : Addr) : Heap:=(zT3 h t u).push (duoO .none .none)
abbrev zT5 (h : Heap) (t u : Addr) : Heap:=(zT4 h t u).push (zipO .none (zT2 h t u).objs.size (zT3 h t u).objs.size)
theorem meets_zipT (t u : Addr) (xs ys : Array Value) : Meets (Builtin.«zip.__new__» ⟨[.type "zip",.ref t,.ref u],[]⟩)
    (fun _ R s=>s.heap.IsTuple t xs∧s.heap.IsTuple u ys∧R (.ok (.ret (.ref (zT4 s.heap t u).objs.size))) { s with heap:=zT5 s.heap t u }) :=
  .of_wp fun prog w A R s h=>by
    obtain ⟨hp,g,d,tk,os⟩:=s
    obtain ⟨a1,a2,h⟩:=h
    have hsub:=sub_zip
    have b1 : Heap.IsTuple (Shared.heap ⟨hp,g,d,tk,os⟩) t xs:=a1
    have b2 : Heap.IsTuple (Shared.heap ⟨hp.push { cls:=.type "tuple_iterator",data:=.fields #[.ref t,.int 0 0] },g,d,tk,os⟩) u ys:=by
      obtain ⟨o,ho,r⟩:=a2
      exact ⟨o,Heap.get?_push_of_some _ ho,r⟩
    wp_walk using wpAny_pyIter_tuple b1,wpAny_pyIter_tuple b2
    exact ⟨_,rfl,h⟩
theorem call_zipT {t u : Addr} {xs ys : Array Value} {Q : Value→Shared→Prop} (ht : s.heap.IsTuple t xs) (hu : s.heap.IsTuple u ys) (q : Q (.ref (zT4 s.heap t u).objs.size) { s with heap:=zT5 s.heap t u }) :
    wpAny (model prog w) A (call (.type "zip") [.ref t,.ref u]) Q E s:=by
  refine callType_new F.called_zip (by decide) (F.typeCall_zip_2 _ _) (F.newCall_zip_2 _ _) (fun obj=>F.args_object_init_3 obj _ _) F.entry_zip_new (meets_zipT t u xs ys) ⟨ht,hu,?_⟩
  exact ⟨⟨_,Heap.get?_push_size _ rfl,rfl⟩,q⟩
end
end PySem
namespace L2
open PySem PySem.Spec PyProof.Rows
section
variable {X : Cx} {pins : List (Addr × Obj)} {σ : St} {H : Hp} {s : Shared}
theorem Inv.tup_ne {t b : Addr} {xs : List V} (I : Inv X pins σ H s) (h : SqT X.K H t xs) (f : FpOk X pins H b) : t ≠ b:=by
  rintro rfl
  obtain ⟨f0,f1,f2,f3,_⟩:=f
  rcases h with (h | ⟨o,h⟩) | ⟨o,its,n,hk,_⟩
  · rw [f0] at h; cases h
  · rw [f0] at h; cases h
  · have e:=I.ok.mod.kin t o hk
    rcases f3 with z | z
    · exact I.ok.noex t o e z
    · exact absurd (Nat.lt_of_lt_of_le (Heap.lt_size e) (Nat.le_trans I.ok.bsz z)) (Nat.lt_irrefl _)
theorem Inv.drawn {ch : List Addr} {h' : Heap} {vs : List V} {its : List Value} {T : Addr} (I : Inv X pins σ H s) (hch : ∀ b ∈ ch,FpOk X pins H b) (kp : ∀ b o,b ∉ ch→s.heap.get? b = some o→h'.get? b = some o)
    (hT : s.heap.objs.size ≤ T) (hv : Vals vs its) (hz : vs.length ≤ sizeLine) (ho : IsTN h' T its.toArray) (hth : ∀ b ∈ ch,∃ o,h'.get? b = some o) : Inv X pins σ (upd H T (.tup vs)) { s with heap:=h' }:=by
  have fT : H T = none:=I.hok.fresh hT
  have nT : ∀ b o,s.heap.get? b = some o→b ≠ T:=fun b o e=>Nat.ne_of_lt (Nat.lt_of_lt_of_le (Heap.lt_size e) hT)
  have nch : ∀ b u,H b = some u→b ∉ ch:=fun b u e z=>by rw [(hch b z).1] at e; cases e
  refine I.step (g':=s.gens) (d':=s.drawn) (t':=s.toks) (ch:=ch) (fun b hb=>?_) (fun b o _ _ hc e _=>kp b o hc e) (fun b o _ _ hc e _=>⟨o.slots,kp b o hc e⟩) (fun b o hc e n=>by rw [upd_ne (nT b o e)]; exact n)
    (fun b o hc e=>⟨o,kp b o hc e⟩) (fun b xs e=>by rw [upd_ne (ne_of_none e fT)]; exact e) (fun b o u e=>by rw [upd_ne (ne_of_none e fT)]; exact e) (fun b ps e=>⟨#[],by rw [upd_ne (ne_of_none e fT),e]; simp⟩) (fun m hm=>?_) (fun b u e=>?_) I.bare
  · obtain ⟨_,f1,_,f3,f4,f5⟩:=hch b hb
    exact ⟨f3,f1,f4,f5⟩
  · obtain ⟨o,es,ep,ho',r⟩:=hm
    exact ⟨o,es,ep,kp _ o (fun z=>(hch _ z).2.1 rfl) ho',r⟩
  · by_cases hb : b = T
    · subst hb
      rw [upd_same] at e
      cases e
      exact ⟨hz,its,hv,ho⟩
    · rw [upd_ne hb] at e
      refine (I.hok b u e).stay (fun c v hc' q=>kp c v ?_ q) (fun c q=>by rw [upd_ne (ne_of_none q fT)]; exact q) fun c xs q=>by rw [upd_ne (ne_of_none q fT)]; exact q
      rcases hc' with z | z
      · rw [z]; exact nch b u e
      · exact nch c _ z
theorem Inv.turnedL {ch : List Addr} {h' : Heap} (I : Inv X pins σ H s) (hch : ∀ b ∈ ch,FpOk X pins H b) (kp : ∀ b o,b ∉ ch→s.heap.get? b = some o→h'.get? b = some o) : Inv X pins σ H { s with heap:=h' }:=by
  have nch : ∀ b u,H b = some u→b ∉ ch:=fun b u e z=>by rw [(hch b z).1] at e; cases e
  refine I.step (g':=s.gens) (d':=s.drawn) (t':=s.toks) (ch:=ch) (fun b hb=>?_) (fun b o _ _ hc e _=>kp b o hc e) (fun b o _ _ hc e _=>⟨o.slots,kp b o hc e⟩) (fun _ _ _ _ n=>n)
    (fun b o hc e=>⟨o,kp b o hc e⟩) (fun _ _ e=>e) (fun _ _ _ e=>e) (fun b ps e=>⟨#[],by rw [e]; simp⟩) (fun m hm=>?_) (fun b u e=>?_) I.bare
  · obtain ⟨_,f1,_,f3,f4,f5⟩:=hch b hb
    exact ⟨f3,f1,f4,f5⟩
  · obtain ⟨o,es,ep,ho',r⟩:=hm
    exact ⟨o,es,ep,kp _ o (fun z=>(hch _ z).2.1 rfl) ho',r⟩
  · refine (I.hok b u e).stay (fun c v hc' q=>kp c v ?_ q) (fun _ q=>q) fun _ _ q=>q
    rcases hc' with z | z
    · rw [z]; exact nch b u e
    · exact nch c _ z
end
def Itz (K : PySem.W.Frag) (t u : Addr) (xs ys : List V) : It :=
  ⟨fun i H=>SqT K H t xs∧SqT K H u ys∧i < xs.length∧i < ys.length,fun i H v H'=>∃ T a b,H T = none∧v = .ref T∧H' = upd H T (.tup [a,b])∧xs[i]? = some a∧ys[i]? = some b,fun i H=>SqT K H t xs∧xs.length ≤ i⟩
def ztn (z TI TO i1 i2 t u : Addr) (i : Nat) (h : Heap) : Prop :=
  h.get? z = some (zipO .none TI TO)∧h.get? TI = some (duoO (.ref i1) (.ref i2))∧(∃ a b,h.get? TO = some (duoO a b))∧h.get? i1 = some (titO t i)∧h.get? i2 = some (titO u i)
theorem turn_zip {P : Program} {w : World} {K : PySem.W.Frag} {elts : List Expr} {kt : Nat} {pos : Pos} {z TI TO i1 i2 t u : Addr} {xs ys : List V} (D : ZApart z TI TO i1 i2) :
    Turn P w K (.Tuple elts kt pos) (Itz K t u xs ys) [z,TI,TO,i1,i2] z (ztn z TI TO i1 i2 t u) where
  mem:=by simp
  obj:=fun i h st b hb=>by
    obtain ⟨e1,e2,⟨a,c,e3⟩,e4,e5⟩:=st
    simp only [List.mem_cons,List.not_mem_nil,or_false] at hb
    rcases hb with rfl | rfl | rfl | rfl | rfl
    · exact ⟨_,e1,fun v z=>by cases (show Data.fields _ = Data.cell v from z)⟩
    · exact ⟨_,e2,fun v z=>by cases (show Data.seq _ _ = Data.cell v from z)⟩
    · exact ⟨_,e3,fun v z=>by cases (show Data.seq _ _ = Data.cell v from z)⟩
    · exact ⟨_,e4,fun v z=>by cases (show Data.fields _ = Data.cell v from z)⟩
    · exact ⟨_,e5,fun v z=>by cases (show Data.fields _ = Data.cell v from z)⟩
  keep:=fun i h h' st k=>by
    obtain ⟨e1,e2,⟨a,c,e3⟩,e4,e5⟩:=st
    exact ⟨k z (by simp) _ e1,k TI (by simp) _ e2,⟨a,c,k TO (by simp) _ e3⟩,k i1 (by simp) _ e4,k i2 (by simp) _ e5⟩
  item:=by
    intro X hP hw hK hc i pins s σ H E I hf st hg
    subst hP hw hK
    obtain ⟨e1,e2,⟨a0,c0,e3⟩,e4,e5⟩:=st
    obtain ⟨ht,hu,l1,l2⟩:=hg
    obtain ⟨its,rv,pt,hz⟩:=I.tuple ht
    obtain ⟨jts,rw',pu,hz'⟩:=I.tuple hu
    obtain ⟨x,hx,rx⟩:=rv.get (List.getElem?_eq_getElem l1)
    obtain ⟨y,hy,ry⟩:=rw'.get (List.getElem?_eq_getElem l2)
    have fz:=hf z (by simp)
    have fO:=hf TO (by simp)
    have f1:=hf i1 (by simp)
    have f2:=hf i2 (by simp)
    refine zipT_item D e1 e2 e3 e4 e5 (show s.heap.IsTuple t its.toArray from pt) (show s.heap.IsTuple u jts.toArray from pu) (by simpa using hx) (by simpa using hy) (I.tup_ne ht fz) (I.tup_ne ht fO) (I.tup_ne ht f1) (I.tup_ne ht f2)
      (I.tup_ne hu fz) (I.tup_ne hu fO) (I.tup_ne hu f1) (I.tup_ne hu f2) fun h' a1 a2 a3 a4 a5 kp=>?_
    refine ⟨_,rfl,?_⟩
    have fT : H s.heap.objs.size = none:=I.hok.fresh (Nat.le_refl _)
    have I1 : Inv X pins σ (upd H s.heap.objs.size (.tup [xs[i],ys[i]])) { s with heap:=h' }:=by
      refine I.drawn (ch:=[z,TO,i1,i2]) (its:=[x,y]) (fun b hb=>?_) (fun b o hb e=>?_) (Nat.le_refl _) (.cons rx (.cons ry .nil)) (small (by simp)) (.of a5 rfl ⟨_,a5,rfl,_,rfl⟩) (fun b hb=>?_)
      · refine hf b ?_
        simp only [List.mem_cons,List.not_mem_nil,or_false] at hb ⊢
        rcases hb with h | h | h | h <;> simp [h]
      · simp only [List.mem_cons,List.not_mem_nil,or_false,not_or] at hb
        exact kp b o hb.1 hb.2.1 hb.2.2.1 hb.2.2.2 e
      · simp only [List.mem_cons,List.not_mem_nil,or_false] at hb
        rcases hb with rfl | rfl | rfl | rfl
        · exact ⟨_,a1⟩
        · exact ⟨_,a2⟩
        · exact ⟨_,a3⟩
        · exact ⟨_,a4⟩
    have nT : ∀ b ∈ [z,TI,TO,i1,i2],b ≠ s.heap.objs.size:=fun b hb=>by
      have e : ∃ o,s.heap.get? b = some o:=by
        simp only [List.mem_cons,List.not_mem_nil,or_false] at hb
        rcases hb with rfl | rfl | rfl | rfl | rfl
        · exact ⟨_,e1⟩
        · exact ⟨_,e2⟩
        · exact ⟨_,e3⟩
        · exact ⟨_,e4⟩
        · exact ⟨_,e5⟩
      obtain ⟨o,e⟩:=e
      exact Nat.ne_of_lt (Heap.lt_size e)
    refine wpAny_letOwnedTupleGo_zip (s:={ s with heap:=h' }) a1 fun h2 z2 s2=>?_
    obtain ⟨g0,g1,g2,g3,g4,g5⟩:=fz
    have I2 : Inv X pins σ (upd H s.heap.objs.size (.tup [xs[i],ys[i]])) { s with heap:=h2 }:=Inv.turned (s:={ s with heap:=h' }) I1 (t':=s.toks) (it:=z) (fun b o hb e=>(s2.2 b hb).trans e) (by rw [upd_ne (nT z (by simp))]; exact g0) g1 g3 g4 g5
    refine ⟨.ref s.heap.objs.size,_,I2,rfl,⟨_,_,_,fT,rfl,rfl,List.getElem?_eq_getElem l1,List.getElem?_eq_getElem l2⟩,?_,fun b hb=>by rw [upd_ne (nT b hb)]; exact (hf b hb).1⟩
    exact ⟨z2,s2.extBut _ _ D.h1 (kp TI _ D.h1 D.h5 D.h6 D.h7 e2),⟨_,_,s2.extBut _ _ D.h2 a2⟩,s2.extBut _ _ D.h3 a3,s2.extBut _ _ D.h4 a4⟩
  done:=by
    intro X hP hw hK hc i pins s σ H E I hf st hg
    subst hP hw hK
    obtain ⟨e1,e2,⟨a0,c0,e3⟩,e4,e5⟩:=st
    obtain ⟨ht,hl⟩:=hg
    obtain ⟨its,rv,pt,hz⟩:=I.tuple ht
    have hlen:=rv.length
    refine zipT_end (I.ok.hd hc) D e1 e2 e3 e4 (show s.heap.IsTuple t its.toArray from pt) (by simp; omega) (I.tup_ne ht (hf z (by simp))) fun h' kp=>⟨rfl,?_⟩
    refine Inv.turnedL (ch:=[z,TO,i1,i2]) I (fun b hb=>hf b ?_) fun b o hb e=>?_
    · simp only [List.mem_cons,List.not_mem_nil,or_false] at hb ⊢
      rcases hb with h | h | h | h <;> simp [h]
    · simp only [List.mem_cons,List.not_mem_nil,or_false,not_or] at hb
      exact kp b o hb.1 hb.2.1 hb.2.2.1 hb.2.2.2 e
  self:=fun _ _ _ _ _ st h=>wpAny_pyIter_zip st.1 h
end L2
set_option Elab.async false
set_option linter.all false
set_option maxRecDepth 100000
namespace L2
open PySem PySem.Spec PyProof.Rows
section
variable {X : Cx}
def iZipT (K : PySem.W.Frag) (ta : TA) : TI:=fun σ H R=>ta σ H fun vs H1=>∃ t u xs ys,vs = [.ref t,.ref u]∧SqT K H1 t xs∧SqT K H1 u ys∧R (Itz K t u xs ys) H1
theorem pi_zipT {elts : List Expr} {kt : Nat} {tp : Pos} {a b : Expr} {ta : TA} {p pos : Pos} (hg : Gl X "zip") (hm : X.mg "zip" = none) (ha : PA X [a,b] ta) (hs : starEach [a,b] X.env = (false,eval a X.env) :: starEach [b] X.env:=by rfl)
    (hs2 : starEach [b] X.env = [(false,eval b X.env)]:=by rfl) : PI X (.Tuple elts kt tp) (.Call (.Name "zip" p) [a,b] [] pos) (iZipT X.K ta):=by
  intro pins s σ H R I h
  refine Call_ (ld_blt I hg hm bt_zip (PyProof.Rows.callWith_type1 (thn (ha pos pins s σ H _ I h) fun us s1 ⟨vs,H1,I1,r1,q1⟩=>?_) hs (by rw [hs2]; rfl)))
  obtain ⟨t,u,xs,ys,e,ht,hu,q⟩:=q1
  subst e
  obtain ⟨its,rv,pt,hz⟩:=I1.tuple ht
  obtain ⟨jts,rw',pu,hz'⟩:=I1.tuple hu
  cases r1 with
  | cons r rr =>
    cases rr with
    | cons r' rr' =>
      cases rr'
      cases r
      cases r'
      refine call_zipT (show s1.heap.IsTuple t its.toArray from pt) (show s1.heap.IsTuple u jts.toArray from pu) ?_
      have z1 : (zT1 s1.heap t).objs.size = s1.heap.objs.size + 1:=Heap.size_push ..
      have z2 : (zT2 s1.heap t u).objs.size = s1.heap.objs.size + 2:=by rw [Heap.size_push,z1]
      have z3 : (zT3 s1.heap t u).objs.size = s1.heap.objs.size + 3:=by rw [Heap.size_push,z2]
      have z4 : (zT4 s1.heap t u).objs.size = s1.heap.objs.size + 4:=by rw [Heap.size_push,z3]
      have D : ZApart (zT4 s1.heap t u).objs.size (zT2 s1.heap t u).objs.size (zT3 s1.heap t u).objs.size s1.heap.objs.size (zT1 s1.heap t).objs.size:=by
        constructor <;> (show (_ : Nat) ≠ (_ : Nat); rw [Ne]; intro h; simp only [z1,z2,z3,z4] at h; omega)
      have g5 : (zT5 s1.heap t u).get? (zT4 s1.heap t u).objs.size = some (zipO .none (zT2 s1.heap t u).objs.size (zT3 s1.heap t u).objs.size):=Heap.get?_push_size _ rfl
      have g4 : (zT5 s1.heap t u).get? (zT3 s1.heap t u).objs.size = some (duoO .none .none):=Heap.get?_push_of_some _ (Heap.get?_push_size _ rfl)
      have g3 : (zT5 s1.heap t u).get? (zT2 s1.heap t u).objs.size = some (duoO (.ref s1.heap.objs.size) (.ref (zT1 s1.heap t).objs.size)):=Heap.get?_push_of_some _ (Heap.get?_push_of_some _ (Heap.get?_push_size _ rfl))
      have g2 : (zT5 s1.heap t u).get? (zT1 s1.heap t).objs.size = some (titO u 0):=Heap.get?_push_of_some _ (Heap.get?_push_of_some _ (Heap.get?_push_of_some _ (Heap.get?_push_size _ rfl)))
      have g1 : (zT5 s1.heap t u).get? s1.heap.objs.size = some (titO t 0):=Heap.get?_push_of_some _ (Heap.get?_push_of_some _ (Heap.get?_push_of_some _ (Heap.get?_push_of_some _ (Heap.get?_push_size _ rfl))))
      have I2 : Inv X pins σ H1 { s1 with heap:=zT5 s1.heap t u }:=I1.kept (t':=s1.toks) fun b o e=>Heap.get?_push_of_some _ (Heap.get?_push_of_some _ (Heap.get?_push_of_some _ (Heap.get?_push_of_some _ (Heap.get?_push_of_some _ e))))
      refine wpAny_pyIter_zip (s:={ s1 with heap:=zT5 s1.heap t u }) g5 ⟨_,_,_,_,H1,rfl,I2,turn_zip (xs:=xs) (ys:=ys) D,⟨g5,g3,⟨_,_,g4⟩,g1,g2⟩,fun b hb=>?_,q⟩
      have hb' : s1.heap.objs.size ≤ b:=by
        simp only [List.mem_cons,List.not_mem_nil,or_false] at hb
        rcases hb with rfl | rfl | rfl | rfl | rfl
        · rw [z4]; exact Nat.le_add_right ..
        · rw [z2]; exact Nat.le_add_right ..
        · rw [z3]; exact Nat.le_add_right ..
        · exact Nat.le_refl _
        · rw [z1]; exact Nat.le_add_right ..
      exact I1.fpOk hb' (I1.hok.fresh hb')
end
end L2
set_option Elab.async false
set_option linter.all false
set_option maxRecDepth 100000
namespace L2
open PySem PySem.Spec PyProof.Rows
section
variable {X : Cx}
inductive Tk (K : PySem.W.Frag) (H : Hp) : V→Bool→Prop
  | int {i} : Tk K H (.int i) false
  | str {x} : Tk K H (.str x) false
  | bl {b} : Tk K H (.bl b) false
  | non : Tk K H .non false
  | lst {a xs} : SqL K H a xs→Tk K H (.ref a) false
  | dct {a kvs} : H a = some (.dK kvs)→Tk K H (.ref a) false
  | tup {a xs} : SqT K H a xs→Tk K H (.ref a) true
def rIsiT (K : PySem.W.Frag) : List V→Hp→VK→Prop:=fun xs H Q=>∃ x b,xs = [x,.ty "tuple"]∧Tk K H x b∧Q (.bl b) H
theorem call_isiT : CallR X (.builtin "isinstance") (rIsiT X.K):=by
  intro pins s σ H xs us Q I r h
  obtain ⟨x,b,rfl,hx,q⟩:=h
  obtain ⟨u,v,rfl,rx,rT⟩:=r.two
  cases rT
  have f0 : EP X pins σ Q (.bool b) s:=⟨.bl _,H,I,rfl,q⟩
  have f1 : EP X pins σ Q (.bool b) { s with toks:=s.toks + 1 }:=⟨.bl _,H,I.tok _,rfl,q⟩
  cases hx with
  | int=>obtain ⟨t,rfl⟩:=rx; exact IsiPair.int_tuple f1
  | str=>obtain ⟨t,rfl⟩:=rx; exact IsiPair.str_tuple f1
  | bl=>cases rx; exact IsiPair.bool_tuple f1
  | non=>cases rx; exact IsiPair.NoneType_tuple f1
  | lst hq =>
    cases rx
    obtain ⟨its,rv,⟨o,n,e,c,_⟩,hz⟩:=I.list hq
    exact IsiPair.list_tuple e c f1
  | dct hq =>
    cases rx
    obtain ⟨_,_,_,_,o,_,_,e,ex,_⟩:=I.hok _ _ hq
    exact IsiPair.dict_tuple e ex.1 f1
  | tup hq =>
    cases rx
    obtain ⟨its,rv,⟨o,e,c,_⟩,hz⟩:=I.tuple hq
    exact IsiPair.tuple_tuple e c f0
end
section
variable {X : Cx} {scope : Scope} {N : List Str} {wi : TI} {te : TE} {σ : St} {H : Hp} {Q : VK}
theorem set_self0 {σ0 : St} {j : Nat} (h0 : σ0[j]? = some none) : σ0 = σ0.set j none:=by
  refine (List.ext_getElem? fun i=>?_)
  rw [List.getElem?_set]
  split
  · rename_i hj
    subst hj
    split
    · exact h0
    · rename_i hlt
      exact List.getElem?_eq_none_iff.mpr (by omega)
  · rfl
theorem comp_same (xs : List V) (f : V→V) (σ0 : St) (cap : Cap X scope N σ σ0) (hsz : xs.length ≤ sizeLine)
    (hw : ∀ R : It→Hp→Prop,(∀ J : It,(∀ H' i x,Same H H'→xs[i]? = some x→J.go i H'∧∀ y H2,J.yld i H' y H2→H2 = H'∧y = x)→(∀ H',Same H H'→J.stop xs.length H')→R J H)→wi σ H R)
    (he : ∀ x ∈ xs,∀ H' R l,Same H H'→(∀ H2,Same H' H2→R (f x) H2)→te ((σ0.set 0 l).set 0 (some x)) H' R) (h0 : σ0[0]? = some none)
    (q : ∀ D H',Same H H'→H' D = some (.lst (xs.map f))→Q (.ref D) H') :
    tComp X scope N wi (gName 0) tYes te σ H Q:=by
  refine ⟨σ0,cap,hw _ fun J go stop D hD=>?_⟩
  refine ⟨fun i m σ' H' ys=>i ≤ xs.length∧m = xs.length - i∧(∃ l,σ' = σ0.set 0 l)∧Same H H'∧H' D = some (.lst ys)∧ys = (xs.take i).map f,⟨xs.length,Nat.zero_le _,rfl,⟨none,set_self0 h0⟩,same_new hD _,upd_same,rfl⟩,?_⟩
  rintro i m σ' H' ys ⟨hi,rfl,⟨l,rfl⟩,sm,hL,rfl⟩
  refine ⟨hL,?_⟩
  by_cases hlt : i < xs.length
  · right
    obtain ⟨g1,g2⟩:=go H' i xs[i] sm (List.getElem?_eq_getElem hlt)
    refine ⟨g1,fun x H2 hy=>?_⟩
    obtain ⟨rfl,rfl⟩:=g2 x H2 hy
    unfold gName tYes
    dsimp only
    rw [if_pos rfl]
    refine he xs[i] (List.getElem_mem hlt) _ _ l sm fun H3 s3=>⟨s3 _ _ hL,?_,xs.length - (i + 1),by omega,hlt,rfl,⟨some xs[i],?_⟩,?_,upd_same,?_⟩
    · rw [List.length_map,List.length_take]; omega
    · rw [List.set_set]
    · intro b o e
      rw [upd_ne (ne_of_none e hD)]
      exact s3 _ _ (sm _ _ e)
    · rw [List.take_add_one,List.getElem?_eq_getElem hlt,List.map_append]
      rfl
  · left
    have e : i = xs.length:=by omega
    subst e
    refine ⟨stop _ sm,?_⟩
    rw [List.take_length] at hL
    exact q D _ sm hL
theorem wi_tup {K : PySem.W.Frag} {a : Addr} {xs : List V} {tl : TE} (hS : SqT K H a xs) (h : ∀ R : VK,R (.ref a) H→tl σ H R) (R : It→Hp→Prop)
    (q : ∀ J : It,(∀ H' i x,Same H H'→xs[i]? = some x→J.go i H'∧∀ y H2,J.yld i H' y H2→H2 = H'∧y = x)→(∀ H',Same H H'→J.stop xs.length H')→R J H) : iTup K tl σ H R:=by
  refine h _ ⟨a,rfl,⟨xs,hS⟩,q _ (fun H' i x s e=>⟨⟨xs,x,s.seqT hS,e⟩,fun y H2 hy=>?_⟩) fun H' s=>⟨xs,s.seqT hS,Nat.le_refl _⟩⟩
  obtain ⟨e1,e2⟩:=hy
  have e3:=e2 xs (s.seqT hS)
  rw [e] at e3
  cases e3
  exact ⟨e1,rfl⟩
end
end L2
set_option Elab.async false
set_option linter.all false
set_option maxRecDepth 100000
namespace L2
open PySem PySem.Spec PyProof.Rows
def Held (P : Program) (w : World) (K : PySem.W.Frag) (mg : Str→Option Value) (base : Heap) (k : Nat) (f : Addr) (ps : List Str) (sp : Sp) : Prop :=
  ∃ fd,PySem.W.keepIn K (.ref f) = true∧Binds K fd ps []∧FnOk P w K mg base CX0 k f fd ps sp
theorem Ok.held {P : Program} {w : World} {K : PySem.W.Frag} {mg : Str→Option Value} {base : Heap} {k : Nat} {x : Str} {ps : List Str} {sp : Sp} (G : Ok P w K mg base k x ps sp) : ∃ f,mg x = some (.ref f)∧Held P w K mg base k f ps sp:=by
  obtain ⟨f,fd,h1,h2,h3,h4⟩:=G
  exact ⟨f,h1,fd,h2,h3,h4⟩
theorem Held.mono {P : Program} {w : World} {K : PySem.W.Frag} {mg : Str→Option Value} {base : Heap} {j k : Nat} {f : Addr} {ps : List Str} {sp : Sp} (h : Held P w K mg base j f ps sp) (hj : j ≤ k) : Held P w K mg base k f ps sp:=by
  obtain ⟨fd,h1,h2,h3⟩:=h
  exact ⟨fd,h1,h2,h3.mono hj⟩
section
variable {X : Cx} {x : Str} {p pos : Pos} {e : Expr} {es : List Expr} {te : TE} {t : TA}
def tHeld (P : Program) (w : World) (K : PySem.W.Frag) (mg : Str→Option Value) (base : Heap) (k : Nat) (te : TE) (t : TA) : TE:=fun σ H Q=>te σ H fun v H1=>∃ f ps sp,v = .ref f∧Held P w K mg base k f ps sp∧t σ H1 fun vs H2=>sp vs H2 Q E0
theorem pe_held {k : Nat} (hr : Room k X.A) (hf : PE X (.Name x p) te) (ha : PA X (e :: es) t)
    (he : starEach (e :: es) X.env = (false,eval e X.env) :: starEach es X.env:=by rfl) (hpl : (backTo pos (starEach es X.env)).any (·.1) = false:=by rfl) :
    PE X (.Call (.Name x p) (e :: es) [] pos) (tHeld X.prog X.w X.K X.mg X.base k te t):=by
  intro pins s σ H Q I h
  refine wpAny_Call_Name_kw (thn (hf pins s σ H _ I h) fun u s1 ⟨v,H1,I1,r1,q1⟩=>?_)
  obtain ⟨f,ps,sp,rfl,⟨fd,hk,hb,F⟩,q⟩:=q1
  obtain rfl : u = Value.ref f:=r1
  refine PySem.W.callWith_K (h₀:=X.base) I1.ok.mod.kin hk (thn (ha pos pins s1 σ H1 _ I1 q) fun us s2 ⟨vs,H2,I2,r,q2⟩=>⟨I2.kIn,?_⟩) he hpl
  exact run_fn F hr hb .nil pass0 I2 r (by simpa using q2)
end
end L2
set_option Elab.async false
set_option linter.all false
set_option maxRecDepth 100000
namespace PySem
end PySem
namespace L2
open PySem PySem.Spec PyProof.Rows
section
variable {X : Cx}
theorem op_catE : OpR X (binaryOp .Add) (fun x y H Q=>∃ a b ys,x = .ref a∧y = .ref b∧SqT X.K H a []∧SqT X.K H b ys∧Q (.ref b) H):=by
  intro pins s σ H x y v u Q I rx ry h
  obtain ⟨a,b,ys,rfl,rfl,ha,hb,q⟩:=h
  cases rx
  cases ry
  obtain ⟨its,r1,p1,_⟩:=I.tuple ha
  obtain ⟨its2,r2,p2,_⟩:=I.tuple hb
  cases r1
  obtain ⟨⟨cls,dd,data,sl⟩,ho,hc,n,hd⟩:=id p1
  obtain ⟨⟨cls2,dd2,data2,sl2⟩,ho2,hc2,n2,hd2⟩:=id p2
  simp only at hc hd hc2 hd2
  subst hc hd hc2 hd2
  exact concat_meets ⟨_,ho,rfl⟩ ⟨_,ho2,rfl⟩ noFill_tuple_add seq_tuple_add PySem.F.slot_tuple_add PySem.F.entry_tuple_add (PySem.F.args_tuple_add_2 _ _)
    (tuple_addW0 a b #[] its2.toArray n n2 dd dd2 sl sl2 rfl) ⟨ho,ho2,⟨.ref b,H,I,rfl,q⟩⟩
end
end L2
set_option Elab.async false
set_option linter.all false
set_option maxRecDepth 100000
namespace PySem
def metF (σ : List Str) (v : Str) : List Str:=if v ∈ σ then σ else σ ++ [v]
def metS (ss : List Str) : List Str:=ss.foldl metF []
theorem metS_snoc (ss : List Str) (v : Str) : metS (ss ++ [v]) = metF (metS ss) v:=by
  unfold metS
  rw [List.foldl_append]
  rfl
theorem metF_mem (σ : List Str) (v k : Str) : k ∈ metF σ v ↔ k ∈ σ ∨ k = v:=by
  unfold metF
  by_cases h : v ∈ σ
  · rw [if_pos h]
    exact ⟨.inl,fun q=>q.elim id fun e=>e ▸ h⟩
  · rw [if_neg h]
    simp
theorem metF_len (σ : List Str) (v : Str) : (metF σ v).length = if v ∈ σ then σ.length else σ.length + 1:=by
  unfold metF
  split <;> simp
theorem foldF_len : ∀ (ss σ : List Str),(ss.foldl metF σ).length ≤ σ.length + ss.length
  | [],σ=>by simp
  | v :: r,σ=>by
    rw [List.foldl_cons,List.length_cons]
    have h:=foldF_len r (metF σ v)
    rw [metF_len] at h
    split at h <;> omega
theorem metS_len (ss : List Str) : (metS ss).length ≤ ss.length:=by
  have h:=foldF_len ss []
  unfold metS
  simpa using h
section
variable {prog : Program} {w : World}
def TextSet (prog : Program) (w : World) (h : Heap) (D : Addr) (ss : List Str) : Prop:=h.SetOf (strKind prog w) D (fun y=>decide (y ∈ metS ss)) (metS ss).length
theorem TextSet.at {h h' : Heap} {D : Addr} {ss : List Str} (x : TextSet prog w h D ss) (e : ∀ o,h.get? D = some o→h'.get? D = some o) : TextSet prog w h' D ss:=by
  obtain ⟨o,es,ep,t,ho,r⟩:=x
  exact ⟨o,es,ep,t,e o ho,r⟩
theorem TextSet.congr {h : Heap} {D : Addr} {S : Str→Bool} {n : Nat} {ss : List Str} (x : h.SetOf (strKind prog w) D S n) (e1 : ∀ y,S y = decide (y ∈ metS ss)) (e2 : n = (metS ss).length) : TextSet prog w h D ss:=by
  have e : S = fun y=>decide (y ∈ metS ss):=funext e1
  subst e e2
  exact x
theorem set_texts_loop {A : Around} {R : Result→Shared→Prop} {I : Addr} {fp wr : List Addr} {n : Nat} {P : Nat→Value→Prop} {St : Nat→Heap→Prop} (W : Walks prog w A.in1 I fp wr n P St) (D : Addr) (hD : D ∉ fp)
    (ss : List Str) (hss : ss.length = n) (hval : ∀ i v,P i v→∃ t,v = .str (ss.getD i "") t) (hb : n + 1 < scanBound) :
    ∀ (k i : Nat) (s : Shared),i + k = n→St i s.heap→TextSet prog w s.heap D (ss.take i) →
      (∀ h' tk,(∀ b o,b ∉ D :: wr→s.heap.get? b = some o→h'.get? b = some o)→TextSet prog w h' D ss→R (.ok (.ret .none)) { s with heap:=h',toks:=tk }) →
      codeAny (model prog w) A (.builtin "set.update.loop" ⟨[.ref D,.ref I],[]⟩) R s:=by
  have hDw : D ∉ wr:=fun q=>hD (W.sub _ q)
  intro k
  induction k with
  | zero =>
    intro i s hi st hS q
    obtain rfl : i = n:=by omega
    refine codeAny_builtin PyProof.Rows.F.entry_set_update_loop ?_
    rw [Around.under_plainId PyProof.Rows.F.plain_set_update_loop _]
    show wpAny _ A.in1 (pyNext (.ref I) >>= _) _ _ _
    refine wpAny_bind (W.done s _ _ st fun h' tk kp=>?_)
    refine wpAny_pure (q h' tk (fun b o nb e=>kp b o (fun z=>nb (List.mem_cons_of_mem _ z)) e) ?_)
    rw [List.take_of_length_le (Nat.le_of_eq hss)] at hS
    exact hS.at fun o e=>kp D o hDw e
  | succ k ih =>
    intro i s hi st hS q
    refine codeAny_builtin PyProof.Rows.F.entry_set_update_loop ?_
    rw [Around.under_plainId PyProof.Rows.F.plain_set_update_loop _]
    show wpAny _ A.in1 (pyNext (.ref I) >>= _) _ _ _
    refine wpAny_bind (W.item i s _ _ (by omega) st fun v h1 tk1 hP st1 kp1=>?_)
    obtain ⟨t,rfl⟩:=hval i v hP
    have hS1 : TextSet prog w h1 D (ss.take i):=hS.at fun o e=>kp1 D o hDw e
    show wpAny _ A.in1 (holding [Value.str (ss.getD i "") t] (setAdd D (.str (ss.getD i "") t)) >>= _) _ _ _
    refine wpAny_bind (wpAny_holding ?_)
    unfold setAdd
    refine wpAny_holding (wpAny_bind ((strKind prog w).pyHash (k:=ss.getD i "") (strKind_is _ _ _ _) ?_))
    have room : (metS (ss.take i)).length + 1 < scanBound:=by
      have h1:=metS_len (ss.take i)
      have h2 : (ss.take i).length ≤ ss.length:=by rw [List.length_take]; exact Nat.min_le_right _ _
      omega
    refine wpAny_setAddHashed_of (knd:=strKind prog w) (strKind_is _ _ _ _) rfl hS1 room fun h2 sb2 hS2=>?_
    have hlt : i < ss.length:=by omega
    have et : ss.take (i + 1) = ss.take i ++ [ss.getD i ""]:=by
      rw [List.take_add_one,List.getElem?_eq_getElem hlt,List.getD_eq_getElem?_getD,List.getElem?_eq_getElem hlt]
      rfl
    have hS3 : TextSet prog w h2 D (ss.take (i + 1)):=by
      refine TextSet.congr hS2 (fun y=>?_) ?_
      · rw [et,metS_snoc,Bool.eq_iff_iff,Bool.or_eq_true,decide_eq_true_eq,decide_eq_true_eq,decide_eq_true_eq,metF_mem]
      · rw [et,metS_snoc,metF_len]
        by_cases z : ss.getD i "" ∈ metS (ss.take i)
        · rw [if_pos z,if_pos (decide_eq_true z)]
        · rw [if_neg z,if_neg (by rw [decide_eq_false z]; exact Bool.false_ne_true)]
    have kp2 : ∀ b o,b ∉ D :: wr→s.heap.get? b = some o→h2.get? b = some o:=fun b o nb e=>by
      rw [sb2.2 b (fun z=>nb (by rw [z]; exact List.mem_cons_self))]
      exact kp1 b o (fun z=>nb (List.mem_cons_of_mem _ z)) e
    refine wpAny_pure ⟨plainId_quiet PyProof.Rows.F.plain_set_update_loop _,ih (i + 1) _ (by omega) (W.frame _ _ _ st1 fun b hb o e=>?_) hS3 fun h' tk kp hS'=>q h' tk (fun b o nb e=>kp b o nb (kp2 b o nb e)) hS'⟩
    rw [sb2.2 b (fun z=>hD (by rw [← z]; exact hb))]
    exact e
variable {A : Around} {E : Value→Shared→Prop} {s : Shared}
abbrev newSetObj (led : Bool) : Obj:={ cls:=.type "set",dict:=none,data:=.set #[] 0 (.fresh 0 0 led) }
theorem init_texts {A : Around} {R : Fin→Shared→Prop} {E : Value→Shared→Prop} {s : Shared} {l : Addr} {its : Array Value} {ss : List Str} (led : Bool) (hh : A.handled = none) (hl : s.heap.IsList l its) (hlen : ss.length = its.size)
    (hval : ∀ (i : Nat) (v : Value),its[i]? = some v→∃ t,v = Value.str (ss.getD i "") t) (hb : its.size + 1 < scanBound)
    (q : ∀ h' tk,TextSet prog w h' s.heap.objs.size ss→(∀ b o,b < s.heap.objs.size→s.heap.get? b = some o→h'.get? b = some o)→R (.done (.ret .none)) { s with heap:=h',toks:=tk }) :
    wpAny (model prog w) A (Builtin.«set.__init__» ⟨[.ref s.heap.objs.size,.ref l],[]⟩) R E { s with heap:=s.heap.push (newSetObj led) }:=by
  obtain ⟨⟨oc,od,ox,osl⟩,hol,hcl,nl,hdl⟩:=id hl
  simp only at hcl hdl
  subst hcl hdl
  have hS : (s.heap.push (newSetObj led)).get? s.heap.objs.size = some (newSetObj led):=Heap.get?_push_size _ rfl
  have hT : Shared.TypeIs { s with heap:=s.heap.push (newSetObj led) } (.ref s.heap.objs.size) "set":=⟨_,hS,rfl⟩
  have hol' : (s.heap.push (newSetObj led)).get? l = some { cls:=.type "list",dict:=od,data:=.seq its nl,slots:=osl }:=Heap.get?_push_of_some _ hol
  have f1:=F.sub_list_set
  have f2:=F.sub_list_frozenset
  have f3 : (Value.type "list" == Value.type "dict") = false:=by decide
  have hl1 : (s.heap.push (newSetObj led)).IsList l its:=⟨_,hol',rfl,nl,rfl⟩
  have hlt : l < s.heap.objs.size:=Heap.lt_size hol
  unfold Builtin.«set.__init__» noKeywords Builtin.Frozenset.updateFrom
  generalize hPI : pyIter = PI
  wp_walk
  subst hPI
  refine wpAny_pyIter_list hl1 ?_
  refine wpAny_bind (wpAny_runValue ?_)
  have hz : (s.heap.push (newSetObj led)).objs.size = s.heap.objs.size + 1:=Heap.size_push ..
  have hne : l ≠ (s.heap.push (newSetObj led)).objs.size:=by rw [hz]; exact Nat.ne_of_lt (Nat.lt_succ_of_lt hlt)
  have hSf : s.heap.objs.size ∉ [(s.heap.push (newSetObj led)).objs.size,l]:=by
    rw [hz]
    simp only [List.mem_cons,List.not_mem_nil,or_false,not_or]
    exact ⟨Nat.ne_of_lt (Nat.lt_succ_self _),Nat.ne_of_gt hlt⟩
  refine set_texts_loop (Walks.list (by first | exact hh | simp [hh]) _ l hne its) s.heap.objs.size hSf ss hlen hval hb its.size 0 _ (by omega) ⟨⟨_,Heap.get?_push_size _ rfl,rfl,rfl⟩,hl1.push _⟩ ?_ fun h' tk kp hS'=>?_
  · have hg : ((s.heap.push (newSetObj led)).push { cls:=.type "list_iterator",data:=.fields #[.ref l,.int 0 0] }).get? s.heap.objs.size = some (newSetObj led):=Heap.get?_push_of_some _ hS
    exact TextSet.congr ((PyProof.Rows.setObjOf_fresh (knd:=strKind prog w) led).setOf hg (by unfold scanBound; omega)) (fun _=>rfl) rfl
  · refine wpAny_pure (wpAny_pure (q h' tk hS' fun b o hb' e=>kp b o ?_ (Heap.get?_push_of_some _ (Heap.get?_push_of_some _ e))))
    rw [hz]
    simp only [List.mem_cons,List.not_mem_nil,or_false,not_or]
    exact ⟨Nat.ne_of_lt hb',Nat.ne_of_lt (Nat.lt_succ_of_lt hb')⟩
theorem call_set_texts {l : Addr} {its : Array Value} {ss : List Str} {Q : Value→Shared→Prop} (hh : A.handled = none) (hl : s.heap.IsList l its) (hlen : ss.length = its.size)
    (hval : ∀ (i : Nat) (v : Value),its[i]? = some v→∃ t,v = Value.str (ss.getD i "") t) (hb : its.size + 1 < scanBound)
    (q : ∀ h' tk,TextSet prog w h' s.heap.objs.size ss→(∀ b o,b < s.heap.objs.size→s.heap.get? b = some o→h'.get? b = some o)→Q (.ref s.heap.objs.size) { s with heap:=h',toks:=tk }) :
    wpAny (model prog w) A (call (.type "set") [.ref l]) Q E s:=by
  have ft:=F.called_set
  obtain ⟨c,tl,hmro⟩:=ft.mro
  have g1:=ft.made
  have g2:=ft.sub
  have g3:=ft.notType
  have g4:=ft.canCreate
  have g5:=F.typeCall_set_1 (.ref l)
  refine wpAny_call (codeAny_of_tree (show wpAny _ _ (callAny (.type "set") _) _ _ _ from wpAny_pure ⟨Code.quiet_builtin _ (by decide +kernel),codeAny_builtin F.entry_type_call ?_⟩))
  rw [Around.under_plain (weight_type_call_type "set" [.ref l] []) (by rfl)]
  repeat (any_goals (first | assumption | wp_step))
  refine codeAny_mono (code_set_new_1 (.ref l) (Q₁:=fun obj s1=>∃ led : Bool,obj = .ref s.heap.objs.size∧s1 = { s with heap:=s.heap.push (newSetObj led) }) (E:=E) fun led=>⟨led,rfl,rfl⟩) fun r s1 hr=>?_
  rcases r with e | fl
  · exact hr
  rcases fl with _ | _ | _ | obj
  · exact hr.elim
  · exact hr.elim
  · exact hr.elim
  obtain ⟨led,rfl,rfl⟩:=hr
  have hT : Shared.TypeIs { s with heap:=s.heap.push (newSetObj led) } (.ref s.heap.objs.size) "set":=⟨_,Heap.get?_push_size _ rfl,rfl⟩
  have g6:=ft.init.lookup
  have g7:=ft.init.bind (.ref s.heap.objs.size)
  repeat (any_goals (first | assumption | wp_step))
  refine codeAny_mono (codeAny_call_builtin (R:=wants (fun r s2=>r = .none∧∃ h' tk,s2 = { s with heap:=h',toks:=tk }∧TextSet prog w h' s.heap.objs.size ss∧∀ b o,b < s.heap.objs.size→s.heap.get? b = some o→h'.get? b = some o) E)
    ft.init.plain F.entry_set_init (check_set_init_1 hT (init_texts led (by first | exact hh | simp [hh]) hl hlen hval hb fun h' tk x kp=>⟨rfl,h',tk,rfl,x,kp⟩))) fun r2 s2 hr2=>?_
  rcases r2 with e | fl
  · exact hr2
  rcases fl with _ | _ | _ | v
  · exact hr2.elim
  · exact hr2.elim
  · exact hr2.elim
  obtain ⟨rfl,h',tk,rfl,x,kp⟩:=hr2
  repeat (any_goals (first | assumption | wp_step))
  exact q h' tk x kp
theorem len_texts {D : Addr} {ss : List Str} {Q : Value→Shared→Prop} (x : TextSet prog w s.heap D ss) (q : Q (.int ((metS ss).length : Nat) (s.toks + 1)) { s with toks:=s.toks + 1 + 1 }) : wpAny (model prog w) A (call (.builtin "len") [.ref D]) Q E s:=by
  obtain ⟨o,es,ep,t,ho,hex,hd,hel,hmem,hb,hf,hn⟩:=x
  refine call_len_set ho hex hd hf ?_ ?_
  · unfold scanBound at hb
    omega
  · rw [hn]
    exact q
end
end PySem
namespace L2
open PySem PySem.Spec PyProof.Rows
def SetTx (P : Program) (w : World) (D : Addr) (ss : List Str) : HO:=.ext fun h=>TextSet P w h D ss
section
variable {X : Cx}
def rSetTx (P : Program) (w : World) (K : PySem.W.Frag) : List V→Hp→VK→Prop:=fun xs H Q=>∃ (p : Addr) (ss : List Str),xs = [.ref p]∧SqL K H p (ss.map V.str)∧ss.length ≤ 1000∧∀ D,H D = none→Q (.ref D) (upd H D (SetTx P w D ss))
theorem call_setTx (hc : X.calm = true) : CallR X (.type "set") (rSetTx X.prog X.w X.K):=by
  intro pins s σ H xs us Q I r h
  obtain ⟨p,ss,rfl,hq,hl,q⟩:=h
  obtain ⟨u,rfl,rx⟩:=r.one
  cases rx
  obtain ⟨its,rv,pl,hz⟩:=I.list hq
  have hlen:=rv.length
  rw [List.length_map] at hlen
  refine call_set_texts (I.ok.hd hc) pl.isList (by rw [List.size_toArray]; exact hlen) (fun i v hv=>?_) (by rw [List.size_toArray,← hlen]; unfold scanBound; omega) fun h' tk x kp=>?_
  · have hv' : its[i]? = some v:=by simpa using hv
    have hi : i < ss.length:=by rw [hlen]; exact (List.getElem?_eq_some_iff.mp hv').1
    obtain ⟨u,hu,t,rfl⟩:=rv.get (i:=i) (x:=.str ss[i]) (by rw [List.getElem?_map,List.getElem?_eq_getElem hi]; rfl)
    rw [hv'] at hu
    cases hu
    exact ⟨t,by rw [List.getD_eq_getElem?_getD,List.getElem?_eq_getElem hi]; rfl⟩
  · have e : ∃ o,h'.get? s.heap.objs.size = some o:=by
      obtain ⟨o,_,_,_,ho,_⟩:=x
      exact ⟨o,ho⟩
    exact ⟨.ref s.heap.objs.size,_,I.laid (o:=SetTx X.prog X.w s.heap.objs.size ss) (fun b o eo=>kp b o (Heap.lt_size eo) eo) (Nat.le_refl _) (show TextSet X.prog X.w h' s.heap.objs.size ss∧_∧_ from ⟨x,e,fun h1 h2 y k=>y.at k⟩),rfl,q _ (I.hok.fresh (Nat.le_refl _))⟩
theorem call_lenTx : CallR X (.builtin "len") (fun xs H Q=>∃ (D : Addr) (ss : List Str),xs = [.ref D]∧H D = some (SetTx X.prog X.w D ss)∧Q (.int ((metS ss).length : Nat)) H):=by
  intro pins s σ H xs us Q I r h
  obtain ⟨D,ss,rfl,hD,q⟩:=h
  obtain ⟨u,rfl,rx⟩:=r.one
  cases rx
  obtain ⟨x,_⟩:=I.hok D _ hD
  exact len_texts x ⟨.int ((metS ss).length : Nat),H,I.tok _,⟨_,rfl⟩,q⟩
end
end L2
set_option Elab.async false
set_option linter.all false
set_option maxRecDepth 100000
namespace L2
open PySem PySem.Spec PyProof.Rows
theorem cap_at1 {X : Cx} {scope : Scope} {x y : Str} {σ : St} {v : V} (j : Nat) (hf : (y,NameKind.free) ∈ scope.names) (hj : X.N[j]? = some y) (hs : σ[j]? = some (some v)) (hv : Vis X.env.scope y) : Cap X scope [x,y] σ [none,some v] :=
  ⟨rfl,fun i z u h1 h2=>by
    match i,h1,h2 with
    | 0,_,h2=>cases h2
    | 1,h1,h2=>cases h1; cases h2; exact ⟨hf,j,hj,hs,hv⟩
    | i + 2,h1,_=>cases h1⟩
theorem cap_none2 {X : Cx} {scope : Scope} {x y : Str} {σ : St} : Cap X scope [x,y] σ [none,none]:=⟨rfl,fun i z u h1 h2=>by
    match i,h1,h2 with
    | 0,_,h2=>cases h2
    | 1,_,h2=>cases h2
    | i + 2,h1,_=>cases h1⟩
section
variable {X : Cx} {a b e : Expr} {es : List Expr} {te : TE} {t : TA} {pos p : Pos} {x : Str}
theorem ve_held {k : Nat} (hr : Room k X.A) (hf : VE X (.Name x p) te) (ha : VA X (e :: es) t) (hp : plainE e = true:=by rfl) (hpl : (backTo pos (starEach es X.env)).any (·.1) = false:=by rfl) :
    VE X (.Call (.Name x p) (e :: es) [] pos) (tHeld X.prog X.w X.K X.mg X.base k te t):=⟨pe_held hr hf.1 ha.1 (starEach_plain hp) hpl⟩
theorem ve_heldK {P : Program} {w : World} {K : PySem.W.Frag} {mg : Str→Option Value} {base : Heap} {k : Nat} (hr : Room k X.A) (hf : VE X (.Name x p) te) (ha : VA X (e :: es) t) (hp : plainE e = true:=by rfl) (hpl : (backTo pos (starEach es X.env)).any (·.1) = false:=by rfl)
    (h1 : X.prog = P:=by rfl) (h2 : X.w = w:=by rfl) (h3 : X.K = K:=by rfl) (h4 : X.mg = mg:=by rfl) (h5 : X.base = base:=by rfl) :
    VE X (.Call (.Name x p) (e :: es) [] pos) (tHeld P w K mg base k te t):=by
  subst h1 h2 h3 h4 h5
  exact ve_held hr hf ha hp hpl
theorem ix_tupK {K : PySem.W.Frag} (h : X.K = K:=by rfl) : IxR X (rIxT K):=by subst h; exact ix_tup
theorem vg_tupK {K : PySem.W.Frag} {k : Nat} {u : TGs} {n : Nat} (hc : X.calm = true) (h : VGs X es u) (hn : (assignEach es X.env).length = n:=by rfl) (hst : (assignEach es X.env).findIdx? (·.1) = none:=by rfl) (hK : X.K = K:=by rfl) : VG X (.Tuple es k pos) (gTup K n u):=by
  subst hK
  exact vg_tup hc h hn hst
theorem vi_zipT {elts : List Expr} {kt : Nat} {tp : Pos} (hg : Gl X "zip") (hm : X.mg "zip" = none) (ha : VA X [a,b] t) (hp : plainE a = true:=by rfl) (hp2 : plainE b = true:=by rfl) :
    VI X (.Tuple elts kt tp) (.Call (.Name "zip" p) [a,b] [] pos) (iZipT X.K t):=⟨pi_zipT hg hm ha.1 (starEach_plain hp) (starEach_plain (es:=[]) hp2)⟩
theorem vs_asg {tg : Expr} {g : TG} (he : VE X e te) (hg : VG X tg g) (hs : swapsWithSole [tg] e pos.line X.env = pure false:=by rfl) (hw : swappedStores [tg] e X.env = pure none:=by rfl)
    (h1 : (assignEach [tg] X.env).map (·.2) = [assign tg X.env]:=by rfl) : VS X (.Assign [tg] e pos) (tAsg te g):=⟨ps_asg he.1 hg.1 hs hw h1⟩
end
end L2
set_option Elab.async false
set_option linter.all false
set_option maxRecDepth 100000
namespace L2
open PySem PySem.Spec PyProof.Rows
theorem wi_rng1 {ta : TA} {σ : St} {H : Hp} (n : Nat) (h : ∀ R : List V→Hp→Prop,R [.int n] H→ta σ H R) (hn : (n : Int) < 2 ^ 62) (R : It→Hp→Prop)
    (q : ∀ J : It,(∀ H' i x,Same H H'→((List.range n).map fun i : Nat=>V.int (0 + (i : Int)))[i]? = some x→J.go i H'∧∀ y H2,J.yld i H' y H2→H2 = H'∧y = x) →
      (∀ H',Same H H'→J.stop ((List.range n).map fun i : Nat=>V.int (0 + (i : Int))).length H')→R J H) : iRng1 ta σ H R:=by
  refine h _ ⟨n,rfl,by omega,hn,?_⟩
  refine q _ (fun H' i x _ e=>?_) fun H' _=>?_
  · rw [List.getElem?_map] at e
    have hi : i < n:=by
      cases hr : (List.range n)[i]? with
      | none=>rw [hr] at e; cases e
      | some j=>have:=(List.getElem?_eq_some_iff.mp hr).1; rwa [List.length_range] at this
    rw [List.getElem?_range hi] at e
    cases e
    exact ⟨show i < ((n : Int)).toNat from by omega,fun y H2 hy=>hy⟩
  · rw [List.length_map,List.length_range]
    simp [Itr]
theorem slice_to {x : Str} {j : Nat} (h : j ≤ x.length) : (Txt.slice x none (some (j : Int))).cps.toList = x.cps.toList.take j:=by
  have e:=StrLaws.sliceText_to (x:=x) (j:=(j : Int)) ⟨by omega,by rw [Array.length_toList]; exact Int.ofNat_le.mpr h⟩
  show (StrLaws.sliceText x none (some (j : Int))).cps.toList = _
  rw [e]
  simp
theorem slice_from {x : Str} {j : Nat} (h : j ≤ x.length) : (Txt.slice x (some (j : Int)) none).cps.toList = x.cps.toList.drop j:=by
  have e:=StrLaws.sliceText_from (x:=x) (i:=(j : Int)) ⟨by omega,by rw [Array.length_toList]; exact Int.ofNat_le.mpr h⟩
  show (StrLaws.sliceText x (some (j : Int)) none).cps.toList = _
  rw [e]
  simp only [Int.toNat_natCast]
  refine List.take_of_length_le ?_
  rw [List.length_drop]
  omega
def put (x : Str) (a : Nat) (c : Nat) : Str:=Txt.slice x none (some (a : Int)) ++ ⟨#[c]⟩ ++ Txt.slice x (some (a : Int)) none
theorem put_cps {x : Str} {a c : Nat} (h : a ≤ x.length) : (put x a c).cps.toList = x.cps.toList.take a ++ c :: x.cps.toList.drop a:=by
  show ((Txt.slice x none (some (a : Int))).cps ++ #[c] ++ (Txt.slice x (some (a : Int)) none).cps).toList = _
  rw [Array.toList_append,Array.toList_append,slice_to h,slice_from h]
  simp
theorem put_inj {x : Str} {a c d : Nat} (h : a ≤ x.length) (e : put x a c = put x a d) : c = d:=by
  have e1:=congrArg (fun y : Str=>y.cps.toList) e
  simp only [put_cps h] at e1
  have e2:=List.append_cancel_left e1
  exact (List.cons.inj e2).1
theorem put_len {x : Str} {a c : Nat} (h : a ≤ x.length) : (put x a c).length = x.length + 1:=by
  have e:=congrArg List.length (put_cps (c:=c) h)
  have l : x.length = x.cps.toList.length:=by rw [Array.length_toList]; rfl
  rw [Array.length_toList,List.length_append,List.length_cons,List.length_take,List.length_drop] at e
  show (put x a c).cps.size = _
  omega
theorem put_mem {x : Str} {a c d : Nat} (h : a ≤ x.length) (m : d ∈ (put x a c).cps) : d = c ∨ d ∈ x.cps:=by
  have m1 : d ∈ (put x a c).cps.toList:=Array.mem_toList_iff.mpr m
  rw [put_cps h] at m1
  rcases List.mem_append.mp m1 with z | z
  · exact .inr (Array.mem_toList_iff.mp (List.mem_of_mem_take z))
  · rcases List.mem_cons.mp z with z | z
    · exact .inl z
    · exact .inr (Array.mem_toList_iff.mp (List.mem_of_mem_drop z))
end L2
set_option Elab.async false
set_option linter.all false
set_option maxRecDepth 100000
namespace L2
open PySem PySem.Spec PyProof.Rows
section
variable {X : Cx} {scope : Scope} {N : List Str} {wi : TI} {te : TE} {σ : St} {H : Hp} {Q : VK}
theorem ix_listK {K : PySem.W.Frag} (h : X.K = K:=by rfl) : IxR X (rIxL K):=by subst h; exact ix_list
end
end L2
set_option Elab.async false
set_option linter.all false
set_option maxRecDepth 100000
namespace L2
open PySem PySem.Spec PyProof.Rows
section
variable {X : Cx} {scope : Scope} {N : List Str} {wi : TI} {te : TE} {σ : St} {H : Hp} {Q : VK}
theorem comp_zipA {K : PySem.W.Frag} {tl : TA} (xs ys : List V) (f : V→V→V) (σ0 : St) (cap : Cap X scope N σ σ0) (hsz : xs.length ≤ sizeLine) (hl : xs.length = ys.length)
    (hw : ∀ R : List V→Hp→Prop,(∀ t u H1,Same H H1→SqT K H1 t xs→SqT K H1 u ys→R [.ref t,.ref u] H1)→tl σ H R)
    (he : ∀ (i : Nat) (x y : V),xs[i]? = some x→ys[i]? = some y→∀ H' R l1 l2,Same H H'→(∀ H2,Same H' H2→R (f x y) H2)→te ((((σ0.set 0 l1).set 1 l2).set 0 (some x)).set 1 (some y)) H' R) (h0 : σ0[0]? = some none) (h1 : σ0[1]? = some none)
    (q : ∀ D H',Same H H'→H' D = some (.lst (List.zipWith f xs ys))→Q (.ref D) H') :
    tComp X scope N (iZipT K tl) (gTup K 2 (gCons (gName 0) (gCons (gName 1) gNil))) tYes te σ H Q:=by
  refine ⟨σ0,cap,hw _ fun t u H1 s1 ht hu=>⟨t,u,xs,ys,rfl,ht,hu,fun D hD=>?_⟩⟩
  refine ⟨fun i m σ' H' zs=>i ≤ xs.length∧m = xs.length - i∧(∃ l1 l2,σ' = (σ0.set 0 l1).set 1 l2)∧Same H1 H'∧H' D = some (.lst zs)∧zs = (List.zipWith f xs ys).take i,⟨xs.length,Nat.zero_le _,rfl,⟨none,none,?_⟩,same_new hD _,upd_same,rfl⟩,?_⟩
  · rw [← set_self0 h0]; exact set_self0 h1
  rintro i m σ' H' zs ⟨hi,rfl,⟨l1,l2,rfl⟩,sm,hL,rfl⟩
  refine ⟨hL,?_⟩
  by_cases hlt : i < xs.length
  · right
    refine ⟨⟨sm.seqT ht,sm.seqT hu,hlt,by omega⟩,fun v H2 hy=>?_⟩
    obtain ⟨T,a,b,hT,rfl,rfl,ha,hb⟩:=hy
    have s2 : Same H' (upd H' T (.tup [a,b])):=same_new hT _
    refine ⟨T,[a,b],rfl,.inl (.inl upd_same),rfl,a,[b],rfl,b,[],rfl,rfl,?_⟩
    unfold tYes
    dsimp only
    rw [if_pos rfl]
    refine he i a b ha hb _ _ l1 l2 (fun b o e=>s2 _ _ (sm _ _ (s1 _ _ e))) fun H3 s3=>⟨s3 _ _ (s2 _ _ hL),?_,xs.length - (i + 1),by omega,hlt,rfl,⟨some a,some b,?_⟩,?_,upd_same,?_⟩
    · rw [List.length_take,List.length_zipWith]; omega
    · rw [List.set_comm _ _ (show (1 : Nat) ≠ 0 by decide),List.set_set,List.set_set]
    · intro c o e
      rw [upd_ne (ne_of_none e hD)]
      exact s3 _ _ (s2 _ _ (sm _ _ e))
    · rw [List.take_add_one,List.getElem?_zipWith,ha,hb]
      rfl
  · left
    have e : i = xs.length:=by omega
    subst e
    refine ⟨⟨sm.seqT ht,Nat.le_refl _⟩,?_⟩
    rw [List.take_of_length_le (by rw [List.length_zipWith]; omega)] at hL
    exact q D _ (s1.trans sm) hL
end
end L2
set_option Elab.async false
set_option linter.all false
set_option maxRecDepth 100000
namespace L2
open PySem PySem.Spec PyProof.Rows
section
variable {X : Cx} {e : Expr} {es : List Expr} {t : TA} {pos : Pos}
def tTupA (t : TA) : TE:=fun σ H Q=>t σ H fun xs H1=>xs.length ≤ sizeLine∧∀ p H',H1 p = none→Same H1 H'→H' p = some (.tup xs)→Q (.ref p) H'
def tLstA (t : TA) : TE:=fun σ H Q=>t σ H fun xs H1=>xs.length ≤ sizeLine∧∀ p H',H1 p = none→Same H1 H'→H' p = some (.lst xs)→Q (.ref p) H'
theorem ve_tupA {x1} (h : VA X es t) : VE X (.Tuple es x1 pos) (tTupA t):=⟨by
  intro pins s σ H Q I hq
  refine wpAny_Tuple_spliced (thn (h.1 pos pins s σ H _ I hq) fun us s1 ⟨xs,H1,I1,r,z,q⟩=>⟨by rw [← r.length]; exact z,?_⟩)
  have hf : H1 s1.heap.objs.size = none:=I1.hok.fresh (Nat.le_refl _)
  refine ⟨.ref s1.heap.objs.size,upd H1 s1.heap.objs.size (.tup xs),I1.laid (t':=s1.toks) (fun b u e=>Heap.get?_push_of_some _ e) (Nat.le_refl _) ?_,rfl,q _ _ hf (same_new hf _) upd_same⟩
  exact ⟨z,us,r,.of (Heap.get?_push_size _ rfl) rfl ⟨_,Heap.get?_push_size _ rfl,rfl,_,rfl⟩⟩⟩
theorem ve_lstA (h : VA X es t) : VE X (.List es pos) (tLstA t):=⟨by
  intro pins s σ H Q I hq
  refine wpAny_List_spliced (thn (h.1 pos pins s σ H _ I hq) fun us s1 ⟨xs,H1,I1,r,z,q⟩=>⟨by rw [← r.length]; exact z,?_⟩)
  have hf : H1 s1.heap.objs.size = none:=I1.hok.fresh (Nat.le_refl _)
  refine ⟨.ref s1.heap.objs.size,upd H1 s1.heap.objs.size (.lst xs),I1.laid (t':=s1.toks) (fun b u e=>Heap.get?_push_of_some _ e) (Nat.le_refl _) ?_,rfl,q _ _ hf (same_new hf _) upd_same⟩
  exact ⟨z,us,0,r,Heap.get?_push_size _ rfl⟩⟩
theorem OpR.imp {f : Value→Value→Sem Value} {r r' : R2} (h : OpR X f r) (k : ∀ x y H Q,r' x y H Q→r x y H Q) : OpR X f r':=fun pins s σ H x y v u Q I rx ry q=>h pins s σ H x y v u Q I rx ry (k _ _ _ _ q)
theorem CallR.imp {f : Value} {r r' : List V→Hp→VK→Prop} (h : CallR X f r) (k : ∀ xs H Q,r' xs H Q→r xs H Q) : CallR X f r':=fun pins s σ H xs us Q I rv q=>h pins s σ H xs us Q I rv (k _ _ _ q)
def rCatA (K : PySem.W.Frag) : R2:=fun x y H Q=>∃ a b xs ys,x = .ref a∧y = .ref b∧SqT K H a xs∧SqT K H b ys∧xs.length + ys.length ≤ sizeLine∧∀ r H',Same H H'→SqT K H' r (xs ++ ys)→Q (.ref r) H'
theorem op_catA : OpR X (binaryOp .Add) (rCatA X.K):=OpR.imp (op_catT.or op_catE) fun x y H Q ⟨a,b,xs,ys,ex,ey,ha,hb,hz,q⟩=>by
  by_cases h : xs = []
  · subst h
    exact .inr ⟨a,b,ys,ex,ey,ha,hb,q b H (Same.refl H) hb⟩
  · refine .inl ⟨a,b,xs,ys,ex,ey,ha,hb,h,hz,fun z=>?_,fun _ p hp=>q p _ (same_new hp _) (SqT.of upd_same)⟩
    subst z
    exact q a H (Same.refl H) (by rw [List.append_nil]; exact ha)
def rSlA (K : PySem.W.Frag) : V→Option Int→Option Int→Hp→VK→Prop:=fun x lo hi H Q=>∃ a xs,x = .ref a∧SqT K H a xs ∧
  ¬ (HT.sIx xs.length 0 lo = 0∧HT.sIx xs.length xs.length hi = xs.length)∧∀ p H',Same H H'→H' p = some (.tup (cutV xs lo hi))→Q (.ref p) H'
theorem sl_tupA : SlR X (rSlA X.K):=fun pins s σ H x v vl vu lo hi sl Q I rx hs pl pu ⟨a,xs,e,ha,hn,q⟩ =>
  sl_tup pins s σ H x v vl vu lo hi sl Q I rx hs pl pu ⟨a,xs,e,ha,hn,fun p hp=>q p _ (same_new hp _) upd_same⟩
def rCatLA : R2:=fun x y H Q=>∃ l b xs zs,x = .ref l∧y = .ref b∧H l = some (.lst xs)∧H b = some (.lst zs)∧xs.length + zs.length ≤ sizeLine∧∀ p H',H p = none→Same H H'→H' p = some (.lst (xs ++ zs))→Q (.ref p) H'
theorem op_catLA : OpR X (binaryOp .Add) rCatLA:=OpR.imp op_cat fun x y H Q ⟨l,b,xs,zs,ex,ey,hl,hb,hz,q⟩=>⟨l,b,xs,zs,ex,ey,hl,hb,hz,fun p hp=>q p _ hp (same_new hp _) upd_same⟩
def rListA (K : PySem.W.Frag) : List V→Hp→VK→Prop:=fun xs H Q=>∃ p ys,xs = [.ref p]∧(SqL K H p ys ∨ SqT K H p ys)∧∀ l H',H l = none→Same H H'→H' l = some (.lst ys)→Q (.ref l) H'
theorem call_listA : CallR X (.type "list") (rListA X.K):=CallR.imp call_list_of fun xs H Q ⟨p,ys,e,h,q⟩=>⟨p,ys,e,h,fun l hl=>q l _ hl (same_new hl _) upd_same⟩
def rTupleA (K : PySem.W.Frag) : List V→Hp→VK→Prop:=fun xs H Q=>∃ p ys,xs = [.ref p]∧SqL K H p ys∧∀ l H',H l = none→Same H H'→H' l = some (.tup ys)→Q (.ref l) H'
theorem call_tupleA : CallR X (.type "tuple") (rTupleA X.K):=CallR.imp call_tuple_of fun xs H Q ⟨p,ys,e,h,q⟩=>⟨p,ys,e,.inl ⟨h,fun l hl=>q l _ hl (same_new hl _) upd_same⟩⟩
theorem mt_appendR : MtR X "list.append" rAppend:=mt_append
theorem same_upd {H H' : Hp} {D : Addr} {o : HO} (f : H D = none) (s : Same H H') : Same H (upd H' D o):=fun b u e=>by rw [upd_ne (ne_of_none e f)]; exact s _ _ e
end
end L2
set_option Elab.async false
set_option linter.all false
set_option maxRecDepth 100000
namespace PySem
section
variable {prog : Program} {w : World} {A : Around} {E : Value→Shared→Prop} {s : Shared} {T : String} {r d : Addr} {n : Nat} {P : Nat→Value→Prop} {OK : Heap→Prop}
theorem collect_kdl {Q : List Value→Shared→Prop} (Kd : PySem.W.KdlSrc prog w T r d n P OK) (hh : A.handled = none) (hok : OK s.heap)
    (hQ : ∀ h' tk acc,(∀ b o,s.heap.get? b = some o→h'.get? b = some o)→ItemsOf P acc n→Q acc.toList { s with heap:=h',toks:=tk }) (hn : n ≤ sizeLine) :
    wpAny (model prog w) A (collect (.ref r)) Q E s:=by
  unfold collect
  refine wpAny_bind (wpAny_runValue (codeAny_builtin F.entry_proto_collect ?_))
  rw [Around.under_plainId F.plain_proto_collect _]
  show wpAny _ A.in1 (newList [] >>= fun l=>again (.builtin "list.__iadd__" ⟨[l,.ref r],[]⟩)) _ _ s
  refine wpAny_bind (wpAny_newObj_type ?_)
  refine wpAny_pure ⟨plainId_quiet F.plain_list_iadd _,codeAny_builtin F.entry_list_iadd ?_⟩
  rw [Around.under_plainId F.plain_list_iadd _]
  show wpAny _ A.in1 (Builtin.List.listExtendWith (.ref s.heap.objs.size) (.ref r) (.ref s.heap.objs.size)) _ _ _
  have hS : (s.heap.push { cls:=.type "list",data:=.seq ([] : List Value).toArray }).get? s.heap.objs.size = some { cls:=.type "list",data:=.seq #[] 0 }:=Heap.get?_push_size _ rfl
  have hlt:=Kd.there _ hok
  have fin' : ∀ h' tk acc' c',(∀ b o,b ≠ s.heap.objs.size→(s.heap.push { cls:=.type "list",data:=.seq ([] : List Value).toArray }).get? b = some o→h'.get? b = some o) →
      h'.get? s.heap.objs.size = some { cls:=.type "list",dict:=none,data:=.seq acc' c',slots:=#[] }→ItemsOf P acc' n →
      wpAny (model prog w) A (match Value.ref s.heap.objs.size with
      | Value.ref a=>do
        match (← load a).data with
          | Data.seq xs _=>pure xs.toList
          | _=>unsupported "internal:collect"
      | _=>unsupported "internal:collect") Q E { s with heap:=h',toks:=tk }:=by
    intro h' tk acc' c' kp hS' hacc
    show wpAny _ A (load s.heap.objs.size >>= _) _ _ _
    refine wpAny_bind (wpAny_load hS' ?_)
    refine wpAny_pure ?_
    exact hQ h' tk acc' (fun b o e=>kp b o (Nat.ne_of_lt (Heap.lt_size e)) (Heap.get?_push_of_some _ e)) hacc
  refine wpAny_mono (PySem.W.kdl_extend (A:=A) (R:=fun q s'=>∃ h' tk acc' c',q = .ok (.ret (.ref s.heap.objs.size))∧s' = { s with heap:=h',toks:=tk }∧(∀ b o,b ≠ s.heap.objs.size→(s.heap.push { cls:=.type "list",data:=.seq ([] : List Value).toArray }).get? b = some o→h'.get? b = some o) ∧
      h'.get? s.heap.objs.size = some { cls:=.type "list",dict:=none,data:=.seq acc' c',slots:=#[] }∧ItemsOf P acc' n)
    (s:={ s with heap:=s.heap.push { cls:=.type "list",data:=.seq ([] : List Value).toArray } }) Kd hh (Kd.keep _ _ hok fun b _ o e=>Heap.get?_push_of_some _ e) s.heap.objs.size (Nat.ne_of_gt hlt.1) (Nat.ne_of_gt hlt.2) (.ref s.heap.objs.size) 0 hS
      (fun h' tk acc' c' kp hS' hacc=>⟨h',tk,acc',c',rfl,rfl,kp,hS',hacc⟩) hn) (fun fin s' h=>?_) (fun e s' h=>?_)
  · cases fin with
    | done f =>
      obtain ⟨h',tk,acc',c',e,rfl,kp,hS',hacc⟩:=h
      cases e
      exact fin' h' tk acc' c' kp hS' hacc
    | again c'=>exact ⟨h.1,codeAny_mono h.2 fun q s'' hr=>by
        obtain ⟨h',tk,acc',c',rfl,rfl,kp,hS',hacc⟩:=hr
        exact fin' h' tk acc' c' kp hS' hacc⟩
  · obtain ⟨_,_,_,_,e,_⟩:=h
    cases e
end
theorem meets_tuple_new_dict {prog : Program} {w : World} (d : Addr) (kvs : List (Str × Value)) (lo : (d == sysModules) = false) (hn : kvs.length ≤ sizeLine) :
    MeetsIn prog w (Builtin.«tuple.__new__» ⟨[.type "tuple",.ref d],[]⟩)
      (fun A R s=>A.handled = none∧(s.heap.DictOf (strKind prog w) d kvs)∧∀ (h' : Heap) (tk : Nat) (acc : Array Value),(∀ b o,s.heap.get? b = some o→h'.get? b = some o) →
        ItemsOf (fun i v=>∃ k x t,kvs[i]? = some (k,x)∧v = .str k t) acc kvs.length→R (.ok (.ret (.ref h'.objs.size))) { s with heap:=h'.push { cls:=.type "tuple",data:=.seq acc },toks:=tk }) :=
  .of_wp fun A R s h=>by
    obtain ⟨hh,hm,h⟩:=h
    have hsub:=sub_tuple_self
    have hinit:=init_tuple_lookup
    have hmh:=madeHere_tuple
    have hT : s.TypeIs (.ref d) "dict":=hm.typeIs
    have hh1 : A.in1.handled = none:=hh
    obtain ⟨ep,hat⟩:=hm.dictAt
    obtain ⟨o,es,ho,hx⟩:=id hat
    wp_walk using AutoSeq1.wpAny_loadPart' ho,wpAny_typeOf hT,collect_kdl (hn:=hn) (PySem.W.kdl_dict (knd:=strKind prog w) (kvs:=kvs) (ep:=ep) lo) hh1 hat
    intro h' tk acc kp hacc
    show wpAny _ _ (Builtin.Tuple.tupleExact acc.toList.toArray >>= fun v=>ret v) _ _ _
    unfold Builtin.Tuple.tupleExact
    refine wpAny_bind (wpAny_newObj_type ?_ (show acc.toList.toArray.size ≤ sizeLine by simp only [Array.toArray_toList]; rw [hacc.1]; exact hn))
    refine wpAny_pure ⟨_,rfl,?_⟩
    have e : acc.toList.toArray = acc:=by simp
    rw [e]
    refine h h' tk acc kp ⟨hacc.1,fun j v hv=>?_⟩
    obtain ⟨k,x,e1,e2⟩:=hacc.2 j v hv
    obtain ⟨t,rfl⟩:=Value.isStrOf_shape (x:=k) (v:=v) e2
    exact ⟨k,x,t,e1,rfl⟩
end PySem
namespace L2
open PySem PySem.Spec PyProof.Rows
def DctK (w : World) (K : PySem.W.Frag) (d : Addr) (kvs : List (Str × Addr)) : Prop:=∃ o,K.lookup d = some o∧(d == sysModules) = false∧∀ P : Program,o.IsDictOf (strKind P w) (kvs.map fun p=>(p.1,Value.ref p.2))
section
variable {X : Cx}
def rIxD (w : World) (K : PySem.W.Frag) : R2:=fun x y H Q=>∃ d kvs k p,x = .ref d∧y = .str k∧DctK w K d kvs∧(kvs.find? fun q=>decide (q.1 = k)).map (·.2) = some p∧Q (.ref p) H
theorem find_ref (kvs : List (Str × Addr)) (k : Str) {p : Addr} (h : (kvs.find? fun q=>decide (q.1 = k)).map (·.2) = some p) : valueAt (kvs.map fun q=>(q.1,Value.ref q.2)) k = some (.ref p):=by
  unfold valueAt
  rw [List.find?_map]
  cases e : kvs.find? fun q=>decide (q.1 = k) with
  | none=>rw [e] at h; cases h
  | some q =>
    rw [e] at h
    have h : q.2 = p:=Option.some.inj h
    have e' : kvs.find? ((fun kv : Str × Value=>decide (kv.1 = k)) ∘ fun q=>(q.1,Value.ref q.2)) = some q:=e
    rw [e',← h]
    rfl
theorem ix_dctK : IxR X (rIxD X.w X.K):=by
  intro value slice pins s σ H x y v u Q I rx ry h hs
  obtain ⟨d,kvs,k,p,rfl,rfl,⟨o,hk,lo,hd⟩,hp,q⟩:=h
  cases rx
  obtain ⟨t,rfl⟩:=ry
  have hm : s.heap.DictOf (strKind X.prog X.w) d (kvs.map fun p=>(p.1,Value.ref p.2)):=Heap.dictOf_iff.mpr ⟨o,I.kIn _ _ hk,hd _⟩
  exact tail_any hm.typeIs slot_dict_getitem.lookup (wpAny_getItem_of (strKind_is _ _ _ _) hm.mapOf (find_ref kvs k hp) ⟨.ref p,H,I.tok _,rfl,q⟩) hs
def rTupD (w : World) (K : PySem.W.Frag) : List V→Hp→VK→Prop:=fun xs H Q=>∃ d kvs,xs = [.ref d]∧DctK w K d kvs∧kvs.length ≤ 1000∧∀ p H',Same H H'→H' p = some (.tup (kvs.map fun q=>V.str q.1))→Q (.ref p) H'
theorem vals_keys : ∀ (kvs : List (Str × Value)) (vs : List Value),vs.length = kvs.length→(∀ (j : Nat) (v : Value),vs[j]? = some v→∃ k x t,kvs[j]? = some (k,x)∧v = .str k t)→Vals (kvs.map fun q=>V.str q.1) vs
  | [],[],_,_=>.nil
  | (k,x) :: r,v :: vs,hl,h=>by
    obtain ⟨k',x',t,e,rfl⟩:=h 0 v rfl
    cases e
    exact .cons ⟨t,rfl⟩ (vals_keys r vs (by simpa using hl) fun j u e=>h (j + 1) u e)
theorem call_tupD (hc : X.calm = true) : CallR X (.type "tuple") (rTupD X.w X.K):=by
  intro pins s σ H xs us Q I r h
  obtain ⟨d,kvs,rfl,⟨o,hk,lo,hd⟩,hl,q⟩:=h
  obtain ⟨u,rfl,ru⟩:=vals1 r
  cases ru
  have hm : s.heap.DictOf (strKind X.prog X.w) d (kvs.map fun p=>(p.1,Value.ref p.2))  :=Heap.dictOf_iff.mpr ⟨o,I.kIn _ _ hk,hd _⟩
  have hn : (kvs.map fun p=>(p.1,Value.ref p.2)).length ≤ sizeLine:=small (by rw [List.length_map]; exact hl)
  refine callType_newIn F.called_tuple (by decide) (F.typeCall_tuple_1 _) (F.newCall_tuple_1 _) (fun obj=>F.args_object_init_2 obj _) F.entry_tuple_new
    (meets_tuple_new_dict d _ lo hn) ⟨I.ok.hd hc,hm,fun h' tk acc kp hacc=>⟨⟨_,Heap.get?_push_size _ rfl,rfl⟩,?_⟩⟩
  have hv:=vals_keys (kvs.map fun p=>(p.1,Value.ref p.2)) acc.toList (by rw [Array.length_toList]; exact hacc.1) fun j v e=>hacc.2 j v (by rw [← Array.getElem?_toList]; exact e)
  rw [List.map_map] at hv
  have hv : Vals (kvs.map fun q=>V.str q.1) acc.toList:=hv
  have I1 : Inv X pins σ H { s with heap:=h',toks:=tk }:=I.kept (t':=tk) kp
  refine ⟨.ref h'.objs.size,_,I1.laid (t':=tk) (o:=.tup (kvs.map fun q=>V.str q.1)) (fun b ob e=>Heap.get?_push_of_some _ e) (Nat.le_refl _) ?_,rfl,q _ _ (same_new (I1.hok.fresh (Nat.le_refl _)) _) upd_same⟩
  have ea : acc.toList.toArray = acc:=by simp
  refine ⟨small (by rw [List.length_map]; exact hl),acc.toList,hv,?_⟩
  rw [ea]
  exact .of (Heap.get?_push_size _ rfl) rfl ⟨_,Heap.get?_push_size _ rfl,rfl,_,rfl⟩
end
end L2
set_option Elab.async false
set_option linter.all false
set_option maxRecDepth 100000
namespace L2
open PySem PySem.Spec PyProof.Rows
section
variable {X : Cx} {pins : List (Addr × Obj)} {σ : St} {H : Hp} {s : Shared}
end
def Ite (K : PySem.W.Frag) (l : Addr) (xs : List V) : It :=
  ⟨fun i H=>SqL K H l xs∧i < xs.length,fun i H v H'=>∃ T a,H T = none∧v = .ref T∧H' = upd H T (.tup [.int (i : Nat),a])∧xs[i]? = some a,fun i H=>SqL K H l xs∧xs.length ≤ i⟩
def etn (e it l : Addr) (i : Nat) (h : Heap) : Prop:=(∃ old,IsEnum h e it (i : Int) old)∧h.IsListIter it l i
theorem turn_enum {P : Program} {w : World} {K : PySem.W.Frag} {elts : List Expr} {kt : Nat} {pos : Pos} {e it l : Addr} {xs : List V} (hne : e ≠ it) :
    Turn P w K (.Tuple elts kt pos) (Ite K l xs) [e,it] e (etn e it l) where
  mem:=by simp
  obj:=fun i h st b hb=>by
    obtain ⟨⟨old,e1⟩,o,e2,c2,d2⟩:=st
    simp only [List.mem_cons,List.not_mem_nil,or_false] at hb
    rcases hb with rfl | rfl
    · exact ⟨_,e1,fun v z=>by cases (show Data.fields _ = Data.cell v from z)⟩
    · exact ⟨_,e2,fun v z=>by rw [d2] at z; cases z⟩
  keep:=fun i h h' st k=>by
    obtain ⟨⟨old,e1⟩,o,e2,r⟩:=st
    exact ⟨⟨old,k e (by simp) _ e1⟩,o,k it (by simp) _ e2,r⟩
  item:=by
    intro X hP hw hK hc i pins s σ H E I hf st hg
    subst hP hw hK
    obtain ⟨⟨old,e1⟩,e2⟩:=st
    obtain ⟨hl,l1⟩:=hg
    obtain ⟨its,rv,pl,hz⟩:=I.list hl
    obtain ⟨x,hx,rx⟩:=rv.get (List.getElem?_eq_getElem l1)
    have fe:=hf e (by simp)
    have fi:=hf it (by simp)
    refine wpAny_pyNext_enum_item e1 e2 pl.isList (by simpa using hx) hne fun h' a1 a2 a3 a4 kp=>?_
    refine ⟨_,rfl,?_⟩
    have fT : H s.heap.objs.size = none:=I.hok.fresh (Nat.le_refl _)
    obtain ⟨oi,e2',_⟩:=id e2
    obtain ⟨oi2,a2',_⟩:=id a2
    have I1 : Inv X pins σ (upd H s.heap.objs.size (.tup [.int (i : Nat),xs[i]])) { s with heap:=h' }:=by
      refine I.drawn (ch:=[e,it]) (its:=[.int i s.toks,x]) (fun b hb=>hf b hb) (fun b o hb z=>?_) (Nat.le_refl _) (.cons ⟨_,rfl⟩ (.cons rx .nil)) (small (by simp)) (.of a3 rfl ⟨_,a3,rfl,_,rfl⟩) (fun b hb=>?_)
      · simp only [List.mem_cons,List.not_mem_nil,or_false,not_or] at hb
        exact kp b o hb.1 hb.2 z
      · simp only [List.mem_cons,List.not_mem_nil,or_false] at hb
        rcases hb with rfl | rfl
        · exact ⟨_,a1⟩
        · exact ⟨_,a2'⟩
    have I1' : Inv X pins σ (upd H s.heap.objs.size (.tup [.int (i : Nat),xs[i]])) { s with heap:=h',toks:=s.toks + 1 }:=I1.tok _
    have nT : ∀ b ∈ [e,it],b ≠ s.heap.objs.size:=fun b hb=>by
      simp only [List.mem_cons,List.not_mem_nil,or_false] at hb
      rcases hb with rfl | rfl
      · exact Nat.ne_of_lt (Heap.lt_size e1)
      · exact Nat.ne_of_lt (Heap.lt_size e2')
    refine wpAny_letOwnedTupleGo_enum (s:={ s with heap:=h',toks:=s.toks + 1 }) a1 fun h2 z2 s2=>?_
    obtain ⟨g0,g1,g2,g3,g4,g5⟩:=fe
    have I2 : Inv X pins σ (upd H s.heap.objs.size (.tup [.int (i : Nat),xs[i]])) { s with heap:=h2,toks:=s.toks + 1 }:=Inv.turned (s:={ s with heap:=h',toks:=s.toks + 1 }) I1' (t':=s.toks + 1) (it:=e) (fun b o hb z=>(s2.2 b hb).trans z) (by rw [upd_ne (nT e (by simp))]; exact g0) g1 g3 g4 g5
    refine ⟨.ref s.heap.objs.size,_,I2,rfl,⟨_,_,fT,rfl,rfl,List.getElem?_eq_getElem l1⟩,⟨⟨x,?_⟩,?_⟩,fun b hb=>by rw [upd_ne (nT b hb)]; exact (hf b hb).1⟩
    · rw [show ((i + 1 : Nat) : Int) = (i : Int) + 1 from by omega]
      exact z2
    · obtain ⟨o,ho,r⟩:=a2
      exact ⟨o,(s2.2 it (Ne.symm hne)).trans ho,r⟩
  done:=by
    intro X hP hw hK hc i pins s σ H E I hf st hg
    subst hP hw hK
    obtain ⟨⟨old,e1⟩,e2⟩:=st
    obtain ⟨hl,hi⟩:=hg
    obtain ⟨its,rv,pl,hz⟩:=I.list hl
    have hlen:=rv.length
    refine wpAny_pyNext_enum_end (I.ok.hd hc) e1 e2 pl.isList (by simp; omega) fun h' kp=>⟨rfl,?_⟩
    refine Inv.turnedL (ch:=[it]) I (fun b hb=>hf b (List.mem_cons_of_mem _ hb)) fun b o hb z=>kp b o (by simpa using hb) z
  self:=fun _ _ _ _ _ st h=>by
    obtain ⟨⟨old,e1⟩,_⟩:=st
    exact wpAny_pyIter_enum e1 h
section
variable {X : Cx}
def iEnum (K : PySem.W.Frag) (ta : TA) : TI:=fun σ H R=>ta σ H fun vs H1=>∃ l xs,vs = [.ref l]∧SqL K H1 l xs∧R (Ite K l xs) H1
theorem pi_enum {elts : List Expr} {kt : Nat} {tp : Pos} {a : Expr} {ta : TA} {p pos : Pos} (hg : Gl X "enumerate") (hm : X.mg "enumerate" = none) (ha : PA X [a] ta) (hs : starEach [a] X.env = [(false,eval a X.env)]:=by rfl) :
    PI X (.Tuple elts kt tp) (.Call (.Name "enumerate" p) [a] [] pos) (iEnum X.K ta):=by
  intro pins s σ H R I h
  refine Call_ (ld_blt I hg hm bt_enumerate (PyProof.Rows.callWith_type1 (thn (ha pos pins s σ H _ I h) fun us s1 ⟨vs,H1,I1,r1,q1⟩=>?_) hs (by rfl)))
  obtain ⟨l,xs,e,hl,q⟩:=q1
  subst e
  obtain ⟨its,rv,pl,hz⟩:=I1.list hl
  obtain ⟨u,rfl,ru⟩:=vals1 r1
  cases ru
  refine call_enumerate_list pl.isList fun h' a1 a2 a3 kp=>?_
  have I2 : Inv X pins σ H1 { s1 with heap:=h' }:=I1.kept (t':=s1.toks) kp
  refine wpAny_pyIter_enum (s:={ s1 with heap:=h' }) a1 ⟨_,_,_,_,H1,rfl,I2,turn_enum (xs:=xs) (l:=l) (Nat.ne_of_gt (Nat.lt_succ_self _)),⟨⟨_,a1⟩,a2⟩,fun b hb=>?_,q⟩
  have hb' : s1.heap.objs.size ≤ b:=by
    simp only [List.mem_cons,List.not_mem_nil,or_false] at hb
    rcases hb with rfl | rfl
    · exact Nat.le_succ _
    · exact Nat.le_refl _
  exact I1.fpOk hb' (I1.hok.fresh hb')
theorem for_enum {K : PySem.W.Frag} {l : Addr} {xs : List V} {g : TG} {tb : TS} {D : Ends} {σ : St} {H : Hp} (Pv : Nat→St→Hp→Prop) (h0 : Pv 0 σ H) (hl : ∀ i σ H,i ≤ xs.length→Pv i σ H→SqL K H l xs)
    (hs : ∀ i σ H a T H',xs[i]? = some a→Pv i σ H→H T = none→H' = upd H T (.tup [.int (i : Nat),a])→g (.ref T) σ H' fun σ2 H2=>tb { D with nx:=Pv (i + 1),ct:=Pv (i + 1),bk:=D.nx } σ2 H2) (hd : ∀ σ H,Pv xs.length σ H→D.nx σ H) :
    ∃ W : Nat→Nat→St→Hp→Prop,(∃ m,W 0 m σ H)∧∀ i m σ H,W i m σ H →
      ((Ite K l xs).stop i H∧D.nx σ H) ∨ ((Ite K l xs).go i H∧∃ N : St→Hp→Prop,(∀ σ' H',N σ' H'→∃ m',m' < m∧W (i + 1) m' σ' H')∧∀ x H',(Ite K l xs).yld i H x H'→g x σ H' fun σ2 H2=>tb { D with nx:=N,ct:=N,bk:=D.nx } σ2 H2):=by
  refine ⟨fun i m σ H=>m = xs.length - i∧i ≤ xs.length∧Pv i σ H,⟨xs.length,by simp,Nat.zero_le _,h0⟩,?_⟩
  rintro i m σ H ⟨rfl,hi,p⟩
  by_cases hlt : i < xs.length
  · refine .inr ⟨⟨hl i σ H hi p,hlt⟩,Pv (i + 1),fun σ' H' p'=>⟨xs.length - (i + 1),by omega,rfl,hlt,p'⟩,fun x H' y=>?_⟩
    obtain ⟨T,a,hT,rfl,e,ha⟩:=y
    exact hs i σ H a T H' ha p hT e
  · have e : i = xs.length:=by omega
    subst e
    exact .inl ⟨⟨hl _ σ H hi p,Nat.le_refl _⟩,hd σ H p⟩
end
end L2
set_option Elab.async false
set_option linter.all false
set_option maxRecDepth 100000
namespace L2
open PySem PySem.Spec PyProof.Rows
section
variable {X : Cx} {a c e : Expr} {st : Stmt} {body : List Stmt} {tc : TT} {tb : TS} {t : TA} {te : TE} {pos p : Pos}
theorem vs_never : VS X st tNever:=⟨ps_never⟩
theorem vs_while (hp : PassesOwn (model X.prog X.w) X.A X.env X.xe) (hc : VT X c tc) (hb : VSs X body tb) : VS X (.While c body [] pos) (tWhile tc tb):=⟨ps_while hp hc.1 hb.1⟩
theorem vi_enum {elts : List Expr} {kt : Nat} {tp : Pos} (hg : Gl X "enumerate") (hm : X.mg "enumerate" = none) (ha : VA X [a] t) (hp : plainE a = true:=by rfl) :
    VI X (.Tuple elts kt tp) (.Call (.Name "enumerate" p) [a] [] pos) (iEnum X.K t):=⟨pi_enum hg hm ha.1 (starEach_plain (es:=[]) hp)⟩
theorem mt_popR : MtR X "list.pop" rPop:=mt_pop
theorem mt_extendR : MtR X "list.extend" rExtend:=mt_extend
theorem ve_bm0 {o : Expr} {to : TE} {name : Str} {apos cpos : Pos} {T id : String} {r : V→List V→Hp→VK→Prop} (pa : PlainAttrs T) (slot : Slot T name id) (hty : typeOf (.builtin id) = pure (.type "method_descriptor")) (hm : MtR X id r) (ho : VE X o to)
    (hbase : attributeBase o name X.env (eval o X.env) = eval o X.env:=by rfl) (hline : (apos.endLine == cpos.line) = true:=by rfl) : VE X (.Call (.Attribute o name apos) [] [] cpos) (tBM0 X.K T r to):=⟨pe_bm0 pa slot hty hm ho.1 hbase hline⟩
end
section
variable {P : Program} {w : World} {K : PySem.W.Frag} {mg : Str→Option Value} {base : Heap}
theorem Ok.heldAt {k : Nat} {x : Str} {ps : List Str} {sp : Sp} {f : Addr} (G : Ok P w K mg base k x ps sp) (m : mg x = some (.ref f)) : Held P w K mg base k f ps sp:=by
  obtain ⟨g,m',h⟩:=G.held
  rw [m] at m'
  cases m'
  exact h
end
end L2
set_option Elab.async false
set_option linter.all false
set_option maxRecDepth 100000
namespace L2
open PySem PySem.Spec PyProof.Rows
section
variable {X : Cx} {scope : Scope} {N : List Str} {wi : TI} {te : TE} {σ : St} {H : Hp} {Q : VK}
theorem comp_anyI (xs : List V) (Rel : Nat→Hp→V→Prop) (st : ∀ {i H1 H2 y},Same H1 H2→Rel i H1 y→Rel i H2 y) (su : ∀ {i H1 D ys zs y},H1 D = some (.lst ys)→Rel i H1 y→Rel i (upd H1 D (.lst zs)) y)
    (σ0 : St) (cap : Cap X scope N σ σ0) (hsz : xs.length ≤ sizeLine)
    (hw : ∀ R : It→Hp→Prop,(∀ J : It,(∀ H' i x,Same H H'→xs[i]? = some x→J.go i H'∧∀ y H2,J.yld i H' y H2→H2 = H'∧y = x)→(∀ H',Same H H'→J.stop xs.length H')→R J H)→wi σ H R)
    (he : ∀ (i : Nat) (x : V),xs[i]? = some x→∀ H' R l,Same H H'→(∀ y H2,Same H' H2→Rel i H2 y→R y H2)→te ((σ0.set 0 l).set 0 (some x)) H' R) (h0 : σ0[0]? = some none)
    (q : ∀ D H' ys,Same H H'→H' D = some (.lst ys)→ys.length = xs.length→(∀ (i : Nat) (y : V),ys[i]? = some y→Rel i H' y)→Q (.ref D) H') :
    tComp X scope N wi (gName 0) tYes te σ H Q:=by
  refine ⟨σ0,cap,hw _ fun J go stop D hD=>?_⟩
  refine ⟨fun i m σ' H' ys=>i ≤ xs.length∧m = xs.length - i∧(∃ l,σ' = σ0.set 0 l)∧Same H H'∧H' D = some (.lst ys)∧ys.length = i∧∀ (j : Nat) (y : V),ys[j]? = some y→Rel j H' y,⟨xs.length,Nat.zero_le _,rfl,⟨none,set_self0 h0⟩,same_new hD _,upd_same,rfl,fun j y e=>by simp at e⟩,?_⟩
  rintro i m σ' H' ys ⟨hi,rfl,⟨l,rfl⟩,sm,hL,hl,hR⟩
  refine ⟨hL,?_⟩
  by_cases hlt : i < xs.length
  · right
    obtain ⟨g1,g2⟩:=go H' i xs[i] sm (List.getElem?_eq_getElem hlt)
    refine ⟨g1,fun x H2 hy=>?_⟩
    obtain ⟨rfl,rfl⟩:=g2 x H2 hy
    unfold gName tYes
    dsimp only
    rw [if_pos rfl]
    refine he i xs[i] (List.getElem?_eq_getElem hlt) _ _ l sm fun y H3 s3 r3=>⟨s3 _ _ hL,by omega,xs.length - (i + 1),by omega,hlt,rfl,⟨some xs[i],?_⟩,?_,upd_same,?_,?_⟩
    · rw [List.set_set]
    · intro b o e
      rw [upd_ne (ne_of_none e hD)]
      exact s3 _ _ (sm _ _ e)
    · rw [List.length_append,List.length_singleton,hl]
    · intro j z ez
      refine su (s3 _ _ hL) ?_
      by_cases hj : j < ys.length
      · rw [List.getElem?_append_left hj] at ez
        exact st s3 (hR j z ez)
      · rw [List.getElem?_append_right (by omega)] at ez
        have hj0 : j - ys.length = 0:=by
          by_cases z0 : j - ys.length = 0
          · exact z0
          · rw [List.getElem?_eq_none (by simp; omega)] at ez; cases ez
        have hj1 : j = i:=by omega
        subst hj1
        rw [hj0] at ez
        cases ez
        exact r3
  · left
    have e : i = xs.length:=by omega
    subst e
    exact ⟨stop _ sm,q D _ ys sm hL hl hR⟩
theorem comp_ix (xs ys : List V) (hly : ys.length = xs.length) (σ0 : St) (cap : Cap X scope N σ σ0) (hsz : xs.length ≤ sizeLine)
    (hw : ∀ R : It→Hp→Prop,(∀ J : It,(∀ H' i x,Same H H'→xs[i]? = some x→J.go i H'∧∀ y H2,J.yld i H' y H2→H2 = H'∧y = x)→(∀ H',Same H H'→J.stop xs.length H')→R J H)→wi σ H R)
    (he : ∀ (i : Nat) (x y : V),xs[i]? = some x→ys[i]? = some y→∀ H' R l,Same H H'→(∀ H2,Same H' H2→R y H2)→te ((σ0.set 0 l).set 0 (some x)) H' R) (h0 : σ0[0]? = some none)
    (q : ∀ D H',Same H H'→H' D = some (.lst ys)→Q (.ref D) H') :
    tComp X scope N wi (gName 0) tYes te σ H Q:=by
  refine comp_anyI xs (fun i _ y=>ys[i]? = some y) (fun _ h=>h) (fun _ h=>h) σ0 cap hsz hw (fun i x ex H' R l sm r=>?_) h0 fun D H' zs sm hD hl hR=>?_
  · have hi : i < ys.length:=by rw [hly]; exact (List.getElem?_eq_some_iff.mp ex).1
    exact he i x ys[i] ex (List.getElem?_eq_getElem hi) H' R l sm fun H2 s2=>r _ H2 s2 (List.getElem?_eq_getElem hi)
  · have e : zs = ys:=by
      refine List.ext_getElem? fun i=>?_
      by_cases hi : i < zs.length
      · rw [hR i zs[i] (List.getElem?_eq_getElem hi),List.getElem?_eq_getElem hi]
      · rw [List.getElem?_eq_none (by omega),List.getElem?_eq_none (by omega)]
    subst e
    exact q D H' sm hD
theorem comp_zipI {K : PySem.W.Frag} {tl : TA} (xs ys : List V) (Rel : Nat→Hp→V→Prop) (st : ∀ {i H1 H2 y},Same H1 H2→Rel i H1 y→Rel i H2 y) (su : ∀ {i H1 D ys zs y},H1 D = some (.lst ys)→Rel i H1 y→Rel i (upd H1 D (.lst zs)) y)
    (σ0 : St) (cap : Cap X scope N σ σ0) (hsz : xs.length ≤ sizeLine) (hl : xs.length = ys.length)
    (hw : ∀ R : List V→Hp→Prop,(∀ t u H1,Same H H1→SqT K H1 t xs→SqT K H1 u ys→R [.ref t,.ref u] H1)→tl σ H R)
    (he : ∀ (i : Nat) (x y : V),xs[i]? = some x→ys[i]? = some y→∀ H' R l1 l2,Same H H'→(∀ z H2,Same H' H2→Rel i H2 z→R z H2)→te ((((σ0.set 0 l1).set 1 l2).set 0 (some x)).set 1 (some y)) H' R) (h0 : σ0[0]? = some none) (h1 : σ0[1]? = some none)
    (q : ∀ D H' zs,Same H H'→H' D = some (.lst zs)→zs.length = xs.length→(∀ (i : Nat) (z : V),zs[i]? = some z→Rel i H' z)→Q (.ref D) H') :
    tComp X scope N (iZipT K tl) (gTup K 2 (gCons (gName 0) (gCons (gName 1) gNil))) tYes te σ H Q:=by
  refine ⟨σ0,cap,hw _ fun t u H1 s1 ht hu=>⟨t,u,xs,ys,rfl,ht,hu,fun D hD=>?_⟩⟩
  refine ⟨fun i m σ' H' zs=>i ≤ xs.length∧m = xs.length - i∧(∃ l1 l2,σ' = (σ0.set 0 l1).set 1 l2)∧Same H1 H'∧H' D = some (.lst zs)∧zs.length = i∧∀ (j : Nat) (z : V),zs[j]? = some z→Rel j H' z,⟨xs.length,Nat.zero_le _,rfl,⟨none,none,?_⟩,same_new hD _,upd_same,rfl,fun j y e=>by simp at e⟩,?_⟩
  · rw [← set_self0 h0]; exact set_self0 h1
  rintro i m σ' H' zs ⟨hi,rfl,⟨l1,l2,rfl⟩,sm,hL,hlz,hR⟩
  refine ⟨hL,?_⟩
  by_cases hlt : i < xs.length
  · right
    refine ⟨⟨sm.seqT ht,sm.seqT hu,hlt,by omega⟩,fun v H2 hy=>?_⟩
    obtain ⟨T,a,b,hT,rfl,rfl,ha,hb⟩:=hy
    have s2 : Same H' (upd H' T (.tup [a,b])):=same_new hT _
    refine ⟨T,[a,b],rfl,.inl (.inl upd_same),rfl,a,[b],rfl,b,[],rfl,rfl,?_⟩
    unfold tYes
    dsimp only
    rw [if_pos rfl]
    refine he i a b ha hb _ _ l1 l2 (fun b o e=>s2 _ _ (sm _ _ (s1 _ _ e))) fun y H3 s3 r3=>⟨s3 _ _ (s2 _ _ hL),by omega,xs.length - (i + 1),by omega,hlt,rfl,⟨some a,some b,?_⟩,?_,upd_same,?_,?_⟩
    · rw [List.set_comm _ _ (show (1 : Nat) ≠ 0 by decide),List.set_set,List.set_set]
    · intro c o e
      rw [upd_ne (ne_of_none e hD)]
      exact s3 _ _ (s2 _ _ (sm _ _ e))
    · rw [List.length_append,List.length_singleton,hlz]
    · intro j z ez
      refine su (s3 _ _ (s2 _ _ hL)) ?_
      by_cases hj : j < zs.length
      · rw [List.getElem?_append_left hj] at ez
        exact st s3 (st s2 (hR j z ez))
      · rw [List.getElem?_append_right (by omega)] at ez
        have hj0 : j - zs.length = 0:=by
          by_cases z0 : j - zs.length = 0
          · exact z0
          · rw [List.getElem?_eq_none (by simp; omega)] at ez; cases ez
        have hj1 : j = i:=by omega
        subst hj1
        rw [hj0] at ez
        cases ez
        exact r3
  · left
    have e : i = xs.length:=by omega
    subst e
    exact ⟨⟨sm.seqT ht,Nat.le_refl _⟩,q D _ zs (s1.trans sm) hL hlz hR⟩
end
section
variable {X : Cx} {tg e o i : Expr} {te td ty : TE} {pos : Pos}
theorem vi_seq (h : VE X e te) : VI X tg e (fun σ H R=>iList X.K te σ H R ∨ iTup X.K te σ H R):=⟨fun pins s σ H R I q=>q.elim (pi_list h.1 pins s σ H R I) (pi_tup h.1 pins s σ H R I)⟩
theorem ve_dget (hu : X.A.units + 1 < cLine) (ho : VE X o td) (hi : VE X i ty) (hs : NoSl i) : VE X (.Subscript o i pos) (tDGet td ty):=⟨pe_dget hu ho.1 hi.1 hs⟩
end
theorem for_zip {K : PySem.W.Frag} {t u : Addr} {xs ys : List V} {g : TG} {tb : TS} {D : Ends} {σ : St} {H : Hp} (Pv : Nat→St→Hp→Prop) (hxy : xs.length = ys.length) (h0 : Pv 0 σ H) (hl : ∀ i σ H,i ≤ xs.length→Pv i σ H→SqT K H t xs∧SqT K H u ys)
    (hs : ∀ i σ H a b T H',xs[i]? = some a→ys[i]? = some b→Pv i σ H→H T = none→H' = upd H T (.tup [a,b])→g (.ref T) σ H' fun σ2 H2=>tb { D with nx:=Pv (i + 1),ct:=Pv (i + 1),bk:=D.nx } σ2 H2) (hd : ∀ σ H,Pv xs.length σ H→D.nx σ H) :
    ∃ W : Nat→Nat→St→Hp→Prop,(∃ m,W 0 m σ H)∧∀ i m σ H,W i m σ H →
      ((Itz K t u xs ys).stop i H∧D.nx σ H) ∨ ((Itz K t u xs ys).go i H∧∃ N : St→Hp→Prop,(∀ σ' H',N σ' H'→∃ m',m' < m∧W (i + 1) m' σ' H')∧∀ x H',(Itz K t u xs ys).yld i H x H'→g x σ H' fun σ2 H2=>tb { D with nx:=N,ct:=N,bk:=D.nx } σ2 H2):=by
  refine ⟨fun i m σ H=>m = xs.length - i∧i ≤ xs.length∧Pv i σ H,⟨xs.length,by simp,Nat.zero_le _,h0⟩,?_⟩
  rintro i m σ H ⟨rfl,hi,p⟩
  by_cases hlt : i < xs.length
  · refine .inr ⟨⟨(hl i σ H hi p).1,(hl i σ H hi p).2,hlt,by omega⟩,Pv (i + 1),fun σ' H' p'=>⟨xs.length - (i + 1),by omega,rfl,hlt,p'⟩,fun x H' y=>?_⟩
    obtain ⟨T,a,b,hT,rfl,e,ha,hb⟩:=y
    exact hs i σ H a b T H' ha hb p hT e
  · have e : i = xs.length:=by omega
    subst e
    exact .inl ⟨⟨(hl _ σ H hi p).1,Nat.le_refl _⟩,hd σ H p⟩
end L2
namespace L2
open PySem PySem.Spec PyProof.Rows
theorem vt_dnotin {X : Cx} {i o : Expr} {td ty : TE} {pos : Pos} (hu : X.A.units + 1 < cLine) (hi : VE X i ty) (ho : VE X o td) (h1 : behindInMarks .NotIn o = false:=by first | exact nobehind _ (by decide) (by decide) | rfl) : VT X (.Compare i [.NotIn] [o] pos) (tB (tDNotIn ty td)):=⟨pt_cmp (pc_dnotin hu hi.1 ho.1) h1⟩
end L2
namespace L2
open PySem PySem.Spec PyProof.Rows
theorem op_notIn_seqK {X : Cx} {K : PySem.W.Frag} (h : X.K = K:=by rfl) : OpR X (compareOp .NotIn) (rIn K true):=by subst h; exact op_notIn_seq
end L2
namespace L2
open PySem PySem.Spec PyProof.Rows
def sel {α : Type} (p : Nat→Bool) : Nat→List α→List α
  | _,[]=>[]
  | i,x :: r=>if p i then x :: sel p (i + 1) r else sel p (i + 1) r
theorem sel_snoc {α : Type} (p : Nat→Bool) (x : α) : ∀ (k : Nat) (xs : List α),sel p k (xs ++ [x]) = sel p k xs ++ (if p (k + xs.length) then [x] else [])
  | k,[]=>by
    show (if p k then x :: sel p (k + 1) [] else sel p (k + 1) []) = [] ++ (if p (k + 0) then [x] else [])
    rw [Nat.add_zero,List.nil_append]
    rfl
  | k,y :: r=>by
    show (if p k then y :: sel p (k + 1) (r ++ [x]) else sel p (k + 1) (r ++ [x])) = (if p k then y :: sel p (k + 1) r else sel p (k + 1) r) ++ _
    rw [sel_snoc p x (k + 1) r,List.length_cons,show k + 1 + r.length = k + (r.length + 1) by omega]
    split <;> rfl
theorem sel_len {α : Type} (p : Nat→Bool) : ∀ (k : Nat) (xs : List α),(sel p k xs).length ≤ xs.length
  | _,[]=>Nat.le_refl _
  | k,y :: r=>by
    have:=sel_len p (k + 1) r
    show (if p k then y :: sel p (k + 1) r else sel p (k + 1) r).length ≤ r.length + 1
    split
    · rw [List.length_cons]; omega
    · omega
section
variable {X : Cx} {scope : Scope} {N : List Str} {wi : TI} {te : TE} {σ : L2.St} {H : Hp} {Q : VK}
theorem comp_sel {tt : TT} (xs : List V) (p : Nat→Bool) (σ0 : L2.St) (cap : Cap X scope N σ σ0) (hsz : xs.length ≤ sizeLine)
    (hw : ∀ R : It→Hp→Prop,(∀ J : It,(∀ H' i x,Same H H'→xs[i]? = some x→J.go i H'∧∀ y H2,J.yld i H' y H2→H2 = H'∧y = x)→(∀ H',Same H H'→J.stop xs.length H')→R J H)→wi σ H R)
    (ht : ∀ (i : Nat) (x : V),xs[i]? = some x→∀ H' R l,Same H H'→(∀ H2,Same H' H2→R (p i) H2)→tt ((σ0.set 0 l).set 0 (some x)) H' R) (h0 : σ0[0]? = some none)
    (q : ∀ D H',Same H H'→H' D = some (.lst (sel p 0 xs))→Q (.ref D) H') :
    tComp X scope N wi (gName 0) tt (tVar 0) σ H Q:=by
  refine ⟨σ0,cap,hw _ fun J go stop D hD=>?_⟩
  refine ⟨fun i m σ' H' ys=>i ≤ xs.length∧m = xs.length - i∧(∃ l,σ' = σ0.set 0 l)∧Same H H'∧H' D = some (.lst ys)∧ys = sel p 0 (xs.take i),⟨xs.length,Nat.zero_le _,rfl,⟨none,set_self0 h0⟩,same_new hD _,upd_same,rfl⟩,?_⟩
  rintro i m σ' H' ys ⟨hi,rfl,⟨l,rfl⟩,sm,hL,rfl⟩
  refine ⟨hL,?_⟩
  by_cases hlt : i < xs.length
  · right
    obtain ⟨g1,g2⟩:=go H' i xs[i] sm (List.getElem?_eq_getElem hlt)
    refine ⟨g1,fun x H2 hy=>?_⟩
    obtain ⟨rfl,rfl⟩:=g2 x H2 hy
    unfold gName
    dsimp only
    have hj : 0 < σ0.length:=by
      by_cases z : 0 < σ0.length
      · exact z
      · rw [List.getElem?_eq_none (by omega)] at h0; cases h0
    have tk : sel p 0 (xs.take (i + 1)) = sel p 0 (xs.take i) ++ (if p i then [xs[i]] else []):=by
      rw [List.take_add_one,List.getElem?_eq_getElem hlt]
      show sel p 0 (xs.take i ++ [xs[i]]) = _
      rw [sel_snoc,List.length_take,Nat.zero_add,Nat.min_eq_left (Nat.le_of_lt hlt)]
    refine ht i xs[i] (List.getElem?_eq_getElem hlt) _ _ l sm fun H3 s3=>?_
    cases hp : p i with
    | true =>
      rw [if_pos rfl]
      refine ⟨xs[i],by rw [List.set_set,List.getElem?_set_self hj],s3 _ _ hL,?_,xs.length - (i + 1),by omega,hlt,rfl,⟨some xs[i],by rw [List.set_set]⟩,?_,upd_same,?_⟩
      · have:=sel_len p 0 (xs.take i)
        rw [List.length_take] at this
        omega
      · intro b o e
        rw [upd_ne (ne_of_none e hD)]
        exact s3 _ _ (sm _ _ e)
      · rw [tk,hp]; rfl
    | false =>
      rw [if_neg (by simp)]
      refine ⟨s3 _ _ hL,xs.length - (i + 1),by omega,hlt,rfl,⟨some xs[i],by rw [List.set_set]⟩,sm.trans s3,s3 _ _ hL,?_⟩
      rw [tk,hp]
      simp
  · left
    have e : i = xs.length:=by omega
    subst e
    refine ⟨stop _ sm,?_⟩
    rw [List.take_length] at hL
    exact q D _ sm hL
end
end L2
set_option Elab.async false
set_option linter.all false
set_option maxRecDepth 100000
namespace L2
open PySem PySem.Spec PyProof.Rows
theorem ps_setC {X : Cx} {i0 : Nat} {x0 : Str} {pos' spos : Pos} {elt target iter : Expr} {ifs : List Expr} {scope : Scope} {pos : Pos} {N : List Str} {wi : TI} {g : TG} {tt : TT} {te : TE}
    (hN : X.N.Nodup) (hi0 : X.N[i0]? = some x0) (hx0 : Loc X.env.scope x0) (C : CompOk scope N) (hfr : ∀ y,(y,NameKind.free) ∈ scope.names→X.env.kindOf y = some .cell ∨ X.env.kindOf y = some .free) (hc : X.calm = true)
    (hi : PI X target iter wi)
    (hb : ∀ cl s H fp,PG (cxC X N scope cl s H fp) target g∧PIfs (cxC X N scope cl s H fp) ifs tt∧PE (cxC X N scope cl s H fp) elt te)
    (hs : ∀ x,foldedSetIterable iter X.env x = pure x:=by intro _; rfl) (hsw : swapsWith (.ListComp elt [⟨target,iter,ifs,0⟩] scope pos) (some (.Name x0 pos')) spos.line X.env = pure true:=by rfl)
    (hf : X.fn x0 = true ∨ X.env.scope.names.lookup x0 = some .local:=by first | exact .inl rfl | exact .inr rfl | assumption) :
    PS X (.Assign [.Name x0 pos'] (.ListComp elt [⟨target,iter,ifs,0⟩] scope pos) spos) (tAsg (tComp X scope N wi g tt te) (gName i0)):=by
  intro pins s σ H Dn I hq
  obtain ⟨σ0,cap,hq⟩:=hq
  obtain ⟨cl,hcl,p1,p2⟩:=closure_of (scope:=scope) (env:=X.env) (fun y hy hk=>by
    obtain ⟨n,k⟩:=y
    cases hk
    exact I.ok.has n (hfr n hy))
  rw [exec_Assign_Name_used _ _ _ _ hsw]
  refine wpAny_bind (wpAny_standAt (wpAny_bind ?_))
  show wpAny _ X.A (do let _ ← comprehension (.ListComp elt [⟨target,iter,ifs,0⟩] scope pos) scope X.env _ (newList []) false (eval iter X.env) (some (assign (.Name x0 pos') X.env))) _ _ s
  refine wpAny_bind (wpAny_mono (wpAny_comprehension_free (use:=some (assign (.Name x0 pos') X.env)) (Q:=fun _ s'=>SP X pins Dn .next s') rfl hs hcl C.kind C.names (thn (hi pins s σ H _ I hq) fun xv s1 h1=>thn h1 fun itv s2 h2=>?_))
    (fun _ s' hq=>wpAny_pure (wpAny_pure hq)) fun _ _ e=>e)
  obtain ⟨it,fp,tn,J,H2,rfl,I2,T,st2,f2,q2⟩:=h2
  refine wpAny_newObj_type (wpAny_newFunctionEnv C.cell (by intro y hy; simp at hy) (fun h₁ hns₁ hsb₁=>?_) C.kind)
  dsimp only at hns₁ hsb₁ ⊢
  have hD : H2 s2.heap.objs.size = none:=I2.hok.fresh (Nat.le_refl _)
  have I3 : Inv X pins σ (upd H2 s2.heap.objs.size (.lst [])) { s2 with heap:=s2.heap.push { cls:=.type "list",dict:=none,data:=.seq ([] : List Value).toArray } } :=
    I2.laid (t':=s2.toks) (fun b u e=>Heap.get?_push_of_some _ e) (Nat.le_refl _) ⟨Nat.zero_le _,[],0,.nil,Heap.get?_push_size _ rfl⟩
  generalize hs3 : ({ s2 with heap:=s2.heap.push { cls:=.type "list",dict:=none,data:=.seq ([] : List Value).toArray } } : Shared) = s3 at I3
  have hh3 : s2.heap.push { cls:=.type "list",dict:=none,data:=.seq ([] : List Value).toArray } = s3.heap:=by rw [← hs3]
  rw [hh3] at hns₁ hsb₁
  have fl2 : ∀ b ∈ fp,b < s2.heap.objs.size:=fun b hb=>by
    obtain ⟨o,e,_⟩:=T.obj _ _ st2 b hb
    exact Heap.lt_size e
  have fl3 : ∀ b ∈ fp,b < s3.heap.objs.size:=fun b hb=>by
    rw [← hh3,Heap.size_push]
    exact Nat.lt_succ_of_lt (fl2 b hb)
  have f3 : ∀ b ∈ fp,FpOk X pins (upd H2 s2.heap.objs.size (.lst [])) b:=fun b hb=>by
    obtain ⟨f0,fr⟩:=f2 b hb
    exact ⟨by rw [upd_ne (Nat.ne_of_lt (fl2 b hb))]; exact f0,fr⟩
  have keep3 : ∀ b o,s3.heap.get? b = some o→h₁.get? b = some o:=fun b o e=>hsb₁.extBut b o (Nat.ne_of_lt (Heap.lt_size e)) (Heap.get?_push_of_some _ e)
  have I4:=inv_comp (tk:=s3.toks) I3 C hfr p1 p2 cap f3 fl3 hns₁ keep3
  have st4 : tn 0 h₁:=T.keep _ _ _ st2 fun b hb o e=>keep3 b o (by rw [← hh3]; exact Heap.get?_push_of_some _ e)
  obtain ⟨W,⟨m0,w0⟩,turn⟩:=q2 s2.heap.objs.size hD
  have fpc : ∀ {H' : Hp},(∀ b ∈ fp,H' b = none)→∀ b ∈ fp,FpOk (cxC X N scope cl s3 (upd H2 s2.heap.objs.size (.lst [])) fp) [] H' b:=fun {H'} hn b hb=>by
    obtain ⟨e1,e2⟩:=I4.ok.exf b hb
    exact ⟨hn b hb,e1,I4.ok.exfs b hb,.inl hb,e2,fun p hp=>absurd (show p ∈ ([] : List (Addr × Obj)) from hp) (by simp)⟩
  have loop : ∀ s4 : Shared,s4 = { s3 with heap:=h₁,toks:=s3.toks } →
      codeAny (model X.prog X.w) X.A (.compLoop (.ListComp elt [⟨target,iter,ifs,0⟩] scope pos) 0 (.ref it) (.ref s2.heap.objs.size) (compEnvC scope cl s3.heap.objs.size X.env))
        (compPost (model X.prog X.w) X.A X.xe (some (assign (.Name x0 pos') X.env)) (fun _ s'=>SP X pins Dn .next s') (.ref s2.heap.objs.size) s3.heap.objs.size) s4:=by
    rintro s4 rfl
    refine comp_loop (fun n s'=>∃ i σ' H' ys,Inv (cxC X N scope cl s3 (upd H2 s2.heap.objs.size (.lst [])) fp) [] σ' H' s'∧tn i s'.heap∧(∀ b ∈ fp,H' b = none)∧W i n σ' H' ys) ?_ m0 ⟨0,σ0,_,[],I4,st4,fun b hb=>(f3 b hb).1,w0⟩
    rintro n s5 ⟨i,σ5,H5,ys,I5,st5,fr5,w5⟩
    obtain ⟨hacc,w5⟩:=turn i n σ5 H5 ys w5
    have noE : ∀ {α : Type} {t : Sem α} {Q' : α→Shared→Prop} {E' : Value→Shared→Prop} {s' : Shared},wpAny (model X.prog X.w) X.A t Q' (fun _ _=>False) s'→wpAny (model X.prog X.w) X.A t Q' E' s':=fun h=>wpAny_mono h (fun _ _ q=>q) fun _ _ z=>z.elim
    rcases w5 with ⟨stop,qn⟩ | ⟨go,step⟩
    · refine noE (thn (T.done (cxC X N scope cl s3 (upd H2 s2.heap.objs.size (.lst [])) fp) rfl rfl rfl hc i [] s5 σ5 H5 _ I5 (fpc fr5) st5 stop) fun r s6 ⟨hr,I6⟩=>?_)
      subst hr
      obtain ⟨m6,hn6,_⟩:=I6.loc
      have kp : ∀ b o,b ≠ s3.heap.objs.size→s6.heap.get? b = some o→s6.heap.get? b = some o:=fun b o hb e=>e
      have ne3 : ∀ b o,s3.heap.get? b = some o→b ≠ s3.heap.objs.size:=fun b o e=>Nat.ne_of_lt (Heap.lt_size e)
      have un : Un (frs X.stack) fp (upd H2 s2.heap.objs.size (.lst [])) H5 s3.heap s6.heap:=by
        have u:=I6.base
        exact ⟨fun b o e n hb hx=>kp b o (ne3 b o e) (u.keep b o e n hb hx),fun b o e n hb hx=>by
          obtain ⟨sl,e1⟩:=u.slot b o e n hb hx
          exact ⟨sl,kp b _ (ne3 b o e) e1⟩,u.free,fun b o e hx=>by
          obtain ⟨o',e1⟩:=u.there b o e hx
          exact ⟨o',kp b _ (ne3 b o e) e1⟩,u.tups,u.frzs,u.tbls⟩
      have hok : HOk X.prog X.w H5 s6.heap:=fun b u e=>by
        refine (I6.hok b u e).stay (fun c v hc' q=>kp c v ?_ q) (fun _ q=>q) fun _ _ q=>q
        have hfree : H5 s3.heap.objs.size = none:=I6.free
        rintro rfl
        rcases hc' with z | z
        · rw [z] at hfree; rw [hfree] at e; cases e
        · rw [hfree] at z; cases z
      have I7 : Inv X pins σ H5 s6:=by
        refine I3.call' (s':=s6) I6.os un hok I6.bare fun b hb=>?_
        obtain ⟨f0,f1,f2',f3',f4,f5⟩:=f3 b hb
        exact ⟨f3',f1,f4,f5⟩
      have hfree : H5 s3.heap.objs.size = none:=I6.free
      obtain ⟨g0,g1,g2,g3,g4,g5⟩:=I3.fpOk (Nat.le_refl _) hfree
      show wpAny (model X.prog X.w) X.A (assign (.Name x0 pos') X.env (.ref s2.heap.objs.size)) _ _ s6
      refine wpAny_assign_Name (store_ok2 I7 hN hi0 hx0 (v:=.ref s2.heap.objs.size) rfl (fun s8 I8 ⟨a,sb,ha⟩=>?_) hf)
      have nea : s3.heap.objs.size ≠ a:=by
        rcases ha with z | z
        · rw [z]; exact g1
        · exact fun e=>g4 x0 a z e.symm
      refine ⟨m6,hn6.sameBut sb nea,fun h' sb'=>?_⟩
      exact ⟨_,H5,Inv.turned I8 (t':=s8.toks) (it:=s3.heap.objs.size) (fun b o hb e=>sb'.extBut b o hb e) g0 g1 g3 g4 g5,qn⟩
    · refine noE (thn (T.item (cxC X N scope cl s3 (upd H2 s2.heap.objs.size (.lst [])) fp) rfl rfl rfl hc i [] s5 σ5 H5 (fun _ _=>False) I5 (fpc fr5) st5 go) fun r s6 ⟨u,hr,h6⟩=>?_)
      subst hr
      refine noE (thn h6 fun _ s7 ⟨x,H7,I7,r7,y7,st7,fr7⟩=>?_)
      obtain ⟨hg,ht,he⟩:=hb cl s3 (upd H2 s2.heap.objs.size (.lst [])) fp
      have I7':=I7.pinned (fpc fr7) (T.obj _ _ st7)
      have back : ∀ {σ8 : St} {H8 : Hp} {s8 : Shared},Inv (cxC X N scope cl s3 (upd H2 s2.heap.objs.size (.lst [])) fp) ([] ++ pinsAt fp s7.heap) σ8 H8 s8→tn (i + 1) s8.heap∧∀ b ∈ fp,H8 b = none:=fun {σ8 H8 s8} I8 =>
        ⟨T.keep _ _ _ st7 fun b hb o e=>(I8.pin (b,o) (List.mem_append_right _ (List.mem_append_right _ (mem_pinsAt hb e)))).1,fun b hb=>by
          obtain ⟨o,e,d⟩:=T.obj _ _ st7 b hb
          exact (I8.pin (b,o) (List.mem_append_right _ (List.mem_append_right _ (mem_pinsAt hb e)))).2.1⟩
      refine noE (thn (hg _ s7 σ5 H7 x u _ I7' r7 (step x H7 y7)) fun _ s8 ⟨σ8,H8,I8,q8⟩=>?_)
      refine noE (thn (ht _ s8 σ8 H8 _ I8 q8) fun b s9 ⟨H9,I9,q9⟩=>?_)
      cases b with
      | false =>
        rw [if_neg Bool.false_ne_true] at q9 ⊢
        obtain ⟨_,m',hm,w9⟩:=q9
        exact ⟨m',hm,i + 1,σ8,H9,ys,I9.unpinned,(back I9).1,(back I9).2,w9⟩
      | true =>
        rw [if_pos rfl] at q9 ⊢
        refine noE (thn (he _ s9 σ8 H9 _ I9 q9) fun yv s10 ⟨y,H10,I10,r10,hacc10,hlen,m',hm,w10⟩=>?_)
        refine noE (thn (mt_append _ s10 σ8 H10 (.ref s2.heap.objs.size) [y] (.ref s2.heap.objs.size) [yv] (fun _ H11=>H11 = upd H10 s2.heap.objs.size (.lst (ys ++ [y]))) I10 rfl (.cons r10 .nil) ⟨_,_,_,rfl,rfl,hacc10,hlen,rfl⟩) fun _ s11 ⟨z,H11,I11,_,e11⟩=>?_)
        subst e11
        exact ⟨m',hm,i + 1,σ8,_,ys ++ [y],I11.unpinned,(back I11).1,(back I11).2,w10⟩
  have fin:=codeAny_compStart_list (loop { s3 with heap:=h₁,toks:=s3.toks } rfl) (T.self _ _ _ _ _ st4 (loop { s3 with heap:=h₁,toks:=s3.toks } rfl))
  subst hs3
  exact fin
theorem vs_setC {X : Cx} {i0 : Nat} {x0 : Str} {pos' spos : Pos} {elt target iter : Expr} {ifs : List Expr} {scope : Scope} {pos : Pos} {N : List Str} {wi : TI} {g : TG} {tt : TT} {te : TE}
    (hN : X.N.Nodup) (hi0 : X.N[i0]? = some x0) (hx0 : Loc X.env.scope x0) (C : CompOk scope N) (hfr : ∀ y,(y,NameKind.free) ∈ scope.names→X.env.kindOf y = some .cell ∨ X.env.kindOf y = some .free) (hc : X.calm = true)
    (hi : VI X target iter wi)
    (hb : ∀ cl s H fp,VG (cxC X N scope cl s H fp) target g∧VF (cxC X N scope cl s H fp) ifs tt∧VE (cxC X N scope cl s H fp) elt te)
    (hs : ∀ x,foldedSetIterable iter X.env x = pure x:=by intro _; rfl) (hsw : swapsWith (.ListComp elt [⟨target,iter,ifs,0⟩] scope pos) (some (.Name x0 pos')) spos.line X.env = pure true:=by rfl)
    (hf : X.fn x0 = true ∨ X.env.scope.names.lookup x0 = some .local:=by first | exact .inl rfl | exact .inr rfl | assumption) :
    VS X (.Assign [.Name x0 pos'] (.ListComp elt [⟨target,iter,ifs,0⟩] scope pos) spos) (tAsg (tComp X scope N wi g tt te) (gName i0)) :=
  ⟨ps_setC hN hi0 hx0 C hfr hc hi.1 (fun cl s H fp=>⟨(hb cl s H fp).1.1,(hb cl s H fp).2.1.1,(hb cl s H fp).2.2.1⟩) hs hsw hf⟩
end L2
set_option Elab.async false
set_option linter.all false
set_option maxRecDepth 100000
namespace L2
open PySem PySem.Spec PyProof.Rows
section
variable {te : TE} {H : Hp} {Q : VK}
theorem comp_coreI (xs : List V) (Rel : Nat→Hp→V→Prop) (st : ∀ {i H1 H2 y},Same H1 H2→Rel i H1 y→Rel i H2 y) (su : ∀ {i H1 D ys zs y},H1 D = some (.lst ys)→Rel i H1 y→Rel i (upd H1 D (.lst zs)) y)
    (σ0 : St) (hsz : xs.length ≤ sizeLine)
    (J : It) (go : ∀ H' i x,Same H H'→xs[i]? = some x→J.go i H'∧∀ y H2,J.yld i H' y H2→H2 = H'∧y = x) (stop : ∀ H',Same H H'→J.stop xs.length H')
    (he : ∀ (i : Nat) (x : V),xs[i]? = some x→∀ H' R l,Same H H'→(∀ y H2,Same H' H2→Rel i H2 y→R y H2)→te ((σ0.set 0 l).set 0 (some x)) H' R) (h0 : σ0[0]? = some none)
    (q : ∀ D H' ys,Same H H'→H' D = some (.lst ys)→ys.length = xs.length→(∀ (i : Nat) (y : V),ys[i]? = some y→Rel i H' y)→Q (.ref D) H') :
    ∀ D,H D = none→∃ W : Nat→Nat→St→Hp→List V→Prop,(∃ m,W 0 m σ0 (upd H D (.lst [])) []) ∧
      ∀ i m σ' H' ys,W i m σ' H' ys→H' D = some (.lst ys)∧((J.stop i H'∧Q (.ref D) H') ∨ (J.go i H'∧∀ x H2,J.yld i H' x H2→gName 0 x σ' H2 fun σ3 H3=>tYes σ3 H3 fun b H4 =>
        if b = true then te σ3 H4 fun y H5=>H5 D = some (.lst ys)∧ys.length < sizeLine∧∃ m',m' < m∧W (i + 1) m' σ3 (upd H5 D (.lst (ys ++ [y]))) (ys ++ [y]) else H4 D = some (.lst ys)∧∃ m',m' < m∧W (i + 1) m' σ3 H4 ys)):=by
  intro D hD
  refine ⟨fun i m σ' H' ys=>i ≤ xs.length∧m = xs.length - i∧(∃ l,σ' = σ0.set 0 l)∧Same H H'∧H' D = some (.lst ys)∧ys.length = i∧∀ (j : Nat) (y : V),ys[j]? = some y→Rel j H' y,⟨xs.length,Nat.zero_le _,rfl,⟨none,set_self0 h0⟩,same_new hD _,upd_same,rfl,fun j y e=>by simp at e⟩,?_⟩
  rintro i m σ' H' ys ⟨hi,rfl,⟨l,rfl⟩,sm,hL,hl,hR⟩
  refine ⟨hL,?_⟩
  by_cases hlt : i < xs.length
  · right
    obtain ⟨g1,g2⟩:=go H' i xs[i] sm (List.getElem?_eq_getElem hlt)
    refine ⟨g1,fun x H2 hy=>?_⟩
    obtain ⟨rfl,rfl⟩:=g2 x H2 hy
    unfold gName tYes
    dsimp only
    rw [if_pos rfl]
    refine he i xs[i] (List.getElem?_eq_getElem hlt) _ _ l sm fun y H3 s3 r3=>⟨s3 _ _ hL,by omega,xs.length - (i + 1),by omega,hlt,rfl,⟨some xs[i],?_⟩,?_,upd_same,?_,?_⟩
    · rw [List.set_set]
    · intro b o e
      rw [upd_ne (ne_of_none e hD)]
      exact s3 _ _ (sm _ _ e)
    · rw [List.length_append,List.length_singleton,hl]
    · intro j z ez
      refine su (s3 _ _ hL) ?_
      by_cases hj : j < ys.length
      · rw [List.getElem?_append_left hj] at ez
        exact st s3 (hR j z ez)
      · rw [List.getElem?_append_right (by omega)] at ez
        have hj0 : j - ys.length = 0:=by
          by_cases z0 : j - ys.length = 0
          · exact z0
          · rw [List.getElem?_eq_none (by simp; omega)] at ez; cases ez
        have hj1 : j = i:=by omega
        subst hj1
        rw [hj0] at ez
        cases ez
        exact r3
  · left
    have e : i = xs.length:=by omega
    subst e
    exact ⟨stop _ sm,q D _ ys sm hL hl hR⟩
end
section
variable {K : PySem.W.Frag}
theorem itl_go {a : Addr} {xs : List V} {H : Hp} (hS : ∀ H',Same H H'→SqL K H' a xs) : ∀ H' i x,Same H H'→xs[i]? = some x→(Itl K a).go i H'∧∀ y H2,(Itl K a).yld i H' y H2→H2 = H'∧y = x:=fun H' i x s e =>
  ⟨⟨xs,x,hS H' s,e⟩,fun y H2 hy=>by
    obtain ⟨e1,e2⟩:=hy
    have e3:=e2 xs (hS H' s)
    rw [e] at e3
    cases e3
    exact ⟨e1,rfl⟩⟩
theorem itl_stop {a : Addr} {xs : List V} {H : Hp} (hS : ∀ H',Same H H'→SqL K H' a xs) : ∀ H',Same H H'→(Itl K a).stop xs.length H':=fun H' s=>⟨xs,hS H' s,Nat.le_refl _⟩
end
section
variable {X : Cx} {K : PySem.W.Frag} {scope : Scope} {N : List Str} {tl te : TE} {σ : L2.St} {H : Hp} {Q : VK}
theorem comp_anyL (Pr : List V→Prop) (Rel : Nat→Hp→V→Prop) (st : ∀ {i H1 H2 y},Same H1 H2→Rel i H1 y→Rel i H2 y) (su : ∀ {i H1 D ys zs y},H1 D = some (.lst ys)→Rel i H1 y→Rel i (upd H1 D (.lst zs)) y)
    (σ0 : L2.St) (cap : Cap X scope N σ σ0) (h0 : σ0[0]? = some none)
    (hw : ∀ R : VK,(∀ D H1 us,Same H H1→H1 D = some (.lst us)→Pr us→R (.ref D) H1)→tl σ H R)
    (hsz : ∀ us,Pr us→us.length ≤ sizeLine)
    (he : ∀ us,Pr us→∀ (i : Nat) (x : V),us[i]? = some x→∀ H' R l,Same H H'→(∀ y H2,Same H' H2→Rel i H2 y→R y H2)→te ((σ0.set 0 l).set 0 (some x)) H' R)
    (q : ∀ us,Pr us→∀ D H' ys,Same H H'→H' D = some (.lst ys)→ys.length = us.length→(∀ (i : Nat) (y : V),ys[i]? = some y→Rel i H' y)→Q (.ref D) H') :
    tComp X scope N (iList K tl) (gName 0) tYes te σ H Q :=
  ⟨σ0,cap,hw _ fun D H1 us s1 g1 p=>⟨D,rfl,⟨us,SqL.of g1⟩,comp_coreI us Rel st su σ0 (hsz us p) (Itl K D) (itl_go fun H' sm=>SqL.of (sm _ _ g1)) (itl_stop fun H' sm=>SqL.of (sm _ _ g1))
    (fun i x ex H' R l sm r=>he us p i x ex H' R l (s1.trans sm) r) h0 fun D2 H' ys sm=>q us p D2 H' ys (s1.trans sm)⟩⟩
end
theorem SqT.updL {K : PySem.W.Frag} {H : Hp} {a D : Addr} {xs ys zs : List V} (hD : H D = some (.lst ys)) (h : SqT K H a xs) : SqT K (upd H D (.lst zs)) a xs:=by
  rcases h with (h | ⟨o,h⟩) | h
  · exact .inl (.inl (by rw [upd_ne (ne_of h hD (by intro z; cases z))]; exact h))
  · exact .inl (.inr ⟨o,by rw [upd_ne (ne_of h hD (by intro z; cases z))]; exact h⟩)
  · exact .inr h
end L2
set_option Elab.async false
set_option linter.all false
set_option maxRecDepth 100000
namespace L2
open PySem PySem.Spec PyProof.Rows
section
variable {X : Cx}
def rAny (K : PySem.W.Frag) : List V→Hp→VK→Prop:=fun xs H Q=>∃ (p : Addr) (bs : List Bool),xs = [.ref p]∧SqL K H p (bs.map V.bl)∧Q (.bl (bs.any id)) H
theorem any_range (bs : List Bool) : (List.range bs.length).any (fun i=>bs.getD i false) = bs.any id:=by
  rw [Bool.eq_iff_iff,List.any_eq_true,List.any_eq_true]
  constructor
  · rintro ⟨i,hi,h⟩
    have hi:=List.mem_range.mp hi
    rw [List.getD_eq_getElem?_getD,List.getElem?_eq_getElem hi] at h
    exact ⟨_,List.getElem_mem hi,h⟩
  · rintro ⟨b,hb,h⟩
    obtain ⟨i,hi,e⟩:=List.mem_iff_getElem.mp hb
    refine ⟨i,List.mem_range.mpr hi,?_⟩
    rw [List.getD_eq_getElem?_getD,List.getElem?_eq_getElem hi]
    show bs[i] = true
    rw [e]
    exact h
theorem call_any (hc : X.calm = true) : CallR X (.builtin "any") (rAny X.K):=by
  intro pins s σ H xs us Q I r h
  obtain ⟨p,bs,rfl,hq,q⟩:=h
  obtain ⟨u,rfl,rx⟩:=r.one
  cases rx
  obtain ⟨its,rv,pl,hz⟩:=I.list hq
  have hl:=rv.length
  rw [List.length_map] at hl
  have hne : p ≠ s.heap.objs.size:=by
    obtain ⟨o,ho,_⟩:=pl.isList
    exact Nat.ne_of_lt (Heap.lt_size ho)
  refine call_any_walk (wpAny_pyIter_list pl.isList ?_)
  refine ⟨s.heap.objs.size,_,_,_,_,_,fun i=>bs.getD i false,rfl,Walks.list (show X.A.in1.handled = none from I.ok.hd hc) _ p hne its.toArray,⟨⟨_,Heap.get?_push_size _ rfl,rfl,rfl⟩,?_⟩,?_,fun h' tk kp=>?_⟩
  · exact pl.isList.at fun o e=>Heap.get?_push_of_some _ e
  · intro i v s' Q' E' hv hq'
    have hv' : its[i]? = some v:=by simpa using hv
    have hi : i < bs.length:=by rw [hl]; exact (List.getElem?_eq_some_iff.mp hv').1
    obtain ⟨u,hu,ru⟩:=rv.get (i:=i) (x:=.bl bs[i]) (by rw [List.getElem?_map,List.getElem?_eq_getElem hi]; rfl)
    rw [hv'] at hu
    cases hu
    cases ru
    have e : bs.getD i false = bs[i]:=by rw [List.getD_eq_getElem?_getD,List.getElem?_eq_getElem hi]; rfl
    replace hq' : Q' (bs.getD i false) s':=hq'
    rw [e] at hq'
    exact wpAny_truthy_bool hq'
  · have e : (List.range its.toArray.size).any (fun i=>bs.getD i false) = bs.any id:=by
      rw [List.size_toArray,← hl]; exact any_range bs
    rw [e]
    refine ⟨.bl (bs.any id),H,?_,rfl,q⟩
    exact I.kept fun b o eo=>kp b o (by
      intro z
      have : b = s.heap.objs.size:=by simpa using z
      rw [this] at eo
      exact absurd (Heap.lt_size eo) (Nat.lt_irrefl _)) (Heap.get?_push_of_some _ eo)
def rListS : List V→Hp→VK→Prop:=fun xs H Q=>∃ z : Str,xs = [.str z]∧z.length ≤ 1000∧∀ l H',H l = none→Same H H'→H' l = some (.lst ((List.range z.cps.size).map fun i=>V.str (sgn z i)))→Q (.ref l) H'
theorem vals_signs (z : Str) : ∀ (n k : Nat) (vs : List Value),vs.length = n→(∀ (j : Nat) (v : Value),vs[j]? = some v→∃ t,v = .str (sgn z (k + j)) t)→Vals ((List.range' k n).map fun i=>V.str (sgn z i)) vs
  | 0,k,[],_,_=>.nil
  | n + 1,k,v :: vs,hl,h=>by
    obtain ⟨t,rfl⟩:=h 0 v rfl
    rw [List.range'_succ,List.map_cons]
    refine .cons ⟨t,rfl⟩ (vals_signs z n (k + 1) vs (by simpa using hl) fun j u e=>?_)
    obtain ⟨t',e'⟩:=h (j + 1) u e
    exact ⟨t',by rw [e',show k + (j + 1) = k + 1 + j by omega]⟩
theorem call_listS (hc : X.calm = true) : CallR X (.type "list") rListS:=by
  intro pins s σ H xs us Q I r h
  obtain ⟨z,rfl,hl,q⟩:=h
  obtain ⟨u,rfl,t,rfl⟩:=vals1 r
  refine call_list_str (I.ok.hd hc) z t (fun h' tk acc' c' kp hS hacc=>?_) (small hl)
  have hv:=vals_signs z z.cps.size 0 acc'.toList (by rw [Array.length_toList]; exact hacc.1) fun j v e=>by
    have hj:=hacc.2 j v (by rw [← Array.getElem?_toList]; exact e)
    obtain ⟨c,t',e1,e2⟩:=hj
    refine ⟨t',?_⟩
    rw [e2]
    unfold sgn
    rw [Nat.zero_add,Array.getD_eq_getD_getElem?,e1]
    rfl
  rw [← List.range_eq_range'] at hv
  have ea : acc'.toList.toArray = acc':=by simp
  have hf : H s.heap.objs.size = none:=I.hok.fresh (Nat.le_refl _)
  refine ⟨.ref s.heap.objs.size,_,I.laid (t':=tk) (o:=.lst ((List.range z.cps.size).map fun i=>V.str (sgn z i))) kp (Nat.le_refl _) ?_,rfl,q _ _ hf (same_new hf _) upd_same⟩
  refine ⟨by rw [List.length_map,List.length_range]; exact small hl,acc'.toList,c',hv,?_⟩
  rw [ea]
  exact hS
end
theorem op_in_seqK {X : Cx} {K : PySem.W.Frag} (h : X.K = K:=by rfl) : OpR X (compareOp .In) (rIn K false):=by subst h; exact op_in_seq
end L2
set_option Elab.async false
set_option linter.all false
set_option maxRecDepth 100000
namespace L2
open PySem PySem.Spec PyProof.Rows
section
variable {X : Cx} {K : PySem.W.Frag} {scope : Scope} {N : List Str} {tl te : TE} {tt : TT} {g : TG} {σ : L2.St} {H : Hp} {Q : VK}
end
end L2
namespace L2
open PySem PySem.Spec PyProof.Rows
end L2
set_option Elab.async false
set_option linter.all false
set_option maxRecDepth 100000
namespace L2
open PySem PySem.Spec PyProof.Rows
end L2
set_option Elab.async false
set_option linter.all false
set_option maxRecDepth 100000
namespace L2
open PySem PySem.Spec PyProof.Rows
inductive Al2 {α β : Type} (R : α→β→Prop) : List α→List β→Prop
  | nil : Al2 R [] []
  | cons {a b as bs} : R a b→Al2 R as bs→Al2 R (a :: as) (b :: bs)
theorem Al2.len {α β : Type} {R : α→β→Prop} {as : List α} {bs : List β} (h : Al2 R as bs) : as.length = bs.length:=by
  induction h with
  | nil=>rfl
  | cons _ _ ih=>rw [List.length_cons,List.length_cons,ih]
theorem Al2.at {α β : Type} {R : α→β→Prop} {as : List α} {bs : List β} (h : Al2 R as bs) : ∀ {j : Nat} {a : α},as[j]? = some a→∃ b,bs[j]? = some b∧R a b:=by
  induction h with
  | nil=>intro j a e; simp at e
  | cons r _ ih =>
    intro j a e
    cases j with
    | zero=>cases e; exact ⟨_,rfl,r⟩
    | succ j=>exact ih (by simpa using e)
def DEq (K : PySem.W.Frag) (H : Hp) : Nat→V→V→Prop
  | 0,x,y=>flatV x = true∧x = y
  | n + 1,x,y=>(flatV x = true∧x = y) ∨ ∃ a b xs ys,x = .ref a∧y = .ref b∧SqT K H a xs∧SqT K H b ys∧Al2 (DEq K H n) xs ys
theorem eqAt_flat {A : Around} {s : Shared} {x : V} {v u : Value} (h : flatV x = true) (rv : RelV x v) (ru : RelV x u) : SeqAt.EqAt A s v u true:=by
  cases x with
  | non=>cases rv; cases ru; exact SeqAt.EqAt.same _
  | bl b=>cases rv; cases ru; exact SeqAt.EqAt.same _
  | int i =>
    obtain ⟨t,rfl⟩:=rv
    obtain ⟨t',rfl⟩:=ru
    have z:=SeqAt.EqAt.int_int (A:=A) (s:=s) i t i t'
    simpa using z
  | str y =>
    obtain ⟨t,rfl⟩:=rv
    obtain ⟨t',rfl⟩:=ru
    have z:=SeqAt.EqAt.str_str (A:=A) (s:=s) y t y t'
    simpa using z
  | _=>cases h
section
variable {X : Cx} {pins : List (Addr × Obj)} {σ : L2.St} {H : Hp} {s : Shared}
theorem eqAt_items (I : Inv X pins σ H s) {n : Nat} {A : Around} {xs ys : List V} {its jts : List Value} (rv : Vals xs its) (rw' : Vals ys jts) (h : Al2 (DEq X.K H n) xs ys)
    (ih : ∀ {x y v u},DEq X.K H n x y→RelV x v→RelV y u→SeqAt.EqAt A s v u true) : ∀ (j : Nat) (h1 : j < its.toArray.size) (h2 : j < jts.toArray.size),SeqAt.EqAt A s its.toArray[j] jts.toArray[j] ((fun _=>true) j):=fun j h1 h2=>by
  have e1:=rv.length
  have hj1 : j < xs.length:=by rw [List.size_toArray] at h1; omega
  obtain ⟨y,hy,d⟩:=h.at (List.getElem?_eq_getElem hj1)
  obtain ⟨u1,hu1,r1⟩:=rv.get (List.getElem?_eq_getElem hj1)
  obtain ⟨u2,hu2,r2⟩:=rw'.get hy
  have g1 : its.toArray[j] = u1:=by
    rw [List.getElem_toArray]
    exact (List.getElem?_eq_some_iff.mp hu1).2
  have g2 : jts.toArray[j] = u2:=by
    rw [List.getElem_toArray]
    exact (List.getElem?_eq_some_iff.mp hu2).2
  rw [g1,g2]
  exact ih d r1 r2
theorem all_true (n : Nat) : (List.range n).all (fun _=>true) = true:=by rw [List.all_eq_true]; intro _ _; rfl
theorem eqAt_deep (I : Inv X pins σ H s) : ∀ (n : Nat) {A : Around} {x y : V} {v u : Value},DEq X.K H n x y→RelV x v→RelV y u→A.units + n < cLine→SeqAt.EqAt A s v u true
  | 0,A,x,y,v,u,h,rv,ru,_=>by
    obtain ⟨h,rfl⟩:=h
    exact eqAt_flat h rv ru
  | n + 1,A,x,y,v,u,h,rv,ru,hu=>by
    rcases h with ⟨h,rfl⟩ | ⟨a,b,xs,ys,rfl,rfl,ha,hb,h⟩
    · exact eqAt_flat h rv ru
    cases rv
    cases ru
    by_cases e : a = b
    · subst e; exact SeqAt.EqAt.same _
    obtain ⟨its,r1,pl,hz⟩:=I.tuple ha
    obtain ⟨jts,r2,pm,hw⟩:=I.tuple hb
    refine SeqAt.EqAt.of_refs e ?_
    have z:=SeqAt.RcAt.tuples (A:=A) (e:=fun _=>true) (show s.heap.IsTuple a its.toArray from pl) (show s.heap.IsTuple b jts.toArray from pm) (by omega) (eqAt_items I r1 r2 h fun d q1 q2=>eqAt_deep I n d q1 q2 (by show A.units + 1 + n < cLine; omega))
    have z2 : (its.toArray.size == jts.toArray.size) = true:=by rw [List.size_toArray,List.size_toArray]; have:=r1.length; have:=r2.length; have:=h.len; simp; omega
    rw [all_true,z2] at z
    exact z
end
def rEqQ (K : PySem.W.Frag) (r : Bool) : R2:=fun x y H Q=>∃ a b xs ys,x = .ref a∧y = .ref b∧SqT K H a xs∧SqT K H b ys∧Al2 (DEq K H 40) xs ys∧Q (.bl r) H
theorem op_eqQ {X : Cx} (hu : X.A.units + 64 < cLine) : OpR X (compareOp .Eq) (rEqQ X.K true):=by
  intro pins s σ H x y v u Q I rx ry h
  obtain ⟨a,b,xs,ys,rfl,rfl,ha,hb,h,q⟩:=h
  cases rx
  cases ry
  obtain ⟨its,r1,pl,hz⟩:=I.tuple ha
  obtain ⟨jts,r2,pm,hw⟩:=I.tuple hb
  refine SeqAt.RcAt.tuples (e:=fun _=>true) (show s.heap.IsTuple a its.toArray from pl) (show s.heap.IsTuple b jts.toArray from pm) (by omega) (eqAt_items I r1 r2 h fun d q1 q2=>eqAt_deep I 40 d q1 q2 (by show X.A.units + 1 + 40 < cLine; omega)) _ _ _ _ ?_
  have z2 : (its.toArray.size == jts.toArray.size) = true:=by rw [List.size_toArray,List.size_toArray]; have:=r1.length; have:=r2.length; have:=h.len; simp; omega
  rw [all_true,z2]
  exact ⟨.bl _,H,I,rfl,q⟩
end L2
set_option Elab.async false
set_option linter.all false
set_option maxRecDepth 100000
namespace L2
open PySem PySem.Spec PyProof.Rows
section
variable {X : Cx}
def Fl2 : List V→List V→Prop:=Al2 fun x y=>flatV x = true∧x = y
theorem Fl2.refl : ∀ {xs : List V},(∀ x ∈ xs,flatV x = true)→Fl2 xs xs
  | [],_=>.nil
  | x :: xs,h=>.cons ⟨h x (.head _),rfl⟩ (Fl2.refl fun y hy=>h y (.tail _ hy))
theorem fl_items {A : Around} {s : Shared} {xs ys : List V} {its jts : List Value} (rv : Vals xs its) (rw' : Vals ys jts) (h : Fl2 xs ys) : ∀ (j : Nat) (h1 : j < its.toArray.size) (h2 : j < jts.toArray.size),SeqAt.EqAt A s its.toArray[j] jts.toArray[j] ((fun _=>true) j):=fun j h1 h2=>by
  have e1:=rv.length
  have hj1 : j < xs.length:=by rw [List.size_toArray] at h1; omega
  obtain ⟨y,hy,d1,d2⟩:=h.at (List.getElem?_eq_getElem hj1)
  obtain ⟨u1,hu1,r1⟩:=rv.get (List.getElem?_eq_getElem hj1)
  obtain ⟨u2,hu2,r2⟩:=rw'.get hy
  have g1 : its.toArray[j] = u1:=by
    rw [List.getElem_toArray]
    exact (List.getElem?_eq_some_iff.mp hu1).2
  have g2 : jts.toArray[j] = u2:=by
    rw [List.getElem_toArray]
    exact (List.getElem?_eq_some_iff.mp hu2).2
  rw [g1,g2]
  rw [d2] at r1 d1
  exact eqAt_flat d1 r1 r2
end
end L2
set_option Elab.async false
set_option linter.all false
namespace PySem
theorem foldF_eq : ∀ (ss σ : List Str),(ss.foldl metF σ).length = σ.length + ss.length ↔ ss.Nodup∧∀ k ∈ ss,k ∉ σ
  | [],σ=>by simp
  | v :: r,σ=>by
    rw [List.foldl_cons,List.length_cons,List.nodup_cons]
    by_cases h : v ∈ σ
    · have e : metF σ v = σ:=by unfold metF; rw [if_pos h]
      rw [e]
      have l:=foldF_len r σ
      constructor
      · intro z; omega
      · intro z; exact absurd h (z.2 v (by simp))
    · have e : metF σ v = σ ++ [v]:=by unfold metF; rw [if_neg h]
      rw [e]
      have ih:=foldF_eq r (σ ++ [v])
      rw [List.length_append,List.length_singleton] at ih
      rw [show σ.length + (r.length + 1) = σ.length + 1 + r.length by omega,ih]
      constructor
      · rintro ⟨a,b⟩
        refine ⟨⟨fun z=>(b v z) (by simp),a⟩,fun k hk=>?_⟩
        rcases List.mem_cons.mp hk with rfl | hk
        · exact h
        · exact fun z=>b k hk (by simp [z])
      · rintro ⟨⟨a,b⟩,c⟩
        refine ⟨b,fun k hk z=>?_⟩
        rcases List.mem_append.mp z with z | z
        · exact c k (by simp [hk]) z
        · have : k = v:=by simpa using z
          subst this
          exact a hk
theorem metS_eq (ss : List Str) : (metS ss).length = ss.length ↔ ss.Nodup:=by
  have h:=foldF_eq ss []
  simp only [List.length_nil,Nat.zero_add,List.not_mem_nil,not_false_eq_true,implies_true,and_true] at h
  exact h
end PySem
set_option Elab.async false
set_option linter.all false
set_option maxRecDepth 100000
namespace My
open PySem PySem.Spec PyProof.Rows L2
set_option maxHeartbeats 400000
def top (i : Nat) : Stmt:=PySem.Challenge.pw_shardask_k06_heads_refused.main.body.getD i (.Pass ⟨0,0,0,0⟩)
abbrev s_is_whole : Stmt:=top 13
abbrev s_is_word : Stmt:=top 14
abbrev s_is_one_of : Stmt:=top 15
abbrev s_is_tuple_of : Stmt:=top 16
abbrev s_are_unlike : Stmt:=top 17
abbrev s_names_of : Stmt:=top 18
abbrev s_is_name : Stmt:=top 19
abbrev s_is_value : Stmt:=top 20
abbrev s_kind_of : Stmt:=top 21
abbrev s_is_other : Stmt:=top 33
abbrev s_is_test : Stmt:=top 34
abbrev s_is_pair : Stmt:=top 35
abbrev s_is_sum : Stmt:=top 36
abbrev s_is_key : Stmt:=top 37
abbrev s_is_many : Stmt:=top 38
abbrev s_are_tests : Stmt:=top 39
abbrev s_are_names : Stmt:=top 40
abbrev s_are_group_names : Stmt:=top 41
abbrev s_are_pairs : Stmt:=top 42
abbrev s_are_sums : Stmt:=top 43
abbrev s_are_keys : Stmt:=top 44
abbrev s_may_be_question : Stmt:=top 45
abbrev s_has_form : Stmt:=top 47
abbrev s_questions_in : Stmt:=top 48
abbrev s_own_size : Stmt:=top 49
abbrev s_checked : Stmt:=top 50
abbrev s_kind_in : Stmt:=top 51
abbrev s_need_like_kinds : Stmt:=top 52
abbrev s_need_unlike : Stmt:=top 53
abbrev s_table_head : Stmt:=top 54
abbrev s_other_kind : Stmt:=top 55
abbrev s_where_head : Stmt:=top 56
abbrev s_keep_head : Stmt:=top 57
abbrev s_named_head : Stmt:=top 58
abbrev s_join_head : Stmt:=top 59
abbrev s_sum_kind : Stmt:=top 60
abbrev s_group_head : Stmt:=top 61
abbrev s_first_head : Stmt:=top 62
abbrev s_head_here : Stmt:=top 63
abbrev s_head_within : Stmt:=top 64
abbrev s_head_of : Stmt:=top 65
abbrev s__law_seed : Stmt:=top 67
abbrev s__law_next : Stmt:=top 68
abbrev s__law_words : Stmt:=top 69
abbrev s__law_names : Stmt:=top 70
abbrev s__law_where_steps : Stmt:=top 71
abbrev s__law_join_steps : Stmt:=top 72
abbrev s__law_steps : Stmt:=top 73
abbrev s__law_inner : Stmt:=top 74
abbrev s__law_outer : Stmt:=top 75
abbrev s__law_refused : Stmt:=top 76
abbrev s_law : Stmt:=top 77
abbrev s_init : Stmt:=inClass (top 1) 0
inductive Cls where
  | ques | tab | col | kind | twice | wide
  deriving DecidableEq
def Cls.nm : Cls→Str
  | .ques=>"NoQuestion"
  | .tab=>"NoTable"
  | .col=>"NoColumn"
  | .kind=>"NoKind"
  | .twice=>"Twice"
  | .wide=>"TooWide"
structure Txt (w : World) (K : PySem.W.Frag) (mg : Str→Option Value) : Prop where
  n_ValueError : mg "ValueError" = none
  n_all : mg "all" = none
  n_any : mg "any" = none
  n_bool : mg "bool" = none
  n_enumerate : mg "enumerate" = none
  n_int : mg "int" = none
  n_isinstance : mg "isinstance" = none
  n_len : mg "len" = none
  n_list : mg "list" = none
  n_range : mg "range" = none
  n_set : mg "set" = none
  n_str : mg "str" = none
  n_tuple : mg "tuple" = none
  n_zip : mg "zip" = none
  g_QUESTION_WORDS : ∃ a,mg "QUESTION_WORDS" = some (.ref a)∧∀ H,SqT K H a [.str "and",.str "by",.str "count",.str "down",.str "first",.str "group",.str "join",.str "keep",.str "least",.str "most",.str "named",.str "on",.str "sum",.str "table",.str "up",.str "where",.str "with"]
  g_LETTERS : ∃ u,mg "LETTERS" = some u∧RelV (.str "abcdefghijklmnopqrstuvwxyz") u
  g_MOST_LETTERS : ∃ u,mg "MOST_LETTERS" = some u∧RelV (.int 8) u
  g_MOST_COLUMNS : ∃ u,mg "MOST_COLUMNS" = some u∧RelV (.int 8) u
  g_SIGNS : ∃ a,mg "SIGNS" = some (.ref a)∧∀ H,SqT K H a [.str "=",.str "<",.str ">",.str "!"]
  g_SUM_WORDS : ∃ a,mg "SUM_WORDS" = some (.ref a)∧∀ H,SqT K H a [.str "count",.str "sum",.str "least",.str "most"]
  g_WAYS : ∃ a,mg "WAYS" = some (.ref a)∧∀ H,SqT K H a [.str "up",.str "down"]
  g_MOST_TESTS : ∃ u,mg "MOST_TESTS" = some u∧RelV (.int 3) u
  g_MOST_NAMES : ∃ u,mg "MOST_NAMES" = some u∧RelV (.int 8) u
  g_MOST_PAIRS : ∃ u,mg "MOST_PAIRS" = some u∧RelV (.int 3) u
  g_MOST_SUMS : ∃ u,mg "MOST_SUMS" = some u∧RelV (.int 4) u
  g_MOST_KEYS : ∃ u,mg "MOST_KEYS" = some u∧RelV (.int 3) u
  g_MOST_ROWS : ∃ u,mg "MOST_ROWS" = some u∧RelV (.int 60) u
  g_MOST_SIZE : ∃ u,mg "MOST_SIZE" = some u∧RelV (.int 20) u
  g_FORMS : ∃ d t0 t1 t2 t3 t4 t5 t6 : Addr,mg "FORMS" = some (.ref d)∧DctK w K d [("table",t0),("where",t1),("keep",t2),("named",t3),("join",t4),("group",t5),("first",t6)]∧(∃ f0 : Addr,(∀ H,SqT K H t0 [.ref f0])∧mg "is_name" = some (.ref f0))∧(∃ f0 f1 : Addr,(∀ H,SqT K H t1 [.ref f0,.ref f1])∧mg "may_be_question" = some (.ref f0)∧mg "are_tests" = some (.ref f1))∧(∃ f0 f1 : Addr,(∀ H,SqT K H t2 [.ref f0,.ref f1])∧mg "may_be_question" = some (.ref f0)∧mg "are_names" = some (.ref f1))∧(∃ f0 f1 : Addr,(∀ H,SqT K H t3 [.ref f0,.ref f1])∧mg "may_be_question" = some (.ref f0)∧mg "are_names" = some (.ref f1))∧(∃ f0 f1 f2 : Addr,(∀ H,SqT K H t4 [.ref f0,.ref f1,.ref f2])∧mg "may_be_question" = some (.ref f0)∧mg "may_be_question" = some (.ref f1)∧mg "are_pairs" = some (.ref f2))∧(∃ f0 f1 f2 : Addr,(∀ H,SqT K H t5 [.ref f0,.ref f1,.ref f2])∧mg "may_be_question" = some (.ref f0)∧mg "are_group_names" = some (.ref f1)∧mg "are_sums" = some (.ref f2))∧(∃ f0 f1 f2 : Addr,(∀ H,SqT K H t6 [.ref f0,.ref f1,.ref f2])∧mg "may_be_question" = some (.ref f0)∧mg "are_keys" = some (.ref f1)∧mg "is_many" = some (.ref f2))
  v_is_name : ∃ f o,(∃ u,mg "is_name" = some u∧RelV (.ref f) u)∧K.lookup f = some o∧o.cls = .type "function"
  v_is_test : ∃ f o,(∃ u,mg "is_test" = some u∧RelV (.ref f) u)∧K.lookup f = some o∧o.cls = .type "function"
  v_is_pair : ∃ f o,(∃ u,mg "is_pair" = some u∧RelV (.ref f) u)∧K.lookup f = some o∧o.cls = .type "function"
  v_is_sum : ∃ f o,(∃ u,mg "is_sum" = some u∧RelV (.ref f) u)∧K.lookup f = some o∧o.cls = .type "function"
  v_is_key : ∃ f o,(∃ u,mg "is_key" = some u∧RelV (.ref f) u)∧K.lookup f = some o∧o.cls = .type "function"
  d_is_whole : Dn K mg "is_whole" s_is_whole ["thing"]
  d_is_word : Dn K mg "is_word" s_is_word ["thing"]
  d_is_one_of : Dn K mg "is_one_of" s_is_one_of ["thing","texts"]
  d_is_tuple_of : Dn K mg "is_tuple_of" s_is_tuple_of ["thing","least","most","is_part"]
  d_are_unlike : Dn K mg "are_unlike" s_are_unlike ["names"]
  d_names_of : Dn K mg "names_of" s_names_of ["head"]
  d_is_name : Dn K mg "is_name" s_is_name ["thing"]
  d_is_value : Dn K mg "is_value" s_is_value ["thing"]
  d_kind_of : Dn K mg "kind_of" s_kind_of ["value"]
  d_is_other : Dn K mg "is_other" s_is_other ["thing"]
  d_is_test : Dn K mg "is_test" s_is_test ["thing"]
  d_is_pair : Dn K mg "is_pair" s_is_pair ["thing"]
  d_is_sum : Dn K mg "is_sum" s_is_sum ["thing"]
  d_is_key : Dn K mg "is_key" s_is_key ["thing"]
  d_is_many : Dn K mg "is_many" s_is_many ["thing"]
  d_are_tests : Dn K mg "are_tests" s_are_tests ["thing"]
  d_are_names : Dn K mg "are_names" s_are_names ["thing"]
  d_are_group_names : Dn K mg "are_group_names" s_are_group_names ["thing"]
  d_are_pairs : Dn K mg "are_pairs" s_are_pairs ["thing"]
  d_are_sums : Dn K mg "are_sums" s_are_sums ["thing"]
  d_are_keys : Dn K mg "are_keys" s_are_keys ["thing"]
  d_may_be_question : Dn K mg "may_be_question" s_may_be_question ["thing"]
  d_has_form : Dn K mg "has_form" s_has_form ["thing"]
  d_questions_in : Dn K mg "questions_in" s_questions_in ["question"]
  d_own_size : Dn K mg "own_size" s_own_size ["question"]
  d_checked : Dn K mg "checked" s_checked ["thing"]
  d_kind_in : Dn K mg "kind_in" s_kind_in ["head","name"]
  d_need_like_kinds : Dn K mg "need_like_kinds" s_need_like_kinds ["kinds","others"]
  d_need_unlike : Dn K mg "need_unlike" s_need_unlike ["names"]
  d_table_head : Dn K mg "table_head" s_table_head ["heads","name"]
  d_other_kind : Dn K mg "other_kind" s_other_kind ["head","other"]
  d_where_head : Dn K mg "where_head" s_where_head ["head","tests"]
  d_keep_head : Dn K mg "keep_head" s_keep_head ["head","names"]
  d_named_head : Dn K mg "named_head" s_named_head ["head","names"]
  d_join_head : Dn K mg "join_head" s_join_head ["head","other","pairs"]
  d_sum_kind : Dn K mg "sum_kind" s_sum_kind ["head","part"]
  d_group_head : Dn K mg "group_head" s_group_head ["head","names","sums"]
  d_first_head : Dn K mg "first_head" s_first_head ["head","keys"]
  d_head_here : Dn K mg "head_here" s_head_here ["heads","question","inner"]
  d_head_within : Dn K mg "head_within" s_head_within ["heads","question"]
  d_head_of : Dn K mg "head_of" s_head_of ["heads","question"]
  d__law_seed : Dn K mg "_law_seed" s__law_seed ["_law_script"]
  d__law_next : Dn K mg "_law_next" s__law_next ["_law_state","_law_many"]
  d__law_words : Dn K mg "_law_words" s__law_words []
  d__law_names : Dn K mg "_law_names" s__law_names ["_law_state","_law_many"]
  d__law_where_steps : Dn K mg "_law_where_steps" s__law_where_steps ["_law_n","_law_q"]
  d__law_join_steps : Dn K mg "_law_join_steps" s__law_join_steps ["_law_n","_law_q"]
  d__law_steps : Dn K mg "_law_steps" s__law_steps ["_law_n","_law_q"]
  d__law_inner : Dn K mg "_law_inner" s__law_inner ["_law_state","_law_n","_law_q"]
  d__law_outer : Dn K mg "_law_outer" s__law_outer ["_law_state","_law_n","_law_q"]
  d__law_refused : Dn K mg "_law_refused" s__law_refused ["_law_heads","_law_question"]
  d_law : Dn K mg "law" s_law ["_law_script"]
  x_ex : ∃ (S : Addr) (ad : Cls→Addr),mg "ShardError" = some (.ref S)∧XS K S∧(∀ c,ExT K mg s_init c.nm "ShardError.__init__" (ad c) S)∧(∀ c d,PySem.W.mroIn K (ad c) (.ref (ad d)) = some (decide (c = d)))∧∀ c,PySem.W.mroIn K (ad c) (.type "ValueError") = some true
theorem sc_init : FnScope ["self","act"] ["self","act"] (defScope s_init):=⟨rfl,rfl,rfl,by decide +kernel,rfl,by decide +kernel,by decide +kernel⟩
abbrev abc : Str:="abcdefghijklmnopqrstuvwxyz"
abbrev words : List V:=[.str "and",.str "by",.str "count",.str "down",.str "first",.str "group",.str "join",.str "keep",.str "least",.str "most",.str "named",.str "on",.str "sum",.str "table",.str "up",.str "where",.str "with"]
def Th (K : PySem.W.Frag) (H : Hp) (v : V) : Prop:=(∃ x,v = .str x∧x.length ≤ 1000) ∨ (∃ i,v = .int i) ∨ (∃ b,v = .bl b) ∨ ∃ k,Rk K H v k
theorem Th.same {K : PySem.W.Frag} {H H' : Hp} {v : V} (e : Same H H') (h : Th K H v) : Th K H' v:=by
  rcases h with h | h | h | ⟨k,h⟩
  · exact .inl h
  · exact .inr (.inl h)
  · exact .inr (.inr (.inl h))
  · exact .inr (.inr (.inr ⟨k,h.same e⟩))
def isiB : V→String→Bool
  | .int _,T=>T == "int"
  | .str _,T=>T == "str"
  | .bl _,T=>T == "int" || T == "bool"
  | _,_=>false
def isS : V→Bool
  | .str _=>true
  | _=>false
def whole : V→Bool
  | .int _=>true
  | _=>false
theorem isi_any {K : PySem.W.Frag} {H : Hp} {v : V} {T : String} {Q : VK} (hv : Th K H v) (hT : T = "int" ∨ T = "bool" ∨ T = "str") (q : Q (.bl (isiB v T)) H) : rIsi [v,.ty T] H Q ∨ rIsiR K [v,.ty T] H Q:=by
  rcases hv with ⟨x,rfl,_⟩ | ⟨i,rfl⟩ | ⟨b,rfl⟩ | ⟨k,h⟩
  · refine .inl ⟨_,_,_,rfl,?_,q⟩
    rcases hT with rfl | rfl | rfl <;> simp [isiV,isiB]
  · refine .inl ⟨_,_,_,rfl,?_,q⟩
    rcases hT with rfl | rfl | rfl <;> simp [isiV,isiB]
  · refine .inl ⟨_,_,_,rfl,?_,q⟩
    rcases hT with rfl | rfl | rfl <;> simp [isiV,isiB]
  · refine .inr ⟨_,_,_,rfl,h,hT,?_⟩
    cases h <;> exact q
def inA (y : Str) : Bool:=!(Builtin.Str.occurrences abc y 0 abc.length 1).isEmpty
def allIn (x : Str) : Bool:=((List.range x.cps.size).map fun i=>inA (sgn x i)).all id
def letB (l : Nat) : V→Bool
  | .str x=>decide (l ≤ x.length) && (decide (x.length ≤ 8) && allIn x)
  | _=>false
def nameB (v : V) : Bool:=letB 1 v && !inV v words
def valB (v : V) : Bool:=whole v || letB 0 v
def sp_whole (K : PySem.W.Frag) : Sp:=fun vs H Q _=>∃ v,vs = [v]∧Th K H v∧Q (.bl (whole v)) H
def sp_b (K : PySem.W.Frag) (f : V→Bool) : Sp:=fun vs H Q _=>∃ v,vs = [v]∧Th K H v∧∀ H',Same H H'→Q (.bl (f v)) H'
def sp_kind (K : PySem.W.Frag) : Sp:=fun vs H Q _=>∃ v,vs = [v]∧Th K H v∧Q (.str (if whole v then "number" else "word")) H
def sp_law (K : PySem.W.Frag) : Sp:=fun vs H Q _=>∃ (a : Addr) (ns : List Int),vs = [.ref a]∧SqL K H a (ns.map V.int)∧ns.length ≤ 63∧∀ H',Q (.bl true) H'
theorem sp_law_of {K : PySem.W.Frag} {H : Hp} {a : Addr} {ns : List Int} (h : ns.length ≤ 63) (hS : SqL K H a (ns.map V.int)) : sp_law K [.ref a] H (fun v _=>v = .bl true) fun _ _ _=>False :=
  ⟨a,ns,rfl,hS,h,fun _=>rfl⟩
theorem sc_is_whole : FnScope ["thing"] ["thing"] (defScope s_is_whole):=⟨rfl,rfl,rfl,by decide +kernel,rfl,by decide +kernel,by decide +kernel⟩
theorem sc_is_word : FnScope ["thing"] ["thing"] (defScope s_is_word):=⟨rfl,rfl,rfl,by decide +kernel,rfl,by decide +kernel,by decide +kernel⟩
theorem sc_is_one_of : FnScope ["thing","texts"] ["thing","texts"] (defScope s_is_one_of):=⟨rfl,rfl,rfl,by decide +kernel,rfl,by decide +kernel,by decide +kernel⟩
theorem sc_is_tuple_of : FnScope ["thing","least","most","is_part"] ["thing","least","most","is_part"] (defScope s_is_tuple_of):=⟨rfl,rfl,rfl,by decide +kernel,rfl,by decide +kernel,by decide +kernel⟩
theorem sc_are_unlike : FnScope ["names"] ["names"] (defScope s_are_unlike):=⟨rfl,rfl,rfl,by decide +kernel,rfl,by decide +kernel,by decide +kernel⟩
theorem sc_names_of : FnScope ["head"] ["head"] (defScope s_names_of):=⟨rfl,rfl,rfl,by decide +kernel,rfl,by decide +kernel,by decide +kernel⟩
theorem sc_is_name : FnScope ["thing"] ["thing"] (defScope s_is_name):=⟨rfl,rfl,rfl,by decide +kernel,rfl,by decide +kernel,by decide +kernel⟩
theorem sc_is_value : FnScope ["thing"] ["thing"] (defScope s_is_value):=⟨rfl,rfl,rfl,by decide +kernel,rfl,by decide +kernel,by decide +kernel⟩
theorem sc_kind_of : FnScope ["value"] ["value"] (defScope s_kind_of):=⟨rfl,rfl,rfl,by decide +kernel,rfl,by decide +kernel,by decide +kernel⟩
theorem sc_is_other : FnScope ["thing"] ["thing"] (defScope s_is_other):=⟨rfl,rfl,rfl,by decide +kernel,rfl,by decide +kernel,by decide +kernel⟩
theorem sc_is_test : FnScope ["thing"] ["thing"] (defScope s_is_test):=⟨rfl,rfl,rfl,by decide +kernel,rfl,by decide +kernel,by decide +kernel⟩
theorem sc_is_pair : FnScope ["thing"] ["thing"] (defScope s_is_pair):=⟨rfl,rfl,rfl,by decide +kernel,rfl,by decide +kernel,by decide +kernel⟩
theorem sc_is_sum : FnScope ["thing"] ["thing"] (defScope s_is_sum):=⟨rfl,rfl,rfl,by decide +kernel,rfl,by decide +kernel,by decide +kernel⟩
theorem sc_is_key : FnScope ["thing"] ["thing"] (defScope s_is_key):=⟨rfl,rfl,rfl,by decide +kernel,rfl,by decide +kernel,by decide +kernel⟩
theorem sc_is_many : FnScope ["thing"] ["thing"] (defScope s_is_many):=⟨rfl,rfl,rfl,by decide +kernel,rfl,by decide +kernel,by decide +kernel⟩
theorem sc_are_tests : FnScope ["thing"] ["thing"] (defScope s_are_tests):=⟨rfl,rfl,rfl,by decide +kernel,rfl,by decide +kernel,by decide +kernel⟩
theorem sc_are_names : FnScope ["thing"] ["thing"] (defScope s_are_names):=⟨rfl,rfl,rfl,by decide +kernel,rfl,by decide +kernel,by decide +kernel⟩
theorem sc_are_group_names : FnScope ["thing"] ["thing"] (defScope s_are_group_names):=⟨rfl,rfl,rfl,by decide +kernel,rfl,by decide +kernel,by decide +kernel⟩
theorem sc_are_pairs : FnScope ["thing"] ["thing"] (defScope s_are_pairs):=⟨rfl,rfl,rfl,by decide +kernel,rfl,by decide +kernel,by decide +kernel⟩
theorem sc_are_sums : FnScope ["thing"] ["thing"] (defScope s_are_sums):=⟨rfl,rfl,rfl,by decide +kernel,rfl,by decide +kernel,by decide +kernel⟩
theorem sc_are_keys : FnScope ["thing"] ["thing"] (defScope s_are_keys):=⟨rfl,rfl,rfl,by decide +kernel,rfl,by decide +kernel,by decide +kernel⟩
theorem sc_may_be_question : FnScope ["thing"] ["thing"] (defScope s_may_be_question):=⟨rfl,rfl,rfl,by decide +kernel,rfl,by decide +kernel,by decide +kernel⟩
theorem sc_has_form : FnScope ["thing","form"] ["thing"] (defScope s_has_form):=⟨rfl,rfl,rfl,by decide +kernel,rfl,by decide +kernel,by decide +kernel⟩
theorem sc_questions_in : FnScope ["question"] ["question"] (defScope s_questions_in):=⟨rfl,rfl,rfl,by decide +kernel,rfl,by decide +kernel,by decide +kernel⟩
theorem sc_own_size : FnScope ["question"] ["question"] (defScope s_own_size):=⟨rfl,rfl,rfl,by decide +kernel,rfl,by decide +kernel,by decide +kernel⟩
theorem sc_checked : FnScope ["thing","size","waiting","part"] ["thing"] (defScope s_checked):=⟨rfl,rfl,rfl,by decide +kernel,rfl,by decide +kernel,by decide +kernel⟩
theorem sc_kind_in : FnScope ["head","name","column"] ["head","name"] (defScope s_kind_in):=⟨rfl,rfl,rfl,by decide +kernel,rfl,by decide +kernel,by decide +kernel⟩
theorem sc_need_like_kinds : FnScope ["kinds","others"] ["kinds","others"] (defScope s_need_like_kinds):=⟨rfl,rfl,rfl,by decide +kernel,rfl,by decide +kernel,by decide +kernel⟩
theorem sc_need_unlike : FnScope ["names"] ["names"] (defScope s_need_unlike):=⟨rfl,rfl,rfl,by decide +kernel,rfl,by decide +kernel,by decide +kernel⟩
theorem sc_table_head : FnScope ["heads","name"] ["heads","name"] (defScope s_table_head):=⟨rfl,rfl,rfl,by decide +kernel,rfl,by decide +kernel,by decide +kernel⟩
theorem sc_other_kind : FnScope ["head","other"] ["head","other"] (defScope s_other_kind):=⟨rfl,rfl,rfl,by decide +kernel,rfl,by decide +kernel,by decide +kernel⟩
theorem sc_where_head : FnScope ["head","tests"] ["head","tests"] (defScope s_where_head):=⟨rfl,rfl,rfl,by decide +kernel,rfl,by decide +kernel,by decide +kernel⟩
theorem sc_keep_head : FnScope ["head","names"] ["head","names"] (defScope s_keep_head):=⟨rfl,rfl,rfl,by decide +kernel,rfl,by decide +kernel,by decide +kernel⟩
theorem sc_named_head : FnScope ["head","names"] ["head","names"] (defScope s_named_head):=⟨rfl,rfl,rfl,by decide +kernel,rfl,by decide +kernel,by decide +kernel⟩
theorem sc_join_head : FnScope ["head","other","pairs","here","there"] ["head","other","pairs"] (defScope s_join_head):=⟨rfl,rfl,rfl,by decide +kernel,rfl,by decide +kernel,by decide +kernel⟩
theorem sc_sum_kind : FnScope ["head","part"] ["head","part"] (defScope s_sum_kind):=⟨rfl,rfl,rfl,by decide +kernel,rfl,by decide +kernel,by decide +kernel⟩
theorem sc_group_head : FnScope ["head","names","sums","kept","made","part","column"] ["head","names","sums"] (defScope s_group_head):=⟨rfl,rfl,rfl,by decide +kernel,rfl,by decide +kernel,by decide +kernel⟩
theorem sc_first_head : FnScope ["head","keys","names"] ["head","keys"] (defScope s_first_head):=⟨rfl,rfl,rfl,by decide +kernel,rfl,by decide +kernel,by decide +kernel⟩
theorem sc_head_here : FnScope ["heads","question","inner","sort"] ["heads","question","inner"] (defScope s_head_here):=⟨rfl,rfl,rfl,by decide +kernel,rfl,by decide +kernel,by decide +kernel⟩
theorem sc_head_within : FnScope ["heads","question","inner","head"] ["heads","question"] (defScope s_head_within):=⟨rfl,rfl,rfl,by decide +kernel,rfl,by decide +kernel,by decide +kernel⟩
theorem sc_head_of : FnScope ["heads","question"] ["heads","question"] (defScope s_head_of):=⟨rfl,rfl,rfl,by decide +kernel,rfl,by decide +kernel,by decide +kernel⟩
theorem sc__law_seed : FnScope ["_law_script","_law_seed_here","_law_k","_law_cell"] ["_law_script"] (defScope s__law_seed):=⟨rfl,rfl,rfl,by decide +kernel,rfl,by decide +kernel,by decide +kernel⟩
theorem sc__law_next : FnScope ["_law_state","_law_many"] ["_law_state","_law_many"] (defScope s__law_next):=⟨rfl,rfl,rfl,by decide +kernel,rfl,by decide +kernel,by decide +kernel⟩
theorem sc__law_words : FnScope ["_law_words_here"] [] (defScope s__law_words):=⟨rfl,rfl,rfl,by decide +kernel,rfl,by decide +kernel,by decide +kernel⟩
theorem sc__law_names : FnScope ["_law_state","_law_many","_law_small","_law_odd","_law_base","_law_k","_law_at","_law_names_here"] ["_law_state","_law_many"] (defScope s__law_names):=⟨rfl,rfl,rfl,by decide +kernel,rfl,by decide +kernel,by decide +kernel⟩
theorem sc__law_where_steps : FnScope ["_law_n","_law_q","_law_a","_law_b","_law_c","_law_d","_law_e","_law_z","_law_one","_law_tests","_law_some","_law_names_here"] ["_law_n","_law_q"] (defScope s__law_where_steps):=⟨rfl,rfl,rfl,by decide +kernel,rfl,by decide +kernel,by decide +kernel⟩
theorem sc__law_join_steps : FnScope ["_law_n","_law_q","_law_a","_law_b","_law_c","_law_d","_law_e","_law_z","_law_wide","_law_pairs","_law_some"] ["_law_n","_law_q"] (defScope s__law_join_steps):=⟨rfl,rfl,rfl,by decide +kernel,rfl,by decide +kernel,by decide +kernel⟩
theorem sc__law_steps : FnScope ["_law_n","_law_q","_law_a","_law_b","_law_c","_law_d","_law_e","_law_z","_law_sums","_law_some","_law_keys","_law_eight"] ["_law_n","_law_q"] (defScope s__law_steps):=⟨rfl,rfl,rfl,by decide +kernel,rfl,by decide +kernel,by decide +kernel⟩
theorem sc__law_inner : FnScope ["_law_state","_law_n","_law_q","_law_k"] ["_law_state","_law_n","_law_q"] (defScope s__law_inner):=⟨rfl,rfl,rfl,by decide +kernel,rfl,by decide +kernel,by decide +kernel⟩
theorem sc__law_outer : FnScope ["_law_state","_law_n","_law_q","_law_k"] ["_law_state","_law_n","_law_q"] (defScope s__law_outer):=⟨rfl,rfl,rfl,by decide +kernel,rfl,by decide +kernel,by decide +kernel⟩
theorem sc__law_refused : FnScope ["_law_heads","_law_question","_law_kinds","_law_e"] ["_law_heads","_law_question"] (defScope s__law_refused):=⟨rfl,rfl,rfl,by decide +kernel,rfl,by decide +kernel,by decide +kernel⟩
theorem sc_law : FnScope ["_law_script","_law_state","_law_n","_law_first","_law_heads","_law_inner_here","_law_steps_here","_law_turn","_law_due","_law_step"] ["_law_script"] (defScope s_law):=⟨rfl,rfl,rfl,by decide +kernel,rfl,by decide +kernel,by decide +kernel⟩
section
variable {P : Program} {w : World} {K : PySem.W.Frag} {mg : Str→Option Value} {base : Heap}
theorem ok_is_whole (T : Txt w K mg) : Ok P w K mg base 1 "is_whole" ["thing"] (sp_whole K):=by
  refine Ok.ofV T.d_is_whole sc_is_whole (fun vs H Q E h=>?_) (fun f cdv A outer s H vs Q E hr h=>?_)
  · obtain ⟨v,rfl,_⟩:=h; rfl
  obtain ⟨v,rfl,hv,q⟩:=h
  refine ⟨_,(vss_one (vs_ret (ve_and (ve_callB (call_isi.or call_isiR) (by rfl) T.n_isinstance bf_isinstance (va_c (vv 0) (va_c (ve_bltn (v:=.ty "int") (by rfl) T.n_int bt_int rfl) va_nil))) (ve_one (ve_not (ve_callB (call_isi.or call_isiR) (by rfl) T.n_isinstance bf_isinstance (va_c (vv 0) (va_c (ve_bltn (v:=.ty "bool") (by rfl) T.n_bool bt_bool rfl) va_nil)))))))),?_⟩
  refine ⟨_,rfl,isi_any hv (.inl rfl) ⟨_,rfl,?_⟩⟩
  rcases id hv with ⟨x,rfl,_⟩ | ⟨i,rfl⟩ | ⟨b,rfl⟩ | ⟨k,h⟩
  · exact iteF q
  · exact iteT ⟨_,rfl,isi_any hv (.inr (.inl rfl)) ⟨_,rfl,q⟩⟩
  · exact iteT ⟨_,rfl,isi_any hv (.inr (.inl rfl)) ⟨_,rfl,q⟩⟩
  · cases h <;> exact iteF q
theorem signs_bl (x : Str) : (((List.range x.cps.size).map fun i=>V.str (sgn x i)).map fun v=>match v with | .str y=>V.bl (inA y) | _=>.bl false) = (((List.range x.cps.size).map fun i=>inA (sgn x i)).map V.bl):=by
  rw [List.map_map,List.map_map]
  rfl
theorem ok_is_word (T : Txt w K mg) : Ok P w K mg base 1 "is_word" ["thing"] (sp_b K (letB 0)):=by
  refine Ok.ofV T.d_is_word sc_is_word (fun vs H Q E h=>?_) (fun f cdv A outer s H vs Q E hr h=>?_)
  · obtain ⟨v,rfl,_⟩:=h; rfl
  obtain ⟨v,rfl,hv,q⟩:=h
  refine ⟨_,(vss_cons (vs_if (VW.pt (vw_or (vt_not (vt_val (ve_callB (call_isi.or call_isiR) (by rfl) T.n_isinstance bf_isinstance (va_c (vv 0) (va_c (ve_bltn (v:=.ty "str") (by rfl) T.n_str bt_str rfl) va_nil))))) (vw_or1 (vt_cmpR op_gt (ve_callB call_len_str (by rfl) T.n_len bf_len (va_c (vv 0) va_nil)) (ve_gl (by rfl) T.g_MOST_LETTERS) (nomark _))))) (vss_one (vs_ret ve_bl)) vss_nil) (vss_one (vs_ret (ve_callB (call_all rfl) (by rfl) T.n_all bf_all (va_c (ve_comp (N:=["sign"]) ⟨by decide +kernel,rfl,by decide +kernel,by decide +kernel⟩ (hfr_none (by decide +kernel)) rfl (vi_str (vv 0)) (fun cl s' H' fp=>⟨(vg_name (i:=0) (show (["sign"] : List Str).Nodup from by decide +kernel) rfl (Or.inl rfl)),vf_nil,(ve_cmpR op_in_str (vv 0) (ve_gl (by rfl) T.g_LETTERS) (by with_unfolding_all rfl))⟩)) va_nil))))),?_⟩
  refine ⟨_,rfl,isi_any hv (.inr (.inr rfl)) ⟨_,rfl,?_⟩⟩
  have no : isS v = false→Q (.bl false) H:=fun e=>by
    have z : letB 0 v = false:=by cases v <;> first | rfl | cases e
    rw [← z]; exact q H (Same.refl H)
  rcases id hv with ⟨x,rfl,hx⟩ | ⟨i,rfl⟩ | ⟨b,rfl⟩ | ⟨k,h⟩
  · refine iteF ⟨_,rfl,_,rfl,small hx,_,_,rfl,rfl,_,rfl,?_⟩
    refine ite2 (fun c=>?_) (fun c=>?_)
    · have c' : (8 : Int) < x.length:=of_decide_eq_true c
      have z : letB 0 (.str x) = false:=by
        show (decide (0 ≤ x.length) && (decide (x.length ≤ 8) && allIn x)) = false
        rw [decide_eq_false (p:=x.length ≤ 8) (by omega)]
        simp
      rw [← z]; exact q H (Same.refl H)
    · have c' : ¬ (8 : Int) < x.length:=of_decide_eq_false (Bool.eq_false_iff.mpr c)
      dsimp only [tNext,tRet,tCB,tCons]
      refine comp_pure ((List.range x.cps.size).map fun i=>V.str (sgn x i)) (fun v=>match v with | .str y=>V.bl (inA y) | _=>.bl false) [none] cap_none1 ?_
        (fun R r=>wi_str (z:=x) (fun R' r'=>⟨_,rfl,r'⟩) R r) (fun v hv' H' R l sm r=>?_) rfl fun D hD=>?_
      · rw [List.length_map,List.length_range]; exact small hx
      · obtain ⟨i,_,rfl⟩:=List.mem_map.mp hv'
        exact ⟨_,rfl,_,_,rfl,rfl,r⟩
      · refine ⟨D,(List.range x.cps.size).map fun i=>inA (sgn x i),rfl,SqL.of (by rw [upd_same,signs_bl]),?_⟩
        have z : letB 0 (.str x) = allIn x:=by
          show (decide (0 ≤ x.length) && (decide (x.length ≤ 8) && allIn x)) = allIn x
          rw [decide_eq_true (p:=x.length ≤ 8) (by omega)]
          simp
        show Q (.bl (allIn x)) _
        rw [← z]
        exact q _ (same_new hD _)
  · exact iteT (no rfl)
  · exact iteT (no rfl)
  · cases h <;> exact iteT (no rfl)
theorem let_len {v : V} {l : Nat} (h : letB l v = true) : ∃ x,v = .str x∧l ≤ x.length∧x.length ≤ 8∧allIn x = true:=by
  cases v with
  | str x =>
    have h : (decide (l ≤ x.length) && (decide (x.length ≤ 8) && allIn x)) = true:=h
    rw [Bool.and_eq_true,Bool.and_eq_true] at h
    exact ⟨x,rfl,of_decide_eq_true h.1,of_decide_eq_true h.2.1,h.2.2⟩
  | _=>cases h
theorem str_empty {x : Str} : x = ("" : Str) ↔ x.length = 0:=by
  constructor
  · rintro rfl; decide +kernel
  · intro h
    obtain ⟨cps⟩:=x
    have h : cps.size = 0:=h
    rw [Array.size_eq_zero_iff] at h
    subst h
    decide +kernel
theorem words_flat : words.all flatV = true:=rfl
theorem ok_is_name (T : Txt w K mg) (G_is_word : Ok P w K mg base 1 "is_word" ["thing"] (sp_b K (letB 0))) : Ok P w K mg base 2 "is_name" ["thing"] (sp_b K nameB):=by
  refine Ok.ofV T.d_is_name sc_is_name (fun vs H Q E h=>?_) (fun f cdv A outer s H vs Q E hr h=>?_)
  · obtain ⟨v,rfl,_⟩:=h; rfl
  obtain ⟨v,rfl,hv,q⟩:=h
  obtain ⟨qa,mq,hqa⟩:=T.g_QUESTION_WORDS
  have g_QUESTION_WORDS : ∃ u,mg "QUESTION_WORDS" = some u∧RelV (.ref qa) u:=⟨_,mq,rfl⟩
  refine ⟨_,(vss_one (vs_ret (ve_and (ve_fn (G_is_word.mono (by decide)) hr (by rfl) (va_c (vv 0) va_nil)) (ve_and (ve_cmpR op_ne (vv 0) ve_str (nomark _)) (ve_one (ve_cmpR op_notIn_seq (vv 0) (ve_gl (by rfl) g_QUESTION_WORDS) (by with_unfolding_all rfl))))))),?_⟩
  refine ⟨_,rfl,_,rfl,hv,fun H1 s1=>⟨_,rfl,?_⟩⟩
  refine ite2 (fun c=>?_) (fun c=>?_)
  · obtain ⟨x,rfl,_,h8,ha⟩:=let_len c
    refine ⟨_,rfl,rfl,_,rfl,?_⟩
    by_cases e : x.length = 0
    · have ex:=str_empty.mpr e
      subst ex
      refine iteF ?_
      have z : nameB (.str "") = false:=by decide +kernel
      rw [← z]; exact q H1 s1
    · have ne : ¬ (V.str x = V.str ""):=fun z=>e (str_empty.mp (V.str.inj z))
      have e2 : (!decide (V.str x = V.str "")) = true:=by rw [decide_eq_false ne]; rfl
      rw [e2]
      refine iteT ⟨_,rfl,qa,words,rfl,.inr (hqa _),rfl,words_flat,?_⟩
      have z : nameB (.str x) = !inV (.str x) words:=by
        show ((decide (1 ≤ x.length) && (decide (x.length ≤ 8) && allIn x)) && !inV (.str x) words) = !inV (.str x) words
        rw [decide_eq_true (p:=1 ≤ x.length) (by omega),decide_eq_true h8,ha]
        rfl
      show Q (.bl (!inV (.str x) words)) H1
      rw [← z]; exact q H1 s1
  · have z : nameB v = false:=by
      show (letB 1 v && !inV v words) = false
      cases hv1 : letB 1 v with
      | false=>rfl
      | true =>
        obtain ⟨x,rfl,h1,h8,ha⟩:=let_len hv1
        refine absurd ?_ c
        show (decide (0 ≤ x.length) && (decide (x.length ≤ 8) && allIn x)) = true
        rw [decide_eq_true h8,ha,decide_eq_true (Nat.zero_le _)]
        rfl
    rw [← z]; exact q H1 s1
theorem ok_is_value (T : Txt w K mg) (G_is_whole : Ok P w K mg base 1 "is_whole" ["thing"] (sp_whole K)) (G_is_word : Ok P w K mg base 1 "is_word" ["thing"] (sp_b K (letB 0))) :
    Ok P w K mg base 2 "is_value" ["thing"] (sp_b K valB):=by
  refine Ok.ofV T.d_is_value sc_is_value (fun vs H Q E h=>?_) (fun f cdv A outer s H vs Q E hr h=>?_)
  · obtain ⟨v,rfl,_⟩:=h; rfl
  obtain ⟨v,rfl,hv,q⟩:=h
  refine ⟨_,(vss_one (vs_ret (ve_or (ve_fn (G_is_whole.mono (by decide)) hr (by rfl) (va_c (vv 0) va_nil)) (ve_one (ve_fn (G_is_word.mono (by decide)) hr (by rfl) (va_c (vv 0) va_nil)))))),?_⟩
  refine ⟨_,rfl,_,rfl,hv,_,rfl,?_⟩
  cases hw : whole v with
  | true =>
    refine iteT ?_
    have z : valB v = true:=by show (whole v || letB 0 v) = true; rw [hw]; rfl
    rw [← z]; exact q H (Same.refl H)
  | false =>
    refine iteF ⟨_,rfl,_,rfl,hv,fun H1 s1=>?_⟩
    have z : valB v = letB 0 v:=by show (whole v || letB 0 v) = letB 0 v; rw [hw]; rfl
    rw [← z]; exact q H1 s1
theorem ok_kind_of (T : Txt w K mg) (G_is_whole : Ok P w K mg base 1 "is_whole" ["thing"] (sp_whole K)) : Ok P w K mg base 2 "kind_of" ["value"] (sp_kind K):=by
  refine Ok.ofV T.d_kind_of sc_kind_of (fun vs H Q E h=>?_) (fun f cdv A outer s H vs Q E hr h=>?_)
  · obtain ⟨v,rfl,_⟩:=h; rfl
  obtain ⟨v,rfl,hv,q⟩:=h
  refine ⟨_,(vss_one (vs_ret (ve_ifExp (vt_val (ve_fn (G_is_whole.mono (by decide)) hr (by rfl) (va_c (vv 0) va_nil))) ve_str ve_str))),?_⟩
  refine ⟨_,rfl,_,rfl,hv,_,rfl,?_⟩
  cases hw : whole v with
  | true=>rw [hw] at q; exact iteT q
  | false=>rw [hw] at q; exact iteF q
theorem at0 (x : V) (r : List V) : atI (x :: r) 0 = some x:=by
  unfold atI ixN
  simp
theorem at1 (x y : V) (r : List V) : atI (x :: y :: r) 1 = some y:=by
  unfold atI ixN
  simp only [List.length_cons]
  rw [if_pos (by omega),if_pos (by omega)]
  rfl
structure Tells (R : Hp→V→Bool→Prop) : Prop where
  same : ∀ {H H' v b},Same H H'→R H v b→R H' v b
def sp_r (R : Hp→V→Bool→Prop) : Sp:=fun vs H Q _=>∃ v b,vs = [v]∧R H v b∧∀ H',Same H H'→Q (.bl b) H'
inductive TupOf (K : PySem.W.Frag) (R : Hp→V→Bool→Prop) (lo hi : Nat) (H : Hp) : V→Bool→Prop
  | no {v} : Tk K H v false→TupOf K R lo hi H v false
  | len {a xs} : SqT K H a xs→¬ (lo ≤ xs.length∧xs.length ≤ hi)→TupOf K R lo hi H (.ref a) false
  | yes {a xs} (f : V→Bool) : SqT K H a xs→lo ≤ xs.length→xs.length ≤ hi→(∀ x ∈ xs,R H x (f x))→TupOf K R lo hi H (.ref a) (xs.all f)
def sp_one (K : PySem.W.Frag) : Sp:=fun vs H Q _=>∃ v a xs,vs = [v,.ref a]∧Th K H v∧SqT K H a xs∧xs.all flatV = true∧Q (.bl (isS v && inV v xs)) H
def sp_tupof (P : Program) (w : World) (K : PySem.W.Frag) (mg : Str→Option Value) (base : Heap) (k : Nat) : Sp:=fun vs H Q _=>∃ v lo hi f ps R b,vs = [v,.int (lo : Nat),.int (hi : Nat),.ref f]∧hi ≤ 1000∧Held P w K mg base k f ps (sp_r R)∧Tells R∧TupOf K R lo hi H v b∧∀ H',Same H H'→Q (.bl b) H'
def sp_unlike (K : PySem.W.Frag) : Sp:=fun vs H Q _=>∃ a ss,vs = [.ref a]∧SqL K H a (ss.map V.str)∧ss.length ≤ 1000∧∀ H',Same H H'→Q (.bl (decide ((metS ss).length = ss.length))) H'
theorem ok_is_one_of (T : Txt w K mg) : Ok P w K mg base 1 "is_one_of" ["thing","texts"] (sp_one K):=by
  refine Ok.ofV T.d_is_one_of sc_is_one_of (fun vs H Q E h=>?_) (fun f cdv A outer s H vs Q E hr h=>?_)
  · obtain ⟨v,a,xs,rfl,_⟩:=h; rfl
  obtain ⟨v,a,xs,rfl,hv,ha,hf,q⟩:=h
  refine ⟨_,(vss_one (vs_ret (ve_and (ve_callB (call_isi.or call_isiR) (by rfl) T.n_isinstance bf_isinstance (va_c (vv 0) (va_c (ve_bltn (v:=.ty "str") (by rfl) T.n_str bt_str rfl) va_nil))) (ve_one (ve_cmpR op_in_seq (vv 0) (vv 1) (by with_unfolding_all rfl)))))),?_⟩
  refine ⟨_,rfl,isi_any hv (.inr (.inr rfl)) ⟨_,rfl,?_⟩⟩
  rcases id hv with ⟨x,rfl,_⟩ | ⟨i,rfl⟩ | ⟨b,rfl⟩ | ⟨k,h⟩
  · exact iteT ⟨_,rfl,_,rfl,a,xs,rfl,.inr ha,rfl,hf,q⟩
  · exact iteF q
  · exact iteF q
  · cases h <;> exact iteF q
theorem ok_is_tuple_of {k : Nat} (T : Txt w K mg) : Ok P w K mg base (k + 1) "is_tuple_of" ["thing","least","most","is_part"] (sp_tupof P w K mg base k):=by
  refine Ok.ofV T.d_is_tuple_of sc_is_tuple_of (fun vs H Q E h=>?_) (fun f cdv A outer s H vs Q E hr h=>?_)
  · obtain ⟨v,lo,hi,f,ps,R,b,rfl,_⟩:=h; rfl
  obtain ⟨v,lo,hi,g,ps,R,b,rfl,h1000,hg,hR,hv,q⟩:=h
  refine ⟨_,(vss_cons (vs_if (VW.pt (vw_or (vt_not (vt_val (ve_callB call_isiT (by rfl) T.n_isinstance bf_isinstance (va_c (vv 0) (va_c (ve_bltn (v:=.ty "tuple") (by rfl) T.n_tuple bt_tuple rfl) va_nil))))) (vw_or1 (vt_not (vt_chain op_le op_le (vv 1) (ve_callB call_len_seq (by rfl) T.n_len bf_len (va_c (vv 0) va_nil)) (vv 2)))))) (vss_one (vs_ret ve_bl)) vss_nil) (vss_one (vs_ret (ve_callB (call_all rfl) (by rfl) T.n_all bf_all (va_c (ve_comp (N:=["part","is_part"]) ⟨by decide +kernel,rfl,by decide +kernel,by decide +kernel⟩ (hfr_of (defScope s_is_tuple_of) rfl (by decide +kernel)) rfl (vi_tup (vv 0)) (fun cl s' H' fp=>⟨(vg_name (i:=0) (show (["part","is_part"] : List Str).Nodup from by decide +kernel) rfl (Or.inl rfl)),vf_nil,(ve_heldK (P:=P) (w:=w) (K:=K) (mg:=mg) (base:=base) hr (vv 1) (va_c (vv 0) va_nil))⟩)) va_nil))))),?_⟩
  cases hv with
  | no h =>
    exact ⟨_,rfl,_,_,rfl,h,_,rfl,iteT (q H (Same.refl H))⟩
  | @len a xs ha hn =>
    refine ⟨_,rfl,_,_,rfl,.tup ha,_,rfl,iteF ?_⟩
    refine ⟨_,rfl,_,rfl,_,_,rfl,.inr ha,_,_,rfl,rfl,_,rfl,?_⟩
    refine ite2 (fun c=>⟨_,rfl,_,_,rfl,rfl,_,rfl,?_⟩) (fun c=>⟨_,rfl,iteT (q H (Same.refl H))⟩)
    have c' : (lo : Int) ≤ xs.length:=of_decide_eq_true c
    have e : decide ((xs.length : Int) ≤ (hi : Int)) = false:=decide_eq_false fun z=>hn ⟨by omega,by omega⟩
    rw [e]
    exact iteT (q H (Same.refl H))
  | @yes a xs t ha h1 h2 hx =>
    refine ⟨_,rfl,_,_,rfl,.tup ha,_,rfl,iteF ?_⟩
    refine ⟨_,rfl,_,rfl,_,_,rfl,.inr ha,_,_,rfl,rfl,_,rfl,?_⟩
    have e1 : decide ((lo : Int) ≤ (xs.length : Int)) = true:=decide_eq_true (by omega)
    have e2 : decide ((xs.length : Int) ≤ (hi : Int)) = true:=decide_eq_true (by omega)
    rw [e1]
    refine iteT ⟨_,rfl,_,_,rfl,rfl,_,rfl,?_⟩
    rw [e2]
    refine iteF ?_
    dsimp only [tNext,tRet,tCB,tCons]
    refine comp_same xs (fun x=>.bl (t x)) [none,some (.ref g)] ?_ (small (by omega)) (fun R r=>wi_tup ha (fun R' r'=>⟨_,rfl,r'⟩) R r) (fun x hx' H' R l sm r=>?_) rfl fun D H' sm hD=>?_
    · exact cap_at1 3 (by decide +kernel) rfl rfl (by first | exact Or.inl rfl | exact Or.inr (Or.inl rfl) | exact Or.inr (Or.inr rfl))
    · exact ⟨_,rfl,g,ps,_,rfl,hg,_,rfl,x,t x,rfl,hR.same sm (hx x hx'),r⟩
    · refine ⟨D,xs.map t,rfl,SqL.of (by rw [hD,List.map_map]; rfl),?_⟩
      rw [List.all_map]
      exact q H' sm
theorem ok_are_unlike (T : Txt w K mg) : Ok P w K mg base 1 "are_unlike" ["names"] (sp_unlike K):=by
  refine Ok.ofV T.d_are_unlike sc_are_unlike (fun vs H Q E h=>?_) (fun f cdv A outer s H vs Q E hr h=>?_)
  · obtain ⟨a,ss,rfl,_⟩:=h; rfl
  obtain ⟨a,ss,rfl,ha,hl,q⟩:=h
  refine ⟨_,(vss_one (vs_ret (ve_cmpR op_eq (ve_callB call_lenTx (by rfl) T.n_len bf_len (va_c (ve_callTy (call_setTx rfl) (by rfl) T.n_set bt_set (va_c (vv 0) va_nil)) va_nil)) (ve_callB call_len_seq (by rfl) T.n_len bf_len (va_c (vv 0) va_nil)) (nomark _)))),?_⟩
  refine ⟨_,rfl,a,ss,rfl,ha,hl,fun D hD=>⟨D,ss,rfl,upd_same,_,rfl,a,_,rfl,.inl ((same_new hD _).seq ha),rfl,?_⟩⟩
  have e : decide (V.int ((metS ss).length : Nat) = V.int (ss.map V.str).length) = decide ((metS ss).length = ss.length):=by
    rw [List.length_map]
    by_cases z : (metS ss).length = ss.length
    · rw [z]; simp
    · rw [decide_eq_false z,decide_eq_false (by intro y; apply z; have:=V.int.inj y; omega)]
  rw [e]
  exact q _ (same_new hD _)
theorem at2 (x y z : V) (r : List V) : atI (x :: y :: z :: r) 2 = some z:=by
  unfold atI ixN
  simp only [List.length_cons]
  rw [if_pos (by omega),if_pos (by omega)]
  rfl
theorem th_str {K : PySem.W.Frag} {H : Hp} {x : Str} (h : x.length ≤ 8) : Th K H (.str x):=.inl ⟨x,rfl,by omega⟩
def Nm (x : Str) : Prop:=nameB (.str x) = true
theorem name_len {x : Str} (h : nameB (.str x) = true) : x.length ≤ 8:=by
  have h : (letB 1 (.str x) && !inV (.str x) words) = true:=h
  rw [Bool.and_eq_true] at h
  obtain ⟨y,e,_,h8,_⟩:=let_len h.1
  cases e
  exact h8
theorem Nm.th {K : PySem.W.Frag} {H : Hp} {x : Str} (h : Nm x) : Th K H (.str x):=th_str (name_len h)
abbrev signs : List V:=[.str "=",.str "<",.str ">",.str "!"]
abbrev sumWords : List V:=[.str "count",.str "sum",.str "least",.str "most"]
abbrev waysV : List V:=[.str "up",.str "down"]
inductive Oth where
  | val (x : V)
  | col (d : Str)
structure Tst where
  c : Str
  sg : Str
  o : Oth
structure Sm where
  wd : Str
  c : Option Str
  new : Str
def IsO (K : PySem.W.Frag) (H : Hp) (v : V) : Oth→Prop
  | .val x=>∃ a,v = .ref a∧SqT K H a [.str "value",x]∧Th K H x∧valB x = true
  | .col d=>∃ a,v = .ref a∧SqT K H a [.str "column",.str d]∧Nm d
def SgOk (x : Str) : Prop:=x = "=" ∨ x = "<" ∨ x = ">" ∨ x = "!"
def IsT (K : PySem.W.Frag) (H : Hp) (v : V) (t : Tst) : Prop:=∃ a w,v = .ref a∧SqT K H a [.str t.c,.str t.sg,w]∧Nm t.c∧SgOk t.sg∧IsO K H w t.o
def IsPr (K : PySem.W.Frag) (H : Hp) (v : V) (p : Str × Str) : Prop:=∃ a,v = .ref a∧SqT K H a [.str p.1,.str p.2]∧Nm p.1∧Nm p.2
def IsKy (K : PySem.W.Frag) (H : Hp) (v : V) (p : Str × Str) : Prop:=∃ a,v = .ref a∧SqT K H a [.str p.1,.str p.2]∧Nm p.1∧(p.2 = "up" ∨ p.2 = "down")
def WdOk (x : Str) : Prop:=x = "sum" ∨ x = "least" ∨ x = "most"
def IsSm (K : PySem.W.Frag) (H : Hp) (v : V) (s : Sm) : Prop:=∃ a,v = .ref a∧Nm s.new∧((s.wd = "count"∧s.c = none∧SqT K H a [.str "count",.non,.str s.new]) ∨ (∃ c,s.c = some c∧Nm c∧WdOk s.wd∧SqT K H a [.str s.wd,.str c,.str s.new]))
def IsN (v : V) (x : Str) : Prop:=v = .str x∧Nm x
inductive All2 {α β : Type} (R : α→β→Prop) : List α→List β→Prop
  | nil : All2 R [] []
  | cons {a b as bs} : R a b→All2 R as bs→All2 R (a :: as) (b :: bs)
theorem All2.len {α β : Type} {R : α→β→Prop} {as : List α} {bs : List β} (h : All2 R as bs) : as.length = bs.length:=by
  induction h with
  | nil=>rfl
  | cons _ _ ih=>rw [List.length_cons,List.length_cons,ih]
theorem All2.imp {α β : Type} {R S : α→β→Prop} {as : List α} {bs : List β} (h : All2 R as bs) (k : ∀ a b,R a b→S a b) : All2 S as bs:=by
  induction h with
  | nil=>exact .nil
  | cons r _ ih=>exact .cons (k _ _ r) ih
theorem All2.mem {α β : Type} {R : α→β→Prop} {as : List α} {bs : List β} (h : All2 R as bs) {a : α} (m : a ∈ as) : ∃ b,b ∈ bs∧R a b:=by
  induction h with
  | nil=>cases m
  | cons r _ ih =>
    rcases List.mem_cons.mp m with rfl | m
    · exact ⟨_,List.mem_cons_self ..,r⟩
    · obtain ⟨b,hb,q⟩:=ih m
      exact ⟨b,List.mem_cons_of_mem _ hb,q⟩
theorem All2.app {α β : Type} {R : α→β→Prop} {as cs : List α} {bs ds : List β} (h : All2 R as bs) (k : All2 R cs ds) : All2 R (as ++ cs) (bs ++ ds):=by
  induction h with
  | nil=>exact k
  | cons r _ ih=>exact .cons r ih
def TupR {α : Type} (K : PySem.W.Frag) (H : Hp) (R : V→α→Prop) (v : V) (xs : List α) : Prop:=∃ a vs,v = .ref a∧SqT K H a vs∧All2 R vs xs
theorem TupR.same {α : Type} {K : PySem.W.Frag} {H H' : Hp} {R S : V→α→Prop} {v : V} {xs : List α} (e : Same H H') (k : ∀ a b,R a b→S a b) (h : TupR K H R v xs) : TupR K H' S v xs:=by
  obtain ⟨a,vs,rfl,ha,hr⟩:=h
  exact ⟨a,vs,rfl,e.seqT ha,hr.imp k⟩
theorem IsO.same {K : PySem.W.Frag} {H H' : Hp} {v : V} {o : Oth} (e : Same H H') (h : IsO K H v o) : IsO K H' v o:=by
  cases o with
  | val x=>obtain ⟨a,rfl,ha,hx,hv⟩:=h; exact ⟨a,rfl,e.seqT ha,hx.same e,hv⟩
  | col d=>obtain ⟨a,rfl,ha,hd⟩:=h; exact ⟨a,rfl,e.seqT ha,hd⟩
theorem IsT.same {K : PySem.W.Frag} {H H' : Hp} {v : V} {t : Tst} (e : Same H H') (h : IsT K H v t) : IsT K H' v t:=by
  obtain ⟨a,w,rfl,ha,h1,h2,h3⟩:=h
  exact ⟨a,w,rfl,e.seqT ha,h1,h2,h3.same e⟩
theorem IsPr.same {K : PySem.W.Frag} {H H' : Hp} {v : V} {t : Str × Str} (e : Same H H') (h : IsPr K H v t) : IsPr K H' v t:=by
  obtain ⟨a,rfl,ha,h1⟩:=h
  exact ⟨a,rfl,e.seqT ha,h1⟩
theorem IsKy.same {K : PySem.W.Frag} {H H' : Hp} {v : V} {t : Str × Str} (e : Same H H') (h : IsKy K H v t) : IsKy K H' v t:=by
  obtain ⟨a,rfl,ha,h1⟩:=h
  exact ⟨a,rfl,e.seqT ha,h1⟩
theorem IsSm.same {K : PySem.W.Frag} {H H' : Hp} {v : V} {t : Sm} (e : Same H H') (h : IsSm K H v t) : IsSm K H' v t:=by
  obtain ⟨a,rfl,hn,h1⟩:=h
  refine ⟨a,rfl,hn,?_⟩
  rcases h1 with ⟨x,y,z⟩ | ⟨c,x,y,z,u⟩
  · exact .inl ⟨x,y,e.seqT z⟩
  · exact .inr ⟨c,x,y,z,e.seqT u⟩
def YesR {α : Type} (K : PySem.W.Frag) (S : PySem.W.Frag→Hp→V→α→Prop) : Hp→V→Bool→Prop:=fun H v b=>b = true∧∃ t,S K H v t
theorem yes_tells {α : Type} {K : PySem.W.Frag} {S : PySem.W.Frag→Hp→V→α→Prop} (st : ∀ {H H' v t},Same H H'→S K H v t→S K H' v t) : Tells (YesR K S):=⟨fun e h=>⟨h.1,let ⟨t,q⟩:=h.2; ⟨t,st e q⟩⟩⟩
def NameS (_ : PySem.W.Frag) (_ : Hp) (v : V) (x : Str) : Prop:=IsN v x
theorem tupof {α : Type} {S : PySem.W.Frag→Hp→V→α→Prop} {lo hi : Nat} {H : Hp} {v : V} {xs : List α} (h : TupR K H (S K H) v xs) (h1 : lo ≤ xs.length) (h2 : xs.length ≤ hi) : TupOf K (YesR K S) lo hi H v true:=by
  obtain ⟨a,vs,rfl,ha,hr⟩:=h
  have z:=TupOf.yes (K:=K) (R:=YesR K S) (lo:=lo) (hi:=hi) (fun _=>true) ha (by rw [hr.len]; exact h1) (by rw [hr.len]; exact h2) (fun x hx=>by
    obtain ⟨b,_,q⟩:=hr.mem hx
    exact ⟨rfl,b,q⟩)
  have e : vs.all (fun _=>true) = true:=by rw [List.all_eq_true]; intro _ _; rfl
  rw [e] at z
  exact z
def TupS {α : Type} (S : PySem.W.Frag→Hp→V→α→Prop) (lo hi : Nat) : PySem.W.Frag→Hp→V→List α→Prop:=fun K H v xs=>TupR K H (S K H) v xs∧lo ≤ xs.length∧xs.length ≤ hi
theorem ok_is_other (T : Txt w K mg) (G_is_one_of : Ok P w K mg base 1 "is_one_of" ["thing","texts"] (sp_one K)) (G_is_value : Ok P w K mg base 2 "is_value" ["thing"] (sp_b K valB)) (G_is_name : Ok P w K mg base 2 "is_name" ["thing"] (sp_b K nameB)) :
    Ok P w K mg base 3 "is_other" ["thing"] (sp_r (YesR K IsO)):=by
  refine Ok.ofV T.d_is_other sc_is_other (fun vs H Q E h=>?_) (fun f cdv A outer s H vs Q E hr h=>?_)
  · obtain ⟨v,b,rfl,_⟩:=h; rfl
  obtain ⟨v,b,rfl,⟨rfl,o,ho⟩,q⟩:=h
  refine ⟨_,(vss_cons (vs_if (VW.pt (vw_or (vt_not (vt_val (ve_callB call_isiT (by rfl) T.n_isinstance bf_isinstance (va_c (vv 0) (va_c (ve_bltn (v:=.ty "tuple") (by rfl) T.n_tuple bt_tuple rfl) va_nil))))) (vw_or1 (vt_cmpR op_ne (ve_callB call_len_seq (by rfl) T.n_len bf_len (va_c (vv 0) va_nil)) ve_int (nomark _))))) (vss_one (vs_ret ve_bl)) vss_nil) (vss_cons (vs_if (vt_val (ve_fn (G_is_one_of.mono (by decide)) hr (by rfl) (va_c (ve_ix ix_tup (vv 0) ve_int (fun _ _=>rfl)) (va_c (ve_tupA (va_c ve_str va_nil)) va_nil)))) (vss_one (vs_ret (ve_fn (G_is_value.mono (by decide)) hr (by rfl) (va_c (ve_ix ix_tup (vv 0) ve_int (fun _ _=>rfl)) va_nil)))) vss_nil) (vss_one (vs_ret (ve_and (ve_fn (G_is_one_of.mono (by decide)) hr (by rfl) (va_c (ve_ix ix_tup (vv 0) ve_int (fun _ _=>rfl)) (va_c (ve_tupA (va_c ve_str va_nil)) va_nil))) (ve_one (ve_fn (G_is_name.mono (by decide)) hr (by rfl) (va_c (ve_ix ix_tup (vv 0) ve_int (fun _ _=>rfl)) va_nil)))))))),?_⟩
  cases o with
  | val x =>
    obtain ⟨a,rfl,ha,hx,hv⟩:=ho
    refine ⟨_,rfl,_,_,rfl,.tup ha,_,rfl,iteF ?_⟩
    refine ⟨_,rfl,_,_,rfl,.inr ha,rfl,_,rfl,iteF ?_⟩
    refine ⟨_,rfl,a,_,0,_,rfl,rfl,ha,at0 _ _,(by show 1 ≤ sizeLine; decide),fun p1 H1 _ s1 g1=>⟨_,p1,_,rfl,th_str (by decide +kernel),SqT.of g1,rfl,_,rfl,iteT ?_⟩⟩
    refine ⟨_,rfl,a,_,1,_,rfl,rfl,s1.seqT ha,at1 _ _ _,x,rfl,hx.same s1,fun H2 s2=>?_⟩
    rw [hv]
    exact q H2 (s1.trans s2)
  | col d =>
    obtain ⟨a,rfl,ha,hd⟩:=ho
    refine ⟨_,rfl,_,_,rfl,.tup ha,_,rfl,iteF ?_⟩
    refine ⟨_,rfl,_,_,rfl,.inr ha,rfl,_,rfl,iteF ?_⟩
    refine ⟨_,rfl,a,_,0,_,rfl,rfl,ha,at0 _ _,(by show 1 ≤ sizeLine; decide),fun p1 H1 _ s1 g1=>⟨_,p1,_,rfl,th_str (by decide +kernel),SqT.of g1,rfl,_,rfl,iteF ?_⟩⟩
    refine ⟨_,rfl,a,_,0,_,rfl,rfl,s1.seqT ha,at0 _ _,(by show 1 ≤ sizeLine; decide),fun p2 H2 _ s2 g2=>⟨_,p2,_,rfl,th_str (by decide +kernel),SqT.of g2,rfl,_,rfl,iteT ?_⟩⟩
    refine ⟨_,rfl,a,_,1,_,rfl,rfl,s2.seqT (s1.seqT ha),at1 _ _ _,_,rfl,hd.th,fun H3 s3=>?_⟩
    rw [show nameB (.str d) = true from hd]
    exact q H3 (s1.trans (s2.trans s3))
theorem sg_in {x : Str} (h : SgOk x) : (isS (.str x) && inV (.str x) signs) = true∧x.length ≤ 8:=by
  rcases h with rfl | rfl | rfl | rfl <;> exact ⟨by decide +kernel,by decide +kernel⟩
theorem ok_is_test (T : Txt w K mg) (G_is_one_of : Ok P w K mg base 1 "is_one_of" ["thing","texts"] (sp_one K)) (G_is_name : Ok P w K mg base 2 "is_name" ["thing"] (sp_b K nameB)) (G_is_other : Ok P w K mg base 3 "is_other" ["thing"] (sp_r (YesR K IsO))) :
    Ok P w K mg base 4 "is_test" ["thing"] (sp_r (YesR K IsT)):=by
  refine Ok.ofV T.d_is_test sc_is_test (fun vs H Q E h=>?_) (fun f cdv A outer s H vs Q E hr h=>?_)
  · obtain ⟨v,b,rfl,_⟩:=h; rfl
  obtain ⟨v,b,rfl,⟨rfl,t,a,o,rfl,ha,hc,hs,ho⟩,q⟩:=h
  obtain ⟨ka,mk,hka⟩:=T.g_SIGNS
  have g_SIGNS : ∃ u,mg "SIGNS" = some u∧RelV (.ref ka) u:=⟨_,mk,rfl⟩
  refine ⟨_,(vss_cons (vs_if (VW.pt (vw_or (vt_not (vt_val (ve_callB call_isiT (by rfl) T.n_isinstance bf_isinstance (va_c (vv 0) (va_c (ve_bltn (v:=.ty "tuple") (by rfl) T.n_tuple bt_tuple rfl) va_nil))))) (vw_or1 (vt_cmpR op_ne (ve_callB call_len_seq (by rfl) T.n_len bf_len (va_c (vv 0) va_nil)) ve_int (nomark _))))) (vss_one (vs_ret ve_bl)) vss_nil) (vss_one (vs_ret (ve_and (ve_fn (G_is_name.mono (by decide)) hr (by rfl) (va_c (ve_ix ix_tup (vv 0) ve_int (fun _ _=>rfl)) va_nil)) (ve_and (ve_fn (G_is_one_of.mono (by decide)) hr (by rfl) (va_c (ve_ix ix_tup (vv 0) ve_int (fun _ _=>rfl)) (va_c (ve_gl (by rfl) g_SIGNS) va_nil))) (ve_one (ve_fn (G_is_other.mono (by decide)) hr (by rfl) (va_c (ve_ix ix_tup (vv 0) ve_int (fun _ _=>rfl)) va_nil)))))))),?_⟩
  refine ⟨_,rfl,_,_,rfl,.tup ha,_,rfl,iteF ?_⟩
  refine ⟨_,rfl,_,_,rfl,.inr ha,rfl,_,rfl,iteF ?_⟩
  refine ⟨_,rfl,a,_,0,_,rfl,rfl,ha,at0 _ _,_,rfl,hc.th,fun H1 s1=>⟨_,rfl,?_⟩⟩
  rw [show nameB (.str t.c) = true from hc]
  refine iteT ⟨_,rfl,a,_,1,_,rfl,rfl,s1.seqT ha,at1 _ _ _,_,ka,signs,rfl,th_str (sg_in hs).2,hka _,rfl,_,rfl,?_⟩
  rw [(sg_in hs).1]
  refine iteT ⟨_,rfl,a,_,2,_,rfl,rfl,s1.seqT ha,at2 _ _ _ _,o,true,rfl,⟨rfl,_,ho.same s1⟩,fun H2 s2=>q H2 (s1.trans s2)⟩
theorem ok_is_pair (T : Txt w K mg) (G_is_name : Ok P w K mg base 2 "is_name" ["thing"] (sp_r (YesR K NameS))) (G_is_tuple_of : Ok P w K mg base 3 "is_tuple_of" ["thing","least","most","is_part"] (sp_tupof P w K mg base 2)) :
    Ok P w K mg base 4 "is_pair" ["thing"] (sp_r (YesR K IsPr)):=by
  refine Ok.ofV T.d_is_pair sc_is_pair (fun vs H Q E h=>?_) (fun f cdv A outer s H vs Q E hr h=>?_)
  · obtain ⟨v,b,rfl,_⟩:=h; rfl
  obtain ⟨v,b,rfl,⟨rfl,p,a,rfl,ha,h1,h2⟩,q⟩:=h
  obtain ⟨fa,mf,hf⟩:=G_is_name.held
  have v_is_name : ∃ u,mg "is_name" = some u∧RelV (.ref fa) u:=⟨_,mf,rfl⟩
  refine ⟨_,(vss_one (vs_ret (ve_fn (G_is_tuple_of.mono (by decide)) hr (by rfl) (va_c (vv 0) (va_c ve_int (va_c ve_int (va_c (ve_gl (by rfl) v_is_name) va_nil))))))),?_⟩
  exact ⟨_,rfl,_,2,2,fa,_,_,_,rfl,by decide,hf,yes_tells (S:=NameS) (fun _ h=>h),tupof (S:=NameS) (xs:=[p.1,p.2]) ⟨a,_,rfl,ha,.cons ⟨rfl,h1⟩ (.cons ⟨rfl,h2⟩ .nil)⟩ (Nat.le_refl _) (Nat.le_refl _),fun H1 s1=>q H1 s1⟩
theorem ok_is_key (T : Txt w K mg) (G_is_one_of : Ok P w K mg base 1 "is_one_of" ["thing","texts"] (sp_one K)) (G_is_name : Ok P w K mg base 2 "is_name" ["thing"] (sp_b K nameB)) : Ok P w K mg base 3 "is_key" ["thing"] (sp_r (YesR K IsKy)):=by
  refine Ok.ofV T.d_is_key sc_is_key (fun vs H Q E h=>?_) (fun f cdv A outer s H vs Q E hr h=>?_)
  · obtain ⟨v,b,rfl,_⟩:=h; rfl
  obtain ⟨v,b,rfl,⟨rfl,⟨c,wy⟩,a,rfl,ha,hc,hw⟩,q⟩:=h
  obtain ⟨ka,mk,hka⟩:=T.g_WAYS
  have g_WAYS : ∃ u,mg "WAYS" = some u∧RelV (.ref ka) u:=⟨_,mk,rfl⟩
  refine ⟨_,(vss_cons (vs_if (VW.pt (vw_or (vt_not (vt_val (ve_callB call_isiT (by rfl) T.n_isinstance bf_isinstance (va_c (vv 0) (va_c (ve_bltn (v:=.ty "tuple") (by rfl) T.n_tuple bt_tuple rfl) va_nil))))) (vw_or1 (vt_cmpR op_ne (ve_callB call_len_seq (by rfl) T.n_len bf_len (va_c (vv 0) va_nil)) ve_int (nomark _))))) (vss_one (vs_ret ve_bl)) vss_nil) (vss_one (vs_ret (ve_and (ve_fn (G_is_name.mono (by decide)) hr (by rfl) (va_c (ve_ix ix_tup (vv 0) ve_int (fun _ _=>rfl)) va_nil)) (ve_one (ve_fn (G_is_one_of.mono (by decide)) hr (by rfl) (va_c (ve_ix ix_tup (vv 0) ve_int (fun _ _=>rfl)) (va_c (ve_gl (by rfl) g_WAYS) va_nil)))))))),?_⟩
  refine ⟨_,rfl,_,_,rfl,.tup ha,_,rfl,iteF ?_⟩
  refine ⟨_,rfl,_,_,rfl,.inr ha,rfl,_,rfl,iteF ?_⟩
  refine ⟨_,rfl,a,_,0,_,rfl,rfl,ha,at0 _ _,_,rfl,hc.th,fun H1 s1=>⟨_,rfl,?_⟩⟩
  rw [show nameB (.str c) = true from hc]
  have e : (isS (.str wy) && inV (.str wy) waysV) = true∧wy.length ≤ 8:=by
    rcases hw with e | e <;> (have e : wy = _:=e; subst e; exact ⟨by decide +kernel,by decide +kernel⟩)
  refine iteT ⟨_,rfl,a,_,1,_,rfl,rfl,s1.seqT ha,at1 _ _ _,_,ka,waysV,rfl,th_str e.2,hka _,rfl,?_⟩
  show Q (.bl (isS (.str wy) && inV (.str wy) waysV)) H1
  rw [e.1]
  exact q H1 s1
theorem ok_is_sum (T : Txt w K mg) (G_is_one_of : Ok P w K mg base 1 "is_one_of" ["thing","texts"] (sp_one K)) (G_is_name : Ok P w K mg base 2 "is_name" ["thing"] (sp_b K nameB)) : Ok P w K mg base 3 "is_sum" ["thing"] (sp_r (YesR K IsSm)):=by
  refine Ok.ofV T.d_is_sum sc_is_sum (fun vs H Q E h=>?_) (fun f cdv A outer s H vs Q E hr h=>?_)
  · obtain ⟨v,b,rfl,_⟩:=h; rfl
  obtain ⟨v,b,rfl,⟨rfl,⟨wd,oc,new⟩,a,rfl,hn,hs⟩,q⟩:=h
  obtain ⟨ka,mk,hka⟩:=T.g_SUM_WORDS
  have g_SUM_WORDS : ∃ u,mg "SUM_WORDS" = some u∧RelV (.ref ka) u:=⟨_,mk,rfl⟩
  refine ⟨_,(vss_cons (vs_if (VW.pt (vw_or (vt_not (vt_val (ve_callB call_isiT (by rfl) T.n_isinstance bf_isinstance (va_c (vv 0) (va_c (ve_bltn (v:=.ty "tuple") (by rfl) T.n_tuple bt_tuple rfl) va_nil))))) (vw_or1 (vt_cmpR op_ne (ve_callB call_len_seq (by rfl) T.n_len bf_len (va_c (vv 0) va_nil)) ve_int (nomark _))))) (vss_one (vs_ret ve_bl)) vss_nil) (vss_cons (vs_if (VW.pt (vw_or (vt_not (vt_val (ve_fn (G_is_one_of.mono (by decide)) hr (by rfl) (va_c (ve_ix ix_tup (vv 0) ve_int (fun _ _=>rfl)) (va_c (ve_gl (by rfl) g_SUM_WORDS) va_nil))))) (vw_or1 (vt_not (vt_val (ve_fn (G_is_name.mono (by decide)) hr (by rfl) (va_c (ve_ix ix_tup (vv 0) ve_int (fun _ _=>rfl)) va_nil))))))) (vss_one (vs_ret ve_bl)) vss_nil) (vss_one (vs_ret (ve_ifExp (vt_cmpR op_eq (ve_ix ix_tup (vv 0) ve_int (fun _ _=>rfl)) ve_str (nomark _)) (ve_cmpR op_isN (ve_ix ix_tup (vv 0) ve_int (fun _ _=>rfl)) ve_non (nomark _)) (ve_fn (G_is_name.mono (by decide)) hr (by rfl) (va_c (ve_ix ix_tup (vv 0) ve_int (fun _ _=>rfl)) va_nil))))))),?_⟩
  have hn' : nameB (.str new) = true:=hn
  rcases hs with ⟨e,_,ha⟩ | ⟨c,e,hc,hw,ha⟩
  · refine ⟨_,rfl,_,_,rfl,.tup ha,_,rfl,iteF ?_⟩
    refine ⟨_,rfl,_,_,rfl,.inr ha,rfl,_,rfl,iteF ?_⟩
    refine ⟨_,rfl,a,_,0,_,rfl,rfl,ha,at0 _ _,_,ka,sumWords,rfl,th_str (by decide +kernel),hka _,rfl,_,rfl,iteF ?_⟩
    refine ⟨_,rfl,a,_,2,_,rfl,rfl,ha,at2 _ _ _ _,_,rfl,hn.th,fun H1 s1=>⟨_,rfl,?_⟩⟩
    rw [hn']
    refine iteF ⟨_,rfl,a,_,0,_,rfl,rfl,s1.seqT ha,at0 _ _,rfl,_,rfl,iteT ?_⟩
    exact ⟨_,rfl,a,_,1,_,rfl,rfl,s1.seqT ha,at1 _ _ _,rfl,q H1 s1⟩
  · have ew : (isS (.str wd) && inV (.str wd) sumWords) = true∧wd.length ≤ 8∧decide (V.str wd = V.str "count") = false:=by
      rcases hw with e | e | e <;> (have e : wd = _:=e; subst e; exact ⟨by decide +kernel,by decide +kernel,by decide +kernel⟩)
    refine ⟨_,rfl,_,_,rfl,.tup ha,_,rfl,iteF ?_⟩
    refine ⟨_,rfl,_,_,rfl,.inr ha,rfl,_,rfl,iteF ?_⟩
    refine ⟨_,rfl,a,_,0,_,rfl,rfl,ha,at0 _ _,_,ka,sumWords,rfl,th_str ew.2.1,hka _,rfl,_,rfl,?_⟩
    rw [ew.1]
    refine iteF ⟨_,rfl,a,_,2,_,rfl,rfl,ha,at2 _ _ _ _,_,rfl,hn.th,fun H1 s1=>⟨_,rfl,?_⟩⟩
    rw [hn']
    refine iteF ⟨_,rfl,a,_,0,_,rfl,rfl,s1.seqT ha,at0 _ _,rfl,_,rfl,?_⟩
    rw [ew.2.2]
    refine iteF ⟨_,rfl,a,_,1,_,rfl,rfl,s1.seqT ha,at1 _ _ _,_,rfl,hc.th,fun H2 s2=>?_⟩
    rw [show nameB (.str c) = true from hc]
    exact q H2 (s1.trans s2)
def ManyS (_ : PySem.W.Frag) (_ : Hp) (v : V) (n : Nat) : Prop:=v = .int n∧n ≤ 60
theorem ok_is_many (T : Txt w K mg) (G_is_whole : Ok P w K mg base 1 "is_whole" ["thing"] (sp_whole K)) : Ok P w K mg base 2 "is_many" ["thing"] (sp_r (YesR K ManyS)):=by
  refine Ok.ofV T.d_is_many sc_is_many (fun vs H Q E h=>?_) (fun f cdv A outer s H vs Q E hr h=>?_)
  · obtain ⟨v,b,rfl,_⟩:=h; rfl
  obtain ⟨v,b,rfl,⟨rfl,n,rfl,hn⟩,q⟩:=h
  refine ⟨_,(vss_one (vs_ret (ve_and (ve_fn (G_is_whole.mono (by decide)) hr (by rfl) (va_c (vv 0) va_nil)) (ve_one (ve_chain op_le op_le ve_int (vv 0) (ve_gl (by rfl) T.g_MOST_ROWS)))))),?_⟩
  refine ⟨_,rfl,_,rfl,.inr (.inl ⟨_,rfl⟩),_,rfl,iteT ?_⟩
  refine ⟨_,rfl,_,_,rfl,rfl,_,rfl,?_⟩
  have e1 : decide ((0 : Int) ≤ (n : Int)) = true:=decide_eq_true (by omega)
  have e2 : decide ((n : Int) ≤ 60) = true:=decide_eq_true (by omega)
  rw [e1]
  refine iteT ⟨_,_,rfl,rfl,?_⟩
  show Q (.bl (decide ((n : Int) ≤ 60))) H
  rw [e2]
  exact q H (Same.refl H)
theorem ok_may_be_question (T : Txt w K mg) : Ok P w K mg base 1 "may_be_question" ["thing"] (fun vs H Q _=>∃ v,vs = [v]∧Q (.bl true) H):=by
  refine Ok.ofV T.d_may_be_question sc_may_be_question (fun vs H Q E h=>?_) (fun f cdv A outer s H vs Q E hr h=>?_)
  · obtain ⟨v,rfl,_⟩:=h; rfl
  obtain ⟨v,rfl,q⟩:=h
  exact ⟨_,(vss_one (vs_ret ve_bl)),q⟩
theorem okWeak {k : Nat} {x : Str} {ps : List Str} {sp sp' : Sp} (G : Ok P w K mg base k x ps sp) (h : ∀ vs H Q E,sp' vs H Q E→sp vs H Q E) : Ok P w K mg base k x ps sp' :=
  let ⟨f,fd,h1,h2,h3,h4⟩:=G; ⟨f,fd,h1,h2,h3,h4.imp h⟩
theorem name_yes (G : Ok P w K mg base 2 "is_name" ["thing"] (sp_b K nameB)) : Ok P w K mg base 2 "is_name" ["thing"] (sp_r (YesR K NameS)) :=
  okWeak G fun vs H Q E h=>by
    obtain ⟨v,b,rfl,⟨rfl,x,rfl,hx⟩,q⟩:=h
    exact ⟨_,rfl,Nm.th hx,fun H' s'=>by rw [show nameB (.str x) = true from hx]; exact q H' s'⟩
theorem ok_are_tests (T : Txt w K mg) (G_is_test : Ok P w K mg base 4 "is_test" ["thing"] (sp_r (YesR K IsT))) (G_is_tuple_of : Ok P w K mg base 5 "is_tuple_of" ["thing","least","most","is_part"] (sp_tupof P w K mg base 4)) :
    Ok P w K mg base 6 "are_tests" ["thing"] (sp_r (YesR K (TupS IsT 1 3))):=by
  refine Ok.ofV T.d_are_tests sc_are_tests (fun vs H Q E h=>?_) (fun f cdv A outer s H vs Q E hr h=>?_)
  · obtain ⟨v,b,rfl,_⟩:=h; rfl
  obtain ⟨v,b,rfl,⟨rfl,xs,hx,l1,l2⟩,q⟩:=h
  obtain ⟨fa,mf,hf⟩:=G_is_test.held
  have v_is_test : ∃ u,mg "is_test" = some u∧RelV (.ref fa) u:=⟨_,mf,rfl⟩
  refine ⟨_,(vss_one (vs_ret (ve_fn (G_is_tuple_of.mono (by decide)) hr (by rfl) (va_c (vv 0) (va_c ve_int (va_c (ve_gl (by rfl) T.g_MOST_TESTS) (va_c (ve_gl (by rfl) v_is_test) va_nil))))))),?_⟩
  exact ⟨_,rfl,_,1,3,fa,_,_,_,rfl,by decide,hf,yes_tells (S:=IsT) (fun e h=>h.same e),tupof (S:=IsT) hx l1 l2,fun H1 s1=>q H1 s1⟩
theorem ok_are_names (T : Txt w K mg) (G_is_name : Ok P w K mg base 2 "is_name" ["thing"] (sp_r (YesR K NameS))) (G_is_tuple_of : Ok P w K mg base 3 "is_tuple_of" ["thing","least","most","is_part"] (sp_tupof P w K mg base 2)) :
    Ok P w K mg base 4 "are_names" ["thing"] (sp_r (YesR K (TupS NameS 1 8))):=by
  refine Ok.ofV T.d_are_names sc_are_names (fun vs H Q E h=>?_) (fun f cdv A outer s H vs Q E hr h=>?_)
  · obtain ⟨v,b,rfl,_⟩:=h; rfl
  obtain ⟨v,b,rfl,⟨rfl,xs,hx,l1,l2⟩,q⟩:=h
  obtain ⟨fa,mf,hf⟩:=G_is_name.held
  have v_is_name : ∃ u,mg "is_name" = some u∧RelV (.ref fa) u:=⟨_,mf,rfl⟩
  refine ⟨_,(vss_one (vs_ret (ve_fn (G_is_tuple_of.mono (by decide)) hr (by rfl) (va_c (vv 0) (va_c ve_int (va_c (ve_gl (by rfl) T.g_MOST_NAMES) (va_c (ve_gl (by rfl) v_is_name) va_nil))))))),?_⟩
  exact ⟨_,rfl,_,1,8,fa,_,_,_,rfl,by decide,hf,yes_tells (S:=NameS) (fun e h=>h),tupof (S:=NameS) hx l1 l2,fun H1 s1=>q H1 s1⟩
theorem ok_are_group_names (T : Txt w K mg) (G_is_name : Ok P w K mg base 2 "is_name" ["thing"] (sp_r (YesR K NameS))) (G_is_tuple_of : Ok P w K mg base 3 "is_tuple_of" ["thing","least","most","is_part"] (sp_tupof P w K mg base 2)) :
    Ok P w K mg base 4 "are_group_names" ["thing"] (sp_r (YesR K (TupS NameS 0 8))):=by
  refine Ok.ofV T.d_are_group_names sc_are_group_names (fun vs H Q E h=>?_) (fun f cdv A outer s H vs Q E hr h=>?_)
  · obtain ⟨v,b,rfl,_⟩:=h; rfl
  obtain ⟨v,b,rfl,⟨rfl,xs,hx,l1,l2⟩,q⟩:=h
  obtain ⟨fa,mf,hf⟩:=G_is_name.held
  have v_is_name : ∃ u,mg "is_name" = some u∧RelV (.ref fa) u:=⟨_,mf,rfl⟩
  refine ⟨_,(vss_one (vs_ret (ve_fn (G_is_tuple_of.mono (by decide)) hr (by rfl) (va_c (vv 0) (va_c ve_int (va_c (ve_gl (by rfl) T.g_MOST_NAMES) (va_c (ve_gl (by rfl) v_is_name) va_nil))))))),?_⟩
  exact ⟨_,rfl,_,0,8,fa,_,_,_,rfl,by decide,hf,yes_tells (S:=NameS) (fun e h=>h),tupof (S:=NameS) hx l1 l2,fun H1 s1=>q H1 s1⟩
theorem ok_are_pairs (T : Txt w K mg) (G_is_pair : Ok P w K mg base 4 "is_pair" ["thing"] (sp_r (YesR K IsPr))) (G_is_tuple_of : Ok P w K mg base 5 "is_tuple_of" ["thing","least","most","is_part"] (sp_tupof P w K mg base 4)) :
    Ok P w K mg base 6 "are_pairs" ["thing"] (sp_r (YesR K (TupS IsPr 1 3))):=by
  refine Ok.ofV T.d_are_pairs sc_are_pairs (fun vs H Q E h=>?_) (fun f cdv A outer s H vs Q E hr h=>?_)
  · obtain ⟨v,b,rfl,_⟩:=h; rfl
  obtain ⟨v,b,rfl,⟨rfl,xs,hx,l1,l2⟩,q⟩:=h
  obtain ⟨fa,mf,hf⟩:=G_is_pair.held
  have v_is_pair : ∃ u,mg "is_pair" = some u∧RelV (.ref fa) u:=⟨_,mf,rfl⟩
  refine ⟨_,(vss_one (vs_ret (ve_fn (G_is_tuple_of.mono (by decide)) hr (by rfl) (va_c (vv 0) (va_c ve_int (va_c (ve_gl (by rfl) T.g_MOST_PAIRS) (va_c (ve_gl (by rfl) v_is_pair) va_nil))))))),?_⟩
  exact ⟨_,rfl,_,1,3,fa,_,_,_,rfl,by decide,hf,yes_tells (S:=IsPr) (fun e h=>h.same e),tupof (S:=IsPr) hx l1 l2,fun H1 s1=>q H1 s1⟩
theorem ok_are_sums (T : Txt w K mg) (G_is_sum : Ok P w K mg base 3 "is_sum" ["thing"] (sp_r (YesR K IsSm))) (G_is_tuple_of : Ok P w K mg base 4 "is_tuple_of" ["thing","least","most","is_part"] (sp_tupof P w K mg base 3)) :
    Ok P w K mg base 5 "are_sums" ["thing"] (sp_r (YesR K (TupS IsSm 0 4))):=by
  refine Ok.ofV T.d_are_sums sc_are_sums (fun vs H Q E h=>?_) (fun f cdv A outer s H vs Q E hr h=>?_)
  · obtain ⟨v,b,rfl,_⟩:=h; rfl
  obtain ⟨v,b,rfl,⟨rfl,xs,hx,l1,l2⟩,q⟩:=h
  obtain ⟨fa,mf,hf⟩:=G_is_sum.held
  have v_is_sum : ∃ u,mg "is_sum" = some u∧RelV (.ref fa) u:=⟨_,mf,rfl⟩
  refine ⟨_,(vss_one (vs_ret (ve_fn (G_is_tuple_of.mono (by decide)) hr (by rfl) (va_c (vv 0) (va_c ve_int (va_c (ve_gl (by rfl) T.g_MOST_SUMS) (va_c (ve_gl (by rfl) v_is_sum) va_nil))))))),?_⟩
  exact ⟨_,rfl,_,0,4,fa,_,_,_,rfl,by decide,hf,yes_tells (S:=IsSm) (fun e h=>h.same e),tupof (S:=IsSm) hx l1 l2,fun H1 s1=>q H1 s1⟩
theorem ok_are_keys (T : Txt w K mg) (G_is_key : Ok P w K mg base 3 "is_key" ["thing"] (sp_r (YesR K IsKy))) (G_is_tuple_of : Ok P w K mg base 4 "is_tuple_of" ["thing","least","most","is_part"] (sp_tupof P w K mg base 3)) :
    Ok P w K mg base 5 "are_keys" ["thing"] (sp_r (YesR K (TupS IsKy 0 3))):=by
  refine Ok.ofV T.d_are_keys sc_are_keys (fun vs H Q E h=>?_) (fun f cdv A outer s H vs Q E hr h=>?_)
  · obtain ⟨v,b,rfl,_⟩:=h; rfl
  obtain ⟨v,b,rfl,⟨rfl,xs,hx,l1,l2⟩,q⟩:=h
  obtain ⟨fa,mf,hf⟩:=G_is_key.held
  have v_is_key : ∃ u,mg "is_key" = some u∧RelV (.ref fa) u:=⟨_,mf,rfl⟩
  refine ⟨_,(vss_one (vs_ret (ve_fn (G_is_tuple_of.mono (by decide)) hr (by rfl) (va_c (vv 0) (va_c ve_int (va_c (ve_gl (by rfl) T.g_MOST_KEYS) (va_c (ve_gl (by rfl) v_is_key) va_nil))))))),?_⟩
  exact ⟨_,rfl,_,0,3,fa,_,_,_,rfl,by decide,hf,yes_tells (S:=IsKy) (fun e h=>h.same e),tupof (S:=IsKy) hx l1 l2,fun H1 s1=>q H1 s1⟩
inductive Qn where
  | table (T : Str)
  | whr (q : Qn) (ts : List Tst)
  | keep (q : Qn) (ns : List Str)
  | nmd (q : Qn) (ns : List Str)
  | join (q r : Qn) (ps : List (Str × Str))
  | group (q : Qn) (ns : List Str) (ss : List Sm)
  | first (q : Qn) (ks : List (Str × Str)) (m : Nat)
inductive IsQ (K : PySem.W.Frag) (H : Hp) : V→Qn→Prop
  | table {a T} : SqT K H a [.str "table",.str T]→Nm T→IsQ K H (.ref a) (.table T)
  | whr {a v q w ts} : SqT K H a [.str "where",v,w]→IsQ K H v q→TupS IsT 1 3 K H w ts→IsQ K H (.ref a) (.whr q ts)
  | keep {a v q w ns} : SqT K H a [.str "keep",v,w]→IsQ K H v q→TupS NameS 1 8 K H w ns→IsQ K H (.ref a) (.keep q ns)
  | nmd {a v q w ns} : SqT K H a [.str "named",v,w]→IsQ K H v q→TupS NameS 1 8 K H w ns→IsQ K H (.ref a) (.nmd q ns)
  | join {a v q u r w ps} : SqT K H a [.str "join",v,u,w]→IsQ K H v q→IsQ K H u r→TupS IsPr 1 3 K H w ps→IsQ K H (.ref a) (.join q r ps)
  | group {a v q w ns u ss} : SqT K H a [.str "group",v,w,u]→IsQ K H v q→TupS NameS 0 8 K H w ns→TupS IsSm 0 4 K H u ss→IsQ K H (.ref a) (.group q ns ss)
  | first {a v q w ks m} : SqT K H a [.str "first",v,w,.int (m : Nat)]→IsQ K H v q→TupS IsKy 0 3 K H w ks→m ≤ 60→IsQ K H (.ref a) (.first q ks m)
theorem TupS.same {α : Type} {S : PySem.W.Frag→Hp→V→α→Prop} {lo hi : Nat} {K : PySem.W.Frag} {H H' : Hp} {v : V} {xs : List α} (e : Same H H') (k : ∀ {v t},S K H v t→S K H' v t) (h : TupS S lo hi K H v xs) : TupS S lo hi K H' v xs :=
  ⟨h.1.same e fun _ _=>k,h.2⟩
theorem IsQ.same {K : PySem.W.Frag} {H H' : Hp} {v : V} {q : Qn} (e : Same H H') (h : IsQ K H v q) : IsQ K H' v q:=by
  induction h with
  | table a b=>exact .table (e.seqT a) b
  | whr a _ c ih=>exact .whr (e.seqT a) ih (c.same e fun h=>h.same e)
  | keep a _ c ih=>exact .keep (e.seqT a) ih (c.same e fun h=>h)
  | nmd a _ c ih=>exact .nmd (e.seqT a) ih (c.same e fun h=>h)
  | join a _ _ c ih1 ih2=>exact .join (e.seqT a) ih1 ih2 (c.same e fun h=>h.same e)
  | group a _ c d ih=>exact .group (e.seqT a) ih (c.same e fun h=>h) (d.same e fun h=>h.same e)
  | first a _ c d ih=>exact .first (e.seqT a) ih (c.same e fun h=>h.same e) d
def Part (P : Program) (w : World) (K : PySem.W.Frag) (mg : Str→Option Value) (base : Heap) (H : Hp) (f x : V) : Prop:=∃ fa ps sp,f = .ref fa∧Held P w K mg base 6 fa ps sp∧∀ H' Q,Same H H'→(∀ H2,Same H' H2→Q (.bl true) H2)→sp [x] H' Q E0
theorem part_yes {k : Nat} {x : Str} {ps : List Str} {α : Type} {S : PySem.W.Frag→Hp→V→α→Prop} {f : Addr} {H : Hp} {v : V} {t : α} (G : Ok P w K mg base k x ps (sp_r (YesR K S))) (hk : k ≤ 6) (m : mg x = some (.ref f)) (st : ∀ {H H' v t},Same H H'→S K H v t→S K H' v t) (h : S K H v t) : Part P w K mg base H (.ref f) v :=
  ⟨f,_,_,rfl,(G.heldAt m).mono hk,fun H' Q s' q=>⟨v,true,rfl,⟨rfl,t,st s' h⟩,q⟩⟩
abbrev forms : List Str:=["table","where","keep","named","join","group","first"]
def sp_q (K : PySem.W.Frag) : Sp:=fun vs H Q _=>∃ v q,vs = [v]∧IsQ K H v q∧∀ H',Same H H'→Q (.bl true) H'
theorem part_any {f : Addr} {H : Hp} {v : V} (G : Ok P w K mg base 1 "may_be_question" ["thing"] (fun vs H Q _=>∃ v,vs = [v]∧Q (.bl true) H)) (m : mg "may_be_question" = some (.ref f)) : Part P w K mg base H (.ref f) v :=
  ⟨f,_,_,rfl,(G.heldAt m).mono (by decide),fun H' Q s' q=>⟨v,rfl,q H' (Same.refl H')⟩⟩
structure Forms (P : Program) (w : World) (K : PySem.W.Frag) (mg : Str→Option Value) (base : Heap) : Prop where
  name : Ok P w K mg base 2 "is_name" ["thing"] (sp_r (YesR K NameS))
  any : Ok P w K mg base 1 "may_be_question" ["thing"] (fun vs H Q _=>∃ v,vs = [v]∧Q (.bl true) H)
  tests : Ok P w K mg base 6 "are_tests" ["thing"] (sp_r (YesR K (TupS IsT 1 3)))
  names : Ok P w K mg base 4 "are_names" ["thing"] (sp_r (YesR K (TupS NameS 1 8)))
  gnames : Ok P w K mg base 4 "are_group_names" ["thing"] (sp_r (YesR K (TupS NameS 0 8)))
  pairs : Ok P w K mg base 6 "are_pairs" ["thing"] (sp_r (YesR K (TupS IsPr 1 3)))
  sums : Ok P w K mg base 5 "are_sums" ["thing"] (sp_r (YesR K (TupS IsSm 0 4)))
  keys : Ok P w K mg base 5 "are_keys" ["thing"] (sp_r (YesR K (TupS IsKy 0 3)))
  many : Ok P w K mg base 2 "is_many" ["thing"] (sp_r (YesR K ManyS))
theorem form_at (T : Txt w K mg) (F : Forms P w K mg base) : ∃ d kvs,mg "FORMS" = some (.ref d)∧DctK w K d kvs∧kvs.length ≤ 1000∧(kvs.map fun q=>V.str q.1).all flatV = true ∧
    ∀ H v q,IsQ K H v q→∃ a k xs t fs,v = .ref a∧SqT K H a (.str k :: xs)∧k.length ≤ 8∧inV (.str k) (kvs.map fun q=>V.str q.1) = true∧(kvs.find? fun z=>decide (z.1 = k)).map (·.2) = some t∧(∀ H,SqT K H t fs)∧fs.length ≤ 8∧All2 (Part P w K mg base H) fs xs:=by
  obtain ⟨d,t0,t1,t2,t3,t4,t5,t6,md,hd,⟨f00,h0,m00⟩,⟨f10,f11,h1,m10,m11⟩,⟨f20,f21,h2,m20,m21⟩,⟨f30,f31,h3,m30,m31⟩,⟨f40,f41,f42,h4,m40,m41,m42⟩,⟨f50,f51,f52,h5,m50,m51,m52⟩,⟨f60,f61,f62,h6,m60,m61,m62⟩⟩:=T.g_FORMS
  refine ⟨d,_,md,hd,(by show 7 ≤ 1000; decide),rfl,fun H v q hq=>?_⟩
  cases hq with
  | table a b=>exact ⟨_,_,_,t0,_,rfl,a,by decide +kernel,(by show inV (.str "table") (forms.map V.str) = true; decide +kernel),rfl,h0,(by show 1 ≤ 8; decide),.cons (part_yes F.name (by decide) m00 (fun _ h=>h) ⟨rfl,b⟩) .nil⟩
  | whr a _ c=>exact ⟨_,_,_,t1,_,rfl,a,by decide +kernel,(by show inV (.str "where") (forms.map V.str) = true; decide +kernel),rfl,h1,(by show 2 ≤ 8; decide),.cons (part_any F.any m10) (.cons (part_yes F.tests (by decide) m11 (fun e h=>h.same e fun q=>q.same e) c) .nil)⟩
  | keep a _ c=>exact ⟨_,_,_,t2,_,rfl,a,by decide +kernel,(by show inV (.str "keep") (forms.map V.str) = true; decide +kernel),rfl,h2,(by show 2 ≤ 8; decide),.cons (part_any F.any m20) (.cons (part_yes F.names (by decide) m21 (fun e h=>h.same e fun q=>q) c) .nil)⟩
  | nmd a _ c=>exact ⟨_,_,_,t3,_,rfl,a,by decide +kernel,(by show inV (.str "named") (forms.map V.str) = true; decide +kernel),rfl,h3,(by show 2 ≤ 8; decide),.cons (part_any F.any m30) (.cons (part_yes F.names (by decide) m31 (fun e h=>h.same e fun q=>q) c) .nil)⟩
  | join a _ _ c=>exact ⟨_,_,_,t4,_,rfl,a,by decide +kernel,(by show inV (.str "join") (forms.map V.str) = true; decide +kernel),rfl,h4,(by show 3 ≤ 8; decide),.cons (part_any F.any m40) (.cons (part_any F.any m41) (.cons (part_yes F.pairs (by decide) m42 (fun e h=>h.same e fun q=>q.same e) c) .nil))⟩
  | group a _ c e=>exact ⟨_,_,_,t5,_,rfl,a,by decide +kernel,(by show inV (.str "group") (forms.map V.str) = true; decide +kernel),rfl,h5,(by show 3 ≤ 8; decide),.cons (part_any F.any m50) (.cons (part_yes F.gnames (by decide) m51 (fun e h=>h.same e fun q=>q) c) (.cons (part_yes F.sums (by decide) m52 (fun e h=>h.same e fun q=>q.same e) e) .nil))⟩
  | first a _ c e=>exact ⟨_,_,_,t6,_,rfl,a,by decide +kernel,(by show inV (.str "first") (forms.map V.str) = true; decide +kernel),rfl,h6,(by show 3 ≤ 8; decide),.cons (part_any F.any m60) (.cons (part_yes F.keys (by decide) m61 (fun e h=>h.same e fun q=>q.same e) c) (.cons (part_yes F.many (by decide) m62 (fun _ h=>h) ⟨rfl,e⟩) .nil))⟩
theorem all2_get {α β : Type} {R : α→β→Prop} : ∀ {as : List α} {bs : List β},All2 R as bs→∀ {i : Nat} {a : α} {b : β},as[i]? = some a→bs[i]? = some b→R a b
  | _,_,.cons r t,0,_,_,h1,h2=>by cases h1; cases h2; exact r
  | _,_,.cons r t,i + 1,a,b,h1,h2=>all2_get t (i:=i) (by simpa using h1) (by simpa using h2)
theorem zw_true {xs ys : List V} : (List.zipWith (fun _ _ : V=>V.bl true) xs ys) = (List.zipWith (fun _ _ : V=>true) xs ys).map V.bl:=by
  rw [List.map_zipWith]
theorem zw_all : ∀ (xs ys : List V),((List.zipWith (fun _ _ : V=>true) xs ys).all id) = true
  | [],_=>by simp
  | _ :: _,[]=>by simp
  | x :: xs,y :: ys=>by rw [List.zipWith_cons_cons,List.all_cons,zw_all xs ys]; rfl
theorem cut1 (x : V) (xs : List V) : cutV (x :: xs) (some 1) none = xs:=by
  unfold cutV
  have e : HT.sIx (x :: xs).length 0 (some 1) = 1:=by
    rw [show (1 : Int) = ((1 : Nat) : Int) from rfl,HT.sIx_nat,List.length_cons]
    omega
  rw [e,HT.sIx_none,List.length_cons]
  simp
theorem nw1 (x : V) (xs : List V) : ¬ (HT.sIx (x :: xs).length 0 (some 1) = 0∧HT.sIx (x :: xs).length (x :: xs).length none = (x :: xs).length):=by
  rw [show (1 : Int) = ((1 : Nat) : Int) from rfl,HT.sIx_nat,List.length_cons]
  omega
theorem ok_has_form (T : Txt w K mg) (F : Forms P w K mg base) (G_is_one_of : Ok P w K mg base 1 "is_one_of" ["thing","texts"] (sp_one K)) : Ok P w K mg base 7 "has_form" ["thing"] (sp_q K):=by
  refine Ok.ofV T.d_has_form sc_has_form (fun vs H Q E h=>?_) (fun f cdv A outer s H vs Q E hr h=>?_)
  · obtain ⟨v,q,rfl,_⟩:=h; rfl
  obtain ⟨v,q0,rfl,hq,q⟩:=h
  obtain ⟨d,kvs,md,hd,hl,hfl,hat⟩:=form_at T F
  have g_FORMS : ∃ u,mg "FORMS" = some u∧RelV (.ref d) u:=⟨_,md,rfl⟩
  obtain ⟨a,k,xs,t,fs,rfl,ha,hk8,hin,hf,ht,hf8,hp⟩:=hat H v q0 hq
  have hlen:=hp.len
  refine ⟨_,(vss_cons (vs_if (VW.pt (vw_or (vt_not (vt_val (ve_callB call_isiT (by rfl) T.n_isinstance bf_isinstance (va_c (vv 0) (va_c (ve_bltn (v:=.ty "tuple") (by rfl) T.n_tuple bt_tuple rfl) va_nil))))) (vw_or (vt_cmpR op_eq (ve_callB call_len_seq (by rfl) T.n_len bf_len (va_c (vv 0) va_nil)) ve_int (nomark _)) (vw_or1 (vt_not (vt_val (ve_fn (G_is_one_of.mono (by decide)) hr (by rfl) (va_c (ve_ix ix_tup (vv 0) ve_int (fun _ _=>rfl)) (va_c (ve_callTy (call_tupD rfl) (by rfl) T.n_tuple bt_tuple (va_c (ve_gl (by rfl) g_FORMS) va_nil)) va_nil))))))))) (vss_one (vs_ret ve_bl)) vss_nil) (vss_cons (vs_set (i:=1) sc_has_form.nd rfl (by first | exact Or.inl rfl | exact Or.inr rfl) (ve_ix ix_dctK (ve_gl (by rfl) g_FORMS) (ve_ix ix_tup (vv 0) ve_int (fun _ _=>rfl)) (fun _ _=>rfl))) (vss_cons (vs_if (vt_cmpR op_ne (ve_callB call_len_seq (by rfl) T.n_len bf_len (va_c (vv 0) va_nil)) (ve_op op_add (ve_callB call_len_seq (by rfl) T.n_len bf_len (va_c (vv 1) va_nil)) ve_int) (nomark _)) (vss_one (vs_ret ve_bl)) vss_nil) (vss_one (vs_ret (ve_callB (call_all rfl) (by rfl) T.n_all bf_all (va_c (ve_comp (N:=["is_part","part"]) ⟨by decide +kernel,rfl,by decide +kernel,by decide +kernel⟩ (hfr_none (by decide +kernel)) rfl (vi_zipT (by rfl) T.n_zip (va_c (vv 1) (va_c (ve_slice sl_tupA (vv 0) (vo_some ve_int) vo_none) va_nil))) (fun cl s' H' fp=>⟨(vg_tupK (K:=K) (n:=2) rfl (vgs_cons (vg_name (i:=0) (show (["is_part","part"] : List Str).Nodup from by decide +kernel) rfl (Or.inl rfl)) (vgs_cons (vg_name (i:=1) (show (["is_part","part"] : List Str).Nodup from by decide +kernel) rfl (Or.inl rfl)) vgs_nil))),vf_nil,(ve_heldK (P:=P) (w:=w) (K:=K) (mg:=mg) (base:=base) hr (vv 0) (va_c (vv 1) va_nil))⟩)) va_nil))))))),?_⟩
  refine ⟨_,rfl,_,_,rfl,.tup ha,_,rfl,iteF ?_⟩
  refine ⟨_,rfl,_,_,rfl,.inr ha,rfl,_,rfl,?_⟩
  have e0 : decide (V.int (((V.str k :: xs).length : Nat) : Int) = V.int 0) = false:=decide_eq_false (by intro z; have:=V.int.inj z; rw [List.length_cons] at this; omega)
  rw [e0]
  refine iteF ⟨_,rfl,a,_,0,_,rfl,rfl,ha,at0 _ _,d,kvs,rfl,hd,hl,fun p1 H1 s1 g1=>⟨_,p1,_,rfl,th_str hk8,SqT.of g1,hfl,_,rfl,?_⟩⟩
  have e1 : (isS (.str k) && inV (.str k) (kvs.map fun q=>V.str q.1)) = true:=by rw [hin]; rfl
  rw [e1]
  refine iteF ⟨_,rfl,a,_,0,_,rfl,rfl,s1.seqT ha,at0 _ _,d,kvs,k,t,rfl,rfl,hd,hf,?_⟩
  refine ⟨_,rfl,_,_,rfl,.inr (s1.seqT ha),_,rfl,_,_,rfl,.inr (ht _),_,_,rfl,rfl,rfl,_,rfl,?_⟩
  have e2 : (!decide (V.int (((V.str k :: xs).length : Nat) : Int) = V.int ((fs.length : Nat) + 1 : Int))) = false:=by rw [List.length_cons,hlen]; simp
  rw [e2]
  refine iteF ?_
  dsimp only [tNext,tRet,tCB,tCons]
  refine comp_zipA fs xs (fun _ _=>.bl true) [none,none] cap_none2 (small (by omega)) hlen (fun R r=>⟨_,rfl,_,rfl,_,rfl,a,_,rfl,s1.seqT ha,nw1 _ _,fun p2 H2 s2 g2=>?_⟩) (fun i fv x ef ex H' R l1 l2 sm r=>?_) rfl rfl fun D H' sm hD=>?_
  · rw [cut1] at g2
    exact r t p2 H2 s2 (ht _) (SqT.of g2)
  · obtain ⟨fa,ps,sp,rfl,hh,hc⟩:=all2_get hp ef ex
    exact ⟨_,rfl,fa,ps,sp,rfl,hh,_,rfl,hc H' R (s1.trans sm) fun H2 s2=>r H2 s2⟩
  · refine ⟨D,List.zipWith (fun _ _=>true) fs xs,rfl,SqL.of (by rw [hD,zw_true]),?_⟩
    rw [zw_all]
    exact q H' (s1.trans sm)
def kids : Qn→List Qn
  | .table _=>[]
  | .whr q _=>[q]
  | .keep q _=>[q]
  | .nmd q _=>[q]
  | .join q r _=>[q,r]
  | .group q _ _=>[q]
  | .first q _ _=>[q]
def own : Qn→Nat
  | .whr _ ts=>ts.length
  | _=>1
def size : Qn→Nat
  | .table _=>1
  | .whr q ts=>size q + ts.length
  | .keep q _=>size q + 1
  | .nmd q _=>size q + 1
  | .join q r _=>size q + size r + 1
  | .group q _ _=>size q + 1
  | .first q _ _=>size q + 1
def sizes (qs : List Qn) : Nat:=(qs.map size).sum
theorem size_own (q : Qn) : size q = own q + sizes (kids q):=by
  cases q <;> simp [size,own,sizes,kids] <;> omega
theorem own_pos {K : PySem.W.Frag} {H : Hp} {v : V} {q : Qn} (h : IsQ K H v q) : 1 ≤ own q:=by
  cases h with
  | whr _ _ c=>exact c.2.1
  | _=>exact Nat.le_refl _
def sp_in (K : PySem.W.Frag) : Sp:=fun vs H Q _=>∃ v q H0,vs = [v]∧Same H0 H∧IsQ K H0 v q∧∀ D H' us,H D = none→Same H H'→H' D = some (.lst us)→All2 (IsQ K H0) us (kids q)→Q (.ref D) H'
theorem ok_questions_in (T : Txt w K mg) : Ok P w K mg base 1 "questions_in" ["question"] (sp_in K):=by
  refine Ok.ofV T.d_questions_in sc_questions_in (fun vs H Q E h=>?_) (fun f cdv A outer s H vs Q E hr h=>?_)
  · obtain ⟨v,q,H0,rfl,_⟩:=h; rfl
  obtain ⟨v,q0,H0,rfl,e,hq,q⟩:=h
  refine ⟨_,(vss_cons (vs_if (vt_cmpR op_eq (ve_ix ix_tup (vv 0) ve_int (fun _ _=>rfl)) ve_str (nomark _)) (vss_one (vs_ret (ve_lstA va_nil))) vss_nil) (vss_one (vs_ret (ve_ifExp (vt_cmpR op_eq (ve_ix ix_tup (vv 0) ve_int (fun _ _=>rfl)) ve_str (nomark _)) (ve_callTy call_listA (by rfl) T.n_list bt_list (va_c (ve_slice sl_tupA (vv 0) (vo_some ve_int) (vo_some ve_int)) va_nil)) (ve_lstA (va_c (ve_ix ix_tup (vv 0) ve_int (fun _ _=>rfl)) va_nil)))))),?_⟩
  cases hq with
  | table a b=>exact ⟨_,rfl,_,_,0,_,rfl,rfl,(e.seqT a),at0 _ _,rfl,_,rfl,iteT ⟨(by show 0 ≤ sizeLine; decide),fun D H' f s' g=>q D H' _ f s' g .nil⟩⟩
  | whr a b c=>exact ⟨_,rfl,_,_,0,_,rfl,rfl,(e.seqT a),at0 _ _,rfl,_,rfl,iteF ⟨_,rfl,_,_,0,_,rfl,rfl,(e.seqT a),at0 _ _,rfl,_,rfl,iteF ⟨_,rfl,_,_,1,_,rfl,rfl,(e.seqT a),at1 _ _ _,(by show 1 ≤ sizeLine; decide),fun D H' f s' g=>q D H' _ f s' g (.cons b .nil)⟩⟩⟩
  | keep a b c=>exact ⟨_,rfl,_,_,0,_,rfl,rfl,(e.seqT a),at0 _ _,rfl,_,rfl,iteF ⟨_,rfl,_,_,0,_,rfl,rfl,(e.seqT a),at0 _ _,rfl,_,rfl,iteF ⟨_,rfl,_,_,1,_,rfl,rfl,(e.seqT a),at1 _ _ _,(by show 1 ≤ sizeLine; decide),fun D H' f s' g=>q D H' _ f s' g (.cons b .nil)⟩⟩⟩
  | nmd a b c=>exact ⟨_,rfl,_,_,0,_,rfl,rfl,(e.seqT a),at0 _ _,rfl,_,rfl,iteF ⟨_,rfl,_,_,0,_,rfl,rfl,(e.seqT a),at0 _ _,rfl,_,rfl,iteF ⟨_,rfl,_,_,1,_,rfl,rfl,(e.seqT a),at1 _ _ _,(by show 1 ≤ sizeLine; decide),fun D H' f s' g=>q D H' _ f s' g (.cons b .nil)⟩⟩⟩
  | group a b c d=>exact ⟨_,rfl,_,_,0,_,rfl,rfl,(e.seqT a),at0 _ _,rfl,_,rfl,iteF ⟨_,rfl,_,_,0,_,rfl,rfl,(e.seqT a),at0 _ _,rfl,_,rfl,iteF ⟨_,rfl,_,_,1,_,rfl,rfl,(e.seqT a),at1 _ _ _,(by show 1 ≤ sizeLine; decide),fun D H' f s' g=>q D H' _ f s' g (.cons b .nil)⟩⟩⟩
  | first a b c d=>exact ⟨_,rfl,_,_,0,_,rfl,rfl,(e.seqT a),at0 _ _,rfl,_,rfl,iteF ⟨_,rfl,_,_,0,_,rfl,rfl,(e.seqT a),at0 _ _,rfl,_,rfl,iteF ⟨_,rfl,_,_,1,_,rfl,rfl,(e.seqT a),at1 _ _ _,(by show 1 ≤ sizeLine; decide),fun D H' f s' g=>q D H' _ f s' g (.cons b .nil)⟩⟩⟩
  | join a b c d =>
    refine ⟨_,rfl,_,_,0,_,rfl,rfl,(e.seqT a),at0 _ _,rfl,_,rfl,iteF ⟨_,rfl,_,_,0,_,rfl,rfl,(e.seqT a),at0 _ _,rfl,_,rfl,iteT ⟨_,rfl,_,rfl,_,rfl,_,_,rfl,(e.seqT a),(by show ¬ (HT.sIx 4 0 (some 1) = 0∧HT.sIx 4 4 (some 3) = 4); decide),fun p H1 s1 g1=>⟨p,_,rfl,.inr (SqT.of g1),fun D H' f s' g=>q D H' _ (s1.free f) (s1.trans s') g (.cons b (.cons c .nil))⟩⟩⟩⟩
def sp_own (K : PySem.W.Frag) : Sp:=fun vs H Q _=>∃ v q,vs = [v]∧IsQ K H v q∧Q (.int (own q : Nat)) H
theorem ok_own_size (T : Txt w K mg) : Ok P w K mg base 1 "own_size" ["question"] (sp_own K):=by
  refine Ok.ofV T.d_own_size sc_own_size (fun vs H Q E h=>?_) (fun f cdv A outer s H vs Q E hr h=>?_)
  · obtain ⟨v,q,rfl,_⟩:=h; rfl
  obtain ⟨v,q0,rfl,hq,q⟩:=h
  refine ⟨_,(vss_one (vs_ret (ve_ifExp (vt_cmpR op_eq (ve_ix ix_tup (vv 0) ve_int (fun _ _=>rfl)) ve_str (nomark _)) (ve_callB call_len_seq (by rfl) T.n_len bf_len (va_c (ve_ix ix_tup (vv 0) ve_int (fun _ _=>rfl)) va_nil)) ve_int))),?_⟩
  cases hq with
  | whr a b c =>
    obtain ⟨⟨p,us,rfl,hp,hr'⟩,_⟩:=c
    refine ⟨_,rfl,_,_,0,_,rfl,rfl,a,at0 _ _,rfl,_,rfl,iteT ⟨_,rfl,_,_,2,_,rfl,rfl,a,at2 _ _ _ _,_,_,rfl,.inr hp,?_⟩⟩
    rw [hr'.len]
    exact q
  | table a b=>exact ⟨_,rfl,_,_,0,_,rfl,rfl,a,at0 _ _,rfl,_,rfl,iteF q⟩
  | keep a b c=>exact ⟨_,rfl,_,_,0,_,rfl,rfl,a,at0 _ _,rfl,_,rfl,iteF q⟩
  | nmd a b c=>exact ⟨_,rfl,_,_,0,_,rfl,rfl,a,at0 _ _,rfl,_,rfl,iteF q⟩
  | group a b c d=>exact ⟨_,rfl,_,_,0,_,rfl,rfl,a,at0 _ _,rfl,_,rfl,iteF q⟩
  | first a b c d=>exact ⟨_,rfl,_,_,0,_,rfl,rfl,a,at0 _ _,rfl,_,rfl,iteF q⟩
  | join a b c d=>exact ⟨_,rfl,_,_,0,_,rfl,rfl,a,at0 _ _,rfl,_,rfl,iteF q⟩
def sp_chk (K : PySem.W.Frag) : Sp:=fun vs H Q _=>∃ v q,vs = [v]∧IsQ K H v q∧size q ≤ 20∧∀ H',Same H H'→Q v H'
theorem all2_last {α β : Type} {R : α→β→Prop} {as : List α} {bs : List β} (h : All2 R as bs) (ne : as ≠ []) : ∃ as' a bs' b,as = as' ++ [a]∧bs = bs' ++ [b]∧All2 R as' bs'∧R a b:=by
  induction h with
  | nil=>exact absurd rfl ne
  | @cons a b as bs r t ih =>
    cases t with
    | nil=>exact ⟨[],a,[],b,rfl,rfl,.nil,r⟩
    | cons r' t' =>
      obtain ⟨as',x,bs',y,e1,e2,h1,h2⟩:=ih (by simp)
      exact ⟨a :: as',x,b :: bs',y,by rw [e1]; rfl,by rw [e2]; rfl,.cons r h1,h2⟩
theorem sizes_app (xs ys : List Qn) : sizes (xs ++ ys) = sizes xs + sizes ys:=by unfold sizes; rw [List.map_append,List.sum_append]
theorem sizes_pos {K : PySem.W.Frag} {H : Hp} {us : List V} {qs : List Qn} (h : All2 (IsQ K H) us qs) : us.length ≤ sizes qs:=by
  induction h with
  | nil=>exact Nat.le_refl _
  | @cons v q us qs r _ ih =>
    have:=own_pos r
    have e:=size_own q
    show us.length + 1 ≤ (((q :: qs).map size).sum)
    rw [List.map_cons,List.sum_cons]
    unfold sizes at ih
    omega
theorem ok_checked (T : Txt w K mg) (G_has_form : Ok P w K mg base 7 "has_form" ["thing"] (sp_q K)) (G_questions_in : Ok P w K mg base 1 "questions_in" ["question"] (sp_in K)) (G_own_size : Ok P w K mg base 1 "own_size" ["question"] (sp_own K)) : Ok P w K mg base 8 "checked" ["thing"] (sp_chk K):=by
  refine Ok.ofV T.d_checked sc_checked (fun vs H Q E h=>?_) (fun f cdv A outer s H vs Q E hr h=>?_)
  · obtain ⟨v,q,rfl,_⟩:=h; rfl
  obtain ⟨v,q0,rfl,hq,h20,q⟩:=h
  refine ⟨_,(vss_cons (vs_set (i:=1) sc_checked.nd rfl (by first | exact Or.inl rfl | exact Or.inr rfl) ve_int) (vss_cons (vs_set (i:=2) sc_checked.nd rfl (by first | exact Or.inl rfl | exact Or.inr rfl) (ve_lstA (va_c (vv 0) va_nil))) (vss_cons (vs_while PassesOwn.never (vt_truth (vv 2)) (vss_cons (vs_set (i:=3) sc_checked.nd rfl (by first | exact Or.inl rfl | exact Or.inr rfl) (ve_bm0 PySem.F.plainAttrs_list PySem.F.slot_list_pop PySem.F.type_list_pop mt_popR (vv 2))) (vss_cons (vs_if (vt_not (vt_val (ve_fn (G_has_form.mono (by decide)) hr (by rfl) (va_c (vv 3) va_nil)))) (vss_one vs_never) vss_nil) (vss_cons (vs_set (i:=1) sc_checked.nd rfl (by first | exact Or.inl rfl | exact Or.inr rfl) (ve_op op_add (vv 1) (ve_fn (G_own_size.mono (by decide)) hr (by rfl) (va_c (vv 3) va_nil)))) (vss_cons (vs_if (vt_cmpR op_gt (vv 1) (ve_gl (by rfl) T.g_MOST_SIZE) (nomark _)) (vss_one vs_never) vss_nil) (vss_one (vs_expr (ve_bm PySem.F.plainAttrs_list PySem.F.slot_list_extend PySem.F.type_list_extend mt_extendR (vv 2) (va_c (ve_fn (G_questions_in.mono (by decide)) hr (by rfl) (va_c (vv 3) va_nil)) va_nil))))))))) (vss_one (vs_ret (vv 0)))))),?_⟩
  refine ⟨_,rfl,(by show 1 ≤ sizeLine; decide),fun W H1 fW s1 g1=>?_⟩
  refine ⟨fun m σ H'=>∃ sz us qs l,σ = [some v,some (.int (sz : Nat)),some (.ref W),l]∧Same H H'∧H' W = some (.lst us)∧All2 (IsQ K H) us qs∧sz + sizes qs = size q0∧m = sizes qs,⟨_,0,_,[q0],_,rfl,s1,g1,.cons hq .nil,by simp [sizes],rfl⟩,?_⟩
  rintro m σ H' ⟨sz,us,qs,l,rfl,sm,eW,hu,hs,rfl⟩
  by_cases hne : us = []
  · subst hne
    refine ⟨_,rfl,false,.inl ⟨[],SqL.of eW,rfl⟩,?_⟩
    refine iteF ?_
    exact ⟨_,rfl,q H' sm⟩
  · obtain ⟨us',u,qs',p,rfl,rfl,hu',hp⟩:=all2_last hu hne
    refine ⟨_,rfl,true,.inl ⟨_,SqL.of eW,by cases us' <;> rfl⟩,?_⟩
    refine iteT ?_
    have hso:=size_own p
    have hop:=own_pos hp
    have hsz : sizes (qs' ++ [p]) = sizes qs' + size p:=by rw [sizes_app]; simp [sizes]
    refine ⟨fun σ' H''=>∃ m',m' < sizes (qs' ++ [p])∧∃ sz us qs l,σ' = [some v,some (.int (sz : Nat)),some (.ref W),l]∧Same H H''∧H'' W = some (.lst us)∧All2 (IsQ K H) us qs∧sz + sizes qs = size q0∧m' = sizes qs,fun σ' H'' h=>h,?_⟩
    refine ⟨_,rfl,.inl ⟨rfl,_,SqL.of eW⟩,W,_,u,rfl,rfl,eW,?_,?_⟩
    · rw [List.length_append,List.length_singleton,Nat.add_sub_cancel,List.getElem?_append_right (Nat.le_refl _),Nat.sub_self]
      rfl
    rw [List.dropLast_concat]
    have sx : Same H (upd H' W (.lst us')):=same_upd fW sm
    have ex : upd H' W (.lst us') W = some (.lst us'):=upd_same
    generalize upd H' W (.lst us') = Hx at sx ex
    refine ⟨_,rfl,u,p,rfl,hp.same sx,fun H2 s2=>⟨_,rfl,iteF ?_⟩⟩
    refine ⟨_,rfl,_,rfl,u,p,rfl,hp.same (sx.trans s2),_,_,rfl,rfl,?_⟩
    refine ⟨_,rfl,_,_,rfl,rfl,_,rfl,?_⟩
    have e20 : decide ((20 : Int) < (sz : Int) + (own p : Int)) = false:=decide_eq_false (by omega)
    rw [e20]
    refine iteF ?_
    refine ⟨_,rfl,.inl ⟨rfl,_,SqL.of (s2 _ _ ex)⟩,?_⟩
    refine ⟨_,rfl,u,p,H,rfl,sx.trans s2,hp,fun D H3 ws fD s3 gD hw=>?_⟩
    have lw:=hw.len
    have lu:=sizes_pos hu'
    have lk : (kids p).length ≤ 2:=by cases p <;> simp [kids]
    refine ⟨W,D,_,_,rfl,rfl,s3 _ _ (s2 _ _ ex),gD,small (by omega),?_⟩
    refine ⟨_,?_,sz + own p,us' ++ ws,qs' ++ kids p,some u,?_,same_upd fW (sx.trans (s2.trans s3)),upd_same,hu'.app hw,?_,rfl⟩
    · rw [sizes_app]; omega
    · rw [show ((sz + own p : Nat) : Int) = (sz : Int) + (own p : Int) from by omega]; rfl
    · rw [sizes_app]; omega
end
end My
set_option Elab.async false
set_option linter.all false
set_option maxRecDepth 100000
namespace L2
open PySem PySem.Spec PyProof.Rows
theorem ps_setCX {X : Cx} {E : XK} {i0 : Nat} {x0 : Str} {pos' spos : Pos} {elt target iter : Expr} {ifs : List Expr} {scope : Scope} {pos : Pos} {N : List Str} {wi : TI} {g : TG} {tt : TT} {te : TE}
    (hst : X.stack = X.env :: X.outer) (hfrm : X.env.frame = some X.env.locals) (hT : Thr X E) (hN : X.N.Nodup) (hi0 : X.N[i0]? = some x0) (hx0 : Loc X.env.scope x0) (C : CompOk scope N) (hfr : ∀ y,(y,NameKind.free) ∈ scope.names→X.env.kindOf y = some .cell ∨ X.env.kindOf y = some .free) (hc : X.calm = true)
    (hi : PI X target iter wi)
    (hb : ∀ cl s H fp,PG (cxCX X N scope cl s H fp E) target g∧PIfs (cxCX X N scope cl s H fp E) ifs tt∧PE (cxCX X N scope cl s H fp E) elt te)
    (hs : ∀ x,foldedSetIterable iter X.env x = pure x:=by intro _; rfl) (hsw : swapsWith (.ListComp elt [⟨target,iter,ifs,0⟩] scope pos) (some (.Name x0 pos')) spos.line X.env = pure true:=by rfl)
    (hf : X.fn x0 = true ∨ X.env.scope.names.lookup x0 = some .local:=by first | exact .inl rfl | exact .inr rfl | assumption) :
    PS X (.Assign [.Name x0 pos'] (.ListComp elt [⟨target,iter,ifs,0⟩] scope pos) spos) (tAsg (tComp X scope N wi g tt te) (gName i0)):=by
  intro pins s σ H Dn I hq
  obtain ⟨σ0,cap,hq⟩:=hq
  obtain ⟨cl,hcl,p1,p2⟩:=closure_of (scope:=scope) (env:=X.env) (fun y hy hk=>by
    obtain ⟨n,k⟩:=y
    cases hk
    exact I.ok.has n (hfr n hy))
  rw [exec_Assign_Name_used _ _ _ _ hsw]
  refine wpAny_bind (wpAny_standAt (wpAny_bind ?_))
  show wpAny _ X.A (do let _ ← comprehension (.ListComp elt [⟨target,iter,ifs,0⟩] scope pos) scope X.env _ (newList []) false (eval iter X.env) (some (assign (.Name x0 pos') X.env))) _ _ s
  refine wpAny_bind (wpAny_mono (wpAny_comprehension_free (use:=some (assign (.Name x0 pos') X.env)) (Q:=fun _ s'=>SP X pins Dn .next s') rfl hs hcl C.kind C.names (thn (hi pins s σ H _ I hq) fun xv s1 h1=>thn h1 fun itv s2 h2=>?_))
    (fun _ s' hq=>wpAny_pure (wpAny_pure hq)) fun _ _ e=>e)
  obtain ⟨it,fp,tn,J,H2,rfl,I2,T,st2,f2,q2⟩:=h2
  refine wpAny_newObj_type (wpAny_newFunctionEnv C.cell (by intro y hy; simp at hy) (fun h₁ hns₁ hsb₁=>?_) C.kind)
  dsimp only at hns₁ hsb₁ ⊢
  have hD : H2 s2.heap.objs.size = none:=I2.hok.fresh (Nat.le_refl _)
  have I3 : Inv X pins σ (upd H2 s2.heap.objs.size (.lst [])) { s2 with heap:=s2.heap.push { cls:=.type "list",dict:=none,data:=.seq ([] : List Value).toArray } } :=
    I2.laid (t':=s2.toks) (fun b u e=>Heap.get?_push_of_some _ e) (Nat.le_refl _) ⟨Nat.zero_le _,[],0,.nil,Heap.get?_push_size _ rfl⟩
  generalize hs3 : ({ s2 with heap:=s2.heap.push { cls:=.type "list",dict:=none,data:=.seq ([] : List Value).toArray } } : Shared) = s3 at I3
  have hh3 : s2.heap.push { cls:=.type "list",dict:=none,data:=.seq ([] : List Value).toArray } = s3.heap:=by rw [← hs3]
  rw [hh3] at hns₁ hsb₁
  have fl2 : ∀ b ∈ fp,b < s2.heap.objs.size:=fun b hb=>by
    obtain ⟨o,e,_⟩:=T.obj _ _ st2 b hb
    exact Heap.lt_size e
  have fl3 : ∀ b ∈ fp,b < s3.heap.objs.size:=fun b hb=>by
    rw [← hh3,Heap.size_push]
    exact Nat.lt_succ_of_lt (fl2 b hb)
  have f3 : ∀ b ∈ fp,FpOk X pins (upd H2 s2.heap.objs.size (.lst [])) b:=fun b hb=>by
    obtain ⟨f0,fr⟩:=f2 b hb
    exact ⟨by rw [upd_ne (Nat.ne_of_lt (fl2 b hb))]; exact f0,fr⟩
  have keep3 : ∀ b o,s3.heap.get? b = some o→h₁.get? b = some o:=fun b o e=>hsb₁.extBut b o (Nat.ne_of_lt (Heap.lt_size e)) (Heap.get?_push_of_some _ e)
  have I4:=inv_comp (tk:=s3.toks) I3 C hfr p1 p2 cap f3 fl3 hns₁ keep3
  have st4 : tn 0 h₁:=T.keep _ _ _ st2 fun b hb o e=>keep3 b o (by rw [← hh3]; exact Heap.get?_push_of_some _ e)
  obtain ⟨W,⟨m0,w0⟩,turn⟩:=q2 s2.heap.objs.size hD
  have fpc : ∀ {H' : Hp},(∀ b ∈ fp,H' b = none)→∀ b ∈ fp,FpOk (cxCX X N scope cl s3 (upd H2 s2.heap.objs.size (.lst [])) fp E) [] H' b:=fun {H'} hn b hb=>by
    obtain ⟨e1,e2⟩:=I4.ok.exf b hb
    exact ⟨hn b hb,e1,I4.ok.exfs b hb,.inl hb,e2,fun p hp=>absurd (show p ∈ ([] : List (Addr × Obj)) from hp) (by simp)⟩
  have onE : ∀ v s',(cxCX X N scope cl s3 (upd H2 s2.heap.objs.size (.lst [])) fp E).xe v s'→notedBy (model X.prog X.w) X.A (compEnvC scope cl s3.heap.objs.size X.env)
      (fun e s''=>compPost (model X.prog X.w) X.A X.xe (some (assign (.Name x0 pos') X.env)) (fun _ s'=>SP X pins Dn .next s') (.ref s2.heap.objs.size) s3.heap.objs.size (.error e) s'') v s':=by
    rintro v s' ⟨e,Tb,dx,Cx',H₁,σ',pins',rfl,I',n,nT,hTe,hd,q⟩
    have fC : FpOk X pins (up2 H₁ e Tb Cx' dx) s3.heap.objs.size:=I3.fpOk (Nat.le_refl _) I'.free
    obtain ⟨m6,⟨oL,es,ep,hoL,rL⟩,_⟩:=I'.loc
    have IX:=(I3.outCX f3 I').pinned (fp:=[s3.heap.objs.size]) (fun b hb=>by obtain rfl:=List.mem_singleton.mp hb; exact fC) (fun b hb=>by
      obtain rfl:=List.mem_singleton.mp hb
      exact ⟨oL,hoL,fun v z=>by rw [rL.1] at z; cases z⟩)
    show wpAny _ _ (noteFrame (.ref e) (compEnvC scope cl s3.heap.objs.size X.env)) _ _ s'
    rw [noteFrame_comp]
    refine inv_note2 IX hst hfrm n nT hTe fun T' s'' I'' nT' hTe'=>?_
    have pC:=(I''.pin (s3.heap.objs.size,oL) (List.mem_append_right _ (List.mem_append_right _ (mem_pinsAt (List.mem_singleton.mpr rfl) hoL))))
    refine ⟨m6,⟨oL,es,ep,pC.1,rL⟩,fun h' sb cenv _=>?_⟩
    have I7 : Inv X pins σ (up2 H₁ e T' Cx' dx) { s'' with heap:=h' }:=I''.unpinned.sameBut ⟨pC.2.1,fC.2⟩ sb
    have e1 : up2 H₁ e T' Cx' dx e = some (FlyO e T' Cx' dx):=upd_same
    obtain ⟨vs,hge,hz,hv1⟩:=(I7.hok e _ e1).1
    unfold PySem.passOn
    refine wpAny_bind (wpAny_field hge rfl hv1 ?_)
    rw [if_neg (show ¬ (Value.ref T' == Value.none) = true from by simp)]
    refine wpAny_bind (inv_flight I7 hTe' fun s8 I8=>?_)
    exact wpAny_throw (hT pins σ H₁ s8 e T' Cx' dx I8 n nT' hTe' hd q)
  have loop : ∀ s4 : Shared,s4 = { s3 with heap:=h₁,toks:=s3.toks } →
      codeAny (model X.prog X.w) X.A (.compLoop (.ListComp elt [⟨target,iter,ifs,0⟩] scope pos) 0 (.ref it) (.ref s2.heap.objs.size) (compEnvC scope cl s3.heap.objs.size X.env))
        (compPost (model X.prog X.w) X.A X.xe (some (assign (.Name x0 pos') X.env)) (fun _ s'=>SP X pins Dn .next s') (.ref s2.heap.objs.size) s3.heap.objs.size) s4:=by
    rintro s4 rfl
    refine comp_loop (fun n s'=>∃ i σ' H' ys,Inv (cxCX X N scope cl s3 (upd H2 s2.heap.objs.size (.lst [])) fp E) [] σ' H' s'∧tn i s'.heap∧(∀ b ∈ fp,H' b = none)∧W i n σ' H' ys) ?_ m0 ⟨0,σ0,_,[],I4.toCX,st4,fun b hb=>(f3 b hb).1,w0⟩
    rintro n s5 ⟨i,σ5,H5,ys,I5,st5,fr5,w5⟩
    obtain ⟨hacc,w5⟩:=turn i n σ5 H5 ys w5
    have noE : ∀ {α : Type} {t : Sem α} {Q' : α→Shared→Prop} {E' : Value→Shared→Prop} {s' : Shared},wpAny (model X.prog X.w) X.A t Q' (fun _ _=>False) s'→wpAny (model X.prog X.w) X.A t Q' E' s':=fun h=>wpAny_mono h (fun _ _ q=>q) fun _ _ z=>z.elim
    have toE : ∀ {α : Type} {t : Sem α} {Q' : α→Shared→Prop} {s' : Shared},wpAny (model X.prog X.w) X.A t Q' (cxCX X N scope cl s3 (upd H2 s2.heap.objs.size (.lst [])) fp E).xe s'→wpAny (model X.prog X.w) X.A t Q' (notedBy (model X.prog X.w) X.A (compEnvC scope cl s3.heap.objs.size X.env) (fun e s''=>compPost (model X.prog X.w) X.A X.xe (some (assign (.Name x0 pos') X.env)) (fun _ s'=>SP X pins Dn .next s') (.ref s2.heap.objs.size) s3.heap.objs.size (.error e) s'')) s':=fun h=>wpAny_mono h (fun _ _ q=>q) onE
    rcases w5 with ⟨stop,qn⟩ | ⟨go,step⟩
    · refine noE (thn (T.done (cxCX X N scope cl s3 (upd H2 s2.heap.objs.size (.lst [])) fp E) rfl rfl rfl hc i [] s5 σ5 H5 _ I5 (fpc fr5) st5 stop) fun r s6 ⟨hr,I6⟩=>?_)
      subst hr
      obtain ⟨m6,hn6,_⟩:=I6.loc
      have I7 : Inv X pins σ H5 s6:=I3.outCX f3 I6.ofCX
      have hfree : H5 s3.heap.objs.size = none:=I6.free
      obtain ⟨g0,g1,g2,g3,g4,g5⟩:=I3.fpOk (Nat.le_refl _) hfree
      show wpAny (model X.prog X.w) X.A (assign (.Name x0 pos') X.env (.ref s2.heap.objs.size)) _ _ s6
      refine wpAny_assign_Name (store_ok2 I7 hN hi0 hx0 (v:=.ref s2.heap.objs.size) rfl (fun s8 I8 ⟨a,sb,ha⟩=>?_) hf)
      have nea : s3.heap.objs.size ≠ a:=by
        rcases ha with z | z
        · rw [z]; exact g1
        · exact fun e=>g4 x0 a z e.symm
      refine ⟨m6,hn6.sameBut sb nea,fun h' sb'=>?_⟩
      exact ⟨_,H5,Inv.turned I8 (t':=s8.toks) (it:=s3.heap.objs.size) (fun b o hb e=>sb'.extBut b o hb e) g0 g1 g3 g4 g5,qn⟩
    · refine noE (thn (T.item (cxCX X N scope cl s3 (upd H2 s2.heap.objs.size (.lst [])) fp E) rfl rfl rfl hc i [] s5 σ5 H5 (fun _ _=>False) I5 (fpc fr5) st5 go) fun r s6 ⟨u,hr,h6⟩=>?_)
      subst hr
      refine noE (thn h6 fun _ s7 ⟨x,H7,I7,r7,y7,st7,fr7⟩=>?_)
      obtain ⟨hg,ht,he⟩:=hb cl s3 (upd H2 s2.heap.objs.size (.lst [])) fp
      have I7':=I7.pinned (fpc fr7) (T.obj _ _ st7)
      have back : ∀ {σ8 : St} {H8 : Hp} {s8 : Shared},Inv (cxCX X N scope cl s3 (upd H2 s2.heap.objs.size (.lst [])) fp E) ([] ++ pinsAt fp s7.heap) σ8 H8 s8→tn (i + 1) s8.heap∧∀ b ∈ fp,H8 b = none:=fun {σ8 H8 s8} I8 =>
        ⟨T.keep _ _ _ st7 fun b hb o e=>(I8.pin (b,o) (List.mem_append_right _ (List.mem_append_right _ (mem_pinsAt hb e)))).1,fun b hb=>by
          obtain ⟨o,e,d⟩:=T.obj _ _ st7 b hb
          exact (I8.pin (b,o) (List.mem_append_right _ (List.mem_append_right _ (mem_pinsAt hb e)))).2.1⟩
      refine toE (thn (hg _ s7 σ5 H7 x u _ I7' r7 (step x H7 y7)) fun _ s8 ⟨σ8,H8,I8,q8⟩=>?_)
      refine toE (thn (ht _ s8 σ8 H8 _ I8 q8) fun b s9 ⟨H9,I9,q9⟩=>?_)
      cases b with
      | false =>
        rw [if_neg Bool.false_ne_true] at q9 ⊢
        obtain ⟨_,m',hm,w9⟩:=q9
        exact ⟨m',hm,i + 1,σ8,H9,ys,I9.unpinned,(back I9).1,(back I9).2,w9⟩
      | true =>
        rw [if_pos rfl] at q9 ⊢
        refine toE (thn (he _ s9 σ8 H9 _ I9 q9) fun yv s10 ⟨y,H10,I10,r10,hacc10,hlen,m',hm,w10⟩=>?_)
        refine toE (thn (mt_append _ s10 σ8 H10 (.ref s2.heap.objs.size) [y] (.ref s2.heap.objs.size) [yv] (fun _ H11=>H11 = upd H10 s2.heap.objs.size (.lst (ys ++ [y]))) I10 rfl (.cons r10 .nil) ⟨_,_,_,rfl,rfl,hacc10,hlen,rfl⟩) fun _ s11 ⟨z,H11,I11,_,e11⟩=>?_)
        subst e11
        exact ⟨m',hm,i + 1,σ8,_,ys ++ [y],I11.unpinned,(back I11).1,(back I11).2,w10⟩
  have fin:=codeAny_compStart_list (loop { s3 with heap:=h₁,toks:=s3.toks } rfl) (T.self _ _ _ _ _ st4 (loop { s3 with heap:=h₁,toks:=s3.toks } rfl))
  subst hs3
  exact fin
theorem vs_setCX {X : Cx} {E : XK} {i0 : Nat} {x0 : Str} {pos' spos : Pos} {elt target iter : Expr} {ifs : List Expr} {scope : Scope} {pos : Pos} {N : List Str} {wi : TI} {g : TG} {tt : TT} {te : TE}
    (hst : X.stack = X.env :: X.outer) (hfrm : X.env.frame = some X.env.locals) (hT : Thr X E) (hN : X.N.Nodup) (hi0 : X.N[i0]? = some x0) (hx0 : Loc X.env.scope x0) (C : CompOk scope N) (hfr : ∀ y,(y,NameKind.free) ∈ scope.names→X.env.kindOf y = some .cell ∨ X.env.kindOf y = some .free) (hc : X.calm = true)
    (hi : VI X target iter wi)
    (hb : ∀ cl s H fp,VG (cxCX X N scope cl s H fp E) target g∧VF (cxCX X N scope cl s H fp E) ifs tt∧VE (cxCX X N scope cl s H fp E) elt te)
    (hs : ∀ x,foldedSetIterable iter X.env x = pure x:=by intro _; rfl) (hsw : swapsWith (.ListComp elt [⟨target,iter,ifs,0⟩] scope pos) (some (.Name x0 pos')) spos.line X.env = pure true:=by rfl)
    (hf : X.fn x0 = true ∨ X.env.scope.names.lookup x0 = some .local:=by first | exact .inl rfl | exact .inr rfl | assumption) :
    VS X (.Assign [.Name x0 pos'] (.ListComp elt [⟨target,iter,ifs,0⟩] scope pos) spos) (tAsg (tComp X scope N wi g tt te) (gName i0)) :=
  ⟨ps_setCX hst hfrm hT hN hi0 hx0 C hfr hc hi.1 (fun cl s H fp=>⟨(hb cl s H fp).1.1,(hb cl s H fp).2.1.1,(hb cl s H fp).2.2.1⟩) hs hsw hf⟩
end L2
set_option Elab.async false
set_option linter.all false
set_option maxRecDepth 100000
namespace L2
open PySem PySem.Spec PyProof.Rows
section
variable {X : Cx} {scope : Scope} {N : List Str} {wi : TI} {te : TE} {σ : St} {H : Hp} {Q : VK}
theorem comp_anyP (xs : List V) (Rel : Nat→Hp→V→Prop) (st : ∀ {i H1 H2 y},Same H1 H2→Rel i H1 y→Rel i H2 y) (su : ∀ {i H1 D ys zs y},H1 D = some (.lst ys)→Rel i H1 y→Rel i (upd H1 D (.lst zs)) y)
    (σ0 : St) (cap : Cap X scope N σ σ0) (hsz : xs.length ≤ sizeLine)
    (hw : ∀ R : It→Hp→Prop,(∀ J : It,(∀ H' i x,Same H H'→xs[i]? = some x→J.go i H'∧∀ y H2,J.yld i H' y H2→H2 = H'∧y = x)→(∀ H',Same H H'→J.stop xs.length H')→R J H)→wi σ H R)
    (he : ∀ (i : Nat) (x : V),xs[i]? = some x→∀ H' R l,Same H H'→(∀ j,j < i→∃ y,Rel j H' y)→(∀ y H2,Same H' H2→Rel i H2 y→R y H2)→te ((σ0.set 0 l).set 0 (some x)) H' R) (h0 : σ0[0]? = some none)
    (q : ∀ D H' ys,Same H H'→H' D = some (.lst ys)→ys.length = xs.length→(∀ (i : Nat) (y : V),ys[i]? = some y→Rel i H' y)→Q (.ref D) H') :
    tComp X scope N wi (gName 0) tYes te σ H Q:=by
  refine ⟨σ0,cap,hw _ fun J go stop D hD=>?_⟩
  refine ⟨fun i m σ' H' ys=>i ≤ xs.length∧m = xs.length - i∧(∃ l,σ' = σ0.set 0 l)∧Same H H'∧H' D = some (.lst ys)∧ys.length = i∧∀ (j : Nat) (y : V),ys[j]? = some y→Rel j H' y,⟨xs.length,Nat.zero_le _,rfl,⟨none,set_self0 h0⟩,same_new hD _,upd_same,rfl,fun j y e=>by simp at e⟩,?_⟩
  rintro i m σ' H' ys ⟨hi,rfl,⟨l,rfl⟩,sm,hL,hl,hR⟩
  refine ⟨hL,?_⟩
  by_cases hlt : i < xs.length
  · right
    obtain ⟨g1,g2⟩:=go H' i xs[i] sm (List.getElem?_eq_getElem hlt)
    refine ⟨g1,fun x H2 hy=>?_⟩
    obtain ⟨rfl,rfl⟩:=g2 x H2 hy
    unfold gName tYes
    dsimp only
    rw [if_pos rfl]
    refine he i xs[i] (List.getElem?_eq_getElem hlt) _ _ l sm (fun j hj=>⟨ys[j]'(by omega),hR j _ (List.getElem?_eq_getElem (by omega))⟩) fun y H3 s3 r3=>⟨s3 _ _ hL,by omega,xs.length - (i + 1),by omega,hlt,rfl,⟨some xs[i],?_⟩,?_,upd_same,?_,?_⟩
    · rw [List.set_set]
    · intro b o e
      rw [upd_ne (ne_of_none e hD)]
      exact s3 _ _ (sm _ _ e)
    · rw [List.length_append,List.length_singleton,hl]
    · intro j z ez
      refine su (s3 _ _ hL) ?_
      by_cases hj : j < ys.length
      · rw [List.getElem?_append_left hj] at ez
        exact st s3 (hR j z ez)
      · rw [List.getElem?_append_right (by omega)] at ez
        have hj0 : j - ys.length = 0:=by
          by_cases z0 : j - ys.length = 0
          · exact z0
          · rw [List.getElem?_eq_none (by simp; omega)] at ez; cases ez
        have hj1 : j = i:=by omega
        subst hj1
        rw [hj0] at ez
        cases ez
        exact r3
  · left
    have e : i = xs.length:=by omega
    subst e
    exact ⟨stop _ sm,q D _ ys sm hL hl hR⟩
theorem comp_coreP (xs : List V) (Rel : Nat→Hp→V→Prop) (st : ∀ {i H1 H2 y},Same H1 H2→Rel i H1 y→Rel i H2 y) (su : ∀ {i H1 D ys zs y},H1 D = some (.lst ys)→Rel i H1 y→Rel i (upd H1 D (.lst zs)) y)
    (σ0 : St) (hsz : xs.length ≤ sizeLine)
    (J : It) (go : ∀ H' i x,Same H H'→xs[i]? = some x→J.go i H'∧∀ y H2,J.yld i H' y H2→H2 = H'∧y = x) (stop : ∀ H',Same H H'→J.stop xs.length H')
    (he : ∀ (i : Nat) (x : V),xs[i]? = some x→∀ H' R l,Same H H'→(∀ j,j < i→∃ y,Rel j H' y)→(∀ y H2,Same H' H2→Rel i H2 y→R y H2)→te ((σ0.set 0 l).set 0 (some x)) H' R) (h0 : σ0[0]? = some none)
    (q : ∀ D H' ys,Same H H'→H' D = some (.lst ys)→ys.length = xs.length→(∀ (i : Nat) (y : V),ys[i]? = some y→Rel i H' y)→Q (.ref D) H') :
    ∀ D,H D = none→∃ W : Nat→Nat→St→Hp→List V→Prop,(∃ m,W 0 m σ0 (upd H D (.lst [])) []) ∧
      ∀ i m σ' H' ys,W i m σ' H' ys→H' D = some (.lst ys)∧((J.stop i H'∧Q (.ref D) H') ∨ (J.go i H'∧∀ x H2,J.yld i H' x H2→gName 0 x σ' H2 fun σ3 H3=>tYes σ3 H3 fun b H4 =>
        if b = true then te σ3 H4 fun y H5=>H5 D = some (.lst ys)∧ys.length < sizeLine∧∃ m',m' < m∧W (i + 1) m' σ3 (upd H5 D (.lst (ys ++ [y]))) (ys ++ [y]) else H4 D = some (.lst ys)∧∃ m',m' < m∧W (i + 1) m' σ3 H4 ys)):=by
  intro D hD
  refine ⟨fun i m σ' H' ys=>i ≤ xs.length∧m = xs.length - i∧(∃ l,σ' = σ0.set 0 l)∧Same H H'∧H' D = some (.lst ys)∧ys.length = i∧∀ (j : Nat) (y : V),ys[j]? = some y→Rel j H' y,⟨xs.length,Nat.zero_le _,rfl,⟨none,set_self0 h0⟩,same_new hD _,upd_same,rfl,fun j y e=>by simp at e⟩,?_⟩
  rintro i m σ' H' ys ⟨hi,rfl,⟨l,rfl⟩,sm,hL,hl,hR⟩
  refine ⟨hL,?_⟩
  by_cases hlt : i < xs.length
  · right
    obtain ⟨g1,g2⟩:=go H' i xs[i] sm (List.getElem?_eq_getElem hlt)
    refine ⟨g1,fun x H2 hy=>?_⟩
    obtain ⟨rfl,rfl⟩:=g2 x H2 hy
    unfold gName tYes
    dsimp only
    rw [if_pos rfl]
    refine he i xs[i] (List.getElem?_eq_getElem hlt) _ _ l sm (fun j hj=>⟨ys[j]'(by omega),hR j _ (List.getElem?_eq_getElem (by omega))⟩) fun y H3 s3 r3=>⟨s3 _ _ hL,by omega,xs.length - (i + 1),by omega,hlt,rfl,⟨some xs[i],?_⟩,?_,upd_same,?_,?_⟩
    · rw [List.set_set]
    · intro b o e
      rw [upd_ne (ne_of_none e hD)]
      exact s3 _ _ (sm _ _ e)
    · rw [List.length_append,List.length_singleton,hl]
    · intro j z ez
      refine su (s3 _ _ hL) ?_
      by_cases hj : j < ys.length
      · rw [List.getElem?_append_left hj] at ez
        exact st s3 (hR j z ez)
      · rw [List.getElem?_append_right (by omega)] at ez
        have hj0 : j - ys.length = 0:=by
          by_cases z0 : j - ys.length = 0
          · exact z0
          · rw [List.getElem?_eq_none (by simp; omega)] at ez; cases ez
        have hj1 : j = i:=by omega
        subst hj1
        rw [hj0] at ez
        cases ez
        exact r3
  · left
    have e : i = xs.length:=by omega
    subst e
    exact ⟨stop _ sm,q D _ ys sm hL hl hR⟩
theorem comp_anyPL {K : PySem.W.Frag} {tl : TE} (Pr : List V→Prop) (Rel : Nat→Hp→V→Prop) (st : ∀ {i H1 H2 y},Same H1 H2→Rel i H1 y→Rel i H2 y) (su : ∀ {i H1 D ys zs y},H1 D = some (.lst ys)→Rel i H1 y→Rel i (upd H1 D (.lst zs)) y)
    (σ0 : St) (cap : Cap X scope N σ σ0) (h0 : σ0[0]? = some none)
    (hw : ∀ R : VK,(∀ D H1 us,Same H H1→H1 D = some (.lst us)→Pr us→R (.ref D) H1)→tl σ H R)
    (hsz : ∀ us,Pr us→us.length ≤ sizeLine)
    (he : ∀ us,Pr us→∀ (i : Nat) (x : V),us[i]? = some x→∀ H' R l,Same H H'→(∀ j,j < i→∃ y,Rel j H' y)→(∀ y H2,Same H' H2→Rel i H2 y→R y H2)→te ((σ0.set 0 l).set 0 (some x)) H' R)
    (q : ∀ us,Pr us→∀ D H' ys,Same H H'→H' D = some (.lst ys)→ys.length = us.length→(∀ (i : Nat) (y : V),ys[i]? = some y→Rel i H' y)→Q (.ref D) H') :
    tComp X scope N (iList K tl) (gName 0) tYes te σ H Q :=
  ⟨σ0,cap,hw _ fun D H1 us s1 g1 p=>⟨D,rfl,⟨us,SqL.of g1⟩,comp_coreP us Rel st su σ0 (hsz us p) (Itl K D) (itl_go fun H' sm=>SqL.of (sm _ _ g1)) (itl_stop fun H' sm=>SqL.of (sm _ _ g1))
    (fun i x ex H' R l sm hp r=>he us p i x ex H' R l (s1.trans sm) hp r) h0 fun D2 H' ys sm=>q us p D2 H' ys (s1.trans sm)⟩⟩
def rNeTx (K : PySem.W.Frag) : R2:=fun x y H Q=>∃ (a b : Addr) (xs ys : List Str),x = .ref a∧y = .ref b∧SqL K H a (xs.map V.str)∧SqL K H b (ys.map V.str)∧xs.length = ys.length∧Q (.bl (!decide (xs = ys))) H
theorem op_neTx (hu : X.A.units < cLine) : OpR X (compareOp .NotEq) (rNeTx X.K):=by
  intro pins s σ H x y v u Q I rx ry h
  obtain ⟨a,b,xs,ys,rfl,rfl,ha,hb,hl,q⟩:=h
  cases rx
  cases ry
  obtain ⟨its,rv,pl,hz⟩:=I.list ha
  obtain ⟨jts,rw',pm,hw⟩:=I.list hb
  have e1:=rv.length
  have e2:=rw'.length
  rw [List.length_map] at e1 e2
  refine SeqAt.RcNeAt.lists (e:=fun j=>decide (xs[j]? = ys[j]?)) pl.isList pm.isList (by rw [List.size_toArray,List.size_toArray]; omega) hu (fun j h1 h2=>?_) _ _ _ _ ?_
  · have hj1 : j < xs.length:=by rw [List.size_toArray] at h1; omega
    have hj2 : j < ys.length:=by omega
    obtain ⟨u1,hu1,t1,rfl⟩:=rv.get (i:=j) (x:=.str xs[j]) (by rw [List.getElem?_map,List.getElem?_eq_getElem hj1]; rfl)
    obtain ⟨u2,hu2,t2,rfl⟩:=rw'.get (i:=j) (x:=.str ys[j]) (by rw [List.getElem?_map,List.getElem?_eq_getElem hj2]; rfl)
    have g1 : its.toArray[j] = Value.str xs[j] t1:=by
      rw [List.getElem_toArray]
      exact (List.getElem?_eq_some_iff.mp hu1).2
    have g2 : jts.toArray[j] = Value.str ys[j] t2:=by
      rw [List.getElem_toArray]
      exact (List.getElem?_eq_some_iff.mp hu2).2
    rw [g1,g2]
    have z:=SeqAt.EqAt.str_str (A:=X.A.in1) (s:=s) xs[j] t1 ys[j] t2
    have e3 : decide (xs[j]? = ys[j]?) = (xs[j] == ys[j]):=by
      rw [List.getElem?_eq_getElem hj1,List.getElem?_eq_getElem hj2]
      by_cases e : xs[j] = ys[j]
      · simp [e]
      · simp [e]
    rw [e3]
    exact z
  · have e4 : ((List.range its.toArray.size).all fun j=>decide (xs[j]? = ys[j]?)) = decide (xs = ys):=by
      rw [Bool.eq_iff_iff,List.all_eq_true,decide_eq_true_eq]
      constructor
      · intro h
        refine List.ext_getElem? fun j=>?_
        by_cases hj : j < xs.length
        · exact of_decide_eq_true (h j (List.mem_range.mpr (by rw [List.size_toArray]; omega)))
        · rw [List.getElem?_eq_none (by omega),List.getElem?_eq_none (by omega)]
      · intro h j _
        rw [h]; simp
    rw [e4]
    exact ⟨.bl _,H,I,rfl,q⟩
end
end L2
set_option Elab.async false
set_option linter.all false
set_option maxRecDepth 100000
namespace My
open PySem PySem.Spec PyProof.Rows L2
set_option maxHeartbeats 400000
section
variable {P : Program} {w : World} {K : PySem.W.Frag} {mg : Str→Option Value} {base : Heap}
abbrev Hdr:=List (Str × Str)
def IsC (K : PySem.W.Frag) (H : Hp) (v : V) (c : Str × Str) : Prop:=∃ p,v = .ref p∧SqT K H p [.str c.1,.str c.2]
theorem IsC.same {K : PySem.W.Frag} {H H' : Hp} {v : V} {c : Str × Str} (e : Same H H') (h : IsC K H v c) : IsC K H' v c:=by
  obtain ⟨p,rfl,hp⟩:=h
  exact ⟨p,rfl,e.seqT hp⟩
def IsHd (K : PySem.W.Frag) (H : Hp) (v : V) (hd : Hdr) : Prop:=TupR K H (IsC K H) v hd
theorem IsHd.same {K : PySem.W.Frag} {H H' : Hp} {v : V} {hd : Hdr} (e : Same H H') (h : IsHd K H v hd) : IsHd K H' v hd:=TupR.same e (fun _ _ q=>q.same e) h
def look (hd : Hdr) (n : Str) : Option Str:=(hd.find? fun c=>decide (c.1 = n)).map (·.2)
theorem all2_at {α β : Type} {R : α→β→Prop} : ∀ {as : List α} {bs : List β},All2 R as bs→∀ {i : Nat} {a : α},as[i]? = some a→∃ b,bs[i]? = some b∧R a b
  | _,_,.cons r t,0,_,h1=>by cases h1; exact ⟨_,rfl,r⟩
  | _,_,.cons r t,i + 1,a,h1=>by
    obtain ⟨b,e,q⟩:=all2_at t (i:=i) (a:=a) (by simpa using h1)
    exact ⟨b,by simpa using e,q⟩
theorem all2_of {α β : Type} {R : α→β→Prop} : ∀ {as : List α} {bs : List β},as.length = bs.length→(∀ (i : Nat) (a : α) (b : β),as[i]? = some a→bs[i]? = some b→R a b)→All2 R as bs
  | [],[],_,_=>.nil
  | a :: as,b :: bs,hl,h=>.cons (h 0 a b rfl rfl) (all2_of (by simpa using hl) fun i x y h1 h2=>h (i + 1) x y (by simpa using h1) (by simpa using h2))
theorem isn_map {us : List V} {ns : List Str} (h : All2 (NameS K H) us ns) : us = ns.map V.str:=by
  induction h with
  | nil=>rfl
  | cons r _ ih=>rw [List.map_cons,ih,r.1]
def Rf (mg : Str→Option Value) (c : Cls) (H : Hp) (E : XK) : Prop:=∀ C e H',mg c.nm = some (.ref C)→Same H H'→E (.ref C) (some e) H'
theorem Rf.same {c : Cls} {H H1 : Hp} {E : XK} (s : Same H H1) (h : Rf mg c H E) : Rf mg c H1 E:=fun C e H' m s'=>h C e H' m (s.trans s')
def Out {α : Type} (mg : Str→Option Value) (r : Except Cls α) (H : Hp) (E : XK) (k : α→Prop) : Prop:=match r with
  | .ok a=>k a
  | .error c=>Rf mg c H E
theorem Out.imp {α : Type} {r : Except Cls α} {H H1 : Hp} {E : XK} {k k' : α→Prop} (h : Out mg r H E k) (s : Same H H1) (i : ∀ a,r = .ok a→k a→k' a) : Out mg r H1 E k':=by
  cases r with
  | ok a=>exact i a rfl h
  | error c=>exact Rf.same s h
theorem rf_raise {st : Stmt} {y x : Str} {C S : Addr} {c : Cls} {H H1 : Hp} {E : XK} {D : Ends} {σ : L2.St} (hx : ExT K mg st x y C S) (hc : c.nm = x) (s : Same H H1) (h : Rf mg c H E) : tRaise C E (tCons (tC V.non) tNil) D σ H1 :=
  ⟨rfl,fun a dx n1 n2 ne=>h _ a _ (by rw [hc]; exact hx.mg) (s.trans (same_new n2 _))⟩
theorem hinit (T : Txt w K mg) (fI : Addr) : ∀ (X : Cx),X.N = (["self","act"] : List Str)→X.env.scope = defScope s_init→X.mg = mg→VSs X (defBody s_init) (tSeq (tDrop (tVI X.K fI (tCons (tVar 0) (tCons (tVar 1) tNil)))) (tActS X.K fI (tVar 0) (tVar 1))):=by
  intro X hN hs hm
  have v0 : ∀ {pos : Pos},VE X (.Name "self" pos) (tVar 0):=fun {pos}=>vv 0 (by rw [hN]; rfl) (by left; rw [hs]; rfl)
  have v1 : ∀ {pos : Pos},VE X (.Name "act" pos) (tVar 1):=fun {pos}=>vv 1 (by rw [hN]; rfl) (by left; rw [hs]; rfl)
  have g : Gl X "ValueError":=by
    show X.env.scope.names.lookup _ = _
    rw [hs]; rfl
  exact vss_cons ⟨ps_expr (pe_vinit (fI:=fI) g (by rw [hm]; exact T.n_ValueError) (pa_c v0.1 (pa_c v1.1 pa_nil)))⟩ (vss_one ⟨ps_act v0.1 v1.1⟩)
def mapE {α β : Type} (f : α→Except Cls β) : List α→Except Cls (List β)
  | []=>.ok []
  | a :: r=>match f a with
    | .error c=>.error c
    | .ok b=>match mapE f r with
      | .error c=>.error c
      | .ok bs=>.ok (b :: bs)
theorem mapE_first {α β : Type} {f : α→Except Cls β} {c : Cls} : ∀ {as : List α} {i : Nat} {a : α},as[i]? = some a→f a = .error c→(∀ (j : Nat) (a' : α),j < i→as[j]? = some a'→∃ b,f a' = .ok b)→mapE f as = .error c
  | x :: as,0,a,h,e,_=>by
    cases h
    unfold mapE
    rw [e]
  | x :: as,i + 1,a,h,e,k=>by
    obtain ⟨b,hb⟩:=k 0 x (by omega) rfl
    unfold mapE
    rw [hb]
    dsimp only
    rw [mapE_first (as:=as) (i:=i) (a:=a) (by simpa using h) e fun j a' hj ha=>k (j + 1) a' (by omega) (by simpa using ha)]
theorem mapE_all {α β : Type} {f : α→Except Cls β} : ∀ {as : List α} {bs : List β},All2 (fun a b=>f a = .ok b) as bs→mapE f as = .ok bs
  | _,_,.nil=>rfl
  | _,_,.cons (a:=a) (as:=as) (bs:=bs) r t=>by
    unfold mapE
    rw [r]
    dsimp only
    rw [mapE_all t]
theorem mapE_ok {α β : Type} {f : α→Except Cls β} : ∀ {as : List α} {bs : List β},mapE f as = .ok bs→All2 (fun a b=>f a = .ok b) as bs
  | [],bs,h=>by cases h; exact .nil
  | a :: as,bs,h=>by
    have h' : (match f a with | .error c=>.error c | .ok b=>match mapE f as with | .error c=>.error c | .ok bs=>.ok (b :: bs)) = (Except.ok bs : Except Cls (List β)):=h
    cases e : f a with
    | error c=>rw [e] at h'; cases h'
    | ok b =>
      rw [e] at h'
      dsimp only at h'
      cases e2 : mapE f as with
      | error c=>rw [e2] at h'; cases h'
      | ok cs =>
        rw [e2] at h'
        cases h'
        exact .cons e (mapE_ok e2)
theorem all2_ex {α β : Type} {R : α→β→Prop} : ∀ {as : List α},(∀ (i : Nat) (a : α),as[i]? = some a→∃ b,R a b)→∃ bs,All2 R as bs
  | [],_=>⟨[],.nil⟩
  | a :: as,h=>by
    obtain ⟨b,hb⟩:=h 0 a rfl
    obtain ⟨bs,hbs⟩:=all2_ex (as:=as) fun i a e=>h (i + 1) a (by simpa using e)
    exact ⟨b :: bs,.cons hb hbs⟩
theorem comp_mapE {X : Cx} {scope : Scope} {N : List Str} {wi : TI} {te : TE} {σ : L2.St} {H : Hp} {Q : VK} {E : XK} {α β : Type} (us : List V) (as : List α) (f : α→Except Cls β) (Rl : β→Hp→V→Prop) (hlen : us.length = as.length)
    (st : ∀ {b H1 H2 y},Same H1 H2→Rl b H1 y→Rl b H2 y) (su : ∀ {b H1 D ys zs y},H1 D = some (.lst ys)→Rl b H1 y→Rl b (upd H1 D (.lst zs)) y)
    (σ0 : L2.St) (cap : Cap X scope N σ σ0) (hsz : us.length ≤ sizeLine)
    (hw : ∀ R : It→Hp→Prop,(∀ J : It,(∀ H' i x,Same H H'→us[i]? = some x→J.go i H'∧∀ y H2,J.yld i H' y H2→H2 = H'∧y = x)→(∀ H',Same H H'→J.stop us.length H')→R J H)→wi σ H R)
    (he : ∀ (i : Nat) (u : V) (a : α),us[i]? = some u→as[i]? = some a→∀ H' R l,Same H H'→Out mg (f a) H' E (fun b=>∀ y H2,Same H' H2→Rl b H2 y→R y H2)→te ((σ0.set 0 l).set 0 (some u)) H' R) (h0 : σ0[0]? = some none)
    (q : Out mg (mapE f as) H E fun bs=>∀ D H' ys,Same H H'→H' D = some (.lst ys)→All2 (fun y b=>Rl b H' y) ys bs→Q (.ref D) H') :
    tComp X scope N wi (gName 0) tYes te σ H Q:=by
  refine comp_anyP us (fun i H y=>∃ a b,as[i]? = some a∧f a = .ok b∧Rl b H y) (fun e ⟨a,b,h1,h2,h3⟩=>⟨a,b,h1,h2,st e h3⟩) (fun e ⟨a,b,h1,h2,h3⟩=>⟨a,b,h1,h2,su e h3⟩) σ0 cap hsz hw (fun i u eu H' R l sm hp r=>?_) h0 fun D H' ys sm hD hl hR=>?_
  · have hi : i < as.length:=by rw [← hlen]; exact (List.getElem?_eq_some_iff.mp eu).1
    refine he i u as[i] eu (List.getElem?_eq_getElem hi) H' R l sm ?_
    cases e : f as[i] with
    | ok b=>exact fun y H2 s2 h2=>r y H2 s2 ⟨_,b,List.getElem?_eq_getElem hi,e,h2⟩
    | error c =>
      rw [mapE_first (List.getElem?_eq_getElem hi) e fun j a' hj ha=>by
        obtain ⟨y,a2,b,h1,h2,_⟩:=hp j hj
        rw [ha] at h1; cases h1
        exact ⟨b,h2⟩] at q
      exact Rf.same sm q
  · obtain ⟨bs,hbs⟩:=all2_ex (R:=fun a b=>f a = .ok b) (as:=as) fun i a ea=>by
      have hi : i < ys.length:=by rw [hl,hlen]; exact (List.getElem?_eq_some_iff.mp ea).1
      obtain ⟨a2,b,h1,h2,_⟩:=hR i ys[i] (List.getElem?_eq_getElem hi)
      rw [ea] at h1; cases h1
      exact ⟨b,h2⟩
    rw [mapE_all hbs] at q
    refine q D H' ys sm hD (all2_of (by rw [hl,hlen,hbs.len]) fun i y b e1 e2=>?_)
    obtain ⟨a,b',h1,h2,h3⟩:=hR i y e1
    have:=all2_get hbs h1 e2
    rw [h2] at this
    cases this
    exact h3
theorem strs_eq {ys : List V} {ks : List Str} {H : Hp} (h : All2 (fun y (k : Str)=>y = V.str k) ys ks) : ys = ks.map V.str:=by
  induction h with
  | nil=>rfl
  | cons r _ ih=>rw [List.map_cons,ih,r]
theorem comp_strE {X : Cx} {scope : Scope} {N : List Str} {wi : TI} {te : TE} {σ : L2.St} {H : Hp} {Q : VK} {E : XK} {α : Type} (us : List V) (as : List α) (f : α→Except Cls Str) (hlen : us.length = as.length)
    (σ0 : L2.St) (cap : Cap X scope N σ σ0) (hsz : us.length ≤ sizeLine)
    (hw : ∀ R : It→Hp→Prop,(∀ J : It,(∀ H' i x,Same H H'→us[i]? = some x→J.go i H'∧∀ y H2,J.yld i H' y H2→H2 = H'∧y = x)→(∀ H',Same H H'→J.stop us.length H')→R J H)→wi σ H R)
    (he : ∀ (i : Nat) (u : V) (a : α),us[i]? = some u→as[i]? = some a→∀ H' R l,Same H H'→Out mg (f a) H' E (fun k=>R (.str k) H')→te ((σ0.set 0 l).set 0 (some u)) H' R) (h0 : σ0[0]? = some none)
    (q : Out mg (mapE f as) H E fun ks=>∀ D H',Same H H'→H' D = some (.lst (ks.map V.str))→Q (.ref D) H') :
    tComp X scope N wi (gName 0) tYes te σ H Q:=by
  refine comp_mapE (mg:=mg) (E:=E) us as f (fun k _ y=>y = V.str k) hlen (fun _ h=>h) (fun _ h=>h) σ0 cap hsz hw (fun i u a eu ea H' R l sm o=>he i u a eu ea H' R l sm (o.imp (Same.refl _) fun k _ h=>h _ _ (Same.refl _) rfl)) h0 (q.imp (Same.refl _) fun ks _ h D H' ys sm hD h2=>h D H' sm ?_)
  rw [← strs_eq (H:=H') h2]; exact hD
theorem look_first {n : Str} : ∀ {hd : Hdr} {i : Nat} {c : Str × Str},hd[i]? = some c→c.1 = n→(∀ (j : Nat) (c' : Str × Str),j < i→hd[j]? = some c'→c'.1 ≠ n)→look hd n = some c.2
  | x :: hd,0,c,h,e,_=>by
    cases h
    unfold look
    rw [List.find?_cons,decide_eq_true (p:=x.1 = n) e]
    rfl
  | x :: hd,i + 1,c,h,e,k=>by
    have hx:=k 0 x (by omega) rfl
    have ih:=look_first (hd:=hd) (i:=i) (c:=c) (by simpa using h) e fun j c' hj hc=>k (j + 1) c' (by omega) (by simpa using hc)
    unfold look at ih ⊢
    rw [List.find?_cons,decide_eq_false (p:=x.1 = n) hx]
    exact ih
theorem look_none {n : Str} {hd : Hdr} (h : ∀ (j : Nat) (c : Str × Str),hd[j]? = some c→c.1 ≠ n) : look hd n = none:=by
  unfold look
  rw [List.find?_eq_none.mpr]
  · rfl
  · intro c hc
    obtain ⟨i,hi,e⟩:=List.getElem_of_mem hc
    have:=h i c (by rw [List.getElem?_eq_getElem hi,e])
    simp [this]
def lookE (hd : Hdr) (n : Str) : Except Cls Str:=match look hd n with
  | some k=>.ok k
  | none=>.error .col
def sp_kin (K : PySem.W.Frag) (mg : Str→Option Value) : Sp:=fun vs H Q E=>∃ vh n hd,vs = [vh,.str n]∧IsHd K H vh hd∧Out mg (lookE hd n) H E fun k=>Q (.str k) H
theorem ok_kind_in (T : Txt w K mg) : OkX P w K mg base 3 "kind_in" ["head","name"] (sp_kin K mg):=by
  refine OkX.ofV T.d_kind_in sc_kind_in (fun vs H Q E h=>?_) (fun f cdv A outer s H vs Q E hr h=>?_)
  · obtain ⟨vh,n,hd,rfl,_⟩:=h; rfl
  obtain ⟨vh,n,hd,rfl,⟨a,us,rfl,ha,hu⟩,q⟩:=h
  obtain ⟨S,ad,mS,hS,hex,_⟩:=T.x_ex
  have hx_NoColumn : ExT K mg s_init "NoColumn" "ShardError.__init__" (ad .col) S:=hex .col
  refine ⟨_,(vss_cons (vs_for PassesOwn.leaving rfl (vi_tup (vv 0)) (vg_name (i:=2) sc_kind_in.nd rfl (by first | exact Or.inl rfl | exact Or.inr rfl)) (vss_one (vs_if (vt_cmpR op_eq (ve_ix (ix_tupK (K:=K)) (vv 2) ve_int (fun _ _=>rfl)) (vv 1) (nomark _)) (vss_one (vs_ret (ve_ix (ix_tupK (K:=K)) (vv 2) ve_int (fun _ _=>rfl)))) vss_nil))) (vss_one (vs_raise hx_NoColumn (fun fI fd F=>init_ok (k:=0) F sc_init (hinit T fI)) (hr.mono (by decide)) raises_cx rfl (by rfl) (va_c ve_non va_nil)))),?_⟩
  refine ⟨_,rfl,a,rfl,⟨_,ha⟩,for_tup (xs:=us) (fun i σ H'=>H' = H∧(∀ (j : Nat) (c : Str × Str),j < i→hd[j]? = some c→c.1 ≠ n)∧∃ l,σ = [some (.ref a),some (.str n),l]) ⟨rfl,fun j c hj=>absurd hj (Nat.not_lt_zero _),_,rfl⟩ (fun i σ H' _ ⟨e,_⟩=>by rw [e]; exact ha) ?_ ?_⟩
  · rintro i x σ H' hx ⟨rfl,hi,l,rfl⟩
    obtain ⟨c,hc,p,rfl,hp⟩:=all2_at hu hx
    refine ⟨_,rfl,p,_,0,_,rfl,rfl,hp,at0 _ _,_,rfl,rfl,_,rfl,?_⟩
    by_cases e : c.1 = n
    · have el : lookE hd n = .ok c.2:=by unfold lookE; rw [look_first hc e hi]
      rw [el] at q
      rw [decide_eq_true (by rw [e])]
      exact iteT ⟨_,rfl,p,_,1,_,rfl,rfl,hp,at1 _ _ _,q⟩
    · rw [decide_eq_false (by intro z; exact e (V.str.inj z))]
      refine iteF ⟨rfl,fun j c' hj hc'=>?_,_,rfl⟩
      by_cases ej : j = i
      · subst ej
        rw [hc] at hc'; cases hc'
        exact e
      · exact hi j c' (by omega) hc'
  · rintro σ H' ⟨rfl,hi,_⟩
    have el : lookE hd n = .error .col:=by
      unfold lookE
      rw [look_none fun j c hc=>hi j c (by rw [hu.len]; exact (List.getElem?_eq_some_iff.mp hc).1) hc]
    rw [el] at q
    exact rf_raise (D:={ nx:=fun _ _=>True,rt:=Q }) (σ:=[]) hx_NoColumn rfl (Same.refl _) q
def likeE (ks js : List Str) : Except Cls Unit:=if ks = js then .ok () else .error .kind
def sp_like (K : PySem.W.Frag) (mg : Str→Option Value) : Sp:=fun vs H Q E=>∃ (a b : Addr) (ks js : List Str),vs = [.ref a,.ref b]∧SqL K H a (ks.map V.str)∧SqL K H b (js.map V.str)∧ks.length = js.length∧Out mg (likeE ks js) H E fun _=>Q .non H
theorem ok_need_like_kinds (T : Txt w K mg) : OkX P w K mg base 3 "need_like_kinds" ["kinds","others"] (sp_like K mg):=by
  refine OkX.ofV T.d_need_like_kinds sc_need_like_kinds (fun vs H Q E h=>?_) (fun f cdv A outer s H vs Q E hr h=>?_)
  · obtain ⟨a,b,ks,js,rfl,_⟩:=h; rfl
  obtain ⟨a,b,ks,js,rfl,ha,hb,hl,q⟩:=h
  obtain ⟨S,ad,mS,hS,hex,_⟩:=T.x_ex
  have hx_NoKind : ExT K mg s_init "NoKind" "ShardError.__init__" (ad .kind) S:=hex .kind
  have hu:=hu_of hr
  refine ⟨_,(vss_one (vs_if (vt_cmpR (op_neTx (Nat.lt_of_succ_lt hu)) (vv 0) (vv 1) (nomark _)) (vss_one (vs_raise hx_NoKind (fun fI fd F=>init_ok (k:=0) F sc_init (hinit T fI)) (hr.mono (by decide)) raises_cx rfl (by rfl) (va_c ve_non va_nil))) vss_nil)),⟨_,rfl,_,rfl,a,b,ks,js,rfl,rfl,ha,hb,hl,_,rfl,?_⟩⟩
  unfold likeE at q
  by_cases e : ks = js
  · rw [if_pos e] at q
    rw [decide_eq_true e]
    exact iteF q
  · rw [if_neg e] at q
    rw [decide_eq_false e]
    exact iteT (rf_raise hx_NoKind rfl (Same.refl _) q)
def unlE (ss : List Str) : Except Cls Unit:=if ss.Nodup then .ok () else .error .twice
def sp_nun (K : PySem.W.Frag) (mg : Str→Option Value) : Sp:=fun vs H Q E=>∃ (a : Addr) (ss : List Str),vs = [.ref a]∧SqL K H a (ss.map V.str)∧ss.length ≤ 1000∧Out mg (unlE ss) H E fun _=>∀ H',Same H H'→Q .non H'
theorem ok_need_unlike (T : Txt w K mg) (G_are_unlike : Ok P w K mg base 1 "are_unlike" ["names"] (sp_unlike K)) : OkX P w K mg base 3 "need_unlike" ["names"] (sp_nun K mg):=by
  refine OkX.ofV T.d_need_unlike sc_need_unlike (fun vs H Q E h=>?_) (fun f cdv A outer s H vs Q E hr h=>?_)
  · obtain ⟨a,ss,rfl,_⟩:=h; rfl
  obtain ⟨a,ss,rfl,ha,hl,q⟩:=h
  obtain ⟨S,ad,mS,hS,hex,_⟩:=T.x_ex
  have hx_Twice : ExT K mg s_init "Twice" "ShardError.__init__" (ad .twice) S:=hex .twice
  refine ⟨_,(vss_one (vs_if (vt_not (vt_val (ve_fn (G_are_unlike.mono (by decide)) hr (by rfl) (va_c (vv 0) va_nil)))) (vss_one (vs_raise hx_Twice (fun fI fd F=>init_ok (k:=0) F sc_init (hinit T fI)) (hr.mono (by decide)) raises_cx rfl (by rfl) (va_c ve_non va_nil))) vss_nil)),?_⟩
  refine ⟨_,rfl,a,ss,rfl,ha,hl,fun H1 s1=>⟨_,rfl,?_⟩⟩
  unfold unlE at q
  by_cases nd : ss.Nodup
  · rw [if_pos nd] at q
    rw [decide_eq_true ((metS_eq ss).mpr nd)]
    exact iteF (q H1 s1)
  · rw [if_neg nd] at q
    rw [decide_eq_false fun z=>nd ((metS_eq ss).mp z)]
    exact iteT (rf_raise hx_Twice rfl s1 q)
def tabE (o : Option V) : Except Cls V:=match o with
  | some v=>.ok v
  | none=>.error .tab
def sp_th (mg : Str→Option Value) : Sp:=fun vs H Q E=>∃ d n kvs,vs = [.ref d,.str n]∧H d = some (.dK kvs)∧Out mg (tabE (valV kvs (Sum.inr n))) H E fun v=>Q v H
theorem ok_table_head (T : Txt w K mg) : OkX P w K mg base 3 "table_head" ["heads","name"] (sp_th mg):=by
  refine OkX.ofV T.d_table_head sc_table_head (fun vs H Q E h=>?_) (fun f cdv A outer s H vs Q E hr h=>?_)
  · obtain ⟨d,n,kvs,rfl,_⟩:=h; rfl
  obtain ⟨d,n,kvs,rfl,hd,q⟩:=h
  obtain ⟨S,ad,mS,hS,hex,_⟩:=T.x_ex
  have hx_NoTable : ExT K mg s_init "NoTable" "ShardError.__init__" (ad .tab) S:=hex .tab
  have hu:=hu_of hr
  refine ⟨_,(vss_cons (vs_if (vt_dnotin hu (vv 1) (vv 0)) (vss_one (vs_raise hx_NoTable (fun fI fd F=>init_ok (k:=0) F sc_init (hinit T fI)) (hr.mono (by decide)) raises_cx rfl (by rfl) (va_c ve_non va_nil))) vss_nil) (vss_one (vs_ret (ve_dget hu (vv 0) (vv 1) (fun _ _=>rfl))))),?_⟩
  have g:=DGet.k (k:=Sum.inr n) hd
  cases e : valV kvs (Sum.inr n) with
  | some v =>
    rw [e] at g q
    exact ⟨_,rfl,_,rfl,d,_,rfl,g,_,rfl,iteF ⟨_,rfl,_,rfl,d,v,rfl,g,q⟩⟩
  | none =>
    rw [e] at g q
    exact ⟨_,rfl,_,rfl,d,_,rfl,g,_,rfl,iteT (rf_raise hx_NoTable rfl (Same.refl _) q)⟩
def kindS (v : V) : Str:=if whole v then "number" else "word"
def othE (hd : Hdr) : Oth→Except Cls Str
  | .val x=>.ok (kindS x)
  | .col d=>lookE hd d
def sp_oth (K : PySem.W.Frag) (mg : Str→Option Value) : Sp:=fun vs H Q E=>∃ vh u hd o,vs = [vh,u]∧IsHd K H vh hd∧IsO K H u o∧Out mg (othE hd o) H E fun k=>Q (.str k) H
theorem ok_other_kind (T : Txt w K mg) (G_kind_of : Ok P w K mg base 2 "kind_of" ["value"] (sp_kind K)) (GX_kind_in : OkX P w K mg base 3 "kind_in" ["head","name"] (sp_kin K mg)) : OkX P w K mg base 4 "other_kind" ["head","other"] (sp_oth K mg):=by
  refine OkX.ofV T.d_other_kind sc_other_kind (fun vs H Q E h=>?_) (fun f cdv A outer s H vs Q E hr h=>?_)
  · obtain ⟨vh,u,hd,o,rfl,_⟩:=h; rfl
  obtain ⟨vh,u,hd,o,rfl,hh,ho,q⟩:=h
  refine ⟨_,(vss_one (vs_ret (ve_ifExp (vt_cmpR op_eq (ve_ix ix_tup (vv 1) ve_int (fun _ _=>rfl)) ve_str (nomark _)) (ve_fn (G_kind_of.mono (by decide)) hr (by rfl) (va_c (ve_ix ix_tup (vv 1) ve_int (fun _ _=>rfl)) va_nil)) (ve_callX (GX_kind_in.mono (by decide)) hr thr_cx (by rfl) (va_c (vv 0) (va_c (ve_ix ix_tup (vv 1) ve_int (fun _ _=>rfl)) va_nil)))))),?_⟩
  cases o with
  | val x =>
    obtain ⟨a,rfl,ha,hx,_⟩:=ho
    exact ⟨_,rfl,a,_,0,_,rfl,rfl,ha,at0 _ _,rfl,_,rfl,iteT ⟨_,rfl,a,_,1,_,rfl,rfl,ha,at1 _ _ _,x,rfl,hx,q⟩⟩
  | col d =>
    obtain ⟨a,rfl,ha,_⟩:=ho
    exact ⟨_,rfl,a,_,0,_,rfl,rfl,ha,at0 _ _,rfl,_,rfl,iteF ⟨_,rfl,_,rfl,a,_,1,_,rfl,rfl,ha,at1 _ _ _,_,_,hd,rfl,hh,q⟩⟩
end
end My
set_option Elab.async false
set_option linter.all false
set_option maxRecDepth 100000
namespace My
open PySem PySem.Spec PyProof.Rows L2
set_option maxHeartbeats 400000
section
variable {P : Program} {w : World} {K : PySem.W.Frag} {mg : Str→Option Value} {base : Heap}
theorem map_at {α : Type} {f : α→V} {xs : List α} {i : Nat} {y : V} (h : (xs.map f)[i]? = some y) : ∃ x,xs[i]? = some x∧y = f x:=by
  rw [List.getElem?_map] at h
  cases e : xs[i]? with
  | none=>rw [e] at h; cases h
  | some x=>rw [e] at h; cases h; exact ⟨x,rfl,rfl⟩
def bnd {α β : Type} (r : Except Cls α) (f : α→Except Cls β) : Except Cls β:=match r with
  | .ok a=>f a
  | .error c=>.error c
theorem out_bnd {α β : Type} {r : Except Cls α} {f : α→Except Cls β} {H : Hp} {E : XK} {k : β→Prop} (h : Out mg (bnd r f) H E k) : Out mg r H E fun a=>Out mg (f a) H E k:=by
  cases r <;> exact h
def whereE (hd : Hdr) (ts : List Tst) : Except Cls Unit:=bnd (mapE (fun t : Tst=>lookE hd t.c) ts) fun ks=>bnd (mapE (fun t : Tst=>othE hd t.o) ts) fun js=>likeE ks js
def sp_wh (K : PySem.W.Frag) (mg : Str→Option Value) : Sp:=fun vs H Q E=>∃ vh u hd ts,vs = [vh,u]∧IsHd K H vh hd∧TupR K H (IsT K H) u ts∧ts.length ≤ 8∧Out mg (whereE hd ts) H E fun _=>∀ H',Same H H'→Q vh H'
theorem ok_where_head (T : Txt w K mg) (GX_need_like_kinds : OkX P w K mg base 3 "need_like_kinds" ["kinds","others"] (sp_like K mg)) (GX_kind_in : OkX P w K mg base 3 "kind_in" ["head","name"] (sp_kin K mg)) (GX_other_kind : OkX P w K mg base 4 "other_kind" ["head","other"] (sp_oth K mg)) :
    OkX P w K mg base 5 "where_head" ["head","tests"] (sp_wh K mg):=by
  refine OkX.ofV T.d_where_head sc_where_head (fun vs H Q E h=>?_) (fun f cdv A outer s H vs Q E hr h=>?_)
  · obtain ⟨vh,u,hd,ts,rfl,_⟩:=h; rfl
  obtain ⟨vh,u,hd,ts,rfl,hh,⟨a,us,rfl,ha,hu⟩,hl8,q⟩:=h
  refine ⟨_,(vss_cons (vs_expr (ve_callX (GX_need_like_kinds.mono (by decide)) hr thr_cx (by rfl) (va_c (ve_compX (N:=["test","head"]) rfl rfl thr_cx ⟨by decide +kernel,rfl,by decide +kernel,by decide +kernel⟩ (hfr_of (defScope s_where_head) rfl (by decide +kernel)) rfl (vi_tup (vv 1)) (fun cl s' H' fp=>⟨(vg_name (i:=0) (show (["test","head"] : List Str).Nodup from by decide +kernel) rfl (Or.inl rfl)),vf_nil,(ve_callX (GX_kind_in.mono (by decide)) hr thr_CX (by rfl) (va_c (vv 1) (va_c (ve_ix (ix_tupK (K:=K)) (vv 0) ve_int (fun _ _=>rfl)) va_nil)))⟩)) (va_c (ve_compX (N:=["test","head"]) rfl rfl thr_cx ⟨by decide +kernel,rfl,by decide +kernel,by decide +kernel⟩ (hfr_of (defScope s_where_head) rfl (by decide +kernel)) rfl (vi_tup (vv 1)) (fun cl s' H' fp=>⟨(vg_name (i:=0) (show (["test","head"] : List Str).Nodup from by decide +kernel) rfl (Or.inl rfl)),vf_nil,(ve_callX (GX_other_kind.mono (by decide)) hr thr_CX (by rfl) (va_c (vv 1) (va_c (ve_ix (ix_tupK (K:=K)) (vv 0) ve_int (fun _ _=>rfl)) va_nil)))⟩)) va_nil)))) (vss_one (vs_ret (vv 0)))),?_⟩
  have l1:=hu.len
  dsimp only [tSeq,tDrop,tCall,tCons]
  refine comp_strE us ts (fun t : Tst=>lookE hd t.c) l1 [none,some vh] ?_ (small (by omega)) (fun R r=>wi_tup ha (fun R' r'=>⟨_,rfl,r'⟩) R r) (fun i u t eu et H' R l sm o=>?_) rfl ((out_bnd q).imp (Same.refl _) fun ks eks h D1 H1 s1 g1=>?_)
  · exact cap_at1 0 (by decide +kernel) rfl rfl (by first | exact Or.inl rfl | exact Or.inr (Or.inl rfl) | exact Or.inr (Or.inr rfl))
  · obtain ⟨p,w',rfl,hp,_,_,ho⟩:=all2_get hu eu et
    exact ⟨_,rfl,_,rfl,p,_,0,_,rfl,rfl,sm.seqT hp,at0 _ _,_,_,hd,rfl,hh.same sm,o⟩
  refine comp_strE us ts (fun t : Tst=>othE hd t.o) l1 [none,some vh] ?_ (small (by omega)) (fun R r=>wi_tup (s1.seqT ha) (fun R' r'=>⟨_,rfl,r'⟩) R r) (fun i u t eu et H' R l sm o=>?_) rfl ((out_bnd h).imp s1 fun js ejs h2 D2 H2 s2 g2=>?_)
  · exact cap_at1 0 (by decide +kernel) rfl rfl (by first | exact Or.inl rfl | exact Or.inr (Or.inl rfl) | exact Or.inr (Or.inr rfl))
  · obtain ⟨p,w',rfl,hp,_,_,ho⟩:=all2_get hu eu et
    exact ⟨_,rfl,_,rfl,p,_,2,_,rfl,rfl,sm.seqT (s1.seqT hp),at2 _ _ _ _,_,_,hd,t.o,rfl,hh.same (s1.trans sm),ho.same (s1.trans sm),o⟩
  have lk:=(mapE_ok eks).len
  have lj:=(mapE_ok ejs).len
  exact ⟨D1,D2,ks,js,rfl,SqL.of (s2 _ _ g1),SqL.of g2,by omega,h2.imp (s1.trans s2) fun _ _ h3=>⟨_,rfl,h3 H2 (s1.trans s2)⟩⟩
def NmsAt (K : PySem.W.Frag) (H : Hp) (v : V) (ns : List Str) : Prop:=∃ a,v = .ref a∧(SqL K H a (ns.map V.str) ∨ SqT K H a (ns.map V.str))
theorem nms_of {lo hi : Nat} {H : Hp} {v : V} {ns : List Str} (h : TupS NameS lo hi K H v ns) : NmsAt K H v ns:=by
  obtain ⟨⟨a,us,rfl,ha,hr⟩,_⟩:=h
  rw [isn_map hr] at ha
  exact ⟨a,rfl,.inr ha⟩
theorem wi_seq {K : PySem.W.Frag} {a : Addr} {xs : List V} {tl : TE} {σ : L2.St} {H : Hp} (hS : SqL K H a xs ∨ SqT K H a xs) (h : ∀ R : VK,R (.ref a) H→tl σ H R) (R : It→Hp→Prop)
    (q : ∀ J : It,(∀ H' i x,Same H H'→xs[i]? = some x→J.go i H'∧∀ y H2,J.yld i H' y H2→H2 = H'∧y = x)→(∀ H',Same H H'→J.stop xs.length H')→R J H) : iList K tl σ H R ∨ iTup K tl σ H R:=by
  rcases hS with hS | hS
  · exact .inl (wi_list (fun H' sm=>sm.seq hS) h R q)
  · exact .inr (wi_tup hS h R q)
def NewC (c : Str × Str) (H : Hp) (y : V) : Prop:=∃ p,y = .ref p∧H p = some (.tup [.str c.1,.str c.2])
theorem NewC.st {c : Str × Str} {H1 H2 : Hp} {y : V} (e : Same H1 H2) (h : NewC c H1 y) : NewC c H2 y:=by
  obtain ⟨p,h2,h3⟩:=h
  exact ⟨p,h2,e _ _ h3⟩
theorem NewC.su {c : Str × Str} {H1 : Hp} {D : Addr} {ys zs : List V} {y : V} (hD : H1 D = some (.lst ys)) (h : NewC c H1 y) : NewC c (upd H1 D (.lst zs)) y:=by
  obtain ⟨p,h2,h3⟩:=h
  exact ⟨p,h2,by rw [upd_ne (ne_of h3 hD (by intro z; cases z))]; exact h3⟩
theorem new_hd {cs : Hdr} {H H' : Hp} {a : Addr} {ys : List V} (ha : SqT K H' a ys) (s : Same H H') (h : All2 (fun y c=>NewC c H y) ys cs) : IsHd K H' (.ref a) cs :=
  ⟨a,ys,rfl,ha,h.imp fun y c ⟨p,e,g⟩=>⟨p,e,SqT.of (s _ _ g)⟩⟩
def ColRel (K : PySem.W.Frag) (cs : Hdr) : Nat→Hp→V→Prop:=fun i H y=>∃ c p,cs[i]? = some c∧y = .ref p∧H p = some (.tup [.str c.1,.str c.2])
theorem ColRel.st {cs : Hdr} {i : Nat} {H1 H2 : Hp} {y : V} (e : Same H1 H2) (h : ColRel K cs i H1 y) : ColRel K cs i H2 y:=by
  obtain ⟨c,p,h1,h2,h3⟩:=h
  exact ⟨c,p,h1,h2,e _ _ h3⟩
theorem ColRel.su {cs : Hdr} {i : Nat} {H1 : Hp} {D : Addr} {ys zs : List V} {y : V} (hD : H1 D = some (.lst ys)) (h : ColRel K cs i H1 y) : ColRel K cs i (upd H1 D (.lst zs)) y:=by
  obtain ⟨c,p,h1,h2,h3⟩:=h
  exact ⟨c,p,h1,h2,by rw [upd_ne (ne_of h3 hD (by intro z; cases z))]; exact h3⟩
theorem cols_hd {cs : Hdr} {H : Hp} {a : Addr} {ys : List V} (ha : SqT K H a ys) (hl : ys.length = cs.length) (h : ∀ (i : Nat) (y : V),ys[i]? = some y→ColRel K cs i H y) : IsHd K H (.ref a) cs:=by
  refine ⟨a,ys,rfl,ha,all2_of hl fun i y c e1 e2=>?_⟩
  obtain ⟨c',p,h1,h2,h3⟩:=h i y e1
  rw [e2] at h1
  cases h1
  exact ⟨p,h2,SqT.of h3⟩
def keepE (hd : Hdr) (ns : List Str) : Except Cls Hdr:=mapE (fun n=>bnd (lookE hd n) fun k=>.ok (n,k)) ns
def sp_kp (K : PySem.W.Frag) (mg : Str→Option Value) : Sp:=fun vs H Q E=>∃ vh u hd ns,vs = [vh,u]∧IsHd K H vh hd∧NmsAt K H u ns∧ns.length ≤ 1000∧Out mg (keepE hd ns) H E fun cs=>∀ v H',Same H H'→IsHd K H' v cs→Q v H'
theorem ok_keep_head (T : Txt w K mg) (GX_kind_in : OkX P w K mg base 3 "kind_in" ["head","name"] (sp_kin K mg)) : OkX P w K mg base 4 "keep_head" ["head","names"] (sp_kp K mg):=by
  refine OkX.ofV T.d_keep_head sc_keep_head (fun vs H Q E h=>?_) (fun f cdv A outer s H vs Q E hr h=>?_)
  · obtain ⟨vh,u,hd,ns,rfl,_⟩:=h; rfl
  obtain ⟨vh,u,hd,ns,rfl,hh,⟨a,rfl,ha⟩,hl,q⟩:=h
  refine ⟨_,(vss_one (vs_ret (ve_callTy call_tupleA (by rfl) T.n_tuple bt_tuple (va_c (ve_compX (N:=["name","head"]) rfl rfl thr_cx ⟨by decide +kernel,rfl,by decide +kernel,by decide +kernel⟩ (hfr_of (defScope s_keep_head) rfl (by decide +kernel)) rfl (vi_seq (vv 1)) (fun cl s' H' fp=>⟨(vg_name (i:=0) (show (["name","head"] : List Str).Nodup from by decide +kernel) rfl (Or.inl rfl)),vf_nil,(ve_tupA (va_c (vv 0) (va_c (ve_callX (GX_kind_in.mono (by decide)) hr thr_CX (by rfl) (va_c (vv 1) (va_c (vv 0) va_nil))) va_nil)))⟩)) va_nil)))),?_⟩
  dsimp only [tRet,tCB,tCons]
  refine comp_mapE (ns.map V.str) ns (fun n=>bnd (lookE hd n) fun k=>.ok (n,k)) NewC (List.length_map ..) NewC.st NewC.su [none,some vh] ?_ (small (by rw [List.length_map]; exact hl)) (fun R r=>wi_seq ha (fun R' r'=>⟨_,rfl,r'⟩) R r) (fun i x n ex en H' R l sm o=>?_) rfl (Out.imp q (Same.refl _) fun cs _ h D H' ys sm hD h2=>?_)
  · exact cap_at1 0 (by decide +kernel) rfl rfl (by first | exact Or.inl rfl | exact Or.inr (Or.inl rfl) | exact Or.inr (Or.inr rfl))
  · obtain ⟨n',hn,rfl⟩:=map_at ex
    rw [en] at hn; cases hn
    exact ⟨_,rfl,_,rfl,_,rfl,_,_,hd,rfl,hh.same sm,(out_bnd o).imp (Same.refl _) fun k _ h=>⟨(by show 2 ≤ sizeLine; decide),fun p H2 _ s2 g2=>h _ _ s2 ⟨p,rfl,g2⟩⟩⟩
  · exact ⟨D,_,rfl,SqL.of hD,fun t H2 _ s2 g2=>h _ _ (sm.trans s2) (new_hd (SqT.of g2) s2 h2)⟩
def namedE (hd : Hdr) (ns : List Str) : Except Cls Hdr:=if ns.length = hd.length then .ok (List.zipWith (fun n c=>(n,c.2)) ns hd) else .error .col
def sp_nmh (K : PySem.W.Frag) (mg : Str→Option Value) : Sp:=fun vs H Q E=>∃ vh u hd ns,vs = [vh,u]∧IsHd K H vh hd∧(∃ a,u = .ref a∧SqT K H a (ns.map V.str))∧ns.length ≤ 1000∧Out mg (namedE hd ns) H E fun cs=>∀ v H',Same H H'→IsHd K H' v cs→Q v H'
theorem ok_named_head (T : Txt w K mg) : OkX P w K mg base 3 "named_head" ["head","names"] (sp_nmh K mg):=by
  refine OkX.ofV T.d_named_head sc_named_head (fun vs H Q E h=>?_) (fun f cdv A outer s H vs Q E hr h=>?_)
  · obtain ⟨vh,u,hd,ns,rfl,_⟩:=h; rfl
  obtain ⟨vh,u,hd,ns,rfl,⟨b,us,rfl,hb,hu⟩,⟨a,rfl,ha⟩,hl,q⟩:=h
  obtain ⟨S,ad,mS,hS,hex,_⟩:=T.x_ex
  have hx_NoColumn : ExT K mg s_init "NoColumn" "ShardError.__init__" (ad .col) S:=hex .col
  refine ⟨_,(vss_cons (vs_if (vt_cmpR op_ne (ve_callB call_len_seq (by rfl) T.n_len bf_len (va_c (vv 1) va_nil)) (ve_callB call_len_seq (by rfl) T.n_len bf_len (va_c (vv 0) va_nil)) (nomark _)) (vss_one (vs_raise hx_NoColumn (fun fI fd F=>init_ok (k:=0) F sc_init (hinit T fI)) (hr.mono (by decide)) raises_cx rfl (by rfl) (va_c ve_non va_nil))) vss_nil) (vss_one (vs_ret (ve_callTy call_tupleA (by rfl) T.n_tuple bt_tuple (va_c (ve_comp (N:=["name","column"]) ⟨by decide +kernel,rfl,by decide +kernel,by decide +kernel⟩ (hfr_none (by decide +kernel)) rfl (vi_zipT (by rfl) T.n_zip (va_c (vv 1) (va_c (vv 0) va_nil))) (fun cl s' H' fp=>⟨(vg_tupK (K:=K) (n:=2) rfl (vgs_cons (vg_name (i:=0) (show (["name","column"] : List Str).Nodup from by decide +kernel) rfl (Or.inl rfl)) (vgs_cons (vg_name (i:=1) (show (["name","column"] : List Str).Nodup from by decide +kernel) rfl (Or.inl rfl)) vgs_nil))),vf_nil,(ve_tupA (va_c (vv 0) (va_c (ve_ix (ix_tupK (K:=K)) (vv 1) ve_int (fun _ _=>rfl)) va_nil)))⟩)) va_nil))))),?_⟩
  have hlu:=hu.len
  refine ⟨_,rfl,_,_,rfl,.inr ha,_,rfl,_,_,rfl,.inr hb,rfl,_,rfl,?_⟩
  unfold namedE at q
  by_cases hle : ns.length = hd.length
  · rw [if_pos hle] at q
    have e : (!decide (V.int ((ns.map V.str).length : Nat) = V.int (us.length : Nat))) = false:=by rw [List.length_map,hle,hlu]; simp
    rw [e]
    refine iteF ?_
    dsimp only [tNext,tRet,tCB,tCons]
    refine comp_zipI (ns.map V.str) us (ColRel K (List.zipWith (fun n c=>(n,c.2)) ns hd)) ColRel.st ColRel.su [none,none] cap_none2 (small (by rw [List.length_map]; exact hl)) (by rw [List.length_map]; omega) (fun R r=>⟨_,rfl,_,rfl,r a b H (Same.refl H) ha hb⟩) (fun i x y ex ey H' R l1 l2 sm r=>?_) rfl rfl fun D H' zs sm hD hlz hR=>?_
    · obtain ⟨n,hn,rfl⟩:=map_at ex
      obtain ⟨c,hc,p,rfl,hp⟩:=all2_at hu ey
      refine ⟨_,rfl,_,rfl,p,_,1,_,rfl,rfl,sm.seqT hp,at1 _ _ _,(by show 2 ≤ sizeLine; decide),fun t H2 _ s2 g2=>r _ _ s2 ⟨(n,c.2),t,?_,rfl,g2⟩⟩
      rw [List.getElem?_zipWith,hn,hc]
    · refine ⟨D,_,rfl,SqL.of hD,fun t H2 _ s2 g2=>q _ _ (sm.trans s2) (cols_hd (SqT.of g2) ?_ fun i y e=>(hR i y e).st s2)⟩
      rw [hlz,List.length_map,List.length_zipWith]
      omega
  · rw [if_neg hle] at q
    have e : (!decide (V.int ((ns.map V.str).length : Nat) = V.int (us.length : Nat))) = true:=by
      rw [List.length_map,decide_eq_false]
      · rfl
      · intro z
        injection z with z
        omega
    rw [e]
    exact iteT (rf_raise (D:={ nx:=fun _ _=>True,rt:=Q }) (σ:=[]) hx_NoColumn rfl (Same.refl _) q)
theorem inV_map {n : Str} {ss : List Str} : inV (.str n) (ss.map V.str) = decide (n ∈ ss):=by
  unfold inV
  rw [Bool.eq_iff_iff,List.any_eq_true,decide_eq_true_eq]
  constructor
  · rintro ⟨v,hv,e⟩
    obtain ⟨z,hz,rfl⟩:=List.mem_map.mp hv
    have e2 : (z == n) = true:=e
    have e3 : z = n:=by simpa using e2
    rw [← e3]; exact hz
  · intro h
    refine ⟨.str n,List.mem_map.mpr ⟨n,h,rfl⟩,?_⟩
    show (n == n) = true
    simp
theorem flat_map {ss : List Str} : (ss.map V.str).all flatV = true:=by
  rw [List.all_eq_true]
  intro v hv
  obtain ⟨z,_,rfl⟩:=List.mem_map.mp hv
  rfl
theorem sel_filter {α : Type} {p : Nat→Bool} {p' : α→Bool} : ∀ {k : Nat} {xs : List α},(∀ (i : Nat) (x : α),xs[i]? = some x→p (k + i) = p' x)→sel p k xs = xs.filter p'
  | _,[],_=>rfl
  | k,x :: r,h=>by
    have h0:=h 0 x rfl
    rw [Nat.add_zero] at h0
    show (if p k then x :: sel p (k + 1) r else sel p (k + 1) r) = _
    rw [List.filter_cons,h0,sel_filter (k:=k + 1) (xs:=r) fun i y e=>by rw [show k + 1 + i = k + (i + 1) by omega]; exact h (i + 1) y (by simpa using e)]
theorem all2_sel {α β : Type} {R : α→β→Prop} {p : Nat→Bool} {as : List α} {bs : List β} (h : All2 R as bs) : ∀ k,All2 R (sel p k as) (sel p k bs):=by
  induction h with
  | nil=>exact fun _=>.nil
  | @cons a b as bs r _ ih =>
    intro k
    show All2 R (if p k then a :: sel p (k + 1) as else sel p (k + 1) as) (if p k then b :: sel p (k + 1) bs else sel p (k + 1) bs)
    split
    · exact .cons r (ih _)
    · exact ih _
def leftP (ho : Hdr) (ss : List Str) (i : Nat) : Bool:=match ho[i]? with
  | some c=>!decide (c.1 ∈ ss)
  | none=>false
def joinE (hd ho : Hdr) (ps : List (Str × Str)) : Except Cls Hdr:=bnd (mapE (lookE hd) (ps.map (·.1))) fun ks=>bnd (mapE (lookE ho) (ps.map (·.2))) fun js=>bnd (likeE ks js) fun _=>bnd (unlE (ps.map (·.1))) fun _=>bnd (unlE (ps.map (·.2))) fun _=>.ok (hd ++ ho.filter fun c=>!decide (c.1 ∈ ps.map (·.2)))
def sp_jn (K : PySem.W.Frag) (mg : Str→Option Value) : Sp:=fun vs H Q E=>∃ vh vo u hd ho ps,vs = [vh,vo,u]∧IsHd K H vh hd∧IsHd K H vo ho∧TupR K H (IsPr K H) u ps∧ps.length ≤ 8∧hd.length ≤ 100∧ho.length ≤ 100 ∧
  Out mg (joinE hd ho ps) H E fun cs=>∀ v H',Same H H'→IsHd K H' v cs→Q v H'
theorem ok_join_head (T : Txt w K mg) (GX_need_like_kinds : OkX P w K mg base 3 "need_like_kinds" ["kinds","others"] (sp_like K mg)) (GX_kind_in : OkX P w K mg base 3 "kind_in" ["head","name"] (sp_kin K mg)) (GX_need_unlike : OkX P w K mg base 3 "need_unlike" ["names"] (sp_nun K mg)) :
    OkX P w K mg base 4 "join_head" ["head","other","pairs"] (sp_jn K mg):=by
  refine OkX.ofV T.d_join_head sc_join_head (fun vs H Q E h=>?_) (fun f cdv A outer s H vs Q E hr h=>?_)
  · obtain ⟨vh,vo,u,hd,ho,ps,rfl,_⟩:=h; rfl
  obtain ⟨vh,vo,u,hd,ho,ps,rfl,hh,hho,⟨a,us,rfl,ha,hu⟩,hl8,hl1,hl2,q⟩:=h
  refine ⟨_,(vss_cons (vs_setC (i0:=3) sc_join_head.nd rfl (by first | exact Or.inl rfl | exact Or.inr rfl) (N:=["pair"]) ⟨by decide +kernel,rfl,by decide +kernel,by decide +kernel⟩ (hfr_none (by decide +kernel)) rfl (vi_tup (vv 2)) (fun cl s' H' fp=>⟨(vg_name (i:=0) (show (["pair"] : List Str).Nodup from by decide +kernel) rfl (Or.inl rfl)),vf_nil,(ve_ix (ix_tupK (K:=K)) (vv 0) ve_int (fun _ _=>rfl))⟩)) (vss_cons (vs_set (i:=4) sc_join_head.nd rfl (by first | exact Or.inl rfl | exact Or.inr rfl) (ve_comp (N:=["pair"]) ⟨by decide +kernel,rfl,by decide +kernel,by decide +kernel⟩ (hfr_none (by decide +kernel)) rfl (vi_tup (vv 2)) (fun cl s' H' fp=>⟨(vg_name (i:=0) (show (["pair"] : List Str).Nodup from by decide +kernel) rfl (Or.inl rfl)),vf_nil,(ve_ix (ix_tupK (K:=K)) (vv 0) ve_int (fun _ _=>rfl))⟩))) (vss_cons (vs_expr (ve_callX (GX_need_like_kinds.mono (by decide)) hr thr_cx (by rfl) (va_c (ve_compX (N:=["name","head"]) rfl rfl thr_cx ⟨by decide +kernel,rfl,by decide +kernel,by decide +kernel⟩ (hfr_of (defScope s_join_head) rfl (by decide +kernel)) rfl (vi_list (vv 3)) (fun cl s' H' fp=>⟨(vg_name (i:=0) (show (["name","head"] : List Str).Nodup from by decide +kernel) rfl (Or.inl rfl)),vf_nil,(ve_callX (GX_kind_in.mono (by decide)) hr thr_CX (by rfl) (va_c (vv 1) (va_c (vv 0) va_nil)))⟩)) (va_c (ve_compX (N:=["name","other"]) rfl rfl thr_cx ⟨by decide +kernel,rfl,by decide +kernel,by decide +kernel⟩ (hfr_of (defScope s_join_head) rfl (by decide +kernel)) rfl (vi_list (vv 4)) (fun cl s' H' fp=>⟨(vg_name (i:=0) (show (["name","other"] : List Str).Nodup from by decide +kernel) rfl (Or.inl rfl)),vf_nil,(ve_callX (GX_kind_in.mono (by decide)) hr thr_CX (by rfl) (va_c (vv 1) (va_c (vv 0) va_nil)))⟩)) va_nil)))) (vss_cons (vs_expr (ve_callX (GX_need_unlike.mono (by decide)) hr thr_cx (by rfl) (va_c (vv 3) va_nil))) (vss_cons (vs_expr (ve_callX (GX_need_unlike.mono (by decide)) hr thr_cx (by rfl) (va_c (vv 4) va_nil))) (vss_one (vs_ret (ve_op op_catA (vv 0) (ve_callTy call_tupleA (by rfl) T.n_tuple bt_tuple (va_c (ve_comp (N:=["column","there"]) ⟨by decide +kernel,rfl,by decide +kernel,by decide +kernel⟩ (hfr_of (defScope s_join_head) rfl (by decide +kernel)) rfl (vi_tup (vv 1)) (fun cl s' H' fp=>⟨(vg_name (i:=0) (show (["column","there"] : List Str).Nodup from by decide +kernel) rfl (Or.inl rfl)),(vf_one (vt_cmpR (op_notIn_seqK (K:=K)) (ve_ix (ix_tupK (K:=K)) (vv 0) ve_int (fun _ _=>rfl)) (vv 1) (by with_unfolding_all rfl))),(vv 0)⟩)) va_nil)))))))))),?_⟩
  have lu:=hu.len
  dsimp only [tSeq,tAsg]
  refine comp_ix us ((ps.map (·.1)).map V.str) (by rw [List.length_map,List.length_map]; omega) [none] cap_none1 (small (by omega)) (fun R r=>wi_tup ha (fun R' r'=>⟨_,rfl,r'⟩) R r) (fun i x y ex ey H' R l sm r=>?_) rfl fun D1 H1 s1 g1=>?_
  · obtain ⟨p,hp,b,rfl,hb,_⟩:=all2_at hu ex
    obtain ⟨n,hn,rfl⟩:=map_at ey
    rw [List.getElem?_map,hp] at hn
    cases hn
    exact ⟨_,rfl,b,_,0,_,rfl,rfl,sm.seqT hb,at0 _ _,r H' (Same.refl H')⟩
  dsimp only [gName,tSeq,tAsg]
  refine comp_ix us ((ps.map (·.2)).map V.str) (by rw [List.length_map,List.length_map]; omega) [none] cap_none1 (small (by omega)) (fun R r=>wi_tup (s1.seqT ha) (fun R' r'=>⟨_,rfl,r'⟩) R r) (fun i x y ex ey H' R l sm r=>?_) rfl fun D2 H2 s2 g2=>?_
  · obtain ⟨p,hp,b,rfl,hb,_⟩:=all2_at hu ex
    obtain ⟨n,hn,rfl⟩:=map_at ey
    rw [List.getElem?_map,hp] at hn
    cases hn
    exact ⟨_,rfl,b,_,1,_,rfl,rfl,sm.seqT (s1.seqT hb),at1 _ _ _,r H' (Same.refl H')⟩
  dsimp only [gName,tSeq,tAsg,tDrop,tCall,tCons]
  refine comp_strE ((ps.map (·.1)).map V.str) (ps.map (·.1)) (lookE hd) (List.length_map ..) [none,some vh] ?_ (small (by rw [List.length_map,List.length_map]; omega)) (fun R r=>wi_list (fun H' sm=>SqL.of (sm _ _ (s2 _ _ g1))) (fun R' r'=>⟨_,rfl,r'⟩) R r) (fun i x n ex en H' R l sm o=>?_) rfl ((out_bnd q).imp (s1.trans s2) fun ks eks h3 D3 H3 s3 g3=>?_)
  · exact cap_at1 0 (by decide +kernel) rfl rfl (by first | exact Or.inl rfl | exact Or.inr (Or.inl rfl) | exact Or.inr (Or.inr rfl))
  · obtain ⟨n',hn,rfl⟩:=map_at ex
    rw [en] at hn; cases hn
    exact ⟨_,rfl,_,rfl,_,_,hd,rfl,hh.same (s1.trans (s2.trans sm)),o⟩
  refine comp_strE ((ps.map (·.2)).map V.str) (ps.map (·.2)) (lookE ho) (List.length_map ..) [none,some vo] ?_ (small (by rw [List.length_map,List.length_map]; omega)) (fun R r=>wi_list (fun H' sm=>SqL.of (sm _ _ (s3 _ _ g2))) (fun R' r'=>⟨_,rfl,r'⟩) R r) (fun i x n ex en H' R l sm o=>?_) rfl ((out_bnd h3).imp (s1.trans (s2.trans s3)) fun js ejs h4 D4 H4 s4 g4=>?_)
  · exact cap_at1 1 (by decide +kernel) rfl rfl (by first | exact Or.inl rfl | exact Or.inr (Or.inl rfl) | exact Or.inr (Or.inr rfl))
  · obtain ⟨n',hn,rfl⟩:=map_at ex
    rw [en] at hn; cases hn
    exact ⟨_,rfl,_,rfl,_,_,ho,rfl,hho.same (s1.trans (s2.trans (s3.trans sm))),o⟩
  have lk:=(mapE_ok eks).len
  have lj:=(mapE_ok ejs).len
  rw [List.length_map] at lk lj
  have t4:=s1.trans (s2.trans (s3.trans s4))
  refine ⟨D3,D4,ks,js,rfl,SqL.of (s4 _ _ g3),SqL.of g4,by omega,(out_bnd h4).imp t4 fun _ _ h5=>?_⟩
  refine ⟨_,rfl,D1,_,rfl,SqL.of ((s2.trans (s3.trans s4)) _ _ g1),(by rw [List.length_map]; omega),(out_bnd h5).imp t4 fun _ _ h6 H5 s5=>?_⟩
  refine ⟨_,rfl,D2,_,rfl,SqL.of ((s3.trans (s4.trans s5)) _ _ g2),(by rw [List.length_map]; omega),(out_bnd h6).imp (t4.trans s5) fun _ _ h7 H6 s6=>?_⟩
  have t6:=t4.trans (s5.trans s6)
  have g6:=(s3.trans (s4.trans (s5.trans s6))) _ _ g2
  obtain ⟨b,ws,rfl,hb,hw⟩:=hho
  obtain ⟨c,zs,rfl,hc,hz⟩:=hh
  have lw:=hw.len
  have lz:=hz.len
  refine ⟨_,rfl,?_⟩
  dsimp only [tSeq,tCB,tCons]
  refine comp_sel ws (leftP ho (ps.map (·.2))) [none,some (.ref D2)] ?_ (small (by omega)) (fun R r=>wi_tup (t6.seqT hb) (fun R' r'=>⟨_,rfl,r'⟩) R r) (fun i x ex H' R l sm r=>?_) rfl fun D7 H7 s7 g7=>?_
  · exact cap_at1 4 (by decide +kernel) rfl rfl (by first | exact Or.inl rfl | exact Or.inr (Or.inl rfl) | exact Or.inr (Or.inr rfl))
  · obtain ⟨d,hd',p,rfl,hp⟩:=all2_at hw ex
    refine ⟨_,rfl,p,_,0,_,rfl,rfl,sm.seqT (t6.seqT hp),at0 _ _,_,rfl,D2,_,rfl,.inl (SqL.of (sm _ _ g6)),rfl,flat_map,_,rfl,?_⟩
    have e : leftP ho (ps.map (·.2)) i = !decide (d.1 ∈ ps.map (·.2)):=by unfold leftP; rw [hd']
    rw [inV_map]
    rw [e] at r
    exact r H' (Same.refl H')
  refine ⟨D7,_,rfl,SqL.of g7,fun t H8 _ s8 g8=>?_⟩
  have t8:=t6.trans (s7.trans s8)
  have lsel:=sel_len (leftP ho (ps.map (·.2))) 0 ws
  refine ⟨c,t,_,_,rfl,rfl,t8.seqT hc,SqT.of g8,small (by omega),fun r H9 s9 g9=>?_⟩
  refine h7 _ _ (t8.trans s9) ⟨r,_,rfl,g9,(hz.imp fun _ _ h=>h.same (t8.trans s9)).app ?_⟩
  have e : sel (leftP ho (ps.map (·.2))) 0 ho = ho.filter fun c=>!decide (c.1 ∈ ps.map (·.2)):=sel_filter fun i x ex=>by
    unfold leftP
    rw [Nat.zero_add,ex]
  rw [← e]
  exact (all2_sel hw 0).imp fun _ _ h=>h.same (t8.trans s9)
end
end My
set_option Elab.async false
set_option linter.all false
set_option maxRecDepth 100000
namespace My
open PySem PySem.Spec PyProof.Rows L2
set_option maxHeartbeats 400000
section
variable {P : Program} {w : World} {K : PySem.W.Frag} {mg : Str→Option Value} {base : Heap}
def smE (hd : Hdr) (s : Sm) : Except Cls Str:=match s.c with
  | none=>.ok "number"
  | some c=>lookE hd c
def sp_sk (K : PySem.W.Frag) (mg : Str→Option Value) : Sp:=fun vs H Q E=>∃ vh u hd s,vs = [vh,u]∧IsHd K H vh hd∧IsSm K H u s∧Out mg (smE hd s) H E fun k=>Q (.str k) H
theorem wd_ne {x : Str} (h : WdOk x) : decide (V.str x = V.str "count") = false:=by
  rcases h with rfl | rfl | rfl <;> decide +kernel
theorem ok_sum_kind (T : Txt w K mg) (GX_kind_in : OkX P w K mg base 3 "kind_in" ["head","name"] (sp_kin K mg)) : OkX P w K mg base 4 "sum_kind" ["head","part"] (sp_sk K mg):=by
  refine OkX.ofV T.d_sum_kind sc_sum_kind (fun vs H Q E h=>?_) (fun f cdv A outer s H vs Q E hr h=>?_)
  · obtain ⟨vh,u,hd,s,rfl,_⟩:=h; rfl
  obtain ⟨vh,u,hd,sm,rfl,hh,⟨a,rfl,hn,hs⟩,q⟩:=h
  refine ⟨_,(vss_one (vs_ret (ve_ifExp (vt_cmpR op_eq (ve_ix ix_tup (vv 1) ve_int (fun _ _=>rfl)) ve_str (nomark _)) ve_str (ve_callX (GX_kind_in.mono (by decide)) hr thr_cx (by rfl) (va_c (vv 0) (va_c (ve_ix ix_tup (vv 1) ve_int (fun _ _=>rfl)) va_nil)))))),?_⟩
  unfold smE at q
  rcases hs with ⟨e,ec,ha⟩ | ⟨c,ec,hc,hw,ha⟩
  · rw [ec] at q
    exact ⟨_,rfl,a,_,0,_,rfl,rfl,ha,at0 _ _,rfl,_,rfl,iteT q⟩
  · rw [ec] at q
    refine ⟨_,rfl,a,_,0,_,rfl,rfl,ha,at0 _ _,rfl,_,rfl,?_⟩
    rw [wd_ne hw]
    exact iteF ⟨_,rfl,_,rfl,a,_,1,_,rfl,rfl,ha,at1 _ _ _,_,_,hd,rfl,hh,q⟩
theorem sm_at {H : Hp} {u : V} {s : Sm} (h : IsSm K H u s) : ∃ a x,u = .ref a∧SqT K H a [.str s.wd,x,.str s.new]:=by
  obtain ⟨a,rfl,hn,hs⟩:=h
  rcases hs with ⟨e,ec,ha⟩ | ⟨c,ec,hc,hw,ha⟩
  · exact ⟨a,_,rfl,by rw [e]; exact ha⟩
  · exact ⟨a,_,rfl,ha⟩
def badS (p : Sm × (Str × Str)) : Bool:=decide (p.1.wd = "sum") && decide (p.2.2 = "word")
def sumsE (ss : List Sm) (cs : Hdr) : Except Cls Unit:=if (ss.zip cs).any badS then .error .kind else .ok ()
def madeE (hd : Hdr) (ss : List Sm) : Except Cls Hdr:=mapE (fun s=>bnd (smE hd s) fun k=>.ok (s.new,k)) ss
def groupE (hd : Hdr) (ns : List Str) (ss : List Sm) : Except Cls Hdr:=bnd (keepE hd ns) fun kept=>bnd (madeE hd ss) fun made=>bnd (sumsE ss made) fun _=>.ok (kept ++ made)
theorem keepE_len {hd cs : Hdr} {ns : List Str} (h : keepE hd ns = .ok cs) : cs.length = ns.length:=((mapE_ok h).len).symm
theorem madeE_len {hd cs : Hdr} {ss : List Sm} (h : madeE hd ss = .ok cs) : cs.length = ss.length:=((mapE_ok h).len).symm
theorem zip_get {α β : Type} {as : List α} {bs : List β} {i : Nat} {a : α} {b : β} (h1 : as[i]? = some a) (h2 : bs[i]? = some b) : (as.zip bs)[i]? = some (a,b):=by
  rw [List.zip,List.getElem?_zipWith,h1,h2]
theorem zip_back {α β : Type} {as : List α} {bs : List β} {i : Nat} {p : α × β} (h : (as.zip bs)[i]? = some p) : as[i]? = some p.1∧bs[i]? = some p.2:=by
  rw [List.zip,List.getElem?_zipWith] at h
  cases e1 : as[i]? with
  | none=>rw [e1] at h; cases h
  | some a =>
    cases e2 : bs[i]? with
    | none=>rw [e1,e2] at h; cases h
    | some b=>rw [e1,e2] at h; cases h; exact ⟨rfl,rfl⟩
theorem sumsE_bad {ss : List Sm} {cs : Hdr} {i : Nat} {s : Sm} {c : Str × Str} (h1 : ss[i]? = some s) (h2 : cs[i]? = some c) (hs : s.wd = "sum") (hc : c.2 = "word") : sumsE ss cs = .error .kind:=by
  unfold sumsE
  rw [if_pos]
  rw [List.any_eq_true]
  refine ⟨(s,c),List.mem_of_getElem? (zip_get h1 h2),?_⟩
  unfold badS
  rw [decide_eq_true hs,decide_eq_true hc]
  rfl
theorem sumsE_good {ss : List Sm} {cs : Hdr} (h : ∀ (i : Nat) (s : Sm) (c : Str × Str),ss[i]? = some s→cs[i]? = some c→¬ (s.wd = "sum"∧c.2 = "word")) : sumsE ss cs = .ok ():=by
  unfold sumsE
  rw [if_neg]
  rw [List.any_eq_true]
  rintro ⟨p,hp,hb⟩
  obtain ⟨i,hi,e⟩:=List.getElem_of_mem hp
  obtain ⟨a,b⟩:=zip_back (p:=p) (by rw [List.getElem?_eq_getElem hi,e])
  unfold badS at hb
  rw [Bool.and_eq_true_iff] at hb
  exact h i _ _ a b ⟨of_decide_eq_true hb.1,of_decide_eq_true hb.2⟩
def sp_gr (K : PySem.W.Frag) (mg : Str→Option Value) : Sp:=fun vs H Q E=>∃ vh u x hd ns ss,vs = [vh,u,x]∧IsHd K H vh hd∧NmsAt K H u ns∧ns.length ≤ 100∧TupR K H (IsSm K H) x ss∧ss.length ≤ 100 ∧
  Out mg (groupE hd ns ss) H E fun cs=>∀ v H',Same H H'→IsHd K H' v cs→Q v H'
theorem ok_group_head (T : Txt w K mg) (GX_keep_head : OkX P w K mg base 4 "keep_head" ["head","names"] (sp_kp K mg)) (GX_sum_kind : OkX P w K mg base 4 "sum_kind" ["head","part"] (sp_sk K mg)) : OkX P w K mg base 5 "group_head" ["head","names","sums"] (sp_gr K mg):=by
  refine OkX.ofV T.d_group_head sc_group_head (fun vs H Q E h=>?_) (fun f cdv A outer s H vs Q E hr h=>?_)
  · obtain ⟨vh,u,x,hd,ns,ss,rfl,_⟩:=h; rfl
  obtain ⟨vh,u,x,hd,ns,ss,rfl,hh,hns,hl,⟨a,us,rfl,ha,hu⟩,hl2,q⟩:=h
  obtain ⟨S,ad,mS,hS,hex,_⟩:=T.x_ex
  have hx_NoKind : ExT K mg s_init "NoKind" "ShardError.__init__" (ad .kind) S:=hex .kind
  refine ⟨_,(vss_cons (vs_set (i:=3) sc_group_head.nd rfl (by first | exact Or.inl rfl | exact Or.inr rfl) (ve_callX (GX_keep_head.mono (by decide)) hr thr_cx (by rfl) (va_c (vv 0) (va_c (vv 1) va_nil)))) (vss_cons (vs_set (i:=4) sc_group_head.nd rfl (by first | exact Or.inl rfl | exact Or.inr rfl) (ve_callTy call_tupleA (by rfl) T.n_tuple bt_tuple (va_c (ve_compX (N:=["part","head"]) rfl rfl thr_cx ⟨by decide +kernel,rfl,by decide +kernel,by decide +kernel⟩ (hfr_of (defScope s_group_head) rfl (by decide +kernel)) rfl (vi_tup (vv 2)) (fun cl s' H' fp=>⟨(vg_name (i:=0) (show (["part","head"] : List Str).Nodup from by decide +kernel) rfl (Or.inl rfl)),vf_nil,(ve_tupA (va_c (ve_ix (ix_tupK (K:=K)) (vv 0) ve_int (fun _ _=>rfl)) (va_c (ve_callX (GX_sum_kind.mono (by decide)) hr thr_CX (by rfl) (va_c (vv 1) (va_c (vv 0) va_nil))) va_nil)))⟩)) va_nil))) (vss_cons (vs_for PassesOwn.leaving rfl (vi_zipT (by rfl) T.n_zip (va_c (vv 2) (va_c (vv 4) va_nil))) (vg_tup rfl (vgs_cons (vg_name (i:=5) sc_group_head.nd rfl (by first | exact Or.inl rfl | exact Or.inr rfl)) (vgs_cons (vg_name (i:=6) sc_group_head.nd rfl (by first | exact Or.inl rfl | exact Or.inr rfl)) vgs_nil))) (vss_one (vs_if (VW.pt (vw_and (vt_cmpR op_eq (ve_ix ix_tup (vv 5) ve_int (fun _ _=>rfl)) ve_str (nomark _)) (vw_and1 (vt_cmpR op_eq (ve_ix (ix_tupK (K:=K)) (vv 6) ve_int (fun _ _=>rfl)) ve_str (nomark _))))) (vss_one (vs_raise hx_NoKind (fun fI fd F=>init_ok (k:=0) F sc_init (hinit T fI)) (hr.mono (by decide)) raises_cx rfl (by rfl) (va_c ve_non va_nil))) vss_nil))) (vss_one (vs_ret (ve_op op_catA (vv 3) (vv 4))))))),?_⟩
  have lu:=hu.len
  refine ⟨_,rfl,_,rfl,vh,u,hd,ns,rfl,hh,hns,by omega,(out_bnd q).imp (Same.refl _) fun ck eck h1 kept H1 s1 hkept=>?_⟩
  dsimp only [gName,tSeq,tAsg,tCB,tCons]
  refine comp_mapE us ss (fun s=>bnd (smE hd s) fun k=>.ok (s.new,k)) NewC lu NewC.st NewC.su [none,some vh] ?_ (small (by omega)) (fun R r=>wi_tup (s1.seqT ha) (fun R' r'=>⟨_,rfl,r'⟩) R r) (fun i y p ey ep H' R l sm o=>?_) rfl ((out_bnd h1).imp s1 fun cm ecm h2 D H2 ys s2 hD hys=>?_)
  · exact cap_at1 0 (by decide +kernel) rfl rfl (by first | exact Or.inl rfl | exact Or.inr (Or.inl rfl) | exact Or.inr (Or.inr rfl))
  · have hsm:=all2_get hu ey ep
    obtain ⟨b,z,rfl,hb⟩:=sm_at hsm
    exact ⟨_,rfl,b,_,2,_,rfl,rfl,sm.seqT (s1.seqT hb),at2 _ _ _ _,_,rfl,_,rfl,_,_,hd,p,rfl,hh.same (s1.trans sm),hsm.same (s1.trans sm),(out_bnd o).imp (Same.refl _) fun k _ h=>⟨(by show 2 ≤ sizeLine; decide),fun t H3 _ s3 g3=>h _ _ s3 ⟨t,rfl,g3⟩⟩⟩
  refine ⟨D,_,rfl,SqL.of hD,fun t H3 _ s3 g3=>?_⟩
  have lz:=madeE_len ecm
  have ly:=hys.len
  have hmade : IsHd K H3 (.ref t) cm:=new_hd (SqT.of g3) s3 hys
  have t3:=s1.trans (s2.trans s3)
  dsimp only [gName,tSeq]
  refine ⟨_,rfl,_,rfl,a,t,us,ys,rfl,t3.seqT ha,SqT.of g3,for_zip (fun i σ H'=>Same H3 H'∧(∀ (j : Nat) (s : Sm) (c : Str × Str),j < i→ss[j]? = some s→cm[j]? = some c→¬ (s.wd = "sum"∧c.2 = "word"))∧∃ l5 l6,σ = [some vh,some u,some (.ref a),some kept,some (.ref t),l5,l6]) (by omega) ⟨Same.refl _,fun j s c hj=>absurd hj (Nat.not_lt_zero _),_,_,rfl⟩ (fun i σ H' _ ⟨e,_⟩=>⟨e.seqT (t3.seqT ha),e.seqT (SqT.of g3)⟩) ?_ ?_⟩
  · rintro i σ H' x y Tp H'' ex ey ⟨sm,hg,l5,l6,rfl⟩ hT rfl
    have s4 : Same H' (upd H' Tp (.tup [x,y])):=same_new hT _
    have t4:=sm.trans s4
    obtain ⟨p,hp,hsm⟩:=all2_at hu ex
    obtain ⟨b,z,rfl,hb⟩:=sm_at hsm
    obtain ⟨c,hc,p2,rfl,g5⟩:=all2_at hys ey
    have nxt : ¬ (p.wd = "sum"∧c.2 = "word")→∀ (j : Nat) (s : Sm) (c : Str × Str),j < i + 1→ss[j]? = some s→cm[j]? = some c→¬ (s.wd = "sum"∧c.2 = "word"):=fun hno j s c' hj e1 e2=>by
      by_cases ej : j = i
      · subst ej
        rw [hp] at e1; cases e1
        rw [hc] at e2; cases e2
        exact hno
      · exact hg j s c' (by omega) e1 e2
    refine ⟨Tp,_,rfl,SqT.of upd_same,rfl,_,_,rfl,_,_,rfl,rfl,?_⟩
    refine ⟨_,rfl,b,_,0,_,rfl,rfl,t4.seqT (t3.seqT hb),at0 _ _,rfl,_,rfl,?_⟩
    refine ite2 (fun cs=>?_) (fun cs=>iteF ⟨t4,nxt fun zz=>cs (decide_eq_true (by rw [zz.1])),_,_,rfl⟩)
    have ew : p.wd = "sum":=V.str.inj (of_decide_eq_true cs)
    refine ⟨_,rfl,p2,_,1,_,rfl,rfl,SqT.of (t4 _ _ (s3 _ _ g5)),at1 _ _ _,rfl,_,rfl,?_⟩
    by_cases ek : c.2 = "word"
    · rw [decide_eq_true (by rw [ek])]
      rw [sumsE_bad hp hc ew ek] at h2
      exact iteT (rf_raise (D:={ nx:=fun _ _=>True,rt:=Q }) (σ:=[]) hx_NoKind rfl (t3.trans t4) h2)
    · rw [decide_eq_false (by intro zz; exact ek (V.str.inj zz))]
      exact iteF ⟨t4,nxt fun zz=>ek zz.2,_,_,rfl⟩
  · rintro σ H' ⟨sm,hg,l5,l6,rfl⟩
    rw [sumsE_good fun i s c e1 e2=>hg i s c (by rw [lu]; exact (List.getElem?_eq_some_iff.mp e1).1) e1 e2] at h2
    obtain ⟨c,zs,rfl,hc,hz⟩:=hkept
    obtain ⟨c2,zs2,e2,hc2,hz2⟩:=hmade
    cases e2
    have l1:=hz.len
    have l2:=hz2.len
    have l3:=keepE_len eck
    refine ⟨_,rfl,_,rfl,c,t,_,_,rfl,rfl,(s2.trans (s3.trans sm)).seqT hc,sm.seqT hc2,small (by omega),fun r H5 s5 g5=>?_⟩
    exact h2 _ _ (t3.trans (sm.trans s5)) ⟨r,_,rfl,g5,(hz.imp fun _ _ h=>h.same (s2.trans (s3.trans (sm.trans s5)))).app (hz2.imp fun _ _ h=>h.same (sm.trans s5))⟩
def firstE (hd : Hdr) (ns : List Str) : Except Cls Unit:=bnd (keepE hd ns) fun _=>unlE ns
def sp_fr (K : PySem.W.Frag) (mg : Str→Option Value) : Sp:=fun vs H Q E=>∃ vh u hd ps,vs = [vh,u]∧IsHd K H vh hd∧TupR K H (IsKy K H) u ps∧ps.length ≤ 100∧Out mg (firstE hd (ps.map (·.1))) H E fun _=>∀ H',Same H H'→Q vh H'
theorem ok_first_head (T : Txt w K mg) (GX_keep_head : OkX P w K mg base 4 "keep_head" ["head","names"] (sp_kp K mg)) (GX_need_unlike : OkX P w K mg base 3 "need_unlike" ["names"] (sp_nun K mg)) : OkX P w K mg base 5 "first_head" ["head","keys"] (sp_fr K mg):=by
  refine OkX.ofV T.d_first_head sc_first_head (fun vs H Q E h=>?_) (fun f cdv A outer s H vs Q E hr h=>?_)
  · obtain ⟨vh,u,hd,ps,rfl,_⟩:=h; rfl
  obtain ⟨vh,u,hd,ps,rfl,hh,⟨a,us,rfl,ha,hu⟩,hl,q⟩:=h
  refine ⟨_,(vss_cons (vs_setC (i0:=2) sc_first_head.nd rfl (by first | exact Or.inl rfl | exact Or.inr rfl) (N:=["key"]) ⟨by decide +kernel,rfl,by decide +kernel,by decide +kernel⟩ (hfr_none (by decide +kernel)) rfl (vi_tup (vv 1)) (fun cl s' H' fp=>⟨(vg_name (i:=0) (show (["key"] : List Str).Nodup from by decide +kernel) rfl (Or.inl rfl)),vf_nil,(ve_ix (ix_tupK (K:=K)) (vv 0) ve_int (fun _ _=>rfl))⟩)) (vss_cons (vs_expr (ve_callX (GX_keep_head.mono (by decide)) hr thr_cx (by rfl) (va_c (vv 0) (va_c (vv 2) va_nil)))) (vss_cons (vs_expr (ve_callX (GX_need_unlike.mono (by decide)) hr thr_cx (by rfl) (va_c (vv 2) va_nil))) (vss_one (vs_ret (vv 0)))))),?_⟩
  have lu:=hu.len
  dsimp only [gName,tSeq,tAsg]
  refine comp_ix us ((ps.map (·.1)).map V.str) (by rw [List.length_map,List.length_map]; omega) [none] cap_none1 (small (by omega)) (fun R r=>wi_tup ha (fun R' r'=>⟨_,rfl,r'⟩) R r) (fun i x y ex ey H' R l sm r=>?_) rfl fun D1 H1 s1 g1=>?_
  · obtain ⟨p,hp,b,rfl,hb,_⟩:=all2_at hu ex
    obtain ⟨n,hn,rfl⟩:=map_at ey
    rw [List.getElem?_map,hp] at hn
    cases hn
    exact ⟨_,rfl,b,_,0,_,rfl,rfl,sm.seqT hb,at0 _ _,r H' (Same.refl H')⟩
  refine ⟨_,rfl,_,rfl,vh,_,hd,_,rfl,hh.same s1,⟨D1,rfl,.inl (SqL.of g1)⟩,by rw [List.length_map]; omega,(out_bnd q).imp s1 fun _ _ h v H2 s2 _=>?_⟩
  refine ⟨_,rfl,D1,_,rfl,SqL.of (s2 _ _ g1),by rw [List.length_map]; omega,Out.imp h (s1.trans s2) fun _ _ h3 H3 s3=>?_⟩
  exact ⟨_,rfl,h3 H3 (s1.trans (s2.trans s3))⟩
end
end My
set_option Elab.async false
set_option linter.all false
set_option maxRecDepth 100000
namespace My
open PySem PySem.Spec PyProof.Rows L2
set_option maxHeartbeats 400000
section
variable {P : Program} {w : World} {K : PySem.W.Frag} {mg : Str→Option Value} {base : Heap}
def finE (hd : Hdr) : Except Cls Hdr:=bnd (unlE (hd.map (·.1))) fun _=>if 1 ≤ hd.length∧hd.length ≤ 8 then .ok hd else .error .wide
def hereE (hs : Str→Option Hdr) (q : Qn) (ihds : List Hdr) : Except Cls Hdr:=match q with
  | .table T=>match hs T with
    | some hd=>.ok hd
    | none=>.error .tab
  | .whr _ ts=>bnd (whereE (ihds.getD 0 []) ts) fun _=>.ok (ihds.getD 0 [])
  | .keep _ ns=>keepE (ihds.getD 0 []) ns
  | .nmd _ ns=>namedE (ihds.getD 0 []) ns
  | .join _ _ ps=>joinE (ihds.getD 0 []) (ihds.getD 1 []) ps
  | .group _ ns ss=>groupE (ihds.getD 0 []) ns ss
  | .first _ ks _=>bnd (firstE (ihds.getD 0 []) (ks.map (·.1))) fun _=>.ok (ihds.getD 0 [])
def withinE (hs : Str→Option Hdr) : Qn→Except Cls Hdr
  | .table T=>bnd (hereE hs (.table T) []) finE
  | .whr q ts=>bnd (withinE hs q) fun h=>bnd (hereE hs (.whr q ts) [h]) finE
  | .keep q ns=>bnd (withinE hs q) fun h=>bnd (hereE hs (.keep q ns) [h]) finE
  | .nmd q ns=>bnd (withinE hs q) fun h=>bnd (hereE hs (.nmd q ns) [h]) finE
  | .join q r ps=>bnd (withinE hs q) fun h=>bnd (withinE hs r) fun k=>bnd (hereE hs (.join q r ps) [h,k]) finE
  | .group q ns ss=>bnd (withinE hs q) fun h=>bnd (hereE hs (.group q ns ss) [h]) finE
  | .first q ks m=>bnd (withinE hs q) fun h=>bnd (hereE hs (.first q ks m) [h]) finE
theorem map1 {α β γ : Type} {f : α→Except Cls β} {a : α} {g : List β→Except Cls γ} : bnd (mapE f [a]) g = bnd (f a) fun b=>g [b]:=by
  unfold mapE mapE
  cases f a <;> rfl
theorem map2 {α β γ : Type} {f : α→Except Cls β} {a b : α} {g : List β→Except Cls γ} : bnd (mapE f [a,b]) g = bnd (f a) fun x=>bnd (f b) fun y=>g [x,y]:=by
  unfold mapE mapE mapE
  cases f a
  · rfl
  · cases f b <;> rfl
theorem withinE_eq (hs : Str→Option Hdr) (q : Qn) : withinE hs q = bnd (mapE (withinE hs) (kids q)) fun ihds=>bnd (hereE hs q ihds) finE:=by
  cases q <;> (unfold kids; first | rfl | (rw [map1]; rfl) | (rw [map2]; rfl))
theorem bnd_ok {α β : Type} {r : Except Cls α} {f : α→Except Cls β} {b : β} (h : bnd r f = .ok b) : ∃ a,r = .ok a∧f a = .ok b:=by
  cases r with
  | ok a=>exact ⟨a,rfl,h⟩
  | error c=>cases h
theorem finE_ok {hd h : Hdr} (e : finE hd = .ok h) : h = hd∧hd.length ≤ 8∧1 ≤ hd.length:=by
  obtain ⟨_,_,e2⟩:=bnd_ok e
  by_cases c : 1 ≤ hd.length∧hd.length ≤ 8
  · rw [if_pos c] at e2
    cases e2
    exact ⟨rfl,c.2,c.1⟩
  · rw [if_neg c] at e2; cases e2
theorem withinE_len {hs : Str→Option Hdr} {q : Qn} {hd : Hdr} (e : withinE hs q = .ok hd) : hd.length ≤ 8:=by
  rw [withinE_eq] at e
  obtain ⟨ih,_,e2⟩:=bnd_ok e
  obtain ⟨h,_,e3⟩:=bnd_ok e2
  obtain ⟨rfl,h8,_⟩:=finE_ok e3
  exact h8
def HeadsAt (K : PySem.W.Frag) (H : Hp) (d : Addr) (hs : Str→Option Hdr) : Prop:=∃ kvs,H d = some (.dK kvs)∧∀ n,match hs n with
  | some hd=>hd.length ≤ 100∧∃ v,valV kvs (Sum.inr n) = some v∧IsHd K H v hd
  | none=>valV kvs (Sum.inr n) = none
theorem HeadsAt.same {H H' : Hp} {d : Addr} {hs : Str→Option Hdr} (e : Same H H') (h : HeadsAt K H d hs) : HeadsAt K H' d hs:=by
  obtain ⟨kvs,hd,hh⟩:=h
  refine ⟨kvs,e _ _ hd,fun n=>?_⟩
  have:=hh n
  cases e2 : hs n with
  | some hd =>
    rw [e2] at this
    obtain ⟨l,v,h1,h2⟩:=this
    exact ⟨l,v,h1,h2.same e⟩
  | none =>
    rw [e2] at this
    exact this
def sp_hh (K : PySem.W.Frag) (mg : Str→Option Value) : Sp:=fun vs H Q E=>∃ d v x us hs q ihds,vs = [.ref d,v,.ref x]∧HeadsAt K H d hs∧IsQ K H v q∧SqL K H x us∧All2 (IsHd K H) us ihds∧ihds.length = (kids q).length∧(∀ h ∈ ihds,h.length ≤ 100)∧Out mg (hereE hs q ihds) H E fun hd=>∀ v' H',Same H H'→IsHd K H' v' hd→Q v' H'
theorem ok_head_here (T : Txt w K mg) (GX_table_head : OkX P w K mg base 3 "table_head" ["heads","name"] (sp_th mg)) (GX_where_head : OkX P w K mg base 5 "where_head" ["head","tests"] (sp_wh K mg)) (GX_keep_head : OkX P w K mg base 4 "keep_head" ["head","names"] (sp_kp K mg))
    (GX_named_head : OkX P w K mg base 3 "named_head" ["head","names"] (sp_nmh K mg)) (GX_join_head : OkX P w K mg base 4 "join_head" ["head","other","pairs"] (sp_jn K mg)) (GX_group_head : OkX P w K mg base 5 "group_head" ["head","names","sums"] (sp_gr K mg))
    (GX_first_head : OkX P w K mg base 5 "first_head" ["head","keys"] (sp_fr K mg)) : OkX P w K mg base 6 "head_here" ["heads","question","inner"] (sp_hh K mg):=by
  refine OkX.ofV T.d_head_here sc_head_here (fun vs H Q E h=>?_) (fun f cdv A outer s H vs Q E hr h=>?_)
  · obtain ⟨d,v,x,us,hs,q,ihds,rfl,_⟩:=h; rfl
  obtain ⟨d,v,x,us,hs,q0,ihds,rfl,hds,hq,hx,hu,hli,hlen,q⟩:=h
  refine ⟨_,(vss_cons (vs_set (i:=3) sc_head_here.nd rfl (by first | exact Or.inl rfl | exact Or.inr rfl) (ve_ix ix_tup (vv 1) ve_int (fun _ _=>rfl))) (vss_cons (vs_if (vt_cmpR op_eq (vv 3) ve_str (nomark _)) (vss_one (vs_ret (ve_callX (GX_table_head.mono (by decide)) hr thr_cx (by rfl) (va_c (vv 0) (va_c (ve_ix ix_tup (vv 1) ve_int (fun _ _=>rfl)) va_nil))))) vss_nil) (vss_cons (vs_if (vt_cmpR op_eq (vv 3) ve_str (nomark _)) (vss_one (vs_ret (ve_callX (GX_where_head.mono (by decide)) hr thr_cx (by rfl) (va_c (ve_ix ix_list (vv 2) ve_int (fun _ _=>rfl)) (va_c (ve_ix ix_tup (vv 1) ve_int (fun _ _=>rfl)) va_nil))))) vss_nil) (vss_cons (vs_if (vt_cmpR op_eq (vv 3) ve_str (nomark _)) (vss_one (vs_ret (ve_callX (GX_keep_head.mono (by decide)) hr thr_cx (by rfl) (va_c (ve_ix ix_list (vv 2) ve_int (fun _ _=>rfl)) (va_c (ve_ix ix_tup (vv 1) ve_int (fun _ _=>rfl)) va_nil))))) vss_nil) (vss_cons (vs_if (vt_cmpR op_eq (vv 3) ve_str (nomark _)) (vss_one (vs_ret (ve_callX (GX_named_head.mono (by decide)) hr thr_cx (by rfl) (va_c (ve_ix ix_list (vv 2) ve_int (fun _ _=>rfl)) (va_c (ve_ix ix_tup (vv 1) ve_int (fun _ _=>rfl)) va_nil))))) vss_nil) (vss_cons (vs_if (vt_cmpR op_eq (vv 3) ve_str (nomark _)) (vss_one (vs_ret (ve_callX (GX_join_head.mono (by decide)) hr thr_cx (by rfl) (va_c (ve_ix ix_list (vv 2) ve_int (fun _ _=>rfl)) (va_c (ve_ix ix_list (vv 2) ve_int (fun _ _=>rfl)) (va_c (ve_ix ix_tup (vv 1) ve_int (fun _ _=>rfl)) va_nil)))))) vss_nil) (vss_cons (vs_if (vt_cmpR op_eq (vv 3) ve_str (nomark _)) (vss_one (vs_ret (ve_callX (GX_group_head.mono (by decide)) hr thr_cx (by rfl) (va_c (ve_ix ix_list (vv 2) ve_int (fun _ _=>rfl)) (va_c (ve_ix ix_tup (vv 1) ve_int (fun _ _=>rfl)) (va_c (ve_ix ix_tup (vv 1) ve_int (fun _ _=>rfl)) va_nil)))))) vss_nil) (vss_one (vs_ret (ve_callX (GX_first_head.mono (by decide)) hr thr_cx (by rfl) (va_c (ve_ix ix_list (vv 2) ve_int (fun _ _=>rfl)) (va_c (ve_ix ix_tup (vv 1) ve_int (fun _ _=>rfl)) va_nil)))))))))))),?_⟩
  cases hq with
  | @table _ tn a b =>
    obtain ⟨kvs,hd',hmem⟩:=hds
    have hm:=hmem tn
    refine ⟨_,rfl,_,_,0,_,rfl,rfl,a,at0 _ _,?_⟩
    refine ⟨_,rfl,rfl,_,rfl,iteT ⟨_,rfl,_,rfl,_,_,1,_,rfl,rfl,a,at1 _ _ _,d,_,kvs,rfl,hd',?_⟩⟩
    unfold hereE at q
    cases e : hs tn with
    | some hd =>
      rw [e] at hm
      dsimp only at q
      rw [e] at q
      obtain ⟨_,v',hv',hI⟩:=hm
      rw [hv']
      exact q _ _ (Same.refl H) hI
    | none =>
      rw [e] at hm
      dsimp only at q
      rw [e] at q
      rw [hm]
      exact q
  | whr a b c =>
    obtain ⟨h,rfl⟩:=List.length_eq_one_iff.mp hli
    cases hu with
    | cons h1 t1 =>
      cases t1
      refine ⟨_,rfl,_,_,0,_,rfl,rfl,a,at0 _ _,?_⟩
      refine ⟨_,rfl,rfl,_,rfl,iteF ⟨_,rfl,rfl,_,rfl,iteT ?_⟩⟩
      exact ⟨_,rfl,x,_,0,_,rfl,rfl,hx,at0 _ _,_,rfl,_,_,2,_,rfl,rfl,a,at2 _ _ _ _,_,_,_,_,rfl,h1,c.1,by have:=c.2.2; omega,(out_bnd q).imp (Same.refl _) fun _ _ h H' s'=>h _ _ s' (h1.same s')⟩
  | keep a b c =>
    obtain ⟨h,rfl⟩:=List.length_eq_one_iff.mp hli
    cases hu with
    | cons h1 t1 =>
      cases t1
      refine ⟨_,rfl,_,_,0,_,rfl,rfl,a,at0 _ _,?_⟩
      refine ⟨_,rfl,rfl,_,rfl,iteF ⟨_,rfl,rfl,_,rfl,iteF ⟨_,rfl,rfl,_,rfl,iteT ?_⟩⟩⟩
      exact ⟨_,rfl,x,_,0,_,rfl,rfl,hx,at0 _ _,_,rfl,_,_,2,_,rfl,rfl,a,at2 _ _ _ _,_,_,_,_,rfl,h1,nms_of c,by have:=c.2.2; omega,q⟩
  | nmd a b c =>
    obtain ⟨h,rfl⟩:=List.length_eq_one_iff.mp hli
    cases hu with
    | cons h1 t1 =>
      cases t1
      obtain ⟨⟨n,ws,rfl,hn,hw⟩,c1,c2⟩:=c
      rw [isn_map hw] at hn
      refine ⟨_,rfl,_,_,0,_,rfl,rfl,a,at0 _ _,?_⟩
      refine ⟨_,rfl,rfl,_,rfl,iteF ⟨_,rfl,rfl,_,rfl,iteF ⟨_,rfl,rfl,_,rfl,iteF ⟨_,rfl,rfl,_,rfl,iteT ?_⟩⟩⟩⟩
      exact ⟨_,rfl,x,_,0,_,rfl,rfl,hx,at0 _ _,_,rfl,_,_,2,_,rfl,rfl,a,at2 _ _ _ _,_,_,_,_,rfl,h1,⟨n,rfl,hn⟩,by omega,q⟩
  | join a b c e =>
    obtain ⟨h,k,rfl⟩ : ∃ h k,ihds = [h,k]:=by
      match ihds,hli with
      | [h,k],_=>exact ⟨h,k,rfl⟩
    cases hu with
    | cons h1 t1 =>
      cases t1 with
      | cons h2 t2 =>
        cases t2
        refine ⟨_,rfl,_,_,0,_,rfl,rfl,a,at0 _ _,?_⟩
        refine ⟨_,rfl,rfl,_,rfl,iteF ⟨_,rfl,rfl,_,rfl,iteF ⟨_,rfl,rfl,_,rfl,iteF ⟨_,rfl,rfl,_,rfl,iteF ⟨_,rfl,rfl,_,rfl,iteT ?_⟩⟩⟩⟩⟩
        exact ⟨_,rfl,x,_,0,_,rfl,rfl,hx,at0 _ _,_,rfl,x,_,1,_,rfl,rfl,hx,at1 _ _ _,_,rfl,_,_,3,_,rfl,rfl,a,atI_nat (j:=3) rfl,_,_,_,_,_,_,rfl,h1,h2,e.1,by have:=e.2.2; omega,hlen _ (by simp),hlen _ (by simp),q⟩
  | group a b c e =>
    obtain ⟨h,rfl⟩:=List.length_eq_one_iff.mp hli
    cases hu with
    | cons h1 t1 =>
      cases t1
      refine ⟨_,rfl,_,_,0,_,rfl,rfl,a,at0 _ _,?_⟩
      refine ⟨_,rfl,rfl,_,rfl,iteF ⟨_,rfl,rfl,_,rfl,iteF ⟨_,rfl,rfl,_,rfl,iteF ⟨_,rfl,rfl,_,rfl,iteF ⟨_,rfl,rfl,_,rfl,iteF ⟨_,rfl,rfl,_,rfl,iteT ?_⟩⟩⟩⟩⟩⟩
      exact ⟨_,rfl,x,_,0,_,rfl,rfl,hx,at0 _ _,_,rfl,_,_,2,_,rfl,rfl,a,at2 _ _ _ _,_,rfl,_,_,3,_,rfl,rfl,a,atI_nat (j:=3) rfl,_,_,_,_,_,_,rfl,h1,nms_of c,by have:=c.2.2; omega,e.1,by have:=e.2.2; omega,q⟩
  | first a b c e =>
    obtain ⟨h,rfl⟩:=List.length_eq_one_iff.mp hli
    cases hu with
    | cons h1 t1 =>
      cases t1
      refine ⟨_,rfl,_,_,0,_,rfl,rfl,a,at0 _ _,?_⟩
      refine ⟨_,rfl,rfl,_,rfl,iteF ⟨_,rfl,rfl,_,rfl,iteF ⟨_,rfl,rfl,_,rfl,iteF ⟨_,rfl,rfl,_,rfl,iteF ⟨_,rfl,rfl,_,rfl,iteF ⟨_,rfl,rfl,_,rfl,iteF ?_⟩⟩⟩⟩⟩⟩
      exact ⟨_,rfl,x,_,0,_,rfl,rfl,hx,at0 _ _,_,rfl,_,_,2,_,rfl,rfl,a,at2 _ _ _ _,_,_,_,_,rfl,h1,c.1,by have:=c.2.2; omega,(out_bnd q).imp (Same.refl _) fun _ _ h H' s'=>h _ _ s' (h1.same s')⟩
def sp_nms (K : PySem.W.Frag) : Sp:=fun vs H Q _=>∃ v hd,vs = [v]∧IsHd K H v hd∧hd.length ≤ 1000∧∀ D H',Same H H'→H' D = some (.lst ((hd.map (·.1)).map V.str))→Q (.ref D) H'
theorem ok_names_of' (T : Txt w K mg) : Ok P w K mg base 1 "names_of" ["head"] (sp_nms K):=by
  refine Ok.ofV T.d_names_of sc_names_of (fun vs H Q E h=>?_) (fun f cdv A outer s H vs Q E hr h=>?_)
  · obtain ⟨v,hd,rfl,_⟩:=h; rfl
  obtain ⟨v,hd,rfl,⟨a,us,rfl,ha,hu⟩,hl,q⟩:=h
  refine ⟨_,(vss_one (vs_ret (ve_comp (N:=["column"]) ⟨by decide +kernel,rfl,by decide +kernel,by decide +kernel⟩ (hfr_none (by decide +kernel)) rfl (vi_tup (vv 0)) (fun cl s' H' fp=>⟨(vg_name (i:=0) (show (["column"] : List Str).Nodup from by decide +kernel) rfl (Or.inl rfl)),vf_nil,(ve_ix (ix_tupK (K:=K)) (vv 0) ve_int (fun _ _=>rfl))⟩)))),?_⟩
  have lu:=hu.len
  refine comp_ix us ((hd.map (·.1)).map V.str) (by rw [List.length_map,List.length_map]; omega) [none] cap_none1 (small (by omega)) (fun R r=>wi_tup ha (fun R' r'=>⟨_,rfl,r'⟩) R r) (fun i x y ex ey H' R l sm r=>?_) rfl fun D H' sm hD=>q D H' sm hD
  obtain ⟨c,hc,p,rfl,hp⟩:=all2_at hu ex
  obtain ⟨n,hn,rfl⟩:=map_at ey
  rw [List.getElem?_map,hc] at hn
  cases hn
  exact ⟨_,rfl,p,_,0,_,rfl,rfl,sm.seqT hp,at0 _ _,r H' (Same.refl H')⟩
theorem sizes_mem {k : Qn} : ∀ {qs : List Qn},k ∈ qs→size k ≤ sizes qs
  | q :: qs,h=>by
    show size k ≤ (((q :: qs).map size).sum)
    rw [List.map_cons,List.sum_cons]
    rcases List.mem_cons.mp h with rfl | h
    · omega
    · have:=sizes_mem h
      unfold sizes at this
      omega
theorem kid_size {q k : Qn} (h : k ∈ kids q) {K : PySem.W.Frag} {H : Hp} {v : V} (hq : IsQ K H v q) : size k < size q:=by
  have e:=size_own q
  have o:=own_pos hq
  have : size k ≤ sizes (kids q):=by
    exact sizes_mem h
  omega
theorem mem_at {α : Type} {l : List α} {i : Nat} {x : α} (h : l[i]? = some x) : x ∈ l:=List.mem_of_getElem? h
theorem comp_mapEL {X : Cx} {scope : Scope} {N : List Str} {tl te : TE} {σ : L2.St} {H : Hp} {Q : VK} {E : XK} {α β : Type} (Pr : List V→Prop) (as : List α) (f : α→Except Cls β) (Rl : β→Hp→V→Prop) (hlen : ∀ us,Pr us→us.length = as.length)
    (st : ∀ {b H1 H2 y},Same H1 H2→Rl b H1 y→Rl b H2 y) (su : ∀ {b H1 D ys zs y},H1 D = some (.lst ys)→Rl b H1 y→Rl b (upd H1 D (.lst zs)) y)
    (σ0 : L2.St) (cap : Cap X scope N σ σ0) (h0 : σ0[0]? = some none)
    (hw : ∀ R : VK,(∀ D H1 us,Same H H1→H1 D = some (.lst us)→Pr us→R (.ref D) H1)→tl σ H R)
    (hsz : as.length ≤ sizeLine)
    (he : ∀ us,Pr us→∀ (i : Nat) (u : V) (a : α),us[i]? = some u→as[i]? = some a→∀ H' R l,Same H H'→Out mg (f a) H' E (fun b=>∀ y H2,Same H' H2→Rl b H2 y→R y H2)→te ((σ0.set 0 l).set 0 (some u)) H' R)
    (q : Out mg (mapE f as) H E fun bs=>∀ D H' ys,Same H H'→H' D = some (.lst ys)→All2 (fun y b=>Rl b H' y) ys bs→Q (.ref D) H') :
    tComp X scope N (iList K tl) (gName 0) tYes te σ H Q:=by
  refine comp_anyPL (K:=K) Pr (fun i H y=>∃ a b,as[i]? = some a∧f a = .ok b∧Rl b H y) (fun e ⟨a,b,h1,h2,h3⟩=>⟨a,b,h1,h2,st e h3⟩) (fun e ⟨a,b,h1,h2,h3⟩=>⟨a,b,h1,h2,su e h3⟩) σ0 cap h0 hw (fun us p=>by rw [hlen us p]; exact hsz) (fun us pr i u eu H' R l sm hp r=>?_) fun us pr D H' ys sm hD hl hR=>?_
  · have hi : i < as.length:=by rw [← hlen us pr]; exact (List.getElem?_eq_some_iff.mp eu).1
    refine he us pr i u as[i] eu (List.getElem?_eq_getElem hi) H' R l sm ?_
    cases e : f as[i] with
    | ok b=>exact fun y H2 s2 h2=>r y H2 s2 ⟨_,b,List.getElem?_eq_getElem hi,e,h2⟩
    | error c =>
      rw [mapE_first (List.getElem?_eq_getElem hi) e fun j a' hj ha=>by
        obtain ⟨y,a2,b,h1,h2,_⟩:=hp j hj
        rw [ha] at h1; cases h1
        exact ⟨b,h2⟩] at q
      exact Rf.same sm q
  · obtain ⟨bs,hbs⟩:=all2_ex (R:=fun a b=>f a = .ok b) (as:=as) fun i a ea=>by
      have hi : i < ys.length:=by rw [hl,hlen us pr]; exact (List.getElem?_eq_some_iff.mp ea).1
      obtain ⟨a2,b,h1,h2,_⟩:=hR i ys[i] (List.getElem?_eq_getElem hi)
      rw [ea] at h1; cases h1
      exact ⟨b,h2⟩
    rw [mapE_all hbs] at q
    refine q D H' ys sm hD (all2_of (by rw [hl,hlen us pr,hbs.len]) fun i y b e1 e2=>?_)
    obtain ⟨a,b',h1,h2,h3⟩:=hR i y e1
    have:=all2_get hbs h1 e2
    rw [h2] at this
    cases this
    exact h3
theorem hereE_len {hs : Str→Option Hdr} {q : Qn} {ihds : List Hdr} {hd : Hdr} {H : Hp} {v : V} {d : Addr} (hds : HeadsAt K H d hs) (hq : IsQ K H v q) (hl : ∀ h ∈ ihds,h.length ≤ 100) (e : hereE hs q ihds = .ok hd) : hd.length ≤ 300:=by
  have h0 : (ihds.getD 0 []).length ≤ 100:=by
    cases ihds with
    | nil=>exact Nat.zero_le _
    | cons a r=>exact hl a (List.mem_cons_self ..)
  have h1 : (ihds.getD 1 []).length ≤ 100:=by
    match ihds,hl with
    | [],_=>exact Nat.zero_le _
    | [a],_=>exact Nat.zero_le _
    | a :: b :: r,hl=>exact hl b (by simp)
  unfold hereE at e
  cases hq with
  | @table _ tn a b =>
    obtain ⟨kvs,_,hm⟩:=hds
    have hm:=hm tn
    dsimp only at e
    cases e2 : hs tn with
    | none=>rw [e2] at e; cases e
    | some h =>
      rw [e2] at e hm
      cases e
      have:=hm.1
      omega
  | whr a b c =>
    obtain ⟨_,_,e⟩:=bnd_ok e
    cases e
    omega
  | keep a b c =>
    have:=keepE_len e
    have:=c.2.2
    omega
  | nmd a b c =>
    dsimp only at e
    unfold namedE at e
    split at e
    · cases e
      rw [List.length_zipWith]
      omega
    · cases e
  | join a b c d =>
    obtain ⟨_,_,e⟩:=bnd_ok e
    obtain ⟨_,_,e⟩:=bnd_ok e
    obtain ⟨_,_,e⟩:=bnd_ok e
    obtain ⟨_,_,e⟩:=bnd_ok e
    obtain ⟨_,_,e⟩:=bnd_ok e
    cases e
    rw [List.length_append]
    exact Nat.le_trans (Nat.add_le_add h0 (Nat.le_trans (List.length_filter_le _ _) h1)) (by decide)
  | group a b c d =>
    obtain ⟨k,ek,e⟩:=bnd_ok e
    obtain ⟨m,em,e⟩:=bnd_ok e
    obtain ⟨_,_,e⟩:=bnd_ok e
    cases e
    rw [List.length_append,keepE_len ek,madeE_len em]
    have:=c.2.2
    have:=d.2.2
    omega
  | first a b c d =>
    obtain ⟨_,_,e⟩:=bnd_ok e
    cases e
    omega
def sp_hw (K : PySem.W.Frag) (mg : Str→Option Value) (n : Nat) : Sp:=fun vs H Q E=>∃ d v hs q,vs = [.ref d,v]∧HeadsAt K H d hs∧IsQ K H v q∧size q ≤ n∧Out mg (withinE hs q) H E fun hd=>∀ v' H',Same H H'→IsHd K H' v' hd→Q v' H'
theorem ok_head_within (T : Txt w K mg) (G_questions_in : Ok P w K mg base 1 "questions_in" ["question"] (sp_in K)) (GX_head_here : OkX P w K mg base 6 "head_here" ["heads","question","inner"] (sp_hh K mg)) (GX_need_unlike : OkX P w K mg base 3 "need_unlike" ["names"] (sp_nun K mg)) (G_names_of : Ok P w K mg base 1 "names_of" ["head"] (sp_nms K)) :
    ∀ n : Nat,OkX P w K mg base (n + 7) "head_within" ["heads","question"] (sp_hw K mg n)
  | 0=>by
    refine OkX.ofV T.d_head_within sc_head_within (fun vs H Q E h=>?_) (fun f cdv A outer s H vs Q E hr h=>?_)
    · obtain ⟨d,v,hs,q,rfl,_⟩:=h; rfl
    · obtain ⟨d,v,hs,q,rfl,_,hq,hz,_⟩:=h
      have e:=size_own q
      have o:=own_pos hq
      omega
  | n + 1=>by
    have GX_head_within:=ok_head_within T G_questions_in GX_head_here GX_need_unlike G_names_of n
    refine OkX.ofV T.d_head_within sc_head_within (fun vs H Q E h=>?_) (fun f cdv A outer s H vs Q E hr h=>?_)
    · obtain ⟨d,v,hs,q,rfl,_⟩:=h; rfl
    obtain ⟨d,v,hs,q0,rfl,hds,hq,hz,q⟩:=h
    obtain ⟨S,ad,mS,hS,hex,_⟩:=T.x_ex
    have hx_TooWide : ExT K mg s_init "TooWide" "ShardError.__init__" (ad .wide) S:=hex .wide
    refine ⟨_,(vss_cons (vs_setCX (i0:=2) rfl rfl thr_cx sc_head_within.nd rfl (by first | exact Or.inl rfl | exact Or.inr rfl) (N:=["part","heads"]) ⟨by decide +kernel,rfl,by decide +kernel,by decide +kernel⟩ (hfr_of (defScope s_head_within) rfl (by decide +kernel)) rfl (vi_list (ve_fn (G_questions_in.mono (by omega)) hr (by rfl) (va_c (vv 1) va_nil))) (fun cl s' H' fp=>⟨(vg_name (i:=0) (show (["part","heads"] : List Str).Nodup from by decide +kernel) rfl (Or.inl rfl)),vf_nil,(ve_callX (GX_head_within.mono (by omega)) hr thr_CX (by rfl) (va_c (vv 1) (va_c (vv 0) va_nil)))⟩)) (vss_cons (vs_set (i:=3) sc_head_within.nd rfl (by first | exact Or.inl rfl | exact Or.inr rfl) (ve_callX (GX_head_here.mono (by omega)) hr thr_cx (by rfl) (va_c (vv 0) (va_c (vv 1) (va_c (vv 2) va_nil))))) (vss_cons (vs_expr (ve_callX (GX_need_unlike.mono (by omega)) hr thr_cx (by rfl) (va_c (ve_fn (G_names_of.mono (by omega)) hr (by rfl) (va_c (vv 3) va_nil)) va_nil))) (vss_cons (vs_if (vt_not (vt_chain op_le op_le ve_int (ve_callB call_len_seq (by rfl) T.n_len bf_len (va_c (vv 3) va_nil)) (ve_gl (by rfl) T.g_MOST_COLUMNS))) (vss_one (vs_raise hx_TooWide (fun fI fd F=>init_ok (k:=0) F sc_init (hinit T fI)) (hr.mono (by first | decide | omega)) raises_cx rfl (by rfl) (va_c ve_non va_nil))) vss_nil) (vss_one (vs_ret (vv 3))))))),?_⟩
    have lk : (kids q0).length ≤ 2:=by cases q0 <;> simp [kids]
    rw [withinE_eq] at q
    dsimp only [tSeq,tAsg]
    refine comp_mapEL (fun us=>All2 (IsQ K H) us (kids q0)) (kids q0) (withinE hs) (fun h H y=>IsHd K H y h) (fun us p=>p.len) (fun e h=>h.same e) (fun e h=>?_) [none,some (.ref d)] ?_ rfl (fun R r=>⟨_,rfl,v,q0,H,rfl,Same.refl H,hq,fun D H1 us fD s1 gD hus=>r D H1 us s1 gD hus⟩) (small (by omega)) (fun us hus i x k ex ek H' R l sm o=>?_) ((out_bnd q).imp (Same.refl _) fun ihds eih h D2 H2 ys t2 g2 hall=>?_)
    · obtain ⟨a,vs,rfl,ha,hv⟩:=h
      exact ⟨a,vs,rfl,ha.updL e,hv.imp fun _ _ ⟨p,ep,hp⟩=>⟨p,ep,hp.updL e⟩⟩
    · exact cap_at1 0 (by decide +kernel) rfl rfl (by first | exact Or.inl rfl | exact Or.inr (Or.inl rfl) | exact Or.inr (Or.inr rfl))
    · have hkq:=all2_get hus ex ek
      have hkz:=kid_size (mem_at ek) hq
      exact ⟨_,rfl,_,rfl,d,x,hs,k,rfl,hds.same sm,hkq.same sm,by omega,o⟩
    have hin:=mapE_ok eih
    have hl100 : ∀ h ∈ ihds,h.length ≤ 100:=fun h hm=>by
      obtain ⟨i,hi,e⟩:=List.getElem_of_mem hm
      have hi' : i < (kids q0).length:=by have:=hin.len; omega
      have:=withinE_len (all2_get hin (List.getElem?_eq_getElem hi') (by rw [List.getElem?_eq_getElem hi,e]))
      omega
    refine ⟨_,rfl,_,rfl,_,rfl,d,v,D2,ys,hs,q0,ihds,rfl,hds.same t2,hq.same t2,SqL.of g2,hall,hin.len.symm,hl100,(out_bnd h).imp t2 fun hd ehd h3 v' H3 s3 hI=>?_⟩
    have hl3:=hereE_len hds hq hl100 ehd
    have t3:=t2.trans s3
    refine ⟨_,rfl,v',hd,rfl,hI,by omega,fun D4 H4 s4 g4=>?_⟩
    refine ⟨D4,hd.map (·.1),rfl,SqL.of g4,(by rw [List.length_map]; omega),(out_bnd h3).imp (t3.trans s4) fun _ _ h5 H5 s5=>?_⟩
    obtain ⟨a,zs,rfl,ha,hz'⟩:=hI
    have lz:=hz'.len
    have t5:=t3.trans (s4.trans s5)
    refine ⟨_,rfl,_,_,rfl,.inr ((s4.trans s5).seqT ha),_,_,rfl,rfl,_,rfl,?_⟩
    by_cases c1 : 1 ≤ hd.length
    · have e1 : decide ((1 : Int) ≤ (zs.length : Int)) = true:=decide_eq_true (by omega)
      rw [e1]
      refine iteT ⟨_,_,rfl,rfl,_,rfl,?_⟩
      by_cases c2 : hd.length ≤ 8
      · have e2 : decide ((zs.length : Int) ≤ 8) = true:=decide_eq_true (by omega)
        rw [if_pos ⟨c1,c2⟩] at h5
        rw [e2]
        exact iteF ⟨_,rfl,h5 _ _ t5 ⟨a,zs,rfl,(s4.trans s5).seqT ha,hz'.imp fun _ _ h=>h.same (s4.trans s5)⟩⟩
      · have e2 : decide ((zs.length : Int) ≤ 8) = false:=decide_eq_false (by omega)
        rw [if_neg fun z=>c2 z.2] at h5
        rw [e2]
        exact iteT (rf_raise (D:={ nx:=fun _ _=>True,rt:=Q }) (σ:=[]) hx_TooWide rfl t5 h5)
    · have e1 : decide ((1 : Int) ≤ (zs.length : Int)) = false:=decide_eq_false (by omega)
      rw [if_neg fun z=>c1 z.1] at h5
      rw [e1]
      exact iteF ⟨_,rfl,iteT (rf_raise (D:={ nx:=fun _ _=>True,rt:=Q }) (σ:=[]) hx_TooWide rfl t5 h5)⟩
def sp_ho (K : PySem.W.Frag) (mg : Str→Option Value) : Sp:=fun vs H Q E=>∃ d v hs q,vs = [.ref d,v]∧HeadsAt K H d hs∧IsQ K H v q∧size q ≤ 20∧Out mg (withinE hs q) H E fun hd=>∀ v' H',Same H H'→IsHd K H' v' hd→Q v' H'
theorem ok_head_of (T : Txt w K mg) (GX_head_within : OkX P w K mg base 27 "head_within" ["heads","question"] (sp_hw K mg 20)) (G_checked : Ok P w K mg base 8 "checked" ["thing"] (sp_chk K)) : OkX P w K mg base 28 "head_of" ["heads","question"] (sp_ho K mg):=by
  refine OkX.ofV T.d_head_of sc_head_of (fun vs H Q E h=>?_) (fun f cdv A outer s H vs Q E hr h=>?_)
  · obtain ⟨d,v,hs,q,rfl,_⟩:=h; rfl
  obtain ⟨d,v,hs,q0,rfl,hds,hq,hz,q⟩:=h
  refine ⟨_,(vss_one (vs_ret (ve_callX (GX_head_within.mono (by decide)) hr thr_cx (by rfl) (va_c (vv 0) (va_c (ve_fn (G_checked.mono (by decide)) hr (by rfl) (va_c (vv 1) va_nil)) va_nil))))),?_⟩
  exact ⟨_,rfl,_,rfl,v,q0,rfl,hq,hz,fun H1 s1=>⟨d,v,hs,q0,rfl,hds.same s1,hq.same s1,hz,Out.imp q s1 fun hd _ h v' H2 s2 h2=>h _ _ (s1.trans s2) h2⟩⟩
end
end My
set_option Elab.async false
set_option linter.all false
set_option maxRecDepth 100000
namespace HT
open PySem PySem.Spec PyProof.Rows L2
section
variable {prog : Program} {w : World} {A : Around} {E : Value→Shared→Prop} {s : Shared}
end
end HT
namespace L2
open PySem PySem.Spec PyProof.Rows
end L2
set_option Elab.async false
set_option linter.all false
set_option maxRecDepth 100000
namespace L2
open PySem PySem.Spec PyProof.Rows
end L2
set_option Elab.async false
set_option linter.all false
set_option maxRecDepth 100000
namespace L2
open PySem PySem.Spec PyProof.Rows
section
variable {X : Cx}
end
end L2
set_option Elab.async false
set_option linter.all false
set_option maxRecDepth 100000
namespace L2
open PySem PySem.Spec PyProof.Rows
inductive PH (P : Program) (w : World) : List DictEntry→List (Str × Value)→Prop
  | nil : PH P w [] []
  | cons {e : DictEntry} {kv : Str × Value} {es : List DictEntry} {kvs : List (Str × Value)} : (strKind P w).is kv.1 e.key = true→e.hash = (strKind P w).hash kv.1→e.val = kv.2→PH P w es kvs→PH P w (e :: es) (kv :: kvs)
theorem PH.keys {P : Program} {w : World} {es : List DictEntry} {kvs : List (Str × Value)} (h : PH P w es kvs) : ∀ e ∈ es,∃ k,(strKind P w).is k e.key = true∧e.hash = (strKind P w).hash k:=by
  induction h with
  | nil=>intro e he; cases he
  | cons a b c _ ih =>
    intro e he
    rcases List.mem_cons.mp he with rfl | he
    · exact ⟨_,a,b⟩
    · exact ih e he
theorem PH.pairs {P : Program} {w : World} {es : List DictEntry} {kvs : List (Str × Value)} (h : PH P w es kvs) : Pairs (strKind P w) es kvs:=by
  induction h with
  | nil=>exact .nil
  | cons a b c _ ih=>exact .cons a c ih
theorem dictOf_mk {P : Program} {w : World} {o : Obj} {es : Array DictEntry} {ep : Nat} {kvs : List (Str × Value)} (hx : o.ExactDict) (hd : o.data = .dict es ep) (h : PH P w es.toList kvs) (nd : (kvs.map (·.1)).Nodup) : o.IsDictOf (strKind P w) kvs :=
  ⟨es,ep,hx,hd,fun e he=>h.keys e (Array.mem_toList_iff.mpr he),h.pairs,nd⟩
end L2
set_option Elab.async false
set_option linter.all false
set_option maxRecDepth 100000
namespace PySem
section
variable {prog : Program} {w : World} {A : Around} {E : Value→Shared→Prop} {s : Shared}
end
end PySem
namespace PySem
section
variable {prog : Program} {w : World} {κ : Type} [DecidableEq κ] {knd : KeyKind prog w κ}
end
end PySem
namespace PySem
section
variable {prog : Program} {w : World} {κ : Type} [DecidableEq κ] {knd : KeyKind prog w κ} {A : Around} {E : Value→Shared→Prop} {s : Shared}
end
end PySem
namespace PySem
open PySem.Calls PyProof.Rows
section
variable {prog : Program} {w : World} {κ : Type} [DecidableEq κ] {knd : PySem.KeyKind prog w κ} {A : Around} {E : Value→Shared→Prop} {s : Shared}
end
end PySem
set_option Elab.async false
set_option linter.all false
set_option maxRecDepth 100000
namespace L2
open PySem PySem.Spec PyProof.Rows
section
variable {X : Cx}
end
end L2
set_option Elab.async false
set_option linter.all false
set_option maxRecDepth 100000
namespace L2
open PySem PySem.Spec PyProof.Rows
section
variable {X : Cx} {e st : Expr} {te ts : TE} {pos p2 : Pos}
end
section
variable {X : Cx} {o i value : Expr} {td ty tv : TE} {pos pos' : Pos}
theorem vs_dput (hu : X.A.units + 1 < cLine) (ho : VE X o td) (hi : VE X i ty) (hv : VE X value tv) (hs : swapsWith value (some (.Subscript o i pos')) pos.line X.env = pure false:=by rfl) : VS X (.Assign [.Subscript o i pos'] value pos) (sDPut td ty tv):=⟨ps_dput hu ho.1 hi.1 hv.1 hs⟩
end
theorem vg_sub {X : Cx} {pos : Pos} {o i : Expr} {to ti : TE} {t : TSet} (ho : VE X o to) (hi : VE X i ti) (hs : PSet X t)
    (ha : ∀ v,assign (.Subscript o i pos) X.env v = (do
      let ov ← holding [v] (eval o X.env)
      let iv ← holding [v,ov] (eval i X.env)
      standAt pos
      holding [v,ov,iv] (setItem ov iv v)
      release [v,ov,iv] []):=by intro _; rfl) : VG X (.Subscript o i pos) (gSub to ti t):=⟨pg_sub ho.1 hi.1 hs ha⟩
theorem mt_reverseR {X : Cx} : MtR X "list.reverse" rReverse:=mt_reverse
end L2
set_option Elab.async false
set_option linter.all false
set_option maxRecDepth 100000
namespace L2
open PySem PySem.Spec PyProof.Rows
abbrev M61 : Int:=2305843009213693951
def StAt (H : Hp) (a : Addr) : Prop:=∃ s : Int,H a = some (.lst [.int s])∧0 ≤ s∧s < M61
structure Fx (a : Addr) (H H' : Hp) : Prop where
  same : ∀ b o,b ≠ a→H b = some o→H' b = some o
  st : StAt H' a
theorem Fx.trans {a : Addr} {H H1 H2 : Hp} (f : Fx a H H1) (g : Fx a H1 H2) : Fx a H H2:=⟨fun b o n e=>g.same b o n (f.same b o n e),g.st⟩
theorem StAt.same {a : Addr} {H H' : Hp} (h : StAt H a) (e : Same H H') : StAt H' a:=by
  obtain ⟨s,h1,h2⟩:=h
  exact ⟨s,e _ _ h1,h2⟩
theorem Fx.of {a : Addr} {H H' : Hp} (h : StAt H a) (e : Same H H') : Fx a H H':=⟨fun b o _ q=>e b o q,h.same e⟩
theorem Fx.refl {a : Addr} {H : Hp} (h : StAt H a) : Fx a H H:=.of h (Same.refl H)
theorem Fx.sm {a : Addr} {H H1 H2 : Hp} (f : Fx a H H1) (e : Same H1 H2) : Fx a H H2:=f.trans (.of f.st e)
theorem StAt.ne {a p : Addr} {H : Hp} (h : StAt H a) (f : H p = none) : p ≠ a:=by
  obtain ⟨s,h1,_⟩:=h
  exact (ne_of_none h1 f).symm
theorem Fx.tup {a p : Addr} {H H' : Hp} {xs : List V} (f : Fx a H H') (h : StAt H a) (e : H p = some (.tup xs)) : H' p = some (.tup xs):=by
  obtain ⟨s,h1,_⟩:=h
  exact f.same p _ (ne_of e h1 (by intro z; cases z)) e
theorem Fx.upd {a D : Addr} {H H' : Hp} {o : HO} (f : Fx a H H') (hD : H D = none) (ne : D ≠ a) : Fx a H (L2.upd H' D o):=⟨fun b u n e=>by rw [upd_ne (ne_of_none e hD)]; exact f.same b u n e,by
  obtain ⟨s,h1,h2⟩:=f.st
  exact ⟨s,by rw [upd_ne ne.symm]; exact h1,h2⟩⟩
theorem Fx.free {a p : Addr} {H H' : Hp} (f : Fx a H H') (h : H' p = none) : H p = none:=by
  cases e : H p with
  | none=>rfl
  | some o =>
    by_cases z : p = a
    · subst z
      obtain ⟨s,hs,_⟩:=f.st
      rw [hs] at h; cases h
    · rw [f.same p o z e] at h; cases h
end L2
set_option Elab.async false
set_option linter.all false
set_option maxRecDepth 100000
namespace My
open PySem PySem.Spec PyProof.Rows L2
set_option maxHeartbeats 400000
section
variable {P : Program} {w : World} {K : PySem.W.Frag} {mg : Str→Option Value} {base : Heap}
theorem sign_at {z : Str} {j : Int} (h0 : 0 ≤ j) (h1 : j < z.length) : ∃ c,z.cps[j.toNat]? = some c :=
  ⟨_,Array.getElem?_eq_getElem (by show j.toNat < z.length; omega)⟩
theorem add_len (x y : Str) : (x ++ y).length = x.length + y.length:=by
  show (x.cps ++ y.cps).size = _
  rw [Array.size_append]
  rfl
def Lets (x : Str) : Prop:=∀ c ∈ x.cps,97 ≤ c∧c ≤ 122
theorem inA_all : ∀ k : _root_.Fin 26,inA ⟨#[97 + k.val]⟩ = true:=by decide +kernel
theorem inA_of {c : Nat} (h1 : 97 ≤ c) (h2 : c ≤ 122) : inA ⟨#[c]⟩ = true:=by
  have:=inA_all ⟨c - 97,by omega⟩
  simp only at this
  rw [show 97 + (c - 97) = c by omega] at this
  exact this
theorem allIn_of {x : Str} (h : Lets x) : allIn x = true:=by
  unfold allIn
  rw [List.all_eq_true]
  intro b hb
  obtain ⟨i,hi,rfl⟩:=List.mem_map.mp hb
  have hi' : i < x.cps.size:=List.mem_range.mp hi
  have e : x.cps.getD i 0 = x.cps[i]:=by rw [Array.getD_eq_getD_getElem?,Array.getElem?_eq_getElem hi']; rfl
  obtain ⟨h1,h2⟩:=h _ (Array.getElem_mem hi')
  show inA (sgn x i) = true
  unfold sgn
  rw [e]
  exact inA_of h1 h2
theorem Lets.add {x y : Str} (hx : Lets x) (hy : Lets y) : Lets (x ++ y):=fun c hc=>by
  have hc : c ∈ x.cps ++ y.cps:=hc
  rcases Array.mem_append.mp hc with h | h
  · exact hx c h
  · exact hy c h
theorem Lets.one {z : Str} {i c : Nat} (hz : Lets z) (h : z.cps[i]? = some c) : Lets ⟨#[c]⟩:=fun d hd=>by
  have hd : d ∈ #[c]:=hd
  have e : d = c:=by simpa using hd
  subst e
  exact hz _ (Array.mem_of_getElem? h)
theorem lets_abc : Lets abc:=by
  have h : (abc.cps.all fun c=>decide (97 ≤ c) && decide (c ≤ 122)) = true:=by decide +kernel
  intro c hc
  have:=(Array.all_eq_true_iff_forall_mem.mp h) c hc
  rw [Bool.and_eq_true] at this
  exact ⟨of_decide_eq_true this.1,of_decide_eq_true this.2⟩
def sp_seed (K : PySem.W.Frag) : Sp:=fun vs H Q _=>∃ (a : Addr) (ns : List Int),vs = [.ref a]∧SqL K H a (ns.map V.int)∧ns.length ≤ 63∧∀ c H',Same H H'→0 ≤ c→c < M61→Q (.int c) H'
theorem ok__law_seed (T : Txt w K mg) : Ok P w K mg base 1 "_law_seed" ["_law_script"] (sp_seed K):=by
  refine Ok.ofV T.d__law_seed sc__law_seed (fun vs H Q E h=>?_) (fun f cdv A outer s H vs Q E hr h=>?_)
  · obtain ⟨a,ns,rfl,_⟩:=h; rfl
  obtain ⟨a,ns,rfl,ha,h63,q⟩:=h
  refine ⟨_,(vss_cons (vs_set (i:=1) sc__law_seed.nd rfl (by first | exact Or.inl rfl | exact Or.inr rfl) ve_int) (vss_cons (vs_for PassesOwn.never rfl (vi_enum (by rfl) T.n_enumerate (va_c (vv 0) va_nil)) (vg_tup rfl (vgs_cons (vg_name (i:=2) sc__law_seed.nd rfl (by first | exact Or.inl rfl | exact Or.inr rfl)) (vgs_cons (vg_name (i:=3) sc__law_seed.nd rfl (by first | exact Or.inl rfl | exact Or.inr rfl)) vgs_nil))) (vss_one (vs_set (i:=1) sc__law_seed.nd rfl (by first | exact Or.inl rfl | exact Or.inr rfl) (ve_op op_mod (ve_op op_add (ve_op op_add (ve_op op_add (ve_op op_mul (vv 1) ve_int) (ve_op op_mod (vv 3) (ve_op op_pow ve_int ve_int))) (ve_op op_mul ve_int (vv 2))) ve_int) ve_int)))) (vss_one (vs_ret (vv 1))))),?_⟩
  refine ⟨_,rfl,a,ns.map V.int,rfl,ha,for_enum (fun i σ H'=>Same H H'∧∃ (c : Int) (l2 l3 : Option V),0 ≤ c∧c < M61∧σ = [some (.ref a),some (.int c),l2,l3]) ⟨Same.refl H,7,_,_,by decide,by decide,rfl⟩ (fun i σ H' _ ⟨e,_⟩=>e.seq ha) ?_ ?_⟩
  · rintro i σ H' x Tp H'' ex ⟨sm,c,l2,l3,c0,c1,rfl⟩ hT rfl
    obtain ⟨z,hz,rfl⟩:=map_at ex
    refine ⟨Tp,_,rfl,SqT.of upd_same,rfl,_,_,rfl,_,_,rfl,rfl,?_⟩
    refine ⟨_,rfl,_,_,rfl,rfl,.inr ⟨by decide,by decide⟩,_,rfl,_,_,rfl,rfl,⟨by decide,by decide,by decide⟩,_,_,rfl,rfl,(by show (0 : Int) < 10 ^ 30; decide),_,_,rfl,rfl,_,rfl,_,_,rfl,rfl,.inl ⟨by decide,by decide⟩,_,_,rfl,rfl,_,_,rfl,rfl,_,_,rfl,rfl,(by show (0 : Int) < 2305843009213693951; decide),?_⟩
    exact ⟨sm.trans (same_new hT _),_,_,_,Int.emod_nonneg _ (by decide),Int.emod_lt_of_pos _ (by decide),rfl⟩
  · rintro σ H' ⟨sm,c,l2,l3,c0,c1,rfl⟩
    exact ⟨_,rfl,q c H' sm c0 c1⟩
def sp_next : Sp:=fun vs H Q _=>∃ (a : Addr) (m : Int),vs = [.ref a,.int m]∧StAt H a∧0 < m∧∀ c H',Fx a H H'→0 ≤ c→c < m→Q (.int c) H'
theorem ok__law_next (T : Txt w K mg) : Ok P w K mg base 1 "_law_next" ["_law_state","_law_many"] sp_next:=by
  refine Ok.ofV T.d__law_next sc__law_next (fun vs H Q E h=>?_) (fun f cdv A outer s H vs Q E hr h=>?_)
  · obtain ⟨a,m,rfl,_⟩:=h; rfl
  obtain ⟨a,m,rfl,⟨st,hs,s0,s1⟩,hm,q⟩:=h
  refine ⟨_,(vss_cons (vs_asg (ve_op op_mod (ve_op op_add (ve_op op_mul (ve_ix ix_list (vv 0) ve_int (fun _ _=>rfl)) ve_int) ve_int) ve_int) (vg_sub (vv 0) ve_int set_list)) (vss_one (vs_ret (ve_op op_mod (ve_op op_fdiv (ve_ix ix_list (vv 0) ve_int (fun _ _=>rfl)) ve_int) (vv 1))))),?_⟩
  refine ⟨_,rfl,a,_,0,_,rfl,rfl,SqL.of hs,at0 _ _,_,_,rfl,rfl,.inr ⟨by decide,by decide⟩,_,_,rfl,rfl,_,_,rfl,rfl,(by show (0 : Int) < 2305843009213693951; decide),?_⟩
  refine ⟨_,rfl,a,_,0,0,rfl,rfl,hs,rfl,?_⟩
  refine ⟨_,rfl,a,[.int ((st * 1181783497276652981 + 12345678910987) % 2305843009213693951)],0,_,rfl,rfl,SqL.of upd_same,at0 _ _,_,_,rfl,rfl,⟨by decide,by decide⟩,_,rfl,_,_,rfl,rfl,hm,?_⟩
  exact q _ _ ⟨fun b o n h=>by rw [upd_ne n]; exact h,(st * 1181783497276652981 + 12345678910987) % 2305843009213693951,upd_same,Int.emod_nonneg _ (by decide),Int.emod_lt_of_pos _ (by decide)⟩ (Int.emod_nonneg _ (by omega)) (Int.emod_lt_of_pos _ hm)
def sp_lwords : Sp:=fun vs H Q _=>vs = []∧∀ p H',H p = none→Same H H'→H' p = some (.lst words)→Q (.ref p) H'
theorem ok__law_words (T : Txt w K mg) : Ok P w K mg base 1 "_law_words" [] sp_lwords:=by
  refine Ok.ofV T.d__law_words sc__law_words (fun vs H Q E h=>?_) (fun f cdv A outer s H vs Q E hr h=>?_)
  · obtain ⟨rfl,_⟩:=h; rfl
  obtain ⟨rfl,q⟩:=h
  refine ⟨_,(vss_cons (vs_set (i:=0) sc__law_words.nd rfl (by first | exact Or.inl rfl | exact Or.inr rfl) (ve_lstA (va_c ve_str (va_c ve_str (va_c ve_str (va_c ve_str (va_c ve_str (va_c ve_str (va_c ve_str (va_c ve_str (va_c ve_str va_nil))))))))))) (vss_one (vs_ret (ve_op op_catLA (vv 0) (ve_lstA (va_c ve_str (va_c ve_str (va_c ve_str (va_c ve_str (va_c ve_str (va_c ve_str (va_c ve_str (va_c ve_str va_nil))))))))))))),?_⟩
  refine ⟨(by show 9 ≤ sizeLine; decide),fun p1 H1 _ s1 g1=>?_⟩
  refine ⟨_,rfl,(by show 8 ≤ sizeLine; decide),fun p2 H2 _ s2 g2=>?_⟩
  exact ⟨p1,p2,_,_,rfl,rfl,s2 _ _ g1,g2,(by show 9 + 8 ≤ sizeLine; decide),fun p H3 f3 s3 g3=>q p H3 ((s1.trans s2).free f3) (s1.trans (s2.trans s3)) g3⟩
def Nms17 (ns : List Str) : Prop:=ns.length = 17∧(∀ n ∈ ns,Nm n)∧ns.Nodup
theorem Nms17.rev {ns : List Str} (h : Nms17 ns) : Nms17 ns.reverse:=⟨by rw [List.length_reverse]; exact h.1,fun n hn=>h.2.1 n (List.mem_reverse.mp hn),List.pairwise_reverse.mpr (h.2.2.imp fun q=>Ne.symm q)⟩
theorem abc_at : ∀ j : _root_.Fin 26,abc.cps[j.val]? = some (97 + j.val):=by decide +kernel
theorem abc_get {j : Nat} (h : j < 26) : abc.cps[j]? = some (97 + j):=abc_at ⟨j,h⟩
def sgl (o : Nat) : List Str:=(List.range 17).map fun k=>⟨#[97 + (o + k)]⟩
theorem sgl_all : ∀ o : _root_.Fin 10,((sgl o.val).all fun n=>nameB (.str n)) = true∧(Txt.slice abc (some (o.val : Int)) (some ((o.val : Int) + 17))).cps.size = 17∧((List.range 17).all fun i=>decide (sgn (Txt.slice abc (some (o.val : Int)) (some ((o.val : Int) + 17))) i = ⟨#[97 + (o.val + i)]⟩)) = true:=by decide +kernel
theorem str1_inj {a b : Nat} (h : (⟨#[a]⟩ : Str) = ⟨#[b]⟩) : a = b:=by
  have:=congrArg (fun x : Str=>x.cps.toList) h
  simpa using this
theorem sgl_17 {o : Nat} (h : o < 10) : Nms17 (sgl o):=by
  refine ⟨by simp [sgl],fun n hn=>?_,?_⟩
  · have:=(sgl_all ⟨o,h⟩).1
    rw [List.all_eq_true] at this
    exact this n hn
  · refine List.pairwise_map.mpr (List.Pairwise.imp_of_mem ?_ List.nodup_range)
    intro k l _ _ ne e
    have:=str1_inj e
    exact ne (by omega)
theorem sgl_map {o : Nat} (h : o < 10) : ((List.range (Txt.slice abc (some (o : Int)) (some ((o : Int) + 17))).cps.size).map fun i=>V.str (sgn (Txt.slice abc (some (o : Int)) (some ((o : Int) + 17))) i)) = (sgl o).map V.str:=by
  obtain ⟨_,h2,h3⟩:=sgl_all ⟨o,h⟩
  have h2 : (Txt.slice abc (some (o : Int)) (some ((o : Int) + 17))).cps.size = 17:=h2
  rw [h2]
  unfold sgl
  rw [List.map_map]
  refine List.map_congr_left fun i hi=>?_
  rw [List.all_eq_true] at h3
  have:=of_decide_eq_true (h3 i hi)
  show V.str _ = V.str _
  exact congrArg V.str this
def stm (b : Str) (a o : Nat) : Nat→List Str:=fun i=>(List.range i).map fun k=>put b a (97 + (o + k))
theorem stm_17 {b : Str} {a o : Nat} (hb : Lets b) (hl : b.length ≤ 7) (ha : a ≤ b.length) (ho : o < 10) (hw : ∀ w ∈ words,inV w ((stm b a o 17).map V.str) = false) : Nms17 (stm b a o 17):=by
  refine ⟨by simp [stm],fun n hn=>?_,?_⟩
  · obtain ⟨k,hk,rfl⟩:=List.mem_map.mp hn
    have hk:=List.mem_range.mp hk
    have hin : inV (.str (put b a (97 + (o + k)))) words = false:=by
      cases e : inV (.str (put b a (97 + (o + k)))) words with
      | false=>rfl
      | true =>
        exfalso
        unfold inV at e
        rw [List.any_eq_true] at e
        obtain ⟨v,hv,ev⟩:=e
        have hvs : ∃ z : Str,v = .str z:=by
          simp only [words,List.mem_cons,List.not_mem_nil,or_false] at hv
          rcases hv with rfl | rfl | rfl | rfl | rfl | rfl | rfl | rfl | rfl | rfl | rfl | rfl | rfl | rfl | rfl | rfl | rfl <;> exact ⟨_,rfl⟩
        obtain ⟨z,rfl⟩:=hvs
        have e2 : (z == put b a (97 + (o + k))) = true:=ev
        have e3 : z = put b a (97 + (o + k)):=by simpa using e2
        have:=hw _ hv
        rw [inV_map,decide_eq_false_iff_not] at this
        exact this (by rw [e3]; exact hn)
    show ((decide (1 ≤ (put b a (97 + (o + k))).length) && (decide ((put b a (97 + (o + k))).length ≤ 8) && allIn (put b a (97 + (o + k))))) && !inV (.str (put b a (97 + (o + k)))) words) = true
    have hL : Lets (put b a (97 + (o + k))):=fun c hc=>by
      rcases put_mem ha hc with rfl | z
      · omega
      · exact hb c z
    rw [put_len ha,decide_eq_true (p:=1 ≤ b.length + 1) (by omega),decide_eq_true (p:=b.length + 1 ≤ 8) (by omega),allIn_of hL,hin]
    rfl
  · refine List.pairwise_map.mpr (List.Pairwise.imp_of_mem ?_ List.nodup_range)
    intro k l _ _ ne e
    have:=put_inj ha e
    exact ne (by omega)
def sp_lnm : Sp:=fun vs H Q _=>∃ a : Addr,vs = [.ref a,.int 17]∧StAt H a∧∀ p H' ns,Fx a H H'→H p = none→H' p = some (.lst (ns.map V.str))→Nms17 ns→Q (.ref p) H'
set_option maxHeartbeats 1600000 in
theorem ok__law_names (T : Txt w K mg) (G__law_next : Ok P w K mg base 1 "_law_next" ["_law_state","_law_many"] sp_next) (G__law_words : Ok P w K mg base 1 "_law_words" [] sp_lwords) : Ok P w K mg base 2 "_law_names" ["_law_state","_law_many"] sp_lnm:=by
  refine Ok.ofV T.d__law_names sc__law_names (fun vs H Q E h=>?_) (fun f cdv A outer s H vs Q E hr h=>?_)
  · obtain ⟨a,rfl,_⟩:=h; rfl
  obtain ⟨a,rfl,hs,q⟩:=h
  refine ⟨_,(vss_cons (vs_set (i:=2) sc__law_names.nd rfl (by first | exact Or.inl rfl | exact Or.inr rfl) ve_str) (vss_cons (vs_set (i:=3) sc__law_names.nd rfl (by first | exact Or.inl rfl | exact Or.inr rfl) (ve_fn (G__law_next.mono (by decide)) hr (by rfl) (va_c (vv 0) (va_c (ve_op op_sub ve_int (vv 1)) va_nil)))) (vss_cons (vs_set (i:=4) sc__law_names.nd rfl (by first | exact Or.inl rfl | exact Or.inr rfl) ve_str) (vss_cons (vs_for PassesOwn.never rfl (vi_range1 (by rfl) T.n_range (va_c (ve_fn (G__law_next.mono (by decide)) hr (by rfl) (va_c (vv 0) (va_c ve_int va_nil))) va_nil)) (vg_name (i:=5) sc__law_names.nd rfl (by first | exact Or.inl rfl | exact Or.inr rfl)) (vss_one (vs_set (i:=4) sc__law_names.nd rfl (by first | exact Or.inl rfl | exact Or.inr rfl) (ve_op op_add_str (vv 4) (ve_item_str (vv 2) (ve_fn (G__law_next.mono (by decide)) hr (by rfl) (va_c (vv 0) (va_c ve_int va_nil))) (fun _ _=>rfl)))))) (vss_cons (vs_set (i:=6) sc__law_names.nd rfl (by first | exact Or.inl rfl | exact Or.inr rfl) (ve_fn (G__law_next.mono (by decide)) hr (by rfl) (va_c (vv 0) (va_c (ve_op op_add (ve_callB call_len_str (by rfl) T.n_len bf_len (va_c (vv 4) va_nil)) ve_int) va_nil)))) (vss_cons (vs_set (i:=7) sc__law_names.nd rfl (by first | exact Or.inl rfl | exact Or.inr rfl) (ve_lstA va_nil)) (vss_cons (vs_for PassesOwn.never rfl (vi_range1 (by rfl) T.n_range (va_c (vv 1) va_nil)) (vg_name (i:=5) sc__law_names.nd rfl (by first | exact Or.inl rfl | exact Or.inr rfl)) (vss_one (vs_expr (ve_bm PySem.F.plainAttrs_list PySem.F.slot_list_append PySem.F.type_list_append mt_appendR (vv 7) (va_c (ve_op op_add_str (ve_op op_add_str (ve_slice sl_strX (vv 4) vo_none (vo_some (vv 6))) (ve_item_str (vv 2) (ve_op op_add (vv 3) (vv 5)) (fun _ _=>rfl))) (ve_slice sl_strX (vv 4) (vo_some (vv 6)) vo_none)) va_nil))))) (vss_cons (vs_if (vt_val (ve_callB (call_any rfl) (by rfl) T.n_any bf_any (va_c (ve_comp (N:=["_law_word","_law_names_here"]) ⟨by decide +kernel,rfl,by decide +kernel,by decide +kernel⟩ (hfr_of (defScope s__law_names) rfl (by decide +kernel)) rfl (vi_list (ve_fn0 (G__law_words.mono (by decide)) hr (by rfl))) (fun cl s' H' fp=>⟨(vg_name (i:=0) (show (["_law_word","_law_names_here"] : List Str).Nodup from by decide +kernel) rfl (Or.inl rfl)),vf_nil,(ve_cmpR (op_in_seqK (K:=K)) (vv 0) (vv 1) (by with_unfolding_all rfl))⟩)) va_nil))) (vss_one (vs_set (i:=7) sc__law_names.nd rfl (by first | exact Or.inl rfl | exact Or.inr rfl) (ve_callTy (call_listS rfl) (by rfl) T.n_list bt_list (va_c (ve_slice sl_strX (vv 2) (vo_some (vv 3)) (vo_some (ve_op op_add (vv 3) (vv 1)))) va_nil)))) vss_nil) (vss_cons (vs_if (vt_cmpR op_eq (ve_fn (G__law_next.mono (by decide)) hr (by rfl) (va_c (vv 0) (va_c ve_int va_nil))) ve_int (nomark _)) (vss_one (vs_expr (ve_bm0 PySem.F.plainAttrs_list PySem.F.slot_list_reverse PySem.F.type_list_reverse mt_reverseR (vv 7)))) vss_nil) (vss_one (vs_ret (vv 7)))))))))))),?_⟩
  have al : abc.length = 26:=by decide +kernel
  refine ⟨_,rfl,_,rfl,_,_,rfl,rfl,a,10,rfl,hs,by decide,fun od H1 f1 o0 o1=>?_⟩
  obtain ⟨o,rfl⟩ : ∃ o : Nat,od = o:=⟨od.toNat,by omega⟩
  have ho : o < 10:=by omega
  refine ⟨_,rfl,a,8,rfl,f1.st,by decide,fun n H2 f2 n0 n1=>?_⟩
  refine ⟨_,rfl,by omega,by omega,for_range (n:=n.toNat) (fun i σ H'=>Fx a H H'∧∃ (x : Str) (l5 : Option V),σ = [some (.ref a),some (.int 17),some (.str abc),some (.int (o : Nat)),some (.str x),l5,none,none]∧x.length ≤ i∧Lets x) ⟨f1.trans f2,_,_,rfl,by decide +kernel,fun d hd=>by simp [show (("" : Str).cps) = #[] from rfl] at hd⟩ ?_ ?_⟩
  · rintro i σ H' hi ⟨fx,x,l5,rfl,hl,hx⟩
    refine ⟨_,rfl,_,rfl,_,rfl,a,26,rfl,fx.st,by decide,fun d H3 f3 d0 d1=>?_⟩
    obtain ⟨ch,hch⟩:=sign_at (z:=abc) d0 (by rw [al]; exact d1)
    refine ⟨_,_,_,rfl,rfl,d0,(by omega),(by rw [al]; exact d1),hch,_,_,rfl,rfl,?_,fx.trans f3,_,_,rfl,?_,hx.add (lets_abc.one hch)⟩
    · show x.length + 1 ≤ sizeLine
      exact small (by omega)
    · rw [add_len]
      show x.length + 1 ≤ i + 1
      omega
  rintro σ H3 ⟨f3,b,l5,rfl,hl,hb⟩
  have hb7 : b.length ≤ 7:=by omega
  refine ⟨_,rfl,_,rfl,_,rfl,small (by omega),_,_,rfl,rfl,a,_,rfl,f3.st,(by show (0 : Int) < (b.length : Int) + 1; omega),fun ai H4 f4 a0 a1=>?_⟩
  obtain ⟨at',rfl⟩ : ∃ at' : Nat,ai = at':=⟨ai.toNat,by omega⟩
  have ha : at' ≤ b.length:=by
    have : (at' : Int) < (b.length : Int) + 1:=a1
    omega
  have fx4:=f3.trans f4
  refine ⟨(by show 0 ≤ sizeLine; decide),fun p H5 fp s5 g5=>?_⟩
  have fp0 : H p = none:=fx4.free fp
  have npa : p ≠ a:=hs.ne fp0
  refine ⟨_,rfl,_,rfl,by decide,by decide,for_range (n:=17) (fun i σ H'=>Fx a H H'∧H' p = some (.lst ((stm b at' o i).map V.str))∧∃ l5,σ = [some (.ref a),some (.int 17),some (.str abc),some (.int (o : Nat)),some (.str b),l5,some (.int (at' : Nat)),some (.ref p)]) ⟨fx4.sm s5,g5,_,rfl⟩ ?_ ?_⟩
  · rintro i σ H' hi ⟨fx,gp,l5,rfl⟩
    have s1:=Txt.slice_le b none (some ((at' : Nat) : Int))
    have s2:=Txt.slice_le b (some ((at' : Nat) : Int)) none
    have ej : ((o : Int) + (0 + (i : Int))).toNat = o + i:=by omega
    have hch : abc.cps[((o : Int) + (0 + (i : Int))).toNat]? = some (97 + (o + i)):=by rw [ej]; exact abc_get (by omega)
    refine ⟨_,rfl,.inl ⟨rfl,_,SqL.of gp⟩,_,rfl,_,rfl,_,rfl,_,rfl,small (by omega),_,rfl,_,rfl,_,rfl,_,_,rfl,rfl,_,_,_,rfl,rfl,(by show 0 ≤ (o : Int) + (0 + (i : Int)); omega),(by show (o : Int) + (0 + (i : Int)) < 2 ^ 63; omega),(by rw [al]; show (o : Int) + (0 + (i : Int)) < 26; omega),hch,_,_,rfl,rfl,?_,_,rfl,_,rfl,_,rfl,_,rfl,small (by omega),_,_,rfl,rfl,?_,?_⟩
    · show (Txt.slice b none (some ((at' : Nat) : Int))).length + 1 ≤ sizeLine
      exact small (by omega)
    · rw [add_len]
      show (Txt.slice b none (some ((at' : Nat) : Int))).length + 1 + _ ≤ sizeLine
      exact small (by omega)
    refine ⟨p,_,_,rfl,rfl,gp,?_,fx.upd fp0 npa,?_,_,rfl⟩
    · rw [List.length_map]
      exact small1000 (by simp [stm]; omega)
    · rw [upd_same]
      unfold stm
      rw [List.range_succ,List.map_append,List.map_append]
      rfl
  rintro σ H6 ⟨f6,g6,l5',rfl⟩
  dsimp only [tSeq,tIfS,tB,tCB,tCons]
  refine comp_anyL (K:=K) (fun us=>us = words) (fun i _ y=>∃ w',words[i]? = some w'∧y = .bl (inV w' ((stm b at' o 17).map V.str))) (fun _ h=>h) (fun _ h=>h) [none,some (.ref p)] ?_ rfl (fun R r=>⟨rfl,fun W H7 _ s7 g7=>r W H7 _ s7 g7 rfl⟩) (fun us e=>by subst e; exact small (by decide)) (fun us e i x ex H' R l sm r=>?_) fun us e D H7 ys s7 g7 hly hR=>?_
  · exact cap_at1 7 (by decide +kernel) rfl rfl (by first | exact Or.inl rfl | exact Or.inr (Or.inl rfl) | exact Or.inr (Or.inr rfl))
  · subst e
    have fl : flatV x = true:=by
      have:=words_flat
      rw [List.all_eq_true] at this
      exact this x (List.mem_of_getElem? ex)
    exact ⟨_,rfl,_,rfl,p,_,rfl,.inl (SqL.of (sm _ _ g6)),fl,flat_map,r _ _ (Same.refl _) ⟨x,ex,rfl⟩⟩
  subst e
  have ey : ys = (words.map fun w'=>inV w' ((stm b at' o 17).map V.str)).map V.bl:=by
    rw [List.map_map]
    refine List.ext_getElem? fun i=>?_
    by_cases hi : i < ys.length
    · obtain ⟨w',h1,h2⟩:=hR i ys[i] (List.getElem?_eq_getElem hi)
      rw [List.getElem?_eq_getElem hi,List.getElem?_map,h1,h2]
      rfl
    · rw [List.getElem?_eq_none (by omega),List.getElem?_eq_none (by rw [List.length_map]; omega)]
  rw [ey] at g7
  refine ⟨D,_,rfl,SqL.of g7,_,rfl,?_⟩
  have f7:=f6.sm s7
  refine ite2 (fun c=>?_) (fun c=>?_)
  · refine ⟨_,rfl,_,rfl,_,rfl,_,rfl,_,rfl,_,_,rfl,rfl,_,rfl,abc,rfl,small (by rw [al]; decide),?_⟩
    refine ⟨_,rfl,?_,fun p2 H8 fp2 s8 g8=>?_⟩
    · have:=Txt.slice_le abc (some (o : Int)) (some ((o : Int) + 17))
      rw [al] at this
      exact Nat.le_trans this (by decide)
    have g8' : H8 p2 = some (.lst ((sgl o).map V.str)):=by rw [g8]; exact congrArg (fun z=>some (HO.lst z)) (sgl_map ho)
    have f8:=f7.sm s8
    have fp20 : H p2 = none:=f7.free fp2
    refine ⟨_,rfl,a,2,rfl,f8.st,by decide,fun d H9 f9 d0 d1=>?_⟩
    have g9:=f9.same _ _ (hs.ne fp20) g8'
    refine ⟨rfl,_,rfl,ite2 (fun _=>?_) (fun _=>?_)⟩
    · refine ⟨_,rfl,.inl ⟨rfl,_,SqL.of g9⟩,p2,_,rfl,rfl,g9,?_⟩
      refine ⟨_,rfl,q p2 _ (sgl o).reverse ((f8.trans f9).upd fp20 (hs.ne fp20)) fp20 ?_ (sgl_17 ho).rev⟩
      rw [upd_same,List.map_reverse]
    · exact ⟨_,rfl,q p2 _ (sgl o) (f8.trans f9) fp20 g9 (sgl_17 ho)⟩
  · have hw : ∀ w' ∈ words,inV w' ((stm b at' o 17).map V.str) = false:=fun w' hw'=>by
      cases e : inV w' ((stm b at' o 17).map V.str) with
      | false=>rfl
      | true =>
        exfalso
        apply c
        rw [List.any_eq_true]
        exact ⟨true,List.mem_map.mpr ⟨w',hw',e⟩,rfl⟩
    have hn:=stm_17 hb hb7 ha ho hw
    refine ⟨_,rfl,a,2,rfl,f7.st,by decide,fun d H9 f9 d0 d1=>?_⟩
    have g9:=f9.same _ _ npa (s7 _ _ g6)
    refine ⟨rfl,_,rfl,ite2 (fun _=>?_) (fun _=>?_)⟩
    · refine ⟨_,rfl,.inl ⟨rfl,_,SqL.of g9⟩,p,_,rfl,rfl,g9,?_⟩
      refine ⟨_,rfl,q p _ (stm b at' o 17).reverse ((f7.trans f9).upd fp0 npa) fp0 ?_ hn.rev⟩
      rw [upd_same,List.map_reverse]
    · exact ⟨_,rfl,q p _ (stm b at' o 17) (f7.trans f9) fp0 g9 hn⟩
end
end My
set_option Elab.async false
set_option linter.all false
set_option maxRecDepth 100000
namespace My
open PySem PySem.Spec PyProof.Rows L2
set_option maxHeartbeats 400000
section
variable {P : Program} {w : World} {K : PySem.W.Frag} {mg : Str→Option Value} {base : Heap}
def clsOf : Nat→Cls
  | 0=>.col
  | 1=>.kind
  | 2=>.twice
  | 3=>.wide
  | _=>.tab
abbrev Fst (a b c : Str) : Hdr:=[(a,"number"),(b,"word"),(c,"number")]
abbrev Snd (a d : Str) : Hdr:=[(a,"number"),(d,"word")]
theorem nw : ("number" : Str) ≠ "word":=by decide +kernel
theorem wn : ("word" : Str) ≠ "number":=by decide +kernel
section
variable {a b c d e z x : Str}
theorem lk_a : lookE (Fst a b c) a = .ok "number":=by simp [lookE,look]
theorem lk_b (h : a ≠ b) : lookE (Fst a b c) b = .ok "word":=by simp [lookE,look,h]
theorem lk_c (h : a ≠ c) (h2 : b ≠ c) : lookE (Fst a b c) c = .ok "number":=by simp [lookE,look,h,h2]
theorem lk_no (h : a ≠ x) (h2 : b ≠ x) (h3 : c ≠ x) : lookE (Fst a b c) x = .error .col:=by simp [lookE,look,h,h2,h3]
theorem ls_a : lookE (Snd a d) a = .ok "number":=by simp [lookE,look]
theorem ls_d (h : a ≠ d) : lookE (Snd a d) d = .ok "word":=by simp [lookE,look,h]
theorem ls_no (h : a ≠ x) (h2 : d ≠ x) : lookE (Snd a d) x = .error .col:=by simp [lookE,look,h,h2]
structure Six (a b c d e z : Str) : Prop where
  ab : a ≠ b
  ac : a ≠ c
  ad : a ≠ d
  ae : a ≠ e
  az : a ≠ z
  bc : b ≠ c
  bd : b ≠ d
  be : b ≠ e
  bz : b ≠ z
  cd : c ≠ d
  ce : c ≠ e
  cz : c ≠ z
  de : d ≠ e
  dz : d ≠ z
  ez : e ≠ z
variable (S : Six a b c d e z) (hs : Str→Option Hdr) (q r : Qn)
def Bad (hs : Str→Option Hdr) (s : Qn) (ih : List Hdr) (n : Nat) : Prop:=bnd (hereE hs s ih) finE = .error (clsOf n)
abbrev one : Oth:=.val (.int 1)
theorem kind1 : kindS (.int 1) = "number":=by simp [kindS,whole]
theorem kindx (y : Str) : kindS (.str y) = "word":=by simp [kindS,whole]
include S
theorem w1 : Bad hs (.whr q [⟨z,"=",one⟩]) [Fst a b c] 0:=by simp [Bad,hereE,whereE,mapE,bnd,lk_no S.az S.bz S.cz,clsOf]
theorem w2 : Bad hs (.whr q [⟨a,"=",.col z⟩]) [Fst a b c] 0:=by simp [Bad,hereE,whereE,mapE,bnd,othE,lk_a,lk_no S.az S.bz S.cz,clsOf]
theorem w3 : Bad hs (.whr q [⟨b,"<",one⟩]) [Fst a b c] 1:=by simp [Bad,hereE,whereE,mapE,bnd,othE,lk_b S.ab,kind1,likeE,wn,clsOf]
theorem w4 : Bad hs (.whr q [⟨a,"=",.val (.str "x")⟩,⟨z,"=",one⟩]) [Fst a b c] 0:=by simp [Bad,hereE,whereE,mapE,bnd,lk_a,lk_no S.az S.bz S.cz,clsOf]
theorem w5 : Bad hs (.whr q [⟨a,">",.col b⟩]) [Fst a b c] 1:=by simp [Bad,hereE,whereE,mapE,bnd,othE,lk_a,lk_b S.ab,likeE,nw,clsOf]
theorem w6 : Bad hs (.whr q [⟨a,"=",one⟩,⟨c,"!",.val (.str "")⟩]) [Fst a b c] 1:=by simp [Bad,hereE,whereE,mapE,bnd,othE,lk_a,lk_c S.ac S.bc,kind1,kindx,likeE,nw,clsOf]
theorem k1 : Bad hs (.keep q [a,z]) [Fst a b c] 0:=by simp [Bad,hereE,keepE,mapE,bnd,lk_a,lk_no S.az S.bz S.cz,clsOf]
theorem k2 : Bad hs (.keep q [a,a]) [Fst a b c] 2:=by simp [Bad,hereE,keepE,mapE,bnd,lk_a,finE,unlE,clsOf]
theorem k3 : Bad hs (.keep q [a,a,z]) [Fst a b c] 0:=by simp [Bad,hereE,keepE,mapE,bnd,lk_a,lk_no S.az S.bz S.cz,clsOf]
theorem n1 : Bad hs (.nmd q [a,b]) [Fst a b c] 0:=by simp [Bad,hereE,namedE,bnd,clsOf]
theorem n2 : Bad hs (.nmd q [a,b,c,d]) [Fst a b c] 0:=by simp [Bad,hereE,namedE,bnd,clsOf]
theorem n3 : Bad hs (.nmd q [d,e,d]) [Fst a b c] 2:=by simp [Bad,hereE,namedE,bnd,finE,unlE,clsOf]
theorem n4 : Bad hs (.nmd q [a,a]) [Fst a b c] 0:=by simp [Bad,hereE,namedE,bnd,clsOf]
theorem j1 : Bad hs (.join q r [(z,a)]) [Fst a b c,Snd a d] 0:=by simp [Bad,hereE,joinE,mapE,bnd,lk_no S.az S.bz S.cz,clsOf]
theorem j2 : Bad hs (.join q r [(a,z)]) [Fst a b c,Snd a d] 0:=by simp [Bad,hereE,joinE,mapE,bnd,lk_a,ls_no S.az S.dz,clsOf]
theorem j3 : Bad hs (.join q r [(a,d)]) [Fst a b c,Snd a d] 1:=by simp [Bad,hereE,joinE,mapE,bnd,lk_a,ls_d S.ad,likeE,nw,clsOf]
theorem j4 : Bad hs (.join q r [(b,a),(a,z)]) [Fst a b c,Snd a d] 0:=by simp [Bad,hereE,joinE,mapE,bnd,lk_a,lk_b S.ab,ls_a,ls_no S.az S.dz,clsOf]
theorem j5 : Bad hs (.join q r [(b,d)]) [Fst a b c,Snd a d] 2:=by simp [Bad,hereE,joinE,mapE,bnd,lk_b S.ab,ls_d S.ad,likeE,unlE,finE,S.ad,S.ad.symm,clsOf]
theorem j6 : Bad hs (.join q r [(a,a),(c,a)]) [Fst a b c,Snd a d] 2:=by simp [Bad,hereE,joinE,mapE,bnd,lk_a,lk_c S.ac S.bc,ls_a,likeE,unlE,S.ac,clsOf]
theorem j7 : Bad hs (.join q r [(b,d),(b,d)]) [Fst a b c,Snd a d] 2:=by simp [Bad,hereE,joinE,mapE,bnd,lk_b S.ab,ls_d S.ad,likeE,unlE,clsOf]
theorem j8 : Bad hs (.join q r [(a,a),(c,a),(a,d)]) [Fst a b c,Snd a d] 1:=by simp [Bad,hereE,joinE,mapE,bnd,lk_a,lk_c S.ac S.bc,ls_a,ls_d S.ad,likeE,nw,clsOf]
theorem j9 : Bad hs (.join q r [(a,a)]) [Fst a b c,Fst a b c] 2:=by simp [Bad,hereE,joinE,mapE,bnd,lk_a,likeE,unlE,finE,S.ab.symm,S.ac.symm,clsOf]
theorem g1 : Bad hs (.group q [z] []) [Fst a b c] 0:=by simp [Bad,hereE,groupE,keepE,mapE,bnd,lk_no S.az S.bz S.cz,clsOf]
theorem g2 : Bad hs (.group q [a] [⟨"sum",some z,d⟩]) [Fst a b c] 0:=by simp [Bad,hereE,groupE,keepE,madeE,smE,mapE,bnd,lk_a,lk_no S.az S.bz S.cz,clsOf]
theorem g3 : Bad hs (.group q [a] [⟨"sum",some b,d⟩,⟨"most",some z,e⟩]) [Fst a b c] 0:=by simp [Bad,hereE,groupE,keepE,madeE,smE,mapE,bnd,lk_a,lk_b S.ab,lk_no S.az S.bz S.cz,clsOf]
theorem g4 : Bad hs (.group q [a] [⟨"sum",some b,d⟩]) [Fst a b c] 1:=by simp [Bad,hereE,groupE,keepE,madeE,smE,mapE,bnd,lk_a,lk_b S.ab,sumsE,badS,clsOf]
theorem g5 : Bad hs (.group q [a,a] [⟨"sum",some b,d⟩]) [Fst a b c] 1:=by simp [Bad,hereE,groupE,keepE,madeE,smE,mapE,bnd,lk_a,lk_b S.ab,sumsE,badS,clsOf]
theorem g6 : Bad hs (.group q [a,a] []) [Fst a b c] 2:=by simp [Bad,hereE,groupE,keepE,madeE,mapE,bnd,lk_a,sumsE,finE,unlE,clsOf]
theorem g7 : Bad hs (.group q [a] [⟨"count",none,a⟩]) [Fst a b c] 2:=by simp [Bad,hereE,groupE,keepE,madeE,smE,mapE,bnd,lk_a,sumsE,badS,finE,unlE,nw,clsOf]
theorem g8 : Bad hs (.group q [] [⟨"most",some b,d⟩,⟨"least",some b,d⟩]) [Fst a b c] 2:=by
  have h1 : ("most" : Str) ≠ "sum":=by decide +kernel
  have h2 : ("least" : Str) ≠ "sum":=by decide +kernel
  simp [Bad,hereE,groupE,keepE,madeE,smE,mapE,bnd,lk_b S.ab,sumsE,badS,h1,h2,finE,unlE,clsOf]
theorem g9 : Bad hs (.group q [] []) [Fst a b c] 3:=by simp [Bad,hereE,groupE,keepE,madeE,mapE,bnd,sumsE,finE,unlE,clsOf]
theorem f1 : Bad hs (.first q [(z,"up")] 3) [Fst a b c] 0:=by simp [Bad,hereE,firstE,keepE,mapE,bnd,lk_no S.az S.bz S.cz,clsOf]
theorem f2 : Bad hs (.first q [(a,"up"),(a,"down")] 3) [Fst a b c] 2:=by simp [Bad,hereE,firstE,keepE,mapE,bnd,lk_a,unlE,clsOf]
theorem f3 : Bad hs (.first q [(a,"up"),(a,"up"),(z,"up")] 3) [Fst a b c] 0:=by simp [Bad,hereE,firstE,keepE,mapE,bnd,lk_a,lk_no S.az S.bz S.cz,clsOf]
end
abbrev Wd (w0 w1 w2 w3 w4 w5 w6 w7 : Str) : Hdr:=[(w0,"number"),(w1,"number"),(w2,"number"),(w3,"number"),(w4,"number"),(w5,"number"),(w6,"number"),(w7,"number")]
section
variable {a b c w0 w1 w2 w3 w4 w5 w6 w7 : Str} (hs : Str→Option Hdr) (q r : Qn)
theorem lw1 (h : w0 ≠ w1) : lookE (Wd w0 w1 w2 w3 w4 w5 w6 w7) w1 = .ok "number":=by simp [lookE,look,h]
theorem jw1 (N : [a,b,c,w0,w1,w2,w3,w4,w5,w6,w7].Nodup) : Bad hs (.join q r [(a,w1)]) [Fst a b c,Wd w0 w1 w2 w3 w4 w5 w6 w7] 3:=by
  simp only [List.nodup_cons,List.mem_cons,not_or,List.not_mem_nil,not_false_eq_true,and_true,List.nodup_nil] at N
  obtain ⟨⟨ab,ac,a0,a1,a2,a3,a4,a5,a6,a7⟩,⟨bc,b0,b1,b2,b3,b4,b5,b6,b7⟩,⟨c0,c1,c2,c3,c4,c5,c6,c7⟩,⟨p01,p02,p03,p04,p05,p06,p07⟩,⟨p12,p13,p14,p15,p16,p17⟩,⟨p23,p24,p25,p26,p27⟩,⟨p34,p35,p36,p37⟩,⟨p45,p46,p47⟩,⟨p56,p57⟩,p67⟩:=N
  have q2:=Ne.symm p12; have q3:=Ne.symm p13; have q4:=Ne.symm p14; have q5:=Ne.symm p15; have q6:=Ne.symm p16; have q7:=Ne.symm p17
  simp [Bad,hereE,joinE,mapE,bnd,lk_a,lw1 p01,likeE,unlE,finE,clsOf,p01,q2,q3,q4,q5,q6,q7,ab,ac,a0,a2,a3,a4,a5,a6,a7,bc,b0,b2,b3,b4,b5,b6,b7,c0,c2,c3,c4,c5,c6,c7,p02,p03,p04,p05,p06,p07,p23,p24,p25,p26,p27,p34,p35,p36,p37,p45,p46,p47,p56,p57,p67]
theorem jw2 (N : [a,b,c,w0,w1,w2,w3,w4,w5,w6,w7].Nodup) : Bad hs (.join q r [(w1,c)]) [Wd w0 w1 w2 w3 w4 w5 w6 w7,Fst a b c] 3:=by
  simp only [List.nodup_cons,List.mem_cons,not_or,List.not_mem_nil,not_false_eq_true,and_true,List.nodup_nil] at N
  obtain ⟨⟨ab,ac,a0,a1,a2,a3,a4,a5,a6,a7⟩,⟨bc,b0,b1,b2,b3,b4,b5,b6,b7⟩,⟨c0,c1,c2,c3,c4,c5,c6,c7⟩,⟨p01,p02,p03,p04,p05,p06,p07⟩,⟨p12,p13,p14,p15,p16,p17⟩,⟨p23,p24,p25,p26,p27⟩,⟨p34,p35,p36,p37⟩,⟨p45,p46,p47⟩,⟨p56,p57⟩,p67⟩:=N
  simp [Bad,hereE,joinE,mapE,bnd,lk_c ac bc,lw1 p01,likeE,unlE,finE,clsOf,ab,ac,bc,Ne.symm a0,Ne.symm a1,Ne.symm a2,Ne.symm a3,Ne.symm a4,Ne.symm a5,Ne.symm a6,Ne.symm a7,Ne.symm b0,Ne.symm b1,Ne.symm b2,Ne.symm b3,Ne.symm b4,Ne.symm b5,Ne.symm b6,Ne.symm b7,p01,p02,p03,p04,p05,p06,p07,p12,p13,p14,p15,p16,p17,p23,p24,p25,p26,p27,p34,p35,p36,p37,p45,p46,p47,p56,p57,p67]
theorem jw3 (N : [a,b,c,w0,w1,w2,w3,w4,w5,w6,w7].Nodup) : Bad hs (.join q r [(w1,w1)]) [Wd w0 w1 w2 w3 w4 w5 w6 w7,Wd w0 w1 w2 w3 w4 w5 w6 w7] 2:=by
  simp only [List.nodup_cons,List.mem_cons,not_or,List.not_mem_nil,not_false_eq_true,and_true,List.nodup_nil] at N
  obtain ⟨⟨ab,ac,a0,a1,a2,a3,a4,a5,a6,a7⟩,⟨bc,b0,b1,b2,b3,b4,b5,b6,b7⟩,⟨c0,c1,c2,c3,c4,c5,c6,c7⟩,⟨p01,p02,p03,p04,p05,p06,p07⟩,⟨p12,p13,p14,p15,p16,p17⟩,⟨p23,p24,p25,p26,p27⟩,⟨p34,p35,p36,p37⟩,⟨p45,p46,p47⟩,⟨p56,p57⟩,p67⟩:=N
  simp [Bad,hereE,joinE,mapE,bnd,lw1 p01,likeE,unlE,finE,clsOf,p01]
theorem gw (N : [a,b,c,w0,w1,w2,w3,w4,w5,w6,w7].Nodup) : Bad hs (.group q [w0,w1,w2,w3,w4,w5,w6,w7] [⟨"count",none,a⟩]) [Wd w0 w1 w2 w3 w4 w5 w6 w7] 3:=by
  simp only [List.nodup_cons,List.mem_cons,not_or,List.not_mem_nil,not_false_eq_true,and_true,List.nodup_nil] at N
  obtain ⟨⟨ab,ac,a0,a1,a2,a3,a4,a5,a6,a7⟩,⟨bc,b0,b1,b2,b3,b4,b5,b6,b7⟩,⟨c0,c1,c2,c3,c4,c5,c6,c7⟩,⟨p01,p02,p03,p04,p05,p06,p07⟩,⟨p12,p13,p14,p15,p16,p17⟩,⟨p23,p24,p25,p26,p27⟩,⟨p34,p35,p36,p37⟩,⟨p45,p46,p47⟩,⟨p56,p57⟩,p67⟩:=N
  simp [Bad,hereE,groupE,keepE,madeE,smE,mapE,bnd,lookE,look,sumsE,badS,nw,unlE,finE,clsOf,p01,p02,p03,p04,p05,p06,p07,p12,p13,p14,p15,p16,p17,p23,p24,p25,p26,p27,p34,p35,p36,p37,p45,p46,p47,p56,p57,p67,Ne.symm a0,Ne.symm a1,Ne.symm a2,Ne.symm a3,Ne.symm a4,Ne.symm a5,Ne.symm a6,Ne.symm a7]
end
section
variable {H H1 H' : Hp} {v : V}
def TS (H H' : Hp) : Prop:=(∀ b xs,H b = some (.tup xs)→H' b = some (.tup xs))∧∀ b o u,H b = some (.frz o u)→H' b = some (.frz o u)
theorem TS.of (s : Same H H') : TS H H':=⟨fun b xs e=>s _ _ e,fun b o u e=>s _ _ e⟩
theorem TS.upd {D : Addr} {ys zs : List V} (e : H D = some (.lst ys)) : TS H (upd H D (.lst zs)) :=
  ⟨fun b xs q=>by rw [upd_ne (ne_of q e (by intro z; cases z))]; exact q,fun b o u q=>by rw [upd_ne (ne_of q e (by intro z; cases z))]; exact q⟩
theorem TS.seqT {a : Addr} {xs : List V} (t : TS H H') (h : SqT K H a xs) : SqT K H' a xs:=by
  rcases h with (h | ⟨o,h⟩) | h
  · exact .inl (.inl (t.1 _ _ h))
  · exact .inl (.inr ⟨o,t.2 _ _ _ h⟩)
  · exact .inr h
theorem IsC.ts {c : Str × Str} (t : TS H H') (h : IsC K H v c) : IsC K H' v c:=by
  obtain ⟨p,rfl,hp⟩:=h
  exact ⟨p,rfl,t.seqT hp⟩
theorem TupR.ts {α : Type} {R S : V→α→Prop} {xs : List α} (t : TS H H') (k : ∀ a b,R a b→S a b) (h : TupR K H R v xs) : TupR K H' S v xs:=by
  obtain ⟨a,vs,rfl,ha,hr⟩:=h
  exact ⟨a,vs,rfl,t.seqT ha,hr.imp k⟩
theorem TupS.ts {α : Type} {S : PySem.W.Frag→Hp→V→α→Prop} {lo hi : Nat} {xs : List α} (t : TS H H') (k : ∀ {v x},S K H v x→S K H' v x) (h : TupS S lo hi K H v xs) : TupS S lo hi K H' v xs:=⟨TupR.ts t (fun _ _=>k) h.1,h.2⟩
theorem IsHd.ts {hd : Hdr} (t : TS H H') (h : IsHd K H v hd) : IsHd K H' v hd:=TupR.ts t (fun _ _ q=>q.ts t) h
end
end
end My
set_option Elab.async false
set_option linter.all false
set_option maxRecDepth 100000
namespace My
open PySem PySem.Spec PyProof.Rows L2
set_option maxHeartbeats 400000
section
variable {P : Program} {w : World} {K : PySem.W.Frag} {mg : Str→Option Value} {base : Heap}
section
variable {H H1 H' : Hp} {v : V}
theorem Th.flat {x : V} (hv : valB x = true) (h : Th K H x) : Th K H' x:=by
  rcases h with h | h | h | ⟨k,h⟩
  · exact .inl h
  · exact .inr (.inl h)
  · exact .inr (.inr (.inl h))
  · cases h <;> cases hv
theorem IsO.ts {o : Oth} (e : TS H H') (h : IsO K H v o) : IsO K H' v o:=by
  cases o with
  | val x=>obtain ⟨a,rfl,ha,hx,hv⟩:=h; exact ⟨a,rfl,e.seqT ha,hx.flat hv,hv⟩
  | col d=>obtain ⟨a,rfl,ha,hd⟩:=h; exact ⟨a,rfl,e.seqT ha,hd⟩
theorem IsT.ts {t : Tst} (e : TS H H') (h : IsT K H v t) : IsT K H' v t:=by
  obtain ⟨a,w,rfl,ha,h1,h2,h3⟩:=h
  exact ⟨a,w,rfl,e.seqT ha,h1,h2,h3.ts e⟩
theorem IsPr.ts {t : Str × Str} (e : TS H H') (h : IsPr K H v t) : IsPr K H' v t:=by
  obtain ⟨a,rfl,ha,h1⟩:=h
  exact ⟨a,rfl,e.seqT ha,h1⟩
theorem IsKy.ts {t : Str × Str} (e : TS H H') (h : IsKy K H v t) : IsKy K H' v t:=by
  obtain ⟨a,rfl,ha,h1⟩:=h
  exact ⟨a,rfl,e.seqT ha,h1⟩
theorem IsSm.ts {t : Sm} (e : TS H H') (h : IsSm K H v t) : IsSm K H' v t:=by
  obtain ⟨a,rfl,hn,h1⟩:=h
  refine ⟨a,rfl,hn,?_⟩
  rcases h1 with ⟨x,y,z⟩ | ⟨c,x,y,z,u⟩
  · exact .inl ⟨x,y,e.seqT z⟩
  · exact .inr ⟨c,x,y,z,e.seqT u⟩
theorem IsQ.ts {q : Qn} (e : TS H H') (h : IsQ K H v q) : IsQ K H' v q:=by
  induction h with
  | table a b=>exact .table (e.seqT a) b
  | whr a _ c ih=>exact .whr (e.seqT a) ih (c.ts e fun h=>h.ts e)
  | keep a _ c ih=>exact .keep (e.seqT a) ih (c.ts e fun h=>h)
  | nmd a _ c ih=>exact .nmd (e.seqT a) ih (c.ts e fun h=>h)
  | join a _ _ c ih1 ih2=>exact .join (e.seqT a) ih1 ih2 (c.ts e fun h=>h.ts e)
  | group a _ c d ih=>exact .group (e.seqT a) ih (c.ts e fun h=>h) (d.ts e fun h=>h.ts e)
  | first a _ c d ih=>exact .first (e.seqT a) ih (c.ts e fun h=>h.ts e) d
end
section
variable {σ : L2.St} {H0 : Hp}
abbrev RV:=Hp→V→Prop
def Bd (σ : L2.St) (H0 : Hp) (t : TE) (R : RV) : Prop:=∀ (H : Hp) (Q : VK),Same H0 H→(∀ v H',Same H H'→R H' v→Q v H')→t σ H Q
def BdA (σ : L2.St) (H0 : Hp) (t : TA) (R : Hp→List V→Prop) : Prop:=∀ (H : Hp) (Q : List V→Hp→Prop),Same H0 H→(∀ vs H',Same H H'→R H' vs→Q vs H')→t σ H Q
def Stb (R : RV) : Prop:=∀ H H' v,Same H H'→R H v→R H' v
theorem Bd.at0 {t : TE} {R : RV} {Q : VK} (h : Bd σ H0 t R) (q : ∀ v H',Same H0 H'→R H' v→Q v H') : t σ H0 Q:=h H0 Q (Same.refl _) q
theorem Bd.imp {t : TE} {R S : RV} (h : Bd σ H0 t R) (i : ∀ H v,Same H0 H→R H v→S H v) : Bd σ H0 t S:=fun H Q s q=>h H Q s fun v H' s' r=>q v H' s' (i H' v (s.trans s') r)
def IsV (x : V) : RV:=fun _ v=>v = x
theorem stb_v {x : V} : Stb (IsV x):=fun _ _ _ _ r=>r
theorem bd_var {i : Nat} {x : V} (h : σ[i]? = some (some x)) : Bd σ H0 (tVar i) (IsV x):=fun H Q s q=>⟨x,h,q x H (Same.refl H) rfl⟩
theorem bd_c {x : V} : Bd σ H0 (tC x) (IsV x):=fun H Q s q=>q x H (Same.refl H) rfl
theorem bd_var' {i : Nat} {x : V} {R : RV} (h : σ[i]? = some (some x)) (r : ∀ H,Same H0 H→R H x) : Bd σ H0 (tVar i) R:=fun H Q s q=>⟨x,h,q x H (Same.refl H) (r H s)⟩
theorem bd_t2 {t1 t2 : TE} {R1 R2 : RV} (s1 : Stb R1) (s2 : Stb R2) (h1 : Bd σ H0 t1 R1) (h2 : Bd σ H0 t2 R2) : Bd σ H0 (tTupA (tCons t1 (tCons t2 tNil))) (fun H v=>∃ p x y,v = .ref p∧SqT K H p [x,y]∧R1 H x∧R2 H y) :=
  fun H Q s q=>h1 H _ s fun x H1 a1 r1=>h2 H1 _ (s.trans a1) fun y H2 a2 r2=>⟨by show 2 ≤ sizeLine; decide,fun p H3 _ a3 g3=>q _ _ (a1.trans (a2.trans a3)) ⟨p,x,y,rfl,SqT.of g3,s1 _ _ _ (a2.trans a3) r1,s2 _ _ _ a3 r2⟩⟩
theorem bd_t3 {t1 t2 t3 : TE} {R1 R2 R3 : RV} (s1 : Stb R1) (s2 : Stb R2) (s3 : Stb R3) (h1 : Bd σ H0 t1 R1) (h2 : Bd σ H0 t2 R2) (h3 : Bd σ H0 t3 R3) : Bd σ H0 (tTupA (tCons t1 (tCons t2 (tCons t3 tNil)))) (fun H v=>∃ p x y z,v = .ref p∧SqT K H p [x,y,z]∧R1 H x∧R2 H y∧R3 H z) :=
  fun H Q s q=>h1 H _ s fun x H1 a1 r1=>h2 H1 _ (s.trans a1) fun y H2 a2 r2=>h3 H2 _ (s.trans (a1.trans a2)) fun z H3 a3 r3=>⟨by show 3 ≤ sizeLine; decide,fun p H4 _ a4 g4=>q _ _ (a1.trans (a2.trans (a3.trans a4))) ⟨p,x,y,z,rfl,SqT.of g4,s1 _ _ _ (a2.trans (a3.trans a4)) r1,s2 _ _ _ (a3.trans a4) r2,s3 _ _ _ a4 r3⟩⟩
theorem bd_t4 {t1 t2 t3 t4 : TE} {R1 R2 R3 R4 : RV} (s1 : Stb R1) (s2 : Stb R2) (s3 : Stb R3) (s4 : Stb R4) (h1 : Bd σ H0 t1 R1) (h2 : Bd σ H0 t2 R2) (h3 : Bd σ H0 t3 R3) (h4 : Bd σ H0 t4 R4) : Bd σ H0 (tTupA (tCons t1 (tCons t2 (tCons t3 (tCons t4 tNil))))) (fun H v=>∃ p x y z u,v = .ref p∧SqT K H p [x,y,z,u]∧R1 H x∧R2 H y∧R3 H z∧R4 H u) :=
  fun H Q s q=>h1 H _ s fun x H1 a1 r1=>h2 H1 _ (s.trans a1) fun y H2 a2 r2=>h3 H2 _ (s.trans (a1.trans a2)) fun z H3 a3 r3=>h4 H3 _ (s.trans (a1.trans (a2.trans a3))) fun u H4 a4 r4=>⟨by show 4 ≤ sizeLine; decide,fun p H5 _ a5 g5=>q _ _ (a1.trans (a2.trans (a3.trans (a4.trans a5)))) ⟨p,x,y,z,u,rfl,SqT.of g5,s1 _ _ _ (a2.trans (a3.trans (a4.trans a5))) r1,s2 _ _ _ (a3.trans (a4.trans a5)) r2,s3 _ _ _ (a4.trans a5) r3,s4 _ _ _ a5 r4⟩⟩
theorem al_nil {α : Type} {R : PySem.W.Frag→Hp→V→α→Prop} : BdA σ H0 tNil (fun H vs=>All2 (R K H) vs ([] : List α)):=fun H Q s q=>q [] H (Same.refl H) .nil
theorem al_cons {α : Type} {R : PySem.W.Frag→Hp→V→α→Prop} {t : TE} {ts : TA} {x : α} {xs : List α} (st : ∀ {H H' v x},Same H H'→R K H v x→R K H' v x) (h : Bd σ H0 t (fun H v=>R K H v x)) (hs : BdA σ H0 ts (fun H vs=>All2 (R K H) vs xs)) : BdA σ H0 (tCons t ts) (fun H vs=>All2 (R K H) vs (x :: xs)) :=
  fun H Q s q=>h H _ s fun v H1 s1 r=>hs H1 _ (s.trans s1) fun us H2 s2 rs=>q _ _ (s1.trans s2) (.cons (st s2 r) rs)
theorem bd_ts {α : Type} {R : PySem.W.Frag→Hp→V→α→Prop} {ts : TA} {xs : List α} {lo hi : Nat} (st : ∀ {H H' v x},Same H H'→R K H v x→R K H' v x) (h : BdA σ H0 ts (fun H vs=>All2 (R K H) vs xs)) (h1 : lo ≤ xs.length:=by simp) (h2 : xs.length ≤ hi:=by simp) (h3 : xs.length ≤ 1000:=by simp) : Bd σ H0 (tTupA ts) (fun H v=>TupS R lo hi K H v xs) :=
  fun H Q s q=>h H _ s fun vs H1 s1 r=>⟨small (by rw [r.len]; exact h3),fun p H2 _ s2 g2=>q _ _ (s1.trans s2) ⟨⟨p,vs,rfl,SqT.of g2,r.imp fun _ _ z=>st s2 z⟩,h1,h2⟩⟩
theorem bd_nm {t : TE} {x : Str} (h : Bd σ H0 t (IsV (.str x))) (n : Nm x) : Bd σ H0 t (fun H v=>NameS K H v x):=h.imp fun _ _ _ e=>⟨e,n⟩
theorem bd_val {t1 t2 : TE} {x : V} (h1 : Bd σ H0 t1 (IsV (.str "value"))) (h2 : Bd σ H0 t2 (IsV x)) (th : ∀ H,Th K H x) (vb : valB x = true) : Bd σ H0 (tTupA (tCons t1 (tCons t2 tNil))) (fun H v=>IsO K H v (.val x)) :=
  (bd_t2 (K:=K) stb_v stb_v h1 h2).imp fun H v _ ⟨p,y,z,e,g,e1,e2⟩=>by cases e1; cases e2; exact ⟨p,e,g,th H,vb⟩
theorem bd_col {t1 t2 : TE} {x : Str} (h1 : Bd σ H0 t1 (IsV (.str "column"))) (h2 : Bd σ H0 t2 (IsV (.str x))) (n : Nm x) : Bd σ H0 (tTupA (tCons t1 (tCons t2 tNil))) (fun H v=>IsO K H v (.col x)) :=
  (bd_t2 (K:=K) stb_v stb_v h1 h2).imp fun H v _ ⟨p,y,z,e,g,e1,e2⟩=>by cases e1; cases e2; exact ⟨p,e,g,n⟩
theorem bd_test {t1 t2 t3 : TE} {c sg : Str} {o : Oth} (h1 : Bd σ H0 t1 (IsV (.str c))) (h2 : Bd σ H0 t2 (IsV (.str sg))) (h3 : Bd σ H0 t3 (fun H v=>IsO K H v o)) (n : Nm c) (s : SgOk sg) : Bd σ H0 (tTupA (tCons t1 (tCons t2 (tCons t3 tNil)))) (fun H v=>IsT K H v ⟨c,sg,o⟩) :=
  (bd_t3 (K:=K) stb_v stb_v (fun H H' v s r=>r.same s) h1 h2 h3).imp fun H v _ ⟨p,x,y,z,e,g,e1,e2,r⟩=>by cases e1; cases e2; exact ⟨p,z,e,g,n,s,r⟩
theorem bd_pr {t1 t2 : TE} {x y : Str} (h1 : Bd σ H0 t1 (IsV (.str x))) (h2 : Bd σ H0 t2 (IsV (.str y))) (n : Nm x) (m : Nm y) : Bd σ H0 (tTupA (tCons t1 (tCons t2 tNil))) (fun H v=>IsPr K H v (x,y)) :=
  (bd_t2 (K:=K) stb_v stb_v h1 h2).imp fun H v _ ⟨p,y,z,e,g,e1,e2⟩=>by cases e1; cases e2; exact ⟨p,e,g,n,m⟩
theorem bd_ky {t1 t2 : TE} {x y : Str} (h1 : Bd σ H0 t1 (IsV (.str x))) (h2 : Bd σ H0 t2 (IsV (.str y))) (n : Nm x) (m : y = "up" ∨ y = "down") : Bd σ H0 (tTupA (tCons t1 (tCons t2 tNil))) (fun H v=>IsKy K H v (x,y)) :=
  (bd_t2 (K:=K) stb_v stb_v h1 h2).imp fun H v _ ⟨p,y,z,e,g,e1,e2⟩=>by cases e1; cases e2; exact ⟨p,e,g,n,m⟩
theorem bd_cnt {t1 t2 t3 : TE} {x : Str} (h1 : Bd σ H0 t1 (IsV (.str "count"))) (h2 : Bd σ H0 t2 (IsV .non)) (h3 : Bd σ H0 t3 (IsV (.str x))) (n : Nm x) : Bd σ H0 (tTupA (tCons t1 (tCons t2 (tCons t3 tNil)))) (fun H v=>IsSm K H v ⟨"count",none,x⟩) :=
  (bd_t3 (K:=K) stb_v stb_v stb_v h1 h2 h3).imp fun H v _ ⟨p,x,y,z,e,g,e1,e2,e3⟩=>by cases e1; cases e2; cases e3; exact ⟨p,e,n,.inl ⟨rfl,rfl,g⟩⟩
theorem bd_sm {t1 t2 t3 : TE} {w c x : Str} (h1 : Bd σ H0 t1 (IsV (.str w))) (h2 : Bd σ H0 t2 (IsV (.str c))) (h3 : Bd σ H0 t3 (IsV (.str x))) (m : WdOk w) (k : Nm c) (n : Nm x) : Bd σ H0 (tTupA (tCons t1 (tCons t2 (tCons t3 tNil)))) (fun H v=>IsSm K H v ⟨w,some c,x⟩) :=
  (bd_t3 (K:=K) stb_v stb_v stb_v h1 h2 h3).imp fun H v _ ⟨p,x,y,z,e,g,e1,e2,e3⟩=>by cases e1; cases e2; cases e3; exact ⟨p,e,n,.inr ⟨c,rfl,k,m,g⟩⟩
def QR (K : PySem.W.Frag) (q : Qn) : RV:=fun H v=>IsQ K H v q
theorem stb_q {q : Qn} : Stb (QR K q):=fun _ _ _ s r=>IsQ.same s r
theorem bq_table {t1 t2 : TE} {x : Str} (h1 : Bd σ H0 t1 (IsV (.str "table"))) (h2 : Bd σ H0 t2 (IsV (.str x))) (n : Nm x) : Bd σ H0 (tTupA (tCons t1 (tCons t2 tNil))) (QR K (.table x)) :=
  (bd_t2 (K:=K) stb_v stb_v h1 h2).imp fun H v _ ⟨p,y,z,e,g,e1,e2⟩=>by cases e1; cases e2; subst e; exact .table g n
theorem bq_whr {t1 t2 t3 : TE} {q : Qn} {ts : List Tst} (h1 : Bd σ H0 t1 (IsV (.str "where"))) (h2 : Bd σ H0 t2 (QR K q)) (h3 : Bd σ H0 t3 (fun H v=>TupS IsT 1 3 K H v ts)) : Bd σ H0 (tTupA (tCons t1 (tCons t2 (tCons t3 tNil)))) (QR K (.whr q ts)) :=
  (bd_t3 (K:=K) stb_v stb_q (fun H H' v s r=>r.same s fun z=>z.same s) h1 h2 h3).imp fun H v _ ⟨p,x,y,z,e,g,e1,e2,e3⟩=>by cases e1; subst e; exact .whr g e2 e3
theorem bq_keep {t1 t2 t3 : TE} {q : Qn} {ns : List Str} (h1 : Bd σ H0 t1 (IsV (.str "keep"))) (h2 : Bd σ H0 t2 (QR K q)) (h3 : Bd σ H0 t3 (fun H v=>TupS NameS 1 8 K H v ns)) : Bd σ H0 (tTupA (tCons t1 (tCons t2 (tCons t3 tNil)))) (QR K (.keep q ns)) :=
  (bd_t3 (K:=K) stb_v stb_q (fun H H' v s r=>r.same s fun z=>z) h1 h2 h3).imp fun H v _ ⟨p,x,y,z,e,g,e1,e2,e3⟩=>by cases e1; subst e; exact .keep g e2 e3
theorem bq_nmd {t1 t2 t3 : TE} {q : Qn} {ns : List Str} (h1 : Bd σ H0 t1 (IsV (.str "named"))) (h2 : Bd σ H0 t2 (QR K q)) (h3 : Bd σ H0 t3 (fun H v=>TupS NameS 1 8 K H v ns)) : Bd σ H0 (tTupA (tCons t1 (tCons t2 (tCons t3 tNil)))) (QR K (.nmd q ns)) :=
  (bd_t3 (K:=K) stb_v stb_q (fun H H' v s r=>r.same s fun z=>z) h1 h2 h3).imp fun H v _ ⟨p,x,y,z,e,g,e1,e2,e3⟩=>by cases e1; subst e; exact .nmd g e2 e3
theorem bq_join {t1 t2 t3 t4 : TE} {q r : Qn} {ps : List (Str × Str)} (h1 : Bd σ H0 t1 (IsV (.str "join"))) (h2 : Bd σ H0 t2 (QR K q)) (h3 : Bd σ H0 t3 (QR K r)) (h4 : Bd σ H0 t4 (fun H v=>TupS IsPr 1 3 K H v ps)) : Bd σ H0 (tTupA (tCons t1 (tCons t2 (tCons t3 (tCons t4 tNil))))) (QR K (.join q r ps)) :=
  (bd_t4 (K:=K) stb_v stb_q stb_q (fun H H' v s r=>r.same s fun z=>z.same s) h1 h2 h3 h4).imp fun H v _ ⟨p,x,y,z,u,e,g,e1,e2,e3,e4⟩=>by cases e1; subst e; exact .join g e2 e3 e4
theorem bq_group {t1 t2 t3 t4 : TE} {q : Qn} {ns : List Str} {ss : List Sm} (h1 : Bd σ H0 t1 (IsV (.str "group"))) (h2 : Bd σ H0 t2 (QR K q)) (h3 : Bd σ H0 t3 (fun H v=>TupS NameS 0 8 K H v ns)) (h4 : Bd σ H0 t4 (fun H v=>TupS IsSm 0 4 K H v ss)) : Bd σ H0 (tTupA (tCons t1 (tCons t2 (tCons t3 (tCons t4 tNil))))) (QR K (.group q ns ss)) :=
  (bd_t4 (K:=K) stb_v stb_q (fun H H' v s r=>r.same s fun z=>z) (fun H H' v s r=>r.same s fun z=>z.same s) h1 h2 h3 h4).imp fun H v _ ⟨p,x,y,z,u,e,g,e1,e2,e3,e4⟩=>by cases e1; subst e; exact .group g e2 e3 e4
theorem bq_first {t1 t2 t3 t4 : TE} {q : Qn} {ks : List (Str × Str)} {m : Nat} (h1 : Bd σ H0 t1 (IsV (.str "first"))) (h2 : Bd σ H0 t2 (QR K q)) (h3 : Bd σ H0 t3 (fun H v=>TupS IsKy 0 3 K H v ks)) (h4 : Bd σ H0 t4 (IsV (.int (m : Nat)))) (hm : m ≤ 60) : Bd σ H0 (tTupA (tCons t1 (tCons t2 (tCons t3 (tCons t4 tNil))))) (QR K (.first q ks m)) :=
  (bd_t4 (K:=K) stb_v stb_q (fun H H' v s r=>r.same s fun z=>z.same s) stb_v h1 h2 h3 h4).imp fun H v _ ⟨p,x,y,z,u,e,g,e1,e2,e3,e4⟩=>by cases e1; cases e4; subst e; exact .first g e2 e3 hm
end
end
end My
set_option Elab.async false
set_option linter.all false
set_option maxRecDepth 100000
namespace L2
open PySem PySem.Spec PyProof.Rows
def gTupL (K : PySem.W.Frag) (n : Nat) (t : TGs) : TG:=fun v σ H Q=>∃ a xs,v = .ref a∧SqL K H a xs∧xs.length = n∧t xs σ H Q
theorem pg_tupL {X : Cx} {pos : Pos} {es : List Expr} {k : Nat} {t : TGs} {n : Nat} (hc : X.calm = true) (h : PGs X es t)
    (hn : (assignEach es X.env).length = n:=by rfl) (hst : (assignEach es X.env).findIdx? (·.1) = none:=by rfl) : PG X (.Tuple es k pos) (gTupL X.K n t):=by
  intro pins s σ H v u Q I r hw
  obtain ⟨a,xs,e1,hq,hl,hw⟩:=hw
  subst e1
  cases r
  obtain ⟨its,rv,ht,hz⟩:=I.list hq
  have hsz : (assignEach es X.env).length = its.toArray.size:=by rw [hn,← hl,rv.length,List.size_toArray]
  rw [arm_assign_Tuple]
  refine wpAny_bind (wpAny_standAt ?_)
  unfold unpack
  rw [hsz,hst]
  refine wpAny_bind (wpAny_holding (PySem.W.kun_itemsOf (I.ok.hd hc) ht.isList fun h' hx=>?_))
  have I1 : Inv X pins σ H { s with heap:=h' }:=I.kept (t':=s.toks) fun b o e=>hx b o (Nat.ne_of_lt (Heap.lt_size e)) e
  exact h pins _ σ H xs _ Q I1 (by simpa using rv) hw
theorem vg_tupL {X : Cx} {pos : Pos} {es : List Expr} {k : Nat} {t : TGs} {n : Nat} (hc : X.calm = true) (h : VGs X es t) (hn : (assignEach es X.env).length = n:=by rfl) (hst : (assignEach es X.env).findIdx? (·.1) = none:=by rfl) : VG X (.Tuple es k pos) (gTupL X.K n t):=⟨pg_tupL hc h.1 hn hst⟩
section
variable {X : Cx} {K : PySem.W.Frag} {scope : Scope} {N : List Str} {tl te : TE} {g : TG} {σ : St} {H : Hp} {Q : VK}
theorem comp_gen (xs : List V) (Rel : Hp→V→Prop) (st : ∀ {H1 H2 y},Same H1 H2→Rel H1 y→Rel H2 y) (su : ∀ {H1 D ys zs y},H1 D = some (.lst ys)→Rel H1 y→Rel (upd H1 D (.lst zs)) y)
    (σ0 : St) (cap : Cap X scope N σ σ0) (hsz : xs.length ≤ sizeLine) (Sg : St→Prop) (h0 : Sg σ0)
    (hw : ∀ R : VK,(∀ L,SqL K H L xs→(∀ H',Same H H'→SqL K H' L xs)→R (.ref L) H)→tl σ H R)
    (hb : ∀ (i : Nat) (x : V),xs[i]? = some x→∀ σ' H' (R : V→St→Hp→Prop),Sg σ'→Same H H'→(∀ y σ3 H2,Sg σ3→Same H' H2→Rel H2 y→R y σ3 H2)→g x σ' H' fun σ3 H3=>te σ3 H3 fun y H5=>R y σ3 H5)
    (q : ∀ D H' ys,H D = none→Same H H'→H' D = some (.lst ys)→ys.length = xs.length→(∀ y ∈ ys,Rel H' y)→Q (.ref D) H') :
    tComp X scope N (iList K tl) g tYes te σ H Q:=by
  refine ⟨σ0,cap,hw _ fun L hL hS=>⟨L,rfl,⟨xs,hL⟩,fun D hD=>?_⟩⟩
  have go:=itl_go (K:=K) (a:=L) (xs:=xs) (H:=H) hS
  have stop:=itl_stop (K:=K) (a:=L) (xs:=xs) (H:=H) hS
  refine ⟨fun i m σ' H' ys=>i ≤ xs.length∧m = xs.length - i∧Sg σ'∧Same H H'∧H' D = some (.lst ys)∧ys.length = i∧∀ y ∈ ys,Rel H' y,⟨xs.length,Nat.zero_le _,rfl,h0,same_new hD _,upd_same,rfl,fun y e=>by simp at e⟩,?_⟩
  rintro i m σ' H' ys ⟨hi,rfl,hg,sm,hD',hl,hR⟩
  refine ⟨hD',?_⟩
  by_cases hlt : i < xs.length
  · right
    obtain ⟨g1,g2⟩:=go H' i xs[i] sm (List.getElem?_eq_getElem hlt)
    refine ⟨g1,fun x H2 hy=>?_⟩
    obtain ⟨rfl,rfl⟩:=g2 x H2 hy
    have z:=hb i xs[i] (List.getElem?_eq_getElem hlt) σ' H2 (fun y σ3 H5=>H5 D = some (.lst ys)∧ys.length < sizeLine∧∃ m',m' < xs.length - i∧(i + 1 ≤ xs.length∧m' = xs.length - (i + 1)∧Sg σ3∧Same H (upd H5 D (.lst (ys ++ [y])))∧upd H5 D (.lst (ys ++ [y])) D = some (.lst (ys ++ [y]))∧(ys ++ [y]).length = i + 1∧∀ z ∈ ys ++ [y],Rel (upd H5 D (.lst (ys ++ [y]))) z)) hg sm fun y σ3 H3 g3 s3 r3=>⟨s3 _ _ hD',by omega,xs.length - (i + 1),by omega,hlt,rfl,g3,?_,upd_same,?_,?_⟩
    · exact z
    · intro b o e
      rw [upd_ne (ne_of_none e hD)]
      exact s3 _ _ (sm _ _ e)
    · rw [List.length_append,List.length_singleton,hl]
    · intro u hu
      refine su (s3 _ _ hD') ?_
      rcases List.mem_append.mp hu with h | h
      · exact st s3 (hR u h)
      · obtain rfl:=List.mem_singleton.mp h
        exact r3
  · left
    have e : i = xs.length:=by omega
    subst e
    exact ⟨stop _ sm,q D _ ys hD sm hD' hl hR⟩
def rNeF (K : PySem.W.Frag) : R2:=fun x y H Q=>∃ a b xs ys,x = .ref a∧y = .ref b∧SqL K H a xs∧SqL K H b ys∧Fl2 xs ys∧Q (.bl false) H
theorem op_neF (hu : X.A.units < cLine) : OpR X (compareOp .NotEq) (rNeF X.K):=by
  intro pins s σ H x y v u Q I rx ry h
  obtain ⟨a,b,xs,ys,rfl,rfl,ha,hb,h,q⟩:=h
  cases rx
  cases ry
  obtain ⟨its,r1,pl,hz⟩:=I.list ha
  obtain ⟨jts,r2,pm,hw⟩:=I.list hb
  refine SeqAt.RcNeAt.lists (e:=fun _=>true) pl.isList pm.isList (by rw [List.size_toArray,List.size_toArray]; have:=r1.length; have:=r2.length; have:=h.len; omega) hu (fl_items r1 r2 h) _ _ _ _ ?_
  rw [all_true]
  exact ⟨.bl _,H,I,rfl,q⟩
end
end L2
set_option Elab.async false
set_option linter.all false
set_option maxRecDepth 100000
namespace My
open PySem PySem.Spec PyProof.Rows L2
set_option maxHeartbeats 400000
section
variable {P : Program} {w : World} {K : PySem.W.Frag} {mg : Str→Option Value} {base : Heap}
def nm (ns : List Str) (i : Nat) : Str:=ns.getD i ""
def hsOf (ns : List Str) : Str→Option Hdr:=fun n=>if n = nm ns 0 then some (Fst (nm ns 3) (nm ns 4) (nm ns 5)) else if n = nm ns 1 then some (Snd (nm ns 3) (nm ns 6)) else if n = nm ns 2 then some (Wd (nm ns 9) (nm ns 10) (nm ns 11) (nm ns 12) (nm ns 13) (nm ns 14) (nm ns 15) (nm ns 16)) else none
def Stp (K : PySem.W.Frag) (ns : List Str) : RV:=fun H y=>∃ (p : Addr) (n : Nat) (v : V) (s : Qn),y = .ref p∧SqT K H p [.int n,v]∧IsQ K H v s∧size s ≤ 8∧n ≤ 4∧withinE (hsOf ns) s = .error (clsOf n)
theorem Stp.ts {ns : List Str} {H H' : Hp} {y : V} (t : TS H H') (h : Stp K ns H y) : Stp K ns H' y:=by
  obtain ⟨p,n,v,s,e,g,h1,h2⟩:=h
  exact ⟨p,n,v,s,e,t.seqT g,h1.ts t,h2⟩
theorem stb_stp {ns : List Str} : Stb (Stp K ns):=fun _ _ _ s r=>r.ts (.of s)
def Pr2 (K : PySem.W.Frag) (R : Hp→V→Nat→Prop) : RV:=fun H y=>∃ (p : Addr) (n : Nat) (u : V),y = .ref p∧SqT K H p [.int n,u]∧n ≤ 4∧R H u n
theorem Pr2.ts {R : Hp→V→Nat→Prop} {H H' : Hp} {y : V} (t : TS H H') (st : ∀ {u n},R H u n→R H' u n) (h : Pr2 K R H y) : Pr2 K R H' y:=by
  obtain ⟨p,n,u,e,g,h1,h2⟩:=h
  exact ⟨p,n,u,e,t.seqT g,h1,st h2⟩
section
variable {σ : L2.St} {H0 : Hp}
theorem bd_due {R : Hp→V→Nat→Prop} {t1 t2 : TE} (n : Nat) (st : ∀ {H H' u n},Same H H'→R H u n→R H' u n) (h1 : Bd σ H0 t1 (IsV (.int n))) (h2 : Bd σ H0 t2 (fun H v=>R H v n)) (hn : n ≤ 4:=by decide) : Bd σ H0 (tTupA (tCons t1 (tCons t2 tNil))) (Pr2 K R) :=
  (bd_t2 (K:=K) (R2:=fun H v=>R H v n) stb_v (fun _ _ _ s r=>st s r) h1 h2).imp fun H v _ ⟨p,x,y,e,g,e1,r⟩=>by cases e1; exact ⟨p,n,y,e,g,hn,r⟩
theorem bd_step {ns : List Str} {s : Qn} {t1 t2 : TE} (n : Nat) (h1 : Bd σ H0 t1 (IsV (.int n))) (h2 : Bd σ H0 t2 (QR K s)) (hz : size s ≤ 8) (hw : withinE (hsOf ns) s = .error (clsOf n)) (hn : n ≤ 4:=by decide) : Bd σ H0 (tTupA (tCons t1 (tCons t2 tNil))) (Stp K ns) :=
  (bd_t2 (K:=K) stb_v stb_q h1 h2).imp fun H v _ ⟨p,x,y,e,g,e1,r⟩=>by cases e1; exact ⟨p,n,y,s,e,g,r,hz,hn,hw⟩
def Ls (R : RV) (k : Nat) : Hp→List V→Prop:=fun H vs=>vs.length = k∧∀ y ∈ vs,R H y
theorem ls_nil {R : RV} : BdA σ H0 tNil (Ls R 0):=fun H Q s q=>q [] H (Same.refl H) ⟨rfl,fun y h=>absurd h (by simp)⟩
theorem ls_cons {R : RV} {k : Nat} {t : TE} {ts : TA} (st : Stb R) (h : Bd σ H0 t R) (hs : BdA σ H0 ts (Ls R k)) : BdA σ H0 (tCons t ts) (Ls R (k + 1)) :=
  fun H Q s q=>h H _ s fun v H1 s1 r=>hs H1 _ (s.trans s1) fun us H2 s2 rs=>q _ _ (s1.trans s2) ⟨by rw [List.length_cons,rs.1],fun y hy=>by
    rcases List.mem_cons.mp hy with rfl | hy
    · exact st _ _ _ s2 r
    · exact rs.2 y hy⟩
def LR (H0 : Hp) (R : RV) (k : Nat) : RV:=fun H v=>∃ p vs,v = .ref p∧H0 p = none∧H p = some (.lst vs)∧vs.length = k∧∀ y ∈ vs,R H y
theorem bd_ls {R : RV} {k : Nat} {ts : TA} (st : Stb R) (h : BdA σ H0 ts (Ls R k)) (hk : k ≤ 1000:=by decide) : Bd σ H0 (tLstA ts) (LR H0 R k) :=
  fun H Q s q=>h H _ s fun vs H1 s1 r=>⟨small (by rw [r.1]; exact hk),fun p H2 f2 s2 g2=>q _ _ (s1.trans s2) ⟨p,vs,rfl,(s.trans s1).free f2,g2,r.1,fun y hy=>st _ _ _ s2 (r.2 y hy)⟩⟩
end
section
variable {hs : Str→Option Hdr} {q r : Qn} {F G : Hdr} {n : Nat}
theorem wi_whr {ts : List Tst} (h : withinE hs q = .ok F) (b : Bad hs (.whr q ts) [F] n) : withinE hs (.whr q ts) = .error (clsOf n):=by unfold withinE; rw [h]; exact b
theorem wi_keep {ns : List Str} (h : withinE hs q = .ok F) (b : Bad hs (.keep q ns) [F] n) : withinE hs (.keep q ns) = .error (clsOf n):=by unfold withinE; rw [h]; exact b
theorem wi_nmd {ns : List Str} (h : withinE hs q = .ok F) (b : Bad hs (.nmd q ns) [F] n) : withinE hs (.nmd q ns) = .error (clsOf n):=by unfold withinE; rw [h]; exact b
theorem wi_group {ns : List Str} {ss : List Sm} (h : withinE hs q = .ok F) (b : Bad hs (.group q ns ss) [F] n) : withinE hs (.group q ns ss) = .error (clsOf n):=by unfold withinE; rw [h]; exact b
theorem wi_first {ks : List (Str × Str)} {m : Nat} (h : withinE hs q = .ok F) (b : Bad hs (.first q ks m) [F] n) : withinE hs (.first q ks m) = .error (clsOf n):=by unfold withinE; rw [h]; exact b
theorem wi_join {ps : List (Str × Str)} (h : withinE hs q = .ok F) (h2 : withinE hs r = .ok G) (b : Bad hs (.join q r ps) [F,G] n) : withinE hs (.join q r ps) = .error (clsOf n):=by unfold withinE; rw [h,h2]; exact b
theorem wi_join1 {ps : List (Str × Str)} {c : Cls} (h : withinE hs q = .error c) : withinE hs (.join q r ps) = .error c:=by unfold withinE; rw [h]; rfl
theorem wi_join2 {ps : List (Str × Str)} {c : Cls} (h : withinE hs q = .ok F) (h2 : withinE hs r = .error c) : withinE hs (.join q r ps) = .error c:=by unfold withinE; rw [h,h2]; rfl
end
theorem list17 {ns : List Str} (h : ns.length = 17) : ∃ x0 x1 x2 x3 x4 x5 x6 x7 x8 x9 x10 x11 x12 x13 x14 x15 x16,ns = [x0,x1,x2,x3,x4,x5,x6,x7,x8,x9,x10,x11,x12,x13,x14,x15,x16]:=by
  match ns,h with
  | [x0,x1,x2,x3,x4,x5,x6,x7,x8,x9,x10,x11,x12,x13,x14,x15,x16],_=>exact ⟨x0,x1,x2,x3,x4,x5,x6,x7,x8,x9,x10,x11,x12,x13,x14,x15,x16,rfl⟩
def sp_st (K : PySem.W.Frag) (m : Nat) : Sp:=fun vs H Q _=>∃ (N : Addr) (vq : V) (ns : List Str) (q : Qn),vs = [.ref N,vq]∧H N = some (.lst (ns.map V.str))∧Nms17 ns∧IsQ K H vq q∧size q ≤ 3∧withinE (hsOf ns) q = .ok (Fst (nm ns 3) (nm ns 4) (nm ns 5)) ∧
  ∀ D H' ys,H D = none→Same H H'→H' D = some (.lst ys)→1 ≤ ys.length→ys.length ≤ m→(∀ y ∈ ys,Stp K ns H' y)→Q (.ref D) H'
theorem six_of {x0 x1 x2 x3 x4 x5 x6 x7 x8 x9 x10 x11 x12 x13 x14 x15 x16 : Str} (h : [x0,x1,x2,x3,x4,x5,x6,x7,x8,x9,x10,x11,x12,x13,x14,x15,x16].Nodup) : Six x3 x4 x5 x6 x7 x8:=by
  simp only [List.nodup_cons,List.mem_cons,not_or,List.not_mem_nil,not_false_eq_true,and_true,List.nodup_nil] at h
  constructor <;> simp [h]
section
variable {t t' : TE} {i : Nat} {rest : L2.TS} {D : Ends} {σ : L2.St} {H : Hp} {R R' : RV}
theorem sq_asg (h : Bd σ H t R) (k : ∀ v H',Same H H'→R H' v→rest D (σ.set i (some v)) H') : tSeq (tAsg t (gName i)) rest D σ H:=h H _ (Same.refl H) fun v H' s r=>k v H' s r
theorem sq_cat {j : Nat} {L : Addr} {xs : List V} {k : Nat} (hj : σ[j]? = some (some (.ref L))) (hL : H L = some (.lst xs)) (h : Bd σ H t (LR H R k)) (hz : xs.length + k ≤ 1000)
    (kk : ∀ p H' zs,H p = none→Same H H'→H' p = some (.lst (xs ++ zs))→zs.length = k→(∀ y ∈ zs,R H' y)→rest D (σ.set i (some (.ref p))) H') (st : Stb R) : tSeq (tAsg (tOp rCatLA (tVar j) t) (gName i)) rest D σ H :=
  ⟨_,hj,h H _ (Same.refl H) fun v H1 s1 ⟨b,zs,e,f,g,l,r⟩=>by
    subst e
    exact ⟨L,b,xs,zs,rfl,rfl,s1 _ _ hL,g,small (by omega),fun p H2 f2 s2 g2=>kk p H2 zs (s1.free f2) (s1.trans s2) g2 l fun y hy=>st _ _ _ s2 (r y hy)⟩⟩
theorem sq_app {j : Nat} {L : Addr} {xs : List V} (hj : σ[j]? = some (some (.ref L))) (hL : H L = some (.lst xs)) (h : Bd σ H t R) (hz : xs.length ≤ 1000)
    (kk : ∀ v H',Same H H'→R H' v→H' L = some (.lst xs)→rest D σ (upd H' L (.lst (xs ++ [v])))) : tSeq (tDrop (tBM K "list" rAppend (tVar j) (tCons t tNil))) rest D σ H :=
  ⟨_,hj,.inl ⟨rfl,_,SqL.of hL⟩,h H _ (Same.refl H) fun v H1 s1 r=>⟨L,xs,v,rfl,rfl,s1 _ _ hL,Nat.lt_of_le_of_lt hz (by decide),kk v H1 s1 r (s1 _ _ hL)⟩⟩
end
theorem cap_a2 {X : Cx} {scope : Scope} {x1 x2 y : Str} {σ : L2.St} {v : V} (j : Nat) (hf : (y,NameKind.free) ∈ scope.names) (hj : X.N[j]? = some y) (hs : σ[j]? = some (some v)) (hv : Vis X.env.scope y) : Cap X scope [x1,x2,y] σ [none,none,some v]:=by
  refine ⟨rfl,fun i y' v' e1 e2=>?_⟩
  match i,e1,e2 with
  | 2,e1,e2 =>
    cases e1
    cases e2
    exact ⟨hf,j,hj,hs,hv⟩
theorem cap_a3 {X : Cx} {scope : Scope} {x1 x2 x3 y : Str} {σ : L2.St} {v : V} (j : Nat) (hf : (y,NameKind.free) ∈ scope.names) (hj : X.N[j]? = some y) (hs : σ[j]? = some (some v)) (hv : Vis X.env.scope y) : Cap X scope [x1,x2,x3,y] σ [none,none,none,some v]:=by
  refine ⟨rfl,fun i y' v' e1 e2=>?_⟩
  match i,e1,e2 with
  | 3,e1,e2 =>
    cases e1
    cases e2
    exact ⟨hf,j,hj,hs,hv⟩
section
variable {X : Cx} {scope : Scope} {σ : L2.St} {H : Hp} {te : TE} {Q : VK} {cs : L2.St} {ns : List Str}
def NL (K : PySem.W.Frag) (ns : List Str) (k : Nat) (H : Hp) (v : V) (H' : Hp) : Prop:=∃ D ys,v = .ref D∧H D = none∧Same H H'∧H' D = some (.lst ys)∧ys.length = k∧∀ y ∈ ys,Stp K ns H' y
theorem comp_steps {R : Hp→V→Nat→Prop} {N : List Str} {j : Nat} {L : Addr} (xs : List V) (hj : σ[j]? = some (some (.ref L))) (hL : H L = some (.lst xs)) (hx : ∀ y ∈ xs,Pr2 K R H y) (hl : xs.length ≤ 1000) (cap : Cap X scope N σ (none :: none :: cs))
    (st : ∀ {H H' u n},Same H H'→R H u n→R H' u n) (b : ∀ H' (n : Nat) u,n ≤ 4→Same H H'→R H' u n→Bd (some (.int n) :: some u :: cs) H' te (Stp K ns))
    (q : ∀ v H',NL K ns xs.length H v H'→Q v H') :
    tComp X scope N (iList K (tVar j)) (gTup K 2 (gCons (gName 0) (gCons (gName 1) gNil))) tYes te σ H Q:=by
  refine comp_gen xs (Stp K ns) (fun s r=>r.ts (.of s)) (fun e r=>r.ts (.upd e)) (none :: none :: cs) cap (small hl) (fun σ'=>∃ l0 l1,σ' = l0 :: l1 :: cs) ⟨_,_,rfl⟩ (fun R r=>⟨_,hj,r L (SqL.of hL) fun H' s=>SqL.of (s _ _ hL)⟩) (fun i x ex σ' H' R' hg sm r=>?_) fun D H' ys f sm g l r=>q _ _ ⟨D,ys,rfl,f,sm,g,l,r⟩
  obtain ⟨l0,l1,rfl⟩:=hg
  obtain ⟨p,n,u,rfl,g,hn,hr⟩:=hx x (List.mem_of_getElem? ex)
  refine ⟨p,_,rfl,sm.seqT g,rfl,_,_,rfl,_,_,rfl,rfl,?_⟩
  exact (b H' n u hn sm (st sm hr)).at0 fun y H5 s5 r5=>r _ _ _ ⟨_,_,rfl⟩ s5 r5
end
section
variable {t : TE} {i : Nat} {rest : L2.TS} {D : Ends} {σ : L2.St} {H : Hp} {P : V→Hp→Prop}
theorem sq_at (h : ∀ Q : VK,(∀ v H',P v H'→Q v H')→t σ H Q) (k : ∀ v H',P v H'→rest D (σ.set i (some v)) H') : tSeq (tAsg t (gName i)) rest D σ H:=h _ k
end
theorem sz_whr {q : Qn} {ts : List Tst} : size (.whr q ts) = ts.length + size q:=by rw [size_own]; simp [own,kids,sizes]
theorem sz_keep {q : Qn} {ns : List Str} : size (.keep q ns) = 1 + size q:=by rw [size_own]; simp [own,kids,sizes]
theorem sz_nmd {q : Qn} {ns : List Str} : size (.nmd q ns) = 1 + size q:=by rw [size_own]; simp [own,kids,sizes]
theorem sz_group {q : Qn} {ns : List Str} {ss : List Sm} : size (.group q ns ss) = 1 + size q:=by rw [size_own]; simp [own,kids,sizes]
theorem sz_first {q : Qn} {ks : List (Str × Str)} {m : Nat} : size (.first q ks m) = 1 + size q:=by rw [size_own]; simp [own,kids,sizes]
theorem sz_join {q r : Qn} {ps : List (Str × Str)} : size (.join q r ps) = 1 + (size q + size r):=by rw [size_own]; simp [own,kids,sizes]
theorem sz_table {x : Str} : size (.table x) = 1:=by rw [size_own]; simp [own,kids,sizes]
section
variable {t : TE} {i j k : Nat} {rest : L2.TS} {D : Ends} {σ : L2.St} {H : Hp} {L : Addr} {xs : List V} {ns : List Str} {Q : VK}
theorem op_catC (hj : σ[j]? = some (some (.ref L))) (hL : H L = some (.lst xs)) (hx : ∀ y ∈ xs,Stp K ns H y) (hz : xs.length + k ≤ 1000) (h : ∀ Q : VK,(∀ v H',NL K ns k H v H'→Q v H')→t σ H Q) (q : ∀ v H',NL K ns (xs.length + k) H v H'→Q v H') : tOp rCatLA (tVar j) t σ H Q :=
  ⟨_,hj,h _ fun v H1 ⟨b,zs,e,f,s1,g,l,r⟩=>by
    subst e
    refine ⟨L,b,xs,zs,rfl,rfl,s1 _ _ hL,g,small (by omega),fun p H2 f2 s2 g2=>q _ _ ⟨p,xs ++ zs,rfl,s1.free f2,s1.trans s2,g2,by rw [List.length_append,l],fun y hy=>?_⟩⟩
    rcases List.mem_append.mp hy with z | z
    · exact (hx y z).ts (.of (s1.trans s2))
    · exact (r y z).ts (.of s2)⟩
end
def KR (K : PySem.W.Frag) (a b c : Str) : Hp→V→Nat→Prop:=fun H u n=>∃ xs,TupS NameS 1 8 K H u xs∧∀ hs q,Bad hs (.keep q xs) [Fst a b c] n
def NR (K : PySem.W.Frag) (a b c : Str) : Hp→V→Nat→Prop:=fun H u n=>∃ xs,TupS NameS 1 8 K H u xs∧∀ hs q,Bad hs (.nmd q xs) [Fst a b c] n
theorem cap_a22 {X : Cx} {scope : Scope} {x1 x2 y z : Str} {σ : L2.St} {v u : V} (j k : Nat) (hf : (y,NameKind.free) ∈ scope.names) (hj : X.N[j]? = some y) (hs : σ[j]? = some (some v)) (hv : Vis X.env.scope y) (hf2 : (z,NameKind.free) ∈ scope.names) (hj2 : X.N[k]? = some z) (hs2 : σ[k]? = some (some u)) (hv2 : Vis X.env.scope z) : Cap X scope [x1,x2,y,z] σ [none,none,some v,some u]:=by
  refine ⟨rfl,fun i y' v' e1 e2=>?_⟩
  match i,e1,e2 with
  | 2,e1,e2 =>
    cases e1
    cases e2
    exact ⟨hf,j,hj,hs,hv⟩
  | 3,e1,e2 =>
    cases e1
    cases e2
    exact ⟨hf2,k,hj2,hs2,hv2⟩
theorem bd_ix {K' : PySem.W.Frag} {σ : L2.St} {H0 : Hp} {j k : Nat} {N : Addr} {xs : List V} {v : V} (hj : σ[j]? = some (some (.ref N))) (hN : H0 N = some (.lst xs)) (h : atI xs (k : Nat) = some v) : Bd σ H0 (tOp (rIxL K') (tVar j) (tC (.int (k : Nat)))) (IsV v) :=
  fun H Q s q=>⟨_,hj,N,xs,_,v,rfl,rfl,SqL.of (s _ _ hN),h,q v H (Same.refl H) rfl⟩
def JR (K : PySem.W.Frag) (a b c d : Str) : Hp→V→Nat→Prop:=fun H u n=>∃ ps,TupS IsPr 1 3 K H u ps∧∀ hs q r,Bad hs (.join q r ps) [Fst a b c,Snd a d] n
section
variable {x0 x1 x2 x3 x4 x5 x6 x7 x8 x9 x10 x11 x12 x13 x14 x15 x16 : Str} (h : [x0,x1,x2,x3,x4,x5,x6,x7,x8,x9,x10,x11,x12,x13,x14,x15,x16].Nodup)
include h
theorem wt0 : withinE (hsOf [x0,x1,x2,x3,x4,x5,x6,x7,x8,x9,x10,x11,x12,x13,x14,x15,x16]) (.table x0) = .ok (Fst x3 x4 x5):=by
  have S:=six_of h
  simp [withinE,hereE,hsOf,nm,bnd,finE,unlE,S.ab,S.ac,S.bc]
theorem wt1 : withinE (hsOf [x0,x1,x2,x3,x4,x5,x6,x7,x8,x9,x10,x11,x12,x13,x14,x15,x16]) (.table x1) = .ok (Snd x3 x6):=by
  have S:=six_of h
  simp only [List.nodup_cons,List.mem_cons,not_or,List.not_mem_nil,not_false_eq_true,and_true,List.nodup_nil] at h
  have e : x1 ≠ x0:=fun z=>h.1.1 z.symm
  simp [withinE,hereE,hsOf,nm,bnd,finE,unlE,S.ad,e]
theorem wt2 : withinE (hsOf [x0,x1,x2,x3,x4,x5,x6,x7,x8,x9,x10,x11,x12,x13,x14,x15,x16]) (.table x2) = .ok (Wd x9 x10 x11 x12 x13 x14 x15 x16):=by
  simp only [List.nodup_cons,List.mem_cons,not_or,List.not_mem_nil,not_false_eq_true,and_true,List.nodup_nil] at h
  have e : x2 ≠ x0:=fun z=>h.1.2.1 z.symm
  have e' : x2 ≠ x1:=fun z=>h.2.1.1 z.symm
  simp [withinE,hereE,hsOf,nm,bnd,finE,unlE,e,e',h]
theorem wt8 : withinE (hsOf [x0,x1,x2,x3,x4,x5,x6,x7,x8,x9,x10,x11,x12,x13,x14,x15,x16]) (.table x8) = .error .tab:=by
  simp only [List.nodup_cons,List.mem_cons,not_or,List.not_mem_nil,not_false_eq_true,and_true,List.nodup_nil] at h
  have e0 : x8 ≠ x0:=fun z=>h.1.2.2.2.2.2.2.2.1 z.symm
  have e1 : x8 ≠ x1:=fun z=>h.2.1.2.2.2.2.2.2.1 z.symm
  have e2 : x8 ≠ x2:=fun z=>h.2.2.1.2.2.2.2.2.1 z.symm
  simp [withinE,hereE,hsOf,nm,bnd,e0,e1,e2]
theorem wide_nd : [x3,x4,x5,x9,x10,x11,x12,x13,x14,x15,x16].Nodup:=by
  simp only [List.nodup_cons,List.mem_cons,not_or,List.not_mem_nil,not_false_eq_true,and_true,List.nodup_nil] at h ⊢
  simp [h]
end
def WR (K : PySem.W.Frag) (a b c : Str) : Hp→V→Nat→Prop:=fun H u n=>∃ ts,TupS IsT 1 3 K H u ts∧∀ hs q,Bad hs (.whr q ts) [Fst a b c] n
theorem ok__law_where_steps (T : Txt w K mg) : Ok P w K mg base 1 "_law_where_steps" ["_law_n","_law_q"] (sp_st K 100):=by
  refine Ok.ofV T.d__law_where_steps sc__law_where_steps (fun vs H Q E h=>?_) (fun f cdv A outer s H vs Q E hr h=>?_)
  · obtain ⟨N,vq,ns,q,rfl,_⟩:=h; rfl
  obtain ⟨N,vq,ns,q0,rfl,hN,hns,hq,hz,hw,q⟩:=h
  obtain ⟨hl,hnm,hnd⟩:=hns
  obtain ⟨x0,x1,x2,x3,x4,x5,x6,x7,x8,x9,x10,x11,x12,x13,x14,x15,x16,rfl⟩:=list17 hl
  have S:=six_of hnd
  refine ⟨_,(vss_cons (vs_asg (ve_slice sl_list (vv 0) (vo_some ve_int) (vo_some ve_int)) (vg_tupL rfl (vgs_cons (vg_name (i:=2) sc__law_where_steps.nd rfl (by first | exact Or.inl rfl | exact Or.inr rfl)) (vgs_cons (vg_name (i:=3) sc__law_where_steps.nd rfl (by first | exact Or.inl rfl | exact Or.inr rfl)) (vgs_cons (vg_name (i:=4) sc__law_where_steps.nd rfl (by first | exact Or.inl rfl | exact Or.inr rfl)) (vgs_cons (vg_name (i:=5) sc__law_where_steps.nd rfl (by first | exact Or.inl rfl | exact Or.inr rfl)) (vgs_cons (vg_name (i:=6) sc__law_where_steps.nd rfl (by first | exact Or.inl rfl | exact Or.inr rfl)) (vgs_cons (vg_name (i:=7) sc__law_where_steps.nd rfl (by first | exact Or.inl rfl | exact Or.inr rfl)) vgs_nil)))))))) (vss_cons (vs_set (i:=8) sc__law_where_steps.nd rfl (by first | exact Or.inl rfl | exact Or.inr rfl) (ve_tupA (va_c ve_str (va_c ve_int va_nil)))) (vss_cons (vs_set (i:=9) sc__law_where_steps.nd rfl (by first | exact Or.inl rfl | exact Or.inr rfl) (ve_lstA (va_c (ve_tupA (va_c ve_int (va_c (ve_tupA (va_c (ve_tupA (va_c (vv 7) (va_c ve_str (va_c (vv 8) va_nil)))) va_nil)) va_nil))) (va_c (ve_tupA (va_c ve_int (va_c (ve_tupA (va_c (ve_tupA (va_c (vv 2) (va_c ve_str (va_c (ve_tupA (va_c ve_str (va_c (vv 7) va_nil))) va_nil)))) va_nil)) va_nil))) (va_c (ve_tupA (va_c ve_int (va_c (ve_tupA (va_c (ve_tupA (va_c (vv 3) (va_c ve_str (va_c (vv 8) va_nil)))) va_nil)) va_nil))) va_nil))))) (vss_cons (vs_set (i:=9) sc__law_where_steps.nd rfl (by first | exact Or.inl rfl | exact Or.inr rfl) (ve_op op_catLA (vv 9) (ve_lstA (va_c (ve_tupA (va_c ve_int (va_c (ve_tupA (va_c (ve_tupA (va_c (vv 2) (va_c ve_str (va_c (ve_tupA (va_c ve_str (va_c ve_str va_nil))) va_nil)))) (va_c (ve_tupA (va_c (vv 7) (va_c ve_str (va_c (vv 8) va_nil)))) va_nil))) va_nil))) (va_c (ve_tupA (va_c ve_int (va_c (ve_tupA (va_c (ve_tupA (va_c (vv 2) (va_c ve_str (va_c (ve_tupA (va_c ve_str (va_c (vv 3) va_nil))) va_nil)))) va_nil)) va_nil))) va_nil))))) (vss_cons (vs_expr (ve_bm PySem.F.plainAttrs_list PySem.F.slot_list_append PySem.F.type_list_append mt_appendR (vv 9) (va_c (ve_tupA (va_c ve_int (va_c (ve_tupA (va_c (ve_tupA (va_c (vv 2) (va_c ve_str (va_c (vv 8) va_nil)))) (va_c (ve_tupA (va_c (vv 4) (va_c ve_str (va_c (ve_tupA (va_c ve_str (va_c ve_str va_nil))) va_nil)))) va_nil))) va_nil))) va_nil))) (vss_cons (vs_setC (i0:=10) sc__law_where_steps.nd rfl (by first | exact Or.inl rfl | exact Or.inr rfl) (N:=["_law_due","_law_test","_law_q"]) ⟨by decide +kernel,rfl,by decide +kernel,by decide +kernel⟩ (hfr_of (defScope s__law_where_steps) rfl (by decide +kernel)) rfl (vi_list (vv 9)) (fun cl s' H' fp=>⟨(vg_tupK (K:=K) (n:=2) rfl (vgs_cons (vg_name (i:=0) (show (["_law_due","_law_test","_law_q"] : List Str).Nodup from by decide +kernel) rfl (Or.inl rfl)) (vgs_cons (vg_name (i:=1) (show (["_law_due","_law_test","_law_q"] : List Str).Nodup from by decide +kernel) rfl (Or.inl rfl)) vgs_nil))),vf_nil,(ve_tupA (va_c (vv 0) (va_c (ve_tupA (va_c ve_str (va_c (vv 2) (va_c (vv 1) va_nil)))) va_nil)))⟩)) (vss_cons (vs_set (i:=11) sc__law_where_steps.nd rfl (by first | exact Or.inl rfl | exact Or.inr rfl) (ve_lstA (va_c (ve_tupA (va_c ve_int (va_c (ve_tupA (va_c (vv 2) (va_c (vv 7) va_nil))) va_nil))) (va_c (ve_tupA (va_c ve_int (va_c (ve_tupA (va_c (vv 2) (va_c (vv 2) va_nil))) va_nil))) (va_c (ve_tupA (va_c ve_int (va_c (ve_tupA (va_c (vv 2) (va_c (vv 2) (va_c (vv 7) va_nil)))) va_nil))) va_nil))))) (vss_cons (vs_set (i:=10) sc__law_where_steps.nd rfl (by first | exact Or.inl rfl | exact Or.inr rfl) (ve_op op_catLA (vv 10) (ve_comp (N:=["_law_due","_law_got","_law_q"]) ⟨by decide +kernel,rfl,by decide +kernel,by decide +kernel⟩ (hfr_of (defScope s__law_where_steps) rfl (by decide +kernel)) rfl (vi_list (vv 11)) (fun cl s' H' fp=>⟨(vg_tupK (K:=K) (n:=2) rfl (vgs_cons (vg_name (i:=0) (show (["_law_due","_law_got","_law_q"] : List Str).Nodup from by decide +kernel) rfl (Or.inl rfl)) (vgs_cons (vg_name (i:=1) (show (["_law_due","_law_got","_law_q"] : List Str).Nodup from by decide +kernel) rfl (Or.inl rfl)) vgs_nil))),vf_nil,(ve_tupA (va_c (vv 0) (va_c (ve_tupA (va_c ve_str (va_c (vv 2) (va_c (vv 1) va_nil)))) va_nil)))⟩)))) (vss_cons (vs_set (i:=11) sc__law_where_steps.nd rfl (by first | exact Or.inl rfl | exact Or.inr rfl) (ve_lstA (va_c (ve_tupA (va_c ve_int (va_c (ve_tupA (va_c (vv 2) (va_c (vv 3) va_nil))) va_nil))) (va_c (ve_tupA (va_c ve_int (va_c (ve_tupA (va_c (vv 2) (va_c (vv 3) (va_c (vv 4) (va_c (vv 5) va_nil))))) va_nil))) (va_c (ve_tupA (va_c ve_int (va_c (ve_tupA (va_c (vv 5) (va_c (vv 6) (va_c (vv 5) va_nil)))) va_nil))) (va_c (ve_tupA (va_c ve_int (va_c (ve_tupA (va_c (vv 2) (va_c (vv 2) va_nil))) va_nil))) va_nil)))))) (vss_one (vs_ret (ve_op op_catLA (vv 10) (ve_comp (N:=["_law_due","_law_got","_law_q"]) ⟨by decide +kernel,rfl,by decide +kernel,by decide +kernel⟩ (hfr_of (defScope s__law_where_steps) rfl (by decide +kernel)) rfl (vi_list (vv 11)) (fun cl s' H' fp=>⟨(vg_tupK (K:=K) (n:=2) rfl (vgs_cons (vg_name (i:=0) (show (["_law_due","_law_got","_law_q"] : List Str).Nodup from by decide +kernel) rfl (Or.inl rfl)) (vgs_cons (vg_name (i:=1) (show (["_law_due","_law_got","_law_q"] : List Str).Nodup from by decide +kernel) rfl (Or.inl rfl)) vgs_nil))),vf_nil,(ve_tupA (va_c (vv 0) (va_c (ve_tupA (va_c ve_str (va_c (vv 2) (va_c (vv 1) va_nil)))) va_nil)))⟩)))))))))))))),?_⟩
  refine ⟨_,rfl,_,rfl,_,rfl,N,_,rfl,SqL.of hN,fun p fp=>⟨p,[.str x3,.str x4,.str x5,.str x6,.str x7,.str x8],rfl,SqL.of upd_same,rfl,_,_,rfl,_,_,rfl,_,_,rfl,_,_,rfl,_,_,rfl,_,_,rfl,rfl,?_⟩⟩
  have n3 : Nm x3:=hnm x3 (by simp)
  have n4 : Nm x4:=hnm x4 (by simp)
  have n5 : Nm x5:=hnm x5 (by simp)
  have n6 : Nm x6:=hnm x6 (by simp)
  have n7 : Nm x7:=hnm x7 (by simp)
  have n8 : Nm x8:=hnm x8 (by simp)
  have s1 : Same H (upd H p (.lst [.str x3,.str x4,.str x5,.str x6,.str x7,.str x8])):=same_new fp _
  refine sq_asg (σ:=[some (.ref N),some vq,some (.str x3),some (.str x4),some (.str x5),some (.str x6),some (.str x7),some (.str x8),none,none,none,none]) (H:=upd H p (.lst [.str x3,.str x4,.str x5,.str x6,.str x7,.str x8])) (bd_val (K:=K) (x:=.int 1) bd_c bd_c (fun H=>.inr (.inl ⟨1,rfl⟩)) rfl) fun o H2 s2 ho=>?_
  have t2:=s1.trans s2
  have bo : ∀ {H0 : Hp} {σ : L2.St},σ[8]? = some (some o)→Same H2 H0→Bd σ H0 (tVar 8) (fun H v=>IsO K H v one):=fun {H0 σ} e s=>bd_var' e fun H s'=>ho.same (s.trans s')
  have stT : ∀ {H H' : Hp} {u : V} {n : Nat},Same H H'→WR K x3 x4 x5 H u n→WR K x3 x4 x5 H' u n:=fun s ⟨ts,h1,h2⟩=>⟨ts,h1.same s fun z=>z.same s,h2⟩
  have stP : Stb (Pr2 K (WR K x3 x4 x5)):=fun _ _ _ s r=>r.ts (.of s) fun z=>stT s z
  refine sq_asg (σ:=[some (.ref N),some vq,some (.str x3),some (.str x4),some (.str x5),some (.str x6),some (.str x7),some (.str x8),some o,none,none,none]) (H:=H2) (bd_ls (R:=Pr2 K (WR K x3 x4 x5)) stP
    (ls_cons stP (bd_due 0 stT bd_c ((bd_ts (R:=IsT) (lo:=1) (hi:=3) (fun s z=>z.same s) (al_cons (fun s z=>z.same s) (bd_test (bd_var rfl) bd_c (bo rfl (Same.refl _)) n8 (.inl rfl)) al_nil)).imp fun H v _ r=>⟨_,r,fun hs q=>w1 S hs q⟩))
    (ls_cons stP (bd_due 0 stT bd_c ((bd_ts (R:=IsT) (lo:=1) (hi:=3) (fun s z=>z.same s) (al_cons (fun s z=>z.same s) (bd_test (bd_var rfl) bd_c (bd_col bd_c (bd_var rfl) n8) n3 (.inl rfl)) al_nil)).imp fun H v _ r=>⟨_,r,fun hs q=>w2 S hs q⟩))
    (ls_cons stP (bd_due 1 stT bd_c ((bd_ts (R:=IsT) (lo:=1) (hi:=3) (fun s z=>z.same s) (al_cons (fun s z=>z.same s) (bd_test (bd_var rfl) bd_c (bo rfl (Same.refl _)) n4 (.inr (.inl rfl))) al_nil)).imp fun H v _ r=>⟨_,r,fun hs q=>w3 S hs q⟩)) ls_nil)))) fun v3 H3 s3 ⟨L3,xs3,e3,f3,g3,l3,r3⟩=>?_
  subst e3
  refine sq_cat (σ:=[some (.ref N),some vq,some (.str x3),some (.str x4),some (.str x5),some (.str x6),some (.str x7),some (.str x8),some o,some (.ref L3),none,none]) (H:=H3) rfl g3 (bd_ls (R:=Pr2 K (WR K x3 x4 x5)) stP
    (ls_cons stP (bd_due 0 stT bd_c ((bd_ts (R:=IsT) (lo:=1) (hi:=3) (fun s z=>z.same s) (al_cons (fun s z=>z.same s) (bd_test (bd_var rfl) bd_c (bd_val bd_c bd_c (fun H=>.inl ⟨_,rfl,by decide +kernel⟩) (by decide +kernel)) n3 (.inl rfl)) (al_cons (fun s z=>z.same s) (bd_test (bd_var rfl) bd_c (bo rfl s3) n8 (.inl rfl)) al_nil))).imp fun H v _ r=>⟨_,r,fun hs q=>w4 S hs q⟩))
    (ls_cons stP (bd_due 1 stT bd_c ((bd_ts (R:=IsT) (lo:=1) (hi:=3) (fun s z=>z.same s) (al_cons (fun s z=>z.same s) (bd_test (bd_var rfl) bd_c (bd_col bd_c (bd_var rfl) n4) n3 (.inr (.inr (.inl rfl)))) al_nil)).imp fun H v _ r=>⟨_,r,fun hs q=>w5 S hs q⟩)) ls_nil))) (by omega) (fun L4 H4 zs4 f4 s4 g4 l4 r4=>?_) stP
  have a4 : ∀ y ∈ xs3 ++ zs4,Pr2 K (WR K x3 x4 x5) H4 y:=fun y hy=>(List.mem_append.mp hy).elim (fun z=>stP _ _ _ s4 (r3 y z)) (r4 y)
  have le4 : (xs3 ++ zs4).length = 5:=by rw [List.length_append]; omega
  refine sq_app (R:=Pr2 K (WR K x3 x4 x5)) (σ:=[some (.ref N),some vq,some (.str x3),some (.str x4),some (.str x5),some (.str x6),some (.str x7),some (.str x8),some o,some (.ref L4),none,none]) (H:=H4) rfl g4 (bd_due 1 stT bd_c ((bd_ts (R:=IsT) (lo:=1) (hi:=3) (fun s z=>z.same s) (al_cons (fun s z=>z.same s) (bd_test (bd_var rfl) bd_c (bo rfl (s3.trans s4)) n3 (.inl rfl)) (al_cons (fun s z=>z.same s) (bd_test (bd_var rfl) bd_c (bd_val bd_c bd_c (fun H=>.inl ⟨_,rfl,by decide +kernel⟩) (by decide +kernel)) n5 (.inr (.inr (.inr rfl)))) al_nil))).imp fun H v _ r=>⟨_,r,fun hs q=>w6 S hs q⟩)) (by omega) fun v5 H5 s5 r5 g5=>?_
  have t5:=t2.trans (s3.trans (s4.trans s5))
  have fL4 : H L4 = none:=(t2.trans s3).free f4
  have u5 : TS H5 (upd H5 L4 (.lst (xs3 ++ zs4 ++ [v5]))):=.upd g5
  have t5' : Same H (upd H5 L4 (.lst (xs3 ++ zs4 ++ [v5]))):=same_upd fL4 t5
  have a5 : ∀ y ∈ xs3 ++ zs4 ++ [v5],Pr2 K (WR K x3 x4 x5) (upd H5 L4 (.lst (xs3 ++ zs4 ++ [v5]))) y:=fun y hy=>Pr2.ts u5 (fun ⟨ts,h1,h2⟩=>⟨ts,h1.ts u5 fun z=>z.ts u5,h2⟩) ((List.mem_append.mp hy).elim (fun z=>stP _ _ _ s5 (a4 y z)) fun z=>by rw [List.mem_singleton.mp z]; exact r5)
  refine sq_at (σ:=[some (.ref N),some vq,some (.str x3),some (.str x4),some (.str x5),some (.str x6),some (.str x7),some (.str x8),some o,some (.ref L4),none,none]) (H:=upd H5 L4 (.lst (xs3 ++ zs4 ++ [v5]))) (fun Q r=>comp_steps (ns:=[x0,x1,x2,x3,x4,x5,x6,x7,x8,x9,x10,x11,x12,x13,x14,x15,x16]) (cs:=[some vq]) (xs3 ++ zs4 ++ [v5]) rfl upd_same a5 (by rw [List.length_append,le4]; simp) (cap_a2 1 (by decide +kernel) rfl rfl (by first | exact Or.inl rfl | exact Or.inr (Or.inl rfl) | exact Or.inr (Or.inr rfl))) stT
    (fun H' n u hn sm ⟨ts,h1,h2⟩=>bd_step (s:=.whr q0 ts) n (bd_var rfl) (bq_whr bd_c (bd_var' rfl fun H2 s2=>hq.same (t5'.trans (sm.trans s2))) (bd_var' rfl fun H2 s2=>h1.same s2 fun z=>z.same s2)) ?_ (wi_whr hw (h2 _ _)) hn) r) fun v6 H6 ⟨D6,ys6,e6,f6,s6,g6,l6,r6⟩=>?_
  · rw [sz_whr]
    have:=h1.2.2
    omega
  subst e6
  have t6:=t5'.trans s6
  have fD6 : H D6 = none:=t5'.free f6
  have stK : ∀ {H H' : Hp} {u : V} {n : Nat},Same H H'→KR K x3 x4 x5 H u n→KR K x3 x4 x5 H' u n:=fun s ⟨ts,h1,h2⟩=>⟨ts,h1.same s fun z=>z,h2⟩
  have stPK : Stb (Pr2 K (KR K x3 x4 x5)):=fun _ _ _ s r=>r.ts (.of s) fun z=>stK s z
  refine sq_asg (σ:=[some (.ref N),some vq,some (.str x3),some (.str x4),some (.str x5),some (.str x6),some (.str x7),some (.str x8),some o,some (.ref L4),some (.ref D6),none]) (H:=H6) (bd_ls (R:=Pr2 K (KR K x3 x4 x5)) stPK
    (ls_cons stPK (bd_due 0 stK bd_c ((bd_ts (R:=NameS) (lo:=1) (hi:=8) (fun s z=>z) (al_cons (fun s z=>z) (bd_nm (bd_var rfl) n3) (al_cons (fun s z=>z) (bd_nm (bd_var rfl) n8) al_nil))).imp fun H v _ r=>⟨_,r,fun hs q=>k1 S hs q⟩))
    (ls_cons stPK (bd_due 2 stK bd_c ((bd_ts (R:=NameS) (lo:=1) (hi:=8) (fun s z=>z) (al_cons (fun s z=>z) (bd_nm (bd_var rfl) n3) (al_cons (fun s z=>z) (bd_nm (bd_var rfl) n3) al_nil))).imp fun H v _ r=>⟨_,r,fun hs q=>k2 S hs q⟩))
    (ls_cons stPK (bd_due 0 stK bd_c ((bd_ts (R:=NameS) (lo:=1) (hi:=8) (fun s z=>z) (al_cons (fun s z=>z) (bd_nm (bd_var rfl) n3) (al_cons (fun s z=>z) (bd_nm (bd_var rfl) n3) (al_cons (fun s z=>z) (bd_nm (bd_var rfl) n8) al_nil)))).imp fun H v _ r=>⟨_,r,fun hs q=>k3 S hs q⟩))
    ls_nil)))) fun v7 H7 s7 ⟨L7,xs7,e7,f7,g7,l7,r7⟩=>?_
  subst e7
  have t7:=t6.trans s7
  refine sq_at (P:=NL K [x0,x1,x2,x3,x4,x5,x6,x7,x8,x9,x10,x11,x12,x13,x14,x15,x16] (ys6.length + xs7.length) H7) (σ:=[some (.ref N),some vq,some (.str x3),some (.str x4),some (.str x5),some (.str x6),some (.str x7),some (.str x8),some o,some (.ref L4),some (.ref D6),some (.ref L7)]) (H:=H7) (fun Q r=>op_catC (k:=xs7.length) rfl (s7 _ _ g6) (fun y hy=>(r6 y hy).ts (.of s7)) (by rw [l6,List.length_append,le4,l7]; simp) (fun Q r=>comp_steps (cs:=[some vq]) xs7 rfl g7 r7 (by rw [l7]; decide) (cap_a2 1 (by decide +kernel) rfl rfl (by first | exact Or.inl rfl | exact Or.inr (Or.inl rfl) | exact Or.inr (Or.inr rfl))) stK
    (fun H' n u hn sm ⟨ts,h1,h2⟩=>bd_step (s:=.keep q0 ts) n (bd_var rfl) (bq_keep bd_c (bd_var' rfl fun H2 s2=>hq.same (t7.trans (sm.trans s2))) (bd_var' rfl fun H2 s2=>h1.same s2 fun z=>z)) (by rw [sz_keep]; omega) (wi_keep hw (h2 _ _)) hn) r) r) fun v8 H8 ⟨D8,ys8,e8,f8,s8,g8,l8,r8⟩=>?_
  subst e8
  have t8:=t7.trans s8
  have fD8 : H D8 = none:=t7.free f8
  have stN : ∀ {H H' : Hp} {u : V} {n : Nat},Same H H'→NR K x3 x4 x5 H u n→NR K x3 x4 x5 H' u n:=fun s ⟨ts,h1,h2⟩=>⟨ts,h1.same s fun z=>z,h2⟩
  have stPN : Stb (Pr2 K (NR K x3 x4 x5)):=fun _ _ _ s r=>r.ts (.of s) fun z=>stN s z
  refine sq_asg (σ:=[some (.ref N),some vq,some (.str x3),some (.str x4),some (.str x5),some (.str x6),some (.str x7),some (.str x8),some o,some (.ref L4),some (.ref D8),some (.ref L7)]) (H:=H8) (bd_ls (R:=Pr2 K (NR K x3 x4 x5)) stPN
    (ls_cons stPN (bd_due 0 stN bd_c ((bd_ts (R:=NameS) (lo:=1) (hi:=8) (fun s z=>z) (al_cons (fun s z=>z) (bd_nm (bd_var rfl) n3) (al_cons (fun s z=>z) (bd_nm (bd_var rfl) n4) al_nil))).imp fun H v _ r=>⟨_,r,fun hs q=>My.n1 S hs q⟩))
    (ls_cons stPN (bd_due 0 stN bd_c ((bd_ts (R:=NameS) (lo:=1) (hi:=8) (fun s z=>z) (al_cons (fun s z=>z) (bd_nm (bd_var rfl) n3) (al_cons (fun s z=>z) (bd_nm (bd_var rfl) n4) (al_cons (fun s z=>z) (bd_nm (bd_var rfl) n5) (al_cons (fun s z=>z) (bd_nm (bd_var rfl) n6) al_nil))))).imp fun H v _ r=>⟨_,r,fun hs q=>My.n2 S hs q⟩))
    (ls_cons stPN (bd_due 2 stN bd_c ((bd_ts (R:=NameS) (lo:=1) (hi:=8) (fun s z=>z) (al_cons (fun s z=>z) (bd_nm (bd_var rfl) n6) (al_cons (fun s z=>z) (bd_nm (bd_var rfl) n7) (al_cons (fun s z=>z) (bd_nm (bd_var rfl) n6) al_nil)))).imp fun H v _ r=>⟨_,r,fun hs q=>My.n3 S hs q⟩))
    (ls_cons stPN (bd_due 0 stN bd_c ((bd_ts (R:=NameS) (lo:=1) (hi:=8) (fun s z=>z) (al_cons (fun s z=>z) (bd_nm (bd_var rfl) n3) (al_cons (fun s z=>z) (bd_nm (bd_var rfl) n3) al_nil))).imp fun H v _ r=>⟨_,r,fun hs q=>My.n4 S hs q⟩))
    ls_nil))))) fun v9 H9 s9 ⟨L9,xs9,e9,f9,g9,l9,r9⟩=>?_
  subst e9
  have t9:=t8.trans s9
  refine op_catC (Q:=Q) (k:=xs9.length) (σ:=[some (.ref N),some vq,some (.str x3),some (.str x4),some (.str x5),some (.str x6),some (.str x7),some (.str x8),some o,some (.ref L4),some (.ref D8),some (.ref L9)]) (H:=H9) (ns:=[x0,x1,x2,x3,x4,x5,x6,x7,x8,x9,x10,x11,x12,x13,x14,x15,x16]) rfl (s9 _ _ g8) (fun y hy=>(r8 y hy).ts (.of s9)) (by rw [l8,l6,List.length_append,le4,l7,l9]; simp) (fun Q r=>comp_steps (cs:=[some vq]) xs9 rfl g9 r9 (by rw [l9]; decide) (cap_a2 1 (by decide +kernel) rfl rfl (by first | exact Or.inl rfl | exact Or.inr (Or.inl rfl) | exact Or.inr (Or.inr rfl))) stN
    (fun H' n u hn sm ⟨ts,h1,h2⟩=>bd_step (s:=.nmd q0 ts) n (bd_var rfl) (bq_nmd bd_c (bd_var' rfl fun H2 s2=>hq.same (t9.trans (sm.trans s2))) (bd_var' rfl fun H2 s2=>h1.same s2 fun z=>z)) (by rw [sz_nmd]; omega) (wi_nmd hw (h2 _ _)) hn) r) fun v H' ⟨D,ys,e,f,s',g,l,r⟩=>?_
  subst e
  have ll : ys.length = 13:=by rw [l,l8,l6,List.length_append,le4,l7,l9]; rfl
  exact q D H' ys (t9.free f) (t9.trans s') g (by omega) (by omega) r
end
end My
set_option Elab.async false
set_option linter.all false
set_option maxRecDepth 100000
namespace My
open PySem PySem.Spec PyProof.Rows L2
set_option maxHeartbeats 400000
section
variable {P : Program} {w : World} {K : PySem.W.Frag} {mg : Str→Option Value} {base : Heap}
theorem w3' {a b c d e z : Str} (S : Six a b c d e z) (hs : Str→Option Hdr) (q : Qn) : Bad hs (.whr q [⟨b,"=",one⟩]) [Fst a b c] 1:=by simp [Bad,hereE,whereE,mapE,bnd,othE,lk_b S.ab,kind1,likeE,wn,clsOf]
theorem ok__law_join_steps (T : Txt w K mg) : Ok P w K mg base 1 "_law_join_steps" ["_law_n","_law_q"] (sp_st K 100):=by
  refine Ok.ofV T.d__law_join_steps sc__law_join_steps (fun vs H Q E h=>?_) (fun f cdv A outer s H vs Q E hr h=>?_)
  · obtain ⟨N,vq,ns,q,rfl,_⟩:=h; rfl
  obtain ⟨N,vq,ns,q0,rfl,hN,hns,hq,hz,hw,q⟩:=h
  obtain ⟨hl,hnm,hnd⟩:=hns
  obtain ⟨x0,x1,x2,x3,x4,x5,x6,x7,x8,x9,x10,x11,x12,x13,x14,x15,x16,rfl⟩:=list17 hl
  have S:=six_of hnd
  have W:=wide_nd hnd
  refine ⟨_,(vss_cons (vs_asg (ve_slice sl_list (vv 0) (vo_some ve_int) (vo_some ve_int)) (vg_tupL rfl (vgs_cons (vg_name (i:=2) sc__law_join_steps.nd rfl (by first | exact Or.inl rfl | exact Or.inr rfl)) (vgs_cons (vg_name (i:=3) sc__law_join_steps.nd rfl (by first | exact Or.inl rfl | exact Or.inr rfl)) (vgs_cons (vg_name (i:=4) sc__law_join_steps.nd rfl (by first | exact Or.inl rfl | exact Or.inr rfl)) (vgs_cons (vg_name (i:=5) sc__law_join_steps.nd rfl (by first | exact Or.inl rfl | exact Or.inr rfl)) (vgs_cons (vg_name (i:=6) sc__law_join_steps.nd rfl (by first | exact Or.inl rfl | exact Or.inr rfl)) (vgs_cons (vg_name (i:=7) sc__law_join_steps.nd rfl (by first | exact Or.inl rfl | exact Or.inr rfl)) vgs_nil)))))))) (vss_cons (vs_set (i:=8) sc__law_join_steps.nd rfl (by first | exact Or.inl rfl | exact Or.inr rfl) (ve_tupA (va_c ve_str (va_c (ve_ix ix_list (vv 0) ve_int (fun _ _=>rfl)) va_nil)))) (vss_cons (vs_set (i:=9) sc__law_join_steps.nd rfl (by first | exact Or.inl rfl | exact Or.inr rfl) (ve_lstA (va_c (ve_tupA (va_c ve_int (va_c (ve_tupA (va_c (ve_tupA (va_c (vv 7) (va_c (vv 2) va_nil))) va_nil)) va_nil))) (va_c (ve_tupA (va_c ve_int (va_c (ve_tupA (va_c (ve_tupA (va_c (vv 2) (va_c (vv 7) va_nil))) va_nil)) va_nil))) (va_c (ve_tupA (va_c ve_int (va_c (ve_tupA (va_c (ve_tupA (va_c (vv 2) (va_c (vv 5) va_nil))) va_nil)) va_nil))) (va_c (ve_tupA (va_c ve_int (va_c (ve_tupA (va_c (ve_tupA (va_c (vv 3) (va_c (vv 2) va_nil))) (va_c (ve_tupA (va_c (vv 2) (va_c (vv 7) va_nil))) va_nil))) va_nil))) (va_c (ve_tupA (va_c ve_int (va_c (ve_tupA (va_c (ve_tupA (va_c (vv 3) (va_c (vv 5) va_nil))) va_nil)) va_nil))) va_nil))))))) (vss_cons (vs_set (i:=9) sc__law_join_steps.nd rfl (by first | exact Or.inl rfl | exact Or.inr rfl) (ve_op op_catLA (vv 9) (ve_lstA (va_c (ve_tupA (va_c ve_int (va_c (ve_tupA (va_c (ve_tupA (va_c (vv 2) (va_c (vv 2) va_nil))) (va_c (ve_tupA (va_c (vv 4) (va_c (vv 2) va_nil))) va_nil))) va_nil))) (va_c (ve_tupA (va_c ve_int (va_c (ve_tupA (va_c (ve_tupA (va_c (vv 3) (va_c (vv 5) va_nil))) (va_c (ve_tupA (va_c (vv 3) (va_c (vv 5) va_nil))) va_nil))) va_nil))) (va_c (ve_tupA (va_c ve_int (va_c (ve_tupA (va_c (ve_tupA (va_c (vv 2) (va_c (vv 2) va_nil))) (va_c (ve_tupA (va_c (vv 4) (va_c (vv 2) va_nil))) (va_c (ve_tupA (va_c (vv 2) (va_c (vv 5) va_nil))) va_nil)))) va_nil))) va_nil)))))) (vss_cons (vs_setC (i0:=10) sc__law_join_steps.nd rfl (by first | exact Or.inl rfl | exact Or.inr rfl) (N:=["_law_due","_law_got","_law_q","_law_n"]) ⟨by decide +kernel,rfl,by decide +kernel,by decide +kernel⟩ (hfr_of (defScope s__law_join_steps) rfl (by decide +kernel)) rfl (vi_list (vv 9)) (fun cl s' H' fp=>⟨(vg_tupK (K:=K) (n:=2) rfl (vgs_cons (vg_name (i:=0) (show (["_law_due","_law_got","_law_q","_law_n"] : List Str).Nodup from by decide +kernel) rfl (Or.inl rfl)) (vgs_cons (vg_name (i:=1) (show (["_law_due","_law_got","_law_q","_law_n"] : List Str).Nodup from by decide +kernel) rfl (Or.inl rfl)) vgs_nil))),vf_nil,(ve_tupA (va_c (vv 0) (va_c (ve_tupA (va_c ve_str (va_c (vv 2) (va_c (ve_tupA (va_c ve_str (va_c (ve_ix (ix_listK (K:=K)) (vv 3) ve_int (fun _ _=>rfl)) va_nil))) (va_c (vv 1) va_nil))))) va_nil)))⟩)) (vss_cons (vs_set (i:=10) sc__law_join_steps.nd rfl (by first | exact Or.inl rfl | exact Or.inr rfl) (ve_op op_catLA (vv 10) (ve_lstA (va_c (ve_tupA (va_c ve_int (va_c (ve_tupA (va_c ve_str (va_c (vv 1) (va_c (vv 1) (va_c (ve_tupA (va_c (ve_tupA (va_c (vv 2) (va_c (vv 2) va_nil))) va_nil)) va_nil))))) va_nil))) (va_c (ve_tupA (va_c ve_int (va_c (ve_tupA (va_c ve_str (va_c (vv 1) (va_c (vv 8) (va_c (ve_tupA (va_c (ve_tupA (va_c (vv 2) (va_c (ve_ix ix_list (vv 0) ve_int (fun _ _=>rfl)) va_nil))) va_nil)) va_nil))))) va_nil))) va_nil))))) (vss_cons (vs_set (i:=10) sc__law_join_steps.nd rfl (by first | exact Or.inl rfl | exact Or.inr rfl) (ve_op op_catLA (vv 10) (ve_lstA (va_c (ve_tupA (va_c ve_int (va_c (ve_tupA (va_c ve_str (va_c (vv 8) (va_c (vv 1) (va_c (ve_tupA (va_c (ve_tupA (va_c (ve_ix ix_list (vv 0) ve_int (fun _ _=>rfl)) (va_c (vv 4) va_nil))) va_nil)) va_nil))))) va_nil))) (va_c (ve_tupA (va_c ve_int (va_c (ve_tupA (va_c ve_str (va_c (vv 8) (va_c (vv 8) (va_c (ve_tupA (va_c (ve_tupA (va_c (ve_ix ix_list (vv 0) ve_int (fun _ _=>rfl)) (va_c (ve_ix ix_list (vv 0) ve_int (fun _ _=>rfl)) va_nil))) va_nil)) va_nil))))) va_nil))) va_nil))))) (vss_cons (vs_expr (ve_bm PySem.F.plainAttrs_list PySem.F.slot_list_append PySem.F.type_list_append mt_appendR (vv 10) (va_c (ve_tupA (va_c ve_int (va_c (ve_tupA (va_c ve_str (va_c (vv 1) (va_c (ve_tupA (va_c ve_str (va_c (vv 7) va_nil))) (va_c (ve_tupA (va_c (ve_tupA (va_c (vv 2) (va_c (vv 2) va_nil))) va_nil)) va_nil))))) va_nil))) va_nil))) (vss_cons (vs_expr (ve_bm PySem.F.plainAttrs_list PySem.F.slot_list_append PySem.F.type_list_append mt_appendR (vv 10) (va_c (ve_tupA (va_c ve_int (va_c (ve_tupA (va_c ve_str (va_c (ve_tupA (va_c ve_str (va_c (vv 1) (va_c (ve_tupA (va_c (ve_tupA (va_c (vv 3) (va_c ve_str (va_c (ve_tupA (va_c ve_str (va_c ve_int va_nil))) va_nil)))) va_nil)) va_nil)))) (va_c (ve_tupA (va_c ve_str (va_c (vv 7) va_nil))) (va_c (ve_tupA (va_c (ve_tupA (va_c (vv 7) (va_c (vv 7) va_nil))) va_nil)) va_nil))))) va_nil))) va_nil))) (vss_one (vs_ret (ve_op op_catLA (vv 10) (ve_lstA (va_c (ve_tupA (va_c ve_int (va_c (ve_tupA (va_c ve_str (va_c (ve_tupA (va_c ve_str (va_c (vv 7) va_nil))) (va_c (ve_tupA (va_c ve_str (va_c (vv 1) (va_c (ve_tupA (va_c (vv 7) va_nil)) va_nil)))) (va_c (ve_tupA (va_c (ve_tupA (va_c (vv 2) (va_c (vv 2) va_nil))) va_nil)) va_nil))))) va_nil))) va_nil)))))))))))))),?_⟩
  refine ⟨_,rfl,_,rfl,_,rfl,N,_,rfl,SqL.of hN,fun p fp=>⟨p,[.str x3,.str x4,.str x5,.str x6,.str x7,.str x8],rfl,SqL.of upd_same,rfl,_,_,rfl,_,_,rfl,_,_,rfl,_,_,rfl,_,_,rfl,_,_,rfl,rfl,?_⟩⟩
  have n1 : Nm x1:=hnm x1 (by simp)
  have n2 : Nm x2:=hnm x2 (by simp)
  have n3 : Nm x3:=hnm x3 (by simp)
  have n4 : Nm x4:=hnm x4 (by simp)
  have n5 : Nm x5:=hnm x5 (by simp)
  have n6 : Nm x6:=hnm x6 (by simp)
  have n7 : Nm x7:=hnm x7 (by simp)
  have n8 : Nm x8:=hnm x8 (by simp)
  have n10 : Nm x10:=hnm x10 (by simp)
  have s1 : Same H (upd H p (.lst [.str x3,.str x4,.str x5,.str x6,.str x7,.str x8])):=same_new fp _
  refine sq_asg (σ:=[some (.ref N),some vq,some (.str x3),some (.str x4),some (.str x5),some (.str x6),some (.str x7),some (.str x8),none,none,none]) (H:=upd H p (.lst [.str x3,.str x4,.str x5,.str x6,.str x7,.str x8])) (bq_table (K:=K) bd_c (bd_ix (k:=2) rfl (s1 _ _ hN) rfl) n2) fun wd H2 s2 hwd=>?_
  have t2:=s1.trans s2
  have stJ : ∀ {H H' : Hp} {u : V} {n : Nat},Same H H'→JR K x3 x4 x5 x6 H u n→JR K x3 x4 x5 x6 H' u n:=fun s ⟨ts,h1,h2⟩=>⟨ts,h1.same s fun z=>z.same s,h2⟩
  have stP : Stb (Pr2 K (JR K x3 x4 x5 x6)):=fun _ _ _ s r=>r.ts (.of s) fun z=>stJ s z
  refine sq_asg (σ:=[some (.ref N),some vq,some (.str x3),some (.str x4),some (.str x5),some (.str x6),some (.str x7),some (.str x8),some wd,none,none]) (H:=H2) (bd_ls (R:=Pr2 K (JR K x3 x4 x5 x6)) stP
    (ls_cons stP (bd_due 0 stJ bd_c ((bd_ts (R:=IsPr) (lo:=1) (hi:=3) (fun s z=>z.same s) (al_cons (fun s z=>z.same s) (bd_pr (bd_var rfl) (bd_var rfl) n8 n3) al_nil)).imp fun H v _ r=>⟨_,r,fun hs q r=>j1 S hs q r⟩))
    (ls_cons stP (bd_due 0 stJ bd_c ((bd_ts (R:=IsPr) (lo:=1) (hi:=3) (fun s z=>z.same s) (al_cons (fun s z=>z.same s) (bd_pr (bd_var rfl) (bd_var rfl) n3 n8) al_nil)).imp fun H v _ r=>⟨_,r,fun hs q r=>j2 S hs q r⟩))
    (ls_cons stP (bd_due 1 stJ bd_c ((bd_ts (R:=IsPr) (lo:=1) (hi:=3) (fun s z=>z.same s) (al_cons (fun s z=>z.same s) (bd_pr (bd_var rfl) (bd_var rfl) n3 n6) al_nil)).imp fun H v _ r=>⟨_,r,fun hs q r=>j3 S hs q r⟩))
    (ls_cons stP (bd_due 0 stJ bd_c ((bd_ts (R:=IsPr) (lo:=1) (hi:=3) (fun s z=>z.same s) (al_cons (fun s z=>z.same s) (bd_pr (bd_var rfl) (bd_var rfl) n4 n3) (al_cons (fun s z=>z.same s) (bd_pr (bd_var rfl) (bd_var rfl) n3 n8) al_nil))).imp fun H v _ r=>⟨_,r,fun hs q r=>j4 S hs q r⟩))
    (ls_cons stP (bd_due 2 stJ bd_c ((bd_ts (R:=IsPr) (lo:=1) (hi:=3) (fun s z=>z.same s) (al_cons (fun s z=>z.same s) (bd_pr (bd_var rfl) (bd_var rfl) n4 n6) al_nil)).imp fun H v _ r=>⟨_,r,fun hs q r=>j5 S hs q r⟩))
    ls_nil)))))) fun v3 H3 s3 ⟨L3,xs3,e3,f3,g3,l3,r3⟩=>?_
  subst e3
  refine sq_cat (σ:=[some (.ref N),some vq,some (.str x3),some (.str x4),some (.str x5),some (.str x6),some (.str x7),some (.str x8),some wd,some (.ref L3),none]) (H:=H3) rfl g3 (bd_ls (R:=Pr2 K (JR K x3 x4 x5 x6)) stP
    (ls_cons stP (bd_due 2 stJ bd_c ((bd_ts (R:=IsPr) (lo:=1) (hi:=3) (fun s z=>z.same s) (al_cons (fun s z=>z.same s) (bd_pr (bd_var rfl) (bd_var rfl) n3 n3) (al_cons (fun s z=>z.same s) (bd_pr (bd_var rfl) (bd_var rfl) n5 n3) al_nil))).imp fun H v _ r=>⟨_,r,fun hs q r=>j6 S hs q r⟩))
    (ls_cons stP (bd_due 2 stJ bd_c ((bd_ts (R:=IsPr) (lo:=1) (hi:=3) (fun s z=>z.same s) (al_cons (fun s z=>z.same s) (bd_pr (bd_var rfl) (bd_var rfl) n4 n6) (al_cons (fun s z=>z.same s) (bd_pr (bd_var rfl) (bd_var rfl) n4 n6) al_nil))).imp fun H v _ r=>⟨_,r,fun hs q r=>j7 S hs q r⟩))
    (ls_cons stP (bd_due 1 stJ bd_c ((bd_ts (R:=IsPr) (lo:=1) (hi:=3) (fun s z=>z.same s) (al_cons (fun s z=>z.same s) (bd_pr (bd_var rfl) (bd_var rfl) n3 n3) (al_cons (fun s z=>z.same s) (bd_pr (bd_var rfl) (bd_var rfl) n5 n3) (al_cons (fun s z=>z.same s) (bd_pr (bd_var rfl) (bd_var rfl) n3 n6) al_nil)))).imp fun H v _ r=>⟨_,r,fun hs q r=>j8 S hs q r⟩))
    ls_nil)))) (by omega) (fun L4 H4 zs4 f4 s4 g4 l4 r4=>?_) stP
  have a4 : ∀ y ∈ xs3 ++ zs4,Pr2 K (JR K x3 x4 x5 x6) H4 y:=fun y hy=>(List.mem_append.mp hy).elim (fun z=>stP _ _ _ s4 (r3 y z)) (r4 y)
  have le4 : (xs3 ++ zs4).length = 8:=by rw [List.length_append]; omega
  have t4:=t2.trans (s3.trans s4)
  refine sq_at (σ:=[some (.ref N),some vq,some (.str x3),some (.str x4),some (.str x5),some (.str x6),some (.str x7),some (.str x8),some wd,some (.ref L4),none]) (H:=H4) (fun Q r=>comp_steps (ns:=[x0,x1,x2,x3,x4,x5,x6,x7,x8,x9,x10,x11,x12,x13,x14,x15,x16]) (cs:=[some vq,some (.ref N)]) (xs3 ++ zs4) rfl g4 a4 (by omega) (cap_a22 1 0 (by decide +kernel) rfl rfl (by first | exact Or.inl rfl | exact Or.inr (Or.inl rfl) | exact Or.inr (Or.inr rfl)) (by decide +kernel) rfl rfl (by first | exact Or.inl rfl | exact Or.inr (Or.inl rfl) | exact Or.inr (Or.inr rfl))) stJ
    (fun H' n u hn sm ⟨ts,h1,h2⟩=>bd_step (s:=.join q0 (.table x1) ts) n (bd_var rfl) (bq_join bd_c (bd_var' rfl fun H2 s2=>hq.same (t4.trans (sm.trans s2))) (bq_table bd_c (bd_ix (k:=1) rfl ((t4.trans sm) _ _ hN) rfl) n1) (bd_var' rfl fun H2 s2=>h1.same s2 fun z=>z.same s2)) (by rw [sz_join,sz_table]; omega) (wi_join hw (wt1 hnd) (h2 _ _ _)) hn) r) fun v5 H5 ⟨D5,ys5,e5,f5,s5,g5,l5,r5⟩=>?_
  subst e5
  have t5:=t4.trans s5
  have hN5:=t5 _ _ hN
  have u5 : Same H2 H5:=s3.trans (s4.trans s5)
  refine sq_cat (R:=Stp K [x0,x1,x2,x3,x4,x5,x6,x7,x8,x9,x10,x11,x12,x13,x14,x15,x16]) (σ:=[some (.ref N),some vq,some (.str x3),some (.str x4),some (.str x5),some (.str x6),some (.str x7),some (.str x8),some wd,some (.ref L4),some (.ref D5)]) (H:=H5) rfl g5 (bd_ls stb_stp
    (ls_cons stb_stp (bd_step (ns:=[x0,x1,x2,x3,x4,x5,x6,x7,x8,x9,x10,x11,x12,x13,x14,x15,x16]) (s:=.join q0 q0 [(x3,x3)]) 2 bd_c (bq_join bd_c (bd_var' rfl fun H2 s2=>hq.same (t5.trans s2)) (bd_var' rfl fun H2 s2=>hq.same (t5.trans s2)) (bd_ts (R:=IsPr) (lo:=1) (hi:=3) (fun s z=>z.same s) (al_cons (fun s z=>z.same s) (bd_pr (bd_var rfl) (bd_var rfl) n3 n3) al_nil))) (by rw [sz_join]; omega) (wi_join hw hw (j9 S _ _ _)))
    (ls_cons stb_stp (bd_step (ns:=[x0,x1,x2,x3,x4,x5,x6,x7,x8,x9,x10,x11,x12,x13,x14,x15,x16]) (s:=.join q0 (.table x2) [(x3,x10)]) 3 bd_c (bq_join bd_c (bd_var' rfl fun H2 s2=>hq.same (t5.trans s2)) (bd_var' rfl fun H2 s2=>hwd.same (u5.trans s2)) (bd_ts (R:=IsPr) (lo:=1) (hi:=3) (fun s z=>z.same s) (al_cons (fun s z=>z.same s) (bd_pr (bd_var rfl) (bd_ix rfl hN5 rfl) n3 n10) al_nil))) (by rw [sz_join,sz_table]; omega) (wi_join hw (wt2 hnd) (jw1 _ _ _ W)))
    ls_nil))) (by omega) (fun D6 H6 zs6 f6 s6 g6 l6 r6=>?_) stb_stp
  have a6 : ∀ y ∈ ys5 ++ zs6,Stp K [x0,x1,x2,x3,x4,x5,x6,x7,x8,x9,x10,x11,x12,x13,x14,x15,x16] H6 y:=fun y hy=>(List.mem_append.mp hy).elim (fun z=>stb_stp _ _ _ s6 (r5 y z)) (r6 y)
  have le6 : (ys5 ++ zs6).length = 10:=by rw [List.length_append]; omega
  have t6:=t5.trans s6
  have hN6:=t6 _ _ hN
  have u6 : Same H2 H6:=u5.trans s6
  refine sq_cat (R:=Stp K [x0,x1,x2,x3,x4,x5,x6,x7,x8,x9,x10,x11,x12,x13,x14,x15,x16]) (σ:=[some (.ref N),some vq,some (.str x3),some (.str x4),some (.str x5),some (.str x6),some (.str x7),some (.str x8),some wd,some (.ref L4),some (.ref D6)]) (H:=H6) rfl g6 (bd_ls stb_stp
    (ls_cons stb_stp (bd_step (ns:=[x0,x1,x2,x3,x4,x5,x6,x7,x8,x9,x10,x11,x12,x13,x14,x15,x16]) (s:=.join (.table x2) q0 [(x10,x5)]) 3 bd_c (bq_join bd_c (bd_var' rfl fun H2 s2=>hwd.same (u6.trans s2)) (bd_var' rfl fun H2 s2=>hq.same (t6.trans s2)) (bd_ts (R:=IsPr) (lo:=1) (hi:=3) (fun s z=>z.same s) (al_cons (fun s z=>z.same s) (bd_pr (bd_ix rfl hN6 rfl) (bd_var rfl) n10 n5) al_nil))) (by rw [sz_join,sz_table]; omega) (wi_join (wt2 hnd) hw (jw2 _ _ _ W)))
    (ls_cons stb_stp (bd_step (ns:=[x0,x1,x2,x3,x4,x5,x6,x7,x8,x9,x10,x11,x12,x13,x14,x15,x16]) (s:=.join (.table x2) (.table x2) [(x10,x10)]) 2 bd_c (bq_join bd_c (bd_var' rfl fun H2 s2=>hwd.same (u6.trans s2)) (bd_var' rfl fun H2 s2=>hwd.same (u6.trans s2)) (bd_ts (R:=IsPr) (lo:=1) (hi:=3) (fun s z=>z.same s) (al_cons (fun s z=>z.same s) (bd_pr (bd_ix rfl hN6 rfl) (bd_ix rfl hN6 rfl) n10 n10) al_nil))) (by rw [sz_join,sz_table]; omega) (wi_join (wt2 hnd) (wt2 hnd) (jw3 _ _ _ W)))
    ls_nil))) (by omega) (fun D7 H7 zs7 f7 s7 g7 l7 r7=>?_) stb_stp
  have a7 : ∀ y ∈ ys5 ++ zs6 ++ zs7,Stp K [x0,x1,x2,x3,x4,x5,x6,x7,x8,x9,x10,x11,x12,x13,x14,x15,x16] H7 y:=fun y hy=>(List.mem_append.mp hy).elim (fun z=>stb_stp _ _ _ s7 (a6 y z)) (r7 y)
  have le7 : (ys5 ++ zs6 ++ zs7).length = 12:=by rw [List.length_append]; omega
  have t7:=t6.trans s7
  have fD7 : H D7 = none:=t6.free f7
  refine sq_app (R:=Stp K [x0,x1,x2,x3,x4,x5,x6,x7,x8,x9,x10,x11,x12,x13,x14,x15,x16]) (σ:=[some (.ref N),some vq,some (.str x3),some (.str x4),some (.str x5),some (.str x6),some (.str x7),some (.str x8),some wd,some (.ref L4),some (.ref D7)]) (H:=H7) rfl g7 (bd_step (ns:=[x0,x1,x2,x3,x4,x5,x6,x7,x8,x9,x10,x11,x12,x13,x14,x15,x16]) (s:=.join q0 (.table x8) [(x3,x3)]) 4 bd_c (bq_join bd_c (bd_var' rfl fun H2 s2=>hq.same (t7.trans s2)) (bq_table bd_c (bd_var rfl) n8) (bd_ts (R:=IsPr) (lo:=1) (hi:=3) (fun s z=>z.same s) (al_cons (fun s z=>z.same s) (bd_pr (bd_var rfl) (bd_var rfl) n3 n3) al_nil))) (by rw [sz_join,sz_table]; omega) (wi_join2 hw (wt8 hnd))) (by omega) fun v8 H8 s8 r8 g8=>?_
  have t8:=t7.trans s8
  have u8 : TS H8 (upd H8 D7 (.lst (ys5 ++ zs6 ++ zs7 ++ [v8]))):=.upd g8
  have t8' : Same H (upd H8 D7 (.lst (ys5 ++ zs6 ++ zs7 ++ [v8]))):=same_upd fD7 t8
  have a8 : ∀ y ∈ ys5 ++ zs6 ++ zs7 ++ [v8],Stp K [x0,x1,x2,x3,x4,x5,x6,x7,x8,x9,x10,x11,x12,x13,x14,x15,x16] (upd H8 D7 (.lst (ys5 ++ zs6 ++ zs7 ++ [v8]))) y:=fun y hy=>Stp.ts u8 ((List.mem_append.mp hy).elim (fun z=>stb_stp _ _ _ s8 (a7 y z)) fun z=>by rw [List.mem_singleton.mp z]; exact r8)
  have le8 : (ys5 ++ zs6 ++ zs7 ++ [v8]).length = 13:=by rw [List.length_append,le7]; rfl
  refine sq_app (R:=Stp K [x0,x1,x2,x3,x4,x5,x6,x7,x8,x9,x10,x11,x12,x13,x14,x15,x16]) (σ:=[some (.ref N),some vq,some (.str x3),some (.str x4),some (.str x5),some (.str x6),some (.str x7),some (.str x8),some wd,some (.ref L4),some (.ref D7)]) (H:=upd H8 D7 (.lst (ys5 ++ zs6 ++ zs7 ++ [v8]))) (xs:=ys5 ++ zs6 ++ zs7 ++ [v8]) rfl upd_same (bd_step (ns:=[x0,x1,x2,x3,x4,x5,x6,x7,x8,x9,x10,x11,x12,x13,x14,x15,x16]) (s:=.join (.whr q0 [⟨x4,"=",one⟩]) (.table x8) [(x8,x8)]) 1 bd_c (bq_join bd_c (bq_whr bd_c (bd_var' rfl fun H2 s2=>hq.same (t8'.trans s2)) (bd_ts (R:=IsT) (lo:=1) (hi:=3) (fun s z=>z.same s) (al_cons (fun s z=>z.same s) (bd_test (bd_var rfl) bd_c (bd_val bd_c bd_c (fun H=>.inr (.inl ⟨1,rfl⟩)) rfl) n4 (.inl rfl)) al_nil))) (bq_table bd_c (bd_var rfl) n8) (bd_ts (R:=IsPr) (lo:=1) (hi:=3) (fun s z=>z.same s) (al_cons (fun s z=>z.same s) (bd_pr (bd_var rfl) (bd_var rfl) n8 n8) al_nil))) (by rw [sz_join,sz_whr,sz_table,List.length_singleton]; omega) (wi_join1 (wi_whr hw (w3' S _ _)))) (by omega) fun v9 H9 s9 r9 g9=>?_
  have t9:=t8'.trans s9
  have u9 : TS H9 (upd H9 D7 (.lst (ys5 ++ zs6 ++ zs7 ++ [v8] ++ [v9]))):=.upd g9
  have t9' : Same H (upd H9 D7 (.lst (ys5 ++ zs6 ++ zs7 ++ [v8] ++ [v9]))):=same_upd fD7 t9
  have a9 : ∀ y ∈ ys5 ++ zs6 ++ zs7 ++ [v8] ++ [v9],Stp K [x0,x1,x2,x3,x4,x5,x6,x7,x8,x9,x10,x11,x12,x13,x14,x15,x16] (upd H9 D7 (.lst (ys5 ++ zs6 ++ zs7 ++ [v8] ++ [v9]))) y:=fun y hy=>Stp.ts u9 ((List.mem_append.mp hy).elim (fun z=>stb_stp _ _ _ s9 (a8 y z)) fun z=>by rw [List.mem_singleton.mp z]; exact r9)
  have le9 : (ys5 ++ zs6 ++ zs7 ++ [v8] ++ [v9]).length = 14:=by rw [List.length_append,le8]; rfl
  refine ⟨_,rfl,(bd_ls (R:=Stp K [x0,x1,x2,x3,x4,x5,x6,x7,x8,x9,x10,x11,x12,x13,x14,x15,x16]) (σ:=[some (.ref N),some vq,some (.str x3),some (.str x4),some (.str x5),some (.str x6),some (.str x7),some (.str x8),some wd,some (.ref L4),some (.ref D7)]) (H0:=upd H9 D7 (.lst (ys5 ++ zs6 ++ zs7 ++ [v8] ++ [v9]))) stb_stp (ls_cons stb_stp (bd_step (ns:=[x0,x1,x2,x3,x4,x5,x6,x7,x8,x9,x10,x11,x12,x13,x14,x15,x16]) (s:=.join (.table x8) (.keep q0 [x8]) [(x3,x3)]) 4 bd_c (bq_join bd_c (bq_table bd_c (bd_var rfl) n8) (bq_keep bd_c (bd_var' rfl fun H2 s2=>hq.same (t9'.trans s2)) (bd_ts (R:=NameS) (lo:=1) (hi:=8) (fun s z=>z) (al_cons (fun s z=>z) (bd_nm (bd_var rfl) n8) al_nil))) (bd_ts (R:=IsPr) (lo:=1) (hi:=3) (fun s z=>z.same s) (al_cons (fun s z=>z.same s) (bd_pr (bd_var rfl) (bd_var rfl) n3 n3) al_nil))) (by rw [sz_join,sz_keep,sz_table]; omega) (wi_join1 (wt8 hnd))) ls_nil)).at0 fun v10 Ha sa ⟨La,xa,ea,fa,ga,la,ra⟩=>?_⟩
  subst ea
  refine ⟨D7,La,_,xa,rfl,rfl,sa _ _ upd_same,ga,small (by omega),fun D Hb fb sb gb=>?_⟩
  refine q D Hb _ (t9'.free (sa.free fb)) (t9'.trans (sa.trans sb)) gb (by rw [List.length_append]; omega) (by rw [List.length_append]; omega) fun y hy=>?_
  rcases List.mem_append.mp hy with z | z
  · exact (a9 y z).ts (.of (sa.trans sb))
  · exact (ra y z).ts (.of sb)
end
end My
set_option Elab.async false
set_option linter.all false
set_option maxRecDepth 100000
namespace My
open PySem PySem.Spec PyProof.Rows L2
set_option maxHeartbeats 400000
section
variable {P : Program} {w : World} {K : PySem.W.Frag} {mg : Str→Option Value} {base : Heap}
def Pr3 (K : PySem.W.Frag) (a b c : Str) : RV:=fun H y=>∃ (p : Addr) (n : Nat) (u x : V) (ns : List Str) (ss : List Sm),y = .ref p∧SqT K H p [.int n,u,x]∧n ≤ 4∧TupS NameS 0 8 K H u ns∧TupS IsSm 0 4 K H x ss∧∀ hs q,Bad hs (.group q ns ss) [Fst a b c] n
theorem stb_p3 {a b c : Str} : Stb (Pr3 K a b c):=fun H H' v s ⟨p,n,u,x,ns,ss,e,g,hn,h1,h2,h3⟩=>⟨p,n,u,x,ns,ss,e,s.seqT g,hn,h1.same s fun z=>z,h2.same s fun z=>z.same s,h3⟩
theorem bd_due3 {σ : L2.St} {H0 : Hp} {a b c : Str} {t1 t2 t3 : TE} {ns : List Str} {ss : List Sm} (n : Nat) (h1 : Bd σ H0 t1 (IsV (.int n))) (h2 : Bd σ H0 t2 (fun H v=>TupS NameS 0 8 K H v ns)) (h3 : Bd σ H0 t3 (fun H v=>TupS IsSm 0 4 K H v ss)) (hb : ∀ hs q,Bad hs (.group q ns ss) [Fst a b c] n) (hn : n ≤ 4:=by decide) : Bd σ H0 (tTupA (tCons t1 (tCons t2 (tCons t3 tNil)))) (Pr3 K a b c) :=
  (bd_t3 (K:=K) stb_v (fun _ _ _ s r=>r.same s fun z=>z) (fun _ _ _ s r=>r.same s fun z=>z.same s) h1 h2 h3).imp fun H v _ ⟨p,x,y,z,e,g,e1,r2,r3⟩=>by cases e1; exact ⟨p,n,y,z,ns,ss,e,g,hn,r2,r3,hb⟩
def FR (K : PySem.W.Frag) (a b c : Str) : Hp→V→Nat→Prop:=fun H u n=>∃ ks,TupS IsKy 0 3 K H u ks∧∀ hs q,Bad hs (.first q ks 3) [Fst a b c] n
section
variable {X : Cx} {scope : Scope} {σ : L2.St} {H : Hp} {te : TE} {Q : VK} {cs : L2.St} {ns : List Str}
theorem comp_steps3 {a b c : Str} {N : List Str} {j : Nat} {L : Addr} (xs : List V) (hj : σ[j]? = some (some (.ref L))) (hL : H L = some (.lst xs)) (hx : ∀ y ∈ xs,Pr3 K a b c H y) (hl : xs.length ≤ 1000) (cap : Cap X scope N σ (none :: none :: none :: cs))
    (b : ∀ H' (n : Nat) u x nms ss,n ≤ 4→Same H H'→TupS NameS 0 8 K H' u nms→TupS IsSm 0 4 K H' x ss→(∀ hs q,Bad hs (.group q nms ss) [Fst a b c] n)→Bd (some (.int n) :: some u :: some x :: cs) H' te (Stp K ns))
    (q : ∀ v H',NL K ns xs.length H v H'→Q v H') :
    tComp X scope N (iList K (tVar j)) (gTup K 3 (gCons (gName 0) (gCons (gName 1) (gCons (gName 2) gNil)))) tYes te σ H Q:=by
  refine comp_gen xs (Stp K ns) (fun s r=>r.ts (.of s)) (fun e r=>r.ts (.upd e)) (none :: none :: none :: cs) cap (small hl) (fun σ'=>∃ l0 l1 l2,σ' = l0 :: l1 :: l2 :: cs) ⟨_,_,_,rfl⟩ (fun R r=>⟨_,hj,r L (SqL.of hL) fun H' s=>SqL.of (s _ _ hL)⟩) (fun i x ex σ' H' R' hg sm r=>?_) fun D H' ys f sm g l r=>q _ _ ⟨D,ys,rfl,f,sm,g,l,r⟩
  obtain ⟨l0,l1,l2,rfl⟩:=hg
  obtain ⟨p,n,u,x',nms,ss,rfl,g,hn,h1,h2,h3⟩:=hx x (List.mem_of_getElem? ex)
  refine ⟨p,_,rfl,sm.seqT g,rfl,_,_,rfl,_,_,rfl,_,_,rfl,rfl,?_⟩
  exact (b H' n u x' nms ss hn sm (h1.same sm fun z=>z) (h2.same sm fun z=>z.same sm) h3).at0 fun y H5 s5 r5=>r _ _ _ ⟨_,_,_,rfl⟩ s5 r5
end
theorem ok__law_steps (T : Txt w K mg) (G__law_where_steps : Ok P w K mg base 1 "_law_where_steps" ["_law_n","_law_q"] (sp_st K 100)) (G__law_join_steps : Ok P w K mg base 1 "_law_join_steps" ["_law_n","_law_q"] (sp_st K 100)) : Ok P w K mg base 2 "_law_steps" ["_law_n","_law_q"] (sp_st K 300):=by
  refine Ok.ofV T.d__law_steps sc__law_steps (fun vs H Q E h=>?_) (fun f cdv A outer s H vs Q E hr h=>?_)
  · obtain ⟨N,vq,ns,q,rfl,_⟩:=h; rfl
  obtain ⟨N,vq,ns,q0,rfl,hN,hns,hq,hz,hw,q⟩:=h
  have hns0:=hns
  obtain ⟨hl,hnm,hnd⟩:=hns
  obtain ⟨x0,x1,x2,x3,x4,x5,x6,x7,x8,x9,x10,x11,x12,x13,x14,x15,x16,rfl⟩:=list17 hl
  have S:=six_of hnd
  have W:=wide_nd hnd
  refine ⟨_,(vss_cons (vs_asg (ve_slice sl_list (vv 0) (vo_some ve_int) (vo_some ve_int)) (vg_tupL rfl (vgs_cons (vg_name (i:=2) sc__law_steps.nd rfl (by first | exact Or.inl rfl | exact Or.inr rfl)) (vgs_cons (vg_name (i:=3) sc__law_steps.nd rfl (by first | exact Or.inl rfl | exact Or.inr rfl)) (vgs_cons (vg_name (i:=4) sc__law_steps.nd rfl (by first | exact Or.inl rfl | exact Or.inr rfl)) (vgs_cons (vg_name (i:=5) sc__law_steps.nd rfl (by first | exact Or.inl rfl | exact Or.inr rfl)) (vgs_cons (vg_name (i:=6) sc__law_steps.nd rfl (by first | exact Or.inl rfl | exact Or.inr rfl)) (vgs_cons (vg_name (i:=7) sc__law_steps.nd rfl (by first | exact Or.inl rfl | exact Or.inr rfl)) vgs_nil)))))))) (vss_cons (vs_set (i:=8) sc__law_steps.nd rfl (by first | exact Or.inl rfl | exact Or.inr rfl) (ve_lstA (va_c (ve_tupA (va_c ve_int (va_c (ve_tupA (va_c (vv 7) va_nil)) (va_c (ve_tupA va_nil) va_nil)))) (va_c (ve_tupA (va_c ve_int (va_c (ve_tupA (va_c (vv 2) va_nil)) (va_c (ve_tupA (va_c (ve_tupA (va_c ve_str (va_c (vv 7) (va_c (vv 5) va_nil)))) va_nil)) va_nil)))) (va_c (ve_tupA (va_c ve_int (va_c (ve_tupA (va_c (vv 2) va_nil)) (va_c (ve_tupA (va_c (ve_tupA (va_c ve_str (va_c (vv 3) (va_c (vv 5) va_nil)))) (va_c (ve_tupA (va_c ve_str (va_c (vv 7) (va_c (vv 6) va_nil)))) va_nil))) va_nil)))) va_nil))))) (vss_cons (vs_set (i:=8) sc__law_steps.nd rfl (by first | exact Or.inl rfl | exact Or.inr rfl) (ve_op op_catLA (vv 8) (ve_lstA (va_c (ve_tupA (va_c ve_int (va_c (ve_tupA (va_c (vv 2) va_nil)) (va_c (ve_tupA (va_c (ve_tupA (va_c ve_str (va_c (vv 3) (va_c (vv 5) va_nil)))) va_nil)) va_nil)))) (va_c (ve_tupA (va_c ve_int (va_c (ve_tupA (va_c (vv 2) (va_c (vv 2) va_nil))) (va_c (ve_tupA (va_c (ve_tupA (va_c ve_str (va_c (vv 3) (va_c (vv 5) va_nil)))) va_nil)) va_nil)))) (va_c (ve_tupA (va_c ve_int (va_c (ve_tupA (va_c (vv 2) (va_c (vv 2) va_nil))) (va_c (ve_tupA va_nil) va_nil)))) va_nil)))))) (vss_cons (vs_set (i:=8) sc__law_steps.nd rfl (by first | exact Or.inl rfl | exact Or.inr rfl) (ve_op op_catLA (vv 8) (ve_lstA (va_c (ve_tupA (va_c ve_int (va_c (ve_tupA (va_c (vv 2) va_nil)) (va_c (ve_tupA (va_c (ve_tupA (va_c ve_str (va_c ve_non (va_c (vv 2) va_nil)))) va_nil)) va_nil)))) (va_c (ve_tupA (va_c ve_int (va_c (ve_tupA va_nil) (va_c (ve_tupA (va_c (ve_tupA (va_c ve_str (va_c (vv 3) (va_c (vv 5) va_nil)))) (va_c (ve_tupA (va_c ve_str (va_c (vv 3) (va_c (vv 5) va_nil)))) va_nil))) va_nil)))) (va_c (ve_tupA (va_c ve_int (va_c (ve_tupA va_nil) (va_c (ve_tupA va_nil) va_nil)))) va_nil)))))) (vss_cons (vs_setC (i0:=9) sc__law_steps.nd rfl (by first | exact Or.inl rfl | exact Or.inr rfl) (N:=["_law_due","_law_names_here","_law_got","_law_q"]) ⟨by decide +kernel,rfl,by decide +kernel,by decide +kernel⟩ (hfr_of (defScope s__law_steps) rfl (by decide +kernel)) rfl (vi_list (vv 8)) (fun cl s' H' fp=>⟨(vg_tupK (K:=K) (n:=3) rfl (vgs_cons (vg_name (i:=0) (show (["_law_due","_law_names_here","_law_got","_law_q"] : List Str).Nodup from by decide +kernel) rfl (Or.inl rfl)) (vgs_cons (vg_name (i:=1) (show (["_law_due","_law_names_here","_law_got","_law_q"] : List Str).Nodup from by decide +kernel) rfl (Or.inl rfl)) (vgs_cons (vg_name (i:=2) (show (["_law_due","_law_names_here","_law_got","_law_q"] : List Str).Nodup from by decide +kernel) rfl (Or.inl rfl)) vgs_nil)))),vf_nil,(ve_tupA (va_c (vv 0) (va_c (ve_tupA (va_c ve_str (va_c (vv 3) (va_c (vv 1) (va_c (vv 2) va_nil))))) va_nil)))⟩)) (vss_cons (vs_set (i:=10) sc__law_steps.nd rfl (by first | exact Or.inl rfl | exact Or.inr rfl) (ve_lstA (va_c (ve_tupA (va_c ve_int (va_c (ve_tupA (va_c (ve_tupA (va_c (vv 7) (va_c ve_str va_nil))) va_nil)) va_nil))) (va_c (ve_tupA (va_c ve_int (va_c (ve_tupA (va_c (ve_tupA (va_c (vv 2) (va_c ve_str va_nil))) (va_c (ve_tupA (va_c (vv 2) (va_c ve_str va_nil))) va_nil))) va_nil))) (va_c (ve_tupA (va_c ve_int (va_c (ve_tupA (va_c (ve_tupA (va_c (vv 2) (va_c ve_str va_nil))) (va_c (ve_tupA (va_c (vv 2) (va_c ve_str va_nil))) (va_c (ve_tupA (va_c (vv 7) (va_c ve_str va_nil))) va_nil)))) va_nil))) va_nil))))) (vss_cons (vs_set (i:=9) sc__law_steps.nd rfl (by first | exact Or.inl rfl | exact Or.inr rfl) (ve_op op_catLA (vv 9) (ve_comp (N:=["_law_due","_law_got","_law_q"]) ⟨by decide +kernel,rfl,by decide +kernel,by decide +kernel⟩ (hfr_of (defScope s__law_steps) rfl (by decide +kernel)) rfl (vi_list (vv 10)) (fun cl s' H' fp=>⟨(vg_tupK (K:=K) (n:=2) rfl (vgs_cons (vg_name (i:=0) (show (["_law_due","_law_got","_law_q"] : List Str).Nodup from by decide +kernel) rfl (Or.inl rfl)) (vgs_cons (vg_name (i:=1) (show (["_law_due","_law_got","_law_q"] : List Str).Nodup from by decide +kernel) rfl (Or.inl rfl)) vgs_nil))),vf_nil,(ve_tupA (va_c (vv 0) (va_c (ve_tupA (va_c ve_str (va_c (vv 2) (va_c (vv 1) (va_c ve_int va_nil))))) va_nil)))⟩)))) (vss_cons (vs_set (i:=11) sc__law_steps.nd rfl (by first | exact Or.inl rfl | exact Or.inr rfl) (ve_callTy call_tupleA (by rfl) T.n_tuple bt_tuple (va_c (ve_comp (N:=["_law_k","_law_n"]) ⟨by decide +kernel,rfl,by decide +kernel,by decide +kernel⟩ (hfr_of (defScope s__law_steps) rfl (by decide +kernel)) rfl (vi_range1 (by rfl) T.n_range (va_c ve_int va_nil)) (fun cl s' H' fp=>⟨(vg_name (i:=0) (show (["_law_k","_law_n"] : List Str).Nodup from by decide +kernel) rfl (Or.inl rfl)),vf_nil,(ve_ix (ix_listK (K:=K)) (vv 1) (ve_op op_add ve_int (vv 0)) (fun _ _=>rfl))⟩)) va_nil))) (vss_cons (vs_expr (ve_bm PySem.F.plainAttrs_list PySem.F.slot_list_append PySem.F.type_list_append mt_appendR (vv 9) (va_c (ve_tupA (va_c ve_int (va_c (ve_tupA (va_c ve_str (va_c (ve_tupA (va_c ve_str (va_c (ve_ix ix_list (vv 0) ve_int (fun _ _=>rfl)) va_nil))) (va_c (vv 11) (va_c (ve_tupA (va_c (ve_tupA (va_c ve_str (va_c ve_non (va_c (vv 2) va_nil)))) va_nil)) va_nil))))) va_nil))) va_nil))) (vss_one (vs_ret (ve_op op_catLA (ve_op op_catLA (vv 9) (ve_fn (G__law_where_steps.mono (by decide)) hr (by rfl) (va_c (vv 0) (va_c (vv 1) va_nil)))) (ve_fn (G__law_join_steps.mono (by decide)) hr (by rfl) (va_c (vv 0) (va_c (vv 1) va_nil))))))))))))))),?_⟩
  refine ⟨_,rfl,_,rfl,_,rfl,N,_,rfl,SqL.of hN,fun p fp=>⟨p,[.str x3,.str x4,.str x5,.str x6,.str x7,.str x8],rfl,SqL.of upd_same,rfl,_,_,rfl,_,_,rfl,_,_,rfl,_,_,rfl,_,_,rfl,_,_,rfl,rfl,?_⟩⟩
  have n2 : Nm x2:=hnm x2 (by simp)
  have n3 : Nm x3:=hnm x3 (by simp)
  have n4 : Nm x4:=hnm x4 (by simp)
  have n5 : Nm x5:=hnm x5 (by simp)
  have n6 : Nm x6:=hnm x6 (by simp)
  have n7 : Nm x7:=hnm x7 (by simp)
  have n8 : Nm x8:=hnm x8 (by simp)
  have n9 : Nm x9:=hnm x9 (by simp)
  have n10 : Nm x10:=hnm x10 (by simp)
  have n11 : Nm x11:=hnm x11 (by simp)
  have n12 : Nm x12:=hnm x12 (by simp)
  have n13 : Nm x13:=hnm x13 (by simp)
  have n14 : Nm x14:=hnm x14 (by simp)
  have n15 : Nm x15:=hnm x15 (by simp)
  have n16 : Nm x16:=hnm x16 (by simp)
  have s1 : Same H (upd H p (.lst [.str x3,.str x4,.str x5,.str x6,.str x7,.str x8])):=same_new fp _
  refine sq_asg (σ:=[some (.ref N),some vq,some (.str x3),some (.str x4),some (.str x5),some (.str x6),some (.str x7),some (.str x8),none,none,none,none]) (H:=upd H p (.lst [.str x3,.str x4,.str x5,.str x6,.str x7,.str x8])) (bd_ls (R:=Pr3 K x3 x4 x5) stb_p3
    (ls_cons stb_p3 (bd_due3 0 bd_c (bd_ts (R:=NameS) (lo:=0) (hi:=8) (fun s z=>z) (al_cons (fun s z=>z) (bd_nm (bd_var rfl) n8) al_nil)) (bd_ts (R:=IsSm) (lo:=0) (hi:=4) (fun s z=>z.same s) al_nil) (fun hs q=>My.g1 S hs q))
    (ls_cons stb_p3 (bd_due3 0 bd_c (bd_ts (R:=NameS) (lo:=0) (hi:=8) (fun s z=>z) (al_cons (fun s z=>z) (bd_nm (bd_var rfl) n3) al_nil)) (bd_ts (R:=IsSm) (lo:=0) (hi:=4) (fun s z=>z.same s) (al_cons (fun s z=>z.same s) (bd_sm bd_c (bd_var rfl) (bd_var rfl) (.inl rfl) n8 n6) al_nil)) (fun hs q=>My.g2 S hs q))
    (ls_cons stb_p3 (bd_due3 0 bd_c (bd_ts (R:=NameS) (lo:=0) (hi:=8) (fun s z=>z) (al_cons (fun s z=>z) (bd_nm (bd_var rfl) n3) al_nil)) (bd_ts (R:=IsSm) (lo:=0) (hi:=4) (fun s z=>z.same s) (al_cons (fun s z=>z.same s) (bd_sm bd_c (bd_var rfl) (bd_var rfl) (.inl rfl) n4 n6) (al_cons (fun s z=>z.same s) (bd_sm bd_c (bd_var rfl) (bd_var rfl) (.inr (.inr rfl)) n8 n7) al_nil))) (fun hs q=>My.g3 S hs q))
    ls_nil)))) fun v2 H2 s2 ⟨L2,xs2,e2,f2,g2,l2,r2⟩=>?_
  subst e2
  have t2:=s1.trans s2
  refine sq_cat (R:=Pr3 K x3 x4 x5) (σ:=[some (.ref N),some vq,some (.str x3),some (.str x4),some (.str x5),some (.str x6),some (.str x7),some (.str x8),some (.ref L2),none,none,none]) (H:=H2) rfl g2 (bd_ls stb_p3
    (ls_cons stb_p3 (bd_due3 1 bd_c (bd_ts (R:=NameS) (lo:=0) (hi:=8) (fun s z=>z) (al_cons (fun s z=>z) (bd_nm (bd_var rfl) n3) al_nil)) (bd_ts (R:=IsSm) (lo:=0) (hi:=4) (fun s z=>z.same s) (al_cons (fun s z=>z.same s) (bd_sm bd_c (bd_var rfl) (bd_var rfl) (.inl rfl) n4 n6) al_nil)) (fun hs q=>My.g4 S hs q))
    (ls_cons stb_p3 (bd_due3 1 bd_c (bd_ts (R:=NameS) (lo:=0) (hi:=8) (fun s z=>z) (al_cons (fun s z=>z) (bd_nm (bd_var rfl) n3) (al_cons (fun s z=>z) (bd_nm (bd_var rfl) n3) al_nil))) (bd_ts (R:=IsSm) (lo:=0) (hi:=4) (fun s z=>z.same s) (al_cons (fun s z=>z.same s) (bd_sm bd_c (bd_var rfl) (bd_var rfl) (.inl rfl) n4 n6) al_nil)) (fun hs q=>My.g5 S hs q))
    (ls_cons stb_p3 (bd_due3 2 bd_c (bd_ts (R:=NameS) (lo:=0) (hi:=8) (fun s z=>z) (al_cons (fun s z=>z) (bd_nm (bd_var rfl) n3) (al_cons (fun s z=>z) (bd_nm (bd_var rfl) n3) al_nil))) (bd_ts (R:=IsSm) (lo:=0) (hi:=4) (fun s z=>z.same s) al_nil) (fun hs q=>My.g6 S hs q))
    ls_nil)))) (by omega) (fun L3 H3 zs3 f3 s3 g3 l3 r3=>?_) stb_p3
  have a3 : ∀ y ∈ xs2 ++ zs3,Pr3 K x3 x4 x5 H3 y:=fun y hy=>(List.mem_append.mp hy).elim (fun z=>stb_p3 _ _ _ s3 (r2 y z)) (r3 y)
  have le3 : (xs2 ++ zs3).length = 6:=by rw [List.length_append]; omega
  refine sq_cat (R:=Pr3 K x3 x4 x5) (σ:=[some (.ref N),some vq,some (.str x3),some (.str x4),some (.str x5),some (.str x6),some (.str x7),some (.str x8),some (.ref L3),none,none,none]) (H:=H3) rfl g3 (bd_ls stb_p3
    (ls_cons stb_p3 (bd_due3 2 bd_c (bd_ts (R:=NameS) (lo:=0) (hi:=8) (fun s z=>z) (al_cons (fun s z=>z) (bd_nm (bd_var rfl) n3) al_nil)) (bd_ts (R:=IsSm) (lo:=0) (hi:=4) (fun s z=>z.same s) (al_cons (fun s z=>z.same s) (bd_cnt bd_c bd_c (bd_var rfl) n3) al_nil)) (fun hs q=>My.g7 S hs q))
    (ls_cons stb_p3 (bd_due3 2 bd_c (bd_ts (R:=NameS) (lo:=0) (hi:=8) (fun s z=>z) al_nil) (bd_ts (R:=IsSm) (lo:=0) (hi:=4) (fun s z=>z.same s) (al_cons (fun s z=>z.same s) (bd_sm bd_c (bd_var rfl) (bd_var rfl) (.inr (.inr rfl)) n4 n6) (al_cons (fun s z=>z.same s) (bd_sm bd_c (bd_var rfl) (bd_var rfl) (.inr (.inl rfl)) n4 n6) al_nil))) (fun hs q=>My.g8 S hs q))
    (ls_cons stb_p3 (bd_due3 3 bd_c (bd_ts (R:=NameS) (lo:=0) (hi:=8) (fun s z=>z) al_nil) (bd_ts (R:=IsSm) (lo:=0) (hi:=4) (fun s z=>z.same s) al_nil) (fun hs q=>My.g9 S hs q))
    ls_nil)))) (by omega) (fun L4 H4 zs4 f4 s4 g4 l4 r4=>?_) stb_p3
  have a4 : ∀ y ∈ xs2 ++ zs3 ++ zs4,Pr3 K x3 x4 x5 H4 y:=fun y hy=>(List.mem_append.mp hy).elim (fun z=>stb_p3 _ _ _ s4 (a3 y z)) (r4 y)
  have le4 : (xs2 ++ zs3 ++ zs4).length = 9:=by rw [List.length_append]; omega
  have t4:=t2.trans (s3.trans s4)
  refine sq_at (σ:=[some (.ref N),some vq,some (.str x3),some (.str x4),some (.str x5),some (.str x6),some (.str x7),some (.str x8),some (.ref L4),none,none,none]) (H:=H4) (fun Q r=>comp_steps3 (ns:=[x0,x1,x2,x3,x4,x5,x6,x7,x8,x9,x10,x11,x12,x13,x14,x15,x16]) (cs:=[some vq]) (xs2 ++ zs3 ++ zs4) rfl g4 a4 (by omega) (cap_a3 1 (by decide +kernel) rfl rfl (by first | exact Or.inl rfl | exact Or.inr (Or.inl rfl) | exact Or.inr (Or.inr rfl)))
    (fun H' n u x nms ss hn sm h1 h2 h3=>bd_step (s:=.group q0 nms ss) n (bd_var rfl) (bq_group bd_c (bd_var' rfl fun H2 s2=>hq.same (t4.trans (sm.trans s2))) (bd_var' rfl fun H2 s2=>h1.same s2 fun z=>z) (bd_var' rfl fun H2 s2=>h2.same s2 fun z=>z.same s2)) (by rw [sz_group]; omega) (wi_group hw (h3 _ _)) hn) r) fun v5 H5 ⟨D5,ys5,e5,f5,s5,g5,l5,r5⟩=>?_
  subst e5
  have t5:=t4.trans s5
  have stF : ∀ {H H' : Hp} {u : V} {n : Nat},Same H H'→FR K x3 x4 x5 H u n→FR K x3 x4 x5 H' u n:=fun s ⟨ts,h1,h2⟩=>⟨ts,h1.same s fun z=>z.same s,h2⟩
  have stP : Stb (Pr2 K (FR K x3 x4 x5)):=fun _ _ _ s r=>r.ts (.of s) fun z=>stF s z
  refine sq_asg (σ:=[some (.ref N),some vq,some (.str x3),some (.str x4),some (.str x5),some (.str x6),some (.str x7),some (.str x8),some (.ref L4),some (.ref D5),none,none]) (H:=H5) (bd_ls (R:=Pr2 K (FR K x3 x4 x5)) stP
    (ls_cons stP (bd_due 0 stF bd_c ((bd_ts (R:=IsKy) (lo:=0) (hi:=3) (fun s z=>z.same s) (al_cons (fun s z=>z.same s) (bd_ky (bd_var rfl) bd_c n8 (.inl rfl)) al_nil)).imp fun H v _ r=>⟨_,r,fun hs q=>My.f1 S hs q⟩))
    (ls_cons stP (bd_due 2 stF bd_c ((bd_ts (R:=IsKy) (lo:=0) (hi:=3) (fun s z=>z.same s) (al_cons (fun s z=>z.same s) (bd_ky (bd_var rfl) bd_c n3 (.inl rfl)) (al_cons (fun s z=>z.same s) (bd_ky (bd_var rfl) bd_c n3 (.inr rfl)) al_nil))).imp fun H v _ r=>⟨_,r,fun hs q=>My.f2 S hs q⟩))
    (ls_cons stP (bd_due 0 stF bd_c ((bd_ts (R:=IsKy) (lo:=0) (hi:=3) (fun s z=>z.same s) (al_cons (fun s z=>z.same s) (bd_ky (bd_var rfl) bd_c n3 (.inl rfl)) (al_cons (fun s z=>z.same s) (bd_ky (bd_var rfl) bd_c n3 (.inl rfl)) (al_cons (fun s z=>z.same s) (bd_ky (bd_var rfl) bd_c n8 (.inl rfl)) al_nil)))).imp fun H v _ r=>⟨_,r,fun hs q=>My.f3 S hs q⟩))
    ls_nil)))) fun v6 H6 s6 ⟨L6,xs6,e6,f6,g6,l6,r6⟩=>?_
  subst e6
  have t6:=t5.trans s6
  refine sq_at (P:=NL K [x0,x1,x2,x3,x4,x5,x6,x7,x8,x9,x10,x11,x12,x13,x14,x15,x16] (ys5.length + xs6.length) H6) (σ:=[some (.ref N),some vq,some (.str x3),some (.str x4),some (.str x5),some (.str x6),some (.str x7),some (.str x8),some (.ref L4),some (.ref D5),some (.ref L6),none]) (H:=H6) (fun Q r=>op_catC (k:=xs6.length) rfl (s6 _ _ g5) (fun y hy=>(r5 y hy).ts (.of s6)) (by omega) (fun Q r=>comp_steps (cs:=[some vq]) xs6 rfl g6 r6 (by omega) (cap_a2 1 (by decide +kernel) rfl rfl (by first | exact Or.inl rfl | exact Or.inr (Or.inl rfl) | exact Or.inr (Or.inr rfl))) stF
    (fun H' n u hn sm ⟨ts,h1,h2⟩=>bd_step (s:=.first q0 ts 3) n (bd_var rfl) (bq_first bd_c (bd_var' rfl fun H2 s2=>hq.same (t6.trans (sm.trans s2))) (bd_var' rfl fun H2 s2=>h1.same s2 fun z=>z.same s2) (bd_c (x:=.int 3)) (by decide)) (by rw [sz_first]; omega) (wi_first hw (h2 _ _)) hn) r) r) fun v7 H7 ⟨D7,ys7,e7,f7,s7,g7,l7,r7⟩=>?_
  subst e7
  have t7:=t6.trans s7
  have hN7:=t7 _ _ hN
  have fD7 : H D7 = none:=t6.free f7
  have l7' : ys7.length = 12:=by omega
  dsimp only [tSeq,tAsg,tCB,tCons]
  refine comp_ix (H:=H7) ((List.range 8).map fun i : Nat=>V.int (0 + (i : Int))) [.str x9,.str x10,.str x11,.str x12,.str x13,.str x14,.str x15,.str x16] rfl [none,some (.ref N)] (cap_at1 0 (by decide +kernel) rfl rfl (by first | exact Or.inl rfl | exact Or.inr (Or.inl rfl) | exact Or.inr (Or.inr rfl))) (by decide) (fun R r=>wi_rng1 8 (fun R' r'=>r') (by decide) R r) (fun i x y ex ey H' R l sm r=>?_) rfl fun D8 H8 s8 g8=>?_
  · have hN':=sm _ _ hN7
    match i,ex,ey with
    | 0,ex,ey=>cases ex; cases ey; exact ⟨_,rfl,_,rfl,_,_,rfl,rfl,N,_,_,_,rfl,rfl,SqL.of hN',rfl,r H' (Same.refl H')⟩
    | 1,ex,ey=>cases ex; cases ey; exact ⟨_,rfl,_,rfl,_,_,rfl,rfl,N,_,_,_,rfl,rfl,SqL.of hN',rfl,r H' (Same.refl H')⟩
    | 2,ex,ey=>cases ex; cases ey; exact ⟨_,rfl,_,rfl,_,_,rfl,rfl,N,_,_,_,rfl,rfl,SqL.of hN',rfl,r H' (Same.refl H')⟩
    | 3,ex,ey=>cases ex; cases ey; exact ⟨_,rfl,_,rfl,_,_,rfl,rfl,N,_,_,_,rfl,rfl,SqL.of hN',rfl,r H' (Same.refl H')⟩
    | 4,ex,ey=>cases ex; cases ey; exact ⟨_,rfl,_,rfl,_,_,rfl,rfl,N,_,_,_,rfl,rfl,SqL.of hN',rfl,r H' (Same.refl H')⟩
    | 5,ex,ey=>cases ex; cases ey; exact ⟨_,rfl,_,rfl,_,_,rfl,rfl,N,_,_,_,rfl,rfl,SqL.of hN',rfl,r H' (Same.refl H')⟩
    | 6,ex,ey=>cases ex; cases ey; exact ⟨_,rfl,_,rfl,_,_,rfl,rfl,N,_,_,_,rfl,rfl,SqL.of hN',rfl,r H' (Same.refl H')⟩
    | 7,ex,ey=>cases ex; cases ey; exact ⟨_,rfl,_,rfl,_,_,rfl,rfl,N,_,_,_,rfl,rfl,SqL.of hN',rfl,r H' (Same.refl H')⟩
  refine ⟨D8,_,rfl,SqL.of g8,fun te H9 _ s9 g9=>?_⟩
  have t9:=t7.trans (s8.trans s9)
  have he : TupS NameS 0 8 K H9 (.ref te) [x9,x10,x11,x12,x13,x14,x15,x16]:=⟨⟨te,_,rfl,SqT.of g9,.cons ⟨rfl,n9⟩ (.cons ⟨rfl,n10⟩ (.cons ⟨rfl,n11⟩ (.cons ⟨rfl,n12⟩ (.cons ⟨rfl,n13⟩ (.cons ⟨rfl,n14⟩ (.cons ⟨rfl,n15⟩ (.cons ⟨rfl,n16⟩ .nil)))))))⟩,Nat.zero_le _,by simp⟩
  have hN9:=t9 _ _ hN
  refine sq_app (R:=Stp K [x0,x1,x2,x3,x4,x5,x6,x7,x8,x9,x10,x11,x12,x13,x14,x15,x16]) (σ:=[some (.ref N),some vq,some (.str x3),some (.str x4),some (.str x5),some (.str x6),some (.str x7),some (.str x8),some (.ref L4),some (.ref D7),some (.ref L6),some (.ref te)]) (H:=H9) rfl ((s8.trans s9) _ _ g7) (bd_step (ns:=[x0,x1,x2,x3,x4,x5,x6,x7,x8,x9,x10,x11,x12,x13,x14,x15,x16]) (s:=.group (.table x2) [x9,x10,x11,x12,x13,x14,x15,x16] [⟨"count",none,x3⟩]) 3 bd_c (bq_group bd_c (bq_table bd_c (bd_ix (k:=2) rfl hN9 rfl) n2) (bd_var' rfl fun H2 s2=>he.same s2 fun z=>z) (bd_ts (R:=IsSm) (lo:=0) (hi:=4) (fun s z=>z.same s) (al_cons (fun s z=>z.same s) (bd_cnt bd_c bd_c (bd_var rfl) n3) al_nil))) (by rw [sz_group,sz_table]; omega) (wi_group (wt2 hnd) (gw _ _ W))) (by omega) fun v10 Ha sa ra ga=>?_
  have ta:=t9.trans sa
  have ua : TS Ha (upd Ha D7 (.lst (ys7 ++ [v10]))):=.upd ga
  have ta' : Same H (upd Ha D7 (.lst (ys7 ++ [v10]))):=same_upd fD7 ta
  have aa : ∀ y ∈ ys7 ++ [v10],Stp K [x0,x1,x2,x3,x4,x5,x6,x7,x8,x9,x10,x11,x12,x13,x14,x15,x16] (upd Ha D7 (.lst (ys7 ++ [v10]))) y:=fun y hy=>Stp.ts ua ((List.mem_append.mp hy).elim (fun z=>stb_stp _ _ _ (s8.trans (s9.trans sa)) (r7 y z)) fun z=>by rw [List.mem_singleton.mp z]; exact ra)
  refine ⟨_,rfl,_,rfl,_,rfl,N,vq,[x0,x1,x2,x3,x4,x5,x6,x7,x8,x9,x10,x11,x12,x13,x14,x15,x16],q0,rfl,ta' _ _ hN,hns0,hq.same ta',hz,hw,fun D1 Hb ysb fb sb gb lb1 lb2 rb=>?_⟩
  refine ⟨D7,D1,_,ysb,rfl,rfl,sb _ _ upd_same,gb,small (by rw [List.length_append,List.length_singleton]; omega),fun D2 Hc fc sc gc=>?_⟩
  have tc:=ta'.trans (sb.trans sc)
  refine ⟨_,rfl,_,rfl,N,vq,[x0,x1,x2,x3,x4,x5,x6,x7,x8,x9,x10,x11,x12,x13,x14,x15,x16],q0,rfl,tc _ _ hN,hns0,hq.same tc,hz,hw,fun D3 Hd ysd fd sd gd ld1 ld2 rd=>?_⟩
  refine ⟨D2,D3,_,ysd,rfl,rfl,sd _ _ gc,gd,small (by rw [List.length_append,List.length_append,List.length_singleton]; omega),fun D He fe se ge=>?_⟩
  refine q D He _ (tc.free (sd.free fe)) (tc.trans (sd.trans se)) ge (by rw [List.length_append,List.length_append,List.length_append,List.length_singleton]; omega) ?_ fun y hy=>?_
  · rw [List.length_append,List.length_append,List.length_append,List.length_singleton]
    omega
  · rcases List.mem_append.mp hy with z | z
    · rcases List.mem_append.mp z with z | z
      · exact (aa y z).ts (.of (sb.trans (sc.trans (sd.trans se))))
      · exact (rb y z).ts (.of (sc.trans (sd.trans se)))
    · exact (rd y z).ts (.of se)
end
end My
set_option Elab.async false
set_option linter.all false
set_option maxRecDepth 100000
namespace My
open PySem PySem.Spec PyProof.Rows L2
set_option maxHeartbeats 400000
section
variable {P : Program} {w : World} {K : PySem.W.Frag} {mg : Str→Option Value} {base : Heap}
theorem fx_ts {a : Addr} {H H' : Hp} (f : Fx a H H') (h : StAt H a) : TS H H':=⟨fun b xs e=>f.tup h e,fun b o u e=>f.same b _ (fun z=>by obtain ⟨s,hs,_⟩:=h; rw [z,hs] at e; cases e) e⟩
theorem six_ns {ns : List Str} (h : Nms17 ns) : Six (nm ns 3) (nm ns 4) (nm ns 5) (nm ns 6) (nm ns 7) (nm ns 8):=by
  obtain ⟨hl,_,hnd⟩:=h
  obtain ⟨x0,x1,x2,x3,x4,x5,x6,x7,x8,x9,x10,x11,x12,x13,x14,x15,x16,rfl⟩:=list17 hl
  exact six_of hnd
theorem nm_at {ns : List Str} (h : Nms17 ns) {i : Nat} (hi : i < 17) : ns[i]? = some (nm ns i)∧Nm (nm ns i):=by
  have hi' : i < ns.length:=by rw [h.1]; exact hi
  have e : nm ns i = ns[i]:=by unfold nm; rw [List.getD_eq_getElem?_getD,List.getElem?_eq_getElem hi']; rfl
  rw [e]
  exact ⟨List.getElem?_eq_getElem hi',h.2.1 _ (List.getElem_mem hi')⟩
theorem nm_ix {ns : List Str} (h : Nms17 ns) {i : Nat} (hi : i < 17) : atI (ns.map V.str) (i : Nat) = some (.str (nm ns i)):=atI_nat (by rw [List.getElem?_map,(nm_at h hi).1]; rfl)
theorem ix_pick {K' : PySem.W.Frag} {σ : L2.St} {H : Hp} {t : TE} {R : RV} {k : Nat} {a : Addr} {E : XK} {Q : VK} (h : Bd σ H t (LR H R k)) (ha : σ[0]? = some (some (.ref a))) (hst : StAt H a) (hk : 0 < k) (st : ∀ {H H' v},TS H H'→R H v→R H' v)
    (q : ∀ v H',Fx a H H'→R H' v→Q v H') : tOp (rIxL K') t (tCall sp_next [] E (tCons (tVar 0) (tCons (tC (.int (k : Nat))) tNil))) σ H Q :=
  h H _ (Same.refl H) fun v H1 s1 ⟨p,vs,e,f,g,l,r⟩=>by
    subst e
    refine ⟨_,ha,a,_,rfl,hst.same s1,by omega,fun c H2 fx c0 c1=>?_⟩
    obtain ⟨n,rfl⟩ : ∃ n : Nat,c = (n : Int):=⟨c.toNat,by omega⟩
    have hn : n < vs.length:=by omega
    have np : p ≠ a:=hst.ne f
    refine ⟨p,vs,_,vs[n],rfl,rfl,SqL.of (fx.same _ _ np g),atI_nat (List.getElem?_eq_getElem hn),q _ _ ((Fx.of hst s1).trans fx) (st (fx_ts fx (hst.same s1)) (r _ (List.getElem_mem hn)))⟩
def QOk (K : PySem.W.Frag) (hs : Str→Option Hdr) (m : Nat) (r : Except Cls Hdr) : RV:=fun H v=>∃ q,IsQ K H v q∧size q ≤ m∧withinE hs q = r
theorem QOk.ts {hs : Str→Option Hdr} {m : Nat} {r : Except Cls Hdr} {H H' : Hp} {v : V} (t : TS H H') (h : QOk K hs m r H v) : QOk K hs m r H' v:=by
  obtain ⟨q,h1,h2⟩:=h
  exact ⟨q,h1.ts t,h2⟩
theorem stb_qok {hs : Str→Option Hdr} {m : Nat} {r : Except Cls Hdr} : Stb (QOk K hs m r):=fun _ _ _ s h=>h.ts (.of s)
theorem in1 {a b c d e z : Str} (S : Six a b c d e z) {hs : Str→Option Hdr} {q : Qn} (h : withinE hs q = .ok (Fst a b c)) : withinE hs (.whr q [⟨a,"=",.col c⟩]) = .ok (Fst a b c):=by
  unfold withinE
  rw [h]
  simp [hereE,whereE,mapE,bnd,othE,lk_a,lk_c S.ac S.bc,likeE,finE,unlE,S.ab,S.ac,S.bc]
theorem in2 {a b c d e z : Str} (S : Six a b c d e z) {hs : Str→Option Hdr} {q : Qn} (h : withinE hs q = .ok (Fst a b c)) : withinE hs (.first q [(b,"down")] 9) = .ok (Fst a b c):=by
  unfold withinE
  rw [h]
  simp [hereE,firstE,keepE,mapE,bnd,lk_b S.ab,finE,unlE,S.ab,S.ac,S.bc]
def sp_inn (K : PySem.W.Frag) : Sp:=fun vs H Q _=>∃ (a N : Addr) (v : V) (ns : List Str),vs = [.ref a,.ref N,v]∧StAt H a∧H N = some (.lst (ns.map V.str))∧N ≠ a∧Nms17 ns∧QOk K (hsOf ns) 1 (.ok (Fst (nm ns 3) (nm ns 4) (nm ns 5))) H v ∧
  ∀ v' H',Fx a H H'→QOk K (hsOf ns) 3 (.ok (Fst (nm ns 3) (nm ns 4) (nm ns 5))) H' v'→Q v' H'
theorem ok__law_inner (T : Txt w K mg) (G__law_next : Ok P w K mg base 1 "_law_next" ["_law_state","_law_many"] sp_next) : Ok P w K mg base 2 "_law_inner" ["_law_state","_law_n","_law_q"] (sp_inn K):=by
  refine Ok.ofV T.d__law_inner sc__law_inner (fun vs H Q E h=>?_) (fun f cdv A outer s H vs Q E hr h=>?_)
  · obtain ⟨a,N,v,ns,rfl,_⟩:=h; rfl
  obtain ⟨a,N,v,ns,rfl,hst,hN,nNa,hn,hq,q⟩:=h
  have S:=six_ns hn
  refine ⟨_,(vss_cons (vs_for PassesOwn.never rfl (vi_range1 (by rfl) T.n_range (va_c (ve_fn (G__law_next.mono (by decide)) hr (by rfl) (va_c (vv 0) (va_c ve_int va_nil))) va_nil)) (vg_name (i:=3) sc__law_inner.nd rfl (by first | exact Or.inl rfl | exact Or.inr rfl)) (vss_one (vs_set (i:=2) sc__law_inner.nd rfl (by first | exact Or.inl rfl | exact Or.inr rfl) (ve_ix ix_list (ve_lstA (va_c (ve_tupA (va_c ve_str (va_c (vv 2) (va_c (ve_tupA (va_c (ve_tupA (va_c (ve_ix ix_list (vv 1) ve_int (fun _ _=>rfl)) (va_c ve_str (va_c (ve_tupA (va_c ve_str (va_c (ve_ix ix_list (vv 1) ve_int (fun _ _=>rfl)) va_nil))) va_nil)))) va_nil)) va_nil)))) (va_c (ve_tupA (va_c ve_str (va_c (vv 2) (va_c (ve_tupA (va_c (ve_tupA (va_c (ve_ix ix_list (vv 1) ve_int (fun _ _=>rfl)) (va_c ve_str va_nil))) va_nil)) (va_c ve_int va_nil))))) va_nil))) (ve_fn (G__law_next.mono (by decide)) hr (by rfl) (va_c (vv 0) (va_c ve_int va_nil))) (fun _ _=>rfl))))) (vss_one (vs_ret (vv 2)))),?_⟩
  refine ⟨_,rfl,a,3,rfl,hst,by decide,fun c H1 f1 c0 c1=>⟨_,rfl,by omega,by omega,?_⟩⟩
  refine for_range (n:=c.toNat) (fun i σ H'=>Fx a H H'∧∃ v l,QOk K (hsOf ns) (1 + i) (.ok (Fst (nm ns 3) (nm ns 4) (nm ns 5))) H' v∧σ = [some (.ref a),some (.ref N),some v,l]) ⟨f1,v,_,hq.ts (fx_ts f1 hst),rfl⟩ ?_ ?_
  · rintro i σ H' hi ⟨fx,v,l,⟨q0,h1,h2,h3⟩,rfl⟩
    have hN':=fx.same _ _ nNa hN
    refine ix_pick (σ:=[some (.ref a),some (.ref N),some v,some (.int (0 + (i : Int)))]) (R:=QOk K (hsOf ns) (1 + (i + 1)) (.ok (Fst (nm ns 3) (nm ns 4) (nm ns 5)))) (k:=2) (bd_ls stb_qok
      (ls_cons stb_qok ((bq_whr (K:=K) (q:=q0) bd_c (bd_var' rfl fun H2 s2=>h1.same s2) (bd_ts (R:=IsT) (lo:=1) (hi:=3) (fun s z=>z.same s) (al_cons (fun s z=>z.same s) (bd_test (bd_ix (k:=3) rfl hN' (nm_ix hn (by decide))) bd_c (bd_col bd_c (bd_ix (k:=5) rfl hN' (nm_ix hn (by decide))) (nm_at hn (by decide)).2) (nm_at hn (by decide)).2 (.inl rfl)) al_nil))).imp fun H v _ r=>⟨_,r,by rw [sz_whr,List.length_singleton]; omega,in1 S h3⟩)
      (ls_cons stb_qok ((bq_first (K:=K) (q:=q0) (m:=9) bd_c (bd_var' rfl fun H2 s2=>h1.same s2) (bd_ts (R:=IsKy) (lo:=0) (hi:=3) (fun s z=>z.same s) (al_cons (fun s z=>z.same s) (bd_ky (bd_ix (k:=4) rfl hN' (nm_ix hn (by decide))) bd_c (nm_at hn (by decide)).2 (.inr rfl)) al_nil)) (bd_c (x:=.int 9)) (by decide)).imp fun H v _ r=>⟨_,r,by rw [sz_first]; omega,in2 S h3⟩) ls_nil))) rfl fx.st (by decide) (fun t h=>h.ts t) fun v' H2 f2 r2=>?_
    exact ⟨fx.trans f2,v',_,r2,rfl⟩
  · rintro σ H' ⟨fx,v,l,⟨q0,h1,h2,h3⟩,rfl⟩
    exact ⟨_,rfl,q v H' fx ⟨q0,h1,by omega,h3⟩⟩
theorem out_w {hs : Str→Option Hdr} {q : Qn} {c : Cls} (h : withinE hs q = .error c) : (∀ ks m,withinE hs (.first q ks m) = .error c)∧(∀ ns,withinE hs (.keep q ns) = .error c)∧(∀ ns ss,withinE hs (.group q ns ss) = .error c):=by
  refine ⟨fun ks m=>?_,fun ns=>?_,fun ns ss=>?_⟩ <;> (unfold withinE; rw [h]; rfl)
def sp_out (K : PySem.W.Frag) : Sp:=fun vs H Q _=>∃ (a N : Addr) (v : V) (ns : List Str) (c : Cls),vs = [.ref a,.ref N,v]∧StAt H a∧H N = some (.lst (ns.map V.str))∧N ≠ a∧Nms17 ns∧QOk K (hsOf ns) 8 (.error c) H v ∧
  ∀ v' H',Fx a H H'→QOk K (hsOf ns) 20 (.error c) H' v'→Q v' H'
theorem ok__law_outer (T : Txt w K mg) (G__law_next : Ok P w K mg base 1 "_law_next" ["_law_state","_law_many"] sp_next) : Ok P w K mg base 2 "_law_outer" ["_law_state","_law_n","_law_q"] (sp_out K):=by
  refine Ok.ofV T.d__law_outer sc__law_outer (fun vs H Q E h=>?_) (fun f cdv A outer s H vs Q E hr h=>?_)
  · obtain ⟨a,N,v,ns,c,rfl,_⟩:=h; rfl
  obtain ⟨a,N,v,ns,cl,rfl,hst,hN,nNa,hn,hq,q⟩:=h
  refine ⟨_,(vss_cons (vs_for PassesOwn.never rfl (vi_range1 (by rfl) T.n_range (va_c (ve_fn (G__law_next.mono (by decide)) hr (by rfl) (va_c (vv 0) (va_c ve_int va_nil))) va_nil)) (vg_name (i:=3) sc__law_outer.nd rfl (by first | exact Or.inl rfl | exact Or.inr rfl)) (vss_one (vs_set (i:=2) sc__law_outer.nd rfl (by first | exact Or.inl rfl | exact Or.inr rfl) (ve_ix ix_list (ve_lstA (va_c (ve_tupA (va_c ve_str (va_c (vv 2) (va_c (ve_tupA va_nil) (va_c ve_int va_nil))))) (va_c (ve_tupA (va_c ve_str (va_c (vv 2) (va_c (ve_tupA (va_c (ve_ix ix_list (vv 1) ve_int (fun _ _=>rfl)) (va_c (ve_ix ix_list (vv 1) ve_int (fun _ _=>rfl)) va_nil))) va_nil)))) (va_c (ve_tupA (va_c ve_str (va_c (vv 2) (va_c (ve_tupA (va_c ve_str (va_c (ve_ix ix_list (vv 1) ve_int (fun _ _=>rfl)) va_nil))) (va_c (ve_tupA (va_c (ve_tupA (va_c (ve_ix ix_list (vv 1) ve_int (fun _ _=>rfl)) (va_c (ve_ix ix_list (vv 1) ve_int (fun _ _=>rfl)) va_nil))) va_nil)) va_nil))))) (va_c (ve_tupA (va_c ve_str (va_c (vv 2) (va_c (ve_tupA va_nil) (va_c (ve_tupA va_nil) va_nil))))) va_nil))))) (ve_fn (G__law_next.mono (by decide)) hr (by rfl) (va_c (vv 0) (va_c ve_int va_nil))) (fun _ _=>rfl))))) (vss_one (vs_ret (vv 2)))),?_⟩
  refine ⟨_,rfl,a,3,rfl,hst,by decide,fun c H1 f1 c0 c1=>⟨_,rfl,by omega,by omega,?_⟩⟩
  refine for_range (n:=c.toNat) (fun i σ H'=>Fx a H H'∧∃ v l,QOk K (hsOf ns) (8 + 2 * i) (.error cl) H' v∧σ = [some (.ref a),some (.ref N),some v,l]) ⟨f1,v,_,hq.ts (fx_ts f1 hst),rfl⟩ ?_ ?_
  · rintro i σ H' hi ⟨fx,v,l,⟨q0,h1,h2,h3⟩,rfl⟩
    have hN':=fx.same _ _ nNa hN
    obtain ⟨o1,o2,o3⟩:=out_w h3
    have nz:=(nm_at hn (i:=8) (by decide)).2
    have na:=(nm_at hn (i:=3) (by decide)).2
    refine ix_pick (σ:=[some (.ref a),some (.ref N),some v,some (.int (0 + (i : Int)))]) (R:=QOk K (hsOf ns) (8 + 2 * (i + 1)) (.error cl)) (k:=4) (bd_ls stb_qok
      (ls_cons stb_qok ((bq_first (K:=K) (q:=q0) (ks:=[]) (m:=4) bd_c (bd_var' rfl fun H2 s2=>h1.same s2) (bd_ts (R:=IsKy) (lo:=0) (hi:=3) (fun s z=>z.same s) al_nil) (bd_c (x:=.int 4)) (by decide)).imp fun H v _ r=>⟨_,r,by rw [sz_first]; omega,o1 _ _⟩)
      (ls_cons stb_qok ((bq_keep (K:=K) (q:=q0) bd_c (bd_var' rfl fun H2 s2=>h1.same s2) (bd_ts (R:=NameS) (lo:=1) (hi:=8) (fun s z=>z) (al_cons (fun s z=>z) (bd_nm (bd_ix (k:=8) rfl hN' (nm_ix hn (by decide))) nz) (al_cons (fun s z=>z) (bd_nm (bd_ix (k:=8) rfl hN' (nm_ix hn (by decide))) nz) al_nil)))).imp fun H v _ r=>⟨_,r,by rw [sz_keep]; omega,o2 _⟩)
      (ls_cons stb_qok ((bq_join (K:=K) (q:=q0) bd_c (bd_var' rfl fun H2 s2=>h1.same s2) (bq_table bd_c (bd_ix (k:=8) rfl hN' (nm_ix hn (by decide))) nz) (bd_ts (R:=IsPr) (lo:=1) (hi:=3) (fun s z=>z.same s) (al_cons (fun s z=>z.same s) (bd_pr (bd_ix (k:=3) rfl hN' (nm_ix hn (by decide))) (bd_ix (k:=3) rfl hN' (nm_ix hn (by decide))) na na) al_nil))).imp fun H v _ r=>⟨_,r,by rw [sz_join,sz_table]; omega,wi_join1 h3⟩)
      (ls_cons stb_qok ((bq_group (K:=K) (q:=q0) (ns:=[]) (ss:=[]) bd_c (bd_var' rfl fun H2 s2=>h1.same s2) (bd_ts (R:=NameS) (lo:=0) (hi:=8) (fun s z=>z) al_nil) (bd_ts (R:=IsSm) (lo:=0) (hi:=4) (fun s z=>z.same s) al_nil)).imp fun H v _ r=>⟨_,r,by rw [sz_group]; omega,o3 _ _⟩) ls_nil))))) rfl fx.st (by decide) (fun t h=>h.ts t) fun v' H2 f2 r2=>?_
    exact ⟨fx.trans f2,v',_,r2,rfl⟩
  · rintro σ H' ⟨fx,v,l,⟨q0,h1,h2,h3⟩,rfl⟩
    exact ⟨_,rfl,q v H' fx ⟨q0,h1,by omega,h3⟩⟩
end
end My
set_option Elab.async false
set_option linter.all false
set_option maxRecDepth 100000
namespace My
open PySem PySem.Spec PyProof.Rows L2
set_option maxHeartbeats 400000
section
variable {P : Program} {w : World} {K : PySem.W.Frag} {mg : Str→Option Value} {base : Heap}
def knd (c : Cls) : List V:=[.bl (decide (c = .col)),.bl (decide (c = .kind)),.bl (decide (c = .twice)),.bl (decide (c = .wide)),.bl (decide (c = .tab)),.bl true,.bl (decide (c = .ques)),.non]
theorem same_up2 {H : Hp} {e T C dx : Addr} (n : H e = none) (nT : H T = none) : Same H (up2 H e T C dx):=fun b o h=>by
  unfold up2
  rw [upd_ne (ne_of_none h n),upd_ne (ne_of_none h nT)]
  exact h
def sp_ref (K : PySem.W.Frag) : Sp:=fun vs H Q _=>∃ d v hs q c,vs = [.ref d,v]∧HeadsAt K H d hs∧IsQ K H v q∧size q ≤ 20∧withinE hs q = .error c∧∀ l H',H l = none→Same H H'→H' l = some (.lst (knd c))→Q (.ref l) H'
theorem ok__law_refused (T : Txt w K mg) (GX_head_of : OkX P w K mg base 28 "head_of" ["heads","question"] (sp_ho K mg)) : Ok P w K mg base 29 "_law_refused" ["_law_heads","_law_question"] (sp_ref K):=by
  refine Ok.ofV T.d__law_refused sc__law_refused (fun vs H Q E h=>?_) (fun f cdv A outer s H vs Q E hr h=>?_)
  · obtain ⟨d,v,hs,q,c,rfl,_⟩:=h; rfl
  obtain ⟨d,v,hs,q0,c,rfl,hds,hq,hz,hw,q⟩:=h
  obtain ⟨S,ad,m_ShardError,h_ShardError,hex,hmro,hve⟩:=T.x_ex
  have x_NoColumn : ∃ u,mg "NoColumn" = some u∧RelV (.ref (ad .col)) u:=⟨_,(hex .col).mg,rfl⟩
  have x_NoKind : ∃ u,mg "NoKind" = some u∧RelV (.ref (ad .kind)) u:=⟨_,(hex .kind).mg,rfl⟩
  have x_Twice : ∃ u,mg "Twice" = some u∧RelV (.ref (ad .twice)) u:=⟨_,(hex .twice).mg,rfl⟩
  have x_TooWide : ∃ u,mg "TooWide" = some u∧RelV (.ref (ad .wide)) u:=⟨_,(hex .wide).mg,rfl⟩
  have x_NoTable : ∃ u,mg "NoTable" = some u∧RelV (.ref (ad .tab)) u:=⟨_,(hex .tab).mg,rfl⟩
  have x_NoQuestion : ∃ u,mg "NoQuestion" = some u∧RelV (.ref (ad .ques)) u:=⟨_,(hex .ques).mg,rfl⟩
  have h_NoColumn:=(hex .col).cls
  have h_NoKind:=(hex .kind).cls
  have h_Twice:=(hex .twice).cls
  have h_TooWide:=(hex .wide).cls
  have h_NoTable:=(hex .tab).cls
  have h_NoQuestion:=(hex .ques).cls
  have bt_ValueError:=boot_VE
  refine ⟨_,(vss_cons (vs_set (i:=2) sc__law_refused.nd rfl (by first | exact Or.inl rfl | exact Or.inr rfl) (ve_lstA va_nil)) (vss_cons (vs_try (i:=3) rfl rfl sc__law_refused.nd rfl rfl (by rfl) m_ShardError h_ShardError (fun pins σ₀ E ok=>(vss_one (vs_expr (ve_callAt ok (GX_head_of.mono (by decide)) hr (by rfl) (va_c (vv 0) (va_c (vv 1) va_nil)))))) (fun e=>(vss_cons (vs_set (i:=2) sc__law_refused.nd rfl (by first | exact Or.inl rfl | exact Or.inr rfl) (ve_lstA (va_c (ve_callB (isE_ownK (K:=K) h_NoColumn) (by rfl) T.n_isinstance bf_isinstance (va_c (vv 3) (va_c (ve_gl (by rfl) x_NoColumn) va_nil))) (va_c (ve_callB (isE_ownK (K:=K) h_NoKind) (by rfl) T.n_isinstance bf_isinstance (va_c (vv 3) (va_c (ve_gl (by rfl) x_NoKind) va_nil))) (va_c (ve_callB (isE_ownK (K:=K) h_Twice) (by rfl) T.n_isinstance bf_isinstance (va_c (vv 3) (va_c (ve_gl (by rfl) x_Twice) va_nil))) (va_c (ve_callB (isE_ownK (K:=K) h_TooWide) (by rfl) T.n_isinstance bf_isinstance (va_c (vv 3) (va_c (ve_gl (by rfl) x_TooWide) va_nil))) va_nil)))))) (vss_one (vs_set (i:=2) sc__law_refused.nd rfl (by first | exact Or.inl rfl | exact Or.inr rfl) (ve_op op_catLA (vv 2) (ve_lstA (va_c (ve_callB (isE_ownK (K:=K) h_NoTable) (by rfl) T.n_isinstance bf_isinstance (va_c (vv 3) (va_c (ve_gl (by rfl) x_NoTable) va_nil))) (va_c (ve_callB (isE_VEK (K:=K)) (by rfl) T.n_isinstance bf_isinstance (va_c (vv 3) (va_c (ve_bltn (v:=.ty "ValueError") (by rfl) T.n_ValueError bt_ValueError rfl) va_nil))) (va_c (ve_callB (isE_ownK (K:=K) h_NoQuestion) (by rfl) T.n_isinstance bf_isinstance (va_c (vv 3) (va_c (ve_gl (by rfl) x_NoQuestion) va_nil))) (va_c (ve_act (K:=K) (vv 3)) va_nil))))))))))) (vss_one (vs_ret (vv 2))))),?_⟩
  refine ⟨(by show 0 ≤ sizeLine; decide),fun l H1 fl s1 g1=>?_⟩
  refine ⟨rfl,_,rfl,_,rfl,d,v,hs,q0,rfl,hds.same s1,hq.same s1,hz,?_⟩
  rw [hw]
  intro C e H2 mC s2
  obtain ⟨⟨fI,fd,xc,F,B⟩,mc,kp,hc,over⟩:=hex c
  rw [mc] at mC
  cases mC
  refine ⟨ad c,e,fI,rfl,rfl,xc,over,fun Tb dx n nT hTe hd=>?_⟩
  have su:=same_up2 (C:=ad c) (dx:=dx) n nT
  have he : up2 H2 e Tb (ad c) dx e = some (FlyO e Tb (ad c) dx):=upd_same
  have hdx : up2 H2 e Tb (ad c) dx dx = some xdA:=su _ _ hd
  have sa : Same H (up2 H2 e Tb (ad c) dx):=(s1.trans s2).trans su
  refine ⟨_,rfl,e,Tb,ad c,dx,fI,_,rfl,he,xc,hdx,hmro c .col,trivial,?_⟩
  refine ⟨_,rfl,e,Tb,ad c,dx,fI,_,rfl,he,xc,hdx,hmro c .kind,trivial,?_⟩
  refine ⟨_,rfl,e,Tb,ad c,dx,fI,_,rfl,he,xc,hdx,hmro c .twice,trivial,?_⟩
  refine ⟨_,rfl,e,Tb,ad c,dx,fI,_,rfl,he,xc,hdx,hmro c .wide,trivial,(by show 4 ≤ sizeLine; decide),fun l3 H3 f3 s3 g3=>?_⟩
  have he3:=s3 _ _ he
  have hdx3:=s3 _ _ hdx
  refine ⟨_,rfl,_,rfl,e,Tb,ad c,dx,fI,_,rfl,he3,xc,hdx3,hmro c .tab,trivial,?_⟩
  refine ⟨_,rfl,e,Tb,ad c,dx,fI,_,rfl,he3,xc,hdx3,hve c,trivial,?_⟩
  refine ⟨_,rfl,e,Tb,ad c,dx,fI,_,rfl,he3,xc,hdx3,hmro c .ques,trivial,?_⟩
  refine ⟨_,rfl,e,Tb,ad c,dx,fI,rfl,he3,xc,hdx3,(by show 4 ≤ sizeLine; decide),fun l4 H4 f4 s4 g4=>?_⟩
  refine ⟨l3,l4,_,_,rfl,rfl,s4 _ _ g3,g4,(by show 4 + 4 ≤ sizeLine; decide),fun l5 H5 f5 s5 g5=>?_⟩
  refine ⟨_,rfl,q l5 H5 (sa.free (s3.free (s4.free f5))) (sa.trans (s3.trans (s4.trans s5))) g5⟩
end
end My
set_option Elab.async false
set_option linter.all false
set_option maxRecDepth 100000
namespace My
open PySem PySem.Spec PyProof.Rows L2
set_option maxHeartbeats 400000
section
variable {P : Program} {w : World} {K : PySem.W.Frag} {mg : Str→Option Value} {base : Heap}
theorem TS.updD {H : Hp} {D : Addr} {kvs : List (Key × V)} {u : HO} (e : H D = some (.dK kvs)) : TS H (L2.upd H D u) :=
  ⟨fun b xs q=>by rw [upd_ne (ne_of q e (by intro z; cases z))]; exact q,fun b o w q=>by rw [upd_ne (ne_of q e (by intro z; cases z))]; exact q⟩
theorem bd_cc {σ : L2.St} {H0 : Hp} {t1 t2 : TE} {x y : Str} (h1 : Bd σ H0 t1 (IsV (.str x))) (h2 : Bd σ H0 t2 (IsV (.str y))) : Bd σ H0 (tTupA (tCons t1 (tCons t2 tNil))) (fun H v=>IsC K H v (x,y)) :=
  (bd_t2 (K:=K) stb_v stb_v h1 h2).imp fun H v _ ⟨p,y,z,e,g,e1,e2⟩=>by cases e1; cases e2; exact ⟨p,e,g⟩
def sp_hoc (K : PySem.W.Frag) : Sp:=fun vs H Q _=>∃ d v hs q hd,vs = [.ref d,v]∧HeadsAt K H d hs∧IsQ K H v q∧size q ≤ 20∧withinE hs q = .ok hd∧∀ v' H',Same H H'→IsHd K H' v' hd→Q v' H'
theorem ok_hoc (G : OkX P w K mg base 28 "head_of" ["heads","question"] (sp_ho K mg)) : Ok P w K mg base 28 "head_of" ["heads","question"] (sp_hoc K) :=
  G.calm fun vs H Q E ⟨d,v,hs,q,hd,e,h1,h2,h3,h4,k⟩=>⟨d,v,hs,q,e,h1,h2,h3,by rw [h4]; exact k⟩
theorem HeadsAt.fx {H H' : Hp} {a d : Addr} {hs : Str→Option Hdr} (f : Fx a H H') (st : StAt H a) (n : d ≠ a) (h : HeadsAt K H d hs) : HeadsAt K H' d hs:=by
  obtain ⟨kvs,hd,hh⟩:=h
  refine ⟨kvs,f.same _ _ n hd,fun n=>?_⟩
  have:=hh n
  cases e2 : hs n with
  | some hd =>
    rw [e2] at this
    obtain ⟨l,v,h1,h2⟩:=this
    exact ⟨l,v,h1,h2.ts (fx_ts f st)⟩
  | none =>
    rw [e2] at this
    exact this
theorem knd_of {n : Nat} (h : n ≤ 4) : knd (clsOf n) = ((List.range 5).map fun k : Nat=>V.bl (decide (V.int (0 + (k : Int)) = V.int (n : Nat)))) ++ [.bl true,.bl false,.non]:=by
  match n,h with
  | 0,_=>decide +kernel
  | 1,_=>decide +kernel
  | 2,_=>decide +kernel
  | 3,_=>decide +kernel
  | 4,_=>decide +kernel
theorem fl_knd {c : Cls} : Fl2 (knd c) (knd c):=Fl2.refl fun x hx=>by
  unfold knd at hx
  simp only [List.mem_cons,List.not_mem_nil,or_false] at hx
  rcases hx with rfl | rfl | rfl | rfl | rfl | rfl | rfl | rfl <;> rfl
theorem hd_eq {H : Hp} {v u : V} {hd : Hdr} (h1 : IsHd K H v hd) (h2 : IsHd K H u hd) : ∃ a b xs ys,v = .ref a∧u = .ref b∧SqT K H a xs∧SqT K H b ys∧Al2 (DEq K H 40) xs ys:=by
  obtain ⟨a,xs,rfl,ha,hx⟩:=h1
  obtain ⟨b,ys,rfl,hb,hy⟩:=h2
  refine ⟨a,b,xs,ys,rfl,rfl,ha,hb,?_⟩
  clear ha hb
  induction hx generalizing ys with
  | nil=>cases hy; exact .nil
  | cons r _ ih =>
    cases hy with
    | cons r2 t2 =>
      obtain ⟨p,rfl,hp⟩:=r
      obtain ⟨p2,rfl,hp2⟩:=r2
      exact .cons (.inr ⟨p,p2,_,_,rfl,rfl,hp,hp2,.cons (.inl ⟨rfl,rfl⟩) (.cons (.inl ⟨rfl,rfl⟩) .nil)⟩) (ih _ t2)
end
end My
set_option Elab.async false
set_option linter.all false
set_option maxRecDepth 100000
namespace My
open PySem PySem.Spec PyProof.Rows L2
set_option maxHeartbeats 400000
section
variable {P : Program} {w : World} {K : PySem.W.Frag} {mg : Str→Option Value} {base : Heap}
theorem nd_get {α : Type} {l : List α} (h : l.Nodup) {i j : Nat} {x : α} (h1 : l[i]? = some x) (h2 : l[j]? = some x) : i = j:=by
  have hp:=List.pairwise_iff_getElem.mp h
  obtain ⟨hi,e1⟩:=List.getElem?_eq_some_iff.mp h1
  obtain ⟨hj,e2⟩:=List.getElem?_eq_some_iff.mp h2
  rcases Nat.lt_trichotomy i j with q | q | q
  · exact absurd (e1.trans e2.symm) (hp i j hi hj q)
  · exact q
  · exact absurd (e2.trans e1.symm) (hp j i hj hi q)
theorem wd_ns {ns : List Str} : ((List.range 8).map fun i=>(nm ns (9 + i),("number" : Str))) = Wd (nm ns 9) (nm ns 10) (nm ns 11) (nm ns 12) (nm ns 13) (nm ns 14) (nm ns 15) (nm ns 16):=rfl
theorem nm_ne {ns : List Str} (h : Nms17 ns) {i j : Nat} (hi : i < 17) (hj : j < 17) (hij : i ≠ j) : nm ns i ≠ nm ns j:=fun e=>by
  have a:=(nm_at h hi).1
  have b:=(nm_at h hj).1
  rw [e] at a
  exact hij (nd_get h.2.2 a b)
theorem heads_at {ns : List Str} (hn : Nms17 ns) {H : Hp} {d : Addr} {v0 v1 v2 : V} (g : H d = some (.dK [(Sum.inr (nm ns 0),v0),(Sum.inr (nm ns 1),v1),(Sum.inr (nm ns 2),v2)])) (h0 : IsHd K H v0 (Fst (nm ns 3) (nm ns 4) (nm ns 5))) (h1 : IsHd K H v1 (Snd (nm ns 3) (nm ns 6)))
    (h2 : IsHd K H v2 (Wd (nm ns 9) (nm ns 10) (nm ns 11) (nm ns 12) (nm ns 13) (nm ns 14) (nm ns 15) (nm ns 16))) : HeadsAt K H d (hsOf ns):=by
  refine ⟨_,g,fun n=>?_⟩
  unfold hsOf
  by_cases e0 : n = nm ns 0
  · rw [if_pos e0]
    subst e0
    exact ⟨by simp,v0,valV_pos rfl,h0⟩
  rw [if_neg e0]
  by_cases e1 : n = nm ns 1
  · rw [if_pos e1]
    subst e1
    refine ⟨by simp,v1,?_,h1⟩
    rw [valV_neg (fun z=>e0 (Sum.inr.inj z).symm)]
    exact valV_pos rfl
  rw [if_neg e1]
  by_cases e2 : n = nm ns 2
  · rw [if_pos e2]
    subst e2
    refine ⟨by simp,v2,?_,h2⟩
    rw [valV_neg (fun z=>e0 (Sum.inr.inj z).symm),valV_neg (fun z=>e1 (Sum.inr.inj z).symm)]
    exact valV_pos rfl
  rw [if_neg e2]
  show valV _ _ = none
  rw [valV_neg (fun z=>e0 (Sum.inr.inj z).symm),valV_neg (fun z=>e1 (Sum.inr.inj z).symm),valV_neg (fun z=>e2 (Sum.inr.inj z).symm)]
  rfl
set_option maxHeartbeats 6400000 in
theorem ok_law {f : Addr} {fd : FuncData} (F : Fun K "law" "law" s_law f fd) (T : Txt w K mg) (G__law_seed : Ok P w K mg base 1 "_law_seed" ["_law_script"] (sp_seed K)) (G__law_next : Ok P w K mg base 1 "_law_next" ["_law_state","_law_many"] sp_next)
    (G__law_names : Ok P w K mg base 2 "_law_names" ["_law_state","_law_many"] sp_lnm) (G__law_inner : Ok P w K mg base 2 "_law_inner" ["_law_state","_law_n","_law_q"] (sp_inn K)) (G__law_steps : Ok P w K mg base 2 "_law_steps" ["_law_n","_law_q"] (sp_st K 300))
    (G__law_outer : Ok P w K mg base 2 "_law_outer" ["_law_state","_law_n","_law_q"] (sp_out K)) (G__law_refused : Ok P w K mg base 29 "_law_refused" ["_law_heads","_law_question"] (sp_ref K)) (G_head_of : Ok P w K mg base 28 "head_of" ["heads","question"] (sp_hoc K)) :
    FnOk P w K mg base CX0 30 f fd ["_law_script"] (sp_law K):=by
  refine Fun.okV F sc_law (fun vs H Q E h=>?_) (fun cdv A outer s H vs Q E hr h=>?_)
  · obtain ⟨a,ns,rfl,_⟩:=h; rfl
  obtain ⟨sc,sn,rfl,hS,h63,q⟩:=h
  have hu:=hu_of hr
  have hU:=hr.units
  refine ⟨_,(vss_cons (vs_set (i:=1) sc_law.nd rfl (by first | exact Or.inl rfl | exact Or.inr rfl) (ve_lstA (va_c (ve_fn (G__law_seed.mono (by decide)) hr (by rfl) (va_c (vv 0) va_nil)) va_nil))) (vss_cons (vs_set (i:=2) sc_law.nd rfl (by first | exact Or.inl rfl | exact Or.inr rfl) (ve_fn (G__law_names.mono (by decide)) hr (by rfl) (va_c (vv 1) (va_c ve_int va_nil)))) (vss_cons (vs_set (i:=3) sc_law.nd rfl (by first | exact Or.inl rfl | exact Or.inr rfl) (ve_tupA (va_c (ve_tupA (va_c (ve_ix ix_list (vv 2) ve_int (fun _ _=>rfl)) (va_c ve_str va_nil))) (va_c (ve_tupA (va_c (ve_ix ix_list (vv 2) ve_int (fun _ _=>rfl)) (va_c ve_str va_nil))) (va_c (ve_tupA (va_c (ve_ix ix_list (vv 2) ve_int (fun _ _=>rfl)) (va_c ve_str va_nil))) va_nil))))) (vss_cons (vs_set (i:=4) sc_law.nd rfl (by first | exact Or.inl rfl | exact Or.inr rfl) (ve_disp (vps_cons (ve_ix ix_list (vv 2) ve_int (fun _ _=>rfl)) (vv 3) (vps_cons (ve_ix ix_list (vv 2) ve_int (fun _ _=>rfl)) (ve_tupA (va_c (ve_tupA (va_c (ve_ix ix_list (vv 2) ve_int (fun _ _=>rfl)) (va_c ve_str va_nil))) (va_c (ve_tupA (va_c (ve_ix ix_list (vv 2) ve_int (fun _ _=>rfl)) (va_c ve_str va_nil))) va_nil))) vps_nil)) rfl rfl (by simp) (by decide))) (vss_cons (vs_dput hu (vv 4) (ve_ix ix_list (vv 2) ve_int (fun _ _=>rfl)) (ve_callTy call_tupleA (by rfl) T.n_tuple bt_tuple (va_c (ve_comp (N:=["_law_k","_law_n"]) ⟨by decide +kernel,rfl,by decide +kernel,by decide +kernel⟩ (hfr_of (defScope s_law) rfl (by decide +kernel)) rfl (vi_range1 (by rfl) T.n_range (va_c ve_int va_nil)) (fun cl s' H' fp=>⟨(vg_name (i:=0) (show (["_law_k","_law_n"] : List Str).Nodup from by decide +kernel) rfl (Or.inl rfl)),vf_nil,(ve_tupA (va_c (ve_ix (ix_listK (K:=K)) (vv 1) (ve_op op_add ve_int (vv 0)) (fun _ _=>rfl)) (va_c ve_str va_nil)))⟩)) va_nil))) (vss_cons (vs_set (i:=5) sc_law.nd rfl (by first | exact Or.inl rfl | exact Or.inr rfl) (ve_fn (G__law_inner.mono (by decide)) hr (by rfl) (va_c (vv 1) (va_c (vv 2) (va_c (ve_tupA (va_c ve_str (va_c (ve_ix ix_list (vv 2) ve_int (fun _ _=>rfl)) va_nil))) va_nil))))) (vss_cons (vs_set (i:=6) sc_law.nd rfl (by first | exact Or.inl rfl | exact Or.inr rfl) (ve_fn (G__law_steps.mono (by decide)) hr (by rfl) (va_c (vv 2) (va_c (vv 5) va_nil)))) (vss_cons (vs_for PassesOwn.never rfl (vi_range1 (by rfl) T.n_range (va_c ve_int va_nil)) (vg_name (i:=7) sc_law.nd rfl (by first | exact Or.inl rfl | exact Or.inr rfl)) (vss_cons (vs_asg (ve_ix ix_list (vv 6) (ve_fn (G__law_next.mono (by decide)) hr (by rfl) (va_c (vv 1) (va_c (ve_callB call_len_seq (by rfl) T.n_len bf_len (va_c (vv 6) va_nil)) va_nil))) (fun _ _=>rfl)) (vg_tup rfl (vgs_cons (vg_name (i:=8) sc_law.nd rfl (by first | exact Or.inl rfl | exact Or.inr rfl)) (vgs_cons (vg_name (i:=9) sc_law.nd rfl (by first | exact Or.inl rfl | exact Or.inr rfl)) vgs_nil)))) (vss_one (vs_if (vt_cmpR (op_neF (Nat.lt_of_succ_lt hu)) (ve_fn (G__law_refused.mono (by decide)) hr (by rfl) (va_c (vv 4) (va_c (ve_fn (G__law_outer.mono (by decide)) hr (by rfl) (va_c (vv 1) (va_c (vv 2) (va_c (vv 9) va_nil)))) va_nil))) (ve_op op_catLA (ve_comp (N:=["_law_k","_law_due"]) ⟨by decide +kernel,rfl,by decide +kernel,by decide +kernel⟩ (hfr_of (defScope s_law) rfl (by decide +kernel)) rfl (vi_range1 (by rfl) T.n_range (va_c ve_int va_nil)) (fun cl s' H' fp=>⟨(vg_name (i:=0) (show (["_law_k","_law_due"] : List Str).Nodup from by decide +kernel) rfl (Or.inl rfl)),vf_nil,(ve_cmpR op_eq (vv 0) (vv 1) (nomark _))⟩)) (ve_lstA (va_c ve_bl (va_c ve_bl (va_c ve_non va_nil))))) (nomark _)) (vss_one (vs_ret ve_bl)) vss_nil)))) (vss_cons (vs_if (vt_cmpR (op_neF (Nat.lt_of_succ_lt hu)) (ve_fn (G__law_refused.mono (by decide)) hr (by rfl) (va_c (vv 4) (va_c (ve_tupA (va_c ve_str (va_c (ve_ix ix_list (vv 2) ve_int (fun _ _=>rfl)) va_nil))) va_nil))) (ve_lstA (va_c ve_bl (va_c ve_bl (va_c ve_bl (va_c ve_bl (va_c ve_bl (va_c ve_bl (va_c ve_bl (va_c ve_non va_nil))))))))) (nomark _)) (vss_one (vs_ret ve_bl)) vss_nil) (vss_one (vs_ret (ve_cmpR (op_eqQ hU) (ve_fn (G_head_of.mono (by decide)) hr (by rfl) (va_c (vv 4) (va_c (vv 5) va_nil))) (vv 3) (nomark _))))))))))))),?_⟩
  refine ⟨_,rfl,sc,sn,rfl,hS,h63,fun c H1 s1 c0 c1=>⟨(by show 1 ≤ sizeLine; decide),fun a H2 fa s2 g2=>?_⟩⟩
  have hst : StAt H2 a:=⟨c,g2,c0,c1⟩
  refine ⟨_,rfl,a,rfl,hst,fun N H3 ns f3 fN g3 hn=>?_⟩
  have nNa : N ≠ a:=hst.ne fN
  have hst3:=f3.st
  have ix : ∀ {σ : L2.St} {H0 : Hp} {K' : PySem.W.Frag} {k : Nat},σ[2]? = some (some (.ref N))→H0 N = some (.lst (ns.map V.str))→k < 17→Bd σ H0 (tOp (rIxL K') (tVar 2) (tC (.int (k : Nat)))) (IsV (.str (nm ns k))):=fun e g h=>bd_ix e g (nm_ix hn h)
  refine sq_asg (σ:=[some (.ref sc),some (.ref a),some (.ref N),none,none,none,none,none,none,none]) (H:=H3) (bd_ts (K:=K) (R:=IsC) (xs:=Fst (nm ns 3) (nm ns 4) (nm ns 5)) (lo:=0) (hi:=8) (fun s z=>z.same s) (al_cons (fun s z=>z.same s) (bd_cc (ix (k:=3) rfl g3 (by decide)) bd_c) (al_cons (fun s z=>z.same s) (bd_cc (ix (k:=4) rfl g3 (by decide)) bd_c) (al_cons (fun s z=>z.same s) (bd_cc (ix (k:=5) rfl g3 (by decide)) bd_c) al_nil)))) fun vf H4 s4 hf=>?_
  have hf : IsHd K H4 vf (Fst (nm ns 3) (nm ns 4) (nm ns 5)):=hf.1
  have g4:=s4 _ _ g3
  intro d fd4
  have s5 : Same H4 (upd H4 d (.dK [])):=same_new fd4 _
  have g5:=s5 _ _ g4
  refine ix (σ:=[some (.ref sc),some (.ref a),some (.ref N),some vf,none,none,none,none,none,none]) (k:=0) rfl g5 (by decide) _ _ (Same.refl _) fun k0 H6 s6 e0=>⟨_,rfl,?_⟩
  cases e0
  have g6:=s6 _ _ g5
  refine ix (σ:=[some (.ref sc),some (.ref a),some (.ref N),some vf,none,none,none,none,none,none]) (k:=1) rfl g6 (by decide) _ _ (Same.refl _) fun k1 H7 s7 e1=>?_
  cases e1
  have g7:=s7 _ _ g6
  refine (bd_ts (R:=IsC) (K:=K) (σ:=[some (.ref sc),some (.ref a),some (.ref N),some vf,none,none,none,none,none,none]) (H0:=H7) (xs:=Snd (nm ns 3) (nm ns 6)) (lo:=0) (hi:=8) (fun s z=>z.same s) (al_cons (fun s z=>z.same s) (bd_cc (ix (k:=3) rfl g7 (by decide)) bd_c) (al_cons (fun s z=>z.same s) (bd_cc (ix (k:=6) rfl g7 (by decide)) bd_c) al_nil))).at0 fun vg H8 s8 hg=>?_
  have hg : IsHd K H8 vg (Snd (nm ns 3) (nm ns 6)):=hg.1
  have d8 : H8 d = some (.dK []):=(s6.trans (s7.trans s8)) _ _ upd_same
  refine ⟨d8,[(Sum.inr (nm ns 0),vf),(Sum.inr (nm ns 1),vg)],rfl,by simp,?_⟩
  have n01 : nm ns 0 ≠ nm ns 1:=nm_ne hn (by decide) (by decide) (by decide)
  have n02 : nm ns 0 ≠ nm ns 2:=nm_ne hn (by decide) (by decide) (by decide)
  have n12 : nm ns 1 ≠ nm ns 2:=nm_ne hn (by decide) (by decide) (by decide)
  have em : mergeK [] [((Sum.inr (nm ns 0) : Key),vf),(Sum.inr (nm ns 1),vg)] = [(Sum.inr (nm ns 0),vf),(Sum.inr (nm ns 1),vg)]:=by
    unfold mergeK
    simp only [List.foldl_cons,List.foldl_nil]
    rw [show putK ([] : List (Key × V)) (Sum.inr (nm ns 0)) vf = [(Sum.inr (nm ns 0),vf)] from rfl,putK_new]
    · rfl
    · show valV [((Sum.inr (nm ns 0) : Key),vf)] _ = none
      rw [valV_neg (fun z=>n01 (Sum.inr.inj z))]
      rfl
  rw [em]
  have s48 : Same H4 H8:=s5.trans (s6.trans (s7.trans s8))
  have fx8 : Fx a H3 H8:=.of hst3 (s4.trans s48)
  have fdd : H3 d = none:=s4.free fd4
  have nda : d ≠ a:=hst3.ne fdd
  have u9 : TS H8 (upd H8 d (.dK [(Sum.inr (nm ns 0),vf),(Sum.inr (nm ns 1),vg)])):=.updD d8
  have fx9 : Fx a H3 (upd H8 d (.dK [(Sum.inr (nm ns 0),vf),(Sum.inr (nm ns 1),vg)])):=fx8.upd fdd nda
  have hf9 : IsHd K (upd H8 d (.dK [(Sum.inr (nm ns 0),vf),(Sum.inr (nm ns 1),vg)])) vf (Fst (nm ns 3) (nm ns 4) (nm ns 5)):=(hf.same s48).ts u9
  have hg9 : IsHd K (upd H8 d (.dK [(Sum.inr (nm ns 0),vf),(Sum.inr (nm ns 1),vg)])) vg (Snd (nm ns 3) (nm ns 6)):=hg.ts u9
  have d9 : (upd H8 d (.dK [(Sum.inr (nm ns 0),vf),(Sum.inr (nm ns 1),vg)])) d = some (.dK [(Sum.inr (nm ns 0),vf),(Sum.inr (nm ns 1),vg)]):=upd_same
  revert fx9 hf9 hg9 d9
  generalize (upd H8 d (.dK [(Sum.inr (nm ns 0),vf),(Sum.inr (nm ns 1),vg)])) = H9
  intro fx9 hf9 hg9 d9
  have hN9:=fx9.same _ _ nNa g3
  dsimp only [gName,tSeq,sDPut,tCB,tCons]
  have rg : ∀ {m i : Nat} {x : V},((List.range m).map fun i : Nat=>V.int (0 + (i : Int)))[i]? = some x→i < m∧x = .int (0 + (i : Int)):=fun {m i x} e=>by
    obtain ⟨j,hj,rfl⟩:=map_at e
    obtain ⟨h1,h2⟩:=List.getElem?_eq_some_iff.mp hj
    rw [List.length_range] at h1
    rw [List.getElem_range] at h2
    subst h2
    exact ⟨h1,rfl⟩
  refine comp_anyI (σ:=[some (.ref sc),some (.ref a),some (.ref N),some vf,some (.ref d),none,none,none,none,none]) (H:=H9) ((List.range 8).map fun i : Nat=>V.int (0 + (i : Int))) (fun i H y=>NewC (nm ns (9 + i),"number") H y) NewC.st NewC.su [none,some (.ref N)] (cap_at1 2 (by decide +kernel) rfl rfl (by first | exact Or.inl rfl | exact Or.inr (Or.inl rfl) | exact Or.inr (Or.inr rfl))) (by decide) (fun R r=>wi_rng1 8 (fun R' r'=>r') (by decide) R r) (fun i x ex H' R l sm r=>?_) rfl fun D10 H10 ys10 s10 g10 l10 r10=>?_
  · obtain ⟨hi,rfl⟩:=rg ex
    refine ⟨_,rfl,_,rfl,_,_,rfl,rfl,N,_,_,_,rfl,rfl,SqL.of (sm _ _ hN9),?_,(by show 2 ≤ sizeLine; decide),fun p H2 _ s2 g2=>r _ _ s2 ⟨p,rfl,g2⟩⟩
    rw [show (9 : Int) + (0 + (i : Int)) = ((9 + i : Nat) : Int) by omega]
    exact nm_ix hn (by omega)
  refine ⟨D10,_,rfl,SqL.of g10,fun tw H11 _ s11 g11=>?_⟩
  have hW : IsHd K H11 (.ref tw) (Wd (nm ns 9) (nm ns 10) (nm ns 11) (nm ns 12) (nm ns 13) (nm ns 14) (nm ns 15) (nm ns 16)):=by
    rw [← wd_ns]
    refine new_hd (SqT.of g11) s11 (all2_of (by rw [l10,List.length_map,List.length_map]) fun i y c e1 e2=>?_)
    have z:=r10 i y e1
    rw [List.getElem?_map] at e2
    have hi : i < 8:=by have:=(List.getElem?_eq_some_iff.mp e1).1; rw [l10,List.length_map,List.length_range] at this; exact this
    rw [List.getElem?_range hi] at e2
    cases e2
    exact z
  have s9b:=s10.trans s11
  have d11:=s9b _ _ d9
  have fx11 : Fx a H3 H11:=fx9.sm s9b
  have hN11:=fx11.same _ _ nNa g3
  refine ⟨_,rfl,_,rfl,N,_,_,_,rfl,rfl,SqL.of hN11,nm_ix hn (i:=2) (by decide),d,_,rfl,DPut.k (k:=(Sum.inr (nm ns 2) : Key)) d11 (small1000 (by simp)),?_⟩
  rw [putK_new _ (show valV [((Sum.inr (nm ns 0) : Key),vf),(Sum.inr (nm ns 1),vg)] (Sum.inr (nm ns 2)) = none by rw [valV_neg (fun z=>n02 (Sum.inr.inj z)),valV_neg (fun z=>n12 (Sum.inr.inj z))]; rfl)]
  have u12 : TS H11 (upd H11 d (.dK ([((Sum.inr (nm ns 0) : Key),vf),(Sum.inr (nm ns 1),vg)] ++ [(Sum.inr (nm ns 2),.ref tw)]))):=.updD d11
  have hds : HeadsAt K (upd H11 d (.dK ([((Sum.inr (nm ns 0) : Key),vf),(Sum.inr (nm ns 1),vg)] ++ [(Sum.inr (nm ns 2),.ref tw)]))) d (hsOf ns):=heads_at hn upd_same ((hf9.same s9b).ts u12) ((hg9.same s9b).ts u12) (hW.ts u12)
  have hf12:=(hf9.same s9b).ts u12
  have fx12 : Fx a H3 (upd H11 d (.dK ([((Sum.inr (nm ns 0) : Key),vf),(Sum.inr (nm ns 1),vg)] ++ [(Sum.inr (nm ns 2),.ref tw)]))):=fx11.upd fdd nda
  revert hds hf12 fx12
  generalize (upd H11 d (.dK ([((Sum.inr (nm ns 0) : Key),vf),(Sum.inr (nm ns 1),vg)] ++ [(Sum.inr (nm ns 2),.ref tw)]))) = H12
  intro hds hf12 fx12
  have hN12:=fx12.same _ _ nNa g3
  have wt : withinE (hsOf ns) (.table (nm ns 0)) = .ok (Fst (nm ns 3) (nm ns 4) (nm ns 5))∧withinE (hsOf ns) (.table (nm ns 8)) = .error .tab:=by
    obtain ⟨hl,_,hnd⟩:=hn
    obtain ⟨x0,x1,x2,x3,x4,x5,x6,x7,x8,x9,x10,x11,x12,x13,x14,x15,x16,rfl⟩:=list17 hl
    exact ⟨wt0 hnd,wt8 hnd⟩
  refine ⟨_,rfl,_,rfl,(bq_table (K:=K) (σ:=[some (.ref sc),some (.ref a),some (.ref N),some vf,some (.ref d),none,none,none,none,none]) (H0:=H12) bd_c (ix (k:=0) rfl hN12 (by decide)) (nm_at hn (by decide)).2).at0 fun v13 H13 s13 r13=>?_⟩
  have fx13:=fx12.sm s13
  refine ⟨a,N,v13,ns,rfl,fx13.st,s13 _ _ hN12,nNa,hn,⟨_,r13,by rw [sz_table]; exact Nat.le_refl _,wt.1⟩,fun vi H14 f14 ⟨qi,hqi,szi,wi⟩=>?_⟩
  have fx14:=fx13.trans f14
  have hN14:=fx14.same _ _ nNa g3
  refine ⟨_,rfl,_,rfl,N,vi,ns,qi,rfl,hN14,hn,hqi,szi,wi,fun D15 H15 ys15 fD15 s15 g15 l15 l15' r15=>?_⟩
  have fx15:=fx14.sm s15
  have nDa : D15 ≠ a:=fx14.st.ne fD15
  have f1215 : Fx a H12 H15:=((Fx.of fx12.st s13).trans f14).sm s15
  have hds15 : HeadsAt K H15 d (hsOf ns):=hds.fx f1215 fx12.st nda
  have hf15 : IsHd K H15 vf (Fst (nm ns 3) (nm ns 4) (nm ns 5)):=hf12.ts (fx_ts f1215 fx12.st)
  have hqi15:=hqi.same s15
  refine ⟨_,rfl,by decide,by decide,for_range (n:=3) (fun i σ H'=>Fx a H15 H'∧∃ l7 l8 l9,σ = [some (.ref sc),some (.ref a),some (.ref N),some vf,some (.ref d),some vi,some (.ref D15),l7,l8,l9]) ⟨Fx.refl fx15.st,_,_,_,rfl⟩ ?_ ?_⟩
  · rintro i σ H' hi ⟨fx,l7,l8,l9,rfl⟩
    have gD:=fx.same _ _ nDa g15
    refine ⟨_,rfl,_,rfl,_,rfl,D15,_,rfl,.inl (SqL.of gD),a,_,rfl,fx.st,by omega,fun cc H16 f16 cc0 cc1=>?_⟩
    obtain ⟨m,rfl⟩ : ∃ m : Nat,cc = (m : Int):=⟨cc.toNat,by omega⟩
    have hm : m < ys15.length:=by omega
    have fxb:=fx.trans f16
    have gD16:=fxb.same _ _ nDa g15
    obtain ⟨p,n,v,st,ey,gp,hqs,szs,hn4,hws⟩:=(r15 _ (List.getElem_mem hm)).ts (fx_ts fxb fx15.st)
    refine ⟨D15,ys15,_,.ref p,rfl,rfl,SqL.of gD16,atI_nat (by rw [List.getElem?_eq_getElem hm,ey]),p,_,rfl,gp,rfl,_,_,rfl,_,_,rfl,rfl,?_⟩
    have hN16:=(fx15.trans fxb).same _ _ nNa g3
    refine ⟨_,rfl,_,rfl,_,rfl,_,rfl,a,N,v,ns,clsOf n,rfl,fxb.st,hN16,nNa,hn,⟨st,hqs,szs,hws⟩,fun v' H17 f17 ⟨q',hq',sz',w'⟩=>?_⟩
    have fx17:=fxb.trans f17
    refine ⟨d,v',hsOf ns,q',clsOf n,rfl,hds15.fx fx17 fx15.st nda,hq',sz',w',fun l H18 fl s18 g18=>?_⟩
    refine comp_ix (σ:=[some (.ref sc),some (.ref a),some (.ref N),some vf,some (.ref d),some vi,some (.ref D15),some (.int (0 + (i : Int))),some (.int (n : Nat)),some v]) (H:=H18) ((List.range 5).map fun i : Nat=>V.int (0 + (i : Int))) ((List.range 5).map fun k : Nat=>V.bl (decide (V.int (0 + (k : Int)) = V.int (n : Nat)))) (by rw [List.length_map,List.length_map]) [none,some (.int (n : Nat))] (cap_at1 8 (by decide +kernel) rfl rfl (by first | exact Or.inl rfl | exact Or.inr (Or.inl rfl) | exact Or.inr (Or.inr rfl))) (by decide) (fun R r=>wi_rng1 5 (fun R' r'=>r') (by decide) R r) (fun j x y ex ey H' R l sm r=>?_) rfl fun D19 H19 s19 g19=>?_
    · obtain ⟨hj,rfl⟩:=rg ex
      rw [List.getElem?_map,List.getElem?_range hj] at ey
      cases ey
      exact ⟨_,rfl,_,rfl,rfl,r H' (Same.refl H')⟩
    refine ⟨(by show 3 ≤ sizeLine; decide),fun p2 H20 fp2 s20 g20=>?_⟩
    refine ⟨D19,p2,_,_,rfl,rfl,s20 _ _ g19,g20,(by show 5 + 3 ≤ sizeLine; decide),fun b H21 fb s21 g21=>?_⟩
    have e8:=knd_of hn4
    rw [← e8] at g21
    refine ⟨l,b,_,_,rfl,rfl,SqL.of ((s19.trans (s20.trans s21)) _ _ g18),SqL.of g21,fl_knd,_,rfl,iteF ?_⟩
    exact ⟨fx17.sm (s18.trans (s19.trans (s20.trans s21))),_,_,_,rfl⟩
  · rintro σ H' ⟨fx,l7,l8,l9,rfl⟩
    have hN':=(fx15.trans fx).same _ _ nNa g3
    refine ⟨_,rfl,(bq_table (K:=K) (σ:=[some (.ref sc),some (.ref a),some (.ref N),some vf,some (.ref d),some vi,some (.ref D15),l7,l8,l9]) (H0:=H') bd_c (ix (k:=8) rfl hN' (by decide)) (nm_at hn (by decide)).2).at0 fun v22 H22 s22 r22=>?_⟩
    have fx22:=fx.sm s22
    refine ⟨d,v22,hsOf ns,_,.tab,rfl,hds15.fx fx22 fx15.st nda,r22,by rw [sz_table]; decide,wt.2,fun l H23 fl s23 g23=>?_⟩
    refine ⟨(by show 8 ≤ sizeLine; decide),fun p2 H24 fp2 s24 g24=>?_⟩
    refine ⟨l,p2,_,_,rfl,rfl,SqL.of (s24 _ _ g23),SqL.of g24,fl_knd (c:=.tab),_,rfl,iteF ?_⟩
    have fx24:=fx22.sm (s23.trans s24)
    refine ⟨_,rfl,_,rfl,d,vi,hsOf ns,qi,_,rfl,hds15.fx fx24 fx15.st nda,hqi15.ts (fx_ts fx24 fx15.st),by omega,wi,fun v' H25 s25 h25=>⟨_,rfl,?_⟩⟩
    obtain ⟨a',b',xs,ys,e1,e2,h1,h2,h3⟩:=hd_eq h25 ((hf15.ts (fx_ts fx24 fx15.st)).same s25)
    exact ⟨a',b',xs,ys,e1,e2,h1,h2,h3,q _⟩
end
end My
set_option Elab.async false
set_option linter.all false
set_option maxRecDepth 100000
namespace My
open PySem PySem.Spec PyProof.Rows L2
set_option maxHeartbeats 400000
section
variable {P : Program} {w : World} {K : PySem.W.Frag} {mg : Str→Option Value} {base : Heap}
theorem all_head_of (T : Txt w K mg) : OkX P w K mg base 28 "head_of" ["heads","question"] (sp_ho K mg):=by
  have g1:=ok_is_whole (P:=P) (base:=base) T
  have g2:=ok_is_word (P:=P) (base:=base) T
  have g3:=ok_is_name T g2
  have g4:=ok_is_value T g1 g2
  have g5:=ok_kind_of T g1
  have g6:=ok_is_one_of (P:=P) (base:=base) T
  have g7:=name_yes g3
  have fm : Forms P w K mg base:=⟨g7,ok_may_be_question T,ok_are_tests T (ok_is_test T g6 g3 (ok_is_other T g6 g4 g3)) (ok_is_tuple_of T),ok_are_names T g7 (ok_is_tuple_of T),ok_are_group_names T g7 (ok_is_tuple_of T),ok_are_pairs T (ok_is_pair T g7 (ok_is_tuple_of T)) (ok_is_tuple_of T),ok_are_sums T (ok_is_sum T g6 g3) (ok_is_tuple_of T),ok_are_keys T (ok_is_key T g6 g3) (ok_is_tuple_of T),ok_is_many T g1⟩
  have g8:=ok_questions_in (P:=P) (base:=base) T
  have g9:=ok_kind_in (P:=P) (base:=base) T
  have g10:=ok_need_like_kinds (P:=P) (base:=base) T
  have g11:=ok_need_unlike T (ok_are_unlike (P:=P) (base:=base) T)
  have g12:=ok_keep_head T g9
  have g13:=ok_head_here T (ok_table_head T) (ok_where_head T g10 g9 (ok_other_kind T g5 g9)) g12 (ok_named_head T) (ok_join_head T g10 g9 g11) (ok_group_head T g12 (ok_sum_kind T g9)) (ok_first_head T g12 g11)
  exact ok_head_of T (ok_head_within T g8 g13 g11 (ok_names_of' T) 20) (ok_checked T (ok_has_form T fm g6) g8 (ok_own_size T))
theorem law_fn {fa : Addr} (T : Txt w K mg) (hmg : mg "law" = some (.ref fa)) :
    ∃ fd : FuncData,(∀ (s : Shared) (u : Value),BindsTo s fd ⟨[u],[]⟩ [("_law_script",u)])∧∀ base : Heap,K.In base→base.Ns mainGlobals mg→FnOk P w K mg base CX0 30 fa fd ["_law_script"] (sp_law K):=by
  obtain ⟨f,fd,F,B,m⟩:=T.d_law
  have e : fa = f:=by
    rw [m] at hmg
    injection hmg with e
    injection e with e
    exact e.symm
  subst e
  refine ⟨fd,?_,fun base _ _=>?_⟩
  · obtain ⟨⟨oc,od,kV,doc,pm,an,cdv,ct,osl,rfl,lk,hcd⟩,kp⟩:=F
    exact fun s u=>.of_eq rfl
  · have n1:=ok__law_next (P:=P) (base:=base) T
    have n2:=all_head_of (P:=P) (base:=base) T
    exact ok_law F T (ok__law_seed T) n1 (ok__law_names T n1 (ok__law_words T)) (ok__law_inner T n1) (ok__law_steps T (ok__law_where_steps T) (ok__law_join_steps T)) (ok__law_outer T n1) (ok__law_refused T n2) (ok_hoc n2)
end
set_option maxHeartbeats 6400000
inductive FA (K : PySem.W.Frag) (n : Str) (s : Stmt) (f : Addr) : Prop
  | mk {od an : Option Addr} {sl : Array (Option Value)} {kV dc pm cd ct : Value} : PySem.W.nsIn K mainGlobals n = some (some (.ref f))→K.lookup f = some ⟨.type "function",od,.func (PySem.W.fnOf n n (defArgs s) (defBody s) (defScope s) .none kV dc pm an cd ct),sl⟩→PySem.W.codeIn K cd n = true→PySem.W.keepIn K (.ref f) = true→FA K n s f
section
variable {K : PySem.W.Frag} {h : Heap} {mg : Str→Option Value} {n : Str} {s : Stmt} {f : Addr} {ps : List Str}
theorem fm_mk (X : K.In h) (G : h.Ns mainGlobals mg) (a : FA K n s f) : mg n = some (.ref f):=by
  obtain ⟨a,_,_,_⟩:=a
  exact PySem.W.mg_of X G a
theorem dn_mk (X : K.In h) (G : h.Ns mainGlobals mg) (a : FA K n s f) (b : ∀ (kV doc pm : Value) (an : Option Addr) (cdv ct : Value) (us : List Value),us.length = ps.length→bindArgs (PySem.W.fnOf n n (defArgs s) (defBody s) (defScope s) .none kV doc pm an cdv ct) ⟨us,[]⟩ = pure (ps.zip us)) : Dn K mg n s ps:=by
  have m:=fm_mk X G a
  obtain ⟨_,l,c,k⟩:=a
  exact ⟨f,_,fun_mk l c k,(fun_mk l c k).binds b,m⟩
theorem vn_mk (X : K.In h) (G : h.Ns mainGlobals mg) (a : FA K n s f) : ∃ f o,(∃ u,mg n = some u∧RelV (.ref f) u)∧K.lookup f = some o∧o.cls = .type "function":=by
  have m:=fm_mk X G a
  obtain ⟨_,l,c,k⟩:=a
  exact ⟨f,_,⟨_,m,rfl⟩,l,rfl⟩
end
theorem ln0 {P : List Value→Prop} (h : P []) : ∀ us : List Value,us.length = 0→P us
  | [],_=>h
theorem ln1 {P : List Value→Prop} (h : ∀ a0,P [a0]) : ∀ us : List Value,us.length = 1→P us
  | [a0],_=>h a0
theorem ln2 {P : List Value→Prop} (h : ∀ a0 a1,P [a0,a1]) : ∀ us : List Value,us.length = 2→P us
  | [a0,a1],_=>h a0 a1
theorem ln3 {P : List Value→Prop} (h : ∀ a0 a1 a2,P [a0,a1,a2]) : ∀ us : List Value,us.length = 3→P us
  | [a0,a1,a2],_=>h a0 a1 a2
theorem ln4 {P : List Value→Prop} (h : ∀ a0 a1 a2 a3,P [a0,a1,a2,a3]) : ∀ us : List Value,us.length = 4→P us
  | [a0,a1,a2,a3],_=>h a0 a1 a2 a3
theorem ln6 {P : List Value→Prop} (h : ∀ a0 a1 a2 a3 a4 a5,P [a0,a1,a2,a3,a4,a5]) : ∀ us : List Value,us.length = 6→P us
  | [a0,a1,a2,a3,a4,a5],_=>h a0 a1 a2 a3 a4 a5
local macro_rules
  | `(tactic| trivial)=>`(tactic| first | exact (fun _ _ _ _ _ _=>ln1 fun _=>rfl) | exact (fun _ _ _ _ _ _=>ln2 fun _ _=>rfl) | exact (fun _ _ _ _ _ _=>ln3 fun _ _ _=>rfl) | exact (fun _ _ _ _ _ _=>ln4 fun _ _ _ _=>rfl) | exact (fun _ _ _ _ _ _=>ln0 rfl) | exact (fun _ _ _ _ _ _=>ln6 fun _ _ _ _ _ _=>rfl))
inductive X1 (K : PySem.W.Frag) (S fI : Addr) (n : Str) (C : Addr) : Prop
  | mk {nm q : Str} {N : Addr} {bs bm : List Value} {sn : List Str} {sub : List Value} {ab : Bool} {col : Option Bool} {dd : Option Addr} {k0 k1 k2 k3 k5 : Option Value} {cd : ClassData} :
    PySem.W.nsIn K mainGlobals n = some (some (.ref C)) →
    K.lookup C = some (excClassObj nm q C N bs bm true sn sub ab col dd k0 k1 k2 k3 k5 "ValueError.__new__") →
    bm.contains (.type "ValueError") = true →
    bm.contains (.type "AttributeError") = false →
    bm.contains (.type "NameError") = false →
    bm.contains (.type "BaseException") = true →
    PySem.W.clsIn K C = some cd →
    (onlyV cd.mro && cd.hasDict) = true →
    PySem.W.findIn K (.ref C) "__init__" = some (some (.ref fI)) →
    PySem.W.typeIn K (.ref fI) = some (.type "function") →
    PySem.W.findIn K (.ref C) "__setattr__" = some (some (.builtin "object.__setattr__")) →
    PySem.W.findIn K (.ref C) "__getattribute__" = some (some (.builtin "BaseException.__getattribute__")) →
    PySem.W.findIn K (.ref C) "__getattr__" = some none →
    PySem.W.findIn K (.ref C) "act" = some none →
    PySem.W.findIn K (.ref C) "__class__" = some (some (.builtin "object.__class__")) →
    PySem.W.keepIn K (.ref C) = true →
    PySem.W.typeIn K (.ref C) = some (.type "type") →
    PySem.W.mroIn K C (.type "BaseException") = some true →
    PySem.W.mroIn K C (.ref S) = some true →
    PySem.W.mroIn K C (.type "ValueError") = some true→X1 K S fI n C
inductive X0 (K : PySem.W.Frag) (S fI : Addr) : Prop
  | mk {cS : ClassData} {od an : Option Addr} {sl : Array (Option Value)} {kV dc pm cdv ct : Value} :
    K.lookup fI = some ⟨.type "function",od,.func (PySem.W.fnOf "__init__" "ShardError.__init__" (defArgs s_init) (defBody s_init) (defScope s_init) .none kV dc pm an cdv ct),sl⟩ →
    PySem.W.codeIn K cdv "ShardError.__init__" = true →
    PySem.W.keepIn K (.ref fI) = true →
    PySem.W.typeIn K (.ref S) = some (.type "type") →
    PySem.W.clsIn K S = some cS →
    PySem.W.mroIn K S (.type "BaseException") = some true→X0 K S fI
theorem x1_mk {K : PySem.W.Frag} {h : Heap} {mg : Str→Option Value} {S fI C : Addr} {n : Str} (X : K.In h) (G : h.Ns mainGlobals mg) (a : X1 K S fI n C) (b : X0 K S fI) : ExT K mg s_init n "ShardError.__init__" C S∧PySem.W.mroIn K C (.type "ValueError") = some true:=by
  obtain ⟨y0,y3,r0,r1,r2,r3,y4,r4,y5,y6,y7,y8,y9,y10,y11,y15,y16,y17,y18,y21⟩:=a
  obtain ⟨y12,y13,y14,_,_,_⟩:=b
  exact ⟨⟨⟨fI,_,⟨⟨_,_,_,_,_,_,_,_,_,_,_,_,_,_,_,y3,r0,r1,r2,r3⟩,y5,y6,by rw [y4]; exact r4,y7,y8,y9,y10,y11⟩,fun_mk y12 y13 y14,(fun_mk y12 y13 y14).binds fun _ _ _ _ _ _=>ln2 fun _ _=>rfl⟩,PySem.W.mg_of X G y0,y15,⟨y16,by rw [y4]; rfl,y17⟩,y18⟩,y21⟩
def adOf (c0 c1 c2 c3 c4 c5 : Addr) : Cls→Addr
  | .ques=>c0
  | .tab=>c1
  | .col=>c2
  | .kind=>c3
  | .twice=>c4
  | .wide=>c5
inductive XM (K : PySem.W.Frag) (c0 c1 c2 c3 c4 c5 : Addr) : Prop
  | mk : PySem.W.mroIn K c0 (.ref c0) = some true →
    PySem.W.mroIn K c0 (.ref c1) = some false →
    PySem.W.mroIn K c0 (.ref c2) = some false →
    PySem.W.mroIn K c0 (.ref c3) = some false →
    PySem.W.mroIn K c0 (.ref c4) = some false →
    PySem.W.mroIn K c0 (.ref c5) = some false →
    PySem.W.mroIn K c1 (.ref c0) = some false →
    PySem.W.mroIn K c1 (.ref c1) = some true →
    PySem.W.mroIn K c1 (.ref c2) = some false →
    PySem.W.mroIn K c1 (.ref c3) = some false →
    PySem.W.mroIn K c1 (.ref c4) = some false →
    PySem.W.mroIn K c1 (.ref c5) = some false →
    PySem.W.mroIn K c2 (.ref c0) = some false →
    PySem.W.mroIn K c2 (.ref c1) = some false →
    PySem.W.mroIn K c2 (.ref c2) = some true →
    PySem.W.mroIn K c2 (.ref c3) = some false →
    PySem.W.mroIn K c2 (.ref c4) = some false →
    PySem.W.mroIn K c2 (.ref c5) = some false →
    PySem.W.mroIn K c3 (.ref c0) = some false →
    PySem.W.mroIn K c3 (.ref c1) = some false →
    PySem.W.mroIn K c3 (.ref c2) = some false →
    PySem.W.mroIn K c3 (.ref c3) = some true →
    PySem.W.mroIn K c3 (.ref c4) = some false →
    PySem.W.mroIn K c3 (.ref c5) = some false →
    PySem.W.mroIn K c4 (.ref c0) = some false →
    PySem.W.mroIn K c4 (.ref c1) = some false →
    PySem.W.mroIn K c4 (.ref c2) = some false →
    PySem.W.mroIn K c4 (.ref c3) = some false →
    PySem.W.mroIn K c4 (.ref c4) = some true →
    PySem.W.mroIn K c4 (.ref c5) = some false →
    PySem.W.mroIn K c5 (.ref c0) = some false →
    PySem.W.mroIn K c5 (.ref c1) = some false →
    PySem.W.mroIn K c5 (.ref c2) = some false →
    PySem.W.mroIn K c5 (.ref c3) = some false →
    PySem.W.mroIn K c5 (.ref c4) = some false →
    PySem.W.mroIn K c5 (.ref c5) = some true→XM K c0 c1 c2 c3 c4 c5
theorem ex_mk {K : PySem.W.Frag} {h : Heap} {mg : Str→Option Value} {S fI c0 c1 c2 c3 c4 c5 : Addr} (X : K.In h) (G : h.Ns mainGlobals mg) (s : PySem.W.nsIn K mainGlobals "ShardError" = some (some (.ref S))) (a0 : X1 K S fI "NoQuestion" c0) (a1 : X1 K S fI "NoTable" c1) (a2 : X1 K S fI "NoColumn" c2) (a3 : X1 K S fI "NoKind" c3) (a4 : X1 K S fI "Twice" c4) (a5 : X1 K S fI "TooWide" c5) (b : X0 K S fI) (m : XM K c0 c1 c2 c3 c4 c5) :
    ∃ (S : Addr) (ad : Cls→Addr),mg "ShardError" = some (.ref S)∧XS K S∧(∀ c,ExT K mg s_init c.nm "ShardError.__init__" (ad c) S)∧(∀ c d,PySem.W.mroIn K (ad c) (.ref (ad d)) = some (decide (c = d)))∧∀ c,PySem.W.mroIn K (ad c) (.type "ValueError") = some true:=by
  refine ⟨S,adOf c0 c1 c2 c3 c4 c5,PySem.W.mg_of X G s,?_,fun c=>?_,fun c d=>?_,fun c=>?_⟩
  · obtain ⟨_,_,_,y1,y2,y3⟩:=b
    exact ⟨y1,by rw [y2]; rfl,y3⟩
  · cases c
    · exact (x1_mk X G a0 b).1
    · exact (x1_mk X G a1 b).1
    · exact (x1_mk X G a2 b).1
    · exact (x1_mk X G a3 b).1
    · exact (x1_mk X G a4 b).1
    · exact (x1_mk X G a5 b).1
  · obtain ⟨m00,m01,m02,m03,m04,m05,m10,m11,m12,m13,m14,m15,m20,m21,m22,m23,m24,m25,m30,m31,m32,m33,m34,m35,m40,m41,m42,m43,m44,m45,m50,m51,m52,m53,m54,m55⟩:=m
    cases c
    · cases d
      · exact m00
      · exact m01
      · exact m02
      · exact m03
      · exact m04
      · exact m05
    · cases d
      · exact m10
      · exact m11
      · exact m12
      · exact m13
      · exact m14
      · exact m15
    · cases d
      · exact m20
      · exact m21
      · exact m22
      · exact m23
      · exact m24
      · exact m25
    · cases d
      · exact m30
      · exact m31
      · exact m32
      · exact m33
      · exact m34
      · exact m35
    · cases d
      · exact m40
      · exact m41
      · exact m42
      · exact m43
      · exact m44
      · exact m45
    · cases d
      · exact m50
      · exact m51
      · exact m52
      · exact m53
      · exact m54
      · exact m55
  · cases c
    · exact (x1_mk X G a0 b).2
    · exact (x1_mk X G a1 b).2
    · exact (x1_mk X G a2 b).2
    · exact (x1_mk X G a3 b).2
    · exact (x1_mk X G a4 b).2
    · exact (x1_mk X G a5 b).2
theorem txt_mk {K : PySem.W.Frag} {h : Heap} {mg : Str→Option Value} (X : K.In h) (G : h.Ns mainGlobals mg) {w : World} {f0 f1 f2 f3 f4 f5 f6 f7 f8 f9 f10 f11 f12 f13 f14 f15 f16 f17 f18 f19 f20 f21 f22 f23 f24 f25 f26 f27 f28 f29 f30 f31 f32 f33 f34 f35 f36 f37 f38 f39 f40 f41 f42 f43 f44 f45 f46 f47 f48 f49 f50 f51 : Addr} {ca_QUESTION_WORDS : Addr} {co_QUESTION_WORDS : Obj} {ci_QUESTION_WORDS : Array Value} {cn_QUESTION_WORDS : Nat} {ct_LETTERS : Tok} {ct_MOST_LETTERS : Tok} {ct_MOST_COLUMNS : Tok} {ca_SIGNS : Addr} {co_SIGNS : Obj} {ci_SIGNS : Array Value} {cn_SIGNS : Nat} {ca_SUM_WORDS : Addr} {co_SUM_WORDS : Obj} {ci_SUM_WORDS : Array Value} {cn_SUM_WORDS : Nat} {ca_WAYS : Addr} {co_WAYS : Obj} {ci_WAYS : Array Value} {cn_WAYS : Nat} {ct_MOST_TESTS : Tok} {ct_MOST_NAMES : Tok} {ct_MOST_PAIRS : Tok} {ct_MOST_SUMS : Tok} {ct_MOST_KEYS : Tok} {ct_MOST_ROWS : Tok} {ct_MOST_SIZE : Tok} {ca_FORMS : Addr} {co_FORMS : Obj} {ce_FORMS : Array DictEntry} {cp_FORMS : Nat} {tt14_0 : Addr} {to14_0 : Obj} {ti14_0 : Array Value} {tn14_0 : Nat} {tt14_1 : Addr} {to14_1 : Obj} {ti14_1 : Array Value} {tn14_1 : Nat} {tt14_2 : Addr} {to14_2 : Obj} {ti14_2 : Array Value} {tn14_2 : Nat} {tt14_3 : Addr} {to14_3 : Obj} {ti14_3 : Array Value} {tn14_3 : Nat} {tt14_4 : Addr} {to14_4 : Obj} {ti14_4 : Array Value} {tn14_4 : Nat} {tt14_5 : Addr} {to14_5 : Obj} {ti14_5 : Array Value} {tn14_5 : Nat} {tt14_6 : Addr} {to14_6 : Obj} {ti14_6 : Array Value} {tn14_6 : Nat} {xS xI c0 c1 c2 c3 c4 c5 : Addr}
    (a0 : FA K "is_whole" s_is_whole f0)
    (a1 : FA K "is_word" s_is_word f1)
    (a2 : FA K "is_one_of" s_is_one_of f2)
    (a3 : FA K "is_tuple_of" s_is_tuple_of f3)
    (a4 : FA K "are_unlike" s_are_unlike f4)
    (a5 : FA K "names_of" s_names_of f5)
    (a6 : FA K "is_name" s_is_name f6)
    (a7 : FA K "is_value" s_is_value f7)
    (a8 : FA K "kind_of" s_kind_of f8)
    (a9 : FA K "is_other" s_is_other f9)
    (a10 : FA K "is_test" s_is_test f10)
    (a11 : FA K "is_pair" s_is_pair f11)
    (a12 : FA K "is_sum" s_is_sum f12)
    (a13 : FA K "is_key" s_is_key f13)
    (a14 : FA K "is_many" s_is_many f14)
    (a15 : FA K "are_tests" s_are_tests f15)
    (a16 : FA K "are_names" s_are_names f16)
    (a17 : FA K "are_group_names" s_are_group_names f17)
    (a18 : FA K "are_pairs" s_are_pairs f18)
    (a19 : FA K "are_sums" s_are_sums f19)
    (a20 : FA K "are_keys" s_are_keys f20)
    (a21 : FA K "may_be_question" s_may_be_question f21)
    (a22 : FA K "has_form" s_has_form f22)
    (a23 : FA K "questions_in" s_questions_in f23)
    (a24 : FA K "own_size" s_own_size f24)
    (a25 : FA K "checked" s_checked f25)
    (a26 : FA K "kind_in" s_kind_in f26)
    (a27 : FA K "need_like_kinds" s_need_like_kinds f27)
    (a28 : FA K "need_unlike" s_need_unlike f28)
    (a29 : FA K "table_head" s_table_head f29)
    (a30 : FA K "other_kind" s_other_kind f30)
    (a31 : FA K "where_head" s_where_head f31)
    (a32 : FA K "keep_head" s_keep_head f32)
    (a33 : FA K "named_head" s_named_head f33)
    (a34 : FA K "join_head" s_join_head f34)
    (a35 : FA K "sum_kind" s_sum_kind f35)
    (a36 : FA K "group_head" s_group_head f36)
    (a37 : FA K "first_head" s_first_head f37)
    (a38 : FA K "head_here" s_head_here f38)
    (a39 : FA K "head_within" s_head_within f39)
    (a40 : FA K "head_of" s_head_of f40)
    (a41 : FA K "_law_seed" s__law_seed f41)
    (a42 : FA K "_law_next" s__law_next f42)
    (a43 : FA K "_law_words" s__law_words f43)
    (a44 : FA K "_law_names" s__law_names f44)
    (a45 : FA K "_law_where_steps" s__law_where_steps f45)
    (a46 : FA K "_law_join_steps" s__law_join_steps f46)
    (a47 : FA K "_law_steps" s__law_steps f47)
    (a48 : FA K "_law_inner" s__law_inner f48)
    (a49 : FA K "_law_outer" s__law_outer f49)
    (a50 : FA K "_law_refused" s__law_refused f50)
    (a51 : FA K "law" s_law f51)
    (q0 : PySem.W.nsIn K mainGlobals "QUESTION_WORDS" = some (some (.ref ca_QUESTION_WORDS))) (r0 : K.lookup ca_QUESTION_WORDS = some co_QUESTION_WORDS) (t0 : co_QUESTION_WORDS.cls = .type "tuple") (y0 : co_QUESTION_WORDS.dict = none) (u0 : co_QUESTION_WORDS.data = .seq ci_QUESTION_WORDS cn_QUESTION_WORDS) (v0 : Vals [.str "and",.str "by",.str "count",.str "down",.str "first",.str "group",.str "join",.str "keep",.str "least",.str "most",.str "named",.str "on",.str "sum",.str "table",.str "up",.str "where",.str "with"] ci_QUESTION_WORDS.toList)
    (q1 : PySem.W.nsIn K mainGlobals "LETTERS" = some (some (.str "abcdefghijklmnopqrstuvwxyz" ct_LETTERS)))
    (q2 : PySem.W.nsIn K mainGlobals "MOST_LETTERS" = some (some (.int 8 ct_MOST_LETTERS)))
    (q3 : PySem.W.nsIn K mainGlobals "MOST_COLUMNS" = some (some (.int 8 ct_MOST_COLUMNS)))
    (q4 : PySem.W.nsIn K mainGlobals "SIGNS" = some (some (.ref ca_SIGNS))) (r4 : K.lookup ca_SIGNS = some co_SIGNS) (t4 : co_SIGNS.cls = .type "tuple") (y4 : co_SIGNS.dict = none) (u4 : co_SIGNS.data = .seq ci_SIGNS cn_SIGNS) (v4 : Vals [.str "=",.str "<",.str ">",.str "!"] ci_SIGNS.toList)
    (q5 : PySem.W.nsIn K mainGlobals "SUM_WORDS" = some (some (.ref ca_SUM_WORDS))) (r5 : K.lookup ca_SUM_WORDS = some co_SUM_WORDS) (t5 : co_SUM_WORDS.cls = .type "tuple") (y5 : co_SUM_WORDS.dict = none) (u5 : co_SUM_WORDS.data = .seq ci_SUM_WORDS cn_SUM_WORDS) (v5 : Vals [.str "count",.str "sum",.str "least",.str "most"] ci_SUM_WORDS.toList)
    (q6 : PySem.W.nsIn K mainGlobals "WAYS" = some (some (.ref ca_WAYS))) (r6 : K.lookup ca_WAYS = some co_WAYS) (t6 : co_WAYS.cls = .type "tuple") (y6 : co_WAYS.dict = none) (u6 : co_WAYS.data = .seq ci_WAYS cn_WAYS) (v6 : Vals [.str "up",.str "down"] ci_WAYS.toList)
    (q7 : PySem.W.nsIn K mainGlobals "MOST_TESTS" = some (some (.int 3 ct_MOST_TESTS)))
    (q8 : PySem.W.nsIn K mainGlobals "MOST_NAMES" = some (some (.int 8 ct_MOST_NAMES)))
    (q9 : PySem.W.nsIn K mainGlobals "MOST_PAIRS" = some (some (.int 3 ct_MOST_PAIRS)))
    (q10 : PySem.W.nsIn K mainGlobals "MOST_SUMS" = some (some (.int 4 ct_MOST_SUMS)))
    (q11 : PySem.W.nsIn K mainGlobals "MOST_KEYS" = some (some (.int 3 ct_MOST_KEYS)))
    (q12 : PySem.W.nsIn K mainGlobals "MOST_ROWS" = some (some (.int 60 ct_MOST_ROWS)))
    (q13 : PySem.W.nsIn K mainGlobals "MOST_SIZE" = some (some (.int 20 ct_MOST_SIZE)))
    (q14 : PySem.W.nsIn K mainGlobals "FORMS" = some (some (.ref ca_FORMS))) (r14 : K.lookup ca_FORMS = some co_FORMS) (x14 : co_FORMS.ExactDict) (o14 : (ca_FORMS == sysModules) = false) (u14 : co_FORMS.data = .dict ce_FORMS cp_FORMS) (h14 : ∀ P : Program,PH P w ce_FORMS.toList [("table",Value.ref tt14_0),("where",Value.ref tt14_1),("keep",Value.ref tt14_2),("named",Value.ref tt14_3),("join",Value.ref tt14_4),("group",Value.ref tt14_5),("first",Value.ref tt14_6)])
    (r14_0 : K.lookup tt14_0 = some to14_0) (t14_0 : to14_0.cls = .type "tuple") (y14_0 : to14_0.dict = none) (u14_0 : to14_0.data = .seq ti14_0 tn14_0) (v14_0 : Vals [.ref f6] ti14_0.toList)
    (r14_1 : K.lookup tt14_1 = some to14_1) (t14_1 : to14_1.cls = .type "tuple") (y14_1 : to14_1.dict = none) (u14_1 : to14_1.data = .seq ti14_1 tn14_1) (v14_1 : Vals [.ref f21,.ref f15] ti14_1.toList)
    (r14_2 : K.lookup tt14_2 = some to14_2) (t14_2 : to14_2.cls = .type "tuple") (y14_2 : to14_2.dict = none) (u14_2 : to14_2.data = .seq ti14_2 tn14_2) (v14_2 : Vals [.ref f21,.ref f16] ti14_2.toList)
    (r14_3 : K.lookup tt14_3 = some to14_3) (t14_3 : to14_3.cls = .type "tuple") (y14_3 : to14_3.dict = none) (u14_3 : to14_3.data = .seq ti14_3 tn14_3) (v14_3 : Vals [.ref f21,.ref f16] ti14_3.toList)
    (r14_4 : K.lookup tt14_4 = some to14_4) (t14_4 : to14_4.cls = .type "tuple") (y14_4 : to14_4.dict = none) (u14_4 : to14_4.data = .seq ti14_4 tn14_4) (v14_4 : Vals [.ref f21,.ref f21,.ref f18] ti14_4.toList)
    (r14_5 : K.lookup tt14_5 = some to14_5) (t14_5 : to14_5.cls = .type "tuple") (y14_5 : to14_5.dict = none) (u14_5 : to14_5.data = .seq ti14_5 tn14_5) (v14_5 : Vals [.ref f21,.ref f17,.ref f19] ti14_5.toList)
    (r14_6 : K.lookup tt14_6 = some to14_6) (t14_6 : to14_6.cls = .type "tuple") (y14_6 : to14_6.dict = none) (u14_6 : to14_6.data = .seq ti14_6 tn14_6) (v14_6 : Vals [.ref f21,.ref f20,.ref f14] ti14_6.toList)
    (z0 : PySem.W.nsIn K mainGlobals "ValueError" = some none)
    (z1 : PySem.W.nsIn K mainGlobals "all" = some none)
    (z2 : PySem.W.nsIn K mainGlobals "any" = some none)
    (z3 : PySem.W.nsIn K mainGlobals "bool" = some none)
    (z4 : PySem.W.nsIn K mainGlobals "enumerate" = some none)
    (z5 : PySem.W.nsIn K mainGlobals "int" = some none)
    (z6 : PySem.W.nsIn K mainGlobals "isinstance" = some none)
    (z7 : PySem.W.nsIn K mainGlobals "len" = some none)
    (z8 : PySem.W.nsIn K mainGlobals "list" = some none)
    (z9 : PySem.W.nsIn K mainGlobals "range" = some none)
    (z10 : PySem.W.nsIn K mainGlobals "set" = some none)
    (z11 : PySem.W.nsIn K mainGlobals "str" = some none)
    (z12 : PySem.W.nsIn K mainGlobals "tuple" = some none)
    (z13 : PySem.W.nsIn K mainGlobals "zip" = some none)
    (xs : PySem.W.nsIn K mainGlobals "ShardError" = some (some (.ref xS)))
    (xc0 : X1 K xS xI "NoQuestion" c0)
    (xc1 : X1 K xS xI "NoTable" c1)
    (xc2 : X1 K xS xI "NoColumn" c2)
    (xc3 : X1 K xS xI "NoKind" c3)
    (xc4 : X1 K xS xI "Twice" c4)
    (xc5 : X1 K xS xI "TooWide" c5)
    (xb : X0 K xS xI)
    (xm : XM K c0 c1 c2 c3 c4 c5) : Txt w K mg :=
  ⟨PySem.W.mg_none_of X G z0,
    PySem.W.mg_none_of X G z1,
    PySem.W.mg_none_of X G z2,
    PySem.W.mg_none_of X G z3,
    PySem.W.mg_none_of X G z4,
    PySem.W.mg_none_of X G z5,
    PySem.W.mg_none_of X G z6,
    PySem.W.mg_none_of X G z7,
    PySem.W.mg_none_of X G z8,
    PySem.W.mg_none_of X G z9,
    PySem.W.mg_none_of X G z10,
    PySem.W.mg_none_of X G z11,
    PySem.W.mg_none_of X G z12,
    PySem.W.mg_none_of X G z13,
    ⟨_,PySem.W.mg_of X G q0,fun H=>.inr ⟨_,_,_,r0,t0,y0,u0,by have e:=v0.length; simp only [Array.length_toList] at e; rw [← e]; exact small (by decide),v0⟩⟩,
    ⟨_,PySem.W.mg_of X G q1,_,rfl⟩,
    ⟨_,PySem.W.mg_of X G q2,_,rfl⟩,
    ⟨_,PySem.W.mg_of X G q3,_,rfl⟩,
    ⟨_,PySem.W.mg_of X G q4,fun H=>.inr ⟨_,_,_,r4,t4,y4,u4,by have e:=v4.length; simp only [Array.length_toList] at e; rw [← e]; exact small (by decide),v4⟩⟩,
    ⟨_,PySem.W.mg_of X G q5,fun H=>.inr ⟨_,_,_,r5,t5,y5,u5,by have e:=v5.length; simp only [Array.length_toList] at e; rw [← e]; exact small (by decide),v5⟩⟩,
    ⟨_,PySem.W.mg_of X G q6,fun H=>.inr ⟨_,_,_,r6,t6,y6,u6,by have e:=v6.length; simp only [Array.length_toList] at e; rw [← e]; exact small (by decide),v6⟩⟩,
    ⟨_,PySem.W.mg_of X G q7,_,rfl⟩,
    ⟨_,PySem.W.mg_of X G q8,_,rfl⟩,
    ⟨_,PySem.W.mg_of X G q9,_,rfl⟩,
    ⟨_,PySem.W.mg_of X G q10,_,rfl⟩,
    ⟨_,PySem.W.mg_of X G q11,_,rfl⟩,
    ⟨_,PySem.W.mg_of X G q12,_,rfl⟩,
    ⟨_,PySem.W.mg_of X G q13,_,rfl⟩,
    ⟨ca_FORMS,tt14_0,tt14_1,tt14_2,tt14_3,tt14_4,tt14_5,tt14_6,PySem.W.mg_of X G q14,⟨co_FORMS,r14,o14,fun P=>dictOf_mk x14 u14 (h14 P) (by show (List.map (fun x : Str × Value=>x.1) [("table",Value.ref tt14_0),("where",Value.ref tt14_1),("keep",Value.ref tt14_2),("named",Value.ref tt14_3),("join",Value.ref tt14_4),("group",Value.ref tt14_5),("first",Value.ref tt14_6)]).Nodup; exact (by decide +kernel : (["table","where","keep","named","join","group","first"] : List Str).Nodup))⟩,⟨f6,fun H=>.inr ⟨_,_,_,r14_0,t14_0,y14_0,u14_0,by have e:=v14_0.length; simp only [Array.length_toList] at e; rw [← e]; exact small (by show 1 ≤ 1000; decide),v14_0⟩,fm_mk X G a6⟩,⟨f21,f15,fun H=>.inr ⟨_,_,_,r14_1,t14_1,y14_1,u14_1,by have e:=v14_1.length; simp only [Array.length_toList] at e; rw [← e]; exact small (by show 2 ≤ 1000; decide),v14_1⟩,fm_mk X G a21,fm_mk X G a15⟩,⟨f21,f16,fun H=>.inr ⟨_,_,_,r14_2,t14_2,y14_2,u14_2,by have e:=v14_2.length; simp only [Array.length_toList] at e; rw [← e]; exact small (by show 2 ≤ 1000; decide),v14_2⟩,fm_mk X G a21,fm_mk X G a16⟩,⟨f21,f16,fun H=>.inr ⟨_,_,_,r14_3,t14_3,y14_3,u14_3,by have e:=v14_3.length; simp only [Array.length_toList] at e; rw [← e]; exact small (by show 2 ≤ 1000; decide),v14_3⟩,fm_mk X G a21,fm_mk X G a16⟩,⟨f21,f21,f18,fun H=>.inr ⟨_,_,_,r14_4,t14_4,y14_4,u14_4,by have e:=v14_4.length; simp only [Array.length_toList] at e; rw [← e]; exact small (by show 3 ≤ 1000; decide),v14_4⟩,fm_mk X G a21,fm_mk X G a21,fm_mk X G a18⟩,⟨f21,f17,f19,fun H=>.inr ⟨_,_,_,r14_5,t14_5,y14_5,u14_5,by have e:=v14_5.length; simp only [Array.length_toList] at e; rw [← e]; exact small (by show 3 ≤ 1000; decide),v14_5⟩,fm_mk X G a21,fm_mk X G a17,fm_mk X G a19⟩,⟨f21,f20,f14,fun H=>.inr ⟨_,_,_,r14_6,t14_6,y14_6,u14_6,by have e:=v14_6.length; simp only [Array.length_toList] at e; rw [← e]; exact small (by show 3 ≤ 1000; decide),v14_6⟩,fm_mk X G a21,fm_mk X G a20,fm_mk X G a14⟩⟩,
    vn_mk X G a6,
    vn_mk X G a10,
    vn_mk X G a11,
    vn_mk X G a12,
    vn_mk X G a13,
    dn_mk X G a0 (by trivial),
    dn_mk X G a1 (by trivial),
    dn_mk X G a2 (by trivial),
    dn_mk X G a3 (by trivial),
    dn_mk X G a4 (by trivial),
    dn_mk X G a5 (by trivial),
    dn_mk X G a6 (by trivial),
    dn_mk X G a7 (by trivial),
    dn_mk X G a8 (by trivial),
    dn_mk X G a9 (by trivial),
    dn_mk X G a10 (by trivial),
    dn_mk X G a11 (by trivial),
    dn_mk X G a12 (by trivial),
    dn_mk X G a13 (by trivial),
    dn_mk X G a14 (by trivial),
    dn_mk X G a15 (by trivial),
    dn_mk X G a16 (by trivial),
    dn_mk X G a17 (by trivial),
    dn_mk X G a18 (by trivial),
    dn_mk X G a19 (by trivial),
    dn_mk X G a20 (by trivial),
    dn_mk X G a21 (by trivial),
    dn_mk X G a22 (by trivial),
    dn_mk X G a23 (by trivial),
    dn_mk X G a24 (by trivial),
    dn_mk X G a25 (by trivial),
    dn_mk X G a26 (by trivial),
    dn_mk X G a27 (by trivial),
    dn_mk X G a28 (by trivial),
    dn_mk X G a29 (by trivial),
    dn_mk X G a30 (by trivial),
    dn_mk X G a31 (by trivial),
    dn_mk X G a32 (by trivial),
    dn_mk X G a33 (by trivial),
    dn_mk X G a34 (by trivial),
    dn_mk X G a35 (by trivial),
    dn_mk X G a36 (by trivial),
    dn_mk X G a37 (by trivial),
    dn_mk X G a38 (by trivial),
    dn_mk X G a39 (by trivial),
    dn_mk X G a40 (by trivial),
    dn_mk X G a41 (by trivial),
    dn_mk X G a42 (by trivial),
    dn_mk X G a43 (by trivial),
    dn_mk X G a44 (by trivial),
    dn_mk X G a45 (by trivial),
    dn_mk X G a46 (by trivial),
    dn_mk X G a47 (by trivial),
    dn_mk X G a48 (by trivial),
    dn_mk X G a49 (by trivial),
    dn_mk X G a50 (by trivial),
    dn_mk X G a51 (by trivial),
    ex_mk X G xs xc0 xc1 xc2 xc3 xc4 xc5 xb xm⟩
end My
set_option Elab.async false
set_option linter.all false
set_option maxRecDepth 100000
open PySem PySem.W PyProof.Rows
def PySem.W.Fast.tw6546432164829361700:=0
def PySem.W.Fast.tw4883830375695415454:=0
def PySem.W.Fast.tw5466353074705545648:=0
def PySem.W.Fast.tw2902909256075317335:=0
def PySem.W.Fast.tw13961538604716287971:=0
def PySem.W.Fast.tw10828233572583614285:=0
def PySem.W.Fast.tw3380294325627150656:=0
def PySem.W.Fast.tw9648344433163411775:=0
def PySem.W.Fast.tw16819752455257735722:=0
def PySem.W.Fast.tw7657691155238012539:=0
def PySem.W.Fast.tw9234715884317657208:=0
def PySem.W.Fast.tw9476025638852292779:=0
def PySem.W.Fast.tw13209950114999449868:=0
def PySem.W.Fast.tw2931656996901887426:=0
def PySem.W.Fast.tw9250500567210560460:=0
def PySem.W.Fast.tw6711298533498062908:=0
def PySem.W.Fast.tw1226443232788671114:=0
def PySem.W.Fast.tw8512387371471568130:=0
def PySem.W.Fast.tw5553744865556058940:=0
def PySem.W.Fast.tw7470562949602539389:=0
def PySem.W.Fast.tw5297802969922310331:=0
def PySem.W.Fast.tw16100106999395630414:=0
def PySem.W.Fast.tw4936348457231929353:=0
def PySem.W.Fast.tw13682970022581656893:=0
def PySem.W.Fast.tw5535883524664018291:=0
def PySem.W.Fast.tw5890134183906904866:=0
def PySem.W.Fast.tw5976343956737885493:=0
def PySem.W.Fast.tw12239287419530458420:=0
def PySem.W.Fast.tw12844894370330923114:=0
def PySem.W.Fast.tw6628433167620751918:=0
def PySem.W.Fast.tw17276065911275371754:=0
def PySem.W.Fast.tw3997930278308127286:=0
def PySem.W.Fast.tw17962154693489680846:=0
def PySem.W.Fast.tw4131215851829723799:=0
def PySem.W.Fast.tw1462601442995123717:=0
def PySem.W.Fast.tw1461435567733452892:=0
def PySem.W.Fast.tw6168893480658987696:=0
def PySem.W.Fast.tw18399914786056484339:=0
def PySem.W.Fast.tw1820527210839121574:=0
def PySem.W.Fast.tw5934475030237507076:=0
def PySem.W.Fast.tw2992564953343121467:=0
def PySem.W.Fast.tw18443122446853085802:=0
def PySem.W.Fast.tw15353825600853929790:=0
def PySem.W.Fast.tw9796752600943130035:=0
def PySem.W.Fast.tw7232355655256832362:=0
def PySem.W.Fast.tw16414466338620377639:=0
def PySem.W.Fast.tw15257190002713628703:=0
def PySem.W.Fast.tw8999810868171067984:=0
def PySem.W.Fast.tw4207392985895950535:=0
def PySem.W.Fast.tw8317441605437728713:=0
def PySem.W.Fast.tw15841906141872492108:=0
def PySem.W.Fast.tw201061248130925202:=0
def PySem.W.Fast.tw5507537951507856561:=0
def PySem.W.Fast.tw8769211445502287912:=0
def PySem.W.Fast.tw11108902703756268862:=0
def PySem.W.Fast.tw3356700241914254242:=0
def PySem.W.Fast.tw6431304479089360552:=0
def PySem.W.Fast.tw4975641925663959071:=0
def PySem.W.Fast.tw4119843489663323563:=0
def PySem.W.Fast.tw6180135270207374479:=0
def PySem.W.Fast.tw6755618928590142670:=0
def PySem.W.Fast.tw17443471035470616354:=0
def PySem.W.Fast.tw4327040732941266684:=0
def PySem.W.Fast.tw4593981346389523117:=0
def PySem.W.Fast.tw4218231498306162479:=0
def PySem.W.Fast.tw6360830946027102545:=0
def PySem.W.Fast.tw7068989258997945153:=0
def PySem.W.Fast.tw8472848508758260330:=0
def PySem.W.Fast.tw8548828025086482148:=0
def PySem.W.Fast.tw2978556953801558581:=0
def PySem.W.Fast.tw2120895606019773473:=0
def PySem.W.Fast.tw1918013790925385063:=0
def PySem.W.Fast.tw10758110417811853363:=0
def PySem.W.Fast.tw11763029117414153081:=0
def PySem.W.Fast.tw5016994017897838344:=0
def PySem.W.Fast.tw10862917250658369318:=0
def PySem.W.Fast.tw7320661769836834570:=0
def PySem.W.Fast.tw7714389246629872058:=0
def PySem.W.Fast.tw6748664416109394752:=0
def PySem.W.Fast.tw12333865128667159218:=0
def PySem.W.Fast.tw11551178574281337893:=0
def PySem.W.Fast.tw16512662701333166904:=0
def PySem.W.Fast.tw11322738032083602227:=0
def PySem.W.Fast.tw6935565070375297797:=0
def PySem.W.Fast.tw2316083608201697168:=0
def PySem.W.Fast.tw15048877030067802282:=0
def PySem.W.Fast.tw2207793610319100442:=0
def PySem.W.Fast.tw11815165859818018208:=0
def PySem.W.Fast.tw16793966355270773379:=0
def PySem.W.Fast.tw10536053279218516467:=0
def PySem.W.Fast.tw12890988397904725679:=0
def PySem.W.Fast.tw8218076532557022600:=0
def PySem.W.Fast.tw11547175040422944215:=0
def PySem.W.Fast.tw17051104380406570935:=0
def PySem.W.Fast.tw5577780812050457996:=0
def PySem.W.Fast.tw15327990131315414602:=0
def PySem.W.Fast.tw10160672993166850501:=0
def PySem.W.Fast.tw1922729194927358345:=0
def PySem.W.Fast.tw14896392075295685486:=0
def PySem.W.Fast.tw9934257740354183475:=0
def PySem.W.Fast.tw17429928056658115807:=0
def PySem.W.Fast.tw9750259656164088218:=0
def PySem.W.Fast.tw8075158753863005889:=0
def PySem.W.Fast.tw3290256391024595726:=0
def PySem.W.Fast.tw12177563053247257709:=0
def PySem.W.Fast.tw4122109959225120555:=0
def PySem.W.Fast.tw17738294220866412766:=0
def PySem.W.Fast.tw12420643340325783533:=0
def PySem.W.Fast.tw17356511536425053926:=0
def PySem.W.Fast.tw1990498751602345889:=0
def PySem.W.Fast.tw14458706695608701343:=0
def PySem.W.Fast.tw5043905337014461784:=0
def PySem.W.Fast.tw10557124443019363137:=0
def PySem.W.Fast.tw4869922824727333118:=0
def PySem.W.Fast.tw2553729653902652480:=0
def PySem.W.Fast.tw6906615383683308228:=0
def PySem.W.Fast.tw7817561421667659793:=0
def PySem.W.Fast.tw5543507352444470193:=0
def PySem.W.Fast.tw13004751623240912170:=0
def PySem.W.Fast.tw6107289697821576099:=0
def PySem.W.Fast.tw16998731108003112124:=0
def PySem.W.Fast.tw14531574643662451597:=0
def PySem.W.Fast.tw6355947893112908977:=0
def PySem.W.Fast.tw168323085247676658:=0
def PySem.W.Fast.tw11181945885849340837:=0
def PySem.W.Fast.tw10941025489146018082:=0
def PySem.W.Fast.tw17498813567666726316:=0
def PySem.W.Fast.tw9611927469633177524:=0
def PySem.W.Fast.tw17871141658810028004:=0
def PySem.W.Fast.tw10541880432175823126:=0
def PySem.W.Fast.tw13898981935936514947:=0
def PySem.W.Fast.tw1735165033328045770:=0
def PySem.W.Fast.tw4813095214408989111:=0
def PySem.W.Fast.tw17679711192813773650:=0
def PySem.W.Fast.tw15509039127415403683:=0
def PySem.W.Fast.tw10646336533820615154:=0
def PySem.W.Fast.tw9512086699884986291:=0
def PySem.W.Fast.tw10060088351460594526:=0
def PySem.W.Fast.tw6154224566579039200:=0
def PySem.W.Fast.tw12947938077495323829:=0
def PySem.W.Fast.tw17806893762308187183:=0
def PySem.W.Fast.tw998744251610171902:=0
def PySem.W.Fast.tw13214880262250500206:=0
def PySem.W.Fast.tw9431201218029119410:=0
def PySem.W.Fast.tw8653692183657849467:=0
def PySem.W.Fast.tw15644618476773753827:=0
def PySem.W.Fast.tw838917768978580883:=0
def PySem.W.Fast.tw1140162033160357843:=0
def PySem.W.Fast.tw17062862406978147265:=0
def PySem.W.Fast.tw7934594075433661213:=0
def PySem.W.Fast.tw13256941519123469163:=0
def PySem.W.Fast.tw1477658584386646086:=0
def PySem.W.Fast.tw4990891005613040923:=0
def PySem.W.Fast.tw1254482432716818709:=0
def PySem.W.Fast.tw15198142398997194119:=0
def PySem.W.Fast.tw16315410811705962050:=0
def PySem.W.Fast.tw13553244136297779912:=0
def PySem.W.Fast.tw10983577488142017926:=0
def PySem.W.Fast.tw8682131463785026733:=0
def PySem.W.Fast.tw2290036355136773008:=0
def PySem.W.Fast.tw13612708371540845171:=0
def PySem.W.Fast.tw8717875385857804541:=0
def PySem.W.Fast.tw7356683176105763932:=0
def PySem.W.Fast.tw9885785740814079050:=0
def PySem.W.Fast.tw1741368712175793130:=0
def PySem.W.Fast.tw10463129596364191984:=0
def PySem.W.Fast.tw17100720291585040234:=0
def PySem.W.Fast.tw1739493513472028092:=0
def PySem.W.Fast.tw13852788849627744377:=0
def PySem.W.Fast.tw17036314980253102980:=0
set_option maxRecDepth 100000 in
set_option maxHeartbeats 0 in
theorem PySem.Challenge.cw_shardask_k06_heads_refused_holds : PySem.Challenge.rw_shardask_k06_heads_refused.Holds := by
  w_on; o_law; k_head; (case hw => w_witness2)
  k_fill
  refine L2.walk_ofK (l := PySem.Challenge.rw_shardask_k06_heads_refused) (n := 63) (k := 30) (x := "_law_script") (CX := L2.CX0) (sp := My.sp_law) rfl (by decide) rfl ⟨rfl, by decide, by decide⟩ (fun w h Y => PySem.W.kIn_of Y) ?F (fun K H a ns hl hO hS => My.sp_law_of hl hS) (fun _ _ _ _ z => z)
  case F =>
    intro w mg fa h KX G hmg
    have T : My.Txt w (L2.KOf KX) mg := by
      dsimp only [L2.KOf]
      refine' My.txt_mk KX G ?a0 ?a1 ?a2 ?a3 ?a4 ?a5 ?a6 ?a7 ?a8 ?a9 ?a10 ?a11 ?a12 ?a13 ?a14 ?a15 ?a16 ?a17 ?a18 ?a19 ?a20 ?a21 ?a22 ?a23 ?a24 ?a25 ?a26 ?a27 ?a28 ?a29 ?a30 ?a31 ?a32 ?a33 ?a34 ?a35 ?a36 ?a37 ?a38 ?a39 ?a40 ?a41 ?a42 ?a43 ?a44 ?a45 ?a46 ?a47 ?a48 ?a49 ?a50 ?a51 ?q0 ?r0 ?t0 ?y0 ?u0 ?v0 ?q1 ?q2 ?q3 ?q4 ?r4 ?t4 ?y4 ?u4 ?v4 ?q5 ?r5 ?t5 ?y5 ?u5 ?v5 ?q6 ?r6 ?t6 ?y6 ?u6 ?v6 ?q7 ?q8 ?q9 ?q10 ?q11 ?q12 ?q13 ?q14 ?r14 ?x14 ?o14 ?u14 ?h14 ?r14_0 ?t14_0 ?y14_0 ?u14_0 ?v14_0 ?r14_1 ?t14_1 ?y14_1 ?u14_1 ?v14_1 ?r14_2 ?t14_2 ?y14_2 ?u14_2 ?v14_2 ?r14_3 ?t14_3 ?y14_3 ?u14_3 ?v14_3 ?r14_4 ?t14_4 ?y14_4 ?u14_4 ?v14_4 ?r14_5 ?t14_5 ?y14_5 ?u14_5 ?v14_5 ?r14_6 ?t14_6 ?y14_6 ?u14_6 ?v14_6 ?z0 ?z1 ?z2 ?z3 ?z4 ?z5 ?z6 ?z7 ?z8 ?z9 ?z10 ?z11 ?z12 ?z13 ?xs ?xc0 ?xc1 ?xc2 ?xc3 ?xc4 ?xc5 ?xb ?xm
      (case a0 => (refine' My.FA.mk ?j0 ?l0 ?c0 ?k0); (case j0 => k_is); (case l0 => k_is); (case c0 => k_is); (case k0 => k_is))
      (case a1 => (refine' My.FA.mk ?j1 ?l1 ?c1 ?k1); (case j1 => k_is); (case l1 => k_is); (case c1 => k_is); (case k1 => k_is))
      (case a2 => (refine' My.FA.mk ?j2 ?l2 ?c2 ?k2); (case j2 => k_is); (case l2 => k_is); (case c2 => k_is); (case k2 => k_is))
      (case a3 => (refine' My.FA.mk ?j3 ?l3 ?c3 ?k3); (case j3 => k_is); (case l3 => k_is); (case c3 => k_is); (case k3 => k_is))
      (case a4 => (refine' My.FA.mk ?j4 ?l4 ?c4 ?k4); (case j4 => k_is); (case l4 => k_is); (case c4 => k_is); (case k4 => k_is))
      (case a5 => (refine' My.FA.mk ?j5 ?l5 ?c5 ?k5); (case j5 => k_is); (case l5 => k_is); (case c5 => k_is); (case k5 => k_is))
      (case a6 => (refine' My.FA.mk ?j6 ?l6 ?c6 ?k6); (case j6 => k_is); (case l6 => k_is); (case c6 => k_is); (case k6 => k_is))
      (case a7 => (refine' My.FA.mk ?j7 ?l7 ?c7 ?k7); (case j7 => k_is); (case l7 => k_is); (case c7 => k_is); (case k7 => k_is))
      (case a8 => (refine' My.FA.mk ?j8 ?l8 ?c8 ?k8); (case j8 => k_is); (case l8 => k_is); (case c8 => k_is); (case k8 => k_is))
      (case a9 => (refine' My.FA.mk ?j9 ?l9 ?c9 ?k9); (case j9 => k_is); (case l9 => k_is); (case c9 => k_is); (case k9 => k_is))
      (case a10 => (refine' My.FA.mk ?j10 ?l10 ?c10 ?k10); (case j10 => k_is); (case l10 => k_is); (case c10 => k_is); (case k10 => k_is))
      (case a11 => (refine' My.FA.mk ?j11 ?l11 ?c11 ?k11); (case j11 => k_is); (case l11 => k_is); (case c11 => k_is); (case k11 => k_is))
      (case a12 => (refine' My.FA.mk ?j12 ?l12 ?c12 ?k12); (case j12 => k_is); (case l12 => k_is); (case c12 => k_is); (case k12 => k_is))
      (case a13 => (refine' My.FA.mk ?j13 ?l13 ?c13 ?k13); (case j13 => k_is); (case l13 => k_is); (case c13 => k_is); (case k13 => k_is))
      (case a14 => (refine' My.FA.mk ?j14 ?l14 ?c14 ?k14); (case j14 => k_is); (case l14 => k_is); (case c14 => k_is); (case k14 => k_is))
      (case a15 => (refine' My.FA.mk ?j15 ?l15 ?c15 ?k15); (case j15 => k_is); (case l15 => k_is); (case c15 => k_is); (case k15 => k_is))
      (case a16 => (refine' My.FA.mk ?j16 ?l16 ?c16 ?k16); (case j16 => k_is); (case l16 => k_is); (case c16 => k_is); (case k16 => k_is))
      (case a17 => (refine' My.FA.mk ?j17 ?l17 ?c17 ?k17); (case j17 => k_is); (case l17 => k_is); (case c17 => k_is); (case k17 => k_is))
      (case a18 => (refine' My.FA.mk ?j18 ?l18 ?c18 ?k18); (case j18 => k_is); (case l18 => k_is); (case c18 => k_is); (case k18 => k_is))
      (case a19 => (refine' My.FA.mk ?j19 ?l19 ?c19 ?k19); (case j19 => k_is); (case l19 => k_is); (case c19 => k_is); (case k19 => k_is))
      (case a20 => (refine' My.FA.mk ?j20 ?l20 ?c20 ?k20); (case j20 => k_is); (case l20 => k_is); (case c20 => k_is); (case k20 => k_is))
      (case a21 => (refine' My.FA.mk ?j21 ?l21 ?c21 ?k21); (case j21 => k_is); (case l21 => k_is); (case c21 => k_is); (case k21 => k_is))
      (case a22 => (refine' My.FA.mk ?j22 ?l22 ?c22 ?k22); (case j22 => k_is); (case l22 => k_is); (case c22 => k_is); (case k22 => k_is))
      (case a23 => (refine' My.FA.mk ?j23 ?l23 ?c23 ?k23); (case j23 => k_is); (case l23 => k_is); (case c23 => k_is); (case k23 => k_is))
      (case a24 => (refine' My.FA.mk ?j24 ?l24 ?c24 ?k24); (case j24 => k_is); (case l24 => k_is); (case c24 => k_is); (case k24 => k_is))
      (case a25 => (refine' My.FA.mk ?j25 ?l25 ?c25 ?k25); (case j25 => k_is); (case l25 => k_is); (case c25 => k_is); (case k25 => k_is))
      (case a26 => (refine' My.FA.mk ?j26 ?l26 ?c26 ?k26); (case j26 => k_is); (case l26 => k_is); (case c26 => k_is); (case k26 => k_is))
      (case a27 => (refine' My.FA.mk ?j27 ?l27 ?c27 ?k27); (case j27 => k_is); (case l27 => k_is); (case c27 => k_is); (case k27 => k_is))
      (case a28 => (refine' My.FA.mk ?j28 ?l28 ?c28 ?k28); (case j28 => k_is); (case l28 => k_is); (case c28 => k_is); (case k28 => k_is))
      (case a29 => (refine' My.FA.mk ?j29 ?l29 ?c29 ?k29); (case j29 => k_is); (case l29 => k_is); (case c29 => k_is); (case k29 => k_is))
      (case a30 => (refine' My.FA.mk ?j30 ?l30 ?c30 ?k30); (case j30 => k_is); (case l30 => k_is); (case c30 => k_is); (case k30 => k_is))
      (case a31 => (refine' My.FA.mk ?j31 ?l31 ?c31 ?k31); (case j31 => k_is); (case l31 => k_is); (case c31 => k_is); (case k31 => k_is))
      (case a32 => (refine' My.FA.mk ?j32 ?l32 ?c32 ?k32); (case j32 => k_is); (case l32 => k_is); (case c32 => k_is); (case k32 => k_is))
      (case a33 => (refine' My.FA.mk ?j33 ?l33 ?c33 ?k33); (case j33 => k_is); (case l33 => k_is); (case c33 => k_is); (case k33 => k_is))
      (case a34 => (refine' My.FA.mk ?j34 ?l34 ?c34 ?k34); (case j34 => k_is); (case l34 => k_is); (case c34 => k_is); (case k34 => k_is))
      (case a35 => (refine' My.FA.mk ?j35 ?l35 ?c35 ?k35); (case j35 => k_is); (case l35 => k_is); (case c35 => k_is); (case k35 => k_is))
      (case a36 => (refine' My.FA.mk ?j36 ?l36 ?c36 ?k36); (case j36 => k_is); (case l36 => k_is); (case c36 => k_is); (case k36 => k_is))
      (case a37 => (refine' My.FA.mk ?j37 ?l37 ?c37 ?k37); (case j37 => k_is); (case l37 => k_is); (case c37 => k_is); (case k37 => k_is))
      (case a38 => (refine' My.FA.mk ?j38 ?l38 ?c38 ?k38); (case j38 => k_is); (case l38 => k_is); (case c38 => k_is); (case k38 => k_is))
      (case a39 => (refine' My.FA.mk ?j39 ?l39 ?c39 ?k39); (case j39 => k_is); (case l39 => k_is); (case c39 => k_is); (case k39 => k_is))
      (case a40 => (refine' My.FA.mk ?j40 ?l40 ?c40 ?k40); (case j40 => k_is); (case l40 => k_is); (case c40 => k_is); (case k40 => k_is))
      (case a41 => (refine' My.FA.mk ?j41 ?l41 ?c41 ?k41); (case j41 => k_is); (case l41 => k_is); (case c41 => k_is); (case k41 => k_is))
      (case a42 => (refine' My.FA.mk ?j42 ?l42 ?c42 ?k42); (case j42 => k_is); (case l42 => k_is); (case c42 => k_is); (case k42 => k_is))
      (case a43 => (refine' My.FA.mk ?j43 ?l43 ?c43 ?k43); (case j43 => k_is); (case l43 => k_is); (case c43 => k_is); (case k43 => k_is))
      (case a44 => (refine' My.FA.mk ?j44 ?l44 ?c44 ?k44); (case j44 => k_is); (case l44 => k_is); (case c44 => k_is); (case k44 => k_is))
      (case a45 => (refine' My.FA.mk ?j45 ?l45 ?c45 ?k45); (case j45 => k_is); (case l45 => k_is); (case c45 => k_is); (case k45 => k_is))
      (case a46 => (refine' My.FA.mk ?j46 ?l46 ?c46 ?k46); (case j46 => k_is); (case l46 => k_is); (case c46 => k_is); (case k46 => k_is))
      (case a47 => (refine' My.FA.mk ?j47 ?l47 ?c47 ?k47); (case j47 => k_is); (case l47 => k_is); (case c47 => k_is); (case k47 => k_is))
      (case a48 => (refine' My.FA.mk ?j48 ?l48 ?c48 ?k48); (case j48 => k_is); (case l48 => k_is); (case c48 => k_is); (case k48 => k_is))
      (case a49 => (refine' My.FA.mk ?j49 ?l49 ?c49 ?k49); (case j49 => k_is); (case l49 => k_is); (case c49 => k_is); (case k49 => k_is))
      (case a50 => (refine' My.FA.mk ?j50 ?l50 ?c50 ?k50); (case j50 => k_is); (case l50 => k_is); (case c50 => k_is); (case k50 => k_is))
      (case a51 => (refine' My.FA.mk ?j51 ?l51 ?c51 ?k51); (case j51 => k_is); (case l51 => k_is); (case c51 => k_is); (case k51 => k_is))
      (case q0 => k_is)
      (case r0 => k_is)
      (case t0 => rfl)
      (case y0 => rfl)
      (case u0 => rfl)
      (case v0 => repeat (first | exact L2.Paired_nil | refine L2.Paired_cons rfl ?_ | refine L2.Paired_cons ⟨_, rfl⟩ ?_))
      (case q1 => k_is)
      (case q2 => k_is)
      (case q3 => k_is)
      (case q4 => k_is)
      (case r4 => k_is)
      (case t4 => rfl)
      (case y4 => rfl)
      (case u4 => rfl)
      (case v4 => repeat (first | exact L2.Paired_nil | refine L2.Paired_cons rfl ?_ | refine L2.Paired_cons ⟨_, rfl⟩ ?_))
      (case q5 => k_is)
      (case r5 => k_is)
      (case t5 => rfl)
      (case y5 => rfl)
      (case u5 => rfl)
      (case v5 => repeat (first | exact L2.Paired_nil | refine L2.Paired_cons rfl ?_ | refine L2.Paired_cons ⟨_, rfl⟩ ?_))
      (case q6 => k_is)
      (case r6 => k_is)
      (case t6 => rfl)
      (case y6 => rfl)
      (case u6 => rfl)
      (case v6 => repeat (first | exact L2.Paired_nil | refine L2.Paired_cons rfl ?_ | refine L2.Paired_cons ⟨_, rfl⟩ ?_))
      (case q7 => k_is)
      (case q8 => k_is)
      (case q9 => k_is)
      (case q10 => k_is)
      (case q11 => k_is)
      (case q12 => k_is)
      (case q13 => k_is)
      (case q14 => k_is)
      (case r14 => k_is)
      (case x14 => exact ⟨rfl, rfl, rfl⟩)
      (case o14 => first | rfl | decide +kernel)
      (case u14 => rfl)
      (case h14 => intro P; repeat (first | exact L2.PH.nil | refine L2.PH.cons rfl rfl rfl ?_))
      (case r14_0 => k_is)
      (case t14_0 => rfl)
      (case y14_0 => rfl)
      (case u14_0 => rfl)
      (case v14_0 => repeat (first | exact L2.Paired_nil | refine L2.Paired_cons rfl ?_ | refine L2.Paired_cons ⟨_, rfl⟩ ?_))
      (case r14_1 => k_is)
      (case t14_1 => rfl)
      (case y14_1 => rfl)
      (case u14_1 => rfl)
      (case v14_1 => repeat (first | exact L2.Paired_nil | refine L2.Paired_cons rfl ?_ | refine L2.Paired_cons ⟨_, rfl⟩ ?_))
      (case r14_2 => k_is)
      (case t14_2 => rfl)
      (case y14_2 => rfl)
      (case u14_2 => rfl)
      (case v14_2 => repeat (first | exact L2.Paired_nil | refine L2.Paired_cons rfl ?_ | refine L2.Paired_cons ⟨_, rfl⟩ ?_))
      (case r14_3 => k_is)
      (case t14_3 => rfl)
      (case y14_3 => rfl)
      (case u14_3 => rfl)
      (case v14_3 => repeat (first | exact L2.Paired_nil | refine L2.Paired_cons rfl ?_ | refine L2.Paired_cons ⟨_, rfl⟩ ?_))
      (case r14_4 => k_is)
      (case t14_4 => rfl)
      (case y14_4 => rfl)
      (case u14_4 => rfl)
      (case v14_4 => repeat (first | exact L2.Paired_nil | refine L2.Paired_cons rfl ?_ | refine L2.Paired_cons ⟨_, rfl⟩ ?_))
      (case r14_5 => k_is)
      (case t14_5 => rfl)
      (case y14_5 => rfl)
      (case u14_5 => rfl)
      (case v14_5 => repeat (first | exact L2.Paired_nil | refine L2.Paired_cons rfl ?_ | refine L2.Paired_cons ⟨_, rfl⟩ ?_))
      (case r14_6 => k_is)
      (case t14_6 => rfl)
      (case y14_6 => rfl)
      (case u14_6 => rfl)
      (case v14_6 => repeat (first | exact L2.Paired_nil | refine L2.Paired_cons rfl ?_ | refine L2.Paired_cons ⟨_, rfl⟩ ?_))
      (case z0 => k_is)
      (case z1 => k_is)
      (case z2 => k_is)
      (case z3 => k_is)
      (case z4 => k_is)
      (case z5 => k_is)
      (case z6 => k_is)
      (case z7 => k_is)
      (case z8 => k_is)
      (case z9 => k_is)
      (case z10 => k_is)
      (case z11 => k_is)
      (case z12 => k_is)
      (case z13 => k_is)
      (case xs => k_is)
      (case xc0 => (refine' My.X1.mk ?y0 ?y1 ?r0 ?r1 ?r2 ?r3 ?y2 ?r4 ?y3 ?y4 ?y5 ?y6 ?y7 ?y8 ?y9 ?y10 ?y11 ?y12 ?y13 ?y14); (case y0 => k_is); (case y1 => k_is); (case r0 => first | rfl | decide +kernel); (case r1 => first | rfl | decide +kernel); (case r2 => first | rfl | decide +kernel); (case r3 => first | rfl | decide +kernel); (case y2 => k_is); (case r4 => first | rfl | decide +kernel); (case y3 => k_is); (case y4 => k_is); (case y5 => k_is); (case y6 => k_is); (case y7 => k_is); (case y8 => k_is); (case y9 => k_is); (case y10 => k_is); (case y11 => k_is); (case y12 => k_is); (case y13 => k_is); (case y14 => k_is))
      (case xc1 => (refine' My.X1.mk ?y0 ?y1 ?r0 ?r1 ?r2 ?r3 ?y2 ?r4 ?y3 ?y4 ?y5 ?y6 ?y7 ?y8 ?y9 ?y10 ?y11 ?y12 ?y13 ?y14); (case y0 => k_is); (case y1 => k_is); (case r0 => first | rfl | decide +kernel); (case r1 => first | rfl | decide +kernel); (case r2 => first | rfl | decide +kernel); (case r3 => first | rfl | decide +kernel); (case y2 => k_is); (case r4 => first | rfl | decide +kernel); (case y3 => k_is); (case y4 => k_is); (case y5 => k_is); (case y6 => k_is); (case y7 => k_is); (case y8 => k_is); (case y9 => k_is); (case y10 => k_is); (case y11 => k_is); (case y12 => k_is); (case y13 => k_is); (case y14 => k_is))
      (case xc2 => (refine' My.X1.mk ?y0 ?y1 ?r0 ?r1 ?r2 ?r3 ?y2 ?r4 ?y3 ?y4 ?y5 ?y6 ?y7 ?y8 ?y9 ?y10 ?y11 ?y12 ?y13 ?y14); (case y0 => k_is); (case y1 => k_is); (case r0 => first | rfl | decide +kernel); (case r1 => first | rfl | decide +kernel); (case r2 => first | rfl | decide +kernel); (case r3 => first | rfl | decide +kernel); (case y2 => k_is); (case r4 => first | rfl | decide +kernel); (case y3 => k_is); (case y4 => k_is); (case y5 => k_is); (case y6 => k_is); (case y7 => k_is); (case y8 => k_is); (case y9 => k_is); (case y10 => k_is); (case y11 => k_is); (case y12 => k_is); (case y13 => k_is); (case y14 => k_is))
      (case xc3 => (refine' My.X1.mk ?y0 ?y1 ?r0 ?r1 ?r2 ?r3 ?y2 ?r4 ?y3 ?y4 ?y5 ?y6 ?y7 ?y8 ?y9 ?y10 ?y11 ?y12 ?y13 ?y14); (case y0 => k_is); (case y1 => k_is); (case r0 => first | rfl | decide +kernel); (case r1 => first | rfl | decide +kernel); (case r2 => first | rfl | decide +kernel); (case r3 => first | rfl | decide +kernel); (case y2 => k_is); (case r4 => first | rfl | decide +kernel); (case y3 => k_is); (case y4 => k_is); (case y5 => k_is); (case y6 => k_is); (case y7 => k_is); (case y8 => k_is); (case y9 => k_is); (case y10 => k_is); (case y11 => k_is); (case y12 => k_is); (case y13 => k_is); (case y14 => k_is))
      (case xc4 => (refine' My.X1.mk ?y0 ?y1 ?r0 ?r1 ?r2 ?r3 ?y2 ?r4 ?y3 ?y4 ?y5 ?y6 ?y7 ?y8 ?y9 ?y10 ?y11 ?y12 ?y13 ?y14); (case y0 => k_is); (case y1 => k_is); (case r0 => first | rfl | decide +kernel); (case r1 => first | rfl | decide +kernel); (case r2 => first | rfl | decide +kernel); (case r3 => first | rfl | decide +kernel); (case y2 => k_is); (case r4 => first | rfl | decide +kernel); (case y3 => k_is); (case y4 => k_is); (case y5 => k_is); (case y6 => k_is); (case y7 => k_is); (case y8 => k_is); (case y9 => k_is); (case y10 => k_is); (case y11 => k_is); (case y12 => k_is); (case y13 => k_is); (case y14 => k_is))
      (case xc5 => (refine' My.X1.mk ?y0 ?y1 ?r0 ?r1 ?r2 ?r3 ?y2 ?r4 ?y3 ?y4 ?y5 ?y6 ?y7 ?y8 ?y9 ?y10 ?y11 ?y12 ?y13 ?y14); (case y0 => k_is); (case y1 => k_is); (case r0 => first | rfl | decide +kernel); (case r1 => first | rfl | decide +kernel); (case r2 => first | rfl | decide +kernel); (case r3 => first | rfl | decide +kernel); (case y2 => k_is); (case r4 => first | rfl | decide +kernel); (case y3 => k_is); (case y4 => k_is); (case y5 => k_is); (case y6 => k_is); (case y7 => k_is); (case y8 => k_is); (case y9 => k_is); (case y10 => k_is); (case y11 => k_is); (case y12 => k_is); (case y13 => k_is); (case y14 => k_is))
      (case xb => (refine' My.X0.mk ?y0 ?y1 ?y2 ?y3 ?y4 ?y5); (case y0 => k_is); (case y1 => k_is); (case y2 => k_is); (case y3 => k_is); (case y4 => k_is); (case y5 => k_is))
      (case xm => (refine' My.XM.mk ?m0_0 ?m0_1 ?m0_2 ?m0_3 ?m0_4 ?m0_5 ?m1_0 ?m1_1 ?m1_2 ?m1_3 ?m1_4 ?m1_5 ?m2_0 ?m2_1 ?m2_2 ?m2_3 ?m2_4 ?m2_5 ?m3_0 ?m3_1 ?m3_2 ?m3_3 ?m3_4 ?m3_5 ?m4_0 ?m4_1 ?m4_2 ?m4_3 ?m4_4 ?m4_5 ?m5_0 ?m5_1 ?m5_2 ?m5_3 ?m5_4 ?m5_5); (case m0_0 => k_is); (case m0_1 => k_is); (case m0_2 => k_is); (case m0_3 => k_is); (case m0_4 => k_is); (case m0_5 => k_is); (case m1_0 => k_is); (case m1_1 => k_is); (case m1_2 => k_is); (case m1_3 => k_is); (case m1_4 => k_is); (case m1_5 => k_is); (case m2_0 => k_is); (case m2_1 => k_is); (case m2_2 => k_is); (case m2_3 => k_is); (case m2_4 => k_is); (case m2_5 => k_is); (case m3_0 => k_is); (case m3_1 => k_is); (case m3_2 => k_is); (case m3_3 => k_is); (case m3_4 => k_is); (case m3_5 => k_is); (case m4_0 => k_is); (case m4_1 => k_is); (case m4_2 => k_is); (case m4_3 => k_is); (case m4_4 => k_is); (case m4_5 => k_is); (case m5_0 => k_is); (case m5_1 => k_is); (case m5_2 => k_is); (case m5_3 => k_is); (case m5_4 => k_is); (case m5_5 => k_is))
    exact My.law_fn (P := PySem.Challenge.rw_shardask_k06_heads_refused.prog) T hmg
