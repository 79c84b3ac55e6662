import PyProof.Rows.All
import Wide.All
import OpenK.AllK
import Wide.FinOn
import Lean
import PyProof.EqAt
import PyProof.EqKinds
import PyProof.TupleCall
import PyProof.ExcClass3
import PyProof.ExcBaseAll.ValueError
import PyProof.InstStoreFacts
import PyProof.ExcArgsOwn
import PyProof.ExcAttrAll.ValueError
import PyProof.CallType
import PyProof.WalkLemmas
import PyProof.StrOps
import PyProof.ForAny
import PyProof.IsInstanceH
import PyProof.IsiFacts
import PyProof.IsiFacts2
import PyProof.FactsAll.object
import PyProof.ListMulRoad
import PyProof.FactsAll.tuple_2
import PyProof.StrLawsIdx
import KE.KDictList
import PyProof.Rows.Range3
import PyProof.EnumMake
import PyProof.EnumFor
import PyProof.CompUse
import PyProof.ListStr
import PyProof.NeKinds
import KE.KIntText
import KE.IntTextText
import KE.KDictOf
import KE.KEqDict
import KE.KDictSum
import PyProof.AttrMissHeap
import PySem.Challenge.RW_shardask_k70_values_written
set_option Elab.async false
set_option linter.all false
set_option maxRecDepth 100000
namespace L2
open PySem PySem.Spec PyProof.Rows
abbrev Key := Sum Int Str
def keyIs : Key → Value → Bool
  | .inl k, v => Value.isInt k v
  | .inr x, v => Value.isStrOf x v
def keyH (w : World) : Key → Int
  | .inl k => hashInt k
  | .inr x => hashStr w x
theorem keyIs_shape : ∀ {k : Key} {v : Value}, keyIs k v = true → (∃ i t, k = Sum.inl i ∧ v = Value.int i t) ∨ (∃ x t, k = Sum.inr x ∧ v = Value.str x t)
  | .inl i, v, h => by
    obtain ⟨t, e⟩ := Value.isInt_shape (k := i) (v := v) h
    exact .inl ⟨i, t, rfl, e⟩
  | .inr x, v, h => by
    obtain ⟨t, e⟩ := Value.isStrOf_shape (x := x) (v := v) h
    exact .inr ⟨x, t, rfl, e⟩
theorem key_ll (a b : Int) : decide ((Sum.inl a : Key) = Sum.inl b) = (a == b) := by
  by_cases e : a = b
  · subst e; simp
  · have h : ¬ (Sum.inl a : Key) = Sum.inl b := fun q => e (Sum.inl.inj q)
    rw [decide_eq_false h]
    exact (beq_eq_false_iff_ne.mpr e).symm
theorem key_rr (a b : Str) : decide ((Sum.inr a : Key) = Sum.inr b) = decide (a = b) := by
  by_cases e : a = b
  · subst e; simp
  · have h : ¬ (Sum.inr a : Key) = Sum.inr b := fun q => e (Sum.inr.inj q)
    rw [decide_eq_false h, decide_eq_false e]
theorem key_lr (a : Int) (b : Str) : decide ((Sum.inl a : Key) = Sum.inr b) = false := decide_eq_false (fun q => nomatch q)
theorem key_rl (a : Str) (b : Int) : decide ((Sum.inr a : Key) = Sum.inl b) = false := decide_eq_false (fun q => nomatch q)
def mixKind (prog : Program) (w : World) : PySem.KeyKind prog w Key where
  is := keyIs
  hash := keyH w
  inj := fun v a b ha hb => by
    rcases keyIs_shape ha with ⟨i, t, rfl, rfl⟩ | ⟨x, t, rfl, rfl⟩
    · rcases keyIs_shape hb with ⟨j, u, rfl, e⟩ | ⟨y, u, rfl, e⟩
      · injection e with e1 _; rw [e1]
      · exact nomatch e
    · rcases keyIs_shape hb with ⟨j, u, rfl, e⟩ | ⟨y, u, rfl, e⟩
      · exact nomatch e
      · injection e with e1 _; rw [e1]
  byValue := fun k v h => by
    rcases keyIs_shape h with ⟨i, t, rfl, rfl⟩ | ⟨x, t, rfl, rfl⟩ <;> rfl
  pyHash := fun hv h => by
    rcases keyIs_shape hv with ⟨i, t, rfl, rfl⟩ | ⟨x, t, rfl, rfl⟩
    · exact wpAny_pyHash_int h
    · exact wpAny_pyHash_str h
  eqBool := fun hu hv h => by
    rcases keyIs_shape hu with ⟨i, t, rfl, rfl⟩ | ⟨x, t, rfl, rfl⟩
    · rcases keyIs_shape hv with ⟨j, u, rfl, rfl⟩ | ⟨y, u, rfl, rfl⟩
      · rw [key_ll] at h; exact wpAny_eqBool_int h
      · rw [key_lr] at h; exact SeqAt.EqAt.int_str i t y u _ _ _ _ h
    · rcases keyIs_shape hv with ⟨j, u, rfl, rfl⟩ | ⟨y, u, rfl, rfl⟩
      · rw [key_rl] at h; exact SeqAt.EqAt.str_int x t j u _ _ _ _ h
      · rw [key_rr] at h; exact wpAny_eqBool_str h
  «strs» := fun k x t v h => by
    rcases keyIs_shape h with ⟨i, u, rfl, e⟩ | ⟨y, u, rfl, e⟩
    · exact nomatch e
    · injection e with e1 _
      subst e1
      cases v <;> rfl
end L2
namespace L2
open PySem PySem.Spec PyProof.Rows
inductive V where
  | non | bl (b : Bool) | int (i : Int) | str (x : Str) | byt (b : Array UInt8) | flt (b : UInt64) | ref (a : Addr) | ty (n : String)
  deriving DecidableEq
def RelV : V → Value → Prop
  | .non, u => u = Value.none
  | .bl b, u => u = Value.bool b
  | .int i, u => ∃ t, u = Value.int i t
  | .str x, u => ∃ t, u = Value.str x t
  | .byt b, u => ∃ t, u = Value.bytes b t
  | .flt b, u => ∃ t, u = Value.float b t
  | .ref a, u => u = Value.ref a
  | .ty n, u => u = Value.type n
abbrev Vals : List V → List Value → Prop := Paired RelV
theorem Vals.length {xs : List V} {us : List Value} (r : Vals xs us) : xs.length = us.length := Paired.length r
theorem Vals.get : ∀ {xs : List V} {us : List Value} {i : Nat} {x : V}, Vals xs us → xs[i]? = some x → ∃ u, us[i]? = some u ∧ RelV x u
  | _, _, _, _, .nil, e => by simp at e
  | _, _, 0, _, .cons r _, e => by simp at e; subst e; exact ⟨_, rfl, r⟩
  | _, _, i + 1, x, .cons _ t, e => by
    obtain ⟨u, h1, h2⟩ := Vals.get (i := i) (x := x) t (by simpa using e)
    exact ⟨u, by simpa using h1, h2⟩
theorem Vals.set {x : V} {u : Value} (r : RelV x u) : ∀ {xs : List V} {us : List Value} (i : Nat), Vals xs us → Vals (xs.set i x) (us.set i u)
  | _, _, _, .nil => .nil
  | _, _, 0, .cons _ t => .cons r t
  | _, _, i + 1, .cons q t => .cons q (Vals.set r i t)
theorem Vals.append : ∀ {xs ys : List V} {us ws : List Value}, Vals xs us → Vals ys ws → Vals (xs ++ ys) (us ++ ws)
  | _, _, _, _, .nil, s => s
  | _, _, _, _, .cons r t, s => .cons r (Vals.append t s)
def RelO : Option V → Option Value → Prop
  | some v, some u => RelV v u
  | none, none => True
  | _, _ => False
def KV {κ : Type} : List (κ × V) → List (κ × Value) → Prop := Paired fun (p : κ × V) (q : κ × Value) => p.1 = q.1 ∧ RelV p.2 q.2
def kV : Key → V
  | .inl i => .int i
  | .inr x => .str x
inductive HO where
  /-- a list -/
  | lst (xs : List V)
  /-- a tuple (never changes) -/
  | tup (xs : List V)
  /-- a dict whose keys are ints and texts; one whose keys are tuples of ints and texts (the empty one is both) -/
  | dK (kvs : List (Key × V)) | dT (kvs : List (List Key × V))
  /-- a set of ints: its members, its size -/
  | set (S : Int → Bool) (n : Nat)
  /-- an instance of the class at C, its dict at dx, its attributes -/
  | ins (C dx : Addr) (fs : List (Str × V))
  /-- the dict of the instance at x -/
  | own (x : Addr)
  /-- the dict of an exception -/
  | xd (fs : List (Str × V))
  /-- a bound method, f of x -/
  | met (f x : Addr)
  /-- a range object lo, lo + 1, .. below hi -/
  | rng (lo hi : Int)
  /-- a thing that is known to the object (the script; a dict while a loop walks it): read, never written while it is so -/
  | frz (o : Obj) (u : HO)
  /-- a code object's table -/
  | tbl (ps : Array Value)
  /-- any other thing, by what is true of its one object (a def of one's own: SetO a S n := HO.ext fun h => ..) -/
  | ext (φ : Heap → Prop)
abbrev Hp := Addr → Option HO
def upd (H : Hp) (a : Addr) (o : HO) : Hp := fun b => if b = a then some o else H b
theorem upd_same {H : Hp} {a : Addr} {o : HO} : upd H a o a = some o := by unfold upd; rw [if_pos rfl]
theorem upd_ne {H : Hp} {a b : Addr} {o : HO} (h : b ≠ a) : upd H a o b = H b := by unfold upd; rw [if_neg h]
theorem upd_upd {H : Hp} {a : Addr} {o u : HO} : upd (upd H a o) a u = upd H a u := by
  funext b; unfold upd; split <;> rfl
theorem ne_of {H : Hp} {a b : Addr} {o u : HO} (h : H a = some o) (h' : H b = some u) (d : o ≠ u) : a ≠ b := by
  intro e; subst e; rw [h] at h'; exact d (Option.some.inj h')
theorem ne_of_none {H : Hp} {a b : Addr} {o : HO} (h : H a = some o) (h' : H b = none) : a ≠ b := by
  intro e; subst e; rw [h] at h'; cases h'
def IsTN (h : Heap) (a : Addr) (items : Array Value) : Prop := IsTup h a items ∧ ∀ o, h.get? a = some o → o.dict = none
theorem IsTN.of {h : Heap} {a : Addr} {items : Array Value} {o : Obj} (e : h.get? a = some o) (d : o.dict = none) (x : IsTup h a items) : IsTN h a items := ⟨x, fun o' e' => by rw [e] at e'; cases e'; exact d⟩
theorem IsTN.new (h : Heap) (items : Array Value) : IsTN (h.push { cls := .type "tuple", data := .seq items }) h.objs.size items := .of (Heap.get?_push_size _ rfl) rfl (IsTup.new _ _)
theorem IsTN.keep {h h' : Heap} {a : Addr} {items : Array Value} (x : IsTN h a items) (k : ∀ o, h.get? a = some o → h'.get? a = some o) : IsTN h' a items := by
  obtain ⟨⟨o, e, c⟩, d⟩ := x
  exact .of (k o e) (d o e) ⟨o, k o e, c⟩
section
variable (P : Program) (w : World)
def ObjOk (H : Hp) (h : Heap) (a : Addr) : HO → Prop
  | .lst xs => xs.length ≤ sizeLine ∧ ∃ (its : List Value) (n : Nat), Vals xs its ∧ h.get? a = some { cls := .type "list", data := .seq its.toArray n }
  | .tup xs => xs.length ≤ sizeLine ∧ ∃ its : List Value, Vals xs its ∧ IsTN h a its.toArray
  | .dK kvs => kvs.length ≤ sizeLine ∧ (a == sysModules) = false ∧ ∃ vs, KV kvs vs ∧ h.DictOf (mixKind P w) a vs
  | .dT kvs => kvs.length ≤ sizeLine ∧ (a == sysModules) = false ∧ ∃ xs : List (List Key × Addr × Value),
      Paired (fun (p : List Key × V) (q : List Key × Addr × Value) => p.1 = q.1 ∧ H q.2.1 = some (.tup (p.1.map kV)) ∧ RelV p.2 q.2.2) kvs xs ∧
      ∃ o es ep, h.get? a = some o ∧ o.ExactDict ∧ o.data = .dict es ep ∧ es.toList = xs.map (entryOfKey (tupleKind (mixKind P w))) ∧ (xs.map (·.1)).Nodup
  | .set S n => h.SetOf (intKind P w) a S n
  | .ins C dx fs => H dx = some (.own a) ∧ fs.length ≤ 1000 ∧ dx ≠ a ∧ h.get? a = some (PySem.W.instObj C dx) ∧
      ∃ mA, h.Ns1 dx mA ∧ (∀ f, RelO (fs.lookup f) (mA f)) ∧ PySem.Within mA (fs.map (·.1))
  | .own _ => ∃ o, h.get? a = some o
  | .xd fs => ∃ mA, h.Ns1 a mA ∧ ∀ f, RelO (fs.lookup f) (mA f)
  | .rng lo hi => ∃ t u v, h.get? a = some { cls := .type "range", data := .fields #[.int lo t, .int hi u, .int 1 v] }
  | .frz o u => h.get? a = some o ∧ ObjOk H h a u
  | .tbl ps => h.get? a = some { cls := .none, data := .fields ps }
  | .met f x => h.get? a = some (PySem.W.methodObj (.ref f) (.ref x))
  | .ext φ => φ h ∧ (∃ o, h.get? a = some o) ∧ ∀ h1 h2 : Heap, φ h1 → (∀ o, h1.get? a = some o → h2.get? a = some o) → φ h2
def HOk (H : Hp) (h : Heap) : Prop := ∀ a o, H a = some o → ObjOk P w H h a o
end
section
variable {P : Program} {w : World} {H H' : Hp} {h h' : Heap} {a : Addr} {o : HO}
theorem ObjOk.lt (x : ObjOk P w H h a o) : a < h.objs.size := by
  cases o with
  | lst xs => obtain ⟨_, _, _, _, e⟩ := x; exact Heap.lt_size e
  | tup xs => obtain ⟨_, _, _, p⟩ := x; exact p.1.lt
  | dK kvs => obtain ⟨_, _, _, _, o, _, _, e, _⟩ := x; exact Heap.lt_size e
  | dT kvs => obtain ⟨_, _, _, _, o, _, _, e, _⟩ := x; exact Heap.lt_size e
  | set S n => obtain ⟨o, _, _, _, e, _⟩ := x; exact Heap.lt_size e
  | ins C dx fs => obtain ⟨_, _, _, e, _⟩ := x; exact Heap.lt_size e
  | own y => obtain ⟨_, e⟩ := x; exact Heap.lt_size e
  | xd fs => obtain ⟨_, ⟨_, _, _, e, _⟩, _⟩ := x; exact Heap.lt_size e
  | rng lo hi => obtain ⟨_, _, _, e⟩ := x; exact Heap.lt_size e
  | frz ob u => obtain ⟨e, _⟩ := x; exact Heap.lt_size e
  | tbl ps => exact Heap.lt_size (show h.get? a = some _ from x)
  | met f y => exact Heap.lt_size (show h.get? a = some _ from x)
  | ext φ => obtain ⟨_, ⟨_, e⟩, _⟩ := x; exact Heap.lt_size e
theorem Paired.mapP {α β : Type} {F G : α → β → Prop} : ∀ {l₁ : List α} {l₂ : List β}, Paired F l₁ l₂ → (∀ a b, F a b → G a b) → Paired G l₁ l₂
  | _, _, .nil, _ => .nil
  | _, _, .cons r t, f => .cons (f _ _ r) (Paired.mapP t f)
theorem ObjOk.stay (x : ObjOk P w H h a o) (k : ∀ b u, (b = a ∨ H b = some (.own a)) → h.get? b = some u → h'.get? b = some u)
    (ho : ∀ b, H b = some (.own a) → H' b = some (.own a)) (ht : ∀ b xs, H b = some (.tup xs) → H' b = some (.tup xs)) : ObjOk P w H' h' a o := by
  induction o with
  | lst xs => obtain ⟨z, its, n, r, e⟩ := x; exact ⟨z, its, n, r, k _ _ (.inl rfl) e⟩
  | tup xs => obtain ⟨z, its, r, p⟩ := x; exact ⟨z, its, r, p.keep fun o e => k _ _ (.inl rfl) e⟩
  | dK kvs => obtain ⟨z, y, vs, r, ob, es, ep, e, c⟩ := x; exact ⟨z, y, vs, r, ob, es, ep, k _ _ (.inl rfl) e, c⟩
  | dT kvs =>
    obtain ⟨z, y, xs, r, ob, es, ep, e, c⟩ := x
    exact ⟨z, y, xs, Paired.mapP r fun p q z => ⟨z.1, ht _ _ z.2.1, z.2.2⟩, ob, es, ep, k _ _ (.inl rfl) e, c⟩
  | set S n => obtain ⟨ob, es, ep, t, e, c⟩ := x; exact ⟨ob, es, ep, t, k _ _ (.inl rfl) e, c⟩
  | ins C dx fs =>
    obtain ⟨d, z, ne, e, mA, ⟨od, es, ep, e2, c⟩, r⟩ := x
    exact ⟨ho _ d, z, ne, k _ _ (.inl rfl) e, mA, ⟨od, es, ep, k _ _ (.inr d) e2, c⟩, r⟩
  | own y => obtain ⟨ob, e⟩ := x; exact ⟨ob, k _ _ (.inl rfl) e⟩
  | xd fs => obtain ⟨mA, ⟨od, es, ep, e, c⟩, r⟩ := x; exact ⟨mA, ⟨od, es, ep, k _ _ (.inl rfl) e, c⟩, r⟩
  | rng lo hi => obtain ⟨t, u, v, e⟩ := x; exact ⟨t, u, v, k _ _ (.inl rfl) e⟩
  | frz ob u ih => obtain ⟨e, q⟩ := x; exact ⟨k _ _ (.inl rfl) e, ih q⟩
  | tbl ps =>
    have e : h.get? a = some { cls := .none, data := .fields ps } := x
    show h'.get? a = some { cls := .none, data := .fields ps }
    exact k a _ (.inl rfl) e
  | met f y =>
    have e : h.get? a = some (PySem.W.methodObj (.ref f) (.ref y)) := x
    show h'.get? a = some (PySem.W.methodObj (.ref f) (.ref y))
    exact k a _ (.inl rfl) e
  | ext φ => obtain ⟨p, ⟨o, e⟩, st⟩ := x; exact ⟨st _ _ p fun o q => k _ _ (.inl rfl) q, ⟨o, k _ _ (.inl rfl) e⟩, st⟩
theorem HOk.lt (x : HOk P w H h) (e : H a = some o) : a < h.objs.size := (x a o e).lt
theorem HOk.fresh (x : HOk P w H h) (e : h.objs.size ≤ a) : H a = none := by
  cases q : H a with
  | none => rfl
  | some u => exact absurd (Nat.lt_of_lt_of_le (x.lt q) e) (Nat.lt_irrefl _)
theorem HOk.kept (x : HOk P w H h) (k : ∀ b u, h.get? b = some u → h'.get? b = some u) : HOk P w H h' := fun a o e =>
  (x a o e).stay (fun b u _ q => k b u q) (fun _ q => q) fun _ _ q => q
theorem HOk.laid (x : HOk P w H h) (k : ∀ b u, h.get? b = some u → h'.get? b = some u) (hp : h.objs.size ≤ a) (new : ObjOk P w (upd H a o) h' a o) : HOk P w (upd H a o) h' := fun b u e => by
  have hn := x.fresh hp
  by_cases hb : b = a
  · subst hb; rw [upd_same] at e; cases e; exact new
  · rw [upd_ne hb] at e
    exact (x b u e).stay (fun c v _ q => k c v q) (fun c q => by rw [upd_ne (ne_of_none q hn)]; exact q) fun c xs q => by rw [upd_ne (ne_of_none q hn)]; exact q
end
def Rd (H : Hp) (a : Addr) (u : HO) : Prop := H a = some u ∨ ∃ o, H a = some (.frz o u)
theorem Rd.ok {P : Program} {w : World} {H : Hp} {h : Heap} {a : Addr} {u : HO} (r : Rd H a u) (x : HOk P w H h) : ObjOk P w H h a u := by
  rcases r with r | ⟨o, r⟩
  · exact x a u r
  · obtain ⟨_, q⟩ := x a _ r
    exact q
def Mut : Option HO → Prop
  | some (.lst _) => True
  | some (.dK _) => True
  | some (.dT _) => True
  | some (.set _ _) => True
  | some (.ins _ _ _) => True
  | some (.ext _) => True
  | _ => False
section
variable {P : Program} {w : World} {H : Hp} {h h' : Heap} {x e : Addr} {o' : HO}
theorem HOk.write (ok : HOk P w H h) (mu : Mut (H x)) (he : e = x ∨ H e = some (.own x)) (k : ∀ b u, b ≠ e → h.get? b = some u → h'.get? b = some u) (heo : ∃ u, h'.get? e = some u)
    (new : ObjOk P w (upd H x o') h' x o') : HOk P w (upd H x o') h' := fun b u q => by
  have nown : ∀ c y, H c = some (.own y) → c ≠ x := fun c y r z => by subst z; rw [r] at mu; exact mu
  have ntup : ∀ c xs, H c = some (.tup xs) → c ≠ x := fun c xs r z => by subst z; rw [r] at mu; exact mu
  by_cases hb : b = x
  · subst hb; rw [upd_same] at q; cases q; exact new
  · rw [upd_ne hb] at q
    by_cases hbe : b = e
    · have q' : H b = some (.own x) := by
        rcases he with z | z
        · exact absurd (hbe.trans z) hb
        · rw [hbe]; exact z
      rw [q] at q'; cases q'
      obtain ⟨v, hv⟩ := heo
      exact ⟨v, by rw [hbe]; exact hv⟩
    · refine (ok b u q).stay (fun c v hc r => k c v ?_ r) (fun c r => by rw [upd_ne (nown c b r)]; exact r) fun c xs r => by rw [upd_ne (ntup c xs r)]; exact r
      rcases hc with rfl | hc
      · exact hbe
      · rintro rfl
        rcases he with z | z
        · exact nown c b hc z
        · rw [hc] at z; cases z; exact hb rfl
end
structure Un (fs ex : List Addr) (H H' : Hp) (h h' : Heap) : Prop where
  keep : ∀ b o, h.get? b = some o → H b = none → b ∉ fs → b ∉ ex → h'.get? b = some o
  slot : ∀ b o, h.get? b = some o → H b = none → b ∈ fs → b ∉ ex → ∃ sl, h'.get? b = some { o with slots := sl }
  free : ∀ b o, h.get? b = some o → H b = none → b ∉ ex → H' b = none
  there : ∀ b o, h.get? b = some o → b ∉ ex → ∃ o', h'.get? b = some o'
  tups : ∀ b xs, H b = some (.tup xs) → H' b = some (.tup xs)
  frzs : ∀ b o u, H b = some (.frz o u) → H' b = some (.frz o u)
  tbls : ∀ b ps, H b = some (.tbl ps) → ∃ more, H' b = some (.tbl (ps ++ more))
section
variable {fs fs' ex ex' : List Addr} {H H1 H2 : Hp} {h h1 h2 h' : Heap} {a x e : Addr} {o : HO}
theorem Un.any (u : Un fs ex H H1 h h1) {b : Addr} {ob : Obj} (q : h.get? b = some ob) (n : H b = none) (hx : b ∉ ex) : ∃ sl, h1.get? b = some { ob with slots := sl } := by
  by_cases hb : b ∈ fs
  · exact u.slot b ob q n hb hx
  · exact ⟨ob.slots, u.keep b ob q n hb hx⟩
theorem Un.kept (k : ∀ b u, h.get? b = some u → h'.get? b = some u) : Un fs ex H H h h' :=
  ⟨fun b ob q _ _ _ => k b ob q, fun b ob q _ _ _ => ⟨ob.slots, k b ob q⟩, fun _ _ _ n _ => n, fun b ob q _ => ⟨ob, k b ob q⟩, fun _ _ q => q, fun _ _ _ q => q, fun _ ps q => ⟨#[], by rw [q]; simp⟩⟩
theorem Un.refl : Un fs ex H H h h := Un.kept fun _ _ q => q
theorem Un.laid (k : ∀ b u, h.get? b = some u → h'.get? b = some u) (hp : h.objs.size ≤ a) (hn : H a = none) : Un fs ex H (upd H a o) h h' where
  keep := fun b u q _ _ _ => k b u q
  slot := fun b u q _ _ _ => ⟨u.slots, k b u q⟩
  free := fun b u q n _ => by rw [upd_ne (Nat.ne_of_lt (Nat.lt_of_lt_of_le (Heap.lt_size q) hp))]; exact n
  there := fun b u q _ => ⟨u, k b u q⟩
  tups := fun b xs q => by rw [upd_ne (ne_of_none q hn)]; exact q
  frzs := fun b u xs q => by rw [upd_ne (ne_of_none q hn)]; exact q
  tbls := fun b ps q => ⟨#[], by rw [upd_ne (ne_of_none q hn), q]; simp⟩
theorem Un.write (mu : Mut (H x)) (he : e = x ∨ H e = some (.own x)) (k : ∀ b u, b ≠ e → h.get? b = some u → h'.get? b = some u) (heo : ∃ u, h'.get? e = some u) : Un fs ex H (upd H x o) h h' := by
  have hx : ∀ b, H b = none → b ≠ x := fun b n z => by subst z; rw [n] at mu; exact mu
  have hb : ∀ b, H b = none → b ≠ e := fun b n z => by
    subst z
    rcases he with r | r
    · exact hx b n r
    · rw [n] at r; cases r
  have hm : ∀ b u, H b = some u → ¬ Mut (some u) → b ≠ x := fun b u q nm z => by subst z; rw [q] at mu; exact nm mu
  refine ⟨fun b u q n _ _ => k b u (hb b n) q, fun b u q n _ _ => ⟨u.slots, k b u (hb b n) q⟩, fun b u q n _ => by rw [upd_ne (hx b n)]; exact n, fun b u q _ => ?_,
    fun b xs q => by rw [upd_ne (hm b _ q fun z => z)]; exact q, fun b u xs q => by rw [upd_ne (hm b _ q fun z => z)]; exact q, fun b ps q => ⟨#[], by rw [upd_ne (hm b _ q fun z => z), q]; simp⟩⟩
  by_cases hbe : b = e
  · subst hbe; exact heo
  · exact ⟨u, k b u hbe q⟩
end
def trk (h : Heap) (H : Hp) : List Addr := (List.range h.objs.size).filter fun a => (H a).isSome
def hidT (h : Heap) (H : Hp) : Heap := PySem.W.hideAll h (trk h H)
theorem hidT_size (h : Heap) (H : Hp) : (hidT h H).objs.size = h.objs.size := PySem.W.hideAll_size _ _
theorem hidT_get {h : Heap} {H : Hp} {b : Addr} {o : Obj} (e : h.get? b = some o) (n : H b = none) : (hidT h H).get? b = some o :=
  PySem.W.hideAll_get _ e fun hm => by
    have q : (H b).isSome = true := (List.mem_filter.mp hm).2
    rw [n] at q; simp at q
theorem of_hidT {h : Heap} {H : Hp} {b : Addr} {o : Obj} (e : (hidT h H).get? b = some o) : h.get? b = some o ∧ H b = none := by
  have e' : h.get? b = some o := PySem.W.of_hideAll (trk h H) e
  refine ⟨e', ?_⟩
  cases q : H b with
  | none => rfl
  | some x =>
    have hm : b ∈ trk h H := List.mem_filter.mpr ⟨List.mem_range.mpr (Heap.lt_size e'), by simp [q]⟩
    have z : (hidT h H).get? b = none := PySem.W.hideAll_none (trk h H) hm
    rw [z] at e; cases e
end L2
namespace L2
open PySem PySem.Spec PyProof.Rows
structure Mod (K : PySem.W.Frag) (mg : Str → Option Value) (base : Heap) : Prop where
  kin : K.In base
  glob : base.Ns mainGlobals mg
  blt : ∃ mb, base.Ns builtinsNs mb ∧ ∀ x : Str, x ≠ "__name__" → mb x = bootBuiltins x
  nolimit : base.NoLimit
structure Cx where
  prog : Program
  w : World
  K : PySem.W.Frag
  mg : Str → Option Value
  base : Heap
  A : Around
  N : List Str
  s₀ : Shared
  H₀ : Hp
  env : Env
  outer : List Env
  stack : List Env
  ex : List Addr
  fn : Str → Bool
  calm : Bool
  pn : List (Addr × Obj)
  xe : Value → Shared → Prop
def frs (l : List Env) : List Addr := l.filterMap (·.frame)
abbrev Cx.fs (X : Cx) : List Addr := frs X.outer
def Vis (sc : Scope) (x : Str) : Prop := sc.names.lookup x = some .local ∨ sc.names.lookup x = some .cell ∨ sc.names.lookup x = some .free
def Loc (sc : Scope) (x : Str) : Prop := sc.names.lookup x = some .local ∨ sc.names.lookup x = some .cell
def Look (env : Env) (h : Heap) (m : Str → Option Value) (x : Str) (u : Value) : Prop :=
  (env.kindOf x = some .local ∧ m x = some u) ∨ ((env.kindOf x = some .cell ∨ env.kindOf x = some .free) ∧ ∃ c, env.cells.lookup x = some c ∧ h.IsCell c (some u))
structure Cx.Ok (X : Cx) : Prop where
  mod : Mod X.K X.mg X.base
  kind : X.env.scope.kind = .function
  glob : X.env.globals = mainGlobals
  blt : X.env.builtins = builtinsNs
  above : X.s₀.heap.objs.size ≤ X.env.locals
  inj : ∀ x y c, X.env.cells.lookup x = some c → X.env.cells.lookup y = some c → x = y
  has : ∀ x, (X.env.kindOf x = some .cell ∨ X.env.kindOf x = some .free) → ∃ c, X.env.cells.lookup x = some c
  cab : ∀ x c, X.fn x = true → X.env.cells.lookup x = some c → X.s₀.heap.objs.size ≤ c
  hd : X.calm = true → X.A.handled = none
  frames : X.A.frames = some X.stack
  stk : X.stack = X.outer ∨ (X.stack = X.env :: X.outer ∧ X.env.frame = some X.env.locals)
  exf : ∀ b ∈ X.ex, b ≠ X.env.locals ∧ ∀ x c, X.env.cells.lookup x = some c → c ≠ b
  bs : ∀ b o, X.base.get? b = some o → X.s₀.heap.get? b = some o ∧ X.H₀ b = none
  bsz : X.base.objs.size ≤ X.s₀.heap.objs.size
  noex : ∀ b o, X.base.get? b = some o → b ∉ X.ex
  exfs : ∀ b ∈ X.ex, b ∉ X.fs
  funs : X.s₀.heap.FunFrames X.base X.outer
  frf : ∀ b ∈ X.fs, X.H₀ b = none
structure Inv (X : Cx) (pins : List (Addr × Obj)) (σ : List (Option V)) (H : Hp) (s : Shared) : Prop where
  ok : X.Ok
  os : s.os = X.s₀.os
  bare : AllBare s.gens
  base : Un X.fs X.ex X.H₀ H X.s₀.heap s.heap
  loc : ∃ m, s.heap.Ns X.env.locals m ∧ ∀ (i : Nat) (x : Str) (v : V), X.N[i]? = some x → σ[i]? = some (some v) → Vis X.env.scope x → ∃ u, RelV v u ∧ Look X.env s.heap m x u
  cell : ∀ x c, X.env.cells.lookup x = some c → ∃ v, s.heap.IsCell c v
  free : H X.env.locals = none
  freeC : ∀ x c, X.env.cells.lookup x = some c → H c = none
  pin : ∀ p ∈ X.pn ++ pins, s.heap.get? p.1 = some p.2 ∧ H p.1 = none ∧ p.1 ≠ X.env.locals ∧ p.1 ∉ X.fs ∧ ∀ v, p.2.data ≠ .cell v
  hok : HOk X.prog X.w H s.heap
  len : σ.length = X.N.length
section
variable {X : Cx} {pins : List (Addr × Obj)} {σ : List (Option V)} {H H' : Hp} {s : Shared} {h' : Heap}
theorem Cx.Ok.nofr (ok : X.Ok) {b : Addr} {o : Obj} (e : X.base.get? b = some o) : b ∉ X.fs := fun hb => by
  have := (ok.funs.mem hb).1
  rw [e] at this; cases this
theorem Inv.bs (I : Inv X pins σ H s) : ∀ b o, X.base.get? b = some o → s.heap.get? b = some o ∧ H b = none := fun b o e =>
  ⟨I.base.keep b o (I.ok.bs b o e).1 (I.ok.bs b o e).2 (I.ok.nofr e) (I.ok.noex b o e), I.base.free b o (I.ok.bs b o e).1 (I.ok.bs b o e).2 (I.ok.noex b o e)⟩
theorem Inv.bk (I : Inv X pins σ H s) : ∀ b o, X.base.get? b = some o → s.heap.get? b = some o := fun b o e => (I.bs b o e).1
theorem Inv.mod (I : Inv X pins σ H s) : Mod X.K X.mg X.base := I.ok.mod
theorem Inv.kIn (I : Inv X pins σ H s) : X.K.In s.heap := I.ok.mod.kin.keeps I.bk
theorem Inv.fr (I : Inv X pins σ H s) : ∃ m, Fr X.base X.env.locals s.heap m :=
  let ⟨m, hn, _⟩ := I.loc
  ⟨m, hn, I.bk, Nat.le_trans I.ok.bsz I.ok.above⟩
theorem Inv.lt (I : Inv X pins σ H s) : X.env.locals < s.heap.objs.size := let ⟨_, hn, _⟩ := I.loc; hn.lt
theorem Inv.sz (I : Inv X pins σ H s) : X.s₀.heap.objs.size ≤ s.heap.objs.size := Nat.le_trans I.ok.above (Nat.le_of_lt I.lt)
theorem Inv.nofs (I : Inv X pins σ H s) {a : Addr} (h : s.heap.objs.size ≤ a) : a ∉ X.fs := fun hb => by
  obtain ⟨_, o, ho, _⟩ := I.ok.funs.mem hb
  exact absurd (Nat.lt_of_lt_of_le (Heap.lt_size ho) (Nat.le_trans I.sz h)) (Nat.lt_irrefl _)
theorem Inv.cne (I : Inv X pins σ H s) : ∀ x c, X.env.cells.lookup x = some c → c ≠ X.env.locals := fun x c e z => by
  obtain ⟨v, o, ho, hd⟩ := I.cell x c e
  obtain ⟨m, ⟨o', es, ep, ho', hd', _⟩, _⟩ := I.loc
  rw [z, ho'] at ho; cases ho; rw [hd'] at hd; cases hd
theorem Inv.funs (I : Inv X pins σ H s) : s.heap.FunFrames X.base X.outer := by
  have all : ∀ (l : List Env), (∀ b ∈ frs l, b ∈ X.fs) → X.s₀.heap.FunFrames X.base l → s.heap.FunFrames X.base l := by
    intro l
    induction l with
    | nil => intro _ _; trivial
    | cons env r ih =>
      intro hs hl
      obtain ⟨hk, ⟨L, o, hf, hn, ho, hd⟩, hr⟩ := hl
      have hL : L ∈ X.fs := hs L (by unfold frs; rw [List.filterMap_cons, hf]; exact List.mem_cons_self)
      obtain ⟨sl, e⟩ := I.base.slot L o ho (I.ok.frf L hL) hL fun z => I.ok.exfs L z hL
      exact ⟨hk, ⟨L, _, hf, hn, e, hd⟩, ih (fun b hb => hs b (by unfold frs; rw [List.filterMap_cons, hf]; exact List.mem_cons_of_mem _ hb)) hr⟩
  exact all X.outer (fun _ hb => hb) I.ok.funs
theorem Inv.stack (I : Inv X pins σ H s) : s.heap.FunFrames X.base X.stack := by
  rcases I.ok.stk with e | ⟨e, hf⟩
  · rw [e]; exact I.funs
  · rw [e]
    obtain ⟨m, hn, _⟩ := I.loc
    refine .cons (by rw [I.ok.kind]; decide) hf hn ?_ I.funs
    exact Heap.get?_none_of_le (Nat.le_trans I.ok.bsz I.ok.above)
theorem Inv.stkSub (I : Inv X pins σ H s) : ∀ b ∈ frs X.stack, b ∈ X.env.locals :: X.fs := fun b hb => by
  rcases I.ok.stk with e | ⟨e, hf⟩
  · rw [e] at hb; exact List.mem_cons_of_mem _ hb
  · rw [e] at hb
    unfold frs at hb
    rw [List.filterMap_cons, hf] at hb
    exact hb
theorem Inv.stkFree (I : Inv X pins σ H s) : ∀ b ∈ frs X.stack, H b = none := fun b hb => by
  rcases List.mem_cons.mp (I.stkSub b hb) with e | hb
  · rw [e]; exact I.free
  · obtain ⟨_, o, ho, _⟩ := I.ok.funs.mem hb
    exact I.base.free b o ho (I.ok.frf b hb) fun z => I.ok.exfs b z hb
theorem Inv.step {g' : Array GenState} {t' : Nat} {d' : Drawn} {ch : List Addr} (I : Inv X pins σ H s)
    (hch : ∀ b ∈ ch, (b ∈ X.ex ∨ X.s₀.heap.objs.size ≤ b) ∧ b ≠ X.env.locals ∧ (∀ x c, X.env.cells.lookup x = some c → c ≠ b) ∧ ∀ p ∈ X.pn ++ pins, p.1 ≠ b)
    (keep : ∀ b o, b ≠ X.env.locals → b ∉ X.fs → b ∉ ch → s.heap.get? b = some o → H b = none → h'.get? b = some o)
    (slot : ∀ b o, b ≠ X.env.locals → b ∈ X.fs → b ∉ ch → s.heap.get? b = some o → H b = none → ∃ sl, h'.get? b = some { o with slots := sl }) (free : ∀ b o, b ∉ ch → s.heap.get? b = some o → H b = none → H' b = none)
    (there : ∀ b o, b ∉ ch → s.heap.get? b = some o → ∃ o', h'.get? b = some o')
    (tups : ∀ b xs, H b = some (.tup xs) → H' b = some (.tup xs)) (frzs : ∀ b o u, H b = some (.frz o u) → H' b = some (.frz o u)) (tbls : ∀ b ps, H b = some (.tbl ps) → ∃ more, H' b = some (.tbl (ps ++ more)))
    (ns : ∀ m, s.heap.Ns X.env.locals m → h'.Ns X.env.locals m) (hok : HOk X.prog X.w H' h') (hg : AllBare g') :
    Inv X pins σ H' { s with heap := h', gens := g', drawn := d', toks := t' } := by
  have neL : ∀ b o, X.s₀.heap.get? b = some o → b ≠ X.env.locals := fun b o e => Nat.ne_of_lt (Nat.lt_of_lt_of_le (Heap.lt_size e) I.ok.above)
  have neC : ∀ b o, X.s₀.heap.get? b = some o → b ∉ X.ex → b ∉ ch := fun b o e hx hb => by
    rcases (hch b hb).1 with z | z
    · exact hx z
    · exact absurd (Nat.lt_of_lt_of_le (Heap.lt_size e) z) (Nat.lt_irrefl _)
  have cellK : ∀ x c, X.env.cells.lookup x = some c → ∀ v, s.heap.IsCell c v → h'.IsCell c v := fun x c e v ⟨o, ho, hd⟩ => by
    have nch : c ∉ ch := fun z => (hch c z).2.2.1 x c e rfl
    by_cases hc : c ∈ X.fs
    · obtain ⟨sl, q⟩ := slot c o (I.cne x c e) hc nch ho (I.freeC x c e)
      exact ⟨_, q, hd⟩
    · exact ⟨o, keep c o (I.cne x c e) hc nch ho (I.freeC x c e), hd⟩
  refine ⟨I.ok, I.os, hg, ⟨fun b o e n hb hx => ?_, fun b o e n hb hx => ?_, fun b o e n hx => ?_, fun b o e hx => ?_, fun b xs e => tups b xs (I.base.tups b xs e), fun b o xs e => frzs b o xs (I.base.frzs b o xs e), fun b ps e => ?_⟩, ?_, fun x c e => ?_, ?_, fun x c e => ?_, fun p hp => ?_, hok, I.len⟩
  · exact keep b o (neL b o e) hb (neC b o e hx) (I.base.keep b o e n hb hx) (I.base.free b o e n hx)
  · obtain ⟨sl, e1⟩ := I.base.slot b o e n hb hx
    obtain ⟨sl', e2⟩ := slot b _ (neL b o e) hb (neC b o e hx) e1 (I.base.free b o e n hx)
    exact ⟨sl', e2⟩
  · obtain ⟨o', e1⟩ := I.base.there b o e hx
    exact free b o' (neC b o e hx) e1 (I.base.free b o e n hx)
  · obtain ⟨o', e1⟩ := I.base.there b o e hx
    exact there b o' (neC b o e hx) e1
  · obtain ⟨m1, e1⟩ := I.base.tbls b ps e
    obtain ⟨m2, e2⟩ := tbls b _ e1
    exact ⟨m1 ++ m2, by rw [e2, Array.append_assoc]⟩
  · obtain ⟨m, hn, hl⟩ := I.loc
    refine ⟨m, ns m hn, fun i x v e1 e2 e3 => ?_⟩
    obtain ⟨u, r, l⟩ := hl i x v e1 e2 e3
    refine ⟨u, r, ?_⟩
    rcases l with l | ⟨k, c, e, z⟩
    · exact .inl l
    · exact .inr ⟨k, c, e, cellK x c e _ z⟩
  · obtain ⟨v, z⟩ := I.cell x c e
    exact ⟨v, cellK x c e v z⟩
  · obtain ⟨m, ⟨o, _, _, ho, _⟩, _⟩ := I.loc
    exact free _ o (fun z => (hch _ z).2.1 rfl) ho I.free
  · obtain ⟨v, o, ho, hd⟩ := I.cell x c e
    exact free c o (fun z => (hch c z).2.2.1 x c e rfl) ho (I.freeC x c e)
  · obtain ⟨e, n, ne, nf, d⟩ := I.pin p hp
    have nch : p.1 ∉ ch := fun z => (hch p.1 z).2.2.2 p hp rfl
    exact ⟨keep p.1 p.2 ne nf nch e n, free p.1 p.2 nch e n, ne, nf, d⟩
theorem Inv.un {t' : Nat} (I : Inv X pins σ H s) (u : Un X.fs [] H H' s.heap h') (hok : HOk X.prog X.w H' h') : Inv X pins σ H' { s with heap := h', toks := t' } := by
  obtain ⟨m, ⟨o, es, ep, ho, r⟩, _⟩ := id I.loc
  obtain ⟨sl, hL⟩ := u.any ho I.free (by simp)
  exact I.step (g' := s.gens) (d' := s.drawn) (ch := []) (fun _ z => nomatch z) (fun b o _ hb _ e n => u.keep b o e n hb (by simp)) (fun b o _ hb _ e n => u.slot b o e n hb (by simp)) (fun b o _ e n => u.free b o e n (by simp)) (fun b o _ e => u.there b o e (by simp)) u.tups u.frzs u.tbls (fun m' hm => by
    obtain ⟨o', es', ep', ho', r'⟩ := hm
    rw [ho] at ho'; cases ho'
    exact ⟨_, es', ep', hL, r'⟩) hok I.bare
theorem Inv.call {g' : Array GenState} {t' : Nat} {d' : Drawn} {ch : List Addr} (I : Inv X pins σ H s) (u : Un (frs X.stack) ch H H' s.heap h') (hok : HOk X.prog X.w H' h') (hg : AllBare g')
    (hch : ∀ b ∈ ch, (b ∈ X.ex ∨ X.s₀.heap.objs.size ≤ b) ∧ b ≠ X.env.locals ∧ (∀ x c, X.env.cells.lookup x = some c → c ≠ b) ∧ ∀ p ∈ X.pn ++ pins, p.1 ≠ b) :
    Inv X pins σ H' { s with heap := h', gens := g', drawn := d', toks := t' } := by
  obtain ⟨m, ⟨o, es, ep, ho, r⟩, _⟩ := id I.loc
  obtain ⟨sl, hL⟩ := u.any ho I.free fun z => (hch _ z).2.1 rfl
  exact I.step (ch := ch) hch (fun b o hL hb hc e n => u.keep b o e n (fun z => (List.mem_cons.mp (I.stkSub b z)).elim hL hb) hc) (fun b o _ _ hc e n => u.any e n hc) (fun b o hc e n => u.free b o e n hc) (fun b o hc e => u.there b o e hc) u.tups u.frzs u.tbls (fun m' hm => by
    obtain ⟨o', es', ep', ho', r'⟩ := hm
    rw [ho] at ho'; cases ho'
    exact ⟨_, es', ep', hL, r'⟩) hok hg
theorem Inv.turned {t' : Nat} {it : Addr} (I : Inv X pins σ H s) (k : ∀ b o, b ≠ it → s.heap.get? b = some o → h'.get? b = some o) (hn : H it = none) (hL : it ≠ X.env.locals)
    (h1 : it ∈ X.ex ∨ X.s₀.heap.objs.size ≤ it) (h2 : ∀ x c, X.env.cells.lookup x = some c → c ≠ it) (h3 : ∀ p ∈ X.pn ++ pins, p.1 ≠ it) : Inv X pins σ H { s with heap := h', toks := t' } := by
  have nit : ∀ b u, H b = some u → b ≠ it := fun b u e z => by rw [z, hn] at e; cases e
  refine I.step (g' := s.gens) (d' := s.drawn) (ch := [it]) (fun b hb => ?_) (fun b o _ _ hc e _ => k b o (fun z => hc (by simp [z])) e) (fun b o _ _ hc e _ => ⟨o.slots, k b o (fun z => hc (by simp [z])) e⟩) (fun _ _ _ _ n => n)
    (fun b o hc e => ⟨o, k b o (fun z => hc (by simp [z])) e⟩) (fun _ _ e => e) (fun _ _ _ e => e) (fun b ps e => ⟨#[], by rw [e]; simp⟩) (fun m hm => ?_) (fun b u e => ?_) I.bare
  · have e : b = it := by simpa using hb
    subst e
    exact ⟨h1, hL, h2, h3⟩
  · obtain ⟨o, es, ep, ho, r⟩ := hm
    exact ⟨o, es, ep, k _ o (Ne.symm hL) ho, r⟩
  · refine (I.hok b u e).stay (fun c v hc q => k c v ?_ q) (fun _ q => q) fun _ _ q => q
    rcases hc with z | z
    · rw [z]; exact nit b u e
    · exact nit c _ z
theorem Inv.tok (I : Inv X pins σ H s) (t : Nat) : Inv X pins σ H { s with toks := t } := I.un (h' := s.heap) (t' := t) Un.refl I.hok
theorem Inv.kept {t' : Nat} (I : Inv X pins σ H s) (k : ∀ b u, s.heap.get? b = some u → h'.get? b = some u) : Inv X pins σ H { s with heap := h', toks := t' } := I.un (Un.kept k) (I.hok.kept k)
theorem Inv.laid {a : Addr} {o : HO} {t' : Nat} (I : Inv X pins σ H s) (k : ∀ b u, s.heap.get? b = some u → h'.get? b = some u) (hp : s.heap.objs.size ≤ a) (new : ObjOk X.prog X.w (upd H a o) h' a o) :
    Inv X pins σ (upd H a o) { s with heap := h', toks := t' } := I.un (Un.laid k hp (I.hok.fresh hp)) (I.hok.laid k hp new)
theorem Inv.write {x e : Addr} {o : HO} {t' : Nat} (I : Inv X pins σ H s) (mu : Mut (H x)) (he : e = x ∨ H e = some (.own x)) (k : ∀ b u, b ≠ e → s.heap.get? b = some u → h'.get? b = some u) (heo : ∃ u, h'.get? e = some u)
    (new : ObjOk X.prog X.w (upd H x o) h' x o) : Inv X pins σ (upd H x o) { s with heap := h', toks := t' } := I.un (Un.write mu he k heo) (I.hok.write mu he k heo new)
theorem Inv.pins_of {pins' : List (Addr × Obj)} (I : Inv X pins σ H s) (h : ∀ p ∈ pins', s.heap.get? p.1 = some p.2 ∧ H p.1 = none ∧ p.1 ≠ X.env.locals ∧ p.1 ∉ X.fs ∧ ∀ v, p.2.data ≠ .cell v) : Inv X pins' σ H s :=
  ⟨I.ok, I.os, I.bare, I.base, I.loc, I.cell, I.free, I.freeC, fun p hp => (List.mem_append.mp hp).elim (fun z => I.pin p (List.mem_append_left _ z)) (h p), I.hok, I.len⟩
theorem nodup_ix {N : List Str} (hN : N.Nodup) {i j : Nat} {x : Str} (a : N[i]? = some x) (b : N[j]? = some x) : i = j := by
  obtain ⟨h1, e1⟩ := List.getElem?_eq_some_iff.mp a
  obtain ⟨h2, e2⟩ := List.getElem?_eq_some_iff.mp b
  exact (List.getElem_inj hN).mp (e1.trans e2.symm)
theorem store_ok2 {M : Model} {A : Around} {E : Value → Shared → Prop} {i : Nat} {x : Str} {v : V} {u : Value} {Q : Unit → Shared → Prop} (I : Inv X pins σ H s) (hN : X.N.Nodup) (hi : X.N[i]? = some x) (hx : Loc X.env.scope x) (r : RelV v u)
    (h : ∀ s', Inv X pins (σ.set i (some v)) H s' → (∃ a, Heap.SameBut a s.heap s'.heap ∧ (a = X.env.locals ∨ X.env.cells.lookup x = some a)) → Q () s') (hf : X.fn x = true ∨ X.env.scope.names.lookup x = some .local := by first | exact .inl rfl | exact .inr rfl | assumption) : wpAny M A (storeName X.env x u) Q E s := by
  obtain ⟨m, hn, hl⟩ := id I.loc
  have hcls : (X.env.scope.kind == .class || (X.env.scope.kind == .module && X.env.locals != X.env.globals)) = false := by rw [I.ok.kind]; rfl
  have hiσ : i < σ.length := by rw [I.len]; exact (List.getElem?_eq_some_iff.mp hi).1
  have cne := I.cne
  have tracked : ∀ {a : Addr} {h' : Heap}, (∃ o, s.heap.get? a = some o ∧ H a = none) → Heap.SameBut a s.heap h' → HOk X.prog X.w H h' := fun {a h'} ha hs b ob e => by
    obtain ⟨_, _, hfree⟩ := ha
    refine (I.hok b ob e).stay (fun c w' hc q => (hs.2 c ?_).trans q) (fun _ q => q) fun _ _ q => q
    rintro rfl
    rcases hc with rfl | hc
    · rw [hfree] at e; cases e
    · rw [hfree] at hc; cases hc
  rcases hx with hk | hk
  · refine wpAny_storeName_local hk hn (fun h' hn' hs => ?_) hcls
    obtain ⟨oL, _, _, hoL, _⟩ := id hn
    refine h _ ⟨I.ok, I.os, I.bare, ⟨fun b o e n hb hx => ?_, fun b o e n hb hx => ?_, I.base.free, fun b o e hx => ?_, I.base.tups, I.base.frzs, I.base.tbls⟩, ⟨_, hn', fun j y v' e1 e2 e3 => ?_⟩, fun y c e => ?_, I.free, I.freeC, fun p hp => ?_, tracked ⟨oL, hoL, I.free⟩ hs, by simpa using I.len⟩ ⟨_, hs, .inl rfl⟩
    · exact (hs.2 b (Nat.ne_of_lt (Nat.lt_of_lt_of_le (Heap.lt_size e) I.ok.above))).trans (I.base.keep b o e n hb hx)
    · obtain ⟨sl, e1⟩ := I.base.slot b o e n hb hx
      exact ⟨sl, (hs.2 b (Nat.ne_of_lt (Nat.lt_of_lt_of_le (Heap.lt_size e) I.ok.above))).trans e1⟩
    · obtain ⟨o', e1⟩ := I.base.there b o e hx
      exact ⟨o', (hs.2 b (Nat.ne_of_lt (Nat.lt_of_lt_of_le (Heap.lt_size e) I.ok.above))).trans e1⟩
    · by_cases hj : j = i
      · subst hj
        rw [hi] at e1; cases e1
        rw [List.getElem?_set_self hiσ] at e2
        cases e2
        exact ⟨u, r, .inl ⟨hk, by simp⟩⟩
      · rw [List.getElem?_set_ne (Ne.symm hj)] at e2
        obtain ⟨u', r', q⟩ := hl j y v' e1 e2 e3
        refine ⟨u', r', ?_⟩
        rcases q with ⟨k, e⟩ | ⟨k, c, e, z⟩
        · refine .inl ⟨k, ?_⟩
          have : y ≠ x := fun e => hj (nodup_ix hN e1 (e ▸ hi))
          simp [this, e]
        · exact .inr ⟨k, c, e, z.sameBut hs (cne y c e)⟩
    · obtain ⟨w', z⟩ := I.cell y c e
      exact ⟨w', z.sameBut hs (cne y c e)⟩
    · obtain ⟨e, n, ne, nf, d⟩ := I.pin p hp
      exact ⟨(hs.2 p.1 ne).trans e, n, ne, nf, d⟩
  · have hfn : X.fn x = true := by
      rcases hf with z | z
      · exact z
      · rw [z] at hk; cases hk
    obtain ⟨c, hc⟩ := I.ok.has x (.inl hk)
    obtain ⟨w', z⟩ := I.cell x c hc
    refine wpAny_storeName_cell I.ok.kind hk hc z (fun h' hc' hs => ?_)
    obtain ⟨oc, hoc, hocd⟩ := id z
    refine h { s with heap := h' } ⟨I.ok, I.os, I.bare, ⟨fun b o e n hb hx => ?_, fun b o e n hb hx => ?_, I.base.free, fun b o e hx => ?_, I.base.tups, I.base.frzs, I.base.tbls⟩, ⟨m, hn.sameBut hs (Ne.symm (cne x c hc)), fun j y v' e1 e2 e3 => ?_⟩, fun y c' e => ?_, I.free, I.freeC, fun p hp => ?_, tracked ⟨oc, hoc, I.freeC x c hc⟩ hs, by simpa using I.len⟩ ⟨c, hs, .inr hc⟩
    · exact (hs.2 b (Nat.ne_of_lt (Nat.lt_of_lt_of_le (Heap.lt_size e) (I.ok.cab x c hfn hc)))).trans (I.base.keep b o e n hb hx)
    · obtain ⟨sl, e1⟩ := I.base.slot b o e n hb hx
      exact ⟨sl, (hs.2 b (Nat.ne_of_lt (Nat.lt_of_lt_of_le (Heap.lt_size e) (I.ok.cab x c hfn hc)))).trans e1⟩
    · obtain ⟨o', e1⟩ := I.base.there b o e hx
      exact ⟨o', (hs.2 b (Nat.ne_of_lt (Nat.lt_of_lt_of_le (Heap.lt_size e) (I.ok.cab x c hfn hc)))).trans e1⟩
    · by_cases hj : j = i
      · subst hj
        rw [hi] at e1; cases e1
        rw [List.getElem?_set_self hiσ] at e2
        cases e2
        exact ⟨u, r, .inr ⟨.inl hk, c, hc, hc'⟩⟩
      · rw [List.getElem?_set_ne (Ne.symm hj)] at e2
        obtain ⟨u', r', q⟩ := hl j y v' e1 e2 e3
        refine ⟨u', r', ?_⟩
        rcases q with q | ⟨k, c', e, z'⟩
        · exact .inl q
        · refine .inr ⟨k, c', e, z'.sameBut hs ?_⟩
          rintro rfl
          exact hj (nodup_ix hN e1 (I.ok.inj _ _ _ e hc ▸ hi))
    · by_cases hcc : c' = c
      · subst hcc; exact ⟨_, hc'⟩
      · obtain ⟨w2, z2⟩ := I.cell y c' e
        exact ⟨w2, z2.sameBut hs hcc⟩
    · obtain ⟨e, n, ne, nf, d⟩ := I.pin p hp
      refine ⟨(hs.2 p.1 ?_).trans e, n, ne, nf, d⟩
      intro q
      rw [q, hoc] at e
      have q' : oc = p.2 := Option.some.inj e
      exact d w' (by rw [← q']; exact hocd)
theorem store_ok {M : Model} {A : Around} {E : Value → Shared → Prop} {i : Nat} {x : Str} {v : V} {u : Value} {Q : Unit → Shared → Prop} (I : Inv X pins σ H s) (hN : X.N.Nodup) (hi : X.N[i]? = some x) (hx : Loc X.env.scope x) (r : RelV v u)
    (h : ∀ s', Inv X pins (σ.set i (some v)) H s' → Q () s') (hf : X.fn x = true ∨ X.env.scope.names.lookup x = some .local := by first | exact .inl rfl | exact .inr rfl | assumption) : wpAny M A (storeName X.env x u) Q E s :=
  store_ok2 I hN hi hx r (fun s' I' _ => h s' I') hf
theorem Inv.call' {s' : Shared} {ch : List Addr} (I : Inv X pins σ H s) (ho : s'.os = s.os) (u : Un (frs X.stack) ch H H' s.heap s'.heap) (hok : HOk X.prog X.w H' s'.heap) (hg : AllBare s'.gens)
    (hch : ∀ b ∈ ch, (b ∈ X.ex ∨ X.s₀.heap.objs.size ≤ b) ∧ b ≠ X.env.locals ∧ (∀ x c, X.env.cells.lookup x = some c → c ≠ b) ∧ ∀ p ∈ X.pn ++ pins, p.1 ≠ b) : Inv X pins σ H' s' := by
  obtain ⟨h', g', d', t', o'⟩ := s'
  have e : o' = s.os := ho
  subst e
  exact I.call (g' := g') (t' := t') (d' := d') u hok hg hch
end
abbrev XK := Value → Option Addr → Hp → Prop
abbrev St := List (Option V)
abbrev VK := V → Hp → Prop
abbrev TE := St → Hp → VK → Prop
abbrev TT := St → Hp → (Bool → Hp → Prop) → Prop
abbrev TA := St → Hp → (List V → Hp → Prop) → Prop
structure Ends where
  nx : St → Hp → Prop
  rt : VK
  bk : St → Hp → Prop := fun _ _ => False
  ct : St → Hp → Prop := fun _ _ => False
abbrev TS := Ends → St → Hp → Prop
def EP (X : Cx) (pins : List (Addr × Obj)) (σ : St) (Q : VK) (u : Value) (s' : Shared) : Prop := ∃ v H', Inv X pins σ H' s' ∧ RelV v u ∧ Q v H'
def TP (X : Cx) (pins : List (Addr × Obj)) (σ : St) (Q : Bool → Hp → Prop) (b : Bool) (s' : Shared) : Prop := ∃ H', Inv X pins σ H' s' ∧ Q b H'
def AP (X : Cx) (pins : List (Addr × Obj)) (σ : St) (Q : List V → Hp → Prop) (us : List Value) (s' : Shared) : Prop := ∃ vs H', Inv X pins σ H' s' ∧ Vals vs us ∧ Q vs H'
def SP (X : Cx) (pins : List (Addr × Obj)) (D : Ends) (f : Flow) (s' : Shared) : Prop :=
  match f with
  | .next => ∃ σ' H', Inv X pins σ' H' s' ∧ D.nx σ' H'
  | .brk => ∃ σ' H', Inv X pins σ' H' s' ∧ D.bk σ' H'
  | .cont => ∃ σ' H', Inv X pins σ' H' s' ∧ D.ct σ' H'
  | .ret u => ∃ v σ' H', Inv X pins σ' H' s' ∧ RelV v u ∧ D.rt v H'
def PE (X : Cx) (e : Expr) (t : TE) : Prop :=
  ∀ (pins : List (Addr × Obj)) (s : Shared) (σ : St) (H : Hp) (Q : VK), Inv X pins σ H s → t σ H Q → wpAny (model X.prog X.w) X.A (eval e X.env) (EP X pins σ Q) X.xe s
def PT (X : Cx) (e : Expr) (t : TT) : Prop :=
  ∀ (pins : List (Addr × Obj)) (s : Shared) (σ : St) (H : Hp) (Q : Bool → Hp → Prop), Inv X pins σ H s → t σ H Q → wpAny (model X.prog X.w) X.A (isTrue e X.env (eval e X.env)) (TP X pins σ Q) X.xe s
def PW (X : Cx) (e : Expr) (t : TT) : Prop :=
  ∀ (whole : Sem Value) (pins : List (Addr × Obj)) (s : Shared) (σ : St) (H : Hp) (Q : Bool → Hp → Prop), Inv X pins σ H s → t σ H Q → wpAny (model X.prog X.w) X.A (isTrue e X.env whole) (TP X pins σ Q) X.xe s
theorem PW.pt {X : Cx} {e : Expr} {t : TT} (h : PW X e t) : PT X e t := h _
def PA (X : Cx) (es : List Expr) (t : TA) : Prop :=
  ∀ (pos : Pos) (pins : List (Addr × Obj)) (s : Shared) (σ : St) (H : Hp) (Q : List V → Hp → Prop), Inv X pins σ H s → t σ H Q → wpAny (model X.prog X.w) X.A (spliced (backTo pos (starEach es X.env))) (AP X pins σ Q) X.xe s
def PS (X : Cx) (st : Stmt) (t : TS) : Prop :=
  ∀ (pins : List (Addr × Obj)) (s : Shared) (σ : St) (H : Hp) (D : Ends), Inv X pins σ H s → t D σ H → wpAny (model X.prog X.w) X.A (exec st X.env) (SP X pins D) X.xe s
def PSs (X : Cx) (st : List Stmt) (t : TS) : Prop :=
  ∀ (pins : List (Addr × Obj)) (s : Shared) (σ : St) (H : Hp) (D : Ends), Inv X pins σ H s → t D σ H → wpAny (model X.prog X.w) X.A (execs st X.env) (SP X pins D) X.xe s
theorem thn {α : Type} {t : Sem α} {Q Q' : α → Shared → Prop} {M : Model} {A : Around} {E : Value → Shared → Prop} {s : Shared} (h : wpAny M A t Q E s) (hQ : ∀ a s, Q a s → Q' a s) : wpAny M A t Q' E s := wpAny_mono h hQ fun _ _ x => x
end L2
namespace L2
open PySem PySem.Spec PyProof.Rows
section
variable {X : Cx}
def tVar (i : Nat) : TE := fun σ H Q => ∃ v, σ[i]? = some (some v) ∧ Q v H
def tC (v : V) : TE := fun _ H Q => Q v H
theorem pe_var {i : Nat} {x : Str} {pos : Pos} (hN : X.N[i]? = some x) (hv : Vis X.env.scope x) (hd : (x == ("__debug__" : Str)) = false := by decide) (hcd : (x == ("__classdict__" : Str)) = false := by decide) : PE X (.Name x pos) (tVar i) := by
  intro pins s σ H Q I h
  obtain ⟨v, e, h⟩ := h
  obtain ⟨m, hn, hl⟩ := I.loc
  obtain ⟨u, r, l⟩ := hl i x v hN e hv
  have fin : EP X pins σ Q u s := ⟨v, H, I, r, h⟩
  rcases l with ⟨hk, hm⟩ | ⟨hk, c, hc, hcell⟩
  · exact wpAny_Name (wpAny_loadName_local I.ok.kind hk hn hm fin) hd
  · rcases hk with hk | hk
    · exact wpAny_Name (wpAny_loadName_cell I.ok.kind hk hc hcell fin) hd
    · exact wpAny_Name (wpAny_loadName_free I.ok.kind hk hc hcell fin hcd) hd
theorem pe_int {i j pos} : PE X (.Constant (.int i) j pos) (tC (.int i)) := fun _ _ _ H _ I h => wpAny_Constant_int ⟨.int i, H, I.tok _, ⟨_, rfl⟩, h⟩
theorem pe_bl {b j pos} : PE X (.Constant (.bool b) j pos) (tC (.bl b)) := fun _ _ _ H _ I h => Constant_bool ⟨.bl b, H, I, rfl, h⟩
theorem pe_non {j pos} : PE X (.Constant .none j pos) (tC .non) := fun _ _ _ H _ I h => Constant_none ⟨.non, H, I, rfl, h⟩
theorem pe_str {x j pos} : PE X (.Constant (.str x) j pos) (tC (.str x)) := fun _ _ _ H _ I h => Calls.Constant_str ⟨.str x, H, I.tok _, ⟨_, rfl⟩, h⟩
def Gl (X : Cx) (x : Str) : Prop := X.env.kindOf x = some .globalImplicit
theorem ld_glob {E : Value → Shared → Prop} {pins : List (Addr × Obj)} {s : Shared} {σ : St} {H : Hp} {x : Str} {u : Value} {pos : Pos} {Q : Value → Shared → Prop} (I : Inv X pins σ H s) (hg : Gl X x) (hm : X.mg x = some u) (h : Q u s)
    (hd : (x == ("__debug__" : Str)) = false := by decide) : wpAny (model X.prog X.w) X.A (eval (.Name x pos) X.env) Q E s :=
  Calls.Name_function_global I.ok.kind hg (Calls.loadGlobal_global (by rw [I.ok.glob]; exact I.mod.glob.keeps I.bk) hm h) hd
theorem ld_blt {E : Value → Shared → Prop} {pins : List (Addr × Obj)} {s : Shared} {σ : St} {H : Hp} {x : Str} {u : Value} {pos : Pos} {Q : Value → Shared → Prop} (I : Inv X pins σ H s) (hg : Gl X x) (hm : X.mg x = none) (hv : bootBuiltins x = some u) (h : Q u s)
    (hn : x ≠ "__name__" := by decide) (hd : (x == ("__debug__" : Str)) = false := by decide) : wpAny (model X.prog X.w) X.A (eval (.Name x pos) X.env) Q E s := by
  obtain ⟨mb, h1, h2⟩ := I.mod.blt
  exact Calls.Name_function_global I.ok.kind hg (Calls.loadGlobal_builtin (by rw [I.ok.glob]; exact I.mod.glob.keeps I.bk) hm (by rw [I.ok.blt]; exact h1.keeps I.bk) ((h2 x hn).trans hv) h) hd
theorem pe_glob {x : Str} {v : V} {u : Value} {pos : Pos} (hg : Gl X x) (hm : X.mg x = some u) (r : RelV v u) (hd : (x == ("__debug__" : Str)) = false := by decide) : PE X (.Name x pos) (tC v) :=
  fun _ _ _ H _ I h => ld_glob I hg hm ⟨v, H, I, r, h⟩ hd
theorem pe_bltn {x : Str} {v : V} {u : Value} {pos : Pos} (hg : Gl X x) (hm : X.mg x = none) (hv : bootBuiltins x = some u) (r : RelV v u) (hn : x ≠ "__name__" := by decide) (hd : (x == ("__debug__" : Str)) = false := by decide) : PE X (.Name x pos) (tC v) :=
  fun _ _ _ H _ I h => ld_blt I hg hm hv ⟨v, H, I, r, h⟩ hn hd
variable {a b : Expr} {ta tb : TE} {pos : Pos}
def tB (t : TE) : TT := fun σ H Q => t σ H fun x H1 => ∃ c, x = .bl c ∧ Q c H1
theorem pt_val {e : Expr} {t : TE} (h : PE X e t) (he : ∀ whole, isTrue e X.env whole = (do let v ← whole; standAt e.pos; holding [v] (truthy v)) := by intro _; rfl) : PT X e (tB t) := by
  intro pins s σ H Q I hw
  refine isTrue_plain (thn (h pins s σ H _ I hw) fun v s1 ⟨x, H1, I1, r1, q1⟩ => ?_) (he _)
  obtain ⟨d, rfl, q⟩ := q1
  cases r1
  exact wpAny_truthy_bool ⟨H1, I1, q⟩
variable {tA tB' : TT} {rest : List Expr}
def tAnd (t u : TT) : TT := fun σ H Q => t σ H fun c H1 => if c = true then u σ H1 Q else Q false H1
def tOr (t u : TT) : TT := fun σ H Q => t σ H fun c H1 => if c = true then Q true H1 else u σ H1 Q
def tNot (t : TT) : TT := fun σ H Q => t σ H fun c H1 => Q (!c) H1
theorem pw_and1 (ha : PT X a tA) : PW X (.BoolOp .And [a] pos) tA := by
  intro wh pins s σ H Q I h
  refine isTrue_and (thn (ha pins s σ H Q I h) fun c s1 e => ?_)
  cases c with
  | true => exact isTrue_and_nil e
  | false => exact e
theorem pw_or1 (ha : PT X a tA) : PW X (.BoolOp .Or [a] pos) tA := by
  intro wh pins s σ H Q I h
  refine isTrue_or (thn (ha pins s σ H Q I h) fun c s1 e => ?_)
  cases c with
  | false => exact isTrue_or_nil e
  | true => exact e
theorem pw_and (ha : PT X a tA) (hb : PW X (.BoolOp .And (b :: rest) pos) tB') : PW X (.BoolOp .And (a :: b :: rest) pos) (tAnd tA tB') := by
  intro wh pins s σ H Q I h
  refine isTrue_and (thn (ha pins s σ H _ I h) fun c s1 ⟨H1, I1, q1⟩ => ?_)
  cases c with
  | true => exact hb wh pins s1 σ H1 Q I1 q1
  | false => exact ⟨H1, I1, q1⟩
theorem pw_or (ha : PT X a tA) (hb : PW X (.BoolOp .Or (b :: rest) pos) tB') : PW X (.BoolOp .Or (a :: b :: rest) pos) (tOr tA tB') := by
  intro wh pins s σ H Q I h
  refine isTrue_or (thn (ha pins s σ H _ I h) fun c s1 ⟨H1, I1, q1⟩ => ?_)
  cases c with
  | true => exact ⟨H1, I1, q1⟩
  | false => exact hb wh pins s1 σ H1 Q I1 q1
theorem pt_not (ha : PT X a tA) : PT X (.UnaryOp .Not a pos) (tNot tA) := by
  intro pins s σ H Q I h
  exact isTrue_not (ha pins s σ H (fun c H1 => Q (!c) H1) I h)
def tAndV (ta tb : TE) : TE := fun σ H Q => ta σ H fun x H1 => ∃ c, x = .bl c ∧ if c = true then tb σ H1 Q else Q (.bl false) H1
def tOrV (ta tb : TE) : TE := fun σ H Q => ta σ H fun x H1 => ∃ c, x = .bl c ∧ if c = true then Q (.bl true) H1 else tb σ H1 Q
def tNotV (ta : TE) : TE := fun σ H Q => ta σ H fun x H1 => ∃ c, x = .bl c ∧ Q (.bl (!c)) H1
theorem pe_one {op} {t : TE} (h : PE X a t) : PE X (.BoolOp op [a] pos) t := fun pins s σ H Q I hw => BoolOp_one (h pins s σ H Q I hw)
theorem pe_and (ha : PE X a ta) (hb : PE X (.BoolOp .And (b :: rest) pos) tb) : PE X (.BoolOp .And (a :: b :: rest) pos) (tAndV ta tb) := by
  intro pins s σ H Q I h
  refine BoolOp_and (thn (ha pins s σ H _ I h) fun v s1 ⟨x, H1, I1, r1, q1⟩ => ?_)
  obtain ⟨c, rfl, q1⟩ := q1
  cases r1
  refine wpAny_truthy_bool ?_
  cases c with
  | true => exact hb pins s1 σ H1 Q I1 q1
  | false => exact ⟨.bl false, H1, I1, rfl, q1⟩
theorem pe_or (ha : PE X a ta) (hb : PE X (.BoolOp .Or (b :: rest) pos) tb) : PE X (.BoolOp .Or (a :: b :: rest) pos) (tOrV ta tb) := by
  intro pins s σ H Q I h
  refine BoolOp_or (thn (ha pins s σ H _ I h) fun v s1 ⟨x, H1, I1, r1, q1⟩ => ?_)
  obtain ⟨c, rfl, q1⟩ := q1
  cases r1
  refine wpAny_truthy_bool ?_
  cases c with
  | false => exact hb pins s1 σ H1 Q I1 q1
  | true => exact ⟨.bl true, H1, I1, rfl, q1⟩
theorem pe_not (ha : PE X a ta) : PE X (.UnaryOp .Not a pos) (tNotV ta) := by
  intro pins s σ H Q I h
  refine UnaryOp_ (thn (ha pins s σ H _ I h) fun v s1 ⟨x, H1, I1, r1, q1⟩ => ?_)
  obtain ⟨c, rfl, q1⟩ := q1
  cases r1
  exact not_of (wpAny_truthy_bool ⟨.bl (!c), H1, I1, rfl, q1⟩)
def tIf (t : TT) (ta tb : TE) : TE := fun σ H Q => t σ H fun c H1 => if c = true then ta σ H1 Q else tb σ H1 Q
theorem pe_ifExp {c : Expr} (hc : PT X c tA) (ha : PE X a ta) (hb : PE X b tb) : PE X (.IfExp c a b pos) (tIf tA ta tb) := by
  intro pins s σ H Q I h
  refine wpAny_IfExp (thn (hc pins s σ H _ I h) fun d s1 ⟨H1, I1, q1⟩ => ?_)
  cases d with
  | true => exact ha pins s1 σ H1 Q I1 q1
  | false => exact hb pins s1 σ H1 Q I1 q1
end
end L2
namespace L2
open PySem PySem.Spec PyProof.Rows
def SqL (K : PySem.W.Frag) (H : Hp) (a : Addr) (xs : List V) : Prop :=
  Rd H a (.lst xs) ∨
    ∃ (o : Obj) (its : Array Value) (n : Nat), K.lookup a = some o ∧ o.cls = .type "list" ∧ o.dict = none ∧ o.data = .seq its n ∧ its.size ≤ sizeLine ∧ Vals xs its.toList
def SqT (K : PySem.W.Frag) (H : Hp) (a : Addr) (xs : List V) : Prop :=
  Rd H a (.tup xs) ∨
    ∃ (o : Obj) (its : Array Value) (n : Nat), K.lookup a = some o ∧ o.cls = .type "tuple" ∧ o.dict = none ∧ o.data = .seq its n ∧ its.size ≤ sizeLine ∧ Vals xs its.toList
def absV : Value → Option V
  | .none => some .non
  | .bool b => some (.bl b)
  | .int i _ => some (.int i)
  | .str x _ => some (.str x)
  | .bytes b _ => some (.byt b)
  | .float b _ => some (.flt b)
  | .ref a => some (.ref a)
  | .type n => some (.ty n)
  | _ => none
theorem RelV.abs {x : V} {u : Value} (r : RelV x u) : absV u = some x := by
  cases x with
  | non => cases r; rfl
  | bl _ => cases r; rfl
  | int _ => obtain ⟨t, rfl⟩ := r; rfl
  | str _ => obtain ⟨t, rfl⟩ := r; rfl
  | byt _ => obtain ⟨t, rfl⟩ := r; rfl
  | flt _ => obtain ⟨t, rfl⟩ := r; rfl
  | ref _ => cases r; rfl
  | ty _ => cases r; rfl
theorem RelV.inj {x y : V} {u : Value} (r : RelV x u) (q : RelV y u) : x = y := Option.some.inj (r.abs.symm.trans q.abs)
theorem Vals.inj : ∀ {xs ys : List V} {us : List Value}, Vals xs us → Vals ys us → xs = ys
  | _, _, _, .nil, .nil => rfl
  | _, _, _, .cons r t, .cons r' t' => by rw [r.inj r', Vals.inj t t']
section
variable {X : Cx} {pins : List (Addr × Obj)} {σ : St} {H : Hp} {s : Shared} {a : Addr} {xs ys : List V}
theorem SqL.of {K : PySem.W.Frag} (h : H a = some (.lst xs)) : SqL K H a xs := .inl (.inl h)
theorem SqT.of {K : PySem.W.Frag} (h : H a = some (.tup xs)) : SqT K H a xs := .inl (.inl h)
theorem Inv.list (I : Inv X pins σ H s) (h : SqL X.K H a xs) : ∃ its : List Value, Vals xs its ∧ PlainL s.heap a its.toArray ∧ xs.length ≤ sizeLine := by
  rcases h with h | ⟨o, its, n, hk, hc, hd, hs, hz, r⟩
  · obtain ⟨z, its, n, r, e⟩ := h.ok I.hok
    exact ⟨its, r, ⟨_, n, e, rfl, rfl, rfl⟩, z⟩
  · refine ⟨its.toList, r, ⟨o, n, I.kIn a o hk, hc, hd, by simpa using hs⟩, ?_⟩
    have e := r.length
    simp only [Array.length_toList] at e
    omega
theorem Inv.tuple (I : Inv X pins σ H s) (h : SqT X.K H a xs) : ∃ its : List Value, Vals xs its ∧ IsTup s.heap a its.toArray ∧ xs.length ≤ sizeLine := by
  rcases h with h | ⟨o, its, n, hk, hc, hd, hs, hz, r⟩
  · obtain ⟨z, its, r, p⟩ := h.ok I.hok
    exact ⟨its, r, p.1, z⟩
  · refine ⟨its.toList, r, ⟨o, I.kIn a o hk, hc, n, by simpa using hs⟩, ?_⟩
    have e := r.length
    simp only [Array.length_toList] at e
    omega
theorem Inv.list_inj (I : Inv X pins σ H s) (h : SqL X.K H a xs) (h' : SqL X.K H a ys) : xs = ys := by
  obtain ⟨its, r, ⟨o, n, e, _, _, d⟩, _⟩ := I.list h
  obtain ⟨its', r', ⟨o', n', e', _, _, d'⟩, _⟩ := I.list h'
  rw [e] at e'; cases e'
  rw [d] at d'
  injection d' with d1 _
  have : its = its' := by simpa using congrArg Array.toList d1
  subst this
  exact r.inj r'
theorem Inv.tuple_inj (I : Inv X pins σ H s) (h : SqT X.K H a xs) (h' : SqT X.K H a ys) : xs = ys := by
  obtain ⟨its, r, ⟨o, e, _, n, d⟩, _⟩ := I.tuple h
  obtain ⟨its', r', ⟨o', e', _, n', d'⟩, _⟩ := I.tuple h'
  rw [e] at e'; cases e'
  rw [d] at d'
  injection d' with d1 _
  have : its = its' := by simpa using congrArg Array.toList d1
  subst this
  exact r.inj r'
end
abbrev Cx.wish (X : Cx) (E : Value → Shared → Prop) : Cx := { X with xe := E }
abbrev Cx.nox (X : Cx) : Cx := X.wish fun _ _ => False
theorem Cx.Ok.wish {X : Cx} (ok : X.Ok) (E : Value → Shared → Prop) : (X.wish E).Ok :=
  ⟨ok.mod, ok.kind, ok.glob, ok.blt, ok.above, ok.inj, ok.has, ok.cab, ok.hd, ok.frames, ok.stk, ok.exf, ok.bs, ok.bsz, ok.noex, ok.exfs, ok.funs, ok.frf⟩
theorem Cx.Ok.unwish {X : Cx} {E : Value → Shared → Prop} (ok : (X.wish E).Ok) : X.Ok :=
  ⟨ok.mod, ok.kind, ok.glob, ok.blt, ok.above, ok.inj, ok.has, ok.cab, ok.hd, ok.frames, ok.stk, ok.exf, ok.bs, ok.bsz, ok.noex, ok.exfs, ok.funs, ok.frf⟩
section
variable {X : Cx} {pins : List (Addr × Obj)} {σ : St} {H : Hp} {s : Shared} {E : Value → Shared → Prop}
theorem Inv.wish (I : Inv X pins σ H s) (E : Value → Shared → Prop) : Inv (X.wish E) pins σ H s := ⟨I.ok.wish E, I.os, I.bare, I.base, I.loc, I.cell, I.free, I.freeC, I.pin, I.hok, I.len⟩
theorem Inv.unwish (I : Inv (X.wish E) pins σ H s) : Inv X pins σ H s := ⟨I.ok.unwish, I.os, I.bare, I.base, I.loc, I.cell, I.free, I.freeC, I.pin, I.hok, I.len⟩
theorem SP.unwish {D : Ends} {f : Flow} {s' : Shared} (h : SP (X.wish E) pins D f s') : SP X pins D f s' := by
  cases f with
  | next => obtain ⟨σ', H', I, q⟩ := h; exact ⟨σ', H', I.unwish, q⟩
  | brk => obtain ⟨σ', H', I, q⟩ := h; exact ⟨σ', H', I.unwish, q⟩
  | cont => obtain ⟨σ', H', I, q⟩ := h; exact ⟨σ', H', I.unwish, q⟩
  | ret u => obtain ⟨v, σ', H', I, r, q⟩ := h; exact ⟨v, σ', H', I.unwish, r, q⟩
theorem PSs.nox {st : List Stmt} {t : TS} (h : PSs X.nox st t) : PSs X st t := fun pins s σ H D I hw =>
  wpAny_mono (h pins s σ H D (I.wish _) hw) (fun _ _ q => q.unwish) fun _ _ z => False.elim z
end
section
variable {X : Cx} {st : Stmt} {rest : List Stmt} {t u : TS} {e : Expr} {te : TE} {pos : Pos}
def tNext : TS := fun D σ H => D.nx σ H
def tSeq (t u : TS) : TS := fun D σ H => t { D with nx := u D } σ H
theorem pss_nil : PSs X [] tNext := fun _ _ σ H _ I h => wpAny_execs_nil ⟨σ, H, I, h⟩
theorem pss_cons (h1 : PS X st t) (h2 : PSs X rest u) : PSs X (st :: rest) (tSeq t u) := by
  intro pins s σ H D I h
  refine wpAny_execs_cons (thn (h1 pins s σ H { D with nx := u D } I h) fun f s1 q => ?_)
  cases f with
  | next =>
    obtain ⟨σ', H', I', q⟩ := q
    exact h2 pins s1 σ' H' D I' q
  | ret v => exact q
  | brk => exact q
  | cont => exact q
theorem pss_one (h1 : PS X st t) : PSs X [st] t := by
  intro pins s σ H D I h
  refine wpAny_execs_cons (thn (h1 pins s σ H D I h) fun f s1 q => ?_)
  cases f with
  | next => exact wpAny_execs_nil q
  | ret v => exact q
  | brk => exact q
  | cont => exact q
theorem Inv.quiet {pins : List (Addr × Obj)} {σ : St} {H : Hp} {s : Shared} (I : Inv X pins σ H s) : interactive X.env = false := by simp [interactive, I.ok.kind]
def tDrop (te : TE) : TS := fun D σ H => te σ H fun _ H1 => D.nx σ H1
theorem ps_expr (he : PE X e te) (hs : swapsWith e none pos.line X.env = pure false := by rfl) : PS X (.Expr e pos) (tDrop te) := by
  intro pins s σ H D I h
  exact wpAny_Expr_any (thn (he pins s σ H _ I h) fun v s1 ⟨x, H1, I1, r1, q1⟩ => ⟨σ, H1, I1, q1⟩) I.quiet hs
def tRet (te : TE) : TS := fun D σ H => te σ H D.rt
theorem ps_ret (he : PE X e te) : PS X (.Return (some e) pos) (tRet te) := by
  intro pins s σ H D I h
  exact wpAny_Return_some (thn (he pins s σ H _ I h) fun v s1 ⟨x, H1, I1, r1, q1⟩ => ⟨x, σ, H1, I1, r1, q1⟩)
def tIfS (c : TT) (t u : TS) : TS := fun D σ H => c σ H fun b H1 => if b = true then t D σ H1 else u D σ H1
theorem ps_if {c : Expr} {a b : List Stmt} {tc : TT} (hc : PT X c tc) (ha : PSs X a t) (hb : PSs X b u) : PS X (.If c a b pos) (tIfS tc t u) := by
  intro pins s σ H D I h
  refine wpAny_If (thn (hc pins s σ H _ I h) fun d s1 ⟨H1, I1, q1⟩ => ?_)
  cases d with
  | true => exact ha pins s1 σ H1 D I1 q1
  | false => exact hb pins s1 σ H1 D I1 q1
end
abbrev TG := V → St → Hp → (St → Hp → Prop) → Prop
abbrev TGs := List V → St → Hp → (St → Hp → Prop) → Prop
def PG (X : Cx) (target : Expr) (t : TG) : Prop :=
  ∀ (pins : List (Addr × Obj)) (s : Shared) (σ : St) (H : Hp) (v : V) (u : Value) (Q : St → Hp → Prop), Inv X pins σ H s → RelV v u → t v σ H Q →
    wpAny (model X.prog X.w) X.A (assign target X.env u) (fun _ s' => ∃ σ' H', Inv X pins σ' H' s' ∧ Q σ' H') X.xe s
def PGs (X : Cx) (ts : List Expr) (t : TGs) : Prop :=
  ∀ (pins : List (Addr × Obj)) (s : Shared) (σ : St) (H : Hp) (vs : List V) (us : List Value) (Q : St → Hp → Prop), Inv X pins σ H s → Vals vs us → t vs σ H Q →
    wpAny (model X.prog X.w) X.A (assignInOrder ((assignEach ts X.env).map (·.2)) us) (fun _ s' => ∃ σ' H', Inv X pins σ' H' s' ∧ Q σ' H') X.xe s
abbrev TSet := V → V → V → Hp → (Hp → Prop) → Prop
def PSet (X : Cx) (t : TSet) : Prop :=
  ∀ (pins : List (Addr × Obj)) (s : Shared) (σ : St) (H : Hp) (o i v : V) (ov iv u : Value) (Q : Hp → Prop), Inv X pins σ H s → RelV o ov → RelV i iv → RelV v u → t o i v H Q →
    wpAny (model X.prog X.w) X.A (setItem ov iv u) (fun _ s' => ∃ H', Inv X pins σ H' s' ∧ Q H') X.xe s
section
variable {X : Cx} {pos : Pos}
def gName (i : Nat) : TG := fun v σ H Q => Q (σ.set i (some v)) H
theorem pg_name {i : Nat} {x : Str} (hN : X.N.Nodup) (hi : X.N[i]? = some x) (hx : Loc X.env.scope x) (hf : X.fn x = true ∨ X.env.scope.names.lookup x = some .local := by first | exact .inl rfl | exact .inr rfl | assumption) : PG X (.Name x pos) (gName i) := by
  intro pins s σ H v u Q I r h
  exact wpAny_assign_Name (store_ok I hN hi hx r (fun s' I' => ⟨_, H, I', h⟩) hf)
def gNil : TGs := fun vs σ H Q => vs = [] ∧ Q σ H
def gCons (t : TG) (u : TGs) : TGs := fun vs σ H Q => ∃ v r, vs = v :: r ∧ t v σ H fun σ' H' => u r σ' H' Q
theorem pgs_nil : PGs X [] gNil := by
  intro pins s σ H vs us Q I r h
  obtain ⟨e, h⟩ := h
  subst e
  cases r
  exact assignInOrder_nil ⟨σ, H, I, h⟩
theorem pgs_cons {e : Expr} {es : List Expr} {t : TG} {u : TGs} (h1 : PG X e t) (h2 : PGs X es u)
    (hs : (assignEach (e :: es) X.env).map (·.2) = assign e X.env :: (assignEach es X.env).map (·.2) := by rfl) : PGs X (e :: es) (gCons t u) := by
  intro pins s σ H vs us Q I r h
  obtain ⟨v, vr, e1, h⟩ := h
  subst e1
  cases r with
  | cons r rr =>
    rw [hs]
    refine assignInOrder_cons (thn (h1 pins s σ H _ _ _ I r h) fun _ s1 ⟨σ1, H1, I1, q1⟩ => ?_)
    exact h2 pins s1 σ1 H1 _ _ Q I1 rr q1
def gTup (K : PySem.W.Frag) (n : Nat) (t : TGs) : TG := fun v σ H Q => ∃ a xs, v = .ref a ∧ SqT K H a xs ∧ xs.length = n ∧ t xs σ H Q
theorem pg_tup {es : List Expr} {k : Nat} {t : TGs} {n : Nat} (hc : X.calm = true) (h : PGs X es t)
    (hn : (assignEach es X.env).length = n := by rfl) (hst : (assignEach es X.env).findIdx? (·.1) = none := by rfl) : PG X (.Tuple es k pos) (gTup X.K n t) := by
  intro pins s σ H v u Q I r hw
  obtain ⟨a, xs, e1, hq, hl, hw⟩ := hw
  subst e1
  cases r
  obtain ⟨its, rv, ht, hz⟩ := I.tuple hq
  refine assign_Tuple_tuple (I.ok.hd hc) ht (by simp [hn, ← hl, rv.length]) hst fun h' hx => ?_
  have I1 : Inv X pins σ H { s with heap := h' } := I.kept (t' := s.toks) fun b o e => hx b o (Nat.ne_of_lt (Heap.lt_size e)) e
  exact h pins _ σ H xs _ Q I1 (by simpa using rv) hw
def gSub (to ti : TE) (t : TSet) : TG := fun v σ H Q => to σ H fun o H1 => ti σ H1 fun i H2 => t o i v H2 fun H3 => Q σ H3
theorem pg_sub {o i : Expr} {to ti : TE} {t : TSet} (ho : PE X o to) (hi : PE X i ti) (hs : PSet X t)
    (ha : ∀ v, assign (.Subscript o i pos) X.env v = (do
      let ov ← holding [v] (eval o X.env)
      let iv ← holding [v, ov] (eval i X.env)
      standAt pos
      holding [v, ov, iv] (setItem ov iv v)
      release [v, ov, iv] []) := by intro _; rfl) : PG X (.Subscript o i pos) (gSub to ti t) := by
  intro pins s σ H v u Q I r h
  rw [ha]
  refine wpAny_bind (wpAny_holding (thn (ho pins s σ H _ I h) fun ov s1 ⟨x, H1, I1, r1, q1⟩ => ?_))
  refine wpAny_bind (wpAny_holding (thn (hi pins s1 σ H1 _ I1 q1) fun iv s2 ⟨y, H2, I2, r2, q2⟩ => ?_))
  refine wpAny_bind (wpAny_standAt (wpAny_bind (wpAny_holding (thn (hs pins s2 σ H2 x y v ov iv u _ I2 r1 r2 r q2) fun _ s3 ⟨H3, I3, q3⟩ => ?_))))
  exact wpAny_release ⟨σ, H3, I3, q3⟩
def tAsg (te : TE) (g : TG) : TS := fun D σ H => te σ H fun x H1 => g x σ H1 D.nx
theorem ps_asg {tg e : Expr} {te : TE} {g : TG} (he : PE X e te) (hg : PG X tg g) (hs : swapsWithSole [tg] e pos.line X.env = pure false := by rfl) (hw : swappedStores [tg] e X.env = pure none := by rfl)
    (h1 : (assignEach [tg] X.env).map (·.2) = [assign tg X.env] := by rfl) : PS X (.Assign [tg] e pos) (tAsg te g) := by
  intro pins s σ H D I h
  refine wpAny_Assign_stores (thn (he pins s σ H _ I h) fun v s1 ⟨x, H1, I1, r1, q1⟩ => ?_) hs hw
  rw [h1]
  exact thn (hg pins s1 σ H1 x v _ I1 r1 q1) fun _ s2 q => q
theorem ps_set {i : Nat} {x : Str} {e : Expr} {te : TE} {pos' : Pos} (hN : X.N.Nodup) (hi : X.N[i]? = some x) (hx : Loc X.env.scope x) (he : PE X e te) (hs : swapsWith e (some (.Name x pos')) pos.line X.env = pure false := by rfl) (hf : X.fn x = true ∨ X.env.scope.names.lookup x = some .local := by first | exact .inl rfl | exact .inr rfl | assumption) :
    PS X (.Assign [.Name x pos'] e pos) (tAsg te (gName i)) := by
  intro pins s σ H D I h
  refine wpAny_Assign_Name (thn (he pins s σ H _ I h) fun v s1 ⟨y, H1, I1, r1, q1⟩ => ?_) hs
  exact store_ok I1 hN hi hx r1 (fun s2 I2 => ⟨_, H1, I2, q1⟩) hf
end
section
variable {X : Cx} {pos : Pos}
end
structure It where
  go : Nat → Hp → Prop
  yld : Nat → Hp → V → Hp → Prop
  stop : Nat → Hp → Prop
def FpOk (X : Cx) (pins : List (Addr × Obj)) (H : Hp) (b : Addr) : Prop :=
  H b = none ∧ b ≠ X.env.locals ∧ b ∉ X.fs ∧ (b ∈ X.ex ∨ X.s₀.heap.objs.size ≤ b) ∧ (∀ x c, X.env.cells.lookup x = some c → c ≠ b) ∧ ∀ p ∈ X.pn ++ pins, p.1 ≠ b
theorem Inv.fpOk {X : Cx} {pins : List (Addr × Obj)} {σ : St} {H H' : Hp} {s : Shared} {b : Addr} (I : Inv X pins σ H s) (hb : s.heap.objs.size ≤ b) (hn : H' b = none) : FpOk X pins H' b := by
  refine ⟨hn, Nat.ne_of_gt (Nat.lt_of_lt_of_le I.lt hb), I.nofs hb, .inr (Nat.le_trans I.sz hb), fun x c e z => ?_, fun p hp z => ?_⟩
  · obtain ⟨v, q⟩ := I.cell x c e
    exact absurd (Nat.lt_of_lt_of_le q.lt (by rw [z]; exact hb)) (Nat.lt_irrefl _)
  · exact absurd (Nat.lt_of_lt_of_le (Heap.lt_size (I.pin p hp).1) (by rw [z]; exact hb)) (Nat.lt_irrefl _)
structure Turn (P : Program) (w : World) (K : PySem.W.Frag) (tg : Expr) (J : It) (fp : List Addr) (it : Addr) (tn : Nat → Heap → Prop) : Prop where
  mem : it ∈ fp
  obj : ∀ i h, tn i h → ∀ b ∈ fp, ∃ o, h.get? b = some o ∧ ∀ v, o.data ≠ .cell v
  keep : ∀ i h h', tn i h → (∀ b ∈ fp, ∀ o, h.get? b = some o → h'.get? b = some o) → tn i h'
  item : ∀ (X : Cx), X.prog = P → X.w = w → X.K = K → X.calm = true → ∀ (i : Nat) (pins : List (Addr × Obj)) (s : Shared) (σ : St) (H : Hp) (E : Value → Shared → Prop), Inv X pins σ H s → (∀ b ∈ fp, FpOk X pins H b) → tn i s.heap → J.go i H →
    wpAny (model P w) X.A (pyNext (.ref it)) (fun r s1 => ∃ u, r = some u ∧
      wpAny (model P w) X.A (letOwnedTupleGo tg (.ref it) u) (fun _ s2 => ∃ x H', Inv X pins σ H' s2 ∧ RelV x u ∧ J.yld i H x H' ∧ tn (i + 1) s2.heap ∧ ∀ b ∈ fp, H' b = none) E s1) E s
  done : ∀ (X : Cx), X.prog = P → X.w = w → X.K = K → X.calm = true → ∀ (i : Nat) (pins : List (Addr × Obj)) (s : Shared) (σ : St) (H : Hp) (E : Value → Shared → Prop), Inv X pins σ H s → (∀ b ∈ fp, FpOk X pins H b) → tn i s.heap → J.stop i H →
    wpAny (model P w) X.A (pyNext (.ref it)) (fun r s1 => r = none ∧ Inv X pins σ H s1) E s
  self : ∀ (A : Around) (i : Nat) (s : Shared) (Q : Value → Shared → Prop) (E : Value → Shared → Prop), tn i s.heap → Q (.ref it) s → wpAny (model P w) A (pyIter (.ref it)) Q E s
abbrev TI := St → Hp → (It → Hp → Prop) → Prop
def PIE (X : Cx) (pins : List (Addr × Obj)) (σ : St) (tg : Expr) (R : It → Hp → Prop) (itv : Value) (s2 : Shared) : Prop :=
  ∃ (it : Addr) (fp : List Addr) (tn : Nat → Heap → Prop) (J : It) (H' : Hp), itv = .ref it ∧ Inv X pins σ H' s2 ∧ Turn X.prog X.w X.K tg J fp it tn ∧ tn 0 s2.heap ∧ (∀ b ∈ fp, FpOk X pins H' b) ∧ R J H'
def PI (X : Cx) (tg iter : Expr) (wi : TI) : Prop :=
  ∀ (pins : List (Addr × Obj)) (s : Shared) (σ : St) (H : Hp) (R : It → Hp → Prop), Inv X pins σ H s → wi σ H R →
    wpAny (model X.prog X.w) X.A (eval iter X.env) (fun v s1 => wpAny (model X.prog X.w) X.A (pyIter v) (PIE X pins σ tg R) X.xe s1) X.xe s
theorem go_of {M : Model} {A : Around} {E : Value → Shared → Prop} {s : Shared} {tg : Expr} {it : Addr} {u : Value} {o : Obj} {n : String} {vs : Array Value} {Q : Unit → Shared → Prop} (ho : s.heap.get? it = some o) (hc : o.cls = .type n) (hd : o.data = .fields vs)
    (hn : ["enumerate", "zip", "dict_itemiterator", "dict_reverseitemiterator", "odict_iterator", "itertools.zip_longest", "itertools.pairwise"].contains n = false) (hQ : Q () s) : wpAny M A (letOwnedTupleGo tg (.ref it) u) Q E s := by
  unfold letOwnedTupleGo
  cases tg <;> first
    | exact wpAny_pure hQ
    | (cases u <;> first
        | exact wpAny_pure hQ
        | (refine wpAny_bind (wpAny_load ho ?_)
           rw [hc, hd]
           show wpAny M A (if (["enumerate", "zip", "dict_itemiterator", "dict_reverseitemiterator", "odict_iterator", "itertools.zip_longest", "itertools.pairwise"].contains n && vs[0]? == some (rawInt _)) = true then _ else _) Q E s
           rw [if_neg (by intro h; rw [hn, Bool.false_and] at h; cases h)]
           exact wpAny_pure hQ))
def Itl (K : PySem.W.Frag) (a : Addr) : It :=
  ⟨fun i H => ∃ xs x, SqL K H a xs ∧ xs[i]? = some x, fun i H x H' => H' = H ∧ ∀ xs, SqL K H a xs → xs[i]? = some x, fun i H => ∃ xs, SqL K H a xs ∧ xs.length ≤ i⟩
def Itt (K : PySem.W.Frag) (a : Addr) : It :=
  ⟨fun i H => ∃ xs x, SqT K H a xs ∧ xs[i]? = some x, fun i H x H' => H' = H ∧ ∀ xs, SqT K H a xs → xs[i]? = some x, fun i H => ∃ xs, SqT K H a xs ∧ xs.length ≤ i⟩
def Itr (lo : Int) (n : Nat) : It := ⟨fun i _ => i < n, fun i H x H' => H' = H ∧ x = .int (lo + i), fun i _ => n ≤ i⟩
theorem turn_list {P : Program} {w : World} {K : PySem.W.Frag} {tg : Expr} (a it : Addr) : Turn P w K tg (Itl K a) [it] it (fun i h => h.IsListIter it a i) where
  mem := by simp
  obj := fun i h st b hb => by
    have e : b = it := by simpa using hb
    subst e
    obtain ⟨o, e, c, d⟩ := st
    exact ⟨o, e, fun v z => by rw [d] at z; cases z⟩
  keep := fun i h h' st k => st.at fun o e => k it (by simp) o e
  item := by
    intro X hP hw hK hc i pins s σ H E I hf st hg
    subst hP hw hK
    obtain ⟨xs, x, hq, hx⟩ := hg
    obtain ⟨its, rv, p, hz⟩ := I.list hq
    obtain ⟨u, hu, ru⟩ := rv.get hx
    obtain ⟨f0, f1, f2, f3, f4, f5⟩ := hf it (by simp)
    refine wpAny_pyNext_list_item st p.isList (x := u) (by simpa using hu) fun h' st' sb => ?_
    have I1 : Inv X pins σ H { s with heap := h' } := I.turned (t' := s.toks) (fun b o hb e => (sb.2 b hb).trans e) f0 f1 f3 f4 f5
    obtain ⟨o, e, c, d⟩ := id st'
    exact ⟨u, rfl, go_of (s := { s with heap := h' }) e c d (by decide) ⟨x, H, I1, ru, ⟨rfl, fun ys hy => by rw [I.list_inj hy hq]; exact hx⟩, st', fun b hb => (hf b hb).1⟩⟩
  done := by
    intro X hP hw hK hc i pins s σ H E I hf st hg
    subst hP hw hK
    obtain ⟨xs, hq, hx⟩ := hg
    obtain ⟨its, rv, p, hz⟩ := I.list hq
    obtain ⟨f0, f1, f2, f3, f4, f5⟩ := hf it (by simp)
    have hl := rv.length
    exact wpAny_pyNext_list_end (I.ok.hd hc) st p.isList (by simp; omega) fun h' eb => ⟨rfl, I.turned (t' := s.toks) (fun b o hb e => eb b o hb e) f0 f1 f3 f4 f5⟩
  self := fun _ _ _ _ _ st h => wpAny_pyIter_listiter st h
theorem turn_tuple {P : Program} {w : World} {K : PySem.W.Frag} {tg : Expr} (a it : Addr) : Turn P w K tg (Itt K a) [it] it (fun i h => h.IsTupleIter it a i) where
  mem := by simp
  obj := fun i h st b hb => by
    have e : b = it := by simpa using hb
    subst e
    obtain ⟨o, e, c, d⟩ := st
    exact ⟨o, e, fun v z => by rw [d] at z; cases z⟩
  keep := fun i h h' st k => st.at fun o e => k it (by simp) o e
  item := by
    intro X hP hw hK hc i pins s σ H E I hf st hg
    subst hP hw hK
    obtain ⟨xs, x, hq, hx⟩ := hg
    obtain ⟨its, rv, p, hz⟩ := I.tuple hq
    obtain ⟨u, hu, ru⟩ := rv.get hx
    obtain ⟨f0, f1, f2, f3, f4, f5⟩ := hf it (by simp)
    refine wpAny_pyNext_tuple_item st (show s.heap.IsTuple a its.toArray from p) (x := u) (by simpa using hu) fun h' st' sb => ?_
    have I1 : Inv X pins σ H { s with heap := h' } := I.turned (t' := s.toks) (fun b o hb e => (sb.2 b hb).trans e) f0 f1 f3 f4 f5
    obtain ⟨o, e, c, d⟩ := id st'
    exact ⟨u, rfl, go_of (s := { s with heap := h' }) e c d (by decide) ⟨x, H, I1, ru, ⟨rfl, fun ys hy => by rw [I.tuple_inj hy hq]; exact hx⟩, st', fun b hb => (hf b hb).1⟩⟩
  done := by
    intro X hP hw hK hc i pins s σ H E I hf st hg
    subst hP hw hK
    obtain ⟨xs, hq, hx⟩ := hg
    obtain ⟨its, rv, p, hz⟩ := I.tuple hq
    obtain ⟨f0, f1, f2, f3, f4, f5⟩ := hf it (by simp)
    have hl := rv.length
    exact wpAny_pyNext_tuple_end (I.ok.hd hc) st (show s.heap.IsTuple a its.toArray from p) (by simp; omega) fun h' eb => ⟨rfl, I.turned (t' := s.toks) (fun b o hb e => eb b o hb e) f0 f1 f3 f4 f5⟩
  self := fun _ _ _ _ _ st h => wpAny_pyIter_tupleiter st h
theorem turn_range {P : Program} {w : World} {K : PySem.W.Frag} {tg : Expr} (it : Addr) (lo : Int) (n : Nat) : Turn P w K tg (Itr lo n) [it] it (fun i h => IsRangeIter h it (lo + (i : Nat) * 1) ((n : Int) - (i : Nat)) 1) where
  mem := by simp
  obj := fun i h st b hb => by
    have e : b = it := by simpa using hb
    subst e
    exact ⟨_, st, fun v z => by
      have z' : Data.fields _ = Data.cell v := z
      cases z'⟩
  keep := fun i h h' st k => k it (by simp) _ st
  item := by
    intro X hP hw hK hc i pins s σ H E I hf st hg
    subst hP hw hK
    obtain ⟨f0, f1, f2, f3, f4, f5⟩ := hf it (by simp)
    have W := Walks.range (prog := X.prog) (w := X.w) (I.ok.hd hc) it lo 1 n
    refine W.item i s _ _ hg st fun v h' tk hv st' kk => ?_
    obtain ⟨t, rfl⟩ := hv
    have I1 : Inv X pins σ H { s with heap := h', toks := tk } := I.turned (fun b o hb e => kk b o (by simpa using hb) e) f0 f1 f3 f4 f5
    refine ⟨_, rfl, go_of (s := { s with heap := h', toks := tk }) (n := "range_iterator") st' rfl rfl (by decide) ⟨.int (lo + i), H, I1, ⟨t, ?_⟩, ⟨rfl, rfl⟩, st', fun b hb => (hf b hb).1⟩⟩
    rw [Int.mul_one]
  done := by
    intro X hP hw hK hc i pins s σ H E I hf st hg
    subst hP hw hK
    obtain ⟨f0, f1, f2, f3, f4, f5⟩ := hf it (by simp)
    exact wpAny_pyNext_range_end (I.ok.hd hc) st (by have : n ≤ i := hg; omega) fun h' eb => ⟨rfl, I.turned (t' := s.toks) (fun b o hb e => eb b o hb e) f0 f1 f3 f4 f5⟩
  self := fun _ _ _ _ _ st h => wpAny_pyIter_rangeiter st h
end L2
namespace L2
open PySem PySem.Spec PyProof.Rows
section
variable {X : Cx} {tg : Expr}
def iList (K : PySem.W.Frag) (tl : TE) : TI := fun σ H R => tl σ H fun x H1 => ∃ a, x = .ref a ∧ (∃ xs, SqL K H1 a xs) ∧ R (Itl K a) H1
def iTup (K : PySem.W.Frag) (tl : TE) : TI := fun σ H R => tl σ H fun x H1 => ∃ a, x = .ref a ∧ (∃ xs, SqT K H1 a xs) ∧ R (Itt K a) H1
theorem pi_list {l : Expr} {tl : TE} (hl : PE X l tl) : PI X tg l (iList X.K tl) := by
  intro pins s σ H R I h
  refine thn (hl pins s σ H _ I h) fun v s1 ⟨x, H1, I1, r1, q1⟩ => ?_
  obtain ⟨a, e, ⟨xs, hq⟩, q⟩ := q1
  subst e
  cases r1
  obtain ⟨its, rv, p, hz⟩ := I1.list hq
  refine wpAny_pyIter_list p.isList ?_
  refine ⟨s1.heap.objs.size, [s1.heap.objs.size], _, _, H1, rfl, I1.kept (t' := s1.toks) fun b o e => Heap.get?_push_of_some _ e, turn_list a _, ⟨_, Heap.get?_push_size _ rfl, rfl, rfl⟩, fun b hb => ?_, q⟩
  have e : b = s1.heap.objs.size := by simpa using hb
  subst e
  exact I1.fpOk (Nat.le_refl _) (I1.hok.fresh (Nat.le_refl _))
theorem pi_tup {l : Expr} {tl : TE} (hl : PE X l tl) : PI X tg l (iTup X.K tl) := by
  intro pins s σ H R I h
  refine thn (hl pins s σ H _ I h) fun v s1 ⟨x, H1, I1, r1, q1⟩ => ?_
  obtain ⟨a, e, ⟨xs, hq⟩, q⟩ := q1
  subst e
  cases r1
  obtain ⟨its, rv, p, hz⟩ := I1.tuple hq
  refine wpAny_pyIter_tuple (show s1.heap.IsTuple a its.toArray from p) ?_
  refine ⟨s1.heap.objs.size, [s1.heap.objs.size], _, _, H1, rfl, I1.kept (t' := s1.toks) fun b o e => Heap.get?_push_of_some _ e, turn_tuple a _, ⟨_, Heap.get?_push_size _ rfl, rfl, rfl⟩, fun b hb => ?_, q⟩
  have e : b = s1.heap.objs.size := by simpa using hb
  subst e
  exact I1.fpOk (Nat.le_refl _) (I1.hok.fresh (Nat.le_refl _))
theorem range_it {pins : List (Addr × Obj)} {σ : St} {H : Hp} {s : Shared} {R : It → Hp → Prop} {E : Value → Shared → Prop} {lo hi : Int} {t u v : Tok} {tk : Nat} (I : Inv X pins σ H s) (h1 : -(2 ^ 62) ≤ lo) (h2 : lo < 2 ^ 62) (h3 : -(2 ^ 62) ≤ hi) (h4 : hi < 2 ^ 62)
    (q : R (Itr lo (hi - lo).toNat) H) : wpAny (model X.prog X.w) X.A (pyIter (.ref s.heap.objs.size)) (PIE X pins σ tg R) E { s with heap := s.heap.push { cls := .type "range", data := .fields #[.int lo t, .int hi u, .int 1 v] }, toks := tk } := by
  refine wpAny_pyIter_range (IsRange.new ..) (small_one h1 h2 h3 h4) ?_
  have I1 : Inv X pins σ H { s with heap := s.heap.push { cls := .type "range", data := .fields #[.int lo t, .int hi u, .int 1 v] }, toks := tk } := I.kept fun b o e => Heap.get?_push_of_some _ e
  refine ⟨(s.heap.push { cls := .type "range", data := .fields #[.int lo t, .int hi u, .int 1 v] }).objs.size, [(s.heap.push { cls := .type "range", data := .fields #[.int lo t, .int hi u, .int 1 v] }).objs.size], _, _, H, rfl,
    I1.kept (t' := tk) fun b o e => Heap.get?_push_of_some _ e, turn_range _ lo (hi - lo).toNat, ?_, fun b hb => ?_, q⟩
  · have e1 : lo + ((0 : Nat) : Int) * 1 = lo := by simp
    have e2 : (((hi - lo).toNat : Nat) : Int) - ((0 : Nat) : Int) = Builtin.Range.rangeSize lo hi 1 := by rw [rangeSize_one]; split <;> omega
    show IsRangeIter _ _ (lo + ((0 : Nat) : Int) * 1) ((((hi - lo).toNat : Nat) : Int) - ((0 : Nat) : Int)) 1
    rw [e1, e2]
    exact Heap.get?_push_size _ rfl
  · have e : b = (s.heap.push { cls := .type "range", data := .fields #[.int lo t, .int hi u, .int 1 v] }).objs.size := by simpa using hb
    subst e
    exact I1.fpOk (Nat.le_refl _) (I1.hok.fresh (Nat.le_refl _))
def iRng1 (ta : TA) : TI := fun σ H R => ta σ H fun vs H1 => ∃ j : Int, vs = [.int j] ∧ -(2 ^ 62) ≤ j ∧ j < 2 ^ 62 ∧ R (Itr 0 j.toNat) H1
theorem pi_range1 {a : Expr} {ta : TA} {p pos : Pos} (hg : Gl X "range") (hm : X.mg "range" = none) (ha : PA X [a] ta) (hs : starEach [a] X.env = [(false, eval a X.env)] := by rfl) : PI X tg (.Call (.Name "range" p) [a] [] pos) (iRng1 ta) := by
  intro pins s σ H R I h
  refine Call_ (ld_blt I hg hm boot_range (PyProof.Rows.callWith_type1 (thn (ha pos pins s σ H _ I h) fun us s1 ⟨vs, H1, I1, r1, q1⟩ => ?_) hs rfl))
  obtain ⟨j, e, q1, q2, q⟩ := q1
  subst e
  cases r1 with
  | cons r rr =>
    cases rr
    obtain ⟨t, rfl⟩ := r
    exact call_range_1 (range_it I1 (by omega) (by omega) q1 q2 (by simpa using q))
def tFor (wi : TI) (g : TG) (tb : TS) : TS := fun D σ H => wi σ H fun J H1 => ∃ W : Nat → Nat → St → Hp → Prop, (∃ m, W 0 m σ H1) ∧ ∀ i m σ H, W i m σ H →
  (J.stop i H ∧ D.nx σ H) ∨ (J.go i H ∧ ∃ N : St → Hp → Prop, (∀ σ' H', N σ' H' → ∃ m', m' < m ∧ W (i + 1) m' σ' H') ∧ ∀ x H', J.yld i H x H' → g x σ H' fun σ2 H2 => tb { D with nx := N, ct := N, bk := D.nx } σ2 H2)
def pinsAt (fp : List Addr) (h : Heap) : List (Addr × Obj) := fp.filterMap fun b => (h.get? b).map fun o => (b, o)
theorem mem_pinsAt {fp : List Addr} {h : Heap} {b : Addr} {o : Obj} (hb : b ∈ fp) (e : h.get? b = some o) : (b, o) ∈ pinsAt fp h := List.mem_filterMap.mpr ⟨b, hb, by rw [e]; rfl⟩
theorem of_pinsAt {fp : List Addr} {h : Heap} {p : Addr × Obj} (hp : p ∈ pinsAt fp h) : p.1 ∈ fp ∧ h.get? p.1 = some p.2 := by
  obtain ⟨b, hb, e⟩ := List.mem_filterMap.mp hp
  cases q : h.get? b with
  | none => rw [q] at e; cases e
  | some o =>
    rw [q] at e
    have e' : (b, o) = p := Option.some.inj e
    subst e'
    exact ⟨hb, q⟩
theorem Inv.pinned {pins : List (Addr × Obj)} {σ : St} {H : Hp} {s : Shared} {fp : List Addr} (I : Inv X pins σ H s) (hf : ∀ b ∈ fp, FpOk X pins H b) (ho : ∀ b ∈ fp, ∃ o, s.heap.get? b = some o ∧ ∀ v, o.data ≠ .cell v) : Inv X (pins ++ pinsAt fp s.heap) σ H s :=
  I.pins_of fun p hp => (List.mem_append.mp hp).elim (fun z => I.pin p (List.mem_append_right _ z)) fun z => by
    obtain ⟨hb, e⟩ := of_pinsAt z
    obtain ⟨f0, f1, f2, _⟩ := hf p.1 hb
    obtain ⟨o, e', d⟩ := ho p.1 hb
    rw [e] at e'; cases e'
    exact ⟨e, f0, f1, f2, d⟩
theorem Inv.unpinned {pins pl : List (Addr × Obj)} {σ : St} {H : Hp} {s : Shared} (I : Inv X (pins ++ pl) σ H s) : Inv X pins σ H s := I.pins_of fun p hp => I.pin p (List.mem_append_right _ (List.mem_append_left _ hp))
theorem ps_for {iter : Expr} {body : List Stmt} {wi : TI} {g : TG} {tb : TS} {pos : Pos} (hp : PassesOwn (model X.prog X.w) X.A X.env X.xe) (hc : X.calm = true) (hi : PI X tg iter wi) (hg : PG X tg g) (hb : PSs X body tb)
    (hs : ∀ x, foldedSetIterable iter X.env x = pure x := by intro _; rfl) : PS X (.For tg iter body [] pos) (tFor wi g tb) := by
  intro pins s σ H D I h
  refine wpAny_For (thn (hi pins s σ H _ I h) fun v s1 h1 => thn h1 fun itv s2 h2 => ?_) hs
  obtain ⟨it, fp, tn, J, H2, e, I2, T, st2, f2, W, ⟨m0, w0⟩, turn⟩ := h2
  subst e
  -- what stays true of the iterator's objects through the loop
  have stat : ∀ {H' : Hp}, (∀ b ∈ fp, H' b = none) → ∀ b ∈ fp, FpOk X pins H' b := fun hn b hb => ⟨hn b hb, (f2 b hb).2⟩
  refine codeAny_forLoop_any (fun n s' => ∃ i σ' H', Inv X pins σ' H' s' ∧ tn i s'.heap ∧ (∀ b ∈ fp, H' b = none) ∧ W i n σ' H') ?_ m0 ⟨0, σ, H2, I2, st2, fun b hb => (f2 b hb).1, w0⟩
  rintro n s3 ⟨i, σ3, H3, I3, st3, fr3, w3⟩
  rcases turn i n σ3 H3 w3 with ⟨stop, qn⟩ | ⟨go, N, hN, step⟩
  · refine wpAny_passesOwn hp (thn (T.done X rfl rfl rfl hc i pins s3 σ3 H3 X.xe I3 (stat fr3) st3 stop) fun r s4 ⟨hr, I4⟩ => ?_)
    subst hr
    exact wpAny_execs_nil ⟨σ3, H3, I4, qn⟩
  · refine wpAny_passesOwn hp (thn (T.item X rfl rfl rfl hc i pins s3 σ3 H3 X.xe I3 (stat fr3) st3 go) fun r s4 ⟨u, hr, h4⟩ => ?_)
    subst hr
    refine wpAny_passesOwn hp (thn h4 fun _ s5 ⟨x, H5, I5, r5, y5, st5, fr5⟩ => ?_)
    have I5' := I5.pinned (stat fr5) (T.obj _ _ st5)
    refine wpAny_passesOwn hp (thn (hg _ s5 σ3 H5 x u _ I5' r5 (step x H5 y5)) fun _ s6 ⟨σ6, H6, I6, q6⟩ => ?_)
    refine wpAny_passesOwn hp (thn (hb _ s6 σ6 H6 _ I6 q6) fun f s7 q7 => ?_)
    have again : ∀ {σ7 : St} {H7 : Hp}, Inv X (pins ++ pinsAt fp s5.heap) σ7 H7 s7 → N σ7 H7 → ∃ m, m < n ∧ ∃ i σ' H', Inv X pins σ' H' s7 ∧ tn i s7.heap ∧ (∀ b ∈ fp, H' b = none) ∧ W i m σ' H' := fun {σ7 H7} I7 n7 => by
      obtain ⟨m', hm, w7⟩ := hN σ7 H7 n7
      refine ⟨m', hm, i + 1, σ7, H7, I7.unpinned, T.keep _ _ _ st5 fun b hb o e => (I7.pin (b, o) (List.mem_append_right _ (List.mem_append_right _ (mem_pinsAt hb e)))).1, fun b hb => ?_, w7⟩
      obtain ⟨o, e, d⟩ := T.obj _ _ st5 b hb
      exact (I7.pin (b, o) (List.mem_append_right _ (List.mem_append_right _ (mem_pinsAt hb e)))).2.1
    cases f with
    | next => obtain ⟨σ7, H7, I7, n7⟩ := q7; exact again I7 n7
    | cont => obtain ⟨σ7, H7, I7, n7⟩ := q7; exact again I7 n7
    | brk => obtain ⟨σ7, H7, I7, q7⟩ := q7; exact ⟨σ7, H7, I7.unpinned, q7⟩
    | ret v => obtain ⟨x7, σ7, H7, I7, r7, q7⟩ := q7; exact ⟨x7, σ7, H7, I7.unpinned, r7, q7⟩
end
theorem for_list {K : PySem.W.Frag} {a : Addr} {xs : List V} {g : TG} {tb : TS} {D : Ends} {σ : St} {H : Hp} (Pv : Nat → St → Hp → Prop) (h0 : Pv 0 σ H) (hl : ∀ i σ H, i ≤ xs.length → Pv i σ H → SqL K H a xs)
    (hs : ∀ i x σ H, xs[i]? = some x → Pv i σ H → g x σ H fun σ2 H2 => tb { D with nx := Pv (i + 1), ct := Pv (i + 1), bk := D.nx } σ2 H2) (hd : ∀ σ H, Pv xs.length σ H → D.nx σ H) :
    ∃ W : Nat → Nat → St → Hp → Prop, (∃ m, W 0 m σ H) ∧ ∀ i m σ H, W i m σ H →
      ((Itl K a).stop i H ∧ D.nx σ H) ∨ ((Itl K a).go i H ∧ ∃ N : St → Hp → Prop, (∀ σ' H', N σ' H' → ∃ m', m' < m ∧ W (i + 1) m' σ' H') ∧ ∀ x H', (Itl K a).yld i H x H' → g x σ H' fun σ2 H2 => tb { D with nx := N, ct := N, bk := D.nx } σ2 H2) := by
  refine ⟨fun i m σ H => m = xs.length - i ∧ i ≤ xs.length ∧ Pv i σ H, ⟨xs.length, by simp, Nat.zero_le _, h0⟩, ?_⟩
  rintro i m σ H ⟨rfl, hi, p⟩
  have q := hl i σ H hi p
  by_cases hlt : i < xs.length
  · refine .inr ⟨⟨xs, xs[i], q, by simp [hlt]⟩, Pv (i + 1), fun σ' H' p' => ⟨xs.length - (i + 1), by omega, rfl, hlt, p'⟩, fun x H' y => ?_⟩
    obtain ⟨e, y⟩ := y
    subst e
    exact hs i x σ _ (y xs q) p
  · have e : i = xs.length := by omega
    subst e
    exact .inl ⟨⟨xs, q, Nat.le_refl _⟩, hd σ H p⟩
theorem for_range {lo : Int} {n : Nat} {g : TG} {tb : TS} {D : Ends} {σ : St} {H : Hp} (Pv : Nat → St → Hp → Prop) (h0 : Pv 0 σ H)
    (hs : ∀ i σ H, i < n → Pv i σ H → g (.int (lo + i)) σ H fun σ2 H2 => tb { D with nx := Pv (i + 1), ct := Pv (i + 1), bk := D.nx } σ2 H2) (hd : ∀ σ H, Pv n σ H → D.nx σ H) :
    ∃ W : Nat → Nat → St → Hp → Prop, (∃ m, W 0 m σ H) ∧ ∀ i m σ H, W i m σ H →
      ((Itr lo n).stop i H ∧ D.nx σ H) ∨ ((Itr lo n).go i H ∧ ∃ N : St → Hp → Prop, (∀ σ' H', N σ' H' → ∃ m', m' < m ∧ W (i + 1) m' σ' H') ∧ ∀ x H', (Itr lo n).yld i H x H' → g x σ H' fun σ2 H2 => tb { D with nx := N, ct := N, bk := D.nx } σ2 H2) := by
  refine ⟨fun i m σ H => m = n - i ∧ i ≤ n ∧ Pv i σ H, ⟨n, by simp, Nat.zero_le _, h0⟩, ?_⟩
  rintro i m σ H ⟨rfl, hi, p⟩
  by_cases hlt : i < n
  · refine .inr ⟨hlt, Pv (i + 1), fun σ' H' p' => ⟨n - (i + 1), by omega, rfl, hlt, p'⟩, fun x H' y => ?_⟩
    obtain ⟨e, y⟩ := y
    subst e y
    exact hs i σ _ hlt p
  · have e : i = n := by omega
    subst e
    exact .inl ⟨Nat.le_refl _, hd σ H p⟩
end L2
namespace L2
open PySem PySem.Spec PyProof.Rows
abbrev R2 := V → V → Hp → VK → Prop
def OpR (X : Cx) (f : Value → Value → Sem Value) (r : R2) : Prop :=
  ∀ (pins : List (Addr × Obj)) (s : Shared) (σ : St) (H : Hp) (x y : V) (v u : Value) (Q : VK), Inv X pins σ H s → RelV x v → RelV y u → r x y H Q →
    wpAny (model X.prog X.w) X.A (f v u) (EP X pins σ Q) X.xe s
def UnR (X : Cx) (f : Value → Sem Value) (r : V → Hp → VK → Prop) : Prop :=
  ∀ (pins : List (Addr × Obj)) (s : Shared) (σ : St) (H : Hp) (x : V) (v : Value) (Q : VK), Inv X pins σ H s → RelV x v → r x H Q →
    wpAny (model X.prog X.w) X.A (f v) (EP X pins σ Q) X.xe s
def CallR (X : Cx) (f : Value) (r : List V → Hp → VK → Prop) : Prop :=
  ∀ (pins : List (Addr × Obj)) (s : Shared) (σ : St) (H : Hp) (xs : List V) (us : List Value) (Q : VK), Inv X pins σ H s → Vals xs us → r xs H Q →
    wpAny (model X.prog X.w) X.A (call f us) (EP X pins σ Q) X.xe s
def TruR (X : Cx) (r : V → Hp → (Bool → Hp → Prop) → Prop) : Prop :=
  ∀ (pins : List (Addr × Obj)) (s : Shared) (σ : St) (H : Hp) (x : V) (v : Value) (Q : Bool → Hp → Prop), Inv X pins σ H s → RelV x v → r x H Q →
    wpAny (model X.prog X.w) X.A (truthy v) (TP X pins σ Q) X.xe s
def tOp (r : R2) (ta tb : TE) : TE := fun σ H Q => ta σ H fun x H1 => tb σ H1 fun y H2 => r x y H2 Q
def tUn (r : V → Hp → VK → Prop) (ta : TE) : TE := fun σ H Q => ta σ H fun x H1 => r x H1 Q
def rI (C : Int → Int → Prop) (g : Int → Int → V) : R2 := fun x y H Q => ∃ i j, x = .int i ∧ y = .int j ∧ C i j ∧ Q (g i j) H
def rI0 (g : Int → Int → V) : R2 := fun x y H Q => ∃ i j, x = .int i ∧ y = .int j ∧ Q (g i j) H
def rU (g : Int → V) : V → Hp → VK → Prop := fun x H Q => ∃ i, x = .int i ∧ Q (g i) H
section
variable {X : Cx} {a b c : Expr} {ta tb tc : TE} {pos : Pos}
theorem binT (ha : PE X a ta) (hb : PE X b tb) {pins : List (Addr × Obj)} {s : Shared} {σ : St} {H : Hp} {R : V → V → Hp → Prop} (I : Inv X pins σ H s)
    (h : ta σ H fun x H1 => tb σ H1 fun y H2 => R x y H2) {Q : Value → Shared → Prop} {f : Value → Value → Sem Value}
    (hf : ∀ v u s2 x y H2, Inv X pins σ H2 s2 → RelV x v → RelV y u → R x y H2 → wpAny (model X.prog X.w) X.A (f v u) Q X.xe s2) :
    wpAny (model X.prog X.w) X.A (eval a X.env) (fun v s₁ => wpAny (model X.prog X.w) X.A (eval b X.env) (fun u s₂ => wpAny (model X.prog X.w) X.A (f v u) Q X.xe s₂) X.xe s₁) X.xe s := by
  refine thn (ha pins s σ H _ I h) fun v s1 ⟨x, H1, I1, r1, q1⟩ => ?_
  refine thn (hb pins s1 σ H1 _ I1 q1) fun u s2 ⟨y, H2, I2, r2, q2⟩ => ?_
  exact hf v u s2 x y H2 I2 r1 r2 q2
theorem pe_op {op : Operator} {r : R2} (ho : OpR X (binaryOp op) r) (ha : PE X a ta) (hb : PE X b tb) : PE X (.BinOp a op b pos) (tOp r ta tb) := by
  intro pins s σ H Q I h
  exact wpAny_BinOp (binT ha hb I h fun v u s2 x y H2 I2 rx ry q => ho pins s2 σ H2 x y v u Q I2 rx ry q)
theorem pe_un {op : UnaryOp} {r : V → Hp → VK → Prop} (ho : UnR X (unaryOp op) r) (ha : PE X a ta) : PE X (.UnaryOp op a pos) (tUn r ta) := by
  intro pins s σ H Q I h
  exact UnaryOp_ (thn (ha pins s σ H _ I h) fun v s1 ⟨x, H1, I1, r1, q1⟩ => ho pins s1 σ H1 x v Q I1 r1 q1)
theorem opI {f : Value → Value → Sem Value} {C : Int → Int → Prop} {g : Int → Int → Int}
    (rule : ∀ (i j : Int) (t u : Tok) (s : Shared) (Q : Value → Shared → Prop) (E : Value → Shared → Prop), C i j → Q (.int (g i j) s.toks) { s with toks := s.toks + 1 } → wpAny (model X.prog X.w) X.A (f (.int i t) (.int j u)) Q E s) :
    OpR X f (rI C fun i j => .int (g i j)) := by
  intro pins s σ H x y v u Q I rx ry h
  obtain ⟨i, j, rfl, rfl, hc, q⟩ := h
  obtain ⟨t, rfl⟩ := rx
  obtain ⟨t', rfl⟩ := ry
  exact rule i j t t' s _ _ hc ⟨.int (g i j), H, I.tok _, ⟨_, rfl⟩, q⟩
theorem opI0 {f : Value → Value → Sem Value} {g : Int → Int → Int}
    (rule : ∀ (i j : Int) (t u : Tok) (s : Shared) (Q : Value → Shared → Prop) (E : Value → Shared → Prop), Q (.int (g i j) s.toks) { s with toks := s.toks + 1 } → wpAny (model X.prog X.w) X.A (f (.int i t) (.int j u)) Q E s) :
    OpR X f (rI0 fun i j => .int (g i j)) := by
  intro pins s σ H x y v u Q I rx ry h
  obtain ⟨i, j, rfl, rfl, q⟩ := h
  obtain ⟨t, rfl⟩ := rx
  obtain ⟨t', rfl⟩ := ry
  exact rule i j t t' s _ _ ⟨.int (g i j), H, I.tok _, ⟨_, rfl⟩, q⟩
theorem opB0 {f : Value → Value → Sem Value} {g : Int → Int → Bool}
    (rule : ∀ (i j : Int) (t u : Tok) (s : Shared) (Q : Value → Shared → Prop) (E : Value → Shared → Prop), Q (.bool (g i j)) s → wpAny (model X.prog X.w) X.A (f (.int i t) (.int j u)) Q E s) :
    OpR X f (rI0 fun i j => .bl (g i j)) := by
  intro pins s σ H x y v u Q I rx ry h
  obtain ⟨i, j, rfl, rfl, q⟩ := h
  obtain ⟨t, rfl⟩ := rx
  obtain ⟨t', rfl⟩ := ry
  exact rule i j t t' s _ _ ⟨.bl (g i j), H, I, rfl, q⟩
def CDiv (i j : Int) : Prop := 0 < j ∧ j < 1073741824
def CPow (i j : Int) : Prop := 0 ≤ j ∧ j ≤ 1000000 ∧ i.natAbs < 2 ^ 64
def CMul (i j : Int) : Prop := (-(2 ^ 64) < i ∧ i < 2 ^ 64) ∨ (-(2 ^ 64) < j ∧ j < 2 ^ 64)
theorem CMul.ok {i j : Int} (h : CMul i j) : IntMulOk i j := by
  rcases h with ⟨h1, h2⟩ | ⟨h1, h2⟩
  · exact .of_left (intBits_le_64 h1 h2)
  · exact .of_right (intBits_le_64 h1 h2)
theorem op_add : OpR X (binaryOp .Add) (rI0 fun i j => .int (i + j)) := opI0 fun _ _ _ _ _ _ _ q => add_int q
theorem op_sub : OpR X (binaryOp .Sub) (rI0 fun i j => .int (i - j)) := opI0 fun _ _ _ _ _ _ _ q => sub_int q
theorem op_mul : OpR X (binaryOp .Mult) (rI CMul fun i j => .int (i * j)) := opI fun _ _ _ _ _ _ _ hc q => mul_int q hc.ok
theorem op_fdiv : OpR X (binaryOp .FloorDiv) (rI CDiv fun i j => .int (i / j)) := opI fun i j _ _ _ _ _ hc q => by
  have h1 : (0 : Int) < j := hc.1
  have h2 : j < 1073741824 := hc.2
  exact floordiv_int (by omega) (by rw [Int.fdiv_eq_ediv_of_nonneg i (by omega)]; exact q) (.inl (PyProof.noPylong_small (by omega)))
theorem op_mod : OpR X (binaryOp .Mod) (rI (fun _ j => 0 < j) fun i j => .int (i % j)) := opI fun i j _ _ _ _ _ hc q => by
  have h1 : (0 : Int) < j := hc
  exact mod_int' (by omega) (by rw [Int.fmod_eq_emod_of_nonneg i (by omega)]; exact q)
theorem op_pow : OpR X (binaryOp .Pow) (rI CPow fun i j => .int (i ^ j.toNat)) := opI fun _ _ _ _ _ _ _ hc q => pow_int_small hc.1 hc.2.1 hc.2.2 q
theorem unI {f : Value → Sem Value} {g : Int → Int}
    (rule : ∀ (i : Int) (t : Tok) (s : Shared) (Q : Value → Shared → Prop) (E : Value → Shared → Prop), Q (.int (g i) s.toks) { s with toks := s.toks + 1 } → wpAny (model X.prog X.w) X.A (f (.int i t)) Q E s) :
    UnR X f (rU fun i => .int (g i)) := by
  intro pins s σ H x v Q I rx h
  obtain ⟨i, rfl, q⟩ := h
  obtain ⟨t, rfl⟩ := rx
  exact rule i t s _ _ ⟨.int (g i), H, I.tok _, ⟨_, rfl⟩, q⟩
theorem un_neg : UnR X (unaryOp .USub) (rU fun i => .int (-i)) := unI fun _ _ _ _ _ q => neg_int q
end
def scal : V → V → Bool
  | .non, .non => true | .non, .int _ => true | .int _, .non => true | .non, .bl _ => true | .bl _, .non => true | .non, .str _ => true | .str _, .non => true
  | .int _, .int _ => true | .bl _, .bl _ => true | .str _, .str _ => true | .byt _, .byt _ => true
  | .int _, .str _ => true | .str _, .int _ => true | .bl _, .str _ => true | .str _, .bl _ => true
  | _, _ => false
def rEq : R2 := fun x y H Q => scal x y = true ∧ Q (.bl (decide (x = y))) H
def rNe : R2 := fun x y H Q => scal x y = true ∧ Q (.bl (!decide (x = y))) H
theorem dec_int {i j : Int} : decide (V.int i = V.int j) = (i == j) := by
  rw [Bool.eq_iff_iff]
  simp
theorem dec_bl {i j : Bool} : decide (V.bl i = V.bl j) = (i == j) := by
  rw [Bool.eq_iff_iff]
  simp
theorem dec_str {i j : Str} : decide (V.str i = V.str j) = (i == j) := by
  rw [Bool.eq_iff_iff]
  simp
theorem dec_byt {i j : Array UInt8} : decide (V.byt i = V.byt j) = (i.toList == j.toList) := by
  rw [Bool.eq_iff_iff]
  cases i
  cases j
  simp
section
variable {X : Cx} {a b c : Expr} {ta tb tc : TE} {pos : Pos}
theorem fin_bl {pins : List (Addr × Obj)} {σ : St} {H : Hp} {s : Shared} {Q : VK} {k k' : Bool} (I : Inv X pins σ H s) (q : Q (.bl k) H) (e : k = k') : EP X pins σ Q (.bool k') s := by
  subst e
  exact ⟨.bl k, H, I, rfl, q⟩
theorem op_eq : OpR X (compareOp .Eq) rEq := by
  intro pins s σ H x y v u Q I rx ry h
  obtain ⟨hs, q⟩ := h
  cases x with
  | non =>
    cases rx
    cases y with
    | non => cases ry; exact PySem.EqNone.eq_none_none (fin_bl I q (by simp))
    | bl j => cases ry; exact PySem.EqNone.eq_none_bool (fin_bl I q (by simp))
    | int j => obtain ⟨t', rfl⟩ := ry; exact PySem.EqNone.eq_none_int (fin_bl I q (by simp))
    | str j => obtain ⟨t', rfl⟩ := ry; exact PySem.EqNone.eq_none_str (fin_bl I q (by simp))
    | _ => exact absurd (show false = true from hs) Bool.false_ne_true
  | bl i =>
    cases rx
    cases y with
    | non => cases ry; exact PySem.EqNone.eq_bool_none (fin_bl I q (by simp))
    | bl j => cases ry; exact eq_bool (fin_bl I q dec_bl)
    | str j => obtain ⟨t', rfl⟩ := ry; exact PySem.EqMixed.eq_bool_str (fin_bl I q (by simp))
    | _ => exact absurd (show false = true from hs) Bool.false_ne_true
  | int i =>
    obtain ⟨t, rfl⟩ := rx
    cases y with
    | non => cases ry; exact PySem.EqNone.eq_int_none (fin_bl I q (by simp))
    | int j => obtain ⟨t', rfl⟩ := ry; exact eq_int (fin_bl I q dec_int)
    | str j => obtain ⟨t', rfl⟩ := ry; exact PySem.EqMixed.eq_int_str (fin_bl I q (by simp))
    | _ => exact absurd (show false = true from hs) Bool.false_ne_true
  | str i =>
    obtain ⟨t, rfl⟩ := rx
    cases y with
    | non => cases ry; exact PySem.EqNone.eq_str_none (fin_bl I q (by simp))
    | bl j => cases ry; exact PySem.EqMixed.eq_str_bool (fin_bl I q (by simp))
    | int j => obtain ⟨t', rfl⟩ := ry; exact PySem.EqMixed.eq_str_int (fin_bl I q (by simp))
    | str j => obtain ⟨t', rfl⟩ := ry; exact eq_str (fin_bl I q dec_str)
    | _ => exact absurd (show false = true from hs) Bool.false_ne_true
  | byt i =>
    obtain ⟨t, rfl⟩ := rx
    cases y with
    | byt j => obtain ⟨t', rfl⟩ := ry; exact PySem.W.eq_bytes (fin_bl I q dec_byt)
    | _ => exact absurd (show false = true from hs) Bool.false_ne_true
  | _ => cases y <;> exact absurd (show false = true from hs) Bool.false_ne_true
theorem op_ne : OpR X (compareOp .NotEq) rNe := by
  intro pins s σ H x y v u Q I rx ry h
  obtain ⟨hs, q⟩ := h
  cases x with
  | non =>
    cases rx
    cases y with
    | non => cases ry; exact PySem.EqNone.ne_none_none (fin_bl I q (by simp))
    | bl j => cases ry; exact PySem.EqNone.ne_none_bool (fin_bl I q (by simp))
    | int j => obtain ⟨t', rfl⟩ := ry; exact PySem.EqNone.ne_none_int (fin_bl I q (by simp))
    | str j => obtain ⟨t', rfl⟩ := ry; exact PySem.EqNone.ne_none_str (fin_bl I q (by simp))
    | _ => exact absurd (show false = true from hs) Bool.false_ne_true
  | bl i =>
    cases rx
    cases y with
    | non => cases ry; exact PySem.EqNone.ne_bool_none (fin_bl I q (by simp))
    | bl j => cases ry; exact ne_bool (fin_bl I q (congrArg not dec_bl))
    | str j => obtain ⟨t', rfl⟩ := ry; exact PySem.EqMixed.ne_bool_str (fin_bl I q (by simp))
    | _ => exact absurd (show false = true from hs) Bool.false_ne_true
  | int i =>
    obtain ⟨t, rfl⟩ := rx
    cases y with
    | non => cases ry; exact PySem.EqNone.ne_int_none (fin_bl I q (by simp))
    | int j => obtain ⟨t', rfl⟩ := ry; exact ne_int (fin_bl I q (congrArg not dec_int))
    | str j => obtain ⟨t', rfl⟩ := ry; exact PySem.EqMixed.ne_int_str (fin_bl I q (by simp))
    | _ => exact absurd (show false = true from hs) Bool.false_ne_true
  | str i =>
    obtain ⟨t, rfl⟩ := rx
    cases y with
    | non => cases ry; exact PySem.EqNone.ne_str_none (fin_bl I q (by simp))
    | bl j => cases ry; exact PySem.EqMixed.ne_str_bool (fin_bl I q (by simp))
    | int j => obtain ⟨t', rfl⟩ := ry; exact PySem.EqMixed.ne_str_int (fin_bl I q (by simp))
    | str j => obtain ⟨t', rfl⟩ := ry; exact ne_str (fin_bl I q (congrArg not dec_str))
    | _ => exact absurd (show false = true from hs) Bool.false_ne_true
  | byt i =>
    obtain ⟨t, rfl⟩ := rx
    cases y with
    | byt j => obtain ⟨t', rfl⟩ := ry; exact PySem.W.ne_bytes (fin_bl I q (congrArg not dec_byt))
    | _ => exact absurd (show false = true from hs) Bool.false_ne_true
  | _ => cases y <;> exact absurd (show false = true from hs) Bool.false_ne_true
theorem op_lt : OpR X (compareOp .Lt) (rI0 fun i j => .bl (decide (i < j))) := opB0 fun _ _ _ _ _ _ _ q => lt_int q
theorem op_le : OpR X (compareOp .LtE) (rI0 fun i j => .bl (decide (i ≤ j))) := opB0 fun _ _ _ _ _ _ _ q => le_int q
theorem op_gt : OpR X (compareOp .Gt) (rI0 fun i j => .bl (decide (j < i))) := opB0 fun _ _ _ _ _ _ _ q => gt_int q
theorem op_ge : OpR X (compareOp .GtE) (rI0 fun i j => .bl (decide (j ≤ i))) := opB0 fun _ _ _ _ _ _ _ q => ge_int q
theorem op_in_str : OpR X (compareOp .In) (fun x y H Q => ∃ i j, x = .str i ∧ y = .str j ∧ Q (.bl (!(Builtin.Str.occurrences j i 0 j.length 1).isEmpty)) H) := by
  intro pins s σ H x y v u Q I rx ry h
  obtain ⟨i, j, rfl, rfl, q⟩ := h
  obtain ⟨t, rfl⟩ := rx
  obtain ⟨t', rfl⟩ := ry
  exact in_str (fin_bl I q rfl)
theorem nomark (b : Expr) {op : CmpOp} (h : op ≠ .In := by decide) (h2 : op ≠ .NotIn := by decide) : behindInMarks op b = false := by
  have e1 : (op == CmpOp.In) = false := by cases op <;> first | rfl | exact absurd rfl h
  have e2 : (op == CmpOp.NotIn) = false := by cases op <;> first | rfl | exact absurd rfl h2
  cases b <;> simp [behindInMarks, e1, e2]
theorem pe_cmpR {op : CmpOp} {r : R2} (ho : OpR X (compareOp op) r) (ha : PE X a ta) (hb : PE X b tb) (hm : behindInMarks op b = false) : PE X (.Compare a [op] [b] pos) (tOp r ta tb) := by
  intro pins s σ H Q I h
  exact wpAny_Compare1 (binT ha hb I h fun v u s2 x y H2 I2 rx ry q => ho pins s2 σ H2 x y v u Q I2 rx ry q) hm
def tTest (t : TE) : TT := fun σ H Q => t σ H fun x H' => ∃ k, x = .bl k ∧ Q k H'
theorem pt_cmpR {op : CmpOp} {r : R2} (ho : OpR X (compareOp op) r) (ha : PE X a ta) (hb : PE X b tb) (hm : behindInMarks op b = false) : PT X (.Compare a [op] [b] pos) (tTest (tOp r ta tb)) := by
  intro pins s σ H Q I h
  refine wpAny_isTrue_Compare1 (thn (ha pins s σ H _ I h) fun v s1 ⟨x, H1, I1, r1, q1⟩ => thn (hb pins s1 σ H1 _ I1 q1) fun u s2 ⟨y, H2, I2, r2, q2⟩ =>
    thn (ho pins s2 σ H2 x y v u _ I2 r1 r2 q2) fun c s3 ⟨z, H3, I3, r3, k, e, q3⟩ => ?_) hm
  subst e
  cases r3
  exact wpAny_truthy_bool ⟨H3, I3, q3⟩
def tChain (r r' : R2) (ta tb tc : TE) : TE := fun σ H Q => ta σ H fun x H1 => tb σ H1 fun y H2 => r x y H2 fun z H3 => ∃ k, z = .bl k ∧
  (if k = true then tc σ H3 fun w' H4 => r' y w' H4 Q else Q (.bl false) H3)
theorem pt_chain {op op' : CmpOp} {r r' : R2} (ho : OpR X (compareOp op) r) (ho' : OpR X (compareOp op') r') (ha : PE X a ta) (hb : PE X b tb) (hc : PE X c tc)
    (hm : lastMarks [op, op'] [b, c] = false := by with_unfolding_all rfl) : PT X (.Compare a [op, op'] [b, c] pos) (tTest (tChain r r' ta tb tc)) := by
  intro pins s σ H Q I h
  refine isTrue_chain (thn (ha pins s σ H _ I h) fun v s1 ⟨x, H1, I1, r1, q1⟩ => test_link (thn (hb pins s1 σ H1 _ I1 q1) fun u s2 ⟨y, H2, I2, r2, q2⟩ =>
    thn (ho pins s2 σ H2 x y v u _ I2 r1 r2 q2) fun d s3 ⟨z, H3, I3, r3, k, e, q3⟩ => ?_)) hm
  subst e
  cases r3
  refine wpAny_truthy_bool ?_
  cases k with
  | false =>
    obtain ⟨k', e', q'⟩ := q3
    cases e'
    exact ite_ff ⟨H3, I3, q'⟩
  | true =>
    refine ite_tt (test_last (thn (hc pins s3 σ H3 _ I3 q3) fun w' s4 ⟨z', H4, I4, r4, q4⟩ => thn (ho' pins s4 σ H4 y z' u w' _ I4 r2 r4 q4) fun d' s5 ⟨z2, H5, I5, r5, k2, e2, q5⟩ => ?_))
    subst e2
    cases r5
    exact wpAny_truthy_bool ⟨H5, I5, q5⟩
def TruV (K : PySem.W.Frag) (x : V) (H : Hp) (k : Bool) : Prop :=
  match x with
  | .non => k = false
  | .bl b => k = b
  | .int i => k = (i != 0)
  | .str y => y.length ≤ sizeLine ∧ k = ((y.length : Int) != 0)
  | .byt y => y.size ≤ sizeLine ∧ k = ((y.size : Int) != 0)
  | .ref p => (∃ xs, SqL K H p xs ∧ k = !xs.isEmpty) ∨ (∃ xs, SqT K H p xs ∧ k = !xs.isEmpty) ∨ ∃ kvs, H p = some (.dK kvs) ∧ k = !kvs.isEmpty
  | _ => False
theorem isEmpty_kv {κ : Type} {kvs : List (κ × V)} {vs : List (κ × Value)} (r : KV kvs vs) : (!vs.isEmpty) = !kvs.isEmpty := by
  cases r <;> rfl
theorem isEmpty_of {xs : List V} {its : List Value} (r : Vals xs its) : (!its.toArray.isEmpty) = !xs.isEmpty := by
  cases r <;> simp
theorem line63 : (sizeLine : Nat) < 2 ^ 63 := by rw [sizeLine_eq]; decide
theorem tru_ok : TruR X (fun x H Q => ∃ k, TruV X.K x H k ∧ Q k H) := by
  intro pins s σ H x v Q I rx h
  obtain ⟨k, e, q⟩ := h
  have hl := line63
  have hs : sizeLine = 16777216 := sizeLine_eq
  cases x with
  | non =>
    cases rx
    have e' : k = false := e
    subst e'
    exact truthy_none ⟨H, I, q⟩
  | bl b =>
    cases rx
    have e' : k = b := e
    subst e'
    exact wpAny_truthy_bool ⟨H, I, q⟩
  | int i =>
    obtain ⟨t, rfl⟩ := rx
    have e' : k = (i != 0) := e
    subst e'
    exact PySem.P.truthy_int ⟨H, I, q⟩
  | str y =>
    obtain ⟨t, rfl⟩ := rx
    obtain ⟨hy, e'⟩ : y.length ≤ sizeLine ∧ k = ((y.length : Int) != 0) := e
    subst e'
    exact PySem.P.truthy_str (by omega) ⟨H, I.tok _, q⟩
  | byt y =>
    obtain ⟨t, rfl⟩ := rx
    obtain ⟨hy, e'⟩ : y.size ≤ sizeLine ∧ k = ((y.size : Int) != 0) := e
    subst e'
    exact PySem.W.truthy_bytes (by omega) ⟨H, I.tok _, q⟩
  | ref p =>
    cases rx
    have e' : (∃ xs, SqL X.K H p xs ∧ k = !xs.isEmpty) ∨ (∃ xs, SqT X.K H p xs ∧ k = !xs.isEmpty) ∨ ∃ kvs, H p = some (.dK kvs) ∧ k = !kvs.isEmpty := e
    rcases e' with ⟨xs, hx, e'⟩ | ⟨xs, hx, e'⟩ | ⟨kvs, hx, e'⟩
    · subst e'
      obtain ⟨its, r, pl, hz⟩ := I.list hx
      have hlen := r.length
      exact wpAny_truthy_list pl.isList (by simp only [List.size_toArray]; omega) ⟨H, I.tok _, by rw [isEmpty_of r]; exact q⟩
    · subst e'
      obtain ⟨its, r, pl, hz⟩ := I.tuple hx
      have hlen := r.length
      exact truthy_tuple pl (by simp only [List.size_toArray]; omega) ⟨H, I.tok _, by rw [isEmpty_of r]; exact q⟩
    · subst e'
      obtain ⟨hz, hS, vs, r, m⟩ : kvs.length ≤ sizeLine ∧ (p == sysModules) = false ∧ ∃ vs, KV kvs vs ∧ s.heap.DictOf (mixKind X.prog X.w) p vs := I.hok p _ hx
      have hlen : kvs.length = vs.length := Paired.length r
      exact wpAny_truthy_dict hS m (by omega) ⟨H, I.tok _, by rw [isEmpty_kv r]; exact q⟩
  | _ => exact (show False from e).elim
theorem pt_truth (ha : PE X a ta) (he : ∀ whole, isTrue a X.env whole = (do let v ← whole; standAt a.pos; holding [v] (truthy v))) :
    PT X a (fun σ H Q => ta σ H fun x H' => ∃ k, TruV X.K x H' k ∧ Q k H') := by
  intro pins s σ H Q I h
  exact isTrue_plain (thn (ha pins s σ H _ I h) fun v s1 ⟨x, H1, I1, r1, q1⟩ => tru_ok pins s1 σ H1 x v Q I1 r1 q1) (he _)
theorem op_add_str : OpR X (binaryOp .Add) (fun x y H Q => ∃ i j, x = .str i ∧ y = .str j ∧ i.length + j.length ≤ sizeLine ∧ Q (.str (i ++ j)) H) := by
  intro pins s σ H x y v u Q I rx ry h
  obtain ⟨i, j, rfl, rfl, hz, q⟩ := h
  obtain ⟨t, rfl⟩ := rx
  obtain ⟨t', rfl⟩ := ry
  exact add_str (fun t' tk => ⟨.str (i ++ j), H, I.tok _, ⟨_, rfl⟩, q⟩) hz
def PlainIxT (b : Expr) : Prop := ∀ o i, subscripted b false o i = operate [o, i] (getItem o i)
theorem pe_item_str (ha : PE X a ta) (hb : PE X b tb) (hs : PlainIxT b) :
    PE X (.Subscript a b pos) (tOp (fun x y H Q => ∃ z i c, x = .str z ∧ y = .int i ∧ 0 ≤ i ∧ i < 2 ^ 63 ∧ i < z.length ∧ z.cps[i.toNat]? = some c ∧ Q (.str ⟨#[c]⟩) H) ta tb) := by
  intro pins s σ H Q I h
  refine Subscript_ (binT ha hb I h fun v u s2 x y H2 I2 rx ry q => ?_)
  obtain ⟨z, i, c, rfl, rfl, h0, h63, h1, hc, q⟩ := q
  obtain ⟨t, rfl⟩ := rx
  obtain ⟨t', rfl⟩ := ry
  have e : seqIndex? i z.length = some i.toNat := PySem.StrLaws.seqIndex_nonneg h0 h1
  exact tail_any (typeIs_str s2 z t) slot_str_getitem.lookup (getItem_str (c := c) (by
    have e1 : decide (i < -(2 ^ 63 : Int)) = false := decide_eq_false (by omega)
    have e2 : decide (i ≥ 2 ^ 63) = false := decide_eq_false (by omega)
    rw [e1, e2] <;> rfl) (by rw [e]; exact hc) ⟨.str ⟨#[c]⟩, H2, I2.tok _, ⟨_, rfl⟩, q⟩) (hs _ _)
theorem vals1 {x : V} {us : List Value} (r : Vals [x] us) : ∃ u, us = [u] ∧ RelV x u := by
  cases r with
  | cons r1 r2 => cases r2; exact ⟨_, rfl, r1⟩
theorem vals2 {x y : V} {us : List Value} (r : Vals [x, y] us) : ∃ u w', us = [u, w'] ∧ RelV x u ∧ RelV y w' := by
  cases r with
  | cons r1 r2 =>
    cases r2 with
    | cons r3 r4 => cases r4; exact ⟨_, _, rfl, r1, r3⟩
theorem call_max2 (hc : X.calm = true) : CallR X (.builtin "max") (fun xs H Q => ∃ i j, xs = [.int i, .int j] ∧ Q (.int (if j > i then j else i)) H) := by
  intro pins s σ H xs us Q I r h
  obtain ⟨i, j, rfl, q⟩ := h
  obtain ⟨u, w', rfl, ⟨t, rfl⟩, ⟨t', rfl⟩⟩ := vals2 r
  refine max_two_ints (I.ok.hd hc) fun h' tk k => ⟨_, H, I.kept k, ?_, q⟩
  by_cases hj : j > i
  · rw [if_pos hj, if_pos hj]; exact ⟨_, rfl⟩
  · rw [if_neg hj, if_neg hj]; exact ⟨_, rfl⟩
theorem call_int1 : CallR X (.type "int") (fun xs H Q => (∃ i, xs = [.int i] ∧ Q (.int i) H) ∨ ∃ k, xs = [.bl k] ∧ Q (.int (if k then 1 else 0)) H) := by
  intro pins s σ H xs us Q I r h
  rcases h with ⟨i, rfl, q⟩ | ⟨k, rfl, q⟩
  · obtain ⟨u, rfl, t, rfl⟩ := vals1 r
    exact call_int_int ⟨.int i, H, I, ⟨_, rfl⟩, q⟩
  · obtain ⟨u, rfl, r1⟩ := vals1 r
    cases r1
    exact call_int_bool ⟨.int (if k then 1 else 0), H, I.tok _, ⟨_, rfl⟩, q⟩
theorem call_str_int : CallR X (.type "str") (fun xs H Q => ∃ i, xs = [.int i] ∧ i.natAbs.log2 < 1920 ∧ Q (.str (toString i)) H) := by
  intro pins s σ H xs us Q I r h
  obtain ⟨i, rfl, hz, q⟩ := h
  obtain ⟨u, rfl, t, rfl⟩ := vals1 r
  exact PySem.P.str_of_int hz ⟨.str _, H, I.tok _, ⟨_, rfl⟩, q⟩
end
end L2
namespace L2
open PySem PySem.Spec PyProof.Rows
section
variable {prog : Program} {w : World} {A : Around} {E : Value → Shared → Prop} {s : Shared} {K : PySem.W.Frag} {x dx C f : Addr} {mA : Str → Option Value} {name : Str} {v : Value}
end
section
variable {P : Program} {w : World} {H H' : Hp} {h h' : Heap} {a C dx : Addr} {fs fs' : List (Str × V)}
end
section
variable {X : Cx} {pins : List (Addr × Obj)} {σ : St} {H : Hp} {s : Shared} {a C dx : Addr} {fs : List (Str × V)} {f : Str} {v : V} {A : Around} {E : Value → Shared → Prop}
theorem attr_of {prog : Program} {w : World} {env : Env} {e : Expr} {f : Str} {pos : Pos} {s : Shared} {Q : Value → Shared → Prop} (hb : attributeBase e f env (eval e env) = eval e env)
    (h : wpAny (model prog w) A (eval e env) (fun o s₁ => wpAny (model prog w) A (getAttr o f true) Q E s₁) E s) : wpAny (model prog w) A (eval (.Attribute e f pos) env) Q E s :=
  Attribute_any_ h (by rw [arm_eval_Attribute, hb])
end
section
variable {X : Cx} {o e value : Expr} {f : Str} {pos pos' tpos : Pos} {ta tv : TE}
end
section
variable {X : Cx} {pins : List (Addr × Obj)} {σ : St} {H : Hp} {s : Shared} {A : Around} {E : Value → Shared → Prop} {Q : Value → Shared → Prop} {c : Value} {b : Bool}
end
end L2
namespace L2
open PySem PySem.Spec PyProof.Rows
structure Room (k : Nat) (A : Around) : Prop where
  hd : A.handled = none
  dp : A.depth + 3 * k + 5 < recursionLimit
  un : A.units + 16 * k + 200 < cLine
theorem Room.mono {j k : Nat} {A : Around} (r : Room k A) (h : j ≤ k) : Room j A := ⟨r.hd, by have := r.dp; omega, by have := r.un; omega⟩
theorem Room.deeper {k : Nat} {A : Around} (r : Room (k + 1) A) (env : Env) : Room k (A.deeper env) :=
  ⟨r.hd, by have := r.dp; show A.depth + 1 + 3 * k + 5 < _; omega, by have := r.un; show A.units + 3 + 16 * k + 200 < _; omega⟩
theorem make_depth {A : Around} {C : Addr} {us : List Value} {kw : List (Str × Value)} : (A.under (.builtin "type.__call__" ⟨.ref C :: us, kw⟩)).depth = A.depth + 1 := by
  first | rfl | simp [Around.under, Code.weight, Code.isCreation, Code.isGuard, Code.isCaller, Code.frames, Code.isFrame, guardIds]
theorem make_units {A : Around} {C : Addr} {us : List Value} {kw : List (Str × Value)} : (A.under (.builtin "type.__call__" ⟨.ref C :: us, kw⟩)).units = A.units + 1 := by
  first | rfl | simp [Around.under, Code.cUnits, Code.frames, Code.isFrame]
theorem Room.make {k : Nat} {A : Around} (r : Room (k + 1) A) (C : Addr) (us : List Value) (kw : List (Str × Value)) : Room k (A.under (.builtin "type.__call__" ⟨.ref C :: us, kw⟩)) :=
  ⟨r.hd, by have := r.dp; rw [make_depth]; omega, by have := r.un; rw [make_units]; omega⟩
theorem Room.depth {k : Nat} {A : Around} (r : Room k A) : A.depth < recursionLimit := by have := r.dp; omega
theorem Room.units {k : Nat} {A : Around} (r : Room k A) : A.units + 64 < cLine := by have := r.un; omega
def tNil : TA := fun _ H Q => Q [] H
def tCons (ta : TE) (tr : TA) : TA := fun σ H Q => ta σ H fun x H1 => tr σ H1 fun xs H2 => Q (x :: xs) H2
section
variable {X : Cx} {e : Expr} {es : List Expr} {te : TE} {t : TA} {pos : Pos}
theorem pa_nil : PA X [] tNil := fun _ _ _ _ H Q I h => Calls.spliced_nil ⟨[], H, I, .nil, h⟩
theorem pa_cons (ha : PE X e te) (hr : PA X es t) (hs : starEach (e :: es) X.env = (false, eval e X.env) :: starEach es X.env := by rfl) : PA X (e :: es) (tCons te t) := by
  intro pos pins s σ H Q I h
  rw [hs]
  show wpAny _ _ (spliced ((false, eval e X.env) :: backTo pos (starEach es X.env))) _ _ s
  refine Calls.spliced_cons (thn (ha pins s σ H _ I h) fun u s1 ⟨x, H1, I1, r1, q1⟩ => ?_)
  exact thn (hr pos pins s1 σ H1 _ I1 q1) fun us s2 ⟨xs, H2, I2, r2, q2⟩ => ⟨x :: xs, H2, I2, .cons r1 r2, q2⟩
end
abbrev Sp := List V → Hp → VK → XK → Prop
abbrev CXT := List Env → Hp → Shared → XK → Value → Shared → Prop
structure Env0 (P : Program) (w : World) (K : PySem.W.Frag) (mg : Str → Option Value) (base : Heap) (A : Around) (outer : List Env) (s : Shared) (H : Hp) : Prop where
  frames : A.frames = some outer
  mod : Mod K mg base
  bs : ∀ b o, base.get? b = some o → s.heap.get? b = some o ∧ H b = none
  bsz : base.objs.size ≤ s.heap.objs.size
  funs : s.heap.FunFrames base outer
  frf : ∀ b ∈ frs outer, H b = none
  hok : HOk P w H s.heap
  bare : AllBare s.gens
def CE (outer : List Env) (P : Program) (w : World) (H : Hp) (s : Shared) (Q : VK) (u : Value) (s' : Shared) : Prop :=
  ∃ v H', s'.os = s.os ∧ AllBare s'.gens ∧ Un (frs outer) [] H H' s.heap s'.heap ∧ HOk P w H' s'.heap ∧ RelV v u ∧ Q v H'
def CR (CX : CXT) (outer : List Env) (P : Program) (w : World) (H : Hp) (s : Shared) (Q : VK) (E : XK) (r : Result) (s' : Shared) : Prop :=
  match r with
  | .ok (.ret u) => CE outer P w H s Q u s'
  | .ok _ => False
  | .error e => CX outer H s E e s'
structure FnOk (P : Program) (w : World) (K : PySem.W.Frag) (mg : Str → Option Value) (base : Heap) (CX : CXT) (k : Nat) (f : Addr) (fd : FuncData) (ps : List Str) (sp : Sp) : Prop where
  len : ∀ vs H Q E, sp vs H Q E → vs.length = ps.length
  run : ∀ (A : Around) (outer : List Env) (s : Shared) (H : Hp) (args : Args) (us : List Value) (vs : List V) (Q : VK) (E : XK), Room k A → Env0 P w K mg base A outer s H → BindsTo s fd args (ps.zip us) → Vals vs us → sp vs H Q E →
    codeAny (model P w) A (.call (.ref f) args) (CR CX outer P w H s Q E) s
theorem FnOk.mono {P : Program} {w : World} {K : PySem.W.Frag} {mg : Str → Option Value} {base : Heap} {CX : CXT} {j k : Nat} {f : Addr} {fd : FuncData} {ps : List Str} {sp : Sp} (F : FnOk P w K mg base CX j f fd ps sp) (h : j ≤ k) :
    FnOk P w K mg base CX k f fd ps sp := ⟨F.len, fun A outer s H args us vs Q E hr => F.run A outer s H args us vs Q E (hr.mono h)⟩
theorem Env0.make {P : Program} {w : World} {K : PySem.W.Frag} {mg : Str → Option Value} {base : Heap} {A : Around} {outer : List Env} {s : Shared} {H : Hp} (e : Env0 P w K mg base A outer s H) (C : Addr) (us : List Value) (kw : List (Str × Value)) :
    Env0 P w K mg base (A.under (.builtin "type.__call__" ⟨.ref C :: us, kw⟩)) outer s H := ⟨by first | exact e.frames | (simpa [Around.under, Code.envs, Code.isFrame, pushEnvs] using e.frames), e.mod, e.bs, e.bsz, e.funs, e.frf, e.hok, e.bare⟩
section
variable {X : Cx} {pins : List (Addr × Obj)} {σ : St} {H : Hp} {s s' : Shared}
theorem Inv.env0 (I : Inv X pins σ H s) : Env0 X.prog X.w X.K X.mg X.base X.A X.stack s H :=
  ⟨I.ok.frames, I.ok.mod, I.bs, Nat.le_trans I.ok.bsz I.sz, I.stack, I.stkFree, I.hok, I.bare⟩
theorem Inv.after {Q : VK} {u : Value} (I : Inv X pins σ H s) (h : CE X.stack X.prog X.w H s Q u s') : EP X pins σ Q u s' := by
  obtain ⟨v, H', os, bare, un, hok, r, q⟩ := h
  obtain ⟨hh, g, d, t, os'⟩ := s'
  obtain rfl : os' = s.os := os
  exact ⟨v, H', I.call (h' := hh) (g' := g) (d' := d) (t' := t) (ch := []) un hok bare (fun b z => absurd z (by simp)), r, q⟩
end
def tCall (sp : Sp) (dvs : List V) (E : XK) (t : TA) : TE := fun σ H Q => t σ H fun vs H1 => sp (vs ++ dvs) H1 Q E
def Binds (K : PySem.W.Frag) (fd : FuncData) (ps : List Str) (ds : List Value) : Prop :=
  ∀ (s : Shared) (us : List Value), K.In s.heap → (us ++ ds).length = ps.length → BindsTo s fd ⟨us, []⟩ (ps.zip (us ++ ds))
theorem Binds.all {K : PySem.W.Frag} {fd : FuncData} {ps : List Str} (h : ∀ us : List Value, us.length = ps.length → bindArgs fd ⟨us, []⟩ = pure (ps.zip us)) : Binds K fd ps [] := fun s us _ hl => by
  rw [List.append_nil] at hl ⊢
  exact .of_eq (h us hl)
def Passes (CX : CXT) (X : Cx) (E : XK) : Prop := ∀ (pins : List (Addr × Obj)) (σ : St) (H : Hp) (s : Shared) (e : Value) (s' : Shared), Inv X pins σ H s → CX X.stack H s E e s' → X.xe e s'
section
variable {X : Cx} {CX : CXT} {k : Nat} {f C : Addr} {fd : FuncData} {ps : List Str} {sp : Sp} {dvs : List V} {ds : List Value} {E : XK} {x m : Str} {p pos apos : Pos} {e o : Expr} {es : List Expr} {ta : TE} {t : TA}
theorem run_fn {pins : List (Addr × Obj)} {σ : St} {H : Hp} {s : Shared} {Q : VK} {us : List Value} {vs : List V} (F : FnOk X.prog X.w X.K X.mg X.base CX k f fd ps sp) (hr : Room k X.A) (hb : Binds X.K fd ps ds) (hd : Vals dvs ds) (hx : Passes CX X E)
    (I : Inv X pins σ H s) (r : Vals vs us) (h : sp (vs ++ dvs) H Q E) : wpAny (model X.prog X.w) X.A (call (.ref f) us) (EP X pins σ Q) X.xe s := by
  have r2 : Vals (vs ++ dvs) (us ++ ds) := r.append hd
  have hl : (us ++ ds).length = ps.length := by rw [← r2.length]; exact F.len _ _ _ _ h
  refine wpAny_call (codeAny_mono (F.run X.A X.stack s H ⟨us, []⟩ (us ++ ds) (vs ++ dvs) Q E hr I.env0 (hb s us I.kIn hl) r2 h) fun r s' hq => ?_)
  cases r with
  | error e => exact hx pins σ H s e s' I hq
  | ok fl =>
    cases fl with
    | ret u => exact I.after hq
    | next => exact False.elim hq
    | brk => exact False.elim hq
    | cont => exact False.elim hq
theorem pe_call (F : FnOk X.prog X.w X.K X.mg X.base CX k f fd ps sp) (hr : Room k X.A) (hg : Gl X x) (hm : X.mg x = some (.ref f)) (hk : PySem.W.keepIn X.K (.ref f) = true) (hb : Binds X.K fd ps ds) (hd : Vals dvs ds) (hx : Passes CX X E)
    (ha : PA X (e :: es) t) (hdb : (x == ("__debug__" : Str)) = false := by decide) (he : starEach (e :: es) X.env = (false, eval e X.env) :: starEach es X.env := by rfl) (hpl : (backTo pos (starEach es X.env)).any (·.1) = false := by rfl) :
    PE X (.Call (.Name x p) (e :: es) [] pos) (tCall sp dvs E t) := by
  intro pins s σ H Q I h
  refine wpAny_Call_Name_kw (ld_glob I hg hm ?_ hdb)
  refine PySem.W.callWith_K (h₀ := X.base) I.ok.mod.kin hk (thn (ha pos pins s σ H _ I h) fun us s1 ⟨vs, H1, I1, r, q⟩ => ⟨I1.kIn, ?_⟩) he hpl
  exact run_fn F hr hb hd hx I1 r q
end
section
variable {X : Cx} {CX : CXT} {k : Nat} {f C : Addr} {fd : FuncData} {ps ks : List Str} {sp : Sp} {E : XK} {x m : Str} {p pos apos kpos : Pos} {e o : Expr} {es : List Expr} {kws : List Keyword} {te ta : TE} {t tk : TA} {nm : Option Str}
variable {g : List Value → List Value → List Value} {gV : List V → List V → List V}
end
structure FnScope (N P : List Str) (sc : Scope) : Prop where
  kind : sc.kind = .function
  co : sc.isCoroutine = false
  gen : sc.isGenerator = false
  nd : N.Nodup
  pre : N.take P.length = P
  par : ∀ x ∈ P, sc.names.lookup x = some .local ∨ sc.names.lookup x = some .cell
  nofree : ∀ y ∈ sc.names, y.2 ≠ .free
theorem bindL_out {kindOf : Str → Option NameKind} {x : Str} : ∀ {binds : List (Str × Value)} {m : Str → Option Value}, (∀ v, (x, v) ∉ binds) → bindL kindOf binds m x = m x
  | [], _, _ => rfl
  | (n, v) :: r, m, h => by
    unfold bindL
    rw [bindL_out fun w hw => h w (List.mem_cons_of_mem _ hw)]
    split
    · have : x ≠ n := by rintro rfl; exact h v List.mem_cons_self
      simp [this]
    · rfl
theorem bindC_out {kindOf : Str → Option NameKind} {x : Str} : ∀ {binds : List (Str × Value)} {m : Str → Option Value}, (∀ v, (x, v) ∉ binds) → bindC kindOf binds m x = m x
  | [], _, _ => rfl
  | (n, v) :: r, m, h => by
    unfold bindC
    rw [bindC_out fun w hw => h w (List.mem_cons_of_mem _ hw)]
    split
    · rfl
    · have : x ≠ n := by rintro rfl; exact h v List.mem_cons_self
      simp [this]
theorem bindL_get {kindOf : Str → Option NameKind} {x : Str} {v : Value} : ∀ {P : List Str} {vs : List Value} {i : Nat} {m : Str → Option Value}, P.Nodup → P[i]? = some x → vs[i]? = some v → kindOf x = some .local →
    bindL kindOf (P.zip vs) m x = some v
  | [], _, _, _, _, h, _, _ => by simp at h
  | _ :: _, [], _, _, _, _, h, _ => by simp at h
  | p :: P, w :: vs, 0, m, nd, h1, h2, hk => by
    simp at h1 h2; subst h1; subst h2
    show bindL kindOf ((p, w) :: P.zip vs) m p = _
    unfold bindL
    rw [bindL_out fun v hv => (List.nodup_cons.mp nd).1 (List.of_mem_zip hv).1, if_pos hk]
    simp
  | p :: P, w :: vs, i + 1, m, nd, h1, h2, hk => by
    show bindL kindOf ((p, w) :: P.zip vs) m x = _
    unfold bindL
    exact bindL_get (i := i) (List.nodup_cons.mp nd).2 (by simpa using h1) (by simpa using h2) hk
theorem bindC_get {kindOf : Str → Option NameKind} {x : Str} {v : Value} : ∀ {P : List Str} {vs : List Value} {i : Nat} {m : Str → Option Value}, P.Nodup → P[i]? = some x → vs[i]? = some v → kindOf x ≠ some .local →
    bindC kindOf (P.zip vs) m x = some v
  | [], _, _, _, _, h, _, _ => by simp at h
  | _ :: _, [], _, _, _, _, h, _ => by simp at h
  | p :: P, w :: vs, 0, m, nd, h1, h2, hk => by
    simp at h1 h2; subst h1; subst h2
    show bindC kindOf ((p, w) :: P.zip vs) m p = _
    unfold bindC
    rw [bindC_out fun v hv => (List.nodup_cons.mp nd).1 (List.of_mem_zip hv).1, if_neg hk]
    simp
  | p :: P, w :: vs, i + 1, m, nd, h1, h2, hk => by
    show bindC kindOf ((p, w) :: P.zip vs) m x = _
    unfold bindC
    exact bindC_get (i := i) (List.nodup_cons.mp nd).2 (by simpa using h1) (by simpa using h2) hk
def start (N : List Str) (vs : List V) : St := vs.map some ++ List.replicate (N.length - vs.length) none
def cxOf (CX : CXT) (P : Program) (w : World) (K : PySem.W.Frag) (mg : Str → Option Value) (base : Heap) (N : List Str) (qual : Str) (scope : Scope) (f : Addr) (cd : Value) (A : Around) (outer : List Env) (s : Shared) (H : Hp) (E : XK) : Cx where
  prog := P
  w := w
  K := K
  mg := mg
  base := base
  A := A.deeper (envOfC qual scope s.heap.objs.size f cd)
  N := N
  s₀ := s
  H₀ := H
  env := envOfC qual scope s.heap.objs.size f cd
  outer := outer
  stack := envOfC qual scope s.heap.objs.size f cd :: outer
  ex := []
  calm := true
  fn := fun _ => true
  pn := []
  xe := fun e s' => wpAny (model P w) (A.deeper (envOfC qual scope s.heap.objs.size f cd)) (leaving (envOfC qual scope s.heap.objs.size f cd) e) (fun _ s'' => CX outer H s E e s'') (fun e' s'' => CX outer H s E e' s'') s'
theorem cell_has {sc : Scope} {n : Nat} {x : Str} (h : sc.names.lookup x = some .cell) : ∃ c, (cellsFrom n sc.names []).lookup x = some c := by
  have q := PySem.W.cellsFrom_some sc.names n [] (.inl h)
  exact Option.isSome_iff_exists.mp q
theorem inv_start {CX : CXT} {P : Program} {w : World} {K : PySem.W.Frag} {mg : Str → Option Value} {base : Heap} {N ps : List Str} {qual : Str} {scope : Scope} {f : Addr} {cd : Value} {A : Around} {outer : List Env} {s s1 : Shared} {H : Hp} {E : XK} {us : List Value} {vs : List V}
    (S : FnScope N ps scope) (hd : A.handled = none) (e0 : Env0 P w K mg base A outer s H) (hl : vs.length = ps.length) (r : Vals vs us)
    (x : InCallC s s.heap.objs.size (bindL (envOfC qual scope s.heap.objs.size f cd).kindOf (ps.zip us) fun _ => none) (cellsFrom (s.heap.objs.size + 1) scope.names []) (bindC (envOfC qual scope s.heap.objs.size f cd).kindOf (ps.zip us) fun _ => none) s1) :
    Inv (cxOf CX P w K mg base N qual scope f cd A outer s H E) [] (start N vs) H s1 := by
  have hpl : ps.length ≤ N.length := by have := congrArg List.length S.pre; rw [List.length_take] at this; omega
  obtain ⟨h1, tk, rfl, hk⟩ := x.done
  have noA : ∀ b : Addr, b ∉ (cxOf CX P w K mg base N qual scope f cd A outer s H E).ex := fun b z => absurd (show b ∈ ([] : List Addr) from z) (by simp)
  refine ⟨⟨e0.mod, S.kind, rfl, rfl, Nat.le_refl _, fun y z c h1 h2 => ?_, fun y hy => ?_, fun y c _ h => ?_, fun _ => hd, Around.frames_deeper e0.frames, .inr ⟨rfl, rfl⟩, fun b z => absurd z (noA b), e0.bs, e0.bsz, fun b _ _ => noA b, fun b z => absurd z (noA b), e0.funs, e0.frf⟩,
    rfl, e0.bare, Un.kept hk, ⟨_, x.toInCall.ns, fun i y v h1 h2 h3 => ?_⟩, fun y c h => ⟨_, x.cell y c h⟩, e0.hok.fresh (Nat.le_refl _), fun y c h => ?_, fun p hp => absurd (show p ∈ ([] : List (Addr × Obj)) from hp) (by simp), e0.hok.kept hk, ?_⟩
  · exact name_of_addr x.apart (PySem.mem_of_lookup h1) (PySem.mem_of_lookup h2)
  · have hy : scope.names.lookup y = some .cell ∨ scope.names.lookup y = some .free := hy
    rcases hy with hy | hy
    · exact cell_has hy
    · exact absurd rfl (S.nofree _ (PySem.mem_of_lookup hy))
  · exact Nat.le_of_lt (x.above y c (PySem.mem_of_lookup h))
  · have hi : i < vs.length := by
      unfold start at h2
      by_cases hi : i < vs.length
      · exact hi
      · rw [List.getElem?_append_right (by simpa using hi)] at h2
        rw [List.getElem?_replicate] at h2
        split at h2 <;> cases h2
    have ha : vs[i]? = some v := by
      unfold start at h2
      rw [List.getElem?_append_left (by simpa using hi), List.getElem?_map] at h2
      cases e : vs[i]? with
      | none => rw [e] at h2; cases h2
      | some a => rw [e] at h2; cases h2; rfl
    obtain ⟨u, hu, rv⟩ := r.get ha
    have hp : ps[i]? = some y := by
      rw [← S.pre, List.getElem?_take_of_lt (by omega)]; exact h1
    have ndP : ps.Nodup := by rw [← S.pre]; exact S.nd.sublist (List.take_sublist _ _)
    refine ⟨u, rv, ?_⟩
    rcases S.par y (List.mem_of_getElem? hp) with k | k
    · exact .inl ⟨k, bindL_get ndP hp hu k⟩
    · obtain ⟨c, e⟩ := cell_has (n := s.heap.objs.size + 1) k
      refine .inr ⟨.inl k, c, e, ?_⟩
      have q := x.cell y c e
      rw [bindC_get ndP hp hu (by show scope.names.lookup y ≠ _; rw [k]; decide)] at q
      exact q
  · exact e0.hok.fresh (Nat.le_of_lt (x.above y c (PySem.mem_of_lookup h)))
  · unfold start
    show _ = N.length
    rw [List.length_append, List.length_map, List.length_replicate]
    omega
theorem fn_of {CX : CXT} {P : Program} {w : World} {K : PySem.W.Frag} {mg : Str → Option Value} {base : Heap} {k : Nat} {f : Addr} {name qual : Str} {params : Arguments} {body : List Stmt} {scope : Scope} {dV kV doc pm cdv ct oc : Value} {an od : Option Addr}
    {osl : Array (Option Value)} {N ps : List Str} {sp : Sp} (lk : K.lookup f = some ⟨oc, od, .func (PySem.W.fnOf name qual params body scope dV kV doc pm an cdv ct), osl⟩) (hcd : PySem.W.codeIn K cdv qual = true) (S : FnScope N ps scope)
    (len : ∀ vs H Q E, sp vs H Q E → vs.length = ps.length)
    (hbody : ∀ (A : Around) (outer : List Env) (s : Shared) (H : Hp) (vs : List V) (Q : VK) (E : XK), Room k (A.deeper (envOfC qual scope s.heap.objs.size f cdv)) → sp vs H Q E →
      ∃ t, PSs (cxOf CX P w K mg base N qual scope f cdv A outer s H E) body t ∧ t { nx := fun _ H' => Q .non H', rt := Q } (start N vs) H) :
    FnOk P w K mg base CX (k + 1) f (PySem.W.fnOf name qual params body scope dV kV doc pm an cdv ct) ps sp := by
  refine ⟨len, fun A outer s H args us vs Q E hr e0 hb r hsp => ?_⟩
  have hl := len _ _ _ _ hsp
  have KX : K.In s.heap := e0.mod.kin.keeps fun b o e => (e0.bs b o e).1
  have lim : s.heap.NoLimit := e0.mod.nolimit.keeps fun b o e => (e0.bs b o e).1
  have hkind : ∀ y ∈ ps.zip us, scope.names.lookup y.1 = some .local ∨ (scope.names.lookup y.1 = some .cell ∧ ((cellsFrom (s.heap.objs.size + 1) scope.names []).lookup y.1).isSome = true) := fun ⟨n, v⟩ hy => by
    rcases S.par n (List.of_mem_zip hy).1 with q | q
    · exact .inl q
    · exact .inr ⟨q, PySem.W.cellsFrom_some _ _ _ (.inl q)⟩
  refine codeAny_call_function hr.depth (KX _ _ lk) rfl S.co S.gen rfl (PySem.W.codeRec_of KX hcd) (hb _ _ _ _ ?_)
  refine wpAny_newFunctionEnv_cells S.kind hkind fun env he s1 x => ?_
  subst he
  refine ⟨lim.keeps x.toInCall.keep, codeAny_func ?_⟩
  obtain ⟨t, ht, hq⟩ := hbody A outer s H vs Q E (hr.deeper _) hsp
  have I : Inv (cxOf CX P w K mg base N qual scope f cdv A outer s H E) [] (start N vs) H s1 := inv_start S hr.hd e0 hl r x
  refine wpAny_mono (ht [] s1 (start N vs) H _ I hq) (fun fl s' hs => ?_) fun e s' hs => hs
  have fin : ∀ {σ' : St} {H' : Hp} {v : V} {u : Value}, Inv (cxOf CX P w K mg base N qual scope f cdv A outer s H E) [] σ' H' s' → RelV v u → Q v H' → CE outer P w H s Q u s' :=
    fun {σ' H' v u} J rv q => ⟨v, H', J.os, J.bare, J.base, J.hok, rv, q⟩
  cases fl with
  | ret u =>
    obtain ⟨v, σ', H', J, rv, q⟩ := hs
    exact fin J rv q
  | next =>
    obtain ⟨σ', H', J, q⟩ := hs
    exact fin (v := V.non) (u := Value.none) J rfl q
  | brk =>
    obtain ⟨_, _, _, q⟩ := hs
    exact False.elim q
  | cont =>
    obtain ⟨_, _, _, q⟩ := hs
    exact False.elim q
end L2
namespace L2
open PySem PySem.Spec PyProof.Rows
section
variable {X : Cx} {x : Str} {p pos : Pos} {e : Expr} {es : List Expr} {t : TA} {id T : String} {r : List V → Hp → VK → Prop}
def tCB (r : List V → Hp → VK → Prop) (t : TA) : TE := fun σ H Q => t σ H fun vs H1 => r vs H1 Q
theorem pe_callB (hc : CallR X (.builtin id) r) (hg : Gl X x) (hm : X.mg x = none) (hv : bootBuiltins x = some (.builtin id)) (ha : PA X (e :: es) t) (hn : x ≠ "__name__" := by decide) (hdb : (x == ("__debug__" : Str)) = false := by decide)
    (he : starEach (e :: es) X.env = (false, eval e X.env) :: starEach es X.env := by rfl) (hpl : (backTo pos (starEach es X.env)).any (·.1) = false := by rfl) : PE X (.Call (.Name x p) (e :: es) [] pos) (tCB r t) := by
  intro pins s σ H Q I h
  refine wpAny_Call_Name_kw (ld_blt I hg hm hv ?_ hn hdb)
  exact PyProof.Rows.callWith_builtin1 (thn (ha pos pins s σ H _ I h) fun us s1 ⟨vs, H1, I1, r1, q1⟩ => hc pins s1 σ H1 vs us Q I1 r1 q1) he hpl
theorem pe_callTy (hc : CallR X (.type T) r) (hg : Gl X x) (hm : X.mg x = none) (hv : bootBuiltins x = some (.type T)) (ha : PA X (e :: es) t) (hn : x ≠ "__name__" := by decide) (hdb : (x == ("__debug__" : Str)) = false := by decide)
    (he : starEach (e :: es) X.env = (false, eval e X.env) :: starEach es X.env := by rfl) (hpl : (backTo pos (starEach es X.env)).any (·.1) = false := by rfl) : PE X (.Call (.Name x p) (e :: es) [] pos) (tCB r t) := by
  intro pins s σ H Q I h
  refine wpAny_Call_Name_kw (ld_blt I hg hm hv ?_ hn hdb)
  exact PyProof.Rows.callWith_type1 (thn (ha pos pins s σ H _ I h) fun us s1 ⟨vs, H1, I1, r1, q1⟩ => hc pins s1 σ H1 vs us Q I1 r1 q1) he hpl
end
end L2
namespace HT
open PySem PyProof.Rows
section
open PySem.SeqAt
open PySem.AutoSeq1 (wpAny_loadPart')
open PySem.MeetsSeq PySem.MeetsSeq2 PySem.MeetsSeq3
end
section
variable {prog : Program} {w : World} {A : Around} {E : Value → Shared → Prop} {s : Shared}
end
end HT
namespace L2
open PySem PySem.Spec PyProof.Rows
abbrev TO := St → Hp → (Option Int → Hp → Prop) → Prop
def PO (X : Cx) (e : Option Expr) (t : TO) : Prop :=
  ∀ (pins : List (Addr × Obj)) (s : Shared) (σ : St) (H : Hp) (Q : Option Int → Hp → Prop), Inv X pins σ H s → t σ H Q →
    wpAny (model X.prog X.w) X.A (evalPart e X.env) (fun u s' => ∃ o H', Inv X pins σ H' s' ∧ IsPart u o ∧ Q o H') X.xe s
def tNoPart : TO := fun _ H Q => Q none H
def tPart (t : TE) : TO := fun σ H Q => t σ H fun x H1 => ∃ i, x = .int i ∧ Q (some i) H1
section
variable {X : Cx} {e : Expr} {te : TE} {lo hi : Option Expr} {tl th : TO} {pos p2 : Pos}
theorem po_none : PO X none tNoPart := by
  intro pins s σ H Q I h
  rw [evalPart_none]
  exact wpAny_pure ⟨none, H, I, .none, h⟩
theorem po_some (h : PE X e te) : PO X (some e) (tPart te) := by
  intro pins s σ H Q I hw
  rw [evalPart_some]
  refine thn (h pins s σ H _ I hw) fun u s1 ⟨x, H1, I1, r1, q1⟩ => ?_
  obtain ⟨i, rfl, q⟩ := q1
  obtain ⟨t, rfl⟩ := r1
  exact ⟨some i, H1, I1, .int i t, q⟩
def SlR (X : Cx) (r : V → Option Int → Option Int → Hp → VK → Prop) : Prop :=
  ∀ (pins : List (Addr × Obj)) (s : Shared) (σ : St) (H : Hp) (x : V) (v vl vu : Value) (lo hi : Option Int) (sl : Addr) (Q : VK), Inv X pins σ H s → RelV x v → s.heap.IsSliceOf sl vl vu .none → IsPart vl lo → IsPart vu hi → r x lo hi H Q →
    ∃ T id, typeLookup (.type T) "__getitem__" = pure (some (.builtin id)) ∧ s.TypeIs v T ∧ wpAny (model X.prog X.w) X.A (getItem v (.ref sl)) (EP X pins σ Q) X.xe s
def tSl (r : V → Option Int → Option Int → Hp → VK → Prop) (te : TE) (tl th : TO) : TE := fun σ H Q => te σ H fun x H1 => tl σ H1 fun l H2 => th σ H2 fun u H3 => r x l u H3 Q
theorem pe_slice {r : V → Option Int → Option Int → Hp → VK → Prop} (hr : SlR X r) (he : PE X e te) (hl : PO X lo tl) (hu : PO X hi th) : PE X (.Subscript e (.Slice lo hi none p2) pos) (tSl r te tl th) := by
  intro pins s σ H Q I h
  refine Subscript_ (thn (he pins s σ H _ I h) fun v s1 ⟨x, H1, I1, r1, q1⟩ => ?_)
  refine wpAny_Slice (thn (hl pins s1 σ H1 _ I1 q1) fun vl s2 ⟨l, H2, I2, pl, q2⟩ => thn (hu pins s2 σ H2 _ I2 q2) fun vu s3 ⟨u, H3, I3, pu, q3⟩ => ?_)
  rw [evalPart_none]
  refine wpAny_pure ?_
  have I4 : Inv X pins σ H3 { s3 with heap := s3.heap.push { cls := .type "slice", data := .fields #[vl, vu, .none] } } := I3.kept (t' := s3.toks) fun b ob q => Heap.get?_push_of_some _ q
  obtain ⟨T, id, hT, ht, hg⟩ := hr pins { s3 with heap := s3.heap.push { cls := .type "slice", data := .fields #[vl, vu, .none] } } σ H3 x v vl vu l u s3.heap.objs.size Q I4 r1 (Heap.IsSliceOf.new ..) pl pu q3
  show wpAny (model X.prog X.w) X.A (subscriptTail e (.Slice lo hi none p2) v (.ref s3.heap.objs.size)) (EP X pins σ Q) X.xe { s3 with heap := s3.heap.push { cls := .type "slice", data := .fields #[vl, vu, .none] } }
  exact tail_any (ops := [.ref s3.heap.objs.size, v]) ht hT hg (by with_unfolding_all rfl)
end
end L2
namespace L2
open PySem PySem.Spec PyProof.Rows
def ixN (n : Nat) (i : Int) : Option Nat := if 0 ≤ i then (if i < n then some i.toNat else none) else if -(n : Int) ≤ i then some (i + n).toNat else none
def atI {α : Type} (xs : List α) (i : Int) : Option α := (ixN xs.length i).bind fun j => xs[j]?
theorem ixN_seq {n : Nat} {i : Int} {j : Nat} (h : ixN n i = some j) : seqIndex? i n = some j ∧ j < n ∧ -(n : Int) ≤ i ∧ i < n := by
  unfold ixN at h
  by_cases h0 : 0 ≤ i
  · rw [if_pos h0] at h
    by_cases h1 : i < n
    · rw [if_pos h1] at h
      have e : i.toNat = j := Option.some.inj h
      exact ⟨by rw [seqIndex_of h0 h1, e], by omega, by omega, h1⟩
    · rw [if_neg h1] at h; cases h
  · rw [if_neg h0] at h
    by_cases h1 : -(n : Int) ≤ i
    · rw [if_pos h1] at h
      have e : (i + n).toNat = j := Option.some.inj h
      exact ⟨by rw [seqIndex_neg (by omega) h1, e], by omega, h1, by omega⟩
    · rw [if_neg h1] at h; cases h
theorem atI_get {α : Type} {xs : List α} {i : Int} {v : α} (h : atI xs i = some v) : ∃ j, seqIndex? i xs.length = some j ∧ xs[j]? = some v ∧ j < xs.length ∧ -(xs.length : Int) ≤ i ∧ i < xs.length := by
  unfold atI at h
  cases e : ixN xs.length i with
  | none => rw [e] at h; cases h
  | some j =>
    rw [e] at h
    obtain ⟨h1, h2, h3, h4⟩ := ixN_seq e
    exact ⟨j, h1, h, h2, h3, h4⟩
theorem atI_nat {α : Type} {xs : List α} {j : Nat} {v : α} (h : xs[j]? = some v) : atI xs (j : Int) = some v := by
  have hj : j < xs.length := (List.getElem?_eq_some_iff.mp h).1
  have e : ixN xs.length (j : Int) = some j := by
    unfold ixN
    rw [if_pos (by omega), if_pos (by omega)]; simp
  unfold atI; rw [e]; exact h
def PlainIx (b : Expr) : Prop := ∀ o i, subscripted b false o i = operate [o, i] (getItem o i)
def IxR (X : Cx) (r : R2) : Prop :=
  ∀ (value slice : Expr) (pins : List (Addr × Obj)) (s : Shared) (σ : St) (H : Hp) (x y : V) (v u : Value) (Q : VK), Inv X pins σ H s → RelV x v → RelV y u → r x y H Q →
    subscripted slice false v u = operate [v, u] (getItem v u) → wpAny (model X.prog X.w) X.A (subscriptTail value slice v u) (EP X pins σ Q) X.xe s
def MtR (X : Cx) (id : String) (r : V → List V → Hp → VK → Prop) : Prop :=
  ∀ (pins : List (Addr × Obj)) (s : Shared) (σ : St) (H : Hp) (x : V) (xs : List V) (v : Value) (us : List Value) (Q : VK), Inv X pins σ H s → RelV x v → Vals xs us → r x xs H Q →
    wpAny (model X.prog X.w) X.A (call (.builtin id) (v :: us)) (EP X pins σ Q) X.xe s
section
variable {X : Cx} {a b : Expr} {ta tb : TE} {pos : Pos}
theorem pe_ix {r : R2} (hr : IxR X r) (ha : PE X a ta) (hb : PE X b tb) (hs : PlainIx b) : PE X (.Subscript a b pos) (tOp r ta tb) := by
  intro pins s σ H Q I h
  exact Subscript_ (binT ha hb I h fun v u s2 x y H2 I2 rx ry q => hr a b pins s2 σ H2 x y v u Q I2 rx ry q (hs _ _))
def rIxL (K : PySem.W.Frag) : R2 := fun x y H Q => ∃ p xs i v, x = .ref p ∧ y = .int i ∧ SqL K H p xs ∧ atI xs i = some v ∧ Q v H
theorem ix_list : IxR X (rIxL X.K) := by
  intro value slice pins s σ H x y v u Q I rx ry h hs
  obtain ⟨p, xs, i, z, rfl, rfl, hq, he, q⟩ := h
  cases rx
  obtain ⟨t, rfl⟩ := ry
  obtain ⟨its, r, pl, hz⟩ := I.list hq
  obtain ⟨j, h1, h2, h3, h4, h5⟩ := atI_get he
  obtain ⟨w, ew, rw'⟩ := r.get h2
  have hl := r.length
  have hn := line63
  have fin : EP X pins σ Q w s := ⟨z, H, I, rw', q⟩
  by_cases h0 : 0 ≤ i
  · have hj : i.toNat = j := by
      rw [seqIndex_of h0 h5] at h1
      exact Option.some.inj h1
    exact item_listR pl.isList h0 (by omega) (by rw [hj]; simpa using ew) fin hs
  · have hj : (i + (its.toArray.size : Int)).toNat = j := by
      rw [seqIndex_neg (by omega) h4] at h1
      rw [List.size_toArray, ← hl]
      exact Option.some.inj h1
    exact subscriptTail_builtinR (x := w) pl.isList.typeIs slot_list_getitem.lookup
      (wpAny_getItem_list_neg (Q := fun r s' => r = w ∧ EP X pins σ Q r s') pl.isList (by omega) (by rw [List.size_toArray] <;> omega) (by omega) (by rw [hj]; simpa using ew) ⟨rfl, fin⟩) hs
theorem mapSeq_set (its : List Value) (n j : Nat) (u : Value) : Obj.mapSeq (·.setIfInBounds j u) { cls := .type "list", data := .seq its.toArray n } = { cls := .type "list", data := .seq (its.set j u).toArray n } := by
  simp [Obj.mapSeq]
theorem Inv.lst {pins : List (Addr × Obj)} {σ : St} {H : Hp} {s : Shared} {p : Addr} {xs : List V} (I : Inv X pins σ H s) (h : H p = some (.lst xs)) :
    ∃ (its : List Value) (n : Nat), Vals xs its ∧ s.heap.get? p = some { cls := .type "list", data := .seq its.toArray n } ∧ xs.length ≤ sizeLine := by
  obtain ⟨z, its, n, r, e⟩ := I.hok p _ h
  exact ⟨its, n, r, e, z⟩
theorem Inv.lstUpd {pins : List (Addr × Obj)} {σ : St} {H : Hp} {s : Shared} {p : Addr} {xs ys : List V} {its its' : List Value} {n n' : Nat} {f : Obj → Obj} (I : Inv X pins σ H s) (h : H p = some (.lst xs))
    (ho : s.heap.get? p = some { cls := .type "list", data := .seq its.toArray n }) (hf : f { cls := .type "list", data := .seq its.toArray n } = { cls := .type "list", data := .seq its'.toArray n' }) (r : Vals ys its') (hz : ys.length ≤ sizeLine) (t : Nat) :
    Inv X pins σ (upd H p (.lst ys)) { s with heap := s.heap.update p f, toks := t } := by
  have e : (s.heap.update p f).get? p = some { cls := .type "list", data := .seq its'.toArray n' } := by
    rw [Heap.get?_update_self f ho (by rw [hf] <;> rfl), hf]
  refine I.write (x := p) (e := p) (by rw [h]; trivial) (.inl rfl) (fun b u hb q => (Heap.get?_update_other _ _ (Ne.symm hb)).trans q) ⟨_, e⟩ ?_
  exact ⟨hz, its', n', r, e⟩
def rSetL : V → V → V → Hp → (Hp → Prop) → Prop := fun o i v H Q => ∃ p xs k j, o = .ref p ∧ i = .int k ∧ H p = some (.lst xs) ∧ ixN xs.length k = some j ∧ Q (upd H p (.lst (xs.set j v)))
theorem set_list : PSet X rSetL := by
  intro pins s σ H o i v ov iv u Q I ro ri rv h
  obtain ⟨p, xs, k, j, rfl, rfl, hp, hj, q⟩ := h
  cases ro
  obtain ⟨t, rfl⟩ := ri
  obtain ⟨its, n, r, ho, hz⟩ := I.lst hp
  obtain ⟨h1, h2, h3, h4⟩ := ixN_seq hj
  have hl := r.length
  have hn := line63
  have I' : Inv X pins σ (upd H p (.lst (xs.set j v))) { s with heap := s.heap.update p (Obj.mapSeq (·.setIfInBounds j u)) } :=
    I.lstUpd hp ho (mapSeq_set its n j u) (r.set rv j) (by rw [List.length_set]; exact hz) s.toks
  by_cases h0 : 0 ≤ k
  · have hk : k.toNat = j := by
      rw [seqIndex_of h0 h4] at h1
      exact Option.some.inj h1
    exact PySem.W.ki_setAt ho h0 (by omega) (by rw [List.size_toArray, ← hl]; exact h4) (by rw [hk]; exact ⟨_, I', q⟩)
  · have hk : (k + (its.toArray.size : Int)).toNat = j := by
      rw [seqIndex_neg (by omega) h3] at h1
      rw [List.size_toArray, ← hl]
      exact Option.some.inj h1
    exact PySem.W.ki_setBack ho (by omega) (by rw [List.size_toArray, ← hl]; exact h3) (by omega) (by rw [hk]; exact ⟨_, I', q⟩)
def flatV : V → Bool
  | .non => true
  | .bl _ => true
  | .int _ => true
  | .str _ => true
  | _ => false
theorem call_len_str : CallR X (.builtin "len") (fun xs H Q => ∃ z, xs = [.str z] ∧ z.length ≤ sizeLine ∧ Q (.int z.length) H) := by
  intro pins s σ H xs us Q I r h
  obtain ⟨z, rfl, hz, q⟩ := h
  obtain ⟨u, rfl, t, rfl⟩ := vals1 r
  have hn := line63
  exact len_str (by omega) ⟨.int z.length, H, I.tok _, ⟨_, rfl⟩, q⟩
theorem CallR.or {f : Value} {r r' : List V → Hp → VK → Prop} (h : CallR X f r) (h' : CallR X f r') : CallR X f (fun xs H Q => r xs H Q ∨ r' xs H Q) := by
  intro pins s σ H xs us Q I rs q
  rcases q with q | q
  · exact h pins s σ H xs us Q I rs q
  · exact h' pins s σ H xs us Q I rs q
theorem call_list_of : CallR X (.type "list") (fun xs H Q => ∃ p ys, xs = [.ref p] ∧ (SqL X.K H p ys ∨ SqT X.K H p ys) ∧ ∀ l, H l = none → Q (.ref l) (upd H l (.lst ys))) := by
  intro pins s σ H xs us Q I r h
  obtain ⟨p, ys, rfl, hq, q⟩ := h
  obtain ⟨u, rfl, rx⟩ := vals1 r
  cases rx
  have fin : ∀ (its : List Value), Vals ys its → ys.length ≤ sizeLine → ∀ (h' : Heap) (c' : Nat), (∀ b o', s.heap.get? b = some o' → h'.get? b = some o') →
      h'.get? s.heap.objs.size = some { cls := .type "list", dict := none, data := .seq its.toArray c', slots := #[] } → EP X pins σ Q (.ref s.heap.objs.size) { s with heap := h' } := fun its r' hz h' c' kp e =>
    ⟨.ref s.heap.objs.size, _, I.laid (t' := s.toks) kp (Nat.le_refl _) (show ObjOk X.prog X.w _ h' _ (.lst ys) from ⟨hz, its, c', r', e⟩), rfl, q _ (I.hok.fresh (Nat.le_refl _))⟩
  rcases hq with hq | hq
  · obtain ⟨its, r', pl, hz⟩ := I.list hq
    have hlen := r'.length
    obtain ⟨o, ho, hc, n, hd⟩ := pl.isList
    exact call_list_seq p (.inl rfl) ho hc hd (fun h' c' kp e => fin its r' hz h' c' kp e) (by simp only [List.size_toArray] <;> omega)
  · obtain ⟨its, r', pl, hz⟩ := I.tuple hq
    have hlen := r'.length
    obtain ⟨o, ho, hc, n, hd⟩ := pl
    exact call_list_seq p (.inr rfl) ho hc hd (fun h' c' kp e => fin its r' hz h' c' kp e) (by simp only [List.size_toArray] <;> omega)
theorem call_tuple_of : CallR X (.type "tuple") (fun xs H Q => ∃ p ys, xs = [.ref p] ∧ ((SqL X.K H p ys ∧ ∀ l, H l = none → Q (.ref l) (upd H l (.tup ys))) ∨ (SqT X.K H p ys ∧ Q (.ref p) H))) := by
  intro pins s σ H xs us Q I r h
  obtain ⟨p, ys, rfl, h⟩ := h
  obtain ⟨u, rfl, rx⟩ := vals1 r
  cases rx
  rcases h with ⟨hq, q⟩ | ⟨hq, q⟩
  · obtain ⟨its, r', pl, hz⟩ := I.list hq
    have hlen := r'.length
    refine call_tuple_list pl.isList (fun h' kp => ?_) (by simp only [List.size_toArray] <;> omega)
    have I1 : Inv X pins σ H { s with heap := h' } := I.kept (t' := s.toks) kp
    have I2 : Inv X pins σ (upd H h'.objs.size (.tup ys)) { s with heap := h'.push { cls := .type "tuple", data := .seq its.toArray } } :=
      I1.laid (t' := s.toks) (fun b o e => Heap.get?_push_of_some _ e) (Nat.le_refl _) (show ObjOk X.prog X.w _ _ _ (.tup ys) from ⟨hz, its, r', IsTN.new _ _⟩)
    exact ⟨.ref h'.objs.size, _, I2, rfl, q _ (I1.hok.fresh (Nat.le_refl _))⟩
  · obtain ⟨its, r', pl, hz⟩ := I.tuple hq
    exact call_tuple_same pl ⟨.ref p, H, I, rfl, q⟩
def tyV (K : PySem.W.Frag) (T : String) (x : V) (H : Hp) : Prop := match x with
  | .str _ => T = "str"
  | .int _ => T = "int"
  | .ref p => (T = "list" ∧ ∃ xs, SqL K H p xs) ∨ (T = "tuple" ∧ ∃ o, K.lookup p = some o ∧ o.cls = .type "tuple" ∧ o.dict = none) ∨
      (T = "dict" ∧ ((∃ kvs, H p = some (.dK kvs)) ∨ ∃ kvs, H p = some (.dT kvs))) ∨ (T = "set" ∧ ∃ S n, H p = some (.set S n))
  | _ => False
theorem tyV_is {pins : List (Addr × Obj)} {σ : St} {H : Hp} {s : Shared} {T : String} {x : V} {v : Value} (I : Inv X pins σ H s) (r : RelV x v) (ty : tyV X.K T x H) :
    s.TypeIs v T ∧ ∀ a, v = .ref a → ∃ ob, s.heap.get? a = some ob ∧ ob.dict = none := by
  cases x with
  | str z =>
    obtain ⟨t, rfl⟩ := r
    cases (show T = "str" from ty)
    exact ⟨typeIs_str s z t, fun _ e => nomatch e⟩
  | int i =>
    obtain ⟨t, rfl⟩ := r
    cases (show T = "int" from ty)
    exact ⟨typeIs_int s i t, fun _ e => nomatch e⟩
  | ref p =>
    cases r
    rcases ty with ⟨rfl, xs, hq⟩ | ⟨rfl, o, hk, hc, hd⟩ | ⟨rfl, hk⟩ | ⟨rfl, S, n, hk⟩
    · obtain ⟨its, _, pl, _⟩ := I.list hq
      refine ⟨pl.isList.typeIs, fun a e => ?_⟩
      cases e
      obtain ⟨o, n, e, c, hd, _⟩ := pl
      exact ⟨o, e, hd⟩
    · refine ⟨⟨o, I.kIn p o hk, hc⟩, fun a e => ?_⟩
      cases e
      exact ⟨o, I.kIn _ o hk, hd⟩
    · have z : ∃ o, s.heap.get? p = some o ∧ o.ExactDict := by
        rcases hk with ⟨kvs, hk⟩ | ⟨kvs, hk⟩
        · obtain ⟨_, _, _, _, o, _, _, e, ex, _⟩ := I.hok p _ hk
          exact ⟨o, e, ex⟩
        · obtain ⟨_, _, _, _, o, _, _, e, ex, _⟩ := I.hok p _ hk
          exact ⟨o, e, ex⟩
      obtain ⟨o, e, ex⟩ := z
      refine ⟨⟨o, e, ex.1⟩, fun a e2 => ?_⟩
      cases e2
      exact ⟨o, e, ex.2.1⟩
    · obtain ⟨o, _, _, _, e, ex, _⟩ := I.hok p _ hk
      refine ⟨⟨o, e, ex.1⟩, fun a e2 => ?_⟩
      cases e2
      exact ⟨o, e, ex.2.1⟩
  | _ => exact False.elim ty
def tBM (K : PySem.W.Frag) (T : String) (r : V → List V → Hp → VK → Prop) (to : TE) (t : TA) : TE := fun σ H Q => to σ H fun x H1 => tyV K T x H1 ∧ t σ H1 fun xs H2 => r x xs H2 Q
variable {o e : Expr} {es : List Expr} {to : TE} {t : TA} {name : Str} {apos cpos : Pos} {T id : String} {r : V → List V → Hp → VK → Prop}
theorem pe_bm (pa : PlainAttrs T) (slot : Slot T name id) (hty : typeOf (.builtin id) = pure (.type "method_descriptor")) (hm : MtR X id r) (ho : PE X o to) (ha : PA X (e :: es) t)
    (hbase : attributeBase o name X.env (eval o X.env) = eval o X.env := by rfl)
    (hfew : ((backTo cpos (starEach (e :: es) X.env)).all (fun x => !x.1) && (backToKw cpos (keywordEach [] X.env)).all (fun x => x.1.isSome)
      && decide ((e :: es).length + ([] : List Keyword).length + (if ([] : List Keyword).isEmpty then 0 else 1) < 30)) = true := by rfl)
    (hline : (apos.endLine == cpos.line) = true := by rfl) (hs : starEach (e :: es) X.env = (false, eval e X.env) :: starEach es X.env := by rfl) (hplain : (backTo cpos (starEach es X.env)).any (·.1) = false := by rfl) :
    PE X (.Call (.Attribute o name apos) (e :: es) [] cpos) (tBM X.K T r to t) := by
  intro pins s σ H Q I h
  refine wpAny_Call_method_late hbase hfew hline rfl (thn (ho pins s σ H _ I h) fun v s1 ⟨x, H1, I1, r1, ty, q1⟩ => ?_)
  obtain ⟨h1, h2⟩ := tyV_is I1 r1 ty
  refine ⟨T, id, pa, slot, hty, h1, h2, ?_⟩
  have hA := ha cpos pins s1 σ H1 _ I1 q1
  rw [hs] at hA ⊢
  refine Calls.callWith_builtin (by show (false || (backTo cpos (starEach es X.env)).any (·.1)) = false; rw [hplain] <;> rfl) (Calls.evalArgs_plain ?_)
  exact thn hA fun us s2 ⟨vs, H2, I2, r2, q2⟩ => hm pins s2 σ H2 x vs v us Q I2 r1 r2 q2
/- xs.append(e), list.index on a module's tuple .. are MtR facts of 06m -/
end
end L2
namespace L2
open PySem PySem.Spec PyProof.Rows
def MtM (X : Cx) (id : String) (r : V → List V → Hp → VK → Prop) : Prop :=
  ∀ (pins : List (Addr × Obj)) (s : Shared) (σ : St) (H : Hp) (x : V) (xs : List V) (v : Value) (us : List Value) (Q : VK), Inv X pins σ H s → RelV x v → Vals xs us → r x xs H Q →
    wpAny (model X.prog X.w) X.A (call (.builtin id) (v :: us)) (EP X pins σ Q) X.xe s
theorem Vals.one : ∀ {x : V} {us : List Value}, Vals [x] us → ∃ u, us = [u] ∧ RelV x u
  | _, _, .cons r .nil => ⟨_, rfl, r⟩
theorem Vals.two : ∀ {x y : V} {us : List Value}, Vals [x, y] us → ∃ u v, us = [u, v] ∧ RelV x u ∧ RelV y v
  | _, _, _, .cons r (.cons q .nil) => ⟨_, _, rfl, r, q⟩
section
variable {X : Cx} {pins : List (Addr × Obj)} {σ : St} {H : Hp} {s : Shared} {l b : Addr} {xs ys zs : List V}
theorem Inv.lset {its its' : List Value} {n : Nat} {f : Array Value → Array Value} {t' : Nat} (I : Inv X pins σ H s) (hH : H l = some (.lst xs))
    (e : s.heap.get? l = some { cls := .type "list", data := .seq its.toArray n }) (hf : f its.toArray = its'.toArray) (hv : Vals ys its') (hz : ys.length ≤ sizeLine) :
    Inv X pins σ (upd H l (.lst ys)) { s with heap := s.heap.update l (Obj.mapSeq f), toks := t' } := by
  have q := PySem.IsL.update e f
  rw [hf] at q
  refine I.write (x := l) (e := l) (by rw [hH]; exact trivial) (.inl rfl) (fun b' u hb hu => (Heap.get?_update_other s.heap (Obj.mapSeq f) (Ne.symm hb)).trans hu) ⟨_, q⟩ ?_
  exact ⟨hz, its', _, hv, q⟩
theorem Inv.lstM (I : Inv X pins σ H s) (hH : H l = some (.lst xs)) : xs.length ≤ sizeLine ∧ ∃ (its : List Value) (n : Nat), Vals xs its ∧ xs.length = its.length ∧ s.heap.get? l = some { cls := .type "list", data := .seq its.toArray n } := by
  obtain ⟨z, its, n, r, e⟩ := I.hok l _ hH
  exact ⟨z, its, n, r, r.length, e⟩
end
section
variable {X : Cx}
def rAppend : V → List V → Hp → VK → Prop := fun x vs H Q => ∃ l xs y, x = .ref l ∧ vs = [y] ∧ H l = some (.lst xs) ∧ xs.length < sizeLine ∧ Q .non (upd H l (.lst (xs ++ [y])))
theorem mt_append : MtM X "list.append" rAppend := by
  intro pins s σ H x vs v us Q I rx rv h
  obtain ⟨l, xs, y, rfl, rfl, hH, hz, q⟩ := h
  cases rx
  obtain ⟨u, rfl, ru⟩ := rv.one
  obtain ⟨z, its, n, r, hl, e⟩ := I.lstM hH
  refine call_meets F.slot_list_append ⟨_, e, rfl⟩ F.entry_list_append (F.args_list_append_2 _ _) (PySem.list_append l its.toArray n u (by rw [List.size_toArray]; omega)) ⟨e, ?_⟩
  refine ⟨.non, _, I.lset (its' := its ++ [u]) hH e (by simp) (r.append (.cons ru .nil)) ?_, rfl, q⟩
  rw [List.length_append, List.length_singleton]
  omega
end
section
variable {prog : Program} {w : World} {A : Around} {E : Value → Shared → Prop} {s : Shared}
end
section
variable {X : Cx}
end
end L2
namespace Att
open PySem PySem.W PySem.Calls PyProof.Rows
theorem ints_of_wellAll {P : Params} {h : Heap} : ∀ (ns : List Int) (vs : List Value), WellAll P h vs (ns.map WData.int) → IntsAre vs ns := by
  intro ns
  induction ns with
  | nil =>
    intro vs w
    rw [List.map_nil] at w
    cases w
    exact .nil
  | cons n ns ih =>
    intro vs w
    rw [List.map_cons] at w
    cases w with
    | cons a b =>
      cases a
      exact .cons _ _ (ih _ b)
theorem script_of {l : OpenLaw} {n : Nat} (hn : l.most = some n) {P : Params} {h : Heap} {args : List WData} {vals : List Value}
    (hpre : l.row.toRowW.claim.pre args = true) (hwl : WellAll P h vals args) :
    ∃ a vs ns, vals = [Value.ref a] ∧ args = [WData.list (ns.map WData.int)] ∧ h.get? a = some { cls := .type "list", data := .seq vs.toArray } ∧ IntsAre vs ns ∧ ns.length ≤ n := by
  have hsh : WShape.hasAll [] args [.list .int] = true := (pre_splitW hpre).1
  have hc : l.pre.holds [] { args := args } = true := (pre_splitW hpre).2
  obtain ⟨d, r, rfl, h1, h2⟩ := hasAllW_cons hsh
  obtain rfl := hasAllW_nil h2
  obtain ⟨xs, rfl, h3⟩ := hasW_list h1
  obtain ⟨ns, rfl⟩ := items_int h3
  have hlen : ns.length ≤ n := by
    unfold OpenLaw.pre at hc
    have h4 : (WTm.not (.lt (.lit (.int (n : Int))) (.len (.arg 0)))).holds [] { args := [.list (ns.map .int)] } = true := by
      have h4 := (holds_andW hc).1
      rw [hn] at h4
      exact h4
    have h5 := condW_of h4 (w_not (w_lt w_lit (w_len_list (w_arg rfl))))
    rw [List.length_map] at h5
    refine Nat.le_of_not_lt fun q => ?_
    have q' : (n : Int) < ((ns.length : Nat) : Int) := by omega
    first
      | (rw [decide_eq_true q'] at h5; exact absurd h5 (by decide))
      | (simp at h5; omega)
  cases hwl with
  | cons w1 w2 =>
    cases w2
    cases w1 with
    | list ho hall => exact ⟨_, _, ns, rfl, rfl, ho, ints_of_wellAll ns _ hall, hlen⟩
theorem post_true (l : OpenLaw) (args : List WData) : l.row.toRowW.claim.post args (.bool true) args = true :=
  postW_of (r := l.row.toRowW) (X := (true == true))
    (show WShape.has [] (.bool true) .bool = true by first | rfl | decide | simp [WShape.has, WShape.arms, WShape.armsAll])
    (show (WTm.eq .res (.lit (.bool true))).value [] { args := args, res := some (.bool true), after := args } = some (.bool (true == true)) from w_eq_bool (w_res rfl) w_lit) rfl
theorem attach_call {l : OpenLaw} {n : Nat} {q : Program} {loose : List Str} {XP : (Str → Option Value) → Heap → Prop} {YP : World → Heap → Prop} {d : DefRec}
    (hn : l.most = some n) (hdf : d.params.defaults = [])
    (call : ∀ (w : World) (s₀ s₁ : Shared) (mg mb : Str → Option Value) (fa : Addr) (o : Obj) (pm cd doc : Value) (a : Addr) (vs : List Value) (ns : List Int),
      Ground q loose [] XP w s₀ mg mb s₁.heap → YP w s₁.heap →
      s₁.heap.get? fa = some o → o.data = .func (docDef d.name d.params d.body d.scope pm cd doc) → s₁.heap.CodeRec cd d.name → mg d.name = some (.ref fa) →
      s₁.heap.get? a = some { cls := .type "list", data := .seq vs.toArray } → IntsAre vs ns → ns.length ≤ n → s₁.gens = #[] →
      codeAny (model l.prog w) callerA (.call (.ref fa) ⟨[.ref a], []⟩) (fun r s' => r = .ok (.ret (.bool true)) ∧ OldK s₁.heap s'.heap ∧ s'.os = s₁.os ∧ AllBare s'.gens) s₁) :
    WalkO q loose XP YP l.row.toRowW d [] (fun f vs => PySem.call f vs) := by
  intro w s₀ s₁ mg mb G Y fa o pm cd doc dV kV ho hd hcd hD hmg hg args vals as hpre hlay hrd hwl hlo
  obtain rfl : dV = .none := Dflts.none hD hdf
  obtain rfl : kV = .none := Dflts.noKw hD
  obtain ⟨a, vs, ns, rfl, rfl, hobj, hints, hlen⟩ := script_of hn hpre hwl
  refine enter_call (codeAny_mono (call w s₀ s₁ mg mb fa o pm cd doc a vs ns G Y ho (fd_plain hd) hcd hmg hobj hints hlen hg) fun r s' hq => ?_)
  obtain ⟨rfl, h2, h3, h4⟩ := hq
  exact ⟨.inl ⟨.bool true, .bool true, [], rfl, fun _ => rfl, .bool true, post_true l _, fun _ => ⟨List.Pairwise.nil, fun _ hm => (nomatch hm)⟩⟩, h2, h3, h4⟩
section
variable {prog : Program} {w : World} {A : Around} {E : Value → Shared → Prop} {s : Shared} {K : Frag}
end
end Att
namespace L2
open PySem PySem.Spec PyProof.Rows
theorem vals_ints : ∀ {vs : List Value} {ns : List Int}, IntsAre vs ns → Vals (ns.map V.int) vs
  | _, _, .nil => .nil
  | _, _, .cons n t h => .cons ⟨t, rfl⟩ (vals_ints h)
def Only (H : Hp) : Prop := ∀ b, H b = none ∨ ∃ o xs, H b = some (.frz o (.lst xs))
theorem law_call {P : Program} {w : World} {K : PySem.W.Frag} {mg mb : Str → Option Value} {CX : CXT} {k : Nat} {fa a : Addr} {fd : FuncData} {x : Str} {sp : Sp} {s₁ : Shared} {vs : List Value} {ns : List Int}
    (KX : K.In s₁.heap) (hns : s₁.heap.Ns mainGlobals mg) (hb : s₁.heap.Ns builtinsNs mb) (hbb : ∀ x : Str, x ≠ "__name__" → mb x = bootBuiltins x) (hlim : s₁.heap.NoLimit) (hg : s₁.gens = #[])
    (ha : s₁.heap.get? a = some { cls := .type "list", data := .seq vs.toArray }) (hi : IntsAre vs ns) (hl : ns.length ≤ sizeLine) (hr : Room k callerA)
    (F : ∀ base : Heap, K.In base → base.Ns mainGlobals mg → FnOk P w K mg base CX k fa fd [x] sp) (hbind : ∀ (s : Shared) (u : Value), BindsTo s fd ⟨[u], []⟩ [(x, u)])
    (hsp : ∀ H : Hp, Only H → SqL K H a (ns.map V.int) → sp [.ref a] H (fun v _ => v = .bl true) fun _ _ _ => False)
    (hCX : ∀ H e s', CX [] H s₁ (fun _ _ _ => False) e s' → False) :
    codeAny (model P w) callerA (.call (.ref fa) ⟨[.ref a], []⟩) (fun r s' => r = .ok (.ret (.bool true)) ∧ OldK s₁.heap s'.heap ∧ s'.os = s₁.os ∧ AllBare s'.gens) s₁ := by
  have rv := vals_ints hi
  have lenV := hi.length
  -- from an abstract heap in which nothing but the script may be tracked
  have core : ∀ H : Hp, Only H → SqL K H a (ns.map V.int) → HOk P w H s₁.heap → (∀ b, H b ≠ none → b = a) → (H a ≠ none → K.lookup a = none) →
      codeAny (model P w) callerA (.call (.ref fa) ⟨[.ref a], []⟩) (fun r s' => r = .ok (.ret (.bool true)) ∧ OldK s₁.heap s'.heap ∧ s'.os = s₁.os ∧ AllBare s'.gens) s₁ := by
    intro H hO hS hok hA hK
    have base_of : ∀ {b : Addr} {o : Obj}, s₁.heap.get? b = some o → H b = none → (hidT s₁.heap H).get? b = some o := fun e n => hidT_get e n
    have noA : ∀ {b : Addr} {o : Obj} {es : Array DictEntry} {ep : Nat}, s₁.heap.get? b = some o → o.data = .dict es ep → H b = none := fun {b o es ep} e d => by
      cases q : H b with
      | none => rfl
      | some u =>
        have e' : b = a := hA b (by rw [q]; simp)
        subst e'
        rw [ha] at e; cases e
        have d' : Data.seq vs.toArray _ = Data.dict es ep := d
        cases d'
    have nsK : ∀ {b : Addr} {m : Str → Option Value}, s₁.heap.Ns b m → (hidT s₁.heap H).Ns b m := fun {b m} ⟨o, es, ep, e, d, r⟩ => ⟨o, es, ep, base_of e (noA e d), d, r⟩
    have hKb : K.In (hidT s₁.heap H) := fun b o e => base_of (KX b o e) (by
      cases q : H b with
      | none => rfl
      | some u =>
        have e' : b = a := hA b (by rw [q]; simp)
        subst e'
        rw [hK (by rw [q]; simp)] at e; cases e)
    have hM : Mod K mg (hidT s₁.heap H) := ⟨hKb, nsK hns, ⟨mb, nsK hb, hbb⟩, let ⟨mc, h1, h2⟩ := hlim; ⟨mc, nsK h1, h2⟩⟩
    have e0 : Env0 P w K mg (hidT s₁.heap H) callerA [] s₁ H := ⟨rfl, hM, fun b o e => of_hidT e, Nat.le_of_eq (hidT_size _ _), trivial, fun b hb => absurd (show b ∈ ([] : List Addr) from hb) (by simp), hok, .of_eq hg⟩
    refine codeAny_mono ((F _ hKb (nsK hns)).run callerA [] s₁ H ⟨[.ref a], []⟩ [.ref a] [.ref a] _ _ hr e0 (hbind s₁ (.ref a)) (.cons rfl .nil) (hsp H hO hS)) fun r s' h => ?_
    cases r with
    | error e => exact (hCX H e s' h).elim
    | ok fl =>
      cases fl with
      | next => exact False.elim h
      | brk => exact False.elim h
      | cont => exact False.elim h
      | ret u =>
        obtain ⟨v, H', os, bare, un, hok', r', q⟩ := h
        have q' : v = .bl true := q
        subst q'
        obtain rfl : u = Value.bool true := r'
        refine ⟨rfl, OldK.of_keep fun b o e => ?_, os, bare⟩
        cases q : H b with
        | none => exact un.keep b o e q (by intro z; exact absurd (show b ∈ ([] : List Addr) from z) (by simp)) (by simp)
        | some u =>
          rcases hO b with z | ⟨ob, xs, z⟩
          · rw [q] at z; cases z
          · have z2 := un.frzs b ob _ z
            obtain ⟨e1, _⟩ := hok b _ z
            obtain ⟨e2, _⟩ := hok' b _ z2
            rw [e] at e1; cases e1
            exact e2
  cases hk : K.lookup a with
  | some o =>
    -- the script is one of the module's own objects
    have e := KX a o hk
    rw [ha] at e
    cases e
    refine core (fun _ => none) (fun _ => .inl rfl) (.inr ⟨_, vs.toArray, _, hk, rfl, rfl, rfl, by rw [List.size_toArray, lenV]; exact hl, by simpa using rv⟩) (fun b u z => by have z' : (none : Option HO) = some u := z; cases z') (fun b z => absurd rfl z) fun z => absurd rfl z
  | none =>
    refine core (fun b => if b = a then some (.frz { cls := .type "list", data := .seq vs.toArray } (.lst (ns.map V.int))) else none) (fun b => ?_) (.inl (.inr ⟨{ cls := .type "list", data := .seq vs.toArray }, if_pos rfl⟩)) (fun b u z => ?_) (fun b z => ?_) fun _ => hk
    · by_cases hb : b = a
      · exact .inr ⟨_, _, if_pos hb⟩
      · exact .inl (if_neg hb)
    · by_cases hb : b = a
      · have z' := (if_pos hb).symm.trans z
        cases z'
        subst hb
        exact ⟨ha, by rw [List.length_map]; exact hl, vs, _, rv, ha⟩
      · have z' := (if_neg hb).symm.trans z
        cases z'
    · by_cases hb : b = a
      · exact hb
      · exact absurd (if_neg hb) z
end L2
namespace L2
open PySem PySem.Spec PyProof.Rows
abbrev KOf {K : PySem.W.Frag} {h : Heap} (_ : K.In h) : PySem.W.Frag := K
theorem walk_of {l : PySem.W.OpenLaw} {n k : Nat} {q : Program} {loose : List Str} {XP : (Str → Option Value) → Heap → Prop} {YP : World → Heap → Prop} {d : DefRec} {K : Params → PySem.W.Frag} {CX : World → CXT} {sp : World → Sp} {x : Str}
    (hn : l.most = some n) (hn2 : n ≤ sizeLine) (hdf : d.params.defaults = []) (hr : Room k callerA)
    (hY : ∀ (w : World) (h : Heap), YP w h → (K w.params).In h)
    (F : ∀ (w : World) (mg : Str → Option Value) (fa : Addr) (h : Heap), (K w.params).In h → h.Ns mainGlobals mg → mg d.name = some (.ref fa) →
      ∃ fd : FuncData, (∀ (s : Shared) (u : Value), BindsTo s fd ⟨[u], []⟩ [(x, u)]) ∧
        ∀ base : Heap, (K w.params).In base → base.Ns mainGlobals mg → FnOk l.prog w (K w.params) mg base (CX w) k fa fd [x] (sp w))
    (hsp : ∀ (w : World) (H : Hp) (a : Addr) (ns : List Int), ns.length ≤ n → Only H → SqL (K w.params) H a (ns.map V.int) → sp w [.ref a] H (fun v _ => v = .bl true) fun _ _ _ => False)
    (hCX : ∀ (w : World) (H : Hp) (s : Shared) (e : Value) (s' : Shared), CX w [] H s (fun _ _ _ => False) e s' → False) :
    PySem.W.WalkO q loose XP YP l.row.toRowW d [] (fun f vs => PySem.call f vs) := by
  refine Att.attach_call hn hdf fun w s₀ s₁ mg mb fa o pm cd doc a vs ns G Y ho hd hcd hmg hobj hints hlen hg => ?_
  have KX := hY w _ Y
  obtain ⟨fd, hb, hF⟩ := F w mg fa _ KX G.T.g hmg
  exact law_call KX G.T.g G.T.b G.T.builtins G.T.nolimit hg hobj hints (Nat.le_trans hlen hn2) hr hF hb (fun H hO hS => hsp w H a ns hlen hO hS) fun H e s' => hCX w H s₁ e s'
theorem walk_ofK {l : PySem.W.OpenLaw} {n k : Nat} {q : Program} {loose : List Str} {XP : (Str → Option Value) → Heap → Prop} {YP : World → Heap → Prop} {d : DefRec} {K : Params → PySem.W.Frag} {CX : CXT} {sp : PySem.W.Frag → Sp} {x : Str}
    (hn : l.most = some n) (hn2 : n ≤ sizeLine) (hdf : d.params.defaults = []) (hr : Room k callerA)
    (hY : ∀ (w : World) (h : Heap), YP w h → (K w.params).In h)
    (F : ∀ (w : World) (mg : Str → Option Value) (fa : Addr) (h : Heap), (K w.params).In h → h.Ns mainGlobals mg → mg d.name = some (.ref fa) →
      ∃ fd : FuncData, (∀ (s : Shared) (u : Value), BindsTo s fd ⟨[u], []⟩ [(x, u)]) ∧
        ∀ base : Heap, (K w.params).In base → base.Ns mainGlobals mg → FnOk l.prog w (K w.params) mg base CX k fa fd [x] (sp (K w.params)))
    (hsp : ∀ (K : PySem.W.Frag) (H : Hp) (a : Addr) (ns : List Int), ns.length ≤ n → Only H → SqL K H a (ns.map V.int) → sp K [.ref a] H (fun v _ => v = .bl true) fun _ _ _ => False)
    (hCX : ∀ (H : Hp) (s : Shared) (e : Value) (s' : Shared), CX [] H s (fun _ _ _ => False) e s' → False) :
    PySem.W.WalkO q loose XP YP l.row.toRowW d [] (fun f vs => PySem.call f vs) :=
  walk_of (K := K) (CX := fun _ => CX) (sp := fun w => sp (K w.params)) hn hn2 hdf hr hY F (fun w H a ns h1 h2 h3 => hsp (K w.params) H a ns h1 h2 h3) fun _ H s e s' => hCX H s e s'
end L2
/- THE LAST THEOREM (shape; LID, My.* are yours):
   My.Adr: a structure of the addresses that your layer names (classes, functions); My.Txt K t: a structure (Prop) of the equations over K;
   My.txt_mk : {K} {implicit addresses ..} (e1 : nsIn K mainGlobals "law" = some (some (.ref f))) (e2 : K.lookup f = some ⟨oc, od, .func (fnOf "law" "law" params body scope dV kV doc pm an cdv ct), sl⟩) (e3 : codeIn K cdv "law" = true) .. : ∃ t, My.Txt K t
set_option maxRecDepth 100000 in
set_option maxHeartbeats 0 in
theorem PySem.Challenge.cw_LID_holds : PySem.Challenge.rw_LID.Holds := by
  w_on; o_law; k_head; (case hw => w_witness2)
  k_fill
  refine L2.walk_of (l := PySem.Challenge.rw_LID) (n := 63) (k := 40) (x := "script") (CX := fun w => ..) (sp := fun _ => My.sp_law) rfl (by decide) rfl ⟨rfl, by decide, by decide⟩ (fun w h Y => PySem.W.kIn_of Y) ?F ?S ?C
  case F =>
    intro w mg fa h KX G hmg
    have T : ∃ t, My.Txt (L2.KOf KX) t := by
      dsimp only [L2.KOf]                          -- K must stand as «<heap const> w.params» for k_is
      refine' My.txt_mk ?e1 ?e2 ?e3 ..
      (case e1 => PySem.W.k_is)                    -- in the order: a name -> its address -> its object -> its parts
      (case e2 => PySem.W.k_is)
      ..
    obtain ⟨t, T⟩ := T
    have e0 := hmg.symm.trans (PySem.W.mg_of KX G T.law)
    cases e0                                       -- fa is the law's own address
    exact ⟨_, fun s u => .of_eq rfl, fun base kb nb => My.law_fn T kb nb⟩     -- if «.of_eq rfl» comes too early: refine' ⟨_, ?b, fun base kb nb => My.law_fn T kb nb⟩; exact fun s u => .of_eq rfl
  case S => exact fun w H a ns hl hO hS => ..
  case C => exact ..
(the tactic k_is has no namespace: write k_is) -/
namespace L2
open PySem PySem.Spec PyProof.Rows
def inClass (s : Stmt) (j : Nat) : Stmt := match s with
  | .ClassDef _ _ _ body _ _ _ _ _ _ _ => body.getD j (.Pass ⟨0, 0, 0, 0⟩)
  | _ => .Pass ⟨0, 0, 0, 0⟩
def defArgs (s : Stmt) : Arguments := match s with
  | .FunctionDef _ a _ _ _ _ _ _ _ _ => a
  | _ => { posonlyargs := [], args := [], vararg := none, kwonlyargs := [], kw_defaults := [], kwarg := none, defaults := [] }
def defBody (s : Stmt) : List Stmt := match s with
  | .FunctionDef _ _ b _ _ _ _ _ _ _ => b
  | _ => []
def defScope (s : Stmt) : Scope := match s with
  | .FunctionDef _ _ _ _ _ _ sc _ _ _ => sc
  | _ => { kind := .function, names := [], isGenerator := false, isCoroutine := false }
abbrev CX0 : CXT := fun _ _ _ _ _ _ => False
abbrev E0 : XK := fun _ _ _ => False
theorem pass0 {X : Cx} : Passes CX0 X E0 := fun _ _ _ _ _ _ _ h => h.elim
structure Fun (K : PySem.W.Frag) (x qual : Str) (st : Stmt) (f : Addr) (fd : FuncData) : Prop where
  ex : ∃ (oc : Value) (od : Option Addr) (kV doc pm : Value) (an : Option Addr) (cdv ct : Value) (osl : Array (Option Value)),
    fd = PySem.W.fnOf x qual (defArgs st) (defBody st) (defScope st) .none kV doc pm an cdv ct ∧ K.lookup f = some ⟨oc, od, .func fd, osl⟩ ∧ PySem.W.codeIn K cdv qual = true
  kp : PySem.W.keepIn K (.ref f) = true
section
variable {P : Program} {w : World} {K : PySem.W.Frag} {mg : Str → Option Value} {base : Heap}
theorem Fun.ok {x qual : Str} {st : Stmt} {f : Addr} {fd : FuncData} {N ps : List Str} {k : Nat} {sp : Sp} (F : Fun K x qual st f fd) (S : FnScope N ps (defScope st)) (len : ∀ vs H Q E, sp vs H Q E → vs.length = ps.length)
    (hbody : ∀ (cdv : Value) (A : Around) (outer : List Env) (s : Shared) (H : Hp) (vs : List V) (Q : VK) (E : XK), Room k (A.deeper (envOfC qual (defScope st) s.heap.objs.size f cdv)) → sp vs H Q E →
      ∃ t, PSs (cxOf CX0 P w K mg base N qual (defScope st) f cdv A outer s H E).nox (defBody st) t ∧ t { nx := fun _ H' => Q .non H', rt := Q } (start N vs) H) : FnOk P w K mg base CX0 (k + 1) f fd ps sp := by
  obtain ⟨oc, od, kV, doc, pm, an, cdv, ct, osl, rfl, lk, hcd⟩ := F.ex
  refine fn_of lk hcd S len fun A outer s H vs Q E hr hsp => ?_
  obtain ⟨t, h, q⟩ := hbody cdv A outer s H vs Q E hr hsp
  exact ⟨t, h.nox, q⟩
theorem Fun.binds {x qual : Str} {st : Stmt} {f : Addr} {fd : FuncData} {ps : List Str} (F : Fun K x qual st f fd)
    (h : ∀ (kV doc pm : Value) (an : Option Addr) (cdv ct : Value) (us : List Value), us.length = ps.length → bindArgs (PySem.W.fnOf x qual (defArgs st) (defBody st) (defScope st) .none kV doc pm an cdv ct) ⟨us, []⟩ = pure (ps.zip us)) : Binds K fd ps [] := by
  obtain ⟨oc, od, kV, doc, pm, an, cdv, ct, osl, rfl, lk, hcd⟩ := F.ex
  exact .all (h kV doc pm an cdv ct)
theorem fun_mk {x qual : Str} {st : Stmt} {f : Addr} {oc : Value} {od an : Option Addr} {osl : Array (Option Value)} {kV doc pm cdv ct : Value} (l : K.lookup f = some ⟨oc, od, .func (PySem.W.fnOf x qual (defArgs st) (defBody st) (defScope st) .none kV doc pm an cdv ct), osl⟩)
    (c : PySem.W.codeIn K cdv qual = true) (k : PySem.W.keepIn K (.ref f) = true) : Fun K x qual st f (PySem.W.fnOf x qual (defArgs st) (defBody st) (defScope st) .none kV doc pm an cdv ct) := ⟨⟨oc, od, kV, doc, pm, an, cdv, ct, osl, rfl, l, c⟩, k⟩
end
theorem hu_of {A : Around} {k : Nat} (hr : Room k A) : A.units + 1 < cLine := Nat.lt_of_le_of_lt (Nat.add_le_add_left (by decide : 1 ≤ 64) _) hr.units
theorem small1000 {n : Nat} (h : n ≤ 1000) : n < sizeLine := Nat.lt_of_le_of_lt h (by decide)
section
variable {X : Cx}
theorem pv (i : Nat) {x : Str} {pos : Pos} (hN : X.N[i]? = some x := by rfl) (hv : Vis X.env.scope x := by first | exact Or.inl rfl | exact Or.inr (Or.inl rfl) | exact Or.inr (Or.inr rfl)) (hd : (x == ("__debug__" : Str)) = false := by decide)
    (hcd : (x == ("__classdict__" : Str)) = false := by decide) : PE X (.Name x pos) (tVar i) := pe_var hN hv hd hcd
end
theorem iteF {A B : Prop} (h : B) : if false = true then A else B := by
  rw [if_neg Bool.false_ne_true]
  exact h
theorem iteT {A B : Prop} (h : A) : if true = true then A else B := by
  rw [if_pos rfl]
  exact h
theorem ite2 {c A B : Prop} [Decidable c] (h1 : c → A) (h2 : ¬ c → B) : if c then A else B := by
  by_cases h : c
  · rw [if_pos h]
    exact h1 h
  · rw [if_neg h]
    exact h2 h
def Same (H H' : Hp) : Prop := ∀ b o, H b = some o → H' b = some o
theorem Same.refl (H : Hp) : Same H H := fun _ _ h => h
theorem Same.trans {H H1 H2 : Hp} (a : Same H H1) (b : Same H1 H2) : Same H H2 := fun c o h => b c o (a c o h)
theorem Same.free {H H' : Hp} (e : Same H H') {l : Addr} (h : H' l = Option.none) : H l = Option.none := by
  cases q : H l with
  | none => rfl
  | some o =>
    rw [e l o q] at h
    cases h
theorem Same.seq {K : PySem.W.Frag} {H H' : Hp} {a : Addr} {xs : List V} (e : Same H H') (h : SqL K H a xs) : SqL K H' a xs := by
  rcases h with (h | ⟨o, h⟩) | h
  · exact .inl (.inl (e _ _ h))
  · exact .inl (.inr ⟨o, e _ _ h⟩)
  · exact .inr h
end L2
set_option Elab.async false
set_option linter.all false
set_option maxRecDepth 100000
namespace PySem
open Sem (wp)
section
variable {M : Model} {prog : Program} {w : World} {A : Around} {E : Value → Shared → Prop} {R : Result → Shared → Prop} {h : Heap} {g : Array GenState} {d : Drawn} {t : Nat} {os : OsState}
variable {nm q : Str} {C N : Addr} {bs bm bmN : List Value} {hdct : Bool} {sn : List Str} {sub : List Value} {ab : Bool} {col : Option Bool} {dd : Option Addr} {k0 k1 k2 k3 k5 : Option Value} {Bn newId inN : String}
theorem x_check_new (Fn : ExcBaseFacts Bn newId inN bmN) (hBn : bm.contains (.type Bn) = true) {rest : List Value} {Q : Unit → Shared → Prop} (hC : h.get? C = some (excClassObj nm q C N bs bm hdct sn sub ab col dd k0 k1 k2 k3 k5 newId))
    (hq : Q () ⟨h, g, d, t, os⟩) : wpAny M A (checkBuiltinCall newId ⟨.ref C :: rest, []⟩) Q E ⟨h, g, d, t, os⟩ := by
  have hcont : (Value.ref C :: bm).contains (.type Bn) = true := by rw [List.contains_cons, hBn, Bool.or_true]
  have hstar := Fn.noStar
  simp only [checkBuiltinCall, Fn.newKind, Fn.newSplit, Fn.newRow]
  repeat (first | refine wpAny_loadPart_at hC ?_ | (refine wpAny_isSubtype_exc hC ?_; rw [hcont]) | refine wpAny_staticBase_exc hC ?_ | refine wpAny_madeBy_exc hC ?_ | simp only [bne_self_eq_false, Bool.false_eq_true, if_false] | wp_step)
  exact hq
theorem x_new (Fn : ExcBaseFacts Bn newId inN bmN) (hBn : bm.contains (.type Bn) = true) (hA : bm.contains (.type "AttributeError") = false) (hN : bm.contains (.type "NameError") = false) {rest : List Value} (hC : h.get? C = some (excClassObj nm q C N bs bm hdct sn sub ab col dd k0 k1 k2 k3 k5 newId))
    (hq : R (.ok (.ret (.ref (h.objs.size + 1)))) ⟨(h.push { cls := .type "tuple", data := .seq rest.toArray }).push
      { cls := .ref C, data := .fields #[.ref h.objs.size, .none, .none, .none, .bool false, .none] }, g, d, t, os⟩) (hrest : rest.length ≤ sizeLine := by size_fits) :
    codeAny (model prog w) A (.builtin newId ⟨.ref C :: rest, []⟩) R ⟨h, g, d, t, os⟩ := by
  have hends := Fn.ends
  have hcB : (Value.ref C :: bm).contains (.type Bn) = true := by rw [List.contains_cons, hBn, Bool.or_true]
  have hcA : (Value.ref C :: bm).contains (.type "AttributeError") = false := by rw [List.contains_cons, hA]; rfl
  have hcN : (Value.ref C :: bm).contains (.type "NameError") = false := by rw [List.contains_cons, hN]; rfl
  refine codeAny_builtinAt Fn.entry ?_
  unfold Builtin.«BaseException.__new__»
  refine wpAt_bind ?_
  show wpAt _ _ _ (stack >>= _) _ _ _
  refine wpAt_bind (wpAt_stack fun p below => wpAt_of_wpAny ?_)
  wp_walk
  refine wpAt_of_wpAny ?_
  rw [Fn.owner]
  repeat (first | with_reducible refine wpAny_madeHere_exc Fn.canon hC ?_ | with_reducible refine wpAny_loadPart_at hC ?_ | (with_reducible refine wpAny_isSubtype_exc hC ?_; first | rw [hcB] | rw [hcA] | rw [hcN]) | wp_step)
  show R _ _
  rw [Heap.size_push]
  exact hq
end
end PySem
namespace L2
open PySem PySem.Spec PyProof.Rows
def onlyV : List Value → Bool
  | .ref _ :: r => onlyV r
  | l => l == [.type "ValueError", .type "Exception", .type "BaseException", .type "object"]
theorem refuse_onlyV (self : Value) : ∀ {l : List Value}, onlyV l = true → refuseLoop self "__setattr__" l = pure ()
  | [], e => absurd e (by decide)
  | .ref c :: r, e => by rw [refuseLoop_ref]; exact refuse_onlyV self e
  | .none :: r, e | .bool _ :: r, e | .int _ _ :: r, e | .str _ _ :: r, e | .float _ _ :: r, e | .bytes _ _ :: r, e | .builtin _ :: r, e | .type _ :: r, e => by
    have q := beq_iff_eq.mp e
    rw [q]; exact PySem.F.store_ValueError.passes self
structure XC (K : PySem.W.Frag) (C fI : Addr) : Prop where
  at_ : ∃ nm q N bs bm sn sub ab col dd k0 k1 k2 k3 k5, K.lookup C = some (excClassObj nm q C N bs bm true sn sub ab col dd k0 k1 k2 k3 k5 "ValueError.__new__") ∧ bm.contains (.type "ValueError") = true ∧
    bm.contains (.type "AttributeError") = false ∧ bm.contains (.type "NameError") = false ∧ bm.contains (.type "BaseException") = true
  init : PySem.W.findIn K (.ref C) "__init__" = some (some (.ref fI))
  fn : PySem.W.typeIn K (.ref fI) = some (.type "function")
  row : (PySem.W.clsIn K C).any (fun cd => onlyV cd.mro && cd.hasDict) = true
  sa : PySem.W.findIn K (.ref C) "__setattr__" = some (some (.builtin "object.__setattr__"))
  ga : PySem.W.findIn K (.ref C) "__getattribute__" = some (some (.builtin "BaseException.__getattribute__"))
  hook : PySem.W.findIn K (.ref C) "__getattr__" = some none
  act : PySem.W.findIn K (.ref C) "act" = some none
  cls : PySem.W.findIn K (.ref C) "__class__" = some (some (.builtin "object.__class__"))
section
variable {prog : Program} {w : World} {A : Around} {E : Value → Shared → Prop} {h : Heap} {g : Array GenState} {d : Drawn} {t : Nat} {os : OsState} {K : PySem.W.Frag} {C fI : Addr}
theorem x_type_call (X : K.In h) (c : XC K C fI) {rest : List Value} {Q : Fin → Shared → Prop}
    (hq : ∀ h' e, Heap.MadeExcOf h h' e (.ref C) rest → e = h.objs.size + 1 → h'.get? h.objs.size = some { cls := .type "tuple", data := .seq rest.toArray } →
      wpAny (model prog w) A (call (.ref fI) (.ref e :: rest)) (fun r s' => r = .none ∧ Q (.done (.ret (.ref e))) s') E ⟨h', g, d, t, os⟩) (hrest : rest.length ≤ sizeLine) :
    wpAny (model prog w) A (Builtin.«type.__call__» ⟨.ref C :: rest, []⟩) Q E ⟨h, g, d, t, os⟩ := by
  obtain ⟨⟨nm, q, N, bs, bm, sn, sub, ab, col, dd, k0, k1, k2, k3, k5, lk, hB, hA, hN, hE⟩, hi, hf, _⟩ := c
  have hC := X _ _ lk
  have F := PySem.F.excBase_ValueError
  repeat (first | with_reducible refine wpAny_loadPart_at hC ?_ | with_reducible refine wpAny_madeBy_exc hC ?_ | wp_step)
  refine codeAny_call_builtin_code (Code.quiet_builtin _ F.quiet) (x_check_new F hB hC ?_)
  refine x_new F hB hA hN hC ?_ hrest
  show wpAny _ _ _ _ _ _
  have kp : ∀ b o, h.get? b = some o → ((h.push { cls := .type "tuple", data := .seq rest.toArray }).push { cls := .ref C, data := .fields #[.ref h.objs.size, .none, .none, .none, .bool false, .none] }).get? b = some o :=
    fun b o e => Heap.get?_push_of_some _ (Heap.get?_push_of_some _ e)
  have hC₁ := kp _ _ hC
  have X₁ := X.keeps kp
  have hget : ((h.push { cls := .type "tuple", data := .seq rest.toArray }).push
      { cls := .ref C, data := .fields #[.ref h.objs.size, .none, .none, .none, .bool false, .none] }).get? (h.objs.size + 1) = some
      { cls := .ref C, data := .fields #[.ref h.objs.size, .none, .none, .none, .bool false, .none] } := by heap_get
  have htup : ((h.push { cls := .type "tuple", data := .seq rest.toArray }).push
      { cls := .ref C, data := .fields #[.ref h.objs.size, .none, .none, .none, .bool false, .none] }).get? h.objs.size = some { cls := .type "tuple", data := .seq rest.toArray } := Heap.get?_push_of_some _ (Heap.get?_push_at rfl rfl)
  have hcC : (Value.ref C :: bm).contains (.ref C) = true := by simp
  unfold isInstance
  repeat (first | with_reducible refine wpAny_loadPart_at hget ?_ | (with_reducible refine wpAny_isSubtype_exc hC₁ ?_; rw [hcC]) | wp_step)
  show wpAny _ _ (typeLookup (.ref C) _) _ _ _
  refine (PySem.W.looks_findIn X₁ hi).at ?_
  refine wpAny_holding (wpAny_bind ?_)
  unfold bindSpecial
  refine wpAny_bind ((PySem.W.looks_typeIn X₁ hf).at ?_)
  rw [if_pos (by decide)]
  refine wpAny_pure (wpAny_bind (wpAny_mono (hq _ (h.objs.size + 1) ⟨kp, Heap.get?_none_of_le (Nat.le_succ _), h.objs.size, hget, Heap.get?_none_of_le (Nat.le_refl _), htup⟩ rfl htup) (fun r s' hr => ?_) fun _ _ x => x))
  obtain ⟨rfl, hQ⟩ := hr
  wp_walk
  exact hQ
theorem x_call (X : K.In h) (c : XC K C fI) {rest : List Value} {Q : Value → Shared → Prop}
    (hq : ∀ h' e, Heap.MadeExcOf h h' e (.ref C) rest → e = h.objs.size + 1 → h'.get? h.objs.size = some { cls := .type "tuple", data := .seq rest.toArray } →
      wpAny (model prog w) (A.under (.builtin "type.__call__" ⟨.ref C :: rest, []⟩)) (call (.ref fI) (.ref e :: rest)) (fun r s' => r = .none ∧ Q (.ref e) s') E ⟨h', g, d, t, os⟩) (hrest : rest.length ≤ sizeLine) :
    wpAny (model prog w) A (call (.ref C) rest) Q E ⟨h, g, d, t, os⟩ := by
  obtain ⟨nm, q, N, bs, bm, sn, sub, ab, col, dd, k0, k1, k2, k3, k5, lk, hB, hA, hN, hE⟩ := c.at_
  have hC := X _ _ lk
  have f1 := tc_lookup
  have f2 := tc_bind (.ref C)
  have hT : (⟨h, g, d, t, os⟩ : Shared).TypeIs (.ref C) "type" := ⟨_, hC, rfl⟩
  refine wpAny_call (codeAny_of_tree ?_)
  show wpAny _ _ (callAny (.ref C) _) _ _ _
  repeat (any_goals (first | assumption | with_reducible refine wpAny_loadPart_at hC ?_ | wp_step))
  refine ⟨rfl, ?_⟩
  refine codeAny_call_builtin_at (Code.quiet_builtin _ (by decide +kernel)) entry_typeCall (wpAny_check_type_call_sub hC (x_type_call X c (fun h' e hm h1 h2 => ?_) hrest))
  exact hq h' e hm h1 h2
end
end L2
set_option Elab.async false
set_option linter.all false
set_option maxRecDepth 100000
namespace L2
open PySem PySem.Spec PyProof.Rows
def XO (e C : Addr) (d : Option Addr) : HO := .ext fun h => ∃ vs : Array Value, h.get? e = some { cls := .ref C, dict := d, data := .fields vs } ∧ vs.size = 6 ∧ vs[1]? = some .none
theorem XO.at {P : Program} {w : World} {H : Hp} {h : Heap} {e C : Addr} {d : Option Addr} (x : HOk P w H h) (q : H e = some (XO e C d)) : ∃ vs : Array Value, h.get? e = some { cls := .ref C, dict := d, data := .fields vs } ∧ vs.size = 6 ∧ vs[1]? = some .none := (x e _ q).1
theorem XO.ok {P : Program} {w : World} {H : Hp} {h : Heap} {e C : Addr} {d : Option Addr} {vs : Array Value} (q : h.get? e = some { cls := .ref C, dict := d, data := .fields vs }) (z : vs.size = 6) (n : vs[1]? = some .none) : ObjOk P w H h e (XO e C d) :=
  ⟨⟨vs, q, z, n⟩, ⟨_, q⟩, fun h1 h2 ⟨us, a, b, c⟩ k => ⟨us, k _ a, b, c⟩⟩
theorem vi_find (K : PySem.W.Frag) : PySem.W.findCls K (.type "ValueError") (.type "type") "__init__" = some (.val (.builtin "ValueError.__init__")) :=
  show PySem.W.findCls [] (.type "ValueError") (.type "type") "__init__" = some (.val (.builtin "ValueError.__init__")) by kernel_rfl
section
variable {prog : Program} {w : World} {A : Around} {E : Value → Shared → Prop} {s : Shared} {K : PySem.W.Frag} {C fI e : Addr}
theorem vi_run (X : K.In s.heap) (c : XC K C fI) {dx : Option Addr} {vs : Array Value} {sl : Array (Option Value)} {rest : List Value} {Q : Value → Shared → Prop} (he : s.heap.get? e = some { cls := .ref C, dict := dx, data := .fields vs, slots := sl }) (hz : 0 < vs.size) {u0 : Value} (h0 : vs[0]? = some u0) (hr : rest.length ≤ sizeLine)
    (h : Q .none { s with heap := (s.heap.push { cls := .type "tuple", data := .seq rest.toArray }).update e (Obj.mapFields (·.setIfInBounds 0 (.ref s.heap.objs.size))) }) :
    wpAny (model prog w) A (call (.builtin "ValueError.__init__") (.ref e :: rest)) Q E s := by
  obtain ⟨nm, q, N, bs, bm, sn, sub, ab, col, dd, k0, k1, k2, k3, k5, lk, hB, hA, hN, hE⟩ := c.at_
  have hC := X _ _ lk
  have F := PySem.F.excBase_ValueError
  obtain ⟨hp, g, d, t, os⟩ := s
  have hcB : (Value.ref C :: bm).contains (.type "ValueError") = true := by rw [List.contains_cons, hB, Bool.or_true]
  refine wpAny_call (codeAny_call_builtin F.init.plain F.initEntry ?_)
  have hshort := F.noStar
  simp only [checkBuiltinCall, F.initKind, F.initSplit, F.initRow]
  repeat (first | with_reducible refine wpAny_loadPart_at he ?_ | with_reducible refine wpAny_loadPart_at hC ?_ | (with_reducible refine wpAny_isSubtype_exc hC ?_; rw [hcB]) | wp_step)
  refine wpAny_onRaise ?_
  rw [show ∀ (a b : String) (n : Nat), Bind.check ⟨.positional, "*", "ValueError", .self, [⟨"args", .varPos, false⟩]⟩ a b n (List.map (fun x => x.fst) ({ pos := Value.ref e :: rest } : Args).kw) = pure () from
    fun a b n => check_star_args _ _ _ _ _ _]
  refine wpAny_pure ?_
  unfold Builtin.«BaseException.__init__» newTuple
  refine wpAny_bind (wpAny_newObj_type ?_ (by show rest.toArray.size ≤ sizeLine; rw [List.size_toArray]; exact hr))
  have he₁ := Heap.get?_push_of_some (h := hp) { cls := .type "tuple", data := .seq rest.toArray } he
  refine wpAny_bind ?_
  unfold Builtin.BaseException.bexcPut
  refine wpAny_bind (wpAny_field he₁ rfl h0 ?_)
  refine wpAny_bind (wpAny_setField he₁ rfl hz ?_)
  split
  · exact wpAny_letGo (wpAny_pure h)
  · exact wpAny_pure (wpAny_pure h)
end
end L2
set_option Elab.async false
set_option linter.all false
set_option maxRecDepth 100000
namespace L2
open PySem PySem.Spec PyProof.Rows Builtin Builtin.ObjectAttr
section
variable {prog : Program} {w : World} {A : Around} {E : Value → Shared → Prop} {s : Shared} {K : PySem.W.Frag} {C fI e : Addr}
theorem x_store (X : K.In s.heap) (c : XC K C fI) {vs : Array Value} {v : Value} {Q : Unit → Shared → Prop} (he : s.heap.get? e = some { cls := .ref C, data := .fields vs })
    (hq : ∀ h' t', h'.get? e = some { cls := .ref C, dict := some s.heap.objs.size, data := .fields vs } → h'.Ns1 s.heap.objs.size (fun y => if y = "act" then some v else none) →
      (∀ b o, b ≠ e → s.heap.get? b = some o → h'.get? b = some o) → Q () { s with heap := h', toks := t' }) :
    wpAny (model prog w) A (setAttr (.ref e) "act" v) Q E s := by
  have I : PySem.W.InstAt s.heap e { cls := .ref C, data := .fields vs } C none := ⟨he, rfl, rfl, trivial⟩
  refine PySem.W.set_plain X I c.sa ?_
  obtain ⟨cd, hc, ho'⟩ := PySem.W.any_some c.row
  obtain ⟨ho, hd⟩ := Bool.and_eq_true_iff.mp ho'
  have SF := PySem.F.store_object
  have SV := PySem.F.store_ValueError
  have hm : PySem.W.Looks (model prog w) s.heap (mroOf (.ref C)) cd.mro := (PySem.W.looks_clsIn X hc).andThen .now
  have hasO : ∀ {l : List Value}, onlyV l = true → l.contains (.type "object") = true ∧ l.isEmpty = false := by
    intro l
    induction l with
    | nil => intro z; exact absurd z (by decide)
    | cons a r ih =>
      intro z
      refine ⟨?_, rfl⟩
      cases a with
      | ref x => rw [List.contains_cons, (ih z).1, Bool.or_true]
      | _ => have q := beq_iff_eq.mp z; rw [q]; decide +kernel
  have sub : PySem.W.Looks (model prog w) s.heap (isInstance (.ref e) (.type "object")) true := I.type.andThen (PySem.W.looks_mroIn X (by unfold PySem.W.mroIn; rw [hc, Option.bind_some, if_neg (by rw [(hasO ho).2]; decide), (hasO ho).1]))
  refine codeAny_call_builtin SF.slot.plain SF.entry (@PySem.W.check_slot (model prog w) _ _ { s with toks := s.toks + 1 } "object.__setattr__" "object" "__setattr__" (.ref e) [.str "act" s.toks, v] [] _ SF.kind SF.split sub (SF.args (.ref e) (.str "act" s.toks) v) ?_)
  rw [PySem.W.osa_eq, refuse_eq]
  refine wpAny_bind (wpAny_bind (I.type _ _ _ _ (fun _ _ e => e) (wpAny_bind (hm _ _ _ _ (fun _ _ e => e) ?_))))
  rw [refuse_onlyV _ ho]
  refine wpAny_pure (wpAny_bind (I.type _ _ _ _ (fun _ _ e => e) (wpAny_bind (PySem.W.looks_findIn X c.act _ _ _ _ (fun _ _ e => e) (wpAny_bind ?_)))))
  refine wpAny_pure ?_
  dsimp only
  obtain ⟨h, g, d, t, os⟩ := s
  dsimp only at *
  unfold storeInOwnDict
  have hxs : e ≠ h.objs.size := Nat.ne_of_lt (Heap.lt_size he)
  have hx₁ : (h.push { cls := .type "dict", data := .dict #[] }).get? e = some { cls := .ref C, data := .fields vs } := Heap.get?_push_of_some _ he
  refine wpAny_bind (wpAny_pure (wpAny_bind ?_))
  unfold ownDictForStores instanceDict
  refine wpAny_bind (wpAny_loadPart he ?_)
  dsimp only
  refine wpAny_bind ((PySem.W.looks_clsIn X hc) _ _ _ _ (fun _ _ e => e) ?_)
  rw [hd, if_neg (by decide), if_neg (by simp [typeHasDict])]
  refine wpAny_bind (wpAny_alloc' ?_)
  refine wpAny_bind (wpAny_update' hx₁ ?_)
  refine wpAny_pure ?_
  have hgd : ((h.push { cls := .type "dict", data := .dict #[] }).update e fun o => { cls := o.cls, dict := some h.objs.size, data := o.data, slots := o.slots }).get? h.objs.size
      = some { cls := .type "dict", data := .dict #[] } :=
    (Heap.get?_update_ne _ _ _ _ hxs.symm).trans (Heap.get?_push_at rfl rfl)
  have hnd : ((h.push { cls := .type "dict", data := .dict #[] }).update e fun o => { cls := o.cls, dict := some h.objs.size, data := o.data, slots := o.slots }).Ns h.objs.size (fun _ => none) :=
    ⟨_, #[], _, hgd, rfl, fun e he => absurd he (by simp), fun _ => rfl⟩
  show wpAny _ _ (storeInDict h.objs.size (.str "act" _) "act" v) _ _ _
  unfold storeInDict newKeyGuard
  refine wpAny_bind (wpAny_pure (wpAny_bind (wpAny_nsSet1 (Heap.Ns1.of_empty hnd) fun h' hn' hs => ?_)))
  obtain ⟨oD, esD, epD, hoD, hdD, hcD⟩ := hn'.count (Within.cons "act" v Within.nil)
  refine wpAny_bind (wpAny_lookBehind hoD (by rw [hdD]; exact pastItsLine_dict (Nat.le_trans hcD (by rw [List.length_cons, List.length_nil, sizeLine_eq]; omega))) ?_)
  refine wpAny_pure ?_
  refine hq h' _ ?_ hn' fun b ob hbx hb => (hs.2 b (Nat.ne_of_lt (Heap.lt_size hb))).trans ((Heap.get?_update_ne _ _ _ _ hbx).trans (Heap.get?_push_of_some _ hb))
  exact (hs.2 e hxs).trans (Heap.get?_update_self _ hx₁ rfl)
theorem x_load (X : K.In s.heap) (c : XC K C fI) {vs : Array Value} {dx : Addr} {v : Value} {mA : Str → Option Value} {expr : Bool} {Q : Value → Shared → Prop} (he : s.heap.get? e = some { cls := .ref C, dict := some dx, data := .fields vs })
    (hn : s.heap.Ns1 dx mA) (hv : mA "act" = some v) (hh : PySem.W.handedIn v = true) (hq : Q v { s with toks := s.toks + 1 }) :
    wpAny (model prog w) A (getAttr (.ref e) "act" expr) Q E s := by
  obtain ⟨cd, hc, ho'⟩ := PySem.W.any_some c.row
  obtain ⟨ho, hd⟩ := Bool.and_eq_true_iff.mp ho'
  obtain ⟨h, g, d, t, os⟩ := s
  have hx2 : (Value.builtin "BaseException.__getattribute__" == Value.builtin "object.__getattribute__") = false := by decide +kernel
  have T : PySem.W.Looks (model prog w) h (typeOf (.ref e)) (.ref C) := (PySem.W.Looks.ld he).andThen .now
  unfold getAttr
  refine wpAny_bind (wpAny_mkText ?_)
  unfold getAttrBy
  refine wpAny_holding (wpAny_bind (T.at (wpAny_bind ((PySem.W.looks_findIn X c.ga).at ?_))))
  dsimp only
  rw [show (onTheHeap (Value.ref C) && Value.builtin "BaseException.__getattribute__" == Value.builtin "object.__getattribute__") = false by rw [hx2]; rfl, if_neg (by decide)]
  unfold getAttrByItsOwn hookBefore
  rw [if_pos (show onTheHeap (Value.ref C) = true from rfl)]
  refine wpAny_bind ((PySem.W.looks_findIn X c.hook).at (wpAny_bind (wpAny_attempt (wpAny_holding ?_))))
  unfold callGetattribute
  rw [show (expr && onTheHeap (Value.builtin "BaseException.__getattribute__")) = false from Bool.and_false _, if_neg (by decide)]
  unfold boundAndCalled
  have ga := PySem.F.attr_ValueError.ga
  rw [ga.bind]
  refine wpAny_bind (wpAny_pure ?_)
  show wpAny _ _ (call (.builtin "BaseException.__getattribute__") [.ref e, .str "act" t]) _ _ _
  obtain ⟨nm, q, N, bs, bm, sn, sub, ab, col, dd, k0, k1, k2, k3, k5, lk, hB, hA, hN, hE⟩ := c.at_
  have hcd : cd.mro = .ref C :: bm := by
    unfold PySem.W.clsIn at hc
    rw [lk] at hc
    cases hc; rfl
  have sb : PySem.W.Looks (model prog w) h (isInstance (.ref e) (.type "BaseException")) true := T.andThen (PySem.W.looks_mroIn X (by unfold PySem.W.mroIn; rw [hc, Option.bind_some, hcd, if_neg (by simp), List.contains_cons, hE, Bool.or_true]))
  refine wpAny_call (codeAny_call_builtin ga.plain PySem.F.entry_bexc_ga (@PySem.W.check_slot (model prog w) _ _ ⟨h, g, d, t + 1, os⟩ "BaseException.__getattribute__" "BaseException" "__getattribute__" (.ref e) [.str "act" t] [] _ (by decide +kernel) (by decide +kernel) sb (PySem.F.args_bexc_ga (.ref e) (.str "act" t)) ?_))
  obtain ⟨od, es, ep, hod, hdd, -, -, hf⟩ := hn
  have I : PySem.W.InstAt h e { cls := .ref C, dict := some dx, data := .fields vs } C (some od) := ⟨he, rfl, rfl, hod⟩
  have hl : PySem.W.lookIn "act" od = some (some v) := by
    have q := (hf "act").trans hv
    unfold nsFind findBy at q
    rw [← Array.find?_toList] at q
    unfold PySem.W.lookIn
    rw [hdd]
    dsimp only
    obtain ⟨en, e1, e2⟩ := Option.map_eq_some_iff.mp q
    rw [e1]
    dsimp only
    rw [e2]
  have hfo : PySem.W.findObj K C (some od) "act" = some (.value v) := by
    unfold PySem.W.findObj
    rw [hc, Option.bind_some, c.act, Option.bind_some]
    dsimp only
    rw [Option.bind_some, Option.bind_some]
    unfold PySem.W.ownOf
    rw [hd, if_pos rfl]
    dsimp only
    rw [hl]; rfl
  refine wpAny_bind (wpAny_pure (wpAny_bind (wpAny_pure (wpAny_bind (T.at (wpAny_bind ((PySem.W.looks_find X I hfo).at ?_)))))))
  refine wpAny_pure ?_
  show wpAny _ _ (handedOut v) _ _ _
  rw [PySem.W.handedOut_of hh]
  exact wpAny_pure hq
end
end L2
set_option Elab.async false
set_option linter.all false
set_option maxRecDepth 100000
namespace L2
open PySem PySem.Spec PyProof.Rows Builtin Builtin.ObjectAttr
section
variable {prog : Program} {w : World} {A : Around} {E : Value → Shared → Prop} {s : Shared} {K : PySem.W.Frag} {C fI e : Addr}
theorem x_mro (c : XC K C fI) : ∃ cd bm, PySem.W.clsIn K C = some cd ∧ cd.mro = .ref C :: bm ∧ bm.contains (.type "BaseException") = true ∧ onlyV cd.mro = true ∧ cd.hasDict = true ∧ bm.contains (.type "AttributeError") = false := by
  obtain ⟨cd, hc, ho'⟩ := PySem.W.any_some c.row
  obtain ⟨ho, hd⟩ := Bool.and_eq_true_iff.mp ho'
  obtain ⟨nm, q, N, bs, bm, sn, sub, ab, col, dd, k0, k1, k2, k3, k5, lk, hB, hA, hN, hE⟩ := c.at_
  refine ⟨cd, bm, hc, ?_, hE, ho, hd, hA⟩
  unfold PySem.W.clsIn at hc
  rw [lk] at hc
  cases hc; rfl
theorem onlyV_obj : ∀ {l : List Value}, onlyV l = true → l.contains (.type "object") = true
  | [], e => absurd e (by decide)
  | .ref c :: r, e => by rw [List.contains_cons, onlyV_obj (l := r) e, Bool.or_true]
  | .none :: r, e | .bool _ :: r, e | .int _ _ :: r, e | .str _ _ :: r, e | .float _ _ :: r, e | .bytes _ _ :: r, e | .builtin _ :: r, e | .type _ :: r, e => by
    have q := beq_iff_eq.mp e
    rw [q]; decide +kernel
theorem x_class (X : K.In s.heap) (c : XC K C fI) {vs : Array Value} {dx : Option Addr} {Q : Option Value → Shared → Prop} (he : s.heap.get? e = some { cls := .ref C, dict := dx, data := .fields vs }) (hd : ∀ a, dx = some a → ∃ o, s.heap.get? a = some o)
    (hq : Q (some (.ref C)) { s with toks := s.toks + 1 }) : wpAny (model prog w) A (getAttr? (.ref e) "__class__") Q E s := by
  obtain ⟨cd, bm, hc, hm, hE, ho, hdi, hA⟩ := x_mro c
  obtain ⟨h, g, d, t, os⟩ := s
  have hx2 : (Value.builtin "BaseException.__getattribute__" == Value.builtin "object.__getattribute__") = false := by decide +kernel
  have T : PySem.W.Looks (model prog w) h (typeOf (.ref e)) (.ref C) := (PySem.W.Looks.ld he).andThen .now
  unfold getAttr? getAttrBy?
  refine wpAny_bind (wpAny_mkText (wpAny_bind (wpAny_attempt ?_)))
  unfold getAttrBy
  refine wpAny_holding (wpAny_bind (T.at (wpAny_bind ((PySem.W.looks_findIn X c.ga).at ?_))))
  dsimp only
  rw [show (onTheHeap (Value.ref C) && Value.builtin "BaseException.__getattribute__" == Value.builtin "object.__getattribute__") = false by rw [hx2]; rfl, if_neg (by decide)]
  unfold getAttrByItsOwn hookBefore
  rw [if_pos (show onTheHeap (Value.ref C) = true from rfl)]
  refine wpAny_bind ((PySem.W.looks_findIn X c.hook).at (wpAny_bind (wpAny_attempt (wpAny_holding ?_))))
  unfold callGetattribute
  rw [show (false && onTheHeap (Value.builtin "BaseException.__getattribute__")) = false from rfl, if_neg (by decide)]
  unfold boundAndCalled
  have ga := PySem.F.attr_ValueError.ga
  rw [ga.bind]
  refine wpAny_bind (wpAny_pure ?_)
  show wpAny _ _ (call (.builtin "BaseException.__getattribute__") [.ref e, .str "__class__" t]) _ _ _
  have sb : PySem.W.Looks (model prog w) h (isInstance (.ref e) (.type "BaseException")) true := T.andThen (PySem.W.looks_mroIn X (by unfold PySem.W.mroIn; rw [hc, Option.bind_some, hm, if_neg (by simp), List.contains_cons, hE, Bool.or_true]))
  refine wpAny_call (codeAny_call_builtin ga.plain PySem.F.entry_bexc_ga (@PySem.W.check_slot (model prog w) _ _ ⟨h, g, d, t + 1, os⟩ "BaseException.__getattribute__" "BaseException" "__getattribute__" (.ref e) [.str "__class__" t] [] _ (by decide +kernel) (by decide +kernel) sb (PySem.F.args_bexc_ga (.ref e) (.str "__class__" t)) ?_))
  have I : ∃ od, PySem.W.InstAt h e { cls := .ref C, dict := dx, data := .fields vs } C od := by
    cases dx with
    | none => exact ⟨none, he, rfl, rfl, trivial⟩
    | some a => obtain ⟨o, q⟩ := hd a rfl; exact ⟨some o, he, rfl, rfl, q⟩
  obtain ⟨od, I⟩ := I
  have hfo : PySem.W.findObj K C od "__class__" = some (.bind (.builtin "getset_descriptor.__get__") (.builtin "object.__class__")) := by
    unfold PySem.W.findObj
    rw [hc, Option.bind_some, c.cls, Option.bind_some]
    dsimp only
    rw [show PySem.W.specialIn K (.builtin "object.__class__") "__get__" = some (some (.builtin "getset_descriptor.__get__")) from show PySem.W.specialIn [] (.builtin "object.__class__") "__get__" = some (some (.builtin "getset_descriptor.__get__")) by decide +kernel, Option.bind_some]
    dsimp only
    rw [show PySem.W.takesIn K (.builtin "object.__class__") = some true from show PySem.W.takesIn [] (.builtin "object.__class__") = some true by decide +kernel, Option.bind_some]
  refine wpAny_bind (wpAny_pure (wpAny_bind (wpAny_pure (wpAny_bind (T.at (wpAny_bind ((PySem.W.looks_find X I hfo).at ?_)))))))
  have hob : PySem.W.mroIn K C (.type "object") = some true := by unfold PySem.W.mroIn; rw [hc, Option.bind_some, if_neg (by rw [hm]; simp), onlyV_obj ho]
  refine wpAny_bind (wpAny_holding (wpAny_call (PySem.W.class_get (s := ⟨h, g, d, t + 1, os⟩) X I hob ?_)))
  exact wpAny_pure (wpAny_pure (wpAny_pure hq))
theorem x_isi_nested (X : K.In s.heap) (c : XC K C fI) {vs : Array Value} {dx : Option Addr} {D : Value} {b : Bool} {Q : Fin → Shared → Prop} (he : s.heap.get? e = some { cls := .ref C, dict := dx, data := .fields vs }) (hd : ∀ a, dx = some a → ∃ o, s.heap.get? a = some o)
    (hD : PySem.W.Looks (model prog w) s.heap (typeOf D) (.type "type")) (hT : PySem.W.Looks (model prog w) s.heap (isType D) true) (hb : PySem.W.mroIn K C D = some b) (hq : ∀ t, Q (.done (.ret (.bool b))) { s with toks := t }) :
    wpAny (model prog w) A (Builtin.«isinstance.nested» ⟨[.ref e, D, rawInt 0], []⟩) Q E s := by
  obtain ⟨cd, bm, hc, hm, hE, ho, hdi, hA⟩ := x_mro c
  have hcC : PySem.W.mroIn K C (.ref C) = some true := by unfold PySem.W.mroIn; rw [hc, Option.bind_some, if_neg (by rw [hm]; simp), hm]; simp
  obtain ⟨h, g, d, t, os⟩ := s
  have T : PySem.W.Looks (model prog w) h (typeOf (.ref e)) (.ref C) := (PySem.W.Looks.ld he).andThen .now
  have L2 := PySem.W.looks_mroIn (M := model prog w) X hb
  have LI : PySem.W.Looks (model prog w) h (isInstance (.ref e) D) b := T.andThen L2
  unfold Builtin.«isinstance.nested»
  refine wpAny_bind (T.at ?_)
  by_cases q : (Value.ref C == D) = true
  · rw [if_pos q]
    have q' := beq_iff_eq.mp q
    subst q'
    rw [hcC] at hb; cases hb
    exact wpAny_bind (wpAny_rule (wpAny_bind (wpAny_pure (wpAny_pure (hq t)))))
  · rw [if_neg q]
    refine wpAny_bind (hD.at ?_)
    rw [if_pos (by decide)]
    have P : ∀ {Q' : Bool → Shared → Prop} {E' : Value → Shared → Prop} {A' : Around}, (∀ t, Q' b ⟨h, g, d, t, os⟩) → wpAny (model prog w) A' (do
        if !(← isType D) then
          if ← Builtins.hasBases D then unsupported "isinstance:class-by-__bases__"
          rule "isinstance.not-a-class"; raiseError "TypeError" "isinstance() arg 2 must be a type, a tuple of types, or a union"
        if ← isInstance (.ref e) D then return true
        let some c ← getAttr? (.ref e) "__class__" | return false
        if !(← isType c) then return false
        rule "isinstance.by-__class__"; isSubtype c D) Q' E' ⟨h, g, d, t, os⟩ := by
      intro Q' E' A' hq'
      refine wpAny_bind (hT.at ?_)
      rw [if_neg (by decide)]
      refine wpAny_bind (LI.at ?_)
      cases b with
      | true => rw [if_pos rfl]; exact wpAny_pure (hq' t)
      | false =>
        rw [if_neg (by decide)]
        refine wpAny_bind (x_class X c he hd ?_)
        dsimp only
        have tC : PySem.W.Looks (model prog w) h (isType (.ref C)) true := by
          obtain ⟨nm, q, N, bs, bm, sn, sub, ab, col, dd, k0, k1, k2, k3, k5, lk, -⟩ := c.at_
          exact (PySem.W.Looks.ld (X _ _ lk)).andThen .now
        refine wpAny_bind (tC _ _ _ _ (fun _ _ e => e) ?_)
        rw [if_neg (by decide)]
        exact wpAny_bind (wpAny_rule (L2 _ _ _ _ (fun _ _ e => e) (hq' _)))
    exact wpAny_bind (P fun t => wpAny_pure (hq t))
end
end L2
set_option Elab.async false
set_option linter.all false
set_option maxRecDepth 100000
namespace L2
open PySem PySem.Spec PyProof.Rows
section
variable {M : Model} {A : Around} {E : Value → Shared → Prop} {s : Shared} {base : Heap} {env : Env} {outer : List Env} {L e : Addr}
theorem x_entry {oe : Obj} {vs : Array Value} {head : Value} {hadNext : Bool} {Q : Unit → Shared → Prop} (hfr : A.frames = some (env :: outer)) (hl : s.heap.FunFrames base (env :: outer)) (hf : env.frame = some L)
    (he : s.heap.get? e = some oe) (hd : oe.data = .fields vs) (hsz : 1 < vs.size)
    (h : ∀ h', (∀ b o, b ≠ e → b ∉ frs (env :: outer) → s.heap.get? b = some o → h'.get? b = some o) → (∀ b o, b ≠ e → s.heap.get? b = some o → ∃ sl, h'.get? b = some { o with slots := sl }) →
      h'.get? e = some (oe.mapFields (·.setIfInBounds 1 (.ref s.heap.objs.size))) → (∃ oT ts, h'.get? s.heap.objs.size = some oT ∧ oT.data = .fields ts ∧ ts[3]? = some .none) → Q () { s with heap := h' }) :
    wpAny M A (do let a ← frameOf env; let pl ← entryPlaceOf L hadNext; let b ← EntryCells.newEntry head a .none (rawInt L) .none pl; setField (.ref e) 1 b) (fun _ s' => wpAny M A (setFlight (.ref e) none) Q E s') E s := by
  have hene : e ∉ (env :: outer).filterMap (·.frame) := fun hm => by
    obtain ⟨_, o, ho, hnf⟩ := hl.mem hm
    rw [he] at ho; injection ho with ho; subst ho; exact hnf vs hd
  refine wpAny_bind (wpAny_frameOf_fun hfr hl hf fun h₁ hs₁ => ?_)
  refine wpAny_bind (wpAny_entryPlaceOf fun pl hpl => ?_)
  unfold EntryCells.newEntry newFields
  refine wpAny_bind (wpAny_newObj_type ?_ (hpl.sizeOk5 _ _ _ _ _))
  have he₁ : h₁.get? e = some oe := (hs₁.2.1 e hene).trans he
  have he₂ := Heap.get?_push_of_some (h := h₁) { cls := .type "traceback", dict := none, data := .fields ([head, .ref L, .none, rawInt L, .none] ++ (if pl.isEmpty then List.replicate 6 Value.none else pl)).toArray } he₁
  refine wpAny_setField he₂ hd hsz ?_
  have hTe : h₁.objs.size ≠ e := Nat.ne_of_gt (Heap.lt_size he₁)
  have hd₃ := Obj.data_mapFields hd (·.setIfInBounds 1 (Value.ref h₁.objs.size))
  have he₃ := Heap.get?_update_self (Obj.mapFields (·.setIfInBounds 1 (Value.ref h₁.objs.size))) he₂ (Obj.isFreed_of_fields hd₃)
  have hT₃ := (Heap.get?_update_other (h₁.push { cls := .type "traceback", dict := none, data := .fields ([head, .ref L, .none, rawInt L, .none] ++ (if pl.isEmpty then List.replicate 6 Value.none else pl)).toArray })
    (Obj.mapFields (·.setIfInBounds 1 (Value.ref h₁.objs.size))) (Ne.symm hTe)).trans (Heap.get?_push_size h₁ rfl)
  unfold setFlight
  refine wpAny_bind (wpAny_field he₃ hd₃ (x := .ref h₁.objs.size) (by simp [hsz]) ?_)
  rw [if_pos (show (Value.ref h₁.objs.size != Value.none) = true from by simp)]
  have keep : ∀ b o, b ≠ e → h₁.get? b = some o →
      (((h₁.push { cls := .type "traceback", dict := none, data := .fields ([head, .ref L, .none, rawInt L, .none] ++ (if pl.isEmpty then List.replicate 6 Value.none else pl)).toArray }).update e (Obj.mapFields (·.setIfInBounds 1 (Value.ref h₁.objs.size)))).update h₁.objs.size
        (Obj.mapFields (·.setIfInBounds 3 ((none : Option Addr).elim Value.none fun f => rawInt f)))).get? b = some o := fun b o hbe hb => by
    have hbT : h₁.objs.size ≠ b := Nat.ne_of_gt (Heap.lt_size hb)
    rw [Heap.get?_update_other _ _ hbT, Heap.get?_update_other _ _ (Ne.symm hbe)]
    exact Heap.get?_push_of_some _ hb
  refine wpAny_setField hT₃ rfl (by simp only [List.size_toArray, List.length_append, List.length_cons, List.length_nil] <;> omega) (h _ (fun b o hbe hbf hb => keep b o hbe ((hs₁.2.1 b hbf).trans hb)) (fun b o hbe hb => ?_) ?_ ?_)
  · obtain ⟨sl, hs⟩ := hs₁.2.2 b o hb
    exact ⟨sl, keep b _ hbe hs⟩
  · rw [← hs₁.1, Heap.get?_update_other _ _ hTe]; exact he₃
  · rw [← hs₁.1]
    exact ⟨_, _, Heap.get?_update_self _ hT₃ (Obj.isFreed_of_fields (Obj.data_mapFields rfl _)), Obj.data_mapFields rfl _, by first | (simp; done) | (rcases hpl with rfl | ⟨_, _, _, _, _, _, _, rfl⟩ <;> simp)⟩
theorem x_note {oe : Obj} {vs : Array Value} {Q : Unit → Shared → Prop} (T : Option Addr) (hfr : A.frames = some (env :: outer)) (hl : s.heap.FunFrames base (env :: outer)) (hf : env.frame = some L)
    (he : s.heap.get? e = some oe) (hd : oe.data = .fields vs) (h1 : vs[1]? = some (T.elim .none .ref)) (hT : ∀ a, T = some a → a ≠ e ∧ ∃ oT ts, s.heap.get? a = some oT ∧ oT.data = .fields ts ∧ ts[3]? = some .none)
    (h : ∀ h', (∀ b o, b ≠ e → T ≠ some b → b ∉ frs (env :: outer) → s.heap.get? b = some o → h'.get? b = some o) → (∀ b o, b ≠ e → T ≠ some b → s.heap.get? b = some o → ∃ sl, h'.get? b = some { o with slots := sl }) → (∀ b o, s.heap.get? b = some o → ∃ o', h'.get? b = some o') →
      h'.get? e = some (oe.mapFields (·.setIfInBounds 1 (.ref s.heap.objs.size))) → (∃ oT ts, h'.get? s.heap.objs.size = some oT ∧ oT.data = .fields ts ∧ ts[3]? = some .none) → Q () { s with heap := h' }) :
    wpAny M A (noteFrame (.ref e) env) (fun _ s' => wpAny M A (setFlight (.ref e) none) Q E s') E s := by
  unfold noteFrame
  simp only [hf]
  obtain ⟨u, hu, h1⟩ : ∃ u : Value, u = T.elim .none .ref ∧ vs[1]? = some u := ⟨_, rfl, h1⟩
  refine wpAny_bind (wpAny_field he hd h1 ?_)
  have fr_e : ∀ {h' : Heap}, h'.get? e = some (oe.mapFields (·.setIfInBounds 1 (.ref s.heap.objs.size))) → ∃ o', h'.get? e = some o' := fun q => ⟨_, q⟩
  cases T with
  | none =>
    obtain rfl : u = .none := hu
    rw [if_neg (by decide)]
    refine x_entry hfr hl hf he hd (Array.getElem?_eq_some_iff.mp h1).1 fun h' k1 k2 k3 k4 => h h' (fun b o hb _ hf q => k1 b o hb hf q) (fun b o hb _ q => k2 b o hb q) (fun b o q => ?_) k3 k4
    by_cases z : b = e
    · subst z; exact ⟨_, k3⟩
    · obtain ⟨sl, r⟩ := k2 b o z q; exact ⟨_, r⟩
  | some a =>
    obtain ⟨hae, oT, ts, hTa, hdT, h3⟩ := hT a rfl
    obtain rfl : u = .ref a := hu
    rw [if_pos (show (Value.ref a != Value.none) = true from by simp)]
    refine wpAny_bind (wpAny_field hTa hdT h3 ?_)
    rw [if_neg (show ¬ ((Value.none == rawInt L) = true) from by simp [rawInt])]
    refine wpAny_bind (wpAny_setField hTa hdT (Array.getElem?_eq_some_iff.mp h3).1 ?_)
    have other : ∀ b, b ≠ a → (s.heap.update a (Obj.mapFields (·.setIfInBounds 3 Value.none))).get? b = s.heap.get? b := fun b hb => Heap.get?_update_other _ _ (Ne.symm hb)
    have noRecord : ∀ b o, s.heap.get? b = some o → (∀ vs, o.data ≠ .fields vs) → b ≠ a := fun b o hb hnf q => by
      rw [q, hTa] at hb; injection hb with hb; subst hb; exact hnf ts hdT
    have hsz : (s.heap.update a (Obj.mapFields (·.setIfInBounds 3 Value.none))).objs.size = s.heap.objs.size := Heap.size_after_update ..
    have hsame := Heap.get?_update_self (h := s.heap) (Obj.mapFields (·.setIfInBounds 3 Value.none)) hTa (Obj.isFreed_of_fields (Obj.data_mapFields hdT _))
    refine x_entry (s := { s with heap := s.heap.update a (Obj.mapFields (·.setIfInBounds 3 Value.none)) }) hfr (hl.of_keeps fun b o hb hnf => ⟨o, (other b (noRecord b o hb hnf)).trans hb, rfl⟩) hf ((other e (Ne.symm hae)).trans he) hd (Array.getElem?_eq_some_iff.mp h1).1 fun h' k1 k2 k3 k4 => ?_
    dsimp only at k1 k2 k3 k4
    rw [hsz] at k3 k4
    refine h h' (fun b o hb hba hf q => k1 b o hb hf ((other b fun z => hba (by rw [z])).trans q)) (fun b o hb hba q => k2 b o hb ((other b fun z => hba (by rw [z])).trans q)) (fun b o q => ?_) k3 k4
    by_cases z : b = e
    · subst z; exact ⟨_, k3⟩
    · by_cases y : b = a
      · subst y
        obtain ⟨sl, r⟩ := k2 b _ z hsame
        exact ⟨_, r⟩
      · obtain ⟨sl, r⟩ := k2 b o z ((other b y).trans q); exact ⟨_, r⟩
end
end L2
set_option Elab.async false
set_option linter.all false
set_option maxRecDepth 100000
namespace L2
open PySem PySem.Spec PyProof.Rows
def FlyO (e T C dx : Addr) : HO := .ext fun h => ∃ vs : Array Value, h.get? e = some { cls := .ref C, dict := some dx, data := .fields vs } ∧ vs.size = 6 ∧ vs[1]? = some (.ref T)
def TbO (T : Addr) : HO := .ext fun h => ∃ oT ts, h.get? T = some oT ∧ oT.data = .fields ts ∧ ts[3]? = some .none
def up2 (H : Hp) (e T C dx : Addr) : Hp := upd (upd H T (TbO T)) e (FlyO e T C dx)
abbrev xdA : HO := .xd [(("act" : Str), V.non)]
theorem FlyO.ok {P : Program} {w : World} {H : Hp} {h : Heap} {e T C dx : Addr} {vs : Array Value} (q : h.get? e = some { cls := .ref C, dict := some dx, data := .fields vs }) (z : vs.size = 6) (n : vs[1]? = some (.ref T)) : ObjOk P w H h e (FlyO e T C dx) :=
  ⟨⟨vs, q, z, n⟩, ⟨_, q⟩, fun h1 h2 ⟨us, a, b, c⟩ k => ⟨us, k _ a, b, c⟩⟩
theorem TbO.ok {P : Program} {w : World} {H : Hp} {h : Heap} {T : Addr} (q : ∃ oT ts, h.get? T = some oT ∧ oT.data = .fields ts ∧ ts[3]? = some .none) : ObjOk P w H h T (TbO T) := by
  obtain ⟨o, ts, a, b, c⟩ := q
  exact ⟨⟨o, ts, a, b, c⟩, ⟨_, a⟩, fun h1 h2 ⟨u, us, a, b, c⟩ k => ⟨u, us, k _ a, b, c⟩⟩
def Xt : HO → Prop
  | .ext _ => True
  | _ => False
section
variable {X : Cx} {pins : List (Addr × Obj)} {σ : St} {H H₁ : Hp} {s : Shared} {e C dx : Addr} {M : Model} {E : Value → Shared → Prop} {Q : Unit → Shared → Prop}
theorem inv_noteG (I : Inv X pins σ H s) (hst : X.stack = X.env :: X.outer) (hfrm : X.env.frame = some X.env.locals) (T : Option Addr) {vs : Array Value}
    (he : s.heap.get? e = some { cls := .ref C, dict := some dx, data := .fields vs }) (z : vs.size = 6) (h1 : vs[1]? = some (T.elim .none .ref))
    (hT : ∀ a, T = some a → a ≠ e ∧ (∃ oT ts, s.heap.get? a = some oT ∧ oT.data = .fields ts ∧ ts[3]? = some .none) ∧ ∃ o, H a = some o ∧ Xt o)
    (hx : ∃ o, H e = some o ∧ Xt o) (tr : ∀ b o, H₁ b = some o → b ≠ e ∧ T ≠ some b ∧ H b = some o) (cov : ∀ b o, H b = some o → b ≠ e → T ≠ some b → H₁ b = some o)
    (q : ∀ T' s', Inv X pins σ (up2 H₁ e T' C dx) s' → H₁ T' = none → T' ≠ e → Q () s') :
    wpAny M X.A (noteFrame (.ref e) X.env) (fun _ s' => wpAny M X.A (setFlight (.ref e) none) Q E s') E s := by
  have hfun : s.heap.FunFrames X.base (X.env :: X.outer) := hst ▸ I.stack
  obtain ⟨oE, hE, hEx⟩ := hx
  refine x_note T (by rw [← hst]; exact I.ok.frames) hfun hfrm he rfl h1 (fun a ha => ⟨(hT a ha).1, (hT a ha).2.1⟩) fun h' k1 k2 k3 k4 k5 => ?_
  have fr0 : ∀ b ∈ frs (X.env :: X.outer), H b = none := fun b hb => I.stkFree b (by rw [hst]; exact hb)
  have hT0 : H s.heap.objs.size = none := I.hok.fresh (Nat.le_refl _)
  have un : ∀ b, H b = none → H₁ b = none := fun b n => by
    cases r : H₁ b with
    | none => rfl
    | some o => rw [(tr b o r).2.2] at n; cases n
  have h₁T : H₁ s.heap.objs.size = none := un _ hT0
  have h₁e : H₁ e = none := by
    cases r : H₁ e with
    | none => rfl
    | some o => exact absurd rfl (tr e o r).1
  have nTe : s.heap.objs.size ≠ e := Nat.ne_of_gt (Heap.lt_size he)
  have old : ∀ b, (∃ o, s.heap.get? b = some o) → b ≠ s.heap.objs.size := fun b ⟨o, r⟩ => Nat.ne_of_lt (Heap.lt_size r)
  have get2 : ∀ b, b ≠ e → b ≠ s.heap.objs.size → up2 H₁ e s.heap.objs.size C dx b = H₁ b := fun b n1 n2 => by unfold up2; rw [upd_ne n1, upd_ne n2]
  have trk : ∀ b o, H b = some o → b ≠ s.heap.objs.size := fun b o r => Nat.ne_of_lt (I.hok.lt r)
  have notE : ∀ b o, H b = some o → ¬ Xt o → b ≠ e ∧ T ≠ some b := fun b o r n => by
    refine ⟨fun zz => ?_, fun zz => ?_⟩
    · subst zz; rw [hE] at r; cases r; exact n hEx
    · obtain ⟨o', r', x'⟩ := (hT b zz).2.2
      rw [r'] at r; cases r; exact n x'
  have keepT : ∀ b o u, H b = some o → b ≠ e → T ≠ some b → s.heap.get? b = some u → h'.get? b = some u := fun b o u r n1 n2 r2 =>
    k1 b u n1 n2 (fun hb => by rw [fr0 b hb] at r; cases r) r2
  have stay2 : ∀ b o, H b = some o → ¬ Xt o → up2 H₁ e s.heap.objs.size C dx b = some o := fun b o r n => by
    obtain ⟨n1, n2⟩ := notE b o r n
    rw [get2 b n1 (trk b o r)]; exact cov b o r n1 n2
  have hok : HOk X.prog X.w (up2 H₁ e s.heap.objs.size C dx) h' := fun b o r => by
    by_cases be : b = e
    · subst be
      unfold up2 at r; rw [upd_same] at r; cases r
      refine FlyO.ok (vs := vs.setIfInBounds 1 (.ref s.heap.objs.size)) k4 (by simp [z]) (by simp [z])
    · by_cases bT : b = s.heap.objs.size
      · subst bT
        unfold up2 at r; rw [upd_ne be, upd_same] at r; cases r
        exact TbO.ok k5
      · rw [get2 b be bT] at r
        obtain ⟨n1, n2, r'⟩ := tr b o r
        refine (I.hok b o r').stay (fun c u hc r2 => ?_) (fun c r2 => stay2 c _ r2 fun z => z) fun c xs r2 => stay2 c _ r2 fun z => z
        rcases hc with rfl | hc
        · exact keepT c o u r' n1 n2 r2
        · obtain ⟨m1, m2⟩ := notE c _ hc fun z => z
          exact keepT c _ u hc m1 m2 r2
  have hTn : ∀ b, T = some b → H b ≠ none := fun b hb n => by
    obtain ⟨o', r', _⟩ := (hT b hb).2.2
    rw [r'] at n; cases n
  have U : Un (frs X.stack) [] H (up2 H₁ e s.heap.objs.size C dx) s.heap h' := by
    refine ⟨fun b o r n hb _ => ?_, fun b o r n hb _ => ?_, fun b o r n _ => ?_, fun b o r _ => k3 b o r, fun b xs r => stay2 b _ r fun z => z, fun b o u r => stay2 b _ r fun z => z, fun b ps r => ⟨#[], by rw [stay2 b _ r fun z => z]; simp⟩⟩
    · exact k1 b o (fun zz => by subst zz; rw [hE] at n; cases n) (fun zz => hTn b zz n) (by rw [← hst]; exact hb) r
    · exact k2 b o (fun zz => by subst zz; rw [hE] at n; cases n) (fun zz => hTn b zz n) r
    · rw [get2 b (fun zz => by subst zz; rw [hE] at n; cases n) (old b ⟨o, r⟩)]; exact un b n
  exact q s.heap.objs.size _ (I.call' (s' := { s with heap := h' }) (ch := []) rfl U hok I.bare fun b z => absurd z (by simp)) h₁T nTe
theorem inv_note1 (I : Inv X pins σ (upd H₁ e (XO e C (some dx))) s) (hst : X.stack = X.env :: X.outer) (hfrm : X.env.frame = some X.env.locals) (n : H₁ e = none)
    (q : ∀ T' s', Inv X pins σ (up2 H₁ e T' C dx) s' → H₁ T' = none → T' ≠ e → Q () s') :
    wpAny M X.A (noteFrame (.ref e) X.env) (fun _ s' => wpAny M X.A (setFlight (.ref e) none) Q E s') E s := by
  obtain ⟨vs, he, z, h1⟩ := XO.at (d := some dx) I.hok upd_same
  refine inv_noteG I hst hfrm none he z h1 (fun a ha => nomatch ha) ⟨_, upd_same, trivial⟩ (fun b o r => ?_) (fun b o r ne _ => by rw [upd_ne ne] at r; exact r) q
  have ne : b ≠ e := fun zz => by subst zz; rw [n] at r; cases r
  exact ⟨ne, (nomatch ·), by rw [upd_ne ne]; exact r⟩
theorem inv_note2 {T : Addr} (I : Inv X pins σ (up2 H₁ e T C dx) s) (hst : X.stack = X.env :: X.outer) (hfrm : X.env.frame = some X.env.locals) (n : H₁ e = none) (nT : H₁ T = none) (hTe : T ≠ e)
    (q : ∀ T' s', Inv X pins σ (up2 H₁ e T' C dx) s' → H₁ T' = none → T' ≠ e → Q () s') :
    wpAny M X.A (noteFrame (.ref e) X.env) (fun _ s' => wpAny M X.A (setFlight (.ref e) none) Q E s') E s := by
  have e1 : up2 H₁ e T C dx e = some (FlyO e T C dx) := upd_same
  have e2 : up2 H₁ e T C dx T = some (TbO T) := by unfold up2; rw [upd_ne hTe, upd_same]
  obtain ⟨vs, he, z, h1⟩ := (I.hok e _ e1).1
  refine inv_noteG I hst hfrm (some T) he z h1 (fun a ha => ?_) ⟨_, e1, trivial⟩ (fun b o r => ?_) (fun b o r ne nt => ?_) q
  · cases ha
    exact ⟨hTe, (I.hok T _ e2).1, _, e2, trivial⟩
  · have ne : b ≠ e := fun zz => by subst zz; rw [n] at r; cases r
    have nt : b ≠ T := fun zz => by subst zz; rw [nT] at r; cases r
    exact ⟨ne, fun zz => nt (Option.some.inj zz).symm, by unfold up2; rw [upd_ne ne, upd_ne nt]; exact r⟩
  · unfold up2 at r
    rw [upd_ne ne, upd_ne (fun zz => nt (by rw [zz]))] at r; exact r
end
def CXR (P : Program) (w : World) : CXT := fun outer H s E v s' => ∃ e T dx C H₁, v = .ref e ∧ s'.os = s.os ∧ AllBare s'.gens ∧ H₁ e = none ∧ H₁ T = none ∧ T ≠ e ∧ H₁ dx = some xdA ∧
  Un (frs outer) [] H (up2 H₁ e T C dx) s.heap s'.heap ∧ HOk P w (up2 H₁ e T C dx) s'.heap ∧ E (.ref C) (some e) H₁
def Raises (X : Cx) (E : XK) : Prop := ∀ (pins : List (Addr × Obj)) (σ : St) (H₁ : Hp) (s : Shared) (e C dx : Addr), Inv X pins σ (upd H₁ e (XO e C (some dx))) s → H₁ e = none → H₁ dx = some xdA → E (.ref C) (some e) H₁ → X.xe (.ref e) s
section
variable {P : Program} {w : World} {K : PySem.W.Frag} {mg : Str → Option Value} {base : Heap} {N : List Str} {qual : Str} {scope : Scope} {f : Addr} {cd : Value} {A : Around} {outer : List Env} {s₀ : Shared} {H₀ : Hp} {E : XK}
theorem leave_end {pins : List (Addr × Obj)} {σ : St} {H₁ : Hp} {s : Shared} {e T C dx : Addr} (I : Inv (cxOf (CXR P w) P w K mg base N qual scope f cd A outer s₀ H₀ E) pins σ (up2 H₁ e T C dx) s) (n : H₁ e = none) (nT : H₁ T = none) (hTe : T ≠ e) (hd : H₁ dx = some xdA) (q : E (.ref C) (some e) H₁) :
    CXR P w outer H₀ s₀ E (.ref e) s := ⟨e, T, dx, C, H₁, rfl, I.os, I.bare, n, nT, hTe, hd, I.base, I.hok, q⟩
theorem raises_cx : Raises (cxOf (CXR P w) P w K mg base N qual scope f cd A outer s₀ H₀ E) E := by
  intro pins σ H₁ s e C dx I n hd q
  show wpAny _ _ (leaving _ (.ref e)) _ _ s
  unfold leaving
  exact wpAny_bind (inv_note1 I rfl rfl n fun T' s' I' nT hTe => leave_end I' n nT hTe hd q)
end
end L2
set_option Elab.async false
set_option linter.all false
set_option maxRecDepth 100000
namespace L2
open PySem PySem.Spec PyProof.Rows
theorem upd_id {H : Hp} {a : Addr} {o : HO} (h : H a = some o) : upd H a o = H := by
  funext b; unfold upd; split
  · rename_i e; rw [e, h]
  · rfl
theorem upd_comm {H : Hp} {a b : Addr} {o u : HO} (h : a ≠ b) : upd (upd H a o) b u = upd (upd H b u) a o := by
  funext c; unfold upd
  by_cases e1 : c = b
  · by_cases e2 : c = a
    · exact absurd (e2.symm.trans e1) h
    · simp [e1, e2, Ne.symm h]
  · by_cases e2 : c = a
    · simp [e2, h]
    · simp [e1, e2]
def tVI (K : PySem.W.Frag) (fI : Addr) (t : TA) : TE := fun σ H Q => t σ H fun vs H1 => ∃ e C v, vs = [.ref e, v] ∧ H1 e = some (XO e C none) ∧ XC K C fI ∧ Q .non H1
def tActS (K : PySem.W.Frag) (fI : Addr) (ta tv : TE) : TS := fun D σ H => tv σ H fun y H1 => ta σ H1 fun x H2 => ∃ e C, y = .non ∧ x = .ref e ∧ H2 e = some (XO e C none) ∧ XC K C fI ∧
  ∀ dx, H2 dx = none → dx ≠ e → D.nx σ (upd (upd H2 dx xdA) e (XO e C (some dx)))
section
variable {X : Cx} {o value e1 : Expr} {es : List Expr} {p ap pos pos' cpos : Pos} {ta tv : TE} {t : TA} {fI : Addr} {pl : Sem Bool}
theorem boot_VE : bootBuiltins "ValueError" = some (.type "ValueError") := by decide +kernel
theorem ty_VE : typeOf (.type "ValueError") = pure (.type "type") := by first | rfl | kernel_rfl
theorem hand_VI : PySem.W.handedIn (.builtin "ValueError.__init__") = true := by decide +kernel
theorem stub_VE : Manifest.isStub "ValueError" = false := by decide +kernel
theorem pe_vinit (hg : Gl X "ValueError") (hm : X.mg "ValueError" = none) (ha : PA X (e1 :: es) t)
    (hst : starEach (e1 :: es) X.env = (false, eval e1 X.env) :: starEach es X.env := by rfl) (hpl : (backTo cpos (starEach es X.env)).any (·.1) = false := by rfl)
    (ht : eval (.Call (.Attribute (.Name "ValueError" p) "__init__" ap) (e1 :: es) [] cpos) X.env = (do
      let ov ← eval (.Name "ValueError" p) X.env
      standAt ap.atName
      let (f, first) ← holding [ov] (getMethod ov "__init__" pl)
      callWith cpos f first (backTo cpos (starEach (e1 :: es) X.env)) (backToKw cpos (keywordEach [] X.env))) := by rfl) :
    PE X (.Call (.Attribute (.Name "ValueError" p) "__init__" ap) (e1 :: es) [] cpos) (tVI X.K fI t) := by
  intro pins s σ H Q I h
  refine PySem.W.methodCall_KW (pl := pl) (ld_blt I hg hm boot_VE ?_) ht
  obtain ⟨m, F⟩ := I.fr
  refine PySem.W.method_type (T := "ValueError") (name := "__init__") (v := .builtin "ValueError.__init__") F I.ok.mod.kin ty_VE stub_VE (vi_find X.K) hand_VI ?_
  refine PyProof.Rows.callWith_builtin1 (thn (ha cpos pins _ σ H _ (I.tok _) h) fun us s1 ⟨vs, H1, I1, r, e, C, v, ev, he, c, q⟩ => ?_) hst hpl
  subst ev
  cases r with
  | cons r0 r1 =>
    cases r1 with
    | @cons _ u2 _ _ r2 r3 =>
      cases r3
      obtain rfl := r0
      obtain ⟨ws, hg', hz, h1⟩ := XO.at I1.hok he
      have h0 : 0 < ws.size := by omega
      refine vi_run I1.kIn c hg' h0 (Array.getElem?_eq_getElem h0) (by rw [sizeLine_eq, List.length_cons, List.length_nil]; omega) ?_
      refine ⟨.non, H1, ?_, rfl, q⟩
      have I2 := I1.kept (h' := s1.heap.push { cls := .type "tuple", data := .seq [u2].toArray }) (t' := s1.toks) (fun b u e => Heap.get?_push_of_some _ e)
      have hg2 := Heap.get?_push_of_some (h := s1.heap) { cls := .type "tuple", data := .seq [u2].toArray } hg'
      have hu := Heap.get?_update_self (Obj.mapFields (·.setIfInBounds 0 (Value.ref s1.heap.objs.size))) hg2 (Obj.isFreed_of_fields (Obj.data_mapFields rfl _))
      have W := I2.write (x := e) (e := e) (o := XO e C none) (t' := s1.toks) (by rw [he]; trivial) (.inl rfl) (fun b u nb q => (Heap.get?_update_other _ _ (Ne.symm nb)).trans q) ⟨_, hu⟩
        (XO.ok (vs := ws.setIfInBounds 0 (.ref s1.heap.objs.size)) hu (by simp [hz]) (by rw [Array.getElem?_setIfInBounds_ne (by decide)]; exact h1))
      rw [upd_id he] at W
      exact W
theorem ps_act (ha : PE X o ta) (hv : PE X value tv) (hs : swapsWith value (some (.Attribute o "act" pos')) pos.line X.env = pure false := by rfl) : PS X (.Assign [.Attribute o "act" pos'] value pos) (tActS X.K fI ta tv) := by
  intro pins s σ H D I h
  refine plainObj_wpAny_Assign_Attribute (thn (hv pins s σ H _ I h) fun u s1 ⟨y, H1, I1, ry, q⟩ => thn (ha pins s1 σ H1 _ I1 q) fun ov s2 ⟨x, H2, I2, rx, e, C, ey, ex, he, c, q2⟩ => ?_) hs
  subst ex ey
  obtain rfl := rx
  obtain rfl := ry
  obtain ⟨ws, hg', hz, h1⟩ := XO.at I2.hok he
  have hdn : H2 s2.heap.objs.size = none := I2.hok.fresh (Nat.le_refl _)
  have hne : s2.heap.objs.size ≠ e := Nat.ne_of_gt (Heap.lt_size hg')
  refine x_store I2.kIn c hg' fun h' t' k1 k2 k3 => ⟨σ, _, ?_, q2 _ hdn hne⟩
  obtain ⟨od, es, ep, hod, hdd, r⟩ := id k2
  have I3 := I2.laid (a := s2.heap.objs.size) (o := xdA) (h' := s2.heap.push od) (t' := t') (fun b u e => Heap.get?_push_of_some _ e) (Nat.le_refl _)
    ⟨_, ⟨od, es, ep, Heap.get?_push_size _ (Heap.get?_some_iff.mp hod).2, hdd, r⟩, fun f => by
      by_cases e : f = "act"
      · subst e; simp [RelO, RelV]
      · have n : (f == ("act" : Str)) = false := by simpa using e
        simp [List.lookup, n, e, RelO]⟩
  refine I3.write (x := e) (e := e) (o := XO e C (some s2.heap.objs.size)) (h' := h') (t' := t') (by rw [upd_ne (Ne.symm hne), he]; trivial) (.inl rfl) (fun b u nb q => ?_) ⟨_, k1⟩ (XO.ok k1 hz h1)
  by_cases eb : b = s2.heap.objs.size
  · subst eb
    rw [Heap.get?_push_size _ (Heap.get?_some_iff.mp hod).2] at q
    cases q; exact hod
  · refine k3 b u nb ?_
    obtain ⟨q1, q2⟩ := Heap.get?_some_iff.mp q
    refine Heap.get?_some_iff.mpr ⟨?_, q2⟩
    rw [← q1]
    generalize s2.heap = hh at eb ⊢
    cases hh
    simp only at eb
    simp [Heap.push, Array.getElem?_push, eb]
end
end L2
set_option Elab.async false
set_option linter.all false
set_option maxRecDepth 100000
namespace L2
open PySem PySem.Spec PyProof.Rows
def spInit (K : PySem.W.Frag) (fI : Addr) : Sp := fun vs H Q _ => ∃ e C, vs = [.ref e, .non] ∧ H e = some (XO e C none) ∧ XC K C fI ∧ ∀ dx, H dx = none → dx ≠ e → Q .non (upd (upd H dx xdA) e (XO e C (some dx)))
def tRaise (C : Addr) (E : XK) (t : TA) : TS := fun _ σ H => t σ H fun vs H1 => vs = [.non] ∧ ∀ e dx, H1 e = none → H1 dx = none → dx ≠ e → E (.ref C) (some e) (upd H1 dx xdA)
section
variable {M : Model} {A : Around} {E : Value → Shared → Prop} {env : Env} {K : PySem.W.Frag} {C fI : Addr}
theorem x_raiseStmt {s : Shared} {x : Sem Value} {Q : Flow → Shared → Prop} (c : XC K C fI) (hh : A.handled = none)
    (h : wpAny M A x (fun v s₁ => ∃ e d vs, v = .ref e ∧ K.In s₁.heap ∧ s₁.heap.get? e = some { cls := .ref C, dict := d, data := .fields vs } ∧ vs[1]? = some .none ∧ E (.ref e) s₁) E s) :
    wpAny M A (raiseStmt env (some x) none) Q E s := by
  obtain ⟨nm, q, N, bs, bm, sn, sub, ab, col, dd, k0, k1, k2, k3, k5, lk, hB, hA, hN, hE⟩ := c.at_
  have hcB : (Value.ref C :: bm).contains (.type "BaseException") = true := by rw [List.contains_cons, hE, Bool.or_true]
  unfold raiseStmt
  refine wpAny_bind (wpAny_mono h (fun v s₁ h₁ => ?_) fun _ _ x => x)
  obtain ⟨e, di, vs, rfl, X, he, h1, hE'⟩ := h₁
  have hC := X _ _ lk
  obtain ⟨hp, g, d, tk, os⟩ := s₁
  repeat (first | with_reducible refine wpAny_loadPart_at he ?_ | with_reducible refine wpAny_loadPart_at hC ?_ | (with_reducible refine wpAny_isSubtype_exc hC ?_; rw [hcB]) | with_reducible refine wpAny_field he rfl h1 ?_ | wp_step)
  exact wpAny_raiseNew_none hh hE'
end
section
variable {X : Cx} {CX : CXT} {k : Nat} {C fI : Addr} {fd : FuncData} {ps : List Str} {E : XK} {x : Str} {np cpos pos : Pos} {a : Expr} {t : TA}
theorem run_exc {pins : List (Addr × Obj)} {σ : St} {H : Hp} {s : Shared} {Q : VK} {u : Value} (c : XC X.K C fI) (F : FnOk X.prog X.w X.K X.mg X.base CX k fI fd ps (spInit X.K fI)) (hr : Room (k + 1) X.A) (hb : Binds X.K fd ps []) (hx : Passes CX X E0)
    (I : Inv X pins σ H s) (r : RelV .non u) (h : ∀ e dx, H e = none → H dx = none → dx ≠ e → Q (.ref e) (upd (upd H dx xdA) e (XO e C (some dx)))) :
    wpAny (model X.prog X.w) X.A (call (.ref C) [u]) (EP X pins σ Q) X.xe s := by
  obtain ⟨hp, g, d, tk, os⟩ := s
  refine x_call I.kIn c (fun h' e mk ee ht => ?_) (by rw [sizeLine_eq, List.length_cons, List.length_nil]; omega)
  obtain ⟨t0, te, -, -⟩ := mk.there
  have hen : H e = none := I.hok.fresh (by rw [ee]; exact Nat.le_succ _)
  have I2 : Inv X pins σ (upd H e (XO e C none)) ⟨h', g, d, tk, os⟩ := I.laid (a := e) (h' := h') (t' := tk) mk.keeps (by rw [ee]; exact Nat.le_succ _) (XO.ok te rfl rfl)
  have sp : spInit X.K fI [.ref e, .non] (upd H e (XO e C none)) (fun v H2 => v = .non ∧ Q (.ref e) H2) E0 := by
    refine ⟨e, C, rfl, upd_same, c, fun dx n ne => ⟨rfl, ?_⟩⟩
    rw [upd_ne ne] at n
    have q := h e dx hen n ne
    rw [upd_comm (Ne.symm ne), upd_upd]
    exact q
  have r2 : Vals [V.ref e, V.non] [Value.ref e, u] := .cons rfl (.cons r .nil)
  have hl : ([Value.ref e, u] ++ []).length = ps.length := by
    have q := F.len _ _ _ _ sp
    rw [List.append_nil]; exact q
  have hb' := hb ⟨h', g, d, tk, os⟩ [Value.ref e, u] I2.kIn hl
  rw [List.append_nil] at hb'
  refine wpAny_call (codeAny_mono (F.run _ X.stack _ _ ⟨[Value.ref e, u], []⟩ [Value.ref e, u] _ _ E0 (hr.make C [u] []) (I2.env0.make C [u] []) hb' r2 sp) fun r s' hq' => ?_)
  cases r with
  | error v => exact hx pins σ _ _ v s' I2 hq'
  | ok fl =>
    cases fl with
    | ret w =>
      obtain ⟨v, H', I3, rv, ev, q3⟩ := I2.after hq'
      subst ev
      exact ⟨rv, ⟨V.ref e, H', I3, rfl, q3⟩⟩
    | next => exact False.elim hq'
    | brk => exact False.elim hq'
    | cont => exact False.elim hq'
theorem ps_raise (c : XC X.K C fI) (F : FnOk X.prog X.w X.K X.mg X.base CX k fI fd ps (spInit X.K fI)) (hr : Room (k + 1) X.A) (hb : Binds X.K fd ps []) (hx : Passes CX X E0) (hR : Raises X E) (hc : X.calm = true) (hk : PySem.W.keepIn X.K (.ref C) = true)
    (hg : Gl X x) (hm : X.mg x = some (.ref C)) (ha : PA X [a] t) (hdb : (x == ("__debug__" : Str)) = false := by decide) (he : starEach [a] X.env = (false, eval a X.env) :: starEach [] X.env := by rfl) :
    PS X (.Raise (some (.Call (.Name x np) [a] [] cpos)) none pos) (tRaise C E t) := by
  intro pins s σ H D I h
  rw [arm_exec_Raise]
  refine wpAny_bind (wpAny_standAt (x_raiseStmt c (I.ok.hd hc) ?_))
  refine wpAny_bind (wpAny_mono (Q := EP X pins σ fun v H' => ∃ e dx H₁, v = .ref e ∧ H' = upd H₁ e (XO e C (some dx)) ∧ H₁ e = none ∧ H₁ dx = some xdA ∧ E (.ref C) (some e) H₁) (E := X.xe) ?_ (fun v s1 ⟨y, H', I', ry, e, dx, H₁, ey, eH, n, nd, q⟩ => ?_) fun _ _ z => z)
  · refine wpAny_Call_Name_kw (ld_glob I hg hm ?_ hdb)
    refine PySem.W.callWith_K (h₀ := X.base) I.ok.mod.kin hk (thn (ha cpos pins s σ H _ I h) fun us s1 ⟨vs, H1, I1, r, ev, q⟩ => ⟨I1.kIn, ?_⟩) he rfl
    subst ev
    cases r with
    | cons r0 r1 =>
      cases r1
      exact run_exc c F hr hb hx I1 r0 fun e dx n1 n2 ne => ⟨e, dx, upd H1 dx xdA, rfl, rfl, by rw [upd_ne (Ne.symm ne)]; exact n1, upd_same, q e dx n1 n2 ne⟩
  · subst ey eH
    obtain rfl := ry
    refine wpAny_bind (wpAny_standAt (wpAny_pure ?_))
    obtain ⟨vs, hg', hz, h1⟩ := XO.at (d := some dx) I'.hok upd_same
    exact ⟨e, _, vs, rfl, I'.kIn, hg', h1, hR pins σ H₁ s1 e C dx I' n nd q⟩
end
end L2
set_option Elab.async false
set_option linter.all false
set_option maxRecDepth 100000
namespace L2
open PySem PySem.Spec PyProof.Rows
section
variable {X : Cx} {pins : List (Addr × Obj)} {σ : St} {H : Hp} {s : Shared} {M : Model} {A : Around} {E : Value → Shared → Prop} {i : Nat} {n : Str} {pos : Pos} {Q : Unit → Shared → Prop}
theorem name_goes (I : Inv X pins σ H s) (hN : X.N.Nodup) (hi : X.N[i]? = some n) (hk : X.env.scope.names.lookup n = some .local) (h : ∀ s', Inv X pins (σ.set i none) H s' → Q () s') :
    wpAny M A (do bindName X.env n .none; unbindBehindTheSuite X.env n pos) Q E s := by
  obtain ⟨m, hn, hl⟩ := id I.loc
  have hcls : (X.env.scope.kind == .class || (X.env.scope.kind == .module && X.env.locals != X.env.globals)) = false := by rw [I.ok.kind]; rfl
  have hiσ : i < σ.length := by rw [I.len]; exact (List.getElem?_eq_some_iff.mp hi).1
  have cne := I.cne
  obtain ⟨oL, _, _, hoL, _⟩ := id hn
  refine wpAny_nameGoes_keeps hk hn hcls fun h' v hn' hs => ?_
  have lt : ∀ b o, X.s₀.heap.get? b = some o → b ≠ X.env.locals := fun b o e => Nat.ne_of_lt (Nat.lt_of_lt_of_le (Heap.lt_size e) I.ok.above)
  have hok : HOk X.prog X.w H h' := fun b ob e => by
    refine (I.hok b ob e).stay (fun c w' hc q => (hs.2 c ?_).trans q) (fun _ q => q) fun _ _ q => q
    rintro rfl
    rcases hc with rfl | hc
    · rw [I.free] at e; cases e
    · rw [I.free] at hc; cases hc
  refine h _ ⟨I.ok, I.os, I.bare, ⟨fun b o e n hb hx => ?_, fun b o e n hb hx => ?_, I.base.free, fun b o e hx => ?_, I.base.tups, I.base.frzs, I.base.tbls⟩, ⟨_, hn', fun j y v' e1 e2 e3 => ?_⟩, fun y c e => ?_, I.free, I.freeC, fun p hp => ?_, hok, by simpa using I.len⟩
  · exact (hs.2 b (lt b o e)).trans (I.base.keep b o e n hb hx)
  · obtain ⟨sl, e1⟩ := I.base.slot b o e n hb hx
    exact ⟨sl, (hs.2 b (lt b o e)).trans e1⟩
  · obtain ⟨o', e1⟩ := I.base.there b o e hx
    exact ⟨o', (hs.2 b (lt b o e)).trans e1⟩
  · by_cases hj : j = i
    · subst hj
      rw [List.getElem?_set_self hiσ] at e2
      cases e2
    · rw [List.getElem?_set_ne (Ne.symm hj)] at e2
      obtain ⟨u', r', q⟩ := hl j y v' e1 e2 e3
      refine ⟨u', r', ?_⟩
      rcases q with ⟨k, e⟩ | ⟨k, c, e, z⟩
      · refine .inl ⟨k, ?_⟩
        have : y ≠ n := fun e => hj (nodup_ix hN e1 (e ▸ hi))
        simp [this, e]
      · exact .inr ⟨k, c, e, z.sameBut hs (cne y c e)⟩
  · obtain ⟨w', z⟩ := I.cell y c e
    exact ⟨w', z.sameBut hs (cne y c e)⟩
  · obtain ⟨e, n, ne, nf, d⟩ := I.pin p hp
    exact ⟨(hs.2 p.1 ne).trans e, n, ne, nf, d⟩
end
def tryCx (X : Cx) (pins : List (Addr × Obj)) (σ₀ : St) (E : XK) : Cx := { X with pn := X.pn ++ pins, xe := fun v s' => ∃ e T dx C H₁, v = .ref e ∧ Inv X pins σ₀ (up2 H₁ e T C dx) s' ∧ H₁ e = none ∧ H₁ T = none ∧ T ≠ e ∧ H₁ dx = some xdA ∧ E (.ref C) (some e) H₁ }
def handCx (X : Cx) (e : Addr) : Cx := { X with A := X.A.mark (some (.ref e)), calm := false, xe := fun _ _ => False }
section
variable {X : Cx} {pins : List (Addr × Obj)} {σ σ₀ : St} {H : Hp} {s : Shared} {E : XK} {e : Addr}
theorem ok_try (ok : X.Ok) : (tryCx X pins σ₀ E).Ok := ⟨ok.mod, ok.kind, ok.glob, ok.blt, ok.above, ok.inj, ok.has, ok.cab, ok.hd, ok.frames, ok.stk, ok.exf, ok.bs, ok.bsz, ok.noex, ok.exfs, ok.funs, ok.frf⟩
theorem ok_hand (ok : X.Ok) : (handCx X e).Ok := ⟨ok.mod, ok.kind, ok.glob, ok.blt, ok.above, ok.inj, ok.has, ok.cab, (fun z => nomatch z), ok.frames, ok.stk, ok.exf, ok.bs, ok.bsz, ok.noex, ok.exfs, ok.funs, ok.frf⟩
theorem Inv.toTry (I : Inv X pins σ H s) : Inv (tryCx X pins σ₀ E) [] σ H s := ⟨ok_try I.ok, I.os, I.bare, I.base, I.loc, I.cell, I.free, I.freeC, fun p hp => I.pin p (by rw [List.append_nil] at hp; exact hp), I.hok, I.len⟩
theorem Inv.ofTry {pins' : List (Addr × Obj)} (ok : X.Ok) (I : Inv (tryCx X pins σ₀ E) pins' σ H s) : Inv X pins σ H s := ⟨ok, I.os, I.bare, I.base, I.loc, I.cell, I.free, I.freeC, fun p hp => I.pin p (List.mem_append_left _ hp), I.hok, I.len⟩
theorem Inv.toHand (I : Inv X pins σ H s) : Inv (handCx X e) pins σ H s := ⟨ok_hand I.ok, I.os, I.bare, I.base, I.loc, I.cell, I.free, I.freeC, I.pin, I.hok, I.len⟩
theorem Inv.ofHand (ok : X.Ok) (I : Inv (handCx X e) pins σ H s) : Inv X pins σ H s := ⟨ok, I.os, I.bare, I.base, I.loc, I.cell, I.free, I.freeC, I.pin, I.hok, I.len⟩
end
def tCallAt (σ₀ : St) (sp : Sp) (dvs : List V) (E : XK) (t : TA) : TE := fun σ H Q => σ = σ₀ ∧ t σ H fun vs H1 => sp (vs ++ dvs) H1 Q E
section
variable {X : Cx} {pins₀ : List (Addr × Obj)} {σ₀ : St} {k : Nat} {f : Addr} {fd : FuncData} {ps : List Str} {sp : Sp} {dvs : List V} {ds : List Value} {E : XK} {x : Str} {p pos : Pos} {e : Expr} {es : List Expr} {t : TA}
theorem pe_callAt (ok : X.Ok) (F : FnOk X.prog X.w X.K X.mg X.base (CXR X.prog X.w) k f fd ps sp) (hr : Room k X.A) (hg : Gl X x) (hm : X.mg x = some (.ref f)) (hk : PySem.W.keepIn X.K (.ref f) = true) (hb : Binds X.K fd ps ds) (hd : Vals dvs ds)
    (ha : PA (tryCx X pins₀ σ₀ E) (e :: es) t) (hdb : (x == ("__debug__" : Str)) = false := by decide) (he : starEach (e :: es) X.env = (false, eval e X.env) :: starEach es X.env := by rfl) (hpl : (backTo pos (starEach es X.env)).any (·.1) = false := by rfl) :
    PE (tryCx X pins₀ σ₀ E) (.Call (.Name x p) (e :: es) [] pos) (tCallAt σ₀ sp dvs E t) := by
  rintro pins s σ H Q I ⟨rfl, h⟩
  refine wpAny_Call_Name_kw (ld_glob (X := tryCx X pins₀ σ E) I hg hm ?_ hdb)
  refine PySem.W.callWith_K (h₀ := X.base) I.ok.mod.kin hk (thn (ha pos pins s σ H _ I h) fun us s1 ⟨vs, H1, I1, r, q⟩ => ⟨I1.kIn, ?_⟩) he hpl
  have r2 : Vals (vs ++ dvs) (us ++ ds) := r.append hd
  have hl : (us ++ ds).length = ps.length := by rw [← r2.length]; exact F.len _ _ _ _ q
  refine wpAny_call (codeAny_mono (F.run X.A X.stack s1 H1 ⟨us, []⟩ (us ++ ds) (vs ++ dvs) Q E hr I1.env0 (hb s1 us I1.kIn hl) r2 q) fun r s' hq => ?_)
  cases r with
  | error v =>
    obtain ⟨a, T, dx, C, H₁, rfl, os, bare, n, nT, hTe, hd', un, hok, q'⟩ := hq
    exact ⟨a, T, dx, C, H₁, rfl, (Inv.ofTry ok I1).call' (s' := s') (ch := []) os un hok bare (fun b z => absurd z (by simp)), n, nT, hTe, hd', q'⟩
  | ok fl =>
    cases fl with
    | ret u => exact I1.after hq
    | next => exact False.elim hq
    | brk => exact False.elim hq
    | cont => exact False.elim hq
end
end L2
namespace L2
open PySem PySem.Spec PyProof.Rows
structure XS (K : PySem.W.Frag) (S : Addr) : Prop where
  ty : PySem.W.typeIn K (.ref S) = some (.type "type")
  cls : (PySem.W.clsIn K S).isSome = true
  base : PySem.W.mroIn K S (.type "BaseException") = some true
theorem x_matches {M : Model} {A : Around} {E : Value → Shared → Prop} {s : Shared} {K : PySem.W.Frag} {S C e : Addr} {oe : Obj} {Q : Bool → Shared → Prop} (X : K.In s.heap) (hS : XS K S) (he : s.heap.get? e = some oe) (hc : oe.cls = .ref C) (hm : PySem.W.mroIn K C (.ref S) = some true)
    (hq : Q true s) : wpAny M A (excMatches (.ref e) (.ref S)) Q E s := by
  obtain ⟨h, g, d, t, os⟩ := s
  have T : PySem.W.Looks M h (typeOf (.ref S)) (.type "type") := PySem.W.looks_typeIn X hS.ty
  have T0 : PySem.W.Looks M h (isInstance (.ref S) (.type "tuple")) false := T.andThen (PySem.W.Looks.of_pure tc_notTuple)
  have Ti : PySem.W.Looks M h (isType (.ref S)) true := by
    obtain ⟨cd, q⟩ := Option.isSome_iff_exists.mp hS.cls
    unfold PySem.W.clsIn at q
    split at q
    · rename_i ho
      exact (PySem.W.Looks.ld (X _ _ ho)).andThen .now
    · cases q
  have Te : PySem.W.Looks M h (typeOf (.ref e)) (.ref C) := hc ▸ (PySem.W.Looks.ld he).andThen .now
  have L1 := PySem.W.looks_mroIn (M := M) X hS.base
  have L2 := PySem.W.looks_mroIn (M := M) X hm
  have LE : PySem.W.Looks M h (isExcClass (.ref S)) true := Ti.andThen L1
  unfold excMatches
  refine wpAny_bind (T0.at ?_)
  rw [if_neg (by decide)]
  refine wpAny_bind (wpAny_pure (a := [Value.ref S]) ?_)
  simp only [List.forIn_cons, List.forIn_nil]
  refine wpAny_bind (wpAny_bind (wpAny_bind (LE.at ?_)))
  simp only [Bool.not_true, Bool.false_eq_true, if_false]
  refine wpAny_pure (wpAny_pure (wpAny_bind (Te.at (wpAny_bind (wpAny_bind (wpAny_bind (L2.at ?_)))))))
  simp only [if_true]
  exact wpAny_pure (wpAny_pure (wpAny_pure hq))
def goneE (D : Ends) (i : Nat) : Ends := { nx := fun σ H => D.nx (σ.set i none) H, rt := D.rt, bk := fun σ H => D.bk (σ.set i none) H, ct := fun σ H => D.ct (σ.set i none) H }
def exE (K : PySem.W.Frag) (S : Addr) (i : Nat) (th : TS) (D : Ends) (σ : St) : XK := fun v o H₁ => ∃ C e fI, v = .ref C ∧ o = some e ∧ XC K C fI ∧ PySem.W.mroIn K C (.ref S) = some true ∧
  ∀ T dx, H₁ e = none → H₁ T = none → T ≠ e → H₁ dx = some xdA → th (goneE D i) (σ.set i (some (.ref e))) (up2 H₁ e T C dx)
def tTry (K : PySem.W.Frag) (S : Addr) (i : Nat) (tb : St → XK → TS) (th : TS) : TS := fun D σ H => tb σ (exE K S i th D σ) D σ H
section
variable {X : Cx} {S : Addr} {i : Nat} {x n : Str} {np hpos pos : Pos} {body suite : List Stmt} {b₀ : Stmt} {tb : St → XK → TS} {th : TS}
theorem ps_try (hst : X.stack = X.env :: X.outer) (hfrm : X.env.frame = some X.env.locals) (hN : X.N.Nodup) (hi : X.N[i]? = some n) (hk : X.env.scope.names.lookup n = some .local)
    (hg : Gl X x) (hm : X.mg x = some (.ref S)) (hS : XS X.K S) (hb : ∀ pins σ₀ E, X.Ok → PSs (tryCx X pins σ₀ E) body (tb σ₀ E)) (hh : ∀ e, PSs (handCx X e) (b₀ :: suite) th) (hdb : (x == ("__debug__" : Str)) = false := by decide) :
    PS X (.Try body [.ExceptHandler (some (.Name x np)) (some n) (b₀ :: suite) hpos] [] [] pos) (tTry X.K S i tb th) := by
  intro pins s σ H D I h
  refine wpAny_Try_except (wpAny_mono (hb pins σ (exE X.K S i th D σ) I.ok [] s σ H D I.toTry h) (fun f s1 h1 => ?_) fun v s1 h1 => ?_)
  · cases f with
    | next =>
      obtain ⟨σ', H', I', q⟩ := h1
      exact wpAny_execs_nil ⟨σ', H', Inv.ofTry I.ok I', q⟩
    | brk => obtain ⟨σ', H', I', q⟩ := h1; exact ⟨σ', H', Inv.ofTry I.ok I', q⟩
    | cont => obtain ⟨σ', H', I', q⟩ := h1; exact ⟨σ', H', Inv.ofTry I.ok I', q⟩
    | ret u => obtain ⟨v, σ', H', I', r, q⟩ := h1; exact ⟨v, σ', H', Inv.ofTry I.ok I', r, q⟩
  · obtain ⟨e, T, dx, C, H₁, rfl, I1, n1, nT, hTe, hd, C', e', fI, eC, ee, c, hmr, q⟩ := h1
    cases eC; cases ee
    refine inv_note2 I1 hst hfrm n1 nT hTe fun T' s2 I2 nT' hTe' => ?_
    have I2h : Inv (handCx X e) pins σ (up2 H₁ e T' C dx) s2 := I2.toHand
    refine wpAny_handleBy_cons (codeAny_handlers_test ?_) (by intro q; cases q)
    refine ld_glob (X := handCx X e) I2h hg hm ?_ hdb
    have e1 : up2 H₁ e T' C dx e = some (FlyO e T' C dx) := upd_same
    have e2 : up2 H₁ e T' C dx T' = some (TbO T') := by unfold up2; rw [upd_ne hTe', upd_same]
    obtain ⟨vs, hge, hz, hv1⟩ := (I2.hok e _ e1).1
    obtain ⟨oT, ts, hgT, hdT, ht3⟩ := (I2.hok T' _ e2).1
    refine x_matches I2.kIn hS hge rfl hmr ?_
    rw [if_pos rfl]
    refine codeAny_handlers_suite_as ?_
    have hu := Heap.get?_update_self (h := s2.heap) (Obj.mapFields (·.setIfInBounds 3 Value.none)) hgT (Obj.isFreed_of_fields (Obj.data_mapFields hdT _))
    refine wpAny_setFlight_none hge rfl hv1 hgT hdT (Array.getElem?_eq_some_iff.mp ht3).1 ?_
    have I3 := I2.write (x := T') (e := T') (o := TbO T') (h' := s2.heap.update T' (Obj.mapFields (·.setIfInBounds 3 Value.none))) (t' := s2.toks) (by rw [e2]; trivial) (.inl rfl) (fun b u nb q => (Heap.get?_update_other _ _ (Ne.symm nb)).trans q) ⟨_, hu⟩
      (TbO.ok ⟨_, _, hu, Obj.data_mapFields hdT _, by simp [(Array.getElem?_eq_some_iff.mp ht3).1]⟩)
    rw [upd_id e2] at I3
    refine store_ok I3 hN hi (.inl hk) (v := .ref e) rfl (fun s3 I4 => ?_) (.inr hk)
    refine wpAny_mono (hh e pins s3 _ _ _ I4.toHand (q T' dx n1 nT' hTe' hd)) (fun f s4 h4 => ?_) fun _ _ z => z.elim
    cases f with
    | next =>
      obtain ⟨σ', H', I', q'⟩ := h4
      exact name_goes (Inv.ofHand I.ok I') hN hi hk fun s5 I5 => ⟨_, H', I5, q'⟩
    | brk =>
      obtain ⟨σ', H', I', q'⟩ := h4
      exact name_goes (Inv.ofHand I.ok I') hN hi hk fun s5 I5 => ⟨_, H', I5, q'⟩
    | cont =>
      obtain ⟨σ', H', I', q'⟩ := h4
      exact name_goes (Inv.ofHand I.ok I') hN hi hk fun s5 I5 => ⟨_, H', I5, q'⟩
    | ret u =>
      obtain ⟨v, σ', H', I', r, q'⟩ := h4
      exact name_goes (Inv.ofHand I.ok I') hN hi hk fun s5 I5 => ⟨v, _, H', I5, r, q'⟩
end
section
variable {X : Cx} {o : Expr} {pos : Pos} {ta : TE}
def tAct (K : PySem.W.Frag) (ta : TE) : TE := fun σ H Q => ta σ H fun x H1 => ∃ e T C dx fI, x = .ref e ∧ H1 e = some (FlyO e T C dx) ∧ XC K C fI ∧ H1 dx = some xdA ∧ Q .non H1
theorem pe_act (he : PE X o ta) (hb : attributeBase o "act" X.env (eval o X.env) = eval o X.env := by rfl) : PE X (.Attribute o "act" pos) (tAct X.K ta) := by
  intro pins s σ H Q I h
  refine attr_of hb (thn (he pins s σ H _ I h) fun u s1 ⟨x, H1, I1, rx, e, T, C, dx, fI, ex, ea, c, ed, q⟩ => ?_)
  subst ex
  obtain rfl : u = Value.ref e := rx
  obtain ⟨vs, hge, hz, hv1⟩ := (I1.hok e _ ea).1
  obtain ⟨mA, hn, hf⟩ := I1.hok dx _ ed
  have q1 := hf "act"
  have q2 : mA "act" = some .none := by
    cases z : mA "act" with
    | none => rw [z] at q1; exact False.elim q1
    | some y => rw [z] at q1; exact congrArg some q1
  exact x_load I1.kIn c hge hn q2 rfl ⟨.non, H1, I1.tok _, rfl, q⟩
def rIsE (K : PySem.W.Frag) (D : V) (Du : Value) (b : Bool → Prop) : List V → Hp → VK → Prop := fun xs H Q => ∃ e T C dx fI bb, xs = [.ref e, D] ∧ H e = some (FlyO e T C dx) ∧ XC K C fI ∧ H dx = some xdA ∧ PySem.W.mroIn K C Du = some bb ∧ b bb ∧ Q (.bl bb) H
theorem call_isE {D : V} {Du : Value} (hr : ∀ u, RelV D u → u = Du) (hD : ∀ (M : Model) (h : Heap), X.K.In h → PySem.W.Looks M h (typeOf Du) (.type "type")) (hT : ∀ (M : Model) (h : Heap), X.K.In h → PySem.W.Looks M h (isType Du) true) :
    CallR X (.builtin "isinstance") (rIsE X.K D Du fun _ => True) := by
  rintro pins s σ H xs us Q I r ⟨e, T, C, dx, fI, bb, rfl, he, c, hd, hm, -, q⟩
  cases r with
  | cons r0 r1 =>
    cases r1 with
    | @cons _ u2 _ _ r2 r3 =>
      cases r3
      obtain rfl := r0
      have hu : Du = u2 := (hr _ r2).symm
      subst hu
      obtain ⟨vs, hge, hz, hv1⟩ := (I.hok e _ he).1
      have hdx : ∃ o, s.heap.get? dx = some o := by
        obtain ⟨mA, ⟨o, _, _, ho, _⟩, _⟩ := I.hok dx _ hd
        exact ⟨o, ho⟩
      have g : Meets (Builtin.«isinstance» ⟨[.ref e, Du], []⟩) (fun _ R s => X.K.In s.heap ∧ s.heap.get? e = some { cls := .ref C, dict := some dx, data := .fields vs } ∧ (∃ o, s.heap.get? dx = some o) ∧ ∀ t, R (.ok (.ret (.bool bb))) { s with toks := t }) :=
        fun prog w A R s hs => isinstance_outer (x_isi_nested hs.1 c hs.2.1 (fun a z => by cases z; exact hs.2.2.1) (hD _ _ hs.1) (hT _ _ hs.1) hm fun t => hs.2.2.2 t) (by intro z; cases z)
      exact call_isinstance g ⟨I.kIn, hge, hdx, fun t => ⟨.bl bb, H, I.tok t, rfl, q⟩⟩
theorem isE_own {D : Addr} (hS : XS X.K D) : CallR X (.builtin "isinstance") (rIsE X.K (.ref D) (.ref D) fun _ => True) := by
  refine call_isE (fun u r => r) (fun M h k => PySem.W.looks_typeIn k hS.ty) fun M h k => ?_
  obtain ⟨cd, q⟩ := Option.isSome_iff_exists.mp hS.cls
  unfold PySem.W.clsIn at q
  split at q
  · rename_i ho
    exact (PySem.W.Looks.ld (k _ _ ho)).andThen .now
  · cases q
theorem isE_VE : CallR X (.builtin "isinstance") (rIsE X.K (.ty "ValueError") (.type "ValueError") fun _ => True) :=
  call_isE (fun u r => r) (fun M h k => PySem.W.Looks.of_pure ty_VE) fun M h k => .now
end
end L2
set_option Elab.async false
set_option linter.all false
set_option maxRecDepth 100000
namespace PySem
namespace RvF
end RvF
section
variable {prog : Program} {w : World} {A : Around} {E : Value → Shared → Prop} {s : Shared}
end
end PySem
set_option Elab.async false
set_option linter.all false
set_option maxRecDepth 100000
namespace L2
open PySem PySem.Spec PyProof.Rows
theorem bt_int : bootBuiltins "int" = some (.type "int") := by decide +kernel
theorem bt_bool : bootBuiltins "bool" = some (.type "bool") := by decide +kernel
theorem bt_str : bootBuiltins "str" = some (.type "str") := by decide +kernel
theorem bt_list : bootBuiltins "list" = some (.type "list") := by decide +kernel
theorem bt_tuple : bootBuiltins "tuple" = some (.type "tuple") := by decide +kernel
theorem bt_enumerate : bootBuiltins "enumerate" = some (.type "enumerate") := by decide +kernel
theorem bf_isinstance : bootBuiltins "isinstance" = some (.builtin "isinstance") := by decide +kernel
theorem bf_len : bootBuiltins "len" = some (.builtin "len") := by decide +kernel
theorem bf_all : bootBuiltins "all" = some (.builtin "all") := by decide +kernel
theorem bf_max : bootBuiltins "max" = some (.builtin "max") := by decide +kernel
theorem for_det {J : It} {n : Nat} {item : Nat → V} {g : TG} {tb : TS} {D : Ends} {σ : St} {H : Hp} (Pv : Nat → St → Hp → Prop)
    (hgo : ∀ i H, i < n → J.go i H) (hst : ∀ H, J.stop n H) (hy : ∀ i H x H', i < n → J.yld i H x H' → H' = H ∧ x = item i) (h0 : Pv 0 σ H)
    (hs : ∀ i σ H, i < n → Pv i σ H → g (item i) σ H fun σ2 H2 => tb { D with nx := Pv (i + 1), ct := Pv (i + 1), bk := D.nx } σ2 H2) (hd : ∀ σ H, Pv n σ H → D.nx σ H) :
    ∃ W : Nat → Nat → St → Hp → Prop, (∃ m, W 0 m σ H) ∧ ∀ i m σ H, W i m σ H →
      (J.stop i H ∧ D.nx σ H) ∨ (J.go i H ∧ ∃ N : St → Hp → Prop, (∀ σ' H', N σ' H' → ∃ m', m' < m ∧ W (i + 1) m' σ' H') ∧ ∀ x H', J.yld i H x H' → g x σ H' fun σ2 H2 => tb { D with nx := N, ct := N, bk := D.nx } σ2 H2) := by
  refine ⟨fun i m σ H => m = n - i ∧ i ≤ n ∧ Pv i σ H, ⟨n, by simp, Nat.zero_le _, h0⟩, ?_⟩
  rintro i m σ H ⟨rfl, hi, p⟩
  by_cases hlt : i < n
  · refine .inr ⟨hgo i H hlt, Pv (i + 1), fun σ' H' p' => ⟨n - (i + 1), by omega, rfl, hlt, p'⟩, fun x H' y => ?_⟩
    obtain ⟨e1, e2⟩ := hy i H x H' hlt y
    subst e1 e2
    exact hs i σ _ hlt p
  · have e : i = n := by omega
    subst e
    exact .inl ⟨hst H, hd σ H p⟩
def sgn (x : Str) (i : Nat) : Str := ⟨#[x.cps.getD i 0]⟩
theorem sgn_of {x : Str} {i c : Nat} (h : x.cps[i]? = some c) : (⟨#[c]⟩ : Str) = sgn x i := by
  unfold sgn
  rw [Array.getD_eq_getD_getElem?, h]
  rfl
def Its (x : Str) : It := ⟨fun i _ => i < x.cps.size, fun i H v H' => H' = H ∧ v = .str (sgn x i), fun i _ => x.cps.size ≤ i⟩
theorem turn_strA {P : Program} {w : World} {K : PySem.W.Frag} {tg : Expr} (it : Addr) (x : Str) (t : Tok) : Turn P w K tg (Its x) [it] it (fun i h => h.IsStrIter it "str_ascii_iterator" x t i) where
  mem := by simp
  obj := fun i h st b hb => by
    have e : b = it := by simpa using hb
    subst e
    obtain ⟨o, e, c, d⟩ := st
    exact ⟨o, e, fun v z => by rw [d] at z; cases z⟩
  keep := fun i h h' st k => let ⟨o, ho, r⟩ := st; ⟨o, k it (by simp) o ho, r⟩
  item := by
    intro X hP hw hK hc i pins s σ H E I hf st hg
    subst hP hw hK
    obtain ⟨f0, f1, f2, f3, f4, f5⟩ := hf it (by simp)
    refine (Walks.strAscii (prog := X.prog) (w := X.w) (I.ok.hd hc) it x t).item i s _ _ hg st fun v h' tk hv st' kk => ?_
    obtain ⟨c, u, hcx, rfl⟩ := hv
    have I1 : Inv X pins σ H { s with heap := h', toks := tk } := I.turned (fun b o hb e => kk b o (by simpa using hb) e) f0 f1 f3 f4 f5
    obtain ⟨o, e, c', d⟩ := id st'
    exact ⟨_, rfl, go_of (s := { s with heap := h', toks := tk }) e c' d (by decide) ⟨.str ⟨#[c]⟩, H, I1, ⟨u, rfl⟩, ⟨rfl, by rw [sgn_of hcx]⟩, st', fun b hb => (hf b hb).1⟩⟩
  done := by
    intro X hP hw hK hc i pins s σ H E I hf st hg
    subst hP hw hK
    obtain ⟨f0, f1, f2, f3, f4, f5⟩ := hf it (by simp)
    exact wpAny_pyNext_ascii_end (I.ok.hd hc) st (Array.getElem?_eq_none_iff.mpr hg) fun h' eb => ⟨rfl, I.turned (t' := s.toks) (fun b o hb e => eb b o hb e) f0 f1 f3 f4 f5⟩
  self := fun _ _ _ _ _ st h => wpAny_pyIter_striter_ascii st h
theorem turn_strW {P : Program} {w : World} {K : PySem.W.Frag} {tg : Expr} (it : Addr) (x : Str) (t : Tok) : Turn P w K tg (Its x) [it] it (fun i h => h.IsStrIter it "str_iterator" x t i) where
  mem := by simp
  obj := fun i h st b hb => by
    have e : b = it := by simpa using hb
    subst e
    obtain ⟨o, e, c, d⟩ := st
    exact ⟨o, e, fun v z => by rw [d] at z; cases z⟩
  keep := fun i h h' st k => let ⟨o, ho, r⟩ := st; ⟨o, k it (by simp) o ho, r⟩
  item := by
    intro X hP hw hK hc i pins s σ H E I hf st hg
    subst hP hw hK
    obtain ⟨f0, f1, f2, f3, f4, f5⟩ := hf it (by simp)
    refine (Walks.strWide (prog := X.prog) (w := X.w) (I.ok.hd hc) it x t).item i s _ _ hg st fun v h' tk hv st' kk => ?_
    obtain ⟨c, u, hcx, rfl⟩ := hv
    have I1 : Inv X pins σ H { s with heap := h', toks := tk } := I.turned (fun b o hb e => kk b o (by simpa using hb) e) f0 f1 f3 f4 f5
    obtain ⟨o, e, c', d⟩ := id st'
    exact ⟨_, rfl, go_of (s := { s with heap := h', toks := tk }) e c' d (by decide) ⟨.str ⟨#[c]⟩, H, I1, ⟨u, rfl⟩, ⟨rfl, by rw [sgn_of hcx]⟩, st', fun b hb => (hf b hb).1⟩⟩
  done := by
    intro X hP hw hK hc i pins s σ H E I hf st hg
    subst hP hw hK
    obtain ⟨f0, f1, f2, f3, f4, f5⟩ := hf it (by simp)
    exact wpAny_pyNext_wide_end (I.ok.hd hc) st (Array.getElem?_eq_none_iff.mpr hg) fun h' eb => ⟨rfl, I.turned (t' := s.toks) (fun b o hb e => eb b o hb e) f0 f1 f3 f4 f5⟩
  self := fun _ _ _ _ _ st h => wpAny_pyIter_striter_wide st h
section
variable {X : Cx} {tg : Expr}
def iStr (tl : TE) : TI := fun σ H R => tl σ H fun x H1 => ∃ z, x = .str z ∧ R (Its z) H1
theorem pi_str {l : Expr} {tl : TE} (hl : PE X l tl) : PI X tg l (iStr tl) := by
  intro pins s σ H R I h
  refine thn (hl pins s σ H _ I h) fun v s1 ⟨x, H1, I1, r1, q1⟩ => ?_
  obtain ⟨z, e, q⟩ := q1
  subst e
  obtain ⟨t, rfl⟩ := r1
  have fp : ∀ b ∈ [s1.heap.objs.size], FpOk X pins H1 b := fun b hb => by
    have e : b = s1.heap.objs.size := by simpa using hb
    subst e
    exact I1.fpOk (Nat.le_refl _) (I1.hok.fresh (Nat.le_refl _))
  cases ha : z.cps.all (· < 128)
  · exact wpAny_pyIter_wide ha ⟨s1.heap.objs.size, [s1.heap.objs.size], _, _, H1, rfl, I1.kept (t' := s1.toks) fun b o e => Heap.get?_push_of_some _ e, turn_strW _ z t, ⟨_, Heap.get?_push_size _ rfl, rfl, rfl⟩, fp, q⟩
  · exact wpAny_pyIter_ascii ha ⟨s1.heap.objs.size, [s1.heap.objs.size], _, _, H1, rfl, I1.kept (t' := s1.toks) fun b o e => Heap.get?_push_of_some _ e, turn_strA _ z t, ⟨_, Heap.get?_push_size _ rfl, rfl, rfl⟩, fp, q⟩
theorem for_str {x : Str} {g : TG} {tb : TS} {D : Ends} {σ : St} {H : Hp} (Pv : Nat → St → Hp → Prop) (h0 : Pv 0 σ H)
    (hs : ∀ i σ H, i < x.cps.size → Pv i σ H → g (.str (sgn x i)) σ H fun σ2 H2 => tb { D with nx := Pv (i + 1), ct := Pv (i + 1), bk := D.nx } σ2 H2) (hd : ∀ σ H, Pv x.cps.size σ H → D.nx σ H) :
    ∃ W : Nat → Nat → St → Hp → Prop, (∃ m, W 0 m σ H) ∧ ∀ i m σ H, W i m σ H →
      ((Its x).stop i H ∧ D.nx σ H) ∨ ((Its x).go i H ∧ ∃ N : St → Hp → Prop, (∀ σ' H', N σ' H' → ∃ m', m' < m ∧ W (i + 1) m' σ' H') ∧ ∀ v H', (Its x).yld i H v H' → g v σ H' fun σ2 H2 => tb { D with nx := N, ct := N, bk := D.nx } σ2 H2) :=
  for_det (item := fun i => .str (sgn x i)) Pv (fun i H h => h) (fun H => Nat.le_refl _) (fun i H v H' _ y => y) h0 hs hd
def rFind : V → List V → Hp → VK → Prop := fun x vs H Q => ∃ a b, x = .str a ∧ vs = [.str b] ∧ Q (.int (Txt.find a b)) H
theorem mt_find : MtR X "str.find" rFind := by
  intro pins s σ H x vs v us Q I rx rv h
  obtain ⟨a, b, rfl, rfl, q⟩ := h
  obtain ⟨t, rfl⟩ := rx
  obtain ⟨u, rfl, t', rfl⟩ := rv.one
  exact SC.find ⟨.int (Txt.find a b), H, I.tok _, ⟨_, rfl⟩, q⟩
def isiV (x : V) (T : String) : Option Bool := match x with
  | .int _ => if T = "int" then some true else if T = "bool" then some false else if T = "str" then some false else none
  | .str _ => if T = "int" then some false else if T = "bool" then some false else if T = "str" then some true else none
  | .bl _ => if T = "int" then some true else if T = "bool" then some true else if T = "str" then some false else none
  | _ => none
def rIsi : List V → Hp → VK → Prop := fun xs H Q => ∃ x T b, xs = [x, .ty T] ∧ isiV x T = some b ∧ Q (.bl b) H
theorem call_isi : CallR X (.builtin "isinstance") rIsi := by
  intro pins s σ H xs us Q I r h
  obtain ⟨x, T, b, rfl, e, q⟩ := h
  obtain ⟨u, v, rfl, rx, rT⟩ := r.two
  cases rT
  have f0 : ∀ {k : Bool}, some k = some b → EP X pins σ Q (.bool k) s := fun e => by cases e; exact ⟨.bl _, H, I, rfl, q⟩
  have f1 : ∀ {k : Bool}, some k = some b → EP X pins σ Q (.bool k) { s with toks := s.toks + 1 } := fun e => by cases e; exact ⟨.bl _, H, I.tok _, rfl, q⟩
  cases x with
  | int i =>
    obtain ⟨t, rfl⟩ := rx
    unfold isiV at e
    dsimp only at e
    split at e
    · rename_i hT; subst hT; exact IsiPair.int_int (f0 e)
    split at e
    · rename_i hT; subst hT; exact IsiPair.int_bool (f1 e)
    split at e
    · rename_i hT; subst hT; exact IsiPair.int_str (f1 e)
    · cases e
  | str z =>
    obtain ⟨t, rfl⟩ := rx
    unfold isiV at e
    dsimp only at e
    split at e
    · rename_i hT; subst hT; exact IsiPair.str_int (f1 e)
    split at e
    · rename_i hT; subst hT; exact IsiPair.str_bool (f1 e)
    split at e
    · rename_i hT; subst hT; exact IsiPair.str_str (f0 e)
    · cases e
  | bl z =>
    cases rx
    unfold isiV at e
    dsimp only at e
    split at e
    · rename_i hT; subst hT; exact IsiPair.bool_int (f0 e)
    split at e
    · rename_i hT; subst hT; exact IsiPair.bool_bool (f0 e)
    split at e
    · rename_i hT; subst hT; exact IsiPair.bool_str (f1 e)
    · cases e
  | _ => cases (show (none : Option Bool) = some b from e)
end
theorem small {n : Nat} (h : n ≤ 1000) : n ≤ sizeLine := Nat.le_of_lt (small1000 h)
def plainE : Expr → Bool
  | .Starred .. => false
  | _ => true
theorem starEach_plain {e : Expr} {es : List Expr} {env : Env} (h : plainE e = true) : starEach (e :: es) env = (false, eval e env) :: starEach es env := by
  cases e <;> first | rfl | cases h
theorem pa_c {X : Cx} {e : Expr} {es : List Expr} {te : TE} {t : TA} (ha : PE X e te) (hr : PA X es t) (hp : plainE e = true := by rfl) :
    PA X (e :: es) (tCons te t) := pa_cons ha hr (starEach_plain hp)
theorem pe_gl {X : Cx} {x : Str} {v : V} {pos : Pos} (hg : Gl X x) (hm : ∃ u, X.mg x = some u ∧ RelV v u) (hd : (x == ("__debug__" : Str)) = false := by decide) : PE X (.Name x pos) (tC v) := by
  obtain ⟨u, hm, r⟩ := hm
  exact pe_glob hg hm r hd
section
variable {P : Program} {w : World} {K : PySem.W.Frag} {mg : Str → Option Value} {base : Heap}
def Dn (K : PySem.W.Frag) (mg : Str → Option Value) (x : Str) (st : Stmt) (ps : List Str) : Prop := ∃ f fd, Fun K x x st f fd ∧ Binds K fd ps [] ∧ mg x = some (.ref f)
def Ok (P : Program) (w : World) (K : PySem.W.Frag) (mg : Str → Option Value) (base : Heap) (k : Nat) (x : Str) (ps : List Str) (sp : Sp) : Prop :=
  ∃ f fd, mg x = some (.ref f) ∧ PySem.W.keepIn K (.ref f) = true ∧ Binds K fd ps [] ∧ FnOk P w K mg base CX0 k f fd ps sp
theorem Ok.mono {j k : Nat} {x : Str} {ps : List Str} {sp : Sp} (h : Ok P w K mg base j x ps sp) (hj : j ≤ k) : Ok P w K mg base k x ps sp := by
  obtain ⟨f, fd, h1, h2, h3, h4⟩ := h
  exact ⟨f, fd, h1, h2, h3, h4.mono hj⟩
theorem Ok.of {x : Str} {st : Stmt} {N ps : List Str} {k : Nat} {sp : Sp} (D : Dn K mg x st ps) (S : FnScope N ps (defScope st)) (len : ∀ vs H Q E, sp vs H Q E → vs.length = ps.length)
    (hbody : ∀ (f : Addr) (cdv : Value) (A : Around) (outer : List Env) (s : Shared) (H : Hp) (vs : List V) (Q : VK) (E : XK), Room k (A.deeper (envOfC x (defScope st) s.heap.objs.size f cdv)) → sp vs H Q E →
      ∃ t, PSs (cxOf CX0 P w K mg base N x (defScope st) f cdv A outer s H E).nox (defBody st) t ∧ t { nx := fun _ H' => Q .non H', rt := Q } (start N vs) H) : Ok P w K mg base (k + 1) x ps sp := by
  obtain ⟨f, fd, F, B, m⟩ := D
  exact ⟨f, fd, m, F.kp, B, F.ok S len fun cdv A outer s H vs Q E hr h => hbody f cdv A outer s H vs Q E hr h⟩
end
section
variable {X : Cx} {k : Nat} {ps : List Str} {sp : Sp} {x : Str} {p pos : Pos} {e : Expr} {es : List Expr} {t : TA}
theorem pe_fn (G : Ok X.prog X.w X.K X.mg X.base k x ps sp) (hr : Room k X.A) (hg : Gl X x) (ha : PA X (e :: es) t) (hdb : (x == ("__debug__" : Str)) = false := by decide)
    (he : starEach (e :: es) X.env = (false, eval e X.env) :: starEach es X.env := by rfl) (hpl : (backTo pos (starEach es X.env)).any (·.1) = false := by rfl) :
    PE X (.Call (.Name x p) (e :: es) [] pos) (tCall sp [] E0 t) := by
  obtain ⟨f, fd, h1, h2, h3, h4⟩ := G
  exact pe_call h4 hr hg h1 h2 h3 .nil pass0 ha hdb he hpl
end
end L2
set_option Elab.async false
set_option linter.all false
set_option maxRecDepth 100000
namespace L2
open PySem PySem.Spec PyProof.Rows
theorem closure_go {env : Env} (f : Str × NameKind → List (Str × Addr) → Sem (ForInStep (List (Str × Addr))))
    (h1 : ∀ n r, f (n, .free) r = (cellOf env n >>= fun a => pure (.yield ((n, a) :: r)))) (h2 : ∀ n k r, k ≠ .free → f (n, k) r = pure (.yield r)) :
    ∀ (names : List (Str × NameKind)) (acc : List (Str × Addr)), (∀ y ∈ names, y.2 = .free → ∃ c, env.cells.lookup y.1 = some c) →
    ∃ cl, forIn names acc f = (pure (cl ++ acc) : Sem _) ∧ (∀ p ∈ cl, env.cells.lookup p.1 = some p.2 ∧ (p.1, NameKind.free) ∈ names) ∧ ∀ y, (y, NameKind.free) ∈ names → ∃ c, (y, c) ∈ cl
  | [], acc, _ => ⟨[], by simp, fun _ h => (nomatch h), fun _ h => (nomatch h)⟩
  | (n, k) :: r, acc, h => by
    by_cases hk : k = .free
    · subst hk
      obtain ⟨c, hc⟩ := h (n, .free) List.mem_cons_self rfl
      obtain ⟨cl, e, p1, p2⟩ := closure_go f h1 h2 r ((n, c) :: acc) fun y hy => h y (List.mem_cons_of_mem _ hy)
      refine ⟨cl ++ [(n, c)], ?_, fun p hp => ?_, fun y hy => ?_⟩
      · rw [List.forIn_cons, h1]
        have e0 : cellOf env n = pure c := by unfold cellOf; rw [hc]
        rw [e0, pure_bind, pure_bind]
        show forIn r ((n, c) :: acc) f = _
        rw [e, List.append_assoc]
        rfl
      · rcases List.mem_append.mp hp with hp | hp
        · exact ⟨(p1 p hp).1, List.mem_cons_of_mem _ (p1 p hp).2⟩
        · obtain rfl := List.mem_singleton.mp hp
          exact ⟨hc, List.mem_cons_self⟩
      · rcases List.mem_cons.mp hy with e | hy
        · cases e
          exact ⟨c, by simp⟩
        · obtain ⟨c', q⟩ := p2 y hy
          exact ⟨c', List.mem_append_left _ q⟩
    · obtain ⟨cl, e, p1, p2⟩ := closure_go f h1 h2 r acc fun y hy => h y (List.mem_cons_of_mem _ hy)
      refine ⟨cl, ?_, fun p hp => ⟨(p1 p hp).1, List.mem_cons_of_mem _ (p1 p hp).2⟩, fun y hy => ?_⟩
      · rw [List.forIn_cons, h2 n k acc hk, pure_bind]
        exact e
      · rcases List.mem_cons.mp hy with e | hy
        · cases e
          exact absurd rfl hk
        · exact p2 y hy
theorem closure_of {scope : Scope} {env : Env} (h : ∀ y ∈ scope.names, y.2 = .free → ∃ c, env.cells.lookup y.1 = some c) :
    ∃ cl, closureFor scope env = pure cl ∧ (∀ p ∈ cl, env.cells.lookup p.1 = some p.2 ∧ (p.1, NameKind.free) ∈ scope.names) ∧ ∀ y, (y, NameKind.free) ∈ scope.names → ∃ c, (y, c) ∈ cl := by
  unfold closureFor
  obtain ⟨cl, e, p1, p2⟩ := closure_go (env := env) (fun x r => match x with | (name, kind) => if (kind == NameKind.free) = true then do let a ← cellOf env name; pure (.yield ((name, a) :: r)) else pure (.yield r))
    (fun n r => rfl) (fun n k r hk => by
      have : (k == NameKind.free) = false := by simpa using hk
      simp only [this, Bool.false_eq_true, if_false]) scope.names [] h
  refine ⟨cl, ?_, p1, p2⟩
  rw [List.append_nil] at e
  refine Eq.trans ?_ e
  first
  | rfl
  | simp
theorem lookup_mem {α β : Type} [BEq α] [LawfulBEq α] {a : α} {b : β} : ∀ {l : List (α × β)}, (a, b) ∈ l → ∃ b', l.lookup a = some b'
  | (x, y) :: r, h => by
    rw [List.lookup_cons]
    by_cases e : (a == x) = true
    · exact ⟨y, by rw [e]⟩
    · have e' : (a == x) = false := by simpa using e
      rw [e']
      rcases List.mem_cons.mp h with z | z
      · cases z
        simp at e
      · exact lookup_mem z
theorem relabel_free {env : Env} {y : Str} {k : NameKind} : ∀ {names : List (Str × NameKind)}, names.lookup y = some .free →
    (names.map fun (x : Str × NameKind) => match x with | (n, k) => if (k == NameKind.free && env.scope.kind == ScopeKind.function && env.kindOf n == some NameKind.cell) then (n, NameKind.cell) else (n, k)).lookup y = some .cell ∨
    (names.map fun (x : Str × NameKind) => match x with | (n, k) => if (k == NameKind.free && env.scope.kind == ScopeKind.function && env.kindOf n == some NameKind.cell) then (n, NameKind.cell) else (n, k)).lookup y = some .free
  | [], h => by simp at h
  | (n, k') :: r, h => by
    rw [List.map_cons]
    rw [List.lookup_cons] at h
    by_cases e : (y == n) = true
    · rw [e] at h
      cases h
      by_cases q : ((NameKind.free == NameKind.free) && env.scope.kind == ScopeKind.function && env.kindOf n == some NameKind.cell) = true
      · left
        simp only [q, if_true, List.lookup_cons, e]
      · right
        have q' := Bool.eq_false_iff.mpr q
        simp only [q', Bool.false_eq_true, if_false, List.lookup_cons, e]
    · have e' : (y == n) = false := by simpa using e
      rw [e'] at h
      have ih := relabel_free (env := env) (k := k) h
      have key : ∀ z : Str × NameKind, z.1 = n → (List.lookup y (z :: (r.map fun (x : Str × NameKind) => match x with | (n, k) => if (k == NameKind.free && env.scope.kind == ScopeKind.function && env.kindOf n == some NameKind.cell) then (n, NameKind.cell) else (n, k)))) =
          List.lookup y (r.map fun (x : Str × NameKind) => match x with | (n, k) => if (k == NameKind.free && env.scope.kind == ScopeKind.function && env.kindOf n == some NameKind.cell) then (n, NameKind.cell) else (n, k)) := fun z hz => by
        obtain ⟨z1, z2⟩ := z
        cases hz
        rw [List.lookup_cons, e']
      have kz : (match ((n, k') : Str × NameKind) with | (n, k) => if (k == NameKind.free && env.scope.kind == ScopeKind.function && env.kindOf n == some NameKind.cell) then (n, NameKind.cell) else (n, k)).1 = n := by
        dsimp only
        split <;> rfl
      rw [key _ kz]
      exact ih
theorem relabel_back {env : Env} {y : Str} : ∀ {names : List (Str × NameKind)}, (∀ z ∈ names, z.2 ≠ .cell) →
    ((names.map fun (x : Str × NameKind) => match x with | (n, k) => if (k == NameKind.free && env.scope.kind == ScopeKind.function && env.kindOf n == some NameKind.cell) then (n, NameKind.cell) else (n, k)).lookup y = some .cell ∨
    (names.map fun (x : Str × NameKind) => match x with | (n, k) => if (k == NameKind.free && env.scope.kind == ScopeKind.function && env.kindOf n == some NameKind.cell) then (n, NameKind.cell) else (n, k)).lookup y = some .free) → (y, NameKind.free) ∈ names
  | [], _, h => by simp at h
  | (n, k') :: r, hc, h => by
    rw [List.map_cons] at h
    by_cases e : (y == n) = true
    · have ey : y = n := by simpa using e
      subst ey
      have hk : k' = .free := by
        by_cases q : ((k' == NameKind.free) && env.scope.kind == ScopeKind.function && env.kindOf y == some NameKind.cell) = true
        · rw [Bool.and_eq_true, Bool.and_eq_true] at q
          simpa using q.1.1
        · have q' := Bool.eq_false_iff.mpr q
          simp only [q', Bool.false_eq_true, if_false, List.lookup_cons, e] at h
          rcases h with h | h
          · cases h
            exact absurd rfl (hc (y, .cell) List.mem_cons_self)
          · cases h; rfl
      subst hk
      exact List.mem_cons_self
    · have e' : (y == n) = false := by simpa using e
      have key : ∀ z : Str × NameKind, z.1 = n → (List.lookup y (z :: (r.map fun (x : Str × NameKind) => match x with | (n, k) => if (k == NameKind.free && env.scope.kind == ScopeKind.function && env.kindOf n == some NameKind.cell) then (n, NameKind.cell) else (n, k)))) =
          List.lookup y (r.map fun (x : Str × NameKind) => match x with | (n, k) => if (k == NameKind.free && env.scope.kind == ScopeKind.function && env.kindOf n == some NameKind.cell) then (n, NameKind.cell) else (n, k)) := fun z hz => by
        obtain ⟨z1, z2⟩ := z
        cases hz
        rw [List.lookup_cons, e']
      have kz : (match ((n, k') : Str × NameKind) with | (n, k) => if (k == NameKind.free && env.scope.kind == ScopeKind.function && env.kindOf n == some NameKind.cell) then (n, NameKind.cell) else (n, k)).1 = n := by
        dsimp only
        split <;> rfl
      rw [key _ kz] at h
      exact List.mem_cons_of_mem _ (relabel_back (fun z hz => hc z (List.mem_cons_of_mem _ hz)) h)
section
variable {prog : Program} {w : World} {A : Around} {E : Value → Shared → Prop} {R : Result → Shared → Prop} {s : Shared}
theorem comp_loop {elt target iter : Expr} {ifs : List Expr} {scope : Scope} {pos : Pos} {it acc : Value} {env : Env} (I : Nat → Shared → Prop)
    (turn : ∀ n s, I n s → wpAny (model prog w) A (pyNext it) (fun r s₁ => match r with
      | none => R (.ok .next) s₁
      | some v => wpAny (model prog w) A (letOwnedTupleGo target it v) (fun _ s' => wpAny (model prog w) A (assign target env v) (fun _ s₂ =>
          wpAny (model prog w) A (forIn ifs true fun c r => if r = true then do let ok ← isTrue c env (eval c env); pure (ForInStep.yield ok) else pure (ForInStep.yield r)) (fun ok s₃ =>
            if ok = true then wpAny (model prog w) A (eval elt env) (fun x s₄ =>
              wpAny (model prog w) A (call (.builtin "list.append") [acc, x]) (fun _ s₅ => ∃ m, m < n ∧ I m s₅) (notedBy (model prog w) A env fun e s' => R (.error e) s') s₄) (notedBy (model prog w) A env fun e s' => R (.error e) s') s₃
            else ∃ m, m < n ∧ I m s₃) (notedBy (model prog w) A env fun e s' => R (.error e) s') s₂) (notedBy (model prog w) A env fun e s' => R (.error e) s') s') (notedBy (model prog w) A env fun e s' => R (.error e) s') s₁)
      (notedBy (model prog w) A env fun e s' => R (.error e) s') s)
    (n : Nat) (h : I n s) : codeAny (model prog w) A (.compLoop (.ListComp elt [⟨target, iter, ifs, 0⟩] scope pos) 0 it acc env) R s := by
  refine codeAny_loop rfl I (fun n s hI => ?_) n h
  show wpAny _ A ((compTurn (.ListComp elt [⟨target, iter, ifs, 0⟩] scope pos) 0 it acc env).onRaise (fun x => do noteFrame x env; theTreesLotGoes x)) _ _ s
  refine wpAny_noted ?_
  rw [compTurn_list]
  refine wpAny_bind (wpAny_standAt (wpAny_bind (wpAny_mono (turn n s hI) (fun r s₁ h₁ => ?_) fun _ _ h' => h')))
  cases r with
  | none => exact wpAny_pure h₁
  | some v =>
    refine wpAny_bind (wpAny_mono h₁ (fun _ s' h₁' => wpAny_bind (wpAny_mono h₁' (fun _ s₂ h₂ => wpAny_bind (wpAny_mono h₂ (fun ok s₃ h₃ => ?_) fun _ _ h' => h')) fun _ _ h' => h')) fun _ _ h' => h')
    cases ok with
    | false => exact wpAny_pure ⟨rfl, h₃⟩
    | true =>
      exact wpAny_bind (wpAny_bind (wpAny_mono h₃ (fun x s₄ h₄ => wpAny_bind (wpAny_mono h₄ (fun _ s₅ h₅ => wpAny_pure (wpAny_pure ⟨rfl, h₅⟩)) fun _ _ h' => h')) fun _ _ h' => h'))
end
def cxC (X : Cx) (N : List Str) (scope : Scope) (cl : List (Str × Addr)) (s : Shared) (H : Hp) (fp : List Addr) : Cx :=
  { X with N := N, s₀ := s, H₀ := H, env := compEnvC scope cl s.heap.objs.size X.env, outer := X.stack, stack := X.stack, ex := fp, fn := fun _ => false, pn := [], xe := fun _ _ => False }
def PIfs (X : Cx) (ifs : List Expr) (tt : TT) : Prop :=
  ∀ (pins : List (Addr × Obj)) (s : Shared) (σ : St) (H : Hp) (Q : Bool → Hp → Prop), Inv X pins σ H s → tt σ H Q →
    wpAny (model X.prog X.w) X.A (forIn ifs true fun c r => if r = true then do let ok ← isTrue c X.env (eval c X.env); pure (ForInStep.yield ok) else pure (ForInStep.yield r)) (TP X pins σ Q) X.xe s
def tYes : TT := fun _ H Q => Q true H
theorem pf_nil {X : Cx} : PIfs X [] tYes := fun _ _ _ H _ I h => wpAny_tests_nil ⟨H, I, h⟩
structure CompOk (scope : Scope) (N : List Str) : Prop where
  cell : ∀ y ∈ scope.names, y.2 ≠ .cell
  kind : scope.kind = .function
  names : ∀ y ∈ scope.names, y.2 = .local → scope.names.lookup y.1 = some .local
  free : ∀ y ∈ scope.names, y.2 = .free → scope.names.lookup y.1 = some .free
def Cap (X : Cx) (scope : Scope) (N : List Str) (σ σ' : St) : Prop :=
  σ'.length = N.length ∧ ∀ (i : Nat) (y : Str) (v : V), N[i]? = some y → σ'[i]? = some (some v) → (y, NameKind.free) ∈ scope.names ∧ ∃ j : Nat, X.N[j]? = some y ∧ σ[j]? = some (some v) ∧ Vis X.env.scope y
theorem inv_comp {X : Cx} {pins : List (Addr × Obj)} {σ σ' : St} {H : Hp} {s : Shared} {scope : Scope} {N : List Str} {cl : List (Str × Addr)} {fp : List Addr} {h1 : Heap} {tk : Nat} {m1 : Str → Option Value}
    (I : Inv X pins σ H s) (C : CompOk scope N) (hfr : ∀ y, (y, NameKind.free) ∈ scope.names → X.env.kindOf y = some .cell ∨ X.env.kindOf y = some .free)
    (p1 : ∀ p ∈ cl, X.env.cells.lookup p.1 = some p.2 ∧ (p.1, NameKind.free) ∈ scope.names) (p2 : ∀ y, (y, NameKind.free) ∈ scope.names → ∃ c, (y, c) ∈ cl)
    (cap : Cap X scope N σ σ') (hf : ∀ b ∈ fp, FpOk X pins H b) (hfl : ∀ b ∈ fp, b < s.heap.objs.size)
    (hn : h1.Ns s.heap.objs.size m1) (hk : ∀ b o, s.heap.get? b = some o → h1.get? b = some o) :
    Inv (cxC X N scope cl s H fp) [] σ' H { s with heap := h1, toks := tk } := by
  have ok := I.ok
  have lk : ∀ y c, cl.lookup y = some c → X.env.cells.lookup y = some c := fun y c e => (p1 _ (PySem.mem_of_lookup e)).1
  have lk2 : ∀ y, (y, NameKind.free) ∈ scope.names → ∃ c, cl.lookup y = some c ∧ X.env.cells.lookup y = some c := fun y hy => by
    obtain ⟨c, hc⟩ := p2 y hy
    obtain ⟨c', e⟩ := lookup_mem hc
    exact ⟨c', e, lk y c' e⟩
  have fsub : ∀ b ∈ fp, b ∉ frs X.stack := fun b hb z => by
    obtain ⟨f0, f1, f2, _⟩ := hf b hb
    rcases List.mem_cons.mp (I.stkSub b z) with e | e
    · exact f1 e
    · exact f2 e
  have ok' : (cxC X N scope cl s H fp).Ok := by
    refine ⟨ok.mod, C.kind, ok.glob, ok.blt, Nat.le_refl _, fun x y c h1 h2 => ok.inj x y c (lk x c h1) (lk y c h2), fun y hy => ?_, fun y c h _ => ?_, ok.hd, ok.frames, .inl rfl, fun b hb => ?_, I.bs, Nat.le_trans ok.bsz I.sz,
      fun b o e hb => ?_, fsub, I.stack, I.stkFree⟩
    · obtain ⟨c, e, _⟩ := lk2 y (relabel_back (env := X.env) C.cell hy)
      exact ⟨c, e⟩
    · exact absurd (show false = true from h) Bool.false_ne_true
    · obtain ⟨f0, f1, f2, f3, f4, f5⟩ := hf b hb
      exact ⟨Nat.ne_of_lt (hfl b hb), fun x c e => f4 x c (lk x c e)⟩
    · obtain ⟨f0, f1, f2, f3, f4, f5⟩ := hf b hb
      rcases f3 with z | z
      · exact ok.noex b o e z
      · exact absurd (Nat.lt_of_lt_of_le (Heap.lt_size e) (Nat.le_trans ok.bsz z)) (Nat.lt_irrefl _)
  refine ⟨ok', rfl, I.bare, Un.kept hk, ⟨m1, hn, fun i y v e1 e2 e3 => ?_⟩, fun y c e => ?_, I.hok.fresh (Nat.le_refl _), fun y c e => I.freeC y c (lk y c e), fun p hp => absurd (show p ∈ ([] : List (Addr × Obj)) from hp) (by simp), I.hok.kept hk, cap.1⟩
  · obtain ⟨hy, j, e4, e5, e6⟩ := cap.2 i y v e1 e2
    obtain ⟨m, _, hl⟩ := I.loc
    obtain ⟨u, r, l⟩ := hl j y v e4 e5 e6
    refine ⟨u, r, .inr ?_⟩
    rcases l with ⟨k, _⟩ | ⟨k, c, e, z⟩
    · rcases hfr y hy with q | q <;> (rw [k] at q; cases q)
    · obtain ⟨c', e', e''⟩ := lk2 y hy
      rw [e] at e''
      cases e''
      have rl := relabel_free (env := X.env) (k := .free) (C.free (y, .free) hy rfl)
      refine ⟨rl, c, e', ?_⟩
      obtain ⟨o, ho, hd⟩ := z
      exact ⟨o, hk _ _ ho, hd⟩
  · obtain ⟨v, o, ho, hd⟩ := I.cell y c (lk y c e)
    exact ⟨v, o, hk _ _ ho, hd⟩
def tComp (X : Cx) (scope : Scope) (N : List Str) (wi : TI) (g : TG) (tt : TT) (te : TE) : TE := fun σ H Q => ∃ σ0, Cap X scope N σ σ0 ∧ wi σ H fun J H1 => ∀ D, H1 D = none → ∃ W : Nat → Nat → St → Hp → List V → Prop, (∃ m, W 0 m σ0 (upd H1 D (.lst [])) []) ∧
  ∀ i m σ' H' ys, W i m σ' H' ys → H' D = some (.lst ys) ∧ ((J.stop i H' ∧ Q (.ref D) H') ∨ (J.go i H' ∧ ∀ x H2, J.yld i H' x H2 → g x σ' H2 fun σ3 H3 => tt σ3 H3 fun b H4 =>
    if b = true then te σ3 H4 fun y H5 => H5 D = some (.lst ys) ∧ ys.length < sizeLine ∧ ∃ m', m' < m ∧ W (i + 1) m' σ3 (upd H5 D (.lst (ys ++ [y]))) (ys ++ [y]) else H4 D = some (.lst ys) ∧ ∃ m', m' < m ∧ W (i + 1) m' σ3 H4 ys))
theorem pe_comp {X : Cx} {elt target iter : Expr} {ifs : List Expr} {scope : Scope} {pos : Pos} {N : List Str} {wi : TI} {g : TG} {tt : TT} {te : TE}
    (C : CompOk scope N) (hfr : ∀ y, (y, NameKind.free) ∈ scope.names → X.env.kindOf y = some .cell ∨ X.env.kindOf y = some .free) (hc : X.calm = true)
    (hi : PI X target iter wi)
    (hb : ∀ cl s H fp, PG (cxC X N scope cl s H fp) target g ∧ PIfs (cxC X N scope cl s H fp) ifs tt ∧ PE (cxC X N scope cl s H fp) elt te)
    (hs : ∀ x, foldedSetIterable iter X.env x = pure x := by intro _; rfl) :
    PE X (.ListComp elt [⟨target, iter, ifs, 0⟩] scope pos) (tComp X scope N wi g tt te) := by
  intro pins s σ H Q I hq
  obtain ⟨σ0, cap, hq⟩ := hq
  obtain ⟨cl, hcl, p1, p2⟩ := closure_of (scope := scope) (env := X.env) (fun y hy hk => by
    obtain ⟨n, k⟩ := y
    cases hk
    exact I.ok.has n (hfr n hy))
  rw [eval_ListComp]
  refine wpAny_comprehension_free (use := none) rfl hs hcl C.kind C.names (thn (hi pins s σ H _ I hq) fun xv s1 h1 => thn h1 fun itv s2 h2 => ?_)
  obtain ⟨it, fp, tn, J, H2, rfl, I2, T, st2, f2, q2⟩ := h2
  refine wpAny_newObj_type (wpAny_newFunctionEnv C.cell (by intro y hy; simp at hy) (fun h₁ hns₁ hsb₁ => ?_) C.kind)
  dsimp only at hns₁ hsb₁ ⊢
  have hD : H2 s2.heap.objs.size = none := I2.hok.fresh (Nat.le_refl _)
  have I3 : Inv X pins σ (upd H2 s2.heap.objs.size (.lst [])) { s2 with heap := s2.heap.push { cls := .type "list", dict := none, data := .seq ([] : List Value).toArray } } :=
    I2.laid (t' := s2.toks) (fun b u e => Heap.get?_push_of_some _ e) (Nat.le_refl _) ⟨Nat.zero_le _, [], 0, .nil, Heap.get?_push_size _ rfl⟩
  generalize hs3 : ({ s2 with heap := s2.heap.push { cls := .type "list", dict := none, data := .seq ([] : List Value).toArray } } : Shared) = s3 at I3
  have hh3 : s2.heap.push { cls := .type "list", dict := none, data := .seq ([] : List Value).toArray } = s3.heap := by rw [← hs3]
  rw [hh3] at hns₁ hsb₁
  have fl2 : ∀ b ∈ fp, b < s2.heap.objs.size := fun b hb => by
    obtain ⟨o, e, _⟩ := T.obj _ _ st2 b hb
    exact Heap.lt_size e
  have fl3 : ∀ b ∈ fp, b < s3.heap.objs.size := fun b hb => by
    rw [← hh3, Heap.size_push]
    exact Nat.lt_succ_of_lt (fl2 b hb)
  have f3 : ∀ b ∈ fp, FpOk X pins (upd H2 s2.heap.objs.size (.lst [])) b := fun b hb => by
    obtain ⟨f0, fr⟩ := f2 b hb
    exact ⟨by rw [upd_ne (Nat.ne_of_lt (fl2 b hb))]; exact f0, fr⟩
  have keep3 : ∀ b o, s3.heap.get? b = some o → h₁.get? b = some o := fun b o e => hsb₁.extBut b o (Nat.ne_of_lt (Heap.lt_size e)) (Heap.get?_push_of_some _ e)
  have I4 := inv_comp (tk := s3.toks) I3 C hfr p1 p2 cap f3 fl3 hns₁ keep3
  have st4 : tn 0 h₁ := T.keep _ _ _ st2 fun b hb o e => keep3 b o (by rw [← hh3]; exact Heap.get?_push_of_some _ e)
  obtain ⟨W, ⟨m0, w0⟩, turn⟩ := q2 s2.heap.objs.size hD
  have fpc : ∀ {H' : Hp}, (∀ b ∈ fp, H' b = none) → ∀ b ∈ fp, FpOk (cxC X N scope cl s3 (upd H2 s2.heap.objs.size (.lst [])) fp) [] H' b := fun {H'} hn b hb => by
    obtain ⟨e1, e2⟩ := I4.ok.exf b hb
    exact ⟨hn b hb, e1, I4.ok.exfs b hb, .inl hb, e2, fun p hp => absurd (show p ∈ ([] : List (Addr × Obj)) from hp) (by simp)⟩
  have loop : ∀ s4 : Shared, s4 = { s3 with heap := h₁, toks := s3.toks } →
      codeAny (model X.prog X.w) X.A (.compLoop (.ListComp elt [⟨target, iter, ifs, 0⟩] scope pos) 0 (.ref it) (.ref s2.heap.objs.size) (compEnvC scope cl s3.heap.objs.size X.env))
        (compPost (model X.prog X.w) X.A X.xe none (EP X pins σ Q) (.ref s2.heap.objs.size) s3.heap.objs.size) s4 := by
    rintro s4 rfl
    refine comp_loop (fun n s' => ∃ i σ' H' ys, Inv (cxC X N scope cl s3 (upd H2 s2.heap.objs.size (.lst [])) fp) [] σ' H' s' ∧ tn i s'.heap ∧ (∀ b ∈ fp, H' b = none) ∧ W i n σ' H' ys) ?_ m0 ⟨0, σ0, _, [], I4, st4, fun b hb => (f3 b hb).1, w0⟩
    rintro n s5 ⟨i, σ5, H5, ys, I5, st5, fr5, w5⟩
    obtain ⟨hacc, w5⟩ := turn i n σ5 H5 ys w5
    have noE : ∀ {α : Type} {t : Sem α} {Q' : α → Shared → Prop} {E' : Value → Shared → Prop} {s' : Shared}, wpAny (model X.prog X.w) X.A t Q' (fun _ _ => False) s' → wpAny (model X.prog X.w) X.A t Q' E' s' := fun h => wpAny_mono h (fun _ _ q => q) fun _ _ z => z.elim
    rcases w5 with ⟨stop, qn⟩ | ⟨go, step⟩
    · refine noE (thn (T.done (cxC X N scope cl s3 (upd H2 s2.heap.objs.size (.lst [])) fp) rfl rfl rfl hc i [] s5 σ5 H5 _ I5 (fpc fr5) st5 stop) fun r s6 ⟨hr, I6⟩ => ?_)
      subst hr
      obtain ⟨m6, hn6, _⟩ := I6.loc
      refine ⟨m6, hn6, fun h' sb => ?_⟩
      have kp : ∀ b o, b ≠ s3.heap.objs.size → s6.heap.get? b = some o → h'.get? b = some o := fun b o hb e => sb.extBut b o hb e
      have ne3 : ∀ b o, s3.heap.get? b = some o → b ≠ s3.heap.objs.size := fun b o e => Nat.ne_of_lt (Heap.lt_size e)
      have un : Un (frs X.stack) fp (upd H2 s2.heap.objs.size (.lst [])) H5 s3.heap h' := by
        have u := I6.base
        exact ⟨fun b o e n hb hx => kp b o (ne3 b o e) (u.keep b o e n hb hx), fun b o e n hb hx => by
          obtain ⟨sl, e1⟩ := u.slot b o e n hb hx
          exact ⟨sl, kp b _ (ne3 b o e) e1⟩, u.free, fun b o e hx => by
          obtain ⟨o', e1⟩ := u.there b o e hx
          exact ⟨o', kp b _ (ne3 b o e) e1⟩, u.tups, u.frzs, u.tbls⟩
      have hok : HOk X.prog X.w H5 h' := fun b u e => by
        refine (I6.hok b u e).stay (fun c v hc' q => kp c v ?_ q) (fun _ q => q) fun _ _ q => q
        have hfree : H5 s3.heap.objs.size = none := I6.free
        rintro rfl
        rcases hc' with z | z
        · rw [z] at hfree; rw [hfree] at e; cases e
        · rw [hfree] at z; cases z
      have I7 : Inv X pins σ H5 { s6 with heap := h' } := by
        refine I3.call' (s' := { s6 with heap := h' }) I6.os un hok I6.bare fun b hb => ?_
        obtain ⟨f0, f1, f2', f3', f4, f5⟩ := f3 b hb
        exact ⟨f3', f1, f4, f5⟩
      exact ⟨.ref s2.heap.objs.size, H5, I7, rfl, qn⟩
    · refine noE (thn (T.item (cxC X N scope cl s3 (upd H2 s2.heap.objs.size (.lst [])) fp) rfl rfl rfl hc i [] s5 σ5 H5 (fun _ _ => False) I5 (fpc fr5) st5 go) fun r s6 ⟨u, hr, h6⟩ => ?_)
      subst hr
      refine noE (thn h6 fun _ s7 ⟨x, H7, I7, r7, y7, st7, fr7⟩ => ?_)
      obtain ⟨hg, ht, he⟩ := hb cl s3 (upd H2 s2.heap.objs.size (.lst [])) fp
      have I7' := I7.pinned (fpc fr7) (T.obj _ _ st7)
      have back : ∀ {σ8 : St} {H8 : Hp} {s8 : Shared}, Inv (cxC X N scope cl s3 (upd H2 s2.heap.objs.size (.lst [])) fp) ([] ++ pinsAt fp s7.heap) σ8 H8 s8 → tn (i + 1) s8.heap ∧ ∀ b ∈ fp, H8 b = none := fun {σ8 H8 s8} I8 =>
        ⟨T.keep _ _ _ st7 fun b hb o e => (I8.pin (b, o) (List.mem_append_right _ (List.mem_append_right _ (mem_pinsAt hb e)))).1, fun b hb => by
          obtain ⟨o, e, d⟩ := T.obj _ _ st7 b hb
          exact (I8.pin (b, o) (List.mem_append_right _ (List.mem_append_right _ (mem_pinsAt hb e)))).2.1⟩
      refine noE (thn (hg _ s7 σ5 H7 x u _ I7' r7 (step x H7 y7)) fun _ s8 ⟨σ8, H8, I8, q8⟩ => ?_)
      refine noE (thn (ht _ s8 σ8 H8 _ I8 q8) fun b s9 ⟨H9, I9, q9⟩ => ?_)
      cases b with
      | false =>
        rw [if_neg Bool.false_ne_true] at q9 ⊢
        obtain ⟨_, m', hm, w9⟩ := q9
        exact ⟨m', hm, i + 1, σ8, H9, ys, I9.unpinned, (back I9).1, (back I9).2, w9⟩
      | true =>
        rw [if_pos rfl] at q9 ⊢
        refine noE (thn (he _ s9 σ8 H9 _ I9 q9) fun yv s10 ⟨y, H10, I10, r10, hacc10, hlen, m', hm, w10⟩ => ?_)
        refine noE (thn (mt_append _ s10 σ8 H10 (.ref s2.heap.objs.size) [y] (.ref s2.heap.objs.size) [yv] (fun _ H11 => H11 = upd H10 s2.heap.objs.size (.lst (ys ++ [y]))) I10 rfl (.cons r10 .nil) ⟨_, _, _, rfl, rfl, hacc10, hlen, rfl⟩) fun _ s11 ⟨z, H11, I11, _, e11⟩ => ?_)
        subst e11
        exact ⟨m', hm, i + 1, σ8, _, ys ++ [y], I11.unpinned, (back I11).1, (back I11).2, w10⟩
  have fin := codeAny_compStart_list (loop { s3 with heap := h₁, toks := s3.toks } rfl) (T.self _ _ _ _ _ st4 (loop { s3 with heap := h₁, toks := s3.toks } rfl))
  subst hs3
  exact fin
end L2
set_option Elab.async false
set_option linter.all false
set_option maxRecDepth 100000
namespace PySem
open Sem (wp)
namespace IfF
theorem lk_class : typeLookup (.type "function") "__class__" = pure (some (.builtin "object.__class__")) := by rw [typeLookup_type, builtinLookup_eq_fast]; kernel_rfl
theorem slot_ga : Slot "function" "__getattribute__" "object.__getattribute__" :=
  .of (owner := "object") (n := "__getattribute__") (by rw [typeLookup_type, builtinLookup_eq_fast]; kernel_rfl) (by decide +kernel) (by decide +kernel) (by decide +kernel)
    (by first | exact .inl (by decide +kernel) | exact .inr (by decide +kernel)) (by rw [isSubtype_type]; kernel_rfl)
theorem entry_ga : entryFor table "object.__getattribute__" = some Builtin.«object.__getattribute__» := entryFor_of_tree (by kernel_rfl)
theorem sub_class_owner : isSubtype (.type "function") (.type (".".intercalate ("object.__class__".cutAt '.').dropLast)) = pure true := by
  rw [F.owner_object_class, isSubtype_type]; kernel_rfl
theorem sub_int : isSubtype (.type "function") (.type "int") = pure false := by rw [isSubtype_type]; kernel_rfl
theorem sub_bool : isSubtype (.type "function") (.type "bool") = pure false := by rw [isSubtype_type]; kernel_rfl
theorem sub_str : isSubtype (.type "function") (.type "str") = pure false := by rw [isSubtype_type]; kernel_rfl
end IfF
section
variable {prog : Program} {w : World} {A : Around} {E : Value → Shared → Prop} {h : Heap} {g : Array GenState} {d : Drawn} {t : Nat} {os : OsState} {a : Addr} {o : Obj}
theorem fn_class_get {R : Result → Shared → Prop} (hx : h.get? a = some o) (hc : o.cls = .type "function") (hq : R (.ok (.ret (.type "function"))) ⟨h, g, d, t, os⟩) :
    codeAny (model prog w) A (.call (.builtin "getset_descriptor.__get__") ⟨[.builtin "object.__class__", .ref a, .type "function"], []⟩) R ⟨h, g, d, t, os⟩ := by
  have hT : (⟨h, g, d, t, os⟩ : Shared).TypeIs (.ref a) "function" := ⟨_, hx, hc⟩
  have hT5 : (⟨h, g, d, t, os⟩ : Shared).TypeIs (.builtin "object.__class__") "getset_descriptor" := F.typeOf_object_class
  have f8 := IfF.sub_class_owner
  refine codeAny_call_builtin F.slot_gs_get.plain F.entry_gs_get (F.slot_gs_get.check _ _ _ _ _ _ _ _ hT5 (F.args_gs_get _ _ _) ?_)
  repeat (any_goals (first | assumption | wp_step))
  refine ⟨Code.quiet_builtin _ (by decide +kernel), codeAny_builtin F.entry_object_class ?_⟩
  repeat (any_goals (first | assumption | wp_step))
theorem fn_class_entry {tk : Tok} {Q : Fin → Shared → Prop} (hx : h.get? a = some o) (hc : o.cls = .type "function") (hq : Q (.done (.ret (.type "function"))) ⟨h, g, d, t, os⟩) :
    wpAny (model prog w) A (Builtin.«object.__getattribute__» ⟨[.ref a, .str "__class__" tk], []⟩) Q E ⟨h, g, d, t, os⟩ := by
  have hT : (⟨h, g, d, t, os⟩ : Shared).TypeIs (.ref a) "function" := ⟨_, hx, hc⟩
  have hT5 : (⟨h, g, d, t, os⟩ : Shared).TypeIs (.builtin "object.__class__") "getset_descriptor" := F.typeOf_object_class
  have f4 := IfF.lk_class
  have f5 := F.typeOf_object_class
  have f6 := F.slot_gs_get.lookup
  have f7 := F.slot_gs_set.lookup
  repeat (any_goals (first | assumption | wp_step))
  refine fn_class_get hx hc ?_
  repeat (any_goals (first | assumption | wp_step))
theorem fn_class_by {tk : Tok} {Q : Value → Shared → Prop} (hx : h.get? a = some o) (hc : o.cls = .type "function") (hq : Q (.type "function") ⟨h, g, d, t, os⟩) : wpAny (model prog w) A (getAttrBy (.ref a) (.str "__class__" tk) false) Q E ⟨h, g, d, t, os⟩ := by
  have hT : (⟨h, g, d, t, os⟩ : Shared).TypeIs (.ref a) "function" := ⟨_, hx, hc⟩
  have f2 := IfF.slot_ga.lookup
  have f3 := IfF.slot_ga.bind (.ref a)
  repeat (any_goals (first | assumption | wp_step))
  refine codeAny_call_builtin IfF.slot_ga.plain IfF.entry_ga (IfF.slot_ga.check _ _ _ _ _ _ _ _ hT (F.args_object_getattribute_2 _ _) (fn_class_entry hx hc ?_))
  repeat (any_goals (first | assumption | wp_step))
theorem fn_class_attr {Q : Option Value → Shared → Prop} (hx : h.get? a = some o) (hc : o.cls = .type "function") (hq : Q (some (.type "function")) ⟨h, g, d, t + 1, os⟩) : wpAny (model prog w) A (getAttr? (.ref a) "__class__") Q E ⟨h, g, d, t, os⟩ := by
  unfold getAttr? getAttrBy?
  repeat (any_goals (first | assumption | with_reducible apply fn_class_by hx hc | wp_step))
theorem isi_nested_fn {T : String} {dep : Int} {tk : Tok} {Q : Fin → Shared → Prop} (hx : h.get? a = some o) (hc : o.cls = .type "function") (hne : (Value.type "function" == Value.type T) = false) (hty : typeOf (.type T) = pure (.type "type"))
    (hsub : isSubtype (.type "function") (.type T) = pure false) (hq : Q (.done (.ret (.bool false))) ⟨h, g, d, t + 1, os⟩) :
    wpAny (model prog w) A (Builtin.«isinstance.nested» ⟨[.ref a, .type T, .int dep tk], []⟩) Q E ⟨h, g, d, t, os⟩ := by
  have hT : (⟨h, g, d, t, os⟩ : Shared).TypeIs (.ref a) "function" := ⟨_, hx, hc⟩
  repeat (any_goals (first | assumption | with_reducible apply fn_class_attr hx hc | wp_step))
end
theorem isi_false_fn {a : Addr} {T : String} (hne : (Value.type "function" == Value.type T) = false) (hty : typeOf (.type T) = pure (.type "type")) (hsub : isSubtype (.type "function") (.type T) = pure false) :
    Meets (Builtin.«isinstance» ⟨[.ref a, .type T], []⟩) (fun _ R s => (∃ o, s.heap.get? a = some o ∧ o.cls = .type "function") ∧ R (.ok (.ret (.bool false))) { s with toks := s.toks + 1 }) :=
  fun _ _ _ _ s hs => by
    obtain ⟨h, g, d, t, os⟩ := s
    obtain ⟨⟨o, hx, hc⟩, hq⟩ := hs
    exact isinstance_outer (isi_nested_fn hx hc hne hty hsub hq)
section
variable {prog : Program} {w : World} {A : Around} {E : Value → Shared → Prop} {s : Shared} {Q : Value → Shared → Prop} {a : Addr} {o : Obj}
theorem isi_fn_int (hx : s.heap.get? a = some o) (hc : o.cls = .type "function") (h : Q (.bool false) { s with toks := s.toks + 1 }) : wpAny (model prog w) A (call (.builtin "isinstance") [.ref a, .type "int"]) Q E s :=
  call_isinstance (isi_false_fn (by decide) F.isi_meta_int IfF.sub_int) ⟨⟨o, hx, hc⟩, h⟩
theorem isi_fn_bool (hx : s.heap.get? a = some o) (hc : o.cls = .type "function") (h : Q (.bool false) { s with toks := s.toks + 1 }) : wpAny (model prog w) A (call (.builtin "isinstance") [.ref a, .type "bool"]) Q E s :=
  call_isinstance (isi_false_fn (by decide) F.isi_meta_bool IfF.sub_bool) ⟨⟨o, hx, hc⟩, h⟩
theorem isi_fn_str (hx : s.heap.get? a = some o) (hc : o.cls = .type "function") (h : Q (.bool false) { s with toks := s.toks + 1 }) : wpAny (model prog w) A (call (.builtin "isinstance") [.ref a, .type "str"]) Q E s :=
  call_isinstance (isi_false_fn (by decide) F.isi_meta_str IfF.sub_str) ⟨⟨o, hx, hc⟩, h⟩
end
end PySem
set_option Elab.async false
set_option linter.all false
set_option maxRecDepth 100000
namespace L2
open PySem PySem.Spec PyProof.Rows
section
variable {X : Cx}
theorem PE.imp {e : Expr} {t t' : TE} (h : PE X e t) (k : ∀ σ H Q, t' σ H Q → t σ H Q) : PE X e t' := fun pins s σ H Q I q => h pins s σ H Q I (k σ H Q q)
def rAll (K : PySem.W.Frag) : List V → Hp → VK → Prop := fun xs H Q => ∃ (p : Addr) (bs : List Bool), xs = [.ref p] ∧ SqL K H p (bs.map V.bl) ∧ Q (.bl (bs.all id)) H
theorem all_range (bs : List Bool) : (List.range bs.length).all (fun i => bs.getD i false) = bs.all id := by
  rw [Bool.eq_iff_iff, List.all_eq_true, List.all_eq_true]
  constructor
  · intro h b hb
    obtain ⟨i, hi, e⟩ := List.mem_iff_getElem.mp hb
    have := h i (List.mem_range.mpr hi)
    rw [List.getD_eq_getElem?_getD, List.getElem?_eq_getElem hi] at this
    rw [← e]
    exact this
  · intro h i hi
    have hi := List.mem_range.mp hi
    rw [List.getD_eq_getElem?_getD, List.getElem?_eq_getElem hi]
    exact h _ (List.getElem_mem hi)
theorem call_all (hc : X.calm = true) : CallR X (.builtin "all") (rAll X.K) := by
  intro pins s σ H xs us Q I r h
  obtain ⟨p, bs, rfl, hq, q⟩ := h
  obtain ⟨u, rfl, rx⟩ := r.one
  cases rx
  obtain ⟨its, rv, pl, hz⟩ := I.list hq
  have hl := rv.length
  rw [List.length_map] at hl
  have hne : p ≠ s.heap.objs.size := by
    obtain ⟨o, ho, _⟩ := pl.isList
    exact Nat.ne_of_lt (Heap.lt_size ho)
  refine call_all_walk (wpAny_pyIter_list pl.isList ?_)
  refine ⟨s.heap.objs.size, _, _, _, _, _, fun i => bs.getD i false, rfl, Walks.list (show X.A.in1.handled = none from I.ok.hd hc) _ p hne its.toArray, ⟨⟨_, Heap.get?_push_size _ rfl, rfl, rfl⟩, ?_⟩, ?_, fun h' tk kp => ?_⟩
  · exact pl.isList.at fun o e => Heap.get?_push_of_some _ e
  · intro i v s' Q' E' hv hq'
    have hv' : its[i]? = some v := by simpa using hv
    have hi : i < bs.length := by rw [hl]; exact (List.getElem?_eq_some_iff.mp hv').1
    obtain ⟨u, hu, ru⟩ := rv.get (i := i) (x := .bl bs[i]) (by rw [List.getElem?_map, List.getElem?_eq_getElem hi]; rfl)
    rw [hv'] at hu
    cases hu
    cases ru
    have e : bs.getD i false = bs[i] := by rw [List.getD_eq_getElem?_getD, List.getElem?_eq_getElem hi]; rfl
    replace hq' : Q' (bs.getD i false) s' := hq'
    rw [e] at hq'
    exact wpAny_truthy_bool hq'
  · have e : (List.range its.toArray.size).all (fun i => bs.getD i false) = bs.all id := by
      rw [List.size_toArray, ← hl]; exact all_range bs
    rw [e]
    refine ⟨.bl (bs.all id), H, ?_, rfl, q⟩
    exact I.kept fun b o eo => kp b o (by
      intro z
      have : b = s.heap.objs.size := by simpa using z
      rw [this] at eo
      exact absurd (Heap.lt_size eo) (Nat.lt_irrefl _)) (Heap.get?_push_of_some _ eo)
inductive Rk (K : PySem.W.Frag) (H : Hp) : V → String → Prop
  | non : Rk K H .non "NoneType"
  | lst {a xs} : SqL K H a xs → Rk K H (.ref a) "list"
  | tup {a xs} : SqT K H a xs → Rk K H (.ref a) "tuple"
  | dct {a kvs} : H a = some (.dK kvs) → Rk K H (.ref a) "dict"
  | fn {a o} : K.lookup a = some o → o.cls = .type "function" → Rk K H (.ref a) "function"
def rIsiR (K : PySem.W.Frag) : List V → Hp → VK → Prop := fun xs H Q => ∃ x k T, xs = [x, .ty T] ∧ Rk K H x k ∧ (T = "int" ∨ T = "bool" ∨ T = "str") ∧ Q (.bl false) H
theorem call_isiR : CallR X (.builtin "isinstance") (rIsiR X.K) := by
  intro pins s σ H xs us Q I r h
  obtain ⟨x, k, T, rfl, hx, hT, q⟩ := h
  obtain ⟨u, v, rfl, rx, rT⟩ := r.two
  cases rT
  have f1 : EP X pins σ Q (.bool false) { s with toks := s.toks + 1 } := ⟨.bl _, H, I.tok _, rfl, q⟩
  cases hx with
  | non =>
    cases rx
    rcases hT with rfl | rfl | rfl
    · exact IsiPair.NoneType_int f1
    · exact IsiPair.NoneType_bool f1
    · exact IsiPair.NoneType_str f1
  | lst hq =>
    cases rx
    obtain ⟨its, rv, ⟨o, n, e, c, _⟩, hz⟩ := I.list hq
    rcases hT with rfl | rfl | rfl
    · exact IsiPair.list_int e c f1
    · exact IsiPair.list_bool e c f1
    · exact IsiPair.list_str e c f1
  | tup hq =>
    cases rx
    obtain ⟨its, rv, ⟨o, e, c, _⟩, hz⟩ := I.tuple hq
    rcases hT with rfl | rfl | rfl
    · exact IsiPair.tuple_int e c f1
    · exact IsiPair.tuple_bool e c f1
    · exact IsiPair.tuple_str e c f1
  | dct hq =>
    cases rx
    obtain ⟨_, _, _, _, o, _, _, e, ex, _⟩ := I.hok _ _ hq
    rcases hT with rfl | rfl | rfl
    · exact IsiPair.dict_int e ex.1 f1
    · exact IsiPair.dict_bool e ex.1 f1
    · exact IsiPair.dict_str e ex.1 f1
  | fn hk hc =>
    cases rx
    have e := I.kIn _ _ hk
    rcases hT with rfl | rfl | rfl
    · exact isi_fn_int e hc f1
    · exact isi_fn_bool e hc f1
    · exact isi_fn_str e hc f1
end
theorem hfr_none {X : Cx} {scope : Scope} (h : ∀ z ∈ scope.names, z.2 ≠ .free) : ∀ y, (y, NameKind.free) ∈ scope.names → X.env.kindOf y = some .cell ∨ X.env.kindOf y = some .free := fun y hy => absurd rfl (h _ hy)
theorem hfr_of {X : Cx} {scope : Scope} (sc : Scope) (e : X.env.scope = sc) (h : ∀ z ∈ scope.names, z.2 = .free → sc.names.lookup z.1 = some .cell ∨ sc.names.lookup z.1 = some .free) :
    ∀ y, (y, NameKind.free) ∈ scope.names → X.env.kindOf y = some .cell ∨ X.env.kindOf y = some .free := fun y hy => by
  show X.env.scope.names.lookup y = some .cell ∨ X.env.scope.names.lookup y = some .free
  rw [e]
  exact h _ hy rfl
theorem Same.seqT {K : PySem.W.Frag} {H H' : Hp} {a : Addr} {xs : List V} (e : Same H H') (h : SqT K H a xs) : SqT K H' a xs := by
  rcases h with (h | ⟨o, h⟩) | h
  · exact .inl (.inl (e _ _ h))
  · exact .inl (.inr ⟨o, e _ _ h⟩)
  · exact .inr h
theorem same_new {H : Hp} {p : Addr} (h : H p = none) (o : HO) : Same H (upd H p o) := fun b u q => by rw [upd_ne (ne_of_none q h)]; exact q
theorem Rk.same {K : PySem.W.Frag} {H H' : Hp} {v : V} {k : String} (e : Same H H') (h : Rk K H v k) : Rk K H' v k := by
  cases h with
  | non => exact .non
  | lst q => exact .lst (e.seq q)
  | tup q => exact .tup (e.seqT q)
  | dct q => exact .dct (e _ _ q)
  | fn q c => exact .fn q c
theorem cap_none1 {X : Cx} {scope : Scope} {x : Str} {σ : St} : Cap X scope [x] σ [none] := ⟨rfl, fun i y v _ h2 => by
  cases i with
  | zero => cases h2
  | succ i => cases h2⟩
section
theorem comp_pure {X : Cx} {scope : Scope} {N : List Str} {wi : TI} {te : TE} {σ : St} {H : Hp} {Q : VK} (xs : List V) (f : V → V) (σ0 : St) (cap : Cap X scope N σ σ0) (hsz : xs.length ≤ sizeLine)
    (hw : ∀ R : It → Hp → Prop, (∀ J : It, (∀ H' i x, Same H H' → xs[i]? = some x → J.go i H' ∧ ∀ y H2, J.yld i H' y H2 → H2 = H' ∧ y = x) → (∀ H', Same H H' → J.stop xs.length H') → R J H) → wi σ H R)
    (he : ∀ x ∈ xs, ∀ H' R l, Same H H' → R (f x) H' → te ((σ0.set 0 l).set 0 (some x)) H' R) (h0 : σ0[0]? = some none)
    (q : ∀ D, H D = none → Q (.ref D) (upd H D (.lst (xs.map f)))) :
    tComp X scope N wi (gName 0) tYes te σ H Q := by
  refine ⟨σ0, cap, hw _ fun J go stop D hD => ?_⟩
  have sm : ∀ ys : List V, Same H (upd H D (.lst ys)) := fun ys b o e => by rw [upd_ne (ne_of_none e hD)]; exact e
  refine ⟨fun i m σ' H' ys => i ≤ xs.length ∧ m = xs.length - i ∧ (∃ l, σ' = σ0.set 0 l) ∧ H' = upd H D (.lst ys) ∧ ys = (xs.take i).map f, ⟨xs.length, Nat.zero_le _, rfl, ⟨none, ?_⟩, rfl, rfl⟩, ?_⟩
  · refine (List.ext_getElem? fun j => ?_)
    rw [List.getElem?_set]
    split
    · rename_i hj
      subst hj
      split
      · exact h0
      · rename_i hlt
        exact List.getElem?_eq_none_iff.mpr (by omega)
    · rfl
  · rintro i m σ' H' ys ⟨hi, rfl, ⟨l, rfl⟩, rfl, rfl⟩
    refine ⟨upd_same, ?_⟩
    by_cases hlt : i < xs.length
    · right
      obtain ⟨g1, g2⟩ := go (upd H D (.lst ((xs.take i).map f))) i xs[i] (sm _) (List.getElem?_eq_getElem hlt)
      refine ⟨g1, fun x H2 hy => ?_⟩
      obtain ⟨rfl, rfl⟩ := g2 x H2 hy
      unfold gName tYes
      dsimp only
      rw [if_pos rfl]
      refine he xs[i] (List.getElem_mem hlt) _ _ l (sm _) ⟨upd_same, ?_, xs.length - (i + 1), by omega, hlt, rfl, ⟨some xs[i], ?_⟩, ?_, ?_⟩
      · rw [List.length_map, List.length_take]; omega
      · rw [List.set_set]
      · rw [upd_upd]
      · rw [List.take_add_one, List.getElem?_eq_getElem hlt, List.map_append]
        rfl
    · left
      have e : i = xs.length := by omega
      subst e
      refine ⟨stop _ (sm _), ?_⟩
      rw [List.take_length]
      exact q D hD
theorem wi_str {z : Str} {tl : TE} {σ : St} {H : Hp} (h : ∀ R : VK, R (.str z) H → tl σ H R) (R : It → Hp → Prop)
    (q : ∀ J : It, (∀ H' i x, Same H H' → ((List.range z.cps.size).map fun i => V.str (sgn z i))[i]? = some x → J.go i H' ∧ ∀ y H2, J.yld i H' y H2 → H2 = H' ∧ y = x) →
      (∀ H', Same H H' → J.stop ((List.range z.cps.size).map fun i => V.str (sgn z i)).length H') → R J H) : iStr tl σ H R := by
  refine h _ ⟨z, rfl, q _ (fun H' i x _ e => ?_) fun H' _ => ?_⟩
  · rw [List.getElem?_map] at e
    have hi : i < z.cps.size := by
      cases hr : (List.range z.cps.size)[i]? with
      | none => rw [hr] at e; cases e
      | some j => have := (List.getElem?_eq_some_iff.mp hr).1; rwa [List.length_range] at this
    rw [List.getElem?_range hi] at e
    cases e
    exact ⟨hi, fun y H2 hy => hy⟩
  · rw [List.length_map, List.length_range]
    exact Nat.le_refl _
theorem wi_list {K : PySem.W.Frag} {a : Addr} {xs : List V} {tl : TE} {σ : St} {H : Hp} (hS : ∀ H', Same H H' → SqL K H' a xs) (h : ∀ R : VK, R (.ref a) H → tl σ H R) (R : It → Hp → Prop)
    (q : ∀ J : It, (∀ H' i x, Same H H' → xs[i]? = some x → J.go i H' ∧ ∀ y H2, J.yld i H' y H2 → H2 = H' ∧ y = x) → (∀ H', Same H H' → J.stop xs.length H') → R J H) : iList K tl σ H R := by
  refine h _ ⟨a, rfl, ⟨xs, hS H (Same.refl H)⟩, q _ (fun H' i x s e => ⟨⟨xs, x, hS H' s, e⟩, fun y H2 hy => ?_⟩) fun H' s => ⟨xs, hS H' s, Nat.le_refl _⟩⟩
  obtain ⟨e1, e2⟩ := hy
  have e3 := e2 xs (hS H' s)
  rw [e] at e3
  cases e3
  exact ⟨e1, rfl⟩
end
end L2
set_option Elab.async false
set_option linter.all false
set_option maxRecDepth 100000
namespace L2
open PySem PySem.Spec PyProof.Rows
section
variable {κ : Type} [DecidableEq κ]
end
section
variable {P : Program} {w : World} {H : Hp} {h : Heap} {a : Addr}
end
section
variable {X : Cx} {pins : List (Addr × Obj)} {σ : St} {H : Hp} {s : Shared} {a : Addr} {y v : V} {u r : Value} {o : Option V} {A : Around} {E : Value → Shared → Prop}
end
section
variable {X : Cx} {pins : List (Addr × Obj)} {σ : St} {H : Hp} {s : Shared} {a : Addr} {kvs : List (Key × V)} {k : Key} {u : Value} {A : Around} {E : Value → Shared → Prop}
end
section
variable {X : Cx} {o i e value : Expr} {pos pos' tpos : Pos} {td ty tv : TE}
end
section
variable {X : Cx} {pos : Pos}
end
section
variable {X : Cx} {pins : List (Addr × Obj)} {σ : St} {H : Hp} {s : Shared} {a : Addr} {y d : V} {u r : Value} {o : Option V} {A : Around} {E : Value → Shared → Prop}
end
section
variable {X : Cx} {o e f : Expr} {apos cpos : Pos} {td ty tx : TE}
end
section
variable {X : Cx} {pins : List (Addr × Obj)} {σ : St} {H : Hp} {s : Shared} {a : Addr} {kvs : List (Key × V)} {A : Around} {E : Value → Shared → Prop}
end
section
variable {X : Cx} {pins : List (Addr × Obj)} {σ : St} {H : Hp} {s : Shared} {a : Addr} {y : V} {u : Value} {A : Around} {E : Value → Shared → Prop}
end
end L2
namespace L2
open PySem PySem.Spec PyProof.Rows
section
variable {X : Cx}
end
section
variable {κ : Type} [DecidableEq κ]
end
end L2
set_option Elab.async false
set_option linter.all false
set_option maxRecDepth 100000
namespace L2
open PySem PySem.Spec PyProof.Rows
structure VE (X : Cx) (e : Expr) (t : TE) : Prop where
  out : PE X e t
structure VT (X : Cx) (e : Expr) (t : TT) : Prop where
  out : PT X e t
structure VW (X : Cx) (e : Expr) (t : TT) : Prop where
  out : PW X e t
structure VA (X : Cx) (es : List Expr) (t : TA) : Prop where
  out : PA X es t
structure VS (X : Cx) (st : Stmt) (t : TS) : Prop where
  out : PS X st t
structure VSs (X : Cx) (st : List Stmt) (t : TS) : Prop where
  out : PSs X st t
structure VI (X : Cx) (tg iter : Expr) (t : TI) : Prop where
  out : PI X tg iter t
structure VG (X : Cx) (tg : Expr) (t : TG) : Prop where
  out : PG X tg t
structure VGs (X : Cx) (tg : List Expr) (t : TGs) : Prop where
  out : PGs X tg t
structure VO (X : Cx) (e : Option Expr) (t : TO) : Prop where
  out : PO X e t
structure VF (X : Cx) (ifs : List Expr) (t : TT) : Prop where
  out : PIfs X ifs t
section
variable {X : Cx} {a b c e : Expr} {es : List Expr} {ta tb tc te : TE} {t : TA} {tA tB' : TT} {pos p : Pos} {x : Str}
theorem vv (i : Nat) {x : Str} {pos : Pos} (hN : X.N[i]? = some x := by rfl) (hv : Vis X.env.scope x := by first | exact Or.inl rfl | exact Or.inr (Or.inl rfl) | exact Or.inr (Or.inr rfl)) (hd : (x == ("__debug__" : Str)) = false := by decide)
    (hcd : (x == ("__classdict__" : Str)) = false := by decide) : VE X (.Name x pos) (tVar i) := ⟨pv i hN hv hd hcd⟩
theorem ve_gl {v : V} (hg : Gl X x) (hm : ∃ u, X.mg x = some u ∧ RelV v u) (hd : (x == ("__debug__" : Str)) = false := by decide) : VE X (.Name x pos) (tC v) := ⟨pe_gl hg hm hd⟩
theorem ve_bltn {v : V} {u : Value} (hg : Gl X x) (hm : X.mg x = none) (hv : bootBuiltins x = some u) (r : RelV v u) (hn : x ≠ "__name__" := by decide) (hd : (x == ("__debug__" : Str)) = false := by decide) : VE X (.Name x pos) (tC v) := ⟨pe_bltn hg hm hv r hn hd⟩
theorem ve_int {i j} : VE X (.Constant (.int i) j pos) (tC (.int i)) := ⟨pe_int⟩
theorem ve_bl {b j} : VE X (.Constant (.bool b) j pos) (tC (.bl b)) := ⟨pe_bl⟩
theorem ve_non {j} : VE X (.Constant .none j pos) (tC .non) := ⟨pe_non⟩
theorem ve_str {x j} : VE X (.Constant (.str x) j pos) (tC (.str x)) := ⟨pe_str⟩
theorem ve_op {op : Operator} {r : R2} (ho : OpR X (binaryOp op) r) (ha : VE X a ta) (hb : VE X b tb) : VE X (.BinOp a op b pos) (tOp r ta tb) := ⟨pe_op ho ha.1 hb.1⟩
theorem ve_un {op : UnaryOp} {r : V → Hp → VK → Prop} (ho : UnR X (unaryOp op) r) (ha : VE X a ta) : VE X (.UnaryOp op a pos) (tUn r ta) := ⟨pe_un ho ha.1⟩
theorem ve_cmpR {op : CmpOp} {r : R2} (ho : OpR X (compareOp op) r) (ha : VE X a ta) (hb : VE X b tb) (hm : behindInMarks op b = false) : VE X (.Compare a [op] [b] pos) (tOp r ta tb) := ⟨pe_cmpR ho ha.1 hb.1 hm⟩
theorem vt_cmpR {op : CmpOp} {r : R2} (ho : OpR X (compareOp op) r) (ha : VE X a ta) (hb : VE X b tb) (hm : behindInMarks op b = false) : VT X (.Compare a [op] [b] pos) (tTest (tOp r ta tb)) := ⟨pt_cmpR ho ha.1 hb.1 hm⟩
theorem vt_chain {op op' : CmpOp} {r r' : R2} (ho : OpR X (compareOp op) r) (ho' : OpR X (compareOp op') r') (ha : VE X a ta) (hb : VE X b tb) (hc : VE X c tc)
    (hm : lastMarks [op, op'] [b, c] = false := by with_unfolding_all rfl) : VT X (.Compare a [op, op'] [b, c] pos) (tTest (tChain r r' ta tb tc)) := ⟨pt_chain ho ho' ha.1 hb.1 hc.1 hm⟩
theorem ve_one {op} (h : VE X a te) : VE X (.BoolOp op [a] pos) te := ⟨pe_one h.1⟩
theorem ve_and {rest : List Expr} (ha : VE X a ta) (hb : VE X (.BoolOp .And (b :: rest) pos) tb) : VE X (.BoolOp .And (a :: b :: rest) pos) (tAndV ta tb) := ⟨pe_and ha.1 hb.1⟩
theorem ve_or {rest : List Expr} (ha : VE X a ta) (hb : VE X (.BoolOp .Or (b :: rest) pos) tb) : VE X (.BoolOp .Or (a :: b :: rest) pos) (tOrV ta tb) := ⟨pe_or ha.1 hb.1⟩
theorem ve_not (ha : VE X a ta) : VE X (.UnaryOp .Not a pos) (tNotV ta) := ⟨pe_not ha.1⟩
theorem ve_ifExp (hc : VT X c tA) (ha : VE X a ta) (hb : VE X b tb) : VE X (.IfExp c a b pos) (tIf tA ta tb) := ⟨pe_ifExp hc.1 ha.1 hb.1⟩
theorem va_nil : VA X [] tNil := ⟨pa_nil⟩
theorem va_c (ha : VE X e te) (hr : VA X es t) (hp : plainE e = true := by rfl) : VA X (e :: es) (tCons te t) := ⟨pa_c ha.1 hr.1 hp⟩
theorem ve_fn {k : Nat} {ps : List Str} {sp : Sp} (G : Ok X.prog X.w X.K X.mg X.base k x ps sp) (hr : Room k X.A) (hg : Gl X x) (ha : VA X (e :: es) t) (hdb : (x == ("__debug__" : Str)) = false := by decide)
    (hp : plainE e = true := by rfl) (hpl : (backTo pos (starEach es X.env)).any (·.1) = false := by rfl) :
    VE X (.Call (.Name x p) (e :: es) [] pos) (tCall sp [] E0 t) := ⟨pe_fn G hr hg ha.1 hdb (starEach_plain hp) hpl⟩
theorem ve_callB {id : String} {r : List V → Hp → VK → Prop} (hc : CallR X (.builtin id) r) (hg : Gl X x) (hm : X.mg x = none) (hv : bootBuiltins x = some (.builtin id)) (ha : VA X (e :: es) t) (hn : x ≠ "__name__" := by decide) (hdb : (x == ("__debug__" : Str)) = false := by decide)
    (hp : plainE e = true := by rfl) (hpl : (backTo pos (starEach es X.env)).any (·.1) = false := by rfl) : VE X (.Call (.Name x p) (e :: es) [] pos) (tCB r t) := ⟨pe_callB hc hg hm hv ha.1 hn hdb (starEach_plain hp) hpl⟩
theorem ve_callTy {T : String} {r : List V → Hp → VK → Prop} (hc : CallR X (.type T) r) (hg : Gl X x) (hm : X.mg x = none) (hv : bootBuiltins x = some (.type T)) (ha : VA X (e :: es) t) (hn : x ≠ "__name__" := by decide) (hdb : (x == ("__debug__" : Str)) = false := by decide)
    (hp : plainE e = true := by rfl) (hpl : (backTo pos (starEach es X.env)).any (·.1) = false := by rfl) : VE X (.Call (.Name x p) (e :: es) [] pos) (tCB r t) := ⟨pe_callTy hc hg hm hv ha.1 hn hdb (starEach_plain hp) hpl⟩
theorem ve_bm {o : Expr} {to : TE} {name : Str} {apos cpos : Pos} {T id : String} {r : V → List V → Hp → VK → Prop} (pa : PlainAttrs T) (slot : Slot T name id) (hty : typeOf (.builtin id) = pure (.type "method_descriptor")) (hm : MtR X id r) (ho : VE X o to) (ha : VA X (e :: es) t)
    (hbase : attributeBase o name X.env (eval o X.env) = eval o X.env := by rfl)
    (hfew : ((backTo cpos (starEach (e :: es) X.env)).all (fun x => !x.1) && (backToKw cpos (keywordEach [] X.env)).all (fun x => x.1.isSome)
      && decide ((e :: es).length + ([] : List Keyword).length + (if ([] : List Keyword).isEmpty then 0 else 1) < 30)) = true := by rfl)
    (hline : (apos.endLine == cpos.line) = true := by rfl) (hp : plainE e = true := by rfl) (hplain : (backTo cpos (starEach es X.env)).any (·.1) = false := by rfl) :
    VE X (.Call (.Attribute o name apos) (e :: es) [] cpos) (tBM X.K T r to t) := ⟨pe_bm pa slot hty hm ho.1 ha.1 hbase hfew hline (starEach_plain hp) hplain⟩
theorem ve_item_str (ha : VE X a ta) (hb : VE X b tb) (hs : PlainIxT b) :
    VE X (.Subscript a b pos) (tOp (fun x y H Q => ∃ z i c, x = .str z ∧ y = .int i ∧ 0 ≤ i ∧ i < 2 ^ 63 ∧ i < z.length ∧ z.cps[i.toNat]? = some c ∧ Q (.str ⟨#[c]⟩) H) ta tb) := ⟨pe_item_str ha.1 hb.1 hs⟩
theorem vo_none : VO X none tNoPart := ⟨po_none⟩
theorem vo_some (h : VE X e te) : VO X (some e) (tPart te) := ⟨po_some h.1⟩
theorem ve_slice {r : V → Option Int → Option Int → Hp → VK → Prop} {lo hi : Option Expr} {tl th : TO} {p2 : Pos} (hr : SlR X r) (he : VE X e te) (hl : VO X lo tl) (hu : VO X hi th) : VE X (.Subscript e (.Slice lo hi none p2) pos) (tSl r te tl th) := ⟨pe_slice hr he.1 hl.1 hu.1⟩
theorem ve_ix {r : R2} (hr : IxR X r) (ha : VE X a ta) (hb : VE X b tb) (hs : PlainIx b) : VE X (.Subscript a b pos) (tOp r ta tb) := ⟨pe_ix hr ha.1 hb.1 hs⟩
theorem VE.imp {t t' : TE} (h : VE X e t) (k : ∀ σ H Q, t' σ H Q → t σ H Q) : VE X e t' := ⟨PE.imp h.1 k⟩
theorem vw_and1 (ha : VT X a tA) : VW X (.BoolOp .And [a] pos) tA := ⟨pw_and1 ha.1⟩
theorem vw_or1 (ha : VT X a tA) : VW X (.BoolOp .Or [a] pos) tA := ⟨pw_or1 ha.1⟩
theorem vw_and {rest : List Expr} (ha : VT X a tA) (hb : VW X (.BoolOp .And (b :: rest) pos) tB') : VW X (.BoolOp .And (a :: b :: rest) pos) (tAnd tA tB') := ⟨pw_and ha.1 hb.1⟩
theorem vw_or {rest : List Expr} (ha : VT X a tA) (hb : VW X (.BoolOp .Or (b :: rest) pos) tB') : VW X (.BoolOp .Or (a :: b :: rest) pos) (tOr tA tB') := ⟨pw_or ha.1 hb.1⟩
theorem VW.pt (h : VW X e tA) : VT X e tA := ⟨h.1.pt⟩
theorem vt_not (ha : VT X a tA) : VT X (.UnaryOp .Not a pos) (tNot tA) := ⟨pt_not ha.1⟩
theorem vt_val (h : VE X e te) (he : ∀ whole, isTrue e X.env whole = (do let v ← whole; standAt e.pos; holding [v] (truthy v)) := by intro _; rfl) : VT X e (tB te) := ⟨pt_val h.1 he⟩
theorem vt_truth (ha : VE X a ta) (he : ∀ whole, isTrue a X.env whole = (do let v ← whole; standAt a.pos; holding [v] (truthy v)) := by intro _; rfl) :
    VT X a (fun σ H Q => ta σ H fun x H' => ∃ k, TruV X.K x H' k ∧ Q k H') := ⟨pt_truth ha.1 he⟩
variable {st : Stmt} {rest : List Stmt} {u w' : TS}
theorem vss_nil : VSs X [] tNext := ⟨pss_nil⟩
theorem vss_cons (h1 : VS X st u) (h2 : VSs X rest w') : VSs X (st :: rest) (tSeq u w') := ⟨pss_cons h1.1 h2.1⟩
theorem vss_one (h1 : VS X st u) : VSs X [st] u := ⟨pss_one h1.1⟩
theorem vs_ret (he : VE X e te) : VS X (.Return (some e) pos) (tRet te) := ⟨ps_ret he.1⟩
theorem vs_if {a b : List Stmt} (hc : VT X c tA) (ha : VSs X a u) (hb : VSs X b w') : VS X (.If c a b pos) (tIfS tA u w') := ⟨ps_if hc.1 ha.1 hb.1⟩
theorem vs_set {i : Nat} {pos' : Pos} (hN : X.N.Nodup) (hi : X.N[i]? = some x) (hx : Loc X.env.scope x) (he : VE X e te) (hs : swapsWith e (some (.Name x pos')) pos.line X.env = pure false := by rfl) (hf : X.fn x = true ∨ X.env.scope.names.lookup x = some .local := by first | exact .inl rfl | exact .inr rfl | assumption) :
    VS X (.Assign [.Name x pos'] e pos) (tAsg te (gName i)) := ⟨ps_set hN hi hx he.1 hs hf⟩
theorem vs_expr (he : VE X e te) (hs : swapsWith e none pos.line X.env = pure false := by rfl) : VS X (.Expr e pos) (tDrop te) := ⟨ps_expr he.1 hs⟩
theorem vs_for {tg iter : Expr} {body : List Stmt} {wi : TI} {g : TG} {tb : TS} (hp : PassesOwn (model X.prog X.w) X.A X.env X.xe) (hc : X.calm = true) (hi : VI X tg iter wi) (hg : VG X tg g) (hb : VSs X body tb)
    (hs : ∀ x, foldedSetIterable iter X.env x = pure x := by intro _; rfl) : VS X (.For tg iter body [] pos) (tFor wi g tb) := ⟨ps_for hp hc hi.1 hg.1 hb.1 hs⟩
theorem vg_name {i : Nat} (hN : X.N.Nodup) (hi : X.N[i]? = some x) (hx : Loc X.env.scope x) (hf : X.fn x = true ∨ X.env.scope.names.lookup x = some .local := by first | exact .inl rfl | exact .inr rfl | assumption) : VG X (.Name x pos) (gName i) := ⟨pg_name hN hi hx hf⟩
theorem vgs_nil : VGs X [] gNil := ⟨pgs_nil⟩
theorem vgs_cons {t : TG} {u : TGs} (h1 : VG X e t) (h2 : VGs X es u) (hs : (assignEach (e :: es) X.env).map (·.2) = assign e X.env :: (assignEach es X.env).map (·.2) := by rfl) : VGs X (e :: es) (gCons t u) := ⟨pgs_cons h1.1 h2.1 hs⟩
theorem vg_tup {k : Nat} {t : TGs} {n : Nat} (hc : X.calm = true) (h : VGs X es t) (hn : (assignEach es X.env).length = n := by rfl) (hst : (assignEach es X.env).findIdx? (·.1) = none := by rfl) : VG X (.Tuple es k pos) (gTup X.K n t) := ⟨pg_tup hc h.1 hn hst⟩
variable {tg : Expr}
theorem vi_list (h : VE X e te) : VI X tg e (iList X.K te) := ⟨pi_list h.1⟩
theorem vi_tup (h : VE X e te) : VI X tg e (iTup X.K te) := ⟨pi_tup h.1⟩
theorem vi_str (h : VE X e te) : VI X tg e (iStr te) := ⟨pi_str h.1⟩
theorem vi_range1 (hg : Gl X "range") (hm : X.mg "range" = none) (ha : VA X [a] t) (hp : plainE a = true := by rfl) : VI X tg (.Call (.Name "range" p) [a] [] pos) (iRng1 t) := ⟨pi_range1 hg hm ha.1 (starEach_plain (es := []) hp)⟩
theorem vf_nil : VF X [] tYes := ⟨pf_nil⟩
theorem ve_comp {elt target iter : Expr} {ifs : List Expr} {scope : Scope} {N : List Str} {wi : TI} {g : TG} {tt : TT}
    (C : CompOk scope N) (hfr : ∀ y, (y, NameKind.free) ∈ scope.names → X.env.kindOf y = some .cell ∨ X.env.kindOf y = some .free) (hc : X.calm = true)
    (hi : VI X target iter wi)
    (hb : ∀ cl s H fp, VG (cxC X N scope cl s H fp) target g ∧ VF (cxC X N scope cl s H fp) ifs tt ∧ VE (cxC X N scope cl s H fp) elt te)
    (hs : ∀ x, foldedSetIterable iter X.env x = pure x := by intro _; rfl) :
    VE X (.ListComp elt [⟨target, iter, ifs, 0⟩] scope pos) (tComp X scope N wi g tt te) :=
  ⟨pe_comp C hfr hc hi.1 (fun cl s H fp => ⟨(hb cl s H fp).1.1, (hb cl s H fp).2.1.1, (hb cl s H fp).2.2.1⟩) hs⟩
end
section
variable {P : Program} {w : World} {K : PySem.W.Frag} {mg : Str → Option Value} {base : Heap}
theorem Fun.okV {x qual : Str} {st : Stmt} {f : Addr} {fd : FuncData} {N ps : List Str} {k : Nat} {sp : Sp} (F : Fun K x qual st f fd) (S : FnScope N ps (defScope st)) (len : ∀ vs H Q E, sp vs H Q E → vs.length = ps.length)
    (hbody : ∀ (cdv : Value) (A : Around) (outer : List Env) (s : Shared) (H : Hp) (vs : List V) (Q : VK) (E : XK), Room k (A.deeper (envOfC qual (defScope st) s.heap.objs.size f cdv)) → sp vs H Q E →
      ∃ t, VSs (cxOf CX0 P w K mg base N qual (defScope st) f cdv A outer s H E).nox (defBody st) t ∧ t { nx := fun _ H' => Q .non H', rt := Q } (start N vs) H) : FnOk P w K mg base CX0 (k + 1) f fd ps sp :=
  F.ok S len fun cdv A outer s H vs Q E hr h => let ⟨t, h1, h2⟩ := hbody cdv A outer s H vs Q E hr h; ⟨t, h1.1, h2⟩
theorem Ok.ofV {x : Str} {st : Stmt} {N ps : List Str} {k : Nat} {sp : Sp} (D : Dn K mg x st ps) (S : FnScope N ps (defScope st)) (len : ∀ vs H Q E, sp vs H Q E → vs.length = ps.length)
    (hbody : ∀ (f : Addr) (cdv : Value) (A : Around) (outer : List Env) (s : Shared) (H : Hp) (vs : List V) (Q : VK) (E : XK), Room k (A.deeper (envOfC x (defScope st) s.heap.objs.size f cdv)) → sp vs H Q E →
      ∃ t, VSs (cxOf CX0 P w K mg base N x (defScope st) f cdv A outer s H E).nox (defBody st) t ∧ t { nx := fun _ H' => Q .non H', rt := Q } (start N vs) H) : Ok P w K mg base (k + 1) x ps sp :=
  Ok.of D S len fun f cdv A outer s H vs Q E hr h => let ⟨t, h1, h2⟩ := hbody f cdv A outer s H vs Q E hr h; ⟨t, h1.1, h2⟩
end
end L2
set_option Elab.async false
set_option linter.all false
set_option maxRecDepth 100000
namespace L2
open PySem PySem.Spec PyProof.Rows
section
variable {P : Program} {w : World} {K : PySem.W.Frag} {mg : Str → Option Value} {base : Heap}
def OkX (P : Program) (w : World) (K : PySem.W.Frag) (mg : Str → Option Value) (base : Heap) (k : Nat) (x : Str) (ps : List Str) (sp : Sp) : Prop :=
  ∃ f fd, mg x = some (.ref f) ∧ PySem.W.keepIn K (.ref f) = true ∧ Binds K fd ps [] ∧ FnOk P w K mg base (CXR P w) k f fd ps sp
theorem OkX.mono {j k : Nat} {x : Str} {ps : List Str} {sp : Sp} (h : OkX P w K mg base j x ps sp) (hj : j ≤ k) : OkX P w K mg base k x ps sp := by
  obtain ⟨f, fd, h1, h2, h3, h4⟩ := h
  exact ⟨f, fd, h1, h2, h3, h4.mono hj⟩
theorem OkX.ofV {x : Str} {st : Stmt} {N ps : List Str} {k : Nat} {sp : Sp} (D : Dn K mg x st ps) (S : FnScope N ps (defScope st)) (len : ∀ vs H Q E, sp vs H Q E → vs.length = ps.length)
    (hbody : ∀ (f : Addr) (cdv : Value) (A : Around) (outer : List Env) (s : Shared) (H : Hp) (vs : List V) (Q : VK) (E : XK), Room k (A.deeper (envOfC x (defScope st) s.heap.objs.size f cdv)) → sp vs H Q E →
      ∃ t, VSs (cxOf (CXR P w) P w K mg base N x (defScope st) f cdv A outer s H E) (defBody st) t ∧ t { nx := fun _ H' => Q .non H', rt := Q } (start N vs) H) : OkX P w K mg base (k + 1) x ps sp := by
  obtain ⟨f, fd, F, B, m⟩ := D
  obtain ⟨oc, od, kV, doc, pm, an, cdv, ct, osl, rfl, lk, hcd⟩ := F.ex
  exact ⟨f, _, m, F.kp, B, fn_of lk hcd S len fun A outer s H vs Q E hr hsp => let ⟨t, h1, h2⟩ := hbody f cdv A outer s H vs Q E hr hsp; ⟨t, h1.1, h2⟩⟩
theorem FnOk.calm {k : Nat} {f : Addr} {fd : FuncData} {ps : List Str} {sp sp' : Sp} (F : FnOk P w K mg base (CXR P w) k f fd ps sp) (h : ∀ vs H Q E, sp' vs H Q E → sp vs H Q E0) : FnOk P w K mg base CX0 k f fd ps sp' :=
  ⟨fun vs H Q E q => F.len vs H Q E0 (h _ _ _ _ q), fun A outer s H args us vs Q E hr he hb hv hs => codeAny_mono (F.run A outer s H args us vs Q E0 hr he hb hv (h _ _ _ _ hs)) fun r s' hq => by
    cases r with
    | error v => obtain ⟨_, _, _, _, _, _, _, _, _, _, _, _, _, _, z⟩ := hq; exact z.elim
    | ok fl => cases fl <;> exact hq⟩
theorem OkX.calm {k : Nat} {x : Str} {ps : List Str} {sp sp' : Sp} (G : OkX P w K mg base k x ps sp) (h : ∀ vs H Q E, sp' vs H Q E → sp vs H Q E0) : Ok P w K mg base k x ps sp' := by
  obtain ⟨f, fd, h1, h2, h3, h4⟩ := G
  exact ⟨f, fd, h1, h2, h3, h4.calm h⟩
structure ExT (K : PySem.W.Frag) (mg : Str → Option Value) (st : Stmt) (x y : Str) (C S : Addr) : Prop where
  at_ : ∃ fI fd, XC K C fI ∧ Fun K "__init__" y st fI fd ∧ Binds K fd ["self", "act"] []
  mg : mg x = some (.ref C)
  kp : PySem.W.keepIn K (.ref C) = true
  cls : XS K C
  over : PySem.W.mroIn K C (.ref S) = some true
theorem init_ok {k : Nat} {y : Str} {st : Stmt} {fI : Addr} {fd : FuncData} (F : Fun K "__init__" y st fI fd) (Sc : FnScope ["self", "act"] ["self", "act"] (defScope st))
    (hb : ∀ (X : Cx), X.N = (["self", "act"] : List Str) → X.env.scope = defScope st → X.mg = mg → VSs X (defBody st) (tSeq (tDrop (tVI X.K fI (tCons (tVar 0) (tCons (tVar 1) tNil)))) (tActS X.K fI (tVar 0) (tVar 1)))) :
    FnOk P w K mg base CX0 (k + 1) fI fd ["self", "act"] (spInit K fI) := by
  refine F.okV Sc (fun vs H Q E ⟨e, C, z, _⟩ => by rw [z]; rfl) fun cdv A outer s H vs Q E hr ⟨e, C, ev, he, c, q⟩ => ⟨_, hb _ rfl rfl rfl, ?_⟩
  subst ev
  refine ⟨_, rfl, _, rfl, e, C, .non, rfl, he, c, ?_⟩
  exact ⟨_, rfl, _, rfl, e, C, rfl, rfl, he, c, fun dx n ne => q dx n ne⟩
end
section
variable {X : Cx} {k j : Nat} {C S : Addr} {E : XK} {x y : Str} {np cpos pos : Pos} {a : Expr} {t : TA} {st : Stmt}
theorem vs_raise (hT : ExT X.K X.mg st x y C S) (hI : ∀ fI fd, Fun X.K "__init__" y st fI fd → FnOk X.prog X.w X.K X.mg X.base CX0 k fI fd ["self", "act"] (spInit X.K fI)) (hr : Room (k + 1) X.A) (hR : Raises X E) (hc : X.calm = true)
    (hg : Gl X x) (ha : VA X [a] t) (hdb : (x == ("__debug__" : Str)) = false := by decide) (hp : plainE a = true := by rfl) :
    VS X (.Raise (some (.Call (.Name x np) [a] [] cpos)) none pos) (tRaise C E t) := by
  obtain ⟨⟨fI, fd, c, F, B⟩, m, kp, _, _⟩ := hT
  exact ⟨ps_raise c (hI fI fd F) hr B pass0 hR hc kp hg m ha.1 hdb (starEach_plain (es := []) hp)⟩
theorem ve_act {K : PySem.W.Frag} {o : Expr} {ta : TE} {f : Str} (he : VE X o ta) (hK : X.K = K := by rfl) (hf : f = "act" := by first | rfl | decide) (hb : attributeBase o f X.env (eval o X.env) = eval o X.env := by rfl) : VE X (.Attribute o f pos) (tAct K ta) := by
  subst hf hK
  exact ⟨pe_act he.1 hb⟩
theorem isE_ownK {K : PySem.W.Frag} {D : Addr} (hS : XS K D) (hK : X.K = K := by rfl) : CallR X (.builtin "isinstance") (rIsE K (.ref D) (.ref D) fun _ => True) := by
  subst hK; exact isE_own hS
theorem isE_VEK {K : PySem.W.Frag} (hK : X.K = K := by rfl) : CallR X (.builtin "isinstance") (rIsE K (.ty "ValueError") (.type "ValueError") fun _ => True) := by
  subst hK; exact isE_VE
theorem vs_try {i : Nat} {n : Str} {hpos : Pos} {body suite : List Stmt} {b₀ : Stmt} {tb : St → XK → TS} {th : TS} (hst : X.stack = X.env :: X.outer) (hfrm : X.env.frame = some X.env.locals) (hN : X.N.Nodup) (hi : X.N[i]? = some n) (hk : X.env.scope.names.lookup n = some .local)
    (hg : Gl X x) (hm : X.mg x = some (.ref S)) (hS : XS X.K S) (hb : ∀ pins σ₀ E, X.Ok → VSs (tryCx X pins σ₀ E) body (tb σ₀ E)) (hh : ∀ e, VSs (handCx X e) (b₀ :: suite) th) (hdb : (x == ("__debug__" : Str)) = false := by decide) :
    VS X (.Try body [.ExceptHandler (some (.Name x np)) (some n) (b₀ :: suite) hpos] [] [] pos) (tTry X.K S i tb th) :=
  ⟨ps_try hst hfrm hN hi hk hg hm hS (fun pins σ₀ E ok => (hb pins σ₀ E ok).1) (fun e => (hh e).1) hdb⟩
theorem ve_callAt {pins₀ : List (Addr × Obj)} {σ₀ : St} {ps : List Str} {sp : Sp} {p : Pos} {e : Expr} {es : List Expr} (ok : X.Ok) (G : OkX X.prog X.w X.K X.mg X.base k x ps sp) (hr : Room k X.A) (hg : Gl X x)
    (ha : VA (tryCx X pins₀ σ₀ E) (e :: es) t) (hdb : (x == ("__debug__" : Str)) = false := by decide) (hp : plainE e = true := by rfl) (hpl : (backTo pos (starEach es X.env)).any (·.1) = false := by rfl) :
    VE (tryCx X pins₀ σ₀ E) (.Call (.Name x p) (e :: es) [] pos) (tCallAt σ₀ sp [] E t) := by
  obtain ⟨f, fd, h1, h2, h3, h4⟩ := G
  exact ⟨pe_callAt ok h4 hr hg h1 h2 h3 .nil ha.1 hdb (starEach_plain hp) hpl⟩
end
end L2
set_option Elab.async false
set_option linter.all false
set_option maxRecDepth 100000
namespace L2
open PySem PySem.Spec PyProof.Rows
section
variable {X : Cx}
def rSlX : V → Option Int → Option Int → Hp → VK → Prop := fun x lo hi H Q => ∃ z, x = .str z ∧ z.length ≤ sizeLine ∧ Q (.str (Txt.slice z lo hi)) H
theorem sl_strX : SlR X rSlX := by
  intro pins s σ H x v vl vu lo hi sl Q I rx hs pl pu h
  obtain ⟨z, rfl, hz, q⟩ := h
  obtain ⟨t, rfl⟩ := rx
  have fin : ∀ l u : Option (Int × Tok), l.map (·.1) = lo → u.map (·.1) = hi → s.heap.IsSlice sl l u none → wpAny (model X.prog X.w) X.A (getItem (.str z t) (.ref sl)) (EP X pins σ Q) X.xe s := fun l u e1 e2 hsl => by
    subst e1 e2
    refine wpAny_getItem_str_slice (st := none) hsl rfl ?_
    unfold sliceMade
    have hle := Txt.slice_le z (l.map (·.1)) (u.map (·.1))
    exact post_val_or_str ⟨Nat.le_trans hle hz, fun t' k => ⟨.str (Txt.slice z (l.map (·.1)) (u.map (·.1))), H, I.tok _, ⟨_, rfl⟩, q⟩⟩
  refine ⟨"str", _, F.slot_str_getitem.lookup, typeIs_str _ _ _, ?_⟩
  obtain ⟨o, ho, hc, hd⟩ := hs
  cases pl with
  | none =>
    cases pu with
    | none => exact fin none none rfl rfl ⟨o, ho, hc, hd⟩
    | int j u => exact fin none (some (j, u)) rfl rfl ⟨o, ho, hc, hd⟩
  | int i t =>
    cases pu with
    | none => exact fin (some (i, t)) none rfl rfl ⟨o, ho, hc, hd⟩
    | int j u => exact fin (some (i, t)) (some (j, u)) rfl rfl ⟨o, ho, hc, hd⟩
end
end L2
set_option Elab.async false
set_option linter.all false
set_option maxRecDepth 100000
namespace PySem
section
variable {prog : Program} {w : World} {A : Around} {E : Value → Shared → Prop} {s : Shared}
end
end PySem
set_option Elab.async false
set_option linter.all false
set_option maxRecDepth 100000
namespace PySem
section
variable {prog : Program} {w : World} {A : Around} {E : Value → Shared → Prop} {s : Shared}
end
end PySem
namespace L2
open PySem PySem.Spec PyProof.Rows
section
variable {X : Cx} {pins : List (Addr × Obj)} {σ : St} {H : Hp} {s : Shared}
theorem Inv.drawn {ch : List Addr} {h' : Heap} {vs : List V} {its : List Value} {T : Addr} (I : Inv X pins σ H s) (hch : ∀ b ∈ ch, FpOk X pins H b) (kp : ∀ b o, b ∉ ch → s.heap.get? b = some o → h'.get? b = some o)
    (hT : s.heap.objs.size ≤ T) (hv : Vals vs its) (hz : vs.length ≤ sizeLine) (ho : IsTN h' T its.toArray) (hth : ∀ b ∈ ch, ∃ o, h'.get? b = some o) : Inv X pins σ (upd H T (.tup vs)) { s with heap := h' } := by
  have fT : H T = none := I.hok.fresh hT
  have nT : ∀ b o, s.heap.get? b = some o → b ≠ T := fun b o e => Nat.ne_of_lt (Nat.lt_of_lt_of_le (Heap.lt_size e) hT)
  have nch : ∀ b u, H b = some u → b ∉ ch := fun b u e z => by rw [(hch b z).1] at e; cases e
  refine I.step (g' := s.gens) (d' := s.drawn) (t' := s.toks) (ch := ch) (fun b hb => ?_) (fun b o _ _ hc e _ => kp b o hc e) (fun b o _ _ hc e _ => ⟨o.slots, kp b o hc e⟩) (fun b o hc e n => by rw [upd_ne (nT b o e)]; exact n)
    (fun b o hc e => ⟨o, kp b o hc e⟩) (fun b xs e => by rw [upd_ne (ne_of_none e fT)]; exact e) (fun b o u e => by rw [upd_ne (ne_of_none e fT)]; exact e) (fun b ps e => ⟨#[], by rw [upd_ne (ne_of_none e fT), e]; simp⟩) (fun m hm => ?_) (fun b u e => ?_) I.bare
  · obtain ⟨_, f1, _, f3, f4, f5⟩ := hch b hb
    exact ⟨f3, f1, f4, f5⟩
  · obtain ⟨o, es, ep, ho', r⟩ := hm
    exact ⟨o, es, ep, kp _ o (fun z => (hch _ z).2.1 rfl) ho', r⟩
  · by_cases hb : b = T
    · subst hb
      rw [upd_same] at e
      cases e
      exact ⟨hz, its, hv, ho⟩
    · rw [upd_ne hb] at e
      refine (I.hok b u e).stay (fun c v hc' q => kp c v ?_ q) (fun c q => by rw [upd_ne (ne_of_none q fT)]; exact q) fun c xs q => by rw [upd_ne (ne_of_none q fT)]; exact q
      rcases hc' with z | z
      · rw [z]; exact nch b u e
      · exact nch c _ z
theorem Inv.turnedL {ch : List Addr} {h' : Heap} (I : Inv X pins σ H s) (hch : ∀ b ∈ ch, FpOk X pins H b) (kp : ∀ b o, b ∉ ch → s.heap.get? b = some o → h'.get? b = some o) : Inv X pins σ H { s with heap := h' } := by
  have nch : ∀ b u, H b = some u → b ∉ ch := fun b u e z => by rw [(hch b z).1] at e; cases e
  refine I.step (g' := s.gens) (d' := s.drawn) (t' := s.toks) (ch := ch) (fun b hb => ?_) (fun b o _ _ hc e _ => kp b o hc e) (fun b o _ _ hc e _ => ⟨o.slots, kp b o hc e⟩) (fun _ _ _ _ n => n)
    (fun b o hc e => ⟨o, kp b o hc e⟩) (fun _ _ e => e) (fun _ _ _ e => e) (fun b ps e => ⟨#[], by rw [e]; simp⟩) (fun m hm => ?_) (fun b u e => ?_) I.bare
  · obtain ⟨_, f1, _, f3, f4, f5⟩ := hch b hb
    exact ⟨f3, f1, f4, f5⟩
  · obtain ⟨o, es, ep, ho', r⟩ := hm
    exact ⟨o, es, ep, kp _ o (fun z => (hch _ z).2.1 rfl) ho', r⟩
  · refine (I.hok b u e).stay (fun c v hc' q => kp c v ?_ q) (fun _ q => q) fun _ _ q => q
    rcases hc' with z | z
    · rw [z]; exact nch b u e
    · exact nch c _ z
end
end L2
set_option Elab.async false
set_option linter.all false
set_option maxRecDepth 100000
namespace L2
open PySem PySem.Spec PyProof.Rows
section
variable {X : Cx}
end
end L2
set_option Elab.async false
set_option linter.all false
set_option maxRecDepth 100000
namespace L2
open PySem PySem.Spec PyProof.Rows
section
variable {X : Cx}
end
section
variable {X : Cx} {scope : Scope} {N : List Str} {wi : TI} {te : TE} {σ : St} {H : Hp} {Q : VK}
theorem set_self0 {σ0 : St} {j : Nat} (h0 : σ0[j]? = some none) : σ0 = σ0.set j none := by
  refine (List.ext_getElem? fun i => ?_)
  rw [List.getElem?_set]
  split
  · rename_i hj
    subst hj
    split
    · exact h0
    · rename_i hlt
      exact List.getElem?_eq_none_iff.mpr (by omega)
  · rfl
theorem comp_same (xs : List V) (f : V → V) (σ0 : St) (cap : Cap X scope N σ σ0) (hsz : xs.length ≤ sizeLine)
    (hw : ∀ R : It → Hp → Prop, (∀ J : It, (∀ H' i x, Same H H' → xs[i]? = some x → J.go i H' ∧ ∀ y H2, J.yld i H' y H2 → H2 = H' ∧ y = x) → (∀ H', Same H H' → J.stop xs.length H') → R J H) → wi σ H R)
    (he : ∀ x ∈ xs, ∀ H' R l, Same H H' → (∀ H2, Same H' H2 → R (f x) H2) → te ((σ0.set 0 l).set 0 (some x)) H' R) (h0 : σ0[0]? = some none)
    (q : ∀ D H', Same H H' → H' D = some (.lst (xs.map f)) → Q (.ref D) H') :
    tComp X scope N wi (gName 0) tYes te σ H Q := by
  refine ⟨σ0, cap, hw _ fun J go stop D hD => ?_⟩
  refine ⟨fun i m σ' H' ys => i ≤ xs.length ∧ m = xs.length - i ∧ (∃ l, σ' = σ0.set 0 l) ∧ Same H H' ∧ H' D = some (.lst ys) ∧ ys = (xs.take i).map f, ⟨xs.length, Nat.zero_le _, rfl, ⟨none, set_self0 h0⟩, same_new hD _, upd_same, rfl⟩, ?_⟩
  rintro i m σ' H' ys ⟨hi, rfl, ⟨l, rfl⟩, sm, hL, rfl⟩
  refine ⟨hL, ?_⟩
  by_cases hlt : i < xs.length
  · right
    obtain ⟨g1, g2⟩ := go H' i xs[i] sm (List.getElem?_eq_getElem hlt)
    refine ⟨g1, fun x H2 hy => ?_⟩
    obtain ⟨rfl, rfl⟩ := g2 x H2 hy
    unfold gName tYes
    dsimp only
    rw [if_pos rfl]
    refine he xs[i] (List.getElem_mem hlt) _ _ l sm fun H3 s3 => ⟨s3 _ _ hL, ?_, xs.length - (i + 1), by omega, hlt, rfl, ⟨some xs[i], ?_⟩, ?_, upd_same, ?_⟩
    · rw [List.length_map, List.length_take]; omega
    · rw [List.set_set]
    · intro b o e
      rw [upd_ne (ne_of_none e hD)]
      exact s3 _ _ (sm _ _ e)
    · rw [List.take_add_one, List.getElem?_eq_getElem hlt, List.map_append]
      rfl
  · left
    have e : i = xs.length := by omega
    subst e
    refine ⟨stop _ sm, ?_⟩
    rw [List.take_length] at hL
    exact q D _ sm hL
theorem wi_tup {K : PySem.W.Frag} {a : Addr} {xs : List V} {tl : TE} (hS : SqT K H a xs) (h : ∀ R : VK, R (.ref a) H → tl σ H R) (R : It → Hp → Prop)
    (q : ∀ J : It, (∀ H' i x, Same H H' → xs[i]? = some x → J.go i H' ∧ ∀ y H2, J.yld i H' y H2 → H2 = H' ∧ y = x) → (∀ H', Same H H' → J.stop xs.length H') → R J H) : iTup K tl σ H R := by
  refine h _ ⟨a, rfl, ⟨xs, hS⟩, q _ (fun H' i x s e => ⟨⟨xs, x, s.seqT hS, e⟩, fun y H2 hy => ?_⟩) fun H' s => ⟨xs, s.seqT hS, Nat.le_refl _⟩⟩
  obtain ⟨e1, e2⟩ := hy
  have e3 := e2 xs (s.seqT hS)
  rw [e] at e3
  cases e3
  exact ⟨e1, rfl⟩
end
end L2
set_option Elab.async false
set_option linter.all false
set_option maxRecDepth 100000
namespace L2
open PySem PySem.Spec PyProof.Rows
section
variable {X : Cx} {x : Str} {p pos : Pos} {e : Expr} {es : List Expr} {te : TE} {t : TA}
end
end L2
set_option Elab.async false
set_option linter.all false
set_option maxRecDepth 100000
namespace PySem
end PySem
namespace L2
open PySem PySem.Spec PyProof.Rows
section
variable {X : Cx}
end
end L2
set_option Elab.async false
set_option linter.all false
set_option maxRecDepth 100000
namespace PySem
section
variable {prog : Program} {w : World}
variable {A : Around} {E : Value → Shared → Prop} {s : Shared}
end
end PySem
namespace L2
open PySem PySem.Spec PyProof.Rows
section
variable {X : Cx}
end
end L2
set_option Elab.async false
set_option linter.all false
set_option maxRecDepth 100000
namespace L2
open PySem PySem.Spec PyProof.Rows
theorem cap_at1 {X : Cx} {scope : Scope} {x y : Str} {σ : St} {v : V} (j : Nat) (hf : (y, NameKind.free) ∈ scope.names) (hj : X.N[j]? = some y) (hs : σ[j]? = some (some v)) (hv : Vis X.env.scope y) : Cap X scope [x, y] σ [none, some v] :=
  ⟨rfl, fun i z u h1 h2 => by
    match i, h1, h2 with
    | 0, _, h2 => cases h2
    | 1, h1, h2 => cases h1; cases h2; exact ⟨hf, j, hj, hs, hv⟩
    | i + 2, h1, _ => cases h1⟩
section
variable {X : Cx} {a b e : Expr} {es : List Expr} {te : TE} {t : TA} {pos p : Pos} {x : Str}
theorem vs_asg {tg : Expr} {g : TG} (he : VE X e te) (hg : VG X tg g) (hs : swapsWithSole [tg] e pos.line X.env = pure false := by rfl) (hw : swappedStores [tg] e X.env = pure none := by rfl)
    (h1 : (assignEach [tg] X.env).map (·.2) = [assign tg X.env] := by rfl) : VS X (.Assign [tg] e pos) (tAsg te g) := ⟨ps_asg he.1 hg.1 hs hw h1⟩
end
end L2
set_option Elab.async false
set_option linter.all false
set_option maxRecDepth 100000
namespace L2
open PySem PySem.Spec PyProof.Rows
end L2
set_option Elab.async false
set_option linter.all false
set_option maxRecDepth 100000
namespace L2
open PySem PySem.Spec PyProof.Rows
section
variable {X : Cx} {scope : Scope} {N : List Str} {wi : TI} {te : TE} {σ : St} {H : Hp} {Q : VK}
theorem ix_listK {K : PySem.W.Frag} (h : X.K = K := by rfl) : IxR X (rIxL K) := by subst h; exact ix_list
end
end L2
set_option Elab.async false
set_option linter.all false
set_option maxRecDepth 100000
namespace L2
open PySem PySem.Spec PyProof.Rows
section
variable {X : Cx} {scope : Scope} {N : List Str} {wi : TI} {te : TE} {σ : St} {H : Hp} {Q : VK}
end
end L2
set_option Elab.async false
set_option linter.all false
set_option maxRecDepth 100000
namespace L2
open PySem PySem.Spec PyProof.Rows
section
variable {X : Cx} {e : Expr} {es : List Expr} {t : TA} {pos : Pos}
def tTupA (t : TA) : TE := fun σ H Q => t σ H fun xs H1 => xs.length ≤ sizeLine ∧ ∀ p H', H1 p = none → Same H1 H' → H' p = some (.tup xs) → Q (.ref p) H'
def tLstA (t : TA) : TE := fun σ H Q => t σ H fun xs H1 => xs.length ≤ sizeLine ∧ ∀ p H', H1 p = none → Same H1 H' → H' p = some (.lst xs) → Q (.ref p) H'
theorem ve_tupA {x1} (h : VA X es t) : VE X (.Tuple es x1 pos) (tTupA t) := ⟨by
  intro pins s σ H Q I hq
  refine wpAny_Tuple_spliced (thn (h.1 pos pins s σ H _ I hq) fun us s1 ⟨xs, H1, I1, r, z, q⟩ => ⟨by rw [← r.length]; exact z, ?_⟩)
  have hf : H1 s1.heap.objs.size = none := I1.hok.fresh (Nat.le_refl _)
  refine ⟨.ref s1.heap.objs.size, upd H1 s1.heap.objs.size (.tup xs), I1.laid (t' := s1.toks) (fun b u e => Heap.get?_push_of_some _ e) (Nat.le_refl _) ?_, rfl, q _ _ hf (same_new hf _) upd_same⟩
  exact ⟨z, us, r, .of (Heap.get?_push_size _ rfl) rfl ⟨_, Heap.get?_push_size _ rfl, rfl, _, rfl⟩⟩⟩
theorem ve_lstA (h : VA X es t) : VE X (.List es pos) (tLstA t) := ⟨by
  intro pins s σ H Q I hq
  refine wpAny_List_spliced (thn (h.1 pos pins s σ H _ I hq) fun us s1 ⟨xs, H1, I1, r, z, q⟩ => ⟨by rw [← r.length]; exact z, ?_⟩)
  have hf : H1 s1.heap.objs.size = none := I1.hok.fresh (Nat.le_refl _)
  refine ⟨.ref s1.heap.objs.size, upd H1 s1.heap.objs.size (.lst xs), I1.laid (t' := s1.toks) (fun b u e => Heap.get?_push_of_some _ e) (Nat.le_refl _) ?_, rfl, q _ _ hf (same_new hf _) upd_same⟩
  exact ⟨z, us, 0, r, Heap.get?_push_size _ rfl⟩⟩
theorem CallR.imp {f : Value} {r r' : List V → Hp → VK → Prop} (h : CallR X f r) (k : ∀ xs H Q, r' xs H Q → r xs H Q) : CallR X f r' := fun pins s σ H xs us Q I rv q => h pins s σ H xs us Q I rv (k _ _ _ q)
def rListA (K : PySem.W.Frag) : List V → Hp → VK → Prop := fun xs H Q => ∃ p ys, xs = [.ref p] ∧ (SqL K H p ys ∨ SqT K H p ys) ∧ ∀ l H', H l = none → Same H H' → H' l = some (.lst ys) → Q (.ref l) H'
theorem call_listA : CallR X (.type "list") (rListA X.K) := CallR.imp call_list_of fun xs H Q ⟨p, ys, e, h, q⟩ => ⟨p, ys, e, h, fun l hl => q l _ hl (same_new hl _) upd_same⟩
def rTupleA (K : PySem.W.Frag) : List V → Hp → VK → Prop := fun xs H Q => ∃ p ys, xs = [.ref p] ∧ SqL K H p ys ∧ ∀ l H', H l = none → Same H H' → H' l = some (.tup ys) → Q (.ref l) H'
theorem call_tupleA : CallR X (.type "tuple") (rTupleA X.K) := CallR.imp call_tuple_of fun xs H Q ⟨p, ys, e, h, q⟩ => ⟨p, ys, e, .inl ⟨h, fun l hl => q l _ hl (same_new hl _) upd_same⟩⟩
theorem mt_appendR : MtR X "list.append" rAppend := mt_append
theorem same_upd {H H' : Hp} {D : Addr} {o : HO} (f : H D = none) (s : Same H H') : Same H (upd H' D o) := fun b u e => by rw [upd_ne (ne_of_none e f)]; exact s _ _ e
end
end L2
set_option Elab.async false
set_option linter.all false
set_option maxRecDepth 100000
namespace PySem
section
variable {prog : Program} {w : World} {A : Around} {E : Value → Shared → Prop} {s : Shared} {T : String} {r d : Addr} {n : Nat} {P : Nat → Value → Prop} {OK : Heap → Prop}
end
end PySem
namespace L2
open PySem PySem.Spec PyProof.Rows
section
variable {X : Cx}
end
end L2
set_option Elab.async false
set_option linter.all false
set_option maxRecDepth 100000
namespace L2
open PySem PySem.Spec PyProof.Rows
section
variable {X : Cx} {pins : List (Addr × Obj)} {σ : St} {H : Hp} {s : Shared}
end
def Ite (K : PySem.W.Frag) (l : Addr) (xs : List V) : It :=
  ⟨fun i H => SqL K H l xs ∧ i < xs.length, fun i H v H' => ∃ T a, H T = none ∧ v = .ref T ∧ H' = upd H T (.tup [.int (i : Nat), a]) ∧ xs[i]? = some a, fun i H => SqL K H l xs ∧ xs.length ≤ i⟩
def etn (e it l : Addr) (i : Nat) (h : Heap) : Prop := (∃ old, IsEnum h e it (i : Int) old) ∧ h.IsListIter it l i
theorem turn_enum {P : Program} {w : World} {K : PySem.W.Frag} {elts : List Expr} {kt : Nat} {pos : Pos} {e it l : Addr} {xs : List V} (hne : e ≠ it) :
    Turn P w K (.Tuple elts kt pos) (Ite K l xs) [e, it] e (etn e it l) where
  mem := by simp
  obj := fun i h st b hb => by
    obtain ⟨⟨old, e1⟩, o, e2, c2, d2⟩ := st
    simp only [List.mem_cons, List.not_mem_nil, or_false] at hb
    rcases hb with rfl | rfl
    · exact ⟨_, e1, fun v z => by cases (show Data.fields _ = Data.cell v from z)⟩
    · exact ⟨_, e2, fun v z => by rw [d2] at z; cases z⟩
  keep := fun i h h' st k => by
    obtain ⟨⟨old, e1⟩, o, e2, r⟩ := st
    exact ⟨⟨old, k e (by simp) _ e1⟩, o, k it (by simp) _ e2, r⟩
  item := by
    intro X hP hw hK hc i pins s σ H E I hf st hg
    subst hP hw hK
    obtain ⟨⟨old, e1⟩, e2⟩ := st
    obtain ⟨hl, l1⟩ := hg
    obtain ⟨its, rv, pl, hz⟩ := I.list hl
    obtain ⟨x, hx, rx⟩ := rv.get (List.getElem?_eq_getElem l1)
    have fe := hf e (by simp)
    have fi := hf it (by simp)
    refine wpAny_pyNext_enum_item e1 e2 pl.isList (by simpa using hx) hne fun h' a1 a2 a3 a4 kp => ?_
    refine ⟨_, rfl, ?_⟩
    have fT : H s.heap.objs.size = none := I.hok.fresh (Nat.le_refl _)
    obtain ⟨oi, e2', _⟩ := id e2
    obtain ⟨oi2, a2', _⟩ := id a2
    have I1 : Inv X pins σ (upd H s.heap.objs.size (.tup [.int (i : Nat), xs[i]])) { s with heap := h' } := by
      refine I.drawn (ch := [e, it]) (its := [.int i s.toks, x]) (fun b hb => hf b hb) (fun b o hb z => ?_) (Nat.le_refl _) (.cons ⟨_, rfl⟩ (.cons rx .nil)) (small (by simp)) (.of a3 rfl ⟨_, a3, rfl, _, rfl⟩) (fun b hb => ?_)
      · simp only [List.mem_cons, List.not_mem_nil, or_false, not_or] at hb
        exact kp b o hb.1 hb.2 z
      · simp only [List.mem_cons, List.not_mem_nil, or_false] at hb
        rcases hb with rfl | rfl
        · exact ⟨_, a1⟩
        · exact ⟨_, a2'⟩
    have I1' : Inv X pins σ (upd H s.heap.objs.size (.tup [.int (i : Nat), xs[i]])) { s with heap := h', toks := s.toks + 1 } := I1.tok _
    have nT : ∀ b ∈ [e, it], b ≠ s.heap.objs.size := fun b hb => by
      simp only [List.mem_cons, List.not_mem_nil, or_false] at hb
      rcases hb with rfl | rfl
      · exact Nat.ne_of_lt (Heap.lt_size e1)
      · exact Nat.ne_of_lt (Heap.lt_size e2')
    refine wpAny_letOwnedTupleGo_enum (s := { s with heap := h', toks := s.toks + 1 }) a1 fun h2 z2 s2 => ?_
    obtain ⟨g0, g1, g2, g3, g4, g5⟩ := fe
    have I2 : Inv X pins σ (upd H s.heap.objs.size (.tup [.int (i : Nat), xs[i]])) { s with heap := h2, toks := s.toks + 1 } := Inv.turned (s := { s with heap := h', toks := s.toks + 1 }) I1' (t' := s.toks + 1) (it := e) (fun b o hb z => (s2.2 b hb).trans z) (by rw [upd_ne (nT e (by simp))]; exact g0) g1 g3 g4 g5
    refine ⟨.ref s.heap.objs.size, _, I2, rfl, ⟨_, _, fT, rfl, rfl, List.getElem?_eq_getElem l1⟩, ⟨⟨x, ?_⟩, ?_⟩, fun b hb => by rw [upd_ne (nT b hb)]; exact (hf b hb).1⟩
    · rw [show ((i + 1 : Nat) : Int) = (i : Int) + 1 from by omega]
      exact z2
    · obtain ⟨o, ho, r⟩ := a2
      exact ⟨o, (s2.2 it (Ne.symm hne)).trans ho, r⟩
  done := by
    intro X hP hw hK hc i pins s σ H E I hf st hg
    subst hP hw hK
    obtain ⟨⟨old, e1⟩, e2⟩ := st
    obtain ⟨hl, hi⟩ := hg
    obtain ⟨its, rv, pl, hz⟩ := I.list hl
    have hlen := rv.length
    refine wpAny_pyNext_enum_end (I.ok.hd hc) e1 e2 pl.isList (by simp; omega) fun h' kp => ⟨rfl, ?_⟩
    refine Inv.turnedL (ch := [it]) I (fun b hb => hf b (List.mem_cons_of_mem _ hb)) fun b o hb z => kp b o (by simpa using hb) z
  self := fun _ _ _ _ _ st h => by
    obtain ⟨⟨old, e1⟩, _⟩ := st
    exact wpAny_pyIter_enum e1 h
section
variable {X : Cx}
def iEnum (K : PySem.W.Frag) (ta : TA) : TI := fun σ H R => ta σ H fun vs H1 => ∃ l xs, vs = [.ref l] ∧ SqL K H1 l xs ∧ R (Ite K l xs) H1
theorem pi_enum {elts : List Expr} {kt : Nat} {tp : Pos} {a : Expr} {ta : TA} {p pos : Pos} (hg : Gl X "enumerate") (hm : X.mg "enumerate" = none) (ha : PA X [a] ta) (hs : starEach [a] X.env = [(false, eval a X.env)] := by rfl) :
    PI X (.Tuple elts kt tp) (.Call (.Name "enumerate" p) [a] [] pos) (iEnum X.K ta) := by
  intro pins s σ H R I h
  refine Call_ (ld_blt I hg hm bt_enumerate (PyProof.Rows.callWith_type1 (thn (ha pos pins s σ H _ I h) fun us s1 ⟨vs, H1, I1, r1, q1⟩ => ?_) hs (by rfl)))
  obtain ⟨l, xs, e, hl, q⟩ := q1
  subst e
  obtain ⟨its, rv, pl, hz⟩ := I1.list hl
  obtain ⟨u, rfl, ru⟩ := vals1 r1
  cases ru
  refine call_enumerate_list pl.isList fun h' a1 a2 a3 kp => ?_
  have I2 : Inv X pins σ H1 { s1 with heap := h' } := I1.kept (t' := s1.toks) kp
  refine wpAny_pyIter_enum (s := { s1 with heap := h' }) a1 ⟨_, _, _, _, H1, rfl, I2, turn_enum (xs := xs) (l := l) (Nat.ne_of_gt (Nat.lt_succ_self _)), ⟨⟨_, a1⟩, a2⟩, fun b hb => ?_, q⟩
  have hb' : s1.heap.objs.size ≤ b := by
    simp only [List.mem_cons, List.not_mem_nil, or_false] at hb
    rcases hb with rfl | rfl
    · exact Nat.le_succ _
    · exact Nat.le_refl _
  exact I1.fpOk hb' (I1.hok.fresh hb')
theorem for_enum {K : PySem.W.Frag} {l : Addr} {xs : List V} {g : TG} {tb : TS} {D : Ends} {σ : St} {H : Hp} (Pv : Nat → St → Hp → Prop) (h0 : Pv 0 σ H) (hl : ∀ i σ H, i ≤ xs.length → Pv i σ H → SqL K H l xs)
    (hs : ∀ i σ H a T H', xs[i]? = some a → Pv i σ H → H T = none → H' = upd H T (.tup [.int (i : Nat), a]) → g (.ref T) σ H' fun σ2 H2 => tb { D with nx := Pv (i + 1), ct := Pv (i + 1), bk := D.nx } σ2 H2) (hd : ∀ σ H, Pv xs.length σ H → D.nx σ H) :
    ∃ W : Nat → Nat → St → Hp → Prop, (∃ m, W 0 m σ H) ∧ ∀ i m σ H, W i m σ H →
      ((Ite K l xs).stop i H ∧ D.nx σ H) ∨ ((Ite K l xs).go i H ∧ ∃ N : St → Hp → Prop, (∀ σ' H', N σ' H' → ∃ m', m' < m ∧ W (i + 1) m' σ' H') ∧ ∀ x H', (Ite K l xs).yld i H x H' → g x σ H' fun σ2 H2 => tb { D with nx := N, ct := N, bk := D.nx } σ2 H2) := by
  refine ⟨fun i m σ H => m = xs.length - i ∧ i ≤ xs.length ∧ Pv i σ H, ⟨xs.length, by simp, Nat.zero_le _, h0⟩, ?_⟩
  rintro i m σ H ⟨rfl, hi, p⟩
  by_cases hlt : i < xs.length
  · refine .inr ⟨⟨hl i σ H hi p, hlt⟩, Pv (i + 1), fun σ' H' p' => ⟨xs.length - (i + 1), by omega, rfl, hlt, p'⟩, fun x H' y => ?_⟩
    obtain ⟨T, a, hT, rfl, e, ha⟩ := y
    exact hs i σ H a T H' ha p hT e
  · have e : i = xs.length := by omega
    subst e
    exact .inl ⟨⟨hl _ σ H hi p, Nat.le_refl _⟩, hd σ H p⟩
end
end L2
set_option Elab.async false
set_option linter.all false
set_option maxRecDepth 100000
namespace L2
open PySem PySem.Spec PyProof.Rows
section
variable {X : Cx} {a c e : Expr} {st : Stmt} {body : List Stmt} {tc : TT} {tb : TS} {t : TA} {te : TE} {pos p : Pos}
theorem vi_enum {elts : List Expr} {kt : Nat} {tp : Pos} (hg : Gl X "enumerate") (hm : X.mg "enumerate" = none) (ha : VA X [a] t) (hp : plainE a = true := by rfl) :
    VI X (.Tuple elts kt tp) (.Call (.Name "enumerate" p) [a] [] pos) (iEnum X.K t) := ⟨pi_enum hg hm ha.1 (starEach_plain (es := []) hp)⟩
end
section
variable {P : Program} {w : World} {K : PySem.W.Frag} {mg : Str → Option Value} {base : Heap}
end
end L2
set_option Elab.async false
set_option linter.all false
set_option maxRecDepth 100000
namespace L2
open PySem PySem.Spec PyProof.Rows
section
variable {X : Cx} {scope : Scope} {N : List Str} {wi : TI} {te : TE} {σ : St} {H : Hp} {Q : VK}
end
section
variable {X : Cx} {tg e o i : Expr} {te td ty : TE} {pos : Pos}
end
end L2
namespace L2
open PySem PySem.Spec PyProof.Rows
end L2
namespace L2
open PySem PySem.Spec PyProof.Rows
end L2
namespace L2
open PySem PySem.Spec PyProof.Rows
def sel {α : Type} (p : Nat → Bool) : Nat → List α → List α
  | _, [] => []
  | i, x :: r => if p i then x :: sel p (i + 1) r else sel p (i + 1) r
theorem sel_snoc {α : Type} (p : Nat → Bool) (x : α) : ∀ (k : Nat) (xs : List α), sel p k (xs ++ [x]) = sel p k xs ++ (if p (k + xs.length) then [x] else [])
  | k, [] => by
    show (if p k then x :: sel p (k + 1) [] else sel p (k + 1) []) = [] ++ (if p (k + 0) then [x] else [])
    rw [Nat.add_zero, List.nil_append]
    rfl
  | k, y :: r => by
    show (if p k then y :: sel p (k + 1) (r ++ [x]) else sel p (k + 1) (r ++ [x])) = (if p k then y :: sel p (k + 1) r else sel p (k + 1) r) ++ _
    rw [sel_snoc p x (k + 1) r, List.length_cons, show k + 1 + r.length = k + (r.length + 1) by omega]
    split <;> rfl
theorem sel_len {α : Type} (p : Nat → Bool) : ∀ (k : Nat) (xs : List α), (sel p k xs).length ≤ xs.length
  | _, [] => Nat.le_refl _
  | k, y :: r => by
    have := sel_len p (k + 1) r
    show (if p k then y :: sel p (k + 1) r else sel p (k + 1) r).length ≤ r.length + 1
    split
    · rw [List.length_cons]; omega
    · omega
section
variable {X : Cx} {scope : Scope} {N : List Str} {wi : TI} {te : TE} {σ : L2.St} {H : Hp} {Q : VK}
end
end L2
set_option Elab.async false
set_option linter.all false
set_option maxRecDepth 100000
namespace L2
open PySem PySem.Spec PyProof.Rows
theorem ps_setC {X : Cx} {i0 : Nat} {x0 : Str} {pos' spos : Pos} {elt target iter : Expr} {ifs : List Expr} {scope : Scope} {pos : Pos} {N : List Str} {wi : TI} {g : TG} {tt : TT} {te : TE}
    (hN : X.N.Nodup) (hi0 : X.N[i0]? = some x0) (hx0 : Loc X.env.scope x0) (C : CompOk scope N) (hfr : ∀ y, (y, NameKind.free) ∈ scope.names → X.env.kindOf y = some .cell ∨ X.env.kindOf y = some .free) (hc : X.calm = true)
    (hi : PI X target iter wi)
    (hb : ∀ cl s H fp, PG (cxC X N scope cl s H fp) target g ∧ PIfs (cxC X N scope cl s H fp) ifs tt ∧ PE (cxC X N scope cl s H fp) elt te)
    (hs : ∀ x, foldedSetIterable iter X.env x = pure x := by intro _; rfl) (hsw : swapsWith (.ListComp elt [⟨target, iter, ifs, 0⟩] scope pos) (some (.Name x0 pos')) spos.line X.env = pure true := by rfl)
    (hf : X.fn x0 = true ∨ X.env.scope.names.lookup x0 = some .local := by first | exact .inl rfl | exact .inr rfl | assumption) :
    PS X (.Assign [.Name x0 pos'] (.ListComp elt [⟨target, iter, ifs, 0⟩] scope pos) spos) (tAsg (tComp X scope N wi g tt te) (gName i0)) := by
  intro pins s σ H Dn I hq
  obtain ⟨σ0, cap, hq⟩ := hq
  obtain ⟨cl, hcl, p1, p2⟩ := closure_of (scope := scope) (env := X.env) (fun y hy hk => by
    obtain ⟨n, k⟩ := y
    cases hk
    exact I.ok.has n (hfr n hy))
  rw [exec_Assign_Name_used _ _ _ _ hsw]
  refine wpAny_bind (wpAny_standAt (wpAny_bind ?_))
  show wpAny _ X.A (do let _ ← comprehension (.ListComp elt [⟨target, iter, ifs, 0⟩] scope pos) scope X.env _ (newList []) false (eval iter X.env) (some (assign (.Name x0 pos') X.env))) _ _ s
  refine wpAny_bind (wpAny_mono (wpAny_comprehension_free (use := some (assign (.Name x0 pos') X.env)) (Q := fun _ s' => SP X pins Dn .next s') rfl hs hcl C.kind C.names (thn (hi pins s σ H _ I hq) fun xv s1 h1 => thn h1 fun itv s2 h2 => ?_))
    (fun _ s' hq => wpAny_pure (wpAny_pure hq)) fun _ _ e => e)
  obtain ⟨it, fp, tn, J, H2, rfl, I2, T, st2, f2, q2⟩ := h2
  refine wpAny_newObj_type (wpAny_newFunctionEnv C.cell (by intro y hy; simp at hy) (fun h₁ hns₁ hsb₁ => ?_) C.kind)
  dsimp only at hns₁ hsb₁ ⊢
  have hD : H2 s2.heap.objs.size = none := I2.hok.fresh (Nat.le_refl _)
  have I3 : Inv X pins σ (upd H2 s2.heap.objs.size (.lst [])) { s2 with heap := s2.heap.push { cls := .type "list", dict := none, data := .seq ([] : List Value).toArray } } :=
    I2.laid (t' := s2.toks) (fun b u e => Heap.get?_push_of_some _ e) (Nat.le_refl _) ⟨Nat.zero_le _, [], 0, .nil, Heap.get?_push_size _ rfl⟩
  generalize hs3 : ({ s2 with heap := s2.heap.push { cls := .type "list", dict := none, data := .seq ([] : List Value).toArray } } : Shared) = s3 at I3
  have hh3 : s2.heap.push { cls := .type "list", dict := none, data := .seq ([] : List Value).toArray } = s3.heap := by rw [← hs3]
  rw [hh3] at hns₁ hsb₁
  have fl2 : ∀ b ∈ fp, b < s2.heap.objs.size := fun b hb => by
    obtain ⟨o, e, _⟩ := T.obj _ _ st2 b hb
    exact Heap.lt_size e
  have fl3 : ∀ b ∈ fp, b < s3.heap.objs.size := fun b hb => by
    rw [← hh3, Heap.size_push]
    exact Nat.lt_succ_of_lt (fl2 b hb)
  have f3 : ∀ b ∈ fp, FpOk X pins (upd H2 s2.heap.objs.size (.lst [])) b := fun b hb => by
    obtain ⟨f0, fr⟩ := f2 b hb
    exact ⟨by rw [upd_ne (Nat.ne_of_lt (fl2 b hb))]; exact f0, fr⟩
  have keep3 : ∀ b o, s3.heap.get? b = some o → h₁.get? b = some o := fun b o e => hsb₁.extBut b o (Nat.ne_of_lt (Heap.lt_size e)) (Heap.get?_push_of_some _ e)
  have I4 := inv_comp (tk := s3.toks) I3 C hfr p1 p2 cap f3 fl3 hns₁ keep3
  have st4 : tn 0 h₁ := T.keep _ _ _ st2 fun b hb o e => keep3 b o (by rw [← hh3]; exact Heap.get?_push_of_some _ e)
  obtain ⟨W, ⟨m0, w0⟩, turn⟩ := q2 s2.heap.objs.size hD
  have fpc : ∀ {H' : Hp}, (∀ b ∈ fp, H' b = none) → ∀ b ∈ fp, FpOk (cxC X N scope cl s3 (upd H2 s2.heap.objs.size (.lst [])) fp) [] H' b := fun {H'} hn b hb => by
    obtain ⟨e1, e2⟩ := I4.ok.exf b hb
    exact ⟨hn b hb, e1, I4.ok.exfs b hb, .inl hb, e2, fun p hp => absurd (show p ∈ ([] : List (Addr × Obj)) from hp) (by simp)⟩
  have loop : ∀ s4 : Shared, s4 = { s3 with heap := h₁, toks := s3.toks } →
      codeAny (model X.prog X.w) X.A (.compLoop (.ListComp elt [⟨target, iter, ifs, 0⟩] scope pos) 0 (.ref it) (.ref s2.heap.objs.size) (compEnvC scope cl s3.heap.objs.size X.env))
        (compPost (model X.prog X.w) X.A X.xe (some (assign (.Name x0 pos') X.env)) (fun _ s' => SP X pins Dn .next s') (.ref s2.heap.objs.size) s3.heap.objs.size) s4 := by
    rintro s4 rfl
    refine comp_loop (fun n s' => ∃ i σ' H' ys, Inv (cxC X N scope cl s3 (upd H2 s2.heap.objs.size (.lst [])) fp) [] σ' H' s' ∧ tn i s'.heap ∧ (∀ b ∈ fp, H' b = none) ∧ W i n σ' H' ys) ?_ m0 ⟨0, σ0, _, [], I4, st4, fun b hb => (f3 b hb).1, w0⟩
    rintro n s5 ⟨i, σ5, H5, ys, I5, st5, fr5, w5⟩
    obtain ⟨hacc, w5⟩ := turn i n σ5 H5 ys w5
    have noE : ∀ {α : Type} {t : Sem α} {Q' : α → Shared → Prop} {E' : Value → Shared → Prop} {s' : Shared}, wpAny (model X.prog X.w) X.A t Q' (fun _ _ => False) s' → wpAny (model X.prog X.w) X.A t Q' E' s' := fun h => wpAny_mono h (fun _ _ q => q) fun _ _ z => z.elim
    rcases w5 with ⟨stop, qn⟩ | ⟨go, step⟩
    · refine noE (thn (T.done (cxC X N scope cl s3 (upd H2 s2.heap.objs.size (.lst [])) fp) rfl rfl rfl hc i [] s5 σ5 H5 _ I5 (fpc fr5) st5 stop) fun r s6 ⟨hr, I6⟩ => ?_)
      subst hr
      obtain ⟨m6, hn6, _⟩ := I6.loc
      have kp : ∀ b o, b ≠ s3.heap.objs.size → s6.heap.get? b = some o → s6.heap.get? b = some o := fun b o hb e => e
      have ne3 : ∀ b o, s3.heap.get? b = some o → b ≠ s3.heap.objs.size := fun b o e => Nat.ne_of_lt (Heap.lt_size e)
      have un : Un (frs X.stack) fp (upd H2 s2.heap.objs.size (.lst [])) H5 s3.heap s6.heap := by
        have u := I6.base
        exact ⟨fun b o e n hb hx => kp b o (ne3 b o e) (u.keep b o e n hb hx), fun b o e n hb hx => by
          obtain ⟨sl, e1⟩ := u.slot b o e n hb hx
          exact ⟨sl, kp b _ (ne3 b o e) e1⟩, u.free, fun b o e hx => by
          obtain ⟨o', e1⟩ := u.there b o e hx
          exact ⟨o', kp b _ (ne3 b o e) e1⟩, u.tups, u.frzs, u.tbls⟩
      have hok : HOk X.prog X.w H5 s6.heap := fun b u e => by
        refine (I6.hok b u e).stay (fun c v hc' q => kp c v ?_ q) (fun _ q => q) fun _ _ q => q
        have hfree : H5 s3.heap.objs.size = none := I6.free
        rintro rfl
        rcases hc' with z | z
        · rw [z] at hfree; rw [hfree] at e; cases e
        · rw [hfree] at z; cases z
      have I7 : Inv X pins σ H5 s6 := by
        refine I3.call' (s' := s6) I6.os un hok I6.bare fun b hb => ?_
        obtain ⟨f0, f1, f2', f3', f4, f5⟩ := f3 b hb
        exact ⟨f3', f1, f4, f5⟩
      have hfree : H5 s3.heap.objs.size = none := I6.free
      obtain ⟨g0, g1, g2, g3, g4, g5⟩ := I3.fpOk (Nat.le_refl _) hfree
      show wpAny (model X.prog X.w) X.A (assign (.Name x0 pos') X.env (.ref s2.heap.objs.size)) _ _ s6
      refine wpAny_assign_Name (store_ok2 I7 hN hi0 hx0 (v := .ref s2.heap.objs.size) rfl (fun s8 I8 ⟨a, sb, ha⟩ => ?_) hf)
      have nea : s3.heap.objs.size ≠ a := by
        rcases ha with z | z
        · rw [z]; exact g1
        · exact fun e => g4 x0 a z e.symm
      refine ⟨m6, hn6.sameBut sb nea, fun h' sb' => ?_⟩
      exact ⟨_, H5, Inv.turned I8 (t' := s8.toks) (it := s3.heap.objs.size) (fun b o hb e => sb'.extBut b o hb e) g0 g1 g3 g4 g5, qn⟩
    · refine noE (thn (T.item (cxC X N scope cl s3 (upd H2 s2.heap.objs.size (.lst [])) fp) rfl rfl rfl hc i [] s5 σ5 H5 (fun _ _ => False) I5 (fpc fr5) st5 go) fun r s6 ⟨u, hr, h6⟩ => ?_)
      subst hr
      refine noE (thn h6 fun _ s7 ⟨x, H7, I7, r7, y7, st7, fr7⟩ => ?_)
      obtain ⟨hg, ht, he⟩ := hb cl s3 (upd H2 s2.heap.objs.size (.lst [])) fp
      have I7' := I7.pinned (fpc fr7) (T.obj _ _ st7)
      have back : ∀ {σ8 : St} {H8 : Hp} {s8 : Shared}, Inv (cxC X N scope cl s3 (upd H2 s2.heap.objs.size (.lst [])) fp) ([] ++ pinsAt fp s7.heap) σ8 H8 s8 → tn (i + 1) s8.heap ∧ ∀ b ∈ fp, H8 b = none := fun {σ8 H8 s8} I8 =>
        ⟨T.keep _ _ _ st7 fun b hb o e => (I8.pin (b, o) (List.mem_append_right _ (List.mem_append_right _ (mem_pinsAt hb e)))).1, fun b hb => by
          obtain ⟨o, e, d⟩ := T.obj _ _ st7 b hb
          exact (I8.pin (b, o) (List.mem_append_right _ (List.mem_append_right _ (mem_pinsAt hb e)))).2.1⟩
      refine noE (thn (hg _ s7 σ5 H7 x u _ I7' r7 (step x H7 y7)) fun _ s8 ⟨σ8, H8, I8, q8⟩ => ?_)
      refine noE (thn (ht _ s8 σ8 H8 _ I8 q8) fun b s9 ⟨H9, I9, q9⟩ => ?_)
      cases b with
      | false =>
        rw [if_neg Bool.false_ne_true] at q9 ⊢
        obtain ⟨_, m', hm, w9⟩ := q9
        exact ⟨m', hm, i + 1, σ8, H9, ys, I9.unpinned, (back I9).1, (back I9).2, w9⟩
      | true =>
        rw [if_pos rfl] at q9 ⊢
        refine noE (thn (he _ s9 σ8 H9 _ I9 q9) fun yv s10 ⟨y, H10, I10, r10, hacc10, hlen, m', hm, w10⟩ => ?_)
        refine noE (thn (mt_append _ s10 σ8 H10 (.ref s2.heap.objs.size) [y] (.ref s2.heap.objs.size) [yv] (fun _ H11 => H11 = upd H10 s2.heap.objs.size (.lst (ys ++ [y]))) I10 rfl (.cons r10 .nil) ⟨_, _, _, rfl, rfl, hacc10, hlen, rfl⟩) fun _ s11 ⟨z, H11, I11, _, e11⟩ => ?_)
        subst e11
        exact ⟨m', hm, i + 1, σ8, _, ys ++ [y], I11.unpinned, (back I11).1, (back I11).2, w10⟩
  have fin := codeAny_compStart_list (loop { s3 with heap := h₁, toks := s3.toks } rfl) (T.self _ _ _ _ _ st4 (loop { s3 with heap := h₁, toks := s3.toks } rfl))
  subst hs3
  exact fin
theorem vs_setC {X : Cx} {i0 : Nat} {x0 : Str} {pos' spos : Pos} {elt target iter : Expr} {ifs : List Expr} {scope : Scope} {pos : Pos} {N : List Str} {wi : TI} {g : TG} {tt : TT} {te : TE}
    (hN : X.N.Nodup) (hi0 : X.N[i0]? = some x0) (hx0 : Loc X.env.scope x0) (C : CompOk scope N) (hfr : ∀ y, (y, NameKind.free) ∈ scope.names → X.env.kindOf y = some .cell ∨ X.env.kindOf y = some .free) (hc : X.calm = true)
    (hi : VI X target iter wi)
    (hb : ∀ cl s H fp, VG (cxC X N scope cl s H fp) target g ∧ VF (cxC X N scope cl s H fp) ifs tt ∧ VE (cxC X N scope cl s H fp) elt te)
    (hs : ∀ x, foldedSetIterable iter X.env x = pure x := by intro _; rfl) (hsw : swapsWith (.ListComp elt [⟨target, iter, ifs, 0⟩] scope pos) (some (.Name x0 pos')) spos.line X.env = pure true := by rfl)
    (hf : X.fn x0 = true ∨ X.env.scope.names.lookup x0 = some .local := by first | exact .inl rfl | exact .inr rfl | assumption) :
    VS X (.Assign [.Name x0 pos'] (.ListComp elt [⟨target, iter, ifs, 0⟩] scope pos) spos) (tAsg (tComp X scope N wi g tt te) (gName i0)) :=
  ⟨ps_setC hN hi0 hx0 C hfr hc hi.1 (fun cl s H fp => ⟨(hb cl s H fp).1.1, (hb cl s H fp).2.1.1, (hb cl s H fp).2.2.1⟩) hs hsw hf⟩
end L2
set_option Elab.async false
set_option linter.all false
set_option maxRecDepth 100000
namespace L2
open PySem PySem.Spec PyProof.Rows
section
variable {te : TE} {H : Hp} {Q : VK}
end
section
variable {K : PySem.W.Frag}
end
section
variable {X : Cx} {K : PySem.W.Frag} {scope : Scope} {N : List Str} {tl te : TE} {σ : L2.St} {H : Hp} {Q : VK}
end
end L2
set_option Elab.async false
set_option linter.all false
set_option maxRecDepth 100000
namespace L2
open PySem PySem.Spec PyProof.Rows
section
variable {X : Cx}
end
end L2
set_option Elab.async false
set_option linter.all false
set_option maxRecDepth 100000
namespace L2
open PySem PySem.Spec PyProof.Rows
structure EvOk (E : Hp → Hp → Prop) (H : Hp) : Prop where
  new : ∀ D o, H D = none → E H (upd H D o)
  trans : ∀ {H1 H2}, E H H1 → E H1 H2 → E H H2
  upd : ∀ D o H', H D = none → E H H' → E H (upd H' D o)
  keep : ∀ D H1 H2 xs, H D = none → E H H1 → H1 D = some (.lst xs) → E H1 H2 → H2 D = some (.lst xs)
theorem ev_same (H : Hp) : EvOk Same H := ⟨fun D o h => same_new h o, fun a b => a.trans b, fun D o H' h s => same_upd h s, fun D H1 H2 xs _ _ h s => s _ _ h⟩
def CBody (J : It) (H1 : Hp) (σ0 : L2.St) (g : TG) (tt : TT) (te : TE) (Q : VK) : Prop := ∀ D, H1 D = none → ∃ W : Nat → Nat → L2.St → Hp → List V → Prop, (∃ m, W 0 m σ0 (L2.upd H1 D (.lst [])) []) ∧
  ∀ i m σ' H' ys, W i m σ' H' ys → H' D = some (.lst ys) ∧ ((J.stop i H' ∧ Q (.ref D) H') ∨ (J.go i H' ∧ ∀ x H2, J.yld i H' x H2 → g x σ' H2 fun σ3 H3 => tt σ3 H3 fun b H4 =>
    if b = true then te σ3 H4 fun y H5 => H5 D = some (.lst ys) ∧ ys.length < sizeLine ∧ ∃ m', m' < m ∧ W (i + 1) m' σ3 (L2.upd H5 D (.lst (ys ++ [y]))) (ys ++ [y]) else H4 D = some (.lst ys) ∧ ∃ m', m' < m ∧ W (i + 1) m' σ3 H4 ys))
section
variable {X : Cx} {K : PySem.W.Frag} {scope : Scope} {N : List Str} {tl te : TE} {tt : TT} {g : TG} {σ : L2.St} {H : Hp} {Q : VK}
theorem itt_go {a : Addr} {xs : List V} {E : Hp → Hp → Prop} (hS : ∀ H', E H H' → SqT K H' a xs) : ∀ H' i x, E H H' → xs[i]? = some x → (Itt K a).go i H' ∧ ∀ y H2, (Itt K a).yld i H' y H2 → H2 = H' ∧ y = x := fun H' i x s e =>
  ⟨⟨xs, x, hS H' s, e⟩, fun y H2 hy => by
    obtain ⟨e1, e2⟩ := hy
    have e3 := e2 xs (hS H' s)
    rw [e] at e3
    cases e3
    exact ⟨e1, rfl⟩⟩
theorem itt_stop {a : Addr} {xs : List V} {E : Hp → Hp → Prop} (hS : ∀ H', E H H' → SqT K H' a xs) : ∀ H', E H H' → (Itt K a).stop xs.length H' := fun H' s => ⟨xs, hS H' s, Nat.le_refl _⟩
theorem itlE_go {a : Addr} {xs : List V} {E : Hp → Hp → Prop} (hS : ∀ H', E H H' → SqL K H' a xs) : ∀ H' i x, E H H' → xs[i]? = some x → (Itl K a).go i H' ∧ ∀ y H2, (Itl K a).yld i H' y H2 → H2 = H' ∧ y = x := fun H' i x s e =>
  ⟨⟨xs, x, hS H' s, e⟩, fun y H2 hy => by
    obtain ⟨e1, e2⟩ := hy
    have e3 := e2 xs (hS H' s)
    rw [e] at e3
    cases e3
    exact ⟨e1, rfl⟩⟩
theorem itlE_stop {a : Addr} {xs : List V} {E : Hp → Hp → Prop} (hS : ∀ H', E H H' → SqL K H' a xs) : ∀ H', E H H' → (Itl K a).stop xs.length H' := fun H' s => ⟨xs, hS H' s, Nat.le_refl _⟩
inductive AllI (R : Nat → V → Prop) : List Nat → List V → Prop
  | nil : AllI R [] []
  | cons {i y is ys} : R i y → AllI R is ys → AllI R (i :: is) (y :: ys)
theorem AllI.snoc {R : Nat → V → Prop} {is : List Nat} {ys : List V} {i : Nat} {y : V} (h : AllI R is ys) (r : R i y) : AllI R (is ++ [i]) (ys ++ [y]) := by
  induction h with
  | nil => exact .cons r .nil
  | cons r' _ ih => exact .cons r' ih
theorem AllI.imp {R S : Nat → V → Prop} {is : List Nat} {ys : List V} (h : AllI R is ys) (k : ∀ i y, R i y → S i y) : AllI S is ys := by
  induction h with
  | nil => exact .nil
  | cons r _ ih => exact .cons (k _ _ r) ih
theorem AllI.len {R : Nat → V → Prop} {is : List Nat} {ys : List V} (h : AllI R is ys) : is.length = ys.length := by
  induction h with
  | nil => rfl
  | cons _ _ ih => rw [List.length_cons, List.length_cons, ih]
theorem compG {σ0 : L2.St} (E : Hp → Hp → Prop) (eo : EvOk E H) (xs : List V) (p : Nat → Bool) (Rel : Nat → Hp → V → Prop)
    (st : ∀ {i H1 H2 y}, E H H1 → E H1 H2 → Rel i H1 y → Rel i H2 y) (su : ∀ {i H1 D ys zs y}, H D = none → E H H1 → H1 D = some (.lst ys) → Rel i H1 y → Rel i (L2.upd H1 D (.lst zs)) y)
    (At : Nat → L2.St → Prop) (Ps : L2.St → Prop) (h0 : Ps σ0) (hsz : xs.length ≤ sizeLine)
    (J : It) (go : ∀ H' i x, E H H' → xs[i]? = some x → J.go i H' ∧ ∀ y H2, J.yld i H' y H2 → H2 = H' ∧ y = x) (stop : ∀ H', E H H' → J.stop xs.length H')
    (hg : ∀ (i : Nat) (x : V) σ' H' Q', xs[i]? = some x → Ps σ' → E H H' → (∀ σ2, Ps σ2 → At i σ2 → Q' σ2 H') → g x σ' H' Q')
    (ht : ∀ (i : Nat) (x : V) σ2, xs[i]? = some x → At i σ2 → ∀ H' R, E H H' → (∀ H2, E H' H2 → R (p i) H2) → tt σ2 H' R)
    (he : ∀ (i : Nat) (x : V) σ2, xs[i]? = some x → At i σ2 → p i = true → ∀ H' R, E H H' → (∀ y H2, E H' H2 → Rel i H2 y → R y H2) → te σ2 H' R)
    (q : ∀ D H' ys, E H H' → H D = none → H' D = some (.lst ys) → AllI (fun i y => Rel i H' y) (sel p 0 (List.range xs.length)) ys → Q (.ref D) H') : CBody J H σ0 g tt te Q := by
  intro D hD
  refine ⟨fun i m σ' H' ys => i ≤ xs.length ∧ m = xs.length - i ∧ Ps σ' ∧ E H H' ∧ H' D = some (.lst ys) ∧ AllI (fun i y => Rel i H' y) (sel p 0 (List.range i)) ys, ⟨xs.length, Nat.zero_le _, rfl, h0, eo.new _ _ hD, upd_same, .nil⟩, ?_⟩
  rintro i m σ' H' ys ⟨hi, rfl, hps, sm, hL, hR⟩
  refine ⟨hL, ?_⟩
  by_cases hlt : i < xs.length
  · right
    have hx := List.getElem?_eq_getElem hlt
    obtain ⟨g1, g2⟩ := go H' i xs[i] sm hx
    refine ⟨g1, fun x H2 hy => ?_⟩
    obtain ⟨rfl, rfl⟩ := g2 x H2 hy
    have tk : sel p 0 (List.range (i + 1)) = sel p 0 (List.range i) ++ (if p i then [i] else []) := by
      rw [List.range_succ, sel_snoc, List.length_range, Nat.zero_add]
    have lR := hR.len
    have lS := sel_len p 0 (List.range i)
    rw [List.length_range] at lS
    refine hg i xs[i] σ' _ _ hx hps sm fun σ2 hp2 hat => ?_
    refine ht i xs[i] σ2 hx hat _ _ sm fun H3 s3 => ?_
    have sm3 := eo.trans sm s3
    have hL3 := eo.keep D _ _ _ hD sm hL s3
    cases hp : p i with
    | true =>
      rw [if_pos rfl]
      refine he i xs[i] σ2 hx hat hp _ _ sm3 fun y H4 s4 r4 => ?_
      have sm4 := eo.trans sm3 s4
      have hL4 := eo.keep D _ _ _ hD sm3 hL3 s4
      refine ⟨hL4, by omega, xs.length - (i + 1), by omega, hlt, rfl, hp2, eo.upd D _ _ hD sm4, upd_same, ?_⟩
      rw [tk, hp]
      exact AllI.snoc (hR.imp fun j z r => su hD sm4 hL4 (st sm3 s4 (st sm s3 r))) (su hD sm4 hL4 r4)
    | false =>
      rw [if_neg (by simp)]
      refine ⟨hL3, xs.length - (i + 1), by omega, hlt, rfl, hp2, sm3, hL3, ?_⟩
      rw [tk, hp]
      simp only [Bool.false_eq_true, if_false, List.append_nil]
      exact hR.imp fun j z r => st sm s3 r
  · left
    have e : i = xs.length := by omega
    subst e
    exact ⟨stop _ sm, q D _ ys sm hD hL hR⟩
end
def At1 (σ0 : L2.St) (v : V) (σ : L2.St) : Prop := ∃ l, σ = (σ0.set 0 l).set 0 (some v)
def Ps1 (σ0 : L2.St) (σ : L2.St) : Prop := ∃ l, σ = σ0.set 0 l
theorem hg1 {σ0 : L2.St} {i : Nat} {x : V} {σ' : L2.St} {H' : Hp} {Q' : L2.St → Hp → Prop} (h : Ps1 σ0 σ') (q : ∀ σ2, Ps1 σ0 σ2 → At1 σ0 x σ2 → Q' σ2 H') : gName 0 x σ' H' Q' := by
  obtain ⟨l, rfl⟩ := h
  exact q _ ⟨some x, by rw [List.set_set]⟩ ⟨l, rfl⟩
end L2
namespace L2
open PySem PySem.Spec PyProof.Rows
end L2
set_option Elab.async false
set_option linter.all false
set_option maxRecDepth 100000
namespace L2
open PySem PySem.Spec PyProof.Rows
end L2
set_option Elab.async false
set_option linter.all false
set_option maxRecDepth 100000
namespace L2
open PySem PySem.Spec PyProof.Rows
inductive Al2 {α β : Type} (R : α → β → Prop) : List α → List β → Prop
  | nil : Al2 R [] []
  | cons {a b as bs} : R a b → Al2 R as bs → Al2 R (a :: as) (b :: bs)
theorem Al2.len {α β : Type} {R : α → β → Prop} {as : List α} {bs : List β} (h : Al2 R as bs) : as.length = bs.length := by
  induction h with
  | nil => rfl
  | cons _ _ ih => rw [List.length_cons, List.length_cons, ih]
theorem Al2.at {α β : Type} {R : α → β → Prop} {as : List α} {bs : List β} (h : Al2 R as bs) : ∀ {j : Nat} {a : α}, as[j]? = some a → ∃ b, bs[j]? = some b ∧ R a b := by
  induction h with
  | nil => intro j a e; simp at e
  | cons r _ ih =>
    intro j a e
    cases j with
    | zero => cases e; exact ⟨_, rfl, r⟩
    | succ j => exact ih (by simpa using e)
theorem eqAt_flat {A : Around} {s : Shared} {x : V} {v u : Value} (h : flatV x = true) (rv : RelV x v) (ru : RelV x u) : SeqAt.EqAt A s v u true := by
  cases x with
  | non => cases rv; cases ru; exact SeqAt.EqAt.same _
  | bl b => cases rv; cases ru; exact SeqAt.EqAt.same _
  | int i =>
    obtain ⟨t, rfl⟩ := rv
    obtain ⟨t', rfl⟩ := ru
    have z := SeqAt.EqAt.int_int (A := A) (s := s) i t i t'
    simpa using z
  | str y =>
    obtain ⟨t, rfl⟩ := rv
    obtain ⟨t', rfl⟩ := ru
    have z := SeqAt.EqAt.str_str (A := A) (s := s) y t y t'
    simpa using z
  | _ => cases h
section
variable {X : Cx} {pins : List (Addr × Obj)} {σ : L2.St} {H : Hp} {s : Shared}
theorem all_true (n : Nat) : (List.range n).all (fun _ => true) = true := by rw [List.all_eq_true]; intro _ _; rfl
end
end L2
set_option Elab.async false
set_option linter.all false
set_option maxRecDepth 100000
namespace L2
open PySem PySem.Spec PyProof.Rows
section
variable {X : Cx}
theorem call_intT : CallR X (.type "int") (fun xs H Q => ∃ x n, xs = [.str x] ∧ PySem.intText? x = some n ∧ x.length ≤ 640 ∧ Q (.int n) H) := by
  rintro pins s σ H xs us Q I r ⟨x, n, rfl, hn, hl, q⟩
  obtain ⟨u, rfl, t, rfl⟩ := r.one
  exact PySem.W.KIN.call_text hn hl ⟨.int n, H, I.tok _, ⟨_, rfl⟩, q⟩
def rJoin (K : PySem.W.Frag) : V → List V → Hp → VK → Prop := fun x vs H Q => ∃ sep a ts, x = .str sep ∧ vs = [.ref a] ∧ SqL K H a (ts.map V.str) ∧ JoinOk sep ts = true ∧ Q (.str (Txt.join sep ts)) H
theorem strs_of : ∀ {ts : List Str} {us : List Value}, Vals (ts.map V.str) us → ∃ l : List (Str × Tok), us = strValues l ∧ l.map (·.1) = ts
  | [], _, .nil => ⟨[], rfl, rfl⟩
  | x :: ts, _, .cons r t => by
    obtain ⟨l, rfl, e⟩ := strs_of t
    obtain ⟨k, rfl⟩ := r
    exact ⟨(x, k) :: l, rfl, by rw [List.map_cons, e]⟩
theorem mt_join : MtR X "str.join" (rJoin X.K) := by
  intro pins s σ H x vs v us Q I rx rv h
  obtain ⟨sep, a, ts, rfl, rfl, hl, hok, q⟩ := h
  obtain ⟨t, rfl⟩ := rx
  obtain ⟨u, rfl, ru⟩ := rv.one
  cases ru
  obtain ⟨its, rv2, pl, hz⟩ := I.list hl
  obtain ⟨l, rfl, e⟩ := strs_of rv2
  exact SC.join pl.isList e hok fun t' k => ⟨.str _, H, I.tok _, ⟨_, rfl⟩, q⟩
theorem pe_item_strN {a b : Expr} {ta tb : TE} {pos : Pos} (ha : PE X a ta) (hb : PE X b tb) (hs : PlainIxT b) :
    PE X (.Subscript a b pos) (tOp (fun x y H Q => ∃ z i c, x = .str z ∧ y = .int i ∧ -(2 ^ 63) ≤ i ∧ i < 2 ^ 63 ∧ (seqIndex? i z.length).bind (z.cps[·]?) = some c ∧ Q (.str ⟨#[c]⟩) H) ta tb) := by
  intro pins s σ H Q I h
  refine Subscript_ (binT ha hb I h fun v u s2 x y H2 I2 rx ry q => ?_)
  obtain ⟨z, i, c, rfl, rfl, h0, h63, hc, q⟩ := q
  obtain ⟨t, rfl⟩ := rx
  obtain ⟨t', rfl⟩ := ry
  exact tail_any (typeIs_str s2 z t) slot_str_getitem.lookup (getItem_str (c := c) (by
    have e1 : decide (i < -(2 ^ 63 : Int)) = false := decide_eq_false (by omega)
    have e2 : decide (i ≥ 2 ^ 63) = false := decide_eq_false (by omega)
    rw [e1, e2] <;> rfl) hc ⟨.str ⟨#[c]⟩, H2, I2.tok _, ⟨_, rfl⟩, q⟩) (hs _ _)
theorem ve_item_strN {a b : Expr} {ta tb : TE} {pos : Pos} (ha : VE X a ta) (hb : VE X b tb) (hs : PlainIxT b) :
    VE X (.Subscript a b pos) (tOp (fun x y H Q => ∃ z i c, x = .str z ∧ y = .int i ∧ -(2 ^ 63) ≤ i ∧ i < 2 ^ 63 ∧ (seqIndex? i z.length).bind (z.cps[·]?) = some c ∧ Q (.str ⟨#[c]⟩) H) ta tb) := ⟨pe_item_strN ha.1 hb.1 hs⟩
def ones : Str := ⟨(List.replicate 61 (Str.cps "1")).foldl (· ++ ·) #[]⟩
def rRepS : R2 := fun x y H Q => x = .str "1" ∧ y = .int 61 ∧ Q (.str ones) H
theorem op_repS : OpR X (binaryOp .Mult) rRepS := by
  intro pins s σ H x y v u Q I rx ry h
  obtain ⟨rfl, rfl, q⟩ := h
  obtain ⟨t, rfl⟩ := rx
  obtain ⟨t', rfl⟩ := ry
  refine PySem.P.mul_str (by decide) (fun _ _ => by decide +kernel) (fun _ _ => by decide +kernel) ?_
  rw [if_neg (by decide), if_neg (by decide +kernel)]
  exact ⟨by show ones.length ≤ sizeLine; decide +kernel, ⟨.str ones, H, I.tok _, ⟨_, rfl⟩, q⟩⟩
def Fl2 : List V → List V → Prop := Al2 fun x y => flatV x = true ∧ x = y
theorem Fl2.refl : ∀ {xs : List V}, (∀ x ∈ xs, flatV x = true) → Fl2 xs xs
  | [], _ => .nil
  | x :: xs, h => .cons ⟨h x (.head _), rfl⟩ (Fl2.refl fun y hy => h y (.tail _ hy))
theorem fl_items {A : Around} {s : Shared} {xs ys : List V} {its jts : List Value} (rv : Vals xs its) (rw' : Vals ys jts) (h : Fl2 xs ys) : ∀ (j : Nat) (h1 : j < its.toArray.size) (h2 : j < jts.toArray.size), SeqAt.EqAt A s its.toArray[j] jts.toArray[j] ((fun _ => true) j) := fun j h1 h2 => by
  have e1 := rv.length
  have hj1 : j < xs.length := by rw [List.size_toArray] at h1; omega
  obtain ⟨y, hy, d1, d2⟩ := h.at (List.getElem?_eq_getElem hj1)
  obtain ⟨u1, hu1, r1⟩ := rv.get (List.getElem?_eq_getElem hj1)
  obtain ⟨u2, hu2, r2⟩ := rw'.get hy
  have g1 : its.toArray[j] = u1 := by
    rw [List.getElem_toArray]
    exact (List.getElem?_eq_some_iff.mp hu1).2
  have g2 : jts.toArray[j] = u2 := by
    rw [List.getElem_toArray]
    exact (List.getElem?_eq_some_iff.mp hu2).2
  rw [g1, g2]
  rw [d2] at r1 d1
  exact eqAt_flat d1 r1 r2
def rEqF (K : PySem.W.Frag) : R2 := fun x y H Q => ∃ a b xs ys, x = .ref a ∧ y = .ref b ∧ SqL K H a xs ∧ SqL K H b ys ∧ Fl2 xs ys ∧ Q (.bl true) H
theorem op_eqF (hu : X.A.units < cLine) : OpR X (compareOp .Eq) (rEqF X.K) := by
  intro pins s σ H x y v u Q I rx ry h
  obtain ⟨a, b, xs, ys, rfl, rfl, ha, hb, h, q⟩ := h
  cases rx
  cases ry
  obtain ⟨its, r1, pl, hz⟩ := I.list ha
  obtain ⟨jts, r2, pm, hw⟩ := I.list hb
  refine SeqAt.RcAt.lists (e := fun _ => true) pl.isList pm.isList (by rw [List.size_toArray, List.size_toArray]; have := r1.length; have := r2.length; have := h.len; omega) hu (fl_items r1 r2 h) _ _ _ _ ?_
  rw [all_true]
  exact ⟨.bl _, H, I, rfl, q⟩
def rNeP (K : PySem.W.Frag) : R2 := fun x y H Q => ∃ p q a b xs ys f, x = .ref p ∧ y = .ref q ∧ SqT K H p [.ref a, f] ∧ SqT K H q [.ref b, f] ∧ flatV f = true ∧ SqL K H a xs ∧ SqL K H b ys ∧ Fl2 xs ys ∧ a ≠ b ∧ Q (.bl false) H
theorem op_neP (hu : X.A.units + 64 < cLine) : OpR X (compareOp .NotEq) (rNeP X.K) := by
  intro pins s σ H x y v u Q I rx ry h
  obtain ⟨p, q', a, b, xs, ys, f, rfl, rfl, hp, hq, hf, ha, hb, h, ne, q⟩ := h
  cases rx
  cases ry
  obtain ⟨its, r1, pl, hz⟩ := I.tuple hp
  obtain ⟨jts, r2, pm, hw⟩ := I.tuple hq
  obtain ⟨ls, l1, plL, _⟩ := I.list ha
  obtain ⟨ms, l2, pmL, _⟩ := I.list hb
  have eL : ∀ {A : Around}, A.units < cLine → SeqAt.EqAt A s (.ref a) (.ref b) true := fun {A} hA => by
    refine SeqAt.EqAt.of_refs ne ?_
    have z := SeqAt.RcAt.lists (A := A) (e := fun _ => true) plL.isList pmL.isList (by rw [List.size_toArray, List.size_toArray]; have := l1.length; have := l2.length; have := h.len; omega) hA (fl_items l1 l2 h)
    rw [all_true] at z
    exact z
  cases r1 with
  | @cons _ i1 _ _ q1 r1 => cases r1 with
    | @cons _ i2 _ _ q2 r1 =>
      cases r1
      cases r2 with
      | @cons _ j1 _ _ q3 r2 => cases r2 with
        | @cons _ j2 _ _ q4 r2 =>
          cases r2
          cases q1
          cases q3
          refine SeqAt.RcNeAt.tuples (e := fun _ => true) (show s.heap.IsTuple p _ from pl) (show s.heap.IsTuple q' _ from pm) (by omega) (fun j h1 h2 => ?_) _ _ _ _ ?_
          · match j, h1, h2 with
            | 0, _, _ => exact eL (by show X.A.units + 1 < cLine; omega)
            | 1, _, _ => exact eqAt_flat hf q2 q4
            | n + 2, h1, _ => exact absurd h1 (by simp)
          · exact ⟨.bl _, H, I, rfl, q⟩
end
end L2
set_option Elab.async false
set_option linter.all false
set_option maxRecDepth 100000
namespace My
open PySem PySem.Spec PyProof.Rows L2 PySem.NumText
abbrev figs : Str := "0123456789"
abbrev cs (x : Str) : List Nat := x.cps.toList
def isD (c : Nat) : Bool := decide (48 ≤ c) && decide (c ≤ 57)
def isL (c : Nat) : Bool := decide (97 ≤ c) && decide (c ≤ 122)
def inS (S y : Str) : Bool := !(Builtin.Str.occurrences S y 0 S.length 1).isEmpty
theorem figs_cs : cs figs = [48, 49, 50, 51, 52, 53, 54, 55, 56, 57] := by decide +kernel
theorem inF (c : Nat) : inS figs ⟨#[c]⟩ = isD c := by
  unfold inS
  rw [PySem.StrLaws.found_one]
  show decide (c ∈ cs figs) = isD c
  rw [figs_cs, Bool.eq_iff_iff]
  simp only [isD, decide_eq_true_eq, Bool.and_eq_true, List.mem_cons, List.not_mem_nil, or_false]
  omega
def figL (l : List Nat) : Bool := (decide (1 ≤ l.length) && (decide (l.length ≤ 60) && l.all isD)) && (decide (l = [48]) || !decide (l.head? = some 48))
def numL (l : List Nat) : Bool := if l.head? = some 45 then figL l.tail && !decide (l = [45, 48]) else figL l
def inn (l : List Nat) : List Nat := l.tail.dropLast
def wrdL (l : List Nat) : Bool := decide (2 ≤ l.length) && (decide (l.head? = some 39) && (decide (l.getLast? = some 39) && (decide ((inn l).length ≤ 8) && (inn l).all isL)))
def valL (l : List Nat) : Int := if l.head? = some 45 then -((digitsVal l.tail : Nat) : Int) else ((digitsVal l : Nat) : Int)
def rdV (x : Str) : Option V := if numL (cs x) then some (.int (valL (cs x))) else if wrdL (cs x) then some (.str ⟨(inn (cs x)).toArray⟩) else none
theorem str_eq {x y : Str} : x = y ↔ cs x = cs y := by
  obtain ⟨⟨a⟩⟩ := x
  obtain ⟨⟨b⟩⟩ := y
  simp [cs]
theorem range_all (x : Str) (f : Nat → Bool) : ((List.range x.cps.size).map fun i => f (x.cps.getD i 0)).all id = (cs x).all f := by
  have e : (List.range x.cps.size).map (fun i => f (x.cps.getD i 0)) = (cs x).map f := by
    apply List.ext_getElem?
    intro i
    rw [List.getElem?_map, List.getElem?_map]
    by_cases h : i < x.cps.size
    · rw [List.getElem?_range h, Array.getElem?_toList, Array.getElem?_eq_getElem h]
      simp [Array.getD_eq_getD_getElem?, Array.getElem?_eq_getElem h]
    · rw [List.getElem?_eq_none (by simpa using h), List.getElem?_eq_none (by simpa using h)]
      rfl
  rw [e, List.all_map]
  rfl
theorem figL_dig {l : List Nat} (h : figL l = true) : AllDigits l ∧ l ≠ [] ∧ l.length ≤ 60 := by
  unfold figL at h
  simp only [Bool.and_eq_true, decide_eq_true_eq, List.all_eq_true, isD] at h
  obtain ⟨⟨h1, h2, h3⟩, _⟩ := h
  exact ⟨fun c hc => h3 c hc, fun e => by rw [e] at h1; simp at h1, h2⟩
theorem num_int {x : Str} (h : numL (cs x) = true) : intText? x = some (valL (cs x)) ∧ x.length ≤ 640 := by
  unfold numL at h
  have hl : x.length = (cs x).length := by simp [cs, Str.length]
  split at h
  · rename_i hd
    simp only [Bool.and_eq_true] at h
    obtain ⟨a, b, c⟩ := figL_dig h.1
    have hx : cs x = 45 :: (cs x).tail := by
      cases e : cs x with
      | nil => rw [e] at hd; cases hd
      | cons y t => rw [e] at hd; cases hd; rfl
    have l1 : x.length ≤ 61 := by rw [hl, hx, List.length_cons]; omega
    refine ⟨?_, by omega⟩
    rw [intText_neg (x := x) hx a b (by omega)]
    unfold valL
    rw [if_pos hd]
  · rename_i hd
    obtain ⟨a, b, c⟩ := figL_dig h
    refine ⟨?_, by omega⟩
    rw [intText_digits (x := x) a b (by omega)]
    unfold valL
    rw [if_neg hd]
end My
set_option Elab.async false
set_option linter.all false
set_option maxRecDepth 100000
namespace My
open PySem PySem.Spec PyProof.Rows L2 PySem.NumText Builtin Builtin.Str
theorem len_cs (x : Str) : x.length = (cs x).length := by simp [cs, Str.length]
theorem sl_text (x : Str) (l u : Option Int) : Txt.slice x l u = PySem.StrLaws.sliceText x l u := rfl
theorem slTo1 (x : Str) : Txt.slice x none (some 1) = ⟨((cs x).take 1).toArray⟩ := by
  rw [sl_text]
  by_cases h : (cs x).length = 0
  · have e : x = "" := str_eq.mpr (by rw [List.eq_nil_of_length_eq_zero h]; decide +kernel)
    subst e
    decide +kernel
  · rw [PySem.StrLaws.sliceText_to (show (0 : Int) ≤ 1 ∧ (1 : Int) ≤ ((cs x).length : Nat) by omega)]
    rfl
theorem slFrom1 {x : Str} (h : 1 ≤ (cs x).length) : Txt.slice x (some 1) none = ⟨((cs x).tail).toArray⟩ := by
  rw [sl_text, PySem.StrLaws.sliceText_from (show (0 : Int) ≤ 1 ∧ (1 : Int) ≤ ((cs x).length : Nat) by omega)]
  have e : ((x.cps.toList.length : Int) - 1).toNat = ((cs x).drop 1).length := by rw [List.length_drop]; show ((cs x).length - 1 : Int).toNat = _; omega
  rw [e]
  show (⟨((((cs x).drop 1).take ((cs x).drop 1).length)).toArray⟩ : Str) = _
  rw [List.take_length, List.drop_one]
theorem slFrom0 (x : Str) : Txt.slice x (some 0) none = x := by
  rw [sl_text, PySem.StrLaws.sliceText_from (by constructor <;> omega)]
  refine str_eq.mpr ?_
  show ((cs x).drop 0).take ((x.cps.toList.length : Int) - 0).toNat = cs x
  rw [List.drop_zero, show ((x.cps.toList.length : Int) - 0).toNat = (cs x).length by show ((cs x).length - 0 : Int).toNat = _; omega, List.take_length]
theorem slIn {x : Str} (h : 2 ≤ (cs x).length) : Txt.slice x (some 1) (some (-1)) = ⟨(inn (cs x)).toArray⟩ := by
  have e : strSliceIndices (some 1) (some (-1)) 1 x.length = strSliceIndices (some 1) (some ((x.length : Int) - 1)) 1 x.length := by
    have hl := len_cs x
    unfold strSliceIndices
    simp only
    have a : ¬ ((x.length : Int) - 1 < 0) := by omega
    rw [if_pos (show (-1 : Int) < 0 by decide), if_neg a]
    congr 1
  rw [sl_text]
  have e2 : PySem.StrLaws.sliceText x (some 1) (some (-1)) = PySem.StrLaws.sliceText x (some 1) (some ((x.length : Int) - 1)) := by unfold PySem.StrLaws.sliceText; rw [e]
  rw [e2, PySem.StrLaws.sliceText_plain (show (0 : Int) ≤ 1 ∧ (1 : Int) ≤ (x.length : Int) - 1 ∧ (x.length : Int) - 1 ≤ ((cs x).length : Nat) by have hl := len_cs x; omega)]
  refine str_eq.mpr ?_
  show ((cs x).drop 1).take ((x.length : Int) - 1 - 1).toNat = inn (cs x)
  unfold inn
  rw [List.drop_one, List.dropLast_eq_take, List.length_tail, len_cs]
  congr 1
  omega
def shw : V → Str
  | .int i => Str.ofString (toString i)
  | .str x => "'" ++ x ++ "'"
  | _ => ""
def Lets (x : Str) : Prop := ∀ c ∈ x.cps, 97 ≤ c ∧ c ≤ 122
def Vl (v : V) : Prop := (∃ i : Int, v = .int i ∧ i.natAbs < 10 ^ 60) ∨ ∃ x, v = .str x ∧ Lets x ∧ x.length ≤ 8
theorem cs_app (x y : Str) : cs (x ++ y) = cs x ++ cs y := by
  show (x.cps ++ y.cps).toList = _
  rw [Array.toList_append]
theorem cs_q : cs "'" = [39] := by decide +kernel
theorem shw_str (x : Str) : cs (shw (.str x)) = 39 :: (cs x ++ [39]) := by
  show cs ("'" ++ x ++ "'") = _
  rw [cs_app, cs_app, cs_q]
  rfl
theorem lets_all {x : Str} (h : Lets x) : (cs x).all isL = true := by
  rw [List.all_eq_true]
  intro c hc
  obtain ⟨a, b⟩ := h c (Array.mem_toList_iff.mp hc)
  simp [isL, a, b]
theorem digs_len : ∀ (k m : Nat), m < 10 ^ (k + 1) → (Nat.toDigits 10 m).length ≤ k + 1
  | 0, m, h => by rw [Nat.toDigits_of_lt_base (by simpa using h)]; simp
  | k + 1, m, h => by
    by_cases h10 : m < 10
    · rw [Nat.toDigits_of_lt_base h10]; simp
    · have hm : m % 10 < 10 := Nat.mod_lt m (by decide)
      have t : Nat.toDigits 10 (m / 10) ++ Nat.toDigits 10 (m % 10) = Nat.toDigits 10 (10 * (m / 10) + m % 10) := Nat.toDigits_append_toDigits (by decide) (by omega) hm
      rw [Nat.div_add_mod] at t
      rw [← t, List.length_append, Nat.toDigits_of_lt_base hm]
      have ih := digs_len k (m / 10) (by rw [Nat.pow_succ] at h; exact Nat.div_lt_of_lt_mul (by rw [Nat.mul_comm]; exact h))
      simp only [List.length_singleton]
      omega
theorem dig0 : ∀ d : Nat, d < 10 → d ≠ 0 → (Nat.digitChar d).toNat ≠ 48 := by decide
theorem digs_head (m : Nat) (h : m ≠ 0) : ((Nat.toDigits 10 m).map Char.toNat).head? ≠ some 48 := by
  induction m using Nat.strongRecOn with
  | _ m ih =>
    by_cases h10 : m < 10
    · rw [Nat.toDigits_of_lt_base h10]
      intro e
      exact dig0 m h10 h (Option.some.inj e)
    · have hm : m % 10 < 10 := Nat.mod_lt m (by decide)
      have t : Nat.toDigits 10 (m / 10) ++ Nat.toDigits 10 (m % 10) = Nat.toDigits 10 (10 * (m / 10) + m % 10) := Nat.toDigits_append_toDigits (by decide) (by omega) hm
      rw [Nat.div_add_mod] at t
      rw [← t, List.map_append, List.head?_append]
      have i := ih (m / 10) (by omega) (by omega)
      cases e : ((Nat.toDigits 10 (m / 10)).map Char.toNat).head? with
      | none =>
        rw [List.head?_eq_none_iff] at e
        have z := toDigits_len_ge 10 (m / 10)
        rw [List.map_eq_nil_iff.mp e] at z
        exact absurd z (by decide)
      | some c => rw [e] at i; simpa using i
theorem digs_all (m : Nat) : AllDigits ((Nat.toDigits 10 m).map Char.toNat) := by
  intro c hc
  obtain ⟨ch, hch, e⟩ := List.mem_map.mp hc
  have r := digit_range (Nat.isDigit_of_mem_toDigits (by decide) (by decide) hch)
  rw [← e]
  exact r
theorem digs_ne (m : Nat) : (Nat.toDigits 10 m).map Char.toNat ≠ [] := fun e => by
  have h := toDigits_len_ge 10 m
  rw [List.map_eq_nil_iff.mp e] at h
  exact absurd h (by decide)
theorem digs_fig {m : Nat} (h : m < 10 ^ 60) : figL ((Nat.toDigits 10 m).map Char.toNat) = true := by
  have hl := digs_len 59 m h
  have hn : 1 ≤ ((Nat.toDigits 10 m).map Char.toNat).length := List.length_pos_iff.mpr (digs_ne m)
  have ha : ((Nat.toDigits 10 m).map Char.toNat).all isD = true := by
    rw [List.all_eq_true]
    intro c hc
    obtain ⟨a, b⟩ := digs_all m c hc
    simp [isD, a, b]
  unfold figL
  rw [decide_eq_true hn, decide_eq_true (by rw [List.length_map]; omega), ha]
  simp only [Bool.true_and, Bool.and_true]
  by_cases h0 : m = 0
  · subst h0; decide
  · rw [decide_eq_false (digs_head m h0)]; simp
theorem int_neg (n : Nat) : toString (Int.negSucc n) = "-" ++ toString (n + 1) := rfl
theorem cs_neg (n : Nat) : cs (Str.ofString (toString (Int.negSucc n))) = 45 :: (Nat.toDigits 10 (n + 1)).map Char.toNat := by
  show (Str.ofString (toString (Int.negSucc n))).cps.toList = _
  rw [signs_ofString, int_neg]
  show (String.append "-" (Nat.repr (n + 1))).toList.map Char.toNat = _
  rw [show String.append "-" (Nat.repr (n + 1)) = "-" ++ Nat.repr (n + 1) from rfl, String.toList_append, Nat.toList_repr, List.map_append]
  rfl
theorem rd_shw {v : V} (h : Vl v) : rdV (shw v) = some v := by
  rcases h with ⟨i, rfl, hi⟩ | ⟨x, rfl, hx, h8⟩
  · cases i with
    | ofNat m =>
      have e : cs (shw (.int (Int.ofNat m))) = (Nat.toDigits 10 m).map Char.toNat := PySem.W.KIN.signs_num m
      have hd : ¬ ((Nat.toDigits 10 m).map Char.toNat).head? = some 45 := fun z => by
        have := (digs_all m 45 (List.mem_of_mem_head? z)).1
        omega
      unfold rdV numL valL
      rw [e, if_neg hd, if_neg hd, if_pos (digs_fig (by simpa using hi)), PySem.W.KIN.val_back]
      rfl
    | negSucc n =>
      have hf := digs_fig (m := n + 1) (by simpa [Int.natAbs] using hi)
      have hne : ¬ (45 :: (Nat.toDigits 10 (n + 1)).map Char.toNat = [45, 48]) := fun z => by
        injection z with _ z
        exact digs_head (n + 1) (by omega) (by rw [z]; rfl)
      unfold rdV numL valL
      rw [show cs (shw (.int (Int.negSucc n))) = 45 :: (Nat.toDigits 10 (n + 1)).map Char.toNat from cs_neg n]
      simp only [List.head?_cons, List.tail_cons, if_true, hf, hne, decide_false, Bool.not_false, Bool.and_true, PySem.W.KIN.val_back]
      rfl
  · have hin : inn (cs (shw (.str x))) = cs x := by
      rw [shw_str]
      show (cs x ++ [39]).dropLast = cs x
      simp
    have hnum : numL (cs (shw (.str x))) = false := by
      rw [shw_str]
      unfold numL figL
      simp [isD]
    have hw : wrdL (cs (shw (.str x))) = true := by
      unfold wrdL
      have e8 : (cs x).length ≤ 8 := by rw [← len_cs]; exact h8
      have el : (39 :: (cs x ++ [39])).getLast? = some 39 := by rw [← List.cons_append, List.getLast?_append]; rfl
      rw [hin, lets_all hx, decide_eq_true e8, shw_str, el]
      simp
    unfold rdV
    rw [hnum, hw, hin]
    simp
theorem shw_len {v : V} (h : Vl v) : (shw v).length ≤ 61 := by
  rcases h with ⟨i, rfl, hi⟩ | ⟨x, rfl, hx, h8⟩
  · rw [len_cs]
    cases i with
    | ofNat m =>
      rw [show cs (shw (.int (Int.ofNat m))) = (Nat.toDigits 10 m).map Char.toNat from PySem.W.KIN.signs_num m, List.length_map]
      have := digs_len 59 m (by simpa using hi)
      omega
    | negSucc n =>
      rw [show cs (shw (.int (Int.negSucc n))) = 45 :: (Nat.toDigits 10 (n + 1)).map Char.toNat from cs_neg n, List.length_cons, List.length_map]
      have := digs_len 59 (n + 1) (by simpa [Int.natAbs] using hi)
      omega
  · rw [len_cs, shw_str, List.length_cons, List.length_append, ← len_cs, List.length_singleton]
    omega
end My
set_option Elab.async false
set_option linter.all false
set_option maxRecDepth 100000
namespace HT
open PySem PySem.Spec PyProof.Rows L2
section
variable {prog : Program} {w : World} {A : Around} {E : Value → Shared → Prop} {s : Shared}
end
end HT
namespace L2
open PySem PySem.Spec PyProof.Rows
end L2
set_option Elab.async false
set_option linter.all false
set_option maxRecDepth 100000
namespace L2
open PySem PySem.Spec PyProof.Rows
def rEqN (K : PySem.W.Frag) : R2 := fun x y H Q => ∃ (a b : Addr) (xs : List V), x = .ref a ∧ y = .ref b ∧ SqL K H a xs ∧ SqL K H b [] ∧ Q (.bl xs.isEmpty) H
theorem op_eqN {X : Cx} (hu : X.A.units < cLine) : OpR X (compareOp .Eq) (rEqN X.K) := by
  intro pins s σ H x y v u Q I rx ry h
  obtain ⟨a, b, xs, rfl, rfl, ha, hb, q⟩ := h
  cases rx
  cases ry
  obtain ⟨its, rv, pl, hz⟩ := I.list ha
  obtain ⟨jts, rw', pm, hw⟩ := I.list hb
  have e1 := rv.length
  have e2 := rw'.length
  have ej : jts = [] := List.length_eq_zero_iff.mp e2.symm
  subst ej
  cases xs with
  | nil =>
    have ei : its = [] := List.length_eq_zero_iff.mp e1.symm
    subst ei
    refine SeqAt.RcAt.lists (e := fun _ => true) pl.isList pm.isList rfl hu (fun j h1 h2 => by simp at h1) _ _ _ _ ?_
    exact ⟨.bl true, H, I, rfl, q⟩
  | cons y ys =>
    refine SeqAt.RcAt.lists_lengths pl.isList pm.isList ?_ hu _ _ _ _ ?_
    · rw [List.length_cons] at e1
      simp only [List.size_toArray, List.length_nil]
      rw [← e1]
      simp
    · exact ⟨.bl false, H, I, rfl, q⟩
end L2
set_option Elab.async false
set_option linter.all false
set_option maxRecDepth 100000
namespace L2
open PySem PySem.Spec PyProof.Rows
section
variable {X : Cx}
end
end L2
set_option Elab.async false
set_option linter.all false
set_option maxRecDepth 100000
namespace L2
open PySem PySem.Spec PyProof.Rows
end L2
set_option Elab.async false
set_option linter.all false
set_option maxRecDepth 100000
namespace PySem
section
variable {prog : Program} {w : World} {A : Around} {E : Value → Shared → Prop} {s : Shared}
end
end PySem
namespace PySem
section
variable {prog : Program} {w : World} {κ : Type} [DecidableEq κ] {knd : KeyKind prog w κ}
end
end PySem
namespace PySem
section
variable {prog : Program} {w : World} {κ : Type} [DecidableEq κ] {knd : KeyKind prog w κ} {A : Around} {E : Value → Shared → Prop} {s : Shared}
end
end PySem
namespace PySem
open PySem.Calls PyProof.Rows
section
variable {prog : Program} {w : World} {κ : Type} [DecidableEq κ] {knd : PySem.KeyKind prog w κ} {A : Around} {E : Value → Shared → Prop} {s : Shared}
end
end PySem
set_option Elab.async false
set_option linter.all false
set_option maxRecDepth 100000
namespace L2
open PySem PySem.Spec PyProof.Rows
section
variable {X : Cx}
end
end L2
set_option Elab.async false
set_option linter.all false
set_option maxRecDepth 100000
namespace L2
open PySem PySem.Spec PyProof.Rows
section
variable {X : Cx} {e st : Expr} {te ts : TE} {pos p2 : Pos}
end
section
variable {X : Cx} {o i value : Expr} {td ty tv : TE} {pos pos' : Pos}
end
theorem vg_sub {X : Cx} {pos : Pos} {o i : Expr} {to ti : TE} {t : TSet} (ho : VE X o to) (hi : VE X i ti) (hs : PSet X t)
    (ha : ∀ v, assign (.Subscript o i pos) X.env v = (do
      let ov ← holding [v] (eval o X.env)
      let iv ← holding [v, ov] (eval i X.env)
      standAt pos
      holding [v, ov, iv] (setItem ov iv v)
      release [v, ov, iv] []) := by intro _; rfl) : VG X (.Subscript o i pos) (gSub to ti t) := ⟨pg_sub ho.1 hi.1 hs ha⟩
end L2
set_option Elab.async false
set_option linter.all false
set_option maxRecDepth 100000
namespace L2
open PySem PySem.Spec PyProof.Rows
abbrev M61 : Int := 2305843009213693951
def StAt (H : Hp) (a : Addr) : Prop := ∃ s : Int, H a = some (.lst [.int s]) ∧ 0 ≤ s ∧ s < M61
structure Fx (a : Addr) (H H' : Hp) : Prop where
  same : ∀ b o, b ≠ a → H b = some o → H' b = some o
  st : StAt H' a
theorem Fx.trans {a : Addr} {H H1 H2 : Hp} (f : Fx a H H1) (g : Fx a H1 H2) : Fx a H H2 := ⟨fun b o n e => g.same b o n (f.same b o n e), g.st⟩
theorem StAt.same {a : Addr} {H H' : Hp} (h : StAt H a) (e : Same H H') : StAt H' a := by
  obtain ⟨s, h1, h2⟩ := h
  exact ⟨s, e _ _ h1, h2⟩
theorem Fx.of {a : Addr} {H H' : Hp} (h : StAt H a) (e : Same H H') : Fx a H H' := ⟨fun b o _ q => e b o q, h.same e⟩
theorem Fx.refl {a : Addr} {H : Hp} (h : StAt H a) : Fx a H H := .of h (Same.refl H)
theorem Fx.sm {a : Addr} {H H1 H2 : Hp} (f : Fx a H H1) (e : Same H1 H2) : Fx a H H2 := f.trans (.of f.st e)
theorem StAt.ne {a p : Addr} {H : Hp} (h : StAt H a) (f : H p = none) : p ≠ a := by
  obtain ⟨s, h1, _⟩ := h
  exact (ne_of_none h1 f).symm
theorem Fx.tup {a p : Addr} {H H' : Hp} {xs : List V} (f : Fx a H H') (h : StAt H a) (e : H p = some (.tup xs)) : H' p = some (.tup xs) := by
  obtain ⟨s, h1, _⟩ := h
  exact f.same p _ (ne_of e h1 (by intro z; cases z)) e
theorem Fx.upd {a D : Addr} {H H' : Hp} {o : HO} (f : Fx a H H') (hD : H D = none) (ne : D ≠ a) : Fx a H (L2.upd H' D o) := ⟨fun b u n e => by rw [upd_ne (ne_of_none e hD)]; exact f.same b u n e, by
  obtain ⟨s, h1, h2⟩ := f.st
  exact ⟨s, by rw [upd_ne ne.symm]; exact h1, h2⟩⟩
theorem ev_fx {a : Addr} {H : Hp} (h : StAt H a) : EvOk (Fx a) H := ⟨fun D o hD => .of h (same_new hD o), fun a b => a.trans b, fun D o H' hD f => f.upd hD (h.ne hD), fun D H1 H2 xs hD _ e f => f.same _ _ (h.ne hD) e⟩
end L2
set_option Elab.async false
set_option linter.all false
namespace PySem
end PySem
set_option Elab.async false
set_option linter.all false
set_option maxRecDepth 100000
namespace My
open PySem PySem.Spec PyProof.Rows L2
set_option maxHeartbeats 400000
def top (i : Nat) : Stmt := PySem.Challenge.pw_shardask_k70_values_written.main.body.getD i (.Pass ⟨0, 0, 0, 0⟩)
abbrev s_is_whole : Stmt := top 7
abbrev s_is_word : Stmt := top 8
abbrev s_are_figures : Stmt := top 12
abbrev s_is_number_text : Stmt := top 13
abbrev s_is_word_text : Stmt := top 14
abbrev s_read_value : Stmt := top 15
abbrev s_shown_value : Stmt := top 17
abbrev s_shown_row : Stmt := top 18
abbrev s_shown_rows : Stmt := top 19
abbrev s__law_seed : Stmt := top 21
abbrev s__law_next : Stmt := top 22
abbrev s__law_great : Stmt := top 23
abbrev s__law_value : Stmt := top 24
abbrev s__law_shown_value : Stmt := top 25
abbrev s__law_shown_rows : Stmt := top 29
abbrev s__law_looked : Stmt := top 30
abbrev s__law_read : Stmt := top 31
abbrev s__law_same : Stmt := top 32
abbrev s__law_right : Stmt := top 33
abbrev s__law_spoilt : Stmt := top 34
abbrev s_law : Stmt := top 35
abbrev s_init : Stmt := inClass (top 1) 0
structure Txt (K : PySem.W.Frag) (mg : Str → Option Value) : Prop where
  n_ValueError : mg "ValueError" = none
  n_all : mg "all" = none
  n_bool : mg "bool" = none
  n_enumerate : mg "enumerate" = none
  n_int : mg "int" = none
  n_isinstance : mg "isinstance" = none
  n_len : mg "len" = none
  n_list : mg "list" = none
  n_max : mg "max" = none
  n_range : mg "range" = none
  n_str : mg "str" = none
  n_tuple : mg "tuple" = none
  g_LETTERS : ∃ u, mg "LETTERS" = some u ∧ RelV (.str "abcdefghijklmnopqrstuvwxyz") u
  g_MOST_LETTERS : ∃ u, mg "MOST_LETTERS" = some u ∧ RelV (.int 8) u
  g_FIGURES : ∃ u, mg "FIGURES" = some u ∧ RelV (.str "0123456789") u
  g_MOST_FIGURES : ∃ u, mg "MOST_FIGURES" = some u ∧ RelV (.int 60) u
  d_is_whole : Dn K mg "is_whole" s_is_whole ["thing"]
  d_is_word : Dn K mg "is_word" s_is_word ["thing"]
  d_are_figures : Dn K mg "are_figures" s_are_figures ["text"]
  d_is_number_text : Dn K mg "is_number_text" s_is_number_text ["text"]
  d_is_word_text : Dn K mg "is_word_text" s_is_word_text ["text"]
  d_read_value : Dn K mg "read_value" s_read_value ["word"]
  d_shown_value : Dn K mg "shown_value" s_shown_value ["value"]
  d_shown_row : Dn K mg "shown_row" s_shown_row ["row"]
  d_shown_rows : Dn K mg "shown_rows" s_shown_rows ["rows"]
  d__law_seed : Dn K mg "_law_seed" s__law_seed ["_law_script"]
  d__law_next : Dn K mg "_law_next" s__law_next ["_law_state", "_law_many"]
  d__law_great : Dn K mg "_law_great" s__law_great ["_law_state"]
  d__law_value : Dn K mg "_law_value" s__law_value ["_law_state", "_law_kind"]
  d__law_shown_value : Dn K mg "_law_shown_value" s__law_shown_value ["_law_value_here"]
  d__law_shown_rows : Dn K mg "_law_shown_rows" s__law_shown_rows ["_law_rows"]
  d__law_looked : Dn K mg "_law_looked" s__law_looked ["_law_word"]
  d__law_read : Dn K mg "_law_read" s__law_read ["_law_word"]
  d__law_same : Dn K mg "_law_same" s__law_same ["_law_one", "_law_other"]
  d__law_right : Dn K mg "_law_right" s__law_right ["_law_word"]
  d__law_spoilt : Dn K mg "_law_spoilt" s__law_spoilt ["_law_state", "_law_word"]
  d_law : Dn K mg "law" s_law ["_law_script"]
  x_ex : ∃ C S D, ExT K mg s_init "NoWords" "ShardError.__init__" C S ∧ mg "ShardError" = some (.ref S) ∧ XS K S ∧ mg "NoQuestion" = some (.ref D) ∧ XS K D ∧ PySem.W.mroIn K C (.ref D) = some false ∧ PySem.W.mroIn K C (.ref C) = some true ∧ PySem.W.mroIn K C (.type "ValueError") = some true
abbrev abc : Str := "abcdefghijklmnopqrstuvwxyz"
def Th (K : PySem.W.Frag) (H : Hp) (v : V) : Prop := (∃ x, v = .str x ∧ x.length ≤ 1000) ∨ (∃ i, v = .int i) ∨ (∃ b, v = .bl b) ∨ ∃ k, Rk K H v k
theorem Th.same {K : PySem.W.Frag} {H H' : Hp} {v : V} (e : Same H H') (h : Th K H v) : Th K H' v := by
  rcases h with h | h | h | ⟨k, h⟩
  · exact .inl h
  · exact .inr (.inl h)
  · exact .inr (.inr (.inl h))
  · exact .inr (.inr (.inr ⟨k, h.same e⟩))
def isiB : V → String → Bool
  | .int _, T => T == "int"
  | .str _, T => T == "str"
  | .bl _, T => T == "int" || T == "bool"
  | _, _ => false
def whole : V → Bool
  | .int _ => true
  | _ => false
theorem isi_any {K : PySem.W.Frag} {H : Hp} {v : V} {T : String} {Q : VK} (hv : Th K H v) (hT : T = "int" ∨ T = "bool" ∨ T = "str") (q : Q (.bl (isiB v T)) H) : rIsi [v, .ty T] H Q ∨ rIsiR K [v, .ty T] H Q := by
  rcases hv with ⟨x, rfl, _⟩ | ⟨i, rfl⟩ | ⟨b, rfl⟩ | ⟨k, h⟩
  · refine .inl ⟨_, _, _, rfl, ?_, q⟩
    rcases hT with rfl | rfl | rfl <;> simp [isiV, isiB]
  · refine .inl ⟨_, _, _, rfl, ?_, q⟩
    rcases hT with rfl | rfl | rfl <;> simp [isiV, isiB]
  · refine .inl ⟨_, _, _, rfl, ?_, q⟩
    rcases hT with rfl | rfl | rfl <;> simp [isiV, isiB]
  · refine .inr ⟨_, _, _, rfl, h, hT, ?_⟩
    cases h <;> exact q
theorem abc_cs : cs abc = [97, 98, 99, 100, 101, 102, 103, 104, 105, 106, 107, 108, 109, 110, 111, 112, 113, 114, 115, 116, 117, 118, 119, 120, 121, 122] := by decide +kernel
theorem inAbc (c : Nat) : inS abc ⟨#[c]⟩ = isL c := by
  unfold inS
  rw [PySem.StrLaws.found_one]
  show decide (c ∈ cs abc) = isL c
  rw [abc_cs, Bool.eq_iff_iff]
  simp only [isL, decide_eq_true_eq, Bool.and_eq_true, List.mem_cons, List.not_mem_nil, or_false]
  omega
theorem signs_bl (S x : Str) (f : Nat → Bool) (h : ∀ c, inS S ⟨#[c]⟩ = f c) : (((List.range x.cps.size).map fun i => V.str (sgn x i)).map fun v => match v with | .str y => V.bl (inS S y) | _ => .bl false) = (((List.range x.cps.size).map fun i => f (x.cps.getD i 0)).map V.bl) := by
  rw [List.map_map, List.map_map]
  apply List.map_congr_left
  intro i _
  show V.bl (inS S ⟨#[_]⟩) = V.bl _
  rw [h]
def sp_whole (K : PySem.W.Frag) : Sp := fun vs H Q _ => ∃ v, vs = [v] ∧ Th K H v ∧ Q (.bl (whole v)) H
def sp_t (f : Str → Bool) : Sp := fun vs H Q _ => ∃ x : Str, vs = [.str x] ∧ x.length ≤ 1000 ∧ ∀ H', Same H H' → Q (.bl (f x)) H'
def wordB (x : Str) : Bool := decide (x.length ≤ 8) && (cs x).all isL
theorem sc_is_whole : FnScope ["thing"] ["thing"] (defScope s_is_whole) := ⟨rfl, rfl, rfl, by decide +kernel, rfl, by decide +kernel, by decide +kernel⟩
theorem sc_is_word : FnScope ["thing"] ["thing"] (defScope s_is_word) := ⟨rfl, rfl, rfl, by decide +kernel, rfl, by decide +kernel, by decide +kernel⟩
theorem sc_are_figures : FnScope ["text"] ["text"] (defScope s_are_figures) := ⟨rfl, rfl, rfl, by decide +kernel, rfl, by decide +kernel, by decide +kernel⟩
theorem sc_is_number_text : FnScope ["text"] ["text"] (defScope s_is_number_text) := ⟨rfl, rfl, rfl, by decide +kernel, rfl, by decide +kernel, by decide +kernel⟩
theorem sc_is_word_text : FnScope ["text"] ["text"] (defScope s_is_word_text) := ⟨rfl, rfl, rfl, by decide +kernel, rfl, by decide +kernel, by decide +kernel⟩
theorem sc_read_value : FnScope ["word"] ["word"] (defScope s_read_value) := ⟨rfl, rfl, rfl, by decide +kernel, rfl, by decide +kernel, by decide +kernel⟩
theorem sc_shown_value : FnScope ["value"] ["value"] (defScope s_shown_value) := ⟨rfl, rfl, rfl, by decide +kernel, rfl, by decide +kernel, by decide +kernel⟩
theorem sc_shown_row : FnScope ["row"] ["row"] (defScope s_shown_row) := ⟨rfl, rfl, rfl, by decide +kernel, rfl, by decide +kernel, by decide +kernel⟩
theorem sc_shown_rows : FnScope ["rows"] ["rows"] (defScope s_shown_rows) := ⟨rfl, rfl, rfl, by decide +kernel, rfl, by decide +kernel, by decide +kernel⟩
theorem sc__law_seed : FnScope ["_law_script", "_law_seed_here", "_law_k", "_law_cell"] ["_law_script"] (defScope s__law_seed) := ⟨rfl, rfl, rfl, by decide +kernel, rfl, by decide +kernel, by decide +kernel⟩
theorem sc__law_next : FnScope ["_law_state", "_law_many"] ["_law_state", "_law_many"] (defScope s__law_next) := ⟨rfl, rfl, rfl, by decide +kernel, rfl, by decide +kernel, by decide +kernel⟩
theorem sc__law_great : FnScope ["_law_state", "_law_number", "_law_k"] ["_law_state"] (defScope s__law_great) := ⟨rfl, rfl, rfl, by decide +kernel, rfl, by decide +kernel, by decide +kernel⟩
theorem sc__law_value : FnScope ["_law_state", "_law_kind", "_law_way", "_law_word", "_law_k"] ["_law_state", "_law_kind"] (defScope s__law_value) := ⟨rfl, rfl, rfl, by decide +kernel, rfl, by decide +kernel, by decide +kernel⟩
theorem sc__law_shown_value : FnScope ["_law_value_here"] ["_law_value_here"] (defScope s__law_shown_value) := ⟨rfl, rfl, rfl, by decide +kernel, rfl, by decide +kernel, by decide +kernel⟩
theorem sc__law_shown_rows : FnScope ["_law_rows"] ["_law_rows"] (defScope s__law_shown_rows) := ⟨rfl, rfl, rfl, by decide +kernel, rfl, by decide +kernel, by decide +kernel⟩
theorem sc__law_looked : FnScope ["_law_word", "_law_letters", "_law_figures", "_law_number", "_law_sign"] ["_law_word"] (defScope s__law_looked) := ⟨rfl, rfl, rfl, by decide +kernel, rfl, by decide +kernel, by decide +kernel⟩
theorem sc__law_read : FnScope ["_law_word", "_law_kinds", "_law_found", "e"] ["_law_word"] (defScope s__law_read) := ⟨rfl, rfl, rfl, by decide +kernel, rfl, by decide +kernel, by decide +kernel⟩
theorem sc__law_same : FnScope ["_law_one", "_law_other"] ["_law_one", "_law_other"] (defScope s__law_same) := ⟨rfl, rfl, rfl, by decide +kernel, rfl, by decide +kernel, by decide +kernel⟩
theorem sc__law_right : FnScope ["_law_word", "_law_good", "_law_value_here", "_law_kinds", "_law_found"] ["_law_word"] (defScope s__law_right) := ⟨rfl, rfl, rfl, by decide +kernel, rfl, by decide +kernel, by decide +kernel⟩
theorem sc__law_spoilt : FnScope ["_law_state", "_law_word", "_law_at", "_law_sign", "_law_way"] ["_law_state", "_law_word"] (defScope s__law_spoilt) := ⟨rfl, rfl, rfl, by decide +kernel, rfl, by decide +kernel, by decide +kernel⟩
theorem sc_law : FnScope ["_law_script", "_law_state", "_law_values", "_law_k", "_law_value_here", "_law_word", "_law_thing", "_law_kinds", "_law_rows"] ["_law_script"] (defScope s_law) := ⟨rfl, rfl, rfl, by decide +kernel, rfl, by decide +kernel, by decide +kernel⟩
theorem sc_init : FnScope ["self", "act"] ["self", "act"] (defScope s_init) := ⟨rfl, rfl, rfl, by decide +kernel, rfl, by decide +kernel, by decide +kernel⟩
section
variable {P : Program} {w : World} {K : PySem.W.Frag} {mg : Str → Option Value} {base : Heap}
theorem ok_is_whole (T : Txt K mg) : Ok P w K mg base 1 "is_whole" ["thing"] (sp_whole K) := by
  refine Ok.ofV T.d_is_whole sc_is_whole (fun vs H Q E h => ?_) (fun f cdv A outer s H vs Q E hr h => ?_)
  · obtain ⟨v, rfl, _⟩ := h; rfl
  obtain ⟨v, rfl, hv, q⟩ := h
  refine ⟨_, (vss_one (vs_ret (ve_and (ve_callB (call_isi.or call_isiR) (by rfl) T.n_isinstance bf_isinstance (va_c (vv 0) (va_c (ve_bltn (v := .ty "int") (by rfl) T.n_int bt_int rfl) va_nil))) (ve_one (ve_not (ve_callB (call_isi.or call_isiR) (by rfl) T.n_isinstance bf_isinstance (va_c (vv 0) (va_c (ve_bltn (v := .ty "bool") (by rfl) T.n_bool bt_bool rfl) va_nil)))))))), ?_⟩
  refine ⟨_, rfl, isi_any hv (.inl rfl) ⟨_, rfl, ?_⟩⟩
  rcases id hv with ⟨x, rfl, _⟩ | ⟨i, rfl⟩ | ⟨b, rfl⟩ | ⟨k, h⟩
  · exact iteF q
  · exact iteT ⟨_, rfl, isi_any hv (.inr (.inl rfl)) ⟨_, rfl, q⟩⟩
  · exact iteT ⟨_, rfl, isi_any hv (.inr (.inl rfl)) ⟨_, rfl, q⟩⟩
  · cases h <;> exact iteF q
theorem ok_is_word (T : Txt K mg) : Ok P w K mg base 1 "is_word" ["thing"] (sp_t wordB) := by
  refine Ok.ofV T.d_is_word sc_is_word (fun vs H Q E h => ?_) (fun f cdv A outer s H vs Q E hr h => ?_)
  · obtain ⟨v, rfl, _⟩ := h; rfl
  obtain ⟨x, rfl, hx, q⟩ := h
  have hv : Th K H (.str x) := .inl ⟨x, rfl, hx⟩
  refine ⟨_, (vss_cons (vs_if (VW.pt (vw_or (vt_not (vt_val (ve_callB (call_isi.or call_isiR) (by rfl) T.n_isinstance bf_isinstance (va_c (vv 0) (va_c (ve_bltn (v := .ty "str") (by rfl) T.n_str bt_str rfl) va_nil))))) (vw_or1 (vt_cmpR op_gt (ve_callB call_len_str (by rfl) T.n_len bf_len (va_c (vv 0) va_nil)) (ve_gl (by rfl) T.g_MOST_LETTERS) (nomark _))))) (vss_one (vs_ret ve_bl)) vss_nil) (vss_one (vs_ret (ve_callB (call_all rfl) (by rfl) T.n_all bf_all (va_c (ve_comp (N := ["sign"]) ⟨by decide +kernel, rfl, by decide +kernel, by decide +kernel⟩ (hfr_none (by decide +kernel)) rfl (vi_str (vv 0)) (fun cl s' H' fp => ⟨(vg_name (i := 0) (show (["sign"] : List Str).Nodup from by decide +kernel) rfl (Or.inl rfl)), vf_nil, (ve_cmpR op_in_str (vv 0) (ve_gl (by rfl) T.g_LETTERS) (by with_unfolding_all rfl))⟩)) va_nil))))), ?_⟩
  refine ⟨_, rfl, isi_any hv (.inr (.inr rfl)) ⟨_, rfl, ?_⟩⟩
  refine iteF ⟨_, rfl, _, rfl, small hx, _, _, rfl, rfl, _, rfl, ?_⟩
  refine ite2 (fun c => ?_) (fun c => ?_)
  · have c' : (8 : Int) < x.length := of_decide_eq_true c
    have z : wordB x = false := by
      unfold wordB
      rw [decide_eq_false (p := x.length ≤ 8) (by omega)]
      rfl
    rw [← z]; exact q H (Same.refl H)
  · have c' : ¬ (8 : Int) < x.length := of_decide_eq_false (Bool.eq_false_iff.mpr c)
    dsimp only [tNext, tRet, tCB, tCons]
    refine comp_pure ((List.range x.cps.size).map fun i => V.str (sgn x i)) (fun v => match v with | .str y => V.bl (inS abc y) | _ => .bl false) [none] cap_none1 ?_
      (fun R r => wi_str (z := x) (fun R' r' => ⟨_, rfl, r'⟩) R r) (fun v hv' H' R l sm r => ?_) rfl fun D hD => ?_
    · rw [List.length_map, List.length_range]; exact small hx
    · obtain ⟨i, _, rfl⟩ := List.mem_map.mp hv'
      exact ⟨_, rfl, _, _, rfl, rfl, r⟩
    · refine ⟨D, (List.range x.cps.size).map fun i => isL (x.cps.getD i 0), rfl, SqL.of (by rw [upd_same, signs_bl _ _ _ inAbc]), ?_⟩
      rw [range_all]
      have z : wordB x = (cs x).all isL := by
        unfold wordB
        rw [decide_eq_true (p := x.length ≤ 8) (by omega)]
        rfl
      rw [← z]
      exact q _ (same_new hD _)
def figB (x : Str) : Bool := figL (cs x)
theorem ok_are_figures (T : Txt K mg) : Ok P w K mg base 1 "are_figures" ["text"] (sp_t figB) := by
  refine Ok.ofV T.d_are_figures sc_are_figures (fun vs H Q E h => ?_) (fun f cdv A outer s H vs Q E hr h => ?_)
  · obtain ⟨v, rfl, _⟩ := h; rfl
  obtain ⟨x, rfl, hx, q⟩ := h
  refine ⟨_, (vss_cons (vs_if (VW.pt (vw_or (vt_not (vt_chain op_le op_le ve_int (ve_callB call_len_str (by rfl) T.n_len bf_len (va_c (vv 0) va_nil)) (ve_gl (by rfl) T.g_MOST_FIGURES))) (vw_or1 (vt_not (vt_val (ve_callB (call_all rfl) (by rfl) T.n_all bf_all (va_c (ve_comp (N := ["sign"]) ⟨by decide +kernel, rfl, by decide +kernel, by decide +kernel⟩ (hfr_none (by decide +kernel)) rfl (vi_str (vv 0)) (fun cl s' H' fp => ⟨(vg_name (i := 0) (show (["sign"] : List Str).Nodup from by decide +kernel) rfl (Or.inl rfl)), vf_nil, (ve_cmpR op_in_str (vv 0) (ve_gl (by rfl) T.g_FIGURES) (by with_unfolding_all rfl))⟩)) va_nil))))))) (vss_one (vs_ret ve_bl)) vss_nil) (vss_one (vs_ret (ve_or (ve_cmpR op_eq (vv 0) ve_str (nomark _)) (ve_one (ve_cmpR op_ne (ve_item_str (vv 0) ve_int (fun _ _ => rfl)) ve_str (nomark _))))))), ?_⟩
  refine ⟨_, rfl, _, rfl, small hx, _, _, rfl, rfl, _, rfl, ?_⟩
  have hl := len_cs x
  have no : figB x = false → Q (.bl false) H := fun e => by rw [← e]; exact q H (Same.refl H)
  refine ite2 (fun c => ⟨_, _, rfl, rfl, _, rfl, ?_⟩) (fun c => ?_)
  · have c1 : (1 : Int) ≤ x.length := of_decide_eq_true c
    by_cases h60 : x.length ≤ 60
    · rw [decide_eq_true (p := (x.length : Int) ≤ 60) (by omega)]
      refine iteF ?_
      dsimp only [tNext, tRet, tCB, tCons, tB, tNot]
      refine comp_pure ((List.range x.cps.size).map fun i => V.str (sgn x i)) (fun v => match v with | .str y => V.bl (inS figs y) | _ => .bl false) [none] cap_none1 ?_
        (fun R r => wi_str (z := x) (fun R' r' => ⟨_, rfl, r'⟩) R r) (fun v hv' H' R l sm r => ?_) rfl fun D hD => ?_
      · rw [List.length_map, List.length_range]; exact small hx
      · obtain ⟨i, _, rfl⟩ := List.mem_map.mp hv'
        exact ⟨_, rfl, _, _, rfl, rfl, r⟩
      · refine ⟨D, (List.range x.cps.size).map fun i => isD (x.cps.getD i 0), rfl, SqL.of (by rw [upd_same, signs_bl _ _ _ inF]), ?_⟩
        rw [range_all]
        have sm := same_new hD (.lst (((List.range x.cps.size).map fun i => V.str (sgn x i)).map fun v => match v with | .str y => V.bl (inS figs y) | _ => .bl false))
        have z : figB x = ((cs x).all isD && (decide (cs x = [48]) || !decide ((cs x).head? = some 48))) := by
          unfold figB figL
          rw [decide_eq_true (p := 1 ≤ (cs x).length) (by omega), decide_eq_true (p := (cs x).length ≤ 60) (by omega)]
          rfl
        have fin : ∀ b, figB x = b → Q (.bl b) _ := fun b e => by rw [← e]; exact q _ sm
        refine ⟨_, rfl, ?_⟩
        cases ha : (cs x).all isD with
        | false =>
          rw [ha] at z
          exact iteT (fin _ z)
        | true =>
          rw [ha] at z
          refine iteF ⟨_, rfl, rfl, _, rfl, ?_⟩
          have z0 : ∀ y : Str, decide (V.str x = V.str y) = decide (cs x = cs y) := fun y => decide_eq_decide.mpr ⟨fun e => str_eq.mp (V.str.inj e), fun e => congrArg V.str (str_eq.mpr e)⟩
          rw [z0, show cs "0" = [48] by decide +kernel]
          cases h0 : decide (cs x = [48]) with
          | true =>
            rw [h0] at z
            exact iteT (fin _ z)
          | false =>
            rw [h0] at z
            refine iteF ?_
            have hn : 0 < x.cps.size := by have : x.length = x.cps.size := rfl; omega
            refine ⟨_, rfl, _, _, _, rfl, rfl, (by decide), (by decide), (by omega), Array.getElem?_eq_getElem hn, rfl, ?_⟩
            have z2 : (!decide (V.str ⟨#[x.cps[0]]⟩ = V.str "0")) = !decide ((cs x).head? = some 48) := by
              congr 1
              refine decide_eq_decide.mpr ⟨fun e => ?_, fun e => ?_⟩
              · have e1 := str_eq.mp (V.str.inj e)
                rw [show cs "0" = [48] by decide +kernel] at e1
                have e2 : x.cps[0] = 48 := by simpa [cs] using e1
                rw [List.head?_eq_getElem?, Array.getElem?_toList, Array.getElem?_eq_getElem hn, e2]
              · rw [List.head?_eq_getElem?, Array.getElem?_toList, Array.getElem?_eq_getElem hn] at e
                rw [Option.some.inj e]
                decide +kernel
            rw [z2]
            exact fin _ z
    · rw [decide_eq_false (p := (x.length : Int) ≤ 60) (by omega)]
      refine iteT (no ?_)
      unfold figB figL
      rw [decide_eq_false (p := (cs x).length ≤ 60) (by omega)]
      simp
  · have c1 : ¬ (1 : Int) ≤ x.length := of_decide_eq_false (Bool.eq_false_iff.mpr c)
    refine ⟨_, rfl, iteT (no ?_)⟩
    unfold figB figL
    rw [decide_eq_false (p := 1 ≤ (cs x).length) (by omega)]
    simp
def numB (x : Str) : Bool := numL (cs x)
def qtB (x : Str) : Bool := wrdL (cs x)
theorem head1 (x : Str) : decide (V.str ⟨((cs x).take 1).toArray⟩ = V.str "-") = decide ((cs x).head? = some 45) := by
  refine decide_eq_decide.mpr ⟨fun e => ?_, fun e => ?_⟩
  · have e1 := str_eq.mp (V.str.inj e)
    rw [show cs "-" = [45] by decide +kernel] at e1
    have e2 : (cs x).take 1 = [45] := by simpa [cs] using e1
    cases h : cs x with
    | nil => rw [h] at e2; cases e2
    | cons a t => rw [h] at e2; simp at e2; rw [e2]; rfl
  · cases h : cs x with
    | nil => rw [h] at e; cases e
    | cons a t =>
      rw [h] at e
      cases e
      exact congrArg V.str (str_eq.mpr (by rw [show cs "-" = [45] by decide +kernel]; rfl))
theorem ok_is_number_text (T : Txt K mg) (G_are_figures : Ok P w K mg base 1 "are_figures" ["text"] (sp_t figB)) : Ok P w K mg base 2 "is_number_text" ["text"] (sp_t numB) := by
  refine Ok.ofV T.d_is_number_text sc_is_number_text (fun vs H Q E h => ?_) (fun f cdv A outer s H vs Q E hr h => ?_)
  · obtain ⟨v, rfl, _⟩ := h; rfl
  obtain ⟨x, rfl, hx, q⟩ := h
  refine ⟨_, (vss_cons (vs_if (vt_cmpR op_eq (ve_slice sl_strX (vv 0) vo_none (vo_some ve_int)) ve_str (nomark _)) (vss_one (vs_ret (ve_and (ve_fn (G_are_figures.mono (by decide)) hr (by rfl) (va_c (ve_slice sl_strX (vv 0) (vo_some ve_int) vo_none) va_nil)) (ve_one (ve_cmpR op_ne (vv 0) ve_str (nomark _)))))) vss_nil) (vss_one (vs_ret (ve_fn (G_are_figures.mono (by decide)) hr (by rfl) (va_c (vv 0) va_nil))))), ?_⟩
  have hl := len_cs x
  refine ⟨_, rfl, _, rfl, _, rfl, small hx, ?_⟩
  rw [slTo1]
  refine ⟨rfl, _, rfl, ?_⟩
  rw [head1]
  refine ite2 (fun c => ?_) (fun c => ?_)
  · have hd : (cs x).head? = some 45 := of_decide_eq_true c
    have h1 : 1 ≤ (cs x).length := by cases h : cs x with
      | nil => rw [h] at hd; cases hd
      | cons _ _ => simp
    refine ⟨_, rfl, _, rfl, _, rfl, small hx, ?_⟩
    rw [slFrom1 h1]
    refine ⟨_, rfl, (by show (List.toArray _).size ≤ 1000; rw [List.size_toArray, List.length_tail]; omega), fun H1 s1 => ⟨_, rfl, ?_⟩⟩
    have z : numB x = (figL (cs x).tail && !decide (cs x = [45, 48])) := by unfold numB numL; rw [if_pos hd]
    have e1 : figB ⟨(cs x).tail.toArray⟩ = figL (cs x).tail := rfl
    rw [e1]
    have fin : ∀ b, numB x = b → Q (.bl b) H1 := fun b e => by rw [← e]; exact q _ s1
    cases hf : figL (cs x).tail with
    | false => rw [hf] at z; exact iteF (fin _ z)
    | true =>
      rw [hf] at z
      refine iteT ⟨_, rfl, rfl, ?_⟩
      have z0 : decide (V.str x = V.str "-0") = decide (cs x = [45, 48]) := decide_eq_decide.mpr ⟨fun e => by rw [str_eq.mp (V.str.inj e)]; decide +kernel, fun e => congrArg V.str (str_eq.mpr (by rw [e]; decide +kernel))⟩
      show Q (.bl (!decide (V.str x = V.str "-0"))) H1
      rw [z0]
      exact fin _ z
  · have hd : ¬ (cs x).head? = some 45 := of_decide_eq_false (Bool.eq_false_iff.mpr c)
    refine ⟨_, rfl, _, rfl, hx, fun H1 s1 => ?_⟩
    have z : numB x = figB x := by unfold numB numL figB; rw [if_neg hd]
    rw [← z]
    exact q _ s1
theorem first_is {x : Str} (hn : 0 < x.cps.size) (y : Str) (c : Nat) (hy : cs y = [c]) : decide (V.str ⟨#[x.cps[0]]⟩ = V.str y) = decide ((cs x).head? = some c) := by
  have e0 : (cs x).head? = some x.cps[0] := by rw [List.head?_eq_getElem?, Array.getElem?_toList, Array.getElem?_eq_getElem hn]
  refine decide_eq_decide.mpr ⟨fun e => ?_, fun e => ?_⟩
  · have e1 := str_eq.mp (V.str.inj e)
    rw [hy] at e1
    have e2 : x.cps[0] = c := by simpa [cs] using e1
    rw [e0, e2]
  · rw [e0] at e
    rw [Option.some.inj e]
    exact congrArg V.str (str_eq.mpr (by rw [hy]))
theorem last_at {x : Str} (hn : 0 < x.cps.size) : (seqIndex? (-1) x.length).bind (x.cps[·]?) = some (x.cps[x.cps.size - 1]'(by omega)) := by
  have hl : x.length = x.cps.size := rfl
  rw [PySem.StrLaws.seqIndex_neg (by decide) (by omega)]
  show x.cps[((-1 : Int) + x.length).toNat]? = _
  rw [show ((-1 : Int) + x.length).toNat = x.cps.size - 1 by omega, Array.getElem?_eq_getElem (by omega)]
theorem last_is {x : Str} (hn : 0 < x.cps.size) (y : Str) (c : Nat) (hy : cs y = [c]) : decide (V.str ⟨#[x.cps[x.cps.size - 1]'(by omega)]⟩ = V.str y) = decide ((cs x).getLast? = some c) := by
  have e0 : (cs x).getLast? = some (x.cps[x.cps.size - 1]'(by omega)) := by rw [List.getLast?_eq_getElem?, Array.getElem?_toList, Array.length_toList, Array.getElem?_eq_getElem (by omega)]
  refine decide_eq_decide.mpr ⟨fun e => ?_, fun e => ?_⟩
  · have e1 := str_eq.mp (V.str.inj e)
    rw [hy] at e1
    have e2 : x.cps[x.cps.size - 1]'(by omega) = c := by simpa [cs] using e1
    rw [e0, e2]
  · rw [e0] at e
    rw [Option.some.inj e]
    exact congrArg V.str (str_eq.mpr (by rw [hy]))
theorem ok_is_word_text (T : Txt K mg) (G_is_word : Ok P w K mg base 1 "is_word" ["thing"] (sp_t wordB)) : Ok P w K mg base 2 "is_word_text" ["text"] (sp_t qtB) := by
  refine Ok.ofV T.d_is_word_text sc_is_word_text (fun vs H Q E h => ?_) (fun f cdv A outer s H vs Q E hr h => ?_)
  · obtain ⟨v, rfl, _⟩ := h; rfl
  obtain ⟨x, rfl, hx, q⟩ := h
  refine ⟨_, (vss_one (vs_ret (ve_and (ve_cmpR op_ge (ve_callB call_len_str (by rfl) T.n_len bf_len (va_c (vv 0) va_nil)) ve_int (nomark _)) (ve_and (ve_cmpR op_eq (ve_item_str (vv 0) ve_int (fun _ _ => rfl)) ve_str (nomark _)) (ve_and (ve_cmpR op_eq (ve_item_strN (vv 0) (ve_un un_neg ve_int) (fun _ _ => rfl)) ve_str (nomark _)) (ve_one (ve_fn (G_is_word.mono (by decide)) hr (by rfl) (va_c (ve_slice sl_strX (vv 0) (vo_some ve_int) (vo_some (ve_un un_neg ve_int))) va_nil)))))))), ?_⟩
  have hl := len_cs x
  have hq : cs "'" = [39] := cs_q
  have fin : ∀ b, qtB x = b → Q (.bl b) H := fun b e => by rw [← e]; exact q _ (Same.refl H)
  refine ⟨_, rfl, _, rfl, small hx, _, _, rfl, rfl, _, rfl, ?_⟩
  unfold qtB wrdL at fin
  refine ite2 (fun c => ?_) (fun c => ?_)
  · have h2 : 2 ≤ (cs x).length := by have : (2 : Int) ≤ x.length := of_decide_eq_true c; omega
    have hn : 0 < x.cps.size := by have : x.length = x.cps.size := rfl; omega
    rw [decide_eq_true h2] at fin
    refine ⟨_, rfl, _, _, _, rfl, rfl, (by decide), (by decide), (by omega), Array.getElem?_eq_getElem hn, rfl, _, rfl, ?_⟩
    rw [first_is hn _ _ hq]
    cases h0 : decide ((cs x).head? = some 39) with
    | false => rw [h0] at fin; exact iteF (fin _ rfl)
    | true =>
      rw [h0] at fin
      refine iteT ⟨_, rfl, _, rfl, _, _, _, rfl, rfl, (by decide), (by decide), last_at hn, rfl, _, rfl, ?_⟩
      rw [last_is hn _ _ hq]
      cases h1 : decide ((cs x).getLast? = some 39) with
      | false => rw [h1] at fin; exact iteF (fin _ rfl)
      | true =>
        rw [h1] at fin
        refine iteT ⟨_, rfl, _, rfl, _, rfl, _, rfl, _, rfl, small hx, ?_⟩
        show sp_t wordB [V.str (Txt.slice x (some 1) (some (-1)))] H Q E0
        rw [slIn h2]
        have li : (⟨(inn (cs x)).toArray⟩ : Str).length = (inn (cs x)).length := by show (List.toArray _).size = _; rw [List.size_toArray]
        have le : (inn (cs x)).length ≤ (cs x).length := by unfold inn; rw [List.length_dropLast, List.length_tail]; omega
        refine ⟨_, rfl, by rw [li]; omega, fun H1 s1 => ?_⟩
        have z : wordB ⟨(inn (cs x)).toArray⟩ = qtB x := by
          unfold wordB qtB wrdL
          rw [li, decide_eq_true h2, h0, h1]
          rfl
        rw [z]
        exact q _ s1
  · have h2 : ¬ 2 ≤ (cs x).length := by have : ¬ (2 : Int) ≤ x.length := of_decide_eq_false (Bool.eq_false_iff.mpr c); omega
    rw [decide_eq_false h2] at fin
    exact fin _ rfl
def rdT (v : V) : Option V := match v with
  | .str x => rdV x
  | _ => none
def sp_read (K : PySem.W.Frag) (C : Addr) : Sp := fun vs H Q E => ∃ v, vs = [v] ∧ Th K H v ∧ match rdT v with
  | some u => ∀ H', Same H H' → Q u H'
  | none => ∀ e H', Same H H' → E (.ref C) (some e) H'
theorem hinit (T : Txt K mg) (fI : Addr) : ∀ (X : Cx), X.N = (["self", "act"] : List Str) → X.env.scope = defScope s_init → X.mg = mg → VSs X (defBody s_init) (tSeq (tDrop (tVI X.K fI (tCons (tVar 0) (tCons (tVar 1) tNil)))) (tActS X.K fI (tVar 0) (tVar 1))) := by
  intro X hN hs hm
  have v0 : ∀ {pos : Pos}, VE X (.Name "self" pos) (tVar 0) := fun {pos} => vv 0 (by rw [hN]; rfl) (by left; rw [hs]; rfl)
  have v1 : ∀ {pos : Pos}, VE X (.Name "act" pos) (tVar 1) := fun {pos} => vv 1 (by rw [hN]; rfl) (by left; rw [hs]; rfl)
  have g : Gl X "ValueError" := by
    show X.env.scope.names.lookup _ = _
    rw [hs]; rfl
  exact vss_cons ⟨ps_expr (pe_vinit (fI := fI) g (by rw [hm]; exact T.n_ValueError) (pa_c v0.1 (pa_c v1.1 pa_nil)))⟩ (vss_one ⟨ps_act v0.1 v1.1⟩)
theorem ok_read_value (T : Txt K mg) {C S : Addr} (hx_NoWords : ExT K mg s_init "NoWords" "ShardError.__init__" C S) (G_is_number_text : Ok P w K mg base 2 "is_number_text" ["text"] (sp_t numB)) (G_is_word_text : Ok P w K mg base 2 "is_word_text" ["text"] (sp_t qtB)) :
    OkX P w K mg base 3 "read_value" ["word"] (sp_read K C) := by
  refine OkX.ofV T.d_read_value sc_read_value (fun vs H Q E h => ?_) (fun f cdv A outer s H vs Q E hr h => ?_)
  · obtain ⟨v, rfl, _⟩ := h; rfl
  obtain ⟨v, rfl, hv, q⟩ := h
  have hinit := fun {fI : Addr} => hinit T fI
  refine ⟨_, (vss_cons (vs_if (vt_not (vt_val (ve_callB (call_isi.or call_isiR) (by rfl) T.n_isinstance bf_isinstance (va_c (vv 0) (va_c (ve_bltn (v := .ty "str") (by rfl) T.n_str bt_str rfl) va_nil))))) (vss_one (vs_raise hx_NoWords (fun fI fd F => init_ok (k := 0) F sc_init hinit) (hr.mono (by decide)) raises_cx rfl (by rfl) (va_c ve_non va_nil))) vss_nil) (vss_cons (vs_if (vt_val (ve_fn (G_is_number_text.mono (by decide)) hr (by rfl) (va_c (vv 0) va_nil))) (vss_one (vs_ret (ve_callTy call_intT (by rfl) T.n_int bt_int (va_c (vv 0) va_nil)))) vss_nil) (vss_cons (vs_if (vt_val (ve_fn (G_is_word_text.mono (by decide)) hr (by rfl) (va_c (vv 0) va_nil))) (vss_one (vs_ret (ve_slice sl_strX (vv 0) (vo_some ve_int) (vo_some (ve_un un_neg ve_int))))) vss_nil) (vss_one (vs_raise hx_NoWords (fun fI fd F => init_ok (k := 0) F sc_init hinit) (hr.mono (by decide)) raises_cx rfl (by rfl) (va_c ve_non va_nil)))))), ?_⟩
  refine ⟨_, rfl, isi_any hv (.inr (.inr rfl)) ⟨_, rfl, ?_⟩⟩
  have rs : ∀ {H1 : Hp} {D : Ends} {σ : L2.St}, Same H H1 → rdT v = none → tRaise C E (tCons (tC V.non) tNil) D σ H1 := fun {H1 D σ} s1 e => by
    rw [e] at q
    exact ⟨rfl, fun a dx n1 n2 ne => q a _ (s1.trans (same_new n2 _))⟩
  rcases id hv with ⟨x, rfl, hx⟩ | ⟨i, rfl⟩ | ⟨b, rfl⟩ | ⟨k, h⟩
  · refine iteF ⟨_, rfl, _, rfl, hx, fun H1 s1 => ⟨_, rfl, ?_⟩⟩
    have hl := len_cs x
    have er : rdT (.str x) = if numB x then some (.int (valL (cs x))) else if qtB x then some (.str ⟨(inn (cs x)).toArray⟩) else none := rfl
    rw [er] at q
    cases hn : numB x with
    | true =>
      rw [hn, if_pos rfl] at q
      exact iteT ⟨_, rfl, _, _, rfl, (num_int hn).1, (num_int hn).2, q H1 s1⟩
    | false =>
      rw [hn, if_neg (by decide)] at q er
      refine iteF ⟨_, rfl, _, rfl, hx, fun H2 s2 => ⟨_, rfl, ?_⟩⟩
      cases hw : qtB x with
      | true =>
        rw [hw, if_pos rfl] at q
        have h2 : 2 ≤ (cs x).length := by
          have := hw
          unfold qtB wrdL at this
          exact of_decide_eq_true (Bool.and_eq_true_iff.mp this).1
        refine iteT ⟨_, rfl, _, rfl, _, rfl, _, rfl, _, rfl, small hx, ?_⟩
        show Q (V.str (Txt.slice x (some 1) (some (-1)))) H2
        rw [slIn h2]
        exact q H2 (s1.trans s2)
      | false =>
        rw [hw, if_neg (by decide)] at er
        exact iteF (rs (D := { nx := fun _ _ => True, rt := Q }) (σ := []) (s1.trans s2) er)
  · exact iteT (rs (Same.refl H) rfl)
  · exact iteT (rs (Same.refl H) rfl)
  · cases h <;> exact iteT (rs (Same.refl H) rfl)
def sp_shown : Sp := fun vs H Q _ => ∃ v, vs = [v] ∧ Vl v ∧ Q (.str (shw v)) H
theorem Vl.th {K : PySem.W.Frag} {H : Hp} {v : V} (h : Vl v) : Th K H v := by
  rcases h with ⟨i, rfl, _⟩ | ⟨x, rfl, _, h⟩
  · exact .inr (.inl ⟨i, rfl⟩)
  · exact .inl ⟨x, rfl, by omega⟩
theorem log_lt {i : Int} (h : i.natAbs < 10 ^ 60) : i.natAbs.log2 < 1920 := by
  by_cases z : i.natAbs = 0
  · rw [z]; decide
  · exact (Nat.log2_lt z).mpr (Nat.lt_trans h (by decide +kernel))
theorem ok_shown_value (T : Txt K mg) (G_is_whole : Ok P w K mg base 1 "is_whole" ["thing"] (sp_whole K)) : Ok P w K mg base 2 "shown_value" ["value"] sp_shown := by
  refine Ok.ofV T.d_shown_value sc_shown_value (fun vs H Q E h => ?_) (fun f cdv A outer s H vs Q E hr h => ?_)
  · obtain ⟨v, rfl, _⟩ := h; rfl
  obtain ⟨v, rfl, hv, q⟩ := h
  refine ⟨_, (vss_one (vs_ret (ve_ifExp (vt_val (ve_fn (G_is_whole.mono (by decide)) hr (by rfl) (va_c (vv 0) va_nil))) (ve_callTy call_str_int (by rfl) T.n_str bt_str (va_c (vv 0) va_nil)) (ve_op op_add_str (ve_op op_add_str ve_str (vv 0)) ve_str)))), ?_⟩
  refine ⟨_, rfl, _, rfl, hv.th, _, rfl, ?_⟩
  rcases hv with ⟨i, rfl, hi⟩ | ⟨x, rfl, hx, h8⟩
  · exact iteT ⟨_, rfl, _, rfl, log_lt hi, q⟩
  · refine iteF ⟨_, rfl, _, _, rfl, rfl, ?_, _, _, rfl, rfl, ?_, q⟩
    · show Str.length "'" + x.length ≤ sizeLine
      have : Str.length "'" = 1 := by decide +kernel
      exact small (by omega)
    · have e1 : Str.length "'" = 1 := by decide +kernel
      have e2 : (("'" : Str) ++ x).length = 1 + x.length := by rw [len_cs, cs_app, cs_q, List.length_append, ← len_cs]; rfl
      show (("'" : Str) ++ x).length + Str.length "'" ≤ sizeLine
      exact small (by omega)
end
end My
set_option Elab.async false
set_option linter.all false
set_option maxRecDepth 100000
namespace My
open PySem PySem.Spec PyProof.Rows L2
set_option maxHeartbeats 400000
section
variable {P : Program} {w : World} {K : PySem.W.Frag} {mg : Str → Option Value} {base : Heap}
theorem at0 (x : V) (r : List V) : atI (x :: r) 0 = some x := by
  unfold atI ixN
  simp
theorem map_at {ns : List Int} {i : Nat} {x : V} (h : (ns.map V.int)[i]? = some x) : ∃ z, ns[i]? = some z ∧ x = .int z := by
  rw [List.getElem?_map] at h
  cases e : ns[i]? with
  | none => rw [e] at h; cases h
  | some z => rw [e] at h; cases h; exact ⟨z, rfl, rfl⟩
theorem sign_at {z : Str} {j : Int} (h0 : 0 ≤ j) (h1 : j < z.length) : ∃ c, z.cps[j.toNat]? = some c :=
  ⟨_, Array.getElem?_eq_getElem (by show j.toNat < z.length; omega)⟩
theorem add_len (x y : Str) : (x ++ y).length = x.length + y.length := by
  show (x.cps ++ y.cps).size = _
  rw [Array.size_append]
  rfl
theorem at_of {xs : List V} {j : Int} (h0 : 0 ≤ j) (h1 : j < xs.length) : ∃ v, atI xs j = some v ∧ v ∈ xs := by
  have hj : j.toNat < xs.length := by omega
  refine ⟨xs[j.toNat], ?_, List.getElem_mem hj⟩
  have e2 : atI xs ((j.toNat : Nat) : Int) = some xs[j.toNat] := atI_nat (List.getElem?_eq_getElem hj)
  rw [show ((j.toNat : Nat) : Int) = j by omega] at e2
  exact e2
theorem Lets.add {x y : Str} (hx : Lets x) (hy : Lets y) : Lets (x ++ y) := fun c hc => by
  have hc : c ∈ x.cps ++ y.cps := hc
  rcases Array.mem_append.mp hc with h | h
  · exact hx c h
  · exact hy c h
theorem Lets.one {z : Str} {i c : Nat} (hz : Lets z) (h : z.cps[i]? = some c) : Lets ⟨#[c]⟩ := fun d hd => by
  have hd : d ∈ #[c] := hd
  have e : d = c := by simpa using hd
  subst e
  exact hz _ (Array.mem_of_getElem? h)
theorem lets_abc : Lets abc := by
  have h : (abc.cps.all fun c => decide (97 ≤ c) && decide (c ≤ 122)) = true := by decide +kernel
  intro c hc
  have := (Array.all_eq_true_iff_forall_mem.mp h) c hc
  rw [Bool.and_eq_true] at this
  exact ⟨of_decide_eq_true this.1, of_decide_eq_true this.2⟩
def sp_seed (K : PySem.W.Frag) : Sp := fun vs H Q _ => ∃ (a : Addr) (ns : List Int), vs = [.ref a] ∧ SqL K H a (ns.map V.int) ∧ ns.length ≤ 63 ∧ ∀ c H', Same H H' → 0 ≤ c → c < M61 → Q (.int c) H'
theorem ok__law_seed (T : Txt K mg) : Ok P w K mg base 1 "_law_seed" ["_law_script"] (sp_seed K) := by
  refine Ok.ofV T.d__law_seed sc__law_seed (fun vs H Q E h => ?_) (fun f cdv A outer s H vs Q E hr h => ?_)
  · obtain ⟨a, ns, rfl, _⟩ := h; rfl
  obtain ⟨a, ns, rfl, ha, h63, q⟩ := h
  refine ⟨_, (vss_cons (vs_set (i := 1) sc__law_seed.nd rfl (by first | exact Or.inl rfl | exact Or.inr rfl) ve_int) (vss_cons (vs_for PassesOwn.never rfl (vi_enum (by rfl) T.n_enumerate (va_c (vv 0) va_nil)) (vg_tup rfl (vgs_cons (vg_name (i := 2) sc__law_seed.nd rfl (by first | exact Or.inl rfl | exact Or.inr rfl)) (vgs_cons (vg_name (i := 3) sc__law_seed.nd rfl (by first | exact Or.inl rfl | exact Or.inr rfl)) vgs_nil))) (vss_one (vs_set (i := 1) sc__law_seed.nd rfl (by first | exact Or.inl rfl | exact Or.inr rfl) (ve_op op_mod (ve_op op_add (ve_op op_add (ve_op op_add (ve_op op_mul (vv 1) ve_int) (ve_op op_mod (vv 3) (ve_op op_pow ve_int ve_int))) (ve_op op_mul ve_int (vv 2))) ve_int) ve_int)))) (vss_one (vs_ret (vv 1))))), ?_⟩
  refine ⟨_, rfl, a, ns.map V.int, rfl, ha, for_enum (fun i σ H' => Same H H' ∧ ∃ (c : Int) (l2 l3 : Option V), 0 ≤ c ∧ c < M61 ∧ σ = [some (.ref a), some (.int c), l2, l3]) ⟨Same.refl H, 7, _, _, by decide, by decide, rfl⟩ (fun i σ H' _ ⟨e, _⟩ => e.seq ha) ?_ ?_⟩
  · rintro i σ H' x Tp H'' ex ⟨sm, c, l2, l3, c0, c1, rfl⟩ hT rfl
    obtain ⟨z, hz, rfl⟩ := map_at ex
    refine ⟨Tp, _, rfl, SqT.of upd_same, rfl, _, _, rfl, _, _, rfl, rfl, ?_⟩
    refine ⟨_, rfl, _, _, rfl, rfl, .inr ⟨by decide, by decide⟩, _, rfl, _, _, rfl, rfl, ⟨by decide, by decide, by decide⟩, _, _, rfl, rfl, (by show (0 : Int) < 10 ^ 30; decide), _, _, rfl, rfl, _, rfl, _, _, rfl, rfl, .inl ⟨by decide, by decide⟩, _, _, rfl, rfl, _, _, rfl, rfl, _, _, rfl, rfl, (by show (0 : Int) < 2305843009213693951; decide), ?_⟩
    exact ⟨sm.trans (same_new hT _), _, _, _, Int.emod_nonneg _ (by decide), Int.emod_lt_of_pos _ (by decide), rfl⟩
  · rintro σ H' ⟨sm, c, l2, l3, c0, c1, rfl⟩
    exact ⟨_, rfl, q c H' sm c0 c1⟩
def sp_next : Sp := fun vs H Q _ => ∃ (a : Addr) (m : Int), vs = [.ref a, .int m] ∧ StAt H a ∧ 0 < m ∧ ∀ c H', Fx a H H' → 0 ≤ c → c < m → Q (.int c) H'
theorem ok__law_next (T : Txt K mg) : Ok P w K mg base 1 "_law_next" ["_law_state", "_law_many"] sp_next := by
  refine Ok.ofV T.d__law_next sc__law_next (fun vs H Q E h => ?_) (fun f cdv A outer s H vs Q E hr h => ?_)
  · obtain ⟨a, m, rfl, _⟩ := h; rfl
  obtain ⟨a, m, rfl, ⟨st, hs, s0, s1⟩, hm, q⟩ := h
  refine ⟨_, (vss_cons (vs_asg (ve_op op_mod (ve_op op_add (ve_op op_mul (ve_ix ix_list (vv 0) ve_int (fun _ _ => rfl)) ve_int) ve_int) ve_int) (vg_sub (vv 0) ve_int set_list)) (vss_one (vs_ret (ve_op op_mod (ve_op op_fdiv (ve_ix ix_list (vv 0) ve_int (fun _ _ => rfl)) ve_int) (vv 1))))), ?_⟩
  refine ⟨_, rfl, a, _, 0, _, rfl, rfl, SqL.of hs, at0 _ _, _, _, rfl, rfl, .inr ⟨by decide, by decide⟩, _, _, rfl, rfl, _, _, rfl, rfl, (by show (0 : Int) < 2305843009213693951; decide), ?_⟩
  refine ⟨_, rfl, a, _, 0, 0, rfl, rfl, hs, rfl, ?_⟩
  refine ⟨_, rfl, a, [.int ((st * 1181783497276652981 + 12345678910987) % 2305843009213693951)], 0, _, rfl, rfl, SqL.of upd_same, at0 _ _, _, _, rfl, rfl, ⟨by decide, by decide⟩, _, rfl, _, _, rfl, rfl, hm, ?_⟩
  exact q _ _ ⟨fun b o n h => by rw [upd_ne n]; exact h, (st * 1181783497276652981 + 12345678910987) % 2305843009213693951, upd_same, Int.emod_nonneg _ (by decide), Int.emod_lt_of_pos _ (by decide)⟩ (Int.emod_nonneg _ (by omega)) (Int.emod_lt_of_pos _ hm)
def sp_great : Sp := fun vs H Q _ => ∃ a : Addr, vs = [.ref a] ∧ StAt H a ∧ ∀ (i : Int) H', Fx a H H' → i.natAbs < 10 ^ 60 → Q (.int i) H'
theorem pow15 (i : Nat) : ((10 : Int) ^ 15) ^ (i + 1) = ((10 : Int) ^ 15) ^ i * 10 ^ 15 := Int.pow_succ _ _
theorem ok__law_great (T : Txt K mg) (G__law_next : Ok P w K mg base 1 "_law_next" ["_law_state", "_law_many"] sp_next) : Ok P w K mg base 2 "_law_great" ["_law_state"] sp_great := by
  refine Ok.ofV T.d__law_great sc__law_great (fun vs H Q E h => ?_) (fun f cdv A outer s H vs Q E hr h => ?_)
  · obtain ⟨a, rfl, _⟩ := h; rfl
  obtain ⟨a, rfl, hs, q⟩ := h
  refine ⟨_, (vss_cons (vs_set (i := 1) sc__law_great.nd rfl (by first | exact Or.inl rfl | exact Or.inr rfl) ve_int) (vss_cons (vs_for PassesOwn.never rfl (vi_range1 (by rfl) T.n_range (va_c ve_int va_nil)) (vg_name (i := 2) sc__law_great.nd rfl (by first | exact Or.inl rfl | exact Or.inr rfl)) (vss_one (vs_set (i := 1) sc__law_great.nd rfl (by first | exact Or.inl rfl | exact Or.inr rfl) (ve_op op_add (ve_op op_mul (vv 1) (ve_op op_pow ve_int ve_int)) (ve_fn (G__law_next.mono (by decide)) hr (by rfl) (va_c (vv 0) (va_c (ve_op op_pow ve_int ve_int) va_nil))))))) (vss_one (vs_ret (ve_ix ix_list (ve_lstA (va_c (vv 1) (va_c (ve_op op_sub ve_int (vv 1)) va_nil))) (ve_fn (G__law_next.mono (by decide)) hr (by rfl) (va_c (vv 0) (va_c ve_int va_nil))) (fun _ _ => rfl)))))), ?_⟩
  refine ⟨_, rfl, by decide, by decide, for_range (n := 4) (fun i σ H' => Fx a H H' ∧ ∃ (c : Int) (l2 : Option V), 0 ≤ c ∧ c < (10 ^ 15) ^ i ∧ σ = [some (.ref a), some (.int c), l2]) ⟨.refl hs, 0, _, by decide, by decide, rfl⟩ ?_ ?_⟩
  · rintro i σ H' hi ⟨fx, c, l2, c0, c1, rfl⟩
    refine ⟨_, rfl, _, _, rfl, rfl, ⟨by decide, by decide, by decide⟩, _, _, rfl, rfl, .inr ⟨by decide, by decide⟩, _, rfl, _, _, rfl, rfl, ⟨by decide, by decide, by decide⟩, a, _, rfl, fx.st, (by show (0 : Int) < 10 ^ 15; decide), fun d H1 f1 d0 d1 => ?_⟩
    refine ⟨_, _, rfl, rfl, fx.trans f1, _, _, ?_, ?_, rfl⟩
    · have := Int.mul_nonneg c0 (show (0 : Int) ≤ 10 ^ 15 by decide)
      have e15 : (10 : Int) ^ 15 = 1000000000000000 := by decide
      show 0 ≤ c * (10 : Int) ^ 15 + d
      omega
    · have d1' : d < (10 : Int) ^ 15 := d1
      have h1 : c + 1 ≤ ((10 : Int) ^ 15) ^ i := c1
      have h2 := Int.mul_le_mul_of_nonneg_right h1 (show (0 : Int) ≤ 10 ^ 15 by decide)
      rw [Int.add_mul, Int.one_mul] at h2
      show c * (10 : Int) ^ 15 + d < ((10 : Int) ^ 15) ^ (i + 1)
      rw [pow15]
      omega
  · rintro σ H' ⟨fx, c, l2, c0, c1, rfl⟩
    have c1' : c < (10 : Int) ^ 60 := by
      have e : ((10 : Int) ^ 15) ^ 4 = 10 ^ 60 := by decide
      rw [← e]; exact c1
    refine ⟨_, rfl, _, rfl, _, _, rfl, rfl, (by show 2 ≤ sizeLine; decide), fun p H1 fp s1 g1 => ?_⟩
    refine ⟨_, rfl, a, 2, rfl, fx.st.same s1, by decide, fun d H2 f2 d0 d1 => ?_⟩
    obtain ⟨v, hv, mv⟩ := at_of (xs := [.int c, .int (0 - c)]) d0 (by show d < 2; omega)
    refine ⟨p, _, _, v, rfl, rfl, SqL.of (f2.same _ _ (fx.st.ne fp) g1), hv, ?_⟩
    simp only [List.mem_cons, List.not_mem_nil, or_false] at mv
    have b1 : c.natAbs < 10 ^ 60 := by
      have : ((c.natAbs : Nat) : Int) = c := Int.natAbs_of_nonneg c0
      have e : ((10 ^ 60 : Nat) : Int) = (10 : Int) ^ 60 := by decide
      omega
    rcases mv with rfl | rfl
    · exact q _ _ ((fx.sm s1).trans f2) b1
    · exact q _ _ ((fx.sm s1).trans f2) (by rw [Int.zero_sub, Int.natAbs_neg]; exact b1)
abbrev smalls : List V := [.str "", .str "a", .str "b", .str "ab"]
def KdOk (k : Str) : Prop := k = "number" ∨ k = "word"
def sp_lval : Sp := fun vs H Q _ => ∃ (a : Addr) (kd : Str), vs = [.ref a, .str kd] ∧ StAt H a ∧ KdOk kd ∧ ∀ v H', Fx a H H' → Vl v → Q v H'
theorem small_kind {v : V} (h : v ∈ smalls) : Vl v := by
  simp only [smalls, List.mem_cons, List.not_mem_nil, or_false] at h
  have le : ∀ x : Str, (x.cps.all fun c => decide (97 ≤ c) && decide (c ≤ 122)) = true → Lets x := fun x hx c hc => by
    have := (Array.all_eq_true_iff_forall_mem.mp hx) c hc
    rw [Bool.and_eq_true] at this
    exact ⟨of_decide_eq_true this.1, of_decide_eq_true this.2⟩
  rcases h with rfl | rfl | rfl | rfl
  · exact .inr ⟨_, rfl, le _ (by decide +kernel), by decide +kernel⟩
  · exact .inr ⟨_, rfl, le _ (by decide +kernel), by decide +kernel⟩
  · exact .inr ⟨_, rfl, le _ (by decide +kernel), by decide +kernel⟩
  · exact .inr ⟨_, rfl, le _ (by decide +kernel), by decide +kernel⟩
theorem ok__law_value (T : Txt K mg) (G__law_next : Ok P w K mg base 1 "_law_next" ["_law_state", "_law_many"] sp_next) (G__law_great : Ok P w K mg base 2 "_law_great" ["_law_state"] sp_great) : Ok P w K mg base 3 "_law_value" ["_law_state", "_law_kind"] sp_lval := by
  refine Ok.ofV T.d__law_value sc__law_value (fun vs H Q E h => ?_) (fun f cdv A outer s H vs Q E hr h => ?_)
  · obtain ⟨a, kd, rfl, _⟩ := h; rfl
  obtain ⟨a, kd, rfl, hs, hk, q⟩ := h
  refine ⟨_, (vss_cons (vs_set (i := 2) sc__law_value.nd rfl (by first | exact Or.inl rfl | exact Or.inr rfl) (ve_fn (G__law_next.mono (by decide)) hr (by rfl) (va_c (vv 0) (va_c ve_int va_nil)))) (vss_cons (vs_if (vt_cmpR op_eq (vv 1) ve_str (nomark _)) (vss_one (vs_ret (ve_ix ix_list (ve_lstA (va_c (ve_op op_sub (ve_fn (G__law_next.mono (by decide)) hr (by rfl) (va_c (vv 0) (va_c ve_int va_nil))) ve_int) (va_c (ve_fn (G__law_great.mono (by decide)) hr (by rfl) (va_c (vv 0) va_nil)) va_nil))) (ve_callTy call_int1 (by rfl) T.n_int bt_int (va_c (ve_cmpR op_eq (vv 2) ve_int (nomark _)) va_nil)) (fun _ _ => rfl)))) vss_nil) (vss_cons (vs_if (vt_cmpR op_lt (vv 2) ve_int (nomark _)) (vss_one (vs_ret (ve_ix ix_list (ve_lstA (va_c ve_str (va_c ve_str (va_c ve_str (va_c ve_str va_nil))))) (ve_op op_mod (vv 2) ve_int) (fun _ _ => rfl)))) vss_nil) (vss_cons (vs_set (i := 3) sc__law_value.nd rfl (by first | exact Or.inl rfl | exact Or.inr rfl) ve_str) (vss_cons (vs_for PassesOwn.never rfl (vi_range1 (by rfl) T.n_range (va_c (ve_fn (G__law_next.mono (by decide)) hr (by rfl) (va_c (vv 0) (va_c ve_int va_nil))) va_nil)) (vg_name (i := 4) sc__law_value.nd rfl (by first | exact Or.inl rfl | exact Or.inr rfl)) (vss_one (vs_set (i := 3) sc__law_value.nd rfl (by first | exact Or.inl rfl | exact Or.inr rfl) (ve_op op_add_str (vv 3) (ve_item_str ve_str (ve_fn (G__law_next.mono (by decide)) hr (by rfl) (va_c (vv 0) (va_c ve_int va_nil))) (fun _ _ => rfl)))))) (vss_one (vs_ret (vv 3)))))))), ?_⟩
  refine ⟨_, rfl, a, 10, rfl, hs, by decide, fun way H1 f1 w0 w1 => ?_⟩
  rcases hk with rfl | rfl
  · refine ⟨_, rfl, rfl, _, rfl, iteT ?_⟩
    refine ⟨_, rfl, a, 4, rfl, f1.st, by decide, fun d H2 f2 d0 d1 => ?_⟩
    refine ⟨_, _, rfl, rfl, _, rfl, a, rfl, f2.st, fun g H3 f3 hg => ?_⟩
    refine ⟨(by show 2 ≤ sizeLine; decide), fun p H4 _ s4 g4 => ?_⟩
    have fx := (f1.trans (f2.trans f3)).sm s4
    refine ⟨_, rfl, rfl, .inr ⟨_, rfl, ?_⟩⟩
    by_cases e : way = 9
    · rw [decide_eq_true (congrArg V.int e)]
      exact ⟨p, _, _, _, rfl, rfl, SqL.of g4, atI_nat (j := 1) rfl, q _ _ fx (.inl ⟨_, rfl, hg⟩)⟩
    · rw [decide_eq_false (by intro z; exact e (V.int.inj z))]
      exact ⟨p, _, _, _, rfl, rfl, SqL.of g4, atI_nat (j := 0) rfl, q _ _ fx (.inl ⟨_, rfl, (by omega)⟩)⟩
  · refine ⟨_, rfl, rfl, _, rfl, iteF ?_⟩
    refine ⟨_, rfl, _, _, rfl, rfl, _, rfl, ite2 (fun _ => ?_) (fun _ => ?_)⟩
    · refine ⟨(by show 4 ≤ sizeLine; decide), fun p H4 _ s4 g4 => ?_⟩
      obtain ⟨v, hv, mv⟩ := at_of (xs := smalls) (j := way % 4) (by omega) (by show way % 4 < 4; omega)
      exact ⟨_, rfl, _, _, rfl, rfl, (by show (0 : Int) < 4; decide), p, _, _, v, rfl, rfl, SqL.of g4, hv, q _ _ (f1.sm s4) (small_kind mv)⟩
    · refine ⟨_, rfl, a, 9, rfl, f1.st, by decide, fun n H2 f2 n0 n1 => ?_⟩
      refine ⟨_, rfl, by omega, by omega, for_range (n := n.toNat) (fun i σ H' => Fx a H H' ∧ ∃ (x : Str) (l4 : Option V), σ = [some (.ref a), some (.str "word"), some (.int way), some (.str x), l4] ∧ x.length ≤ i ∧ Lets x) ⟨f1.trans f2, _, _, rfl, by decide +kernel, fun d hd => by simp [show (("" : Str).cps) = #[] from rfl] at hd⟩ ?_ ?_⟩
      · rintro i σ H' hi ⟨fx, x, l4, rfl, hl, hx⟩
        have al : abc.length = 26 := by decide +kernel
        refine ⟨_, rfl, _, rfl, a, 26, rfl, fx.st, by decide, fun d H3 f3 d0 d1 => ?_⟩
        obtain ⟨ch, hch⟩ := sign_at (z := abc) d0 (by rw [al]; exact d1)
        refine ⟨_, _, _, rfl, rfl, d0, (by omega), (by rw [al]; exact d1), hch, _, _, rfl, rfl, ?_, fx.trans f3, _, _, rfl, ?_, hx.add (lets_abc.one hch)⟩
        · show x.length + 1 ≤ sizeLine
          exact small (by omega)
        · rw [add_len]
          show x.length + 1 ≤ i + 1
          omega
      · rintro σ H' ⟨fx, x, l4, rfl, hl, hx⟩
        exact ⟨_, rfl, q _ _ fx (.inr ⟨_, rfl, hx, by omega⟩)⟩
end
end My
set_option Elab.async false
set_option linter.all false
set_option maxRecDepth 100000
namespace My
open PySem PySem.Spec PyProof.Rows L2 PySem.NumText
set_option maxHeartbeats 400000
section
variable {P : Program} {w : World} {K : PySem.W.Frag} {mg : Str → Option Value} {base : Heap}
theorem ok__law_shown_value (T : Txt K mg) : Ok P w K mg base 1 "_law_shown_value" ["_law_value_here"] sp_shown := by
  refine Ok.ofV T.d__law_shown_value sc__law_shown_value (fun vs H Q E h => ?_) (fun f cdv A outer s H vs Q E hr h => ?_)
  · obtain ⟨v, rfl, _⟩ := h; rfl
  obtain ⟨v, rfl, hv, q⟩ := h
  refine ⟨_, (vss_cons (vs_if (vt_val (ve_callB (call_isi.or call_isiR) (by rfl) T.n_isinstance bf_isinstance (va_c (vv 0) (va_c (ve_bltn (v := .ty "str") (by rfl) T.n_str bt_str rfl) va_nil)))) (vss_one (vs_ret (ve_op op_add_str (ve_op op_add_str ve_str (vv 0)) ve_str))) vss_nil) (vss_one (vs_ret (ve_callTy call_str_int (by rfl) T.n_str bt_str (va_c (vv 0) va_nil))))), ?_⟩
  refine ⟨_, rfl, isi_any hv.th (.inr (.inr rfl)) ⟨_, rfl, ?_⟩⟩
  rcases hv with ⟨i, rfl, hi⟩ | ⟨x, rfl, hx, h8⟩
  · exact iteF ⟨_, rfl, _, rfl, log_lt hi, q⟩
  · refine iteT ⟨_, rfl, _, _, rfl, rfl, ?_, _, _, rfl, rfl, ?_, q⟩
    · show Str.length "'" + x.length ≤ sizeLine
      have : Str.length "'" = 1 := by decide +kernel
      exact small (by omega)
    · have e1 : Str.length "'" = 1 := by decide +kernel
      have e2 : (("'" : Str) ++ x).length = 1 + x.length := by rw [len_cs, cs_app, cs_q, List.length_append, ← len_cs]; rfl
      show (("'" : Str) ++ x).length + Str.length "'" ≤ sizeLine
      exact small (by omega)
def fl (l : List Nat) : List Nat := if l.head? = some 45 then l.tail else l
def c1 (l : List Nat) : Bool := decide (1 ≤ l.length) && (decide (l.length ≤ 60) && l.all isD)
theorem numL_eq (l : List Nat) : numL l = (c1 (fl l) && !(decide ((fl l).head? = some 48) && !decide (l = [48]))) := by
  unfold numL figL c1 fl
  by_cases h : l.head? = some 45
  · rw [if_pos h, if_pos h]
    have e : l = 45 :: l.tail := by
      cases l with
      | nil => cases h
      | cons a t => cases h; rfl
    have ne : decide (l = [48]) = false := decide_eq_false fun z => by rw [z] at h; cases h
    have te : decide (l = [45, 48]) = decide (l.tail = [48]) := decide_eq_decide.mpr ⟨fun z => by rw [z]; rfl, fun z => by rw [e, z]⟩
    rw [ne, te]
    generalize l.tail = t
    by_cases z : t = [48]
    · subst z; decide
    · rw [decide_eq_false z]; simp
  · rw [if_neg h, if_neg h]
    generalize hb : decide (l = [48]) = b
    cases b <;> simp
theorem qt_num {l : List Nat} (h : l.head? = some 39) : numL l = false := by
  unfold numL figL
  rw [if_neg (by rw [h]; decide)]
  cases l with
  | nil => cases h
  | cons a t => cases h; simp [isD]
theorem not_wrd {l : List Nat} (h : ¬ (2 ≤ l.length ∧ l.head? = some 39 ∧ l.getLast? = some 39)) : wrdL l = false := by
  unfold wrdL
  by_cases a : 2 ≤ l.length
  · by_cases b : l.head? = some 39
    · by_cases d : l.getLast? = some 39
      · exact absurd ⟨a, b, d⟩ h
      · rw [decide_eq_false d]; simp
    · rw [decide_eq_false b]; simp
  · rw [decide_eq_false a]; rfl
def toldL (o : Option V) : List V := match o with
  | some u => [.bl true, u]
  | none => [.bl false, .int 0]
def sp_looked : Sp := fun vs H Q _ => ∃ x : Str, vs = [.str x] ∧ x.length ≤ 1000 ∧ ∀ p H', Same H H' → H' p = some (.tup (toldL (rdV x))) → Q (.ref p) H'
theorem find_fig : ∀ k : _root_.Fin 10, Txt.find figs ⟨#[48 + k.val]⟩ = ((k.val : Nat) : Int) := by decide +kernel
theorem find_of {c : Nat} (h : isD c = true) : Txt.find figs ⟨#[c]⟩ = ((c - 48 : Nat) : Int) := by
  simp only [isD, Bool.and_eq_true, decide_eq_true_eq] at h
  have := find_fig ⟨c - 48, by omega⟩
  simp only at this
  rw [show 48 + (c - 48) = c by omega] at this
  exact this
theorem if_of {c : TT} {t u : TS} {D : Ends} {σ : L2.St} {H : Hp} (Y N : Hp → Prop) (hc : ∀ R : Bool → Hp → Prop, (∀ H8, Y H8 → R true H8) → (∀ H8, N H8 → R false H8) → c σ H R) (go : ∀ H8, Y H8 → t D σ H8) (no : ∀ H8, N H8 → u D σ H8) : tIfS c t u D σ H :=
  hc _ (fun H8 y => iteT (go H8 y)) (fun H8 y => iteF (no H8 y))
theorem seq_if {c : TT} {t u : TS} {R : TS} {D : Ends} {σ : L2.St} {H : Hp} (Y N : Hp → Prop) (hc : ∀ R : Bool → Hp → Prop, (∀ H8, Y H8 → R true H8) → (∀ H8, N H8 → R false H8) → c σ H R)
    (go : ∀ H8, Y H8 → t { D with nx := R D } σ H8) (no : ∀ H8, N H8 → u { D with nx := R D } σ H8) : tSeq (tIfS c t u) R D σ H := if_of Y N hc go no
theorem comp_signs {X : Cx} {scope : Scope} {z : Str} {tl : TE} {σ : L2.St} {H : Hp} {Q : VK} (S y : Str) (f : Nat → Bool) (hf : ∀ c, inS S ⟨#[c]⟩ = f c) (hy : y.length ≤ 1000) (h : ∀ R : VK, R (.str y) H → tl σ H R)
    (q : ∀ D H', Same H H' → H' D = some (.lst (((List.range y.cps.size).map fun i => f (y.cps.getD i 0)).map V.bl)) → Q (.ref D) H') :
    tComp X scope [z] (iStr tl) (gName 0) tYes (tOp (fun x y H Q => ∃ i j, x = .str i ∧ y = .str j ∧ Q (.bl (!(Builtin.Str.occurrences j i 0 j.length 1).isEmpty)) H) (tVar 0) (tC (.str S))) σ H Q := by
  refine comp_pure ((List.range y.cps.size).map fun i => V.str (sgn y i)) (fun v => match v with | .str y => V.bl (inS S y) | _ => .bl false) [none] cap_none1 ?_
    (fun R r => wi_str (z := y) (fun R' r' => h R' r') R r) (fun v hv' H' R l sm r => ?_) rfl fun D hD => ?_
  · rw [List.length_map, List.length_range]; exact small hy
  · obtain ⟨i, _, rfl⟩ := List.mem_map.mp hv'
    exact ⟨_, rfl, _, _, rfl, rfl, r⟩
  · exact q D _ (same_new hD _) (by rw [upd_same]; exact congrArg (fun z => some (HO.lst z)) (signs_bl _ _ _ hf))
theorem dec_str (x y : Str) (l : List Nat) (hy : cs y = l) : decide (V.str x = V.str y) = decide (cs x = l) := decide_eq_decide.mpr ⟨fun e => by rw [str_eq.mp (V.str.inj e), hy], fun e => congrArg V.str (str_eq.mpr (by rw [e, hy]))⟩
theorem ok__law_looked (T : Txt K mg) : Ok P w K mg base 1 "_law_looked" ["_law_word"] sp_looked := by
  refine Ok.ofV T.d__law_looked sc__law_looked (fun vs H Q E h => ?_) (fun f cdv A outer s H vs Q E hr h => ?_)
  · obtain ⟨v, rfl, _⟩ := h; rfl
  obtain ⟨x, rfl, hx, q⟩ := h
  refine ⟨_, (vss_cons (vs_if (VW.pt (vw_and (vt_cmpR op_gt (ve_callB call_len_str (by rfl) T.n_len bf_len (va_c (vv 0) va_nil)) ve_int (nomark _)) (vw_and (vt_cmpR op_eq (ve_item_str (vv 0) ve_int (fun _ _ => rfl)) ve_str (nomark _)) (vw_and1 (vt_cmpR op_eq (ve_item_strN (vv 0) (ve_un un_neg ve_int) (fun _ _ => rfl)) ve_str (nomark _)))))) (vss_cons (vs_set (i := 1) sc__law_looked.nd rfl (by first | exact Or.inl rfl | exact Or.inr rfl) (ve_slice sl_strX (vv 0) (vo_some ve_int) (vo_some (ve_un un_neg ve_int)))) (vss_cons (vs_if (VW.pt (vw_and (vt_cmpR op_le (ve_callB call_len_str (by rfl) T.n_len bf_len (va_c (vv 1) va_nil)) ve_int (nomark _)) (vw_and1 (vt_val (ve_callB (call_all rfl) (by rfl) T.n_all bf_all (va_c (ve_comp (N := ["_law_sign"]) ⟨by decide +kernel, rfl, by decide +kernel, by decide +kernel⟩ (hfr_none (by decide +kernel)) rfl (vi_str (vv 1)) (fun cl s' H' fp => ⟨(vg_name (i := 0) (show (["_law_sign"] : List Str).Nodup from by decide +kernel) rfl (Or.inl rfl)), vf_nil, (ve_cmpR op_in_str (vv 0) ve_str (by with_unfolding_all rfl))⟩)) va_nil)))))) (vss_one (vs_ret (ve_tupA (va_c ve_bl (va_c (vv 1) va_nil))))) vss_nil) (vss_one (vs_ret (ve_tupA (va_c ve_bl (va_c ve_int va_nil))))))) vss_nil) (vss_cons (vs_set (i := 2) sc__law_looked.nd rfl (by first | exact Or.inl rfl | exact Or.inr rfl) (ve_slice sl_strX (vv 0) (vo_some (ve_callTy call_int1 (by rfl) T.n_int bt_int (va_c (ve_cmpR op_eq (ve_slice sl_strX (vv 0) vo_none (vo_some ve_int)) ve_str (nomark _)) va_nil))) vo_none)) (vss_cons (vs_if (VW.pt (vw_or (vt_not (vt_chain op_le op_le ve_int (ve_callB call_len_str (by rfl) T.n_len bf_len (va_c (vv 2) va_nil)) ve_int)) (vw_or1 (vt_not (vt_val (ve_callB (call_all rfl) (by rfl) T.n_all bf_all (va_c (ve_comp (N := ["_law_sign"]) ⟨by decide +kernel, rfl, by decide +kernel, by decide +kernel⟩ (hfr_none (by decide +kernel)) rfl (vi_str (vv 2)) (fun cl s' H' fp => ⟨(vg_name (i := 0) (show (["_law_sign"] : List Str).Nodup from by decide +kernel) rfl (Or.inl rfl)), vf_nil, (ve_cmpR op_in_str (vv 0) ve_str (by with_unfolding_all rfl))⟩)) va_nil))))))) (vss_one (vs_ret (ve_tupA (va_c ve_bl (va_c ve_int va_nil))))) vss_nil) (vss_cons (vs_if (VW.pt (vw_and (vt_cmpR op_eq (ve_item_str (vv 2) ve_int (fun _ _ => rfl)) ve_str (nomark _)) (vw_and1 (vt_cmpR op_ne (vv 0) ve_str (nomark _))))) (vss_one (vs_ret (ve_tupA (va_c ve_bl (va_c ve_int va_nil))))) vss_nil) (vss_cons (vs_set (i := 3) sc__law_looked.nd rfl (by first | exact Or.inl rfl | exact Or.inr rfl) ve_int) (vss_cons (vs_for PassesOwn.never rfl (vi_str (vv 2)) (vg_name (i := 4) sc__law_looked.nd rfl (by first | exact Or.inl rfl | exact Or.inr rfl)) (vss_one (vs_set (i := 3) sc__law_looked.nd rfl (by first | exact Or.inl rfl | exact Or.inr rfl) (ve_op op_add (ve_op op_mul ve_int (vv 3)) (ve_bm PySem.F.plainAttrs_str PySem.F.slot_str_find PySem.F.type_str_find mt_find ve_str (va_c (vv 4) va_nil)))))) (vss_one (vs_ret (ve_tupA (va_c ve_bl (va_c (ve_ix ix_list (ve_lstA (va_c (vv 3) (va_c (ve_un un_neg (vv 3)) va_nil))) (ve_callTy call_int1 (by rfl) T.n_int bt_int (va_c (ve_cmpR op_eq (ve_item_str (vv 0) ve_int (fun _ _ => rfl)) ve_str (nomark _)) va_nil)) (fun _ _ => rfl)) va_nil))))))))))), ?_⟩
  have hl := len_cs x
  have hq : cs "'" = [39] := cs_q
  have h0c : cs "0" = [48] := by decide +kernel
  have er : rdV x = if numL (cs x) then some (.int (valL (cs x))) else if wrdL (cs x) then some (.str ⟨(inn (cs x)).toArray⟩) else none := rfl
  have no : ∀ {D : Ends} {σ : L2.St} {H1 : Hp}, D.rt = Q → Same H H1 → rdV x = none → tRet (tTupA (tCons (tC (V.bl false)) (tCons (tC (V.int 0)) tNil))) D σ H1 := fun {D σ H1} hD s1 e => by
    refine ⟨(by show 2 ≤ sizeLine; decide), fun p H2 fp s2 g2 => ?_⟩
    rw [hD]
    exact q p H2 (s1.trans s2) (by rw [g2, e]; rfl)
  have yes : ∀ {u : V} {p : Addr} {H2 : Hp}, Same H H2 → H2 p = some (.tup [.bl true, u]) → rdV x = some u → Q (.ref p) H2 := fun {u p H2} s2 g2 e => q p H2 s2 (by rw [g2, e]; rfl)
  refine seq_if (fun H8 => H8 = H ∧ (2 ≤ (cs x).length ∧ (cs x).head? = some 39 ∧ (cs x).getLast? = some 39)) (fun H8 => H8 = H ∧ ¬ (2 ≤ (cs x).length ∧ (cs x).head? = some 39 ∧ (cs x).getLast? = some 39)) (fun R ry rn => ?_) ?_ ?_
  · refine ⟨_, rfl, _, rfl, small hx, _, _, rfl, rfl, _, rfl, ?_⟩
    refine ite2 (fun c => ?_) (fun c => ?_)
    · have h2 : 2 ≤ (cs x).length := by have : (1 : Int) < x.length := of_decide_eq_true c; omega
      have hn : 0 < x.cps.size := by have : x.length = x.cps.size := rfl; omega
      refine ⟨_, rfl, _, _, _, rfl, rfl, (by decide), (by decide), (by omega), Array.getElem?_eq_getElem hn, rfl, _, rfl, ?_⟩
      rw [first_is hn _ _ hq]
      refine ite2 (fun c2 => ?_) (fun c2 => ?_)
      · refine ⟨_, rfl, _, rfl, _, _, _, rfl, rfl, (by decide), (by decide), last_at hn, rfl, _, rfl, ?_⟩
        rw [last_is hn _ _ hq]
        cases c3 : decide ((cs x).getLast? = some 39) with
        | true => exact ry H ⟨rfl, h2, of_decide_eq_true c2, of_decide_eq_true c3⟩
        | false => exact rn H ⟨rfl, fun z => of_decide_eq_false c3 z.2.2⟩
      · exact rn H ⟨rfl, fun z => of_decide_eq_false (Bool.eq_false_iff.mpr c2) z.2.1⟩
    · exact rn H ⟨rfl, fun z => by have : ¬ (1 : Int) < x.length := of_decide_eq_false (Bool.eq_false_iff.mpr c); omega⟩
  · rintro H8 ⟨rfl, h2, hh, hlast⟩
    have hnum := qt_num hh
    rw [hnum, if_neg (by decide)] at er
    refine ⟨_, rfl, _, rfl, _, rfl, _, rfl, _, rfl, small hx, ?_⟩
    dsimp only [gName]
    rw [slIn h2]
    have li : (⟨(inn (cs x)).toArray⟩ : Str).length = (inn (cs x)).length := by show (List.toArray _).size = _; rw [List.size_toArray]
    have le : (inn (cs x)).length ≤ (cs x).length := by unfold inn; rw [List.length_dropLast, List.length_tail]; omega
    have ew : wrdL (cs x) = (decide ((inn (cs x)).length ≤ 8) && (inn (cs x)).all isL) := by
      unfold wrdL
      rw [decide_eq_true h2, hh, hlast]
      simp
    refine seq_if (fun H9 => Same H8 H9 ∧ wrdL (cs x) = true) (fun H9 => Same H8 H9 ∧ wrdL (cs x) = false) (fun R ry rn => ?_) ?_ ?_
    · refine ⟨_, rfl, _, rfl, (by rw [li]; exact small (by omega)), _, _, rfl, rfl, _, rfl, ?_⟩
      refine ite2 (fun c => ?_) (fun c => ?_)
      · have c' : ((⟨(inn (cs x)).toArray⟩ : Str).length : Int) ≤ 8 := of_decide_eq_true c
        rw [decide_eq_true (p := (inn (cs x)).length ≤ 8) (by omega), Bool.true_and] at ew
        dsimp only [tB, tCB, tCons, tNot]
        refine comp_signs abc ⟨(inn (cs x)).toArray⟩ isL inAbc (by rw [li]; omega) (fun R' r' => ⟨_, rfl, r'⟩) fun D H9 s9 g9 => ?_
        refine ⟨D, _, rfl, SqL.of g9, ?_⟩
        rw [range_all]
        have ei : (cs ⟨(inn (cs x)).toArray⟩).all isL = wrdL (cs x) := ew.symm
        rw [ei]
        refine ⟨_, rfl, ?_⟩
        cases hw : wrdL (cs x) with
        | true => exact ry H9 ⟨s9, hw⟩
        | false => exact rn H9 ⟨s9, hw⟩
      · have c' : ¬ ((⟨(inn (cs x)).toArray⟩ : Str).length : Int) ≤ 8 := of_decide_eq_false (Bool.eq_false_iff.mpr c)
        rw [decide_eq_false (p := (inn (cs x)).length ≤ 8) (by omega), Bool.false_and] at ew
        exact rn H8 ⟨Same.refl H8, ew⟩
    · rintro H9 ⟨s9, hw⟩
      rw [hw, if_pos rfl] at er
      exact ⟨_, rfl, (by show 2 ≤ sizeLine; decide), fun p H2 fp s2 g2 => yes (s9.trans s2) g2 er⟩
    · rintro H9 ⟨s9, hw⟩
      rw [hw, if_neg (by decide)] at er
      exact no (σ := []) rfl s9 er
  · rintro H8 ⟨rfl, hnq⟩
    rw [not_wrd hnq] at er
    simp only [Bool.false_eq_true, if_false] at er
    have efl : (if decide ((cs x).head? = some 45) = true then (1 : Int) else 0) = if (cs x).head? = some 45 then 1 else 0 := by simp
    have sle : Txt.slice x (some (if (cs x).head? = some 45 then 1 else 0)) none = ⟨(fl (cs x)).toArray⟩ := by
      unfold fl
      by_cases hd : (cs x).head? = some 45
      · rw [if_pos hd, if_pos hd, slFrom1]
        cases h : cs x with
        | nil => rw [h] at hd; cases hd
        | cons _ _ => simp
      · rw [if_neg hd, if_neg hd, slFrom0]
    have lf : (⟨(fl (cs x)).toArray⟩ : Str).length = (fl (cs x)).length := by show (List.toArray _).size = _; rw [List.size_toArray]
    have lfle : (fl (cs x)).length ≤ (cs x).length := by unfold fl; split <;> simp
    have cf : cs ⟨(fl (cs x)).toArray⟩ = fl (cs x) := rfl
    refine ⟨_, rfl, _, rfl, _, rfl, _, rfl, small hx, ?_⟩
    rw [slTo1]
    refine ⟨rfl, .inr ⟨_, rfl, ?_⟩⟩
    rw [head1, efl]
    refine ⟨_, rfl, _, rfl, small hx, ?_⟩
    dsimp only [gName]
    rw [sle]
    have e1 := numL_eq (cs x)
    refine seq_if (fun H9 => Same H8 H9 ∧ c1 (fl (cs x)) = false) (fun H9 => Same H8 H9 ∧ c1 (fl (cs x)) = true) (fun R ry rn => ?_) ?_ ?_
    · refine ⟨_, rfl, _, rfl, (by rw [lf]; exact small (by omega)), _, _, rfl, rfl, _, rfl, ?_⟩
      refine ite2 (fun c => ⟨_, _, rfl, rfl, _, rfl, ?_⟩) (fun c => ?_)
      · have c1' : (1 : Int) ≤ ((⟨(fl (cs x)).toArray⟩ : Str).length : Int) := of_decide_eq_true c
        by_cases h60 : (fl (cs x)).length ≤ 60
        · rw [decide_eq_true (p := ((⟨(fl (cs x)).toArray⟩ : Str).length : Int) ≤ 60) (by omega)]
          refine iteF ?_
          dsimp only [tB, tCB, tCons, tNot]
          refine comp_signs figs ⟨(fl (cs x)).toArray⟩ isD inF (by rw [lf]; omega) (fun R' r' => ⟨_, rfl, r'⟩) fun D H9 s9 g9 => ?_
          refine ⟨D, _, rfl, SqL.of g9, ?_⟩
          rw [range_all, cf]
          have ec : c1 (fl (cs x)) = (fl (cs x)).all isD := by
            unfold c1
            rw [decide_eq_true (p := 1 ≤ (fl (cs x)).length) (by omega), decide_eq_true h60]
            rfl
          rw [← ec]
          refine ⟨_, rfl, ?_⟩
          cases hc : c1 (fl (cs x)) with
          | true => exact rn H9 ⟨s9, hc⟩
          | false => exact ry H9 ⟨s9, hc⟩
        · rw [decide_eq_false (p := ((⟨(fl (cs x)).toArray⟩ : Str).length : Int) ≤ 60) (by omega)]
          refine iteT (ry H8 ⟨Same.refl H8, ?_⟩)
          unfold c1
          rw [decide_eq_false h60]; simp
      · have c1' : ¬ (1 : Int) ≤ ((⟨(fl (cs x)).toArray⟩ : Str).length : Int) := of_decide_eq_false (Bool.eq_false_iff.mpr c)
        refine ⟨_, rfl, iteT (ry H8 ⟨Same.refl H8, ?_⟩)⟩
        unfold c1
        rw [decide_eq_false (p := 1 ≤ (fl (cs x)).length) (by omega)]; rfl
    · rintro H9 ⟨s9, hc⟩
      rw [e1, hc, Bool.false_and, if_neg (by decide)] at er
      exact no (σ := []) rfl s9 er
    · rintro H9 ⟨s9, hc⟩
      rw [hc, Bool.true_and] at e1
      have hn1 : 1 ≤ (fl (cs x)).length := by
        unfold c1 at hc
        exact of_decide_eq_true (Bool.and_eq_true_iff.mp hc).1
      have hdig : (fl (cs x)).all isD = true := by
        unfold c1 at hc
        exact (Bool.and_eq_true_iff.mp (Bool.and_eq_true_iff.mp hc).2).2
      have hn : 0 < (⟨(fl (cs x)).toArray⟩ : Str).cps.size := by have : (⟨(fl (cs x)).toArray⟩ : Str).length = (⟨(fl (cs x)).toArray⟩ : Str).cps.size := rfl; omega
      have hnx : 0 < x.cps.size := by have : x.length = x.cps.size := rfl; omega
      dsimp only [tNext]
      refine seq_if (fun H10 => H10 = H9 ∧ numL (cs x) = false) (fun H10 => H10 = H9 ∧ numL (cs x) = true) (fun R ry rn => ?_) ?_ ?_
      · refine ⟨_, rfl, _, _, _, rfl, rfl, (by decide), (by decide), (by omega), Array.getElem?_eq_getElem hn, rfl, _, rfl, ?_⟩
        rw [first_is hn _ _ h0c, cf]
        cases hz : decide ((fl (cs x)).head? = some 48) with
        | false => rw [hz] at e1; exact iteF (rn H9 ⟨rfl, e1⟩)
        | true =>
          rw [hz] at e1
          refine iteT ⟨_, rfl, rfl, _, rfl, ?_⟩
          rw [dec_str x "0" _ h0c]
          cases hy : decide (cs x = [48]) with
          | true => rw [hy] at e1; exact rn H9 ⟨rfl, e1⟩
          | false => rw [hy] at e1; exact ry H9 ⟨rfl, e1⟩
      · rintro H10 ⟨rfl, hm⟩
        rw [hm, if_neg (by decide)] at er
        exact no (σ := []) rfl s9 er
      · rintro H10 ⟨rfl, hm⟩
        rw [hm, if_pos rfl] at er
        refine ⟨_, rfl, _, rfl, for_str (x := ⟨(fl (cs x)).toArray⟩) (fun i σ H' => H' = H10 ∧ ∃ l1 l4 : Option V, σ = [some (.str x), l1, some (.str ⟨(fl (cs x)).toArray⟩), some (.int ((digitsVal ((fl (cs x)).take i) : Nat) : Int)), l4]) ⟨rfl, _, _, rfl⟩ ?_ ?_⟩
        · rintro i σ H' hi ⟨rfl, l1, l4, rfl⟩
          have hi' : i < (fl (cs x)).length := by rw [← lf]; exact hi
          have eg : (⟨(fl (cs x)).toArray⟩ : Str).cps.getD i 0 = (fl (cs x))[i] := by
            show (List.toArray _).getD i 0 = _
            simp [Array.getD, hi']
          have hd : isD (fl (cs x))[i] = true := List.all_eq_true.mp hdig _ (List.getElem_mem hi')
          refine ⟨_, rfl, _, _, rfl, rfl, .inl ⟨by decide, by decide⟩, ?_⟩
          refine ⟨rfl, _, rfl, _, _, rfl, rfl, _, _, rfl, rfl, rfl, l1, some (V.str (sgn ⟨(fl (cs x)).toArray⟩ i)), ?_⟩
          have ef : Txt.find figs (sgn ⟨(fl (cs x)).toArray⟩ i) = (((fl (cs x))[i] - 48 : Nat) : Int) := by
            show Txt.find figs ⟨#[(⟨(fl (cs x)).toArray⟩ : Str).cps.getD i 0]⟩ = _
            rw [eg]
            exact find_of hd
          have et : digitsVal ((fl (cs x)).take (i + 1)) = digitsVal ((fl (cs x)).take i) * 10 + ((fl (cs x))[i] - 48) := by
            rw [List.take_succ_eq_append_getElem hi', digitsVal_snoc]
          have ev : (10 : Int) * ((digitsVal ((fl (cs x)).take i) : Nat) : Int) + Txt.find figs (sgn ⟨(fl (cs x)).toArray⟩ i) = ((digitsVal ((fl (cs x)).take (i + 1)) : Nat) : Int) := by
            rw [ef, et]
            omega
          rw [← ev]
          rfl
        · rintro σ H' ⟨rfl, l1, l4, rfl⟩
          have ef : (⟨(fl (cs x)).toArray⟩ : Str).cps.size = (fl (cs x)).length := lf
          rw [ef, List.take_length]
          refine ⟨_, rfl, _, rfl, _, rfl, (by show 2 ≤ sizeLine; decide), fun p H2 fp s2 g2 => ?_⟩
          have hm1 : cs "-" = [45] := by decide +kernel
          refine ⟨_, rfl, _, _, _, rfl, rfl, (by decide), (by decide), (by omega), Array.getElem?_eq_getElem hnx, rfl, .inr ⟨_, rfl, ?_⟩⟩
          rw [first_is hnx _ _ hm1]
          have ev : rdV x = some (.int (if (cs x).head? = some 45 then -((digitsVal (fl (cs x)) : Nat) : Int) else ((digitsVal (fl (cs x)) : Nat) : Int))) := by
            rw [er]
            unfold valL fl
            by_cases hd : (cs x).head? = some 45
            · rw [if_pos hd, if_pos hd, if_pos hd]
            · rw [if_neg hd, if_neg hd, if_neg hd]
          by_cases hd : (cs x).head? = some 45
          · rw [decide_eq_true hd]
            rw [if_pos hd] at ev
            exact ⟨p, _, _, _, rfl, rfl, SqL.of g2, atI_nat (j := 1) rfl, (by show 2 ≤ sizeLine; decide), fun p3 H3 fp3 s3 g3 => yes ((s9.trans s2).trans s3) g3 ev⟩
          · rw [decide_eq_false hd]
            rw [if_neg hd] at ev
            exact ⟨p, _, _, _, rfl, rfl, SqL.of g2, atI_nat (j := 0) rfl, (by show 2 ≤ sizeLine; decide), fun p3 H3 fp3 s3 g3 => yes ((s9.trans s2).trans s3) g3 ev⟩
end
end My
set_option Elab.async false
set_option linter.all false
set_option maxRecDepth 100000
namespace My
open PySem PySem.Spec PyProof.Rows L2 PySem.NumText
set_option maxHeartbeats 400000
section
variable {P : Program} {w : World} {K : PySem.W.Frag} {mg : Str → Option Value} {base : Heap}
def kinds (o : Option V) : List V := match o with
  | some _ => []
  | none => [.bl true, .bl true, .bl false, .non]
def sp_lread (K : PySem.W.Frag) : Sp := fun vs H Q _ => ∃ v, vs = [v] ∧ Th K H v ∧ ∀ p l H', Same H H' → H' p = some (.tup [.ref l, (rdT v).getD .non]) → H' l = some (.lst (kinds (rdT v))) → H l = none → Q (.ref p) H'
theorem same_up2 {H : Hp} {e T C dx : Addr} (n : H e = none) (nT : H T = none) : Same H (up2 H e T C dx) := fun b o h => by
  unfold up2
  rw [upd_ne (ne_of_none h n), upd_ne (ne_of_none h nT)]
  exact h
theorem ok__law_read (T : Txt K mg) {C S D : Addr} (hx_NoWords : ExT K mg s_init "NoWords" "ShardError.__init__" C S) (m_ShardError : mg "ShardError" = some (.ref S)) (h_ShardError : XS K S) (m_NoQuestion : mg "NoQuestion" = some (.ref D)) (h_NoQuestion : XS K D)
    (f1 : PySem.W.mroIn K C (.ref D) = some false) (f2 : PySem.W.mroIn K C (.ref C) = some true) (f3 : PySem.W.mroIn K C (.type "ValueError") = some true)
    (GX_read_value : OkX P w K mg base 3 "read_value" ["word"] (sp_read K C)) : Ok P w K mg base 4 "_law_read" ["_law_word"] (sp_lread K) := by
  refine Ok.ofV T.d__law_read sc__law_read (fun vs H Q E h => ?_) (fun f cdv A outer s H vs Q E hr h => ?_)
  · obtain ⟨v, rfl, _⟩ := h; rfl
  obtain ⟨v, rfl, hv, q⟩ := h
  obtain ⟨⟨fI, fd, xc, F, B⟩, m_NoWords, kp, h_NoWords, over⟩ := hx_NoWords
  have x_NoWords : ∃ u, mg "NoWords" = some u ∧ RelV (.ref C) u := ⟨_, m_NoWords, rfl⟩
  have x_NoQuestion : ∃ u, mg "NoQuestion" = some u ∧ RelV (.ref D) u := ⟨_, m_NoQuestion, rfl⟩
  have bt_ValueError := boot_VE
  refine ⟨_, (vss_cons (vs_set (i := 1) sc__law_read.nd rfl (by first | exact Or.inl rfl | exact Or.inr rfl) (ve_lstA va_nil)) (vss_cons (vs_set (i := 2) sc__law_read.nd rfl (by first | exact Or.inl rfl | exact Or.inr rfl) ve_non) (vss_cons (vs_try (i := 3) rfl rfl sc__law_read.nd rfl rfl (by rfl) m_ShardError h_ShardError (fun pins σ₀ E ok => (vss_one (vs_set (i := 2) sc__law_read.nd rfl (by first | exact Or.inl rfl | exact Or.inr rfl) (ve_callAt ok (GX_read_value.mono (by decide)) hr (by rfl) (va_c (vv 0) va_nil))))) (fun e => (vss_one (vs_set (i := 1) sc__law_read.nd rfl (by first | exact Or.inl rfl | exact Or.inr rfl) (ve_lstA (va_c (ve_callB (isE_ownK (K := K) h_NoWords) (by rfl) T.n_isinstance bf_isinstance (va_c (vv 3) (va_c (ve_gl (by rfl) x_NoWords) va_nil))) (va_c (ve_callB (isE_VEK (K := K)) (by rfl) T.n_isinstance bf_isinstance (va_c (vv 3) (va_c (ve_bltn (v := .ty "ValueError") (by rfl) T.n_ValueError bt_ValueError rfl) va_nil))) (va_c (ve_callB (isE_ownK (K := K) h_NoQuestion) (by rfl) T.n_isinstance bf_isinstance (va_c (vv 3) (va_c (ve_gl (by rfl) x_NoQuestion) va_nil))) (va_c (ve_act (K := K) (vv 3)) va_nil))))))))) (vss_one (vs_ret (ve_tupA (va_c (vv 1) (va_c (vv 2) va_nil)))))))), ?_⟩
  refine ⟨(by show 0 ≤ sizeLine; decide), fun l H1 fl s1 g1 => ?_⟩
  refine ⟨rfl, _, rfl, v, rfl, hv.same s1, ?_⟩
  cases hrd : rdT v with
  | some u =>
    intro H2 s2
    refine ⟨_, rfl, _, rfl, (by show 2 ≤ sizeLine; decide), fun p H3 fp s3 g3 => ?_⟩
    refine q p l H3 ((s1.trans s2).trans s3) ?_ ?_ fl
    · rw [g3, hrd]; rfl
    · rw [s3 _ _ (s2 _ _ g1), hrd]; rfl
  | none =>
    intro e H2 s2
    refine ⟨C, e, fI, rfl, rfl, xc, over, fun Tb dx n nT hTe hd => ?_⟩
    have su := same_up2 (C := C) (dx := dx) n nT
    have he : up2 H2 e Tb C dx e = some (FlyO e Tb C dx) := upd_same
    have hdx : up2 H2 e Tb C dx dx = some xdA := su _ _ hd
    refine ⟨_, rfl, e, Tb, C, dx, fI, true, rfl, he, xc, hdx, f2, trivial, ?_⟩
    refine ⟨_, rfl, e, Tb, C, dx, fI, true, rfl, he, xc, hdx, f3, trivial, ?_⟩
    refine ⟨_, rfl, e, Tb, C, dx, fI, false, rfl, he, xc, hdx, f1, trivial, ?_⟩
    refine ⟨_, rfl, e, Tb, C, dx, fI, rfl, he, xc, hdx, (by show 4 ≤ sizeLine; decide), fun l2 H3 fl2 s3 g3 => ?_⟩
    refine ⟨_, rfl, _, rfl, (by show 2 ≤ sizeLine; decide), fun p H4 fp s4 g4 => ?_⟩
    have sa : Same H (up2 H2 e Tb C dx) := (s1.trans s2).trans su
    refine q p l2 H4 ((sa.trans s3).trans s4) ?_ ?_ (sa.free fl2)
    · rw [g4, hrd]; rfl
    · rw [s4 _ _ g3, hrd]; rfl
def IntStr (v : V) : Prop := (∃ i, v = .int i) ∨ ∃ x, v = .str x ∧ x.length ≤ 1000
theorem IntStr.th {K : PySem.W.Frag} {H : Hp} {v : V} (h : IntStr v) : Th K H v := by
  rcases h with ⟨i, rfl⟩ | ⟨x, rfl, h⟩
  · exact .inr (.inl ⟨i, rfl⟩)
  · exact .inl ⟨x, rfl, h⟩
def sp_same : Sp := fun vs H Q _ => ∃ v, vs = [v, v] ∧ IntStr v ∧ Q (.bl true) H
theorem ok__law_same (T : Txt K mg) : Ok P w K mg base 1 "_law_same" ["_law_one", "_law_other"] sp_same := by
  refine Ok.ofV T.d__law_same sc__law_same (fun vs H Q E h => ?_) (fun f cdv A outer s H vs Q E hr h => ?_)
  · obtain ⟨v, rfl, _⟩ := h; rfl
  obtain ⟨v, rfl, hv, q⟩ := h
  refine ⟨_, (vss_one (vs_ret (ve_and (ve_cmpR op_eq (ve_callB (call_isi.or call_isiR) (by rfl) T.n_isinstance bf_isinstance (va_c (vv 0) (va_c (ve_bltn (v := .ty "str") (by rfl) T.n_str bt_str rfl) va_nil))) (ve_callB (call_isi.or call_isiR) (by rfl) T.n_isinstance bf_isinstance (va_c (vv 1) (va_c (ve_bltn (v := .ty "str") (by rfl) T.n_str bt_str rfl) va_nil))) (nomark _)) (ve_and (ve_not (ve_callB (call_isi.or call_isiR) (by rfl) T.n_isinstance bf_isinstance (va_c (vv 0) (va_c (ve_bltn (v := .ty "bool") (by rfl) T.n_bool bt_bool rfl) va_nil)))) (ve_one (ve_cmpR op_eq (vv 0) (vv 1) (nomark _))))))), ?_⟩
  refine ⟨_, rfl, isi_any hv.th (.inr (.inr rfl)) ⟨_, rfl, isi_any hv.th (.inr (.inr rfl)) ⟨rfl, _, rfl, ?_⟩⟩⟩
  rw [decide_eq_true rfl]
  refine iteT ⟨_, rfl, isi_any hv.th (.inr (.inl rfl)) ⟨_, rfl, ?_⟩⟩
  rcases hv with ⟨i, rfl⟩ | ⟨x, rfl, h⟩
  · refine ⟨_, rfl, iteT ⟨_, rfl, _, rfl, rfl, ?_⟩⟩
    rw [decide_eq_true rfl]; exact q
  · refine ⟨_, rfl, iteT ⟨_, rfl, _, rfl, rfl, ?_⟩⟩
    rw [decide_eq_true rfl]; exact q
end
end My
set_option Elab.async false
set_option linter.all false
set_option maxRecDepth 100000
namespace My
open PySem PySem.Spec PyProof.Rows L2 PySem.NumText
set_option maxHeartbeats 400000
section
variable {P : Program} {w : World} {K : PySem.W.Frag} {mg : Str → Option Value} {base : Heap}
def sp_true : Sp := fun vs H Q _ => ∃ x : Str, vs = [.str x] ∧ x.length ≤ 1000 ∧ ∀ H', Same H H' → Q (.bl true) H'
theorem rdV_is {x : Str} {u : V} (hx : x.length ≤ 1000) (h : rdV x = some u) : IntStr u := by
  unfold rdV at h
  split at h
  · cases h; exact .inl ⟨_, rfl⟩
  · split at h
    · cases h
      refine .inr ⟨_, rfl, ?_⟩
      show (List.toArray _).size ≤ 1000
      rw [List.size_toArray]
      unfold inn
      rw [List.length_dropLast, List.length_tail, ← len_cs]
      omega
    · cases h
theorem ok__law_right (T : Txt K mg) (G__law_looked : Ok P w K mg base 1 "_law_looked" ["_law_word"] sp_looked) (G__law_read : Ok P w K mg base 4 "_law_read" ["_law_word"] (sp_lread K)) (G__law_same : Ok P w K mg base 1 "_law_same" ["_law_one", "_law_other"] sp_same) :
    Ok P w K mg base 5 "_law_right" ["_law_word"] sp_true := by
  refine Ok.ofV T.d__law_right sc__law_right (fun vs H Q E h => ?_) (fun f cdv A outer s H vs Q E hr h => ?_)
  · obtain ⟨v, rfl, _⟩ := h; rfl
  obtain ⟨x, rfl, hx, q⟩ := h
  have hu := hu_of hr
  have hU := hr.units
  have hv : Th K H (.str x) := .inl ⟨x, rfl, hx⟩
  refine ⟨_, (vss_cons (vs_asg (ve_fn (G__law_looked.mono (by decide)) hr (by rfl) (va_c (vv 0) va_nil)) (vg_tup rfl (vgs_cons (vg_name (i := 1) sc__law_right.nd rfl (by first | exact Or.inl rfl | exact Or.inr rfl)) (vgs_cons (vg_name (i := 2) sc__law_right.nd rfl (by first | exact Or.inl rfl | exact Or.inr rfl)) vgs_nil)))) (vss_cons (vs_asg (ve_fn (G__law_read.mono (by decide)) hr (by rfl) (va_c (vv 0) va_nil)) (vg_tup rfl (vgs_cons (vg_name (i := 3) sc__law_right.nd rfl (by first | exact Or.inl rfl | exact Or.inr rfl)) (vgs_cons (vg_name (i := 4) sc__law_right.nd rfl (by first | exact Or.inl rfl | exact Or.inr rfl)) vgs_nil)))) (vss_cons (vs_if (vt_val (vv 1)) (vss_one (vs_ret (ve_and (ve_cmpR (op_eqN (Nat.lt_of_succ_lt hu)) (vv 3) (ve_lstA va_nil) (nomark _)) (ve_one (ve_fn (G__law_same.mono (by decide)) hr (by rfl) (va_c (vv 4) (va_c (vv 2) va_nil))))))) vss_nil) (vss_one (vs_ret (ve_cmpR (op_eqF (Nat.lt_of_succ_lt hu)) (vv 3) (ve_lstA (va_c ve_bl (va_c ve_bl (va_c ve_bl (va_c ve_non va_nil))))) (nomark _))))))), ?_⟩
  refine ⟨_, rfl, x, rfl, hx, fun p H1 s1 g1 => ?_⟩
  cases hrd : rdV x with
  | some u =>
    rw [hrd] at g1
    have hi := rdV_is hx hrd
    refine ⟨p, _, rfl, SqT.of g1, rfl, _, _, rfl, _, _, rfl, rfl, ?_⟩
    refine ⟨_, rfl, _, rfl, hv.same s1, fun p2 l H2 s2 g2 gl fl => ?_⟩
    have e : rdT (.str x) = some u := hrd
    rw [e] at g2 gl
    refine ⟨p2, _, rfl, SqT.of g2, rfl, _, _, rfl, _, _, rfl, rfl, ?_⟩
    refine ⟨_, rfl, _, rfl, iteT ?_⟩
    refine ⟨_, rfl, (by show 0 ≤ sizeLine; decide), fun l3 H3 f3 s3 g3 => ?_⟩
    refine ⟨l, l3, [], rfl, rfl, SqL.of (s3 _ _ gl), SqL.of g3, _, rfl, iteT ?_⟩
    exact ⟨_, rfl, _, rfl, u, rfl, hi, q _ ((s1.trans s2).trans s3)⟩
  | none =>
    rw [hrd] at g1
    refine ⟨p, _, rfl, SqT.of g1, rfl, _, _, rfl, _, _, rfl, rfl, ?_⟩
    refine ⟨_, rfl, _, rfl, hv.same s1, fun p2 l H2 s2 g2 gl fl => ?_⟩
    have e : rdT (.str x) = none := hrd
    rw [e] at g2 gl
    refine ⟨p2, _, rfl, SqT.of g2, rfl, _, _, rfl, _, _, rfl, rfl, ?_⟩
    refine ⟨_, rfl, _, rfl, iteF ?_⟩
    refine ⟨_, rfl, (by show 4 ≤ sizeLine; decide), fun l3 H3 f3 s3 g3 => ?_⟩
    exact ⟨l, l3, _, _, rfl, rfl, SqL.of (s3 _ _ gl), SqL.of g3, Fl2.refl (by decide), q _ ((s1.trans s2).trans s3)⟩
def sp_spoilt : Sp := fun vs H Q _ => ∃ (a : Addr) (x : Str), vs = [.ref a, .str x] ∧ StAt H a ∧ x.length ≤ 100 ∧ ∀ y H', Fx a H H' → y.length ≤ 1000 → Q (.str y) H'
theorem ok__law_spoilt (T : Txt K mg) (G__law_next : Ok P w K mg base 1 "_law_next" ["_law_state", "_law_many"] sp_next) : Ok P w K mg base 2 "_law_spoilt" ["_law_state", "_law_word"] sp_spoilt := by
  refine Ok.ofV T.d__law_spoilt sc__law_spoilt (fun vs H Q E h => ?_) (fun f cdv A outer s H vs Q E hr h => ?_)
  · obtain ⟨a, x, rfl, _⟩ := h; rfl
  obtain ⟨a, x, rfl, hs, hx, q⟩ := h
  refine ⟨_, (vss_cons (vs_set (i := 2) sc__law_spoilt.nd rfl (by first | exact Or.inl rfl | exact Or.inr rfl) (ve_fn (G__law_next.mono (by decide)) hr (by rfl) (va_c (vv 0) (va_c (ve_op op_add (ve_callB call_len_str (by rfl) T.n_len bf_len (va_c (vv 1) va_nil)) ve_int) va_nil)))) (vss_cons (vs_set (i := 3) sc__law_spoilt.nd rfl (by first | exact Or.inl rfl | exact Or.inr rfl) (ve_item_str ve_str (ve_fn (G__law_next.mono (by decide)) hr (by rfl) (va_c (vv 0) (va_c ve_int va_nil))) (fun _ _ => rfl))) (vss_cons (vs_set (i := 4) sc__law_spoilt.nd rfl (by first | exact Or.inl rfl | exact Or.inr rfl) (ve_fn (G__law_next.mono (by decide)) hr (by rfl) (va_c (vv 0) (va_c ve_int va_nil)))) (vss_cons (vs_if (vt_cmpR op_eq (vv 4) ve_int (nomark _)) (vss_one (vs_ret (ve_op op_add_str (ve_op op_add_str (ve_slice sl_strX (vv 1) vo_none (vo_some (vv 2))) (vv 3)) (ve_slice sl_strX (vv 1) (vo_some (vv 2)) vo_none)))) vss_nil) (vss_cons (vs_if (vt_cmpR op_eq (vv 4) ve_int (nomark _)) (vss_one (vs_ret (ve_op op_add_str (ve_op op_add_str (ve_slice sl_strX (vv 1) vo_none (vo_some (vv 2))) (vv 3)) (ve_slice sl_strX (vv 1) (vo_some (ve_op op_add (vv 2) ve_int)) vo_none)))) vss_nil) (vss_cons (vs_if (vt_cmpR op_eq (vv 4) ve_int (nomark _)) (vss_one (vs_ret (ve_op op_add_str (ve_slice sl_strX (vv 1) vo_none (vo_some (vv 2))) (ve_slice sl_strX (vv 1) (vo_some (ve_op op_add (vv 2) ve_int)) vo_none)))) vss_nil) (vss_one (vs_ret (ve_op op_add_str (ve_slice sl_strX (vv 1) vo_none (vo_some (vv 2))) (ve_slice sl_strX (vv 1) (vo_some (ve_callB (call_max2 rfl) (by rfl) T.n_max bf_max (va_c ve_int (va_c (ve_op op_sub (vv 2) ve_int) va_nil)))) vo_none)))))))))), ?_⟩
  have hx1 : x.length ≤ sizeLine := small (by omega)
  refine ⟨_, rfl, _, rfl, _, rfl, hx1, _, _, rfl, rfl, a, _, rfl, hs, (by show (0 : Int) < (x.length : Int) + 1; omega), fun at_ H1 f1 a0 a1 => ?_⟩
  refine ⟨_, rfl, a, 16, rfl, f1.st, by decide, fun d H2 f2 d0 d1 => ?_⟩
  have ls : Str.length "0123-+'a zA:;)\n_" = 16 := by decide +kernel
  obtain ⟨ch, hch⟩ := sign_at (z := "0123-+'a zA:;)\n_") d0 (by rw [ls]; exact d1)
  refine ⟨_, _, _, rfl, rfl, d0, (by omega), (by rw [ls]; exact d1), hch, ?_⟩
  refine ⟨_, rfl, a, 4, rfl, f2.st, by decide, fun way H3 f3 w0 w1 => ?_⟩
  have fx := f1.trans (f2.trans f3)
  have sl : ∀ l u : Option Int, (Txt.slice x l u).length ≤ 100 := fun l u => Nat.le_trans (Txt.slice_le x l u) hx
  have l1 : (⟨#[ch]⟩ : Str).length = 1 := rfl
  have lt : ∀ {n : Nat}, n ≤ 1000 → n ≤ sizeLine := fun h => small h
  refine ⟨_, rfl, rfl, _, rfl, ite2 (fun _ => ?_) (fun _ => ?_)⟩
  · have a1 := sl none (some at_)
    have a2 := sl (some at_) none
    refine ⟨_, rfl, _, rfl, _, rfl, _, rfl, hx1, _, rfl, _, _, rfl, rfl, lt (by omega), _, rfl, _, rfl, _, rfl, _, rfl, hx1, _, _, rfl, rfl, ?_, q _ _ fx ?_⟩
    · rw [add_len]; exact lt (by omega)
    · rw [add_len, add_len]; omega
  refine ⟨_, rfl, rfl, _, rfl, ite2 (fun _ => ?_) (fun _ => ?_)⟩
  · have a1 := sl none (some at_)
    have a2 := sl (some (at_ + 1)) none
    refine ⟨_, rfl, _, rfl, _, rfl, _, rfl, hx1, _, rfl, _, _, rfl, rfl, lt (by omega), _, rfl, _, rfl, _, _, rfl, rfl, _, rfl, _, rfl, hx1, _, _, rfl, rfl, ?_, q _ _ fx ?_⟩
    · rw [add_len]; exact lt (by omega)
    · rw [add_len, add_len]; omega
  refine ⟨_, rfl, rfl, _, rfl, ite2 (fun _ => ?_) (fun _ => ?_)⟩
  · have a1 := sl none (some at_)
    have a2 := sl (some (at_ + 1)) none
    refine ⟨_, rfl, _, rfl, _, rfl, _, rfl, hx1, _, rfl, _, rfl, _, _, rfl, rfl, _, rfl, _, rfl, hx1, _, _, rfl, rfl, lt (by omega), q _ _ fx ?_⟩
    rw [add_len]; omega
  · have a1 := sl none (some at_)
    have a2 := sl (some (if at_ - 1 > 0 then at_ - 1 else 0)) none
    refine ⟨_, rfl, _, rfl, _, rfl, _, rfl, hx1, _, rfl, _, rfl, _, _, rfl, rfl, _, _, rfl, _, rfl, _, rfl, hx1, _, _, rfl, rfl, lt (by omega), q _ _ fx ?_⟩
    rw [add_len]; omega
def rowS (xs : List V) : Str := Txt.join " " (xs.map shw)
def RowOk (xs : List V) : Prop := xs.length ≤ 8 ∧ ∀ x ∈ xs, Vl x
theorem join_ok {sep : Str} {ts : List Str} {B : Nat} (hB : ∀ y ∈ ts, y.length ≤ B) (h : ts.length * B + ts.length * sep.length ≤ 16777216) : JoinOk sep ts = true := by
  unfold JoinOk
  rw [PySem.StrLaws.joinFits hB h]
  rfl
theorem row_join {xs : List V} (h : RowOk xs) : JoinOk " " (xs.map shw) = true := by
  refine join_ok (B := 61) (fun y hy => ?_) ?_
  · obtain ⟨x, hx, rfl⟩ := List.mem_map.mp hy
    exact shw_len (h.2 x hx)
  · have : Str.length " " = 1 := by decide +kernel
    rw [List.length_map, this]
    have := h.1
    omega
theorem map_shw (xs : List V) : xs.map (fun x => V.str (shw x)) = (xs.map shw).map V.str := by rw [List.map_map]; rfl
def sp_row (K : PySem.W.Frag) : Sp := fun vs H Q _ => ∃ p xs, vs = [.ref p] ∧ SqT K H p xs ∧ RowOk xs ∧ ∀ H', Same H H' → Q (.str (rowS xs)) H'
theorem ok_shown_row (T : Txt K mg) (G_shown_value : Ok P w K mg base 2 "shown_value" ["value"] sp_shown) : Ok P w K mg base 3 "shown_row" ["row"] (sp_row K) := by
  refine Ok.ofV T.d_shown_row sc_shown_row (fun vs H Q E h => ?_) (fun f cdv A outer s H vs Q E hr h => ?_)
  · obtain ⟨p, xs, rfl, _⟩ := h; rfl
  obtain ⟨p, xs, rfl, hp, hk, q⟩ := h
  refine ⟨_, (vss_one (vs_ret (ve_bm PySem.F.plainAttrs_str PySem.F.slot_str_join PySem.F.type_str_join mt_join ve_str (va_c (ve_comp (N := ["value"]) ⟨by decide +kernel, rfl, by decide +kernel, by decide +kernel⟩ (hfr_none (by decide +kernel)) rfl (vi_tup (vv 0)) (fun cl s' H' fp => ⟨(vg_name (i := 0) (show (["value"] : List Str).Nodup from by decide +kernel) rfl (Or.inl rfl)), vf_nil, (ve_fn (G_shown_value.mono (by decide)) hr (by rfl) (va_c (vv 0) va_nil))⟩)) va_nil)))), ?_⟩
  dsimp only [tNext, tRet, tBM, tCons, tC]
  refine ⟨rfl, comp_same xs (fun x => .str (shw x)) [none] cap_none1 (small (by have := hk.1; omega)) (fun R r => wi_tup hp (fun R' r' => ⟨_, rfl, r'⟩) R r) (fun x hx' H' R l sm r => ?_) rfl fun D H' sm hD => ?_⟩
  · exact ⟨_, rfl, x, rfl, hk.2 x hx', r H' (Same.refl H')⟩
  · exact ⟨_, D, _, rfl, rfl, SqL.of (by rw [hD, map_shw]), row_join hk, q H' sm⟩
theorem row_len {xs : List V} (h : RowOk xs) : (rowS xs).length ≤ 1000 := by
  have h1 := PySem.StrLaws.join_length_le " " (xs.map shw)
  have h2 := PySem.StrLaws.sumLen_le (xs.map shw) (B := 61) (fun y hy => by
    obtain ⟨x, hx, rfl⟩ := List.mem_map.mp hy
    exact shw_len (h.2 x hx))
  have e : Str.length " " = 1 := by decide +kernel
  have := h.1
  rw [List.length_map] at h1 h2
  rw [e] at h1
  have e2 : rowS xs = Str.join " " (xs.map shw) := by unfold rowS Txt.join; exact PySem.StrLaws.glued_eq_join _ _
  rw [e2]
  omega
def tCompI (wi : TI) (g : TG) (tt : TT) (te : TE) : TE := fun σ H Q => wi σ H fun J H1 => CBody J H1 [none] g tt te Q
theorem ve_compI {X : Cx} {pos : Pos} {elt target iter : Expr} {ifs : List Expr} {scope : Scope} {x : Str} {wi : TI} {g : TG} {tt : TT} {te : TE}
    (C : CompOk scope [x]) (hfr : ∀ z, (z, NameKind.free) ∈ scope.names → X.env.kindOf z = some .cell ∨ X.env.kindOf z = some .free) (hc : X.calm = true)
    (hi : VI X target iter wi)
    (hb : ∀ cl s H fp, VG (cxC X [x] scope cl s H fp) target g ∧ VF (cxC X [x] scope cl s H fp) ifs tt ∧ VE (cxC X [x] scope cl s H fp) elt te)
    (hs : ∀ x, foldedSetIterable iter X.env x = pure x := by intro _; rfl) :
    VE X (.ListComp elt [⟨target, iter, ifs, 0⟩] scope pos) (tCompI wi g tt te) := VE.imp (ve_comp C hfr hc hi hb hs) fun σ H Q h => ⟨[none], cap_none1, h⟩
def tCompJ (j : Nat) (wi : TI) (g : TG) (tt : TT) (te : TE) : TE := fun σ H Q => ∃ v, σ[j]? = some (some v) ∧ wi σ H fun J H1 => CBody J H1 [none, some v] g tt te Q
theorem ve_compJ {X : Cx} {pos : Pos} {elt target iter : Expr} {ifs : List Expr} {scope : Scope} {x y : Str} {wi : TI} {g : TG} {tt : TT} {te : TE} (j : Nat)
    (C : CompOk scope [x, y]) (hfr : ∀ z, (z, NameKind.free) ∈ scope.names → X.env.kindOf z = some .cell ∨ X.env.kindOf z = some .free) (hc : X.calm = true)
    (hf : (y, NameKind.free) ∈ scope.names) (hj : X.N[j]? = some y) (hv : Vis X.env.scope y) (hi : VI X target iter wi)
    (hb : ∀ cl s H fp, VG (cxC X [x, y] scope cl s H fp) target g ∧ VF (cxC X [x, y] scope cl s H fp) ifs tt ∧ VE (cxC X [x, y] scope cl s H fp) elt te)
    (hs : ∀ x, foldedSetIterable iter X.env x = pure x := by intro _; rfl) :
    VE X (.ListComp elt [⟨target, iter, ifs, 0⟩] scope pos) (tCompJ j wi g tt te) := VE.imp (ve_comp C hfr hc hi hb hs) fun σ H Q ⟨v, hs, h⟩ => ⟨[none, some v], cap_at1 j hf hj hs hv, h⟩
theorem vi_tupK {X : Cx} {tg e : Expr} {te : TE} (h : VE X e te) (hk : X.K = K := by rfl) : VI X tg e (iTup K te) := by subst hk; exact vi_tup h
theorem vi_listK {X : Cx} {tg e : Expr} {te : TE} (h : VE X e te) (hk : X.K = K := by rfl) : VI X tg e (iList K te) := by subst hk; exact vi_list h
theorem mt_joinK {X : Cx} (hk : X.K = K := by rfl) : MtR X "str.join" (rJoin K) := by subst hk; exact mt_join
theorem ve_bmK {X : Cx} {e : Expr} {es : List Expr} {t : TA} {o : Expr} {to : TE} {name : Str} {apos cpos : Pos} {T id : String} {r : V → List V → Hp → VK → Prop} (pa : PlainAttrs T) (slot : Slot T name id) (hty : typeOf (.builtin id) = pure (.type "method_descriptor")) (hm : MtR X id r) (ho : VE X o to) (ha : VA X (e :: es) t) (hk : X.K = K := by rfl)
    (hbase : attributeBase o name X.env (eval o X.env) = eval o X.env := by rfl)
    (hfew : ((backTo cpos (starEach (e :: es) X.env)).all (fun x => !x.1) && (backToKw cpos (keywordEach [] X.env)).all (fun x => x.1.isSome)
      && decide ((e :: es).length + ([] : List Keyword).length + (if ([] : List Keyword).isEmpty then 0 else 1) < 30)) = true := by rfl)
    (hline : (apos.endLine == cpos.line) = true := by rfl) (hp : plainE e = true := by rfl) (hplain : (backTo cpos (starEach es X.env)).any (·.1) = false := by rfl) :
    VE X (.Call (.Attribute o name apos) (e :: es) [] cpos) (tBM K T r to t) := by subst hk; exact ve_bm pa slot hty hm ho ha hbase hfew hline hp hplain
theorem sel_true {α : Type} : ∀ (k : Nat) (xs : List α), sel (fun _ => true) k xs = xs
  | _, [] => rfl
  | k, x :: r => by
    show (if true = true then x :: sel (fun _ => true) (k + 1) r else _) = _
    rw [if_pos rfl, sel_true (k + 1) r]
theorem alli_range {R : Nat → V → Prop} {n : Nat} {ys : List V} (h : AllI R (List.range n) ys) : ys.length = n ∧ ∀ (i : Nat) (y : V), ys[i]? = some y → R i y := by
  have aux : ∀ {is : List Nat} {ys : List V}, AllI R is ys → ∀ (i : Nat) (y : V), ys[i]? = some y → ∃ j, is[i]? = some j ∧ R j y := by
    intro is ys h
    induction h with
    | nil => intro i y e; simp at e
    | cons r _ ih =>
      intro i y e
      cases i with
      | zero => cases e; exact ⟨_, rfl, r⟩
      | succ i => obtain ⟨j, h1, h2⟩ := ih i y (by simpa using e); exact ⟨j, by simpa using h1, h2⟩
  have l := h.len
  rw [List.length_range] at l
  refine ⟨l.symm, fun i y e => ?_⟩
  obtain ⟨j, h1, h2⟩ := aux h i y e
  have hi : i < n := by
    have := (List.getElem?_eq_some_iff.mp e).1
    omega
  rw [List.getElem?_range hi] at h1
  cases h1
  exact h2
set_option maxHeartbeats 1600000 in
theorem ys_map {xs ys : List V} {f : V → V} {R : Nat → V → Prop} (h : AllI R (sel (fun _ => true) 0 (List.range xs.length)) ys) (hR : ∀ i y, R i y → ∃ x, xs[i]? = some x ∧ y = f x) : ys = xs.map f := by
  rw [sel_true] at h
  obtain ⟨hl, hg⟩ := alli_range h
  apply List.ext_getElem?
  intro i
  by_cases hi : i < xs.length
  · have e1 := List.getElem?_eq_getElem (l := ys) (i := i) (by omega)
    obtain ⟨x, hx, hy⟩ := hR i _ (hg i _ e1)
    rw [e1, hy, List.getElem?_map, hx]
    rfl
  · rw [List.getElem?_eq_none (by omega), List.getElem?_eq_none (by rw [List.length_map]; omega)]
def rowsS (rows : List (List V)) : Str := if rows.isEmpty then "-" else Txt.join "; " (rows.map rowS)
def sp_rows (K : PySem.W.Frag) : Sp := fun vs H Q _ => ∃ l rs, ∃ g : V → List V, vs = [.ref l] ∧ SqL K H l rs ∧ (∀ r ∈ rs, ∃ p, r = .ref p ∧ SqT K H p (g r) ∧ RowOk (g r)) ∧ rs.length ≤ 10 ∧ ∀ H', Same H H' → Q (.str (rowsS (rs.map g))) H'
theorem rows_join {rs : List V} {g : V → List V} {K : PySem.W.Frag} {H : Hp} (h : ∀ r ∈ rs, ∃ p, r = .ref p ∧ SqT K H p (g r) ∧ RowOk (g r)) (hl : rs.length ≤ 10) : JoinOk "; " ((rs.map g).map rowS) = true := by
  refine join_ok (B := 1000) (fun y hy => ?_) ?_
  · rw [List.map_map] at hy
    obtain ⟨r, hr, rfl⟩ := List.mem_map.mp hy
    obtain ⟨p, _, _, hk⟩ := h r hr
    exact row_len hk
  · have : Str.length "; " = 2 := by decide +kernel
    rw [List.length_map, List.length_map, this]
    omega
theorem ok_shown_rows (T : Txt K mg) (G_shown_row : Ok P w K mg base 3 "shown_row" ["row"] (sp_row K)) : Ok P w K mg base 4 "shown_rows" ["rows"] (sp_rows K) := by
  refine Ok.ofV T.d_shown_rows sc_shown_rows (fun vs H Q E h => ?_) (fun f cdv A outer s H vs Q E hr h => ?_)
  · obtain ⟨p, xs, g, rfl, _⟩ := h; rfl
  obtain ⟨l, rs, g, rfl, hl, hk, h10, q⟩ := h
  refine ⟨_, (vss_one (vs_ret (ve_ifExp (vt_truth (vv 0)) (ve_bm PySem.F.plainAttrs_str PySem.F.slot_str_join PySem.F.type_str_join mt_join ve_str (va_c (ve_comp (N := ["row"]) ⟨by decide +kernel, rfl, by decide +kernel, by decide +kernel⟩ (hfr_none (by decide +kernel)) rfl (vi_list (vv 0)) (fun cl s' H' fp => ⟨(vg_name (i := 0) (show (["row"] : List Str).Nodup from by decide +kernel) rfl (Or.inl rfl)), vf_nil, (ve_fn (G_shown_row.mono (by decide)) hr (by rfl) (va_c (vv 0) va_nil))⟩)) va_nil)) ve_str))), ?_⟩
  refine ⟨_, rfl, _, .inl ⟨rs, hl, rfl⟩, ?_⟩
  cases rs with
  | nil =>
    refine iteF ?_
    exact q H (Same.refl H)
  | cons r0 rr =>
    refine iteT ?_
    dsimp only [tNext, tRet, tBM, tCons, tC]
    refine ⟨rfl, comp_same (r0 :: rr) (fun r => .str (rowS (g r))) [none] cap_none1 (small (by omega)) (fun R r => wi_list (fun H' s' => s'.seq hl) (fun R' r' => ⟨_, rfl, r'⟩) R r) (fun r hr' H' R l' sm rr' => ?_) rfl fun D H' sm hD => ?_⟩
    · obtain ⟨p, rfl, hp, hkk⟩ := hk r hr'
      exact ⟨_, rfl, p, _, rfl, sm.seqT hp, hkk, fun H2 s2 => rr' H2 s2⟩
    · refine ⟨_, D, ((r0 :: rr).map g).map rowS, rfl, rfl, SqL.of (by rw [hD, List.map_map, List.map_map]; rfl), rows_join hk h10, ?_⟩
      exact q H' sm
theorem ok__law_shown_rows (T : Txt K mg) (G__law_shown_value : Ok P w K mg base 1 "_law_shown_value" ["_law_value_here"] sp_shown) : Ok P w K mg base 2 "_law_shown_rows" ["_law_rows"] (sp_rows K) := by
  refine Ok.ofV T.d__law_shown_rows sc__law_shown_rows (fun vs H Q E h => ?_) (fun f cdv A outer s H vs Q E hr h => ?_)
  · obtain ⟨p, xs, g, rfl, _⟩ := h; rfl
  obtain ⟨l, rs, g, rfl, hl, hk, h10, q⟩ := h
  have hu := hu_of hr
  refine ⟨_, (vss_cons (vs_if (vt_cmpR (op_eqN (Nat.lt_of_succ_lt hu)) (vv 0) (ve_lstA va_nil) (nomark _)) (vss_one (vs_ret ve_str)) vss_nil) (vss_one (vs_ret (ve_bm PySem.F.plainAttrs_str PySem.F.slot_str_join PySem.F.type_str_join mt_join ve_str (va_c (ve_comp (N := ["_law_row"]) ⟨by decide +kernel, rfl, by decide +kernel, by decide +kernel⟩ (hfr_none (by decide +kernel)) rfl (vi_list (vv 0)) (fun cl s' H' fp => ⟨(vg_name (i := 0) (show (["_law_row"] : List Str).Nodup from by decide +kernel) rfl (Or.inl rfl)), vf_nil, (ve_bmK (K := K) PySem.F.plainAttrs_str PySem.F.slot_str_join PySem.F.type_str_join (mt_joinK (K := K)) ve_str (va_c (ve_compI (x := "_law_value_here") ⟨by decide +kernel, rfl, by decide +kernel, by decide +kernel⟩ (hfr_none (by decide +kernel)) rfl (vi_tupK (K := K) (vv 0)) (fun cl s' H' fp => ⟨(vg_name (i := 0) (show (["_law_value_here"] : List Str).Nodup from by decide +kernel) rfl (Or.inl rfl)), vf_nil, (ve_fn (G__law_shown_value.mono (by decide)) hr (by rfl) (va_c (vv 0) va_nil))⟩)) va_nil))⟩)) va_nil))))), ?_⟩
  refine ⟨_, rfl, (by show 0 ≤ sizeLine; decide), fun l3 H3 f3 s3 g3 => ⟨l, l3, rs, rfl, rfl, s3.seq hl, SqL.of g3, _, rfl, ?_⟩⟩
  cases rs with
  | nil => exact iteT (q H3 s3)
  | cons r0 rr =>
    refine iteF ?_
    dsimp only [tNext, tRet, tBM, tCons, tC]
    refine ⟨rfl, comp_same (r0 :: rr) (fun r => .str (rowS (g r))) [none] cap_none1 (small (by omega)) (fun R r => wi_list (fun H' s' => s'.seq (s3.seq hl)) (fun R' r' => ⟨_, rfl, r'⟩) R r) (fun r hr' H' R l' sm rr' => ?_) rfl fun D H' sm hD => ?_⟩
    · obtain ⟨p, rfl, hp, hkk⟩ := hk r hr'
      have hp' := (s3.trans sm).seqT hp
      refine ⟨rfl, _, rfl, p, rfl, ⟨_, hp'⟩, compG Same (ev_same H') (g (.ref p)) (fun _ => true) (fun i _ y => ∃ x, (g (.ref p))[i]? = some x ∧ y = .str (shw x)) (fun _ _ h => h) (fun _ _ _ h => h) (fun i σ => ∃ x, (g (.ref p))[i]? = some x ∧ At1 [none] x σ) (Ps1 [none]) ⟨none, rfl⟩ (small (by have := hkk.1; omega)) _ (itt_go fun H2 s2 => s2.seqT hp') (itt_stop fun H2 s2 => s2.seqT hp') (fun i x σ' H2 Q' ex hps s' qq => hg1 (i := i) hps fun σ2 h1 h2 => qq σ2 h1 ⟨x, ex, h2⟩) (fun i x σ2 ex hA H2 R s' r => r _ (Same.refl _)) (fun i x σ2 ex hA _ H2 R s' r => ?_) fun D H1 ys s1 fD g1 hys => ?_⟩
      · obtain ⟨x', hx', l, rfl⟩ := hA
        rw [ex] at hx'
        cases hx'
        exact ⟨_, rfl, x, rfl, hkk.2 x (List.mem_of_getElem? ex), r _ _ (Same.refl _) ⟨x, ex, rfl⟩⟩
      · rw [ys_map hys (f := fun x => .str (shw x)) fun i y h => h] at g1
        exact ⟨_, D, _, rfl, rfl, SqL.of (by rw [g1, map_shw]), row_join hkk, rr' H1 s1⟩
    · refine ⟨_, D, ((r0 :: rr).map g).map rowS, rfl, rfl, SqL.of (by rw [hD, List.map_map, List.map_map]; rfl), rows_join hk h10, ?_⟩
      exact q H' (s3.trans sm)
end
end My
set_option Elab.async false
set_option linter.all false
set_option maxRecDepth 100000
namespace My
open PySem PySem.Spec PyProof.Rows L2 PySem.NumText
set_option maxHeartbeats 1600000
section
variable {P : Program} {w : World} {K : PySem.W.Frag} {mg : Str → Option Value} {base : Heap}
theorem hfr_one {X : Cx} {scope : Scope} {y : Str} (h : ∀ z ∈ scope.names, z.2 = NameKind.free → z.1 = y) (hv : X.env.kindOf y = some .cell) : ∀ z, (z, NameKind.free) ∈ scope.names → X.env.kindOf z = some .cell ∨ X.env.kindOf z = some .free := fun z hz =>
  .inl (by rw [show z = y from h _ hz rfl]; exact hv)
theorem call_tupleAK {X : Cx} (hk : X.K = K := by rfl) : CallR X (.type "tuple") (rTupleA K) := by subst hk; exact call_tupleA
theorem comp_ofR {X : Cx} {scope : Scope} {N : List Str} {ta : TA} {te : TE} {tt : TT} {g : TG} {σ : L2.St} {H : Hp} {Q : VK} (σ0 : L2.St) (cap : Cap X scope N σ σ0)
    (h : ta σ H fun vs H1 => ∃ j : Int, vs = [.int j] ∧ -(2 ^ 62) ≤ j ∧ j < 2 ^ 62 ∧ CBody (Itr 0 j.toNat) H1 σ0 g tt te Q) : tComp X scope N (iRng1 ta) g tt te σ H Q := ⟨σ0, cap, h⟩
abbrev rngV (n : Nat) : List V := (List.range n).map fun i : Nat => V.int (0 + (i : Int))
theorem itr_go {H : Hp} {n : Nat} {E : Hp → Hp → Prop} : ∀ H' i x, E H H' → (rngV n)[i]? = some x → (Itr 0 n).go i H' ∧ ∀ y H2, (Itr 0 n).yld i H' y H2 → H2 = H' ∧ y = x := fun H' i x _ e => by
  unfold rngV at e
  rw [List.getElem?_map] at e
  have hi : i < n := by
    cases hr : (List.range n)[i]? with
    | none => rw [hr] at e; cases e
    | some j => have := (List.getElem?_eq_some_iff.mp hr).1; rwa [List.length_range] at this
  rw [List.getElem?_range hi] at e
  cases e
  exact ⟨hi, fun y H2 hy => hy⟩
theorem itr_stop {H : Hp} {n : Nat} {E : Hp → Hp → Prop} : ∀ H', E H H' → (Itr 0 n).stop (rngV n).length H' := fun H' _ => by
  show n ≤ (rngV n).length
  unfold rngV
  rw [List.length_map, List.length_range]
  exact Nat.le_refl n
def sp_rd : Sp := fun vs H Q _ => ∃ (x : Str) (u : V), vs = [.str x] ∧ x.length ≤ 1000 ∧ rdV x = some u ∧ ∀ H', Same H H' → Q u H'
theorem ok_rd {C : Addr} (G : OkX P w K mg base 3 "read_value" ["word"] (sp_read K C)) : Ok P w K mg base 3 "read_value" ["word"] sp_rd :=
  G.calm fun vs H Q E ⟨x, u, ev, hx, hu, q⟩ => ⟨.str x, ev, .inl ⟨x, rfl, hx⟩, by
    have e : rdT (.str x) = some u := hu
    rw [e]
    exact q⟩
def sp_law (K : PySem.W.Frag) : Sp := fun vs H Q _ => ∃ (a : Addr) (ns : List Int), vs = [.ref a] ∧ SqL K H a (ns.map V.int) ∧ ns.length ≤ 63 ∧ ∀ H', Q (.bl true) H'
theorem sp_law_of {K : PySem.W.Frag} {H : Hp} {a : Addr} {ns : List Int} (h : ns.length ≤ 63) (hS : SqL K H a (ns.map V.int)) : sp_law K [.ref a] H (fun v _ => v = .bl true) fun _ _ _ => False :=
  ⟨a, ns, rfl, hS, h, fun _ => rfl⟩
theorem cap_two {X : Cx} {scope : Scope} {x y z : Str} {σ : L2.St} {v u : V} (j k : Nat) (hf : (y, NameKind.free) ∈ scope.names) (hj : X.N[j]? = some y) (hs : σ[j]? = some (some v)) (hv : Vis X.env.scope y)
    (hf' : (z, NameKind.free) ∈ scope.names) (hk : X.N[k]? = some z) (hs' : σ[k]? = some (some u)) (hv' : Vis X.env.scope z) : Cap X scope [x, y, z] σ [none, some v, some u] :=
  ⟨rfl, fun i q w h1 h2 => by
    match i, h1, h2 with
    | 0, _, h2 => cases h2
    | 1, h1, h2 => cases h1; cases h2; exact ⟨hf, j, hj, hs, hv⟩
    | 2, h1, h2 => cases h1; cases h2; exact ⟨hf', k, hk, hs', hv'⟩
    | n + 3, h1, _ => simp at h1⟩
theorem kds_of {is : List Nat} {ys : List V} (h : AllI (fun _ y => ∃ kd, KdOk kd ∧ y = .str kd) is ys) : ∃ kds : List Str, ys = kds.map V.str ∧ (∀ kd ∈ kds, KdOk kd) ∧ kds.length = ys.length := by
  induction h with
  | nil => exact ⟨[], rfl, by simp, rfl⟩
  | cons r _ ih =>
    obtain ⟨kd, hk, rfl⟩ := r
    obtain ⟨kds, e, hk', l⟩ := ih
    refine ⟨kd :: kds, by rw [e]; rfl, fun k hm => ?_, by rw [List.length_cons, List.length_cons, l]⟩
    rcases List.mem_cons.mp hm with rfl | hm
    · exact hk
    · exact hk' k hm
theorem all_of {R : V → Prop} {is : List Nat} {ys : List V} (h : AllI (fun _ y => R y) is ys) : ∀ y ∈ ys, R y := by
  induction h with
  | nil => simp
  | cons r _ ih =>
    intro y hy
    rcases List.mem_cons.mp hy with rfl | hy
    · exact r
    · exact ih y hy
theorem choose_rows {H : Hp} {ys : List V} (h : ∀ y ∈ ys, ∃ p xs, y = .ref p ∧ H p = some (.tup xs) ∧ RowOk xs) : ∃ g : V → List V, ∀ r ∈ ys, ∃ p, r = .ref p ∧ H p = some (.tup (g r)) ∧ RowOk (g r) := by
  classical
  refine ⟨fun r => if hr : r ∈ ys then (h r hr).choose_spec.choose else [], fun r hr => ?_⟩
  have e := (h r hr).choose_spec.choose_spec
  refine ⟨(h r hr).choose, e.1, ?_, ?_⟩
  · dsimp only; rw [dif_pos hr]; exact e.2.1
  · dsimp only; rw [dif_pos hr]; exact e.2.2
theorem seq_cut {S R : TS} {D : Ends} {σ : L2.St} {H : Hp} (J : L2.St → Hp → Prop) (h1 : ∀ N : L2.St → Hp → Prop, (∀ σ' H', J σ' H' → N σ' H') → S { D with nx := N } σ H) (h2 : ∀ σ' H', J σ' H' → R D σ' H') : tSeq S R D σ H := h1 _ h2
theorem ok_law {fa : Addr} {fd : FuncData} (F : Fun K "law" "law" s_law fa fd) (T : Txt K mg) (G__law_seed : Ok P w K mg base 1 "_law_seed" ["_law_script"] (sp_seed K)) (G__law_next : Ok P w K mg base 1 "_law_next" ["_law_state", "_law_many"] sp_next)
    (G__law_value : Ok P w K mg base 3 "_law_value" ["_law_state", "_law_kind"] sp_lval) (G_shown_value : Ok P w K mg base 2 "shown_value" ["value"] sp_shown) (G__law_shown_value : Ok P w K mg base 1 "_law_shown_value" ["_law_value_here"] sp_shown)
    (G__law_right : Ok P w K mg base 5 "_law_right" ["_law_word"] sp_true) (G__law_same : Ok P w K mg base 1 "_law_same" ["_law_one", "_law_other"] sp_same) (G_read_value : Ok P w K mg base 3 "read_value" ["word"] sp_rd)
    (G__law_spoilt : Ok P w K mg base 2 "_law_spoilt" ["_law_state", "_law_word"] sp_spoilt) (G__law_read : Ok P w K mg base 4 "_law_read" ["_law_word"] (sp_lread K)) (G_shown_rows : Ok P w K mg base 4 "shown_rows" ["rows"] (sp_rows K))
    (G__law_shown_rows : Ok P w K mg base 2 "_law_shown_rows" ["_law_rows"] (sp_rows K)) : FnOk P w K mg base CX0 6 fa fd ["_law_script"] (sp_law K) := by
  refine F.okV sc_law (fun vs H Q E h => ?_) (fun cdv A outer s H vs Q E hr h => ?_)
  · obtain ⟨a, ns, rfl, _⟩ := h; rfl
  obtain ⟨a0, ns, rfl, ha, h63, q⟩ := h
  have hu := hu_of hr
  have hU := hr.units
  refine ⟨_, (vss_cons (vs_set (i := 1) sc_law.nd rfl (by first | exact Or.inl rfl | exact Or.inr rfl) (ve_lstA (va_c (ve_fn (G__law_seed.mono (by decide)) hr (by rfl) (va_c (vv 0) va_nil)) va_nil))) (vss_cons (vs_set (i := 2) sc_law.nd rfl (by first | exact Or.inl rfl | exact Or.inr rfl) (ve_lstA (va_c ve_int (va_c ve_str va_nil)))) (vss_cons (vs_for PassesOwn.never rfl (vi_range1 (by rfl) T.n_range (va_c ve_int va_nil)) (vg_name (i := 3) sc_law.nd rfl (by first | exact Or.inl rfl | exact Or.inr rfl)) (vss_one (vs_expr (ve_bm PySem.F.plainAttrs_list PySem.F.slot_list_append PySem.F.type_list_append mt_appendR (vv 2) (va_c (ve_fn (G__law_value.mono (by decide)) hr (by rfl) (va_c (vv 1) (va_c (ve_ix (ix_listK (K := K)) (ve_lstA (va_c ve_str (va_c ve_str va_nil))) (ve_fn (G__law_next.mono (by decide)) hr (by rfl) (va_c (vv 1) (va_c ve_int va_nil))) (fun _ _ => rfl)) va_nil))) va_nil))))) (vss_cons (vs_for PassesOwn.never rfl (vi_list (vv 2)) (vg_name (i := 4) sc_law.nd rfl (by first | exact Or.inl rfl | exact Or.inr rfl)) (vss_cons (vs_set (i := 5) sc_law.nd rfl (by first | exact Or.inl rfl | exact Or.inr rfl) (ve_fn (G_shown_value.mono (by decide)) hr (by rfl) (va_c (vv 4) va_nil))) (vss_cons (vs_if (VW.pt (vw_or (vt_not (vt_val (ve_callB (call_isi.or call_isiR) (by rfl) T.n_isinstance bf_isinstance (va_c (vv 5) (va_c (ve_bltn (v := .ty "str") (by rfl) T.n_str bt_str rfl) va_nil))))) (vw_or (vt_cmpR op_ne (vv 5) (ve_fn (G__law_shown_value.mono (by decide)) hr (by rfl) (va_c (vv 4) va_nil)) (nomark _)) (vw_or1 (vt_not (vt_val (ve_fn (G__law_right.mono (by decide)) hr (by rfl) (va_c (vv 5) va_nil)))))))) (vss_one (vs_ret ve_bl)) vss_nil) (vss_one (vs_if (VW.pt (vw_or (vt_not (vt_val (ve_fn (G__law_same.mono (by decide)) hr (by rfl) (va_c (ve_fn (G_read_value.mono (by decide)) hr (by rfl) (va_c (vv 5) va_nil)) (va_c (vv 4) va_nil))))) (vw_or1 (vt_not (vt_val (ve_fn (G__law_right.mono (by decide)) hr (by rfl) (va_c (ve_fn (G__law_spoilt.mono (by decide)) hr (by rfl) (va_c (vv 1) (va_c (vv 5) va_nil))) va_nil))))))) (vss_one (vs_ret ve_bl)) vss_nil))))) (vss_cons (vs_for PassesOwn.never rfl (vi_list (ve_lstA (va_c ve_str (va_c ve_str (va_c ve_str (va_c ve_str (va_c ve_str (va_c ve_str (va_c ve_str (va_c (ve_op op_repS ve_str ve_int) va_nil)))))))))) (vg_name (i := 5) sc_law.nd rfl (by first | exact Or.inl rfl | exact Or.inr rfl)) (vss_one (vs_if (vt_not (vt_val (ve_fn (G__law_right.mono (by decide)) hr (by rfl) (va_c (vv 5) va_nil)))) (vss_one (vs_ret ve_bl)) vss_nil))) (vss_cons (vs_for PassesOwn.never rfl (vi_list (ve_lstA (va_c ve_non (va_c ve_int (va_c (ve_lstA (va_c ve_str va_nil)) (va_c ve_bl va_nil)))))) (vg_name (i := 6) sc_law.nd rfl (by first | exact Or.inl rfl | exact Or.inr rfl)) (vss_one (vs_if (vt_cmpR (op_neP hU) (ve_fn (G__law_read.mono (by decide)) hr (by rfl) (va_c (vv 6) va_nil)) (ve_tupA (va_c (ve_lstA (va_c ve_bl (va_c ve_bl (va_c ve_bl (va_c ve_non va_nil))))) (va_c ve_non va_nil))) (nomark _)) (vss_one (vs_ret ve_bl)) vss_nil))) (vss_cons (vs_set (i := 7) sc_law.nd rfl (by first | exact Or.inl rfl | exact Or.inr rfl) (ve_comp (N := ["_law_k", "_law_state"]) ⟨by decide +kernel, rfl, by decide +kernel, by decide +kernel⟩ (hfr_of (defScope s_law) rfl (by decide +kernel)) rfl (vi_range1 (by rfl) T.n_range (va_c (ve_op op_add ve_int (ve_fn (G__law_next.mono (by decide)) hr (by rfl) (va_c (vv 1) (va_c ve_int va_nil)))) va_nil)) (fun cl s' H' fp => ⟨(vg_name (i := 0) (show (["_law_k", "_law_state"] : List Str).Nodup from by decide +kernel) rfl (Or.inl rfl)), vf_nil, (ve_ix (ix_listK (K := K)) (ve_lstA (va_c ve_str (va_c ve_str va_nil))) (ve_fn (G__law_next.mono (by decide)) hr (by rfl) (va_c (vv 1) (va_c ve_int va_nil))) (fun _ _ => rfl))⟩))) (vss_cons (vs_setC (i0 := 8) sc_law.nd rfl (by first | exact Or.inl rfl | exact Or.inr rfl) (N := ["_law_k", "_law_state", "_law_kinds"]) ⟨by decide +kernel, rfl, by decide +kernel, by decide +kernel⟩ (hfr_of (defScope s_law) rfl (by decide +kernel)) rfl (vi_range1 (by rfl) T.n_range (va_c (ve_op op_add ve_int (ve_fn (G__law_next.mono (by decide)) hr (by rfl) (va_c (vv 1) (va_c ve_int va_nil)))) va_nil)) (fun cl s' H' fp => ⟨(vg_name (i := 0) (show (["_law_k", "_law_state", "_law_kinds"] : List Str).Nodup from by decide +kernel) rfl (Or.inl rfl)), vf_nil, (ve_callTy (call_tupleAK (K := K)) (by rfl) T.n_tuple bt_tuple (va_c (ve_compJ (x := "_law_kind") (y := "_law_state") 1 ⟨by decide +kernel, rfl, by decide +kernel, by decide +kernel⟩ (hfr_one (y := "_law_state") (by decide +kernel) (by rfl)) rfl (by decide +kernel) (by rfl) (by exact Or.inr (Or.inl rfl)) (vi_listK (K := K) (vv 2)) (fun cl s' H' fp => ⟨(vg_name (i := 0) (show (["_law_kind", "_law_state"] : List Str).Nodup from by decide +kernel) rfl (Or.inl rfl)), vf_nil, (ve_fn (G__law_value.mono (by decide)) hr (by rfl) (va_c (vv 1) (va_c (vv 0) va_nil)))⟩)) va_nil))⟩)) (vss_one (vs_ret (ve_and (ve_cmpR op_eq (ve_fn (G_shown_rows.mono (by decide)) hr (by rfl) (va_c (ve_callTy call_listA (by rfl) T.n_list bt_list (va_c (vv 8) va_nil)) va_nil)) (ve_fn (G__law_shown_rows.mono (by decide)) hr (by rfl) (va_c (vv 8) va_nil)) (nomark _)) (ve_one (ve_cmpR op_eq (ve_fn (G_shown_rows.mono (by decide)) hr (by rfl) (va_c (ve_lstA va_nil) va_nil)) ve_str (nomark _)))))))))))))), ?_⟩
  refine ⟨_, rfl, a0, ns, rfl, ha, h63, fun c H1 s1 c0 c1 => ?_⟩
  refine ⟨(by show 1 ≤ sizeLine; decide), fun a H2 fa s2 g2 => ?_⟩
  have hs2 : StAt H2 a := ⟨c, g2, c0, c1⟩
  refine ⟨(by show 2 ≤ sizeLine; decide), fun b H3 fb s3 g3 => ?_⟩
  have hs3 : StAt H3 a := hs2.same s3
  have nba : b ≠ a := hs2.ne fb
  dsimp only [gName]
  refine seq_cut (S := tFor _ _ _) (fun σ H' => StAt H' a ∧ ∃ (vs : List V) (l3 : Option V), H' b = some (.lst vs) ∧ (∀ v ∈ vs, Vl v) ∧ vs.length ≤ 10 ∧ σ = [some (.ref a0), some (.ref a), some (.ref b), l3, none, none, none, none, none]) (fun N hN => ?_) ?_
  · refine ⟨_, rfl, by decide, by decide, for_range (n := 8) (fun i σ H' => StAt H' a ∧ ∃ (vs : List V) (l3 : Option V), H' b = some (.lst vs) ∧ (∀ v ∈ vs, Vl v) ∧ vs.length = i + 2 ∧ σ = [some (.ref a0), some (.ref a), some (.ref b), l3, none, none, none, none, none]) ⟨hs3, _, _, g3, ?_, rfl, rfl⟩ ?_ ?_⟩
    · intro v hv
      simp only [List.mem_cons, List.not_mem_nil, or_false] at hv
      rcases hv with rfl | rfl
      · exact .inl ⟨0, rfl, by decide⟩
      · exact small_kind (by simp [smalls])
    · rintro i σ H' hi ⟨hs, vs, l3, gv, hvs, hl, rfl⟩
      refine ⟨_, rfl, .inl ⟨rfl, _, SqL.of gv⟩, _, rfl, (by show 2 ≤ sizeLine; decide), fun p H5 f5 s5 g5 => ⟨_, rfl, a, 2, rfl, hs.same s5, by decide, fun d H6 f6 d0 d1 => ?_⟩⟩
      obtain ⟨v, hv, mv⟩ := at_of (xs := [.str "number", .str "word"]) d0 (by show d < 2; omega)
      refine ⟨p, _, _, v, rfl, rfl, SqL.of (f6.same _ _ (hs.ne f5) g5), hv, ?_⟩
      simp only [List.mem_cons, List.not_mem_nil, or_false] at mv
      have go : ∀ kd : Str, KdOk kd → v = .str kd → sp_lval [.ref a, v] H6 (fun u H7 => rAppend (.ref b) [u] H7 fun _ H8 => (StAt H8 a ∧ ∃ (vs : List V) (l3 : Option V), H8 b = some (.lst vs) ∧ (∀ v ∈ vs, Vl v) ∧ vs.length = i + 1 + 2 ∧ ([some (.ref a0), some (.ref a), some (.ref b), some (.int (0 + (i : Int))), none, none, none, none, none] : L2.St) = [some (.ref a0), some (.ref a), some (.ref b), l3, none, none, none, none, none])) E0 := fun kd hk e => by
        subst e
        refine ⟨a, kd, rfl, f6.st, hk, fun u H7 f7 hu' => ?_⟩
        have gb : H7 b = some (.lst vs) := f7.same _ _ nba (f6.same _ _ nba (s5 _ _ gv))
        refine ⟨b, vs, u, rfl, rfl, gb, (by rw [hl]; exact small1000 (by omega)), ?_, _, _, upd_same, ?_, ?_, rfl⟩
        · obtain ⟨st, h1, h2⟩ := f7.st
          exact ⟨st, by rw [upd_ne (Ne.symm nba)]; exact h1, h2⟩
        · intro v hv
          rcases List.mem_append.mp hv with hv | hv
          · exact hvs v hv
          · rw [List.mem_singleton.mp hv]; exact hu'
        · rw [List.length_append, hl]; rfl
      rcases mv with e | e
      · exact go _ (.inl rfl) e
      · exact go _ (.inr rfl) e
    · rintro σ H' ⟨hs, vs, l3, gv, hvs, hl, rfl⟩
      exact hN _ _ ⟨hs, vs, l3, gv, hvs, by omega, rfl⟩
  rintro σ H4 ⟨hs4, vs, l3, gv, hvs, hl, rfl⟩
  refine seq_cut (S := tFor _ _ _) (fun σ H' => StAt H' a ∧ ∃ (l3 l4 l5 : Option V), σ = [some (.ref a0), some (.ref a), some (.ref b), l3, l4, l5, none, none, none]) (fun N hN => ?_) ?_
  · refine ⟨_, rfl, b, rfl, ⟨_, SqL.of gv⟩, for_list (xs := vs) (fun i σ H' => StAt H' a ∧ H' b = some (.lst vs) ∧ ∃ (l3 l4 l5 : Option V), σ = [some (.ref a0), some (.ref a), some (.ref b), l3, l4, l5, none, none, none]) ⟨hs4, gv, _, _, _, rfl⟩ (fun i σ H' _ ⟨_, g, _⟩ => SqL.of g) ?_ ?_⟩
    · rintro i v σ H' ex ⟨hs, gb, l3, l4, l5, rfl⟩
      have hv := hvs v (List.mem_of_getElem? ex)
      refine ⟨_, rfl, v, rfl, hv, ?_⟩
      have hw : (shw v).length ≤ 61 := shw_len hv
      have ht : Th K H' (.str (shw v)) := .inl ⟨_, rfl, by omega⟩
      have hi : IntStr v := by
        rcases hv with ⟨i, rfl, _⟩ | ⟨x, rfl, _, h⟩
        · exact .inl ⟨i, rfl⟩
        · exact .inr ⟨x, rfl, by omega⟩
      refine ⟨_, rfl, isi_any ht (.inr (.inr rfl)) ⟨_, rfl, iteF ⟨_, rfl, _, rfl, v, rfl, hv, rfl, _, rfl, ?_⟩⟩⟩
      rw [decide_eq_true rfl]
      refine iteF ⟨_, rfl, shw v, rfl, by omega, fun H6 s6 => ⟨_, rfl, iteF ?_⟩⟩
      refine ⟨_, rfl, shw v, v, rfl, by omega, rd_shw hv, fun H7 s7 => ⟨_, rfl, v, rfl, hi, _, rfl, iteF ?_⟩⟩
      have st7 : StAt H7 a := hs.same (s6.trans s7)
      refine ⟨_, rfl, _, rfl, a, shw v, rfl, st7, by omega, fun y H8 f8 hy => ⟨y, rfl, hy, fun H9 s9 => ⟨_, rfl, iteF ?_⟩⟩⟩
      exact ⟨f8.st.same s9, s9 _ _ (f8.same _ _ nba (s7 _ _ (s6 _ _ gb))), _, _, _, rfl⟩
    · rintro σ H' ⟨hs, gb, l3, l4, l5, rfl⟩
      exact hN _ _ ⟨hs, l3, l4, l5, rfl⟩
  rintro σ H5 ⟨hs5, l3, l4, l5, rfl⟩
  refine seq_cut (S := tFor _ _ _) (fun σ H' => StAt H' a ∧ ∃ (l3 l4 l5 : Option V), σ = [some (.ref a0), some (.ref a), some (.ref b), l3, l4, l5, none, none, none]) (fun N hN => ?_) ?_
  · refine ⟨rfl, rfl, (by show 8 ≤ sizeLine; decide), fun p H6 f6 s6 g6 => ⟨p, rfl, ⟨_, SqL.of g6⟩, for_list (xs := [.str "", .str "-", .str "-0", .str "00", .str "'", .str "' '", .str "'abcdefghi'", .str ones]) (fun i σ H' => StAt H' a ∧ H' p = some (.lst [.str "", .str "-", .str "-0", .str "00", .str "'", .str "' '", .str "'abcdefghi'", .str ones]) ∧ ∃ (l3 l4 l5 : Option V), σ = [some (.ref a0), some (.ref a), some (.ref b), l3, l4, l5, none, none, none]) ⟨hs5.same s6, g6, _, _, _, rfl⟩ (fun i σ H' _ ⟨_, g, _⟩ => SqL.of g) ?_ ?_⟩⟩
    · rintro i v σ H' ex ⟨hs, gp, l3, l4, l5, rfl⟩
      have mv := List.mem_of_getElem? ex
      have go : ∀ x : Str, x.length ≤ 1000 → v = .str x → sp_true [v] H' (fun u H7 => ∃ k, u = .bl k ∧ (if (!k) = true then Q (.bl false) H7 else (StAt H7 a ∧ H7 p = some (.lst [.str "", .str "-", .str "-0", .str "00", .str "'", .str "' '", .str "'abcdefghi'", .str ones]) ∧ ∃ (l3' l4' l5' : Option V), ([some (.ref a0), some (.ref a), some (.ref b), l3, l4, some v, none, none, none] : L2.St) = [some (.ref a0), some (.ref a), some (.ref b), l3', l4', l5', none, none, none]))) E0 := fun x hx e => by
        subst e
        exact ⟨x, rfl, hx, fun H7 s7 => ⟨_, rfl, iteF ⟨hs.same s7, s7 _ _ gp, _, _, _, rfl⟩⟩⟩
      simp only [List.mem_cons, List.not_mem_nil, or_false] at mv
      refine ⟨_, rfl, ?_⟩
      rcases mv with e | e | e | e | e | e | e | e
      · exact go _ (by decide +kernel) e
      · exact go _ (by decide +kernel) e
      · exact go _ (by decide +kernel) e
      · exact go _ (by decide +kernel) e
      · exact go _ (by decide +kernel) e
      · exact go _ (by decide +kernel) e
      · exact go _ (by decide +kernel) e
      · exact go _ (by decide +kernel) e
    · rintro σ H' ⟨hs, gp, l3, l4, l5, rfl⟩
      exact hN _ _ ⟨hs, l3, l4, l5, rfl⟩
  rintro σ H6 ⟨hs6, l3, l4, l5, rfl⟩
  refine seq_cut (S := tFor _ _ _) (fun σ H' => StAt H' a ∧ ∃ (l3 l4 l5 l6 : Option V), σ = [some (.ref a0), some (.ref a), some (.ref b), l3, l4, l5, l6, none, none]) (fun N hN => ?_) ?_
  · refine ⟨(by show 1 ≤ sizeLine; decide), fun q1 H7 f7 s7 g7 => ?_⟩
    refine ⟨(by show 4 ≤ sizeLine; decide), fun p H8 f8 s8 g8 => ⟨p, rfl, ⟨_, SqL.of g8⟩, for_list (xs := [.non, .int 7, .ref q1, .bl true]) (fun i σ H' => StAt H' a ∧ H' p = some (.lst [.non, .int 7, .ref q1, .bl true]) ∧ H' q1 = some (.lst [.str "1"]) ∧ ∃ (l3 l4 l5 l6 : Option V), σ = [some (.ref a0), some (.ref a), some (.ref b), l3, l4, l5, l6, none, none]) ⟨hs6.same (s7.trans s8), g8, s8 _ _ g7, _, _, _, _, rfl⟩ (fun i σ H' _ ⟨_, g, _⟩ => SqL.of g) ?_ ?_⟩⟩
    · rintro i v σ H' ex ⟨hs, gp, gq, l3, l4, l5, l6, rfl⟩
      have mv := List.mem_of_getElem? ex
      simp only [List.mem_cons, List.not_mem_nil, or_false] at mv
      have hth : Th K H' v ∧ rdT v = none := by
        rcases mv with rfl | rfl | rfl | rfl
        · exact ⟨.inr (.inr (.inr ⟨_, .non⟩)), rfl⟩
        · exact ⟨.inr (.inl ⟨_, rfl⟩), rfl⟩
        · exact ⟨.inr (.inr (.inr ⟨_, .lst (SqL.of gq)⟩)), rfl⟩
        · exact ⟨.inr (.inr (.inl ⟨_, rfl⟩)), rfl⟩
      refine ⟨_, rfl, v, rfl, hth.1, fun pp l H9 s9 g9 gl fl => ?_⟩
      rw [hth.2] at g9 gl
      refine ⟨(by show 4 ≤ sizeLine; decide), fun l2 H10 f10 s10 g10 => ?_⟩
      refine ⟨(by show 2 ≤ sizeLine; decide), fun p2 H11 f11 s11 g11 => ?_⟩
      have ne : l ≠ l2 := fun z => by rw [z, f10] at gl; cases gl
      refine ⟨pp, p2, l, l2, _, _, .non, rfl, rfl, SqT.of (s11 _ _ (s10 _ _ g9)), SqT.of g11, rfl, SqL.of (s11 _ _ (s10 _ _ gl)), SqL.of (s11 _ _ g10), Fl2.refl (by decide), ne, _, rfl, iteF ?_⟩
      have sa := (s9.trans s10).trans s11
      exact ⟨hs.same sa, sa _ _ gp, sa _ _ gq, _, _, _, _, rfl⟩
    · rintro σ H' ⟨hs, gp, gq, l3, l4, l5, l6, rfl⟩
      exact hN _ _ ⟨hs, l3, l4, l5, l6, rfl⟩
  rintro σ H7 ⟨hs7, l3, l4, l5, l6, rfl⟩
  dsimp only [tSeq, tAsg]
  refine comp_ofR [none, some (.ref a)] (cap_at1 1 (by decide +kernel) rfl rfl (by first | exact Or.inl rfl | exact Or.inr (Or.inl rfl) | exact Or.inr (Or.inr rfl))) ⟨_, rfl, a, 8, rfl, hs7, by decide, fun m H8 f8 m0 m1 => ?_⟩
  refine ⟨_, _, rfl, rfl, 1 + m, rfl, by omega, by omega, compG (Fx a) (ev_fx f8.st) (rngV (1 + m).toNat) (fun _ => true) (fun i _ y => ∃ kd, KdOk kd ∧ y = .str kd) (fun _ _ h => h) (fun _ _ _ h => h) (fun i σ => ∃ x, At1 [none, some (.ref a)] x σ) (Ps1 [none, some (.ref a)]) ⟨none, rfl⟩ (by rw [List.length_map, List.length_range]; exact small (by omega)) _ itr_go itr_stop (fun i x σ' H' Q' ex hps s' qq => hg1 (i := i) hps fun σ2 h1 h2 => qq σ2 h1 ⟨x, h2⟩) (fun i x σ2 ex hA H' R s' r => r _ (.refl s'.st)) (fun i x σ2 ex hA _ H' R s' r => ?_) fun D1 H9 ys f9 fD g9 hys => ?_⟩
  · obtain ⟨x', l, rfl⟩ := hA
    refine ⟨(by show 2 ≤ sizeLine; decide), fun p H10 f10 s10 g10 => ⟨_, rfl, a, 2, rfl, s'.st.same s10, by decide, fun d H11 f11 d0 d1 => ?_⟩⟩
    obtain ⟨v, hv, mv⟩ := at_of (xs := [.str "number", .str "word"]) d0 (by show d < 2; omega)
    refine ⟨p, _, _, v, rfl, rfl, SqL.of (f11.same _ _ (s'.st.ne f10) g10), hv, r _ _ ((Fx.of s'.st s10).trans f11) ?_⟩
    simp only [List.mem_cons, List.not_mem_nil, or_false] at mv
    rcases mv with e | e
    · exact ⟨_, .inl rfl, e⟩
    · exact ⟨_, .inr rfl, e⟩
  have hlk := hys.len
  rw [sel_true, List.length_range, List.length_map, List.length_range] at hlk
  obtain ⟨kds, rfl, hkds, hkl⟩ := kds_of hys
  have nD1 : D1 ≠ a := f8.st.ne fD
  have hk8 : kds.length ≤ 8 := by omega
  dsimp only [gName]
  have hs9 := f9.st
  dsimp only [tSeq, tAsg]
  refine comp_ofR [none, some (.ref a), some (.ref D1)] (cap_two 1 7 (by decide +kernel) rfl rfl (by first | exact Or.inl rfl | exact Or.inr (Or.inl rfl) | exact Or.inr (Or.inr rfl)) (by decide +kernel) rfl rfl (by first | exact Or.inl rfl | exact Or.inr (Or.inl rfl) | exact Or.inr (Or.inr rfl))) ⟨_, rfl, a, 3, rfl, hs9, by decide, fun m2 H10 f10 m20 m21 => ?_⟩
  have gK : ∀ {H' : Hp}, Fx a H10 H' → H' D1 = some (.lst (kds.map V.str)) := fun {H'} f' => f'.same _ _ nD1 (f10.same _ _ nD1 g9)
  refine ⟨_, _, rfl, rfl, 1 + m2, rfl, by omega, by omega, compG (Fx a) (ev_fx f10.st) (rngV (1 + m2).toNat) (fun _ => true) (fun i H' y => ∃ p xs, y = .ref p ∧ H' p = some (.tup xs) ∧ RowOk xs) (fun {i H1 H2 y} e1 e2 ⟨p, xs, e, g, hk⟩ => ⟨p, xs, e, e2.tup e1.st g, hk⟩) (fun {i H1 D ys zs y} hD e1 gD ⟨p, xs, e, g, hk⟩ => ⟨p, xs, e, by rw [upd_ne (ne_of g gD (by intro z; cases z))]; exact g, hk⟩)
    (fun i σ => ∃ x, At1 [none, some (.ref a), some (.ref D1)] x σ) (Ps1 [none, some (.ref a), some (.ref D1)]) ⟨none, rfl⟩ (by rw [List.length_map, List.length_range]; exact small (by omega)) _ itr_go itr_stop (fun i x σ' H' Q' ex hps s' qq => hg1 (i := i) hps fun σ2 h1 h2 => qq σ2 h1 ⟨x, h2⟩) (fun i x σ2 ex hA H' R s' r => r _ (.refl s'.st)) (fun i x σ2 ex hA _ H' R s' r => ?_) fun R1 H11 ys f11 fR g11 hys2 => ?_⟩
  · obtain ⟨x', l, rfl⟩ := hA
    refine ⟨.ref a, rfl, _, rfl, D1, rfl, ⟨_, SqL.of (gK s')⟩, compG (Fx a) (ev_fx s'.st) (kds.map V.str) (fun _ => true) (fun i _ y => Vl y) (fun _ _ h => h) (fun _ _ _ h => h) (fun i σ => ∃ x, (kds.map V.str)[i]? = some x ∧ At1 [none, some (.ref a)] x σ) (Ps1 [none, some (.ref a)]) ⟨none, rfl⟩ (by rw [List.length_map]; exact small (by omega)) _ (itlE_go fun H2 f2 => SqL.of (gK (s'.trans f2))) (itlE_stop fun H2 f2 => SqL.of (gK (s'.trans f2))) (fun i x σ' H2 Q' ex hps s2 qq => hg1 (i := i) hps fun σ3 h1 h2 => qq σ3 h1 ⟨x, ex, h2⟩) (fun i x σ3 ex hA H2 R s2 r => r _ (.refl s2.st)) (fun i x σ3 ex hA _ H2 R s2 r => ?_) fun D H2 ys f2 fD g2 hys => ?_⟩
    · obtain ⟨x2, hx2, l2, rfl⟩ := hA
      rw [ex] at hx2
      cases hx2
      have hm := List.mem_of_getElem? ex
      obtain ⟨kd, hkd, rfl⟩ := List.mem_map.mp hm
      exact ⟨_, rfl, _, rfl, a, kd, rfl, s2.st, hkds kd hkd, fun v H3 f3 hv => r v H3 f3 hv⟩
    · have hlk2 := hys.len
      rw [sel_true, List.length_range, List.length_map] at hlk2
      refine ⟨D, ys, rfl, SqL.of g2, fun p H3 fp s3 g3 => r (.ref p) H3 (f2.sm s3) ⟨p, ys, rfl, g3, by omega, all_of hys⟩⟩
  have hlr := hys2.len
  rw [sel_true, List.length_range, List.length_map, List.length_range] at hlr
  obtain ⟨g, hg⟩ := choose_rows (all_of hys2)
  have hk : ∀ {H' : Hp}, Same H11 H' → ∀ r ∈ ys, ∃ p, r = .ref p ∧ SqT K H' p (g r) ∧ RowOk (g r) := fun {H'} s' r hr => by
    obtain ⟨p, e, gp, hk⟩ := hg r hr
    exact ⟨p, e, SqT.of (s' _ _ gp), hk⟩
  dsimp only [gName]
  refine ⟨_, rfl, R1, ys, rfl, .inl (SqL.of g11), fun l H12 fl s12 g12 => ?_⟩
  refine ⟨l, ys, g, rfl, SqL.of g12, hk s12, by omega, fun H13 s13 => ?_⟩
  refine ⟨_, rfl, R1, ys, g, rfl, SqL.of (s13 _ _ (s12 _ _ g11)), hk (s12.trans s13), by omega, fun H14 s14 => ⟨rfl, _, rfl, ?_⟩⟩
  rw [decide_eq_true rfl]
  refine iteT ⟨(by show 0 ≤ sizeLine; decide), fun l2 H15 fl2 s15 g15 => ?_⟩
  refine ⟨l2, [], g, rfl, SqL.of g15, fun r hr => by simp at hr, by decide, fun H16 s16 => ⟨rfl, ?_⟩⟩
  exact q H16
end
end My
set_option Elab.async false
set_option linter.all false
set_option maxRecDepth 100000
namespace My
open PySem PySem.Spec PyProof.Rows L2
set_option maxHeartbeats 400000
section
variable {P : Program} {w : World} {K : PySem.W.Frag} {mg : Str → Option Value} {base : Heap}
theorem law_fn {fa : Addr} (T : Txt K mg) (hmg : mg "law" = some (.ref fa)) :
    ∃ fd : FuncData, (∀ (s : Shared) (u : Value), BindsTo s fd ⟨[u], []⟩ [("_law_script", u)]) ∧ ∀ base : Heap, K.In base → base.Ns mainGlobals mg → FnOk P w K mg base CX0 6 fa fd ["_law_script"] (sp_law K) := by
  obtain ⟨f, fd, F, B, m⟩ := T.d_law
  have e : fa = f := by
    rw [m] at hmg
    injection hmg with e
    injection e with e
    exact e.symm
  subst e
  refine ⟨fd, ?_, fun base _ _ => ?_⟩
  · obtain ⟨⟨oc, od, kV, doc, pm, an, cdv, ct, osl, rfl, lk, hcd⟩, kp⟩ := F
    exact fun s u => .of_eq rfl
  · obtain ⟨C, S, D, hx, mS, hS, mD, hD, f1, f2, f3⟩ := T.x_ex
    have n1 := ok__law_next (P := P) (w := w) (base := base) T
    have n2 := ok__law_value T n1 (ok__law_great T n1)
    have n3 := ok_is_whole (P := P) (w := w) (base := base) T
    have n4 := ok_shown_value T n3
    have n5 := ok__law_shown_value (P := P) (w := w) (base := base) T
    have n6 := ok__law_same (P := P) (w := w) (base := base) T
    have n7 := ok_read_value T hx (ok_is_number_text T (ok_are_figures T)) (ok_is_word_text T (ok_is_word T)) (P := P) (w := w) (base := base)
    have n8 := ok__law_read T hx mS hS mD hD f1 f2 f3 n7
    exact ok_law F T (ok__law_seed T) n1 n2 n4 n5 (ok__law_right T (ok__law_looked T) n8 n6) n6 (ok_rd n7) (ok__law_spoilt T n1) n8 (ok_shown_rows T (ok_shown_row T n4)) (ok__law_shown_rows T n5)
end
set_option maxHeartbeats 6400000
inductive FA (K : PySem.W.Frag) (n : Str) (s : Stmt) (f : Addr) : Prop
  | mk {od an : Option Addr} {sl : Array (Option Value)} {kV dc pm cd ct : Value} : PySem.W.nsIn K mainGlobals n = some (some (.ref f)) → K.lookup f = some ⟨.type "function", od, .func (PySem.W.fnOf n n (defArgs s) (defBody s) (defScope s) .none kV dc pm an cd ct), sl⟩ → PySem.W.codeIn K cd n = true → PySem.W.keepIn K (.ref f) = true → FA K n s f
section
variable {K : PySem.W.Frag} {h : Heap} {mg : Str → Option Value} {n : Str} {s : Stmt} {f : Addr} {ps : List Str}
theorem fm_mk (X : K.In h) (G : h.Ns mainGlobals mg) (a : FA K n s f) : mg n = some (.ref f) := by
  obtain ⟨a, _, _, _⟩ := a
  exact PySem.W.mg_of X G a
theorem dn_mk (X : K.In h) (G : h.Ns mainGlobals mg) (a : FA K n s f) (b : ∀ (kV doc pm : Value) (an : Option Addr) (cdv ct : Value) (us : List Value), us.length = ps.length → bindArgs (PySem.W.fnOf n n (defArgs s) (defBody s) (defScope s) .none kV doc pm an cdv ct) ⟨us, []⟩ = pure (ps.zip us)) : Dn K mg n s ps := by
  have m := fm_mk X G a
  obtain ⟨_, l, c, k⟩ := a
  exact ⟨f, _, fun_mk l c k, (fun_mk l c k).binds b, m⟩
theorem vn_mk (X : K.In h) (G : h.Ns mainGlobals mg) (a : FA K n s f) : ∃ f o, (∃ u, mg n = some u ∧ RelV (.ref f) u) ∧ K.lookup f = some o ∧ o.cls = .type "function" := by
  have m := fm_mk X G a
  obtain ⟨_, l, c, k⟩ := a
  exact ⟨f, _, ⟨_, m, rfl⟩, l, rfl⟩
end
theorem ln0 {P : List Value → Prop} (h : P []) : ∀ us : List Value, us.length = 0 → P us
  | [], _ => h
theorem ln1 {P : List Value → Prop} (h : ∀ a0, P [a0]) : ∀ us : List Value, us.length = 1 → P us
  | [a0], _ => h a0
theorem ln2 {P : List Value → Prop} (h : ∀ a0 a1, P [a0, a1]) : ∀ us : List Value, us.length = 2 → P us
  | [a0, a1], _ => h a0 a1
theorem ln3 {P : List Value → Prop} (h : ∀ a0 a1 a2, P [a0, a1, a2]) : ∀ us : List Value, us.length = 3 → P us
  | [a0, a1, a2], _ => h a0 a1 a2
theorem ln4 {P : List Value → Prop} (h : ∀ a0 a1 a2 a3, P [a0, a1, a2, a3]) : ∀ us : List Value, us.length = 4 → P us
  | [a0, a1, a2, a3], _ => h a0 a1 a2 a3
theorem ln6 {P : List Value → Prop} (h : ∀ a0 a1 a2 a3 a4 a5, P [a0, a1, a2, a3, a4, a5]) : ∀ us : List Value, us.length = 6 → P us
  | [a0, a1, a2, a3, a4, a5], _ => h a0 a1 a2 a3 a4 a5
local macro_rules
  | `(tactic| trivial) => `(tactic| first | exact (fun _ _ _ _ _ _ => ln1 fun _ => rfl) | exact (fun _ _ _ _ _ _ => ln2 fun _ _ => rfl) | exact (fun _ _ _ _ _ _ => ln3 fun _ _ _ => rfl) | exact (fun _ _ _ _ _ _ => ln4 fun _ _ _ _ => rfl) | exact (fun _ _ _ _ _ _ => ln0 rfl) | exact (fun _ _ _ _ _ _ => ln6 fun _ _ _ _ _ _ => rfl))
inductive XA (K : PySem.W.Frag) (C S D fI : Addr) : Prop
  | mk {nm q : Str} {N : Addr} {bs bm : List Value} {sn : List Str} {sub : List Value} {ab : Bool} {col : Option Bool} {dd : Option Addr} {k0 k1 k2 k3 k5 : Option Value} {cd cS cD : ClassData} {od an : Option Addr} {sl : Array (Option Value)} {kV dc pm cdv ct : Value} :
    PySem.W.nsIn K mainGlobals "NoWords" = some (some (.ref C)) →
    PySem.W.nsIn K mainGlobals "ShardError" = some (some (.ref S)) →
    PySem.W.nsIn K mainGlobals "NoQuestion" = some (some (.ref D)) →
    K.lookup C = some (excClassObj nm q C N bs bm true sn sub ab col dd k0 k1 k2 k3 k5 "ValueError.__new__") →
    bm.contains (.type "ValueError") = true →
    bm.contains (.type "AttributeError") = false →
    bm.contains (.type "NameError") = false →
    bm.contains (.type "BaseException") = true →
    PySem.W.clsIn K C = some cd →
    (onlyV cd.mro && cd.hasDict) = true →
    PySem.W.findIn K (.ref C) "__init__" = some (some (.ref fI)) →
    PySem.W.typeIn K (.ref fI) = some (.type "function") →
    PySem.W.findIn K (.ref C) "__setattr__" = some (some (.builtin "object.__setattr__")) →
    PySem.W.findIn K (.ref C) "__getattribute__" = some (some (.builtin "BaseException.__getattribute__")) →
    PySem.W.findIn K (.ref C) "__getattr__" = some none →
    PySem.W.findIn K (.ref C) "act" = some none →
    PySem.W.findIn K (.ref C) "__class__" = some (some (.builtin "object.__class__")) →
    K.lookup fI = some ⟨.type "function", od, .func (PySem.W.fnOf "__init__" "ShardError.__init__" (defArgs s_init) (defBody s_init) (defScope s_init) .none kV dc pm an cdv ct), sl⟩ →
    PySem.W.codeIn K cdv "ShardError.__init__" = true →
    PySem.W.keepIn K (.ref fI) = true →
    PySem.W.keepIn K (.ref C) = true →
    PySem.W.typeIn K (.ref C) = some (.type "type") →
    PySem.W.mroIn K C (.type "BaseException") = some true →
    PySem.W.mroIn K C (.ref S) = some true →
    PySem.W.mroIn K C (.ref D) = some false →
    PySem.W.mroIn K C (.ref C) = some true →
    PySem.W.mroIn K C (.type "ValueError") = some true →
    PySem.W.typeIn K (.ref S) = some (.type "type") →
    PySem.W.clsIn K S = some cS →
    PySem.W.mroIn K S (.type "BaseException") = some true →
    PySem.W.typeIn K (.ref D) = some (.type "type") →
    PySem.W.clsIn K D = some cD →
    PySem.W.mroIn K D (.type "BaseException") = some true → XA K C S D fI
theorem ex_mk {K : PySem.W.Frag} {h : Heap} {mg : Str → Option Value} {C S D fI : Addr} (X : K.In h) (G : h.Ns mainGlobals mg) (a : XA K C S D fI) : ∃ C S D, ExT K mg s_init "NoWords" "ShardError.__init__" C S ∧ mg "ShardError" = some (.ref S) ∧ XS K S ∧ mg "NoQuestion" = some (.ref D) ∧ XS K D ∧ PySem.W.mroIn K C (.ref D) = some false ∧ PySem.W.mroIn K C (.ref C) = some true ∧ PySem.W.mroIn K C (.type "ValueError") = some true := by
  obtain ⟨y0, y1, y2, y3, r0, r1, r2, r3, y4, r4, y5, y6, y7, y8, y9, y10, y11, y12, y13, y14, y15, y16, y17, y18, y19, y20, y21, y22, y23, y24, y25, y26, y27⟩ := a
  refine ⟨C, S, D, ⟨⟨fI, _, ⟨⟨_, _, _, _, _, _, _, _, _, _, _, _, _, _, _, y3, r0, r1, r2, r3⟩, y5, y6, by rw [y4]; exact r4, y7, y8, y9, y10, y11⟩, fun_mk y12 y13 y14, (fun_mk y12 y13 y14).binds fun _ _ _ _ _ _ => ln2 fun _ _ => rfl⟩, PySem.W.mg_of X G y0, y15, ⟨y16, by rw [y4]; rfl, y17⟩, y18⟩, PySem.W.mg_of X G y1, ⟨y22, by rw [y23]; rfl, y24⟩, PySem.W.mg_of X G y2, ⟨y25, by rw [y26]; rfl, y27⟩, y19, y20, y21⟩
theorem txt_mk {K : PySem.W.Frag} {h : Heap} {mg : Str → Option Value} (X : K.In h) (G : h.Ns mainGlobals mg) {f0 f1 f2 f3 f4 f5 f6 f7 f8 f9 f10 f11 f12 f13 f14 f15 f16 f17 f18 f19 f20 : Addr} {ct_LETTERS : Tok} {ct_MOST_LETTERS : Tok} {ct_FIGURES : Tok} {ct_MOST_FIGURES : Tok} {xC xS xD xI : Addr}
    (a0 : FA K "is_whole" s_is_whole f0)
    (a1 : FA K "is_word" s_is_word f1)
    (a2 : FA K "are_figures" s_are_figures f2)
    (a3 : FA K "is_number_text" s_is_number_text f3)
    (a4 : FA K "is_word_text" s_is_word_text f4)
    (a5 : FA K "read_value" s_read_value f5)
    (a6 : FA K "shown_value" s_shown_value f6)
    (a7 : FA K "shown_row" s_shown_row f7)
    (a8 : FA K "shown_rows" s_shown_rows f8)
    (a9 : FA K "_law_seed" s__law_seed f9)
    (a10 : FA K "_law_next" s__law_next f10)
    (a11 : FA K "_law_great" s__law_great f11)
    (a12 : FA K "_law_value" s__law_value f12)
    (a13 : FA K "_law_shown_value" s__law_shown_value f13)
    (a14 : FA K "_law_shown_rows" s__law_shown_rows f14)
    (a15 : FA K "_law_looked" s__law_looked f15)
    (a16 : FA K "_law_read" s__law_read f16)
    (a17 : FA K "_law_same" s__law_same f17)
    (a18 : FA K "_law_right" s__law_right f18)
    (a19 : FA K "_law_spoilt" s__law_spoilt f19)
    (a20 : FA K "law" s_law f20)
    (q0 : PySem.W.nsIn K mainGlobals "LETTERS" = some (some (.str "abcdefghijklmnopqrstuvwxyz" ct_LETTERS)))
    (q1 : PySem.W.nsIn K mainGlobals "MOST_LETTERS" = some (some (.int 8 ct_MOST_LETTERS)))
    (q2 : PySem.W.nsIn K mainGlobals "FIGURES" = some (some (.str "0123456789" ct_FIGURES)))
    (q3 : PySem.W.nsIn K mainGlobals "MOST_FIGURES" = some (some (.int 60 ct_MOST_FIGURES)))
    (z0 : PySem.W.nsIn K mainGlobals "ValueError" = some none)
    (z1 : PySem.W.nsIn K mainGlobals "all" = some none)
    (z2 : PySem.W.nsIn K mainGlobals "bool" = some none)
    (z3 : PySem.W.nsIn K mainGlobals "enumerate" = some none)
    (z4 : PySem.W.nsIn K mainGlobals "int" = some none)
    (z5 : PySem.W.nsIn K mainGlobals "isinstance" = some none)
    (z6 : PySem.W.nsIn K mainGlobals "len" = some none)
    (z7 : PySem.W.nsIn K mainGlobals "list" = some none)
    (z8 : PySem.W.nsIn K mainGlobals "max" = some none)
    (z9 : PySem.W.nsIn K mainGlobals "range" = some none)
    (z10 : PySem.W.nsIn K mainGlobals "str" = some none)
    (z11 : PySem.W.nsIn K mainGlobals "tuple" = some none)
    (xa : XA K xC xS xD xI) : Txt K mg :=
  ⟨PySem.W.mg_none_of X G z0,
    PySem.W.mg_none_of X G z1,
    PySem.W.mg_none_of X G z2,
    PySem.W.mg_none_of X G z3,
    PySem.W.mg_none_of X G z4,
    PySem.W.mg_none_of X G z5,
    PySem.W.mg_none_of X G z6,
    PySem.W.mg_none_of X G z7,
    PySem.W.mg_none_of X G z8,
    PySem.W.mg_none_of X G z9,
    PySem.W.mg_none_of X G z10,
    PySem.W.mg_none_of X G z11,
    ⟨_, PySem.W.mg_of X G q0, _, rfl⟩,
    ⟨_, PySem.W.mg_of X G q1, _, rfl⟩,
    ⟨_, PySem.W.mg_of X G q2, _, rfl⟩,
    ⟨_, PySem.W.mg_of X G q3, _, rfl⟩,
    dn_mk X G a0 (by trivial),
    dn_mk X G a1 (by trivial),
    dn_mk X G a2 (by trivial),
    dn_mk X G a3 (by trivial),
    dn_mk X G a4 (by trivial),
    dn_mk X G a5 (by trivial),
    dn_mk X G a6 (by trivial),
    dn_mk X G a7 (by trivial),
    dn_mk X G a8 (by trivial),
    dn_mk X G a9 (by trivial),
    dn_mk X G a10 (by trivial),
    dn_mk X G a11 (by trivial),
    dn_mk X G a12 (by trivial),
    dn_mk X G a13 (by trivial),
    dn_mk X G a14 (by trivial),
    dn_mk X G a15 (by trivial),
    dn_mk X G a16 (by trivial),
    dn_mk X G a17 (by trivial),
    dn_mk X G a18 (by trivial),
    dn_mk X G a19 (by trivial),
    dn_mk X G a20 (by trivial),
    ex_mk X G xa⟩
end My
set_option Elab.async false
set_option linter.all false
set_option maxRecDepth 100000
open PySem PySem.W PyProof.Rows
set_option maxRecDepth 100000 in
set_option maxHeartbeats 0 in
theorem PySem.Challenge.cw_shardask_k70_values_written_holds : PySem.Challenge.rw_shardask_k70_values_written.Holds := by
  w_on; o_law; k_head; (case hw => w_witness2)
  k_fill
  refine L2.walk_ofK (l := PySem.Challenge.rw_shardask_k70_values_written) (n := 63) (k := 6) (x := "_law_script") (CX := L2.CX0) (sp := My.sp_law) rfl (by decide) rfl ⟨rfl, by decide, by decide⟩ (fun w h Y => PySem.W.kIn_of Y) ?F (fun K H a ns hl hO hS => My.sp_law_of hl hS) (fun _ _ _ _ z => z)
  case F =>
    intro w mg fa h KX G hmg
    have T : My.Txt (L2.KOf KX) mg := by
      dsimp only [L2.KOf]
      refine' My.txt_mk KX G ?a0 ?a1 ?a2 ?a3 ?a4 ?a5 ?a6 ?a7 ?a8 ?a9 ?a10 ?a11 ?a12 ?a13 ?a14 ?a15 ?a16 ?a17 ?a18 ?a19 ?a20 ?q0 ?q1 ?q2 ?q3 ?z0 ?z1 ?z2 ?z3 ?z4 ?z5 ?z6 ?z7 ?z8 ?z9 ?z10 ?z11 ?xa
      (case a0 => (refine' My.FA.mk ?j0 ?l0 ?c0 ?k0); (case j0 => k_is); (case l0 => k_is); (case c0 => k_is); (case k0 => k_is))
      (case a1 => (refine' My.FA.mk ?j1 ?l1 ?c1 ?k1); (case j1 => k_is); (case l1 => k_is); (case c1 => k_is); (case k1 => k_is))
      (case a2 => (refine' My.FA.mk ?j2 ?l2 ?c2 ?k2); (case j2 => k_is); (case l2 => k_is); (case c2 => k_is); (case k2 => k_is))
      (case a3 => (refine' My.FA.mk ?j3 ?l3 ?c3 ?k3); (case j3 => k_is); (case l3 => k_is); (case c3 => k_is); (case k3 => k_is))
      (case a4 => (refine' My.FA.mk ?j4 ?l4 ?c4 ?k4); (case j4 => k_is); (case l4 => k_is); (case c4 => k_is); (case k4 => k_is))
      (case a5 => (refine' My.FA.mk ?j5 ?l5 ?c5 ?k5); (case j5 => k_is); (case l5 => k_is); (case c5 => k_is); (case k5 => k_is))
      (case a6 => (refine' My.FA.mk ?j6 ?l6 ?c6 ?k6); (case j6 => k_is); (case l6 => k_is); (case c6 => k_is); (case k6 => k_is))
      (case a7 => (refine' My.FA.mk ?j7 ?l7 ?c7 ?k7); (case j7 => k_is); (case l7 => k_is); (case c7 => k_is); (case k7 => k_is))
      (case a8 => (refine' My.FA.mk ?j8 ?l8 ?c8 ?k8); (case j8 => k_is); (case l8 => k_is); (case c8 => k_is); (case k8 => k_is))
      (case a9 => (refine' My.FA.mk ?j9 ?l9 ?c9 ?k9); (case j9 => k_is); (case l9 => k_is); (case c9 => k_is); (case k9 => k_is))
      (case a10 => (refine' My.FA.mk ?j10 ?l10 ?c10 ?k10); (case j10 => k_is); (case l10 => k_is); (case c10 => k_is); (case k10 => k_is))
      (case a11 => (refine' My.FA.mk ?j11 ?l11 ?c11 ?k11); (case j11 => k_is); (case l11 => k_is); (case c11 => k_is); (case k11 => k_is))
      (case a12 => (refine' My.FA.mk ?j12 ?l12 ?c12 ?k12); (case j12 => k_is); (case l12 => k_is); (case c12 => k_is); (case k12 => k_is))
      (case a13 => (refine' My.FA.mk ?j13 ?l13 ?c13 ?k13); (case j13 => k_is); (case l13 => k_is); (case c13 => k_is); (case k13 => k_is))
      (case a14 => (refine' My.FA.mk ?j14 ?l14 ?c14 ?k14); (case j14 => k_is); (case l14 => k_is); (case c14 => k_is); (case k14 => k_is))
      (case a15 => (refine' My.FA.mk ?j15 ?l15 ?c15 ?k15); (case j15 => k_is); (case l15 => k_is); (case c15 => k_is); (case k15 => k_is))
      (case a16 => (refine' My.FA.mk ?j16 ?l16 ?c16 ?k16); (case j16 => k_is); (case l16 => k_is); (case c16 => k_is); (case k16 => k_is))
      (case a17 => (refine' My.FA.mk ?j17 ?l17 ?c17 ?k17); (case j17 => k_is); (case l17 => k_is); (case c17 => k_is); (case k17 => k_is))
      (case a18 => (refine' My.FA.mk ?j18 ?l18 ?c18 ?k18); (case j18 => k_is); (case l18 => k_is); (case c18 => k_is); (case k18 => k_is))
      (case a19 => (refine' My.FA.mk ?j19 ?l19 ?c19 ?k19); (case j19 => k_is); (case l19 => k_is); (case c19 => k_is); (case k19 => k_is))
      (case a20 => (refine' My.FA.mk ?j20 ?l20 ?c20 ?k20); (case j20 => k_is); (case l20 => k_is); (case c20 => k_is); (case k20 => k_is))
      (case q0 => k_is)
      (case q1 => k_is)
      (case q2 => k_is)
      (case q3 => k_is)
      (case z0 => k_is)
      (case z1 => k_is)
      (case z2 => k_is)
      (case z3 => k_is)
      (case z4 => k_is)
      (case z5 => k_is)
      (case z6 => k_is)
      (case z7 => k_is)
      (case z8 => k_is)
      (case z9 => k_is)
      (case z10 => k_is)
      (case z11 => k_is)
      (case xa => (refine' My.XA.mk ?y0 ?y1 ?y2 ?y3 ?r0 ?r1 ?r2 ?r3 ?y4 ?r4 ?y5 ?y6 ?y7 ?y8 ?y9 ?y10 ?y11 ?y12 ?y13 ?y14 ?y15 ?y16 ?y17 ?y18 ?y19 ?y20 ?y21 ?y22 ?y23 ?y24 ?y25 ?y26 ?y27); (case y0 => k_is); (case y1 => k_is); (case y2 => k_is); (case y3 => k_is); (case r0 => first | rfl | decide +kernel); (case r1 => first | rfl | decide +kernel); (case r2 => first | rfl | decide +kernel); (case r3 => first | rfl | decide +kernel); (case y4 => k_is); (case r4 => first | rfl | decide +kernel); (case y5 => k_is); (case y6 => k_is); (case y7 => k_is); (case y8 => k_is); (case y9 => k_is); (case y10 => k_is); (case y11 => k_is); (case y12 => k_is); (case y13 => k_is); (case y14 => k_is); (case y15 => k_is); (case y16 => k_is); (case y17 => k_is); (case y18 => k_is); (case y19 => k_is); (case y20 => k_is); (case y21 => k_is); (case y22 => k_is); (case y23 => k_is); (case y24 => k_is); (case y25 => k_is); (case y26 => k_is); (case y27 => k_is))
    exact My.law_fn (P := PySem.Challenge.rw_shardask_k70_values_written.prog) T hmg
#print axioms PySem.Challenge.cw_shardask_k70_values_written_holds
