import PyProof.Rows.All
import Wide.All
import OpenK.AllK
import Wide.FinOn
import Lean
import PyProof.EqAt
import PyProof.EqKinds
import PyProof.TupleCall
import PyProof.CallType
import PyProof.WalkLemmas
import PyProof.StrOps
import PyProof.ForAny
import PyProof.IsInstanceH
import PyProof.IsiFacts
import PyProof.IsiFacts2
import PyProof.FactsAll.object
import PyProof.ListMulRoad
import PyProof.FactsAll.tuple_2
import PyProof.StrLawsIdx
import PyProof.EnumMake
import PyProof.EnumFor
import KE.KDictList
import PyProof.Rows.Range3
import PyProof.CompUse
import PyProof.ListStr
import PyProof.NeKinds
import KE.KDictOf
import KE.KEqDict
import KE.KDictSum
import PyProof.AttrMissHeap
import PySem.Challenge.RW_shardask_k05_heads_told
set_option Elab.async false
set_option linter.all false
set_option maxRecDepth 100000
namespace L2
open PySem PySem.Spec PyProof.Rows
abbrev Key := Sum Int Str
def keyIs : Key → Value → Bool
  | .inl k, v => Value.isInt k v
  | .inr x, v => Value.isStrOf x v
def keyH (w : World) : Key → Int
  | .inl k => hashInt k
  | .inr x => hashStr w x
theorem keyIs_shape : ∀ {k : Key} {v : Value}, keyIs k v = true → (∃ i t, k = Sum.inl i ∧ v = Value.int i t) ∨ (∃ x t, k = Sum.inr x ∧ v = Value.str x t)
  | .inl i, v, h => by
    obtain ⟨t, e⟩ := Value.isInt_shape (k := i) (v := v) h
    exact .inl ⟨i, t, rfl, e⟩
  | .inr x, v, h => by
    obtain ⟨t, e⟩ := Value.isStrOf_shape (x := x) (v := v) h
    exact .inr ⟨x, t, rfl, e⟩
theorem keyIs_int (i : Int) (t : Tok) : keyIs (.inl i) (.int i t) = true := by simp [keyIs, Value.isInt]
theorem keyIs_str (x : Str) (t : Tok) : keyIs (.inr x) (.str x t) = true := by simp [keyIs, Value.isStrOf]
theorem key_ll (a b : Int) : decide ((Sum.inl a : Key) = Sum.inl b) = (a == b) := by
  by_cases e : a = b
  · subst e; simp
  · have h : ¬ (Sum.inl a : Key) = Sum.inl b := fun q => e (Sum.inl.inj q)
    rw [decide_eq_false h]
    exact (beq_eq_false_iff_ne.mpr e).symm
theorem key_rr (a b : Str) : decide ((Sum.inr a : Key) = Sum.inr b) = decide (a = b) := by
  by_cases e : a = b
  · subst e; simp
  · have h : ¬ (Sum.inr a : Key) = Sum.inr b := fun q => e (Sum.inr.inj q)
    rw [decide_eq_false h, decide_eq_false e]
theorem key_lr (a : Int) (b : Str) : decide ((Sum.inl a : Key) = Sum.inr b) = false := decide_eq_false (fun q => nomatch q)
theorem key_rl (a : Str) (b : Int) : decide ((Sum.inr a : Key) = Sum.inl b) = false := decide_eq_false (fun q => nomatch q)
def mixKind (prog : Program) (w : World) : PySem.KeyKind prog w Key where
  is := keyIs
  hash := keyH w
  inj := fun v a b ha hb => by
    rcases keyIs_shape ha with ⟨i, t, rfl, rfl⟩ | ⟨x, t, rfl, rfl⟩
    · rcases keyIs_shape hb with ⟨j, u, rfl, e⟩ | ⟨y, u, rfl, e⟩
      · injection e with e1 _; rw [e1]
      · exact nomatch e
    · rcases keyIs_shape hb with ⟨j, u, rfl, e⟩ | ⟨y, u, rfl, e⟩
      · exact nomatch e
      · injection e with e1 _; rw [e1]
  byValue := fun k v h => by
    rcases keyIs_shape h with ⟨i, t, rfl, rfl⟩ | ⟨x, t, rfl, rfl⟩ <;> rfl
  pyHash := fun hv h => by
    rcases keyIs_shape hv with ⟨i, t, rfl, rfl⟩ | ⟨x, t, rfl, rfl⟩
    · exact wpAny_pyHash_int h
    · exact wpAny_pyHash_str h
  eqBool := fun hu hv h => by
    rcases keyIs_shape hu with ⟨i, t, rfl, rfl⟩ | ⟨x, t, rfl, rfl⟩
    · rcases keyIs_shape hv with ⟨j, u, rfl, rfl⟩ | ⟨y, u, rfl, rfl⟩
      · rw [key_ll] at h; exact wpAny_eqBool_int h
      · rw [key_lr] at h; exact SeqAt.EqAt.int_str i t y u _ _ _ _ h
    · rcases keyIs_shape hv with ⟨j, u, rfl, rfl⟩ | ⟨y, u, rfl, rfl⟩
      · rw [key_rl] at h; exact SeqAt.EqAt.str_int x t j u _ _ _ _ h
      · rw [key_rr] at h; exact wpAny_eqBool_str h
  «strs» := fun k x t v h => by
    rcases keyIs_shape h with ⟨i, u, rfl, e⟩ | ⟨y, u, rfl, e⟩
    · exact nomatch e
    · injection e with e1 _
      subst e1
      cases v <;> rfl
theorem mixKind_int (prog : Program) (w : World) (i : Int) (t : Tok) : (mixKind prog w).is (.inl i) (.int i t) = true := keyIs_int i t
theorem mixKind_str (prog : Program) (w : World) (x : Str) (t : Tok) : (mixKind prog w).is (.inr x) (.str x t) = true := keyIs_str x t
end L2
namespace L2
open PySem PySem.Spec PyProof.Rows
inductive V where
  | non | bl (b : Bool) | int (i : Int) | str (x : Str) | byt (b : Array UInt8) | flt (b : UInt64) | ref (a : Addr) | ty (n : String)
  deriving DecidableEq
def RelV : V → Value → Prop
  | .non, u => u = Value.none
  | .bl b, u => u = Value.bool b
  | .int i, u => ∃ t, u = Value.int i t
  | .str x, u => ∃ t, u = Value.str x t
  | .byt b, u => ∃ t, u = Value.bytes b t
  | .flt b, u => ∃ t, u = Value.float b t
  | .ref a, u => u = Value.ref a
  | .ty n, u => u = Value.type n
abbrev Vals : List V → List Value → Prop := Paired RelV
theorem Vals.length {xs : List V} {us : List Value} (r : Vals xs us) : xs.length = us.length := Paired.length r
theorem Vals.get : ∀ {xs : List V} {us : List Value} {i : Nat} {x : V}, Vals xs us → xs[i]? = some x → ∃ u, us[i]? = some u ∧ RelV x u
  | _, _, _, _, .nil, e => by simp at e
  | _, _, 0, _, .cons r _, e => by simp at e; subst e; exact ⟨_, rfl, r⟩
  | _, _, i + 1, x, .cons _ t, e => by
    obtain ⟨u, h1, h2⟩ := Vals.get (i := i) (x := x) t (by simpa using e)
    exact ⟨u, by simpa using h1, h2⟩
theorem Vals.set {x : V} {u : Value} (r : RelV x u) : ∀ {xs : List V} {us : List Value} (i : Nat), Vals xs us → Vals (xs.set i x) (us.set i u)
  | _, _, _, .nil => .nil
  | _, _, 0, .cons _ t => .cons r t
  | _, _, i + 1, .cons q t => .cons q (Vals.set r i t)
theorem Vals.append : ∀ {xs ys : List V} {us ws : List Value}, Vals xs us → Vals ys ws → Vals (xs ++ ys) (us ++ ws)
  | _, _, _, _, .nil, s => s
  | _, _, _, _, .cons r t, s => .cons r (Vals.append t s)
theorem Vals.take : ∀ {xs : List V} {us : List Value} (n : Nat), Vals xs us → Vals (xs.take n) (us.take n)
  | _, _, 0, _ => .nil
  | _, _, _ + 1, .nil => .nil
  | _, _, n + 1, .cons r t => .cons r (Vals.take n t)
theorem Vals.drop : ∀ {xs : List V} {us : List Value} (n : Nat), Vals xs us → Vals (xs.drop n) (us.drop n)
  | _, _, 0, r => r
  | _, _, _ + 1, .nil => .nil
  | _, _, n + 1, .cons _ t => Vals.drop n t
def RelO : Option V → Option Value → Prop
  | some v, some u => RelV v u
  | none, none => True
  | _, _ => False
def KV {κ : Type} : List (κ × V) → List (κ × Value) → Prop := Paired fun (p : κ × V) (q : κ × Value) => p.1 = q.1 ∧ RelV p.2 q.2
def kV : Key → V
  | .inl i => .int i
  | .inr x => .str x
inductive HO where
  /-- a list -/
  | lst (xs : List V)
  /-- a tuple (never changes) -/
  | tup (xs : List V)
  /-- a dict whose keys are ints and texts; one whose keys are tuples of ints and texts (the empty one is both) -/
  | dK (kvs : List (Key × V)) | dT (kvs : List (List Key × V))
  /-- a set of ints: its members, its size -/
  | set (S : Int → Bool) (n : Nat)
  /-- an instance of the class at C, its dict at dx, its attributes -/
  | ins (C dx : Addr) (fs : List (Str × V))
  /-- the dict of the instance at x -/
  | own (x : Addr)
  /-- the dict of an exception -/
  | xd (fs : List (Str × V))
  /-- a bound method, f of x -/
  | met (f x : Addr)
  /-- a range object lo, lo + 1, .. below hi -/
  | rng (lo hi : Int)
  /-- a thing that is known to the object (the script; a dict while a loop walks it): read, never written while it is so -/
  | frz (o : Obj) (u : HO)
  /-- a code object's table -/
  | tbl (ps : Array Value)
  /-- any other thing, by what is true of its one object (a def of one's own: SetO a S n := HO.ext fun h => ..) -/
  | ext (φ : Heap → Prop)
abbrev Hp := Addr → Option HO
def upd (H : Hp) (a : Addr) (o : HO) : Hp := fun b => if b = a then some o else H b
theorem upd_same {H : Hp} {a : Addr} {o : HO} : upd H a o a = some o := by unfold upd; rw [if_pos rfl]
theorem upd_ne {H : Hp} {a b : Addr} {o : HO} (h : b ≠ a) : upd H a o b = H b := by unfold upd; rw [if_neg h]
theorem upd_upd {H : Hp} {a : Addr} {o u : HO} : upd (upd H a o) a u = upd H a u := by
  funext b; unfold upd; split <;> rfl
theorem ne_of {H : Hp} {a b : Addr} {o u : HO} (h : H a = some o) (h' : H b = some u) (d : o ≠ u) : a ≠ b := by
  intro e; subst e; rw [h] at h'; exact d (Option.some.inj h')
theorem ne_of_none {H : Hp} {a b : Addr} {o : HO} (h : H a = some o) (h' : H b = none) : a ≠ b := by
  intro e; subst e; rw [h] at h'; cases h'
def IsTN (h : Heap) (a : Addr) (items : Array Value) : Prop := IsTup h a items ∧ ∀ o, h.get? a = some o → o.dict = none
theorem IsTN.of {h : Heap} {a : Addr} {items : Array Value} {o : Obj} (e : h.get? a = some o) (d : o.dict = none) (x : IsTup h a items) : IsTN h a items := ⟨x, fun o' e' => by rw [e] at e'; cases e'; exact d⟩
theorem IsTN.new (h : Heap) (items : Array Value) : IsTN (h.push { cls := .type "tuple", data := .seq items }) h.objs.size items := .of (Heap.get?_push_size _ rfl) rfl (IsTup.new _ _)
theorem IsTN.keep {h h' : Heap} {a : Addr} {items : Array Value} (x : IsTN h a items) (k : ∀ o, h.get? a = some o → h'.get? a = some o) : IsTN h' a items := by
  obtain ⟨⟨o, e, c⟩, d⟩ := x
  exact .of (k o e) (d o e) ⟨o, k o e, c⟩
section
variable (P : Program) (w : World)
def ObjOk (H : Hp) (h : Heap) (a : Addr) : HO → Prop
  | .lst xs => xs.length ≤ sizeLine ∧ ∃ (its : List Value) (n : Nat), Vals xs its ∧ h.get? a = some { cls := .type "list", data := .seq its.toArray n }
  | .tup xs => xs.length ≤ sizeLine ∧ ∃ its : List Value, Vals xs its ∧ IsTN h a its.toArray
  | .dK kvs => kvs.length ≤ sizeLine ∧ (a == sysModules) = false ∧ ∃ vs, KV kvs vs ∧ h.DictOf (mixKind P w) a vs
  | .dT kvs => kvs.length ≤ sizeLine ∧ (a == sysModules) = false ∧ ∃ xs : List (List Key × Addr × Value),
      Paired (fun (p : List Key × V) (q : List Key × Addr × Value) => p.1 = q.1 ∧ H q.2.1 = some (.tup (p.1.map kV)) ∧ RelV p.2 q.2.2) kvs xs ∧
      ∃ o es ep, h.get? a = some o ∧ o.ExactDict ∧ o.data = .dict es ep ∧ es.toList = xs.map (entryOfKey (tupleKind (mixKind P w))) ∧ (xs.map (·.1)).Nodup
  | .set S n => h.SetOf (intKind P w) a S n
  | .ins C dx fs => H dx = some (.own a) ∧ fs.length ≤ 1000 ∧ dx ≠ a ∧ h.get? a = some (PySem.W.instObj C dx) ∧
      ∃ mA, h.Ns1 dx mA ∧ (∀ f, RelO (fs.lookup f) (mA f)) ∧ PySem.Within mA (fs.map (·.1))
  | .own _ => ∃ o, h.get? a = some o
  | .xd fs => ∃ mA, h.Ns1 a mA ∧ ∀ f, RelO (fs.lookup f) (mA f)
  | .rng lo hi => ∃ t u v, h.get? a = some { cls := .type "range", data := .fields #[.int lo t, .int hi u, .int 1 v] }
  | .frz o u => h.get? a = some o ∧ ObjOk H h a u
  | .tbl ps => h.get? a = some { cls := .none, data := .fields ps }
  | .met f x => h.get? a = some (PySem.W.methodObj (.ref f) (.ref x))
  | .ext φ => φ h ∧ (∃ o, h.get? a = some o) ∧ ∀ h1 h2 : Heap, φ h1 → (∀ o, h1.get? a = some o → h2.get? a = some o) → φ h2
def HOk (H : Hp) (h : Heap) : Prop := ∀ a o, H a = some o → ObjOk P w H h a o
end
section
variable {P : Program} {w : World} {H H' : Hp} {h h' : Heap} {a : Addr} {o : HO}
theorem ObjOk.lt (x : ObjOk P w H h a o) : a < h.objs.size := by
  cases o with
  | lst xs => obtain ⟨_, _, _, _, e⟩ := x; exact Heap.lt_size e
  | tup xs => obtain ⟨_, _, _, p⟩ := x; exact p.1.lt
  | dK kvs => obtain ⟨_, _, _, _, o, _, _, e, _⟩ := x; exact Heap.lt_size e
  | dT kvs => obtain ⟨_, _, _, _, o, _, _, e, _⟩ := x; exact Heap.lt_size e
  | set S n => obtain ⟨o, _, _, _, e, _⟩ := x; exact Heap.lt_size e
  | ins C dx fs => obtain ⟨_, _, _, e, _⟩ := x; exact Heap.lt_size e
  | own y => obtain ⟨_, e⟩ := x; exact Heap.lt_size e
  | xd fs => obtain ⟨_, ⟨_, _, _, e, _⟩, _⟩ := x; exact Heap.lt_size e
  | rng lo hi => obtain ⟨_, _, _, e⟩ := x; exact Heap.lt_size e
  | frz ob u => obtain ⟨e, _⟩ := x; exact Heap.lt_size e
  | tbl ps => exact Heap.lt_size (show h.get? a = some _ from x)
  | met f y => exact Heap.lt_size (show h.get? a = some _ from x)
  | ext φ => obtain ⟨_, ⟨_, e⟩, _⟩ := x; exact Heap.lt_size e
theorem Paired.mapP {α β : Type} {F G : α → β → Prop} : ∀ {l₁ : List α} {l₂ : List β}, Paired F l₁ l₂ → (∀ a b, F a b → G a b) → Paired G l₁ l₂
  | _, _, .nil, _ => .nil
  | _, _, .cons r t, f => .cons (f _ _ r) (Paired.mapP t f)
theorem ObjOk.stay (x : ObjOk P w H h a o) (k : ∀ b u, (b = a ∨ H b = some (.own a)) → h.get? b = some u → h'.get? b = some u)
    (ho : ∀ b, H b = some (.own a) → H' b = some (.own a)) (ht : ∀ b xs, H b = some (.tup xs) → H' b = some (.tup xs)) : ObjOk P w H' h' a o := by
  induction o with
  | lst xs => obtain ⟨z, its, n, r, e⟩ := x; exact ⟨z, its, n, r, k _ _ (.inl rfl) e⟩
  | tup xs => obtain ⟨z, its, r, p⟩ := x; exact ⟨z, its, r, p.keep fun o e => k _ _ (.inl rfl) e⟩
  | dK kvs => obtain ⟨z, y, vs, r, ob, es, ep, e, c⟩ := x; exact ⟨z, y, vs, r, ob, es, ep, k _ _ (.inl rfl) e, c⟩
  | dT kvs =>
    obtain ⟨z, y, xs, r, ob, es, ep, e, c⟩ := x
    exact ⟨z, y, xs, Paired.mapP r fun p q z => ⟨z.1, ht _ _ z.2.1, z.2.2⟩, ob, es, ep, k _ _ (.inl rfl) e, c⟩
  | set S n => obtain ⟨ob, es, ep, t, e, c⟩ := x; exact ⟨ob, es, ep, t, k _ _ (.inl rfl) e, c⟩
  | ins C dx fs =>
    obtain ⟨d, z, ne, e, mA, ⟨od, es, ep, e2, c⟩, r⟩ := x
    exact ⟨ho _ d, z, ne, k _ _ (.inl rfl) e, mA, ⟨od, es, ep, k _ _ (.inr d) e2, c⟩, r⟩
  | own y => obtain ⟨ob, e⟩ := x; exact ⟨ob, k _ _ (.inl rfl) e⟩
  | xd fs => obtain ⟨mA, ⟨od, es, ep, e, c⟩, r⟩ := x; exact ⟨mA, ⟨od, es, ep, k _ _ (.inl rfl) e, c⟩, r⟩
  | rng lo hi => obtain ⟨t, u, v, e⟩ := x; exact ⟨t, u, v, k _ _ (.inl rfl) e⟩
  | frz ob u ih => obtain ⟨e, q⟩ := x; exact ⟨k _ _ (.inl rfl) e, ih q⟩
  | tbl ps =>
    have e : h.get? a = some { cls := .none, data := .fields ps } := x
    show h'.get? a = some { cls := .none, data := .fields ps }
    exact k a _ (.inl rfl) e
  | met f y =>
    have e : h.get? a = some (PySem.W.methodObj (.ref f) (.ref y)) := x
    show h'.get? a = some (PySem.W.methodObj (.ref f) (.ref y))
    exact k a _ (.inl rfl) e
  | ext φ => obtain ⟨p, ⟨o, e⟩, st⟩ := x; exact ⟨st _ _ p fun o q => k _ _ (.inl rfl) q, ⟨o, k _ _ (.inl rfl) e⟩, st⟩
theorem HOk.lt (x : HOk P w H h) (e : H a = some o) : a < h.objs.size := (x a o e).lt
theorem HOk.fresh (x : HOk P w H h) (e : h.objs.size ≤ a) : H a = none := by
  cases q : H a with
  | none => rfl
  | some u => exact absurd (Nat.lt_of_lt_of_le (x.lt q) e) (Nat.lt_irrefl _)
theorem HOk.kept (x : HOk P w H h) (k : ∀ b u, h.get? b = some u → h'.get? b = some u) : HOk P w H h' := fun a o e =>
  (x a o e).stay (fun b u _ q => k b u q) (fun _ q => q) fun _ _ q => q
theorem HOk.laid (x : HOk P w H h) (k : ∀ b u, h.get? b = some u → h'.get? b = some u) (hp : h.objs.size ≤ a) (new : ObjOk P w (upd H a o) h' a o) : HOk P w (upd H a o) h' := fun b u e => by
  have hn := x.fresh hp
  by_cases hb : b = a
  · subst hb; rw [upd_same] at e; cases e; exact new
  · rw [upd_ne hb] at e
    exact (x b u e).stay (fun c v _ q => k c v q) (fun c q => by rw [upd_ne (ne_of_none q hn)]; exact q) fun c xs q => by rw [upd_ne (ne_of_none q hn)]; exact q
end
def Rd (H : Hp) (a : Addr) (u : HO) : Prop := H a = some u ∨ ∃ o, H a = some (.frz o u)
theorem Rd.ok {P : Program} {w : World} {H : Hp} {h : Heap} {a : Addr} {u : HO} (r : Rd H a u) (x : HOk P w H h) : ObjOk P w H h a u := by
  rcases r with r | ⟨o, r⟩
  · exact x a u r
  · obtain ⟨_, q⟩ := x a _ r
    exact q
def Mut : Option HO → Prop
  | some (.lst _) => True
  | some (.dK _) => True
  | some (.dT _) => True
  | some (.set _ _) => True
  | some (.ins _ _ _) => True
  | some (.ext _) => True
  | _ => False
section
variable {P : Program} {w : World} {H : Hp} {h h' : Heap} {x e : Addr} {o' : HO}
theorem HOk.write (ok : HOk P w H h) (mu : Mut (H x)) (he : e = x ∨ H e = some (.own x)) (k : ∀ b u, b ≠ e → h.get? b = some u → h'.get? b = some u) (heo : ∃ u, h'.get? e = some u)
    (new : ObjOk P w (upd H x o') h' x o') : HOk P w (upd H x o') h' := fun b u q => by
  have nown : ∀ c y, H c = some (.own y) → c ≠ x := fun c y r z => by subst z; rw [r] at mu; exact mu
  have ntup : ∀ c xs, H c = some (.tup xs) → c ≠ x := fun c xs r z => by subst z; rw [r] at mu; exact mu
  by_cases hb : b = x
  · subst hb; rw [upd_same] at q; cases q; exact new
  · rw [upd_ne hb] at q
    by_cases hbe : b = e
    · have q' : H b = some (.own x) := by
        rcases he with z | z
        · exact absurd (hbe.trans z) hb
        · rw [hbe]; exact z
      rw [q] at q'; cases q'
      obtain ⟨v, hv⟩ := heo
      exact ⟨v, by rw [hbe]; exact hv⟩
    · refine (ok b u q).stay (fun c v hc r => k c v ?_ r) (fun c r => by rw [upd_ne (nown c b r)]; exact r) fun c xs r => by rw [upd_ne (ntup c xs r)]; exact r
      rcases hc with rfl | hc
      · exact hbe
      · rintro rfl
        rcases he with z | z
        · exact nown c b hc z
        · rw [hc] at z; cases z; exact hb rfl
end
structure Un (fs ex : List Addr) (H H' : Hp) (h h' : Heap) : Prop where
  keep : ∀ b o, h.get? b = some o → H b = none → b ∉ fs → b ∉ ex → h'.get? b = some o
  slot : ∀ b o, h.get? b = some o → H b = none → b ∈ fs → b ∉ ex → ∃ sl, h'.get? b = some { o with slots := sl }
  free : ∀ b o, h.get? b = some o → H b = none → b ∉ ex → H' b = none
  there : ∀ b o, h.get? b = some o → b ∉ ex → ∃ o', h'.get? b = some o'
  tups : ∀ b xs, H b = some (.tup xs) → H' b = some (.tup xs)
  frzs : ∀ b o u, H b = some (.frz o u) → H' b = some (.frz o u)
  tbls : ∀ b ps, H b = some (.tbl ps) → ∃ more, H' b = some (.tbl (ps ++ more))
section
variable {fs fs' ex ex' : List Addr} {H H1 H2 : Hp} {h h1 h2 h' : Heap} {a x e : Addr} {o : HO}
theorem Un.any (u : Un fs ex H H1 h h1) {b : Addr} {ob : Obj} (q : h.get? b = some ob) (n : H b = none) (hx : b ∉ ex) : ∃ sl, h1.get? b = some { ob with slots := sl } := by
  by_cases hb : b ∈ fs
  · exact u.slot b ob q n hb hx
  · exact ⟨ob.slots, u.keep b ob q n hb hx⟩
theorem Un.kept (k : ∀ b u, h.get? b = some u → h'.get? b = some u) : Un fs ex H H h h' :=
  ⟨fun b ob q _ _ _ => k b ob q, fun b ob q _ _ _ => ⟨ob.slots, k b ob q⟩, fun _ _ _ n _ => n, fun b ob q _ => ⟨ob, k b ob q⟩, fun _ _ q => q, fun _ _ _ q => q, fun _ ps q => ⟨#[], by rw [q]; simp⟩⟩
theorem Un.refl : Un fs ex H H h h := Un.kept fun _ _ q => q
theorem Un.laid (k : ∀ b u, h.get? b = some u → h'.get? b = some u) (hp : h.objs.size ≤ a) (hn : H a = none) : Un fs ex H (upd H a o) h h' where
  keep := fun b u q _ _ _ => k b u q
  slot := fun b u q _ _ _ => ⟨u.slots, k b u q⟩
  free := fun b u q n _ => by rw [upd_ne (Nat.ne_of_lt (Nat.lt_of_lt_of_le (Heap.lt_size q) hp))]; exact n
  there := fun b u q _ => ⟨u, k b u q⟩
  tups := fun b xs q => by rw [upd_ne (ne_of_none q hn)]; exact q
  frzs := fun b u xs q => by rw [upd_ne (ne_of_none q hn)]; exact q
  tbls := fun b ps q => ⟨#[], by rw [upd_ne (ne_of_none q hn), q]; simp⟩
theorem Un.write (mu : Mut (H x)) (he : e = x ∨ H e = some (.own x)) (k : ∀ b u, b ≠ e → h.get? b = some u → h'.get? b = some u) (heo : ∃ u, h'.get? e = some u) : Un fs ex H (upd H x o) h h' := by
  have hx : ∀ b, H b = none → b ≠ x := fun b n z => by subst z; rw [n] at mu; exact mu
  have hb : ∀ b, H b = none → b ≠ e := fun b n z => by
    subst z
    rcases he with r | r
    · exact hx b n r
    · rw [n] at r; cases r
  have hm : ∀ b u, H b = some u → ¬ Mut (some u) → b ≠ x := fun b u q nm z => by subst z; rw [q] at mu; exact nm mu
  refine ⟨fun b u q n _ _ => k b u (hb b n) q, fun b u q n _ _ => ⟨u.slots, k b u (hb b n) q⟩, fun b u q n _ => by rw [upd_ne (hx b n)]; exact n, fun b u q _ => ?_,
    fun b xs q => by rw [upd_ne (hm b _ q fun z => z)]; exact q, fun b u xs q => by rw [upd_ne (hm b _ q fun z => z)]; exact q, fun b ps q => ⟨#[], by rw [upd_ne (hm b _ q fun z => z), q]; simp⟩⟩
  by_cases hbe : b = e
  · subst hbe; exact heo
  · exact ⟨u, k b u hbe q⟩
end
def trk (h : Heap) (H : Hp) : List Addr := (List.range h.objs.size).filter fun a => (H a).isSome
def hidT (h : Heap) (H : Hp) : Heap := PySem.W.hideAll h (trk h H)
theorem hidT_size (h : Heap) (H : Hp) : (hidT h H).objs.size = h.objs.size := PySem.W.hideAll_size _ _
theorem hidT_get {h : Heap} {H : Hp} {b : Addr} {o : Obj} (e : h.get? b = some o) (n : H b = none) : (hidT h H).get? b = some o :=
  PySem.W.hideAll_get _ e fun hm => by
    have q : (H b).isSome = true := (List.mem_filter.mp hm).2
    rw [n] at q; simp at q
theorem of_hidT {h : Heap} {H : Hp} {b : Addr} {o : Obj} (e : (hidT h H).get? b = some o) : h.get? b = some o ∧ H b = none := by
  have e' : h.get? b = some o := PySem.W.of_hideAll (trk h H) e
  refine ⟨e', ?_⟩
  cases q : H b with
  | none => rfl
  | some x =>
    have hm : b ∈ trk h H := List.mem_filter.mpr ⟨List.mem_range.mpr (Heap.lt_size e'), by simp [q]⟩
    have z : (hidT h H).get? b = none := PySem.W.hideAll_none (trk h H) hm
    rw [z] at e; cases e
end L2
namespace L2
open PySem PySem.Spec PyProof.Rows
structure Mod (K : PySem.W.Frag) (mg : Str → Option Value) (base : Heap) : Prop where
  kin : K.In base
  glob : base.Ns mainGlobals mg
  blt : ∃ mb, base.Ns builtinsNs mb ∧ ∀ x : Str, x ≠ "__name__" → mb x = bootBuiltins x
  nolimit : base.NoLimit
structure Cx where
  prog : Program
  w : World
  K : PySem.W.Frag
  mg : Str → Option Value
  base : Heap
  A : Around
  N : List Str
  s₀ : Shared
  H₀ : Hp
  env : Env
  outer : List Env
  stack : List Env
  ex : List Addr
  fn : Str → Bool
  calm : Bool
  pn : List (Addr × Obj)
  xe : Value → Shared → Prop
def frs (l : List Env) : List Addr := l.filterMap (·.frame)
abbrev Cx.fs (X : Cx) : List Addr := frs X.outer
def Vis (sc : Scope) (x : Str) : Prop := sc.names.lookup x = some .local ∨ sc.names.lookup x = some .cell ∨ sc.names.lookup x = some .free
def Loc (sc : Scope) (x : Str) : Prop := sc.names.lookup x = some .local ∨ sc.names.lookup x = some .cell
def Look (env : Env) (h : Heap) (m : Str → Option Value) (x : Str) (u : Value) : Prop :=
  (env.kindOf x = some .local ∧ m x = some u) ∨ ((env.kindOf x = some .cell ∨ env.kindOf x = some .free) ∧ ∃ c, env.cells.lookup x = some c ∧ h.IsCell c (some u))
structure Cx.Ok (X : Cx) : Prop where
  mod : Mod X.K X.mg X.base
  kind : X.env.scope.kind = .function
  glob : X.env.globals = mainGlobals
  blt : X.env.builtins = builtinsNs
  above : X.s₀.heap.objs.size ≤ X.env.locals
  inj : ∀ x y c, X.env.cells.lookup x = some c → X.env.cells.lookup y = some c → x = y
  has : ∀ x, (X.env.kindOf x = some .cell ∨ X.env.kindOf x = some .free) → ∃ c, X.env.cells.lookup x = some c
  cab : ∀ x c, X.fn x = true → X.env.cells.lookup x = some c → X.s₀.heap.objs.size ≤ c
  hd : X.calm = true → X.A.handled = none
  frames : X.A.frames = some X.stack
  stk : X.stack = X.outer ∨ (X.stack = X.env :: X.outer ∧ X.env.frame = some X.env.locals)
  exf : ∀ b ∈ X.ex, b ≠ X.env.locals ∧ ∀ x c, X.env.cells.lookup x = some c → c ≠ b
  bs : ∀ b o, X.base.get? b = some o → X.s₀.heap.get? b = some o ∧ X.H₀ b = none
  bsz : X.base.objs.size ≤ X.s₀.heap.objs.size
  noex : ∀ b o, X.base.get? b = some o → b ∉ X.ex
  exfs : ∀ b ∈ X.ex, b ∉ X.fs
  funs : X.s₀.heap.FunFrames X.base X.outer
  frf : ∀ b ∈ X.fs, X.H₀ b = none
structure Inv (X : Cx) (pins : List (Addr × Obj)) (σ : List (Option V)) (H : Hp) (s : Shared) : Prop where
  ok : X.Ok
  os : s.os = X.s₀.os
  bare : AllBare s.gens
  base : Un X.fs X.ex X.H₀ H X.s₀.heap s.heap
  loc : ∃ m, s.heap.Ns X.env.locals m ∧ ∀ (i : Nat) (x : Str) (v : V), X.N[i]? = some x → σ[i]? = some (some v) → Vis X.env.scope x → ∃ u, RelV v u ∧ Look X.env s.heap m x u
  cell : ∀ x c, X.env.cells.lookup x = some c → ∃ v, s.heap.IsCell c v
  free : H X.env.locals = none
  freeC : ∀ x c, X.env.cells.lookup x = some c → H c = none
  pin : ∀ p ∈ X.pn ++ pins, s.heap.get? p.1 = some p.2 ∧ H p.1 = none ∧ p.1 ≠ X.env.locals ∧ p.1 ∉ X.fs ∧ ∀ v, p.2.data ≠ .cell v
  hok : HOk X.prog X.w H s.heap
  len : σ.length = X.N.length
section
variable {X : Cx} {pins : List (Addr × Obj)} {σ : List (Option V)} {H H' : Hp} {s : Shared} {h' : Heap}
theorem Cx.Ok.nofr (ok : X.Ok) {b : Addr} {o : Obj} (e : X.base.get? b = some o) : b ∉ X.fs := fun hb => by
  have := (ok.funs.mem hb).1
  rw [e] at this; cases this
theorem Inv.bs (I : Inv X pins σ H s) : ∀ b o, X.base.get? b = some o → s.heap.get? b = some o ∧ H b = none := fun b o e =>
  ⟨I.base.keep b o (I.ok.bs b o e).1 (I.ok.bs b o e).2 (I.ok.nofr e) (I.ok.noex b o e), I.base.free b o (I.ok.bs b o e).1 (I.ok.bs b o e).2 (I.ok.noex b o e)⟩
theorem Inv.bk (I : Inv X pins σ H s) : ∀ b o, X.base.get? b = some o → s.heap.get? b = some o := fun b o e => (I.bs b o e).1
theorem Inv.mod (I : Inv X pins σ H s) : Mod X.K X.mg X.base := I.ok.mod
theorem Inv.kIn (I : Inv X pins σ H s) : X.K.In s.heap := I.ok.mod.kin.keeps I.bk
theorem Inv.lt (I : Inv X pins σ H s) : X.env.locals < s.heap.objs.size := let ⟨_, hn, _⟩ := I.loc; hn.lt
theorem Inv.sz (I : Inv X pins σ H s) : X.s₀.heap.objs.size ≤ s.heap.objs.size := Nat.le_trans I.ok.above (Nat.le_of_lt I.lt)
theorem Inv.nofs (I : Inv X pins σ H s) {a : Addr} (h : s.heap.objs.size ≤ a) : a ∉ X.fs := fun hb => by
  obtain ⟨_, o, ho, _⟩ := I.ok.funs.mem hb
  exact absurd (Nat.lt_of_lt_of_le (Heap.lt_size ho) (Nat.le_trans I.sz h)) (Nat.lt_irrefl _)
theorem Inv.cne (I : Inv X pins σ H s) : ∀ x c, X.env.cells.lookup x = some c → c ≠ X.env.locals := fun x c e z => by
  obtain ⟨v, o, ho, hd⟩ := I.cell x c e
  obtain ⟨m, ⟨o', es, ep, ho', hd', _⟩, _⟩ := I.loc
  rw [z, ho'] at ho; cases ho; rw [hd'] at hd; cases hd
theorem Inv.funs (I : Inv X pins σ H s) : s.heap.FunFrames X.base X.outer := by
  have all : ∀ (l : List Env), (∀ b ∈ frs l, b ∈ X.fs) → X.s₀.heap.FunFrames X.base l → s.heap.FunFrames X.base l := by
    intro l
    induction l with
    | nil => intro _ _; trivial
    | cons env r ih =>
      intro hs hl
      obtain ⟨hk, ⟨L, o, hf, hn, ho, hd⟩, hr⟩ := hl
      have hL : L ∈ X.fs := hs L (by unfold frs; rw [List.filterMap_cons, hf]; exact List.mem_cons_self)
      obtain ⟨sl, e⟩ := I.base.slot L o ho (I.ok.frf L hL) hL fun z => I.ok.exfs L z hL
      exact ⟨hk, ⟨L, _, hf, hn, e, hd⟩, ih (fun b hb => hs b (by unfold frs; rw [List.filterMap_cons, hf]; exact List.mem_cons_of_mem _ hb)) hr⟩
  exact all X.outer (fun _ hb => hb) I.ok.funs
theorem Inv.stack (I : Inv X pins σ H s) : s.heap.FunFrames X.base X.stack := by
  rcases I.ok.stk with e | ⟨e, hf⟩
  · rw [e]; exact I.funs
  · rw [e]
    obtain ⟨m, hn, _⟩ := I.loc
    refine .cons (by rw [I.ok.kind]; decide) hf hn ?_ I.funs
    exact Heap.get?_none_of_le (Nat.le_trans I.ok.bsz I.ok.above)
theorem Inv.stkSub (I : Inv X pins σ H s) : ∀ b ∈ frs X.stack, b ∈ X.env.locals :: X.fs := fun b hb => by
  rcases I.ok.stk with e | ⟨e, hf⟩
  · rw [e] at hb; exact List.mem_cons_of_mem _ hb
  · rw [e] at hb
    unfold frs at hb
    rw [List.filterMap_cons, hf] at hb
    exact hb
theorem Inv.stkFree (I : Inv X pins σ H s) : ∀ b ∈ frs X.stack, H b = none := fun b hb => by
  rcases List.mem_cons.mp (I.stkSub b hb) with e | hb
  · rw [e]; exact I.free
  · obtain ⟨_, o, ho, _⟩ := I.ok.funs.mem hb
    exact I.base.free b o ho (I.ok.frf b hb) fun z => I.ok.exfs b z hb
theorem Inv.step {g' : Array GenState} {t' : Nat} {d' : Drawn} {ch : List Addr} (I : Inv X pins σ H s)
    (hch : ∀ b ∈ ch, (b ∈ X.ex ∨ X.s₀.heap.objs.size ≤ b) ∧ b ≠ X.env.locals ∧ (∀ x c, X.env.cells.lookup x = some c → c ≠ b) ∧ ∀ p ∈ X.pn ++ pins, p.1 ≠ b)
    (keep : ∀ b o, b ≠ X.env.locals → b ∉ X.fs → b ∉ ch → s.heap.get? b = some o → H b = none → h'.get? b = some o)
    (slot : ∀ b o, b ≠ X.env.locals → b ∈ X.fs → b ∉ ch → s.heap.get? b = some o → H b = none → ∃ sl, h'.get? b = some { o with slots := sl }) (free : ∀ b o, b ∉ ch → s.heap.get? b = some o → H b = none → H' b = none)
    (there : ∀ b o, b ∉ ch → s.heap.get? b = some o → ∃ o', h'.get? b = some o')
    (tups : ∀ b xs, H b = some (.tup xs) → H' b = some (.tup xs)) (frzs : ∀ b o u, H b = some (.frz o u) → H' b = some (.frz o u)) (tbls : ∀ b ps, H b = some (.tbl ps) → ∃ more, H' b = some (.tbl (ps ++ more)))
    (ns : ∀ m, s.heap.Ns X.env.locals m → h'.Ns X.env.locals m) (hok : HOk X.prog X.w H' h') (hg : AllBare g') :
    Inv X pins σ H' { s with heap := h', gens := g', drawn := d', toks := t' } := by
  have neL : ∀ b o, X.s₀.heap.get? b = some o → b ≠ X.env.locals := fun b o e => Nat.ne_of_lt (Nat.lt_of_lt_of_le (Heap.lt_size e) I.ok.above)
  have neC : ∀ b o, X.s₀.heap.get? b = some o → b ∉ X.ex → b ∉ ch := fun b o e hx hb => by
    rcases (hch b hb).1 with z | z
    · exact hx z
    · exact absurd (Nat.lt_of_lt_of_le (Heap.lt_size e) z) (Nat.lt_irrefl _)
  have cellK : ∀ x c, X.env.cells.lookup x = some c → ∀ v, s.heap.IsCell c v → h'.IsCell c v := fun x c e v ⟨o, ho, hd⟩ => by
    have nch : c ∉ ch := fun z => (hch c z).2.2.1 x c e rfl
    by_cases hc : c ∈ X.fs
    · obtain ⟨sl, q⟩ := slot c o (I.cne x c e) hc nch ho (I.freeC x c e)
      exact ⟨_, q, hd⟩
    · exact ⟨o, keep c o (I.cne x c e) hc nch ho (I.freeC x c e), hd⟩
  refine ⟨I.ok, I.os, hg, ⟨fun b o e n hb hx => ?_, fun b o e n hb hx => ?_, fun b o e n hx => ?_, fun b o e hx => ?_, fun b xs e => tups b xs (I.base.tups b xs e), fun b o xs e => frzs b o xs (I.base.frzs b o xs e), fun b ps e => ?_⟩, ?_, fun x c e => ?_, ?_, fun x c e => ?_, fun p hp => ?_, hok, I.len⟩
  · exact keep b o (neL b o e) hb (neC b o e hx) (I.base.keep b o e n hb hx) (I.base.free b o e n hx)
  · obtain ⟨sl, e1⟩ := I.base.slot b o e n hb hx
    obtain ⟨sl', e2⟩ := slot b _ (neL b o e) hb (neC b o e hx) e1 (I.base.free b o e n hx)
    exact ⟨sl', e2⟩
  · obtain ⟨o', e1⟩ := I.base.there b o e hx
    exact free b o' (neC b o e hx) e1 (I.base.free b o e n hx)
  · obtain ⟨o', e1⟩ := I.base.there b o e hx
    exact there b o' (neC b o e hx) e1
  · obtain ⟨m1, e1⟩ := I.base.tbls b ps e
    obtain ⟨m2, e2⟩ := tbls b _ e1
    exact ⟨m1 ++ m2, by rw [e2, Array.append_assoc]⟩
  · obtain ⟨m, hn, hl⟩ := I.loc
    refine ⟨m, ns m hn, fun i x v e1 e2 e3 => ?_⟩
    obtain ⟨u, r, l⟩ := hl i x v e1 e2 e3
    refine ⟨u, r, ?_⟩
    rcases l with l | ⟨k, c, e, z⟩
    · exact .inl l
    · exact .inr ⟨k, c, e, cellK x c e _ z⟩
  · obtain ⟨v, z⟩ := I.cell x c e
    exact ⟨v, cellK x c e v z⟩
  · obtain ⟨m, ⟨o, _, _, ho, _⟩, _⟩ := I.loc
    exact free _ o (fun z => (hch _ z).2.1 rfl) ho I.free
  · obtain ⟨v, o, ho, hd⟩ := I.cell x c e
    exact free c o (fun z => (hch c z).2.2.1 x c e rfl) ho (I.freeC x c e)
  · obtain ⟨e, n, ne, nf, d⟩ := I.pin p hp
    have nch : p.1 ∉ ch := fun z => (hch p.1 z).2.2.2 p hp rfl
    exact ⟨keep p.1 p.2 ne nf nch e n, free p.1 p.2 nch e n, ne, nf, d⟩
theorem Inv.un {t' : Nat} (I : Inv X pins σ H s) (u : Un X.fs [] H H' s.heap h') (hok : HOk X.prog X.w H' h') : Inv X pins σ H' { s with heap := h', toks := t' } := by
  obtain ⟨m, ⟨o, es, ep, ho, r⟩, _⟩ := id I.loc
  obtain ⟨sl, hL⟩ := u.any ho I.free (by simp)
  exact I.step (g' := s.gens) (d' := s.drawn) (ch := []) (fun _ z => nomatch z) (fun b o _ hb _ e n => u.keep b o e n hb (by simp)) (fun b o _ hb _ e n => u.slot b o e n hb (by simp)) (fun b o _ e n => u.free b o e n (by simp)) (fun b o _ e => u.there b o e (by simp)) u.tups u.frzs u.tbls (fun m' hm => by
    obtain ⟨o', es', ep', ho', r'⟩ := hm
    rw [ho] at ho'; cases ho'
    exact ⟨_, es', ep', hL, r'⟩) hok I.bare
theorem Inv.call {g' : Array GenState} {t' : Nat} {d' : Drawn} {ch : List Addr} (I : Inv X pins σ H s) (u : Un (frs X.stack) ch H H' s.heap h') (hok : HOk X.prog X.w H' h') (hg : AllBare g')
    (hch : ∀ b ∈ ch, (b ∈ X.ex ∨ X.s₀.heap.objs.size ≤ b) ∧ b ≠ X.env.locals ∧ (∀ x c, X.env.cells.lookup x = some c → c ≠ b) ∧ ∀ p ∈ X.pn ++ pins, p.1 ≠ b) :
    Inv X pins σ H' { s with heap := h', gens := g', drawn := d', toks := t' } := by
  obtain ⟨m, ⟨o, es, ep, ho, r⟩, _⟩ := id I.loc
  obtain ⟨sl, hL⟩ := u.any ho I.free fun z => (hch _ z).2.1 rfl
  exact I.step (ch := ch) hch (fun b o hL hb hc e n => u.keep b o e n (fun z => (List.mem_cons.mp (I.stkSub b z)).elim hL hb) hc) (fun b o _ _ hc e n => u.any e n hc) (fun b o hc e n => u.free b o e n hc) (fun b o hc e => u.there b o e hc) u.tups u.frzs u.tbls (fun m' hm => by
    obtain ⟨o', es', ep', ho', r'⟩ := hm
    rw [ho] at ho'; cases ho'
    exact ⟨_, es', ep', hL, r'⟩) hok hg
theorem Inv.turned {t' : Nat} {it : Addr} (I : Inv X pins σ H s) (k : ∀ b o, b ≠ it → s.heap.get? b = some o → h'.get? b = some o) (hn : H it = none) (hL : it ≠ X.env.locals)
    (h1 : it ∈ X.ex ∨ X.s₀.heap.objs.size ≤ it) (h2 : ∀ x c, X.env.cells.lookup x = some c → c ≠ it) (h3 : ∀ p ∈ X.pn ++ pins, p.1 ≠ it) : Inv X pins σ H { s with heap := h', toks := t' } := by
  have nit : ∀ b u, H b = some u → b ≠ it := fun b u e z => by rw [z, hn] at e; cases e
  refine I.step (g' := s.gens) (d' := s.drawn) (ch := [it]) (fun b hb => ?_) (fun b o _ _ hc e _ => k b o (fun z => hc (by simp [z])) e) (fun b o _ _ hc e _ => ⟨o.slots, k b o (fun z => hc (by simp [z])) e⟩) (fun _ _ _ _ n => n)
    (fun b o hc e => ⟨o, k b o (fun z => hc (by simp [z])) e⟩) (fun _ _ e => e) (fun _ _ _ e => e) (fun b ps e => ⟨#[], by rw [e]; simp⟩) (fun m hm => ?_) (fun b u e => ?_) I.bare
  · have e : b = it := by simpa using hb
    subst e
    exact ⟨h1, hL, h2, h3⟩
  · obtain ⟨o, es, ep, ho, r⟩ := hm
    exact ⟨o, es, ep, k _ o (Ne.symm hL) ho, r⟩
  · refine (I.hok b u e).stay (fun c v hc q => k c v ?_ q) (fun _ q => q) fun _ _ q => q
    rcases hc with z | z
    · rw [z]; exact nit b u e
    · exact nit c _ z
theorem Inv.tok (I : Inv X pins σ H s) (t : Nat) : Inv X pins σ H { s with toks := t } := I.un (h' := s.heap) (t' := t) Un.refl I.hok
theorem Inv.kept {t' : Nat} (I : Inv X pins σ H s) (k : ∀ b u, s.heap.get? b = some u → h'.get? b = some u) : Inv X pins σ H { s with heap := h', toks := t' } := I.un (Un.kept k) (I.hok.kept k)
theorem Inv.laid {a : Addr} {o : HO} {t' : Nat} (I : Inv X pins σ H s) (k : ∀ b u, s.heap.get? b = some u → h'.get? b = some u) (hp : s.heap.objs.size ≤ a) (new : ObjOk X.prog X.w (upd H a o) h' a o) :
    Inv X pins σ (upd H a o) { s with heap := h', toks := t' } := I.un (Un.laid k hp (I.hok.fresh hp)) (I.hok.laid k hp new)
theorem Inv.write {x e : Addr} {o : HO} {t' : Nat} (I : Inv X pins σ H s) (mu : Mut (H x)) (he : e = x ∨ H e = some (.own x)) (k : ∀ b u, b ≠ e → s.heap.get? b = some u → h'.get? b = some u) (heo : ∃ u, h'.get? e = some u)
    (new : ObjOk X.prog X.w (upd H x o) h' x o) : Inv X pins σ (upd H x o) { s with heap := h', toks := t' } := I.un (Un.write mu he k heo) (I.hok.write mu he k heo new)
theorem Inv.pins_of {pins' : List (Addr × Obj)} (I : Inv X pins σ H s) (h : ∀ p ∈ pins', s.heap.get? p.1 = some p.2 ∧ H p.1 = none ∧ p.1 ≠ X.env.locals ∧ p.1 ∉ X.fs ∧ ∀ v, p.2.data ≠ .cell v) : Inv X pins' σ H s :=
  ⟨I.ok, I.os, I.bare, I.base, I.loc, I.cell, I.free, I.freeC, fun p hp => (List.mem_append.mp hp).elim (fun z => I.pin p (List.mem_append_left _ z)) (h p), I.hok, I.len⟩
theorem nodup_ix {N : List Str} (hN : N.Nodup) {i j : Nat} {x : Str} (a : N[i]? = some x) (b : N[j]? = some x) : i = j := by
  obtain ⟨h1, e1⟩ := List.getElem?_eq_some_iff.mp a
  obtain ⟨h2, e2⟩ := List.getElem?_eq_some_iff.mp b
  exact (List.getElem_inj hN).mp (e1.trans e2.symm)
theorem store_ok2 {M : Model} {A : Around} {E : Value → Shared → Prop} {i : Nat} {x : Str} {v : V} {u : Value} {Q : Unit → Shared → Prop} (I : Inv X pins σ H s) (hN : X.N.Nodup) (hi : X.N[i]? = some x) (hx : Loc X.env.scope x) (r : RelV v u)
    (h : ∀ s', Inv X pins (σ.set i (some v)) H s' → (∃ a, Heap.SameBut a s.heap s'.heap ∧ (a = X.env.locals ∨ X.env.cells.lookup x = some a)) → Q () s') (hf : X.fn x = true ∨ X.env.scope.names.lookup x = some .local := by first | exact .inl rfl | exact .inr rfl | assumption) : wpAny M A (storeName X.env x u) Q E s := by
  obtain ⟨m, hn, hl⟩ := id I.loc
  have hcls : (X.env.scope.kind == .class || (X.env.scope.kind == .module && X.env.locals != X.env.globals)) = false := by rw [I.ok.kind]; rfl
  have hiσ : i < σ.length := by rw [I.len]; exact (List.getElem?_eq_some_iff.mp hi).1
  have cne := I.cne
  have tracked : ∀ {a : Addr} {h' : Heap}, (∃ o, s.heap.get? a = some o ∧ H a = none) → Heap.SameBut a s.heap h' → HOk X.prog X.w H h' := fun {a h'} ha hs b ob e => by
    obtain ⟨_, _, hfree⟩ := ha
    refine (I.hok b ob e).stay (fun c w' hc q => (hs.2 c ?_).trans q) (fun _ q => q) fun _ _ q => q
    rintro rfl
    rcases hc with rfl | hc
    · rw [hfree] at e; cases e
    · rw [hfree] at hc; cases hc
  rcases hx with hk | hk
  · refine wpAny_storeName_local hk hn (fun h' hn' hs => ?_) hcls
    obtain ⟨oL, _, _, hoL, _⟩ := id hn
    refine h _ ⟨I.ok, I.os, I.bare, ⟨fun b o e n hb hx => ?_, fun b o e n hb hx => ?_, I.base.free, fun b o e hx => ?_, I.base.tups, I.base.frzs, I.base.tbls⟩, ⟨_, hn', fun j y v' e1 e2 e3 => ?_⟩, fun y c e => ?_, I.free, I.freeC, fun p hp => ?_, tracked ⟨oL, hoL, I.free⟩ hs, by simpa using I.len⟩ ⟨_, hs, .inl rfl⟩
    · exact (hs.2 b (Nat.ne_of_lt (Nat.lt_of_lt_of_le (Heap.lt_size e) I.ok.above))).trans (I.base.keep b o e n hb hx)
    · obtain ⟨sl, e1⟩ := I.base.slot b o e n hb hx
      exact ⟨sl, (hs.2 b (Nat.ne_of_lt (Nat.lt_of_lt_of_le (Heap.lt_size e) I.ok.above))).trans e1⟩
    · obtain ⟨o', e1⟩ := I.base.there b o e hx
      exact ⟨o', (hs.2 b (Nat.ne_of_lt (Nat.lt_of_lt_of_le (Heap.lt_size e) I.ok.above))).trans e1⟩
    · by_cases hj : j = i
      · subst hj
        rw [hi] at e1; cases e1
        rw [List.getElem?_set_self hiσ] at e2
        cases e2
        exact ⟨u, r, .inl ⟨hk, by simp⟩⟩
      · rw [List.getElem?_set_ne (Ne.symm hj)] at e2
        obtain ⟨u', r', q⟩ := hl j y v' e1 e2 e3
        refine ⟨u', r', ?_⟩
        rcases q with ⟨k, e⟩ | ⟨k, c, e, z⟩
        · refine .inl ⟨k, ?_⟩
          have : y ≠ x := fun e => hj (nodup_ix hN e1 (e ▸ hi))
          simp [this, e]
        · exact .inr ⟨k, c, e, z.sameBut hs (cne y c e)⟩
    · obtain ⟨w', z⟩ := I.cell y c e
      exact ⟨w', z.sameBut hs (cne y c e)⟩
    · obtain ⟨e, n, ne, nf, d⟩ := I.pin p hp
      exact ⟨(hs.2 p.1 ne).trans e, n, ne, nf, d⟩
  · have hfn : X.fn x = true := by
      rcases hf with z | z
      · exact z
      · rw [z] at hk; cases hk
    obtain ⟨c, hc⟩ := I.ok.has x (.inl hk)
    obtain ⟨w', z⟩ := I.cell x c hc
    refine wpAny_storeName_cell I.ok.kind hk hc z (fun h' hc' hs => ?_)
    obtain ⟨oc, hoc, hocd⟩ := id z
    refine h { s with heap := h' } ⟨I.ok, I.os, I.bare, ⟨fun b o e n hb hx => ?_, fun b o e n hb hx => ?_, I.base.free, fun b o e hx => ?_, I.base.tups, I.base.frzs, I.base.tbls⟩, ⟨m, hn.sameBut hs (Ne.symm (cne x c hc)), fun j y v' e1 e2 e3 => ?_⟩, fun y c' e => ?_, I.free, I.freeC, fun p hp => ?_, tracked ⟨oc, hoc, I.freeC x c hc⟩ hs, by simpa using I.len⟩ ⟨c, hs, .inr hc⟩
    · exact (hs.2 b (Nat.ne_of_lt (Nat.lt_of_lt_of_le (Heap.lt_size e) (I.ok.cab x c hfn hc)))).trans (I.base.keep b o e n hb hx)
    · obtain ⟨sl, e1⟩ := I.base.slot b o e n hb hx
      exact ⟨sl, (hs.2 b (Nat.ne_of_lt (Nat.lt_of_lt_of_le (Heap.lt_size e) (I.ok.cab x c hfn hc)))).trans e1⟩
    · obtain ⟨o', e1⟩ := I.base.there b o e hx
      exact ⟨o', (hs.2 b (Nat.ne_of_lt (Nat.lt_of_lt_of_le (Heap.lt_size e) (I.ok.cab x c hfn hc)))).trans e1⟩
    · by_cases hj : j = i
      · subst hj
        rw [hi] at e1; cases e1
        rw [List.getElem?_set_self hiσ] at e2
        cases e2
        exact ⟨u, r, .inr ⟨.inl hk, c, hc, hc'⟩⟩
      · rw [List.getElem?_set_ne (Ne.symm hj)] at e2
        obtain ⟨u', r', q⟩ := hl j y v' e1 e2 e3
        refine ⟨u', r', ?_⟩
        rcases q with q | ⟨k, c', e, z'⟩
        · exact .inl q
        · refine .inr ⟨k, c', e, z'.sameBut hs ?_⟩
          rintro rfl
          exact hj (nodup_ix hN e1 (I.ok.inj _ _ _ e hc ▸ hi))
    · by_cases hcc : c' = c
      · subst hcc; exact ⟨_, hc'⟩
      · obtain ⟨w2, z2⟩ := I.cell y c' e
        exact ⟨w2, z2.sameBut hs hcc⟩
    · obtain ⟨e, n, ne, nf, d⟩ := I.pin p hp
      refine ⟨(hs.2 p.1 ?_).trans e, n, ne, nf, d⟩
      intro q
      rw [q, hoc] at e
      have q' : oc = p.2 := Option.some.inj e
      exact d w' (by rw [← q']; exact hocd)
theorem store_ok {M : Model} {A : Around} {E : Value → Shared → Prop} {i : Nat} {x : Str} {v : V} {u : Value} {Q : Unit → Shared → Prop} (I : Inv X pins σ H s) (hN : X.N.Nodup) (hi : X.N[i]? = some x) (hx : Loc X.env.scope x) (r : RelV v u)
    (h : ∀ s', Inv X pins (σ.set i (some v)) H s' → Q () s') (hf : X.fn x = true ∨ X.env.scope.names.lookup x = some .local := by first | exact .inl rfl | exact .inr rfl | assumption) : wpAny M A (storeName X.env x u) Q E s :=
  store_ok2 I hN hi hx r (fun s' I' _ => h s' I') hf
theorem Inv.call' {s' : Shared} {ch : List Addr} (I : Inv X pins σ H s) (ho : s'.os = s.os) (u : Un (frs X.stack) ch H H' s.heap s'.heap) (hok : HOk X.prog X.w H' s'.heap) (hg : AllBare s'.gens)
    (hch : ∀ b ∈ ch, (b ∈ X.ex ∨ X.s₀.heap.objs.size ≤ b) ∧ b ≠ X.env.locals ∧ (∀ x c, X.env.cells.lookup x = some c → c ≠ b) ∧ ∀ p ∈ X.pn ++ pins, p.1 ≠ b) : Inv X pins σ H' s' := by
  obtain ⟨h', g', d', t', o'⟩ := s'
  have e : o' = s.os := ho
  subst e
  exact I.call (g' := g') (t' := t') (d' := d') u hok hg hch
end
abbrev XK := Value → Option Addr → Hp → Prop
abbrev St := List (Option V)
abbrev VK := V → Hp → Prop
abbrev TE := St → Hp → VK → Prop
abbrev TT := St → Hp → (Bool → Hp → Prop) → Prop
abbrev TA := St → Hp → (List V → Hp → Prop) → Prop
structure Ends where
  nx : St → Hp → Prop
  rt : VK
  bk : St → Hp → Prop := fun _ _ => False
  ct : St → Hp → Prop := fun _ _ => False
abbrev TS := Ends → St → Hp → Prop
def EP (X : Cx) (pins : List (Addr × Obj)) (σ : St) (Q : VK) (u : Value) (s' : Shared) : Prop := ∃ v H', Inv X pins σ H' s' ∧ RelV v u ∧ Q v H'
def TP (X : Cx) (pins : List (Addr × Obj)) (σ : St) (Q : Bool → Hp → Prop) (b : Bool) (s' : Shared) : Prop := ∃ H', Inv X pins σ H' s' ∧ Q b H'
def AP (X : Cx) (pins : List (Addr × Obj)) (σ : St) (Q : List V → Hp → Prop) (us : List Value) (s' : Shared) : Prop := ∃ vs H', Inv X pins σ H' s' ∧ Vals vs us ∧ Q vs H'
def SP (X : Cx) (pins : List (Addr × Obj)) (D : Ends) (f : Flow) (s' : Shared) : Prop :=
  match f with
  | .next => ∃ σ' H', Inv X pins σ' H' s' ∧ D.nx σ' H'
  | .brk => ∃ σ' H', Inv X pins σ' H' s' ∧ D.bk σ' H'
  | .cont => ∃ σ' H', Inv X pins σ' H' s' ∧ D.ct σ' H'
  | .ret u => ∃ v σ' H', Inv X pins σ' H' s' ∧ RelV v u ∧ D.rt v H'
def PE (X : Cx) (e : Expr) (t : TE) : Prop :=
  ∀ (pins : List (Addr × Obj)) (s : Shared) (σ : St) (H : Hp) (Q : VK), Inv X pins σ H s → t σ H Q → wpAny (model X.prog X.w) X.A (eval e X.env) (EP X pins σ Q) X.xe s
def PT (X : Cx) (e : Expr) (t : TT) : Prop :=
  ∀ (pins : List (Addr × Obj)) (s : Shared) (σ : St) (H : Hp) (Q : Bool → Hp → Prop), Inv X pins σ H s → t σ H Q → wpAny (model X.prog X.w) X.A (isTrue e X.env (eval e X.env)) (TP X pins σ Q) X.xe s
def PW (X : Cx) (e : Expr) (t : TT) : Prop :=
  ∀ (whole : Sem Value) (pins : List (Addr × Obj)) (s : Shared) (σ : St) (H : Hp) (Q : Bool → Hp → Prop), Inv X pins σ H s → t σ H Q → wpAny (model X.prog X.w) X.A (isTrue e X.env whole) (TP X pins σ Q) X.xe s
theorem PW.pt {X : Cx} {e : Expr} {t : TT} (h : PW X e t) : PT X e t := h _
def PA (X : Cx) (es : List Expr) (t : TA) : Prop :=
  ∀ (pos : Pos) (pins : List (Addr × Obj)) (s : Shared) (σ : St) (H : Hp) (Q : List V → Hp → Prop), Inv X pins σ H s → t σ H Q → wpAny (model X.prog X.w) X.A (spliced (backTo pos (starEach es X.env))) (AP X pins σ Q) X.xe s
def PS (X : Cx) (st : Stmt) (t : TS) : Prop :=
  ∀ (pins : List (Addr × Obj)) (s : Shared) (σ : St) (H : Hp) (D : Ends), Inv X pins σ H s → t D σ H → wpAny (model X.prog X.w) X.A (exec st X.env) (SP X pins D) X.xe s
def PSs (X : Cx) (st : List Stmt) (t : TS) : Prop :=
  ∀ (pins : List (Addr × Obj)) (s : Shared) (σ : St) (H : Hp) (D : Ends), Inv X pins σ H s → t D σ H → wpAny (model X.prog X.w) X.A (execs st X.env) (SP X pins D) X.xe s
theorem thn {α : Type} {t : Sem α} {Q Q' : α → Shared → Prop} {M : Model} {A : Around} {E : Value → Shared → Prop} {s : Shared} (h : wpAny M A t Q E s) (hQ : ∀ a s, Q a s → Q' a s) : wpAny M A t Q' E s := wpAny_mono h hQ fun _ _ x => x
end L2
namespace L2
open PySem PySem.Spec PyProof.Rows
section
variable {X : Cx}
def tVar (i : Nat) : TE := fun σ H Q => ∃ v, σ[i]? = some (some v) ∧ Q v H
def tC (v : V) : TE := fun _ H Q => Q v H
theorem pe_var {i : Nat} {x : Str} {pos : Pos} (hN : X.N[i]? = some x) (hv : Vis X.env.scope x) (hd : (x == ("__debug__" : Str)) = false := by decide) (hcd : (x == ("__classdict__" : Str)) = false := by decide) : PE X (.Name x pos) (tVar i) := by
  intro pins s σ H Q I h
  obtain ⟨v, e, h⟩ := h
  obtain ⟨m, hn, hl⟩ := I.loc
  obtain ⟨u, r, l⟩ := hl i x v hN e hv
  have fin : EP X pins σ Q u s := ⟨v, H, I, r, h⟩
  rcases l with ⟨hk, hm⟩ | ⟨hk, c, hc, hcell⟩
  · exact wpAny_Name (wpAny_loadName_local I.ok.kind hk hn hm fin) hd
  · rcases hk with hk | hk
    · exact wpAny_Name (wpAny_loadName_cell I.ok.kind hk hc hcell fin) hd
    · exact wpAny_Name (wpAny_loadName_free I.ok.kind hk hc hcell fin hcd) hd
theorem pe_int {i j pos} : PE X (.Constant (.int i) j pos) (tC (.int i)) := fun _ _ _ H _ I h => wpAny_Constant_int ⟨.int i, H, I.tok _, ⟨_, rfl⟩, h⟩
theorem pe_bl {b j pos} : PE X (.Constant (.bool b) j pos) (tC (.bl b)) := fun _ _ _ H _ I h => Constant_bool ⟨.bl b, H, I, rfl, h⟩
theorem pe_non {j pos} : PE X (.Constant .none j pos) (tC .non) := fun _ _ _ H _ I h => Constant_none ⟨.non, H, I, rfl, h⟩
theorem pe_str {x j pos} : PE X (.Constant (.str x) j pos) (tC (.str x)) := fun _ _ _ H _ I h => Calls.Constant_str ⟨.str x, H, I.tok _, ⟨_, rfl⟩, h⟩
def Gl (X : Cx) (x : Str) : Prop := X.env.kindOf x = some .globalImplicit
theorem ld_glob {E : Value → Shared → Prop} {pins : List (Addr × Obj)} {s : Shared} {σ : St} {H : Hp} {x : Str} {u : Value} {pos : Pos} {Q : Value → Shared → Prop} (I : Inv X pins σ H s) (hg : Gl X x) (hm : X.mg x = some u) (h : Q u s)
    (hd : (x == ("__debug__" : Str)) = false := by decide) : wpAny (model X.prog X.w) X.A (eval (.Name x pos) X.env) Q E s :=
  Calls.Name_function_global I.ok.kind hg (Calls.loadGlobal_global (by rw [I.ok.glob]; exact I.mod.glob.keeps I.bk) hm h) hd
theorem ld_blt {E : Value → Shared → Prop} {pins : List (Addr × Obj)} {s : Shared} {σ : St} {H : Hp} {x : Str} {u : Value} {pos : Pos} {Q : Value → Shared → Prop} (I : Inv X pins σ H s) (hg : Gl X x) (hm : X.mg x = none) (hv : bootBuiltins x = some u) (h : Q u s)
    (hn : x ≠ "__name__" := by decide) (hd : (x == ("__debug__" : Str)) = false := by decide) : wpAny (model X.prog X.w) X.A (eval (.Name x pos) X.env) Q E s := by
  obtain ⟨mb, h1, h2⟩ := I.mod.blt
  exact Calls.Name_function_global I.ok.kind hg (Calls.loadGlobal_builtin (by rw [I.ok.glob]; exact I.mod.glob.keeps I.bk) hm (by rw [I.ok.blt]; exact h1.keeps I.bk) ((h2 x hn).trans hv) h) hd
theorem pe_glob {x : Str} {v : V} {u : Value} {pos : Pos} (hg : Gl X x) (hm : X.mg x = some u) (r : RelV v u) (hd : (x == ("__debug__" : Str)) = false := by decide) : PE X (.Name x pos) (tC v) :=
  fun _ _ _ H _ I h => ld_glob I hg hm ⟨v, H, I, r, h⟩ hd
theorem pe_bltn {x : Str} {v : V} {u : Value} {pos : Pos} (hg : Gl X x) (hm : X.mg x = none) (hv : bootBuiltins x = some u) (r : RelV v u) (hn : x ≠ "__name__" := by decide) (hd : (x == ("__debug__" : Str)) = false := by decide) : PE X (.Name x pos) (tC v) :=
  fun _ _ _ H _ I h => ld_blt I hg hm hv ⟨v, H, I, r, h⟩ hn hd
variable {a b : Expr} {ta tb : TE} {pos : Pos}
def PC (X : Cx) (op : CmpOp) (a b : Expr) (t : TE) : Prop :=
  ∀ (pins : List (Addr × Obj)) (s : Shared) (σ : St) (H : Hp) (Q : VK), Inv X pins σ H s → t σ H Q →
    wpAny (model X.prog X.w) X.A (eval a X.env) (fun v s₁ => wpAny (model X.prog X.w) X.A (eval b X.env) (fun u s₂ => wpAny (model X.prog X.w) X.A (compareOp op v u) (EP X pins σ Q) X.xe s₂) X.xe s₁) X.xe s
def tB (t : TE) : TT := fun σ H Q => t σ H fun x H1 => ∃ c, x = .bl c ∧ Q c H1
theorem pt_cmp {op : CmpOp} {t : TE} (h : PC X op a b t) (h1 : behindInMarks op b = false := by first | exact nobehind _ (by decide) (by decide) | rfl) : PT X (.Compare a [op] [b] pos) (tB t) := by
  intro pins s σ H Q I hw
  refine wpAny_isTrue_Compare1 (thn (h pins s σ H _ I hw) fun v s1 h1 => thn h1 fun u s2 h2 => thn h2 fun c s3 ⟨x, H1, I1, r1, q1⟩ => ?_) h1
  obtain ⟨d, rfl, q⟩ := q1
  cases r1
  exact wpAny_truthy_bool ⟨H1, I1, q⟩
theorem pt_val {e : Expr} {t : TE} (h : PE X e t) (he : ∀ whole, isTrue e X.env whole = (do let v ← whole; standAt e.pos; holding [v] (truthy v)) := by intro _; rfl) : PT X e (tB t) := by
  intro pins s σ H Q I hw
  refine isTrue_plain (thn (h pins s σ H _ I hw) fun v s1 ⟨x, H1, I1, r1, q1⟩ => ?_) (he _)
  obtain ⟨d, rfl, q⟩ := q1
  cases r1
  exact wpAny_truthy_bool ⟨H1, I1, q⟩
variable {tA tB' : TT} {rest : List Expr}
def tAnd (t u : TT) : TT := fun σ H Q => t σ H fun c H1 => if c = true then u σ H1 Q else Q false H1
def tOr (t u : TT) : TT := fun σ H Q => t σ H fun c H1 => if c = true then Q true H1 else u σ H1 Q
def tNot (t : TT) : TT := fun σ H Q => t σ H fun c H1 => Q (!c) H1
theorem pw_and1 (ha : PT X a tA) : PW X (.BoolOp .And [a] pos) tA := by
  intro wh pins s σ H Q I h
  refine isTrue_and (thn (ha pins s σ H Q I h) fun c s1 e => ?_)
  cases c with
  | true => exact isTrue_and_nil e
  | false => exact e
theorem pw_or1 (ha : PT X a tA) : PW X (.BoolOp .Or [a] pos) tA := by
  intro wh pins s σ H Q I h
  refine isTrue_or (thn (ha pins s σ H Q I h) fun c s1 e => ?_)
  cases c with
  | false => exact isTrue_or_nil e
  | true => exact e
theorem pw_and (ha : PT X a tA) (hb : PW X (.BoolOp .And (b :: rest) pos) tB') : PW X (.BoolOp .And (a :: b :: rest) pos) (tAnd tA tB') := by
  intro wh pins s σ H Q I h
  refine isTrue_and (thn (ha pins s σ H _ I h) fun c s1 ⟨H1, I1, q1⟩ => ?_)
  cases c with
  | true => exact hb wh pins s1 σ H1 Q I1 q1
  | false => exact ⟨H1, I1, q1⟩
theorem pw_or (ha : PT X a tA) (hb : PW X (.BoolOp .Or (b :: rest) pos) tB') : PW X (.BoolOp .Or (a :: b :: rest) pos) (tOr tA tB') := by
  intro wh pins s σ H Q I h
  refine isTrue_or (thn (ha pins s σ H _ I h) fun c s1 ⟨H1, I1, q1⟩ => ?_)
  cases c with
  | true => exact ⟨H1, I1, q1⟩
  | false => exact hb wh pins s1 σ H1 Q I1 q1
theorem pt_not (ha : PT X a tA) : PT X (.UnaryOp .Not a pos) (tNot tA) := by
  intro pins s σ H Q I h
  exact isTrue_not (ha pins s σ H (fun c H1 => Q (!c) H1) I h)
def tAndV (ta tb : TE) : TE := fun σ H Q => ta σ H fun x H1 => ∃ c, x = .bl c ∧ if c = true then tb σ H1 Q else Q (.bl false) H1
def tOrV (ta tb : TE) : TE := fun σ H Q => ta σ H fun x H1 => ∃ c, x = .bl c ∧ if c = true then Q (.bl true) H1 else tb σ H1 Q
def tNotV (ta : TE) : TE := fun σ H Q => ta σ H fun x H1 => ∃ c, x = .bl c ∧ Q (.bl (!c)) H1
theorem pe_one {op} {t : TE} (h : PE X a t) : PE X (.BoolOp op [a] pos) t := fun pins s σ H Q I hw => BoolOp_one (h pins s σ H Q I hw)
theorem pe_and (ha : PE X a ta) (hb : PE X (.BoolOp .And (b :: rest) pos) tb) : PE X (.BoolOp .And (a :: b :: rest) pos) (tAndV ta tb) := by
  intro pins s σ H Q I h
  refine BoolOp_and (thn (ha pins s σ H _ I h) fun v s1 ⟨x, H1, I1, r1, q1⟩ => ?_)
  obtain ⟨c, rfl, q1⟩ := q1
  cases r1
  refine wpAny_truthy_bool ?_
  cases c with
  | true => exact hb pins s1 σ H1 Q I1 q1
  | false => exact ⟨.bl false, H1, I1, rfl, q1⟩
theorem pe_or (ha : PE X a ta) (hb : PE X (.BoolOp .Or (b :: rest) pos) tb) : PE X (.BoolOp .Or (a :: b :: rest) pos) (tOrV ta tb) := by
  intro pins s σ H Q I h
  refine BoolOp_or (thn (ha pins s σ H _ I h) fun v s1 ⟨x, H1, I1, r1, q1⟩ => ?_)
  obtain ⟨c, rfl, q1⟩ := q1
  cases r1
  refine wpAny_truthy_bool ?_
  cases c with
  | false => exact hb pins s1 σ H1 Q I1 q1
  | true => exact ⟨.bl true, H1, I1, rfl, q1⟩
theorem pe_not (ha : PE X a ta) : PE X (.UnaryOp .Not a pos) (tNotV ta) := by
  intro pins s σ H Q I h
  refine UnaryOp_ (thn (ha pins s σ H _ I h) fun v s1 ⟨x, H1, I1, r1, q1⟩ => ?_)
  obtain ⟨c, rfl, q1⟩ := q1
  cases r1
  exact not_of (wpAny_truthy_bool ⟨.bl (!c), H1, I1, rfl, q1⟩)
def tIf (t : TT) (ta tb : TE) : TE := fun σ H Q => t σ H fun c H1 => if c = true then ta σ H1 Q else tb σ H1 Q
theorem pe_ifExp {c : Expr} (hc : PT X c tA) (ha : PE X a ta) (hb : PE X b tb) : PE X (.IfExp c a b pos) (tIf tA ta tb) := by
  intro pins s σ H Q I h
  refine wpAny_IfExp (thn (hc pins s σ H _ I h) fun d s1 ⟨H1, I1, q1⟩ => ?_)
  cases d with
  | true => exact ha pins s1 σ H1 Q I1 q1
  | false => exact hb pins s1 σ H1 Q I1 q1
end
end L2
namespace L2
open PySem PySem.Spec PyProof.Rows
def SqL (K : PySem.W.Frag) (H : Hp) (a : Addr) (xs : List V) : Prop :=
  Rd H a (.lst xs) ∨
    ∃ (o : Obj) (its : Array Value) (n : Nat), K.lookup a = some o ∧ o.cls = .type "list" ∧ o.dict = none ∧ o.data = .seq its n ∧ its.size ≤ sizeLine ∧ Vals xs its.toList
def SqT (K : PySem.W.Frag) (H : Hp) (a : Addr) (xs : List V) : Prop :=
  Rd H a (.tup xs) ∨
    ∃ (o : Obj) (its : Array Value) (n : Nat), K.lookup a = some o ∧ o.cls = .type "tuple" ∧ o.dict = none ∧ o.data = .seq its n ∧ its.size ≤ sizeLine ∧ Vals xs its.toList
def absV : Value → Option V
  | .none => some .non
  | .bool b => some (.bl b)
  | .int i _ => some (.int i)
  | .str x _ => some (.str x)
  | .bytes b _ => some (.byt b)
  | .float b _ => some (.flt b)
  | .ref a => some (.ref a)
  | .type n => some (.ty n)
  | _ => none
theorem RelV.abs {x : V} {u : Value} (r : RelV x u) : absV u = some x := by
  cases x with
  | non => cases r; rfl
  | bl _ => cases r; rfl
  | int _ => obtain ⟨t, rfl⟩ := r; rfl
  | str _ => obtain ⟨t, rfl⟩ := r; rfl
  | byt _ => obtain ⟨t, rfl⟩ := r; rfl
  | flt _ => obtain ⟨t, rfl⟩ := r; rfl
  | ref _ => cases r; rfl
  | ty _ => cases r; rfl
theorem RelV.inj {x y : V} {u : Value} (r : RelV x u) (q : RelV y u) : x = y := Option.some.inj (r.abs.symm.trans q.abs)
theorem Vals.inj : ∀ {xs ys : List V} {us : List Value}, Vals xs us → Vals ys us → xs = ys
  | _, _, _, .nil, .nil => rfl
  | _, _, _, .cons r t, .cons r' t' => by rw [r.inj r', Vals.inj t t']
section
variable {X : Cx} {pins : List (Addr × Obj)} {σ : St} {H : Hp} {s : Shared} {a : Addr} {xs ys : List V}
theorem SqL.of {K : PySem.W.Frag} (h : H a = some (.lst xs)) : SqL K H a xs := .inl (.inl h)
theorem SqT.of {K : PySem.W.Frag} (h : H a = some (.tup xs)) : SqT K H a xs := .inl (.inl h)
theorem Inv.list (I : Inv X pins σ H s) (h : SqL X.K H a xs) : ∃ its : List Value, Vals xs its ∧ PlainL s.heap a its.toArray ∧ xs.length ≤ sizeLine := by
  rcases h with h | ⟨o, its, n, hk, hc, hd, hs, hz, r⟩
  · obtain ⟨z, its, n, r, e⟩ := h.ok I.hok
    exact ⟨its, r, ⟨_, n, e, rfl, rfl, rfl⟩, z⟩
  · refine ⟨its.toList, r, ⟨o, n, I.kIn a o hk, hc, hd, by simpa using hs⟩, ?_⟩
    have e := r.length
    simp only [Array.length_toList] at e
    omega
theorem Inv.tuple (I : Inv X pins σ H s) (h : SqT X.K H a xs) : ∃ its : List Value, Vals xs its ∧ IsTup s.heap a its.toArray ∧ xs.length ≤ sizeLine := by
  rcases h with h | ⟨o, its, n, hk, hc, hd, hs, hz, r⟩
  · obtain ⟨z, its, r, p⟩ := h.ok I.hok
    exact ⟨its, r, p.1, z⟩
  · refine ⟨its.toList, r, ⟨o, I.kIn a o hk, hc, n, by simpa using hs⟩, ?_⟩
    have e := r.length
    simp only [Array.length_toList] at e
    omega
theorem Inv.tupN (I : Inv X pins σ H s) (h : SqT X.K H a xs) : ∃ its : List Value, Vals xs its ∧ IsTN s.heap a its.toArray ∧ xs.length ≤ sizeLine := by
  rcases h with h | ⟨o, its, n, hk, hc, hd, hs, hz, r⟩
  · obtain ⟨z, its, r, p⟩ := h.ok I.hok
    exact ⟨its, r, p, z⟩
  · refine ⟨its.toList, r, .of (I.kIn a o hk) hd ⟨o, I.kIn a o hk, hc, n, by simpa using hs⟩, ?_⟩
    have e := r.length
    simp only [Array.length_toList] at e
    omega
theorem Inv.list_inj (I : Inv X pins σ H s) (h : SqL X.K H a xs) (h' : SqL X.K H a ys) : xs = ys := by
  obtain ⟨its, r, ⟨o, n, e, _, _, d⟩, _⟩ := I.list h
  obtain ⟨its', r', ⟨o', n', e', _, _, d'⟩, _⟩ := I.list h'
  rw [e] at e'; cases e'
  rw [d] at d'
  injection d' with d1 _
  have : its = its' := by simpa using congrArg Array.toList d1
  subst this
  exact r.inj r'
theorem Inv.tuple_inj (I : Inv X pins σ H s) (h : SqT X.K H a xs) (h' : SqT X.K H a ys) : xs = ys := by
  obtain ⟨its, r, ⟨o, e, _, n, d⟩, _⟩ := I.tuple h
  obtain ⟨its', r', ⟨o', e', _, n', d'⟩, _⟩ := I.tuple h'
  rw [e] at e'; cases e'
  rw [d] at d'
  injection d' with d1 _
  have : its = its' := by simpa using congrArg Array.toList d1
  subst this
  exact r.inj r'
end
abbrev Cx.wish (X : Cx) (E : Value → Shared → Prop) : Cx := { X with xe := E }
abbrev Cx.nox (X : Cx) : Cx := X.wish fun _ _ => False
theorem Cx.Ok.wish {X : Cx} (ok : X.Ok) (E : Value → Shared → Prop) : (X.wish E).Ok :=
  ⟨ok.mod, ok.kind, ok.glob, ok.blt, ok.above, ok.inj, ok.has, ok.cab, ok.hd, ok.frames, ok.stk, ok.exf, ok.bs, ok.bsz, ok.noex, ok.exfs, ok.funs, ok.frf⟩
theorem Cx.Ok.unwish {X : Cx} {E : Value → Shared → Prop} (ok : (X.wish E).Ok) : X.Ok :=
  ⟨ok.mod, ok.kind, ok.glob, ok.blt, ok.above, ok.inj, ok.has, ok.cab, ok.hd, ok.frames, ok.stk, ok.exf, ok.bs, ok.bsz, ok.noex, ok.exfs, ok.funs, ok.frf⟩
section
variable {X : Cx} {pins : List (Addr × Obj)} {σ : St} {H : Hp} {s : Shared} {E : Value → Shared → Prop}
theorem Inv.wish (I : Inv X pins σ H s) (E : Value → Shared → Prop) : Inv (X.wish E) pins σ H s := ⟨I.ok.wish E, I.os, I.bare, I.base, I.loc, I.cell, I.free, I.freeC, I.pin, I.hok, I.len⟩
theorem Inv.unwish (I : Inv (X.wish E) pins σ H s) : Inv X pins σ H s := ⟨I.ok.unwish, I.os, I.bare, I.base, I.loc, I.cell, I.free, I.freeC, I.pin, I.hok, I.len⟩
theorem SP.unwish {D : Ends} {f : Flow} {s' : Shared} (h : SP (X.wish E) pins D f s') : SP X pins D f s' := by
  cases f with
  | next => obtain ⟨σ', H', I, q⟩ := h; exact ⟨σ', H', I.unwish, q⟩
  | brk => obtain ⟨σ', H', I, q⟩ := h; exact ⟨σ', H', I.unwish, q⟩
  | cont => obtain ⟨σ', H', I, q⟩ := h; exact ⟨σ', H', I.unwish, q⟩
  | ret u => obtain ⟨v, σ', H', I, r, q⟩ := h; exact ⟨v, σ', H', I.unwish, r, q⟩
theorem PSs.nox {st : List Stmt} {t : TS} (h : PSs X.nox st t) : PSs X st t := fun pins s σ H D I hw =>
  wpAny_mono (h pins s σ H D (I.wish _) hw) (fun _ _ q => q.unwish) fun _ _ z => False.elim z
end
section
variable {X : Cx} {st : Stmt} {rest : List Stmt} {t u : TS} {e : Expr} {te : TE} {pos : Pos}
def tNext : TS := fun D σ H => D.nx σ H
def tSeq (t u : TS) : TS := fun D σ H => t { D with nx := u D } σ H
theorem pss_nil : PSs X [] tNext := fun _ _ σ H _ I h => wpAny_execs_nil ⟨σ, H, I, h⟩
theorem pss_cons (h1 : PS X st t) (h2 : PSs X rest u) : PSs X (st :: rest) (tSeq t u) := by
  intro pins s σ H D I h
  refine wpAny_execs_cons (thn (h1 pins s σ H { D with nx := u D } I h) fun f s1 q => ?_)
  cases f with
  | next =>
    obtain ⟨σ', H', I', q⟩ := q
    exact h2 pins s1 σ' H' D I' q
  | ret v => exact q
  | brk => exact q
  | cont => exact q
theorem pss_one (h1 : PS X st t) : PSs X [st] t := by
  intro pins s σ H D I h
  refine wpAny_execs_cons (thn (h1 pins s σ H D I h) fun f s1 q => ?_)
  cases f with
  | next => exact wpAny_execs_nil q
  | ret v => exact q
  | brk => exact q
  | cont => exact q
theorem Inv.quiet {pins : List (Addr × Obj)} {σ : St} {H : Hp} {s : Shared} (I : Inv X pins σ H s) : interactive X.env = false := by simp [interactive, I.ok.kind]
def tDrop (te : TE) : TS := fun D σ H => te σ H fun _ H1 => D.nx σ H1
theorem ps_expr (he : PE X e te) (hs : swapsWith e none pos.line X.env = pure false := by rfl) : PS X (.Expr e pos) (tDrop te) := by
  intro pins s σ H D I h
  exact wpAny_Expr_any (thn (he pins s σ H _ I h) fun v s1 ⟨x, H1, I1, r1, q1⟩ => ⟨σ, H1, I1, q1⟩) I.quiet hs
def tRet (te : TE) : TS := fun D σ H => te σ H D.rt
theorem ps_ret (he : PE X e te) : PS X (.Return (some e) pos) (tRet te) := by
  intro pins s σ H D I h
  exact wpAny_Return_some (thn (he pins s σ H _ I h) fun v s1 ⟨x, H1, I1, r1, q1⟩ => ⟨x, σ, H1, I1, r1, q1⟩)
def tIfS (c : TT) (t u : TS) : TS := fun D σ H => c σ H fun b H1 => if b = true then t D σ H1 else u D σ H1
theorem ps_if {c : Expr} {a b : List Stmt} {tc : TT} (hc : PT X c tc) (ha : PSs X a t) (hb : PSs X b u) : PS X (.If c a b pos) (tIfS tc t u) := by
  intro pins s σ H D I h
  refine wpAny_If (thn (hc pins s σ H _ I h) fun d s1 ⟨H1, I1, q1⟩ => ?_)
  cases d with
  | true => exact ha pins s1 σ H1 D I1 q1
  | false => exact hb pins s1 σ H1 D I1 q1
def tNever : TS := fun _ _ _ => False
theorem ps_never : PS X st tNever := fun _ _ _ _ _ _ h => h.elim
end
abbrev TG := V → St → Hp → (St → Hp → Prop) → Prop
abbrev TGs := List V → St → Hp → (St → Hp → Prop) → Prop
def PG (X : Cx) (target : Expr) (t : TG) : Prop :=
  ∀ (pins : List (Addr × Obj)) (s : Shared) (σ : St) (H : Hp) (v : V) (u : Value) (Q : St → Hp → Prop), Inv X pins σ H s → RelV v u → t v σ H Q →
    wpAny (model X.prog X.w) X.A (assign target X.env u) (fun _ s' => ∃ σ' H', Inv X pins σ' H' s' ∧ Q σ' H') X.xe s
def PGs (X : Cx) (ts : List Expr) (t : TGs) : Prop :=
  ∀ (pins : List (Addr × Obj)) (s : Shared) (σ : St) (H : Hp) (vs : List V) (us : List Value) (Q : St → Hp → Prop), Inv X pins σ H s → Vals vs us → t vs σ H Q →
    wpAny (model X.prog X.w) X.A (assignInOrder ((assignEach ts X.env).map (·.2)) us) (fun _ s' => ∃ σ' H', Inv X pins σ' H' s' ∧ Q σ' H') X.xe s
abbrev TSet := V → V → V → Hp → (Hp → Prop) → Prop
def PSet (X : Cx) (t : TSet) : Prop :=
  ∀ (pins : List (Addr × Obj)) (s : Shared) (σ : St) (H : Hp) (o i v : V) (ov iv u : Value) (Q : Hp → Prop), Inv X pins σ H s → RelV o ov → RelV i iv → RelV v u → t o i v H Q →
    wpAny (model X.prog X.w) X.A (setItem ov iv u) (fun _ s' => ∃ H', Inv X pins σ H' s' ∧ Q H') X.xe s
section
variable {X : Cx} {pos : Pos}
def gName (i : Nat) : TG := fun v σ H Q => Q (σ.set i (some v)) H
theorem pg_name {i : Nat} {x : Str} (hN : X.N.Nodup) (hi : X.N[i]? = some x) (hx : Loc X.env.scope x) (hf : X.fn x = true ∨ X.env.scope.names.lookup x = some .local := by first | exact .inl rfl | exact .inr rfl | assumption) : PG X (.Name x pos) (gName i) := by
  intro pins s σ H v u Q I r h
  exact wpAny_assign_Name (store_ok I hN hi hx r (fun s' I' => ⟨_, H, I', h⟩) hf)
def gNil : TGs := fun vs σ H Q => vs = [] ∧ Q σ H
def gCons (t : TG) (u : TGs) : TGs := fun vs σ H Q => ∃ v r, vs = v :: r ∧ t v σ H fun σ' H' => u r σ' H' Q
theorem pgs_nil : PGs X [] gNil := by
  intro pins s σ H vs us Q I r h
  obtain ⟨e, h⟩ := h
  subst e
  cases r
  exact assignInOrder_nil ⟨σ, H, I, h⟩
theorem pgs_cons {e : Expr} {es : List Expr} {t : TG} {u : TGs} (h1 : PG X e t) (h2 : PGs X es u)
    (hs : (assignEach (e :: es) X.env).map (·.2) = assign e X.env :: (assignEach es X.env).map (·.2) := by rfl) : PGs X (e :: es) (gCons t u) := by
  intro pins s σ H vs us Q I r h
  obtain ⟨v, vr, e1, h⟩ := h
  subst e1
  cases r with
  | cons r rr =>
    rw [hs]
    refine assignInOrder_cons (thn (h1 pins s σ H _ _ _ I r h) fun _ s1 ⟨σ1, H1, I1, q1⟩ => ?_)
    exact h2 pins s1 σ1 H1 _ _ Q I1 rr q1
def gTup (K : PySem.W.Frag) (n : Nat) (t : TGs) : TG := fun v σ H Q => ∃ a xs, v = .ref a ∧ SqT K H a xs ∧ xs.length = n ∧ t xs σ H Q
theorem pg_tup {es : List Expr} {k : Nat} {t : TGs} {n : Nat} (hc : X.calm = true) (h : PGs X es t)
    (hn : (assignEach es X.env).length = n := by rfl) (hst : (assignEach es X.env).findIdx? (·.1) = none := by rfl) : PG X (.Tuple es k pos) (gTup X.K n t) := by
  intro pins s σ H v u Q I r hw
  obtain ⟨a, xs, e1, hq, hl, hw⟩ := hw
  subst e1
  cases r
  obtain ⟨its, rv, ht, hz⟩ := I.tuple hq
  refine assign_Tuple_tuple (I.ok.hd hc) ht (by simp [hn, ← hl, rv.length]) hst fun h' hx => ?_
  have I1 : Inv X pins σ H { s with heap := h' } := I.kept (t' := s.toks) fun b o e => hx b o (Nat.ne_of_lt (Heap.lt_size e)) e
  exact h pins _ σ H xs _ Q I1 (by simpa using rv) hw
def gSub (to ti : TE) (t : TSet) : TG := fun v σ H Q => to σ H fun o H1 => ti σ H1 fun i H2 => t o i v H2 fun H3 => Q σ H3
theorem pg_sub {o i : Expr} {to ti : TE} {t : TSet} (ho : PE X o to) (hi : PE X i ti) (hs : PSet X t)
    (ha : ∀ v, assign (.Subscript o i pos) X.env v = (do
      let ov ← holding [v] (eval o X.env)
      let iv ← holding [v, ov] (eval i X.env)
      standAt pos
      holding [v, ov, iv] (setItem ov iv v)
      release [v, ov, iv] []) := by intro _; rfl) : PG X (.Subscript o i pos) (gSub to ti t) := by
  intro pins s σ H v u Q I r h
  rw [ha]
  refine wpAny_bind (wpAny_holding (thn (ho pins s σ H _ I h) fun ov s1 ⟨x, H1, I1, r1, q1⟩ => ?_))
  refine wpAny_bind (wpAny_holding (thn (hi pins s1 σ H1 _ I1 q1) fun iv s2 ⟨y, H2, I2, r2, q2⟩ => ?_))
  refine wpAny_bind (wpAny_standAt (wpAny_bind (wpAny_holding (thn (hs pins s2 σ H2 x y v ov iv u _ I2 r1 r2 r q2) fun _ s3 ⟨H3, I3, q3⟩ => ?_))))
  exact wpAny_release ⟨σ, H3, I3, q3⟩
def tAsg (te : TE) (g : TG) : TS := fun D σ H => te σ H fun x H1 => g x σ H1 D.nx
theorem ps_asg {tg e : Expr} {te : TE} {g : TG} (he : PE X e te) (hg : PG X tg g) (hs : swapsWithSole [tg] e pos.line X.env = pure false := by rfl) (hw : swappedStores [tg] e X.env = pure none := by rfl)
    (h1 : (assignEach [tg] X.env).map (·.2) = [assign tg X.env] := by rfl) : PS X (.Assign [tg] e pos) (tAsg te g) := by
  intro pins s σ H D I h
  refine wpAny_Assign_stores (thn (he pins s σ H _ I h) fun v s1 ⟨x, H1, I1, r1, q1⟩ => ?_) hs hw
  rw [h1]
  exact thn (hg pins s1 σ H1 x v _ I1 r1 q1) fun _ s2 q => q
theorem ps_set {i : Nat} {x : Str} {e : Expr} {te : TE} {pos' : Pos} (hN : X.N.Nodup) (hi : X.N[i]? = some x) (hx : Loc X.env.scope x) (he : PE X e te) (hs : swapsWith e (some (.Name x pos')) pos.line X.env = pure false := by rfl) (hf : X.fn x = true ∨ X.env.scope.names.lookup x = some .local := by first | exact .inl rfl | exact .inr rfl | assumption) :
    PS X (.Assign [.Name x pos'] e pos) (tAsg te (gName i)) := by
  intro pins s σ H D I h
  refine wpAny_Assign_Name (thn (he pins s σ H _ I h) fun v s1 ⟨y, H1, I1, r1, q1⟩ => ?_) hs
  exact store_ok I1 hN hi hx r1 (fun s2 I2 => ⟨_, H1, I2, q1⟩) hf
end
section
variable {X : Cx} {pos : Pos}
def tWhile (c : TT) (tb : TS) : TS := fun D σ H => ∃ W : Nat → St → Hp → Prop, (∃ m, W m σ H) ∧ ∀ m σ H, W m σ H →
  c σ H fun b H1 => if b = true then ∃ N : St → Hp → Prop, (∀ σ' H', N σ' H' → ∃ m', m' < m ∧ W m' σ' H') ∧ tb { D with nx := N, ct := N, bk := D.nx } σ H1 else D.nx σ H1
theorem ps_while {c : Expr} {body : List Stmt} {tc : TT} {tb : TS} (hp : PassesOwn (model X.prog X.w) X.A X.env X.xe) (hc : PT X c tc) (hb : PSs X body tb) : PS X (.While c body [] pos) (tWhile tc tb) := by
  intro pins s σ H D I h
  obtain ⟨W, ⟨m0, w0⟩, turn⟩ := h
  refine wpAny_While (codeAny_whileLoop (fun n s' => ∃ σ' H', Inv X pins σ' H' s' ∧ W n σ' H') ?_ m0 ⟨σ, H, I, w0⟩)
  rintro n s1 ⟨σ1, H1, I1, w1⟩
  refine wpAny_passesOwn hp (thn (hc pins s1 σ1 H1 _ I1 (turn n σ1 H1 w1)) fun b s2 ⟨H2, I2, q2⟩ => ?_)
  cases b with
  | true =>
    obtain ⟨N, hN, q2⟩ := q2
    rw [if_pos rfl]
    refine wpAny_passesOwn hp (thn (hb pins s2 σ1 H2 _ I2 q2) fun f s3 q3 => ?_)
    cases f with
    | next =>
      obtain ⟨σ3, H3, I3, n3⟩ := q3
      obtain ⟨m', hm, w3⟩ := hN σ3 H3 n3
      exact ⟨m', hm, σ3, H3, I3, w3⟩
    | cont =>
      obtain ⟨σ3, H3, I3, n3⟩ := q3
      obtain ⟨m', hm, w3⟩ := hN σ3 H3 n3
      exact ⟨m', hm, σ3, H3, I3, w3⟩
    | brk => exact q3
    | ret v => exact q3
  | false =>
    rw [if_neg Bool.false_ne_true]
    exact wpAny_execs_nil ⟨σ1, H2, I2, q2⟩
end
structure It where
  go : Nat → Hp → Prop
  yld : Nat → Hp → V → Hp → Prop
  stop : Nat → Hp → Prop
def FpOk (X : Cx) (pins : List (Addr × Obj)) (H : Hp) (b : Addr) : Prop :=
  H b = none ∧ b ≠ X.env.locals ∧ b ∉ X.fs ∧ (b ∈ X.ex ∨ X.s₀.heap.objs.size ≤ b) ∧ (∀ x c, X.env.cells.lookup x = some c → c ≠ b) ∧ ∀ p ∈ X.pn ++ pins, p.1 ≠ b
theorem Inv.fpOk {X : Cx} {pins : List (Addr × Obj)} {σ : St} {H H' : Hp} {s : Shared} {b : Addr} (I : Inv X pins σ H s) (hb : s.heap.objs.size ≤ b) (hn : H' b = none) : FpOk X pins H' b := by
  refine ⟨hn, Nat.ne_of_gt (Nat.lt_of_lt_of_le I.lt hb), I.nofs hb, .inr (Nat.le_trans I.sz hb), fun x c e z => ?_, fun p hp z => ?_⟩
  · obtain ⟨v, q⟩ := I.cell x c e
    exact absurd (Nat.lt_of_lt_of_le q.lt (by rw [z]; exact hb)) (Nat.lt_irrefl _)
  · exact absurd (Nat.lt_of_lt_of_le (Heap.lt_size (I.pin p hp).1) (by rw [z]; exact hb)) (Nat.lt_irrefl _)
structure Turn (P : Program) (w : World) (K : PySem.W.Frag) (tg : Expr) (J : It) (fp : List Addr) (it : Addr) (tn : Nat → Heap → Prop) : Prop where
  mem : it ∈ fp
  obj : ∀ i h, tn i h → ∀ b ∈ fp, ∃ o, h.get? b = some o ∧ ∀ v, o.data ≠ .cell v
  keep : ∀ i h h', tn i h → (∀ b ∈ fp, ∀ o, h.get? b = some o → h'.get? b = some o) → tn i h'
  item : ∀ (X : Cx), X.prog = P → X.w = w → X.K = K → X.calm = true → ∀ (i : Nat) (pins : List (Addr × Obj)) (s : Shared) (σ : St) (H : Hp) (E : Value → Shared → Prop), Inv X pins σ H s → (∀ b ∈ fp, FpOk X pins H b) → tn i s.heap → J.go i H →
    wpAny (model P w) X.A (pyNext (.ref it)) (fun r s1 => ∃ u, r = some u ∧
      wpAny (model P w) X.A (letOwnedTupleGo tg (.ref it) u) (fun _ s2 => ∃ x H', Inv X pins σ H' s2 ∧ RelV x u ∧ J.yld i H x H' ∧ tn (i + 1) s2.heap ∧ ∀ b ∈ fp, H' b = none) E s1) E s
  done : ∀ (X : Cx), X.prog = P → X.w = w → X.K = K → X.calm = true → ∀ (i : Nat) (pins : List (Addr × Obj)) (s : Shared) (σ : St) (H : Hp) (E : Value → Shared → Prop), Inv X pins σ H s → (∀ b ∈ fp, FpOk X pins H b) → tn i s.heap → J.stop i H →
    wpAny (model P w) X.A (pyNext (.ref it)) (fun r s1 => r = none ∧ Inv X pins σ H s1) E s
  self : ∀ (A : Around) (i : Nat) (s : Shared) (Q : Value → Shared → Prop) (E : Value → Shared → Prop), tn i s.heap → Q (.ref it) s → wpAny (model P w) A (pyIter (.ref it)) Q E s
abbrev TI := St → Hp → (It → Hp → Prop) → Prop
def PIE (X : Cx) (pins : List (Addr × Obj)) (σ : St) (tg : Expr) (R : It → Hp → Prop) (itv : Value) (s2 : Shared) : Prop :=
  ∃ (it : Addr) (fp : List Addr) (tn : Nat → Heap → Prop) (J : It) (H' : Hp), itv = .ref it ∧ Inv X pins σ H' s2 ∧ Turn X.prog X.w X.K tg J fp it tn ∧ tn 0 s2.heap ∧ (∀ b ∈ fp, FpOk X pins H' b) ∧ R J H'
def PI (X : Cx) (tg iter : Expr) (wi : TI) : Prop :=
  ∀ (pins : List (Addr × Obj)) (s : Shared) (σ : St) (H : Hp) (R : It → Hp → Prop), Inv X pins σ H s → wi σ H R →
    wpAny (model X.prog X.w) X.A (eval iter X.env) (fun v s1 => wpAny (model X.prog X.w) X.A (pyIter v) (PIE X pins σ tg R) X.xe s1) X.xe s
theorem go_of {M : Model} {A : Around} {E : Value → Shared → Prop} {s : Shared} {tg : Expr} {it : Addr} {u : Value} {o : Obj} {n : String} {vs : Array Value} {Q : Unit → Shared → Prop} (ho : s.heap.get? it = some o) (hc : o.cls = .type n) (hd : o.data = .fields vs)
    (hn : ["enumerate", "zip", "dict_itemiterator", "dict_reverseitemiterator", "odict_iterator", "itertools.zip_longest", "itertools.pairwise"].contains n = false) (hQ : Q () s) : wpAny M A (letOwnedTupleGo tg (.ref it) u) Q E s := by
  unfold letOwnedTupleGo
  cases tg <;> first
    | exact wpAny_pure hQ
    | (cases u <;> first
        | exact wpAny_pure hQ
        | (refine wpAny_bind (wpAny_load ho ?_)
           rw [hc, hd]
           show wpAny M A (if (["enumerate", "zip", "dict_itemiterator", "dict_reverseitemiterator", "odict_iterator", "itertools.zip_longest", "itertools.pairwise"].contains n && vs[0]? == some (rawInt _)) = true then _ else _) Q E s
           rw [if_neg (by intro h; rw [hn, Bool.false_and] at h; cases h)]
           exact wpAny_pure hQ))
def Itl (K : PySem.W.Frag) (a : Addr) : It :=
  ⟨fun i H => ∃ xs x, SqL K H a xs ∧ xs[i]? = some x, fun i H x H' => H' = H ∧ ∀ xs, SqL K H a xs → xs[i]? = some x, fun i H => ∃ xs, SqL K H a xs ∧ xs.length ≤ i⟩
def Itt (K : PySem.W.Frag) (a : Addr) : It :=
  ⟨fun i H => ∃ xs x, SqT K H a xs ∧ xs[i]? = some x, fun i H x H' => H' = H ∧ ∀ xs, SqT K H a xs → xs[i]? = some x, fun i H => ∃ xs, SqT K H a xs ∧ xs.length ≤ i⟩
def Itr (lo : Int) (n : Nat) : It := ⟨fun i _ => i < n, fun i H x H' => H' = H ∧ x = .int (lo + i), fun i _ => n ≤ i⟩
theorem turn_list {P : Program} {w : World} {K : PySem.W.Frag} {tg : Expr} (a it : Addr) : Turn P w K tg (Itl K a) [it] it (fun i h => h.IsListIter it a i) where
  mem := by simp
  obj := fun i h st b hb => by
    have e : b = it := by simpa using hb
    subst e
    obtain ⟨o, e, c, d⟩ := st
    exact ⟨o, e, fun v z => by rw [d] at z; cases z⟩
  keep := fun i h h' st k => st.at fun o e => k it (by simp) o e
  item := by
    intro X hP hw hK hc i pins s σ H E I hf st hg
    subst hP hw hK
    obtain ⟨xs, x, hq, hx⟩ := hg
    obtain ⟨its, rv, p, hz⟩ := I.list hq
    obtain ⟨u, hu, ru⟩ := rv.get hx
    obtain ⟨f0, f1, f2, f3, f4, f5⟩ := hf it (by simp)
    refine wpAny_pyNext_list_item st p.isList (x := u) (by simpa using hu) fun h' st' sb => ?_
    have I1 : Inv X pins σ H { s with heap := h' } := I.turned (t' := s.toks) (fun b o hb e => (sb.2 b hb).trans e) f0 f1 f3 f4 f5
    obtain ⟨o, e, c, d⟩ := id st'
    exact ⟨u, rfl, go_of (s := { s with heap := h' }) e c d (by decide) ⟨x, H, I1, ru, ⟨rfl, fun ys hy => by rw [I.list_inj hy hq]; exact hx⟩, st', fun b hb => (hf b hb).1⟩⟩
  done := by
    intro X hP hw hK hc i pins s σ H E I hf st hg
    subst hP hw hK
    obtain ⟨xs, hq, hx⟩ := hg
    obtain ⟨its, rv, p, hz⟩ := I.list hq
    obtain ⟨f0, f1, f2, f3, f4, f5⟩ := hf it (by simp)
    have hl := rv.length
    exact wpAny_pyNext_list_end (I.ok.hd hc) st p.isList (by simp; omega) fun h' eb => ⟨rfl, I.turned (t' := s.toks) (fun b o hb e => eb b o hb e) f0 f1 f3 f4 f5⟩
  self := fun _ _ _ _ _ st h => wpAny_pyIter_listiter st h
theorem turn_tuple {P : Program} {w : World} {K : PySem.W.Frag} {tg : Expr} (a it : Addr) : Turn P w K tg (Itt K a) [it] it (fun i h => h.IsTupleIter it a i) where
  mem := by simp
  obj := fun i h st b hb => by
    have e : b = it := by simpa using hb
    subst e
    obtain ⟨o, e, c, d⟩ := st
    exact ⟨o, e, fun v z => by rw [d] at z; cases z⟩
  keep := fun i h h' st k => st.at fun o e => k it (by simp) o e
  item := by
    intro X hP hw hK hc i pins s σ H E I hf st hg
    subst hP hw hK
    obtain ⟨xs, x, hq, hx⟩ := hg
    obtain ⟨its, rv, p, hz⟩ := I.tuple hq
    obtain ⟨u, hu, ru⟩ := rv.get hx
    obtain ⟨f0, f1, f2, f3, f4, f5⟩ := hf it (by simp)
    refine wpAny_pyNext_tuple_item st (show s.heap.IsTuple a its.toArray from p) (x := u) (by simpa using hu) fun h' st' sb => ?_
    have I1 : Inv X pins σ H { s with heap := h' } := I.turned (t' := s.toks) (fun b o hb e => (sb.2 b hb).trans e) f0 f1 f3 f4 f5
    obtain ⟨o, e, c, d⟩ := id st'
    exact ⟨u, rfl, go_of (s := { s with heap := h' }) e c d (by decide) ⟨x, H, I1, ru, ⟨rfl, fun ys hy => by rw [I.tuple_inj hy hq]; exact hx⟩, st', fun b hb => (hf b hb).1⟩⟩
  done := by
    intro X hP hw hK hc i pins s σ H E I hf st hg
    subst hP hw hK
    obtain ⟨xs, hq, hx⟩ := hg
    obtain ⟨its, rv, p, hz⟩ := I.tuple hq
    obtain ⟨f0, f1, f2, f3, f4, f5⟩ := hf it (by simp)
    have hl := rv.length
    exact wpAny_pyNext_tuple_end (I.ok.hd hc) st (show s.heap.IsTuple a its.toArray from p) (by simp; omega) fun h' eb => ⟨rfl, I.turned (t' := s.toks) (fun b o hb e => eb b o hb e) f0 f1 f3 f4 f5⟩
  self := fun _ _ _ _ _ st h => wpAny_pyIter_tupleiter st h
theorem turn_range {P : Program} {w : World} {K : PySem.W.Frag} {tg : Expr} (it : Addr) (lo : Int) (n : Nat) : Turn P w K tg (Itr lo n) [it] it (fun i h => IsRangeIter h it (lo + (i : Nat) * 1) ((n : Int) - (i : Nat)) 1) where
  mem := by simp
  obj := fun i h st b hb => by
    have e : b = it := by simpa using hb
    subst e
    exact ⟨_, st, fun v z => by
      have z' : Data.fields _ = Data.cell v := z
      cases z'⟩
  keep := fun i h h' st k => k it (by simp) _ st
  item := by
    intro X hP hw hK hc i pins s σ H E I hf st hg
    subst hP hw hK
    obtain ⟨f0, f1, f2, f3, f4, f5⟩ := hf it (by simp)
    have W := Walks.range (prog := X.prog) (w := X.w) (I.ok.hd hc) it lo 1 n
    refine W.item i s _ _ hg st fun v h' tk hv st' kk => ?_
    obtain ⟨t, rfl⟩ := hv
    have I1 : Inv X pins σ H { s with heap := h', toks := tk } := I.turned (fun b o hb e => kk b o (by simpa using hb) e) f0 f1 f3 f4 f5
    refine ⟨_, rfl, go_of (s := { s with heap := h', toks := tk }) (n := "range_iterator") st' rfl rfl (by decide) ⟨.int (lo + i), H, I1, ⟨t, ?_⟩, ⟨rfl, rfl⟩, st', fun b hb => (hf b hb).1⟩⟩
    rw [Int.mul_one]
  done := by
    intro X hP hw hK hc i pins s σ H E I hf st hg
    subst hP hw hK
    obtain ⟨f0, f1, f2, f3, f4, f5⟩ := hf it (by simp)
    exact wpAny_pyNext_range_end (I.ok.hd hc) st (by have : n ≤ i := hg; omega) fun h' eb => ⟨rfl, I.turned (t' := s.toks) (fun b o hb e => eb b o hb e) f0 f1 f3 f4 f5⟩
  self := fun _ _ _ _ _ st h => wpAny_pyIter_rangeiter st h
end L2
namespace L2
open PySem PySem.Spec PyProof.Rows
section
variable {X : Cx} {tg : Expr}
def iList (K : PySem.W.Frag) (tl : TE) : TI := fun σ H R => tl σ H fun x H1 => ∃ a, x = .ref a ∧ (∃ xs, SqL K H1 a xs) ∧ R (Itl K a) H1
def iTup (K : PySem.W.Frag) (tl : TE) : TI := fun σ H R => tl σ H fun x H1 => ∃ a, x = .ref a ∧ (∃ xs, SqT K H1 a xs) ∧ R (Itt K a) H1
theorem pi_list {l : Expr} {tl : TE} (hl : PE X l tl) : PI X tg l (iList X.K tl) := by
  intro pins s σ H R I h
  refine thn (hl pins s σ H _ I h) fun v s1 ⟨x, H1, I1, r1, q1⟩ => ?_
  obtain ⟨a, e, ⟨xs, hq⟩, q⟩ := q1
  subst e
  cases r1
  obtain ⟨its, rv, p, hz⟩ := I1.list hq
  refine wpAny_pyIter_list p.isList ?_
  refine ⟨s1.heap.objs.size, [s1.heap.objs.size], _, _, H1, rfl, I1.kept (t' := s1.toks) fun b o e => Heap.get?_push_of_some _ e, turn_list a _, ⟨_, Heap.get?_push_size _ rfl, rfl, rfl⟩, fun b hb => ?_, q⟩
  have e : b = s1.heap.objs.size := by simpa using hb
  subst e
  exact I1.fpOk (Nat.le_refl _) (I1.hok.fresh (Nat.le_refl _))
theorem pi_tup {l : Expr} {tl : TE} (hl : PE X l tl) : PI X tg l (iTup X.K tl) := by
  intro pins s σ H R I h
  refine thn (hl pins s σ H _ I h) fun v s1 ⟨x, H1, I1, r1, q1⟩ => ?_
  obtain ⟨a, e, ⟨xs, hq⟩, q⟩ := q1
  subst e
  cases r1
  obtain ⟨its, rv, p, hz⟩ := I1.tuple hq
  refine wpAny_pyIter_tuple (show s1.heap.IsTuple a its.toArray from p) ?_
  refine ⟨s1.heap.objs.size, [s1.heap.objs.size], _, _, H1, rfl, I1.kept (t' := s1.toks) fun b o e => Heap.get?_push_of_some _ e, turn_tuple a _, ⟨_, Heap.get?_push_size _ rfl, rfl, rfl⟩, fun b hb => ?_, q⟩
  have e : b = s1.heap.objs.size := by simpa using hb
  subst e
  exact I1.fpOk (Nat.le_refl _) (I1.hok.fresh (Nat.le_refl _))
theorem range_it {pins : List (Addr × Obj)} {σ : St} {H : Hp} {s : Shared} {R : It → Hp → Prop} {E : Value → Shared → Prop} {lo hi : Int} {t u v : Tok} {tk : Nat} (I : Inv X pins σ H s) (h1 : -(2 ^ 62) ≤ lo) (h2 : lo < 2 ^ 62) (h3 : -(2 ^ 62) ≤ hi) (h4 : hi < 2 ^ 62)
    (q : R (Itr lo (hi - lo).toNat) H) : wpAny (model X.prog X.w) X.A (pyIter (.ref s.heap.objs.size)) (PIE X pins σ tg R) E { s with heap := s.heap.push { cls := .type "range", data := .fields #[.int lo t, .int hi u, .int 1 v] }, toks := tk } := by
  refine wpAny_pyIter_range (IsRange.new ..) (small_one h1 h2 h3 h4) ?_
  have I1 : Inv X pins σ H { s with heap := s.heap.push { cls := .type "range", data := .fields #[.int lo t, .int hi u, .int 1 v] }, toks := tk } := I.kept fun b o e => Heap.get?_push_of_some _ e
  refine ⟨(s.heap.push { cls := .type "range", data := .fields #[.int lo t, .int hi u, .int 1 v] }).objs.size, [(s.heap.push { cls := .type "range", data := .fields #[.int lo t, .int hi u, .int 1 v] }).objs.size], _, _, H, rfl,
    I1.kept (t' := tk) fun b o e => Heap.get?_push_of_some _ e, turn_range _ lo (hi - lo).toNat, ?_, fun b hb => ?_, q⟩
  · have e1 : lo + ((0 : Nat) : Int) * 1 = lo := by simp
    have e2 : (((hi - lo).toNat : Nat) : Int) - ((0 : Nat) : Int) = Builtin.Range.rangeSize lo hi 1 := by rw [rangeSize_one]; split <;> omega
    show IsRangeIter _ _ (lo + ((0 : Nat) : Int) * 1) ((((hi - lo).toNat : Nat) : Int) - ((0 : Nat) : Int)) 1
    rw [e1, e2]
    exact Heap.get?_push_size _ rfl
  · have e : b = (s.heap.push { cls := .type "range", data := .fields #[.int lo t, .int hi u, .int 1 v] }).objs.size := by simpa using hb
    subst e
    exact I1.fpOk (Nat.le_refl _) (I1.hok.fresh (Nat.le_refl _))
def iRng1 (ta : TA) : TI := fun σ H R => ta σ H fun vs H1 => ∃ j : Int, vs = [.int j] ∧ -(2 ^ 62) ≤ j ∧ j < 2 ^ 62 ∧ R (Itr 0 j.toNat) H1
theorem pi_range1 {a : Expr} {ta : TA} {p pos : Pos} (hg : Gl X "range") (hm : X.mg "range" = none) (ha : PA X [a] ta) (hs : starEach [a] X.env = [(false, eval a X.env)] := by rfl) : PI X tg (.Call (.Name "range" p) [a] [] pos) (iRng1 ta) := by
  intro pins s σ H R I h
  refine Call_ (ld_blt I hg hm boot_range (PyProof.Rows.callWith_type1 (thn (ha pos pins s σ H _ I h) fun us s1 ⟨vs, H1, I1, r1, q1⟩ => ?_) hs rfl))
  obtain ⟨j, e, q1, q2, q⟩ := q1
  subst e
  cases r1 with
  | cons r rr =>
    cases rr
    obtain ⟨t, rfl⟩ := r
    exact call_range_1 (range_it I1 (by omega) (by omega) q1 q2 (by simpa using q))
def tFor (wi : TI) (g : TG) (tb : TS) : TS := fun D σ H => wi σ H fun J H1 => ∃ W : Nat → Nat → St → Hp → Prop, (∃ m, W 0 m σ H1) ∧ ∀ i m σ H, W i m σ H →
  (J.stop i H ∧ D.nx σ H) ∨ (J.go i H ∧ ∃ N : St → Hp → Prop, (∀ σ' H', N σ' H' → ∃ m', m' < m ∧ W (i + 1) m' σ' H') ∧ ∀ x H', J.yld i H x H' → g x σ H' fun σ2 H2 => tb { D with nx := N, ct := N, bk := D.nx } σ2 H2)
def pinsAt (fp : List Addr) (h : Heap) : List (Addr × Obj) := fp.filterMap fun b => (h.get? b).map fun o => (b, o)
theorem mem_pinsAt {fp : List Addr} {h : Heap} {b : Addr} {o : Obj} (hb : b ∈ fp) (e : h.get? b = some o) : (b, o) ∈ pinsAt fp h := List.mem_filterMap.mpr ⟨b, hb, by rw [e]; rfl⟩
theorem of_pinsAt {fp : List Addr} {h : Heap} {p : Addr × Obj} (hp : p ∈ pinsAt fp h) : p.1 ∈ fp ∧ h.get? p.1 = some p.2 := by
  obtain ⟨b, hb, e⟩ := List.mem_filterMap.mp hp
  cases q : h.get? b with
  | none => rw [q] at e; cases e
  | some o =>
    rw [q] at e
    have e' : (b, o) = p := Option.some.inj e
    subst e'
    exact ⟨hb, q⟩
theorem Inv.pinned {pins : List (Addr × Obj)} {σ : St} {H : Hp} {s : Shared} {fp : List Addr} (I : Inv X pins σ H s) (hf : ∀ b ∈ fp, FpOk X pins H b) (ho : ∀ b ∈ fp, ∃ o, s.heap.get? b = some o ∧ ∀ v, o.data ≠ .cell v) : Inv X (pins ++ pinsAt fp s.heap) σ H s :=
  I.pins_of fun p hp => (List.mem_append.mp hp).elim (fun z => I.pin p (List.mem_append_right _ z)) fun z => by
    obtain ⟨hb, e⟩ := of_pinsAt z
    obtain ⟨f0, f1, f2, _⟩ := hf p.1 hb
    obtain ⟨o, e', d⟩ := ho p.1 hb
    rw [e] at e'; cases e'
    exact ⟨e, f0, f1, f2, d⟩
theorem Inv.unpinned {pins pl : List (Addr × Obj)} {σ : St} {H : Hp} {s : Shared} (I : Inv X (pins ++ pl) σ H s) : Inv X pins σ H s := I.pins_of fun p hp => I.pin p (List.mem_append_right _ (List.mem_append_left _ hp))
theorem ps_for {iter : Expr} {body : List Stmt} {wi : TI} {g : TG} {tb : TS} {pos : Pos} (hp : PassesOwn (model X.prog X.w) X.A X.env X.xe) (hc : X.calm = true) (hi : PI X tg iter wi) (hg : PG X tg g) (hb : PSs X body tb)
    (hs : ∀ x, foldedSetIterable iter X.env x = pure x := by intro _; rfl) : PS X (.For tg iter body [] pos) (tFor wi g tb) := by
  intro pins s σ H D I h
  refine wpAny_For (thn (hi pins s σ H _ I h) fun v s1 h1 => thn h1 fun itv s2 h2 => ?_) hs
  obtain ⟨it, fp, tn, J, H2, e, I2, T, st2, f2, W, ⟨m0, w0⟩, turn⟩ := h2
  subst e
  -- what stays true of the iterator's objects through the loop
  have stat : ∀ {H' : Hp}, (∀ b ∈ fp, H' b = none) → ∀ b ∈ fp, FpOk X pins H' b := fun hn b hb => ⟨hn b hb, (f2 b hb).2⟩
  refine codeAny_forLoop_any (fun n s' => ∃ i σ' H', Inv X pins σ' H' s' ∧ tn i s'.heap ∧ (∀ b ∈ fp, H' b = none) ∧ W i n σ' H') ?_ m0 ⟨0, σ, H2, I2, st2, fun b hb => (f2 b hb).1, w0⟩
  rintro n s3 ⟨i, σ3, H3, I3, st3, fr3, w3⟩
  rcases turn i n σ3 H3 w3 with ⟨stop, qn⟩ | ⟨go, N, hN, step⟩
  · refine wpAny_passesOwn hp (thn (T.done X rfl rfl rfl hc i pins s3 σ3 H3 X.xe I3 (stat fr3) st3 stop) fun r s4 ⟨hr, I4⟩ => ?_)
    subst hr
    exact wpAny_execs_nil ⟨σ3, H3, I4, qn⟩
  · refine wpAny_passesOwn hp (thn (T.item X rfl rfl rfl hc i pins s3 σ3 H3 X.xe I3 (stat fr3) st3 go) fun r s4 ⟨u, hr, h4⟩ => ?_)
    subst hr
    refine wpAny_passesOwn hp (thn h4 fun _ s5 ⟨x, H5, I5, r5, y5, st5, fr5⟩ => ?_)
    have I5' := I5.pinned (stat fr5) (T.obj _ _ st5)
    refine wpAny_passesOwn hp (thn (hg _ s5 σ3 H5 x u _ I5' r5 (step x H5 y5)) fun _ s6 ⟨σ6, H6, I6, q6⟩ => ?_)
    refine wpAny_passesOwn hp (thn (hb _ s6 σ6 H6 _ I6 q6) fun f s7 q7 => ?_)
    have again : ∀ {σ7 : St} {H7 : Hp}, Inv X (pins ++ pinsAt fp s5.heap) σ7 H7 s7 → N σ7 H7 → ∃ m, m < n ∧ ∃ i σ' H', Inv X pins σ' H' s7 ∧ tn i s7.heap ∧ (∀ b ∈ fp, H' b = none) ∧ W i m σ' H' := fun {σ7 H7} I7 n7 => by
      obtain ⟨m', hm, w7⟩ := hN σ7 H7 n7
      refine ⟨m', hm, i + 1, σ7, H7, I7.unpinned, T.keep _ _ _ st5 fun b hb o e => (I7.pin (b, o) (List.mem_append_right _ (List.mem_append_right _ (mem_pinsAt hb e)))).1, fun b hb => ?_, w7⟩
      obtain ⟨o, e, d⟩ := T.obj _ _ st5 b hb
      exact (I7.pin (b, o) (List.mem_append_right _ (List.mem_append_right _ (mem_pinsAt hb e)))).2.1
    cases f with
    | next => obtain ⟨σ7, H7, I7, n7⟩ := q7; exact again I7 n7
    | cont => obtain ⟨σ7, H7, I7, n7⟩ := q7; exact again I7 n7
    | brk => obtain ⟨σ7, H7, I7, q7⟩ := q7; exact ⟨σ7, H7, I7.unpinned, q7⟩
    | ret v => obtain ⟨x7, σ7, H7, I7, r7, q7⟩ := q7; exact ⟨x7, σ7, H7, I7.unpinned, r7, q7⟩
end
theorem for_list {K : PySem.W.Frag} {a : Addr} {xs : List V} {g : TG} {tb : TS} {D : Ends} {σ : St} {H : Hp} (Pv : Nat → St → Hp → Prop) (h0 : Pv 0 σ H) (hl : ∀ i σ H, i ≤ xs.length → Pv i σ H → SqL K H a xs)
    (hs : ∀ i x σ H, xs[i]? = some x → Pv i σ H → g x σ H fun σ2 H2 => tb { D with nx := Pv (i + 1), ct := Pv (i + 1), bk := D.nx } σ2 H2) (hd : ∀ σ H, Pv xs.length σ H → D.nx σ H) :
    ∃ W : Nat → Nat → St → Hp → Prop, (∃ m, W 0 m σ H) ∧ ∀ i m σ H, W i m σ H →
      ((Itl K a).stop i H ∧ D.nx σ H) ∨ ((Itl K a).go i H ∧ ∃ N : St → Hp → Prop, (∀ σ' H', N σ' H' → ∃ m', m' < m ∧ W (i + 1) m' σ' H') ∧ ∀ x H', (Itl K a).yld i H x H' → g x σ H' fun σ2 H2 => tb { D with nx := N, ct := N, bk := D.nx } σ2 H2) := by
  refine ⟨fun i m σ H => m = xs.length - i ∧ i ≤ xs.length ∧ Pv i σ H, ⟨xs.length, by simp, Nat.zero_le _, h0⟩, ?_⟩
  rintro i m σ H ⟨rfl, hi, p⟩
  have q := hl i σ H hi p
  by_cases hlt : i < xs.length
  · refine .inr ⟨⟨xs, xs[i], q, by simp [hlt]⟩, Pv (i + 1), fun σ' H' p' => ⟨xs.length - (i + 1), by omega, rfl, hlt, p'⟩, fun x H' y => ?_⟩
    obtain ⟨e, y⟩ := y
    subst e
    exact hs i x σ _ (y xs q) p
  · have e : i = xs.length := by omega
    subst e
    exact .inl ⟨⟨xs, q, Nat.le_refl _⟩, hd σ H p⟩
theorem for_tup {K : PySem.W.Frag} {a : Addr} {xs : List V} {g : TG} {tb : TS} {D : Ends} {σ : St} {H : Hp} (Pv : Nat → St → Hp → Prop) (h0 : Pv 0 σ H) (hl : ∀ i σ H, i ≤ xs.length → Pv i σ H → SqT K H a xs)
    (hs : ∀ i x σ H, xs[i]? = some x → Pv i σ H → g x σ H fun σ2 H2 => tb { D with nx := Pv (i + 1), ct := Pv (i + 1), bk := D.nx } σ2 H2) (hd : ∀ σ H, Pv xs.length σ H → D.nx σ H) :
    ∃ W : Nat → Nat → St → Hp → Prop, (∃ m, W 0 m σ H) ∧ ∀ i m σ H, W i m σ H →
      ((Itt K a).stop i H ∧ D.nx σ H) ∨ ((Itt K a).go i H ∧ ∃ N : St → Hp → Prop, (∀ σ' H', N σ' H' → ∃ m', m' < m ∧ W (i + 1) m' σ' H') ∧ ∀ x H', (Itt K a).yld i H x H' → g x σ H' fun σ2 H2 => tb { D with nx := N, ct := N, bk := D.nx } σ2 H2) := by
  refine ⟨fun i m σ H => m = xs.length - i ∧ i ≤ xs.length ∧ Pv i σ H, ⟨xs.length, by simp, Nat.zero_le _, h0⟩, ?_⟩
  rintro i m σ H ⟨rfl, hi, p⟩
  have q := hl i σ H hi p
  by_cases hlt : i < xs.length
  · refine .inr ⟨⟨xs, xs[i], q, by simp [hlt]⟩, Pv (i + 1), fun σ' H' p' => ⟨xs.length - (i + 1), by omega, rfl, hlt, p'⟩, fun x H' y => ?_⟩
    obtain ⟨e, y⟩ := y
    subst e
    exact hs i x σ _ (y xs q) p
  · have e : i = xs.length := by omega
    subst e
    exact .inl ⟨⟨xs, q, Nat.le_refl _⟩, hd σ H p⟩
theorem for_range {lo : Int} {n : Nat} {g : TG} {tb : TS} {D : Ends} {σ : St} {H : Hp} (Pv : Nat → St → Hp → Prop) (h0 : Pv 0 σ H)
    (hs : ∀ i σ H, i < n → Pv i σ H → g (.int (lo + i)) σ H fun σ2 H2 => tb { D with nx := Pv (i + 1), ct := Pv (i + 1), bk := D.nx } σ2 H2) (hd : ∀ σ H, Pv n σ H → D.nx σ H) :
    ∃ W : Nat → Nat → St → Hp → Prop, (∃ m, W 0 m σ H) ∧ ∀ i m σ H, W i m σ H →
      ((Itr lo n).stop i H ∧ D.nx σ H) ∨ ((Itr lo n).go i H ∧ ∃ N : St → Hp → Prop, (∀ σ' H', N σ' H' → ∃ m', m' < m ∧ W (i + 1) m' σ' H') ∧ ∀ x H', (Itr lo n).yld i H x H' → g x σ H' fun σ2 H2 => tb { D with nx := N, ct := N, bk := D.nx } σ2 H2) := by
  refine ⟨fun i m σ H => m = n - i ∧ i ≤ n ∧ Pv i σ H, ⟨n, by simp, Nat.zero_le _, h0⟩, ?_⟩
  rintro i m σ H ⟨rfl, hi, p⟩
  by_cases hlt : i < n
  · refine .inr ⟨hlt, Pv (i + 1), fun σ' H' p' => ⟨n - (i + 1), by omega, rfl, hlt, p'⟩, fun x H' y => ?_⟩
    obtain ⟨e, y⟩ := y
    subst e y
    exact hs i σ _ hlt p
  · have e : i = n := by omega
    subst e
    exact .inl ⟨Nat.le_refl _, hd σ H p⟩
end L2
namespace L2
open PySem PySem.Spec PyProof.Rows
abbrev R2 := V → V → Hp → VK → Prop
def OpR (X : Cx) (f : Value → Value → Sem Value) (r : R2) : Prop :=
  ∀ (pins : List (Addr × Obj)) (s : Shared) (σ : St) (H : Hp) (x y : V) (v u : Value) (Q : VK), Inv X pins σ H s → RelV x v → RelV y u → r x y H Q →
    wpAny (model X.prog X.w) X.A (f v u) (EP X pins σ Q) X.xe s
def UnR (X : Cx) (f : Value → Sem Value) (r : V → Hp → VK → Prop) : Prop :=
  ∀ (pins : List (Addr × Obj)) (s : Shared) (σ : St) (H : Hp) (x : V) (v : Value) (Q : VK), Inv X pins σ H s → RelV x v → r x H Q →
    wpAny (model X.prog X.w) X.A (f v) (EP X pins σ Q) X.xe s
def CallR (X : Cx) (f : Value) (r : List V → Hp → VK → Prop) : Prop :=
  ∀ (pins : List (Addr × Obj)) (s : Shared) (σ : St) (H : Hp) (xs : List V) (us : List Value) (Q : VK), Inv X pins σ H s → Vals xs us → r xs H Q →
    wpAny (model X.prog X.w) X.A (call f us) (EP X pins σ Q) X.xe s
def TruR (X : Cx) (r : V → Hp → (Bool → Hp → Prop) → Prop) : Prop :=
  ∀ (pins : List (Addr × Obj)) (s : Shared) (σ : St) (H : Hp) (x : V) (v : Value) (Q : Bool → Hp → Prop), Inv X pins σ H s → RelV x v → r x H Q →
    wpAny (model X.prog X.w) X.A (truthy v) (TP X pins σ Q) X.xe s
def tOp (r : R2) (ta tb : TE) : TE := fun σ H Q => ta σ H fun x H1 => tb σ H1 fun y H2 => r x y H2 Q
def tUn (r : V → Hp → VK → Prop) (ta : TE) : TE := fun σ H Q => ta σ H fun x H1 => r x H1 Q
def rI (C : Int → Int → Prop) (g : Int → Int → V) : R2 := fun x y H Q => ∃ i j, x = .int i ∧ y = .int j ∧ C i j ∧ Q (g i j) H
def rI0 (g : Int → Int → V) : R2 := fun x y H Q => ∃ i j, x = .int i ∧ y = .int j ∧ Q (g i j) H
def rU (g : Int → V) : V → Hp → VK → Prop := fun x H Q => ∃ i, x = .int i ∧ Q (g i) H
section
variable {X : Cx} {a b c : Expr} {ta tb tc : TE} {pos : Pos}
theorem binT (ha : PE X a ta) (hb : PE X b tb) {pins : List (Addr × Obj)} {s : Shared} {σ : St} {H : Hp} {R : V → V → Hp → Prop} (I : Inv X pins σ H s)
    (h : ta σ H fun x H1 => tb σ H1 fun y H2 => R x y H2) {Q : Value → Shared → Prop} {f : Value → Value → Sem Value}
    (hf : ∀ v u s2 x y H2, Inv X pins σ H2 s2 → RelV x v → RelV y u → R x y H2 → wpAny (model X.prog X.w) X.A (f v u) Q X.xe s2) :
    wpAny (model X.prog X.w) X.A (eval a X.env) (fun v s₁ => wpAny (model X.prog X.w) X.A (eval b X.env) (fun u s₂ => wpAny (model X.prog X.w) X.A (f v u) Q X.xe s₂) X.xe s₁) X.xe s := by
  refine thn (ha pins s σ H _ I h) fun v s1 ⟨x, H1, I1, r1, q1⟩ => ?_
  refine thn (hb pins s1 σ H1 _ I1 q1) fun u s2 ⟨y, H2, I2, r2, q2⟩ => ?_
  exact hf v u s2 x y H2 I2 r1 r2 q2
theorem pe_op {op : Operator} {r : R2} (ho : OpR X (binaryOp op) r) (ha : PE X a ta) (hb : PE X b tb) : PE X (.BinOp a op b pos) (tOp r ta tb) := by
  intro pins s σ H Q I h
  exact wpAny_BinOp (binT ha hb I h fun v u s2 x y H2 I2 rx ry q => ho pins s2 σ H2 x y v u Q I2 rx ry q)
theorem pe_un {op : UnaryOp} {r : V → Hp → VK → Prop} (ho : UnR X (unaryOp op) r) (ha : PE X a ta) : PE X (.UnaryOp op a pos) (tUn r ta) := by
  intro pins s σ H Q I h
  exact UnaryOp_ (thn (ha pins s σ H _ I h) fun v s1 ⟨x, H1, I1, r1, q1⟩ => ho pins s1 σ H1 x v Q I1 r1 q1)
theorem opI {f : Value → Value → Sem Value} {C : Int → Int → Prop} {g : Int → Int → Int}
    (rule : ∀ (i j : Int) (t u : Tok) (s : Shared) (Q : Value → Shared → Prop) (E : Value → Shared → Prop), C i j → Q (.int (g i j) s.toks) { s with toks := s.toks + 1 } → wpAny (model X.prog X.w) X.A (f (.int i t) (.int j u)) Q E s) :
    OpR X f (rI C fun i j => .int (g i j)) := by
  intro pins s σ H x y v u Q I rx ry h
  obtain ⟨i, j, rfl, rfl, hc, q⟩ := h
  obtain ⟨t, rfl⟩ := rx
  obtain ⟨t', rfl⟩ := ry
  exact rule i j t t' s _ _ hc ⟨.int (g i j), H, I.tok _, ⟨_, rfl⟩, q⟩
theorem opI0 {f : Value → Value → Sem Value} {g : Int → Int → Int}
    (rule : ∀ (i j : Int) (t u : Tok) (s : Shared) (Q : Value → Shared → Prop) (E : Value → Shared → Prop), Q (.int (g i j) s.toks) { s with toks := s.toks + 1 } → wpAny (model X.prog X.w) X.A (f (.int i t) (.int j u)) Q E s) :
    OpR X f (rI0 fun i j => .int (g i j)) := by
  intro pins s σ H x y v u Q I rx ry h
  obtain ⟨i, j, rfl, rfl, q⟩ := h
  obtain ⟨t, rfl⟩ := rx
  obtain ⟨t', rfl⟩ := ry
  exact rule i j t t' s _ _ ⟨.int (g i j), H, I.tok _, ⟨_, rfl⟩, q⟩
theorem opB0 {f : Value → Value → Sem Value} {g : Int → Int → Bool}
    (rule : ∀ (i j : Int) (t u : Tok) (s : Shared) (Q : Value → Shared → Prop) (E : Value → Shared → Prop), Q (.bool (g i j)) s → wpAny (model X.prog X.w) X.A (f (.int i t) (.int j u)) Q E s) :
    OpR X f (rI0 fun i j => .bl (g i j)) := by
  intro pins s σ H x y v u Q I rx ry h
  obtain ⟨i, j, rfl, rfl, q⟩ := h
  obtain ⟨t, rfl⟩ := rx
  obtain ⟨t', rfl⟩ := ry
  exact rule i j t t' s _ _ ⟨.bl (g i j), H, I, rfl, q⟩
def CDiv (i j : Int) : Prop := 0 < j ∧ j < 1073741824
def CPow (i j : Int) : Prop := 0 ≤ j ∧ j ≤ 1000000 ∧ i.natAbs < 2 ^ 64
def CMul (i j : Int) : Prop := (-(2 ^ 64) < i ∧ i < 2 ^ 64) ∨ (-(2 ^ 64) < j ∧ j < 2 ^ 64)
theorem CMul.ok {i j : Int} (h : CMul i j) : IntMulOk i j := by
  rcases h with ⟨h1, h2⟩ | ⟨h1, h2⟩
  · exact .of_left (intBits_le_64 h1 h2)
  · exact .of_right (intBits_le_64 h1 h2)
theorem op_add : OpR X (binaryOp .Add) (rI0 fun i j => .int (i + j)) := opI0 fun _ _ _ _ _ _ _ q => add_int q
theorem op_sub : OpR X (binaryOp .Sub) (rI0 fun i j => .int (i - j)) := opI0 fun _ _ _ _ _ _ _ q => sub_int q
theorem op_mul : OpR X (binaryOp .Mult) (rI CMul fun i j => .int (i * j)) := opI fun _ _ _ _ _ _ _ hc q => mul_int q hc.ok
theorem op_fdiv : OpR X (binaryOp .FloorDiv) (rI CDiv fun i j => .int (i / j)) := opI fun i j _ _ _ _ _ hc q => by
  have h1 : (0 : Int) < j := hc.1
  have h2 : j < 1073741824 := hc.2
  exact floordiv_int (by omega) (by rw [Int.fdiv_eq_ediv_of_nonneg i (by omega)]; exact q) (.inl (PyProof.noPylong_small (by omega)))
theorem op_mod : OpR X (binaryOp .Mod) (rI (fun _ j => 0 < j) fun i j => .int (i % j)) := opI fun i j _ _ _ _ _ hc q => by
  have h1 : (0 : Int) < j := hc
  exact mod_int' (by omega) (by rw [Int.fmod_eq_emod_of_nonneg i (by omega)]; exact q)
theorem op_pow : OpR X (binaryOp .Pow) (rI CPow fun i j => .int (i ^ j.toNat)) := opI fun _ _ _ _ _ _ _ hc q => pow_int_small hc.1 hc.2.1 hc.2.2 q
theorem unI {f : Value → Sem Value} {g : Int → Int}
    (rule : ∀ (i : Int) (t : Tok) (s : Shared) (Q : Value → Shared → Prop) (E : Value → Shared → Prop), Q (.int (g i) s.toks) { s with toks := s.toks + 1 } → wpAny (model X.prog X.w) X.A (f (.int i t)) Q E s) :
    UnR X f (rU fun i => .int (g i)) := by
  intro pins s σ H x v Q I rx h
  obtain ⟨i, rfl, q⟩ := h
  obtain ⟨t, rfl⟩ := rx
  exact rule i t s _ _ ⟨.int (g i), H, I.tok _, ⟨_, rfl⟩, q⟩
theorem un_neg : UnR X (unaryOp .USub) (rU fun i => .int (-i)) := unI fun _ _ _ _ _ q => neg_int q
end
def scal : V → V → Bool
  | .non, .non => true | .non, .int _ => true | .int _, .non => true | .non, .bl _ => true | .bl _, .non => true | .non, .str _ => true | .str _, .non => true
  | .int _, .int _ => true | .bl _, .bl _ => true | .str _, .str _ => true | .byt _, .byt _ => true
  | .int _, .str _ => true | .str _, .int _ => true | .bl _, .str _ => true | .str _, .bl _ => true
  | _, _ => false
def rEq : R2 := fun x y H Q => scal x y = true ∧ Q (.bl (decide (x = y))) H
def rNe : R2 := fun x y H Q => scal x y = true ∧ Q (.bl (!decide (x = y))) H
theorem dec_int {i j : Int} : decide (V.int i = V.int j) = (i == j) := by
  rw [Bool.eq_iff_iff]
  simp
theorem dec_bl {i j : Bool} : decide (V.bl i = V.bl j) = (i == j) := by
  rw [Bool.eq_iff_iff]
  simp
theorem dec_str {i j : Str} : decide (V.str i = V.str j) = (i == j) := by
  rw [Bool.eq_iff_iff]
  simp
theorem dec_byt {i j : Array UInt8} : decide (V.byt i = V.byt j) = (i.toList == j.toList) := by
  rw [Bool.eq_iff_iff]
  cases i
  cases j
  simp
section
variable {X : Cx} {a b c : Expr} {ta tb tc : TE} {pos : Pos}
theorem fin_bl {pins : List (Addr × Obj)} {σ : St} {H : Hp} {s : Shared} {Q : VK} {k k' : Bool} (I : Inv X pins σ H s) (q : Q (.bl k) H) (e : k = k') : EP X pins σ Q (.bool k') s := by
  subst e
  exact ⟨.bl k, H, I, rfl, q⟩
theorem op_eq : OpR X (compareOp .Eq) rEq := by
  intro pins s σ H x y v u Q I rx ry h
  obtain ⟨hs, q⟩ := h
  cases x with
  | non =>
    cases rx
    cases y with
    | non => cases ry; exact PySem.EqNone.eq_none_none (fin_bl I q (by simp))
    | bl j => cases ry; exact PySem.EqNone.eq_none_bool (fin_bl I q (by simp))
    | int j => obtain ⟨t', rfl⟩ := ry; exact PySem.EqNone.eq_none_int (fin_bl I q (by simp))
    | str j => obtain ⟨t', rfl⟩ := ry; exact PySem.EqNone.eq_none_str (fin_bl I q (by simp))
    | _ => exact absurd (show false = true from hs) Bool.false_ne_true
  | bl i =>
    cases rx
    cases y with
    | non => cases ry; exact PySem.EqNone.eq_bool_none (fin_bl I q (by simp))
    | bl j => cases ry; exact eq_bool (fin_bl I q dec_bl)
    | str j => obtain ⟨t', rfl⟩ := ry; exact PySem.EqMixed.eq_bool_str (fin_bl I q (by simp))
    | _ => exact absurd (show false = true from hs) Bool.false_ne_true
  | int i =>
    obtain ⟨t, rfl⟩ := rx
    cases y with
    | non => cases ry; exact PySem.EqNone.eq_int_none (fin_bl I q (by simp))
    | int j => obtain ⟨t', rfl⟩ := ry; exact eq_int (fin_bl I q dec_int)
    | str j => obtain ⟨t', rfl⟩ := ry; exact PySem.EqMixed.eq_int_str (fin_bl I q (by simp))
    | _ => exact absurd (show false = true from hs) Bool.false_ne_true
  | str i =>
    obtain ⟨t, rfl⟩ := rx
    cases y with
    | non => cases ry; exact PySem.EqNone.eq_str_none (fin_bl I q (by simp))
    | bl j => cases ry; exact PySem.EqMixed.eq_str_bool (fin_bl I q (by simp))
    | int j => obtain ⟨t', rfl⟩ := ry; exact PySem.EqMixed.eq_str_int (fin_bl I q (by simp))
    | str j => obtain ⟨t', rfl⟩ := ry; exact eq_str (fin_bl I q dec_str)
    | _ => exact absurd (show false = true from hs) Bool.false_ne_true
  | byt i =>
    obtain ⟨t, rfl⟩ := rx
    cases y with
    | byt j => obtain ⟨t', rfl⟩ := ry; exact PySem.W.eq_bytes (fin_bl I q dec_byt)
    | _ => exact absurd (show false = true from hs) Bool.false_ne_true
  | _ => cases y <;> exact absurd (show false = true from hs) Bool.false_ne_true
theorem op_ne : OpR X (compareOp .NotEq) rNe := by
  intro pins s σ H x y v u Q I rx ry h
  obtain ⟨hs, q⟩ := h
  cases x with
  | non =>
    cases rx
    cases y with
    | non => cases ry; exact PySem.EqNone.ne_none_none (fin_bl I q (by simp))
    | bl j => cases ry; exact PySem.EqNone.ne_none_bool (fin_bl I q (by simp))
    | int j => obtain ⟨t', rfl⟩ := ry; exact PySem.EqNone.ne_none_int (fin_bl I q (by simp))
    | str j => obtain ⟨t', rfl⟩ := ry; exact PySem.EqNone.ne_none_str (fin_bl I q (by simp))
    | _ => exact absurd (show false = true from hs) Bool.false_ne_true
  | bl i =>
    cases rx
    cases y with
    | non => cases ry; exact PySem.EqNone.ne_bool_none (fin_bl I q (by simp))
    | bl j => cases ry; exact ne_bool (fin_bl I q (congrArg not dec_bl))
    | str j => obtain ⟨t', rfl⟩ := ry; exact PySem.EqMixed.ne_bool_str (fin_bl I q (by simp))
    | _ => exact absurd (show false = true from hs) Bool.false_ne_true
  | int i =>
    obtain ⟨t, rfl⟩ := rx
    cases y with
    | non => cases ry; exact PySem.EqNone.ne_int_none (fin_bl I q (by simp))
    | int j => obtain ⟨t', rfl⟩ := ry; exact ne_int (fin_bl I q (congrArg not dec_int))
    | str j => obtain ⟨t', rfl⟩ := ry; exact PySem.EqMixed.ne_int_str (fin_bl I q (by simp))
    | _ => exact absurd (show false = true from hs) Bool.false_ne_true
  | str i =>
    obtain ⟨t, rfl⟩ := rx
    cases y with
    | non => cases ry; exact PySem.EqNone.ne_str_none (fin_bl I q (by simp))
    | bl j => cases ry; exact PySem.EqMixed.ne_str_bool (fin_bl I q (by simp))
    | int j => obtain ⟨t', rfl⟩ := ry; exact PySem.EqMixed.ne_str_int (fin_bl I q (by simp))
    | str j => obtain ⟨t', rfl⟩ := ry; exact ne_str (fin_bl I q (congrArg not dec_str))
    | _ => exact absurd (show false = true from hs) Bool.false_ne_true
  | byt i =>
    obtain ⟨t, rfl⟩ := rx
    cases y with
    | byt j => obtain ⟨t', rfl⟩ := ry; exact PySem.W.ne_bytes (fin_bl I q (congrArg not dec_byt))
    | _ => exact absurd (show false = true from hs) Bool.false_ne_true
  | _ => cases y <;> exact absurd (show false = true from hs) Bool.false_ne_true
theorem op_lt : OpR X (compareOp .Lt) (rI0 fun i j => .bl (decide (i < j))) := opB0 fun _ _ _ _ _ _ _ q => lt_int q
theorem op_le : OpR X (compareOp .LtE) (rI0 fun i j => .bl (decide (i ≤ j))) := opB0 fun _ _ _ _ _ _ _ q => le_int q
theorem op_gt : OpR X (compareOp .Gt) (rI0 fun i j => .bl (decide (j < i))) := opB0 fun _ _ _ _ _ _ _ q => gt_int q
theorem op_in_str : OpR X (compareOp .In) (fun x y H Q => ∃ i j, x = .str i ∧ y = .str j ∧ Q (.bl (!(Builtin.Str.occurrences j i 0 j.length 1).isEmpty)) H) := by
  intro pins s σ H x y v u Q I rx ry h
  obtain ⟨i, j, rfl, rfl, q⟩ := h
  obtain ⟨t, rfl⟩ := rx
  obtain ⟨t', rfl⟩ := ry
  exact in_str (fin_bl I q rfl)
theorem op_isN : OpR X (compareOp .Is) (fun x y H Q => y = .non ∧ Q (.bl (decide (x = .non))) H) := by
  intro pins s σ H x y v u Q I rx ry h
  obtain ⟨rfl, q⟩ := h
  cases ry
  refine is_none_gen (fin_bl I q ?_)
  cases x <;> first
    | (cases rx; rfl)
    | (obtain ⟨t, rfl⟩ := rx; rfl)
theorem OpR.or {f : Value → Value → Sem Value} {r r' : R2} (h : OpR X f r) (h' : OpR X f r') : OpR X f (fun x y H Q => r x y H Q ∨ r' x y H Q) := by
  intro pins s σ H x y v u Q I rx ry q
  rcases q with q | q
  · exact h pins s σ H x y v u Q I rx ry q
  · exact h' pins s σ H x y v u Q I rx ry q
theorem nomark (b : Expr) {op : CmpOp} (h : op ≠ .In := by decide) (h2 : op ≠ .NotIn := by decide) : behindInMarks op b = false := by
  have e1 : (op == CmpOp.In) = false := by cases op <;> first | rfl | exact absurd rfl h
  have e2 : (op == CmpOp.NotIn) = false := by cases op <;> first | rfl | exact absurd rfl h2
  cases b <;> simp [behindInMarks, e1, e2]
theorem pe_cmpR {op : CmpOp} {r : R2} (ho : OpR X (compareOp op) r) (ha : PE X a ta) (hb : PE X b tb) (hm : behindInMarks op b = false) : PE X (.Compare a [op] [b] pos) (tOp r ta tb) := by
  intro pins s σ H Q I h
  exact wpAny_Compare1 (binT ha hb I h fun v u s2 x y H2 I2 rx ry q => ho pins s2 σ H2 x y v u Q I2 rx ry q) hm
def tTest (t : TE) : TT := fun σ H Q => t σ H fun x H' => ∃ k, x = .bl k ∧ Q k H'
theorem pt_cmpR {op : CmpOp} {r : R2} (ho : OpR X (compareOp op) r) (ha : PE X a ta) (hb : PE X b tb) (hm : behindInMarks op b = false) : PT X (.Compare a [op] [b] pos) (tTest (tOp r ta tb)) := by
  intro pins s σ H Q I h
  refine wpAny_isTrue_Compare1 (thn (ha pins s σ H _ I h) fun v s1 ⟨x, H1, I1, r1, q1⟩ => thn (hb pins s1 σ H1 _ I1 q1) fun u s2 ⟨y, H2, I2, r2, q2⟩ =>
    thn (ho pins s2 σ H2 x y v u _ I2 r1 r2 q2) fun c s3 ⟨z, H3, I3, r3, k, e, q3⟩ => ?_) hm
  subst e
  cases r3
  exact wpAny_truthy_bool ⟨H3, I3, q3⟩
def tChain (r r' : R2) (ta tb tc : TE) : TE := fun σ H Q => ta σ H fun x H1 => tb σ H1 fun y H2 => r x y H2 fun z H3 => ∃ k, z = .bl k ∧
  (if k = true then tc σ H3 fun w' H4 => r' y w' H4 Q else Q (.bl false) H3)
theorem pe_chain {op op' : CmpOp} {r r' : R2} (ho : OpR X (compareOp op) r) (ho' : OpR X (compareOp op') r') (ha : PE X a ta) (hb : PE X b tb) (hc : PE X c tc)
    (hm : lastMarks [op, op'] [b, c] = false := by with_unfolding_all rfl) : PE X (.Compare a [op, op'] [b, c] pos) (tChain r r' ta tb tc) := by
  intro pins s σ H Q I h
  refine Compare_chain (thn (ha pins s σ H _ I h) fun v s1 ⟨x, H1, I1, r1, q1⟩ => chain_link (thn (hb pins s1 σ H1 _ I1 q1) fun u s2 ⟨y, H2, I2, r2, q2⟩ =>
    thn (ho pins s2 σ H2 x y v u _ I2 r1 r2 q2) fun d s3 ⟨z, H3, I3, r3, k, e, q3⟩ => ?_)) hm
  subst e
  cases r3
  refine wpAny_truthy_bool ?_
  cases k with
  | false => exact ite_ff ⟨.bl false, H3, I3, rfl, q3⟩
  | true => exact ite_tt (chain_last (thn (hc pins s3 σ H3 _ I3 q3) fun w' s4 ⟨z', H4, I4, r4, q4⟩ => ho' pins s4 σ H4 y z' u w' Q I4 r2 r4 q4))
theorem pt_chain {op op' : CmpOp} {r r' : R2} (ho : OpR X (compareOp op) r) (ho' : OpR X (compareOp op') r') (ha : PE X a ta) (hb : PE X b tb) (hc : PE X c tc)
    (hm : lastMarks [op, op'] [b, c] = false := by with_unfolding_all rfl) : PT X (.Compare a [op, op'] [b, c] pos) (tTest (tChain r r' ta tb tc)) := by
  intro pins s σ H Q I h
  refine isTrue_chain (thn (ha pins s σ H _ I h) fun v s1 ⟨x, H1, I1, r1, q1⟩ => test_link (thn (hb pins s1 σ H1 _ I1 q1) fun u s2 ⟨y, H2, I2, r2, q2⟩ =>
    thn (ho pins s2 σ H2 x y v u _ I2 r1 r2 q2) fun d s3 ⟨z, H3, I3, r3, k, e, q3⟩ => ?_)) hm
  subst e
  cases r3
  refine wpAny_truthy_bool ?_
  cases k with
  | false =>
    obtain ⟨k', e', q'⟩ := q3
    cases e'
    exact ite_ff ⟨H3, I3, q'⟩
  | true =>
    refine ite_tt (test_last (thn (hc pins s3 σ H3 _ I3 q3) fun w' s4 ⟨z', H4, I4, r4, q4⟩ => thn (ho' pins s4 σ H4 y z' u w' _ I4 r2 r4 q4) fun d' s5 ⟨z2, H5, I5, r5, k2, e2, q5⟩ => ?_))
    subst e2
    cases r5
    exact wpAny_truthy_bool ⟨H5, I5, q5⟩
def TruV (K : PySem.W.Frag) (x : V) (H : Hp) (k : Bool) : Prop :=
  match x with
  | .non => k = false
  | .bl b => k = b
  | .int i => k = (i != 0)
  | .str y => y.length ≤ sizeLine ∧ k = ((y.length : Int) != 0)
  | .byt y => y.size ≤ sizeLine ∧ k = ((y.size : Int) != 0)
  | .ref p => (∃ xs, SqL K H p xs ∧ k = !xs.isEmpty) ∨ (∃ xs, SqT K H p xs ∧ k = !xs.isEmpty) ∨ ∃ kvs, H p = some (.dK kvs) ∧ k = !kvs.isEmpty
  | _ => False
theorem isEmpty_kv {κ : Type} {kvs : List (κ × V)} {vs : List (κ × Value)} (r : KV kvs vs) : (!vs.isEmpty) = !kvs.isEmpty := by
  cases r <;> rfl
theorem isEmpty_of {xs : List V} {its : List Value} (r : Vals xs its) : (!its.toArray.isEmpty) = !xs.isEmpty := by
  cases r <;> simp
theorem line63 : (sizeLine : Nat) < 2 ^ 63 := by rw [sizeLine_eq]; decide
theorem tru_ok : TruR X (fun x H Q => ∃ k, TruV X.K x H k ∧ Q k H) := by
  intro pins s σ H x v Q I rx h
  obtain ⟨k, e, q⟩ := h
  have hl := line63
  have hs : sizeLine = 16777216 := sizeLine_eq
  cases x with
  | non =>
    cases rx
    have e' : k = false := e
    subst e'
    exact truthy_none ⟨H, I, q⟩
  | bl b =>
    cases rx
    have e' : k = b := e
    subst e'
    exact wpAny_truthy_bool ⟨H, I, q⟩
  | int i =>
    obtain ⟨t, rfl⟩ := rx
    have e' : k = (i != 0) := e
    subst e'
    exact PySem.P.truthy_int ⟨H, I, q⟩
  | str y =>
    obtain ⟨t, rfl⟩ := rx
    obtain ⟨hy, e'⟩ : y.length ≤ sizeLine ∧ k = ((y.length : Int) != 0) := e
    subst e'
    exact PySem.P.truthy_str (by omega) ⟨H, I.tok _, q⟩
  | byt y =>
    obtain ⟨t, rfl⟩ := rx
    obtain ⟨hy, e'⟩ : y.size ≤ sizeLine ∧ k = ((y.size : Int) != 0) := e
    subst e'
    exact PySem.W.truthy_bytes (by omega) ⟨H, I.tok _, q⟩
  | ref p =>
    cases rx
    have e' : (∃ xs, SqL X.K H p xs ∧ k = !xs.isEmpty) ∨ (∃ xs, SqT X.K H p xs ∧ k = !xs.isEmpty) ∨ ∃ kvs, H p = some (.dK kvs) ∧ k = !kvs.isEmpty := e
    rcases e' with ⟨xs, hx, e'⟩ | ⟨xs, hx, e'⟩ | ⟨kvs, hx, e'⟩
    · subst e'
      obtain ⟨its, r, pl, hz⟩ := I.list hx
      have hlen := r.length
      exact wpAny_truthy_list pl.isList (by simp only [List.size_toArray]; omega) ⟨H, I.tok _, by rw [isEmpty_of r]; exact q⟩
    · subst e'
      obtain ⟨its, r, pl, hz⟩ := I.tuple hx
      have hlen := r.length
      exact truthy_tuple pl (by simp only [List.size_toArray]; omega) ⟨H, I.tok _, by rw [isEmpty_of r]; exact q⟩
    · subst e'
      obtain ⟨hz, hS, vs, r, m⟩ : kvs.length ≤ sizeLine ∧ (p == sysModules) = false ∧ ∃ vs, KV kvs vs ∧ s.heap.DictOf (mixKind X.prog X.w) p vs := I.hok p _ hx
      have hlen : kvs.length = vs.length := Paired.length r
      exact wpAny_truthy_dict hS m (by omega) ⟨H, I.tok _, by rw [isEmpty_kv r]; exact q⟩
  | _ => exact (show False from e).elim
theorem pt_truth (ha : PE X a ta) (he : ∀ whole, isTrue a X.env whole = (do let v ← whole; standAt a.pos; holding [v] (truthy v))) :
    PT X a (fun σ H Q => ta σ H fun x H' => ∃ k, TruV X.K x H' k ∧ Q k H') := by
  intro pins s σ H Q I h
  exact isTrue_plain (thn (ha pins s σ H _ I h) fun v s1 ⟨x, H1, I1, r1, q1⟩ => tru_ok pins s1 σ H1 x v Q I1 r1 q1) (he _)
theorem op_add_str : OpR X (binaryOp .Add) (fun x y H Q => ∃ i j, x = .str i ∧ y = .str j ∧ i.length + j.length ≤ sizeLine ∧ Q (.str (i ++ j)) H) := by
  intro pins s σ H x y v u Q I rx ry h
  obtain ⟨i, j, rfl, rfl, hz, q⟩ := h
  obtain ⟨t, rfl⟩ := rx
  obtain ⟨t', rfl⟩ := ry
  exact add_str (fun t' tk => ⟨.str (i ++ j), H, I.tok _, ⟨_, rfl⟩, q⟩) hz
def PlainIxT (b : Expr) : Prop := ∀ o i, subscripted b false o i = operate [o, i] (getItem o i)
theorem pe_item_str (ha : PE X a ta) (hb : PE X b tb) (hs : PlainIxT b) :
    PE X (.Subscript a b pos) (tOp (fun x y H Q => ∃ z i c, x = .str z ∧ y = .int i ∧ 0 ≤ i ∧ i < 2 ^ 63 ∧ i < z.length ∧ z.cps[i.toNat]? = some c ∧ Q (.str ⟨#[c]⟩) H) ta tb) := by
  intro pins s σ H Q I h
  refine Subscript_ (binT ha hb I h fun v u s2 x y H2 I2 rx ry q => ?_)
  obtain ⟨z, i, c, rfl, rfl, h0, h63, h1, hc, q⟩ := q
  obtain ⟨t, rfl⟩ := rx
  obtain ⟨t', rfl⟩ := ry
  have e : seqIndex? i z.length = some i.toNat := PySem.StrLaws.seqIndex_nonneg h0 h1
  exact tail_any (typeIs_str s2 z t) slot_str_getitem.lookup (getItem_str (c := c) (by
    have e1 : decide (i < -(2 ^ 63 : Int)) = false := decide_eq_false (by omega)
    have e2 : decide (i ≥ 2 ^ 63) = false := decide_eq_false (by omega)
    rw [e1, e2] <;> rfl) (by rw [e]; exact hc) ⟨.str ⟨#[c]⟩, H2, I2.tok _, ⟨_, rfl⟩, q⟩) (hs _ _)
theorem vals1 {x : V} {us : List Value} (r : Vals [x] us) : ∃ u, us = [u] ∧ RelV x u := by
  cases r with
  | cons r1 r2 => cases r2; exact ⟨_, rfl, r1⟩
theorem vals2 {x y : V} {us : List Value} (r : Vals [x, y] us) : ∃ u w', us = [u, w'] ∧ RelV x u ∧ RelV y w' := by
  cases r with
  | cons r1 r2 =>
    cases r2 with
    | cons r3 r4 => cases r4; exact ⟨_, _, rfl, r1, r3⟩
theorem call_min2 (hc : X.calm = true) : CallR X (.builtin "min") (fun xs H Q => ∃ i j, xs = [.int i, .int j] ∧ Q (.int (if j < i then j else i)) H) := by
  intro pins s σ H xs us Q I r h
  obtain ⟨i, j, rfl, q⟩ := h
  obtain ⟨u, w', rfl, ⟨t, rfl⟩, ⟨t', rfl⟩⟩ := vals2 r
  refine min_two_ints (I.ok.hd hc) fun h' tk k => ⟨_, H, I.kept k, ?_, q⟩
  by_cases hj : j < i
  · rw [if_pos hj, if_pos hj]; exact ⟨_, rfl⟩
  · rw [if_neg hj, if_neg hj]; exact ⟨_, rfl⟩
theorem call_int1 : CallR X (.type "int") (fun xs H Q => (∃ i, xs = [.int i] ∧ Q (.int i) H) ∨ ∃ k, xs = [.bl k] ∧ Q (.int (if k then 1 else 0)) H) := by
  intro pins s σ H xs us Q I r h
  rcases h with ⟨i, rfl, q⟩ | ⟨k, rfl, q⟩
  · obtain ⟨u, rfl, t, rfl⟩ := vals1 r
    exact call_int_int ⟨.int i, H, I, ⟨_, rfl⟩, q⟩
  · obtain ⟨u, rfl, r1⟩ := vals1 r
    cases r1
    exact call_int_bool ⟨.int (if k then 1 else 0), H, I.tok _, ⟨_, rfl⟩, q⟩
end
end L2
namespace L2
open PySem PySem.Spec PyProof.Rows
section
variable {prog : Program} {w : World} {A : Around} {E : Value → Shared → Prop} {s : Shared} {K : PySem.W.Frag} {x dx C f : Addr} {mA : Str → Option Value} {name : Str} {v : Value}
end
theorem RelO.some_of {v : V} {o : Option Value} (r : RelO (some v) o) : ∃ u, o = some u ∧ RelV v u := by
  cases o with
  | none => exact (show False from r).elim
  | some u => exact ⟨u, rfl, r⟩
section
variable {P : Program} {w : World} {H H' : Hp} {h h' : Heap} {a C dx : Addr} {fs fs' : List (Str × V)}
end
section
variable {X : Cx} {pins : List (Addr × Obj)} {σ : St} {H : Hp} {s : Shared} {a C dx : Addr} {fs : List (Str × V)} {f : Str} {v : V} {A : Around} {E : Value → Shared → Prop}
end
section
variable {X : Cx} {o e value : Expr} {f : Str} {pos pos' tpos : Pos} {ta tv : TE}
end
section
variable {X : Cx} {pins : List (Addr × Obj)} {σ : St} {H : Hp} {s : Shared} {A : Around} {E : Value → Shared → Prop} {Q : Value → Shared → Prop} {c : Value} {b : Bool}
end
end L2
namespace L2
open PySem PySem.Spec PyProof.Rows
structure Room (k : Nat) (A : Around) : Prop where
  hd : A.handled = none
  dp : A.depth + 3 * k + 5 < recursionLimit
  un : A.units + 16 * k + 200 < cLine
theorem Room.mono {j k : Nat} {A : Around} (r : Room k A) (h : j ≤ k) : Room j A := ⟨r.hd, by have := r.dp; omega, by have := r.un; omega⟩
theorem Room.deeper {k : Nat} {A : Around} (r : Room (k + 1) A) (env : Env) : Room k (A.deeper env) :=
  ⟨r.hd, by have := r.dp; show A.depth + 1 + 3 * k + 5 < _; omega, by have := r.un; show A.units + 3 + 16 * k + 200 < _; omega⟩
theorem Room.depth {k : Nat} {A : Around} (r : Room k A) : A.depth < recursionLimit := by have := r.dp; omega
theorem Room.units {k : Nat} {A : Around} (r : Room k A) : A.units + 64 < cLine := by have := r.un; omega
def tNil : TA := fun _ H Q => Q [] H
def tCons (ta : TE) (tr : TA) : TA := fun σ H Q => ta σ H fun x H1 => tr σ H1 fun xs H2 => Q (x :: xs) H2
section
variable {X : Cx} {e : Expr} {es : List Expr} {te : TE} {t : TA} {pos : Pos}
theorem pa_nil : PA X [] tNil := fun _ _ _ _ H Q I h => Calls.spliced_nil ⟨[], H, I, .nil, h⟩
theorem pa_cons (ha : PE X e te) (hr : PA X es t) (hs : starEach (e :: es) X.env = (false, eval e X.env) :: starEach es X.env := by rfl) : PA X (e :: es) (tCons te t) := by
  intro pos pins s σ H Q I h
  rw [hs]
  show wpAny _ _ (spliced ((false, eval e X.env) :: backTo pos (starEach es X.env))) _ _ s
  refine Calls.spliced_cons (thn (ha pins s σ H _ I h) fun u s1 ⟨x, H1, I1, r1, q1⟩ => ?_)
  exact thn (hr pos pins s1 σ H1 _ I1 q1) fun us s2 ⟨xs, H2, I2, r2, q2⟩ => ⟨x :: xs, H2, I2, .cons r1 r2, q2⟩
end
abbrev Sp := List V → Hp → VK → XK → Prop
abbrev CXT := List Env → Hp → Shared → XK → Value → Shared → Prop
structure Env0 (P : Program) (w : World) (K : PySem.W.Frag) (mg : Str → Option Value) (base : Heap) (A : Around) (outer : List Env) (s : Shared) (H : Hp) : Prop where
  frames : A.frames = some outer
  mod : Mod K mg base
  bs : ∀ b o, base.get? b = some o → s.heap.get? b = some o ∧ H b = none
  bsz : base.objs.size ≤ s.heap.objs.size
  funs : s.heap.FunFrames base outer
  frf : ∀ b ∈ frs outer, H b = none
  hok : HOk P w H s.heap
  bare : AllBare s.gens
def CE (outer : List Env) (P : Program) (w : World) (H : Hp) (s : Shared) (Q : VK) (u : Value) (s' : Shared) : Prop :=
  ∃ v H', s'.os = s.os ∧ AllBare s'.gens ∧ Un (frs outer) [] H H' s.heap s'.heap ∧ HOk P w H' s'.heap ∧ RelV v u ∧ Q v H'
def CR (CX : CXT) (outer : List Env) (P : Program) (w : World) (H : Hp) (s : Shared) (Q : VK) (E : XK) (r : Result) (s' : Shared) : Prop :=
  match r with
  | .ok (.ret u) => CE outer P w H s Q u s'
  | .ok _ => False
  | .error e => CX outer H s E e s'
structure FnOk (P : Program) (w : World) (K : PySem.W.Frag) (mg : Str → Option Value) (base : Heap) (CX : CXT) (k : Nat) (f : Addr) (fd : FuncData) (ps : List Str) (sp : Sp) : Prop where
  len : ∀ vs H Q E, sp vs H Q E → vs.length = ps.length
  run : ∀ (A : Around) (outer : List Env) (s : Shared) (H : Hp) (args : Args) (us : List Value) (vs : List V) (Q : VK) (E : XK), Room k A → Env0 P w K mg base A outer s H → BindsTo s fd args (ps.zip us) → Vals vs us → sp vs H Q E →
    codeAny (model P w) A (.call (.ref f) args) (CR CX outer P w H s Q E) s
theorem FnOk.mono {P : Program} {w : World} {K : PySem.W.Frag} {mg : Str → Option Value} {base : Heap} {CX : CXT} {j k : Nat} {f : Addr} {fd : FuncData} {ps : List Str} {sp : Sp} (F : FnOk P w K mg base CX j f fd ps sp) (h : j ≤ k) :
    FnOk P w K mg base CX k f fd ps sp := ⟨F.len, fun A outer s H args us vs Q E hr => F.run A outer s H args us vs Q E (hr.mono h)⟩
theorem FnOk.imp {P : Program} {w : World} {K : PySem.W.Frag} {mg : Str → Option Value} {base : Heap} {CX : CXT} {k : Nat} {f : Addr} {fd : FuncData} {ps : List Str} {sp sp' : Sp} (F : FnOk P w K mg base CX k f fd ps sp)
    (h : ∀ vs H Q E, sp' vs H Q E → sp vs H Q E) : FnOk P w K mg base CX k f fd ps sp' :=
  ⟨fun vs H Q E q => F.len vs H Q E (h _ _ _ _ q), fun A outer s H args us vs Q E hr he hb hv hs => F.run A outer s H args us vs Q E hr he hb hv (h _ _ _ _ hs)⟩
section
variable {X : Cx} {pins : List (Addr × Obj)} {σ : St} {H : Hp} {s s' : Shared}
theorem Inv.env0 (I : Inv X pins σ H s) : Env0 X.prog X.w X.K X.mg X.base X.A X.stack s H :=
  ⟨I.ok.frames, I.ok.mod, I.bs, Nat.le_trans I.ok.bsz I.sz, I.stack, I.stkFree, I.hok, I.bare⟩
theorem Inv.after {Q : VK} {u : Value} (I : Inv X pins σ H s) (h : CE X.stack X.prog X.w H s Q u s') : EP X pins σ Q u s' := by
  obtain ⟨v, H', os, bare, un, hok, r, q⟩ := h
  obtain ⟨hh, g, d, t, os'⟩ := s'
  obtain rfl : os' = s.os := os
  exact ⟨v, H', I.call (h' := hh) (g' := g) (d' := d) (t' := t) (ch := []) un hok bare (fun b z => absurd z (by simp)), r, q⟩
end
def tCall (sp : Sp) (dvs : List V) (E : XK) (t : TA) : TE := fun σ H Q => t σ H fun vs H1 => sp (vs ++ dvs) H1 Q E
def Binds (K : PySem.W.Frag) (fd : FuncData) (ps : List Str) (ds : List Value) : Prop :=
  ∀ (s : Shared) (us : List Value), K.In s.heap → (us ++ ds).length = ps.length → BindsTo s fd ⟨us, []⟩ (ps.zip (us ++ ds))
theorem Binds.all {K : PySem.W.Frag} {fd : FuncData} {ps : List Str} (h : ∀ us : List Value, us.length = ps.length → bindArgs fd ⟨us, []⟩ = pure (ps.zip us)) : Binds K fd ps [] := fun s us _ hl => by
  rw [List.append_nil] at hl ⊢
  exact .of_eq (h us hl)
def Passes (CX : CXT) (X : Cx) (E : XK) : Prop := ∀ (pins : List (Addr × Obj)) (σ : St) (H : Hp) (s : Shared) (e : Value) (s' : Shared), Inv X pins σ H s → CX X.stack H s E e s' → X.xe e s'
section
variable {X : Cx} {CX : CXT} {k : Nat} {f C : Addr} {fd : FuncData} {ps : List Str} {sp : Sp} {dvs : List V} {ds : List Value} {E : XK} {x m : Str} {p pos apos : Pos} {e o : Expr} {es : List Expr} {ta : TE} {t : TA}
theorem run_fn {pins : List (Addr × Obj)} {σ : St} {H : Hp} {s : Shared} {Q : VK} {us : List Value} {vs : List V} (F : FnOk X.prog X.w X.K X.mg X.base CX k f fd ps sp) (hr : Room k X.A) (hb : Binds X.K fd ps ds) (hd : Vals dvs ds) (hx : Passes CX X E)
    (I : Inv X pins σ H s) (r : Vals vs us) (h : sp (vs ++ dvs) H Q E) : wpAny (model X.prog X.w) X.A (call (.ref f) us) (EP X pins σ Q) X.xe s := by
  have r2 : Vals (vs ++ dvs) (us ++ ds) := r.append hd
  have hl : (us ++ ds).length = ps.length := by rw [← r2.length]; exact F.len _ _ _ _ h
  refine wpAny_call (codeAny_mono (F.run X.A X.stack s H ⟨us, []⟩ (us ++ ds) (vs ++ dvs) Q E hr I.env0 (hb s us I.kIn hl) r2 h) fun r s' hq => ?_)
  cases r with
  | error e => exact hx pins σ H s e s' I hq
  | ok fl =>
    cases fl with
    | ret u => exact I.after hq
    | next => exact False.elim hq
    | brk => exact False.elim hq
    | cont => exact False.elim hq
theorem pe_call (F : FnOk X.prog X.w X.K X.mg X.base CX k f fd ps sp) (hr : Room k X.A) (hg : Gl X x) (hm : X.mg x = some (.ref f)) (hk : PySem.W.keepIn X.K (.ref f) = true) (hb : Binds X.K fd ps ds) (hd : Vals dvs ds) (hx : Passes CX X E)
    (ha : PA X (e :: es) t) (hdb : (x == ("__debug__" : Str)) = false := by decide) (he : starEach (e :: es) X.env = (false, eval e X.env) :: starEach es X.env := by rfl) (hpl : (backTo pos (starEach es X.env)).any (·.1) = false := by rfl) :
    PE X (.Call (.Name x p) (e :: es) [] pos) (tCall sp dvs E t) := by
  intro pins s σ H Q I h
  refine wpAny_Call_Name_kw (ld_glob I hg hm ?_ hdb)
  refine PySem.W.callWith_K (h₀ := X.base) I.ok.mod.kin hk (thn (ha pos pins s σ H _ I h) fun us s1 ⟨vs, H1, I1, r, q⟩ => ⟨I1.kIn, ?_⟩) he hpl
  exact run_fn F hr hb hd hx I1 r q
theorem pe_call0 (F : FnOk X.prog X.w X.K X.mg X.base CX k f fd ps sp) (hr : Room k X.A) (hg : Gl X x) (hm : X.mg x = some (.ref f)) (hk : PySem.W.keepIn X.K (.ref f) = true) (hb : Binds X.K fd ps ds) (hd : Vals dvs ds) (hx : Passes CX X E)
    (hdb : (x == ("__debug__" : Str)) = false := by decide) : PE X (.Call (.Name x p) [] [] pos) (tCall sp dvs E tNil) := by
  intro pins s σ H Q I h
  refine wpAny_Call_Name_kw (ld_glob I hg hm ?_ hdb)
  exact PySem.W.callWith_K0 I.kIn hk (run_fn (us := []) F hr hb hd hx I .nil h)
end
section
variable {X : Cx} {CX : CXT} {k : Nat} {f C : Addr} {fd : FuncData} {ps ks : List Str} {sp : Sp} {E : XK} {x m : Str} {p pos apos kpos : Pos} {e o : Expr} {es : List Expr} {kws : List Keyword} {te ta : TE} {t tk : TA} {nm : Option Str}
variable {g : List Value → List Value → List Value} {gV : List V → List V → List V}
end
structure FnScope (N P : List Str) (sc : Scope) : Prop where
  kind : sc.kind = .function
  co : sc.isCoroutine = false
  gen : sc.isGenerator = false
  nd : N.Nodup
  pre : N.take P.length = P
  par : ∀ x ∈ P, sc.names.lookup x = some .local ∨ sc.names.lookup x = some .cell
  nofree : ∀ y ∈ sc.names, y.2 ≠ .free
theorem bindL_out {kindOf : Str → Option NameKind} {x : Str} : ∀ {binds : List (Str × Value)} {m : Str → Option Value}, (∀ v, (x, v) ∉ binds) → bindL kindOf binds m x = m x
  | [], _, _ => rfl
  | (n, v) :: r, m, h => by
    unfold bindL
    rw [bindL_out fun w hw => h w (List.mem_cons_of_mem _ hw)]
    split
    · have : x ≠ n := by rintro rfl; exact h v List.mem_cons_self
      simp [this]
    · rfl
theorem bindC_out {kindOf : Str → Option NameKind} {x : Str} : ∀ {binds : List (Str × Value)} {m : Str → Option Value}, (∀ v, (x, v) ∉ binds) → bindC kindOf binds m x = m x
  | [], _, _ => rfl
  | (n, v) :: r, m, h => by
    unfold bindC
    rw [bindC_out fun w hw => h w (List.mem_cons_of_mem _ hw)]
    split
    · rfl
    · have : x ≠ n := by rintro rfl; exact h v List.mem_cons_self
      simp [this]
theorem bindL_get {kindOf : Str → Option NameKind} {x : Str} {v : Value} : ∀ {P : List Str} {vs : List Value} {i : Nat} {m : Str → Option Value}, P.Nodup → P[i]? = some x → vs[i]? = some v → kindOf x = some .local →
    bindL kindOf (P.zip vs) m x = some v
  | [], _, _, _, _, h, _, _ => by simp at h
  | _ :: _, [], _, _, _, _, h, _ => by simp at h
  | p :: P, w :: vs, 0, m, nd, h1, h2, hk => by
    simp at h1 h2; subst h1; subst h2
    show bindL kindOf ((p, w) :: P.zip vs) m p = _
    unfold bindL
    rw [bindL_out fun v hv => (List.nodup_cons.mp nd).1 (List.of_mem_zip hv).1, if_pos hk]
    simp
  | p :: P, w :: vs, i + 1, m, nd, h1, h2, hk => by
    show bindL kindOf ((p, w) :: P.zip vs) m x = _
    unfold bindL
    exact bindL_get (i := i) (List.nodup_cons.mp nd).2 (by simpa using h1) (by simpa using h2) hk
theorem bindC_get {kindOf : Str → Option NameKind} {x : Str} {v : Value} : ∀ {P : List Str} {vs : List Value} {i : Nat} {m : Str → Option Value}, P.Nodup → P[i]? = some x → vs[i]? = some v → kindOf x ≠ some .local →
    bindC kindOf (P.zip vs) m x = some v
  | [], _, _, _, _, h, _, _ => by simp at h
  | _ :: _, [], _, _, _, _, h, _ => by simp at h
  | p :: P, w :: vs, 0, m, nd, h1, h2, hk => by
    simp at h1 h2; subst h1; subst h2
    show bindC kindOf ((p, w) :: P.zip vs) m p = _
    unfold bindC
    rw [bindC_out fun v hv => (List.nodup_cons.mp nd).1 (List.of_mem_zip hv).1, if_neg hk]
    simp
  | p :: P, w :: vs, i + 1, m, nd, h1, h2, hk => by
    show bindC kindOf ((p, w) :: P.zip vs) m x = _
    unfold bindC
    exact bindC_get (i := i) (List.nodup_cons.mp nd).2 (by simpa using h1) (by simpa using h2) hk
def start (N : List Str) (vs : List V) : St := vs.map some ++ List.replicate (N.length - vs.length) none
def cxOf (CX : CXT) (P : Program) (w : World) (K : PySem.W.Frag) (mg : Str → Option Value) (base : Heap) (N : List Str) (qual : Str) (scope : Scope) (f : Addr) (cd : Value) (A : Around) (outer : List Env) (s : Shared) (H : Hp) (E : XK) : Cx where
  prog := P
  w := w
  K := K
  mg := mg
  base := base
  A := A.deeper (envOfC qual scope s.heap.objs.size f cd)
  N := N
  s₀ := s
  H₀ := H
  env := envOfC qual scope s.heap.objs.size f cd
  outer := outer
  stack := envOfC qual scope s.heap.objs.size f cd :: outer
  ex := []
  calm := true
  fn := fun _ => true
  pn := []
  xe := fun e s' => wpAny (model P w) (A.deeper (envOfC qual scope s.heap.objs.size f cd)) (leaving (envOfC qual scope s.heap.objs.size f cd) e) (fun _ s'' => CX outer H s E e s'') (fun e' s'' => CX outer H s E e' s'') s'
theorem cell_has {sc : Scope} {n : Nat} {x : Str} (h : sc.names.lookup x = some .cell) : ∃ c, (cellsFrom n sc.names []).lookup x = some c := by
  have q := PySem.W.cellsFrom_some sc.names n [] (.inl h)
  exact Option.isSome_iff_exists.mp q
theorem inv_start {CX : CXT} {P : Program} {w : World} {K : PySem.W.Frag} {mg : Str → Option Value} {base : Heap} {N ps : List Str} {qual : Str} {scope : Scope} {f : Addr} {cd : Value} {A : Around} {outer : List Env} {s s1 : Shared} {H : Hp} {E : XK} {us : List Value} {vs : List V}
    (S : FnScope N ps scope) (hd : A.handled = none) (e0 : Env0 P w K mg base A outer s H) (hl : vs.length = ps.length) (r : Vals vs us)
    (x : InCallC s s.heap.objs.size (bindL (envOfC qual scope s.heap.objs.size f cd).kindOf (ps.zip us) fun _ => none) (cellsFrom (s.heap.objs.size + 1) scope.names []) (bindC (envOfC qual scope s.heap.objs.size f cd).kindOf (ps.zip us) fun _ => none) s1) :
    Inv (cxOf CX P w K mg base N qual scope f cd A outer s H E) [] (start N vs) H s1 := by
  have hpl : ps.length ≤ N.length := by have := congrArg List.length S.pre; rw [List.length_take] at this; omega
  obtain ⟨h1, tk, rfl, hk⟩ := x.done
  have noA : ∀ b : Addr, b ∉ (cxOf CX P w K mg base N qual scope f cd A outer s H E).ex := fun b z => absurd (show b ∈ ([] : List Addr) from z) (by simp)
  refine ⟨⟨e0.mod, S.kind, rfl, rfl, Nat.le_refl _, fun y z c h1 h2 => ?_, fun y hy => ?_, fun y c _ h => ?_, fun _ => hd, Around.frames_deeper e0.frames, .inr ⟨rfl, rfl⟩, fun b z => absurd z (noA b), e0.bs, e0.bsz, fun b _ _ => noA b, fun b z => absurd z (noA b), e0.funs, e0.frf⟩,
    rfl, e0.bare, Un.kept hk, ⟨_, x.toInCall.ns, fun i y v h1 h2 h3 => ?_⟩, fun y c h => ⟨_, x.cell y c h⟩, e0.hok.fresh (Nat.le_refl _), fun y c h => ?_, fun p hp => absurd (show p ∈ ([] : List (Addr × Obj)) from hp) (by simp), e0.hok.kept hk, ?_⟩
  · exact name_of_addr x.apart (PySem.mem_of_lookup h1) (PySem.mem_of_lookup h2)
  · have hy : scope.names.lookup y = some .cell ∨ scope.names.lookup y = some .free := hy
    rcases hy with hy | hy
    · exact cell_has hy
    · exact absurd rfl (S.nofree _ (PySem.mem_of_lookup hy))
  · exact Nat.le_of_lt (x.above y c (PySem.mem_of_lookup h))
  · have hi : i < vs.length := by
      unfold start at h2
      by_cases hi : i < vs.length
      · exact hi
      · rw [List.getElem?_append_right (by simpa using hi)] at h2
        rw [List.getElem?_replicate] at h2
        split at h2 <;> cases h2
    have ha : vs[i]? = some v := by
      unfold start at h2
      rw [List.getElem?_append_left (by simpa using hi), List.getElem?_map] at h2
      cases e : vs[i]? with
      | none => rw [e] at h2; cases h2
      | some a => rw [e] at h2; cases h2; rfl
    obtain ⟨u, hu, rv⟩ := r.get ha
    have hp : ps[i]? = some y := by
      rw [← S.pre, List.getElem?_take_of_lt (by omega)]; exact h1
    have ndP : ps.Nodup := by rw [← S.pre]; exact S.nd.sublist (List.take_sublist _ _)
    refine ⟨u, rv, ?_⟩
    rcases S.par y (List.mem_of_getElem? hp) with k | k
    · exact .inl ⟨k, bindL_get ndP hp hu k⟩
    · obtain ⟨c, e⟩ := cell_has (n := s.heap.objs.size + 1) k
      refine .inr ⟨.inl k, c, e, ?_⟩
      have q := x.cell y c e
      rw [bindC_get ndP hp hu (by show scope.names.lookup y ≠ _; rw [k]; decide)] at q
      exact q
  · exact e0.hok.fresh (Nat.le_of_lt (x.above y c (PySem.mem_of_lookup h)))
  · unfold start
    show _ = N.length
    rw [List.length_append, List.length_map, List.length_replicate]
    omega
theorem fn_of {CX : CXT} {P : Program} {w : World} {K : PySem.W.Frag} {mg : Str → Option Value} {base : Heap} {k : Nat} {f : Addr} {name qual : Str} {params : Arguments} {body : List Stmt} {scope : Scope} {dV kV doc pm cdv ct oc : Value} {an od : Option Addr}
    {osl : Array (Option Value)} {N ps : List Str} {sp : Sp} (lk : K.lookup f = some ⟨oc, od, .func (PySem.W.fnOf name qual params body scope dV kV doc pm an cdv ct), osl⟩) (hcd : PySem.W.codeIn K cdv qual = true) (S : FnScope N ps scope)
    (len : ∀ vs H Q E, sp vs H Q E → vs.length = ps.length)
    (hbody : ∀ (A : Around) (outer : List Env) (s : Shared) (H : Hp) (vs : List V) (Q : VK) (E : XK), Room k (A.deeper (envOfC qual scope s.heap.objs.size f cdv)) → sp vs H Q E →
      ∃ t, PSs (cxOf CX P w K mg base N qual scope f cdv A outer s H E) body t ∧ t { nx := fun _ H' => Q .non H', rt := Q } (start N vs) H) :
    FnOk P w K mg base CX (k + 1) f (PySem.W.fnOf name qual params body scope dV kV doc pm an cdv ct) ps sp := by
  refine ⟨len, fun A outer s H args us vs Q E hr e0 hb r hsp => ?_⟩
  have hl := len _ _ _ _ hsp
  have KX : K.In s.heap := e0.mod.kin.keeps fun b o e => (e0.bs b o e).1
  have lim : s.heap.NoLimit := e0.mod.nolimit.keeps fun b o e => (e0.bs b o e).1
  have hkind : ∀ y ∈ ps.zip us, scope.names.lookup y.1 = some .local ∨ (scope.names.lookup y.1 = some .cell ∧ ((cellsFrom (s.heap.objs.size + 1) scope.names []).lookup y.1).isSome = true) := fun ⟨n, v⟩ hy => by
    rcases S.par n (List.of_mem_zip hy).1 with q | q
    · exact .inl q
    · exact .inr ⟨q, PySem.W.cellsFrom_some _ _ _ (.inl q)⟩
  refine codeAny_call_function hr.depth (KX _ _ lk) rfl S.co S.gen rfl (PySem.W.codeRec_of KX hcd) (hb _ _ _ _ ?_)
  refine wpAny_newFunctionEnv_cells S.kind hkind fun env he s1 x => ?_
  subst he
  refine ⟨lim.keeps x.toInCall.keep, codeAny_func ?_⟩
  obtain ⟨t, ht, hq⟩ := hbody A outer s H vs Q E (hr.deeper _) hsp
  have I : Inv (cxOf CX P w K mg base N qual scope f cdv A outer s H E) [] (start N vs) H s1 := inv_start S hr.hd e0 hl r x
  refine wpAny_mono (ht [] s1 (start N vs) H _ I hq) (fun fl s' hs => ?_) fun e s' hs => hs
  have fin : ∀ {σ' : St} {H' : Hp} {v : V} {u : Value}, Inv (cxOf CX P w K mg base N qual scope f cdv A outer s H E) [] σ' H' s' → RelV v u → Q v H' → CE outer P w H s Q u s' :=
    fun {σ' H' v u} J rv q => ⟨v, H', J.os, J.bare, J.base, J.hok, rv, q⟩
  cases fl with
  | ret u =>
    obtain ⟨v, σ', H', J, rv, q⟩ := hs
    exact fin J rv q
  | next =>
    obtain ⟨σ', H', J, q⟩ := hs
    exact fin (v := V.non) (u := Value.none) J rfl q
  | brk =>
    obtain ⟨_, _, _, q⟩ := hs
    exact False.elim q
  | cont =>
    obtain ⟨_, _, _, q⟩ := hs
    exact False.elim q
end L2
namespace L2
open PySem PySem.Spec PyProof.Rows
section
variable {X : Cx} {x : Str} {p pos : Pos} {e : Expr} {es : List Expr} {t : TA} {id T : String} {r : List V → Hp → VK → Prop}
def tCB (r : List V → Hp → VK → Prop) (t : TA) : TE := fun σ H Q => t σ H fun vs H1 => r vs H1 Q
theorem pe_callB (hc : CallR X (.builtin id) r) (hg : Gl X x) (hm : X.mg x = none) (hv : bootBuiltins x = some (.builtin id)) (ha : PA X (e :: es) t) (hn : x ≠ "__name__" := by decide) (hdb : (x == ("__debug__" : Str)) = false := by decide)
    (he : starEach (e :: es) X.env = (false, eval e X.env) :: starEach es X.env := by rfl) (hpl : (backTo pos (starEach es X.env)).any (·.1) = false := by rfl) : PE X (.Call (.Name x p) (e :: es) [] pos) (tCB r t) := by
  intro pins s σ H Q I h
  refine wpAny_Call_Name_kw (ld_blt I hg hm hv ?_ hn hdb)
  exact PyProof.Rows.callWith_builtin1 (thn (ha pos pins s σ H _ I h) fun us s1 ⟨vs, H1, I1, r1, q1⟩ => hc pins s1 σ H1 vs us Q I1 r1 q1) he hpl
theorem pe_callTy (hc : CallR X (.type T) r) (hg : Gl X x) (hm : X.mg x = none) (hv : bootBuiltins x = some (.type T)) (ha : PA X (e :: es) t) (hn : x ≠ "__name__" := by decide) (hdb : (x == ("__debug__" : Str)) = false := by decide)
    (he : starEach (e :: es) X.env = (false, eval e X.env) :: starEach es X.env := by rfl) (hpl : (backTo pos (starEach es X.env)).any (·.1) = false := by rfl) : PE X (.Call (.Name x p) (e :: es) [] pos) (tCB r t) := by
  intro pins s σ H Q I h
  refine wpAny_Call_Name_kw (ld_blt I hg hm hv ?_ hn hdb)
  exact PyProof.Rows.callWith_type1 (thn (ha pos pins s σ H _ I h) fun us s1 ⟨vs, H1, I1, r1, q1⟩ => hc pins s1 σ H1 vs us Q I1 r1 q1) he hpl
end
end L2
namespace HT
open PySem PyProof.Rows
section
open PySem.SeqAt
open PySem.AutoSeq1 (wpAny_loadPart')
open PySem.MeetsSeq PySem.MeetsSeq2 PySem.MeetsSeq3
end
section
variable {prog : Program} {w : World} {A : Around} {E : Value → Shared → Prop} {s : Shared}
theorem cat_tup {t b : Addr} {vs ws : List Value} {Q : Value → Shared → Prop} (ht : IsTup s.heap t vs.toArray) (hb : IsTup s.heap b ws.toArray) (hv : vs ≠ [])
    (h1 : ws = [] → Q (.ref t) s) (h2 : ws ≠ [] → Q (.ref s.heap.objs.size) { s with heap := s.heap.push { cls := .type "tuple", data := .seq (vs ++ ws).toArray } })
    (hsz : vs.length + ws.length ≤ sizeLine) : wpAny (model prog w) A (binaryOp .Add (.ref t) (.ref b)) Q E s := by
  obtain ⟨⟨cls, dd, data, sl⟩, ho, hc, n, hd⟩ := id ht
  obtain ⟨⟨cls2, dd2, data2, sl2⟩, ho2, hc2, n2, hd2⟩ := id hb
  simp only at hc hd hc2 hd2
  subst hc hd hc2 hd2
  have e : vs.toArray ++ ws.toArray = (vs ++ ws).toArray := by simp
  by_cases hw : ws = []
  · exact concat_meets ⟨_, ho, rfl⟩ ⟨_, ho2, rfl⟩ noFill_tuple_add seq_tuple_add PySem.F.slot_tuple_add PySem.F.entry_tuple_add (PySem.F.args_tuple_add_2 _ _)
      (tuple_addW1 t b vs.toArray ws.toArray n n2 dd dd2 sl sl2 (by simpa using hv) (by simp [hw])) ⟨ho, ho2, h1 hw⟩
  · refine concat_meets ⟨_, ho, rfl⟩ ⟨_, ho2, rfl⟩ noFill_tuple_add seq_tuple_add PySem.F.slot_tuple_add PySem.F.entry_tuple_add (PySem.F.args_tuple_add_2 _ _)
      (tuple_addW2 t b vs.toArray ws.toArray n n2 dd dd2 sl sl2 (by simpa using hv) (by simpa using hw) (by rw [List.size_toArray, List.size_toArray]; exact hsz)) ⟨ho, ho2, ?_⟩
    rw [e]
    exact h2 hw
def sIx (n d : Nat) : Option Int → Nat
  | none => d
  | some v => if v < 0 then (v + (n : Int)).toNat else min v.toNat n
theorem sIx_none (n d : Nat) : sIx n d none = d := rfl
theorem sIx_nat (n d k : Nat) : sIx n d (some (k : Int)) = min k n := by
  show (if (k : Int) < 0 then ((k : Int) + (n : Int)).toNat else min (k : Int).toNat n) = min k n
  rw [if_neg (by omega), Int.toNat_natCast]
theorem sIx_le (n d : Nat) (hd : d ≤ n) (o : Option Int) : sIx n d o ≤ n := by
  cases o with
  | none => exact hd
  | some v =>
    show (if v < 0 then (v + (n : Int)).toNat else min v.toNat n) ≤ n
    by_cases hv : v < 0
    · rw [if_pos hv]; omega
    · rw [if_neg hv]; exact Nat.min_le_right _ _
theorem clip_eq (v : Int) (n d : Nat) : (if v < 0 then max (v + (n : Int)) 0 else min v (n : Int)) = ((sIx n d (some v) : Nat) : Int) := by
  show (if v < 0 then max (v + (n : Int)) 0 else min v (n : Int)) = (((if v < 0 then (v + (n : Int)).toNat else min v.toNat n) : Nat) : Int)
  by_cases hv : v < 0
  · simp only [if_pos hv]; omega
  · simp only [if_neg hv]; omega
theorem adjust_gen (lo hi : Option Int) (n : Nat) : Builtin.Slice.sliceAdjust lo hi 1 (n : Int) = (((sIx n 0 lo : Nat) : Int), ((sIx n n hi : Nat) : Int)) := by
  have h1 : ¬ ((1 : Int) < 0) := by omega
  unfold Builtin.Slice.sliceAdjust
  simp only [h1, if_false]
  refine Prod.ext ?_ ?_
  · cases lo with
    | none => rfl
    | some v => exact clip_eq v n 0
  · cases hi with
    | none => rfl
    | some v => exact clip_eq v n n
theorem places_gen (i j : Nat) : Builtin.Slice.slicePlaces (i : Int) (j : Int) 1 = j - i := by
  unfold Builtin.Slice.slicePlaces
  have h1 : (1 : Int) > 0 := by omega
  simp only [h1, if_true, Int.ediv_one]
  split <;> omega
theorem slicePart_ {v : Value} {o : Option Int} {Q : Option Int → Shared → Prop} (p : IsPart v o) (h : Q o s) : wpAny (model prog w) A (Builtin.Slice.slicePartIndex v) Q E s := by
  cases p with
  | none => exact slicePart_none h
  | int i t => exact slicePart_int h
theorem sliceApplied_gen {sl : Addr} {vl vu : Value} {lo hi : Option Int} {n : Nat} {Q : Int × Int × Nat → Shared → Prop} (hs : s.heap.IsSliceOf sl vl vu .none) (pl : IsPart vl lo) (pu : IsPart vu hi)
    (h : Q (((sIx n 0 lo : Nat) : Int), 1, sIx n n hi - sIx n 0 lo) s) : wpAny (model prog w) A (Builtin.Slice.sliceApplied (.ref sl) (pure (n : Int))) Q E s := by
  obtain ⟨os, hos, hcs, hds⟩ := id hs
  unfold Builtin.Slice.sliceApplied Builtin.Slice.sliceFields
  refine wpAny_bind (wpAny_bind (wpAny_field hos hds (x := vl) rfl (wpAny_bind (wpAny_field hos hds (x := vu) rfl (wpAny_bind (wpAny_field hos hds (x := .none) rfl (wpAny_pure ?_)))))))
  refine wpAny_bind (slicePart_none ?_)
  show wpAny _ _ (if ((1 : Int) == 0) = true then _ else _) _ _ s
  rw [if_neg (by decide)]
  refine wpAny_bind (slicePart_ pl (wpAny_bind (slicePart_ pu (wpAny_bind (wpAny_pure ?_)))))
  show wpAny _ _ (match Builtin.Slice.sliceAdjust lo hi 1 (n : Int) with | (lo, hi) => pure (lo, (1 : Int), Builtin.Slice.slicePlaces lo hi 1)) _ _ s
  rw [adjust_gen lo hi n]
  show wpAny _ _ (pure (((sIx n 0 lo : Nat) : Int), (1 : Int), Builtin.Slice.slicePlaces ((sIx n 0 lo : Nat) : Int) ((sIx n n hi : Nat) : Int) 1)) _ _ s
  rw [places_gen]
  exact wpAny_pure h
theorem pick_gen (xs : Array Value) (i k : Nat) : ((List.range k).filterMap fun (m : Nat) => xs[((i : Int) + (m : Int) * 1).toNat]?).toArray = ((xs.toList.drop i).take k).toArray := by
  have e : (fun (m : Nat) => xs[((i : Int) + (m : Int) * 1).toNat]?) = fun m => xs[i + m]? := by
    funext m
    have : ((i : Int) + (m : Int) * 1).toNat = i + m := by omega
    rw [this]
  rw [e]
  have := pick_run xs i k
  rw [List.filterMap_map] at this
  have e2 : ((fun x => xs[x]?) ∘ fun x => i + x) = fun m => xs[i + m]? := rfl
  rw [e2] at this
  rw [this]
theorem getItem_tuple_cut {t sl : Addr} {items : Array Value} {vl vu : Value} {lo hi : Option Int} {Q : Value → Shared → Prop} (ht : IsTup s.heap t items) (hs : s.heap.IsSliceOf sl vl vu .none) (pl : IsPart vl lo) (pu : IsPart vu hi)
    (hw : ¬ (sIx items.size 0 lo = 0 ∧ sIx items.size items.size hi = items.size))
    (h : Q (.ref s.heap.objs.size) { s with heap := s.heap.push { cls := .type "tuple", data := .seq ((items.toList.drop (sIx items.size 0 lo)).take (sIx items.size items.size hi - sIx items.size 0 lo)).toArray } })
    (hsz : items.size ≤ sizeLine) : wpAny (model prog w) A (getItem (.ref t) (.ref sl)) Q E s := by
  have htake : sizeOk (.seq ((items.toList.drop (sIx items.size 0 lo)).take (sIx items.size items.size hi - sIx items.size 0 lo)).toArray) := by
    show ((items.toList.drop (sIx items.size 0 lo)).take (sIx items.size items.size hi - sIx items.size 0 lo)).toArray.size ≤ sizeLine
    rw [List.size_toArray, List.length_take, List.length_drop, Array.length_toList]
    omega
  have hj : sIx items.size items.size hi ≤ items.size := sIx_le _ _ (Nat.le_refl _) hi
  obtain ⟨os, hos, hcs, hds⟩ := id hs
  have hTs : s.TypeIs (.ref sl) "slice" := ⟨os, hos, hcs⟩
  unfold getItem
  try with_reducible refine wpAny_holding ?_
  first | refine wpAny_bind (wpAny_pure ?_) | skip
  refine wpAny_bind (wpAny_sequenceKey ht.typeIs (by decide) ?_)
  refine wpAny_bind (wpAny_callSpecial?_slot (name := Str.ofString "__getitem__") ht.typeIs PyProof.Rows.slot_tuple_getitem
    (wpAny_call_entry PyProof.Rows.slot_tuple_getitem ht.typeIs entry_tuple_getitem ?_ (args_tuple_getitem _ _)))
  show wpAny _ _ (Builtin.Tuple.tupleItemsOf (.ref t) >>= _) _ _ s
  refine wpAny_bind (tupleItemsOf_ ht ?_)
  refine wpAny_bind (wpAny_typeOf hTs ?_)
  rw [if_pos (by decide)]
  refine wpAny_bind (sliceApplied_gen hs pl pu ?_)
  have hno : ¬ ((((sIx items.size 0 lo : Nat) : Int) == 0 && (1 : Int) == 1 && (sIx items.size items.size hi - sIx items.size 0 lo) == items.size) = true) := by
    intro q
    rw [Bool.and_eq_true, Bool.and_eq_true] at q
    have q1 : ((sIx items.size 0 lo : Nat) : Int) = 0 := eq_of_beq q.1.1
    have q2 : sIx items.size items.size hi - sIx items.size 0 lo = items.size := eq_of_beq q.2
    exact hw ⟨by omega, by omega⟩
  show wpAny _ _ (if (((sIx items.size 0 lo : Nat) : Int) == 0 && (1 : Int) == 1 && (sIx items.size items.size hi - sIx items.size 0 lo) == items.size) = true then _ else _) _ _ s
  rw [if_neg hno, pick_gen]
  first
    | exact wpAny_bind (m := Builtin.Tuple.tupleExact _) (wpAny_newObj_type (wpAny_pure ⟨_, rfl, wpAny_pure h⟩) htake)
    | exact wpAny_bind (m := Builtin.Tuple.tupleExact _) (wpAny_newObj_type (wpAny_bind (wpAny_pure (wpAny_pure ⟨_, rfl, wpAny_pure h⟩))) htake)
    | exact wpAny_bind (wpAny_bind (m := Builtin.Tuple.tupleExact _) (wpAny_newObj_type (wpAny_pure (wpAny_pure ⟨_, rfl, wpAny_pure h⟩)) htake))
    | exact wpAny_bind (wpAny_bind (m := Builtin.Tuple.tupleExact _) (wpAny_newObj_type (wpAny_pure ⟨_, rfl, wpAny_pure h⟩) htake))
end
end HT
namespace L2
open PySem PySem.Spec PyProof.Rows
abbrev TO := St → Hp → (Option Int → Hp → Prop) → Prop
def PO (X : Cx) (e : Option Expr) (t : TO) : Prop :=
  ∀ (pins : List (Addr × Obj)) (s : Shared) (σ : St) (H : Hp) (Q : Option Int → Hp → Prop), Inv X pins σ H s → t σ H Q →
    wpAny (model X.prog X.w) X.A (evalPart e X.env) (fun u s' => ∃ o H', Inv X pins σ H' s' ∧ IsPart u o ∧ Q o H') X.xe s
def tNoPart : TO := fun _ H Q => Q none H
def tPart (t : TE) : TO := fun σ H Q => t σ H fun x H1 => ∃ i, x = .int i ∧ Q (some i) H1
section
variable {X : Cx} {e : Expr} {te : TE} {lo hi : Option Expr} {tl th : TO} {pos p2 : Pos}
theorem po_none : PO X none tNoPart := by
  intro pins s σ H Q I h
  rw [evalPart_none]
  exact wpAny_pure ⟨none, H, I, .none, h⟩
theorem po_some (h : PE X e te) : PO X (some e) (tPart te) := by
  intro pins s σ H Q I hw
  rw [evalPart_some]
  refine thn (h pins s σ H _ I hw) fun u s1 ⟨x, H1, I1, r1, q1⟩ => ?_
  obtain ⟨i, rfl, q⟩ := q1
  obtain ⟨t, rfl⟩ := r1
  exact ⟨some i, H1, I1, .int i t, q⟩
def SlR (X : Cx) (r : V → Option Int → Option Int → Hp → VK → Prop) : Prop :=
  ∀ (pins : List (Addr × Obj)) (s : Shared) (σ : St) (H : Hp) (x : V) (v vl vu : Value) (lo hi : Option Int) (sl : Addr) (Q : VK), Inv X pins σ H s → RelV x v → s.heap.IsSliceOf sl vl vu .none → IsPart vl lo → IsPart vu hi → r x lo hi H Q →
    ∃ T id, typeLookup (.type T) "__getitem__" = pure (some (.builtin id)) ∧ s.TypeIs v T ∧ wpAny (model X.prog X.w) X.A (getItem v (.ref sl)) (EP X pins σ Q) X.xe s
def tSl (r : V → Option Int → Option Int → Hp → VK → Prop) (te : TE) (tl th : TO) : TE := fun σ H Q => te σ H fun x H1 => tl σ H1 fun l H2 => th σ H2 fun u H3 => r x l u H3 Q
theorem pe_slice {r : V → Option Int → Option Int → Hp → VK → Prop} (hr : SlR X r) (he : PE X e te) (hl : PO X lo tl) (hu : PO X hi th) : PE X (.Subscript e (.Slice lo hi none p2) pos) (tSl r te tl th) := by
  intro pins s σ H Q I h
  refine Subscript_ (thn (he pins s σ H _ I h) fun v s1 ⟨x, H1, I1, r1, q1⟩ => ?_)
  refine wpAny_Slice (thn (hl pins s1 σ H1 _ I1 q1) fun vl s2 ⟨l, H2, I2, pl, q2⟩ => thn (hu pins s2 σ H2 _ I2 q2) fun vu s3 ⟨u, H3, I3, pu, q3⟩ => ?_)
  rw [evalPart_none]
  refine wpAny_pure ?_
  have I4 : Inv X pins σ H3 { s3 with heap := s3.heap.push { cls := .type "slice", data := .fields #[vl, vu, .none] } } := I3.kept (t' := s3.toks) fun b ob q => Heap.get?_push_of_some _ q
  obtain ⟨T, id, hT, ht, hg⟩ := hr pins { s3 with heap := s3.heap.push { cls := .type "slice", data := .fields #[vl, vu, .none] } } σ H3 x v vl vu l u s3.heap.objs.size Q I4 r1 (Heap.IsSliceOf.new ..) pl pu q3
  show wpAny (model X.prog X.w) X.A (subscriptTail e (.Slice lo hi none p2) v (.ref s3.heap.objs.size)) (EP X pins σ Q) X.xe { s3 with heap := s3.heap.push { cls := .type "slice", data := .fields #[vl, vu, .none] } }
  exact tail_any (ops := [.ref s3.heap.objs.size, v]) ht hT hg (by with_unfolding_all rfl)
def cutV (xs : List V) (lo hi : Option Int) : List V := (xs.drop (HT.sIx xs.length 0 lo)).take (HT.sIx xs.length xs.length hi - HT.sIx xs.length 0 lo)
theorem cutV_length (xs : List V) (lo hi : Option Int) : (cutV xs lo hi).length ≤ xs.length := by
  unfold cutV
  rw [List.length_take, List.length_drop]
  omega
def rSlT (K : PySem.W.Frag) : V → Option Int → Option Int → Hp → VK → Prop := fun x lo hi H Q => ∃ a xs, x = .ref a ∧ SqT K H a xs ∧
  ¬ (HT.sIx xs.length 0 lo = 0 ∧ HT.sIx xs.length xs.length hi = xs.length) ∧ ∀ p, H p = none → Q (.ref p) (upd H p (.tup (cutV xs lo hi)))
theorem sl_tup : SlR X (rSlT X.K) := by
  intro pins s σ H x v vl vu lo hi sl Q I rx hs pl pu h
  obtain ⟨a, xs, rfl, hx, hw, q⟩ := h
  cases rx
  obtain ⟨its, r, ht, hz⟩ := I.tuple hx
  have hlen : its.toArray.size = xs.length := by rw [List.size_toArray]; exact r.length.symm
  refine ⟨"tuple", _, PyProof.Rows.slot_tuple_getitem.lookup, ht.typeIs, ?_⟩
  refine HT.getItem_tuple_cut ht hs pl pu (by rw [hlen]; exact hw) ?_ (by rw [hlen]; exact hz)
  rw [hlen]
  refine ⟨.ref s.heap.objs.size, _, I.laid (t' := s.toks) (o := .tup (cutV xs lo hi)) (fun b ob q => Heap.get?_push_of_some _ q) (Nat.le_refl _) ?_, rfl, q _ (I.hok.fresh (Nat.le_refl _))⟩
  exact ⟨Nat.le_trans (cutV_length xs lo hi) hz, _, (r.drop (HT.sIx xs.length 0 lo)).take (HT.sIx xs.length xs.length hi - HT.sIx xs.length 0 lo), IsTN.new _ _⟩
def rCatT (K : PySem.W.Frag) : R2 := fun x y H Q => ∃ a b xs ys, x = .ref a ∧ y = .ref b ∧ SqT K H a xs ∧ SqT K H b ys ∧ xs ≠ [] ∧ xs.length + ys.length ≤ sizeLine ∧
  (ys = [] → Q (.ref a) H) ∧ (ys ≠ [] → ∀ p, H p = none → Q (.ref p) (upd H p (.tup (xs ++ ys))))
theorem Vals.nil_iff {xs : List V} {us : List Value} (r : Vals xs us) : us = [] ↔ xs = [] := by
  cases r with
  | nil => simp
  | cons _ _ => simp
theorem op_catT : OpR X (binaryOp .Add) (rCatT X.K) := by
  intro pins s σ H x y v u Q I rx ry h
  obtain ⟨a, b, xs, ys, rfl, rfl, ha, hb, hx, hz, q1, q2⟩ := h
  cases rx
  cases ry
  obtain ⟨its, r1, p1, _⟩ := I.tuple ha
  obtain ⟨its2, r2, p2, _⟩ := I.tuple hb
  refine HT.cat_tup p1 p2 (fun z => hx (r1.nil_iff.mp z)) (fun z => ⟨.ref a, H, I, rfl, q1 (r2.nil_iff.mp z)⟩) (fun z => ?_) (by rw [← r1.length, ← r2.length]; exact hz)
  refine ⟨.ref s.heap.objs.size, _, I.laid (t' := s.toks) (o := .tup (xs ++ ys)) (fun b ob q => Heap.get?_push_of_some _ q) (Nat.le_refl _) ?_, rfl, q2 (fun w => z (r2.nil_iff.mpr w)) _ (I.hok.fresh (Nat.le_refl _))⟩
  exact ⟨by rw [List.length_append]; exact hz, _, r1.append r2, IsTN.new _ _⟩
end
end L2
namespace L2
open PySem PySem.Spec PyProof.Rows
def ixN (n : Nat) (i : Int) : Option Nat := if 0 ≤ i then (if i < n then some i.toNat else none) else if -(n : Int) ≤ i then some (i + n).toNat else none
def atI {α : Type} (xs : List α) (i : Int) : Option α := (ixN xs.length i).bind fun j => xs[j]?
theorem ixN_seq {n : Nat} {i : Int} {j : Nat} (h : ixN n i = some j) : seqIndex? i n = some j ∧ j < n ∧ -(n : Int) ≤ i ∧ i < n := by
  unfold ixN at h
  by_cases h0 : 0 ≤ i
  · rw [if_pos h0] at h
    by_cases h1 : i < n
    · rw [if_pos h1] at h
      have e : i.toNat = j := Option.some.inj h
      exact ⟨by rw [seqIndex_of h0 h1, e], by omega, by omega, h1⟩
    · rw [if_neg h1] at h; cases h
  · rw [if_neg h0] at h
    by_cases h1 : -(n : Int) ≤ i
    · rw [if_pos h1] at h
      have e : (i + n).toNat = j := Option.some.inj h
      exact ⟨by rw [seqIndex_neg (by omega) h1, e], by omega, h1, by omega⟩
    · rw [if_neg h1] at h; cases h
theorem atI_get {α : Type} {xs : List α} {i : Int} {v : α} (h : atI xs i = some v) : ∃ j, seqIndex? i xs.length = some j ∧ xs[j]? = some v ∧ j < xs.length ∧ -(xs.length : Int) ≤ i ∧ i < xs.length := by
  unfold atI at h
  cases e : ixN xs.length i with
  | none => rw [e] at h; cases h
  | some j =>
    rw [e] at h
    obtain ⟨h1, h2, h3, h4⟩ := ixN_seq e
    exact ⟨j, h1, h, h2, h3, h4⟩
theorem atI_nat {α : Type} {xs : List α} {j : Nat} {v : α} (h : xs[j]? = some v) : atI xs (j : Int) = some v := by
  have hj : j < xs.length := (List.getElem?_eq_some_iff.mp h).1
  have e : ixN xs.length (j : Int) = some j := by
    unfold ixN
    rw [if_pos (by omega), if_pos (by omega)]; simp
  unfold atI; rw [e]; exact h
def PlainIx (b : Expr) : Prop := ∀ o i, subscripted b false o i = operate [o, i] (getItem o i)
def IxR (X : Cx) (r : R2) : Prop :=
  ∀ (value slice : Expr) (pins : List (Addr × Obj)) (s : Shared) (σ : St) (H : Hp) (x y : V) (v u : Value) (Q : VK), Inv X pins σ H s → RelV x v → RelV y u → r x y H Q →
    subscripted slice false v u = operate [v, u] (getItem v u) → wpAny (model X.prog X.w) X.A (subscriptTail value slice v u) (EP X pins σ Q) X.xe s
def MtR (X : Cx) (id : String) (r : V → List V → Hp → VK → Prop) : Prop :=
  ∀ (pins : List (Addr × Obj)) (s : Shared) (σ : St) (H : Hp) (x : V) (xs : List V) (v : Value) (us : List Value) (Q : VK), Inv X pins σ H s → RelV x v → Vals xs us → r x xs H Q →
    wpAny (model X.prog X.w) X.A (call (.builtin id) (v :: us)) (EP X pins σ Q) X.xe s
section
variable {X : Cx} {a b : Expr} {ta tb : TE} {pos : Pos}
theorem pe_ix {r : R2} (hr : IxR X r) (ha : PE X a ta) (hb : PE X b tb) (hs : PlainIx b) : PE X (.Subscript a b pos) (tOp r ta tb) := by
  intro pins s σ H Q I h
  exact Subscript_ (binT ha hb I h fun v u s2 x y H2 I2 rx ry q => hr a b pins s2 σ H2 x y v u Q I2 rx ry q (hs _ _))
def rIxL (K : PySem.W.Frag) : R2 := fun x y H Q => ∃ p xs i v, x = .ref p ∧ y = .int i ∧ SqL K H p xs ∧ atI xs i = some v ∧ Q v H
def rIxT (K : PySem.W.Frag) : R2 := fun x y H Q => ∃ p xs i v, x = .ref p ∧ y = .int i ∧ SqT K H p xs ∧ atI xs i = some v ∧ Q v H
theorem ix_list : IxR X (rIxL X.K) := by
  intro value slice pins s σ H x y v u Q I rx ry h hs
  obtain ⟨p, xs, i, z, rfl, rfl, hq, he, q⟩ := h
  cases rx
  obtain ⟨t, rfl⟩ := ry
  obtain ⟨its, r, pl, hz⟩ := I.list hq
  obtain ⟨j, h1, h2, h3, h4, h5⟩ := atI_get he
  obtain ⟨w, ew, rw'⟩ := r.get h2
  have hl := r.length
  have hn := line63
  have fin : EP X pins σ Q w s := ⟨z, H, I, rw', q⟩
  by_cases h0 : 0 ≤ i
  · have hj : i.toNat = j := by
      rw [seqIndex_of h0 h5] at h1
      exact Option.some.inj h1
    exact item_listR pl.isList h0 (by omega) (by rw [hj]; simpa using ew) fin hs
  · have hj : (i + (its.toArray.size : Int)).toNat = j := by
      rw [seqIndex_neg (by omega) h4] at h1
      rw [List.size_toArray, ← hl]
      exact Option.some.inj h1
    exact subscriptTail_builtinR (x := w) pl.isList.typeIs slot_list_getitem.lookup
      (wpAny_getItem_list_neg (Q := fun r s' => r = w ∧ EP X pins σ Q r s') pl.isList (by omega) (by rw [List.size_toArray] <;> omega) (by omega) (by rw [hj]; simpa using ew) ⟨rfl, fin⟩) hs
theorem ix_tup : IxR X (rIxT X.K) := by
  intro value slice pins s σ H x y v u Q I rx ry h hs
  obtain ⟨p, xs, i, z, rfl, rfl, hq, he, q⟩ := h
  cases rx
  obtain ⟨t, rfl⟩ := ry
  obtain ⟨its, r, pl, hz⟩ := I.tuple hq
  obtain ⟨j, h1, h2, h3, h4, h5⟩ := atI_get he
  obtain ⟨w, ew, rw'⟩ := r.get h2
  have hl := r.length
  have hn := line63
  have fin : EP X pins σ Q w s := ⟨z, H, I, rw', q⟩
  exact subscriptTail_builtinR (x := w) pl.typeIs slot_tuple_getitem.lookup
    (getItem_tuple (j := j) (Q := fun r s' => r = w ∧ EP X pins σ Q r s') pl (by omega) (by omega) (by rw [List.size_toArray, ← hl]; exact h1) (by simpa using ew) ⟨rfl, fin⟩) hs
theorem mapSeq_set (its : List Value) (n j : Nat) (u : Value) : Obj.mapSeq (·.setIfInBounds j u) { cls := .type "list", data := .seq its.toArray n } = { cls := .type "list", data := .seq (its.set j u).toArray n } := by
  simp [Obj.mapSeq]
theorem Inv.lst {pins : List (Addr × Obj)} {σ : St} {H : Hp} {s : Shared} {p : Addr} {xs : List V} (I : Inv X pins σ H s) (h : H p = some (.lst xs)) :
    ∃ (its : List Value) (n : Nat), Vals xs its ∧ s.heap.get? p = some { cls := .type "list", data := .seq its.toArray n } ∧ xs.length ≤ sizeLine := by
  obtain ⟨z, its, n, r, e⟩ := I.hok p _ h
  exact ⟨its, n, r, e, z⟩
theorem Inv.lstUpd {pins : List (Addr × Obj)} {σ : St} {H : Hp} {s : Shared} {p : Addr} {xs ys : List V} {its its' : List Value} {n n' : Nat} {f : Obj → Obj} (I : Inv X pins σ H s) (h : H p = some (.lst xs))
    (ho : s.heap.get? p = some { cls := .type "list", data := .seq its.toArray n }) (hf : f { cls := .type "list", data := .seq its.toArray n } = { cls := .type "list", data := .seq its'.toArray n' }) (r : Vals ys its') (hz : ys.length ≤ sizeLine) (t : Nat) :
    Inv X pins σ (upd H p (.lst ys)) { s with heap := s.heap.update p f, toks := t } := by
  have e : (s.heap.update p f).get? p = some { cls := .type "list", data := .seq its'.toArray n' } := by
    rw [Heap.get?_update_self f ho (by rw [hf] <;> rfl), hf]
  refine I.write (x := p) (e := p) (by rw [h]; trivial) (.inl rfl) (fun b u hb q => (Heap.get?_update_other _ _ (Ne.symm hb)).trans q) ⟨_, e⟩ ?_
  exact ⟨hz, its', n', r, e⟩
def rSetL : V → V → V → Hp → (Hp → Prop) → Prop := fun o i v H Q => ∃ p xs k j, o = .ref p ∧ i = .int k ∧ H p = some (.lst xs) ∧ ixN xs.length k = some j ∧ Q (upd H p (.lst (xs.set j v)))
theorem set_list : PSet X rSetL := by
  intro pins s σ H o i v ov iv u Q I ro ri rv h
  obtain ⟨p, xs, k, j, rfl, rfl, hp, hj, q⟩ := h
  cases ro
  obtain ⟨t, rfl⟩ := ri
  obtain ⟨its, n, r, ho, hz⟩ := I.lst hp
  obtain ⟨h1, h2, h3, h4⟩ := ixN_seq hj
  have hl := r.length
  have hn := line63
  have I' : Inv X pins σ (upd H p (.lst (xs.set j v))) { s with heap := s.heap.update p (Obj.mapSeq (·.setIfInBounds j u)) } :=
    I.lstUpd hp ho (mapSeq_set its n j u) (r.set rv j) (by rw [List.length_set]; exact hz) s.toks
  by_cases h0 : 0 ≤ k
  · have hk : k.toNat = j := by
      rw [seqIndex_of h0 h4] at h1
      exact Option.some.inj h1
    exact PySem.W.ki_setAt ho h0 (by omega) (by rw [List.size_toArray, ← hl]; exact h4) (by rw [hk]; exact ⟨_, I', q⟩)
  · have hk : (k + (its.toArray.size : Int)).toNat = j := by
      rw [seqIndex_neg (by omega) h3] at h1
      rw [List.size_toArray, ← hl]
      exact Option.some.inj h1
    exact PySem.W.ki_setBack ho (by omega) (by rw [List.size_toArray, ← hl]; exact h3) (by omega) (by rw [hk]; exact ⟨_, I', q⟩)
theorem slice_bounds (lo hi : Option Int) (n : Nat) : (sliceBounds lo hi none n).1 = ((HT.sIx n 0 lo : Nat) : Int) ∧ (sliceBounds lo hi none n).2.1 = ((HT.sIx n n hi : Nat) : Int) ∧ (sliceBounds lo hi none n).2.2 = 1 := by
  refine ⟨?_, ?_, rfl⟩
  · cases lo with
    | none => simp [sliceBounds, HT.sIx]
    | some i =>
      simp only [sliceBounds, HT.sIx, Option.getD_none, show (1 : Int) > 0 by decide, if_true]
      by_cases h : i < 0
      · simp only [h, if_true] <;> omega
      · simp only [h, if_false] <;> omega
  · cases hi with
    | none => simp [sliceBounds, HT.sIx]
    | some i =>
      simp only [sliceBounds, HT.sIx, Option.getD_none, show (1 : Int) > 0 by decide, if_true]
      by_cases h : i < 0
      · simp only [h, if_true] <;> omega
      · simp only [h, if_false] <;> omega
theorem slicePick_cut (its : List Value) (lo hi : Option Int) : slicePick its.toArray lo hi none = ((its.drop (HT.sIx its.length 0 lo)).take (HT.sIx its.length its.length hi - HT.sIx its.length 0 lo)).toArray := by
  obtain ⟨h1, h2, h3⟩ := slice_bounds lo hi its.toArray.size
  unfold slicePick
  rw [h1, h2, h3]
  simp only [sliceRange_one, pick_run, List.size_toArray] <;> rfl
def rSlL (K : PySem.W.Frag) : V → Option Int → Option Int → Hp → VK → Prop := fun x lo hi H Q => ∃ a xs, x = .ref a ∧ SqL K H a xs ∧ ∀ p, H p = none → Q (.ref p) (upd H p (.lst (cutV xs lo hi)))
theorem sl_list : SlR X (rSlL X.K) := by
  intro pins s σ H x v vl vu lo hi sl Q I rx hs pl pu h
  obtain ⟨a, xs, rfl, hx, q⟩ := h
  cases rx
  obtain ⟨its, r, ht, hz⟩ := I.list hx
  have hlen := r.length
  refine ⟨"list", _, slot_list_getitem.lookup, ht.isList.typeIs, ?_⟩
  refine wpAny_getItem_list_slice ht.isList hs pl pu .none (by simp) ?_ (by rw [List.size_toArray] <;> omega)
  rw [slicePick_cut, ← hlen]
  refine ⟨.ref s.heap.objs.size, _, I.laid (t' := s.toks) (o := .lst (cutV xs lo hi)) (fun b ob q => Heap.get?_push_of_some _ q) (Nat.le_refl _) ?_, rfl, q _ (I.hok.fresh (Nat.le_refl _))⟩
  exact ⟨Nat.le_trans (cutV_length xs lo hi) hz, _, 0, (r.drop (HT.sIx xs.length 0 lo)).take (HT.sIx xs.length xs.length hi - HT.sIx xs.length 0 lo), Heap.get?_push_size _ rfl⟩
def flatV : V → Bool
  | .non => true
  | .bl _ => true
  | .int _ => true
  | .str _ => true
  | _ => false
def eqV : V → V → Bool
  | .non, .non => true
  | .bl a, .bl b => a == b
  | .bl a, .int b => (if a then 1 else 0) == b
  | .int a, .bl b => a == (if b then 1 else 0)
  | .int a, .int b => a == b
  | .str a, .str b => a == b
  | _, _ => false
theorem eqAt_V {A : Around} {s : Shared} {y x : V} {u v : Value} (ry : RelV y u) (rx : RelV x v) (fy : flatV y = true) (fx : flatV x = true) : SeqAt.EqAt A s u v (eqV y x) := by
  cases y with
  | non =>
    cases ry
    cases x with
    | non => cases rx; exact SeqAt.EqAt.same _
    | bl b => cases rx; exact SeqAt.EqAt.none_bool b
    | int b => obtain ⟨t, rfl⟩ := rx; exact SeqAt.EqAt.none_int b t
    | str b => obtain ⟨t, rfl⟩ := rx; exact SeqAt.EqAt.none_str b t
    | _ => exact absurd (show false = true from fx) Bool.false_ne_true
  | bl a =>
    cases ry
    cases x with
    | non => cases rx; exact SeqAt.EqAt.bool_none a
    | bl b => cases rx; exact SeqAt.EqAt.bool_bool a b
    | int b => obtain ⟨t, rfl⟩ := rx; exact SeqAt.EqAt.bool_int a b t
    | str b => obtain ⟨t, rfl⟩ := rx; exact SeqAt.EqAt.bool_str a b t
    | _ => exact absurd (show false = true from fx) Bool.false_ne_true
  | int a =>
    obtain ⟨t', rfl⟩ := ry
    cases x with
    | non => cases rx; exact SeqAt.EqAt.int_none a t'
    | bl b => cases rx; exact SeqAt.EqAt.int_bool a t' b
    | int b => obtain ⟨t, rfl⟩ := rx; exact SeqAt.EqAt.int_int a t' b t
    | str b => obtain ⟨t, rfl⟩ := rx; exact SeqAt.EqAt.int_str a t' b t
    | _ => exact absurd (show false = true from fx) Bool.false_ne_true
  | str a =>
    obtain ⟨t', rfl⟩ := ry
    cases x with
    | non => cases rx; exact SeqAt.EqAt.str_none a t'
    | bl b => cases rx; exact SeqAt.EqAt.str_bool a t' b
    | int b => obtain ⟨t, rfl⟩ := rx; exact SeqAt.EqAt.str_int a t' b t
    | str b => obtain ⟨t, rfl⟩ := rx; exact SeqAt.EqAt.str_str a t' b t
    | _ => exact absurd (show false = true from fx) Bool.false_ne_true
  | _ => exact absurd (show false = true from fy) Bool.false_ne_true
def eqU (x : V) (u : Value) : Bool := match u with
  | .none => eqV .non x
  | .bool b => eqV (.bl b) x
  | .int i _ => eqV (.int i) x
  | .str z _ => eqV (.str z) x
  | _ => false
theorem eqU_of {x y : V} {u : Value} (r : RelV y u) (f : flatV y = true) : eqU x u = eqV y x := by
  cases y with
  | non => cases r; rfl
  | bl b => cases r; rfl
  | int i => obtain ⟨t, rfl⟩ := r; rfl
  | str z => obtain ⟨t, rfl⟩ := r; rfl
  | _ => exact absurd (show false = true from f) Bool.false_ne_true
theorem any_eqU {x : V} : ∀ {xs : List V} {us : List Value}, Vals xs us → xs.all flatV = true → us.any (eqU x) = xs.any fun y => eqV y x
  | _, _, .nil, _ => rfl
  | y :: xs, u :: us, .cons r t, f => by
    rw [List.all_cons, Bool.and_eq_true] at f
    rw [List.any_cons, List.any_cons, eqU_of r f.1, any_eqU t f.2]
theorem mem_eqAt {A : Around} {s : Shared} {x : V} {v : Value} (rx : RelV x v) (fx : flatV x = true) : ∀ {xs : List V} {us : List Value}, Vals xs us → xs.all flatV = true → ∀ u ∈ us, SeqAt.EqAt A s u v (eqU x u)
  | _, _, .nil, _ => fun u hu => by cases hu
  | y :: xs, u :: us, .cons r t, f => fun u' hu => by
    rw [List.all_cons, Bool.and_eq_true] at f
    rcases List.mem_cons.mp hu with rfl | hu
    · rw [eqU_of r f.1]; exact eqAt_V r rx f.1 fx
    · exact mem_eqAt rx fx t f.2 u' hu
def inV (x : V) (xs : List V) : Bool := xs.any fun y => eqV y x
def rIn (K : PySem.W.Frag) (neg : Bool) : R2 := fun x y H Q => ∃ p xs, y = .ref p ∧ (SqL K H p xs ∨ SqT K H p xs) ∧ flatV x = true ∧ xs.all flatV = true ∧ Q (.bl (if neg then !inV x xs else inV x xs)) H
theorem op_in_seq : OpR X (compareOp .In) (rIn X.K false) := by
  intro pins s σ H x y v u Q I rx ry h
  obtain ⟨p, xs, rfl, hq, fx, fs, q⟩ := h
  cases ry
  rcases hq with hq | hq
  · obtain ⟨its, r, pl, hz⟩ := I.list hq
    refine SeqAt.in_listAt (eqU x) pl.isList (fun w hw => mem_eqAt rx fx r fs w (by simpa using hw)) ⟨.bl _, H, I, rfl, ?_⟩
    rw [show its.toArray.any (eqU x) = its.any (eqU x) by simp, any_eqU r fs]
    exact q
  · obtain ⟨its, r, pl, hz⟩ := I.tuple hq
    refine SeqAt.in_tupleAt (eqU x) pl (fun w hw => mem_eqAt rx fx r fs w (by simpa using hw)) ⟨.bl _, H, I, rfl, ?_⟩
    rw [show its.toArray.any (eqU x) = its.any (eqU x) by simp, any_eqU r fs]
    exact q
theorem op_notIn_seq : OpR X (compareOp .NotIn) (rIn X.K true) := by
  intro pins s σ H x y v u Q I rx ry h
  obtain ⟨p, xs, rfl, hq, fx, fs, q⟩ := h
  cases ry
  rcases hq with hq | hq
  · obtain ⟨its, r, pl, hz⟩ := I.list hq
    refine SeqAt.notIn_listAt (eqU x) pl.isList (fun w hw => mem_eqAt rx fx r fs w (by simpa using hw)) ⟨.bl _, H, I, rfl, ?_⟩
    rw [show its.toArray.any (eqU x) = its.any (eqU x) by simp, any_eqU r fs]
    exact q
  · obtain ⟨its, r, pl, hz⟩ := I.tuple hq
    refine SeqAt.notIn_tupleAt (eqU x) pl (fun w hw => mem_eqAt rx fx r fs w (by simpa using hw)) ⟨.bl _, H, I, rfl, ?_⟩
    rw [show its.toArray.any (eqU x) = its.any (eqU x) by simp, any_eqU r fs]
    exact q
theorem call_len_seq : CallR X (.builtin "len") (fun xs H Q => ∃ p ys, xs = [.ref p] ∧ (SqL X.K H p ys ∨ SqT X.K H p ys) ∧ Q (.int ys.length) H) := by
  intro pins s σ H xs us Q I r h
  obtain ⟨p, ys, rfl, hq, q⟩ := h
  obtain ⟨u, rfl, rx⟩ := vals1 r
  cases rx
  have hn := line63
  rcases hq with hq | hq
  · obtain ⟨its, r', pl, hz⟩ := I.list hq
    have hlen := r'.length
    exact Calls.call_len_list pl.isList (by simp only [List.size_toArray] <;> omega) ⟨.int ys.length, H, I.tok _, ⟨s.toks + 1, by rw [List.size_toArray, hlen]⟩, q⟩
  · obtain ⟨its, r', pl, hz⟩ := I.tuple hq
    have hlen := r'.length
    exact len_tuple pl (by simp only [List.size_toArray] <;> omega) ⟨.int ys.length, H, I.tok _, ⟨s.toks + 1, by rw [List.size_toArray, hlen]⟩, q⟩
theorem call_len_str : CallR X (.builtin "len") (fun xs H Q => ∃ z, xs = [.str z] ∧ z.length ≤ sizeLine ∧ Q (.int z.length) H) := by
  intro pins s σ H xs us Q I r h
  obtain ⟨z, rfl, hz, q⟩ := h
  obtain ⟨u, rfl, t, rfl⟩ := vals1 r
  have hn := line63
  exact len_str (by omega) ⟨.int z.length, H, I.tok _, ⟨_, rfl⟩, q⟩
theorem CallR.or {f : Value} {r r' : List V → Hp → VK → Prop} (h : CallR X f r) (h' : CallR X f r') : CallR X f (fun xs H Q => r xs H Q ∨ r' xs H Q) := by
  intro pins s σ H xs us Q I rs q
  rcases q with q | q
  · exact h pins s σ H xs us Q I rs q
  · exact h' pins s σ H xs us Q I rs q
theorem call_list_of : CallR X (.type "list") (fun xs H Q => ∃ p ys, xs = [.ref p] ∧ (SqL X.K H p ys ∨ SqT X.K H p ys) ∧ ∀ l, H l = none → Q (.ref l) (upd H l (.lst ys))) := by
  intro pins s σ H xs us Q I r h
  obtain ⟨p, ys, rfl, hq, q⟩ := h
  obtain ⟨u, rfl, rx⟩ := vals1 r
  cases rx
  have fin : ∀ (its : List Value), Vals ys its → ys.length ≤ sizeLine → ∀ (h' : Heap) (c' : Nat), (∀ b o', s.heap.get? b = some o' → h'.get? b = some o') →
      h'.get? s.heap.objs.size = some { cls := .type "list", dict := none, data := .seq its.toArray c', slots := #[] } → EP X pins σ Q (.ref s.heap.objs.size) { s with heap := h' } := fun its r' hz h' c' kp e =>
    ⟨.ref s.heap.objs.size, _, I.laid (t' := s.toks) kp (Nat.le_refl _) (show ObjOk X.prog X.w _ h' _ (.lst ys) from ⟨hz, its, c', r', e⟩), rfl, q _ (I.hok.fresh (Nat.le_refl _))⟩
  rcases hq with hq | hq
  · obtain ⟨its, r', pl, hz⟩ := I.list hq
    have hlen := r'.length
    obtain ⟨o, ho, hc, n, hd⟩ := pl.isList
    exact call_list_seq p (.inl rfl) ho hc hd (fun h' c' kp e => fin its r' hz h' c' kp e) (by simp only [List.size_toArray] <;> omega)
  · obtain ⟨its, r', pl, hz⟩ := I.tuple hq
    have hlen := r'.length
    obtain ⟨o, ho, hc, n, hd⟩ := pl
    exact call_list_seq p (.inr rfl) ho hc hd (fun h' c' kp e => fin its r' hz h' c' kp e) (by simp only [List.size_toArray] <;> omega)
theorem call_tuple_of : CallR X (.type "tuple") (fun xs H Q => ∃ p ys, xs = [.ref p] ∧ ((SqL X.K H p ys ∧ ∀ l, H l = none → Q (.ref l) (upd H l (.tup ys))) ∨ (SqT X.K H p ys ∧ Q (.ref p) H))) := by
  intro pins s σ H xs us Q I r h
  obtain ⟨p, ys, rfl, h⟩ := h
  obtain ⟨u, rfl, rx⟩ := vals1 r
  cases rx
  rcases h with ⟨hq, q⟩ | ⟨hq, q⟩
  · obtain ⟨its, r', pl, hz⟩ := I.list hq
    have hlen := r'.length
    refine call_tuple_list pl.isList (fun h' kp => ?_) (by simp only [List.size_toArray] <;> omega)
    have I1 : Inv X pins σ H { s with heap := h' } := I.kept (t' := s.toks) kp
    have I2 : Inv X pins σ (upd H h'.objs.size (.tup ys)) { s with heap := h'.push { cls := .type "tuple", data := .seq its.toArray } } :=
      I1.laid (t' := s.toks) (fun b o e => Heap.get?_push_of_some _ e) (Nat.le_refl _) (show ObjOk X.prog X.w _ _ _ (.tup ys) from ⟨hz, its, r', IsTN.new _ _⟩)
    exact ⟨.ref h'.objs.size, _, I2, rfl, q _ (I1.hok.fresh (Nat.le_refl _))⟩
  · obtain ⟨its, r', pl, hz⟩ := I.tuple hq
    exact call_tuple_same pl ⟨.ref p, H, I, rfl, q⟩
def tyV (K : PySem.W.Frag) (T : String) (x : V) (H : Hp) : Prop := match x with
  | .str _ => T = "str"
  | .int _ => T = "int"
  | .ref p => (T = "list" ∧ ∃ xs, SqL K H p xs) ∨ (T = "tuple" ∧ ∃ o, K.lookup p = some o ∧ o.cls = .type "tuple" ∧ o.dict = none) ∨
      (T = "dict" ∧ ((∃ kvs, H p = some (.dK kvs)) ∨ ∃ kvs, H p = some (.dT kvs))) ∨ (T = "set" ∧ ∃ S n, H p = some (.set S n))
  | _ => False
theorem tyV_is {pins : List (Addr × Obj)} {σ : St} {H : Hp} {s : Shared} {T : String} {x : V} {v : Value} (I : Inv X pins σ H s) (r : RelV x v) (ty : tyV X.K T x H) :
    s.TypeIs v T ∧ ∀ a, v = .ref a → ∃ ob, s.heap.get? a = some ob ∧ ob.dict = none := by
  cases x with
  | str z =>
    obtain ⟨t, rfl⟩ := r
    cases (show T = "str" from ty)
    exact ⟨typeIs_str s z t, fun _ e => nomatch e⟩
  | int i =>
    obtain ⟨t, rfl⟩ := r
    cases (show T = "int" from ty)
    exact ⟨typeIs_int s i t, fun _ e => nomatch e⟩
  | ref p =>
    cases r
    rcases ty with ⟨rfl, xs, hq⟩ | ⟨rfl, o, hk, hc, hd⟩ | ⟨rfl, hk⟩ | ⟨rfl, S, n, hk⟩
    · obtain ⟨its, _, pl, _⟩ := I.list hq
      refine ⟨pl.isList.typeIs, fun a e => ?_⟩
      cases e
      obtain ⟨o, n, e, c, hd, _⟩ := pl
      exact ⟨o, e, hd⟩
    · refine ⟨⟨o, I.kIn p o hk, hc⟩, fun a e => ?_⟩
      cases e
      exact ⟨o, I.kIn _ o hk, hd⟩
    · have z : ∃ o, s.heap.get? p = some o ∧ o.ExactDict := by
        rcases hk with ⟨kvs, hk⟩ | ⟨kvs, hk⟩
        · obtain ⟨_, _, _, _, o, _, _, e, ex, _⟩ := I.hok p _ hk
          exact ⟨o, e, ex⟩
        · obtain ⟨_, _, _, _, o, _, _, e, ex, _⟩ := I.hok p _ hk
          exact ⟨o, e, ex⟩
      obtain ⟨o, e, ex⟩ := z
      refine ⟨⟨o, e, ex.1⟩, fun a e2 => ?_⟩
      cases e2
      exact ⟨o, e, ex.2.1⟩
    · obtain ⟨o, _, _, _, e, ex, _⟩ := I.hok p _ hk
      refine ⟨⟨o, e, ex.1⟩, fun a e2 => ?_⟩
      cases e2
      exact ⟨o, e, ex.2.1⟩
  | _ => exact False.elim ty
def tBM0 (K : PySem.W.Frag) (T : String) (r : V → List V → Hp → VK → Prop) (to : TE) : TE := fun σ H Q => to σ H fun x H1 => tyV K T x H1 ∧ r x [] H1 Q
def tBM (K : PySem.W.Frag) (T : String) (r : V → List V → Hp → VK → Prop) (to : TE) (t : TA) : TE := fun σ H Q => to σ H fun x H1 => tyV K T x H1 ∧ t σ H1 fun xs H2 => r x xs H2 Q
variable {o e : Expr} {es : List Expr} {to : TE} {t : TA} {name : Str} {apos cpos : Pos} {T id : String} {r : V → List V → Hp → VK → Prop}
theorem pe_bm0 (pa : PlainAttrs T) (slot : Slot T name id) (hty : typeOf (.builtin id) = pure (.type "method_descriptor")) (hm : MtR X id r) (ho : PE X o to)
    (hbase : attributeBase o name X.env (eval o X.env) = eval o X.env := by rfl) (hline : (apos.endLine == cpos.line) = true := by rfl) : PE X (.Call (.Attribute o name apos) [] [] cpos) (tBM0 X.K T r to) := by
  intro pins s σ H Q I h
  refine wpAny_Call_method0_late hbase hline (thn (ho pins s σ H _ I h) fun v s1 ⟨x, H1, I1, r1, ty, q1⟩ => ?_)
  obtain ⟨h1, h2⟩ := tyV_is I1 r1 ty
  exact ⟨T, id, pa, slot, hty, h1, h2, Calls.callWith_builtin rfl (PySem.evalArgs_none (hm pins s1 σ H1 x [] v [] Q I1 r1 .nil q1))⟩
theorem pe_bm (pa : PlainAttrs T) (slot : Slot T name id) (hty : typeOf (.builtin id) = pure (.type "method_descriptor")) (hm : MtR X id r) (ho : PE X o to) (ha : PA X (e :: es) t)
    (hbase : attributeBase o name X.env (eval o X.env) = eval o X.env := by rfl)
    (hfew : ((backTo cpos (starEach (e :: es) X.env)).all (fun x => !x.1) && (backToKw cpos (keywordEach [] X.env)).all (fun x => x.1.isSome)
      && decide ((e :: es).length + ([] : List Keyword).length + (if ([] : List Keyword).isEmpty then 0 else 1) < 30)) = true := by rfl)
    (hline : (apos.endLine == cpos.line) = true := by rfl) (hs : starEach (e :: es) X.env = (false, eval e X.env) :: starEach es X.env := by rfl) (hplain : (backTo cpos (starEach es X.env)).any (·.1) = false := by rfl) :
    PE X (.Call (.Attribute o name apos) (e :: es) [] cpos) (tBM X.K T r to t) := by
  intro pins s σ H Q I h
  refine wpAny_Call_method_late hbase hfew hline rfl (thn (ho pins s σ H _ I h) fun v s1 ⟨x, H1, I1, r1, ty, q1⟩ => ?_)
  obtain ⟨h1, h2⟩ := tyV_is I1 r1 ty
  refine ⟨T, id, pa, slot, hty, h1, h2, ?_⟩
  have hA := ha cpos pins s1 σ H1 _ I1 q1
  rw [hs] at hA ⊢
  refine Calls.callWith_builtin (by show (false || (backTo cpos (starEach es X.env)).any (·.1)) = false; rw [hplain] <;> rfl) (Calls.evalArgs_plain ?_)
  exact thn hA fun us s2 ⟨vs, H2, I2, r2, q2⟩ => hm pins s2 σ H2 x vs v us Q I2 r1 r2 q2
/- xs.append(e), list.index on a module's tuple .. are MtR facts of 06m -/
end
end L2
namespace L2
open PySem PySem.Spec PyProof.Rows
def MtM (X : Cx) (id : String) (r : V → List V → Hp → VK → Prop) : Prop :=
  ∀ (pins : List (Addr × Obj)) (s : Shared) (σ : St) (H : Hp) (x : V) (xs : List V) (v : Value) (us : List Value) (Q : VK), Inv X pins σ H s → RelV x v → Vals xs us → r x xs H Q →
    wpAny (model X.prog X.w) X.A (call (.builtin id) (v :: us)) (EP X pins σ Q) X.xe s
theorem Vals.one : ∀ {x : V} {us : List Value}, Vals [x] us → ∃ u, us = [u] ∧ RelV x u
  | _, _, .cons r .nil => ⟨_, rfl, r⟩
theorem Vals.two : ∀ {x y : V} {us : List Value}, Vals [x, y] us → ∃ u v, us = [u, v] ∧ RelV x u ∧ RelV y v
  | _, _, _, .cons r (.cons q .nil) => ⟨_, _, rfl, r, q⟩
theorem Vals.zero : ∀ {us : List Value}, Vals [] us → us = []
  | _, .nil => rfl
theorem Vals.dropLast {xs : List V} {us : List Value} (h : Vals xs us) : Vals xs.dropLast us.dropLast := by
  induction h with
  | nil => exact .nil
  | cons r t ih =>
    cases t with
    | nil => exact .nil
    | cons q t' => exact .cons r ih
theorem Vals.reverse {xs : List V} {us : List Value} (h : Vals xs us) : Vals xs.reverse us.reverse := by
  induction h with
  | nil => exact .nil
  | cons r t ih => rw [List.reverse_cons, List.reverse_cons]; exact Vals.append ih (.cons r .nil)
theorem erase_last {α : Type} (l : List α) : l.eraseIdx (l.length - 1) = l.dropLast := by
  induction l with
  | nil => rfl
  | cons a r ih =>
    cases r with
    | nil => rfl
    | cons b r =>
      have e : (a :: b :: r).length - 1 = ((b :: r).length - 1) + 1 := by
        have h1 : (a :: b :: r).length = r.length + 2 := rfl
        have h2 : (b :: r).length = r.length + 1 := rfl
        omega
      rw [e, List.eraseIdx_cons_succ, ih]
      all_goals rfl
section
variable {X : Cx} {pins : List (Addr × Obj)} {σ : St} {H : Hp} {s : Shared} {l b : Addr} {xs ys zs : List V}
theorem Inv.lset {its its' : List Value} {n : Nat} {f : Array Value → Array Value} {t' : Nat} (I : Inv X pins σ H s) (hH : H l = some (.lst xs))
    (e : s.heap.get? l = some { cls := .type "list", data := .seq its.toArray n }) (hf : f its.toArray = its'.toArray) (hv : Vals ys its') (hz : ys.length ≤ sizeLine) :
    Inv X pins σ (upd H l (.lst ys)) { s with heap := s.heap.update l (Obj.mapSeq f), toks := t' } := by
  have q := PySem.IsL.update e f
  rw [hf] at q
  refine I.write (x := l) (e := l) (by rw [hH]; exact trivial) (.inl rfl) (fun b' u hb hu => (Heap.get?_update_other s.heap (Obj.mapSeq f) (Ne.symm hb)).trans hu) ⟨_, q⟩ ?_
  exact ⟨hz, its', _, hv, q⟩
theorem Inv.lnew {its : List Value} {t' : Nat} (I : Inv X pins σ H s) (hv : Vals ys its) (hz : ys.length ≤ sizeLine) :
    Inv X pins σ (upd H s.heap.objs.size (.lst ys)) { s with heap := s.heap.push { cls := .type "list", data := .seq its.toArray }, toks := t' } :=
  I.laid (fun _ _ q => Heap.get?_push_of_some _ q) (Nat.le_refl _) ⟨hz, its, 0, hv, Heap.get?_push_size _ rfl⟩
theorem Inv.fresh (I : Inv X pins σ H s) : H s.heap.objs.size = none := I.hok.fresh (Nat.le_refl _)
theorem Inv.lstM (I : Inv X pins σ H s) (hH : H l = some (.lst xs)) : xs.length ≤ sizeLine ∧ ∃ (its : List Value) (n : Nat), Vals xs its ∧ xs.length = its.length ∧ s.heap.get? l = some { cls := .type "list", data := .seq its.toArray n } := by
  obtain ⟨z, its, n, r, e⟩ := I.hok l _ hH
  exact ⟨z, its, n, r, r.length, e⟩
theorem notLongL {n : Nat} (h : n ≤ sizeLine) : Builtin.List.listTooLong n = false := by
  unfold Builtin.List.listTooLong
  exact decide_eq_false (by omega)
end
section
variable {X : Cx}
def rAppend : V → List V → Hp → VK → Prop := fun x vs H Q => ∃ l xs y, x = .ref l ∧ vs = [y] ∧ H l = some (.lst xs) ∧ xs.length < sizeLine ∧ Q .non (upd H l (.lst (xs ++ [y])))
theorem mt_append : MtM X "list.append" rAppend := by
  intro pins s σ H x vs v us Q I rx rv h
  obtain ⟨l, xs, y, rfl, rfl, hH, hz, q⟩ := h
  cases rx
  obtain ⟨u, rfl, ru⟩ := rv.one
  obtain ⟨z, its, n, r, hl, e⟩ := I.lstM hH
  refine call_meets F.slot_list_append ⟨_, e, rfl⟩ F.entry_list_append (F.args_list_append_2 _ _) (PySem.list_append l its.toArray n u (by rw [List.size_toArray]; omega)) ⟨e, ?_⟩
  refine ⟨.non, _, I.lset (its' := its ++ [u]) hH e (by simp) (r.append (.cons ru .nil)) ?_, rfl, q⟩
  rw [List.length_append, List.length_singleton]
  omega
def rExtend : V → List V → Hp → VK → Prop := fun x vs H Q => ∃ l b xs zs, x = .ref l ∧ vs = [.ref b] ∧ H l = some (.lst xs) ∧ H b = some (.lst zs) ∧ xs.length + zs.length ≤ sizeLine ∧ Q .non (upd H l (.lst (xs ++ zs)))
theorem mt_extend : MtM X "list.extend" rExtend := by
  intro pins s σ H x vs v us Q I rx rv h
  obtain ⟨l, b, xs, zs, rfl, rfl, hH, hB, hz, q⟩ := h
  cases rx
  obtain ⟨u, rfl, ru⟩ := rv.one
  cases ru
  obtain ⟨z, its, n, r, hl, e⟩ := I.lstM hH
  obtain ⟨z2, its2, n2, r2, hl2, e2⟩ := I.lstM hB
  have hsz : its.toArray.size + its2.toArray.size ≤ sizeLine := by rw [List.size_toArray, List.size_toArray]; omega
  have hlong : ¬ (!its.toArray.isEmpty && Builtin.List.listTooLong (its.toArray.size + its2.toArray.size)) = true := by
    rw [notLongL hsz, Bool.and_false]
    exact Bool.false_ne_true
  refine call_meets F.slot_list_extend ⟨_, e, rfl⟩ F.entry_list_extend (F.args_list_extend_2 _ _)
    (AutoSeq1.list_extend_list_list_0 l its.toArray n b its2.toArray n2 hlong (by rw [List.size_toArray]; omega) (by omega)) ⟨e, e2, ?_⟩
  refine ⟨.non, _, I.lset (its' := its ++ its2) hH e (by simp) (r.append r2) ?_, rfl, q⟩
  rw [List.length_append]
  omega
def rPop : V → List V → Hp → VK → Prop := fun x vs H Q => ∃ l xs y, x = .ref l ∧ vs = [] ∧ H l = some (.lst xs) ∧ xs[xs.length - 1]? = some y ∧ Q y (upd H l (.lst xs.dropLast))
theorem mt_pop : MtM X "list.pop" rPop := by
  intro pins s σ H x vs v us Q I rx rv h
  obtain ⟨l, xs, y, rfl, rfl, hH, hy, q⟩ := h
  cases rx
  have hus := rv.zero
  subst hus
  obtain ⟨z, its, n, r, hl, e⟩ := I.lstM hH
  obtain ⟨u, hu, ru⟩ := r.get hy
  have hy' : its.toArray[its.toArray.size - 1]? = some u := by
    show its.toArray[its.length - 1]? = some u
    rw [← Array.getElem?_toList, ← hl]
    exact hu
  refine call_meets F.slot_list_pop ⟨_, e, rfl⟩ F.entry_list_pop (F.args_list_pop_1 _) (MeetsSeq.list_pop_last l its.toArray n u hy' (by rw [List.size_toArray]; omega)) ⟨e, ?_⟩
  refine ⟨y, _, I.lset (its' := its.dropLast) hH e ?_ r.dropLast ?_, ru, q⟩
  · show its.toArray.eraseIdxIfInBounds (its.toArray.size - 1) = its.dropLast.toArray
    rw [List.size_toArray, List.eraseIdxIfInBounds_toArray, erase_last]
  · rw [List.length_dropLast]
    omega
def rReverse : V → List V → Hp → VK → Prop := fun x vs H Q => ∃ l xs, x = .ref l ∧ vs = [] ∧ H l = some (.lst xs) ∧ Q .non (upd H l (.lst xs.reverse))
theorem mt_reverse : MtM X "list.reverse" rReverse := by
  intro pins s σ H x vs v us Q I rx rv h
  obtain ⟨l, xs, rfl, rfl, hH, q⟩ := h
  cases rx
  have hus := rv.zero
  subst hus
  obtain ⟨z, its, n, r, hl, e⟩ := I.lstM hH
  refine call_meets F.slot_list_reverse ⟨_, e, rfl⟩ F.entry_list_reverse (F.args_list_reverse_1 _) (AutoSeq1.list_reverse_list_0 l its.toArray n (by rw [List.size_toArray]; omega)) ⟨e, ?_⟩
  refine ⟨.non, _, I.lset (its' := its.reverse) hH e (by simp) r.reverse ?_, rfl, q⟩
  rw [List.length_reverse]
  omega
def rCat : R2 := fun x y H Q => ∃ l b xs zs, x = .ref l ∧ y = .ref b ∧ H l = some (.lst xs) ∧ H b = some (.lst zs) ∧ xs.length + zs.length ≤ sizeLine ∧ ∀ p, H p = none → Q (.ref p) (upd H p (.lst (xs ++ zs)))
theorem op_cat : OpR X (binaryOp .Add) rCat := by
  intro pins s σ H x y v u Q I rx ry h
  obtain ⟨l, b, xs, zs, rfl, rfl, hH, hB, hz, q⟩ := h
  cases rx
  cases ry
  obtain ⟨z, its, n, r, hl, e⟩ := I.lstM hH
  obtain ⟨z2, its2, n2, r2, hl2, e2⟩ := I.lstM hB
  refine PySem.P.add_list e e2 ?_ (by rw [List.size_toArray, List.size_toArray]; omega)
  have ea : its.toArray ++ its2.toArray = (its ++ its2).toArray := by simp
  rw [ea]
  exact ⟨.ref _, _, I.lnew (t' := s.toks) (r.append r2) (by rw [List.length_append]; omega), rfl, q _ I.fresh⟩
end
section
variable {prog : Program} {w : World} {A : Around} {E : Value → Shared → Prop} {s : Shared}
end
section
variable {X : Cx}
end
end L2
namespace Att
open PySem PySem.W PySem.Calls PyProof.Rows
theorem ints_of_wellAll {P : Params} {h : Heap} : ∀ (ns : List Int) (vs : List Value), WellAll P h vs (ns.map WData.int) → IntsAre vs ns := by
  intro ns
  induction ns with
  | nil =>
    intro vs w
    rw [List.map_nil] at w
    cases w
    exact .nil
  | cons n ns ih =>
    intro vs w
    rw [List.map_cons] at w
    cases w with
    | cons a b =>
      cases a
      exact .cons _ _ (ih _ b)
theorem script_of {l : OpenLaw} {n : Nat} (hn : l.most = some n) {P : Params} {h : Heap} {args : List WData} {vals : List Value}
    (hpre : l.row.toRowW.claim.pre args = true) (hwl : WellAll P h vals args) :
    ∃ a vs ns, vals = [Value.ref a] ∧ args = [WData.list (ns.map WData.int)] ∧ h.get? a = some { cls := .type "list", data := .seq vs.toArray } ∧ IntsAre vs ns ∧ ns.length ≤ n := by
  have hsh : WShape.hasAll [] args [.list .int] = true := (pre_splitW hpre).1
  have hc : l.pre.holds [] { args := args } = true := (pre_splitW hpre).2
  obtain ⟨d, r, rfl, h1, h2⟩ := hasAllW_cons hsh
  obtain rfl := hasAllW_nil h2
  obtain ⟨xs, rfl, h3⟩ := hasW_list h1
  obtain ⟨ns, rfl⟩ := items_int h3
  have hlen : ns.length ≤ n := by
    unfold OpenLaw.pre at hc
    have h4 : (WTm.not (.lt (.lit (.int (n : Int))) (.len (.arg 0)))).holds [] { args := [.list (ns.map .int)] } = true := by
      have h4 := (holds_andW hc).1
      rw [hn] at h4
      exact h4
    have h5 := condW_of h4 (w_not (w_lt w_lit (w_len_list (w_arg rfl))))
    rw [List.length_map] at h5
    refine Nat.le_of_not_lt fun q => ?_
    have q' : (n : Int) < ((ns.length : Nat) : Int) := by omega
    first
      | (rw [decide_eq_true q'] at h5; exact absurd h5 (by decide))
      | (simp at h5; omega)
  cases hwl with
  | cons w1 w2 =>
    cases w2
    cases w1 with
    | list ho hall => exact ⟨_, _, ns, rfl, rfl, ho, ints_of_wellAll ns _ hall, hlen⟩
theorem post_true (l : OpenLaw) (args : List WData) : l.row.toRowW.claim.post args (.bool true) args = true :=
  postW_of (r := l.row.toRowW) (X := (true == true))
    (show WShape.has [] (.bool true) .bool = true by first | rfl | decide | simp [WShape.has, WShape.arms, WShape.armsAll])
    (show (WTm.eq .res (.lit (.bool true))).value [] { args := args, res := some (.bool true), after := args } = some (.bool (true == true)) from w_eq_bool (w_res rfl) w_lit) rfl
theorem attach_call {l : OpenLaw} {n : Nat} {q : Program} {loose : List Str} {XP : (Str → Option Value) → Heap → Prop} {YP : World → Heap → Prop} {d : DefRec}
    (hn : l.most = some n) (hdf : d.params.defaults = [])
    (call : ∀ (w : World) (s₀ s₁ : Shared) (mg mb : Str → Option Value) (fa : Addr) (o : Obj) (pm cd doc : Value) (a : Addr) (vs : List Value) (ns : List Int),
      Ground q loose [] XP w s₀ mg mb s₁.heap → YP w s₁.heap →
      s₁.heap.get? fa = some o → o.data = .func (docDef d.name d.params d.body d.scope pm cd doc) → s₁.heap.CodeRec cd d.name → mg d.name = some (.ref fa) →
      s₁.heap.get? a = some { cls := .type "list", data := .seq vs.toArray } → IntsAre vs ns → ns.length ≤ n → s₁.gens = #[] →
      codeAny (model l.prog w) callerA (.call (.ref fa) ⟨[.ref a], []⟩) (fun r s' => r = .ok (.ret (.bool true)) ∧ OldK s₁.heap s'.heap ∧ s'.os = s₁.os ∧ AllBare s'.gens) s₁) :
    WalkO q loose XP YP l.row.toRowW d [] (fun f vs => PySem.call f vs) := by
  intro w s₀ s₁ mg mb G Y fa o pm cd doc dV kV ho hd hcd hD hmg hg args vals as hpre hlay hrd hwl hlo
  obtain rfl : dV = .none := Dflts.none hD hdf
  obtain rfl : kV = .none := Dflts.noKw hD
  obtain ⟨a, vs, ns, rfl, rfl, hobj, hints, hlen⟩ := script_of hn hpre hwl
  refine enter_call (codeAny_mono (call w s₀ s₁ mg mb fa o pm cd doc a vs ns G Y ho (fd_plain hd) hcd hmg hobj hints hlen hg) fun r s' hq => ?_)
  obtain ⟨rfl, h2, h3, h4⟩ := hq
  exact ⟨.inl ⟨.bool true, .bool true, [], rfl, fun _ => rfl, .bool true, post_true l _, fun _ => ⟨List.Pairwise.nil, fun _ hm => (nomatch hm)⟩⟩, h2, h3, h4⟩
section
variable {prog : Program} {w : World} {A : Around} {E : Value → Shared → Prop} {s : Shared} {K : Frag}
end
end Att
namespace L2
open PySem PySem.Spec PyProof.Rows
theorem vals_ints : ∀ {vs : List Value} {ns : List Int}, IntsAre vs ns → Vals (ns.map V.int) vs
  | _, _, .nil => .nil
  | _, _, .cons n t h => .cons ⟨t, rfl⟩ (vals_ints h)
def Only (H : Hp) : Prop := ∀ b, H b = none ∨ ∃ o xs, H b = some (.frz o (.lst xs))
theorem law_call {P : Program} {w : World} {K : PySem.W.Frag} {mg mb : Str → Option Value} {CX : CXT} {k : Nat} {fa a : Addr} {fd : FuncData} {x : Str} {sp : Sp} {s₁ : Shared} {vs : List Value} {ns : List Int}
    (KX : K.In s₁.heap) (hns : s₁.heap.Ns mainGlobals mg) (hb : s₁.heap.Ns builtinsNs mb) (hbb : ∀ x : Str, x ≠ "__name__" → mb x = bootBuiltins x) (hlim : s₁.heap.NoLimit) (hg : s₁.gens = #[])
    (ha : s₁.heap.get? a = some { cls := .type "list", data := .seq vs.toArray }) (hi : IntsAre vs ns) (hl : ns.length ≤ sizeLine) (hr : Room k callerA)
    (F : ∀ base : Heap, K.In base → base.Ns mainGlobals mg → FnOk P w K mg base CX k fa fd [x] sp) (hbind : ∀ (s : Shared) (u : Value), BindsTo s fd ⟨[u], []⟩ [(x, u)])
    (hsp : ∀ H : Hp, Only H → SqL K H a (ns.map V.int) → sp [.ref a] H (fun v _ => v = .bl true) fun _ _ _ => False)
    (hCX : ∀ H e s', CX [] H s₁ (fun _ _ _ => False) e s' → False) :
    codeAny (model P w) callerA (.call (.ref fa) ⟨[.ref a], []⟩) (fun r s' => r = .ok (.ret (.bool true)) ∧ OldK s₁.heap s'.heap ∧ s'.os = s₁.os ∧ AllBare s'.gens) s₁ := by
  have rv := vals_ints hi
  have lenV := hi.length
  -- from an abstract heap in which nothing but the script may be tracked
  have core : ∀ H : Hp, Only H → SqL K H a (ns.map V.int) → HOk P w H s₁.heap → (∀ b, H b ≠ none → b = a) → (H a ≠ none → K.lookup a = none) →
      codeAny (model P w) callerA (.call (.ref fa) ⟨[.ref a], []⟩) (fun r s' => r = .ok (.ret (.bool true)) ∧ OldK s₁.heap s'.heap ∧ s'.os = s₁.os ∧ AllBare s'.gens) s₁ := by
    intro H hO hS hok hA hK
    have base_of : ∀ {b : Addr} {o : Obj}, s₁.heap.get? b = some o → H b = none → (hidT s₁.heap H).get? b = some o := fun e n => hidT_get e n
    have noA : ∀ {b : Addr} {o : Obj} {es : Array DictEntry} {ep : Nat}, s₁.heap.get? b = some o → o.data = .dict es ep → H b = none := fun {b o es ep} e d => by
      cases q : H b with
      | none => rfl
      | some u =>
        have e' : b = a := hA b (by rw [q]; simp)
        subst e'
        rw [ha] at e; cases e
        have d' : Data.seq vs.toArray _ = Data.dict es ep := d
        cases d'
    have nsK : ∀ {b : Addr} {m : Str → Option Value}, s₁.heap.Ns b m → (hidT s₁.heap H).Ns b m := fun {b m} ⟨o, es, ep, e, d, r⟩ => ⟨o, es, ep, base_of e (noA e d), d, r⟩
    have hKb : K.In (hidT s₁.heap H) := fun b o e => base_of (KX b o e) (by
      cases q : H b with
      | none => rfl
      | some u =>
        have e' : b = a := hA b (by rw [q]; simp)
        subst e'
        rw [hK (by rw [q]; simp)] at e; cases e)
    have hM : Mod K mg (hidT s₁.heap H) := ⟨hKb, nsK hns, ⟨mb, nsK hb, hbb⟩, let ⟨mc, h1, h2⟩ := hlim; ⟨mc, nsK h1, h2⟩⟩
    have e0 : Env0 P w K mg (hidT s₁.heap H) callerA [] s₁ H := ⟨rfl, hM, fun b o e => of_hidT e, Nat.le_of_eq (hidT_size _ _), trivial, fun b hb => absurd (show b ∈ ([] : List Addr) from hb) (by simp), hok, .of_eq hg⟩
    refine codeAny_mono ((F _ hKb (nsK hns)).run callerA [] s₁ H ⟨[.ref a], []⟩ [.ref a] [.ref a] _ _ hr e0 (hbind s₁ (.ref a)) (.cons rfl .nil) (hsp H hO hS)) fun r s' h => ?_
    cases r with
    | error e => exact (hCX H e s' h).elim
    | ok fl =>
      cases fl with
      | next => exact False.elim h
      | brk => exact False.elim h
      | cont => exact False.elim h
      | ret u =>
        obtain ⟨v, H', os, bare, un, hok', r', q⟩ := h
        have q' : v = .bl true := q
        subst q'
        obtain rfl : u = Value.bool true := r'
        refine ⟨rfl, OldK.of_keep fun b o e => ?_, os, bare⟩
        cases q : H b with
        | none => exact un.keep b o e q (by intro z; exact absurd (show b ∈ ([] : List Addr) from z) (by simp)) (by simp)
        | some u =>
          rcases hO b with z | ⟨ob, xs, z⟩
          · rw [q] at z; cases z
          · have z2 := un.frzs b ob _ z
            obtain ⟨e1, _⟩ := hok b _ z
            obtain ⟨e2, _⟩ := hok' b _ z2
            rw [e] at e1; cases e1
            exact e2
  cases hk : K.lookup a with
  | some o =>
    -- the script is one of the module's own objects
    have e := KX a o hk
    rw [ha] at e
    cases e
    refine core (fun _ => none) (fun _ => .inl rfl) (.inr ⟨_, vs.toArray, _, hk, rfl, rfl, rfl, by rw [List.size_toArray, lenV]; exact hl, by simpa using rv⟩) (fun b u z => by have z' : (none : Option HO) = some u := z; cases z') (fun b z => absurd rfl z) fun z => absurd rfl z
  | none =>
    refine core (fun b => if b = a then some (.frz { cls := .type "list", data := .seq vs.toArray } (.lst (ns.map V.int))) else none) (fun b => ?_) (.inl (.inr ⟨{ cls := .type "list", data := .seq vs.toArray }, if_pos rfl⟩)) (fun b u z => ?_) (fun b z => ?_) fun _ => hk
    · by_cases hb : b = a
      · exact .inr ⟨_, _, if_pos hb⟩
      · exact .inl (if_neg hb)
    · by_cases hb : b = a
      · have z' := (if_pos hb).symm.trans z
        cases z'
        subst hb
        exact ⟨ha, by rw [List.length_map]; exact hl, vs, _, rv, ha⟩
      · have z' := (if_neg hb).symm.trans z
        cases z'
    · by_cases hb : b = a
      · exact hb
      · exact absurd (if_neg hb) z
end L2
namespace L2
open PySem PySem.Spec PyProof.Rows
abbrev KOf {K : PySem.W.Frag} {h : Heap} (_ : K.In h) : PySem.W.Frag := K
theorem walk_of {l : PySem.W.OpenLaw} {n k : Nat} {q : Program} {loose : List Str} {XP : (Str → Option Value) → Heap → Prop} {YP : World → Heap → Prop} {d : DefRec} {K : Params → PySem.W.Frag} {CX : World → CXT} {sp : World → Sp} {x : Str}
    (hn : l.most = some n) (hn2 : n ≤ sizeLine) (hdf : d.params.defaults = []) (hr : Room k callerA)
    (hY : ∀ (w : World) (h : Heap), YP w h → (K w.params).In h)
    (F : ∀ (w : World) (mg : Str → Option Value) (fa : Addr) (h : Heap), (K w.params).In h → h.Ns mainGlobals mg → mg d.name = some (.ref fa) →
      ∃ fd : FuncData, (∀ (s : Shared) (u : Value), BindsTo s fd ⟨[u], []⟩ [(x, u)]) ∧
        ∀ base : Heap, (K w.params).In base → base.Ns mainGlobals mg → FnOk l.prog w (K w.params) mg base (CX w) k fa fd [x] (sp w))
    (hsp : ∀ (w : World) (H : Hp) (a : Addr) (ns : List Int), ns.length ≤ n → Only H → SqL (K w.params) H a (ns.map V.int) → sp w [.ref a] H (fun v _ => v = .bl true) fun _ _ _ => False)
    (hCX : ∀ (w : World) (H : Hp) (s : Shared) (e : Value) (s' : Shared), CX w [] H s (fun _ _ _ => False) e s' → False) :
    PySem.W.WalkO q loose XP YP l.row.toRowW d [] (fun f vs => PySem.call f vs) := by
  refine Att.attach_call hn hdf fun w s₀ s₁ mg mb fa o pm cd doc a vs ns G Y ho hd hcd hmg hobj hints hlen hg => ?_
  have KX := hY w _ Y
  obtain ⟨fd, hb, hF⟩ := F w mg fa _ KX G.T.g hmg
  exact law_call KX G.T.g G.T.b G.T.builtins G.T.nolimit hg hobj hints (Nat.le_trans hlen hn2) hr hF hb (fun H hO hS => hsp w H a ns hlen hO hS) fun H e s' => hCX w H s₁ e s'
theorem walk_ofK {l : PySem.W.OpenLaw} {n k : Nat} {q : Program} {loose : List Str} {XP : (Str → Option Value) → Heap → Prop} {YP : World → Heap → Prop} {d : DefRec} {K : Params → PySem.W.Frag} {CX : CXT} {sp : PySem.W.Frag → Sp} {x : Str}
    (hn : l.most = some n) (hn2 : n ≤ sizeLine) (hdf : d.params.defaults = []) (hr : Room k callerA)
    (hY : ∀ (w : World) (h : Heap), YP w h → (K w.params).In h)
    (F : ∀ (w : World) (mg : Str → Option Value) (fa : Addr) (h : Heap), (K w.params).In h → h.Ns mainGlobals mg → mg d.name = some (.ref fa) →
      ∃ fd : FuncData, (∀ (s : Shared) (u : Value), BindsTo s fd ⟨[u], []⟩ [(x, u)]) ∧
        ∀ base : Heap, (K w.params).In base → base.Ns mainGlobals mg → FnOk l.prog w (K w.params) mg base CX k fa fd [x] (sp (K w.params)))
    (hsp : ∀ (K : PySem.W.Frag) (H : Hp) (a : Addr) (ns : List Int), ns.length ≤ n → Only H → SqL K H a (ns.map V.int) → sp K [.ref a] H (fun v _ => v = .bl true) fun _ _ _ => False)
    (hCX : ∀ (H : Hp) (s : Shared) (e : Value) (s' : Shared), CX [] H s (fun _ _ _ => False) e s' → False) :
    PySem.W.WalkO q loose XP YP l.row.toRowW d [] (fun f vs => PySem.call f vs) :=
  walk_of (K := K) (CX := fun _ => CX) (sp := fun w => sp (K w.params)) hn hn2 hdf hr hY F (fun w H a ns h1 h2 h3 => hsp (K w.params) H a ns h1 h2 h3) fun _ H s e s' => hCX H s e s'
end L2
/- THE LAST THEOREM (shape; LID, My.* are yours):
   My.Adr: a structure of the addresses that your layer names (classes, functions); My.Txt K t: a structure (Prop) of the equations over K;
   My.txt_mk : {K} {implicit addresses ..} (e1 : nsIn K mainGlobals "law" = some (some (.ref f))) (e2 : K.lookup f = some ⟨oc, od, .func (fnOf "law" "law" params body scope dV kV doc pm an cdv ct), sl⟩) (e3 : codeIn K cdv "law" = true) .. : ∃ t, My.Txt K t
set_option maxRecDepth 100000 in
set_option maxHeartbeats 0 in
theorem PySem.Challenge.cw_LID_holds : PySem.Challenge.rw_LID.Holds := by
  w_on; o_law; k_head; (case hw => w_witness2)
  k_fill
  refine L2.walk_of (l := PySem.Challenge.rw_LID) (n := 63) (k := 40) (x := "script") (CX := fun w => ..) (sp := fun _ => My.sp_law) rfl (by decide) rfl ⟨rfl, by decide, by decide⟩ (fun w h Y => PySem.W.kIn_of Y) ?F ?S ?C
  case F =>
    intro w mg fa h KX G hmg
    have T : ∃ t, My.Txt (L2.KOf KX) t := by
      dsimp only [L2.KOf]                          -- K must stand as «<heap const> w.params» for k_is
      refine' My.txt_mk ?e1 ?e2 ?e3 ..
      (case e1 => PySem.W.k_is)                    -- in the order: a name -> its address -> its object -> its parts
      (case e2 => PySem.W.k_is)
      ..
    obtain ⟨t, T⟩ := T
    have e0 := hmg.symm.trans (PySem.W.mg_of KX G T.law)
    cases e0                                       -- fa is the law's own address
    exact ⟨_, fun s u => .of_eq rfl, fun base kb nb => My.law_fn T kb nb⟩     -- if «.of_eq rfl» comes too early: refine' ⟨_, ?b, fun base kb nb => My.law_fn T kb nb⟩; exact fun s u => .of_eq rfl
  case S => exact fun w H a ns hl hO hS => ..
  case C => exact ..
(the tactic k_is has no namespace: write k_is) -/
namespace L2
open PySem PySem.Spec PyProof.Rows
def defArgs (s : Stmt) : Arguments := match s with
  | .FunctionDef _ a _ _ _ _ _ _ _ _ => a
  | _ => { posonlyargs := [], args := [], vararg := none, kwonlyargs := [], kw_defaults := [], kwarg := none, defaults := [] }
def defBody (s : Stmt) : List Stmt := match s with
  | .FunctionDef _ _ b _ _ _ _ _ _ _ => b
  | _ => []
def defScope (s : Stmt) : Scope := match s with
  | .FunctionDef _ _ _ _ _ _ sc _ _ _ => sc
  | _ => { kind := .function, names := [], isGenerator := false, isCoroutine := false }
abbrev CX0 : CXT := fun _ _ _ _ _ _ => False
abbrev E0 : XK := fun _ _ _ => False
theorem pass0 {X : Cx} : Passes CX0 X E0 := fun _ _ _ _ _ _ _ h => h.elim
structure Fun (K : PySem.W.Frag) (x qual : Str) (st : Stmt) (f : Addr) (fd : FuncData) : Prop where
  ex : ∃ (oc : Value) (od : Option Addr) (kV doc pm : Value) (an : Option Addr) (cdv ct : Value) (osl : Array (Option Value)),
    fd = PySem.W.fnOf x qual (defArgs st) (defBody st) (defScope st) .none kV doc pm an cdv ct ∧ K.lookup f = some ⟨oc, od, .func fd, osl⟩ ∧ PySem.W.codeIn K cdv qual = true
  kp : PySem.W.keepIn K (.ref f) = true
section
variable {P : Program} {w : World} {K : PySem.W.Frag} {mg : Str → Option Value} {base : Heap}
theorem Fun.ok {x qual : Str} {st : Stmt} {f : Addr} {fd : FuncData} {N ps : List Str} {k : Nat} {sp : Sp} (F : Fun K x qual st f fd) (S : FnScope N ps (defScope st)) (len : ∀ vs H Q E, sp vs H Q E → vs.length = ps.length)
    (hbody : ∀ (cdv : Value) (A : Around) (outer : List Env) (s : Shared) (H : Hp) (vs : List V) (Q : VK) (E : XK), Room k (A.deeper (envOfC qual (defScope st) s.heap.objs.size f cdv)) → sp vs H Q E →
      ∃ t, PSs (cxOf CX0 P w K mg base N qual (defScope st) f cdv A outer s H E).nox (defBody st) t ∧ t { nx := fun _ H' => Q .non H', rt := Q } (start N vs) H) : FnOk P w K mg base CX0 (k + 1) f fd ps sp := by
  obtain ⟨oc, od, kV, doc, pm, an, cdv, ct, osl, rfl, lk, hcd⟩ := F.ex
  refine fn_of lk hcd S len fun A outer s H vs Q E hr hsp => ?_
  obtain ⟨t, h, q⟩ := hbody cdv A outer s H vs Q E hr hsp
  exact ⟨t, h.nox, q⟩
theorem Fun.binds {x qual : Str} {st : Stmt} {f : Addr} {fd : FuncData} {ps : List Str} (F : Fun K x qual st f fd)
    (h : ∀ (kV doc pm : Value) (an : Option Addr) (cdv ct : Value) (us : List Value), us.length = ps.length → bindArgs (PySem.W.fnOf x qual (defArgs st) (defBody st) (defScope st) .none kV doc pm an cdv ct) ⟨us, []⟩ = pure (ps.zip us)) : Binds K fd ps [] := by
  obtain ⟨oc, od, kV, doc, pm, an, cdv, ct, osl, rfl, lk, hcd⟩ := F.ex
  exact .all (h kV doc pm an cdv ct)
theorem fun_mk {x qual : Str} {st : Stmt} {f : Addr} {oc : Value} {od an : Option Addr} {osl : Array (Option Value)} {kV doc pm cdv ct : Value} (l : K.lookup f = some ⟨oc, od, .func (PySem.W.fnOf x qual (defArgs st) (defBody st) (defScope st) .none kV doc pm an cdv ct), osl⟩)
    (c : PySem.W.codeIn K cdv qual = true) (k : PySem.W.keepIn K (.ref f) = true) : Fun K x qual st f (PySem.W.fnOf x qual (defArgs st) (defBody st) (defScope st) .none kV doc pm an cdv ct) := ⟨⟨oc, od, kV, doc, pm, an, cdv, ct, osl, rfl, l, c⟩, k⟩
end
theorem hu_of {A : Around} {k : Nat} (hr : Room k A) : A.units + 1 < cLine := Nat.lt_of_le_of_lt (Nat.add_le_add_left (by decide : 1 ≤ 64) _) hr.units
theorem small1000 {n : Nat} (h : n ≤ 1000) : n < sizeLine := Nat.lt_of_le_of_lt h (by decide)
section
variable {X : Cx}
theorem pv (i : Nat) {x : Str} {pos : Pos} (hN : X.N[i]? = some x := by rfl) (hv : Vis X.env.scope x := by first | exact Or.inl rfl | exact Or.inr (Or.inl rfl) | exact Or.inr (Or.inr rfl)) (hd : (x == ("__debug__" : Str)) = false := by decide)
    (hcd : (x == ("__classdict__" : Str)) = false := by decide) : PE X (.Name x pos) (tVar i) := pe_var hN hv hd hcd
end
theorem iteF {A B : Prop} (h : B) : if false = true then A else B := by
  rw [if_neg Bool.false_ne_true]
  exact h
theorem iteT {A B : Prop} (h : A) : if true = true then A else B := by
  rw [if_pos rfl]
  exact h
theorem ite2 {c A B : Prop} [Decidable c] (h1 : c → A) (h2 : ¬ c → B) : if c then A else B := by
  by_cases h : c
  · rw [if_pos h]
    exact h1 h
  · rw [if_neg h]
    exact h2 h
def Same (H H' : Hp) : Prop := ∀ b o, H b = some o → H' b = some o
theorem Same.refl (H : Hp) : Same H H := fun _ _ h => h
theorem Same.trans {H H1 H2 : Hp} (a : Same H H1) (b : Same H1 H2) : Same H H2 := fun c o h => b c o (a c o h)
theorem Same.free {H H' : Hp} (e : Same H H') {l : Addr} (h : H' l = Option.none) : H l = Option.none := by
  cases q : H l with
  | none => rfl
  | some o =>
    rw [e l o q] at h
    cases h
theorem Same.seq {K : PySem.W.Frag} {H H' : Hp} {a : Addr} {xs : List V} (e : Same H H') (h : SqL K H a xs) : SqL K H' a xs := by
  rcases h with (h | ⟨o, h⟩) | h
  · exact .inl (.inl (e _ _ h))
  · exact .inl (.inr ⟨o, e _ _ h⟩)
  · exact .inr h
end L2
set_option Elab.async false
set_option linter.all false
set_option maxRecDepth 100000
namespace PySem
namespace RvF
end RvF
section
variable {prog : Program} {w : World} {A : Around} {E : Value → Shared → Prop} {s : Shared}
end
end PySem
set_option Elab.async false
set_option linter.all false
set_option maxRecDepth 100000
namespace L2
open PySem PySem.Spec PyProof.Rows
theorem bt_int : bootBuiltins "int" = some (.type "int") := by decide +kernel
theorem bt_bool : bootBuiltins "bool" = some (.type "bool") := by decide +kernel
theorem bt_str : bootBuiltins "str" = some (.type "str") := by decide +kernel
theorem bt_list : bootBuiltins "list" = some (.type "list") := by decide +kernel
theorem bt_tuple : bootBuiltins "tuple" = some (.type "tuple") := by decide +kernel
theorem bt_dict : bootBuiltins "dict" = some (.type "dict") := by decide +kernel
theorem bt_set : bootBuiltins "set" = some (.type "set") := by decide +kernel
theorem bt_zip : bootBuiltins "zip" = some (.type "zip") := by decide +kernel
theorem bt_enumerate : bootBuiltins "enumerate" = some (.type "enumerate") := by decide +kernel
theorem bf_isinstance : bootBuiltins "isinstance" = some (.builtin "isinstance") := by decide +kernel
theorem bf_len : bootBuiltins "len" = some (.builtin "len") := by decide +kernel
theorem bf_all : bootBuiltins "all" = some (.builtin "all") := by decide +kernel
theorem bf_any : bootBuiltins "any" = some (.builtin "any") := by decide +kernel
theorem bf_min : bootBuiltins "min" = some (.builtin "min") := by decide +kernel
theorem bf_sorted : bootBuiltins "sorted" = some (.builtin "sorted") := by decide +kernel
def sgn (x : Str) (i : Nat) : Str := ⟨#[x.cps.getD i 0]⟩
theorem sgn_of {x : Str} {i c : Nat} (h : x.cps[i]? = some c) : (⟨#[c]⟩ : Str) = sgn x i := by
  unfold sgn
  rw [Array.getD_eq_getD_getElem?, h]
  rfl
def Its (x : Str) : It := ⟨fun i _ => i < x.cps.size, fun i H v H' => H' = H ∧ v = .str (sgn x i), fun i _ => x.cps.size ≤ i⟩
theorem turn_strA {P : Program} {w : World} {K : PySem.W.Frag} {tg : Expr} (it : Addr) (x : Str) (t : Tok) : Turn P w K tg (Its x) [it] it (fun i h => h.IsStrIter it "str_ascii_iterator" x t i) where
  mem := by simp
  obj := fun i h st b hb => by
    have e : b = it := by simpa using hb
    subst e
    obtain ⟨o, e, c, d⟩ := st
    exact ⟨o, e, fun v z => by rw [d] at z; cases z⟩
  keep := fun i h h' st k => let ⟨o, ho, r⟩ := st; ⟨o, k it (by simp) o ho, r⟩
  item := by
    intro X hP hw hK hc i pins s σ H E I hf st hg
    subst hP hw hK
    obtain ⟨f0, f1, f2, f3, f4, f5⟩ := hf it (by simp)
    refine (Walks.strAscii (prog := X.prog) (w := X.w) (I.ok.hd hc) it x t).item i s _ _ hg st fun v h' tk hv st' kk => ?_
    obtain ⟨c, u, hcx, rfl⟩ := hv
    have I1 : Inv X pins σ H { s with heap := h', toks := tk } := I.turned (fun b o hb e => kk b o (by simpa using hb) e) f0 f1 f3 f4 f5
    obtain ⟨o, e, c', d⟩ := id st'
    exact ⟨_, rfl, go_of (s := { s with heap := h', toks := tk }) e c' d (by decide) ⟨.str ⟨#[c]⟩, H, I1, ⟨u, rfl⟩, ⟨rfl, by rw [sgn_of hcx]⟩, st', fun b hb => (hf b hb).1⟩⟩
  done := by
    intro X hP hw hK hc i pins s σ H E I hf st hg
    subst hP hw hK
    obtain ⟨f0, f1, f2, f3, f4, f5⟩ := hf it (by simp)
    exact wpAny_pyNext_ascii_end (I.ok.hd hc) st (Array.getElem?_eq_none_iff.mpr hg) fun h' eb => ⟨rfl, I.turned (t' := s.toks) (fun b o hb e => eb b o hb e) f0 f1 f3 f4 f5⟩
  self := fun _ _ _ _ _ st h => wpAny_pyIter_striter_ascii st h
theorem turn_strW {P : Program} {w : World} {K : PySem.W.Frag} {tg : Expr} (it : Addr) (x : Str) (t : Tok) : Turn P w K tg (Its x) [it] it (fun i h => h.IsStrIter it "str_iterator" x t i) where
  mem := by simp
  obj := fun i h st b hb => by
    have e : b = it := by simpa using hb
    subst e
    obtain ⟨o, e, c, d⟩ := st
    exact ⟨o, e, fun v z => by rw [d] at z; cases z⟩
  keep := fun i h h' st k => let ⟨o, ho, r⟩ := st; ⟨o, k it (by simp) o ho, r⟩
  item := by
    intro X hP hw hK hc i pins s σ H E I hf st hg
    subst hP hw hK
    obtain ⟨f0, f1, f2, f3, f4, f5⟩ := hf it (by simp)
    refine (Walks.strWide (prog := X.prog) (w := X.w) (I.ok.hd hc) it x t).item i s _ _ hg st fun v h' tk hv st' kk => ?_
    obtain ⟨c, u, hcx, rfl⟩ := hv
    have I1 : Inv X pins σ H { s with heap := h', toks := tk } := I.turned (fun b o hb e => kk b o (by simpa using hb) e) f0 f1 f3 f4 f5
    obtain ⟨o, e, c', d⟩ := id st'
    exact ⟨_, rfl, go_of (s := { s with heap := h', toks := tk }) e c' d (by decide) ⟨.str ⟨#[c]⟩, H, I1, ⟨u, rfl⟩, ⟨rfl, by rw [sgn_of hcx]⟩, st', fun b hb => (hf b hb).1⟩⟩
  done := by
    intro X hP hw hK hc i pins s σ H E I hf st hg
    subst hP hw hK
    obtain ⟨f0, f1, f2, f3, f4, f5⟩ := hf it (by simp)
    exact wpAny_pyNext_wide_end (I.ok.hd hc) st (Array.getElem?_eq_none_iff.mpr hg) fun h' eb => ⟨rfl, I.turned (t' := s.toks) (fun b o hb e => eb b o hb e) f0 f1 f3 f4 f5⟩
  self := fun _ _ _ _ _ st h => wpAny_pyIter_striter_wide st h
section
variable {X : Cx} {tg : Expr}
def iStr (tl : TE) : TI := fun σ H R => tl σ H fun x H1 => ∃ z, x = .str z ∧ R (Its z) H1
theorem pi_str {l : Expr} {tl : TE} (hl : PE X l tl) : PI X tg l (iStr tl) := by
  intro pins s σ H R I h
  refine thn (hl pins s σ H _ I h) fun v s1 ⟨x, H1, I1, r1, q1⟩ => ?_
  obtain ⟨z, e, q⟩ := q1
  subst e
  obtain ⟨t, rfl⟩ := r1
  have fp : ∀ b ∈ [s1.heap.objs.size], FpOk X pins H1 b := fun b hb => by
    have e : b = s1.heap.objs.size := by simpa using hb
    subst e
    exact I1.fpOk (Nat.le_refl _) (I1.hok.fresh (Nat.le_refl _))
  cases ha : z.cps.all (· < 128)
  · exact wpAny_pyIter_wide ha ⟨s1.heap.objs.size, [s1.heap.objs.size], _, _, H1, rfl, I1.kept (t' := s1.toks) fun b o e => Heap.get?_push_of_some _ e, turn_strW _ z t, ⟨_, Heap.get?_push_size _ rfl, rfl, rfl⟩, fp, q⟩
  · exact wpAny_pyIter_ascii ha ⟨s1.heap.objs.size, [s1.heap.objs.size], _, _, H1, rfl, I1.kept (t' := s1.toks) fun b o e => Heap.get?_push_of_some _ e, turn_strA _ z t, ⟨_, Heap.get?_push_size _ rfl, rfl, rfl⟩, fp, q⟩
def isiV (x : V) (T : String) : Option Bool := match x with
  | .int _ => if T = "int" then some true else if T = "bool" then some false else if T = "str" then some false else none
  | .str _ => if T = "int" then some false else if T = "bool" then some false else if T = "str" then some true else none
  | .bl _ => if T = "int" then some true else if T = "bool" then some true else if T = "str" then some false else none
  | _ => none
def rIsi : List V → Hp → VK → Prop := fun xs H Q => ∃ x T b, xs = [x, .ty T] ∧ isiV x T = some b ∧ Q (.bl b) H
theorem call_isi : CallR X (.builtin "isinstance") rIsi := by
  intro pins s σ H xs us Q I r h
  obtain ⟨x, T, b, rfl, e, q⟩ := h
  obtain ⟨u, v, rfl, rx, rT⟩ := r.two
  cases rT
  have f0 : ∀ {k : Bool}, some k = some b → EP X pins σ Q (.bool k) s := fun e => by cases e; exact ⟨.bl _, H, I, rfl, q⟩
  have f1 : ∀ {k : Bool}, some k = some b → EP X pins σ Q (.bool k) { s with toks := s.toks + 1 } := fun e => by cases e; exact ⟨.bl _, H, I.tok _, rfl, q⟩
  cases x with
  | int i =>
    obtain ⟨t, rfl⟩ := rx
    unfold isiV at e
    dsimp only at e
    split at e
    · rename_i hT; subst hT; exact IsiPair.int_int (f0 e)
    split at e
    · rename_i hT; subst hT; exact IsiPair.int_bool (f1 e)
    split at e
    · rename_i hT; subst hT; exact IsiPair.int_str (f1 e)
    · cases e
  | str z =>
    obtain ⟨t, rfl⟩ := rx
    unfold isiV at e
    dsimp only at e
    split at e
    · rename_i hT; subst hT; exact IsiPair.str_int (f1 e)
    split at e
    · rename_i hT; subst hT; exact IsiPair.str_bool (f1 e)
    split at e
    · rename_i hT; subst hT; exact IsiPair.str_str (f0 e)
    · cases e
  | bl z =>
    cases rx
    unfold isiV at e
    dsimp only at e
    split at e
    · rename_i hT; subst hT; exact IsiPair.bool_int (f0 e)
    split at e
    · rename_i hT; subst hT; exact IsiPair.bool_bool (f0 e)
    split at e
    · rename_i hT; subst hT; exact IsiPair.bool_str (f1 e)
    · cases e
  | _ => cases (show (none : Option Bool) = some b from e)
end
theorem small {n : Nat} (h : n ≤ 1000) : n ≤ sizeLine := Nat.le_of_lt (small1000 h)
theorem Paired_nil : Vals [] [] := .nil
theorem Paired_cons {x : V} {u : Value} {xs : List V} {us : List Value} (r : RelV x u) (t : Vals xs us) : Vals (x :: xs) (u :: us) := .cons r t
def plainE : Expr → Bool
  | .Starred .. => false
  | _ => true
theorem starEach_plain {e : Expr} {es : List Expr} {env : Env} (h : plainE e = true) : starEach (e :: es) env = (false, eval e env) :: starEach es env := by
  cases e <;> first | rfl | cases h
theorem pa_c {X : Cx} {e : Expr} {es : List Expr} {te : TE} {t : TA} (ha : PE X e te) (hr : PA X es t) (hp : plainE e = true := by rfl) :
    PA X (e :: es) (tCons te t) := pa_cons ha hr (starEach_plain hp)
theorem pe_gl {X : Cx} {x : Str} {v : V} {pos : Pos} (hg : Gl X x) (hm : ∃ u, X.mg x = some u ∧ RelV v u) (hd : (x == ("__debug__" : Str)) = false := by decide) : PE X (.Name x pos) (tC v) := by
  obtain ⟨u, hm, r⟩ := hm
  exact pe_glob hg hm r hd
section
variable {P : Program} {w : World} {K : PySem.W.Frag} {mg : Str → Option Value} {base : Heap}
def Dn (K : PySem.W.Frag) (mg : Str → Option Value) (x : Str) (st : Stmt) (ps : List Str) : Prop := ∃ f fd, Fun K x x st f fd ∧ Binds K fd ps [] ∧ mg x = some (.ref f)
def Ok (P : Program) (w : World) (K : PySem.W.Frag) (mg : Str → Option Value) (base : Heap) (k : Nat) (x : Str) (ps : List Str) (sp : Sp) : Prop :=
  ∃ f fd, mg x = some (.ref f) ∧ PySem.W.keepIn K (.ref f) = true ∧ Binds K fd ps [] ∧ FnOk P w K mg base CX0 k f fd ps sp
theorem Ok.mono {j k : Nat} {x : Str} {ps : List Str} {sp : Sp} (h : Ok P w K mg base j x ps sp) (hj : j ≤ k) : Ok P w K mg base k x ps sp := by
  obtain ⟨f, fd, h1, h2, h3, h4⟩ := h
  exact ⟨f, fd, h1, h2, h3, h4.mono hj⟩
theorem Ok.of {x : Str} {st : Stmt} {N ps : List Str} {k : Nat} {sp : Sp} (D : Dn K mg x st ps) (S : FnScope N ps (defScope st)) (len : ∀ vs H Q E, sp vs H Q E → vs.length = ps.length)
    (hbody : ∀ (f : Addr) (cdv : Value) (A : Around) (outer : List Env) (s : Shared) (H : Hp) (vs : List V) (Q : VK) (E : XK), Room k (A.deeper (envOfC x (defScope st) s.heap.objs.size f cdv)) → sp vs H Q E →
      ∃ t, PSs (cxOf CX0 P w K mg base N x (defScope st) f cdv A outer s H E).nox (defBody st) t ∧ t { nx := fun _ H' => Q .non H', rt := Q } (start N vs) H) : Ok P w K mg base (k + 1) x ps sp := by
  obtain ⟨f, fd, F, B, m⟩ := D
  exact ⟨f, fd, m, F.kp, B, F.ok S len fun cdv A outer s H vs Q E hr h => hbody f cdv A outer s H vs Q E hr h⟩
end
section
variable {X : Cx} {k : Nat} {ps : List Str} {sp : Sp} {x : Str} {p pos : Pos} {e : Expr} {es : List Expr} {t : TA}
theorem pe_fn (G : Ok X.prog X.w X.K X.mg X.base k x ps sp) (hr : Room k X.A) (hg : Gl X x) (ha : PA X (e :: es) t) (hdb : (x == ("__debug__" : Str)) = false := by decide)
    (he : starEach (e :: es) X.env = (false, eval e X.env) :: starEach es X.env := by rfl) (hpl : (backTo pos (starEach es X.env)).any (·.1) = false := by rfl) :
    PE X (.Call (.Name x p) (e :: es) [] pos) (tCall sp [] E0 t) := by
  obtain ⟨f, fd, h1, h2, h3, h4⟩ := G
  exact pe_call h4 hr hg h1 h2 h3 .nil pass0 ha hdb he hpl
theorem pe_fn0 (G : Ok X.prog X.w X.K X.mg X.base k x ps sp) (hr : Room k X.A) (hg : Gl X x) (hdb : (x == ("__debug__" : Str)) = false := by decide) :
    PE X (.Call (.Name x p) [] [] pos) (tCall sp [] E0 tNil) := by
  obtain ⟨f, fd, h1, h2, h3, h4⟩ := G
  exact pe_call0 h4 hr hg h1 h2 h3 .nil pass0 hdb
end
end L2
set_option Elab.async false
set_option linter.all false
set_option maxRecDepth 100000
namespace L2
open PySem PySem.Spec PyProof.Rows
theorem closure_go {env : Env} (f : Str × NameKind → List (Str × Addr) → Sem (ForInStep (List (Str × Addr))))
    (h1 : ∀ n r, f (n, .free) r = (cellOf env n >>= fun a => pure (.yield ((n, a) :: r)))) (h2 : ∀ n k r, k ≠ .free → f (n, k) r = pure (.yield r)) :
    ∀ (names : List (Str × NameKind)) (acc : List (Str × Addr)), (∀ y ∈ names, y.2 = .free → ∃ c, env.cells.lookup y.1 = some c) →
    ∃ cl, forIn names acc f = (pure (cl ++ acc) : Sem _) ∧ (∀ p ∈ cl, env.cells.lookup p.1 = some p.2 ∧ (p.1, NameKind.free) ∈ names) ∧ ∀ y, (y, NameKind.free) ∈ names → ∃ c, (y, c) ∈ cl
  | [], acc, _ => ⟨[], by simp, fun _ h => (nomatch h), fun _ h => (nomatch h)⟩
  | (n, k) :: r, acc, h => by
    by_cases hk : k = .free
    · subst hk
      obtain ⟨c, hc⟩ := h (n, .free) List.mem_cons_self rfl
      obtain ⟨cl, e, p1, p2⟩ := closure_go f h1 h2 r ((n, c) :: acc) fun y hy => h y (List.mem_cons_of_mem _ hy)
      refine ⟨cl ++ [(n, c)], ?_, fun p hp => ?_, fun y hy => ?_⟩
      · rw [List.forIn_cons, h1]
        have e0 : cellOf env n = pure c := by unfold cellOf; rw [hc]
        rw [e0, pure_bind, pure_bind]
        show forIn r ((n, c) :: acc) f = _
        rw [e, List.append_assoc]
        rfl
      · rcases List.mem_append.mp hp with hp | hp
        · exact ⟨(p1 p hp).1, List.mem_cons_of_mem _ (p1 p hp).2⟩
        · obtain rfl := List.mem_singleton.mp hp
          exact ⟨hc, List.mem_cons_self⟩
      · rcases List.mem_cons.mp hy with e | hy
        · cases e
          exact ⟨c, by simp⟩
        · obtain ⟨c', q⟩ := p2 y hy
          exact ⟨c', List.mem_append_left _ q⟩
    · obtain ⟨cl, e, p1, p2⟩ := closure_go f h1 h2 r acc fun y hy => h y (List.mem_cons_of_mem _ hy)
      refine ⟨cl, ?_, fun p hp => ⟨(p1 p hp).1, List.mem_cons_of_mem _ (p1 p hp).2⟩, fun y hy => ?_⟩
      · rw [List.forIn_cons, h2 n k acc hk, pure_bind]
        exact e
      · rcases List.mem_cons.mp hy with e | hy
        · cases e
          exact absurd rfl hk
        · exact p2 y hy
theorem closure_of {scope : Scope} {env : Env} (h : ∀ y ∈ scope.names, y.2 = .free → ∃ c, env.cells.lookup y.1 = some c) :
    ∃ cl, closureFor scope env = pure cl ∧ (∀ p ∈ cl, env.cells.lookup p.1 = some p.2 ∧ (p.1, NameKind.free) ∈ scope.names) ∧ ∀ y, (y, NameKind.free) ∈ scope.names → ∃ c, (y, c) ∈ cl := by
  unfold closureFor
  obtain ⟨cl, e, p1, p2⟩ := closure_go (env := env) (fun x r => match x with | (name, kind) => if (kind == NameKind.free) = true then do let a ← cellOf env name; pure (.yield ((name, a) :: r)) else pure (.yield r))
    (fun n r => rfl) (fun n k r hk => by
      have : (k == NameKind.free) = false := by simpa using hk
      simp only [this, Bool.false_eq_true, if_false]) scope.names [] h
  refine ⟨cl, ?_, p1, p2⟩
  rw [List.append_nil] at e
  refine Eq.trans ?_ e
  first
  | rfl
  | simp
theorem lookup_mem {α β : Type} [BEq α] [LawfulBEq α] {a : α} {b : β} : ∀ {l : List (α × β)}, (a, b) ∈ l → ∃ b', l.lookup a = some b'
  | (x, y) :: r, h => by
    rw [List.lookup_cons]
    by_cases e : (a == x) = true
    · exact ⟨y, by rw [e]⟩
    · have e' : (a == x) = false := by simpa using e
      rw [e']
      rcases List.mem_cons.mp h with z | z
      · cases z
        simp at e
      · exact lookup_mem z
theorem relabel_free {env : Env} {y : Str} {k : NameKind} : ∀ {names : List (Str × NameKind)}, names.lookup y = some .free →
    (names.map fun (x : Str × NameKind) => match x with | (n, k) => if (k == NameKind.free && env.scope.kind == ScopeKind.function && env.kindOf n == some NameKind.cell) then (n, NameKind.cell) else (n, k)).lookup y = some .cell ∨
    (names.map fun (x : Str × NameKind) => match x with | (n, k) => if (k == NameKind.free && env.scope.kind == ScopeKind.function && env.kindOf n == some NameKind.cell) then (n, NameKind.cell) else (n, k)).lookup y = some .free
  | [], h => by simp at h
  | (n, k') :: r, h => by
    rw [List.map_cons]
    rw [List.lookup_cons] at h
    by_cases e : (y == n) = true
    · rw [e] at h
      cases h
      by_cases q : ((NameKind.free == NameKind.free) && env.scope.kind == ScopeKind.function && env.kindOf n == some NameKind.cell) = true
      · left
        simp only [q, if_true, List.lookup_cons, e]
      · right
        have q' := Bool.eq_false_iff.mpr q
        simp only [q', Bool.false_eq_true, if_false, List.lookup_cons, e]
    · have e' : (y == n) = false := by simpa using e
      rw [e'] at h
      have ih := relabel_free (env := env) (k := k) h
      have key : ∀ z : Str × NameKind, z.1 = n → (List.lookup y (z :: (r.map fun (x : Str × NameKind) => match x with | (n, k) => if (k == NameKind.free && env.scope.kind == ScopeKind.function && env.kindOf n == some NameKind.cell) then (n, NameKind.cell) else (n, k)))) =
          List.lookup y (r.map fun (x : Str × NameKind) => match x with | (n, k) => if (k == NameKind.free && env.scope.kind == ScopeKind.function && env.kindOf n == some NameKind.cell) then (n, NameKind.cell) else (n, k)) := fun z hz => by
        obtain ⟨z1, z2⟩ := z
        cases hz
        rw [List.lookup_cons, e']
      have kz : (match ((n, k') : Str × NameKind) with | (n, k) => if (k == NameKind.free && env.scope.kind == ScopeKind.function && env.kindOf n == some NameKind.cell) then (n, NameKind.cell) else (n, k)).1 = n := by
        dsimp only
        split <;> rfl
      rw [key _ kz]
      exact ih
theorem relabel_back {env : Env} {y : Str} : ∀ {names : List (Str × NameKind)}, (∀ z ∈ names, z.2 ≠ .cell) →
    ((names.map fun (x : Str × NameKind) => match x with | (n, k) => if (k == NameKind.free && env.scope.kind == ScopeKind.function && env.kindOf n == some NameKind.cell) then (n, NameKind.cell) else (n, k)).lookup y = some .cell ∨
    (names.map fun (x : Str × NameKind) => match x with | (n, k) => if (k == NameKind.free && env.scope.kind == ScopeKind.function && env.kindOf n == some NameKind.cell) then (n, NameKind.cell) else (n, k)).lookup y = some .free) → (y, NameKind.free) ∈ names
  | [], _, h => by simp at h
  | (n, k') :: r, hc, h => by
    rw [List.map_cons] at h
    by_cases e : (y == n) = true
    · have ey : y = n := by simpa using e
      subst ey
      have hk : k' = .free := by
        by_cases q : ((k' == NameKind.free) && env.scope.kind == ScopeKind.function && env.kindOf y == some NameKind.cell) = true
        · rw [Bool.and_eq_true, Bool.and_eq_true] at q
          simpa using q.1.1
        · have q' := Bool.eq_false_iff.mpr q
          simp only [q', Bool.false_eq_true, if_false, List.lookup_cons, e] at h
          rcases h with h | h
          · cases h
            exact absurd rfl (hc (y, .cell) List.mem_cons_self)
          · cases h; rfl
      subst hk
      exact List.mem_cons_self
    · have e' : (y == n) = false := by simpa using e
      have key : ∀ z : Str × NameKind, z.1 = n → (List.lookup y (z :: (r.map fun (x : Str × NameKind) => match x with | (n, k) => if (k == NameKind.free && env.scope.kind == ScopeKind.function && env.kindOf n == some NameKind.cell) then (n, NameKind.cell) else (n, k)))) =
          List.lookup y (r.map fun (x : Str × NameKind) => match x with | (n, k) => if (k == NameKind.free && env.scope.kind == ScopeKind.function && env.kindOf n == some NameKind.cell) then (n, NameKind.cell) else (n, k)) := fun z hz => by
        obtain ⟨z1, z2⟩ := z
        cases hz
        rw [List.lookup_cons, e']
      have kz : (match ((n, k') : Str × NameKind) with | (n, k) => if (k == NameKind.free && env.scope.kind == ScopeKind.function && env.kindOf n == some NameKind.cell) then (n, NameKind.cell) else (n, k)).1 = n := by
        dsimp only
        split <;> rfl
      rw [key _ kz] at h
      exact List.mem_cons_of_mem _ (relabel_back (fun z hz => hc z (List.mem_cons_of_mem _ hz)) h)
section
variable {prog : Program} {w : World} {A : Around} {E : Value → Shared → Prop} {R : Result → Shared → Prop} {s : Shared}
theorem comp_loop {elt target iter : Expr} {ifs : List Expr} {scope : Scope} {pos : Pos} {it acc : Value} {env : Env} (I : Nat → Shared → Prop)
    (turn : ∀ n s, I n s → wpAny (model prog w) A (pyNext it) (fun r s₁ => match r with
      | none => R (.ok .next) s₁
      | some v => wpAny (model prog w) A (letOwnedTupleGo target it v) (fun _ s' => wpAny (model prog w) A (assign target env v) (fun _ s₂ =>
          wpAny (model prog w) A (forIn ifs true fun c r => if r = true then do let ok ← isTrue c env (eval c env); pure (ForInStep.yield ok) else pure (ForInStep.yield r)) (fun ok s₃ =>
            if ok = true then wpAny (model prog w) A (eval elt env) (fun x s₄ =>
              wpAny (model prog w) A (call (.builtin "list.append") [acc, x]) (fun _ s₅ => ∃ m, m < n ∧ I m s₅) (notedBy (model prog w) A env fun e s' => R (.error e) s') s₄) (notedBy (model prog w) A env fun e s' => R (.error e) s') s₃
            else ∃ m, m < n ∧ I m s₃) (notedBy (model prog w) A env fun e s' => R (.error e) s') s₂) (notedBy (model prog w) A env fun e s' => R (.error e) s') s') (notedBy (model prog w) A env fun e s' => R (.error e) s') s₁)
      (notedBy (model prog w) A env fun e s' => R (.error e) s') s)
    (n : Nat) (h : I n s) : codeAny (model prog w) A (.compLoop (.ListComp elt [⟨target, iter, ifs, 0⟩] scope pos) 0 it acc env) R s := by
  refine codeAny_loop rfl I (fun n s hI => ?_) n h
  show wpAny _ A ((compTurn (.ListComp elt [⟨target, iter, ifs, 0⟩] scope pos) 0 it acc env).onRaise (fun x => do noteFrame x env; theTreesLotGoes x)) _ _ s
  refine wpAny_noted ?_
  rw [compTurn_list]
  refine wpAny_bind (wpAny_standAt (wpAny_bind (wpAny_mono (turn n s hI) (fun r s₁ h₁ => ?_) fun _ _ h' => h')))
  cases r with
  | none => exact wpAny_pure h₁
  | some v =>
    refine wpAny_bind (wpAny_mono h₁ (fun _ s' h₁' => wpAny_bind (wpAny_mono h₁' (fun _ s₂ h₂ => wpAny_bind (wpAny_mono h₂ (fun ok s₃ h₃ => ?_) fun _ _ h' => h')) fun _ _ h' => h')) fun _ _ h' => h')
    cases ok with
    | false => exact wpAny_pure ⟨rfl, h₃⟩
    | true =>
      exact wpAny_bind (wpAny_bind (wpAny_mono h₃ (fun x s₄ h₄ => wpAny_bind (wpAny_mono h₄ (fun _ s₅ h₅ => wpAny_pure (wpAny_pure ⟨rfl, h₅⟩)) fun _ _ h' => h')) fun _ _ h' => h'))
end
def cxC (X : Cx) (N : List Str) (scope : Scope) (cl : List (Str × Addr)) (s : Shared) (H : Hp) (fp : List Addr) : Cx :=
  { X with N := N, s₀ := s, H₀ := H, env := compEnvC scope cl s.heap.objs.size X.env, outer := X.stack, stack := X.stack, ex := fp, fn := fun _ => false, pn := [], xe := fun _ _ => False }
def PIfs (X : Cx) (ifs : List Expr) (tt : TT) : Prop :=
  ∀ (pins : List (Addr × Obj)) (s : Shared) (σ : St) (H : Hp) (Q : Bool → Hp → Prop), Inv X pins σ H s → tt σ H Q →
    wpAny (model X.prog X.w) X.A (forIn ifs true fun c r => if r = true then do let ok ← isTrue c X.env (eval c X.env); pure (ForInStep.yield ok) else pure (ForInStep.yield r)) (TP X pins σ Q) X.xe s
def tYes : TT := fun _ H Q => Q true H
theorem pf_nil {X : Cx} : PIfs X [] tYes := fun _ _ _ H _ I h => wpAny_tests_nil ⟨H, I, h⟩
theorem pf_one {X : Cx} {c : Expr} {tc : TT} (h : PT X c tc) : PIfs X [c] tc := fun pins s σ H Q I q => wpAny_tests_one (h pins s σ H Q I q)
structure CompOk (scope : Scope) (N : List Str) : Prop where
  cell : ∀ y ∈ scope.names, y.2 ≠ .cell
  kind : scope.kind = .function
  names : ∀ y ∈ scope.names, y.2 = .local → scope.names.lookup y.1 = some .local
  free : ∀ y ∈ scope.names, y.2 = .free → scope.names.lookup y.1 = some .free
def Cap (X : Cx) (scope : Scope) (N : List Str) (σ σ' : St) : Prop :=
  σ'.length = N.length ∧ ∀ (i : Nat) (y : Str) (v : V), N[i]? = some y → σ'[i]? = some (some v) → (y, NameKind.free) ∈ scope.names ∧ ∃ j : Nat, X.N[j]? = some y ∧ σ[j]? = some (some v) ∧ Vis X.env.scope y
theorem inv_comp {X : Cx} {pins : List (Addr × Obj)} {σ σ' : St} {H : Hp} {s : Shared} {scope : Scope} {N : List Str} {cl : List (Str × Addr)} {fp : List Addr} {h1 : Heap} {tk : Nat} {m1 : Str → Option Value}
    (I : Inv X pins σ H s) (C : CompOk scope N) (hfr : ∀ y, (y, NameKind.free) ∈ scope.names → X.env.kindOf y = some .cell ∨ X.env.kindOf y = some .free)
    (p1 : ∀ p ∈ cl, X.env.cells.lookup p.1 = some p.2 ∧ (p.1, NameKind.free) ∈ scope.names) (p2 : ∀ y, (y, NameKind.free) ∈ scope.names → ∃ c, (y, c) ∈ cl)
    (cap : Cap X scope N σ σ') (hf : ∀ b ∈ fp, FpOk X pins H b) (hfl : ∀ b ∈ fp, b < s.heap.objs.size)
    (hn : h1.Ns s.heap.objs.size m1) (hk : ∀ b o, s.heap.get? b = some o → h1.get? b = some o) :
    Inv (cxC X N scope cl s H fp) [] σ' H { s with heap := h1, toks := tk } := by
  have ok := I.ok
  have lk : ∀ y c, cl.lookup y = some c → X.env.cells.lookup y = some c := fun y c e => (p1 _ (PySem.mem_of_lookup e)).1
  have lk2 : ∀ y, (y, NameKind.free) ∈ scope.names → ∃ c, cl.lookup y = some c ∧ X.env.cells.lookup y = some c := fun y hy => by
    obtain ⟨c, hc⟩ := p2 y hy
    obtain ⟨c', e⟩ := lookup_mem hc
    exact ⟨c', e, lk y c' e⟩
  have fsub : ∀ b ∈ fp, b ∉ frs X.stack := fun b hb z => by
    obtain ⟨f0, f1, f2, _⟩ := hf b hb
    rcases List.mem_cons.mp (I.stkSub b z) with e | e
    · exact f1 e
    · exact f2 e
  have ok' : (cxC X N scope cl s H fp).Ok := by
    refine ⟨ok.mod, C.kind, ok.glob, ok.blt, Nat.le_refl _, fun x y c h1 h2 => ok.inj x y c (lk x c h1) (lk y c h2), fun y hy => ?_, fun y c h _ => ?_, ok.hd, ok.frames, .inl rfl, fun b hb => ?_, I.bs, Nat.le_trans ok.bsz I.sz,
      fun b o e hb => ?_, fsub, I.stack, I.stkFree⟩
    · obtain ⟨c, e, _⟩ := lk2 y (relabel_back (env := X.env) C.cell hy)
      exact ⟨c, e⟩
    · exact absurd (show false = true from h) Bool.false_ne_true
    · obtain ⟨f0, f1, f2, f3, f4, f5⟩ := hf b hb
      exact ⟨Nat.ne_of_lt (hfl b hb), fun x c e => f4 x c (lk x c e)⟩
    · obtain ⟨f0, f1, f2, f3, f4, f5⟩ := hf b hb
      rcases f3 with z | z
      · exact ok.noex b o e z
      · exact absurd (Nat.lt_of_lt_of_le (Heap.lt_size e) (Nat.le_trans ok.bsz z)) (Nat.lt_irrefl _)
  refine ⟨ok', rfl, I.bare, Un.kept hk, ⟨m1, hn, fun i y v e1 e2 e3 => ?_⟩, fun y c e => ?_, I.hok.fresh (Nat.le_refl _), fun y c e => I.freeC y c (lk y c e), fun p hp => absurd (show p ∈ ([] : List (Addr × Obj)) from hp) (by simp), I.hok.kept hk, cap.1⟩
  · obtain ⟨hy, j, e4, e5, e6⟩ := cap.2 i y v e1 e2
    obtain ⟨m, _, hl⟩ := I.loc
    obtain ⟨u, r, l⟩ := hl j y v e4 e5 e6
    refine ⟨u, r, .inr ?_⟩
    rcases l with ⟨k, _⟩ | ⟨k, c, e, z⟩
    · rcases hfr y hy with q | q <;> (rw [k] at q; cases q)
    · obtain ⟨c', e', e''⟩ := lk2 y hy
      rw [e] at e''
      cases e''
      have rl := relabel_free (env := X.env) (k := .free) (C.free (y, .free) hy rfl)
      refine ⟨rl, c, e', ?_⟩
      obtain ⟨o, ho, hd⟩ := z
      exact ⟨o, hk _ _ ho, hd⟩
  · obtain ⟨v, o, ho, hd⟩ := I.cell y c (lk y c e)
    exact ⟨v, o, hk _ _ ho, hd⟩
def tComp (X : Cx) (scope : Scope) (N : List Str) (wi : TI) (g : TG) (tt : TT) (te : TE) : TE := fun σ H Q => ∃ σ0, Cap X scope N σ σ0 ∧ wi σ H fun J H1 => ∀ D, H1 D = none → ∃ W : Nat → Nat → St → Hp → List V → Prop, (∃ m, W 0 m σ0 (upd H1 D (.lst [])) []) ∧
  ∀ i m σ' H' ys, W i m σ' H' ys → H' D = some (.lst ys) ∧ ((J.stop i H' ∧ Q (.ref D) H') ∨ (J.go i H' ∧ ∀ x H2, J.yld i H' x H2 → g x σ' H2 fun σ3 H3 => tt σ3 H3 fun b H4 =>
    if b = true then te σ3 H4 fun y H5 => H5 D = some (.lst ys) ∧ ys.length < sizeLine ∧ ∃ m', m' < m ∧ W (i + 1) m' σ3 (upd H5 D (.lst (ys ++ [y]))) (ys ++ [y]) else H4 D = some (.lst ys) ∧ ∃ m', m' < m ∧ W (i + 1) m' σ3 H4 ys))
theorem pe_comp {X : Cx} {elt target iter : Expr} {ifs : List Expr} {scope : Scope} {pos : Pos} {N : List Str} {wi : TI} {g : TG} {tt : TT} {te : TE}
    (C : CompOk scope N) (hfr : ∀ y, (y, NameKind.free) ∈ scope.names → X.env.kindOf y = some .cell ∨ X.env.kindOf y = some .free) (hc : X.calm = true)
    (hi : PI X target iter wi)
    (hb : ∀ cl s H fp, PG (cxC X N scope cl s H fp) target g ∧ PIfs (cxC X N scope cl s H fp) ifs tt ∧ PE (cxC X N scope cl s H fp) elt te)
    (hs : ∀ x, foldedSetIterable iter X.env x = pure x := by intro _; rfl) :
    PE X (.ListComp elt [⟨target, iter, ifs, 0⟩] scope pos) (tComp X scope N wi g tt te) := by
  intro pins s σ H Q I hq
  obtain ⟨σ0, cap, hq⟩ := hq
  obtain ⟨cl, hcl, p1, p2⟩ := closure_of (scope := scope) (env := X.env) (fun y hy hk => by
    obtain ⟨n, k⟩ := y
    cases hk
    exact I.ok.has n (hfr n hy))
  rw [eval_ListComp]
  refine wpAny_comprehension_free (use := none) rfl hs hcl C.kind C.names (thn (hi pins s σ H _ I hq) fun xv s1 h1 => thn h1 fun itv s2 h2 => ?_)
  obtain ⟨it, fp, tn, J, H2, rfl, I2, T, st2, f2, q2⟩ := h2
  refine wpAny_newObj_type (wpAny_newFunctionEnv C.cell (by intro y hy; simp at hy) (fun h₁ hns₁ hsb₁ => ?_) C.kind)
  dsimp only at hns₁ hsb₁ ⊢
  have hD : H2 s2.heap.objs.size = none := I2.hok.fresh (Nat.le_refl _)
  have I3 : Inv X pins σ (upd H2 s2.heap.objs.size (.lst [])) { s2 with heap := s2.heap.push { cls := .type "list", dict := none, data := .seq ([] : List Value).toArray } } :=
    I2.laid (t' := s2.toks) (fun b u e => Heap.get?_push_of_some _ e) (Nat.le_refl _) ⟨Nat.zero_le _, [], 0, .nil, Heap.get?_push_size _ rfl⟩
  generalize hs3 : ({ s2 with heap := s2.heap.push { cls := .type "list", dict := none, data := .seq ([] : List Value).toArray } } : Shared) = s3 at I3
  have hh3 : s2.heap.push { cls := .type "list", dict := none, data := .seq ([] : List Value).toArray } = s3.heap := by rw [← hs3]
  rw [hh3] at hns₁ hsb₁
  have fl2 : ∀ b ∈ fp, b < s2.heap.objs.size := fun b hb => by
    obtain ⟨o, e, _⟩ := T.obj _ _ st2 b hb
    exact Heap.lt_size e
  have fl3 : ∀ b ∈ fp, b < s3.heap.objs.size := fun b hb => by
    rw [← hh3, Heap.size_push]
    exact Nat.lt_succ_of_lt (fl2 b hb)
  have f3 : ∀ b ∈ fp, FpOk X pins (upd H2 s2.heap.objs.size (.lst [])) b := fun b hb => by
    obtain ⟨f0, fr⟩ := f2 b hb
    exact ⟨by rw [upd_ne (Nat.ne_of_lt (fl2 b hb))]; exact f0, fr⟩
  have keep3 : ∀ b o, s3.heap.get? b = some o → h₁.get? b = some o := fun b o e => hsb₁.extBut b o (Nat.ne_of_lt (Heap.lt_size e)) (Heap.get?_push_of_some _ e)
  have I4 := inv_comp (tk := s3.toks) I3 C hfr p1 p2 cap f3 fl3 hns₁ keep3
  have st4 : tn 0 h₁ := T.keep _ _ _ st2 fun b hb o e => keep3 b o (by rw [← hh3]; exact Heap.get?_push_of_some _ e)
  obtain ⟨W, ⟨m0, w0⟩, turn⟩ := q2 s2.heap.objs.size hD
  have fpc : ∀ {H' : Hp}, (∀ b ∈ fp, H' b = none) → ∀ b ∈ fp, FpOk (cxC X N scope cl s3 (upd H2 s2.heap.objs.size (.lst [])) fp) [] H' b := fun {H'} hn b hb => by
    obtain ⟨e1, e2⟩ := I4.ok.exf b hb
    exact ⟨hn b hb, e1, I4.ok.exfs b hb, .inl hb, e2, fun p hp => absurd (show p ∈ ([] : List (Addr × Obj)) from hp) (by simp)⟩
  have loop : ∀ s4 : Shared, s4 = { s3 with heap := h₁, toks := s3.toks } →
      codeAny (model X.prog X.w) X.A (.compLoop (.ListComp elt [⟨target, iter, ifs, 0⟩] scope pos) 0 (.ref it) (.ref s2.heap.objs.size) (compEnvC scope cl s3.heap.objs.size X.env))
        (compPost (model X.prog X.w) X.A X.xe none (EP X pins σ Q) (.ref s2.heap.objs.size) s3.heap.objs.size) s4 := by
    rintro s4 rfl
    refine comp_loop (fun n s' => ∃ i σ' H' ys, Inv (cxC X N scope cl s3 (upd H2 s2.heap.objs.size (.lst [])) fp) [] σ' H' s' ∧ tn i s'.heap ∧ (∀ b ∈ fp, H' b = none) ∧ W i n σ' H' ys) ?_ m0 ⟨0, σ0, _, [], I4, st4, fun b hb => (f3 b hb).1, w0⟩
    rintro n s5 ⟨i, σ5, H5, ys, I5, st5, fr5, w5⟩
    obtain ⟨hacc, w5⟩ := turn i n σ5 H5 ys w5
    have noE : ∀ {α : Type} {t : Sem α} {Q' : α → Shared → Prop} {E' : Value → Shared → Prop} {s' : Shared}, wpAny (model X.prog X.w) X.A t Q' (fun _ _ => False) s' → wpAny (model X.prog X.w) X.A t Q' E' s' := fun h => wpAny_mono h (fun _ _ q => q) fun _ _ z => z.elim
    rcases w5 with ⟨stop, qn⟩ | ⟨go, step⟩
    · refine noE (thn (T.done (cxC X N scope cl s3 (upd H2 s2.heap.objs.size (.lst [])) fp) rfl rfl rfl hc i [] s5 σ5 H5 _ I5 (fpc fr5) st5 stop) fun r s6 ⟨hr, I6⟩ => ?_)
      subst hr
      obtain ⟨m6, hn6, _⟩ := I6.loc
      refine ⟨m6, hn6, fun h' sb => ?_⟩
      have kp : ∀ b o, b ≠ s3.heap.objs.size → s6.heap.get? b = some o → h'.get? b = some o := fun b o hb e => sb.extBut b o hb e
      have ne3 : ∀ b o, s3.heap.get? b = some o → b ≠ s3.heap.objs.size := fun b o e => Nat.ne_of_lt (Heap.lt_size e)
      have un : Un (frs X.stack) fp (upd H2 s2.heap.objs.size (.lst [])) H5 s3.heap h' := by
        have u := I6.base
        exact ⟨fun b o e n hb hx => kp b o (ne3 b o e) (u.keep b o e n hb hx), fun b o e n hb hx => by
          obtain ⟨sl, e1⟩ := u.slot b o e n hb hx
          exact ⟨sl, kp b _ (ne3 b o e) e1⟩, u.free, fun b o e hx => by
          obtain ⟨o', e1⟩ := u.there b o e hx
          exact ⟨o', kp b _ (ne3 b o e) e1⟩, u.tups, u.frzs, u.tbls⟩
      have hok : HOk X.prog X.w H5 h' := fun b u e => by
        refine (I6.hok b u e).stay (fun c v hc' q => kp c v ?_ q) (fun _ q => q) fun _ _ q => q
        have hfree : H5 s3.heap.objs.size = none := I6.free
        rintro rfl
        rcases hc' with z | z
        · rw [z] at hfree; rw [hfree] at e; cases e
        · rw [hfree] at z; cases z
      have I7 : Inv X pins σ H5 { s6 with heap := h' } := by
        refine I3.call' (s' := { s6 with heap := h' }) I6.os un hok I6.bare fun b hb => ?_
        obtain ⟨f0, f1, f2', f3', f4, f5⟩ := f3 b hb
        exact ⟨f3', f1, f4, f5⟩
      exact ⟨.ref s2.heap.objs.size, H5, I7, rfl, qn⟩
    · refine noE (thn (T.item (cxC X N scope cl s3 (upd H2 s2.heap.objs.size (.lst [])) fp) rfl rfl rfl hc i [] s5 σ5 H5 (fun _ _ => False) I5 (fpc fr5) st5 go) fun r s6 ⟨u, hr, h6⟩ => ?_)
      subst hr
      refine noE (thn h6 fun _ s7 ⟨x, H7, I7, r7, y7, st7, fr7⟩ => ?_)
      obtain ⟨hg, ht, he⟩ := hb cl s3 (upd H2 s2.heap.objs.size (.lst [])) fp
      have I7' := I7.pinned (fpc fr7) (T.obj _ _ st7)
      have back : ∀ {σ8 : St} {H8 : Hp} {s8 : Shared}, Inv (cxC X N scope cl s3 (upd H2 s2.heap.objs.size (.lst [])) fp) ([] ++ pinsAt fp s7.heap) σ8 H8 s8 → tn (i + 1) s8.heap ∧ ∀ b ∈ fp, H8 b = none := fun {σ8 H8 s8} I8 =>
        ⟨T.keep _ _ _ st7 fun b hb o e => (I8.pin (b, o) (List.mem_append_right _ (List.mem_append_right _ (mem_pinsAt hb e)))).1, fun b hb => by
          obtain ⟨o, e, d⟩ := T.obj _ _ st7 b hb
          exact (I8.pin (b, o) (List.mem_append_right _ (List.mem_append_right _ (mem_pinsAt hb e)))).2.1⟩
      refine noE (thn (hg _ s7 σ5 H7 x u _ I7' r7 (step x H7 y7)) fun _ s8 ⟨σ8, H8, I8, q8⟩ => ?_)
      refine noE (thn (ht _ s8 σ8 H8 _ I8 q8) fun b s9 ⟨H9, I9, q9⟩ => ?_)
      cases b with
      | false =>
        rw [if_neg Bool.false_ne_true] at q9 ⊢
        obtain ⟨_, m', hm, w9⟩ := q9
        exact ⟨m', hm, i + 1, σ8, H9, ys, I9.unpinned, (back I9).1, (back I9).2, w9⟩
      | true =>
        rw [if_pos rfl] at q9 ⊢
        refine noE (thn (he _ s9 σ8 H9 _ I9 q9) fun yv s10 ⟨y, H10, I10, r10, hacc10, hlen, m', hm, w10⟩ => ?_)
        refine noE (thn (mt_append _ s10 σ8 H10 (.ref s2.heap.objs.size) [y] (.ref s2.heap.objs.size) [yv] (fun _ H11 => H11 = upd H10 s2.heap.objs.size (.lst (ys ++ [y]))) I10 rfl (.cons r10 .nil) ⟨_, _, _, rfl, rfl, hacc10, hlen, rfl⟩) fun _ s11 ⟨z, H11, I11, _, e11⟩ => ?_)
        subst e11
        exact ⟨m', hm, i + 1, σ8, _, ys ++ [y], I11.unpinned, (back I11).1, (back I11).2, w10⟩
  have fin := codeAny_compStart_list (loop { s3 with heap := h₁, toks := s3.toks } rfl) (T.self _ _ _ _ _ st4 (loop { s3 with heap := h₁, toks := s3.toks } rfl))
  subst hs3
  exact fin
end L2
set_option Elab.async false
set_option linter.all false
set_option maxRecDepth 100000
namespace PySem
open Sem (wp)
namespace IfF
theorem lk_class : typeLookup (.type "function") "__class__" = pure (some (.builtin "object.__class__")) := by rw [typeLookup_type, builtinLookup_eq_fast]; kernel_rfl
theorem slot_ga : Slot "function" "__getattribute__" "object.__getattribute__" :=
  .of (owner := "object") (n := "__getattribute__") (by rw [typeLookup_type, builtinLookup_eq_fast]; kernel_rfl) (by decide +kernel) (by decide +kernel) (by decide +kernel)
    (by first | exact .inl (by decide +kernel) | exact .inr (by decide +kernel)) (by rw [isSubtype_type]; kernel_rfl)
theorem entry_ga : entryFor table "object.__getattribute__" = some Builtin.«object.__getattribute__» := entryFor_of_tree (by kernel_rfl)
theorem sub_class_owner : isSubtype (.type "function") (.type (".".intercalate ("object.__class__".cutAt '.').dropLast)) = pure true := by
  rw [F.owner_object_class, isSubtype_type]; kernel_rfl
theorem sub_int : isSubtype (.type "function") (.type "int") = pure false := by rw [isSubtype_type]; kernel_rfl
theorem sub_bool : isSubtype (.type "function") (.type "bool") = pure false := by rw [isSubtype_type]; kernel_rfl
theorem sub_str : isSubtype (.type "function") (.type "str") = pure false := by rw [isSubtype_type]; kernel_rfl
end IfF
section
variable {prog : Program} {w : World} {A : Around} {E : Value → Shared → Prop} {h : Heap} {g : Array GenState} {d : Drawn} {t : Nat} {os : OsState} {a : Addr} {o : Obj}
theorem fn_class_get {R : Result → Shared → Prop} (hx : h.get? a = some o) (hc : o.cls = .type "function") (hq : R (.ok (.ret (.type "function"))) ⟨h, g, d, t, os⟩) :
    codeAny (model prog w) A (.call (.builtin "getset_descriptor.__get__") ⟨[.builtin "object.__class__", .ref a, .type "function"], []⟩) R ⟨h, g, d, t, os⟩ := by
  have hT : (⟨h, g, d, t, os⟩ : Shared).TypeIs (.ref a) "function" := ⟨_, hx, hc⟩
  have hT5 : (⟨h, g, d, t, os⟩ : Shared).TypeIs (.builtin "object.__class__") "getset_descriptor" := F.typeOf_object_class
  have f8 := IfF.sub_class_owner
  refine codeAny_call_builtin F.slot_gs_get.plain F.entry_gs_get (F.slot_gs_get.check _ _ _ _ _ _ _ _ hT5 (F.args_gs_get _ _ _) ?_)
  repeat (any_goals (first | assumption | wp_step))
  refine ⟨Code.quiet_builtin _ (by decide +kernel), codeAny_builtin F.entry_object_class ?_⟩
  repeat (any_goals (first | assumption | wp_step))
theorem fn_class_entry {tk : Tok} {Q : Fin → Shared → Prop} (hx : h.get? a = some o) (hc : o.cls = .type "function") (hq : Q (.done (.ret (.type "function"))) ⟨h, g, d, t, os⟩) :
    wpAny (model prog w) A (Builtin.«object.__getattribute__» ⟨[.ref a, .str "__class__" tk], []⟩) Q E ⟨h, g, d, t, os⟩ := by
  have hT : (⟨h, g, d, t, os⟩ : Shared).TypeIs (.ref a) "function" := ⟨_, hx, hc⟩
  have hT5 : (⟨h, g, d, t, os⟩ : Shared).TypeIs (.builtin "object.__class__") "getset_descriptor" := F.typeOf_object_class
  have f4 := IfF.lk_class
  have f5 := F.typeOf_object_class
  have f6 := F.slot_gs_get.lookup
  have f7 := F.slot_gs_set.lookup
  repeat (any_goals (first | assumption | wp_step))
  refine fn_class_get hx hc ?_
  repeat (any_goals (first | assumption | wp_step))
theorem fn_class_by {tk : Tok} {Q : Value → Shared → Prop} (hx : h.get? a = some o) (hc : o.cls = .type "function") (hq : Q (.type "function") ⟨h, g, d, t, os⟩) : wpAny (model prog w) A (getAttrBy (.ref a) (.str "__class__" tk) false) Q E ⟨h, g, d, t, os⟩ := by
  have hT : (⟨h, g, d, t, os⟩ : Shared).TypeIs (.ref a) "function" := ⟨_, hx, hc⟩
  have f2 := IfF.slot_ga.lookup
  have f3 := IfF.slot_ga.bind (.ref a)
  repeat (any_goals (first | assumption | wp_step))
  refine codeAny_call_builtin IfF.slot_ga.plain IfF.entry_ga (IfF.slot_ga.check _ _ _ _ _ _ _ _ hT (F.args_object_getattribute_2 _ _) (fn_class_entry hx hc ?_))
  repeat (any_goals (first | assumption | wp_step))
theorem fn_class_attr {Q : Option Value → Shared → Prop} (hx : h.get? a = some o) (hc : o.cls = .type "function") (hq : Q (some (.type "function")) ⟨h, g, d, t + 1, os⟩) : wpAny (model prog w) A (getAttr? (.ref a) "__class__") Q E ⟨h, g, d, t, os⟩ := by
  unfold getAttr? getAttrBy?
  repeat (any_goals (first | assumption | with_reducible apply fn_class_by hx hc | wp_step))
theorem isi_nested_fn {T : String} {dep : Int} {tk : Tok} {Q : Fin → Shared → Prop} (hx : h.get? a = some o) (hc : o.cls = .type "function") (hne : (Value.type "function" == Value.type T) = false) (hty : typeOf (.type T) = pure (.type "type"))
    (hsub : isSubtype (.type "function") (.type T) = pure false) (hq : Q (.done (.ret (.bool false))) ⟨h, g, d, t + 1, os⟩) :
    wpAny (model prog w) A (Builtin.«isinstance.nested» ⟨[.ref a, .type T, .int dep tk], []⟩) Q E ⟨h, g, d, t, os⟩ := by
  have hT : (⟨h, g, d, t, os⟩ : Shared).TypeIs (.ref a) "function" := ⟨_, hx, hc⟩
  repeat (any_goals (first | assumption | with_reducible apply fn_class_attr hx hc | wp_step))
end
theorem isi_false_fn {a : Addr} {T : String} (hne : (Value.type "function" == Value.type T) = false) (hty : typeOf (.type T) = pure (.type "type")) (hsub : isSubtype (.type "function") (.type T) = pure false) :
    Meets (Builtin.«isinstance» ⟨[.ref a, .type T], []⟩) (fun _ R s => (∃ o, s.heap.get? a = some o ∧ o.cls = .type "function") ∧ R (.ok (.ret (.bool false))) { s with toks := s.toks + 1 }) :=
  fun _ _ _ _ s hs => by
    obtain ⟨h, g, d, t, os⟩ := s
    obtain ⟨⟨o, hx, hc⟩, hq⟩ := hs
    exact isinstance_outer (isi_nested_fn hx hc hne hty hsub hq)
section
variable {prog : Program} {w : World} {A : Around} {E : Value → Shared → Prop} {s : Shared} {Q : Value → Shared → Prop} {a : Addr} {o : Obj}
theorem isi_fn_int (hx : s.heap.get? a = some o) (hc : o.cls = .type "function") (h : Q (.bool false) { s with toks := s.toks + 1 }) : wpAny (model prog w) A (call (.builtin "isinstance") [.ref a, .type "int"]) Q E s :=
  call_isinstance (isi_false_fn (by decide) F.isi_meta_int IfF.sub_int) ⟨⟨o, hx, hc⟩, h⟩
theorem isi_fn_bool (hx : s.heap.get? a = some o) (hc : o.cls = .type "function") (h : Q (.bool false) { s with toks := s.toks + 1 }) : wpAny (model prog w) A (call (.builtin "isinstance") [.ref a, .type "bool"]) Q E s :=
  call_isinstance (isi_false_fn (by decide) F.isi_meta_bool IfF.sub_bool) ⟨⟨o, hx, hc⟩, h⟩
theorem isi_fn_str (hx : s.heap.get? a = some o) (hc : o.cls = .type "function") (h : Q (.bool false) { s with toks := s.toks + 1 }) : wpAny (model prog w) A (call (.builtin "isinstance") [.ref a, .type "str"]) Q E s :=
  call_isinstance (isi_false_fn (by decide) F.isi_meta_str IfF.sub_str) ⟨⟨o, hx, hc⟩, h⟩
end
end PySem
set_option Elab.async false
set_option linter.all false
set_option maxRecDepth 100000
namespace L2
open PySem PySem.Spec PyProof.Rows
section
variable {X : Cx}
theorem PE.imp {e : Expr} {t t' : TE} (h : PE X e t) (k : ∀ σ H Q, t' σ H Q → t σ H Q) : PE X e t' := fun pins s σ H Q I q => h pins s σ H Q I (k σ H Q q)
def rAll (K : PySem.W.Frag) : List V → Hp → VK → Prop := fun xs H Q => ∃ (p : Addr) (bs : List Bool), xs = [.ref p] ∧ SqL K H p (bs.map V.bl) ∧ Q (.bl (bs.all id)) H
theorem all_range (bs : List Bool) : (List.range bs.length).all (fun i => bs.getD i false) = bs.all id := by
  rw [Bool.eq_iff_iff, List.all_eq_true, List.all_eq_true]
  constructor
  · intro h b hb
    obtain ⟨i, hi, e⟩ := List.mem_iff_getElem.mp hb
    have := h i (List.mem_range.mpr hi)
    rw [List.getD_eq_getElem?_getD, List.getElem?_eq_getElem hi] at this
    rw [← e]
    exact this
  · intro h i hi
    have hi := List.mem_range.mp hi
    rw [List.getD_eq_getElem?_getD, List.getElem?_eq_getElem hi]
    exact h _ (List.getElem_mem hi)
theorem call_all (hc : X.calm = true) : CallR X (.builtin "all") (rAll X.K) := by
  intro pins s σ H xs us Q I r h
  obtain ⟨p, bs, rfl, hq, q⟩ := h
  obtain ⟨u, rfl, rx⟩ := r.one
  cases rx
  obtain ⟨its, rv, pl, hz⟩ := I.list hq
  have hl := rv.length
  rw [List.length_map] at hl
  have hne : p ≠ s.heap.objs.size := by
    obtain ⟨o, ho, _⟩ := pl.isList
    exact Nat.ne_of_lt (Heap.lt_size ho)
  refine call_all_walk (wpAny_pyIter_list pl.isList ?_)
  refine ⟨s.heap.objs.size, _, _, _, _, _, fun i => bs.getD i false, rfl, Walks.list (show X.A.in1.handled = none from I.ok.hd hc) _ p hne its.toArray, ⟨⟨_, Heap.get?_push_size _ rfl, rfl, rfl⟩, ?_⟩, ?_, fun h' tk kp => ?_⟩
  · exact pl.isList.at fun o e => Heap.get?_push_of_some _ e
  · intro i v s' Q' E' hv hq'
    have hv' : its[i]? = some v := by simpa using hv
    have hi : i < bs.length := by rw [hl]; exact (List.getElem?_eq_some_iff.mp hv').1
    obtain ⟨u, hu, ru⟩ := rv.get (i := i) (x := .bl bs[i]) (by rw [List.getElem?_map, List.getElem?_eq_getElem hi]; rfl)
    rw [hv'] at hu
    cases hu
    cases ru
    have e : bs.getD i false = bs[i] := by rw [List.getD_eq_getElem?_getD, List.getElem?_eq_getElem hi]; rfl
    replace hq' : Q' (bs.getD i false) s' := hq'
    rw [e] at hq'
    exact wpAny_truthy_bool hq'
  · have e : (List.range its.toArray.size).all (fun i => bs.getD i false) = bs.all id := by
      rw [List.size_toArray, ← hl]; exact all_range bs
    rw [e]
    refine ⟨.bl (bs.all id), H, ?_, rfl, q⟩
    exact I.kept fun b o eo => kp b o (by
      intro z
      have : b = s.heap.objs.size := by simpa using z
      rw [this] at eo
      exact absurd (Heap.lt_size eo) (Nat.lt_irrefl _)) (Heap.get?_push_of_some _ eo)
inductive Rk (K : PySem.W.Frag) (H : Hp) : V → String → Prop
  | non : Rk K H .non "NoneType"
  | lst {a xs} : SqL K H a xs → Rk K H (.ref a) "list"
  | tup {a xs} : SqT K H a xs → Rk K H (.ref a) "tuple"
  | dct {a kvs} : H a = some (.dK kvs) → Rk K H (.ref a) "dict"
  | fn {a o} : K.lookup a = some o → o.cls = .type "function" → Rk K H (.ref a) "function"
def rIsiR (K : PySem.W.Frag) : List V → Hp → VK → Prop := fun xs H Q => ∃ x k T, xs = [x, .ty T] ∧ Rk K H x k ∧ (T = "int" ∨ T = "bool" ∨ T = "str") ∧ Q (.bl false) H
theorem call_isiR : CallR X (.builtin "isinstance") (rIsiR X.K) := by
  intro pins s σ H xs us Q I r h
  obtain ⟨x, k, T, rfl, hx, hT, q⟩ := h
  obtain ⟨u, v, rfl, rx, rT⟩ := r.two
  cases rT
  have f1 : EP X pins σ Q (.bool false) { s with toks := s.toks + 1 } := ⟨.bl _, H, I.tok _, rfl, q⟩
  cases hx with
  | non =>
    cases rx
    rcases hT with rfl | rfl | rfl
    · exact IsiPair.NoneType_int f1
    · exact IsiPair.NoneType_bool f1
    · exact IsiPair.NoneType_str f1
  | lst hq =>
    cases rx
    obtain ⟨its, rv, ⟨o, n, e, c, _⟩, hz⟩ := I.list hq
    rcases hT with rfl | rfl | rfl
    · exact IsiPair.list_int e c f1
    · exact IsiPair.list_bool e c f1
    · exact IsiPair.list_str e c f1
  | tup hq =>
    cases rx
    obtain ⟨its, rv, ⟨o, e, c, _⟩, hz⟩ := I.tuple hq
    rcases hT with rfl | rfl | rfl
    · exact IsiPair.tuple_int e c f1
    · exact IsiPair.tuple_bool e c f1
    · exact IsiPair.tuple_str e c f1
  | dct hq =>
    cases rx
    obtain ⟨_, _, _, _, o, _, _, e, ex, _⟩ := I.hok _ _ hq
    rcases hT with rfl | rfl | rfl
    · exact IsiPair.dict_int e ex.1 f1
    · exact IsiPair.dict_bool e ex.1 f1
    · exact IsiPair.dict_str e ex.1 f1
  | fn hk hc =>
    cases rx
    have e := I.kIn _ _ hk
    rcases hT with rfl | rfl | rfl
    · exact isi_fn_int e hc f1
    · exact isi_fn_bool e hc f1
    · exact isi_fn_str e hc f1
end
theorem hfr_none {X : Cx} {scope : Scope} (h : ∀ z ∈ scope.names, z.2 ≠ .free) : ∀ y, (y, NameKind.free) ∈ scope.names → X.env.kindOf y = some .cell ∨ X.env.kindOf y = some .free := fun y hy => absurd rfl (h _ hy)
theorem hfr_of {X : Cx} {scope : Scope} (sc : Scope) (e : X.env.scope = sc) (h : ∀ z ∈ scope.names, z.2 = .free → sc.names.lookup z.1 = some .cell ∨ sc.names.lookup z.1 = some .free) :
    ∀ y, (y, NameKind.free) ∈ scope.names → X.env.kindOf y = some .cell ∨ X.env.kindOf y = some .free := fun y hy => by
  show X.env.scope.names.lookup y = some .cell ∨ X.env.scope.names.lookup y = some .free
  rw [e]
  exact h _ hy rfl
theorem Same.seqT {K : PySem.W.Frag} {H H' : Hp} {a : Addr} {xs : List V} (e : Same H H') (h : SqT K H a xs) : SqT K H' a xs := by
  rcases h with (h | ⟨o, h⟩) | h
  · exact .inl (.inl (e _ _ h))
  · exact .inl (.inr ⟨o, e _ _ h⟩)
  · exact .inr h
theorem same_new {H : Hp} {p : Addr} (h : H p = none) (o : HO) : Same H (upd H p o) := fun b u q => by rw [upd_ne (ne_of_none q h)]; exact q
theorem Rk.same {K : PySem.W.Frag} {H H' : Hp} {v : V} {k : String} (e : Same H H') (h : Rk K H v k) : Rk K H' v k := by
  cases h with
  | non => exact .non
  | lst q => exact .lst (e.seq q)
  | tup q => exact .tup (e.seqT q)
  | dct q => exact .dct (e _ _ q)
  | fn q c => exact .fn q c
theorem cap_none1 {X : Cx} {scope : Scope} {x : Str} {σ : St} : Cap X scope [x] σ [none] := ⟨rfl, fun i y v _ h2 => by
  cases i with
  | zero => cases h2
  | succ i => cases h2⟩
section
theorem comp_pure {X : Cx} {scope : Scope} {N : List Str} {wi : TI} {te : TE} {σ : St} {H : Hp} {Q : VK} (xs : List V) (f : V → V) (σ0 : St) (cap : Cap X scope N σ σ0) (hsz : xs.length ≤ sizeLine)
    (hw : ∀ R : It → Hp → Prop, (∀ J : It, (∀ H' i x, Same H H' → xs[i]? = some x → J.go i H' ∧ ∀ y H2, J.yld i H' y H2 → H2 = H' ∧ y = x) → (∀ H', Same H H' → J.stop xs.length H') → R J H) → wi σ H R)
    (he : ∀ x ∈ xs, ∀ H' R l, Same H H' → R (f x) H' → te ((σ0.set 0 l).set 0 (some x)) H' R) (h0 : σ0[0]? = some none)
    (q : ∀ D, H D = none → Q (.ref D) (upd H D (.lst (xs.map f)))) :
    tComp X scope N wi (gName 0) tYes te σ H Q := by
  refine ⟨σ0, cap, hw _ fun J go stop D hD => ?_⟩
  have sm : ∀ ys : List V, Same H (upd H D (.lst ys)) := fun ys b o e => by rw [upd_ne (ne_of_none e hD)]; exact e
  refine ⟨fun i m σ' H' ys => i ≤ xs.length ∧ m = xs.length - i ∧ (∃ l, σ' = σ0.set 0 l) ∧ H' = upd H D (.lst ys) ∧ ys = (xs.take i).map f, ⟨xs.length, Nat.zero_le _, rfl, ⟨none, ?_⟩, rfl, rfl⟩, ?_⟩
  · refine (List.ext_getElem? fun j => ?_)
    rw [List.getElem?_set]
    split
    · rename_i hj
      subst hj
      split
      · exact h0
      · rename_i hlt
        exact List.getElem?_eq_none_iff.mpr (by omega)
    · rfl
  · rintro i m σ' H' ys ⟨hi, rfl, ⟨l, rfl⟩, rfl, rfl⟩
    refine ⟨upd_same, ?_⟩
    by_cases hlt : i < xs.length
    · right
      obtain ⟨g1, g2⟩ := go (upd H D (.lst ((xs.take i).map f))) i xs[i] (sm _) (List.getElem?_eq_getElem hlt)
      refine ⟨g1, fun x H2 hy => ?_⟩
      obtain ⟨rfl, rfl⟩ := g2 x H2 hy
      unfold gName tYes
      dsimp only
      rw [if_pos rfl]
      refine he xs[i] (List.getElem_mem hlt) _ _ l (sm _) ⟨upd_same, ?_, xs.length - (i + 1), by omega, hlt, rfl, ⟨some xs[i], ?_⟩, ?_, ?_⟩
      · rw [List.length_map, List.length_take]; omega
      · rw [List.set_set]
      · rw [upd_upd]
      · rw [List.take_add_one, List.getElem?_eq_getElem hlt, List.map_append]
        rfl
    · left
      have e : i = xs.length := by omega
      subst e
      refine ⟨stop _ (sm _), ?_⟩
      rw [List.take_length]
      exact q D hD
theorem wi_str {z : Str} {tl : TE} {σ : St} {H : Hp} (h : ∀ R : VK, R (.str z) H → tl σ H R) (R : It → Hp → Prop)
    (q : ∀ J : It, (∀ H' i x, Same H H' → ((List.range z.cps.size).map fun i => V.str (sgn z i))[i]? = some x → J.go i H' ∧ ∀ y H2, J.yld i H' y H2 → H2 = H' ∧ y = x) →
      (∀ H', Same H H' → J.stop ((List.range z.cps.size).map fun i => V.str (sgn z i)).length H') → R J H) : iStr tl σ H R := by
  refine h _ ⟨z, rfl, q _ (fun H' i x _ e => ?_) fun H' _ => ?_⟩
  · rw [List.getElem?_map] at e
    have hi : i < z.cps.size := by
      cases hr : (List.range z.cps.size)[i]? with
      | none => rw [hr] at e; cases e
      | some j => have := (List.getElem?_eq_some_iff.mp hr).1; rwa [List.length_range] at this
    rw [List.getElem?_range hi] at e
    cases e
    exact ⟨hi, fun y H2 hy => hy⟩
  · rw [List.length_map, List.length_range]
    exact Nat.le_refl _
theorem wi_list {K : PySem.W.Frag} {a : Addr} {xs : List V} {tl : TE} {σ : St} {H : Hp} (hS : ∀ H', Same H H' → SqL K H' a xs) (h : ∀ R : VK, R (.ref a) H → tl σ H R) (R : It → Hp → Prop)
    (q : ∀ J : It, (∀ H' i x, Same H H' → xs[i]? = some x → J.go i H' ∧ ∀ y H2, J.yld i H' y H2 → H2 = H' ∧ y = x) → (∀ H', Same H H' → J.stop xs.length H') → R J H) : iList K tl σ H R := by
  refine h _ ⟨a, rfl, ⟨xs, hS H (Same.refl H)⟩, q _ (fun H' i x s e => ⟨⟨xs, x, hS H' s, e⟩, fun y H2 hy => ?_⟩) fun H' s => ⟨xs, hS H' s, Nat.le_refl _⟩⟩
  obtain ⟨e1, e2⟩ := hy
  have e3 := e2 xs (hS H' s)
  rw [e] at e3
  cases e3
  exact ⟨e1, rfl⟩
end
end L2
set_option Elab.async false
set_option linter.all false
set_option maxRecDepth 100000
namespace L2
open PySem PySem.Spec PyProof.Rows
section
variable {κ : Type} [DecidableEq κ]
def valV (kvs : List (κ × V)) (k : κ) : Option V := (kvs.find? fun kv => decide (kv.1 = k)).map (·.2)
def putK (kvs : List (κ × V)) (k : κ) (v : V) : List (κ × V) :=
  if (kvs.any fun kv => decide (kv.1 = k)) = true then kvs.map (fun kv => if kv.1 = k then (kv.1, v) else kv) else kvs ++ [(k, v)]
theorem valV_pos {p : κ × V} {r : List (κ × V)} {k : κ} (e : p.1 = k) : valV (p :: r) k = some p.2 := by simp [valV, List.find?_cons, e]
theorem valV_neg {p : κ × V} {r : List (κ × V)} {k : κ} (e : ¬ p.1 = k) : valV (p :: r) k = valV r k := by simp [valV, List.find?_cons, e]
theorem valV_any (k : κ) : ∀ kvs : List (κ × V), (kvs.any fun kv => decide (kv.1 = k)) = (valV kvs k).isSome
  | [] => rfl
  | p :: r => by
    rw [List.any_cons]
    by_cases e : p.1 = k
    · simp only [valV_pos e, decide_eq_true e, Bool.true_or, Option.isSome_some]
    · rw [valV_neg e, decide_eq_false e, Bool.false_or]; exact valV_any k r
theorem length_putK (kvs : List (κ × V)) (k : κ) (v : V) : (putK kvs k v).length ≤ kvs.length + 1 := by
  unfold putK
  split
  · rw [List.length_map]; omega
  · rw [List.length_append, List.length_cons, List.length_nil]; omega
theorem putK_new {kvs : List (κ × V)} {k : κ} (v : V) (h : valV kvs k = none) : putK kvs k v = kvs ++ [(k, v)] := by
  unfold putK
  rw [valV_any, h]
  exact if_neg (by decide)
theorem RelO.isSome_eq {o : Option V} {u : Option Value} (r : RelO o u) : o.isSome = u.isSome := by
  cases o with
  | none => cases u with
    | none => rfl
    | some _ => exact (show False from r).elim
  | some _ => cases u with
    | none => exact (show False from r).elim
    | some _ => rfl
theorem KV.val {kvs : List (κ × V)} {vs : List (κ × Value)} (r : KV kvs vs) (k : κ) : RelO (valV kvs k) (valueAt vs k) := by
  unfold KV at r
  induction r with
  | nil => exact True.intro
  | @cons p q ps qs h t ih =>
    obtain ⟨h1, h2⟩ := h
    by_cases e : p.1 = k
    · have e' : q.1 = k := h1.symm.trans e
      have b : valueAt (q :: qs) k = some q.2 := by simp [valueAt, List.find?_cons, e']
      rw [valV_pos e, b]; exact h2
    · have e' : ¬ q.1 = k := fun z => e (h1.trans z)
      have b : valueAt (q :: qs) k = valueAt qs k := by simp [valueAt, List.find?_cons, e']
      rw [valV_neg e, b]; exact ih
theorem KV.any {kvs : List (κ × V)} {vs : List (κ × Value)} (r : KV kvs vs) (k : κ) : (kvs.any fun kv => decide (kv.1 = k)) = vs.any fun kv => decide (kv.1 = k) := by
  unfold KV at r
  induction r with
  | nil => rfl
  | cons h t ih => rw [List.any_cons, List.any_cons, ih, h.1]
theorem KV.repl {kvs : List (κ × V)} {vs : List (κ × Value)} (r : KV kvs vs) (k : κ) {y : V} {u : Value} (ry : RelV y u) :
    KV (kvs.map fun kv => if kv.1 = k then (kv.1, y) else kv) (vs.map fun kv => if kv.1 = k then (kv.1, u) else kv) := by
  unfold KV at r ⊢
  induction r with
  | nil => exact .nil
  | @cons p q ps qs h t ih =>
    rw [List.map_cons, List.map_cons]
    refine .cons ?_ ih
    obtain ⟨h1, h2⟩ := h
    by_cases e : p.1 = k
    · rw [if_pos e, if_pos (h1.symm.trans e)]; exact ⟨h1, ry⟩
    · rw [if_neg e, if_neg (fun z => e (h1.trans z))]; exact ⟨h1, h2⟩
theorem KV.put {kvs : List (κ × V)} {vs : List (κ × Value)} (r : KV kvs vs) (k : κ) {y : V} {u : Value} (ry : RelV y u) : KV (putK kvs k y) (stored vs k u) := by
  unfold putK stored
  rw [r.any k]
  by_cases e : (vs.any fun kv => decide (kv.1 = k)) = true
  · rw [if_pos e, if_pos e]; exact r.repl k ry
  · rw [if_neg e, if_neg e]; exact Paired.snoc r ⟨rfl, ry⟩
theorem KV.keys {kvs : List (κ × V)} {vs : List (κ × Value)} (r : KV kvs vs) : kvs.map (·.1) = vs.map (·.1) := by
  unfold KV at r
  induction r with
  | nil => rfl
  | cons h t ih => rw [List.map_cons, List.map_cons, ih, h.1]
theorem KV.length {kvs : List (κ × V)} {vs : List (κ × Value)} (r : KV kvs vs) : kvs.length = vs.length := Paired.length r
end
theorem kV_is {P : Program} {w : World} {k : Key} {u : Value} (r : RelV (kV k) u) : (mixKind P w).is k u = true := by
  cases k with
  | inl i => obtain ⟨t, e⟩ := (show ∃ t, u = Value.int i t from r); subst e; exact mixKind_int P w i t
  | inr x => obtain ⟨t, e⟩ := (show ∃ t, u = Value.str x t from r); subst e; exact mixKind_str P w x t
theorem items_are {P : Program} {w : World} : ∀ {ks : List Key} {us : List Value}, Vals (ks.map kV) us → ItemsAre (mixKind P w) ks us
  | [], _, r => by rw [List.map_nil] at r; cases r; exact .nil
  | k :: ks, _, r => by
    rw [List.map_cons] at r
    cases r with
    | cons h t => exact .cons (kV_is h) (items_are t)
abbrev KT (H : Hp) : List (List Key × V) → List (List Key × Addr × Value) → Prop := Paired fun p q => p.1 = q.1 ∧ H q.2.1 = some (.tup (p.1.map kV)) ∧ RelV p.2 q.2.2
theorem KT.val {H : Hp} {kvs : List (List Key × V)} {xs : List (List Key × Addr × Value)} (r : KT H kvs xs) (k : List Key) : RelO (valV kvs k) ((atKey xs k).map (·.2)) := by
  induction r with
  | nil => exact True.intro
  | @cons p q ps qs h t ih =>
    obtain ⟨h1, _, h2⟩ := h
    by_cases e : p.1 = k
    · have e' : q.1 = k := h1.symm.trans e
      have b : atKey (q :: qs) k = some q.2 := by simp [atKey, List.find?_cons, e']
      rw [valV_pos e, b]; exact h2
    · have e' : ¬ q.1 = k := fun z => e (h1.trans z)
      have b : atKey (q :: qs) k = atKey qs k := by simp [atKey, List.find?_cons, e']
      rw [valV_neg e, b]; exact ih
theorem KT.repl {H : Hp} {kvs : List (List Key × V)} {xs : List (List Key × Addr × Value)} (r : KT H kvs xs) (k : List Key) {y : V} {u : Value} (ry : RelV y u) :
    KT H (kvs.map fun kv => if kv.1 = k then (kv.1, y) else kv) (xs.map (putAt k u)) := by
  induction r with
  | nil => exact .nil
  | @cons p q ps qs h t ih =>
    rw [List.map_cons, List.map_cons]
    refine .cons ?_ ih
    obtain ⟨h1, h2, h3⟩ := h
    unfold putAt
    by_cases e : p.1 = k
    · rw [if_pos e, if_pos (h1.symm.trans e)]; exact ⟨h1, h2, ry⟩
    · rw [if_neg e, if_neg (fun z => e (h1.trans z))]; exact ⟨h1, h2, h3⟩
theorem KT.put {H : Hp} {kvs : List (List Key × V)} {xs : List (List Key × Addr × Value)} (r : KT H kvs xs) (k : List Key) {b : Addr} {y : V} {u : Value} (hb : H b = some (.tup (k.map kV))) (ry : RelV y u) :
    KT H (putK kvs k y) (storedH xs k b u) := by
  have e : (kvs.any fun kv => decide (kv.1 = k)) = (atKey xs k).isSome := by
    rw [valV_any, (r.val k).isSome_eq, Option.isSome_map]
  unfold putK storedH
  rw [e]
  by_cases q : (atKey xs k).isSome = true
  · rw [if_pos q, if_pos q]; exact r.repl k ry
  · rw [if_neg q, if_neg q]; exact Paired.snoc r ⟨rfl, hb, ry⟩
theorem KT.keeps {H H' : Hp} {kvs : List (List Key × V)} {xs : List (List Key × Addr × Value)} (r : KT H kvs xs) (ht : ∀ b ys, H b = some (.tup ys) → H' b = some (.tup ys)) : KT H' kvs xs :=
  Paired.mapP r fun _ _ z => ⟨z.1, ht _ _ z.2.1, z.2.2⟩
section
variable {P : Program} {w : World} {H : Hp} {h : Heap} {a : Addr}
theorem rd_of {u : HO} (ok : HOk P w H h) (e : Rd H a u) : ObjOk P w H h a u := e.ok ok
theorem dk_rd {kvs : List (Key × V)} (ok : HOk P w H h) (e : Rd H a (.dK kvs)) : kvs.length ≤ sizeLine ∧ (a == sysModules) = false ∧ ∃ vs, KV kvs vs ∧ h.DictOf (mixKind P w) a vs :=
  show ObjOk P w H h a (.dK kvs) from rd_of ok e
theorem dk_of {kvs : List (Key × V)} (ok : HOk P w H h) (e : H a = some (.dK kvs)) : kvs.length ≤ sizeLine ∧ (a == sysModules) = false ∧ ∃ vs, KV kvs vs ∧ h.DictOf (mixKind P w) a vs := dk_rd ok (.inl e)
theorem key_of {ks : List Key} (ok : HOk P w H h) (e : H a = some (.tup (ks.map kV))) : (tupleKind (mixKind P w)).is h ks a := by
  obtain ⟨_, its, r, ⟨o, h1, h2, n, h3⟩, _⟩ := (show ObjOk P w H h a (.tup (ks.map kV)) from ok a _ e)
  exact ⟨o, its.toArray, n, h1, h2, h3, by simpa using items_are r⟩
theorem dt_rd {kvs : List (List Key × V)} (ok : HOk P w H h) (e : Rd H a (.dT kvs)) : kvs.length ≤ sizeLine ∧ (a == sysModules) = false ∧
    ∃ xs, KT H kvs xs ∧ h.DictOfH (tupleKind (mixKind P w)) a xs := by
  obtain ⟨z, y, xs, r, o, es, ep, h1, h2, h3, h4, h5⟩ := (show ObjOk P w H h a (.dT kvs) from rd_of ok e)
  refine ⟨z, y, xs, r, o, es, ep, h1, h2, h3, h4, fun x hx => ?_, h5⟩
  have all : ∀ {l : List (List Key × V)} {m : List (List Key × Addr × Value)}, KT H l m → ∀ x ∈ m, (tupleKind (mixKind P w)).is h x.1 x.2.1 := by
    intro l m q
    induction q with
    | nil => intro x hx; exact nomatch hx
    | @cons p q ps qs hq t ih =>
      intro x hx
      rcases List.mem_cons.mp hx with e | hx
      · subst e
        exact key_of ok (by rw [← hq.1]; exact hq.2.1)
      · exact ih x hx
  exact all r x hx
theorem dt_of {kvs : List (List Key × V)} (ok : HOk P w H h) (e : H a = some (.dT kvs)) : kvs.length ≤ sizeLine ∧ (a == sysModules) = false ∧
    ∃ xs, KT H kvs xs ∧ h.DictOfH (tupleKind (mixKind P w)) a xs := dt_rd ok (.inl e)
end
def DGet (H : Hp) (a : Addr) (y : V) (r : Option V) : Prop :=
  (∃ kvs k, Rd H a (.dK kvs) ∧ y = kV k ∧ r = valV kvs k) ∨ ∃ kvs k b, Rd H a (.dT kvs) ∧ y = .ref b ∧ H b = some (.tup (k.map kV)) ∧ r = valV kvs k
def DPut (H : Hp) (a : Addr) (y v : V) (H' : Hp) : Prop :=
  (∃ kvs k, H a = some (.dK kvs) ∧ y = kV k ∧ kvs.length < sizeLine ∧ H' = upd H a (.dK (putK kvs k v))) ∨
  ∃ kvs k b, H a = some (.dT kvs) ∧ y = .ref b ∧ H b = some (.tup (k.map kV)) ∧ kvs.length < sizeLine ∧ H' = upd H a (.dT (putK kvs k v))
theorem DGet.k {H : Hp} {a : Addr} {kvs : List (Key × V)} {k : Key} (e : H a = some (.dK kvs)) : DGet H a (kV k) (valV kvs k) := .inl ⟨kvs, k, .inl e, rfl, rfl⟩
theorem DPut.k {H : Hp} {a : Addr} {kvs : List (Key × V)} {k : Key} {v : V} (e : H a = some (.dK kvs)) (hl : kvs.length < sizeLine) : DPut H a (kV k) v (upd H a (.dK (putK kvs k v))) := .inl ⟨kvs, k, e, rfl, hl, rfl⟩
section
variable {X : Cx} {pins : List (Addr × Obj)} {σ : St} {H : Hp} {s : Shared} {a : Addr} {y v : V} {u r : Value} {o : Option V} {A : Around} {E : Value → Shared → Prop}
theorem Inv.big (I : Inv X pins σ H s) : sysModules < s.heap.objs.size := by
  have h : mainGlobals < s.heap.objs.size := (I.mod.glob.keeps I.bk).lt
  exact Nat.lt_trans (by decide) h
theorem d_getItem {Q : Value → Shared → Prop} (hu : A.units + 1 < cLine) (I : Inv X pins σ H s) (g : DGet H a y (some v)) (ry : RelV y u) (h : ∀ w' s', Inv X pins σ H s' → RelV v w' → Q w' s') :
    wpAny (model X.prog X.w) A (getItem (.ref a) u) Q E s := by
  rcases g with ⟨kvs, k, e, ey, l⟩ | ⟨kvs, k, b, e, ey, eb, l⟩
  · subst ey
    obtain ⟨z, hd, vs, rel, dd⟩ := dk_rd I.hok e
    obtain ⟨w', hw, rw'⟩ := RelO.some_of (v := v) (o := valueAt vs k) (by rw [l]; exact rel.val k)
    exact wpAny_getItem_of (kV_is ry) dd.mapOf hw (h w' _ (I.tok _) rw')
  · subst ey
    cases (show u = Value.ref b from ry)
    obtain ⟨z, hd, xs, rel, dd⟩ := dt_rd I.hok e
    obtain ⟨w', hw, rw'⟩ := RelO.some_of (v := v) (o := (atKey xs k).map (·.2)) (by rw [l]; exact rel.val k)
    obtain ⟨p, hp, hp2⟩ := Option.map_eq_some_iff.mp hw
    refine wpAny_getItem_heap (tupleKind_room_in1 hu) (key_of I.hok eb) dd hp ?_
    rw [hp2]
    exact h w' _ (I.tok _) rw'
theorem d_notIn {Q : Value → Shared → Prop} (hu : A.units + 1 < cLine) (I : Inv X pins σ H s) (g : DGet H a y o) (ry : RelV y u) (h : ∀ s', Inv X pins σ H s' → Q (.bool (!o.isSome)) s') :
    wpAny (model X.prog X.w) A (compareOp .NotIn u (.ref a)) Q E s := by
  rcases g with ⟨kvs, k, e, ey, l⟩ | ⟨kvs, k, b, e, ey, eb, l⟩
  · subst ey
    obtain ⟨z, hd, vs, rel, dd⟩ := dk_rd I.hok e
    refine wpAny_notIn_of (kV_is ry) hd dd.mapOf ?_
    rw [← (rel.val k).isSome_eq, ← l]
    exact h _ (I.tok _)
  · subst ey
    cases (show u = Value.ref b from ry)
    obtain ⟨z, hd, xs, rel, dd⟩ := dt_rd I.hok e
    refine wpAny_notIn_heap (tupleKind_room_in1 hu) (key_of I.hok eb) hd dd ?_
    have q := (rel.val k).isSome_eq
    rw [Option.isSome_map] at q
    rw [← q, ← l]
    exact h _ (I.tok _)
theorem d_write {h' : Heap} {t' : Nat} {ob : HO} (I : Inv X pins σ H s) (mu : Mut (H a)) (hs : Heap.SameBut a s.heap h') (he : ∃ q, h'.get? a = some q) (new : ObjOk X.prog X.w (upd H a ob) h' a ob) :
    Inv X pins σ (upd H a ob) { s with heap := h', toks := t' } :=
  I.write (x := a) (e := a) mu (.inl rfl) (fun b q hb z => (hs.2 b hb).trans z) he new
theorem dk_new {P : Program} {w : World} {H' : Hp} {h' : Heap} {kvs : List (Key × V)} {vs : List (Key × Value)} (z : kvs.length ≤ sizeLine) (hd : (a == sysModules) = false) (rel : KV kvs vs) (dd : h'.DictOf (mixKind P w) a vs) :
    ObjOk P w H' h' a (.dK kvs) := ⟨z, hd, vs, rel, dd⟩
theorem d_setItem {H' : Hp} {Q : Unit → Shared → Prop} (hu : A.units + 1 < cLine) (I : Inv X pins σ H s) (g : DPut H a y v H') (ry : RelV y u) (rv : RelV v r) (h : ∀ s', Inv X pins σ H' s' → Q () s') :
    wpAny (model X.prog X.w) A (setItem (.ref a) u r) Q E s := by
  rcases g with ⟨kvs, k, e, ey, l, eH⟩ | ⟨kvs, k, b, e, ey, eb, l, eH⟩
  · subst ey eH
    obtain ⟨z, hd, vs, rel, dd⟩ := dk_of I.hok e
    have hz : vs.length ≤ sizeLine := by rw [← rel.length]; exact z
    have hl : (putK kvs k v).length ≤ sizeLine := by have := length_putK kvs k v; omega
    refine wpAny_setItem_pairs (hsz := hz) (kV_is ry) dd fun h' dd' hs => h _ ?_
    have he : ∃ q, h'.get? a = some q := let ⟨q, _, _, hq, _⟩ := dd'; ⟨q, hq⟩
    exact d_write I (by rw [e]; exact True.intro) hs he (dk_new hl hd (rel.put k rv) dd')
  · subst ey eH
    cases (show u = Value.ref b from ry)
    obtain ⟨z, hd, xs, rel, dd⟩ := dt_of I.hok e
    have hz : xs.length ≤ sizeLine := by rw [← Paired.length rel]; exact z
    have hl : (putK kvs k v).length ≤ sizeLine := by have := length_putK kvs k v; omega
    refine wpAny_setItem_heap (hsz := hz) (tupleKind_room_in1 hu) (key_of I.hok eb) dd fun h' dd' hs => h _ ?_
    obtain ⟨q, es, ep, hq, h2, h3, h4, _, h5⟩ := dd'
    refine d_write I (by rw [e]; exact True.intro) hs ⟨q, hq⟩ ⟨hl, hd, _, (rel.put k eb rv).keeps fun c ys ec => ?_, q, es, ep, hq, h2, h3, h4, h5⟩
    rw [upd_ne (ne_of ec e (fun z => nomatch z))]
    exact ec
end
section
variable {X : Cx} {pins : List (Addr × Obj)} {σ : St} {H : Hp} {s : Shared} {a : Addr} {kvs : List (Key × V)} {k : Key} {u : Value} {A : Around} {E : Value → Shared → Prop}
theorem d_len {Q : Value → Shared → Prop} (I : Inv X pins σ H s) (e : Rd H a (.dK kvs)) (h : ∀ t s', Inv X pins σ H s' → Q (.int kvs.length t) s') : wpAny (model X.prog X.w) A (call (.builtin "len") [.ref a]) Q E s := by
  obtain ⟨z, hd, vs, rel, dd⟩ := dk_rd I.hok e
  refine call_len_dict hd dd (by rw [← rel.length]; rw [sizeLine_eq] at z; omega) ?_
  rw [← rel.length]
  exact h _ _ (I.tok _)
end
def NoSl (i : Expr) : Prop := ∀ ov iv, subscripted i false ov iv = operate [ov, iv] (getItem ov iv)
theorem subD_of {prog : Program} {w : World} {A : Around} {E : Value → Shared → Prop} {s : Shared} {env : Env} {value slice : Expr} {pos : Pos} {T id : String} {Q : Value → Shared → Prop}
    (hl : typeLookup (.type T) "__getitem__" = pure (some (.builtin id))) (hs : NoSl slice)
    (h : wpAny (model prog w) A (eval value env) (fun o s₁ => wpAny (model prog w) A (eval slice env) (fun i s₂ => s₂.TypeIs o T ∧ wpAny (model prog w) A (getItem o i) Q E s₂) E s₁) E s) :
    wpAny (model prog w) A (eval (.Subscript value slice pos) env) Q E s := by
  refine Subscript_ (wpAny_mono h (fun o s₁ h₁ => wpAny_mono h₁ (fun i s₂ h₂ => ?_) fun _ _ x => x) fun _ _ x => x)
  obtain ⟨hT, h₂⟩ := h₂
  unfold subscriptTail
  refine wpAny_bind ?_
  rw [getitemInPython_of_ne hT.not_modules]
  refine wpAny_bind (wpAny_specialOf hT hl ?_)
  have fin : wpAny (model prog w) A (subscripted slice false o i) (fun r s₃ => wpAny (model prog w) A (letTemporaryGo value o r >>= fun _ => pure r) Q E s₃) E s₂ := by
    rw [hs o i]
    exact wpAny_operating (wpAny_mono h₂ (fun r s₃ h₃ => wpAny_bind (wpAny_letTemporaryGo (wpAny_pure h₃))) fun _ _ x => x)
  first
    | exact wpAny_pure (wpAny_bind fin)
    | exact wpAny_bind (wpAny_pure (wpAny_bind fin))
    | exact wpAny_bind fin
theorem dict_typeIs {X : Cx} {pins : List (Addr × Obj)} {σ : St} {H : Hp} {s : Shared} {a : Addr} {y : V} {o : Option V} (I : Inv X pins σ H s) (g : DGet H a y o) : s.TypeIs (.ref a) "dict" := by
  rcases g with ⟨kvs, k, e, _, _⟩ | ⟨kvs, k, b, e, _, _, _⟩
  · obtain ⟨_, _, vs, _, dd⟩ := dk_rd I.hok e
    exact dd.typeIs
  · obtain ⟨_, _, xs, _, dd⟩ := dt_rd I.hok e
    exact dd.typeIs
def tDGet (td ty : TE) : TE := fun σ H Q => td σ H fun x H1 => ty σ H1 fun y H2 => ∃ a v, x = .ref a ∧ DGet H2 a y (some v) ∧ Q v H2
def tDNotIn (ty td : TE) : TE := fun σ H Q => ty σ H fun y H1 => td σ H1 fun x H2 => ∃ a o, x = .ref a ∧ DGet H2 a y o ∧ Q (.bl (!o.isSome)) H2
def sDPut (td ty tv : TE) : TS := fun D σ H => tv σ H fun v H1 => td σ H1 fun x H2 => ty σ H2 fun y H3 => ∃ a H4, x = .ref a ∧ DPut H3 a y v H4 ∧ D.nx σ H4
section
variable {X : Cx} {o i e value : Expr} {pos pos' tpos : Pos} {td ty tv : TE}
theorem pe_dget (hu : X.A.units + 1 < cLine) (ho : PE X o td) (hi : PE X i ty) (hs : NoSl i) : PE X (.Subscript o i pos) (tDGet td ty) := by
  intro pins s σ H Q I h
  refine subD_of PySem.F.slot_dict_getitem.lookup hs (thn (ho pins s σ H _ I h) fun u s1 ⟨x, H1, I1, rx, q1⟩ => thn (hi pins s1 σ H1 _ I1 q1) fun iv s2 ⟨y, H2, I2, ry, a, v, ex, g, q2⟩ => ?_)
  subst ex
  obtain rfl : u = Value.ref a := rx
  exact ⟨dict_typeIs I2 g, d_getItem hu I2 g ry fun w' s3 I3 rw' => ⟨v, H2, I3, rw', q2⟩⟩
theorem pc_dnotin (hu : X.A.units + 1 < cLine) (hi : PE X i ty) (ho : PE X o td) : PC X .NotIn i o (tDNotIn ty td) := by
  intro pins s σ H Q I h
  refine thn (hi pins s σ H _ I h) fun iv s1 ⟨y, H1, I1, ry, q1⟩ => thn (ho pins s1 σ H1 _ I1 q1) fun u s2 ⟨x, H2, I2, rx, a, ov, ex, g, q2⟩ => ?_
  subst ex
  obtain rfl : u = Value.ref a := rx
  exact d_notIn hu I2 g ry fun s3 I3 => ⟨.bl (!ov.isSome), H2, I3, rfl, q2⟩
theorem ps_dput (hu : X.A.units + 1 < cLine) (ho : PE X o td) (hi : PE X i ty) (hv : PE X value tv) (hs : swapsWith value (some (.Subscript o i pos')) pos.line X.env = pure false) :
    PS X (.Assign [.Subscript o i pos'] value pos) (sDPut td ty tv) := by
  intro pins s σ H D I h
  refine wpAny_Assign_Subscript (thn (hv pins s σ H _ I h) fun r s1 ⟨v, H1, I1, rv, q1⟩ => thn (ho pins s1 σ H1 _ I1 q1) fun u s2 ⟨x, H2, I2, rx, q2⟩ => thn (hi pins s2 σ H2 _ I2 q2) fun iv s3 ⟨y, H3, I3, ry, a, H4, ex, g, q3⟩ => ?_) hs
  subst ex
  obtain rfl : u = Value.ref a := rx
  exact d_setItem hu I3 g ry rv fun s4 I4 => ⟨σ, H4, I4, q3⟩
end
theorem dk_empty {P : Program} {w : World} {H : Hp} (h : Heap) (hb : sysModules < h.objs.size) : ObjOk P w H (h.push { cls := .type "dict", data := .dict #[] }) h.objs.size (.dK []) :=
  ⟨Nat.zero_le _, beq_eq_false_iff_ne.mpr (Ne.symm (Nat.ne_of_lt hb)), [], .nil, Heap.DictOf.new h⟩
def tDNewK : TE := fun _ H Q => ∀ p, H p = none → Q (.ref p) (upd H p (.dK []))
section
variable {X : Cx} {pos : Pos}
theorem pe_dnewK : PE X (.Dict [] [] pos) tDNewK := fun pins s σ H Q I h =>
  wpAny_Dict_empty ⟨.ref s.heap.objs.size, _, I.laid (a := s.heap.objs.size) (o := .dK []) (t' := s.toks) (fun _ _ q => Heap.get?_push_of_some _ q) (Nat.le_refl _) (dk_empty s.heap I.big), rfl, h _ (I.hok.fresh (Nat.le_refl _))⟩
end
def mergeK (kvs more : List (Key × V)) : List (Key × V) := more.foldl (fun acc kv => putK acc kv.1 kv.2) kvs
theorem KV.merge : ∀ {more : List (Key × V)} {rs : List (Key × Value)} {kvs : List (Key × V)} {vs : List (Key × Value)}, KV more rs → KV kvs vs → KV (mergeK kvs more) (merged vs rs) := by
  intro more rs kvs vs r
  unfold KV at r
  induction r generalizing kvs vs with
  | nil => intro q; exact q
  | @cons p q ps qs h t ih =>
    intro r0
    have e : KV (putK kvs p.1 p.2) (stored vs q.1 q.2) := by
      have := r0.put p.1 h.2
      rw [← h.1]; exact this
    exact ih e
theorem length_mergeK : ∀ (more kvs : List (Key × V)), (mergeK kvs more).length ≤ kvs.length + more.length
  | [], kvs => by show kvs.length ≤ kvs.length + 0; omega
  | p :: r, kvs => by
    have h1 := length_mergeK r (putK kvs p.1 p.2)
    have h2 := length_putK kvs p.1 p.2
    show (mergeK (putK kvs p.1 p.2) r).length ≤ _
    rw [List.length_cons]; omega
section
variable {X : Cx} {pins : List (Addr × Obj)} {σ : St} {H : Hp} {s : Shared} {a : Addr} {y d : V} {u r : Value} {o : Option V} {A : Around} {E : Value → Shared → Prop}
end
section
variable {X : Cx} {o e f : Expr} {apos cpos : Pos} {td ty tx : TE}
end
section
variable {X : Cx} {pins : List (Addr × Obj)} {σ : St} {H : Hp} {s : Shared} {a : Addr} {kvs : List (Key × V)} {A : Around} {E : Value → Shared → Prop}
end
section
variable {X : Cx} {pins : List (Addr × Obj)} {σ : St} {H : Hp} {s : Shared} {a : Addr} {y : V} {u : Value} {A : Around} {E : Value → Shared → Prop}
end
end L2
namespace L2
open PySem PySem.Spec PyProof.Rows
section
variable {X : Cx}
theorem call_lenD : CallR X (.builtin "len") (fun xs H Q => ∃ a kvs, xs = [V.ref a] ∧ H a = some (.dK kvs) ∧ Q (.int kvs.length) H) := by
  intro pins s σ H xs us Q I r h
  obtain ⟨a, kvs, rfl, ha, q⟩ := h
  obtain ⟨u, rfl, ru⟩ := vals1 r
  cases ru
  exact d_len I (.inl ha) fun t s' I' => ⟨.int kvs.length, H, I', ⟨t, rfl⟩, q⟩
end
section
variable {κ : Type} [DecidableEq κ]
theorem valV_in {kvs : List (κ × V)} {k : κ} {v : V} (h : valV kvs k = some v) : k ∈ kvs.map (·.1) := by
  have q : (kvs.any fun kv => decide (kv.1 = k)) = true := by
    rw [valV_any, h]
    all_goals rfl
  obtain ⟨p, hp, e⟩ := List.any_eq_true.mp q
  exact List.mem_map.mpr ⟨p, hp, of_decide_eq_true e⟩
end
end L2
set_option Elab.async false
set_option linter.all false
set_option maxRecDepth 100000
namespace L2
open PySem PySem.Spec PyProof.Rows
structure VE (X : Cx) (e : Expr) (t : TE) : Prop where
  out : PE X e t
structure VT (X : Cx) (e : Expr) (t : TT) : Prop where
  out : PT X e t
structure VW (X : Cx) (e : Expr) (t : TT) : Prop where
  out : PW X e t
structure VA (X : Cx) (es : List Expr) (t : TA) : Prop where
  out : PA X es t
structure VS (X : Cx) (st : Stmt) (t : TS) : Prop where
  out : PS X st t
structure VSs (X : Cx) (st : List Stmt) (t : TS) : Prop where
  out : PSs X st t
structure VI (X : Cx) (tg iter : Expr) (t : TI) : Prop where
  out : PI X tg iter t
structure VG (X : Cx) (tg : Expr) (t : TG) : Prop where
  out : PG X tg t
structure VGs (X : Cx) (tg : List Expr) (t : TGs) : Prop where
  out : PGs X tg t
structure VO (X : Cx) (e : Option Expr) (t : TO) : Prop where
  out : PO X e t
structure VF (X : Cx) (ifs : List Expr) (t : TT) : Prop where
  out : PIfs X ifs t
section
variable {X : Cx} {a b c e : Expr} {es : List Expr} {ta tb tc te : TE} {t : TA} {tA tB' : TT} {pos p : Pos} {x : Str}
theorem vv (i : Nat) {x : Str} {pos : Pos} (hN : X.N[i]? = some x := by rfl) (hv : Vis X.env.scope x := by first | exact Or.inl rfl | exact Or.inr (Or.inl rfl) | exact Or.inr (Or.inr rfl)) (hd : (x == ("__debug__" : Str)) = false := by decide)
    (hcd : (x == ("__classdict__" : Str)) = false := by decide) : VE X (.Name x pos) (tVar i) := ⟨pv i hN hv hd hcd⟩
theorem ve_gl {v : V} (hg : Gl X x) (hm : ∃ u, X.mg x = some u ∧ RelV v u) (hd : (x == ("__debug__" : Str)) = false := by decide) : VE X (.Name x pos) (tC v) := ⟨pe_gl hg hm hd⟩
theorem ve_bltn {v : V} {u : Value} (hg : Gl X x) (hm : X.mg x = none) (hv : bootBuiltins x = some u) (r : RelV v u) (hn : x ≠ "__name__" := by decide) (hd : (x == ("__debug__" : Str)) = false := by decide) : VE X (.Name x pos) (tC v) := ⟨pe_bltn hg hm hv r hn hd⟩
theorem ve_int {i j} : VE X (.Constant (.int i) j pos) (tC (.int i)) := ⟨pe_int⟩
theorem ve_bl {b j} : VE X (.Constant (.bool b) j pos) (tC (.bl b)) := ⟨pe_bl⟩
theorem ve_non {j} : VE X (.Constant .none j pos) (tC .non) := ⟨pe_non⟩
theorem ve_str {x j} : VE X (.Constant (.str x) j pos) (tC (.str x)) := ⟨pe_str⟩
theorem ve_op {op : Operator} {r : R2} (ho : OpR X (binaryOp op) r) (ha : VE X a ta) (hb : VE X b tb) : VE X (.BinOp a op b pos) (tOp r ta tb) := ⟨pe_op ho ha.1 hb.1⟩
theorem ve_un {op : UnaryOp} {r : V → Hp → VK → Prop} (ho : UnR X (unaryOp op) r) (ha : VE X a ta) : VE X (.UnaryOp op a pos) (tUn r ta) := ⟨pe_un ho ha.1⟩
theorem ve_cmpR {op : CmpOp} {r : R2} (ho : OpR X (compareOp op) r) (ha : VE X a ta) (hb : VE X b tb) (hm : behindInMarks op b = false) : VE X (.Compare a [op] [b] pos) (tOp r ta tb) := ⟨pe_cmpR ho ha.1 hb.1 hm⟩
theorem vt_cmpR {op : CmpOp} {r : R2} (ho : OpR X (compareOp op) r) (ha : VE X a ta) (hb : VE X b tb) (hm : behindInMarks op b = false) : VT X (.Compare a [op] [b] pos) (tTest (tOp r ta tb)) := ⟨pt_cmpR ho ha.1 hb.1 hm⟩
theorem ve_chain {op op' : CmpOp} {r r' : R2} (ho : OpR X (compareOp op) r) (ho' : OpR X (compareOp op') r') (ha : VE X a ta) (hb : VE X b tb) (hc : VE X c tc)
    (hm : lastMarks [op, op'] [b, c] = false := by with_unfolding_all rfl) : VE X (.Compare a [op, op'] [b, c] pos) (tChain r r' ta tb tc) := ⟨pe_chain ho ho' ha.1 hb.1 hc.1 hm⟩
theorem vt_chain {op op' : CmpOp} {r r' : R2} (ho : OpR X (compareOp op) r) (ho' : OpR X (compareOp op') r') (ha : VE X a ta) (hb : VE X b tb) (hc : VE X c tc)
    (hm : lastMarks [op, op'] [b, c] = false := by with_unfolding_all rfl) : VT X (.Compare a [op, op'] [b, c] pos) (tTest (tChain r r' ta tb tc)) := ⟨pt_chain ho ho' ha.1 hb.1 hc.1 hm⟩
theorem ve_one {op} (h : VE X a te) : VE X (.BoolOp op [a] pos) te := ⟨pe_one h.1⟩
theorem ve_and {rest : List Expr} (ha : VE X a ta) (hb : VE X (.BoolOp .And (b :: rest) pos) tb) : VE X (.BoolOp .And (a :: b :: rest) pos) (tAndV ta tb) := ⟨pe_and ha.1 hb.1⟩
theorem ve_or {rest : List Expr} (ha : VE X a ta) (hb : VE X (.BoolOp .Or (b :: rest) pos) tb) : VE X (.BoolOp .Or (a :: b :: rest) pos) (tOrV ta tb) := ⟨pe_or ha.1 hb.1⟩
theorem ve_not (ha : VE X a ta) : VE X (.UnaryOp .Not a pos) (tNotV ta) := ⟨pe_not ha.1⟩
theorem ve_ifExp (hc : VT X c tA) (ha : VE X a ta) (hb : VE X b tb) : VE X (.IfExp c a b pos) (tIf tA ta tb) := ⟨pe_ifExp hc.1 ha.1 hb.1⟩
theorem va_nil : VA X [] tNil := ⟨pa_nil⟩
theorem va_c (ha : VE X e te) (hr : VA X es t) (hp : plainE e = true := by rfl) : VA X (e :: es) (tCons te t) := ⟨pa_c ha.1 hr.1 hp⟩
theorem ve_fn {k : Nat} {ps : List Str} {sp : Sp} (G : Ok X.prog X.w X.K X.mg X.base k x ps sp) (hr : Room k X.A) (hg : Gl X x) (ha : VA X (e :: es) t) (hdb : (x == ("__debug__" : Str)) = false := by decide)
    (hp : plainE e = true := by rfl) (hpl : (backTo pos (starEach es X.env)).any (·.1) = false := by rfl) :
    VE X (.Call (.Name x p) (e :: es) [] pos) (tCall sp [] E0 t) := ⟨pe_fn G hr hg ha.1 hdb (starEach_plain hp) hpl⟩
theorem ve_fn0 {k : Nat} {ps : List Str} {sp : Sp} (G : Ok X.prog X.w X.K X.mg X.base k x ps sp) (hr : Room k X.A) (hg : Gl X x) (hdb : (x == ("__debug__" : Str)) = false := by decide) :
    VE X (.Call (.Name x p) [] [] pos) (tCall sp [] E0 tNil) := ⟨pe_fn0 G hr hg hdb⟩
theorem ve_callB {id : String} {r : List V → Hp → VK → Prop} (hc : CallR X (.builtin id) r) (hg : Gl X x) (hm : X.mg x = none) (hv : bootBuiltins x = some (.builtin id)) (ha : VA X (e :: es) t) (hn : x ≠ "__name__" := by decide) (hdb : (x == ("__debug__" : Str)) = false := by decide)
    (hp : plainE e = true := by rfl) (hpl : (backTo pos (starEach es X.env)).any (·.1) = false := by rfl) : VE X (.Call (.Name x p) (e :: es) [] pos) (tCB r t) := ⟨pe_callB hc hg hm hv ha.1 hn hdb (starEach_plain hp) hpl⟩
theorem ve_callTy {T : String} {r : List V → Hp → VK → Prop} (hc : CallR X (.type T) r) (hg : Gl X x) (hm : X.mg x = none) (hv : bootBuiltins x = some (.type T)) (ha : VA X (e :: es) t) (hn : x ≠ "__name__" := by decide) (hdb : (x == ("__debug__" : Str)) = false := by decide)
    (hp : plainE e = true := by rfl) (hpl : (backTo pos (starEach es X.env)).any (·.1) = false := by rfl) : VE X (.Call (.Name x p) (e :: es) [] pos) (tCB r t) := ⟨pe_callTy hc hg hm hv ha.1 hn hdb (starEach_plain hp) hpl⟩
theorem ve_bm {o : Expr} {to : TE} {name : Str} {apos cpos : Pos} {T id : String} {r : V → List V → Hp → VK → Prop} (pa : PlainAttrs T) (slot : Slot T name id) (hty : typeOf (.builtin id) = pure (.type "method_descriptor")) (hm : MtR X id r) (ho : VE X o to) (ha : VA X (e :: es) t)
    (hbase : attributeBase o name X.env (eval o X.env) = eval o X.env := by rfl)
    (hfew : ((backTo cpos (starEach (e :: es) X.env)).all (fun x => !x.1) && (backToKw cpos (keywordEach [] X.env)).all (fun x => x.1.isSome)
      && decide ((e :: es).length + ([] : List Keyword).length + (if ([] : List Keyword).isEmpty then 0 else 1) < 30)) = true := by rfl)
    (hline : (apos.endLine == cpos.line) = true := by rfl) (hp : plainE e = true := by rfl) (hplain : (backTo cpos (starEach es X.env)).any (·.1) = false := by rfl) :
    VE X (.Call (.Attribute o name apos) (e :: es) [] cpos) (tBM X.K T r to t) := ⟨pe_bm pa slot hty hm ho.1 ha.1 hbase hfew hline (starEach_plain hp) hplain⟩
theorem ve_item_str (ha : VE X a ta) (hb : VE X b tb) (hs : PlainIxT b) :
    VE X (.Subscript a b pos) (tOp (fun x y H Q => ∃ z i c, x = .str z ∧ y = .int i ∧ 0 ≤ i ∧ i < 2 ^ 63 ∧ i < z.length ∧ z.cps[i.toNat]? = some c ∧ Q (.str ⟨#[c]⟩) H) ta tb) := ⟨pe_item_str ha.1 hb.1 hs⟩
theorem vo_none : VO X none tNoPart := ⟨po_none⟩
theorem vo_some (h : VE X e te) : VO X (some e) (tPart te) := ⟨po_some h.1⟩
theorem ve_slice {r : V → Option Int → Option Int → Hp → VK → Prop} {lo hi : Option Expr} {tl th : TO} {p2 : Pos} (hr : SlR X r) (he : VE X e te) (hl : VO X lo tl) (hu : VO X hi th) : VE X (.Subscript e (.Slice lo hi none p2) pos) (tSl r te tl th) := ⟨pe_slice hr he.1 hl.1 hu.1⟩
theorem ve_ix {r : R2} (hr : IxR X r) (ha : VE X a ta) (hb : VE X b tb) (hs : PlainIx b) : VE X (.Subscript a b pos) (tOp r ta tb) := ⟨pe_ix hr ha.1 hb.1 hs⟩
theorem ve_dnewK : VE X (.Dict [] [] pos) tDNewK := ⟨pe_dnewK⟩
theorem VE.imp {t t' : TE} (h : VE X e t) (k : ∀ σ H Q, t' σ H Q → t σ H Q) : VE X e t' := ⟨PE.imp h.1 k⟩
theorem vw_and1 (ha : VT X a tA) : VW X (.BoolOp .And [a] pos) tA := ⟨pw_and1 ha.1⟩
theorem vw_or1 (ha : VT X a tA) : VW X (.BoolOp .Or [a] pos) tA := ⟨pw_or1 ha.1⟩
theorem vw_and {rest : List Expr} (ha : VT X a tA) (hb : VW X (.BoolOp .And (b :: rest) pos) tB') : VW X (.BoolOp .And (a :: b :: rest) pos) (tAnd tA tB') := ⟨pw_and ha.1 hb.1⟩
theorem vw_or {rest : List Expr} (ha : VT X a tA) (hb : VW X (.BoolOp .Or (b :: rest) pos) tB') : VW X (.BoolOp .Or (a :: b :: rest) pos) (tOr tA tB') := ⟨pw_or ha.1 hb.1⟩
theorem VW.pt (h : VW X e tA) : VT X e tA := ⟨h.1.pt⟩
theorem vt_not (ha : VT X a tA) : VT X (.UnaryOp .Not a pos) (tNot tA) := ⟨pt_not ha.1⟩
theorem vt_val (h : VE X e te) (he : ∀ whole, isTrue e X.env whole = (do let v ← whole; standAt e.pos; holding [v] (truthy v)) := by intro _; rfl) : VT X e (tB te) := ⟨pt_val h.1 he⟩
theorem vt_truth (ha : VE X a ta) (he : ∀ whole, isTrue a X.env whole = (do let v ← whole; standAt a.pos; holding [v] (truthy v)) := by intro _; rfl) :
    VT X a (fun σ H Q => ta σ H fun x H' => ∃ k, TruV X.K x H' k ∧ Q k H') := ⟨pt_truth ha.1 he⟩
variable {st : Stmt} {rest : List Stmt} {u w' : TS}
theorem vss_nil : VSs X [] tNext := ⟨pss_nil⟩
theorem vss_cons (h1 : VS X st u) (h2 : VSs X rest w') : VSs X (st :: rest) (tSeq u w') := ⟨pss_cons h1.1 h2.1⟩
theorem vss_one (h1 : VS X st u) : VSs X [st] u := ⟨pss_one h1.1⟩
theorem vs_ret (he : VE X e te) : VS X (.Return (some e) pos) (tRet te) := ⟨ps_ret he.1⟩
theorem vs_if {a b : List Stmt} (hc : VT X c tA) (ha : VSs X a u) (hb : VSs X b w') : VS X (.If c a b pos) (tIfS tA u w') := ⟨ps_if hc.1 ha.1 hb.1⟩
theorem vs_set {i : Nat} {pos' : Pos} (hN : X.N.Nodup) (hi : X.N[i]? = some x) (hx : Loc X.env.scope x) (he : VE X e te) (hs : swapsWith e (some (.Name x pos')) pos.line X.env = pure false := by rfl) (hf : X.fn x = true ∨ X.env.scope.names.lookup x = some .local := by first | exact .inl rfl | exact .inr rfl | assumption) :
    VS X (.Assign [.Name x pos'] e pos) (tAsg te (gName i)) := ⟨ps_set hN hi hx he.1 hs hf⟩
theorem vs_expr (he : VE X e te) (hs : swapsWith e none pos.line X.env = pure false := by rfl) : VS X (.Expr e pos) (tDrop te) := ⟨ps_expr he.1 hs⟩
theorem vs_for {tg iter : Expr} {body : List Stmt} {wi : TI} {g : TG} {tb : TS} (hp : PassesOwn (model X.prog X.w) X.A X.env X.xe) (hc : X.calm = true) (hi : VI X tg iter wi) (hg : VG X tg g) (hb : VSs X body tb)
    (hs : ∀ x, foldedSetIterable iter X.env x = pure x := by intro _; rfl) : VS X (.For tg iter body [] pos) (tFor wi g tb) := ⟨ps_for hp hc hi.1 hg.1 hb.1 hs⟩
theorem vg_name {i : Nat} (hN : X.N.Nodup) (hi : X.N[i]? = some x) (hx : Loc X.env.scope x) (hf : X.fn x = true ∨ X.env.scope.names.lookup x = some .local := by first | exact .inl rfl | exact .inr rfl | assumption) : VG X (.Name x pos) (gName i) := ⟨pg_name hN hi hx hf⟩
theorem vgs_nil : VGs X [] gNil := ⟨pgs_nil⟩
theorem vgs_cons {t : TG} {u : TGs} (h1 : VG X e t) (h2 : VGs X es u) (hs : (assignEach (e :: es) X.env).map (·.2) = assign e X.env :: (assignEach es X.env).map (·.2) := by rfl) : VGs X (e :: es) (gCons t u) := ⟨pgs_cons h1.1 h2.1 hs⟩
theorem vg_tup {k : Nat} {t : TGs} {n : Nat} (hc : X.calm = true) (h : VGs X es t) (hn : (assignEach es X.env).length = n := by rfl) (hst : (assignEach es X.env).findIdx? (·.1) = none := by rfl) : VG X (.Tuple es k pos) (gTup X.K n t) := ⟨pg_tup hc h.1 hn hst⟩
variable {tg : Expr}
theorem vi_list (h : VE X e te) : VI X tg e (iList X.K te) := ⟨pi_list h.1⟩
theorem vi_tup (h : VE X e te) : VI X tg e (iTup X.K te) := ⟨pi_tup h.1⟩
theorem vi_str (h : VE X e te) : VI X tg e (iStr te) := ⟨pi_str h.1⟩
theorem vi_range1 (hg : Gl X "range") (hm : X.mg "range" = none) (ha : VA X [a] t) (hp : plainE a = true := by rfl) : VI X tg (.Call (.Name "range" p) [a] [] pos) (iRng1 t) := ⟨pi_range1 hg hm ha.1 (starEach_plain (es := []) hp)⟩
theorem vf_nil : VF X [] tYes := ⟨pf_nil⟩
theorem vf_one (h : VT X c tA) : VF X [c] tA := ⟨pf_one h.1⟩
theorem ve_comp {elt target iter : Expr} {ifs : List Expr} {scope : Scope} {N : List Str} {wi : TI} {g : TG} {tt : TT}
    (C : CompOk scope N) (hfr : ∀ y, (y, NameKind.free) ∈ scope.names → X.env.kindOf y = some .cell ∨ X.env.kindOf y = some .free) (hc : X.calm = true)
    (hi : VI X target iter wi)
    (hb : ∀ cl s H fp, VG (cxC X N scope cl s H fp) target g ∧ VF (cxC X N scope cl s H fp) ifs tt ∧ VE (cxC X N scope cl s H fp) elt te)
    (hs : ∀ x, foldedSetIterable iter X.env x = pure x := by intro _; rfl) :
    VE X (.ListComp elt [⟨target, iter, ifs, 0⟩] scope pos) (tComp X scope N wi g tt te) :=
  ⟨pe_comp C hfr hc hi.1 (fun cl s H fp => ⟨(hb cl s H fp).1.1, (hb cl s H fp).2.1.1, (hb cl s H fp).2.2.1⟩) hs⟩
end
section
variable {P : Program} {w : World} {K : PySem.W.Frag} {mg : Str → Option Value} {base : Heap}
theorem Fun.okV {x qual : Str} {st : Stmt} {f : Addr} {fd : FuncData} {N ps : List Str} {k : Nat} {sp : Sp} (F : Fun K x qual st f fd) (S : FnScope N ps (defScope st)) (len : ∀ vs H Q E, sp vs H Q E → vs.length = ps.length)
    (hbody : ∀ (cdv : Value) (A : Around) (outer : List Env) (s : Shared) (H : Hp) (vs : List V) (Q : VK) (E : XK), Room k (A.deeper (envOfC qual (defScope st) s.heap.objs.size f cdv)) → sp vs H Q E →
      ∃ t, VSs (cxOf CX0 P w K mg base N qual (defScope st) f cdv A outer s H E).nox (defBody st) t ∧ t { nx := fun _ H' => Q .non H', rt := Q } (start N vs) H) : FnOk P w K mg base CX0 (k + 1) f fd ps sp :=
  F.ok S len fun cdv A outer s H vs Q E hr h => let ⟨t, h1, h2⟩ := hbody cdv A outer s H vs Q E hr h; ⟨t, h1.1, h2⟩
theorem Ok.ofV {x : Str} {st : Stmt} {N ps : List Str} {k : Nat} {sp : Sp} (D : Dn K mg x st ps) (S : FnScope N ps (defScope st)) (len : ∀ vs H Q E, sp vs H Q E → vs.length = ps.length)
    (hbody : ∀ (f : Addr) (cdv : Value) (A : Around) (outer : List Env) (s : Shared) (H : Hp) (vs : List V) (Q : VK) (E : XK), Room k (A.deeper (envOfC x (defScope st) s.heap.objs.size f cdv)) → sp vs H Q E →
      ∃ t, VSs (cxOf CX0 P w K mg base N x (defScope st) f cdv A outer s H E).nox (defBody st) t ∧ t { nx := fun _ H' => Q .non H', rt := Q } (start N vs) H) : Ok P w K mg base (k + 1) x ps sp :=
  Ok.of D S len fun f cdv A outer s H vs Q E hr h => let ⟨t, h1, h2⟩ := hbody f cdv A outer s H vs Q E hr h; ⟨t, h1.1, h2⟩
end
end L2
set_option Elab.async false
set_option linter.all false
set_option maxRecDepth 100000
namespace PySem
def metF (σ : List Str) (v : Str) : List Str := if v ∈ σ then σ else σ ++ [v]
def metS (ss : List Str) : List Str := ss.foldl metF []
theorem metS_snoc (ss : List Str) (v : Str) : metS (ss ++ [v]) = metF (metS ss) v := by
  unfold metS
  rw [List.foldl_append]
  rfl
theorem metF_mem (σ : List Str) (v k : Str) : k ∈ metF σ v ↔ k ∈ σ ∨ k = v := by
  unfold metF
  by_cases h : v ∈ σ
  · rw [if_pos h]
    exact ⟨.inl, fun q => q.elim id fun e => e ▸ h⟩
  · rw [if_neg h]
    simp
theorem metF_len (σ : List Str) (v : Str) : (metF σ v).length = if v ∈ σ then σ.length else σ.length + 1 := by
  unfold metF
  split <;> simp
theorem foldF_len : ∀ (ss σ : List Str), (ss.foldl metF σ).length ≤ σ.length + ss.length
  | [], σ => by simp
  | v :: r, σ => by
    rw [List.foldl_cons, List.length_cons]
    have h := foldF_len r (metF σ v)
    rw [metF_len] at h
    split at h <;> omega
theorem metS_len (ss : List Str) : (metS ss).length ≤ ss.length := by
  have h := foldF_len ss []
  unfold metS
  simpa using h
section
variable {prog : Program} {w : World}
def TextSet (prog : Program) (w : World) (h : Heap) (D : Addr) (ss : List Str) : Prop := h.SetOf (strKind prog w) D (fun y => decide (y ∈ metS ss)) (metS ss).length
theorem TextSet.at {h h' : Heap} {D : Addr} {ss : List Str} (x : TextSet prog w h D ss) (e : ∀ o, h.get? D = some o → h'.get? D = some o) : TextSet prog w h' D ss := by
  obtain ⟨o, es, ep, t, ho, r⟩ := x
  exact ⟨o, es, ep, t, e o ho, r⟩
theorem TextSet.congr {h : Heap} {D : Addr} {S : Str → Bool} {n : Nat} {ss : List Str} (x : h.SetOf (strKind prog w) D S n) (e1 : ∀ y, S y = decide (y ∈ metS ss)) (e2 : n = (metS ss).length) : TextSet prog w h D ss := by
  have e : S = fun y => decide (y ∈ metS ss) := funext e1
  subst e e2
  exact x
theorem set_texts_loop {A : Around} {R : Result → Shared → Prop} {I : Addr} {fp wr : List Addr} {n : Nat} {P : Nat → Value → Prop} {St : Nat → Heap → Prop} (W : Walks prog w A.in1 I fp wr n P St) (D : Addr) (hD : D ∉ fp)
    (ss : List Str) (hss : ss.length = n) (hval : ∀ i v, P i v → ∃ t, v = .str (ss.getD i "") t) (hb : n + 1 < scanBound) :
    ∀ (k i : Nat) (s : Shared), i + k = n → St i s.heap → TextSet prog w s.heap D (ss.take i) →
      (∀ h' tk, (∀ b o, b ∉ D :: wr → s.heap.get? b = some o → h'.get? b = some o) → TextSet prog w h' D ss → R (.ok (.ret .none)) { s with heap := h', toks := tk }) →
      codeAny (model prog w) A (.builtin "set.update.loop" ⟨[.ref D, .ref I], []⟩) R s := by
  have hDw : D ∉ wr := fun q => hD (W.sub _ q)
  intro k
  induction k with
  | zero =>
    intro i s hi st hS q
    obtain rfl : i = n := by omega
    refine codeAny_builtin PyProof.Rows.F.entry_set_update_loop ?_
    rw [Around.under_plainId PyProof.Rows.F.plain_set_update_loop _]
    show wpAny _ A.in1 (pyNext (.ref I) >>= _) _ _ _
    refine wpAny_bind (W.done s _ _ st fun h' tk kp => ?_)
    refine wpAny_pure (q h' tk (fun b o nb e => kp b o (fun z => nb (List.mem_cons_of_mem _ z)) e) ?_)
    rw [List.take_of_length_le (Nat.le_of_eq hss)] at hS
    exact hS.at fun o e => kp D o hDw e
  | succ k ih =>
    intro i s hi st hS q
    refine codeAny_builtin PyProof.Rows.F.entry_set_update_loop ?_
    rw [Around.under_plainId PyProof.Rows.F.plain_set_update_loop _]
    show wpAny _ A.in1 (pyNext (.ref I) >>= _) _ _ _
    refine wpAny_bind (W.item i s _ _ (by omega) st fun v h1 tk1 hP st1 kp1 => ?_)
    obtain ⟨t, rfl⟩ := hval i v hP
    have hS1 : TextSet prog w h1 D (ss.take i) := hS.at fun o e => kp1 D o hDw e
    show wpAny _ A.in1 (holding [Value.str (ss.getD i "") t] (setAdd D (.str (ss.getD i "") t)) >>= _) _ _ _
    refine wpAny_bind (wpAny_holding ?_)
    unfold setAdd
    refine wpAny_holding (wpAny_bind ((strKind prog w).pyHash (k := ss.getD i "") (strKind_is _ _ _ _) ?_))
    have room : (metS (ss.take i)).length + 1 < scanBound := by
      have h1 := metS_len (ss.take i)
      have h2 : (ss.take i).length ≤ ss.length := by rw [List.length_take]; exact Nat.min_le_right _ _
      omega
    refine wpAny_setAddHashed_of (knd := strKind prog w) (strKind_is _ _ _ _) rfl hS1 room fun h2 sb2 hS2 => ?_
    have hlt : i < ss.length := by omega
    have et : ss.take (i + 1) = ss.take i ++ [ss.getD i ""] := by
      rw [List.take_add_one, List.getElem?_eq_getElem hlt, List.getD_eq_getElem?_getD, List.getElem?_eq_getElem hlt]
      rfl
    have hS3 : TextSet prog w h2 D (ss.take (i + 1)) := by
      refine TextSet.congr hS2 (fun y => ?_) ?_
      · rw [et, metS_snoc, Bool.eq_iff_iff, Bool.or_eq_true, decide_eq_true_eq, decide_eq_true_eq, decide_eq_true_eq, metF_mem]
      · rw [et, metS_snoc, metF_len]
        by_cases z : ss.getD i "" ∈ metS (ss.take i)
        · rw [if_pos z, if_pos (decide_eq_true z)]
        · rw [if_neg z, if_neg (by rw [decide_eq_false z]; exact Bool.false_ne_true)]
    have kp2 : ∀ b o, b ∉ D :: wr → s.heap.get? b = some o → h2.get? b = some o := fun b o nb e => by
      rw [sb2.2 b (fun z => nb (by rw [z]; exact List.mem_cons_self))]
      exact kp1 b o (fun z => nb (List.mem_cons_of_mem _ z)) e
    refine wpAny_pure ⟨plainId_quiet PyProof.Rows.F.plain_set_update_loop _, ih (i + 1) _ (by omega) (W.frame _ _ _ st1 fun b hb o e => ?_) hS3 fun h' tk kp hS' => q h' tk (fun b o nb e => kp b o nb (kp2 b o nb e)) hS'⟩
    rw [sb2.2 b (fun z => hD (by rw [← z]; exact hb))]
    exact e
variable {A : Around} {E : Value → Shared → Prop} {s : Shared}
abbrev newSetObj (led : Bool) : Obj := { cls := .type "set", dict := none, data := .set #[] 0 (.fresh 0 0 led) }
theorem init_texts {A : Around} {R : Fin → Shared → Prop} {E : Value → Shared → Prop} {s : Shared} {l : Addr} {its : Array Value} {ss : List Str} (led : Bool) (hh : A.handled = none) (hl : s.heap.IsList l its) (hlen : ss.length = its.size)
    (hval : ∀ (i : Nat) (v : Value), its[i]? = some v → ∃ t, v = Value.str (ss.getD i "") t) (hb : its.size + 1 < scanBound)
    (q : ∀ h' tk, TextSet prog w h' s.heap.objs.size ss → (∀ b o, b < s.heap.objs.size → s.heap.get? b = some o → h'.get? b = some o) → R (.done (.ret .none)) { s with heap := h', toks := tk }) :
    wpAny (model prog w) A (Builtin.«set.__init__» ⟨[.ref s.heap.objs.size, .ref l], []⟩) R E { s with heap := s.heap.push (newSetObj led) } := by
  obtain ⟨⟨oc, od, ox, osl⟩, hol, hcl, nl, hdl⟩ := id hl
  simp only at hcl hdl
  subst hcl hdl
  have hS : (s.heap.push (newSetObj led)).get? s.heap.objs.size = some (newSetObj led) := Heap.get?_push_size _ rfl
  have hT : Shared.TypeIs { s with heap := s.heap.push (newSetObj led) } (.ref s.heap.objs.size) "set" := ⟨_, hS, rfl⟩
  have hol' : (s.heap.push (newSetObj led)).get? l = some { cls := .type "list", dict := od, data := .seq its nl, slots := osl } := Heap.get?_push_of_some _ hol
  have f1 := F.sub_list_set
  have f2 := F.sub_list_frozenset
  have f3 : (Value.type "list" == Value.type "dict") = false := by decide
  have hl1 : (s.heap.push (newSetObj led)).IsList l its := ⟨_, hol', rfl, nl, rfl⟩
  have hlt : l < s.heap.objs.size := Heap.lt_size hol
  unfold Builtin.«set.__init__» noKeywords Builtin.Frozenset.updateFrom
  generalize hPI : pyIter = PI
  wp_walk
  subst hPI
  refine wpAny_pyIter_list hl1 ?_
  refine wpAny_bind (wpAny_runValue ?_)
  have hz : (s.heap.push (newSetObj led)).objs.size = s.heap.objs.size + 1 := Heap.size_push ..
  have hne : l ≠ (s.heap.push (newSetObj led)).objs.size := by rw [hz]; exact Nat.ne_of_lt (Nat.lt_succ_of_lt hlt)
  have hSf : s.heap.objs.size ∉ [(s.heap.push (newSetObj led)).objs.size, l] := by
    rw [hz]
    simp only [List.mem_cons, List.not_mem_nil, or_false, not_or]
    exact ⟨Nat.ne_of_lt (Nat.lt_succ_self _), Nat.ne_of_gt hlt⟩
  refine set_texts_loop (Walks.list (by first | exact hh | simp [hh]) _ l hne its) s.heap.objs.size hSf ss hlen hval hb its.size 0 _ (by omega) ⟨⟨_, Heap.get?_push_size _ rfl, rfl, rfl⟩, hl1.push _⟩ ?_ fun h' tk kp hS' => ?_
  · have hg : ((s.heap.push (newSetObj led)).push { cls := .type "list_iterator", data := .fields #[.ref l, .int 0 0] }).get? s.heap.objs.size = some (newSetObj led) := Heap.get?_push_of_some _ hS
    exact TextSet.congr ((PyProof.Rows.setObjOf_fresh (knd := strKind prog w) led).setOf hg (by unfold scanBound; omega)) (fun _ => rfl) rfl
  · refine wpAny_pure (wpAny_pure (q h' tk hS' fun b o hb' e => kp b o ?_ (Heap.get?_push_of_some _ (Heap.get?_push_of_some _ e))))
    rw [hz]
    simp only [List.mem_cons, List.not_mem_nil, or_false, not_or]
    exact ⟨Nat.ne_of_lt hb', Nat.ne_of_lt (Nat.lt_succ_of_lt hb')⟩
theorem call_set_texts {l : Addr} {its : Array Value} {ss : List Str} {Q : Value → Shared → Prop} (hh : A.handled = none) (hl : s.heap.IsList l its) (hlen : ss.length = its.size)
    (hval : ∀ (i : Nat) (v : Value), its[i]? = some v → ∃ t, v = Value.str (ss.getD i "") t) (hb : its.size + 1 < scanBound)
    (q : ∀ h' tk, TextSet prog w h' s.heap.objs.size ss → (∀ b o, b < s.heap.objs.size → s.heap.get? b = some o → h'.get? b = some o) → Q (.ref s.heap.objs.size) { s with heap := h', toks := tk }) :
    wpAny (model prog w) A (call (.type "set") [.ref l]) Q E s := by
  have ft := F.called_set
  obtain ⟨c, tl, hmro⟩ := ft.mro
  have g1 := ft.made
  have g2 := ft.sub
  have g3 := ft.notType
  have g4 := ft.canCreate
  have g5 := F.typeCall_set_1 (.ref l)
  refine wpAny_call (codeAny_of_tree (show wpAny _ _ (callAny (.type "set") _) _ _ _ from wpAny_pure ⟨Code.quiet_builtin _ (by decide +kernel), codeAny_builtin F.entry_type_call ?_⟩))
  rw [Around.under_plain (weight_type_call_type "set" [.ref l] []) (by rfl)]
  repeat (any_goals (first | assumption | wp_step))
  refine codeAny_mono (code_set_new_1 (.ref l) (Q₁ := fun obj s1 => ∃ led : Bool, obj = .ref s.heap.objs.size ∧ s1 = { s with heap := s.heap.push (newSetObj led) }) (E := E) fun led => ⟨led, rfl, rfl⟩) fun r s1 hr => ?_
  rcases r with e | fl
  · exact hr
  rcases fl with _ | _ | _ | obj
  · exact hr.elim
  · exact hr.elim
  · exact hr.elim
  obtain ⟨led, rfl, rfl⟩ := hr
  have hT : Shared.TypeIs { s with heap := s.heap.push (newSetObj led) } (.ref s.heap.objs.size) "set" := ⟨_, Heap.get?_push_size _ rfl, rfl⟩
  have g6 := ft.init.lookup
  have g7 := ft.init.bind (.ref s.heap.objs.size)
  repeat (any_goals (first | assumption | wp_step))
  refine codeAny_mono (codeAny_call_builtin (R := wants (fun r s2 => r = .none ∧ ∃ h' tk, s2 = { s with heap := h', toks := tk } ∧ TextSet prog w h' s.heap.objs.size ss ∧ ∀ b o, b < s.heap.objs.size → s.heap.get? b = some o → h'.get? b = some o) E)
    ft.init.plain F.entry_set_init (check_set_init_1 hT (init_texts led (by first | exact hh | simp [hh]) hl hlen hval hb fun h' tk x kp => ⟨rfl, h', tk, rfl, x, kp⟩))) fun r2 s2 hr2 => ?_
  rcases r2 with e | fl
  · exact hr2
  rcases fl with _ | _ | _ | v
  · exact hr2.elim
  · exact hr2.elim
  · exact hr2.elim
  obtain ⟨rfl, h', tk, rfl, x, kp⟩ := hr2
  repeat (any_goals (first | assumption | wp_step))
  exact q h' tk x kp
theorem len_texts {D : Addr} {ss : List Str} {Q : Value → Shared → Prop} (x : TextSet prog w s.heap D ss) (q : Q (.int ((metS ss).length : Nat) (s.toks + 1)) { s with toks := s.toks + 1 + 1 }) : wpAny (model prog w) A (call (.builtin "len") [.ref D]) Q E s := by
  obtain ⟨o, es, ep, t, ho, hex, hd, hel, hmem, hb, hf, hn⟩ := x
  refine call_len_set ho hex hd hf ?_ ?_
  · unfold scanBound at hb
    omega
  · rw [hn]
    exact q
end
end PySem
namespace L2
open PySem PySem.Spec PyProof.Rows
def SetTx (P : Program) (w : World) (D : Addr) (ss : List Str) : HO := .ext fun h => TextSet P w h D ss
section
variable {X : Cx}
def rSetTx (P : Program) (w : World) (K : PySem.W.Frag) : List V → Hp → VK → Prop := fun xs H Q => ∃ (p : Addr) (ss : List Str), xs = [.ref p] ∧ SqL K H p (ss.map V.str) ∧ ss.length ≤ 1000 ∧ ∀ D, H D = none → Q (.ref D) (upd H D (SetTx P w D ss))
theorem call_setTx (hc : X.calm = true) : CallR X (.type "set") (rSetTx X.prog X.w X.K) := by
  intro pins s σ H xs us Q I r h
  obtain ⟨p, ss, rfl, hq, hl, q⟩ := h
  obtain ⟨u, rfl, rx⟩ := r.one
  cases rx
  obtain ⟨its, rv, pl, hz⟩ := I.list hq
  have hlen := rv.length
  rw [List.length_map] at hlen
  refine call_set_texts (I.ok.hd hc) pl.isList (by rw [List.size_toArray]; exact hlen) (fun i v hv => ?_) (by rw [List.size_toArray, ← hlen]; unfold scanBound; omega) fun h' tk x kp => ?_
  · have hv' : its[i]? = some v := by simpa using hv
    have hi : i < ss.length := by rw [hlen]; exact (List.getElem?_eq_some_iff.mp hv').1
    obtain ⟨u, hu, t, rfl⟩ := rv.get (i := i) (x := .str ss[i]) (by rw [List.getElem?_map, List.getElem?_eq_getElem hi]; rfl)
    rw [hv'] at hu
    cases hu
    exact ⟨t, by rw [List.getD_eq_getElem?_getD, List.getElem?_eq_getElem hi]; rfl⟩
  · have e : ∃ o, h'.get? s.heap.objs.size = some o := by
      obtain ⟨o, _, _, _, ho, _⟩ := x
      exact ⟨o, ho⟩
    exact ⟨.ref s.heap.objs.size, _, I.laid (o := SetTx X.prog X.w s.heap.objs.size ss) (fun b o eo => kp b o (Heap.lt_size eo) eo) (Nat.le_refl _) (show TextSet X.prog X.w h' s.heap.objs.size ss ∧ _ ∧ _ from ⟨x, e, fun h1 h2 y k => y.at k⟩), rfl, q _ (I.hok.fresh (Nat.le_refl _))⟩
theorem call_lenTx : CallR X (.builtin "len") (fun xs H Q => ∃ (D : Addr) (ss : List Str), xs = [.ref D] ∧ H D = some (SetTx X.prog X.w D ss) ∧ Q (.int ((metS ss).length : Nat)) H) := by
  intro pins s σ H xs us Q I r h
  obtain ⟨D, ss, rfl, hD, q⟩ := h
  obtain ⟨u, rfl, rx⟩ := r.one
  cases rx
  obtain ⟨x, _⟩ := I.hok D _ hD
  exact len_texts x ⟨.int ((metS ss).length : Nat), H, I.tok _, ⟨_, rfl⟩, q⟩
end
end L2
set_option Elab.async false
set_option linter.all false
set_option maxRecDepth 100000
namespace PySem
abbrev titO (t : Addr) (i : Nat) : Obj := { cls := .type "tuple_iterator", data := .fields #[.ref t, .int (i : Int) 0] }
abbrev zipO (f0 : Value) (TI TO : Addr) : Obj := { cls := .type "zip", dict := none, data := .fields #[f0, .bool false, .bool false, .ref TI, .ref TO], slots := #[] }
abbrev duoO (a b : Value) : Obj := { cls := .type "tuple", data := .seq #[a, b] }
section
variable {prog : Program} {w : World} {A : Around} {E : Value → Shared → Prop} {s : Shared}
theorem nextOf_tup {it t : Addr} {i : Nat} {its : Array Value} {x : Value} {Q : Value → Shared → Prop} (ho : s.heap.get? it = some (titO t i)) (ht : s.heap.IsTuple t its) (hx : its[i]? = some x)
    (q : ∀ h', h'.get? it = some (titO t (i + 1)) → Heap.SameBut it s.heap h' → Q x { s with heap := h' }) : wpAny (model prog w) A (Builtin.SmallTypes.nextOf (.ref it)) Q E s := by
  have hT : s.TypeIs (.ref it) "tuple_iterator" := ⟨_, ho, rfl⟩
  obtain ⟨ol, hol, _, nl, hdl⟩ := ht
  unfold Builtin.SmallTypes.nextOf
  refine wpAny_bind (wpAny_callSpecial?_slot (name := Str.ofString "__next__") hT F.slot_tuple_iterator_next (wpAny_call_entry F.slot_tuple_iterator_next hT F.entry_tuple_iterator_next ?_ (F.args_tuple_iterator_next_1 _)))
  refine wpAny_bind (m := field (.ref it) 0) (wpAny_field ho rfl (x := .ref t) rfl ?_)
  refine (if_neg (show ¬ ((Value.ref t == Value.none) = true) from Bool.false_ne_true)).symm ▸ ?_
  refine wpAny_bind (m := field (.ref it) 1) (wpAny_field ho rfl (x := .int i 0) rfl ?_)
  refine wpAny_bind (m := seqItems? (.ref t)) (wpAny_seqItems hol hdl ?_)
  simp only [Int.toNat_natCast, hx]
  refine wpAny_bind (wpAny_setField ho rfl (by simp) (wpAny_pure ⟨x, rfl, wpAny_pure (q _ ?_ (Heap.SameBut.update ..))⟩))
  exact Heap.get?_update_self _ ho rfl
theorem nextOf_tup_end {it t : Addr} {i : Nat} {its : Array Value} {Q : Value → Shared → Prop} (hh : A.handled = none) (ho : s.heap.get? it = some (titO t i)) (ht : s.heap.IsTuple t its) (hx : its[i]? = none)
    (q : ∀ h' e, Heap.ExtBut it s.heap h' → (∃ o, h'.get? e = some o ∧ o.cls = .type "StopIteration") → E (.ref e) { s with heap := h' }) : wpAny (model prog w) A (Builtin.SmallTypes.nextOf (.ref it)) Q E s := by
  have hT : s.TypeIs (.ref it) "tuple_iterator" := ⟨_, ho, rfl⟩
  obtain ⟨ol, hol, _, nl, hdl⟩ := ht
  unfold Builtin.SmallTypes.nextOf
  refine wpAny_bind (wpAny_callSpecial?_slot (name := Str.ofString "__next__") hT F.slot_tuple_iterator_next (wpAny_call_entry F.slot_tuple_iterator_next hT F.entry_tuple_iterator_next ?_ (F.args_tuple_iterator_next_1 _)))
  refine wpAny_bind (m := field (.ref it) 0) (wpAny_field ho rfl (x := .ref t) rfl ?_)
  refine (if_neg (show ¬ ((Value.ref t == Value.none) = true) from Bool.false_ne_true)).symm ▸ ?_
  refine wpAny_bind (m := field (.ref it) 1) (wpAny_field ho rfl (x := .int i 0) rfl ?_)
  refine wpAny_bind (m := seqItems? (.ref t)) (wpAny_seqItems hol hdl ?_)
  simp only [Int.toNat_natCast, hx]
  refine wpAny_bind (wpAny_rule (wpAny_bind (wpAny_setField ho rfl (by simp) ?_)))
  unfold Builtin.SmallTypes.stopIteration
  refine wpAny_bind ?_
  simp only [newExc, newTuple]
  refine wpAny_bind (wpAny_newObj_type ?_ (by size_fits))
  refine wpAny_bind (m := firstArgMember _ _) (wpAny_of_eq (a := Value.none) (by first | rfl | (simp only [firstArgMember]; rfl)) ?_)
  refine wpAny_newObj_type ?_ (by size_fits)
  simp only [raiseNew]
  refine wpAny_bind (wpAny_handled ?_)
  first | rw [show A.in1.handled = none from hh] | rw [hh]
  refine wpAny_bind (wpAny_pure (wpAny_throw ?_))
  exact q _ _ (((Heap.SameBut.update ..).extBut.push _).push _) ⟨_, Heap.get?_push_size _ rfl, rfl⟩
structure ZApart (z TI TO a b : Addr) : Prop where
  h1 : TI ≠ z
  h2 : TO ≠ z
  h3 : a ≠ z
  h4 : b ≠ z
  h5 : TI ≠ TO
  h6 : TI ≠ a
  h7 : TI ≠ b
  h8 : TO ≠ a
  h9 : TO ≠ b
  h10 : a ≠ b
theorem seq_put {T : Addr} {a b x : Value} {k : Nat} {Q : Unit → Shared → Prop} (hT : s.heap.get? T = some (duoO a b))
    (q : ∀ h', h'.get? T = some { cls := .type "tuple", data := .seq ((#[a, b] : Array Value).setIfInBounds k x) } → Heap.SameBut T s.heap h' → Q () { s with heap := h' }) :
    wpAny (model prog w) A (updateSeq T (·.setIfInBounds k x)) Q E s := by
  refine wpAny_updateSeq hT rfl (q _ ?_ (Heap.SameBut.update ..))
  rw [Heap.get?_update_self _ hT rfl]
  simp [Obj.mapSeq]
theorem zipT_item {z TI TO i1 i2 t u : Addr} {k : Nat} {xs ys : Array Value} {x y a b : Value} {Q : Option Value → Shared → Prop} (D : ZApart z TI TO i1 i2)
    (hz : s.heap.get? z = some (zipO .none TI TO)) (hTI : s.heap.get? TI = some (duoO (.ref i1) (.ref i2))) (hTO : s.heap.get? TO = some (duoO a b))
    (g1 : s.heap.get? i1 = some (titO t k)) (g2 : s.heap.get? i2 = some (titO u k)) (ht : s.heap.IsTuple t xs) (hu : s.heap.IsTuple u ys) (hx : xs[k]? = some x) (hy : ys[k]? = some y)
    (t1 : t ≠ z) (t2 : t ≠ TO) (t3 : t ≠ i1) (t4 : t ≠ i2) (u1 : u ≠ z) (u2 : u ≠ TO) (u3 : u ≠ i1) (u4 : u ≠ i2)
    (q : ∀ h', h'.get? z = some (zipO (rawInt s.heap.objs.size) TI TO) → h'.get? TO = some (duoO x y) → h'.get? i1 = some (titO t (k + 1)) → h'.get? i2 = some (titO u (k + 1)) → h'.get? s.heap.objs.size = some (duoO x y) →
      (∀ c o, c ≠ z → c ≠ TO → c ≠ i1 → c ≠ i2 → s.heap.get? c = some o → h'.get? c = some o) → Q (some (.ref s.heap.objs.size)) { s with heap := h' }) :
    wpAny (model prog w) A (pyNext (.ref z)) Q E s := by
  have hT : s.TypeIs (.ref z) "zip" := ⟨_, hz, rfl⟩
  unfold pyNext
  refine wpAny_bind (wpAny_attempt (wpAny_callSpecial?_slot (name := Str.ofString "__next__") hT F.slot_zip_next (wpAny_call_entry F.slot_zip_next hT F.entry_zip_next ?_ (F.args_zip_next_1 _))))
  refine wpAny_bind (m := field (.ref z) 2) (wpAny_field hz rfl (x := .bool false) rfl ?_)
  refine wpAny_bind (m := field (.ref z) 3) (wpAny_field hz rfl (x := .ref TI) rfl (wpAny_bind (wpAny_seqItems hTI rfl ?_)))
  refine wpAny_bind (m := Builtin.SmallTypes.ownedTupleIsFree (.ref z)) ?_
  unfold Builtin.SmallTypes.ownedTupleIsFree
  refine wpAny_bind (wpAny_field hz rfl (x := .none) rfl (wpAny_pure ?_))
  simp only [if_true]
  refine wpAny_bind (wpAny_rule (wpAny_bind (wpAny_field hz rfl (x := .ref TO) rfl (wpAny_bind (wpAny_setField_rec hz (by simp) fun h1 z1 s1 => ?_)))))
  replace z1 : h1.get? z = some (zipO .ellipsis TI TO) := z1
  refine wpAny_bind ?_
  simp only [List.zipIdx_cons, List.zipIdx_nil, List.forIn_cons, List.forIn_nil]
  refine wpAny_bind (wpAny_bind (wpAny_onRaise ?_))
  refine wpAny_bind (m := Builtin.SmallTypes.nextOf (.ref i1)) (nextOf_tup (s := { s with heap := h1 }) (s1.extBut _ _ D.h3 g1) (ht.extBut s1.extBut t1) hx fun h2 g12 s2 => wpAny_pure ?_)
  have TO2 : h2.get? TO = some (duoO a b) := s2.extBut _ _ D.h8 (s1.extBut _ _ D.h2 hTO)
  refine wpAny_bind (wpAny_seqItems TO2 rfl (wpAny_bind (seq_put (s := { s with heap := h2 }) TO2 fun h3 TO3 s3 => wpAny_bind (wpAny_letGo (wpAny_pure ?_)))))
  replace TO3 : h3.get? TO = some (duoO x b) := TO3
  refine wpAny_bind (wpAny_bind (wpAny_onRaise ?_))
  refine wpAny_bind (m := Builtin.SmallTypes.nextOf (.ref i2)) (nextOf_tup (s := { s with heap := h3 }) (s3.extBut _ _ D.h9.symm (s2.extBut _ _ D.h10.symm (s1.extBut _ _ D.h4 g2))) (((hu.extBut s1.extBut u1).extBut s2.extBut u3).extBut s3.extBut u2) hy fun h4 g24 s4 => wpAny_pure ?_)
  have TO4 : h4.get? TO = some (duoO x b) := s4.extBut _ _ D.h9 TO3
  refine wpAny_bind (wpAny_seqItems TO4 rfl (wpAny_bind (seq_put (s := { s with heap := h4 }) TO4 fun h5 TO5 s5 => wpAny_bind (wpAny_letGo (wpAny_pure (wpAny_pure ?_))))))
  replace TO5 : h5.get? TO = some (duoO x y) := TO5
  refine wpAny_bind (wpAny_seqItems TO5 rfl (wpAny_bind (wpAny_newTuple ?_)))
  have hsz : h5.objs.size = s.heap.objs.size := by rw [s5.1, s4.1, s3.1, s2.1, s1.1]
  have z5 : h5.get? z = some (zipO .ellipsis TI TO) := s5.extBut _ _ D.h2.symm (s4.extBut _ _ D.h4.symm (s3.extBut _ _ D.h2.symm (s2.extBut _ _ D.h3.symm z1)))
  have kp : ∀ c o, c ≠ z → c ≠ TO → c ≠ i1 → c ≠ i2 → s.heap.get? c = some o → h5.get? c = some o := fun c o c1 c2 c3 c4 e => s5.extBut _ _ c2 (s4.extBut _ _ c4 (s3.extBut _ _ c2 (s2.extBut _ _ c3 (s1.extBut _ _ c1 e))))
  have g15 : h5.get? i1 = some (titO t (k + 1)) := s5.extBut _ _ D.h8.symm (s4.extBut _ _ D.h10 (s3.extBut _ _ D.h8.symm g12))
  have g25 : h5.get? i2 = some (titO u (k + 1)) := s5.extBut _ _ D.h9.symm g24
  refine wpAny_bind (m := Builtin.SmallTypes.ownedTupleHandOut (.ref z) (.ref h5.objs.size)) ?_
  unfold Builtin.SmallTypes.ownedTupleHandOut
  have z6 : (h5.push (duoO x y)).get? z = some (zipO .ellipsis TI TO) := Heap.get?_push_of_some _ z5
  refine wpAny_bind (wpAny_setField_rec z6 (by simp) fun h7 z7 s7 => ?_)
  replace z7 : h7.get? z = some (zipO (rawInt h5.objs.size) TI TO) := z7
  refine wpAny_setField_rec z7 (by simp) fun h8 z8 s8 => ?_
  replace z8 : h8.get? z = some (zipO (rawInt h5.objs.size) TI TO) := z8
  have up : ∀ c o, c ≠ z → h5.get? c = some o → h8.get? c = some o := fun c o c1 e => s8.extBut _ _ c1 (s7.extBut _ _ c1 (Heap.get?_push_of_some _ e))
  have nz : h5.objs.size ≠ z := Nat.ne_of_gt (Heap.lt_size z5)
  have T8 : h8.get? h5.objs.size = some (duoO x y) := s8.extBut _ _ nz (s7.extBut _ _ nz (Heap.get?_push_size _ rfl))
  rw [hsz] at z8 T8
  refine wpAny_pure ⟨_, rfl, wpAny_pure ?_⟩
  show Q (some (.ref h5.objs.size)) _
  rw [hsz]
  exact q h8 z8 (up _ _ D.h2 TO5) (up _ _ D.h3 g15) (up _ _ D.h4 g25) T8 fun c o c1 c2 c3 c4 e => up c o c1 (kp c o c1 c2 c3 c4 e)
theorem zipT_end {z TI TO i1 i2 t : Addr} {k : Nat} {xs : Array Value} {a b : Value} {Q : Option Value → Shared → Prop} (hh : A.handled = none) (D : ZApart z TI TO i1 i2)
    (hz : s.heap.get? z = some (zipO .none TI TO)) (hTI : s.heap.get? TI = some (duoO (.ref i1) (.ref i2))) (hTO : s.heap.get? TO = some (duoO a b))
    (g1 : s.heap.get? i1 = some (titO t k)) (ht : s.heap.IsTuple t xs) (hx : xs[k]? = none) (t1 : t ≠ z)
    (q : ∀ h', (∀ c o, c ≠ z → c ≠ TO → c ≠ i1 → c ≠ i2 → s.heap.get? c = some o → h'.get? c = some o) → Q none { s with heap := h' }) :
    wpAny (model prog w) A (pyNext (.ref z)) Q E s := by
  have hT : s.TypeIs (.ref z) "zip" := ⟨_, hz, rfl⟩
  unfold pyNext
  refine wpAny_bind (wpAny_attempt (wpAny_callSpecial?_slot (name := Str.ofString "__next__") hT F.slot_zip_next (wpAny_call_entry F.slot_zip_next hT F.entry_zip_next ?_ (F.args_zip_next_1 _))))
  refine wpAny_bind (m := field (.ref z) 2) (wpAny_field hz rfl (x := .bool false) rfl ?_)
  refine wpAny_bind (m := field (.ref z) 3) (wpAny_field hz rfl (x := .ref TI) rfl (wpAny_bind (wpAny_seqItems hTI rfl ?_)))
  refine wpAny_bind (m := Builtin.SmallTypes.ownedTupleIsFree (.ref z)) ?_
  unfold Builtin.SmallTypes.ownedTupleIsFree
  refine wpAny_bind (wpAny_field hz rfl (x := .none) rfl (wpAny_pure ?_))
  simp only [if_true]
  refine wpAny_bind (wpAny_rule (wpAny_bind (wpAny_field hz rfl (x := .ref TO) rfl (wpAny_bind (wpAny_setField_rec hz (by simp) fun h1 z1 s1 => ?_)))))
  replace z1 : h1.get? z = some (zipO .ellipsis TI TO) := z1
  refine wpAny_bind ?_
  simp only [List.zipIdx_cons, List.zipIdx_nil, List.forIn_cons, List.forIn_nil]
  refine wpAny_bind (wpAny_bind (wpAny_onRaise ?_))
  refine wpAny_bind (m := Builtin.SmallTypes.nextOf (.ref i1)) (nextOf_tup_end (s := { s with heap := h1 }) hh (s1.extBut _ _ D.h3 g1) (ht.extBut s1.extBut t1) hx fun h2 e s2 he => ?_)
  obtain ⟨oe, hoe, hce⟩ := he
  have z2 : h2.get? z = some (zipO .ellipsis TI TO) := s2 _ _ D.h3.symm z1
  have hez : e ≠ z := fun x => by subst x; rw [z2] at hoe; cases hoe; simp at hce
  refine wpAny_setField_rec z2 (by simp) fun h3 _ s3 => ?_
  refine wpAny_bind (wpAny_isInstance (T := "StopIteration") (b := true) ⟨oe, s3.extBut _ _ hez hoe, hce⟩ isSubtype_stop ?_)
  exact wpAny_pure (q _ fun c o c1 _ c3 _ x => s3.extBut _ _ c1 (s2 _ _ c3 (s1.extBut _ _ c1 x)))
end
end PySem
set_option Elab.async false
set_option linter.all false
set_option maxRecDepth 100000
namespace PySem
section
variable {prog : Program} {w : World} {A : Around} {E : Value → Shared → Prop} {s : Shared}
abbrev zT1 (h : Heap) (t : Addr) : Heap := h.push (titO t 0)
abbrev zT2 (h : Heap) (t u : Addr) : Heap := (zT1 h t).push (titO u 0)
abbrev zT3 (h : Heap) (t u : Addr) : Heap := (zT2 h t u).push (duoO (.ref h.objs.size) (.ref (zT1 h t).objs.size))
abbrev zT4 (h : Heap) (t u : Addr) : Heap := (zT3 h t u).push (duoO .none .none)
abbrev zT5 (h : Heap) (t u : Addr) : Heap := (zT4 h t u).push (zipO .none (zT2 h t u).objs.size (zT3 h t u).objs.size)
theorem meets_zipT (t u : Addr) (xs ys : Array Value) : Meets (Builtin.«zip.__new__» ⟨[.type "zip", .ref t, .ref u], []⟩)
    (fun _ R s => s.heap.IsTuple t xs ∧ s.heap.IsTuple u ys ∧ R (.ok (.ret (.ref (zT4 s.heap t u).objs.size))) { s with heap := zT5 s.heap t u }) :=
  .of_wp fun prog w A R s h => by
    obtain ⟨hp, g, d, tk, os⟩ := s
    obtain ⟨a1, a2, h⟩ := h
    have hsub := sub_zip
    have b1 : Heap.IsTuple (Shared.heap ⟨hp, g, d, tk, os⟩) t xs := a1
    have b2 : Heap.IsTuple (Shared.heap ⟨hp.push { cls := .type "tuple_iterator", data := .fields #[.ref t, .int 0 0] }, g, d, tk, os⟩) u ys := by
      obtain ⟨o, ho, r⟩ := a2
      exact ⟨o, Heap.get?_push_of_some _ ho, r⟩
    wp_walk using wpAny_pyIter_tuple b1, wpAny_pyIter_tuple b2
    exact ⟨_, rfl, h⟩
theorem call_zipT {t u : Addr} {xs ys : Array Value} {Q : Value → Shared → Prop} (ht : s.heap.IsTuple t xs) (hu : s.heap.IsTuple u ys) (q : Q (.ref (zT4 s.heap t u).objs.size) { s with heap := zT5 s.heap t u }) :
    wpAny (model prog w) A (call (.type "zip") [.ref t, .ref u]) Q E s := by
  refine callType_new F.called_zip (by decide) (F.typeCall_zip_2 _ _) (F.newCall_zip_2 _ _) (fun obj => F.args_object_init_3 obj _ _) F.entry_zip_new (meets_zipT t u xs ys) ⟨ht, hu, ?_⟩
  exact ⟨⟨_, Heap.get?_push_size _ rfl, rfl⟩, q⟩
end
end PySem
namespace L2
open PySem PySem.Spec PyProof.Rows
section
variable {X : Cx} {pins : List (Addr × Obj)} {σ : St} {H : Hp} {s : Shared}
theorem Inv.tup_ne {t b : Addr} {xs : List V} (I : Inv X pins σ H s) (h : SqT X.K H t xs) (f : FpOk X pins H b) : t ≠ b := by
  rintro rfl
  obtain ⟨f0, f1, f2, f3, _⟩ := f
  rcases h with (h | ⟨o, h⟩) | ⟨o, its, n, hk, _⟩
  · rw [f0] at h; cases h
  · rw [f0] at h; cases h
  · have e := I.ok.mod.kin t o hk
    rcases f3 with z | z
    · exact I.ok.noex t o e z
    · exact absurd (Nat.lt_of_lt_of_le (Heap.lt_size e) (Nat.le_trans I.ok.bsz z)) (Nat.lt_irrefl _)
theorem Inv.drawn {ch : List Addr} {h' : Heap} {vs : List V} {its : List Value} {T : Addr} (I : Inv X pins σ H s) (hch : ∀ b ∈ ch, FpOk X pins H b) (kp : ∀ b o, b ∉ ch → s.heap.get? b = some o → h'.get? b = some o)
    (hT : s.heap.objs.size ≤ T) (hv : Vals vs its) (hz : vs.length ≤ sizeLine) (ho : IsTN h' T its.toArray) (hth : ∀ b ∈ ch, ∃ o, h'.get? b = some o) : Inv X pins σ (upd H T (.tup vs)) { s with heap := h' } := by
  have fT : H T = none := I.hok.fresh hT
  have nT : ∀ b o, s.heap.get? b = some o → b ≠ T := fun b o e => Nat.ne_of_lt (Nat.lt_of_lt_of_le (Heap.lt_size e) hT)
  have nch : ∀ b u, H b = some u → b ∉ ch := fun b u e z => by rw [(hch b z).1] at e; cases e
  refine I.step (g' := s.gens) (d' := s.drawn) (t' := s.toks) (ch := ch) (fun b hb => ?_) (fun b o _ _ hc e _ => kp b o hc e) (fun b o _ _ hc e _ => ⟨o.slots, kp b o hc e⟩) (fun b o hc e n => by rw [upd_ne (nT b o e)]; exact n)
    (fun b o hc e => ⟨o, kp b o hc e⟩) (fun b xs e => by rw [upd_ne (ne_of_none e fT)]; exact e) (fun b o u e => by rw [upd_ne (ne_of_none e fT)]; exact e) (fun b ps e => ⟨#[], by rw [upd_ne (ne_of_none e fT), e]; simp⟩) (fun m hm => ?_) (fun b u e => ?_) I.bare
  · obtain ⟨_, f1, _, f3, f4, f5⟩ := hch b hb
    exact ⟨f3, f1, f4, f5⟩
  · obtain ⟨o, es, ep, ho', r⟩ := hm
    exact ⟨o, es, ep, kp _ o (fun z => (hch _ z).2.1 rfl) ho', r⟩
  · by_cases hb : b = T
    · subst hb
      rw [upd_same] at e
      cases e
      exact ⟨hz, its, hv, ho⟩
    · rw [upd_ne hb] at e
      refine (I.hok b u e).stay (fun c v hc' q => kp c v ?_ q) (fun c q => by rw [upd_ne (ne_of_none q fT)]; exact q) fun c xs q => by rw [upd_ne (ne_of_none q fT)]; exact q
      rcases hc' with z | z
      · rw [z]; exact nch b u e
      · exact nch c _ z
theorem Inv.turnedL {ch : List Addr} {h' : Heap} (I : Inv X pins σ H s) (hch : ∀ b ∈ ch, FpOk X pins H b) (kp : ∀ b o, b ∉ ch → s.heap.get? b = some o → h'.get? b = some o) : Inv X pins σ H { s with heap := h' } := by
  have nch : ∀ b u, H b = some u → b ∉ ch := fun b u e z => by rw [(hch b z).1] at e; cases e
  refine I.step (g' := s.gens) (d' := s.drawn) (t' := s.toks) (ch := ch) (fun b hb => ?_) (fun b o _ _ hc e _ => kp b o hc e) (fun b o _ _ hc e _ => ⟨o.slots, kp b o hc e⟩) (fun _ _ _ _ n => n)
    (fun b o hc e => ⟨o, kp b o hc e⟩) (fun _ _ e => e) (fun _ _ _ e => e) (fun b ps e => ⟨#[], by rw [e]; simp⟩) (fun m hm => ?_) (fun b u e => ?_) I.bare
  · obtain ⟨_, f1, _, f3, f4, f5⟩ := hch b hb
    exact ⟨f3, f1, f4, f5⟩
  · obtain ⟨o, es, ep, ho', r⟩ := hm
    exact ⟨o, es, ep, kp _ o (fun z => (hch _ z).2.1 rfl) ho', r⟩
  · refine (I.hok b u e).stay (fun c v hc' q => kp c v ?_ q) (fun _ q => q) fun _ _ q => q
    rcases hc' with z | z
    · rw [z]; exact nch b u e
    · exact nch c _ z
end
def Itz (K : PySem.W.Frag) (t u : Addr) (xs ys : List V) : It :=
  ⟨fun i H => SqT K H t xs ∧ SqT K H u ys ∧ i < xs.length ∧ i < ys.length, fun i H v H' => ∃ T a b, H T = none ∧ v = .ref T ∧ H' = upd H T (.tup [a, b]) ∧ xs[i]? = some a ∧ ys[i]? = some b, fun i H => SqT K H t xs ∧ xs.length ≤ i⟩
def ztn (z TI TO i1 i2 t u : Addr) (i : Nat) (h : Heap) : Prop :=
  h.get? z = some (zipO .none TI TO) ∧ h.get? TI = some (duoO (.ref i1) (.ref i2)) ∧ (∃ a b, h.get? TO = some (duoO a b)) ∧ h.get? i1 = some (titO t i) ∧ h.get? i2 = some (titO u i)
theorem turn_zip {P : Program} {w : World} {K : PySem.W.Frag} {elts : List Expr} {kt : Nat} {pos : Pos} {z TI TO i1 i2 t u : Addr} {xs ys : List V} (D : ZApart z TI TO i1 i2) :
    Turn P w K (.Tuple elts kt pos) (Itz K t u xs ys) [z, TI, TO, i1, i2] z (ztn z TI TO i1 i2 t u) where
  mem := by simp
  obj := fun i h st b hb => by
    obtain ⟨e1, e2, ⟨a, c, e3⟩, e4, e5⟩ := st
    simp only [List.mem_cons, List.not_mem_nil, or_false] at hb
    rcases hb with rfl | rfl | rfl | rfl | rfl
    · exact ⟨_, e1, fun v z => by cases (show Data.fields _ = Data.cell v from z)⟩
    · exact ⟨_, e2, fun v z => by cases (show Data.seq _ _ = Data.cell v from z)⟩
    · exact ⟨_, e3, fun v z => by cases (show Data.seq _ _ = Data.cell v from z)⟩
    · exact ⟨_, e4, fun v z => by cases (show Data.fields _ = Data.cell v from z)⟩
    · exact ⟨_, e5, fun v z => by cases (show Data.fields _ = Data.cell v from z)⟩
  keep := fun i h h' st k => by
    obtain ⟨e1, e2, ⟨a, c, e3⟩, e4, e5⟩ := st
    exact ⟨k z (by simp) _ e1, k TI (by simp) _ e2, ⟨a, c, k TO (by simp) _ e3⟩, k i1 (by simp) _ e4, k i2 (by simp) _ e5⟩
  item := by
    intro X hP hw hK hc i pins s σ H E I hf st hg
    subst hP hw hK
    obtain ⟨e1, e2, ⟨a0, c0, e3⟩, e4, e5⟩ := st
    obtain ⟨ht, hu, l1, l2⟩ := hg
    obtain ⟨its, rv, pt, hz⟩ := I.tuple ht
    obtain ⟨jts, rw', pu, hz'⟩ := I.tuple hu
    obtain ⟨x, hx, rx⟩ := rv.get (List.getElem?_eq_getElem l1)
    obtain ⟨y, hy, ry⟩ := rw'.get (List.getElem?_eq_getElem l2)
    have fz := hf z (by simp)
    have fO := hf TO (by simp)
    have f1 := hf i1 (by simp)
    have f2 := hf i2 (by simp)
    refine zipT_item D e1 e2 e3 e4 e5 (show s.heap.IsTuple t its.toArray from pt) (show s.heap.IsTuple u jts.toArray from pu) (by simpa using hx) (by simpa using hy) (I.tup_ne ht fz) (I.tup_ne ht fO) (I.tup_ne ht f1) (I.tup_ne ht f2)
      (I.tup_ne hu fz) (I.tup_ne hu fO) (I.tup_ne hu f1) (I.tup_ne hu f2) fun h' a1 a2 a3 a4 a5 kp => ?_
    refine ⟨_, rfl, ?_⟩
    have fT : H s.heap.objs.size = none := I.hok.fresh (Nat.le_refl _)
    have I1 : Inv X pins σ (upd H s.heap.objs.size (.tup [xs[i], ys[i]])) { s with heap := h' } := by
      refine I.drawn (ch := [z, TO, i1, i2]) (its := [x, y]) (fun b hb => ?_) (fun b o hb e => ?_) (Nat.le_refl _) (.cons rx (.cons ry .nil)) (small (by simp)) (.of a5 rfl ⟨_, a5, rfl, _, rfl⟩) (fun b hb => ?_)
      · refine hf b ?_
        simp only [List.mem_cons, List.not_mem_nil, or_false] at hb ⊢
        rcases hb with h | h | h | h <;> simp [h]
      · simp only [List.mem_cons, List.not_mem_nil, or_false, not_or] at hb
        exact kp b o hb.1 hb.2.1 hb.2.2.1 hb.2.2.2 e
      · simp only [List.mem_cons, List.not_mem_nil, or_false] at hb
        rcases hb with rfl | rfl | rfl | rfl
        · exact ⟨_, a1⟩
        · exact ⟨_, a2⟩
        · exact ⟨_, a3⟩
        · exact ⟨_, a4⟩
    have nT : ∀ b ∈ [z, TI, TO, i1, i2], b ≠ s.heap.objs.size := fun b hb => by
      have e : ∃ o, s.heap.get? b = some o := by
        simp only [List.mem_cons, List.not_mem_nil, or_false] at hb
        rcases hb with rfl | rfl | rfl | rfl | rfl
        · exact ⟨_, e1⟩
        · exact ⟨_, e2⟩
        · exact ⟨_, e3⟩
        · exact ⟨_, e4⟩
        · exact ⟨_, e5⟩
      obtain ⟨o, e⟩ := e
      exact Nat.ne_of_lt (Heap.lt_size e)
    refine wpAny_letOwnedTupleGo_zip (s := { s with heap := h' }) a1 fun h2 z2 s2 => ?_
    obtain ⟨g0, g1, g2, g3, g4, g5⟩ := fz
    have I2 : Inv X pins σ (upd H s.heap.objs.size (.tup [xs[i], ys[i]])) { s with heap := h2 } := Inv.turned (s := { s with heap := h' }) I1 (t' := s.toks) (it := z) (fun b o hb e => (s2.2 b hb).trans e) (by rw [upd_ne (nT z (by simp))]; exact g0) g1 g3 g4 g5
    refine ⟨.ref s.heap.objs.size, _, I2, rfl, ⟨_, _, _, fT, rfl, rfl, List.getElem?_eq_getElem l1, List.getElem?_eq_getElem l2⟩, ?_, fun b hb => by rw [upd_ne (nT b hb)]; exact (hf b hb).1⟩
    exact ⟨z2, s2.extBut _ _ D.h1 (kp TI _ D.h1 D.h5 D.h6 D.h7 e2), ⟨_, _, s2.extBut _ _ D.h2 a2⟩, s2.extBut _ _ D.h3 a3, s2.extBut _ _ D.h4 a4⟩
  done := by
    intro X hP hw hK hc i pins s σ H E I hf st hg
    subst hP hw hK
    obtain ⟨e1, e2, ⟨a0, c0, e3⟩, e4, e5⟩ := st
    obtain ⟨ht, hl⟩ := hg
    obtain ⟨its, rv, pt, hz⟩ := I.tuple ht
    have hlen := rv.length
    refine zipT_end (I.ok.hd hc) D e1 e2 e3 e4 (show s.heap.IsTuple t its.toArray from pt) (by simp; omega) (I.tup_ne ht (hf z (by simp))) fun h' kp => ⟨rfl, ?_⟩
    refine Inv.turnedL (ch := [z, TO, i1, i2]) I (fun b hb => hf b ?_) fun b o hb e => ?_
    · simp only [List.mem_cons, List.not_mem_nil, or_false] at hb ⊢
      rcases hb with h | h | h | h <;> simp [h]
    · simp only [List.mem_cons, List.not_mem_nil, or_false, not_or] at hb
      exact kp b o hb.1 hb.2.1 hb.2.2.1 hb.2.2.2 e
  self := fun _ _ _ _ _ st h => wpAny_pyIter_zip st.1 h
end L2
set_option Elab.async false
set_option linter.all false
set_option maxRecDepth 100000
namespace L2
open PySem PySem.Spec PyProof.Rows
section
variable {X : Cx}
def iZipT (K : PySem.W.Frag) (ta : TA) : TI := fun σ H R => ta σ H fun vs H1 => ∃ t u xs ys, vs = [.ref t, .ref u] ∧ SqT K H1 t xs ∧ SqT K H1 u ys ∧ R (Itz K t u xs ys) H1
theorem pi_zipT {elts : List Expr} {kt : Nat} {tp : Pos} {a b : Expr} {ta : TA} {p pos : Pos} (hg : Gl X "zip") (hm : X.mg "zip" = none) (ha : PA X [a, b] ta) (hs : starEach [a, b] X.env = (false, eval a X.env) :: starEach [b] X.env := by rfl)
    (hs2 : starEach [b] X.env = [(false, eval b X.env)] := by rfl) : PI X (.Tuple elts kt tp) (.Call (.Name "zip" p) [a, b] [] pos) (iZipT X.K ta) := by
  intro pins s σ H R I h
  refine Call_ (ld_blt I hg hm bt_zip (PyProof.Rows.callWith_type1 (thn (ha pos pins s σ H _ I h) fun us s1 ⟨vs, H1, I1, r1, q1⟩ => ?_) hs (by rw [hs2]; rfl)))
  obtain ⟨t, u, xs, ys, e, ht, hu, q⟩ := q1
  subst e
  obtain ⟨its, rv, pt, hz⟩ := I1.tuple ht
  obtain ⟨jts, rw', pu, hz'⟩ := I1.tuple hu
  cases r1 with
  | cons r rr =>
    cases rr with
    | cons r' rr' =>
      cases rr'
      cases r
      cases r'
      refine call_zipT (show s1.heap.IsTuple t its.toArray from pt) (show s1.heap.IsTuple u jts.toArray from pu) ?_
      have z1 : (zT1 s1.heap t).objs.size = s1.heap.objs.size + 1 := Heap.size_push ..
      have z2 : (zT2 s1.heap t u).objs.size = s1.heap.objs.size + 2 := by rw [Heap.size_push, z1]
      have z3 : (zT3 s1.heap t u).objs.size = s1.heap.objs.size + 3 := by rw [Heap.size_push, z2]
      have z4 : (zT4 s1.heap t u).objs.size = s1.heap.objs.size + 4 := by rw [Heap.size_push, z3]
      have D : ZApart (zT4 s1.heap t u).objs.size (zT2 s1.heap t u).objs.size (zT3 s1.heap t u).objs.size s1.heap.objs.size (zT1 s1.heap t).objs.size := by
        constructor <;> (show (_ : Nat) ≠ (_ : Nat); rw [Ne]; intro h; simp only [z1, z2, z3, z4] at h; omega)
      have g5 : (zT5 s1.heap t u).get? (zT4 s1.heap t u).objs.size = some (zipO .none (zT2 s1.heap t u).objs.size (zT3 s1.heap t u).objs.size) := Heap.get?_push_size _ rfl
      have g4 : (zT5 s1.heap t u).get? (zT3 s1.heap t u).objs.size = some (duoO .none .none) := Heap.get?_push_of_some _ (Heap.get?_push_size _ rfl)
      have g3 : (zT5 s1.heap t u).get? (zT2 s1.heap t u).objs.size = some (duoO (.ref s1.heap.objs.size) (.ref (zT1 s1.heap t).objs.size)) := Heap.get?_push_of_some _ (Heap.get?_push_of_some _ (Heap.get?_push_size _ rfl))
      have g2 : (zT5 s1.heap t u).get? (zT1 s1.heap t).objs.size = some (titO u 0) := Heap.get?_push_of_some _ (Heap.get?_push_of_some _ (Heap.get?_push_of_some _ (Heap.get?_push_size _ rfl)))
      have g1 : (zT5 s1.heap t u).get? s1.heap.objs.size = some (titO t 0) := Heap.get?_push_of_some _ (Heap.get?_push_of_some _ (Heap.get?_push_of_some _ (Heap.get?_push_of_some _ (Heap.get?_push_size _ rfl))))
      have I2 : Inv X pins σ H1 { s1 with heap := zT5 s1.heap t u } := I1.kept (t' := s1.toks) fun b o e => Heap.get?_push_of_some _ (Heap.get?_push_of_some _ (Heap.get?_push_of_some _ (Heap.get?_push_of_some _ (Heap.get?_push_of_some _ e))))
      refine wpAny_pyIter_zip (s := { s1 with heap := zT5 s1.heap t u }) g5 ⟨_, _, _, _, H1, rfl, I2, turn_zip (xs := xs) (ys := ys) D, ⟨g5, g3, ⟨_, _, g4⟩, g1, g2⟩, fun b hb => ?_, q⟩
      have hb' : s1.heap.objs.size ≤ b := by
        simp only [List.mem_cons, List.not_mem_nil, or_false] at hb
        rcases hb with rfl | rfl | rfl | rfl | rfl
        · rw [z4]; exact Nat.le_add_right ..
        · rw [z2]; exact Nat.le_add_right ..
        · rw [z3]; exact Nat.le_add_right ..
        · exact Nat.le_refl _
        · rw [z1]; exact Nat.le_add_right ..
      exact I1.fpOk hb' (I1.hok.fresh hb')
end
end L2
set_option Elab.async false
set_option linter.all false
set_option maxRecDepth 100000
namespace L2
open PySem PySem.Spec PyProof.Rows
def Held (P : Program) (w : World) (K : PySem.W.Frag) (mg : Str → Option Value) (base : Heap) (k : Nat) (f : Addr) (ps : List Str) (sp : Sp) : Prop :=
  ∃ fd, PySem.W.keepIn K (.ref f) = true ∧ Binds K fd ps [] ∧ FnOk P w K mg base CX0 k f fd ps sp
theorem Ok.held {P : Program} {w : World} {K : PySem.W.Frag} {mg : Str → Option Value} {base : Heap} {k : Nat} {x : Str} {ps : List Str} {sp : Sp} (G : Ok P w K mg base k x ps sp) : ∃ f, mg x = some (.ref f) ∧ Held P w K mg base k f ps sp := by
  obtain ⟨f, fd, h1, h2, h3, h4⟩ := G
  exact ⟨f, h1, fd, h2, h3, h4⟩
theorem Held.mono {P : Program} {w : World} {K : PySem.W.Frag} {mg : Str → Option Value} {base : Heap} {j k : Nat} {f : Addr} {ps : List Str} {sp : Sp} (h : Held P w K mg base j f ps sp) (hj : j ≤ k) : Held P w K mg base k f ps sp := by
  obtain ⟨fd, h1, h2, h3⟩ := h
  exact ⟨fd, h1, h2, h3.mono hj⟩
section
variable {X : Cx} {x : Str} {p pos : Pos} {e : Expr} {es : List Expr} {te : TE} {t : TA}
def tHeld (P : Program) (w : World) (K : PySem.W.Frag) (mg : Str → Option Value) (base : Heap) (k : Nat) (te : TE) (t : TA) : TE := fun σ H Q => te σ H fun v H1 => ∃ f ps sp, v = .ref f ∧ Held P w K mg base k f ps sp ∧ t σ H1 fun vs H2 => sp vs H2 Q E0
theorem pe_held {k : Nat} (hr : Room k X.A) (hf : PE X (.Name x p) te) (ha : PA X (e :: es) t)
    (he : starEach (e :: es) X.env = (false, eval e X.env) :: starEach es X.env := by rfl) (hpl : (backTo pos (starEach es X.env)).any (·.1) = false := by rfl) :
    PE X (.Call (.Name x p) (e :: es) [] pos) (tHeld X.prog X.w X.K X.mg X.base k te t) := by
  intro pins s σ H Q I h
  refine wpAny_Call_Name_kw (thn (hf pins s σ H _ I h) fun u s1 ⟨v, H1, I1, r1, q1⟩ => ?_)
  obtain ⟨f, ps, sp, rfl, ⟨fd, hk, hb, F⟩, q⟩ := q1
  obtain rfl : u = Value.ref f := r1
  refine PySem.W.callWith_K (h₀ := X.base) I1.ok.mod.kin hk (thn (ha pos pins s1 σ H1 _ I1 q) fun us s2 ⟨vs, H2, I2, r, q2⟩ => ⟨I2.kIn, ?_⟩) he hpl
  exact run_fn F hr hb .nil pass0 I2 r (by simpa using q2)
end
end L2
set_option Elab.async false
set_option linter.all false
set_option maxRecDepth 100000
namespace PySem
end PySem
namespace L2
open PySem PySem.Spec PyProof.Rows
section
variable {X : Cx}
theorem op_catE : OpR X (binaryOp .Add) (fun x y H Q => ∃ a b ys, x = .ref a ∧ y = .ref b ∧ SqT X.K H a [] ∧ SqT X.K H b ys ∧ Q (.ref b) H) := by
  intro pins s σ H x y v u Q I rx ry h
  obtain ⟨a, b, ys, rfl, rfl, ha, hb, q⟩ := h
  cases rx
  cases ry
  obtain ⟨its, r1, p1, _⟩ := I.tuple ha
  obtain ⟨its2, r2, p2, _⟩ := I.tuple hb
  cases r1
  obtain ⟨⟨cls, dd, data, sl⟩, ho, hc, n, hd⟩ := id p1
  obtain ⟨⟨cls2, dd2, data2, sl2⟩, ho2, hc2, n2, hd2⟩ := id p2
  simp only at hc hd hc2 hd2
  subst hc hd hc2 hd2
  exact concat_meets ⟨_, ho, rfl⟩ ⟨_, ho2, rfl⟩ noFill_tuple_add seq_tuple_add PySem.F.slot_tuple_add PySem.F.entry_tuple_add (PySem.F.args_tuple_add_2 _ _)
    (tuple_addW0 a b #[] its2.toArray n n2 dd dd2 sl sl2 rfl) ⟨ho, ho2, ⟨.ref b, H, I, rfl, q⟩⟩
end
end L2
set_option Elab.async false
set_option linter.all false
set_option maxRecDepth 100000
namespace L2
open PySem PySem.Spec PyProof.Rows
section
variable {X : Cx}
inductive Tk (K : PySem.W.Frag) (H : Hp) : V → Bool → Prop
  | int {i} : Tk K H (.int i) false
  | str {x} : Tk K H (.str x) false
  | bl {b} : Tk K H (.bl b) false
  | non : Tk K H .non false
  | lst {a xs} : SqL K H a xs → Tk K H (.ref a) false
  | dct {a kvs} : H a = some (.dK kvs) → Tk K H (.ref a) false
  | tup {a xs} : SqT K H a xs → Tk K H (.ref a) true
def rIsiT (K : PySem.W.Frag) : List V → Hp → VK → Prop := fun xs H Q => ∃ x b, xs = [x, .ty "tuple"] ∧ Tk K H x b ∧ Q (.bl b) H
theorem call_isiT : CallR X (.builtin "isinstance") (rIsiT X.K) := by
  intro pins s σ H xs us Q I r h
  obtain ⟨x, b, rfl, hx, q⟩ := h
  obtain ⟨u, v, rfl, rx, rT⟩ := r.two
  cases rT
  have f0 : EP X pins σ Q (.bool b) s := ⟨.bl _, H, I, rfl, q⟩
  have f1 : EP X pins σ Q (.bool b) { s with toks := s.toks + 1 } := ⟨.bl _, H, I.tok _, rfl, q⟩
  cases hx with
  | int => obtain ⟨t, rfl⟩ := rx; exact IsiPair.int_tuple f1
  | str => obtain ⟨t, rfl⟩ := rx; exact IsiPair.str_tuple f1
  | bl => cases rx; exact IsiPair.bool_tuple f1
  | non => cases rx; exact IsiPair.NoneType_tuple f1
  | lst hq =>
    cases rx
    obtain ⟨its, rv, ⟨o, n, e, c, _⟩, hz⟩ := I.list hq
    exact IsiPair.list_tuple e c f1
  | dct hq =>
    cases rx
    obtain ⟨_, _, _, _, o, _, _, e, ex, _⟩ := I.hok _ _ hq
    exact IsiPair.dict_tuple e ex.1 f1
  | tup hq =>
    cases rx
    obtain ⟨its, rv, ⟨o, e, c, _⟩, hz⟩ := I.tuple hq
    exact IsiPair.tuple_tuple e c f0
end
section
variable {X : Cx} {scope : Scope} {N : List Str} {wi : TI} {te : TE} {σ : St} {H : Hp} {Q : VK}
theorem set_self0 {σ0 : St} {j : Nat} (h0 : σ0[j]? = some none) : σ0 = σ0.set j none := by
  refine (List.ext_getElem? fun i => ?_)
  rw [List.getElem?_set]
  split
  · rename_i hj
    subst hj
    split
    · exact h0
    · rename_i hlt
      exact List.getElem?_eq_none_iff.mpr (by omega)
  · rfl
theorem comp_same (xs : List V) (f : V → V) (σ0 : St) (cap : Cap X scope N σ σ0) (hsz : xs.length ≤ sizeLine)
    (hw : ∀ R : It → Hp → Prop, (∀ J : It, (∀ H' i x, Same H H' → xs[i]? = some x → J.go i H' ∧ ∀ y H2, J.yld i H' y H2 → H2 = H' ∧ y = x) → (∀ H', Same H H' → J.stop xs.length H') → R J H) → wi σ H R)
    (he : ∀ x ∈ xs, ∀ H' R l, Same H H' → (∀ H2, Same H' H2 → R (f x) H2) → te ((σ0.set 0 l).set 0 (some x)) H' R) (h0 : σ0[0]? = some none)
    (q : ∀ D H', Same H H' → H' D = some (.lst (xs.map f)) → Q (.ref D) H') :
    tComp X scope N wi (gName 0) tYes te σ H Q := by
  refine ⟨σ0, cap, hw _ fun J go stop D hD => ?_⟩
  refine ⟨fun i m σ' H' ys => i ≤ xs.length ∧ m = xs.length - i ∧ (∃ l, σ' = σ0.set 0 l) ∧ Same H H' ∧ H' D = some (.lst ys) ∧ ys = (xs.take i).map f, ⟨xs.length, Nat.zero_le _, rfl, ⟨none, set_self0 h0⟩, same_new hD _, upd_same, rfl⟩, ?_⟩
  rintro i m σ' H' ys ⟨hi, rfl, ⟨l, rfl⟩, sm, hL, rfl⟩
  refine ⟨hL, ?_⟩
  by_cases hlt : i < xs.length
  · right
    obtain ⟨g1, g2⟩ := go H' i xs[i] sm (List.getElem?_eq_getElem hlt)
    refine ⟨g1, fun x H2 hy => ?_⟩
    obtain ⟨rfl, rfl⟩ := g2 x H2 hy
    unfold gName tYes
    dsimp only
    rw [if_pos rfl]
    refine he xs[i] (List.getElem_mem hlt) _ _ l sm fun H3 s3 => ⟨s3 _ _ hL, ?_, xs.length - (i + 1), by omega, hlt, rfl, ⟨some xs[i], ?_⟩, ?_, upd_same, ?_⟩
    · rw [List.length_map, List.length_take]; omega
    · rw [List.set_set]
    · intro b o e
      rw [upd_ne (ne_of_none e hD)]
      exact s3 _ _ (sm _ _ e)
    · rw [List.take_add_one, List.getElem?_eq_getElem hlt, List.map_append]
      rfl
  · left
    have e : i = xs.length := by omega
    subst e
    refine ⟨stop _ sm, ?_⟩
    rw [List.take_length] at hL
    exact q D _ sm hL
theorem wi_tup {K : PySem.W.Frag} {a : Addr} {xs : List V} {tl : TE} (hS : SqT K H a xs) (h : ∀ R : VK, R (.ref a) H → tl σ H R) (R : It → Hp → Prop)
    (q : ∀ J : It, (∀ H' i x, Same H H' → xs[i]? = some x → J.go i H' ∧ ∀ y H2, J.yld i H' y H2 → H2 = H' ∧ y = x) → (∀ H', Same H H' → J.stop xs.length H') → R J H) : iTup K tl σ H R := by
  refine h _ ⟨a, rfl, ⟨xs, hS⟩, q _ (fun H' i x s e => ⟨⟨xs, x, s.seqT hS, e⟩, fun y H2 hy => ?_⟩) fun H' s => ⟨xs, s.seqT hS, Nat.le_refl _⟩⟩
  obtain ⟨e1, e2⟩ := hy
  have e3 := e2 xs (s.seqT hS)
  rw [e] at e3
  cases e3
  exact ⟨e1, rfl⟩
end
end L2
set_option Elab.async false
set_option linter.all false
set_option maxRecDepth 100000
namespace L2
open PySem PySem.Spec PyProof.Rows
section
variable {X : Cx}
def rSlX : V → Option Int → Option Int → Hp → VK → Prop := fun x lo hi H Q => ∃ z, x = .str z ∧ z.length ≤ sizeLine ∧ Q (.str (Txt.slice z lo hi)) H
theorem sl_strX : SlR X rSlX := by
  intro pins s σ H x v vl vu lo hi sl Q I rx hs pl pu h
  obtain ⟨z, rfl, hz, q⟩ := h
  obtain ⟨t, rfl⟩ := rx
  have fin : ∀ l u : Option (Int × Tok), l.map (·.1) = lo → u.map (·.1) = hi → s.heap.IsSlice sl l u none → wpAny (model X.prog X.w) X.A (getItem (.str z t) (.ref sl)) (EP X pins σ Q) X.xe s := fun l u e1 e2 hsl => by
    subst e1 e2
    refine wpAny_getItem_str_slice (st := none) hsl rfl ?_
    unfold sliceMade
    have hle := Txt.slice_le z (l.map (·.1)) (u.map (·.1))
    exact post_val_or_str ⟨Nat.le_trans hle hz, fun t' k => ⟨.str (Txt.slice z (l.map (·.1)) (u.map (·.1))), H, I.tok _, ⟨_, rfl⟩, q⟩⟩
  refine ⟨"str", _, F.slot_str_getitem.lookup, typeIs_str _ _ _, ?_⟩
  obtain ⟨o, ho, hc, hd⟩ := hs
  cases pl with
  | none =>
    cases pu with
    | none => exact fin none none rfl rfl ⟨o, ho, hc, hd⟩
    | int j u => exact fin none (some (j, u)) rfl rfl ⟨o, ho, hc, hd⟩
  | int i t =>
    cases pu with
    | none => exact fin (some (i, t)) none rfl rfl ⟨o, ho, hc, hd⟩
    | int j u => exact fin (some (i, t)) (some (j, u)) rfl rfl ⟨o, ho, hc, hd⟩
end
end L2
set_option Elab.async false
set_option linter.all false
set_option maxRecDepth 100000
namespace L2
open PySem PySem.Spec PyProof.Rows
theorem cap_at1 {X : Cx} {scope : Scope} {x y : Str} {σ : St} {v : V} (j : Nat) (hf : (y, NameKind.free) ∈ scope.names) (hj : X.N[j]? = some y) (hs : σ[j]? = some (some v)) (hv : Vis X.env.scope y) : Cap X scope [x, y] σ [none, some v] :=
  ⟨rfl, fun i z u h1 h2 => by
    match i, h1, h2 with
    | 0, _, h2 => cases h2
    | 1, h1, h2 => cases h1; cases h2; exact ⟨hf, j, hj, hs, hv⟩
    | i + 2, h1, _ => cases h1⟩
theorem cap_none2 {X : Cx} {scope : Scope} {x y : Str} {σ : St} : Cap X scope [x, y] σ [none, none] := ⟨rfl, fun i z u h1 h2 => by
    match i, h1, h2 with
    | 0, _, h2 => cases h2
    | 1, _, h2 => cases h2
    | i + 2, h1, _ => cases h1⟩
section
variable {X : Cx} {a b e : Expr} {es : List Expr} {te : TE} {t : TA} {pos p : Pos} {x : Str}
theorem ve_held {k : Nat} (hr : Room k X.A) (hf : VE X (.Name x p) te) (ha : VA X (e :: es) t) (hp : plainE e = true := by rfl) (hpl : (backTo pos (starEach es X.env)).any (·.1) = false := by rfl) :
    VE X (.Call (.Name x p) (e :: es) [] pos) (tHeld X.prog X.w X.K X.mg X.base k te t) := ⟨pe_held hr hf.1 ha.1 (starEach_plain hp) hpl⟩
theorem ve_heldK {P : Program} {w : World} {K : PySem.W.Frag} {mg : Str → Option Value} {base : Heap} {k : Nat} (hr : Room k X.A) (hf : VE X (.Name x p) te) (ha : VA X (e :: es) t) (hp : plainE e = true := by rfl) (hpl : (backTo pos (starEach es X.env)).any (·.1) = false := by rfl)
    (h1 : X.prog = P := by rfl) (h2 : X.w = w := by rfl) (h3 : X.K = K := by rfl) (h4 : X.mg = mg := by rfl) (h5 : X.base = base := by rfl) :
    VE X (.Call (.Name x p) (e :: es) [] pos) (tHeld P w K mg base k te t) := by
  subst h1 h2 h3 h4 h5
  exact ve_held hr hf ha hp hpl
theorem ix_tupK {K : PySem.W.Frag} (h : X.K = K := by rfl) : IxR X (rIxT K) := by subst h; exact ix_tup
theorem vg_tupK {K : PySem.W.Frag} {k : Nat} {u : TGs} {n : Nat} (hc : X.calm = true) (h : VGs X es u) (hn : (assignEach es X.env).length = n := by rfl) (hst : (assignEach es X.env).findIdx? (·.1) = none := by rfl) (hK : X.K = K := by rfl) : VG X (.Tuple es k pos) (gTup K n u) := by
  subst hK
  exact vg_tup hc h hn hst
theorem vi_zipT {elts : List Expr} {kt : Nat} {tp : Pos} (hg : Gl X "zip") (hm : X.mg "zip" = none) (ha : VA X [a, b] t) (hp : plainE a = true := by rfl) (hp2 : plainE b = true := by rfl) :
    VI X (.Tuple elts kt tp) (.Call (.Name "zip" p) [a, b] [] pos) (iZipT X.K t) := ⟨pi_zipT hg hm ha.1 (starEach_plain hp) (starEach_plain (es := []) hp2)⟩
theorem vs_asg {tg : Expr} {g : TG} (he : VE X e te) (hg : VG X tg g) (hs : swapsWithSole [tg] e pos.line X.env = pure false := by rfl) (hw : swappedStores [tg] e X.env = pure none := by rfl)
    (h1 : (assignEach [tg] X.env).map (·.2) = [assign tg X.env] := by rfl) : VS X (.Assign [tg] e pos) (tAsg te g) := ⟨ps_asg he.1 hg.1 hs hw h1⟩
end
end L2
set_option Elab.async false
set_option linter.all false
set_option maxRecDepth 100000
namespace L2
open PySem PySem.Spec PyProof.Rows
theorem wi_rng1 {ta : TA} {σ : St} {H : Hp} (n : Nat) (h : ∀ R : List V → Hp → Prop, R [.int n] H → ta σ H R) (hn : (n : Int) < 2 ^ 62) (R : It → Hp → Prop)
    (q : ∀ J : It, (∀ H' i x, Same H H' → ((List.range n).map fun i : Nat => V.int (0 + (i : Int)))[i]? = some x → J.go i H' ∧ ∀ y H2, J.yld i H' y H2 → H2 = H' ∧ y = x) →
      (∀ H', Same H H' → J.stop ((List.range n).map fun i : Nat => V.int (0 + (i : Int))).length H') → R J H) : iRng1 ta σ H R := by
  refine h _ ⟨n, rfl, by omega, hn, ?_⟩
  refine q _ (fun H' i x _ e => ?_) fun H' _ => ?_
  · rw [List.getElem?_map] at e
    have hi : i < n := by
      cases hr : (List.range n)[i]? with
      | none => rw [hr] at e; cases e
      | some j => have := (List.getElem?_eq_some_iff.mp hr).1; rwa [List.length_range] at this
    rw [List.getElem?_range hi] at e
    cases e
    exact ⟨show i < ((n : Int)).toNat from by omega, fun y H2 hy => hy⟩
  · rw [List.length_map, List.length_range]
    simp [Itr]
theorem slice_to {x : Str} {j : Nat} (h : j ≤ x.length) : (Txt.slice x none (some (j : Int))).cps.toList = x.cps.toList.take j := by
  have e := StrLaws.sliceText_to (x := x) (j := (j : Int)) ⟨by omega, by rw [Array.length_toList]; exact Int.ofNat_le.mpr h⟩
  show (StrLaws.sliceText x none (some (j : Int))).cps.toList = _
  rw [e]
  simp
theorem slice_from {x : Str} {j : Nat} (h : j ≤ x.length) : (Txt.slice x (some (j : Int)) none).cps.toList = x.cps.toList.drop j := by
  have e := StrLaws.sliceText_from (x := x) (i := (j : Int)) ⟨by omega, by rw [Array.length_toList]; exact Int.ofNat_le.mpr h⟩
  show (StrLaws.sliceText x (some (j : Int)) none).cps.toList = _
  rw [e]
  simp only [Int.toNat_natCast]
  refine List.take_of_length_le ?_
  rw [List.length_drop]
  omega
def put (x : Str) (a : Nat) (c : Nat) : Str := Txt.slice x none (some (a : Int)) ++ ⟨#[c]⟩ ++ Txt.slice x (some (a : Int)) none
theorem put_cps {x : Str} {a c : Nat} (h : a ≤ x.length) : (put x a c).cps.toList = x.cps.toList.take a ++ c :: x.cps.toList.drop a := by
  show ((Txt.slice x none (some (a : Int))).cps ++ #[c] ++ (Txt.slice x (some (a : Int)) none).cps).toList = _
  rw [Array.toList_append, Array.toList_append, slice_to h, slice_from h]
  simp
theorem put_inj {x : Str} {a c d : Nat} (h : a ≤ x.length) (e : put x a c = put x a d) : c = d := by
  have e1 := congrArg (fun y : Str => y.cps.toList) e
  simp only [put_cps h] at e1
  have e2 := List.append_cancel_left e1
  exact (List.cons.inj e2).1
theorem put_len {x : Str} {a c : Nat} (h : a ≤ x.length) : (put x a c).length = x.length + 1 := by
  have e := congrArg List.length (put_cps (c := c) h)
  have l : x.length = x.cps.toList.length := by rw [Array.length_toList]; rfl
  rw [Array.length_toList, List.length_append, List.length_cons, List.length_take, List.length_drop] at e
  show (put x a c).cps.size = _
  omega
theorem put_mem {x : Str} {a c d : Nat} (h : a ≤ x.length) (m : d ∈ (put x a c).cps) : d = c ∨ d ∈ x.cps := by
  have m1 : d ∈ (put x a c).cps.toList := Array.mem_toList_iff.mpr m
  rw [put_cps h] at m1
  rcases List.mem_append.mp m1 with z | z
  · exact .inr (Array.mem_toList_iff.mp (List.mem_of_mem_take z))
  · rcases List.mem_cons.mp z with z | z
    · exact .inl z
    · exact .inr (Array.mem_toList_iff.mp (List.mem_of_mem_drop z))
end L2
set_option Elab.async false
set_option linter.all false
namespace PySem
theorem foldF_eq : ∀ (ss σ : List Str), (ss.foldl metF σ).length = σ.length + ss.length ↔ ss.Nodup ∧ ∀ k ∈ ss, k ∉ σ
  | [], σ => by simp
  | v :: r, σ => by
    rw [List.foldl_cons, List.length_cons, List.nodup_cons]
    by_cases h : v ∈ σ
    · have e : metF σ v = σ := by unfold metF; rw [if_pos h]
      rw [e]
      have l := foldF_len r σ
      constructor
      · intro z; omega
      · intro z; exact absurd h (z.2 v (by simp))
    · have e : metF σ v = σ ++ [v] := by unfold metF; rw [if_neg h]
      rw [e]
      have ih := foldF_eq r (σ ++ [v])
      rw [List.length_append, List.length_singleton] at ih
      rw [show σ.length + (r.length + 1) = σ.length + 1 + r.length by omega, ih]
      constructor
      · rintro ⟨a, b⟩
        refine ⟨⟨fun z => (b v z) (by simp), a⟩, fun k hk => ?_⟩
        rcases List.mem_cons.mp hk with rfl | hk
        · exact h
        · exact fun z => b k hk (by simp [z])
      · rintro ⟨⟨a, b⟩, c⟩
        refine ⟨b, fun k hk z => ?_⟩
        rcases List.mem_append.mp z with z | z
        · exact c k (by simp [hk]) z
        · have : k = v := by simpa using z
          subst this
          exact a hk
theorem metS_eq (ss : List Str) : (metS ss).length = ss.length ↔ ss.Nodup := by
  have h := foldF_eq ss []
  simp only [List.length_nil, Nat.zero_add, List.not_mem_nil, not_false_eq_true, implies_true, and_true] at h
  exact h
end PySem
set_option Elab.async false
set_option linter.all false
set_option maxRecDepth 100000
namespace L2
open PySem PySem.Spec PyProof.Rows
section
variable {X : Cx} {scope : Scope} {N : List Str} {wi : TI} {te : TE} {σ : St} {H : Hp} {Q : VK}
theorem ix_listK {K : PySem.W.Frag} (h : X.K = K := by rfl) : IxR X (rIxL K) := by subst h; exact ix_list
end
end L2
set_option Elab.async false
set_option linter.all false
set_option maxRecDepth 100000
namespace L2
open PySem PySem.Spec PyProof.Rows
section
variable {X : Cx} {e : Expr} {es : List Expr} {t : TA} {pos : Pos}
def tTupA (t : TA) : TE := fun σ H Q => t σ H fun xs H1 => xs.length ≤ sizeLine ∧ ∀ p H', H1 p = none → Same H1 H' → H' p = some (.tup xs) → Q (.ref p) H'
def tLstA (t : TA) : TE := fun σ H Q => t σ H fun xs H1 => xs.length ≤ sizeLine ∧ ∀ p H', H1 p = none → Same H1 H' → H' p = some (.lst xs) → Q (.ref p) H'
def tDNewA : TE := fun _ H Q => ∀ p H', H p = none → Same H H' → H' p = some (.dK []) → Q (.ref p) H'
theorem ve_tupA {x1} (h : VA X es t) : VE X (.Tuple es x1 pos) (tTupA t) := ⟨by
  intro pins s σ H Q I hq
  refine wpAny_Tuple_spliced (thn (h.1 pos pins s σ H _ I hq) fun us s1 ⟨xs, H1, I1, r, z, q⟩ => ⟨by rw [← r.length]; exact z, ?_⟩)
  have hf : H1 s1.heap.objs.size = none := I1.hok.fresh (Nat.le_refl _)
  refine ⟨.ref s1.heap.objs.size, upd H1 s1.heap.objs.size (.tup xs), I1.laid (t' := s1.toks) (fun b u e => Heap.get?_push_of_some _ e) (Nat.le_refl _) ?_, rfl, q _ _ hf (same_new hf _) upd_same⟩
  exact ⟨z, us, r, .of (Heap.get?_push_size _ rfl) rfl ⟨_, Heap.get?_push_size _ rfl, rfl, _, rfl⟩⟩⟩
theorem ve_lstA (h : VA X es t) : VE X (.List es pos) (tLstA t) := ⟨by
  intro pins s σ H Q I hq
  refine wpAny_List_spliced (thn (h.1 pos pins s σ H _ I hq) fun us s1 ⟨xs, H1, I1, r, z, q⟩ => ⟨by rw [← r.length]; exact z, ?_⟩)
  have hf : H1 s1.heap.objs.size = none := I1.hok.fresh (Nat.le_refl _)
  refine ⟨.ref s1.heap.objs.size, upd H1 s1.heap.objs.size (.lst xs), I1.laid (t' := s1.toks) (fun b u e => Heap.get?_push_of_some _ e) (Nat.le_refl _) ?_, rfl, q _ _ hf (same_new hf _) upd_same⟩
  exact ⟨z, us, 0, r, Heap.get?_push_size _ rfl⟩⟩
theorem ve_dnewA : VE X (.Dict [] [] pos) tDNewA := VE.imp ve_dnewK fun σ H Q h p hp => h p _ hp (same_new hp _) upd_same
theorem OpR.imp {f : Value → Value → Sem Value} {r r' : R2} (h : OpR X f r) (k : ∀ x y H Q, r' x y H Q → r x y H Q) : OpR X f r' := fun pins s σ H x y v u Q I rx ry q => h pins s σ H x y v u Q I rx ry (k _ _ _ _ q)
theorem CallR.imp {f : Value} {r r' : List V → Hp → VK → Prop} (h : CallR X f r) (k : ∀ xs H Q, r' xs H Q → r xs H Q) : CallR X f r' := fun pins s σ H xs us Q I rv q => h pins s σ H xs us Q I rv (k _ _ _ q)
def rCatA (K : PySem.W.Frag) : R2 := fun x y H Q => ∃ a b xs ys, x = .ref a ∧ y = .ref b ∧ SqT K H a xs ∧ SqT K H b ys ∧ xs.length + ys.length ≤ sizeLine ∧ ∀ r H', Same H H' → SqT K H' r (xs ++ ys) → Q (.ref r) H'
theorem op_catA : OpR X (binaryOp .Add) (rCatA X.K) := OpR.imp (op_catT.or op_catE) fun x y H Q ⟨a, b, xs, ys, ex, ey, ha, hb, hz, q⟩ => by
  by_cases h : xs = []
  · subst h
    exact .inr ⟨a, b, ys, ex, ey, ha, hb, q b H (Same.refl H) hb⟩
  · refine .inl ⟨a, b, xs, ys, ex, ey, ha, hb, h, hz, fun z => ?_, fun _ p hp => q p _ (same_new hp _) (SqT.of upd_same)⟩
    subst z
    exact q a H (Same.refl H) (by rw [List.append_nil]; exact ha)
def rSlA (K : PySem.W.Frag) : V → Option Int → Option Int → Hp → VK → Prop := fun x lo hi H Q => ∃ a xs, x = .ref a ∧ SqT K H a xs ∧
  ¬ (HT.sIx xs.length 0 lo = 0 ∧ HT.sIx xs.length xs.length hi = xs.length) ∧ ∀ p H', Same H H' → H' p = some (.tup (cutV xs lo hi)) → Q (.ref p) H'
theorem sl_tupA : SlR X (rSlA X.K) := fun pins s σ H x v vl vu lo hi sl Q I rx hs pl pu ⟨a, xs, e, ha, hn, q⟩ =>
  sl_tup pins s σ H x v vl vu lo hi sl Q I rx hs pl pu ⟨a, xs, e, ha, hn, fun p hp => q p _ (same_new hp _) upd_same⟩
def rCatLA : R2 := fun x y H Q => ∃ l b xs zs, x = .ref l ∧ y = .ref b ∧ H l = some (.lst xs) ∧ H b = some (.lst zs) ∧ xs.length + zs.length ≤ sizeLine ∧ ∀ p H', H p = none → Same H H' → H' p = some (.lst (xs ++ zs)) → Q (.ref p) H'
theorem op_catLA : OpR X (binaryOp .Add) rCatLA := OpR.imp op_cat fun x y H Q ⟨l, b, xs, zs, ex, ey, hl, hb, hz, q⟩ => ⟨l, b, xs, zs, ex, ey, hl, hb, hz, fun p hp => q p _ hp (same_new hp _) upd_same⟩
def rListA (K : PySem.W.Frag) : List V → Hp → VK → Prop := fun xs H Q => ∃ p ys, xs = [.ref p] ∧ (SqL K H p ys ∨ SqT K H p ys) ∧ ∀ l H', H l = none → Same H H' → H' l = some (.lst ys) → Q (.ref l) H'
theorem call_listA : CallR X (.type "list") (rListA X.K) := CallR.imp call_list_of fun xs H Q ⟨p, ys, e, h, q⟩ => ⟨p, ys, e, h, fun l hl => q l _ hl (same_new hl _) upd_same⟩
def rTupleA (K : PySem.W.Frag) : List V → Hp → VK → Prop := fun xs H Q => ∃ p ys, xs = [.ref p] ∧ SqL K H p ys ∧ ∀ l H', H l = none → Same H H' → H' l = some (.tup ys) → Q (.ref l) H'
theorem call_tupleA : CallR X (.type "tuple") (rTupleA X.K) := CallR.imp call_tuple_of fun xs H Q ⟨p, ys, e, h, q⟩ => ⟨p, ys, e, .inl ⟨h, fun l hl => q l _ hl (same_new hl _) upd_same⟩⟩
theorem mt_appendR : MtR X "list.append" rAppend := mt_append
theorem same_upd {H H' : Hp} {D : Addr} {o : HO} (f : H D = none) (s : Same H H') : Same H (upd H' D o) := fun b u e => by rw [upd_ne (ne_of_none e f)]; exact s _ _ e
end
end L2
set_option Elab.async false
set_option linter.all false
set_option maxRecDepth 100000
namespace L2
open PySem PySem.Spec PyProof.Rows
section
variable {X : Cx} {pins : List (Addr × Obj)} {σ : St} {H : Hp} {s : Shared}
end
def Ite (K : PySem.W.Frag) (l : Addr) (xs : List V) : It :=
  ⟨fun i H => SqL K H l xs ∧ i < xs.length, fun i H v H' => ∃ T a, H T = none ∧ v = .ref T ∧ H' = upd H T (.tup [.int (i : Nat), a]) ∧ xs[i]? = some a, fun i H => SqL K H l xs ∧ xs.length ≤ i⟩
def etn (e it l : Addr) (i : Nat) (h : Heap) : Prop := (∃ old, IsEnum h e it (i : Int) old) ∧ h.IsListIter it l i
theorem turn_enum {P : Program} {w : World} {K : PySem.W.Frag} {elts : List Expr} {kt : Nat} {pos : Pos} {e it l : Addr} {xs : List V} (hne : e ≠ it) :
    Turn P w K (.Tuple elts kt pos) (Ite K l xs) [e, it] e (etn e it l) where
  mem := by simp
  obj := fun i h st b hb => by
    obtain ⟨⟨old, e1⟩, o, e2, c2, d2⟩ := st
    simp only [List.mem_cons, List.not_mem_nil, or_false] at hb
    rcases hb with rfl | rfl
    · exact ⟨_, e1, fun v z => by cases (show Data.fields _ = Data.cell v from z)⟩
    · exact ⟨_, e2, fun v z => by rw [d2] at z; cases z⟩
  keep := fun i h h' st k => by
    obtain ⟨⟨old, e1⟩, o, e2, r⟩ := st
    exact ⟨⟨old, k e (by simp) _ e1⟩, o, k it (by simp) _ e2, r⟩
  item := by
    intro X hP hw hK hc i pins s σ H E I hf st hg
    subst hP hw hK
    obtain ⟨⟨old, e1⟩, e2⟩ := st
    obtain ⟨hl, l1⟩ := hg
    obtain ⟨its, rv, pl, hz⟩ := I.list hl
    obtain ⟨x, hx, rx⟩ := rv.get (List.getElem?_eq_getElem l1)
    have fe := hf e (by simp)
    have fi := hf it (by simp)
    refine wpAny_pyNext_enum_item e1 e2 pl.isList (by simpa using hx) hne fun h' a1 a2 a3 a4 kp => ?_
    refine ⟨_, rfl, ?_⟩
    have fT : H s.heap.objs.size = none := I.hok.fresh (Nat.le_refl _)
    obtain ⟨oi, e2', _⟩ := id e2
    obtain ⟨oi2, a2', _⟩ := id a2
    have I1 : Inv X pins σ (upd H s.heap.objs.size (.tup [.int (i : Nat), xs[i]])) { s with heap := h' } := by
      refine I.drawn (ch := [e, it]) (its := [.int i s.toks, x]) (fun b hb => hf b hb) (fun b o hb z => ?_) (Nat.le_refl _) (.cons ⟨_, rfl⟩ (.cons rx .nil)) (small (by simp)) (.of a3 rfl ⟨_, a3, rfl, _, rfl⟩) (fun b hb => ?_)
      · simp only [List.mem_cons, List.not_mem_nil, or_false, not_or] at hb
        exact kp b o hb.1 hb.2 z
      · simp only [List.mem_cons, List.not_mem_nil, or_false] at hb
        rcases hb with rfl | rfl
        · exact ⟨_, a1⟩
        · exact ⟨_, a2'⟩
    have I1' : Inv X pins σ (upd H s.heap.objs.size (.tup [.int (i : Nat), xs[i]])) { s with heap := h', toks := s.toks + 1 } := I1.tok _
    have nT : ∀ b ∈ [e, it], b ≠ s.heap.objs.size := fun b hb => by
      simp only [List.mem_cons, List.not_mem_nil, or_false] at hb
      rcases hb with rfl | rfl
      · exact Nat.ne_of_lt (Heap.lt_size e1)
      · exact Nat.ne_of_lt (Heap.lt_size e2')
    refine wpAny_letOwnedTupleGo_enum (s := { s with heap := h', toks := s.toks + 1 }) a1 fun h2 z2 s2 => ?_
    obtain ⟨g0, g1, g2, g3, g4, g5⟩ := fe
    have I2 : Inv X pins σ (upd H s.heap.objs.size (.tup [.int (i : Nat), xs[i]])) { s with heap := h2, toks := s.toks + 1 } := Inv.turned (s := { s with heap := h', toks := s.toks + 1 }) I1' (t' := s.toks + 1) (it := e) (fun b o hb z => (s2.2 b hb).trans z) (by rw [upd_ne (nT e (by simp))]; exact g0) g1 g3 g4 g5
    refine ⟨.ref s.heap.objs.size, _, I2, rfl, ⟨_, _, fT, rfl, rfl, List.getElem?_eq_getElem l1⟩, ⟨⟨x, ?_⟩, ?_⟩, fun b hb => by rw [upd_ne (nT b hb)]; exact (hf b hb).1⟩
    · rw [show ((i + 1 : Nat) : Int) = (i : Int) + 1 from by omega]
      exact z2
    · obtain ⟨o, ho, r⟩ := a2
      exact ⟨o, (s2.2 it (Ne.symm hne)).trans ho, r⟩
  done := by
    intro X hP hw hK hc i pins s σ H E I hf st hg
    subst hP hw hK
    obtain ⟨⟨old, e1⟩, e2⟩ := st
    obtain ⟨hl, hi⟩ := hg
    obtain ⟨its, rv, pl, hz⟩ := I.list hl
    have hlen := rv.length
    refine wpAny_pyNext_enum_end (I.ok.hd hc) e1 e2 pl.isList (by simp; omega) fun h' kp => ⟨rfl, ?_⟩
    refine Inv.turnedL (ch := [it]) I (fun b hb => hf b (List.mem_cons_of_mem _ hb)) fun b o hb z => kp b o (by simpa using hb) z
  self := fun _ _ _ _ _ st h => by
    obtain ⟨⟨old, e1⟩, _⟩ := st
    exact wpAny_pyIter_enum e1 h
section
variable {X : Cx}
def iEnum (K : PySem.W.Frag) (ta : TA) : TI := fun σ H R => ta σ H fun vs H1 => ∃ l xs, vs = [.ref l] ∧ SqL K H1 l xs ∧ R (Ite K l xs) H1
theorem pi_enum {elts : List Expr} {kt : Nat} {tp : Pos} {a : Expr} {ta : TA} {p pos : Pos} (hg : Gl X "enumerate") (hm : X.mg "enumerate" = none) (ha : PA X [a] ta) (hs : starEach [a] X.env = [(false, eval a X.env)] := by rfl) :
    PI X (.Tuple elts kt tp) (.Call (.Name "enumerate" p) [a] [] pos) (iEnum X.K ta) := by
  intro pins s σ H R I h
  refine Call_ (ld_blt I hg hm bt_enumerate (PyProof.Rows.callWith_type1 (thn (ha pos pins s σ H _ I h) fun us s1 ⟨vs, H1, I1, r1, q1⟩ => ?_) hs (by rfl)))
  obtain ⟨l, xs, e, hl, q⟩ := q1
  subst e
  obtain ⟨its, rv, pl, hz⟩ := I1.list hl
  obtain ⟨u, rfl, ru⟩ := vals1 r1
  cases ru
  refine call_enumerate_list pl.isList fun h' a1 a2 a3 kp => ?_
  have I2 : Inv X pins σ H1 { s1 with heap := h' } := I1.kept (t' := s1.toks) kp
  refine wpAny_pyIter_enum (s := { s1 with heap := h' }) a1 ⟨_, _, _, _, H1, rfl, I2, turn_enum (xs := xs) (l := l) (Nat.ne_of_gt (Nat.lt_succ_self _)), ⟨⟨_, a1⟩, a2⟩, fun b hb => ?_, q⟩
  have hb' : s1.heap.objs.size ≤ b := by
    simp only [List.mem_cons, List.not_mem_nil, or_false] at hb
    rcases hb with rfl | rfl
    · exact Nat.le_succ _
    · exact Nat.le_refl _
  exact I1.fpOk hb' (I1.hok.fresh hb')
theorem for_enum {K : PySem.W.Frag} {l : Addr} {xs : List V} {g : TG} {tb : TS} {D : Ends} {σ : St} {H : Hp} (Pv : Nat → St → Hp → Prop) (h0 : Pv 0 σ H) (hl : ∀ i σ H, i ≤ xs.length → Pv i σ H → SqL K H l xs)
    (hs : ∀ i σ H a T H', xs[i]? = some a → Pv i σ H → H T = none → H' = upd H T (.tup [.int (i : Nat), a]) → g (.ref T) σ H' fun σ2 H2 => tb { D with nx := Pv (i + 1), ct := Pv (i + 1), bk := D.nx } σ2 H2) (hd : ∀ σ H, Pv xs.length σ H → D.nx σ H) :
    ∃ W : Nat → Nat → St → Hp → Prop, (∃ m, W 0 m σ H) ∧ ∀ i m σ H, W i m σ H →
      ((Ite K l xs).stop i H ∧ D.nx σ H) ∨ ((Ite K l xs).go i H ∧ ∃ N : St → Hp → Prop, (∀ σ' H', N σ' H' → ∃ m', m' < m ∧ W (i + 1) m' σ' H') ∧ ∀ x H', (Ite K l xs).yld i H x H' → g x σ H' fun σ2 H2 => tb { D with nx := N, ct := N, bk := D.nx } σ2 H2) := by
  refine ⟨fun i m σ H => m = xs.length - i ∧ i ≤ xs.length ∧ Pv i σ H, ⟨xs.length, by simp, Nat.zero_le _, h0⟩, ?_⟩
  rintro i m σ H ⟨rfl, hi, p⟩
  by_cases hlt : i < xs.length
  · refine .inr ⟨⟨hl i σ H hi p, hlt⟩, Pv (i + 1), fun σ' H' p' => ⟨xs.length - (i + 1), by omega, rfl, hlt, p'⟩, fun x H' y => ?_⟩
    obtain ⟨T, a, hT, rfl, e, ha⟩ := y
    exact hs i σ H a T H' ha p hT e
  · have e : i = xs.length := by omega
    subst e
    exact .inl ⟨⟨hl _ σ H hi p, Nat.le_refl _⟩, hd σ H p⟩
end
end L2
set_option Elab.async false
set_option linter.all false
set_option maxRecDepth 100000
namespace PySem
section
variable {prog : Program} {w : World} {A : Around} {E : Value → Shared → Prop} {s : Shared} {T : String} {r d : Addr} {n : Nat} {P : Nat → Value → Prop} {OK : Heap → Prop}
theorem collect_kdl {Q : List Value → Shared → Prop} (Kd : PySem.W.KdlSrc prog w T r d n P OK) (hh : A.handled = none) (hok : OK s.heap)
    (hQ : ∀ h' tk acc, (∀ b o, s.heap.get? b = some o → h'.get? b = some o) → ItemsOf P acc n → Q acc.toList { s with heap := h', toks := tk }) (hn : n ≤ sizeLine) :
    wpAny (model prog w) A (collect (.ref r)) Q E s := by
  unfold collect
  refine wpAny_bind (wpAny_runValue (codeAny_builtin F.entry_proto_collect ?_))
  rw [Around.under_plainId F.plain_proto_collect _]
  show wpAny _ A.in1 (newList [] >>= fun l => again (.builtin "list.__iadd__" ⟨[l, .ref r], []⟩)) _ _ s
  refine wpAny_bind (wpAny_newObj_type ?_)
  refine wpAny_pure ⟨plainId_quiet F.plain_list_iadd _, codeAny_builtin F.entry_list_iadd ?_⟩
  rw [Around.under_plainId F.plain_list_iadd _]
  show wpAny _ A.in1 (Builtin.List.listExtendWith (.ref s.heap.objs.size) (.ref r) (.ref s.heap.objs.size)) _ _ _
  have hS : (s.heap.push { cls := .type "list", data := .seq ([] : List Value).toArray }).get? s.heap.objs.size = some { cls := .type "list", data := .seq #[] 0 } := Heap.get?_push_size _ rfl
  have hlt := Kd.there _ hok
  have fin' : ∀ h' tk acc' c', (∀ b o, b ≠ s.heap.objs.size → (s.heap.push { cls := .type "list", data := .seq ([] : List Value).toArray }).get? b = some o → h'.get? b = some o) →
      h'.get? s.heap.objs.size = some { cls := .type "list", dict := none, data := .seq acc' c', slots := #[] } → ItemsOf P acc' n →
      wpAny (model prog w) A (match Value.ref s.heap.objs.size with
      | Value.ref a => do
        match (← load a).data with
          | Data.seq xs _ => pure xs.toList
          | _ => unsupported "internal:collect"
      | _ => unsupported "internal:collect") Q E { s with heap := h', toks := tk } := by
    intro h' tk acc' c' kp hS' hacc
    show wpAny _ A (load s.heap.objs.size >>= _) _ _ _
    refine wpAny_bind (wpAny_load hS' ?_)
    refine wpAny_pure ?_
    exact hQ h' tk acc' (fun b o e => kp b o (Nat.ne_of_lt (Heap.lt_size e)) (Heap.get?_push_of_some _ e)) hacc
  refine wpAny_mono (PySem.W.kdl_extend (A := A) (R := fun q s' => ∃ h' tk acc' c', q = .ok (.ret (.ref s.heap.objs.size)) ∧ s' = { s with heap := h', toks := tk } ∧ (∀ b o, b ≠ s.heap.objs.size → (s.heap.push { cls := .type "list", data := .seq ([] : List Value).toArray }).get? b = some o → h'.get? b = some o) ∧
      h'.get? s.heap.objs.size = some { cls := .type "list", dict := none, data := .seq acc' c', slots := #[] } ∧ ItemsOf P acc' n)
    (s := { s with heap := s.heap.push { cls := .type "list", data := .seq ([] : List Value).toArray } }) Kd hh (Kd.keep _ _ hok fun b _ o e => Heap.get?_push_of_some _ e) s.heap.objs.size (Nat.ne_of_gt hlt.1) (Nat.ne_of_gt hlt.2) (.ref s.heap.objs.size) 0 hS
      (fun h' tk acc' c' kp hS' hacc => ⟨h', tk, acc', c', rfl, rfl, kp, hS', hacc⟩) hn) (fun fin s' h => ?_) (fun e s' h => ?_)
  · cases fin with
    | done f =>
      obtain ⟨h', tk, acc', c', e, rfl, kp, hS', hacc⟩ := h
      cases e
      exact fin' h' tk acc' c' kp hS' hacc
    | again c' => exact ⟨h.1, codeAny_mono h.2 fun q s'' hr => by
        obtain ⟨h', tk, acc', c', rfl, rfl, kp, hS', hacc⟩ := hr
        exact fin' h' tk acc' c' kp hS' hacc⟩
  · obtain ⟨_, _, _, _, e, _⟩ := h
    cases e
end
theorem meets_tuple_new_dict {prog : Program} {w : World} (d : Addr) (kvs : List (Str × Value)) (lo : (d == sysModules) = false) (hn : kvs.length ≤ sizeLine) :
    MeetsIn prog w (Builtin.«tuple.__new__» ⟨[.type "tuple", .ref d], []⟩)
      (fun A R s => A.handled = none ∧ (s.heap.DictOf (strKind prog w) d kvs) ∧ ∀ (h' : Heap) (tk : Nat) (acc : Array Value), (∀ b o, s.heap.get? b = some o → h'.get? b = some o) →
        ItemsOf (fun i v => ∃ k x t, kvs[i]? = some (k, x) ∧ v = .str k t) acc kvs.length → R (.ok (.ret (.ref h'.objs.size))) { s with heap := h'.push { cls := .type "tuple", data := .seq acc }, toks := tk }) :=
  .of_wp fun A R s h => by
    obtain ⟨hh, hm, h⟩ := h
    have hsub := sub_tuple_self
    have hinit := init_tuple_lookup
    have hmh := madeHere_tuple
    have hT : s.TypeIs (.ref d) "dict" := hm.typeIs
    have hh1 : A.in1.handled = none := hh
    obtain ⟨ep, hat⟩ := hm.dictAt
    obtain ⟨o, es, ho, hx⟩ := id hat
    wp_walk using AutoSeq1.wpAny_loadPart' ho, wpAny_typeOf hT, collect_kdl (hn := hn) (PySem.W.kdl_dict (knd := strKind prog w) (kvs := kvs) (ep := ep) lo) hh1 hat
    intro h' tk acc kp hacc
    show wpAny _ _ (Builtin.Tuple.tupleExact acc.toList.toArray >>= fun v => ret v) _ _ _
    unfold Builtin.Tuple.tupleExact
    refine wpAny_bind (wpAny_newObj_type ?_ (show acc.toList.toArray.size ≤ sizeLine by simp only [Array.toArray_toList]; rw [hacc.1]; exact hn))
    refine wpAny_pure ⟨_, rfl, ?_⟩
    have e : acc.toList.toArray = acc := by simp
    rw [e]
    refine h h' tk acc kp ⟨hacc.1, fun j v hv => ?_⟩
    obtain ⟨k, x, e1, e2⟩ := hacc.2 j v hv
    obtain ⟨t, rfl⟩ := Value.isStrOf_shape (x := k) (v := v) e2
    exact ⟨k, x, t, e1, rfl⟩
end PySem
namespace L2
open PySem PySem.Spec PyProof.Rows
def DctK (w : World) (K : PySem.W.Frag) (d : Addr) (kvs : List (Str × Addr)) : Prop := ∃ o, K.lookup d = some o ∧ (d == sysModules) = false ∧ ∀ P : Program, o.IsDictOf (strKind P w) (kvs.map fun p => (p.1, Value.ref p.2))
section
variable {X : Cx}
def rIxD (w : World) (K : PySem.W.Frag) : R2 := fun x y H Q => ∃ d kvs k p, x = .ref d ∧ y = .str k ∧ DctK w K d kvs ∧ (kvs.find? fun q => decide (q.1 = k)).map (·.2) = some p ∧ Q (.ref p) H
theorem find_ref (kvs : List (Str × Addr)) (k : Str) {p : Addr} (h : (kvs.find? fun q => decide (q.1 = k)).map (·.2) = some p) : valueAt (kvs.map fun q => (q.1, Value.ref q.2)) k = some (.ref p) := by
  unfold valueAt
  rw [List.find?_map]
  cases e : kvs.find? fun q => decide (q.1 = k) with
  | none => rw [e] at h; cases h
  | some q =>
    rw [e] at h
    have h : q.2 = p := Option.some.inj h
    have e' : kvs.find? ((fun kv : Str × Value => decide (kv.1 = k)) ∘ fun q => (q.1, Value.ref q.2)) = some q := e
    rw [e', ← h]
    rfl
theorem ix_dctK : IxR X (rIxD X.w X.K) := by
  intro value slice pins s σ H x y v u Q I rx ry h hs
  obtain ⟨d, kvs, k, p, rfl, rfl, ⟨o, hk, lo, hd⟩, hp, q⟩ := h
  cases rx
  obtain ⟨t, rfl⟩ := ry
  have hm : s.heap.DictOf (strKind X.prog X.w) d (kvs.map fun p => (p.1, Value.ref p.2)) := Heap.dictOf_iff.mpr ⟨o, I.kIn _ _ hk, hd _⟩
  exact tail_any hm.typeIs slot_dict_getitem.lookup (wpAny_getItem_of (strKind_is _ _ _ _) hm.mapOf (find_ref kvs k hp) ⟨.ref p, H, I.tok _, rfl, q⟩) hs
def rTupD (w : World) (K : PySem.W.Frag) : List V → Hp → VK → Prop := fun xs H Q => ∃ d kvs, xs = [.ref d] ∧ DctK w K d kvs ∧ kvs.length ≤ 1000 ∧ ∀ p H', Same H H' → H' p = some (.tup (kvs.map fun q => V.str q.1)) → Q (.ref p) H'
theorem vals_keys : ∀ (kvs : List (Str × Value)) (vs : List Value), vs.length = kvs.length → (∀ (j : Nat) (v : Value), vs[j]? = some v → ∃ k x t, kvs[j]? = some (k, x) ∧ v = .str k t) → Vals (kvs.map fun q => V.str q.1) vs
  | [], [], _, _ => .nil
  | (k, x) :: r, v :: vs, hl, h => by
    obtain ⟨k', x', t, e, rfl⟩ := h 0 v rfl
    cases e
    exact .cons ⟨t, rfl⟩ (vals_keys r vs (by simpa using hl) fun j u e => h (j + 1) u e)
theorem call_tupD (hc : X.calm = true) : CallR X (.type "tuple") (rTupD X.w X.K) := by
  intro pins s σ H xs us Q I r h
  obtain ⟨d, kvs, rfl, ⟨o, hk, lo, hd⟩, hl, q⟩ := h
  obtain ⟨u, rfl, ru⟩ := vals1 r
  cases ru
  have hm : s.heap.DictOf (strKind X.prog X.w) d (kvs.map fun p => (p.1, Value.ref p.2))   := Heap.dictOf_iff.mpr ⟨o, I.kIn _ _ hk, hd _⟩
  have hn : (kvs.map fun p => (p.1, Value.ref p.2)).length ≤ sizeLine := small (by rw [List.length_map]; exact hl)
  refine callType_newIn F.called_tuple (by decide) (F.typeCall_tuple_1 _) (F.newCall_tuple_1 _) (fun obj => F.args_object_init_2 obj _) F.entry_tuple_new
    (meets_tuple_new_dict d _ lo hn) ⟨I.ok.hd hc, hm, fun h' tk acc kp hacc => ⟨⟨_, Heap.get?_push_size _ rfl, rfl⟩, ?_⟩⟩
  have hv := vals_keys (kvs.map fun p => (p.1, Value.ref p.2)) acc.toList (by rw [Array.length_toList]; exact hacc.1) fun j v e => hacc.2 j v (by rw [← Array.getElem?_toList]; exact e)
  rw [List.map_map] at hv
  have hv : Vals (kvs.map fun q => V.str q.1) acc.toList := hv
  have I1 : Inv X pins σ H { s with heap := h', toks := tk } := I.kept (t' := tk) kp
  refine ⟨.ref h'.objs.size, _, I1.laid (t' := tk) (o := .tup (kvs.map fun q => V.str q.1)) (fun b ob e => Heap.get?_push_of_some _ e) (Nat.le_refl _) ?_, rfl, q _ _ (same_new (I1.hok.fresh (Nat.le_refl _)) _) upd_same⟩
  have ea : acc.toList.toArray = acc := by simp
  refine ⟨small (by rw [List.length_map]; exact hl), acc.toList, hv, ?_⟩
  rw [ea]
  exact .of (Heap.get?_push_size _ rfl) rfl ⟨_, Heap.get?_push_size _ rfl, rfl, _, rfl⟩
end
end L2
set_option Elab.async false
set_option linter.all false
set_option maxRecDepth 100000
namespace L2
open PySem PySem.Spec PyProof.Rows
section
variable {X : Cx} {scope : Scope} {N : List Str} {wi : TI} {te : TE} {σ : St} {H : Hp} {Q : VK}
theorem comp_zipA {K : PySem.W.Frag} {tl : TA} (xs ys : List V) (f : V → V → V) (σ0 : St) (cap : Cap X scope N σ σ0) (hsz : xs.length ≤ sizeLine) (hl : xs.length = ys.length)
    (hw : ∀ R : List V → Hp → Prop, (∀ t u H1, Same H H1 → SqT K H1 t xs → SqT K H1 u ys → R [.ref t, .ref u] H1) → tl σ H R)
    (he : ∀ (i : Nat) (x y : V), xs[i]? = some x → ys[i]? = some y → ∀ H' R l1 l2, Same H H' → (∀ H2, Same H' H2 → R (f x y) H2) → te ((((σ0.set 0 l1).set 1 l2).set 0 (some x)).set 1 (some y)) H' R) (h0 : σ0[0]? = some none) (h1 : σ0[1]? = some none)
    (q : ∀ D H', Same H H' → H' D = some (.lst (List.zipWith f xs ys)) → Q (.ref D) H') :
    tComp X scope N (iZipT K tl) (gTup K 2 (gCons (gName 0) (gCons (gName 1) gNil))) tYes te σ H Q := by
  refine ⟨σ0, cap, hw _ fun t u H1 s1 ht hu => ⟨t, u, xs, ys, rfl, ht, hu, fun D hD => ?_⟩⟩
  refine ⟨fun i m σ' H' zs => i ≤ xs.length ∧ m = xs.length - i ∧ (∃ l1 l2, σ' = (σ0.set 0 l1).set 1 l2) ∧ Same H1 H' ∧ H' D = some (.lst zs) ∧ zs = (List.zipWith f xs ys).take i, ⟨xs.length, Nat.zero_le _, rfl, ⟨none, none, ?_⟩, same_new hD _, upd_same, rfl⟩, ?_⟩
  · rw [← set_self0 h0]; exact set_self0 h1
  rintro i m σ' H' zs ⟨hi, rfl, ⟨l1, l2, rfl⟩, sm, hL, rfl⟩
  refine ⟨hL, ?_⟩
  by_cases hlt : i < xs.length
  · right
    refine ⟨⟨sm.seqT ht, sm.seqT hu, hlt, by omega⟩, fun v H2 hy => ?_⟩
    obtain ⟨T, a, b, hT, rfl, rfl, ha, hb⟩ := hy
    have s2 : Same H' (upd H' T (.tup [a, b])) := same_new hT _
    refine ⟨T, [a, b], rfl, .inl (.inl upd_same), rfl, a, [b], rfl, b, [], rfl, rfl, ?_⟩
    unfold tYes
    dsimp only
    rw [if_pos rfl]
    refine he i a b ha hb _ _ l1 l2 (fun b o e => s2 _ _ (sm _ _ (s1 _ _ e))) fun H3 s3 => ⟨s3 _ _ (s2 _ _ hL), ?_, xs.length - (i + 1), by omega, hlt, rfl, ⟨some a, some b, ?_⟩, ?_, upd_same, ?_⟩
    · rw [List.length_take, List.length_zipWith]; omega
    · rw [List.set_comm _ _ (show (1 : Nat) ≠ 0 by decide), List.set_set, List.set_set]
    · intro c o e
      rw [upd_ne (ne_of_none e hD)]
      exact s3 _ _ (s2 _ _ (sm _ _ e))
    · rw [List.take_add_one, List.getElem?_zipWith, ha, hb]
      rfl
  · left
    have e : i = xs.length := by omega
    subst e
    refine ⟨⟨sm.seqT ht, Nat.le_refl _⟩, ?_⟩
    rw [List.take_of_length_le (by rw [List.length_zipWith]; omega)] at hL
    exact q D _ (s1.trans sm) hL
end
end L2
set_option Elab.async false
set_option linter.all false
set_option maxRecDepth 100000
namespace L2
open PySem PySem.Spec PyProof.Rows
section
variable {X : Cx} {a c e : Expr} {st : Stmt} {body : List Stmt} {tc : TT} {tb : TS} {t : TA} {te : TE} {pos p : Pos}
theorem vs_never : VS X st tNever := ⟨ps_never⟩
theorem vs_while (hp : PassesOwn (model X.prog X.w) X.A X.env X.xe) (hc : VT X c tc) (hb : VSs X body tb) : VS X (.While c body [] pos) (tWhile tc tb) := ⟨ps_while hp hc.1 hb.1⟩
theorem vi_enum {elts : List Expr} {kt : Nat} {tp : Pos} (hg : Gl X "enumerate") (hm : X.mg "enumerate" = none) (ha : VA X [a] t) (hp : plainE a = true := by rfl) :
    VI X (.Tuple elts kt tp) (.Call (.Name "enumerate" p) [a] [] pos) (iEnum X.K t) := ⟨pi_enum hg hm ha.1 (starEach_plain (es := []) hp)⟩
theorem mt_popR : MtR X "list.pop" rPop := mt_pop
theorem mt_extendR : MtR X "list.extend" rExtend := mt_extend
theorem ve_bm0 {o : Expr} {to : TE} {name : Str} {apos cpos : Pos} {T id : String} {r : V → List V → Hp → VK → Prop} (pa : PlainAttrs T) (slot : Slot T name id) (hty : typeOf (.builtin id) = pure (.type "method_descriptor")) (hm : MtR X id r) (ho : VE X o to)
    (hbase : attributeBase o name X.env (eval o X.env) = eval o X.env := by rfl) (hline : (apos.endLine == cpos.line) = true := by rfl) : VE X (.Call (.Attribute o name apos) [] [] cpos) (tBM0 X.K T r to) := ⟨pe_bm0 pa slot hty hm ho.1 hbase hline⟩
end
section
variable {P : Program} {w : World} {K : PySem.W.Frag} {mg : Str → Option Value} {base : Heap}
theorem Ok.heldAt {k : Nat} {x : Str} {ps : List Str} {sp : Sp} {f : Addr} (G : Ok P w K mg base k x ps sp) (m : mg x = some (.ref f)) : Held P w K mg base k f ps sp := by
  obtain ⟨g, m', h⟩ := G.held
  rw [m] at m'
  cases m'
  exact h
end
end L2
set_option Elab.async false
set_option linter.all false
set_option maxRecDepth 100000
namespace L2
open PySem PySem.Spec PyProof.Rows
section
variable {X : Cx} {scope : Scope} {N : List Str} {wi : TI} {te : TE} {σ : St} {H : Hp} {Q : VK}
theorem comp_anyI (xs : List V) (Rel : Nat → Hp → V → Prop) (st : ∀ {i H1 H2 y}, Same H1 H2 → Rel i H1 y → Rel i H2 y) (su : ∀ {i H1 D ys zs y}, H1 D = some (.lst ys) → Rel i H1 y → Rel i (upd H1 D (.lst zs)) y)
    (σ0 : St) (cap : Cap X scope N σ σ0) (hsz : xs.length ≤ sizeLine)
    (hw : ∀ R : It → Hp → Prop, (∀ J : It, (∀ H' i x, Same H H' → xs[i]? = some x → J.go i H' ∧ ∀ y H2, J.yld i H' y H2 → H2 = H' ∧ y = x) → (∀ H', Same H H' → J.stop xs.length H') → R J H) → wi σ H R)
    (he : ∀ (i : Nat) (x : V), xs[i]? = some x → ∀ H' R l, Same H H' → (∀ y H2, Same H' H2 → Rel i H2 y → R y H2) → te ((σ0.set 0 l).set 0 (some x)) H' R) (h0 : σ0[0]? = some none)
    (q : ∀ D H' ys, Same H H' → H' D = some (.lst ys) → ys.length = xs.length → (∀ (i : Nat) (y : V), ys[i]? = some y → Rel i H' y) → Q (.ref D) H') :
    tComp X scope N wi (gName 0) tYes te σ H Q := by
  refine ⟨σ0, cap, hw _ fun J go stop D hD => ?_⟩
  refine ⟨fun i m σ' H' ys => i ≤ xs.length ∧ m = xs.length - i ∧ (∃ l, σ' = σ0.set 0 l) ∧ Same H H' ∧ H' D = some (.lst ys) ∧ ys.length = i ∧ ∀ (j : Nat) (y : V), ys[j]? = some y → Rel j H' y, ⟨xs.length, Nat.zero_le _, rfl, ⟨none, set_self0 h0⟩, same_new hD _, upd_same, rfl, fun j y e => by simp at e⟩, ?_⟩
  rintro i m σ' H' ys ⟨hi, rfl, ⟨l, rfl⟩, sm, hL, hl, hR⟩
  refine ⟨hL, ?_⟩
  by_cases hlt : i < xs.length
  · right
    obtain ⟨g1, g2⟩ := go H' i xs[i] sm (List.getElem?_eq_getElem hlt)
    refine ⟨g1, fun x H2 hy => ?_⟩
    obtain ⟨rfl, rfl⟩ := g2 x H2 hy
    unfold gName tYes
    dsimp only
    rw [if_pos rfl]
    refine he i xs[i] (List.getElem?_eq_getElem hlt) _ _ l sm fun y H3 s3 r3 => ⟨s3 _ _ hL, by omega, xs.length - (i + 1), by omega, hlt, rfl, ⟨some xs[i], ?_⟩, ?_, upd_same, ?_, ?_⟩
    · rw [List.set_set]
    · intro b o e
      rw [upd_ne (ne_of_none e hD)]
      exact s3 _ _ (sm _ _ e)
    · rw [List.length_append, List.length_singleton, hl]
    · intro j z ez
      refine su (s3 _ _ hL) ?_
      by_cases hj : j < ys.length
      · rw [List.getElem?_append_left hj] at ez
        exact st s3 (hR j z ez)
      · rw [List.getElem?_append_right (by omega)] at ez
        have hj0 : j - ys.length = 0 := by
          by_cases z0 : j - ys.length = 0
          · exact z0
          · rw [List.getElem?_eq_none (by simp; omega)] at ez; cases ez
        have hj1 : j = i := by omega
        subst hj1
        rw [hj0] at ez
        cases ez
        exact r3
  · left
    have e : i = xs.length := by omega
    subst e
    exact ⟨stop _ sm, q D _ ys sm hL hl hR⟩
theorem comp_ix (xs ys : List V) (hly : ys.length = xs.length) (σ0 : St) (cap : Cap X scope N σ σ0) (hsz : xs.length ≤ sizeLine)
    (hw : ∀ R : It → Hp → Prop, (∀ J : It, (∀ H' i x, Same H H' → xs[i]? = some x → J.go i H' ∧ ∀ y H2, J.yld i H' y H2 → H2 = H' ∧ y = x) → (∀ H', Same H H' → J.stop xs.length H') → R J H) → wi σ H R)
    (he : ∀ (i : Nat) (x y : V), xs[i]? = some x → ys[i]? = some y → ∀ H' R l, Same H H' → (∀ H2, Same H' H2 → R y H2) → te ((σ0.set 0 l).set 0 (some x)) H' R) (h0 : σ0[0]? = some none)
    (q : ∀ D H', Same H H' → H' D = some (.lst ys) → Q (.ref D) H') :
    tComp X scope N wi (gName 0) tYes te σ H Q := by
  refine comp_anyI xs (fun i _ y => ys[i]? = some y) (fun _ h => h) (fun _ h => h) σ0 cap hsz hw (fun i x ex H' R l sm r => ?_) h0 fun D H' zs sm hD hl hR => ?_
  · have hi : i < ys.length := by rw [hly]; exact (List.getElem?_eq_some_iff.mp ex).1
    exact he i x ys[i] ex (List.getElem?_eq_getElem hi) H' R l sm fun H2 s2 => r _ H2 s2 (List.getElem?_eq_getElem hi)
  · have e : zs = ys := by
      refine List.ext_getElem? fun i => ?_
      by_cases hi : i < zs.length
      · rw [hR i zs[i] (List.getElem?_eq_getElem hi), List.getElem?_eq_getElem hi]
      · rw [List.getElem?_eq_none (by omega), List.getElem?_eq_none (by omega)]
    subst e
    exact q D H' sm hD
theorem comp_zipI {K : PySem.W.Frag} {tl : TA} (xs ys : List V) (Rel : Nat → Hp → V → Prop) (st : ∀ {i H1 H2 y}, Same H1 H2 → Rel i H1 y → Rel i H2 y) (su : ∀ {i H1 D ys zs y}, H1 D = some (.lst ys) → Rel i H1 y → Rel i (upd H1 D (.lst zs)) y)
    (σ0 : St) (cap : Cap X scope N σ σ0) (hsz : xs.length ≤ sizeLine) (hl : xs.length = ys.length)
    (hw : ∀ R : List V → Hp → Prop, (∀ t u H1, Same H H1 → SqT K H1 t xs → SqT K H1 u ys → R [.ref t, .ref u] H1) → tl σ H R)
    (he : ∀ (i : Nat) (x y : V), xs[i]? = some x → ys[i]? = some y → ∀ H' R l1 l2, Same H H' → (∀ z H2, Same H' H2 → Rel i H2 z → R z H2) → te ((((σ0.set 0 l1).set 1 l2).set 0 (some x)).set 1 (some y)) H' R) (h0 : σ0[0]? = some none) (h1 : σ0[1]? = some none)
    (q : ∀ D H' zs, Same H H' → H' D = some (.lst zs) → zs.length = xs.length → (∀ (i : Nat) (z : V), zs[i]? = some z → Rel i H' z) → Q (.ref D) H') :
    tComp X scope N (iZipT K tl) (gTup K 2 (gCons (gName 0) (gCons (gName 1) gNil))) tYes te σ H Q := by
  refine ⟨σ0, cap, hw _ fun t u H1 s1 ht hu => ⟨t, u, xs, ys, rfl, ht, hu, fun D hD => ?_⟩⟩
  refine ⟨fun i m σ' H' zs => i ≤ xs.length ∧ m = xs.length - i ∧ (∃ l1 l2, σ' = (σ0.set 0 l1).set 1 l2) ∧ Same H1 H' ∧ H' D = some (.lst zs) ∧ zs.length = i ∧ ∀ (j : Nat) (z : V), zs[j]? = some z → Rel j H' z, ⟨xs.length, Nat.zero_le _, rfl, ⟨none, none, ?_⟩, same_new hD _, upd_same, rfl, fun j y e => by simp at e⟩, ?_⟩
  · rw [← set_self0 h0]; exact set_self0 h1
  rintro i m σ' H' zs ⟨hi, rfl, ⟨l1, l2, rfl⟩, sm, hL, hlz, hR⟩
  refine ⟨hL, ?_⟩
  by_cases hlt : i < xs.length
  · right
    refine ⟨⟨sm.seqT ht, sm.seqT hu, hlt, by omega⟩, fun v H2 hy => ?_⟩
    obtain ⟨T, a, b, hT, rfl, rfl, ha, hb⟩ := hy
    have s2 : Same H' (upd H' T (.tup [a, b])) := same_new hT _
    refine ⟨T, [a, b], rfl, .inl (.inl upd_same), rfl, a, [b], rfl, b, [], rfl, rfl, ?_⟩
    unfold tYes
    dsimp only
    rw [if_pos rfl]
    refine he i a b ha hb _ _ l1 l2 (fun b o e => s2 _ _ (sm _ _ (s1 _ _ e))) fun y H3 s3 r3 => ⟨s3 _ _ (s2 _ _ hL), by omega, xs.length - (i + 1), by omega, hlt, rfl, ⟨some a, some b, ?_⟩, ?_, upd_same, ?_, ?_⟩
    · rw [List.set_comm _ _ (show (1 : Nat) ≠ 0 by decide), List.set_set, List.set_set]
    · intro c o e
      rw [upd_ne (ne_of_none e hD)]
      exact s3 _ _ (s2 _ _ (sm _ _ e))
    · rw [List.length_append, List.length_singleton, hlz]
    · intro j z ez
      refine su (s3 _ _ (s2 _ _ hL)) ?_
      by_cases hj : j < zs.length
      · rw [List.getElem?_append_left hj] at ez
        exact st s3 (st s2 (hR j z ez))
      · rw [List.getElem?_append_right (by omega)] at ez
        have hj0 : j - zs.length = 0 := by
          by_cases z0 : j - zs.length = 0
          · exact z0
          · rw [List.getElem?_eq_none (by simp; omega)] at ez; cases ez
        have hj1 : j = i := by omega
        subst hj1
        rw [hj0] at ez
        cases ez
        exact r3
  · left
    have e : i = xs.length := by omega
    subst e
    exact ⟨⟨sm.seqT ht, Nat.le_refl _⟩, q D _ zs (s1.trans sm) hL hlz hR⟩
end
section
variable {X : Cx} {tg e o i : Expr} {te td ty : TE} {pos : Pos}
theorem vi_seq (h : VE X e te) : VI X tg e (fun σ H R => iList X.K te σ H R ∨ iTup X.K te σ H R) := ⟨fun pins s σ H R I q => q.elim (pi_list h.1 pins s σ H R I) (pi_tup h.1 pins s σ H R I)⟩
theorem ve_dget (hu : X.A.units + 1 < cLine) (ho : VE X o td) (hi : VE X i ty) (hs : NoSl i) : VE X (.Subscript o i pos) (tDGet td ty) := ⟨pe_dget hu ho.1 hi.1 hs⟩
def rNeS (K : PySem.W.Frag) : R2 := fun x y H Q => ∃ (a b : Addr) (xs : List Str), x = .ref a ∧ y = .ref b ∧ SqL K H a (xs.map V.str) ∧ SqL K H b (xs.map V.str) ∧ Q (.bl false) H
theorem op_neS (hu : X.A.units < cLine) : OpR X (compareOp .NotEq) (rNeS X.K) := by
  intro pins s σ H x y v u Q I rx ry h
  obtain ⟨a, b, xs, rfl, rfl, ha, hb, q⟩ := h
  cases rx
  cases ry
  obtain ⟨its, rv, pl, hz⟩ := I.list ha
  obtain ⟨jts, rw', pm, hw⟩ := I.list hb
  have e1 := rv.length
  have e2 := rw'.length
  rw [List.length_map] at e1 e2
  refine SeqAt.RcNeAt.lists (e := fun _ => true) pl.isList pm.isList (by rw [List.size_toArray, List.size_toArray]; omega) hu (fun j h1 h2 => ?_) _ _ _ _ ?_
  · have hj1 : j < xs.length := by rw [List.size_toArray] at h1; omega
    obtain ⟨u1, hu1, t1, rfl⟩ := rv.get (i := j) (x := .str xs[j]) (by rw [List.getElem?_map, List.getElem?_eq_getElem hj1]; rfl)
    obtain ⟨u2, hu2, t2, rfl⟩ := rw'.get (i := j) (x := .str xs[j]) (by rw [List.getElem?_map, List.getElem?_eq_getElem hj1]; rfl)
    have g1 : its.toArray[j] = Value.str xs[j] t1 := by
      rw [List.getElem_toArray]
      exact (List.getElem?_eq_some_iff.mp hu1).2
    have g2 : jts.toArray[j] = Value.str xs[j] t2 := by
      rw [List.getElem_toArray]
      exact (List.getElem?_eq_some_iff.mp hu2).2
    rw [g1, g2]
    have z := SeqAt.EqAt.str_str (A := X.A.in1) (s := s) xs[j] t1 xs[j] t2
    simpa using z
  · have z : (List.range its.toArray.size).all (fun _ => true) = true := by rw [List.all_eq_true]; intro _ _; rfl
    rw [z]
    exact ⟨.bl _, H, I, rfl, q⟩
end
theorem for_zip {K : PySem.W.Frag} {t u : Addr} {xs ys : List V} {g : TG} {tb : TS} {D : Ends} {σ : St} {H : Hp} (Pv : Nat → St → Hp → Prop) (hxy : xs.length = ys.length) (h0 : Pv 0 σ H) (hl : ∀ i σ H, i ≤ xs.length → Pv i σ H → SqT K H t xs ∧ SqT K H u ys)
    (hs : ∀ i σ H a b T H', xs[i]? = some a → ys[i]? = some b → Pv i σ H → H T = none → H' = upd H T (.tup [a, b]) → g (.ref T) σ H' fun σ2 H2 => tb { D with nx := Pv (i + 1), ct := Pv (i + 1), bk := D.nx } σ2 H2) (hd : ∀ σ H, Pv xs.length σ H → D.nx σ H) :
    ∃ W : Nat → Nat → St → Hp → Prop, (∃ m, W 0 m σ H) ∧ ∀ i m σ H, W i m σ H →
      ((Itz K t u xs ys).stop i H ∧ D.nx σ H) ∨ ((Itz K t u xs ys).go i H ∧ ∃ N : St → Hp → Prop, (∀ σ' H', N σ' H' → ∃ m', m' < m ∧ W (i + 1) m' σ' H') ∧ ∀ x H', (Itz K t u xs ys).yld i H x H' → g x σ H' fun σ2 H2 => tb { D with nx := N, ct := N, bk := D.nx } σ2 H2) := by
  refine ⟨fun i m σ H => m = xs.length - i ∧ i ≤ xs.length ∧ Pv i σ H, ⟨xs.length, by simp, Nat.zero_le _, h0⟩, ?_⟩
  rintro i m σ H ⟨rfl, hi, p⟩
  by_cases hlt : i < xs.length
  · refine .inr ⟨⟨(hl i σ H hi p).1, (hl i σ H hi p).2, hlt, by omega⟩, Pv (i + 1), fun σ' H' p' => ⟨xs.length - (i + 1), by omega, rfl, hlt, p'⟩, fun x H' y => ?_⟩
    obtain ⟨T, a, b, hT, rfl, e, ha, hb⟩ := y
    exact hs i σ H a b T H' ha hb p hT e
  · have e : i = xs.length := by omega
    subst e
    exact .inl ⟨⟨(hl _ σ H hi p).1, Nat.le_refl _⟩, hd σ H p⟩
end L2
namespace L2
open PySem PySem.Spec PyProof.Rows
theorem vt_dnotin {X : Cx} {i o : Expr} {td ty : TE} {pos : Pos} (hu : X.A.units + 1 < cLine) (hi : VE X i ty) (ho : VE X o td) (h1 : behindInMarks .NotIn o = false := by first | exact nobehind _ (by decide) (by decide) | rfl) : VT X (.Compare i [.NotIn] [o] pos) (tB (tDNotIn ty td)) := ⟨pt_cmp (pc_dnotin hu hi.1 ho.1) h1⟩
end L2
namespace L2
open PySem PySem.Spec PyProof.Rows
theorem op_notIn_seqK {X : Cx} {K : PySem.W.Frag} (h : X.K = K := by rfl) : OpR X (compareOp .NotIn) (rIn K true) := by subst h; exact op_notIn_seq
end L2
namespace L2
open PySem PySem.Spec PyProof.Rows
def sel {α : Type} (p : Nat → Bool) : Nat → List α → List α
  | _, [] => []
  | i, x :: r => if p i then x :: sel p (i + 1) r else sel p (i + 1) r
theorem sel_snoc {α : Type} (p : Nat → Bool) (x : α) : ∀ (k : Nat) (xs : List α), sel p k (xs ++ [x]) = sel p k xs ++ (if p (k + xs.length) then [x] else [])
  | k, [] => by
    show (if p k then x :: sel p (k + 1) [] else sel p (k + 1) []) = [] ++ (if p (k + 0) then [x] else [])
    rw [Nat.add_zero, List.nil_append]
    rfl
  | k, y :: r => by
    show (if p k then y :: sel p (k + 1) (r ++ [x]) else sel p (k + 1) (r ++ [x])) = (if p k then y :: sel p (k + 1) r else sel p (k + 1) r) ++ _
    rw [sel_snoc p x (k + 1) r, List.length_cons, show k + 1 + r.length = k + (r.length + 1) by omega]
    split <;> rfl
theorem sel_len {α : Type} (p : Nat → Bool) : ∀ (k : Nat) (xs : List α), (sel p k xs).length ≤ xs.length
  | _, [] => Nat.le_refl _
  | k, y :: r => by
    have := sel_len p (k + 1) r
    show (if p k then y :: sel p (k + 1) r else sel p (k + 1) r).length ≤ r.length + 1
    split
    · rw [List.length_cons]; omega
    · omega
section
variable {X : Cx} {scope : Scope} {N : List Str} {wi : TI} {te : TE} {σ : L2.St} {H : Hp} {Q : VK}
theorem comp_sel {tt : TT} (xs : List V) (p : Nat → Bool) (σ0 : L2.St) (cap : Cap X scope N σ σ0) (hsz : xs.length ≤ sizeLine)
    (hw : ∀ R : It → Hp → Prop, (∀ J : It, (∀ H' i x, Same H H' → xs[i]? = some x → J.go i H' ∧ ∀ y H2, J.yld i H' y H2 → H2 = H' ∧ y = x) → (∀ H', Same H H' → J.stop xs.length H') → R J H) → wi σ H R)
    (ht : ∀ (i : Nat) (x : V), xs[i]? = some x → ∀ H' R l, Same H H' → (∀ H2, Same H' H2 → R (p i) H2) → tt ((σ0.set 0 l).set 0 (some x)) H' R) (h0 : σ0[0]? = some none)
    (q : ∀ D H', Same H H' → H' D = some (.lst (sel p 0 xs)) → Q (.ref D) H') :
    tComp X scope N wi (gName 0) tt (tVar 0) σ H Q := by
  refine ⟨σ0, cap, hw _ fun J go stop D hD => ?_⟩
  refine ⟨fun i m σ' H' ys => i ≤ xs.length ∧ m = xs.length - i ∧ (∃ l, σ' = σ0.set 0 l) ∧ Same H H' ∧ H' D = some (.lst ys) ∧ ys = sel p 0 (xs.take i), ⟨xs.length, Nat.zero_le _, rfl, ⟨none, set_self0 h0⟩, same_new hD _, upd_same, rfl⟩, ?_⟩
  rintro i m σ' H' ys ⟨hi, rfl, ⟨l, rfl⟩, sm, hL, rfl⟩
  refine ⟨hL, ?_⟩
  by_cases hlt : i < xs.length
  · right
    obtain ⟨g1, g2⟩ := go H' i xs[i] sm (List.getElem?_eq_getElem hlt)
    refine ⟨g1, fun x H2 hy => ?_⟩
    obtain ⟨rfl, rfl⟩ := g2 x H2 hy
    unfold gName
    dsimp only
    have hj : 0 < σ0.length := by
      by_cases z : 0 < σ0.length
      · exact z
      · rw [List.getElem?_eq_none (by omega)] at h0; cases h0
    have tk : sel p 0 (xs.take (i + 1)) = sel p 0 (xs.take i) ++ (if p i then [xs[i]] else []) := by
      rw [List.take_add_one, List.getElem?_eq_getElem hlt]
      show sel p 0 (xs.take i ++ [xs[i]]) = _
      rw [sel_snoc, List.length_take, Nat.zero_add, Nat.min_eq_left (Nat.le_of_lt hlt)]
    refine ht i xs[i] (List.getElem?_eq_getElem hlt) _ _ l sm fun H3 s3 => ?_
    cases hp : p i with
    | true =>
      rw [if_pos rfl]
      refine ⟨xs[i], by rw [List.set_set, List.getElem?_set_self hj], s3 _ _ hL, ?_, xs.length - (i + 1), by omega, hlt, rfl, ⟨some xs[i], by rw [List.set_set]⟩, ?_, upd_same, ?_⟩
      · have := sel_len p 0 (xs.take i)
        rw [List.length_take] at this
        omega
      · intro b o e
        rw [upd_ne (ne_of_none e hD)]
        exact s3 _ _ (sm _ _ e)
      · rw [tk, hp]; rfl
    | false =>
      rw [if_neg (by simp)]
      refine ⟨s3 _ _ hL, xs.length - (i + 1), by omega, hlt, rfl, ⟨some xs[i], by rw [List.set_set]⟩, sm.trans s3, s3 _ _ hL, ?_⟩
      rw [tk, hp]
      simp
  · left
    have e : i = xs.length := by omega
    subst e
    refine ⟨stop _ sm, ?_⟩
    rw [List.take_length] at hL
    exact q D _ sm hL
end
end L2
set_option Elab.async false
set_option linter.all false
set_option maxRecDepth 100000
namespace L2
open PySem PySem.Spec PyProof.Rows
theorem ps_setC {X : Cx} {i0 : Nat} {x0 : Str} {pos' spos : Pos} {elt target iter : Expr} {ifs : List Expr} {scope : Scope} {pos : Pos} {N : List Str} {wi : TI} {g : TG} {tt : TT} {te : TE}
    (hN : X.N.Nodup) (hi0 : X.N[i0]? = some x0) (hx0 : Loc X.env.scope x0) (C : CompOk scope N) (hfr : ∀ y, (y, NameKind.free) ∈ scope.names → X.env.kindOf y = some .cell ∨ X.env.kindOf y = some .free) (hc : X.calm = true)
    (hi : PI X target iter wi)
    (hb : ∀ cl s H fp, PG (cxC X N scope cl s H fp) target g ∧ PIfs (cxC X N scope cl s H fp) ifs tt ∧ PE (cxC X N scope cl s H fp) elt te)
    (hs : ∀ x, foldedSetIterable iter X.env x = pure x := by intro _; rfl) (hsw : swapsWith (.ListComp elt [⟨target, iter, ifs, 0⟩] scope pos) (some (.Name x0 pos')) spos.line X.env = pure true := by rfl)
    (hf : X.fn x0 = true ∨ X.env.scope.names.lookup x0 = some .local := by first | exact .inl rfl | exact .inr rfl | assumption) :
    PS X (.Assign [.Name x0 pos'] (.ListComp elt [⟨target, iter, ifs, 0⟩] scope pos) spos) (tAsg (tComp X scope N wi g tt te) (gName i0)) := by
  intro pins s σ H Dn I hq
  obtain ⟨σ0, cap, hq⟩ := hq
  obtain ⟨cl, hcl, p1, p2⟩ := closure_of (scope := scope) (env := X.env) (fun y hy hk => by
    obtain ⟨n, k⟩ := y
    cases hk
    exact I.ok.has n (hfr n hy))
  rw [exec_Assign_Name_used _ _ _ _ hsw]
  refine wpAny_bind (wpAny_standAt (wpAny_bind ?_))
  show wpAny _ X.A (do let _ ← comprehension (.ListComp elt [⟨target, iter, ifs, 0⟩] scope pos) scope X.env _ (newList []) false (eval iter X.env) (some (assign (.Name x0 pos') X.env))) _ _ s
  refine wpAny_bind (wpAny_mono (wpAny_comprehension_free (use := some (assign (.Name x0 pos') X.env)) (Q := fun _ s' => SP X pins Dn .next s') rfl hs hcl C.kind C.names (thn (hi pins s σ H _ I hq) fun xv s1 h1 => thn h1 fun itv s2 h2 => ?_))
    (fun _ s' hq => wpAny_pure (wpAny_pure hq)) fun _ _ e => e)
  obtain ⟨it, fp, tn, J, H2, rfl, I2, T, st2, f2, q2⟩ := h2
  refine wpAny_newObj_type (wpAny_newFunctionEnv C.cell (by intro y hy; simp at hy) (fun h₁ hns₁ hsb₁ => ?_) C.kind)
  dsimp only at hns₁ hsb₁ ⊢
  have hD : H2 s2.heap.objs.size = none := I2.hok.fresh (Nat.le_refl _)
  have I3 : Inv X pins σ (upd H2 s2.heap.objs.size (.lst [])) { s2 with heap := s2.heap.push { cls := .type "list", dict := none, data := .seq ([] : List Value).toArray } } :=
    I2.laid (t' := s2.toks) (fun b u e => Heap.get?_push_of_some _ e) (Nat.le_refl _) ⟨Nat.zero_le _, [], 0, .nil, Heap.get?_push_size _ rfl⟩
  generalize hs3 : ({ s2 with heap := s2.heap.push { cls := .type "list", dict := none, data := .seq ([] : List Value).toArray } } : Shared) = s3 at I3
  have hh3 : s2.heap.push { cls := .type "list", dict := none, data := .seq ([] : List Value).toArray } = s3.heap := by rw [← hs3]
  rw [hh3] at hns₁ hsb₁
  have fl2 : ∀ b ∈ fp, b < s2.heap.objs.size := fun b hb => by
    obtain ⟨o, e, _⟩ := T.obj _ _ st2 b hb
    exact Heap.lt_size e
  have fl3 : ∀ b ∈ fp, b < s3.heap.objs.size := fun b hb => by
    rw [← hh3, Heap.size_push]
    exact Nat.lt_succ_of_lt (fl2 b hb)
  have f3 : ∀ b ∈ fp, FpOk X pins (upd H2 s2.heap.objs.size (.lst [])) b := fun b hb => by
    obtain ⟨f0, fr⟩ := f2 b hb
    exact ⟨by rw [upd_ne (Nat.ne_of_lt (fl2 b hb))]; exact f0, fr⟩
  have keep3 : ∀ b o, s3.heap.get? b = some o → h₁.get? b = some o := fun b o e => hsb₁.extBut b o (Nat.ne_of_lt (Heap.lt_size e)) (Heap.get?_push_of_some _ e)
  have I4 := inv_comp (tk := s3.toks) I3 C hfr p1 p2 cap f3 fl3 hns₁ keep3
  have st4 : tn 0 h₁ := T.keep _ _ _ st2 fun b hb o e => keep3 b o (by rw [← hh3]; exact Heap.get?_push_of_some _ e)
  obtain ⟨W, ⟨m0, w0⟩, turn⟩ := q2 s2.heap.objs.size hD
  have fpc : ∀ {H' : Hp}, (∀ b ∈ fp, H' b = none) → ∀ b ∈ fp, FpOk (cxC X N scope cl s3 (upd H2 s2.heap.objs.size (.lst [])) fp) [] H' b := fun {H'} hn b hb => by
    obtain ⟨e1, e2⟩ := I4.ok.exf b hb
    exact ⟨hn b hb, e1, I4.ok.exfs b hb, .inl hb, e2, fun p hp => absurd (show p ∈ ([] : List (Addr × Obj)) from hp) (by simp)⟩
  have loop : ∀ s4 : Shared, s4 = { s3 with heap := h₁, toks := s3.toks } →
      codeAny (model X.prog X.w) X.A (.compLoop (.ListComp elt [⟨target, iter, ifs, 0⟩] scope pos) 0 (.ref it) (.ref s2.heap.objs.size) (compEnvC scope cl s3.heap.objs.size X.env))
        (compPost (model X.prog X.w) X.A X.xe (some (assign (.Name x0 pos') X.env)) (fun _ s' => SP X pins Dn .next s') (.ref s2.heap.objs.size) s3.heap.objs.size) s4 := by
    rintro s4 rfl
    refine comp_loop (fun n s' => ∃ i σ' H' ys, Inv (cxC X N scope cl s3 (upd H2 s2.heap.objs.size (.lst [])) fp) [] σ' H' s' ∧ tn i s'.heap ∧ (∀ b ∈ fp, H' b = none) ∧ W i n σ' H' ys) ?_ m0 ⟨0, σ0, _, [], I4, st4, fun b hb => (f3 b hb).1, w0⟩
    rintro n s5 ⟨i, σ5, H5, ys, I5, st5, fr5, w5⟩
    obtain ⟨hacc, w5⟩ := turn i n σ5 H5 ys w5
    have noE : ∀ {α : Type} {t : Sem α} {Q' : α → Shared → Prop} {E' : Value → Shared → Prop} {s' : Shared}, wpAny (model X.prog X.w) X.A t Q' (fun _ _ => False) s' → wpAny (model X.prog X.w) X.A t Q' E' s' := fun h => wpAny_mono h (fun _ _ q => q) fun _ _ z => z.elim
    rcases w5 with ⟨stop, qn⟩ | ⟨go, step⟩
    · refine noE (thn (T.done (cxC X N scope cl s3 (upd H2 s2.heap.objs.size (.lst [])) fp) rfl rfl rfl hc i [] s5 σ5 H5 _ I5 (fpc fr5) st5 stop) fun r s6 ⟨hr, I6⟩ => ?_)
      subst hr
      obtain ⟨m6, hn6, _⟩ := I6.loc
      have kp : ∀ b o, b ≠ s3.heap.objs.size → s6.heap.get? b = some o → s6.heap.get? b = some o := fun b o hb e => e
      have ne3 : ∀ b o, s3.heap.get? b = some o → b ≠ s3.heap.objs.size := fun b o e => Nat.ne_of_lt (Heap.lt_size e)
      have un : Un (frs X.stack) fp (upd H2 s2.heap.objs.size (.lst [])) H5 s3.heap s6.heap := by
        have u := I6.base
        exact ⟨fun b o e n hb hx => kp b o (ne3 b o e) (u.keep b o e n hb hx), fun b o e n hb hx => by
          obtain ⟨sl, e1⟩ := u.slot b o e n hb hx
          exact ⟨sl, kp b _ (ne3 b o e) e1⟩, u.free, fun b o e hx => by
          obtain ⟨o', e1⟩ := u.there b o e hx
          exact ⟨o', kp b _ (ne3 b o e) e1⟩, u.tups, u.frzs, u.tbls⟩
      have hok : HOk X.prog X.w H5 s6.heap := fun b u e => by
        refine (I6.hok b u e).stay (fun c v hc' q => kp c v ?_ q) (fun _ q => q) fun _ _ q => q
        have hfree : H5 s3.heap.objs.size = none := I6.free
        rintro rfl
        rcases hc' with z | z
        · rw [z] at hfree; rw [hfree] at e; cases e
        · rw [hfree] at z; cases z
      have I7 : Inv X pins σ H5 s6 := by
        refine I3.call' (s' := s6) I6.os un hok I6.bare fun b hb => ?_
        obtain ⟨f0, f1, f2', f3', f4, f5⟩ := f3 b hb
        exact ⟨f3', f1, f4, f5⟩
      have hfree : H5 s3.heap.objs.size = none := I6.free
      obtain ⟨g0, g1, g2, g3, g4, g5⟩ := I3.fpOk (Nat.le_refl _) hfree
      show wpAny (model X.prog X.w) X.A (assign (.Name x0 pos') X.env (.ref s2.heap.objs.size)) _ _ s6
      refine wpAny_assign_Name (store_ok2 I7 hN hi0 hx0 (v := .ref s2.heap.objs.size) rfl (fun s8 I8 ⟨a, sb, ha⟩ => ?_) hf)
      have nea : s3.heap.objs.size ≠ a := by
        rcases ha with z | z
        · rw [z]; exact g1
        · exact fun e => g4 x0 a z e.symm
      refine ⟨m6, hn6.sameBut sb nea, fun h' sb' => ?_⟩
      exact ⟨_, H5, Inv.turned I8 (t' := s8.toks) (it := s3.heap.objs.size) (fun b o hb e => sb'.extBut b o hb e) g0 g1 g3 g4 g5, qn⟩
    · refine noE (thn (T.item (cxC X N scope cl s3 (upd H2 s2.heap.objs.size (.lst [])) fp) rfl rfl rfl hc i [] s5 σ5 H5 (fun _ _ => False) I5 (fpc fr5) st5 go) fun r s6 ⟨u, hr, h6⟩ => ?_)
      subst hr
      refine noE (thn h6 fun _ s7 ⟨x, H7, I7, r7, y7, st7, fr7⟩ => ?_)
      obtain ⟨hg, ht, he⟩ := hb cl s3 (upd H2 s2.heap.objs.size (.lst [])) fp
      have I7' := I7.pinned (fpc fr7) (T.obj _ _ st7)
      have back : ∀ {σ8 : St} {H8 : Hp} {s8 : Shared}, Inv (cxC X N scope cl s3 (upd H2 s2.heap.objs.size (.lst [])) fp) ([] ++ pinsAt fp s7.heap) σ8 H8 s8 → tn (i + 1) s8.heap ∧ ∀ b ∈ fp, H8 b = none := fun {σ8 H8 s8} I8 =>
        ⟨T.keep _ _ _ st7 fun b hb o e => (I8.pin (b, o) (List.mem_append_right _ (List.mem_append_right _ (mem_pinsAt hb e)))).1, fun b hb => by
          obtain ⟨o, e, d⟩ := T.obj _ _ st7 b hb
          exact (I8.pin (b, o) (List.mem_append_right _ (List.mem_append_right _ (mem_pinsAt hb e)))).2.1⟩
      refine noE (thn (hg _ s7 σ5 H7 x u _ I7' r7 (step x H7 y7)) fun _ s8 ⟨σ8, H8, I8, q8⟩ => ?_)
      refine noE (thn (ht _ s8 σ8 H8 _ I8 q8) fun b s9 ⟨H9, I9, q9⟩ => ?_)
      cases b with
      | false =>
        rw [if_neg Bool.false_ne_true] at q9 ⊢
        obtain ⟨_, m', hm, w9⟩ := q9
        exact ⟨m', hm, i + 1, σ8, H9, ys, I9.unpinned, (back I9).1, (back I9).2, w9⟩
      | true =>
        rw [if_pos rfl] at q9 ⊢
        refine noE (thn (he _ s9 σ8 H9 _ I9 q9) fun yv s10 ⟨y, H10, I10, r10, hacc10, hlen, m', hm, w10⟩ => ?_)
        refine noE (thn (mt_append _ s10 σ8 H10 (.ref s2.heap.objs.size) [y] (.ref s2.heap.objs.size) [yv] (fun _ H11 => H11 = upd H10 s2.heap.objs.size (.lst (ys ++ [y]))) I10 rfl (.cons r10 .nil) ⟨_, _, _, rfl, rfl, hacc10, hlen, rfl⟩) fun _ s11 ⟨z, H11, I11, _, e11⟩ => ?_)
        subst e11
        exact ⟨m', hm, i + 1, σ8, _, ys ++ [y], I11.unpinned, (back I11).1, (back I11).2, w10⟩
  have fin := codeAny_compStart_list (loop { s3 with heap := h₁, toks := s3.toks } rfl) (T.self _ _ _ _ _ st4 (loop { s3 with heap := h₁, toks := s3.toks } rfl))
  subst hs3
  exact fin
theorem vs_setC {X : Cx} {i0 : Nat} {x0 : Str} {pos' spos : Pos} {elt target iter : Expr} {ifs : List Expr} {scope : Scope} {pos : Pos} {N : List Str} {wi : TI} {g : TG} {tt : TT} {te : TE}
    (hN : X.N.Nodup) (hi0 : X.N[i0]? = some x0) (hx0 : Loc X.env.scope x0) (C : CompOk scope N) (hfr : ∀ y, (y, NameKind.free) ∈ scope.names → X.env.kindOf y = some .cell ∨ X.env.kindOf y = some .free) (hc : X.calm = true)
    (hi : VI X target iter wi)
    (hb : ∀ cl s H fp, VG (cxC X N scope cl s H fp) target g ∧ VF (cxC X N scope cl s H fp) ifs tt ∧ VE (cxC X N scope cl s H fp) elt te)
    (hs : ∀ x, foldedSetIterable iter X.env x = pure x := by intro _; rfl) (hsw : swapsWith (.ListComp elt [⟨target, iter, ifs, 0⟩] scope pos) (some (.Name x0 pos')) spos.line X.env = pure true := by rfl)
    (hf : X.fn x0 = true ∨ X.env.scope.names.lookup x0 = some .local := by first | exact .inl rfl | exact .inr rfl | assumption) :
    VS X (.Assign [.Name x0 pos'] (.ListComp elt [⟨target, iter, ifs, 0⟩] scope pos) spos) (tAsg (tComp X scope N wi g tt te) (gName i0)) :=
  ⟨ps_setC hN hi0 hx0 C hfr hc hi.1 (fun cl s H fp => ⟨(hb cl s H fp).1.1, (hb cl s H fp).2.1.1, (hb cl s H fp).2.2.1⟩) hs hsw hf⟩
end L2
set_option Elab.async false
set_option linter.all false
set_option maxRecDepth 100000
namespace L2
open PySem PySem.Spec PyProof.Rows
section
variable {te : TE} {H : Hp} {Q : VK}
theorem comp_coreI (xs : List V) (Rel : Nat → Hp → V → Prop) (st : ∀ {i H1 H2 y}, Same H1 H2 → Rel i H1 y → Rel i H2 y) (su : ∀ {i H1 D ys zs y}, H1 D = some (.lst ys) → Rel i H1 y → Rel i (upd H1 D (.lst zs)) y)
    (σ0 : St) (hsz : xs.length ≤ sizeLine)
    (J : It) (go : ∀ H' i x, Same H H' → xs[i]? = some x → J.go i H' ∧ ∀ y H2, J.yld i H' y H2 → H2 = H' ∧ y = x) (stop : ∀ H', Same H H' → J.stop xs.length H')
    (he : ∀ (i : Nat) (x : V), xs[i]? = some x → ∀ H' R l, Same H H' → (∀ y H2, Same H' H2 → Rel i H2 y → R y H2) → te ((σ0.set 0 l).set 0 (some x)) H' R) (h0 : σ0[0]? = some none)
    (q : ∀ D H' ys, Same H H' → H' D = some (.lst ys) → ys.length = xs.length → (∀ (i : Nat) (y : V), ys[i]? = some y → Rel i H' y) → Q (.ref D) H') :
    ∀ D, H D = none → ∃ W : Nat → Nat → St → Hp → List V → Prop, (∃ m, W 0 m σ0 (upd H D (.lst [])) []) ∧
      ∀ i m σ' H' ys, W i m σ' H' ys → H' D = some (.lst ys) ∧ ((J.stop i H' ∧ Q (.ref D) H') ∨ (J.go i H' ∧ ∀ x H2, J.yld i H' x H2 → gName 0 x σ' H2 fun σ3 H3 => tYes σ3 H3 fun b H4 =>
        if b = true then te σ3 H4 fun y H5 => H5 D = some (.lst ys) ∧ ys.length < sizeLine ∧ ∃ m', m' < m ∧ W (i + 1) m' σ3 (upd H5 D (.lst (ys ++ [y]))) (ys ++ [y]) else H4 D = some (.lst ys) ∧ ∃ m', m' < m ∧ W (i + 1) m' σ3 H4 ys)) := by
  intro D hD
  refine ⟨fun i m σ' H' ys => i ≤ xs.length ∧ m = xs.length - i ∧ (∃ l, σ' = σ0.set 0 l) ∧ Same H H' ∧ H' D = some (.lst ys) ∧ ys.length = i ∧ ∀ (j : Nat) (y : V), ys[j]? = some y → Rel j H' y, ⟨xs.length, Nat.zero_le _, rfl, ⟨none, set_self0 h0⟩, same_new hD _, upd_same, rfl, fun j y e => by simp at e⟩, ?_⟩
  rintro i m σ' H' ys ⟨hi, rfl, ⟨l, rfl⟩, sm, hL, hl, hR⟩
  refine ⟨hL, ?_⟩
  by_cases hlt : i < xs.length
  · right
    obtain ⟨g1, g2⟩ := go H' i xs[i] sm (List.getElem?_eq_getElem hlt)
    refine ⟨g1, fun x H2 hy => ?_⟩
    obtain ⟨rfl, rfl⟩ := g2 x H2 hy
    unfold gName tYes
    dsimp only
    rw [if_pos rfl]
    refine he i xs[i] (List.getElem?_eq_getElem hlt) _ _ l sm fun y H3 s3 r3 => ⟨s3 _ _ hL, by omega, xs.length - (i + 1), by omega, hlt, rfl, ⟨some xs[i], ?_⟩, ?_, upd_same, ?_, ?_⟩
    · rw [List.set_set]
    · intro b o e
      rw [upd_ne (ne_of_none e hD)]
      exact s3 _ _ (sm _ _ e)
    · rw [List.length_append, List.length_singleton, hl]
    · intro j z ez
      refine su (s3 _ _ hL) ?_
      by_cases hj : j < ys.length
      · rw [List.getElem?_append_left hj] at ez
        exact st s3 (hR j z ez)
      · rw [List.getElem?_append_right (by omega)] at ez
        have hj0 : j - ys.length = 0 := by
          by_cases z0 : j - ys.length = 0
          · exact z0
          · rw [List.getElem?_eq_none (by simp; omega)] at ez; cases ez
        have hj1 : j = i := by omega
        subst hj1
        rw [hj0] at ez
        cases ez
        exact r3
  · left
    have e : i = xs.length := by omega
    subst e
    exact ⟨stop _ sm, q D _ ys sm hL hl hR⟩
end
section
variable {K : PySem.W.Frag}
theorem itl_go {a : Addr} {xs : List V} {H : Hp} (hS : ∀ H', Same H H' → SqL K H' a xs) : ∀ H' i x, Same H H' → xs[i]? = some x → (Itl K a).go i H' ∧ ∀ y H2, (Itl K a).yld i H' y H2 → H2 = H' ∧ y = x := fun H' i x s e =>
  ⟨⟨xs, x, hS H' s, e⟩, fun y H2 hy => by
    obtain ⟨e1, e2⟩ := hy
    have e3 := e2 xs (hS H' s)
    rw [e] at e3
    cases e3
    exact ⟨e1, rfl⟩⟩
theorem itl_stop {a : Addr} {xs : List V} {H : Hp} (hS : ∀ H', Same H H' → SqL K H' a xs) : ∀ H', Same H H' → (Itl K a).stop xs.length H' := fun H' s => ⟨xs, hS H' s, Nat.le_refl _⟩
end
section
variable {X : Cx} {K : PySem.W.Frag} {scope : Scope} {N : List Str} {tl te : TE} {σ : L2.St} {H : Hp} {Q : VK}
theorem comp_anyL (Pr : List V → Prop) (Rel : Nat → Hp → V → Prop) (st : ∀ {i H1 H2 y}, Same H1 H2 → Rel i H1 y → Rel i H2 y) (su : ∀ {i H1 D ys zs y}, H1 D = some (.lst ys) → Rel i H1 y → Rel i (upd H1 D (.lst zs)) y)
    (σ0 : L2.St) (cap : Cap X scope N σ σ0) (h0 : σ0[0]? = some none)
    (hw : ∀ R : VK, (∀ D H1 us, Same H H1 → H1 D = some (.lst us) → Pr us → R (.ref D) H1) → tl σ H R)
    (hsz : ∀ us, Pr us → us.length ≤ sizeLine)
    (he : ∀ us, Pr us → ∀ (i : Nat) (x : V), us[i]? = some x → ∀ H' R l, Same H H' → (∀ y H2, Same H' H2 → Rel i H2 y → R y H2) → te ((σ0.set 0 l).set 0 (some x)) H' R)
    (q : ∀ us, Pr us → ∀ D H' ys, Same H H' → H' D = some (.lst ys) → ys.length = us.length → (∀ (i : Nat) (y : V), ys[i]? = some y → Rel i H' y) → Q (.ref D) H') :
    tComp X scope N (iList K tl) (gName 0) tYes te σ H Q :=
  ⟨σ0, cap, hw _ fun D H1 us s1 g1 p => ⟨D, rfl, ⟨us, SqL.of g1⟩, comp_coreI us Rel st su σ0 (hsz us p) (Itl K D) (itl_go fun H' sm => SqL.of (sm _ _ g1)) (itl_stop fun H' sm => SqL.of (sm _ _ g1))
    (fun i x ex H' R l sm r => he us p i x ex H' R l (s1.trans sm) r) h0 fun D2 H' ys sm => q us p D2 H' ys (s1.trans sm)⟩⟩
end
theorem SqT.updL {K : PySem.W.Frag} {H : Hp} {a D : Addr} {xs ys zs : List V} (hD : H D = some (.lst ys)) (h : SqT K H a xs) : SqT K (upd H D (.lst zs)) a xs := by
  rcases h with (h | ⟨o, h⟩) | h
  · exact .inl (.inl (by rw [upd_ne (ne_of h hD (by intro z; cases z))]; exact h))
  · exact .inl (.inr ⟨o, by rw [upd_ne (ne_of h hD (by intro z; cases z))]; exact h⟩)
  · exact .inr h
end L2
set_option Elab.async false
set_option linter.all false
set_option maxRecDepth 100000
namespace L2
open PySem PySem.Spec PyProof.Rows
theorem vg_sub {X : Cx} {pos : Pos} {o i : Expr} {to ti : TE} {t : TSet} (ho : VE X o to) (hi : VE X i ti) (hs : PSet X t)
    (ha : ∀ v, assign (.Subscript o i pos) X.env v = (do
      let ov ← holding [v] (eval o X.env)
      let iv ← holding [v, ov] (eval i X.env)
      standAt pos
      holding [v, ov, iv] (setItem ov iv v)
      release [v, ov, iv] []) := by intro _; rfl) : VG X (.Subscript o i pos) (gSub to ti t) := ⟨pg_sub ho.1 hi.1 hs ha⟩
abbrev M61 : Int := 2305843009213693951
def StAt (H : Hp) (a : Addr) : Prop := ∃ s : Int, H a = some (.lst [.int s]) ∧ 0 ≤ s ∧ s < M61
structure Fx (a : Addr) (H H' : Hp) : Prop where
  same : ∀ b o, b ≠ a → H b = some o → H' b = some o
  st : StAt H' a
theorem Fx.trans {a : Addr} {H H1 H2 : Hp} (f : Fx a H H1) (g : Fx a H1 H2) : Fx a H H2 := ⟨fun b o n e => g.same b o n (f.same b o n e), g.st⟩
theorem StAt.same {a : Addr} {H H' : Hp} (h : StAt H a) (e : Same H H') : StAt H' a := by
  obtain ⟨s, h1, h2⟩ := h
  exact ⟨s, e _ _ h1, h2⟩
theorem Fx.of {a : Addr} {H H' : Hp} (h : StAt H a) (e : Same H H') : Fx a H H' := ⟨fun b o _ q => e b o q, h.same e⟩
theorem Fx.refl {a : Addr} {H : Hp} (h : StAt H a) : Fx a H H := .of h (Same.refl H)
theorem Fx.sm {a : Addr} {H H1 H2 : Hp} (f : Fx a H H1) (e : Same H1 H2) : Fx a H H2 := f.trans (.of f.st e)
theorem StAt.ne {a p : Addr} {H : Hp} (h : StAt H a) (f : H p = none) : p ≠ a := by
  obtain ⟨s, h1, _⟩ := h
  exact (ne_of_none h1 f).symm
theorem Fx.seqT {K : PySem.W.Frag} {a p : Addr} {H H' : Hp} {xs : List V} (f : Fx a H H') (h : StAt H a) (e : SqT K H p xs) : SqT K H' p xs := by
  obtain ⟨s, h1, _⟩ := h
  rcases e with (e | ⟨o, e⟩) | e
  · exact .inl (.inl (f.same p _ (ne_of e h1 (by intro z; cases z)) e))
  · exact .inl (.inr ⟨o, f.same p _ (ne_of e h1 (by intro z; cases z)) e⟩)
  · exact .inr e
theorem Fx.upd {a D : Addr} {H H' : Hp} {o : HO} (f : Fx a H H') (hD : H D = none) (ne : D ≠ a) : Fx a H (L2.upd H' D o) := ⟨fun b u n e => by rw [upd_ne (ne_of_none e hD)]; exact f.same b u n e, by
  obtain ⟨s, h1, h2⟩ := f.st
  exact ⟨s, by rw [upd_ne ne.symm]; exact h1, h2⟩⟩
theorem Fx.free {a p : Addr} {H H' : Hp} (f : Fx a H H') (h : H' p = none) : H p = none := by
  cases e : H p with
  | none => rfl
  | some o =>
    by_cases z : p = a
    · subst z
      obtain ⟨s, hs, _⟩ := f.st
      rw [hs] at h; cases h
    · rw [f.same p o z e] at h; cases h
theorem mt_reverseR {X : Cx} : MtR X "list.reverse" rReverse := mt_reverse
end L2
set_option Elab.async false
set_option linter.all false
set_option maxRecDepth 100000
namespace L2
open PySem PySem.Spec PyProof.Rows
section
variable {X : Cx}
def rAny (K : PySem.W.Frag) : List V → Hp → VK → Prop := fun xs H Q => ∃ (p : Addr) (bs : List Bool), xs = [.ref p] ∧ SqL K H p (bs.map V.bl) ∧ Q (.bl (bs.any id)) H
theorem any_range (bs : List Bool) : (List.range bs.length).any (fun i => bs.getD i false) = bs.any id := by
  rw [Bool.eq_iff_iff, List.any_eq_true, List.any_eq_true]
  constructor
  · rintro ⟨i, hi, h⟩
    have hi := List.mem_range.mp hi
    rw [List.getD_eq_getElem?_getD, List.getElem?_eq_getElem hi] at h
    exact ⟨_, List.getElem_mem hi, h⟩
  · rintro ⟨b, hb, h⟩
    obtain ⟨i, hi, e⟩ := List.mem_iff_getElem.mp hb
    refine ⟨i, List.mem_range.mpr hi, ?_⟩
    rw [List.getD_eq_getElem?_getD, List.getElem?_eq_getElem hi]
    show bs[i] = true
    rw [e]
    exact h
theorem call_any (hc : X.calm = true) : CallR X (.builtin "any") (rAny X.K) := by
  intro pins s σ H xs us Q I r h
  obtain ⟨p, bs, rfl, hq, q⟩ := h
  obtain ⟨u, rfl, rx⟩ := r.one
  cases rx
  obtain ⟨its, rv, pl, hz⟩ := I.list hq
  have hl := rv.length
  rw [List.length_map] at hl
  have hne : p ≠ s.heap.objs.size := by
    obtain ⟨o, ho, _⟩ := pl.isList
    exact Nat.ne_of_lt (Heap.lt_size ho)
  refine call_any_walk (wpAny_pyIter_list pl.isList ?_)
  refine ⟨s.heap.objs.size, _, _, _, _, _, fun i => bs.getD i false, rfl, Walks.list (show X.A.in1.handled = none from I.ok.hd hc) _ p hne its.toArray, ⟨⟨_, Heap.get?_push_size _ rfl, rfl, rfl⟩, ?_⟩, ?_, fun h' tk kp => ?_⟩
  · exact pl.isList.at fun o e => Heap.get?_push_of_some _ e
  · intro i v s' Q' E' hv hq'
    have hv' : its[i]? = some v := by simpa using hv
    have hi : i < bs.length := by rw [hl]; exact (List.getElem?_eq_some_iff.mp hv').1
    obtain ⟨u, hu, ru⟩ := rv.get (i := i) (x := .bl bs[i]) (by rw [List.getElem?_map, List.getElem?_eq_getElem hi]; rfl)
    rw [hv'] at hu
    cases hu
    cases ru
    have e : bs.getD i false = bs[i] := by rw [List.getD_eq_getElem?_getD, List.getElem?_eq_getElem hi]; rfl
    replace hq' : Q' (bs.getD i false) s' := hq'
    rw [e] at hq'
    exact wpAny_truthy_bool hq'
  · have e : (List.range its.toArray.size).any (fun i => bs.getD i false) = bs.any id := by
      rw [List.size_toArray, ← hl]; exact any_range bs
    rw [e]
    refine ⟨.bl (bs.any id), H, ?_, rfl, q⟩
    exact I.kept fun b o eo => kp b o (by
      intro z
      have : b = s.heap.objs.size := by simpa using z
      rw [this] at eo
      exact absurd (Heap.lt_size eo) (Nat.lt_irrefl _)) (Heap.get?_push_of_some _ eo)
def rListS : List V → Hp → VK → Prop := fun xs H Q => ∃ z : Str, xs = [.str z] ∧ z.length ≤ 1000 ∧ ∀ l H', H l = none → Same H H' → H' l = some (.lst ((List.range z.cps.size).map fun i => V.str (sgn z i))) → Q (.ref l) H'
theorem vals_signs (z : Str) : ∀ (n k : Nat) (vs : List Value), vs.length = n → (∀ (j : Nat) (v : Value), vs[j]? = some v → ∃ t, v = .str (sgn z (k + j)) t) → Vals ((List.range' k n).map fun i => V.str (sgn z i)) vs
  | 0, k, [], _, _ => .nil
  | n + 1, k, v :: vs, hl, h => by
    obtain ⟨t, rfl⟩ := h 0 v rfl
    rw [List.range'_succ, List.map_cons]
    refine .cons ⟨t, rfl⟩ (vals_signs z n (k + 1) vs (by simpa using hl) fun j u e => ?_)
    obtain ⟨t', e'⟩ := h (j + 1) u e
    exact ⟨t', by rw [e', show k + (j + 1) = k + 1 + j by omega]⟩
theorem call_listS (hc : X.calm = true) : CallR X (.type "list") rListS := by
  intro pins s σ H xs us Q I r h
  obtain ⟨z, rfl, hl, q⟩ := h
  obtain ⟨u, rfl, t, rfl⟩ := vals1 r
  refine call_list_str (I.ok.hd hc) z t (fun h' tk acc' c' kp hS hacc => ?_) (small hl)
  have hv := vals_signs z z.cps.size 0 acc'.toList (by rw [Array.length_toList]; exact hacc.1) fun j v e => by
    have hj := hacc.2 j v (by rw [← Array.getElem?_toList]; exact e)
    obtain ⟨c, t', e1, e2⟩ := hj
    refine ⟨t', ?_⟩
    rw [e2]
    unfold sgn
    rw [Nat.zero_add, Array.getD_eq_getD_getElem?, e1]
    rfl
  rw [← List.range_eq_range'] at hv
  have ea : acc'.toList.toArray = acc' := by simp
  have hf : H s.heap.objs.size = none := I.hok.fresh (Nat.le_refl _)
  refine ⟨.ref s.heap.objs.size, _, I.laid (t' := tk) (o := .lst ((List.range z.cps.size).map fun i => V.str (sgn z i))) kp (Nat.le_refl _) ?_, rfl, q _ _ hf (same_new hf _) upd_same⟩
  refine ⟨by rw [List.length_map, List.length_range]; exact small hl, acc'.toList, c', hv, ?_⟩
  rw [ea]
  exact hS
end
theorem op_in_seqK {X : Cx} {K : PySem.W.Frag} (h : X.K = K := by rfl) : OpR X (compareOp .In) (rIn K false) := by subst h; exact op_in_seq
end L2
set_option Elab.async false
set_option linter.all false
set_option maxRecDepth 100000
namespace L2
open PySem PySem.Spec PyProof.Rows
structure EvOk (E : Hp → Hp → Prop) (H : Hp) : Prop where
  new : ∀ D o, H D = none → E H (upd H D o)
  trans : ∀ {H1 H2}, E H H1 → E H1 H2 → E H H2
  upd : ∀ D o H', H D = none → E H H' → E H (upd H' D o)
  keep : ∀ D H1 H2 xs, H D = none → E H H1 → H1 D = some (.lst xs) → E H1 H2 → H2 D = some (.lst xs)
theorem ev_same (H : Hp) : EvOk Same H := ⟨fun D o h => same_new h o, fun a b => a.trans b, fun D o H' h s => same_upd h s, fun D H1 H2 xs _ _ h s => s _ _ h⟩
theorem ev_fx {a : Addr} {H : Hp} (h : StAt H a) : EvOk (Fx a) H := ⟨fun D o hD => .of h (same_new hD o), fun a b => a.trans b, fun D o H' hD f => f.upd hD (h.ne hD), fun D H1 H2 xs hD _ e f => f.same _ _ (h.ne hD) e⟩
def CBody (J : It) (H1 : Hp) (σ0 : L2.St) (g : TG) (tt : TT) (te : TE) (Q : VK) : Prop := ∀ D, H1 D = none → ∃ W : Nat → Nat → L2.St → Hp → List V → Prop, (∃ m, W 0 m σ0 (L2.upd H1 D (.lst [])) []) ∧
  ∀ i m σ' H' ys, W i m σ' H' ys → H' D = some (.lst ys) ∧ ((J.stop i H' ∧ Q (.ref D) H') ∨ (J.go i H' ∧ ∀ x H2, J.yld i H' x H2 → g x σ' H2 fun σ3 H3 => tt σ3 H3 fun b H4 =>
    if b = true then te σ3 H4 fun y H5 => H5 D = some (.lst ys) ∧ ys.length < sizeLine ∧ ∃ m', m' < m ∧ W (i + 1) m' σ3 (L2.upd H5 D (.lst (ys ++ [y]))) (ys ++ [y]) else H4 D = some (.lst ys) ∧ ∃ m', m' < m ∧ W (i + 1) m' σ3 H4 ys))
section
variable {X : Cx} {K : PySem.W.Frag} {scope : Scope} {N : List Str} {tl te : TE} {tt : TT} {g : TG} {σ : L2.St} {H : Hp} {Q : VK}
theorem comp_ofL (σ0 : L2.St) (cap : Cap X scope N σ σ0) (h : tl σ H fun v H1 => ∃ a, v = .ref a ∧ (∃ xs, SqL K H1 a xs) ∧ CBody (Itl K a) H1 σ0 g tt te Q) : tComp X scope N (iList K tl) g tt te σ H Q := ⟨σ0, cap, h⟩
theorem comp_ofT (σ0 : L2.St) (cap : Cap X scope N σ σ0) (h : tl σ H fun v H1 => ∃ a, v = .ref a ∧ (∃ xs, SqT K H1 a xs) ∧ CBody (Itt K a) H1 σ0 g tt te Q) : tComp X scope N (iTup K tl) g tt te σ H Q := ⟨σ0, cap, h⟩
theorem itt_go {a : Addr} {xs : List V} {E : Hp → Hp → Prop} (hS : ∀ H', E H H' → SqT K H' a xs) : ∀ H' i x, E H H' → xs[i]? = some x → (Itt K a).go i H' ∧ ∀ y H2, (Itt K a).yld i H' y H2 → H2 = H' ∧ y = x := fun H' i x s e =>
  ⟨⟨xs, x, hS H' s, e⟩, fun y H2 hy => by
    obtain ⟨e1, e2⟩ := hy
    have e3 := e2 xs (hS H' s)
    rw [e] at e3
    cases e3
    exact ⟨e1, rfl⟩⟩
theorem itt_stop {a : Addr} {xs : List V} {E : Hp → Hp → Prop} (hS : ∀ H', E H H' → SqT K H' a xs) : ∀ H', E H H' → (Itt K a).stop xs.length H' := fun H' s => ⟨xs, hS H' s, Nat.le_refl _⟩
theorem itlE_go {a : Addr} {xs : List V} {E : Hp → Hp → Prop} (hS : ∀ H', E H H' → SqL K H' a xs) : ∀ H' i x, E H H' → xs[i]? = some x → (Itl K a).go i H' ∧ ∀ y H2, (Itl K a).yld i H' y H2 → H2 = H' ∧ y = x := fun H' i x s e =>
  ⟨⟨xs, x, hS H' s, e⟩, fun y H2 hy => by
    obtain ⟨e1, e2⟩ := hy
    have e3 := e2 xs (hS H' s)
    rw [e] at e3
    cases e3
    exact ⟨e1, rfl⟩⟩
theorem itlE_stop {a : Addr} {xs : List V} {E : Hp → Hp → Prop} (hS : ∀ H', E H H' → SqL K H' a xs) : ∀ H', E H H' → (Itl K a).stop xs.length H' := fun H' s => ⟨xs, hS H' s, Nat.le_refl _⟩
inductive AllI (R : Nat → V → Prop) : List Nat → List V → Prop
  | nil : AllI R [] []
  | cons {i y is ys} : R i y → AllI R is ys → AllI R (i :: is) (y :: ys)
theorem AllI.snoc {R : Nat → V → Prop} {is : List Nat} {ys : List V} {i : Nat} {y : V} (h : AllI R is ys) (r : R i y) : AllI R (is ++ [i]) (ys ++ [y]) := by
  induction h with
  | nil => exact .cons r .nil
  | cons r' _ ih => exact .cons r' ih
theorem AllI.imp {R S : Nat → V → Prop} {is : List Nat} {ys : List V} (h : AllI R is ys) (k : ∀ i y, R i y → S i y) : AllI S is ys := by
  induction h with
  | nil => exact .nil
  | cons r _ ih => exact .cons (k _ _ r) ih
theorem AllI.len {R : Nat → V → Prop} {is : List Nat} {ys : List V} (h : AllI R is ys) : is.length = ys.length := by
  induction h with
  | nil => rfl
  | cons _ _ ih => rw [List.length_cons, List.length_cons, ih]
theorem compG {σ0 : L2.St} (E : Hp → Hp → Prop) (eo : EvOk E H) (xs : List V) (p : Nat → Bool) (Rel : Nat → Hp → V → Prop)
    (st : ∀ {i H1 H2 y}, E H H1 → E H1 H2 → Rel i H1 y → Rel i H2 y) (su : ∀ {i H1 D ys zs y}, H D = none → E H H1 → H1 D = some (.lst ys) → Rel i H1 y → Rel i (L2.upd H1 D (.lst zs)) y)
    (At : Nat → L2.St → Prop) (Ps : L2.St → Prop) (h0 : Ps σ0) (hsz : xs.length ≤ sizeLine)
    (J : It) (go : ∀ H' i x, E H H' → xs[i]? = some x → J.go i H' ∧ ∀ y H2, J.yld i H' y H2 → H2 = H' ∧ y = x) (stop : ∀ H', E H H' → J.stop xs.length H')
    (hg : ∀ (i : Nat) (x : V) σ' H' Q', xs[i]? = some x → Ps σ' → E H H' → (∀ σ2, Ps σ2 → At i σ2 → Q' σ2 H') → g x σ' H' Q')
    (ht : ∀ (i : Nat) (x : V) σ2, xs[i]? = some x → At i σ2 → ∀ H' R, E H H' → (∀ H2, E H' H2 → R (p i) H2) → tt σ2 H' R)
    (he : ∀ (i : Nat) (x : V) σ2, xs[i]? = some x → At i σ2 → p i = true → ∀ H' R, E H H' → (∀ y H2, E H' H2 → Rel i H2 y → R y H2) → te σ2 H' R)
    (q : ∀ D H' ys, E H H' → H D = none → H' D = some (.lst ys) → AllI (fun i y => Rel i H' y) (sel p 0 (List.range xs.length)) ys → Q (.ref D) H') : CBody J H σ0 g tt te Q := by
  intro D hD
  refine ⟨fun i m σ' H' ys => i ≤ xs.length ∧ m = xs.length - i ∧ Ps σ' ∧ E H H' ∧ H' D = some (.lst ys) ∧ AllI (fun i y => Rel i H' y) (sel p 0 (List.range i)) ys, ⟨xs.length, Nat.zero_le _, rfl, h0, eo.new _ _ hD, upd_same, .nil⟩, ?_⟩
  rintro i m σ' H' ys ⟨hi, rfl, hps, sm, hL, hR⟩
  refine ⟨hL, ?_⟩
  by_cases hlt : i < xs.length
  · right
    have hx := List.getElem?_eq_getElem hlt
    obtain ⟨g1, g2⟩ := go H' i xs[i] sm hx
    refine ⟨g1, fun x H2 hy => ?_⟩
    obtain ⟨rfl, rfl⟩ := g2 x H2 hy
    have tk : sel p 0 (List.range (i + 1)) = sel p 0 (List.range i) ++ (if p i then [i] else []) := by
      rw [List.range_succ, sel_snoc, List.length_range, Nat.zero_add]
    have lR := hR.len
    have lS := sel_len p 0 (List.range i)
    rw [List.length_range] at lS
    refine hg i xs[i] σ' _ _ hx hps sm fun σ2 hp2 hat => ?_
    refine ht i xs[i] σ2 hx hat _ _ sm fun H3 s3 => ?_
    have sm3 := eo.trans sm s3
    have hL3 := eo.keep D _ _ _ hD sm hL s3
    cases hp : p i with
    | true =>
      rw [if_pos rfl]
      refine he i xs[i] σ2 hx hat hp _ _ sm3 fun y H4 s4 r4 => ?_
      have sm4 := eo.trans sm3 s4
      have hL4 := eo.keep D _ _ _ hD sm3 hL3 s4
      refine ⟨hL4, by omega, xs.length - (i + 1), by omega, hlt, rfl, hp2, eo.upd D _ _ hD sm4, upd_same, ?_⟩
      rw [tk, hp]
      exact AllI.snoc (hR.imp fun j z r => su hD sm4 hL4 (st sm3 s4 (st sm s3 r))) (su hD sm4 hL4 r4)
    | false =>
      rw [if_neg (by simp)]
      refine ⟨hL3, xs.length - (i + 1), by omega, hlt, rfl, hp2, sm3, hL3, ?_⟩
      rw [tk, hp]
      simp only [Bool.false_eq_true, if_false, List.append_nil]
      exact hR.imp fun j z r => st sm s3 r
  · left
    have e : i = xs.length := by omega
    subst e
    exact ⟨stop _ sm, q D _ ys sm hD hL hR⟩
theorem compN {σ0 : L2.St} (E : Hp → Hp → Prop) (eo : EvOk E H) (xs : List V) (Rel : Nat → Hp → V → Prop)
    (st : ∀ {i H1 H2 y}, E H H1 → E H1 H2 → Rel i H1 y → Rel i H2 y) (su : ∀ {i H1 D ys zs y}, H D = none → E H H1 → H1 D = some (.lst ys) → Rel i H1 y → Rel i (L2.upd H1 D (.lst zs)) y)
    (At : Nat → L2.St → Prop) (Ps : L2.St → Prop) (h0 : Ps σ0) (hsz : xs.length ≤ sizeLine)
    (J : It) (go : ∀ H' i x, E H H' → xs[i]? = some x → J.go i H' ∧ ∀ y H2, J.yld i H' y H2 → H2 = H' ∧ y = x) (stop : ∀ H', E H H' → J.stop xs.length H')
    (hg : ∀ (i : Nat) (x : V) σ' H' Q', xs[i]? = some x → Ps σ' → E H H' → (∀ σ2, Ps σ2 → At i σ2 → Q' σ2 H') → g x σ' H' Q')
    (ht : ∀ (i : Nat) (x : V) σ2, xs[i]? = some x → At i σ2 → ∀ H' R, E H H' → (∀ b H2, E H' H2 → R b H2) → tt σ2 H' R)
    (he : ∀ (i : Nat) (x : V) σ2, xs[i]? = some x → At i σ2 → ∀ H' R, E H H' → (∀ y H2, E H' H2 → Rel i H2 y → R y H2) → te σ2 H' R)
    (q : ∀ D H' ys, E H H' → H D = none → H' D = some (.lst ys) → (∃ is : List Nat, is.Sublist (List.range xs.length) ∧ AllI (fun i y => Rel i H' y) is ys) → Q (.ref D) H') : CBody J H σ0 g tt te Q := by
  intro D hD
  refine ⟨fun i m σ' H' ys => i ≤ xs.length ∧ m = xs.length - i ∧ Ps σ' ∧ E H H' ∧ H' D = some (.lst ys) ∧ ∃ is : List Nat, is.Sublist (List.range i) ∧ AllI (fun i y => Rel i H' y) is ys, ⟨xs.length, Nat.zero_le _, rfl, h0, eo.new _ _ hD, upd_same, [], List.nil_sublist _, .nil⟩, ?_⟩
  rintro i m σ' H' ys ⟨hi, rfl, hps, sm, hL, is, hsub, hR⟩
  refine ⟨hL, ?_⟩
  by_cases hlt : i < xs.length
  · right
    have hx := List.getElem?_eq_getElem hlt
    obtain ⟨g1, g2⟩ := go H' i xs[i] sm hx
    refine ⟨g1, fun x H2 hy => ?_⟩
    obtain ⟨rfl, rfl⟩ := g2 x H2 hy
    have lR := hR.len
    have lS := hsub.length_le
    rw [List.length_range] at lS
    refine hg i xs[i] σ' _ _ hx hps sm fun σ2 hp2 hat => ?_
    refine ht i xs[i] σ2 hx hat _ _ sm fun bb H3 s3 => ?_
    have sm3 := eo.trans sm s3
    have hL3 := eo.keep D _ _ _ hD sm hL s3
    cases bb with
    | true =>
      rw [if_pos rfl]
      refine he i xs[i] σ2 hx hat _ _ sm3 fun y H4 s4 r4 => ?_
      have sm4 := eo.trans sm3 s4
      have hL4 := eo.keep D _ _ _ hD sm3 hL3 s4
      refine ⟨hL4, by omega, xs.length - (i + 1), by omega, hlt, rfl, hp2, eo.upd D _ _ hD sm4, upd_same, is ++ [i], by rw [List.range_succ]; exact hsub.append (List.Sublist.refl _), ?_⟩
      exact AllI.snoc (hR.imp fun j z r => su hD sm4 hL4 (st sm3 s4 (st sm s3 r))) (su hD sm4 hL4 r4)
    | false =>
      rw [if_neg (by simp)]
      refine ⟨hL3, xs.length - (i + 1), by omega, hlt, rfl, hp2, sm3, hL3, is, by rw [List.range_succ]; exact hsub.trans (List.sublist_append_left _ _), ?_⟩
      exact hR.imp fun j z r => st sm s3 r
  · left
    have e : i = xs.length := by omega
    subst e
    exact ⟨stop _ sm, q D _ ys sm hD hL ⟨is, hsub, hR⟩⟩
end
def At1 (σ0 : L2.St) (v : V) (σ : L2.St) : Prop := ∃ l, σ = (σ0.set 0 l).set 0 (some v)
def Ps1 (σ0 : L2.St) (σ : L2.St) : Prop := ∃ l, σ = σ0.set 0 l
def At2 (σ0 : L2.St) (a b : V) (σ : L2.St) : Prop := σ = (σ0.set 0 (some a)).set 1 (some b)
def Ps2 (σ0 : L2.St) (σ : L2.St) : Prop := ∃ l m, σ = (σ0.set 0 l).set 1 m
theorem hg1 {σ0 : L2.St} {i : Nat} {x : V} {σ' : L2.St} {H' : Hp} {Q' : L2.St → Hp → Prop} (h : Ps1 σ0 σ') (q : ∀ σ2, Ps1 σ0 σ2 → At1 σ0 x σ2 → Q' σ2 H') : gName 0 x σ' H' Q' := by
  obtain ⟨l, rfl⟩ := h
  exact q _ ⟨some x, by rw [List.set_set]⟩ ⟨l, rfl⟩
theorem hg2 {K : PySem.W.Frag} {σ0 : L2.St} {p : Addr} {a b : V} {σ' : L2.St} {H' : Hp} {Q' : L2.St → Hp → Prop} (hp : SqT K H' p [a, b]) (h : Ps2 σ0 σ') (q : ∀ σ2, Ps2 σ0 σ2 → At2 σ0 a b σ2 → Q' σ2 H') : gTup K 2 (gCons (gName 0) (gCons (gName 1) gNil)) (.ref p) σ' H' Q' := by
  obtain ⟨l, m, rfl⟩ := h
  have e : (((σ0.set 0 l).set 1 m).set 0 (some a)).set 1 (some b) = (σ0.set 0 (some a)).set 1 (some b) := by
    rw [List.set_comm _ _ (show (1 : Nat) ≠ 0 by decide), List.set_set, List.set_set]
  refine ⟨p, _, rfl, hp, rfl, _, _, rfl, _, _, rfl, rfl, ?_⟩
  show Q' ((((σ0.set 0 l).set 1 m).set 0 (some a)).set 1 (some b)) H'
  rw [e]
  exact q _ ⟨some a, some b, rfl⟩ rfl
end L2
namespace L2
open PySem PySem.Spec PyProof.Rows
theorem cut_toG (xs : List V) (n : Nat) : cutV xs none (some (n : Int)) = xs.take n := by
  unfold cutV
  rw [HT.sIx_none, HT.sIx_nat, List.drop_zero, Nat.sub_zero]
  by_cases h : n ≤ xs.length
  · rw [Nat.min_eq_left h]
  · rw [Nat.min_eq_right (by omega), List.take_length, List.take_of_length_le (by omega)]
theorem cut_fromG (xs : List V) (n : Nat) : cutV xs (some (n : Int)) none = xs.drop n := by
  unfold cutV
  rw [HT.sIx_none, HT.sIx_nat]
  by_cases h : n ≤ xs.length
  · rw [Nat.min_eq_left h]
    exact List.take_of_length_le (by rw [List.length_drop]; omega)
  · rw [Nat.min_eq_right (by omega), List.drop_length, List.drop_of_length_le (by omega), List.take_nil]
def rSlLA (K : PySem.W.Frag) : V → Option Int → Option Int → Hp → VK → Prop := fun x lo hi H Q => ∃ a xs, x = .ref a ∧ SqL K H a xs ∧ ∀ p H', H p = none → Same H H' → H' p = some (.lst (cutV xs lo hi)) → Q (.ref p) H'
theorem sl_listA {X : Cx} : SlR X (rSlLA X.K) := fun pins s σ H x v vl vu lo hi sl Q I rx hs pl pu ⟨a, xs, e, ha, q⟩ =>
  sl_list pins s σ H x v vl vu lo hi sl Q I rx hs pl pu ⟨a, xs, e, ha, fun p hp => q p _ hp (same_new hp _) upd_same⟩
end L2
set_option Elab.async false
set_option linter.all false
set_option maxRecDepth 100000
namespace L2
open PySem PySem.Spec PyProof.Rows
def rNeT (K : PySem.W.Frag) : R2 := fun x y H Q => ∃ (a b : Addr) (xs : List Str), x = .ref a ∧ y = .ref b ∧ SqT K H a (xs.map V.str) ∧ SqT K H b (xs.map V.str) ∧ Q (.bl false) H
theorem op_neT {X : Cx} (hu : X.A.units < cLine) : OpR X (compareOp .NotEq) (rNeT X.K) := by
  intro pins s σ H x y v u Q I rx ry h
  obtain ⟨a, b, xs, rfl, rfl, ha, hb, q⟩ := h
  cases rx
  cases ry
  obtain ⟨its, rv, pl, hz⟩ := I.tuple ha
  obtain ⟨jts, rw', pm, hw⟩ := I.tuple hb
  have e1 := rv.length
  have e2 := rw'.length
  rw [List.length_map] at e1 e2
  refine SeqAt.RcNeAt.tuples (e := fun _ => true) (show s.heap.IsTuple a its.toArray from pl) (show s.heap.IsTuple b jts.toArray from pm) hu (fun j h1 h2 => ?_) _ _ _ _ ?_
  · have hj1 : j < xs.length := by rw [List.size_toArray] at h1; omega
    obtain ⟨u1, hu1, t1, rfl⟩ := rv.get (i := j) (x := .str xs[j]) (by rw [List.getElem?_map, List.getElem?_eq_getElem hj1]; rfl)
    obtain ⟨u2, hu2, t2, rfl⟩ := rw'.get (i := j) (x := .str xs[j]) (by rw [List.getElem?_map, List.getElem?_eq_getElem hj1]; rfl)
    have g1 : its.toArray[j] = Value.str xs[j] t1 := by
      rw [List.getElem_toArray]
      exact (List.getElem?_eq_some_iff.mp hu1).2
    have g2 : jts.toArray[j] = Value.str xs[j] t2 := by
      rw [List.getElem_toArray]
      exact (List.getElem?_eq_some_iff.mp hu2).2
    rw [g1, g2]
    have z := SeqAt.EqAt.str_str (A := X.A.in1) (s := s) xs[j] t1 xs[j] t2
    simpa using z
  · have z : (List.range (min its.toArray.size jts.toArray.size)).all (fun _ => true) = true := by rw [List.all_eq_true]; intro _ _; rfl
    have z2 : (its.toArray.size == jts.toArray.size) = true := by rw [List.size_toArray, List.size_toArray]; simp; omega
    first
      | (rw [z, z2]; exact ⟨.bl _, H, I, rfl, q⟩)
      | (simp only [z, z2, Bool.and_true, Bool.true_and, Bool.not_true, Bool.or_false, Bool.false_or]; exact ⟨.bl _, H, I, rfl, q⟩)
end L2
set_option Elab.async false
set_option linter.all false
set_option maxRecDepth 100000
namespace HT
open PySem PySem.Spec PyProof.Rows L2
section
variable {prog : Program} {w : World} {A : Around} {E : Value → Shared → Prop} {s : Shared}
theorem getItem_tuple_whole {t sl : Addr} {items : Array Value} {vl vu : Value} {lo hi : Option Int} {Q : Value → Shared → Prop} (ht : IsTup s.heap t items) (hs : s.heap.IsSliceOf sl vl vu .none) (pl : IsPart vl lo) (pu : IsPart vu hi)
    (hw : sIx items.size 0 lo = 0 ∧ sIx items.size items.size hi = items.size) (h : Q (.ref t) s) : wpAny (model prog w) A (getItem (.ref t) (.ref sl)) Q E s := by
  obtain ⟨os, hos, hcs, hds⟩ := id hs
  have hTs : s.TypeIs (.ref sl) "slice" := ⟨os, hos, hcs⟩
  obtain ⟨⟨cls, dd, data, slt⟩, ho, hc, n, hd⟩ := id ht
  simp only at hc hd
  subst hc hd
  unfold getItem
  try with_reducible refine wpAny_holding ?_
  first | refine wpAny_bind (wpAny_pure ?_) | skip
  refine wpAny_bind (wpAny_sequenceKey ht.typeIs (by decide) ?_)
  refine wpAny_bind (wpAny_callSpecial?_slot (name := Str.ofString "__getitem__") ht.typeIs PyProof.Rows.slot_tuple_getitem
    (wpAny_call_entry PyProof.Rows.slot_tuple_getitem ht.typeIs entry_tuple_getitem ?_ (args_tuple_getitem _ _)))
  show wpAny _ _ (Builtin.Tuple.tupleItemsOf (.ref t) >>= _) _ _ s
  refine wpAny_bind (tupleItemsOf_ ht ?_)
  refine wpAny_bind (wpAny_typeOf hTs ?_)
  rw [if_pos (by decide)]
  refine wpAny_bind (sliceApplied_gen hs pl pu ?_)
  have hyes : ((((sIx items.size 0 lo : Nat) : Int) == 0 && (1 : Int) == 1 && (sIx items.size items.size hi - sIx items.size 0 lo) == items.size) = true) := by
    rw [hw.1, hw.2]
    simp
  show wpAny _ _ (if (((sIx items.size 0 lo : Nat) : Int) == 0 && (1 : Int) == 1 && (sIx items.size items.size hi - sIx items.size 0 lo) == items.size) = true then _ else _) _ _ s
  rw [if_pos hyes]
  obtain ⟨hp, g, d, tk, os'⟩ := s
  wp_walk using AutoSeq1.wpAny_loadPart' ho
  exact ⟨_, rfl, wpAny_pure h⟩
end
end HT
namespace L2
open PySem PySem.Spec PyProof.Rows
def rSlE (K : PySem.W.Frag) : V → Option Int → Option Int → Hp → VK → Prop := fun x lo hi H Q => ∃ a xs, x = .ref a ∧ SqT K H a xs ∧ ∀ p H', Same H H' → SqT K H' p (cutV xs lo hi) → Q (.ref p) H'
theorem sl_tupE {X : Cx} : SlR X (rSlE X.K) := by
  intro pins s σ H x v vl vu lo hi sl Q I rx hs pl pu h
  obtain ⟨a, xs, rfl, hx, q⟩ := h
  by_cases hw : HT.sIx xs.length 0 lo = 0 ∧ HT.sIx xs.length xs.length hi = xs.length
  · cases rx
    obtain ⟨its, r, ht, hz⟩ := I.tuple hx
    have hlen : its.toArray.size = xs.length := by rw [List.size_toArray]; exact r.length.symm
    refine ⟨"tuple", _, PyProof.Rows.slot_tuple_getitem.lookup, ht.typeIs, ?_⟩
    refine HT.getItem_tuple_whole ht hs pl pu (by rw [hlen]; exact hw) ⟨.ref a, H, I, rfl, q a H (Same.refl H) ?_⟩
    have e : cutV xs lo hi = xs := by
      unfold cutV
      rw [hw.1, hw.2, List.drop_zero, Nat.sub_zero, List.take_length]
    rw [e]
    exact hx
  · exact sl_tupA pins s σ H _ v vl vu lo hi sl Q I rx hs pl pu ⟨a, xs, rfl, hx, hw, fun p H' s' g' => q p H' s' (SqT.of g')⟩
end L2
set_option Elab.async false
set_option linter.all false
set_option maxRecDepth 100000
namespace L2
open PySem PySem.Spec PyProof.Rows
def rEqN (K : PySem.W.Frag) : R2 := fun x y H Q => ∃ (a b : Addr) (xs : List V), x = .ref a ∧ y = .ref b ∧ SqL K H a xs ∧ SqL K H b [] ∧ Q (.bl xs.isEmpty) H
theorem op_eqN {X : Cx} (hu : X.A.units < cLine) : OpR X (compareOp .Eq) (rEqN X.K) := by
  intro pins s σ H x y v u Q I rx ry h
  obtain ⟨a, b, xs, rfl, rfl, ha, hb, q⟩ := h
  cases rx
  cases ry
  obtain ⟨its, rv, pl, hz⟩ := I.list ha
  obtain ⟨jts, rw', pm, hw⟩ := I.list hb
  have e1 := rv.length
  have e2 := rw'.length
  have ej : jts = [] := List.length_eq_zero_iff.mp e2.symm
  subst ej
  cases xs with
  | nil =>
    have ei : its = [] := List.length_eq_zero_iff.mp e1.symm
    subst ei
    refine SeqAt.RcAt.lists (e := fun _ => true) pl.isList pm.isList rfl hu (fun j h1 h2 => by simp at h1) _ _ _ _ ?_
    exact ⟨.bl true, H, I, rfl, q⟩
  | cons y ys =>
    refine SeqAt.RcAt.lists_lengths pl.isList pm.isList ?_ hu _ _ _ _ ?_
    · rw [List.length_cons] at e1
      simp only [List.size_toArray, List.length_nil]
      rw [← e1]
      simp
    · exact ⟨.bl false, H, I, rfl, q⟩
end L2
set_option Elab.async false
set_option linter.all false
set_option maxRecDepth 100000
namespace L2
open PySem PySem.Spec PyProof.Rows
section
variable {X : Cx}
def rDictD : List V → Hp → VK → Prop := fun xs H Q => ∃ d kvs, xs = [.ref d] ∧ H d = some (.dK kvs) ∧ ∀ p H', H p = none → Same H H' → H' p = some (.dK kvs) → Q (.ref p) H'
theorem call_dictD : CallR X (.type "dict") rDictD := by
  intro pins s σ H xs us Q I r h
  obtain ⟨d, kvs, rfl, hd, q⟩ := h
  obtain ⟨u, rfl, ru⟩ := vals1 r
  cases ru
  obtain ⟨z, hm, vs, rel, dd⟩ := dk_of I.hok hd
  have hl : vs.length ≤ sizeLine := by
    have := Paired.length rel
    omega
  refine kt_call_dict hm dd hl fun h' hd' hs' => ?_
  have hf : H s.heap.objs.size = none := I.hok.fresh (Nat.le_refl _)
  refine ⟨.ref s.heap.objs.size, _, I.laid (t' := s.toks) (o := .dK kvs) (fun b o e => hs'.extBut b o (Nat.ne_of_lt (Heap.lt_size e)) (Heap.get?_push_of_some _ e)) (Nat.le_refl _) ?_, rfl, q _ _ hf (same_new hf _) upd_same⟩
  exact ⟨z, beq_eq_false_iff_ne.mpr (Ne.symm (Nat.ne_of_lt I.big)), vs, rel, hd'⟩
theorem kv_refs : ∀ {kvs : List (Key × V)} {vs us : List (Key × Value)}, (∀ p ∈ kvs, ∃ a, p.2 = .ref a) → KV kvs vs → KV kvs us → vs = us
  | [], _, _, _, .nil, .nil => rfl
  | p :: r, _, _, h, .cons q t, .cons q' t' => by
    rename_i x xs y ys
    obtain ⟨a, e⟩ := h p (List.mem_cons_self ..)
    obtain ⟨k1, r1⟩ := q
    obtain ⟨k2, r2⟩ := q'
    rw [e] at r1 r2
    have e1 : x = (p.1, Value.ref a) := Prod.ext k1.symm r1
    have e2 : y = (p.1, Value.ref a) := Prod.ext k2.symm r2
    rw [e1, e2, kv_refs (fun z hz => h z (List.mem_cons_of_mem _ hz)) t t']
theorem valueAt_mem {κ : Type} [DecidableEq κ] {kb : List (κ × Value)} (nd : (kb.map (·.1)).Nodup) {k : κ} {v : Value} (h : (k, v) ∈ kb) : valueAt kb k = some v := by
  induction kb with
  | nil => cases h
  | cons x r ih =>
    rw [List.map_cons, List.nodup_cons] at nd
    unfold valueAt
    rw [List.find?_cons]
    rcases List.mem_cons.mp h with e | h
    · subst e
      rw [decide_eq_true rfl]
      rfl
    · have ne : ¬ x.1 = k := fun z => nd.1 (by rw [z]; exact List.mem_map.mpr ⟨_, h, rfl⟩)
      rw [decide_eq_false ne]
      exact ih nd.2 h
theorem hits_self {κ : Type} [DecidableEq κ] {A : Around} {s : Shared} {kb : List (κ × Value)} (nd : (kb.map (·.1)).Nodup) : ∀ {ka : List (κ × Value)}, (∀ p ∈ ka, p ∈ kb) → PySem.W.KeqHits A s kb ka true
  | [], _ => .nil
  | (k, v) :: r, h => by
    have := PySem.W.KeqHits.hit (A := A) (s := s) (e := true) (b := true) (valueAt_mem nd (h (k, v) (List.mem_cons_self ..))) (SeqAt.EqAt.same v) (hits_self nd fun p hp => h p (List.mem_cons_of_mem _ hp))
    exact this
def rNeD : R2 := fun x y H Q => ∃ d e kvs, x = .ref d ∧ y = .ref e ∧ H d = some (.dK kvs) ∧ H e = some (.dK kvs) ∧ (∀ p ∈ kvs, ∃ a, p.2 = .ref a) ∧ Q (.bl false) H
theorem op_neD (hu : X.A.units < cLine) : OpR X (compareOp .NotEq) rNeD := by
  intro pins s σ H x y v u Q I rx ry h
  obtain ⟨d, e, kvs, rfl, rfl, hd, he, hr, q⟩ := h
  cases rx
  cases ry
  obtain ⟨z, hm, vs, rel, dd⟩ := dk_of I.hok hd
  obtain ⟨z', hm', us, rel', de⟩ := dk_of I.hok he
  have e1 := kv_refs hr rel rel'
  subst e1
  have nd : (vs.map (·.1)).Nodup := let ⟨_, _, _, _, _, _, _, _, hn⟩ := dd; hn
  refine PySem.W.keq_ne (r := true) hm hm' dd de hu (fun _ => hits_self nd fun p hp => hp) ?_
  have ez : (!(vs.length == vs.length && true)) = false := by simp
  rw [ez]
  exact ⟨.bl false, H, I, rfl, q⟩
end
end L2
set_option Elab.async false
set_option linter.all false
set_option maxRecDepth 100000
namespace L2
open PySem PySem.Spec PyProof.Rows
inductive PH (P : Program) (w : World) : List DictEntry → List (Str × Value) → Prop
  | nil : PH P w [] []
  | cons {e : DictEntry} {kv : Str × Value} {es : List DictEntry} {kvs : List (Str × Value)} : (strKind P w).is kv.1 e.key = true → e.hash = (strKind P w).hash kv.1 → e.val = kv.2 → PH P w es kvs → PH P w (e :: es) (kv :: kvs)
theorem PH.keys {P : Program} {w : World} {es : List DictEntry} {kvs : List (Str × Value)} (h : PH P w es kvs) : ∀ e ∈ es, ∃ k, (strKind P w).is k e.key = true ∧ e.hash = (strKind P w).hash k := by
  induction h with
  | nil => intro e he; cases he
  | cons a b c _ ih =>
    intro e he
    rcases List.mem_cons.mp he with rfl | he
    · exact ⟨_, a, b⟩
    · exact ih e he
theorem PH.pairs {P : Program} {w : World} {es : List DictEntry} {kvs : List (Str × Value)} (h : PH P w es kvs) : Pairs (strKind P w) es kvs := by
  induction h with
  | nil => exact .nil
  | cons a b c _ ih => exact .cons a c ih
theorem dictOf_mk {P : Program} {w : World} {o : Obj} {es : Array DictEntry} {ep : Nat} {kvs : List (Str × Value)} (hx : o.ExactDict) (hd : o.data = .dict es ep) (h : PH P w es.toList kvs) (nd : (kvs.map (·.1)).Nodup) : o.IsDictOf (strKind P w) kvs :=
  ⟨es, ep, hx, hd, fun e he => h.keys e (Array.mem_toList_iff.mpr he), h.pairs, nd⟩
end L2
set_option Elab.async false
set_option linter.all false
set_option maxRecDepth 100000
namespace PySem
theorem keys_tuple_none : typeLookup (.type "tuple") "keys" = pure none := am_miss_of_fast (by decide +kernel)
section
variable {prog : Program} {w : World} {A : Around} {E : Value → Shared → Prop} {s : Shared}
theorem noKeys_tuple {a : Addr} {o : Obj} {xs : Array Value} {k : Nat} {Q : Option Value → Shared → Prop} (hx : s.heap.get? a = some o) (hc : o.cls = .type "tuple") (hdat : o.data = .seq xs k) (hd : o.dict = none) (hA : A.handled = none)
    (h : ∀ h' tk, (∀ b u, s.heap.get? b = some u → h'.get? b = some u) → Q none { s with heap := h', toks := tk }) : wpAny (model prog w) A (getAttr? (.ref a) "keys") Q E s := by
  obtain ⟨c, dct, dat, sl⟩ := o
  simp only at hc hdat hd
  subst hc hdat hd
  obtain ⟨hp, g, d, tk, os⟩ := s
  have hT : ∀ tk', (⟨hp, g, d, tk', os⟩ : Shared).TypeIs (.ref a) "tuple" := fun _ => ⟨_, hx, rfl⟩
  have f1 := sub_AttributeError
  have f3 := F.slot_tuple_getattribute.lookup
  have f4 := F.slot_tuple_getattribute.bind (.ref a)
  have f5 := am_tuple_getattr_none
  unfold getAttr? getAttrBy? getAttrBy
  repeat (any_goals (first | assumption | exact hT _ | ((with_reducible show wpAny _ _ (call (Value.builtin "tuple.__getattribute__") _ _) _ _ _); refine call_meets F.slot_tuple_getattribute (hT _) am_entry_tuple_getattribute (F.args_tuple_getattribute_2 _ _) (meets_getattribute_miss_tuple a xs k sl "keys" _ keys_tuple_none (by decide +kernel) (by size_fits)) ⟨hx, hA, fun h' tk' e hx' => ?_⟩) | wp_step))
  obtain ⟨t', u', he⟩ := hx'.there
  show wpAny _ _ (getattributeRaised _ _ _ _ _ _ _) _ _ _
  unfold getattributeRaised
  repeat (any_goals (first | assumption | wp_step))
  exact h _ _ hx'.keeps
end
end PySem
namespace PySem
theorem entry_dict_update_loop : entryFor table "dict.update.loop" = some Builtin.«dict.update.loop» := entryFor_of_tree (by kernel_rfl)
theorem plain_dict_update_loop : plainId "dict.update.loop" = true := by decide +kernel
section
variable {prog : Program} {w : World} {κ : Type} [DecidableEq κ] {knd : KeyKind prog w κ}
def PairOf (knd : KeyKind prog w κ) (h : Heap) (v : Value) (kv : κ × Value) : Prop := ∃ p key, v = .ref p ∧ PyProof.Rows.IsTup h p #[key, kv.2] ∧ knd.is kv.1 key = true
theorem PairOf.at {h h' : Heap} {v : Value} {kv : κ × Value} (x : PairOf knd h v kv) (k : ∀ p, v = .ref p → ∀ o, h.get? p = some o → h'.get? p = some o) : PairOf knd h' v kv := by
  obtain ⟨p, key, rfl, ⟨o, ho, r⟩, hk⟩ := x
  exact ⟨p, key, rfl, ⟨o, k p rfl o ho, r⟩, hk⟩
theorem dict_pairs_loop {A : Around} {R : Result → Shared → Prop} {I : Addr} {fp wr : List Addr} {n : Nat} {P : Nat → Value → Prop} {St : Nat → Heap → Prop} (W : Walks prog w A.in1 I fp wr n P St) (D : Addr) (hD : D ∉ fp)
    (kvs : List (κ × Value)) (hlen : kvs.length = n) (hb : n ≤ 1000) (hP : ∀ i v, P i v → ∀ p, v = .ref p → p ∉ D :: wr) :
    ∀ (k i : Nat) (s : Shared) (t : Tok), i + k = n → St i s.heap → s.heap.DictOf knd D (merged [] (kvs.take i)) → (∀ j v kv, P j v → kvs[j]? = some kv → PairOf knd s.heap v kv) →
      (∀ h' tk, (∀ b o, b ∉ D :: wr → s.heap.get? b = some o → h'.get? b = some o) → h'.DictOf knd D (merged [] kvs) → R (.ok (.ret .none)) { s with heap := h', toks := tk }) →
      codeAny (model prog w) A (.builtin "dict.update.loop" ⟨[.ref D, .ref I, .int (i : Nat) t, .none], []⟩) R s := by
  have hDw : D ∉ wr := fun q => hD (W.sub _ q)
  intro k
  induction k with
  | zero =>
    intro i s t hi st hd hp q
    obtain rfl : i = n := by omega
    refine codeAny_builtin entry_dict_update_loop ?_
    rw [Around.under_plainId plain_dict_update_loop _]
    show wpAny _ A.in1 (pyNext (.ref I) >>= _) _ _ _
    refine wpAny_bind (W.done s _ _ st fun h' tk kp => ?_)
    show wpAny _ _ (Builtin.Dict.addKeywords D [] >>= _) _ _ _
    refine wpAny_bind (wpAny_pure (wpAny_pure (q h' tk (fun b o nb e => kp b o (fun z => nb (List.mem_cons_of_mem _ z)) e) ?_)))
    rw [List.take_of_length_le (Nat.le_of_eq hlen)] at hd
    exact hd.at fun o e => kp D o hDw e
  | succ k ih =>
    intro i s t hi st hd hp q
    refine codeAny_builtin entry_dict_update_loop ?_
    rw [Around.under_plainId plain_dict_update_loop _]
    show wpAny _ A.in1 (pyNext (.ref I) >>= _) _ _ _
    refine wpAny_bind (W.item i s _ _ (by omega) st fun v h1 tk1 hv st1 kp1 => ?_)
    have hlt : i < kvs.length := by omega
    have hkv := List.getElem?_eq_getElem hlt
    have hd1 : h1.DictOf knd D (merged [] (kvs.take i)) := hd.at fun o e => kp1 D o hDw e
    have hp1 : ∀ j v kv, P j v → kvs[j]? = some kv → PairOf knd h1 v kv := fun j v kv pj e => (hp j v kv pj e).at fun p ev o eo => kp1 p o (fun z => hP j v pj p ev (List.mem_cons_of_mem _ z)) eo
    obtain ⟨p, key, rfl, ⟨⟨oc, od, ox, osl⟩, ho, hc, m, hx⟩, hk⟩ := hp1 i v _ hv hkv
    simp only at hc hx
    subst hc hx
    have hml : (merged [] (kvs.take i)).length ≤ i := by
      have := merged_length_le [] (kvs.take i)
      rw [List.length_take] at this
      simp only [List.length_nil] at this
      omega
    obtain ⟨hp0, g, d, tk, os⟩ := s
    have hT : (⟨h1, g, d, tk1, os⟩ : Shared).TypeIs (.ref p) "tuple" := ⟨_, ho, rfl⟩
    have hpi : ∀ (Q : List Value → Shared → Prop) (E : Value → Shared → Prop), Q [key, kvs[i].2] ⟨h1, g, d, tk1, os⟩ → wpAny (model prog w) A.in1 (Builtin.Dict.pairItems (.ref p)) Q E ⟨h1, g, d, tk1, os⟩ := by
      intro Q E h
      unfold Builtin.Dict.pairItems
      wp_walk
      exact h
    show wpAny _ A.in1 (holding [.ref p] _ >>= _) _ _ ⟨h1, g, d, tk1, os⟩
    refine wpAny_bind (wpAny_holding (wpAny_bind (wpAny_tryCatch (hpi _ _ ?_))))
    show wpAny _ A.in1 (holding [key, kvs[i].2] (dictSet D key kvs[i].2)) _ _ ⟨h1, g, d, tk1, os⟩
    refine wpAny_holding (wpAny_dictSet_pairs (s := ⟨h1, g, d, tk1, os⟩) hk hd1 (fun h2 hd2 sb2 => ?_) (Nat.le_trans hml (Nat.le_trans (by omega) (show 1000 ≤ sizeLine by decide))))
    have e1 : merged [] (kvs.take (i + 1)) = stored (merged [] (kvs.take i)) kvs[i].1 kvs[i].2 := merged_take_succ [] kvs i _ hkv
    rw [← e1] at hd2
    refine wpAny_pure ⟨plainId_quiet plain_dict_update_loop _, ?_⟩
    have kp2 : ∀ b o, b ∉ D :: wr → hp0.get? b = some o → h2.get? b = some o := fun b o nb e => by
      rw [sb2.2 b (fun z => nb (by rw [z]; exact List.mem_cons_self))]
      exact kp1 b o (fun z => nb (List.mem_cons_of_mem _ z)) e
    refine ih (i + 1) _ _ (by omega) (W.frame _ _ _ st1 fun b hb o e => ?_) hd2 (fun j v kv pj e => (hp1 j v kv pj e).at fun p' ev o eo => ?_) fun h' tk' kp hd' => q h' tk' (fun b o nb e => kp b o nb (kp2 b o nb e)) hd'
    · rw [sb2.2 b (fun z => hD (by rw [← z]; exact hb))]
      exact e
    · rw [sb2.2 p' (fun z => hP j v pj p' ev (by rw [z]; exact List.mem_cons_self))]
      exact eo
end
end PySem
namespace PySem
section
variable {prog : Program} {w : World} {κ : Type} [DecidableEq κ] {knd : KeyKind prog w κ} {A : Around} {E : Value → Shared → Prop} {s : Shared}
theorem call_dict_pairs {t : Addr} {its : Array Value} {kvs : List (κ × Value)} {Q : Value → Shared → Prop} (hh : A.handled = none) (ht : PyProof.Rows.IsTup s.heap t its) (hd : ∀ o, s.heap.get? t = some o → o.dict = none) (hlen : kvs.length = its.size) (hb : its.size ≤ 1000)
    (hp : ∀ (j : Nat) (v : Value) (kv : κ × Value), its[j]? = some v → kvs[j]? = some kv → PairOf knd s.heap v kv)
    (q : ∀ h' tk, h'.DictOf knd s.heap.objs.size (merged [] kvs) → (∀ b o, s.heap.get? b = some o → h'.get? b = some o) → Q (.ref s.heap.objs.size) { s with heap := h', toks := tk }) :
    wpAny (model prog w) A (call (.type "dict") [.ref t]) Q E s := by
  refine callType_codes (Q₁ := fun obj s₁ => obj = .ref s.heap.objs.size ∧ s₁ = { s with heap := s.heap.push { cls := .type "dict", data := .dict #[] } }) F.kt_called_dict (F.kt_typeCall_dict_1 _) F.entry_dict_init (kt_code_dict_new _ ⟨rfl, rfl⟩) ?_
  rintro obj s₁ ⟨rfl, rfl⟩
  have hnew : (s.heap.push { cls := .type "dict", data := .dict #[] }).DictOf knd s.heap.objs.size [] := Heap.DictOf.new s.heap
  obtain ⟨o, ho, hc, n, hx⟩ := id ht
  have hod := hd o ho
  have ho1 : (s.heap.push { cls := .type "dict", data := .dict #[] }).get? t = some o := Heap.get?_push_of_some _ ho
  have hT : Shared.TypeIs { s with heap := s.heap.push { cls := .type "dict", data := .dict #[] } } (.ref t) "tuple" := ⟨o, ho1, hc⟩
  have hlt : t < s.heap.objs.size := Heap.lt_size ho
  refine ⟨hnew.typeIs, F.args_dict_init_2 _ _, ?_⟩
  unfold Builtin.«dict.__init__»
  refine wpAny_bind ?_
  unfold Builtin.Dict.selfAndRest
  refine wpAny_bind (wpAny_notOrdered_dict hnew.typeIs ?_)
  show wpAny _ _ (pure (s.heap.objs.size, [Value.ref t])) _ _ _
  refine wpAny_pure ?_
  show wpAny _ _ (Builtin.Dict.updateFrom "dict.__init__" s.heap.objs.size (.ref t) [] .none) _ _ _
  unfold Builtin.Dict.updateFrom
  refine wpAny_bind (wpAny_typeOf hT ?_)
  rw [if_pos (by decide)]
  refine wpAny_bind (noKeys_tuple ho1 hc hx hod (by first | exact hh | simp [hh]) fun h2 tk2 kp2 => ?_)
  rw [if_pos (show (none : Option Value).isNone = true from rfl)]
  have ho2 : h2.get? t = some o := kp2 _ _ ho1
  have ht2 : h2.IsTuple t its := ⟨o, ho2, hc, n, hx⟩
  refine wpAny_bind (wpAny_rule (wpAny_bind (wpAny_pyIter_tuple ht2 ?_)))
  have hs1 : (s.heap.push { cls := .type "dict", data := .dict #[] }).objs.size = s.heap.objs.size + 1 := Heap.size_push ..
  have hs2 : s.heap.objs.size < h2.objs.size := by
    obtain ⟨od, _, _, hg, _⟩ := id hnew
    exact Heap.lt_size (kp2 _ _ hg)
  refine wpAny_pure ⟨plainId_quiet plain_dict_update_loop _, ?_⟩
  have hne : t ≠ h2.objs.size := Nat.ne_of_lt (Nat.lt_trans hlt hs2)
  refine dict_pairs_loop (knd := knd) (Walks.tuple (by first | exact hh | simp [hh]) _ t hne its) s.heap.objs.size ?_ kvs hlen hb ?_ its.size 0 _ _ (by omega) ⟨⟨_, Heap.get?_push_size _ rfl, rfl, rfl⟩, ht2.push _⟩ ?_ ?_ fun h' tk kp hd' => ?_
  · simp only [List.mem_cons, List.not_mem_nil, or_false, not_or]
    exact ⟨Nat.ne_of_lt hs2, Nat.ne_of_gt hlt⟩
  · intro j v e p ev
    have hj : j < kvs.length := by
      rw [hlen]
      exact (Array.getElem?_eq_some_iff.mp e).1
    obtain ⟨p', key, ev', ⟨o', ho', _⟩, _⟩ := hp j v _ e (List.getElem?_eq_getElem hj)
    rw [ev] at ev'
    cases ev'
    have := Heap.lt_size ho'
    simp only [List.mem_cons, List.not_mem_nil, or_false, not_or]
    exact ⟨Nat.ne_of_lt this, Nat.ne_of_lt (Nat.lt_trans this hs2)⟩
  · exact (hnew.at fun o e => kp2 _ _ e).at fun o e => Heap.get?_push_of_some _ e
  · intro j v kv e ek
    exact (hp j v kv e ek).at fun p _ o eo => Heap.get?_push_of_some _ (kp2 _ _ (Heap.get?_push_of_some _ eo))
  · refine ⟨rfl, q h' tk hd' fun b o e => kp b o ?_ (Heap.get?_push_of_some _ (kp2 _ _ (Heap.get?_push_of_some _ e)))⟩
    have := Heap.lt_size e
    simp only [List.mem_cons, List.not_mem_nil, or_false, not_or]
    exact ⟨Nat.ne_of_lt this, Nat.ne_of_lt (Nat.lt_trans this hs2)⟩
end
end PySem
namespace PySem
open PySem.Calls PyProof.Rows
section
variable {prog : Program} {w : World} {κ : Type} [DecidableEq κ] {knd : PySem.KeyKind prog w κ} {A : Around} {E : Value → Shared → Prop} {s : Shared}
theorem strs_of (nm : κ → Str) : ∀ (kvs : List (κ × Value)) (vs : List Value), vs.length = kvs.length → (∀ (j : Nat) (v : Value), vs[j]? = some v → ∃ kv t, kvs[j]? = some kv ∧ v = .str (nm kv.1) t) → StrsAre vs (kvs.map fun kv => nm kv.1)
  | [], [], _, _ => .nil
  | kv :: kvs, v :: vs, hl, h => by
    obtain ⟨kv', t, e, rfl⟩ := h 0 v rfl
    cases e
    exact .cons _ t (strs_of nm kvs vs (by simpa using hl) fun j v e => h (j + 1) v (by simpa using e))
theorem sorted_dict_strs {d : Addr} {kvs : List (κ × Value)} {Q : Value → Shared → Prop} (nm : κ → Str) (hh : A.handled = none) (lo : (d == sysModules) = false) (hm : s.heap.DictOf knd d kvs) (htx : ∀ k v, knd.is k v = true → (∃ x, (k, x) ∈ kvs) → ∃ t, v = Value.str (nm k) t) (h64 : kvs.length < 64)
    (q : ∀ (h1 h' : Heap) (tk : Nat) (B : Addr) (vs : List Value) (ss : List Str) (e : Nat), StrsAre vs ss → ss.Perm (kvs.map fun kv => nm kv.1) → h'.get? B = some (seqObj "list" vs.toArray e) → (∀ b o, s.heap.get? b = some o → h1.get? b = some o) → (∀ b o, h1.get? b = some o → h'.get? b = some o) → h1.objs.size ≤ B → Q (.ref B) { s with heap := h', toks := tk }) :
    wpAny (model prog w) A (call (.builtin "sorted") [.ref d]) Q E s := by
  obtain ⟨ep, hat⟩ := hm.dictAt
  refine call_function_entry kind_sorted plain_sorted entry_sorted (args_sorted1 _) ?_
  unfold Builtin.«sorted»
  refine wpAny_bind (m := checkCount "sorted" 1 1 _) (wpAny_pure ?_)
  refine wpAny_bind (PySem.W.kdu_collect (A := A.in1) (PySem.W.kdl_dict (knd := knd) (kvs := kvs) (ep := ep) lo) hh hat (by rw [sizeLine_eq]; omega) fun h' tk acc hk hacc => ?_)
  have hl : acc.toList.length = kvs.length := by rw [Array.length_toList]; exact hacc.1
  have hS : StrsAre acc.toList (kvs.map fun kv => nm kv.1) := strs_of nm kvs _ hl fun j v e => by
    obtain ⟨k, x, hx, hi⟩ := hacc.2 j v (by rw [← Array.getElem?_toList]; exact e)
    obtain ⟨t, rfl⟩ := htx k v hi ⟨x, List.mem_of_getElem? hx⟩
    exact ⟨(k, x), t, hx, rfl⟩
  refine wpAny_bind (wpAny_newList ?_ (by rw [sizeLine_eq]; omega))
  have hoL : (h'.push (seqObj "list" acc.toList.toArray 0)).get? h'.objs.size = some (seqObj "list" acc.toList.toArray 0) := Heap.get?_push_size _ rfl
  refine wpAny_bind (wpAny_holding (wpAny_call_entry slot_list_sort ⟨_, hoL, rfl⟩ entry_list_sort (list_sort_treeK strKind_oneLt hoL hS.keysOf (fun v₁ v₂ rest e => keyKind_strs (by rw [← e]; exact hS)) (by rw [hl]; exact h64) fun st' a1 a2 => ⟨_, rfl, ?_⟩) (args_list_sort _)))
  obtain ⟨ss', b1, b2, b3⟩ := sorted_out_str hS a1 a2
  obtain ⟨e, he⟩ := sortedHeap_at (out := (arrOf st').map (·.2)) hoL
  refine wpAny_pure ⟨_, rfl, q h' _ tk h'.objs.size ((arrOf st').map (·.2)).toList ss' e b1 b2 (by rw [Array.toArray_toList]; exact he) hk (fun b o hb => ?_) (Nat.le_refl _)⟩
  have hlt := Heap.lt_size hb
  show (sortedHeap (h'.push (seqObj "list" acc.toList.toArray 0)) h'.objs.size acc.toList ((arrOf st').map (·.2))).get? b = some o
  rw [sortedHeap_old (Nat.ne_of_lt hlt) (by rw [size_push']; exact Nat.lt_succ_of_lt hlt)]
  exact Heap.get?_push_of_some _ hb
end
end PySem
set_option Elab.async false
set_option linter.all false
set_option maxRecDepth 100000
namespace L2
open PySem PySem.Spec PyProof.Rows
section
variable {X : Cx}
abbrev PrsAt (K : PySem.W.Frag) (H : Hp) : List V → List (Key × V) → Prop := Paired fun u kv => ∃ p, u = .ref p ∧ SqT K H p [kV kv.1, kv.2]
theorem prs_of {pins : List (Addr × Obj)} {σ : L2.St} {H : Hp} {s : Shared} (I : Inv X pins σ H s) {us : List V} {kvs : List (Key × V)} (h : PrsAt X.K H us kvs) : ∀ {its : List Value}, Vals us its →
    ∃ vs : List (Key × Value), KV kvs vs ∧ vs.length = its.length ∧ ∀ (j : Nat) (v : Value) (kv : Key × Value), its[j]? = some v → vs[j]? = some kv → PairOf (mixKind X.prog X.w) s.heap v kv := by
  induction h with
  | nil =>
    intro its hv
    cases hv
    exact ⟨[], .nil, rfl, fun j v kv e _ => by simp at e⟩
  | @cons u kv us kvs r t ih =>
    intro its hv
    cases hv with
    | cons q z =>
      obtain ⟨p, rfl, hp⟩ := r
      cases q
      obtain ⟨ks, rv, pl, hz⟩ := I.tuple hp
      obtain ⟨vs, h1, h2, h3⟩ := ih z
      obtain ⟨key, val, rfl, rk, rx⟩ := vals2 rv
      refine ⟨(kv.1, val) :: vs, .cons ⟨rfl, rx⟩ h1, by rw [List.length_cons, List.length_cons, h2], fun j v kv' e e' => ?_⟩
      cases j with
      | zero =>
        cases e
        cases e'
        exact ⟨p, key, rfl, pl, kV_is rk⟩
      | succ j => exact h3 j v kv' (by simpa using e) (by simpa using e')
def rDictP (K : PySem.W.Frag) : List V → Hp → VK → Prop := fun xs H Q => ∃ t us kvs, xs = [.ref t] ∧ SqT K H t us ∧ PrsAt K H us kvs ∧ us.length ≤ 1000 ∧ ∀ p H', H p = none → Same H H' → H' p = some (.dK (mergeK [] kvs)) → Q (.ref p) H'
theorem call_dictP (hc : X.calm = true) : CallR X (.type "dict") (rDictP X.K) := by
  intro pins s σ H xs us Q I r h
  obtain ⟨t, us, kvs, rfl, ht, hp, hl, q⟩ := h
  obtain ⟨u, rfl, ru⟩ := vals1 r
  cases ru
  obtain ⟨its, rv, ⟨tp, nd⟩, hz⟩ := I.tupN ht
  have e1 := rv.length
  obtain ⟨vs, h1, h2, h3⟩ := prs_of I hp rv
  have lk := KV.length h1
  refine call_dict_pairs (knd := mixKind X.prog X.w) (kvs := vs) (I.ok.hd hc) tp nd (by rw [List.size_toArray]; exact h2) (by rw [List.size_toArray]; omega) (fun j v kv e e' => h3 j v kv (by simpa using e) e') fun h' tk hd kp => ?_
  have hf : H s.heap.objs.size = none := I.hok.fresh (Nat.le_refl _)
  refine ⟨.ref s.heap.objs.size, _, I.laid (t' := tk) (o := .dK (mergeK [] kvs)) kp (Nat.le_refl _) ?_, rfl, q _ _ hf (same_new hf _) upd_same⟩
  have lm := length_mergeK kvs []
  simp only [List.length_nil] at lm
  exact ⟨small (by omega), beq_eq_false_iff_ne.mpr (Ne.symm (Nat.ne_of_lt I.big)), _, KV.merge h1 .nil, hd⟩
theorem call_dictPK {K : PySem.W.Frag} (hc : X.calm = true) (h : X.K = K := by rfl) : CallR X (.type "dict") (rDictP K) := by subst h; exact call_dictP hc
theorem mergeK_app : ∀ (kvs acc : List (Key × V)), ((acc ++ kvs).map (·.1)).Nodup → mergeK acc kvs = acc ++ kvs
  | [], acc, _ => by simp [mergeK]
  | kv :: r, acc, h => by
    have hn : valV acc kv.1 = none := by
      cases e : valV acc kv.1 with
      | none => rfl
      | some v =>
        exfalso
        have := valV_in e
        rw [List.map_append, List.nodup_append] at h
        exact h.2.2 _ this _ (by rw [List.map_cons]; exact List.mem_cons_self ..) rfl
    show mergeK (putK acc kv.1 kv.2) r = _
    rw [putK_new _ hn, mergeK_app r _ (by rw [List.append_assoc]; exact h), List.append_assoc]
    rfl
theorem mergeK_nd {kvs : List (Key × V)} (h : (kvs.map (·.1)).Nodup) : mergeK [] kvs = kvs := mergeK_app kvs [] h
def rSortD : List V → Hp → VK → Prop := fun xs H Q => ∃ (d : Addr) (kvs : List (Key × V)) (ns : List Str), xs = [.ref d] ∧ H d = some (.dK kvs) ∧ kvs.map (·.1) = (ns.map fun n => (Sum.inr n : Key)) ∧ kvs.length < 64 ∧ ∀ (p : Addr) (H' : Hp) (ss : List Str), H p = none → Same H H' → ss.Perm ns → H' p = some (.lst (ss.map V.str)) → Q (.ref p) H'
theorem vals_strs : ∀ {vs : List Value} {ss : List Str}, StrsAre vs ss → Vals (ss.map V.str) vs
  | _, _, .nil => .nil
  | _, _, .cons x t h => .cons ⟨t, rfl⟩ (vals_strs h)
theorem call_sortD (hc : X.calm = true) : CallR X (.builtin "sorted") rSortD := by
  intro pins s σ H xs us Q I r h
  obtain ⟨d, kvs, ns, rfl, hd, hk, h64, q⟩ := h
  obtain ⟨u, rfl, ru⟩ := vals1 r
  cases ru
  obtain ⟨z, hm, vs, rel, dd⟩ := dk_of I.hok hd
  have lk := KV.length rel
  have ek := KV.keys rel
  let nm : Key → Str := fun k => match k with | .inr n => n | .inl _ => ⟨#[]⟩
  have enm : (vs.map fun kv => nm kv.1) = ns := by
    have : (vs.map fun kv => nm kv.1) = (vs.map (·.1)).map nm := by rw [List.map_map]; rfl
    rw [this, ← ek, hk, List.map_map]
    exact List.map_id _
  refine sorted_dict_strs (knd := mixKind X.prog X.w) nm (I.ok.hd hc) hm dd (fun k v hi hx => ?_) (by omega) fun h1 h' tk B vs' ss e hS hp hB kp1 kp2 hle => ?_
  · obtain ⟨x, hx⟩ := hx
    have hkm : k ∈ kvs.map (·.1) := by rw [ek]; exact List.mem_map.mpr ⟨_, hx, rfl⟩
    rw [hk] at hkm
    obtain ⟨n, _, rfl⟩ := List.mem_map.mp hkm
    cases v with
    | str x t =>
      have e : x = n := by simpa [mixKind, keyIs, Value.isStrOf] using hi
      exact ⟨t, by rw [e]⟩
    | _ => exact absurd (show false = true from hi) Bool.false_ne_true
  · rw [enm] at hp
    have I1 : Inv X pins σ H { s with heap := h1, toks := tk } := I.kept (t' := tk) kp1
    have hf : H B = none := I1.hok.fresh hle
    refine ⟨.ref B, _, I1.laid (t' := tk) (o := .lst (ss.map V.str)) kp2 hle ?_, rfl, q B _ ss hf (same_new hf _) hp upd_same⟩
    have hv := vals_strs hS
    have l1 := hp.length_eq
    have l2 : ns.length = kvs.length := by have := congrArg List.length hk; simpa using this.symm
    exact ⟨small (by rw [List.length_map]; omega), vs', e, hv, hB⟩
end
end L2
set_option Elab.async false
set_option linter.all false
set_option maxRecDepth 100000
namespace L2
open PySem PySem.Spec PyProof.Rows
theorem pick_rev (its : List Value) : slicePick its.toArray none none (some (-1)) = its.reverse.toArray := by
  unfold slicePick
  congr 1
  have hb : sliceBounds none none (some (-1)) its.toArray.size = ((its.length : Int) - 1, -1, -1) := by
    simp [sliceBounds]
  rw [hb]
  show (sliceRange ((its.length : Int) - 1) (-1) (-1)).filterMap _ = _
  have hr : sliceRange ((its.length : Int) - 1) (-1) (-1) = (List.range its.length).map fun k => its.length - 1 - k := by
    unfold sliceRange
    have hc : (if (-1 : Int) > 0 then (if ((its.length : Int) - 1) < -1 then ((-1) - ((its.length : Int) - 1) + (-1) - 1) / (-1) else 0) else (if ((its.length : Int) - 1) > -1 then (((its.length : Int) - 1) - (-1) - (-1) - 1) / (-(-1)) else 0) : Int).toNat = its.length := by
      rw [if_neg (by decide)]
      by_cases h : its.length = 0
      · rw [if_neg (by omega)]; omega
      · rw [if_pos (by omega)]
        have : (((its.length : Int) - 1) - (-1) - (-1) - 1) / (-(-1)) = its.length := by
          rw [show (-(-1) : Int) = 1 by decide, Int.ediv_one]; omega
        rw [this]; omega
    simp only
    rw [hc]
    refine List.map_congr_left fun k hk => ?_
    have := List.mem_range.mp hk
    omega
  rw [hr, List.filterMap_map]
  have hf : ∀ n ≤ its.length, (List.range n).filterMap ((fun i => its.toArray[i]?) ∘ fun k => its.length - 1 - k) = its.reverse.take n := by
    intro n
    induction n with
    | zero => intro _; simp
    | succ n ih =>
      intro hn
      rw [List.range_succ, List.filterMap_append, ih (by omega), List.take_add_one]
      congr 1
      have h1 : its.reverse[n]? = its[its.length - 1 - n]? := by rw [List.getElem?_reverse (by omega)]
      simp only [List.filterMap_cons, List.filterMap_nil, Function.comp, List.getElem?_toArray]
      rw [h1]
      cases e : its[its.length - 1 - n]? <;> rfl
  rw [hf _ (Nat.le_refl _), ← List.length_reverse, List.take_length]
section
variable {X : Cx} {e st : Expr} {te ts : TE} {pos p2 : Pos}
def tRev (K : PySem.W.Frag) (te ts : TE) : TE := fun σ H Q => te σ H fun x H1 => ts σ H1 fun y H2 => ∃ a xs, y = .int (-1) ∧ x = .ref a ∧ SqL K H2 a xs ∧ ∀ p H', H2 p = none → Same H2 H' → H' p = some (.lst xs.reverse) → Q (.ref p) H'
theorem ve_rev (he : VE X e te) (hs : VE X st ts) : VE X (.Subscript e (.Slice none none (some st) p2) pos) (tRev X.K te ts) := ⟨by
  intro pins s σ H Q I h
  refine Subscript_ (thn (he.1 pins s σ H _ I h) fun v s1 ⟨x, H1, I1, r1, q1⟩ => ?_)
  refine wpAny_Slice ?_
  rw [evalPart_none]
  refine wpAny_pure (wpAny_pure ?_)
  rw [evalPart_some]
  refine thn (hs.1 pins s1 σ H1 _ I1 q1) fun u s2 ⟨y, H2, I2, r2, q2⟩ => ?_
  obtain ⟨a, xs, rfl, rfl, hx, q⟩ := q2
  obtain ⟨tk, rfl⟩ := r2
  cases r1
  have I4 : Inv X pins σ H2 { s2 with heap := s2.heap.push { cls := .type "slice", data := .fields #[.none, .none, .int (-1) tk] } } := I2.kept (t' := s2.toks) fun b ob q => Heap.get?_push_of_some _ q
  obtain ⟨its, r, pl, hz⟩ := I4.list hx
  have hlen := r.length
  show wpAny (model X.prog X.w) X.A (subscriptTail e (.Slice none none (some st) p2) (.ref a) (.ref s2.heap.objs.size)) (EP X pins σ Q) X.xe { s2 with heap := s2.heap.push { cls := .type "slice", data := .fields #[.none, .none, .int (-1) tk] } }
  refine tail_any (T := "list") (ops := [.ref a, .ref s2.heap.objs.size]) pl.isList.typeIs list_getitem_lookup (wpAny_getItem_list_slice pl.isList (Heap.IsSliceOf.new ..) .none .none (.int (-1) tk) (by decide) ?_ (by rw [List.size_toArray]; omega)) (by with_unfolding_all rfl)
  rw [pick_rev]
  have hf : H2 (s2.heap.push { cls := .type "slice", data := .fields #[.none, .none, .int (-1) tk] }).objs.size = none := I4.hok.fresh (Nat.le_refl _)
  refine ⟨.ref _, _, I4.laid (t' := s2.toks) (o := .lst xs.reverse) (fun b ob q => Heap.get?_push_of_some _ q) (Nat.le_refl _) ?_, rfl, q _ _ hf (same_new hf _) upd_same⟩
  exact ⟨by rw [List.length_reverse]; exact hz, its.reverse, 0, r.reverse, Heap.get?_push_size _ rfl⟩⟩
end
section
variable {X : Cx} {o i value : Expr} {td ty tv : TE} {pos pos' : Pos}
theorem vs_dput (hu : X.A.units + 1 < cLine) (ho : VE X o td) (hi : VE X i ty) (hv : VE X value tv) (hs : swapsWith value (some (.Subscript o i pos')) pos.line X.env = pure false := by rfl) : VS X (.Assign [.Subscript o i pos'] value pos) (sDPut td ty tv) := ⟨ps_dput hu ho.1 hi.1 hv.1 hs⟩
theorem SqT.updD {K : PySem.W.Frag} {H : Hp} {a D : Addr} {xs : List V} {kvs : List (Key × V)} {u : HO} (hD : H D = some (.dK kvs)) (h : SqT K H a xs) : SqT K (upd H D u) a xs := by
  rcases h with (h | ⟨o, h⟩) | h
  · exact .inl (.inl (by rw [upd_ne (ne_of h hD (by intro z; cases z))]; exact h))
  · exact .inl (.inr ⟨o, by rw [upd_ne (ne_of h hD (by intro z; cases z))]; exact h⟩)
  · exact .inr h
end
end L2
set_option Elab.async false
set_option linter.all false
set_option maxRecDepth 100000
namespace My
open PySem PySem.Spec PyProof.Rows L2
set_option maxHeartbeats 400000
def top (i : Nat) : Stmt := PySem.Challenge.pw_shardask_k05_heads_told.main.body.getD i (.Pass ⟨0, 0, 0, 0⟩)
abbrev s_is_whole : Stmt := top 13
abbrev s_is_word : Stmt := top 14
abbrev s_is_one_of : Stmt := top 15
abbrev s_is_tuple_of : Stmt := top 16
abbrev s_are_unlike : Stmt := top 17
abbrev s_names_of : Stmt := top 18
abbrev s_is_name : Stmt := top 19
abbrev s_is_value : Stmt := top 20
abbrev s_kind_of : Stmt := top 21
abbrev s_is_other : Stmt := top 33
abbrev s_is_test : Stmt := top 34
abbrev s_is_pair : Stmt := top 35
abbrev s_is_sum : Stmt := top 36
abbrev s_is_key : Stmt := top 37
abbrev s_is_many : Stmt := top 38
abbrev s_are_tests : Stmt := top 39
abbrev s_are_names : Stmt := top 40
abbrev s_are_group_names : Stmt := top 41
abbrev s_are_pairs : Stmt := top 42
abbrev s_are_sums : Stmt := top 43
abbrev s_are_keys : Stmt := top 44
abbrev s_may_be_question : Stmt := top 45
abbrev s_has_form : Stmt := top 47
abbrev s_questions_in : Stmt := top 48
abbrev s_own_size : Stmt := top 49
abbrev s_checked : Stmt := top 50
abbrev s_kind_in : Stmt := top 51
abbrev s_need_like_kinds : Stmt := top 52
abbrev s_need_unlike : Stmt := top 53
abbrev s_table_head : Stmt := top 54
abbrev s_other_kind : Stmt := top 55
abbrev s_where_head : Stmt := top 56
abbrev s_keep_head : Stmt := top 57
abbrev s_named_head : Stmt := top 58
abbrev s_join_head : Stmt := top 59
abbrev s_sum_kind : Stmt := top 60
abbrev s_group_head : Stmt := top 61
abbrev s_first_head : Stmt := top 62
abbrev s_head_here : Stmt := top 63
abbrev s_head_within : Stmt := top 64
abbrev s_head_of : Stmt := top 65
abbrev s__law_seed : Stmt := top 67
abbrev s__law_next : Stmt := top 68
abbrev s__law_words : Stmt := top 69
abbrev s__law_names : Stmt := top 70
abbrev s__law_great : Stmt := top 71
abbrev s__law_value : Stmt := top 72
abbrev s__law_head : Stmt := top 73
abbrev s__law_tests : Stmt := top 74
abbrev s__law_some : Stmt := top 75
abbrev s__law_sums : Stmt := top 76
abbrev s__law_group : Stmt := top 77
abbrev s__law_keys : Stmt := top 78
abbrev s__law_fresh : Stmt := top 79
abbrev s__law_join : Stmt := top 80
abbrev s__law_question : Stmt := top 81
abbrev s__law_more : Stmt := top 82
abbrev s__law_alike : Stmt := top 83
abbrev s_law : Stmt := top 84
structure Txt (w : World) (K : PySem.W.Frag) (mg : Str → Option Value) : Prop where
  n_all : mg "all" = none
  n_any : mg "any" = none
  n_bool : mg "bool" = none
  n_dict : mg "dict" = none
  n_enumerate : mg "enumerate" = none
  n_int : mg "int" = none
  n_isinstance : mg "isinstance" = none
  n_len : mg "len" = none
  n_list : mg "list" = none
  n_min : mg "min" = none
  n_range : mg "range" = none
  n_set : mg "set" = none
  n_sorted : mg "sorted" = none
  n_str : mg "str" = none
  n_tuple : mg "tuple" = none
  n_zip : mg "zip" = none
  g_QUESTION_WORDS : ∃ a, mg "QUESTION_WORDS" = some (.ref a) ∧ ∀ H, SqT K H a [.str "and", .str "by", .str "count", .str "down", .str "first", .str "group", .str "join", .str "keep", .str "least", .str "most", .str "named", .str "on", .str "sum", .str "table", .str "up", .str "where", .str "with"]
  g_LETTERS : ∃ u, mg "LETTERS" = some u ∧ RelV (.str "abcdefghijklmnopqrstuvwxyz") u
  g_MOST_LETTERS : ∃ u, mg "MOST_LETTERS" = some u ∧ RelV (.int 8) u
  g_MOST_COLUMNS : ∃ u, mg "MOST_COLUMNS" = some u ∧ RelV (.int 8) u
  g_SIGNS : ∃ a, mg "SIGNS" = some (.ref a) ∧ ∀ H, SqT K H a [.str "=", .str "<", .str ">", .str "!"]
  g_SUM_WORDS : ∃ a, mg "SUM_WORDS" = some (.ref a) ∧ ∀ H, SqT K H a [.str "count", .str "sum", .str "least", .str "most"]
  g_WAYS : ∃ a, mg "WAYS" = some (.ref a) ∧ ∀ H, SqT K H a [.str "up", .str "down"]
  g_MOST_TESTS : ∃ u, mg "MOST_TESTS" = some u ∧ RelV (.int 3) u
  g_MOST_NAMES : ∃ u, mg "MOST_NAMES" = some u ∧ RelV (.int 8) u
  g_MOST_PAIRS : ∃ u, mg "MOST_PAIRS" = some u ∧ RelV (.int 3) u
  g_MOST_SUMS : ∃ u, mg "MOST_SUMS" = some u ∧ RelV (.int 4) u
  g_MOST_KEYS : ∃ u, mg "MOST_KEYS" = some u ∧ RelV (.int 3) u
  g_MOST_ROWS : ∃ u, mg "MOST_ROWS" = some u ∧ RelV (.int 60) u
  g_MOST_SIZE : ∃ u, mg "MOST_SIZE" = some u ∧ RelV (.int 20) u
  g_FORMS : ∃ d t0 t1 t2 t3 t4 t5 t6 : Addr, mg "FORMS" = some (.ref d) ∧ DctK w K d [("table", t0), ("where", t1), ("keep", t2), ("named", t3), ("join", t4), ("group", t5), ("first", t6)] ∧ (∃ f0 : Addr, (∀ H, SqT K H t0 [.ref f0]) ∧ mg "is_name" = some (.ref f0)) ∧ (∃ f0 f1 : Addr, (∀ H, SqT K H t1 [.ref f0, .ref f1]) ∧ mg "may_be_question" = some (.ref f0) ∧ mg "are_tests" = some (.ref f1)) ∧ (∃ f0 f1 : Addr, (∀ H, SqT K H t2 [.ref f0, .ref f1]) ∧ mg "may_be_question" = some (.ref f0) ∧ mg "are_names" = some (.ref f1)) ∧ (∃ f0 f1 : Addr, (∀ H, SqT K H t3 [.ref f0, .ref f1]) ∧ mg "may_be_question" = some (.ref f0) ∧ mg "are_names" = some (.ref f1)) ∧ (∃ f0 f1 f2 : Addr, (∀ H, SqT K H t4 [.ref f0, .ref f1, .ref f2]) ∧ mg "may_be_question" = some (.ref f0) ∧ mg "may_be_question" = some (.ref f1) ∧ mg "are_pairs" = some (.ref f2)) ∧ (∃ f0 f1 f2 : Addr, (∀ H, SqT K H t5 [.ref f0, .ref f1, .ref f2]) ∧ mg "may_be_question" = some (.ref f0) ∧ mg "are_group_names" = some (.ref f1) ∧ mg "are_sums" = some (.ref f2)) ∧ (∃ f0 f1 f2 : Addr, (∀ H, SqT K H t6 [.ref f0, .ref f1, .ref f2]) ∧ mg "may_be_question" = some (.ref f0) ∧ mg "are_keys" = some (.ref f1) ∧ mg "is_many" = some (.ref f2))
  v_is_name : ∃ f o, (∃ u, mg "is_name" = some u ∧ RelV (.ref f) u) ∧ K.lookup f = some o ∧ o.cls = .type "function"
  v_is_test : ∃ f o, (∃ u, mg "is_test" = some u ∧ RelV (.ref f) u) ∧ K.lookup f = some o ∧ o.cls = .type "function"
  v_is_pair : ∃ f o, (∃ u, mg "is_pair" = some u ∧ RelV (.ref f) u) ∧ K.lookup f = some o ∧ o.cls = .type "function"
  v_is_sum : ∃ f o, (∃ u, mg "is_sum" = some u ∧ RelV (.ref f) u) ∧ K.lookup f = some o ∧ o.cls = .type "function"
  v_is_key : ∃ f o, (∃ u, mg "is_key" = some u ∧ RelV (.ref f) u) ∧ K.lookup f = some o ∧ o.cls = .type "function"
  d_is_whole : Dn K mg "is_whole" s_is_whole ["thing"]
  d_is_word : Dn K mg "is_word" s_is_word ["thing"]
  d_is_one_of : Dn K mg "is_one_of" s_is_one_of ["thing", "texts"]
  d_is_tuple_of : Dn K mg "is_tuple_of" s_is_tuple_of ["thing", "least", "most", "is_part"]
  d_are_unlike : Dn K mg "are_unlike" s_are_unlike ["names"]
  d_names_of : Dn K mg "names_of" s_names_of ["head"]
  d_is_name : Dn K mg "is_name" s_is_name ["thing"]
  d_is_value : Dn K mg "is_value" s_is_value ["thing"]
  d_kind_of : Dn K mg "kind_of" s_kind_of ["value"]
  d_is_other : Dn K mg "is_other" s_is_other ["thing"]
  d_is_test : Dn K mg "is_test" s_is_test ["thing"]
  d_is_pair : Dn K mg "is_pair" s_is_pair ["thing"]
  d_is_sum : Dn K mg "is_sum" s_is_sum ["thing"]
  d_is_key : Dn K mg "is_key" s_is_key ["thing"]
  d_is_many : Dn K mg "is_many" s_is_many ["thing"]
  d_are_tests : Dn K mg "are_tests" s_are_tests ["thing"]
  d_are_names : Dn K mg "are_names" s_are_names ["thing"]
  d_are_group_names : Dn K mg "are_group_names" s_are_group_names ["thing"]
  d_are_pairs : Dn K mg "are_pairs" s_are_pairs ["thing"]
  d_are_sums : Dn K mg "are_sums" s_are_sums ["thing"]
  d_are_keys : Dn K mg "are_keys" s_are_keys ["thing"]
  d_may_be_question : Dn K mg "may_be_question" s_may_be_question ["thing"]
  d_has_form : Dn K mg "has_form" s_has_form ["thing"]
  d_questions_in : Dn K mg "questions_in" s_questions_in ["question"]
  d_own_size : Dn K mg "own_size" s_own_size ["question"]
  d_checked : Dn K mg "checked" s_checked ["thing"]
  d_kind_in : Dn K mg "kind_in" s_kind_in ["head", "name"]
  d_need_like_kinds : Dn K mg "need_like_kinds" s_need_like_kinds ["kinds", "others"]
  d_need_unlike : Dn K mg "need_unlike" s_need_unlike ["names"]
  d_table_head : Dn K mg "table_head" s_table_head ["heads", "name"]
  d_other_kind : Dn K mg "other_kind" s_other_kind ["head", "other"]
  d_where_head : Dn K mg "where_head" s_where_head ["head", "tests"]
  d_keep_head : Dn K mg "keep_head" s_keep_head ["head", "names"]
  d_named_head : Dn K mg "named_head" s_named_head ["head", "names"]
  d_join_head : Dn K mg "join_head" s_join_head ["head", "other", "pairs"]
  d_sum_kind : Dn K mg "sum_kind" s_sum_kind ["head", "part"]
  d_group_head : Dn K mg "group_head" s_group_head ["head", "names", "sums"]
  d_first_head : Dn K mg "first_head" s_first_head ["head", "keys"]
  d_head_here : Dn K mg "head_here" s_head_here ["heads", "question", "inner"]
  d_head_within : Dn K mg "head_within" s_head_within ["heads", "question"]
  d_head_of : Dn K mg "head_of" s_head_of ["heads", "question"]
  d__law_seed : Dn K mg "_law_seed" s__law_seed ["_law_script"]
  d__law_next : Dn K mg "_law_next" s__law_next ["_law_state", "_law_many"]
  d__law_words : Dn K mg "_law_words" s__law_words []
  d__law_names : Dn K mg "_law_names" s__law_names ["_law_state", "_law_many"]
  d__law_great : Dn K mg "_law_great" s__law_great ["_law_state"]
  d__law_value : Dn K mg "_law_value" s__law_value ["_law_state", "_law_kind"]
  d__law_head : Dn K mg "_law_head" s__law_head ["_law_state", "_law_names_here"]
  d__law_tests : Dn K mg "_law_tests" s__law_tests ["_law_state", "_law_head_here"]
  d__law_some : Dn K mg "_law_some" s__law_some ["_law_state", "_law_head_here", "_law_least"]
  d__law_sums : Dn K mg "_law_sums" s__law_sums ["_law_state", "_law_head_here", "_law_fresh_here"]
  d__law_group : Dn K mg "_law_group" s__law_group ["_law_state", "_law_question_here", "_law_head_here", "_law_names_here"]
  d__law_keys : Dn K mg "_law_keys" s__law_keys ["_law_state", "_law_head_here"]
  d__law_fresh : Dn K mg "_law_fresh" s__law_fresh ["_law_question_here", "_law_head_here", "_law_own", "_law_names_here"]
  d__law_join : Dn K mg "_law_join" s__law_join ["_law_state", "_law_question_here", "_law_head_here", "_law_other", "_law_other_head", "_law_names_here"]
  d__law_question : Dn K mg "_law_question" s__law_question ["_law_state", "_law_heads", "_law_names_here", "_law_deep"]
  d__law_more : Dn K mg "_law_more" s__law_more ["_law_state", "_law_question_here", "_law_head_here", "_law_names_here"]
  d__law_alike : Dn K mg "_law_alike" s__law_alike ["_law_found", "_law_due"]
  d_law : Dn K mg "law" s_law ["_law_script"]
abbrev abc : Str := "abcdefghijklmnopqrstuvwxyz"
abbrev words : List V := [.str "and", .str "by", .str "count", .str "down", .str "first", .str "group", .str "join", .str "keep", .str "least", .str "most", .str "named", .str "on", .str "sum", .str "table", .str "up", .str "where", .str "with"]
def Th (K : PySem.W.Frag) (H : Hp) (v : V) : Prop := (∃ x, v = .str x ∧ x.length ≤ 1000) ∨ (∃ i, v = .int i) ∨ (∃ b, v = .bl b) ∨ ∃ k, Rk K H v k
theorem Th.same {K : PySem.W.Frag} {H H' : Hp} {v : V} (e : Same H H') (h : Th K H v) : Th K H' v := by
  rcases h with h | h | h | ⟨k, h⟩
  · exact .inl h
  · exact .inr (.inl h)
  · exact .inr (.inr (.inl h))
  · exact .inr (.inr (.inr ⟨k, h.same e⟩))
def isiB : V → String → Bool
  | .int _, T => T == "int"
  | .str _, T => T == "str"
  | .bl _, T => T == "int" || T == "bool"
  | _, _ => false
def isS : V → Bool
  | .str _ => true
  | _ => false
def whole : V → Bool
  | .int _ => true
  | _ => false
theorem isi_any {K : PySem.W.Frag} {H : Hp} {v : V} {T : String} {Q : VK} (hv : Th K H v) (hT : T = "int" ∨ T = "bool" ∨ T = "str") (q : Q (.bl (isiB v T)) H) : rIsi [v, .ty T] H Q ∨ rIsiR K [v, .ty T] H Q := by
  rcases hv with ⟨x, rfl, _⟩ | ⟨i, rfl⟩ | ⟨b, rfl⟩ | ⟨k, h⟩
  · refine .inl ⟨_, _, _, rfl, ?_, q⟩
    rcases hT with rfl | rfl | rfl <;> simp [isiV, isiB]
  · refine .inl ⟨_, _, _, rfl, ?_, q⟩
    rcases hT with rfl | rfl | rfl <;> simp [isiV, isiB]
  · refine .inl ⟨_, _, _, rfl, ?_, q⟩
    rcases hT with rfl | rfl | rfl <;> simp [isiV, isiB]
  · refine .inr ⟨_, _, _, rfl, h, hT, ?_⟩
    cases h <;> exact q
def inA (y : Str) : Bool := !(Builtin.Str.occurrences abc y 0 abc.length 1).isEmpty
def allIn (x : Str) : Bool := ((List.range x.cps.size).map fun i => inA (sgn x i)).all id
def letB (l : Nat) : V → Bool
  | .str x => decide (l ≤ x.length) && (decide (x.length ≤ 8) && allIn x)
  | _ => false
def nameB (v : V) : Bool := letB 1 v && !inV v words
def valB (v : V) : Bool := whole v || letB 0 v
def sp_whole (K : PySem.W.Frag) : Sp := fun vs H Q _ => ∃ v, vs = [v] ∧ Th K H v ∧ Q (.bl (whole v)) H
def sp_b (K : PySem.W.Frag) (f : V → Bool) : Sp := fun vs H Q _ => ∃ v, vs = [v] ∧ Th K H v ∧ ∀ H', Same H H' → Q (.bl (f v)) H'
def sp_kind (K : PySem.W.Frag) : Sp := fun vs H Q _ => ∃ v, vs = [v] ∧ Th K H v ∧ Q (.str (if whole v then "number" else "word")) H
def sp_law (K : PySem.W.Frag) : Sp := fun vs H Q _ => ∃ (a : Addr) (ns : List Int), vs = [.ref a] ∧ SqL K H a (ns.map V.int) ∧ ns.length ≤ 63 ∧ ∀ H', Q (.bl true) H'
theorem sp_law_of {K : PySem.W.Frag} {H : Hp} {a : Addr} {ns : List Int} (h : ns.length ≤ 63) (hS : SqL K H a (ns.map V.int)) : sp_law K [.ref a] H (fun v _ => v = .bl true) fun _ _ _ => False :=
  ⟨a, ns, rfl, hS, h, fun _ => rfl⟩
theorem sc_is_whole : FnScope ["thing"] ["thing"] (defScope s_is_whole) := ⟨rfl, rfl, rfl, by decide +kernel, rfl, by decide +kernel, by decide +kernel⟩
theorem sc_is_word : FnScope ["thing"] ["thing"] (defScope s_is_word) := ⟨rfl, rfl, rfl, by decide +kernel, rfl, by decide +kernel, by decide +kernel⟩
theorem sc_is_one_of : FnScope ["thing", "texts"] ["thing", "texts"] (defScope s_is_one_of) := ⟨rfl, rfl, rfl, by decide +kernel, rfl, by decide +kernel, by decide +kernel⟩
theorem sc_is_tuple_of : FnScope ["thing", "least", "most", "is_part"] ["thing", "least", "most", "is_part"] (defScope s_is_tuple_of) := ⟨rfl, rfl, rfl, by decide +kernel, rfl, by decide +kernel, by decide +kernel⟩
theorem sc_are_unlike : FnScope ["names"] ["names"] (defScope s_are_unlike) := ⟨rfl, rfl, rfl, by decide +kernel, rfl, by decide +kernel, by decide +kernel⟩
theorem sc_names_of : FnScope ["head"] ["head"] (defScope s_names_of) := ⟨rfl, rfl, rfl, by decide +kernel, rfl, by decide +kernel, by decide +kernel⟩
theorem sc_is_name : FnScope ["thing"] ["thing"] (defScope s_is_name) := ⟨rfl, rfl, rfl, by decide +kernel, rfl, by decide +kernel, by decide +kernel⟩
theorem sc_is_value : FnScope ["thing"] ["thing"] (defScope s_is_value) := ⟨rfl, rfl, rfl, by decide +kernel, rfl, by decide +kernel, by decide +kernel⟩
theorem sc_kind_of : FnScope ["value"] ["value"] (defScope s_kind_of) := ⟨rfl, rfl, rfl, by decide +kernel, rfl, by decide +kernel, by decide +kernel⟩
theorem sc_is_other : FnScope ["thing"] ["thing"] (defScope s_is_other) := ⟨rfl, rfl, rfl, by decide +kernel, rfl, by decide +kernel, by decide +kernel⟩
theorem sc_is_test : FnScope ["thing"] ["thing"] (defScope s_is_test) := ⟨rfl, rfl, rfl, by decide +kernel, rfl, by decide +kernel, by decide +kernel⟩
theorem sc_is_pair : FnScope ["thing"] ["thing"] (defScope s_is_pair) := ⟨rfl, rfl, rfl, by decide +kernel, rfl, by decide +kernel, by decide +kernel⟩
theorem sc_is_sum : FnScope ["thing"] ["thing"] (defScope s_is_sum) := ⟨rfl, rfl, rfl, by decide +kernel, rfl, by decide +kernel, by decide +kernel⟩
theorem sc_is_key : FnScope ["thing"] ["thing"] (defScope s_is_key) := ⟨rfl, rfl, rfl, by decide +kernel, rfl, by decide +kernel, by decide +kernel⟩
theorem sc_is_many : FnScope ["thing"] ["thing"] (defScope s_is_many) := ⟨rfl, rfl, rfl, by decide +kernel, rfl, by decide +kernel, by decide +kernel⟩
theorem sc_are_tests : FnScope ["thing"] ["thing"] (defScope s_are_tests) := ⟨rfl, rfl, rfl, by decide +kernel, rfl, by decide +kernel, by decide +kernel⟩
theorem sc_are_names : FnScope ["thing"] ["thing"] (defScope s_are_names) := ⟨rfl, rfl, rfl, by decide +kernel, rfl, by decide +kernel, by decide +kernel⟩
theorem sc_are_group_names : FnScope ["thing"] ["thing"] (defScope s_are_group_names) := ⟨rfl, rfl, rfl, by decide +kernel, rfl, by decide +kernel, by decide +kernel⟩
theorem sc_are_pairs : FnScope ["thing"] ["thing"] (defScope s_are_pairs) := ⟨rfl, rfl, rfl, by decide +kernel, rfl, by decide +kernel, by decide +kernel⟩
theorem sc_are_sums : FnScope ["thing"] ["thing"] (defScope s_are_sums) := ⟨rfl, rfl, rfl, by decide +kernel, rfl, by decide +kernel, by decide +kernel⟩
theorem sc_are_keys : FnScope ["thing"] ["thing"] (defScope s_are_keys) := ⟨rfl, rfl, rfl, by decide +kernel, rfl, by decide +kernel, by decide +kernel⟩
theorem sc_may_be_question : FnScope ["thing"] ["thing"] (defScope s_may_be_question) := ⟨rfl, rfl, rfl, by decide +kernel, rfl, by decide +kernel, by decide +kernel⟩
theorem sc_has_form : FnScope ["thing", "form"] ["thing"] (defScope s_has_form) := ⟨rfl, rfl, rfl, by decide +kernel, rfl, by decide +kernel, by decide +kernel⟩
theorem sc_questions_in : FnScope ["question"] ["question"] (defScope s_questions_in) := ⟨rfl, rfl, rfl, by decide +kernel, rfl, by decide +kernel, by decide +kernel⟩
theorem sc_own_size : FnScope ["question"] ["question"] (defScope s_own_size) := ⟨rfl, rfl, rfl, by decide +kernel, rfl, by decide +kernel, by decide +kernel⟩
theorem sc_checked : FnScope ["thing", "size", "waiting", "part"] ["thing"] (defScope s_checked) := ⟨rfl, rfl, rfl, by decide +kernel, rfl, by decide +kernel, by decide +kernel⟩
theorem sc_kind_in : FnScope ["head", "name", "column"] ["head", "name"] (defScope s_kind_in) := ⟨rfl, rfl, rfl, by decide +kernel, rfl, by decide +kernel, by decide +kernel⟩
theorem sc_need_like_kinds : FnScope ["kinds", "others"] ["kinds", "others"] (defScope s_need_like_kinds) := ⟨rfl, rfl, rfl, by decide +kernel, rfl, by decide +kernel, by decide +kernel⟩
theorem sc_need_unlike : FnScope ["names"] ["names"] (defScope s_need_unlike) := ⟨rfl, rfl, rfl, by decide +kernel, rfl, by decide +kernel, by decide +kernel⟩
theorem sc_table_head : FnScope ["heads", "name"] ["heads", "name"] (defScope s_table_head) := ⟨rfl, rfl, rfl, by decide +kernel, rfl, by decide +kernel, by decide +kernel⟩
theorem sc_other_kind : FnScope ["head", "other"] ["head", "other"] (defScope s_other_kind) := ⟨rfl, rfl, rfl, by decide +kernel, rfl, by decide +kernel, by decide +kernel⟩
theorem sc_where_head : FnScope ["head", "tests"] ["head", "tests"] (defScope s_where_head) := ⟨rfl, rfl, rfl, by decide +kernel, rfl, by decide +kernel, by decide +kernel⟩
theorem sc_keep_head : FnScope ["head", "names"] ["head", "names"] (defScope s_keep_head) := ⟨rfl, rfl, rfl, by decide +kernel, rfl, by decide +kernel, by decide +kernel⟩
theorem sc_named_head : FnScope ["head", "names"] ["head", "names"] (defScope s_named_head) := ⟨rfl, rfl, rfl, by decide +kernel, rfl, by decide +kernel, by decide +kernel⟩
theorem sc_join_head : FnScope ["head", "other", "pairs", "here", "there"] ["head", "other", "pairs"] (defScope s_join_head) := ⟨rfl, rfl, rfl, by decide +kernel, rfl, by decide +kernel, by decide +kernel⟩
theorem sc_sum_kind : FnScope ["head", "part"] ["head", "part"] (defScope s_sum_kind) := ⟨rfl, rfl, rfl, by decide +kernel, rfl, by decide +kernel, by decide +kernel⟩
theorem sc_group_head : FnScope ["head", "names", "sums", "kept", "made", "part", "column"] ["head", "names", "sums"] (defScope s_group_head) := ⟨rfl, rfl, rfl, by decide +kernel, rfl, by decide +kernel, by decide +kernel⟩
theorem sc_first_head : FnScope ["head", "keys", "names"] ["head", "keys"] (defScope s_first_head) := ⟨rfl, rfl, rfl, by decide +kernel, rfl, by decide +kernel, by decide +kernel⟩
theorem sc_head_here : FnScope ["heads", "question", "inner", "sort"] ["heads", "question", "inner"] (defScope s_head_here) := ⟨rfl, rfl, rfl, by decide +kernel, rfl, by decide +kernel, by decide +kernel⟩
theorem sc_head_within : FnScope ["heads", "question", "inner", "head"] ["heads", "question"] (defScope s_head_within) := ⟨rfl, rfl, rfl, by decide +kernel, rfl, by decide +kernel, by decide +kernel⟩
theorem sc_head_of : FnScope ["heads", "question"] ["heads", "question"] (defScope s_head_of) := ⟨rfl, rfl, rfl, by decide +kernel, rfl, by decide +kernel, by decide +kernel⟩
theorem sc__law_seed : FnScope ["_law_script", "_law_seed_here", "_law_k", "_law_cell"] ["_law_script"] (defScope s__law_seed) := ⟨rfl, rfl, rfl, by decide +kernel, rfl, by decide +kernel, by decide +kernel⟩
theorem sc__law_next : FnScope ["_law_state", "_law_many"] ["_law_state", "_law_many"] (defScope s__law_next) := ⟨rfl, rfl, rfl, by decide +kernel, rfl, by decide +kernel, by decide +kernel⟩
theorem sc__law_words : FnScope ["_law_words_here"] [] (defScope s__law_words) := ⟨rfl, rfl, rfl, by decide +kernel, rfl, by decide +kernel, by decide +kernel⟩
theorem sc__law_names : FnScope ["_law_state", "_law_many", "_law_small", "_law_odd", "_law_base", "_law_k", "_law_at", "_law_names_here"] ["_law_state", "_law_many"] (defScope s__law_names) := ⟨rfl, rfl, rfl, by decide +kernel, rfl, by decide +kernel, by decide +kernel⟩
theorem sc__law_great : FnScope ["_law_state", "_law_number", "_law_k"] ["_law_state"] (defScope s__law_great) := ⟨rfl, rfl, rfl, by decide +kernel, rfl, by decide +kernel, by decide +kernel⟩
theorem sc__law_value : FnScope ["_law_state", "_law_kind", "_law_way", "_law_word", "_law_k"] ["_law_state", "_law_kind"] (defScope s__law_value) := ⟨rfl, rfl, rfl, by decide +kernel, rfl, by decide +kernel, by decide +kernel⟩
theorem sc__law_head : FnScope ["_law_state", "_law_names_here", "_law_start", "_law_head_here", "_law_k", "_law_kind"] ["_law_state", "_law_names_here"] (defScope s__law_head) := ⟨rfl, rfl, rfl, by decide +kernel, rfl, by decide +kernel, by decide +kernel⟩
theorem sc__law_tests : FnScope ["_law_state", "_law_head_here", "_law_tests_here", "_law_k", "_law_name", "_law_kind", "_law_other", "_law_alike_here"] ["_law_state", "_law_head_here"] (defScope s__law_tests) := ⟨rfl, rfl, rfl, by decide +kernel, rfl, by decide +kernel, by decide +kernel⟩
theorem sc__law_some : FnScope ["_law_state", "_law_head_here", "_law_least", "_law_some_here"] ["_law_state", "_law_head_here", "_law_least"] (defScope s__law_some) := ⟨rfl, rfl, rfl, by decide +kernel, rfl, by decide +kernel, by decide +kernel⟩
theorem sc__law_sums : FnScope ["_law_state", "_law_head_here", "_law_fresh_here", "_law_sums_here", "_law_k", "_law_name", "_law_kind", "_law_many", "_law_word"] ["_law_state", "_law_head_here", "_law_fresh_here"] (defScope s__law_sums) := ⟨rfl, rfl, rfl, by decide +kernel, rfl, by decide +kernel, by decide +kernel⟩
theorem sc__law_group : FnScope ["_law_state", "_law_question_here", "_law_head_here", "_law_names_here", "_law_got", "_law_some_here", "_law_fresh_here", "_law_sums_here", "_law_word", "_law_name", "_law_new", "_law_kind"] ["_law_state", "_law_question_here", "_law_head_here", "_law_names_here"] (defScope s__law_group) := ⟨rfl, rfl, rfl, by decide +kernel, rfl, by decide +kernel, by decide +kernel⟩
theorem sc__law_keys : FnScope ["_law_state", "_law_head_here", "_law_some_here"] ["_law_state", "_law_head_here"] (defScope s__law_keys) := ⟨rfl, rfl, rfl, by decide +kernel, rfl, by decide +kernel, by decide +kernel⟩
theorem sc__law_fresh : FnScope ["_law_question_here", "_law_head_here", "_law_own", "_law_names_here", "_law_used", "_law_fresh_here", "_law_got"] ["_law_question_here", "_law_head_here", "_law_own", "_law_names_here"] (defScope s__law_fresh) := ⟨rfl, rfl, rfl, by decide +kernel, rfl, by decide +kernel, by decide +kernel⟩
theorem sc__law_join : FnScope ["_law_state", "_law_question_here", "_law_head_here", "_law_other", "_law_other_head", "_law_names_here", "_law_pairs", "_law_c", "_law_kind", "_law_pair", "_law_left"] ["_law_state", "_law_question_here", "_law_head_here", "_law_other", "_law_other_head", "_law_names_here"] (defScope s__law_join) := ⟨rfl, rfl, rfl, by decide +kernel, rfl, by decide +kernel, by decide +kernel⟩
theorem sc__law_question : FnScope ["_law_state", "_law_heads", "_law_names_here", "_law_deep", "_law_name", "_law_way", "_law_question_here", "_law_head_here", "_law_some_here", "_law_turn", "_law_fresh_here", "_law_got", "_law_other", "_law_other_head"] ["_law_state", "_law_heads", "_law_names_here", "_law_deep"] (defScope s__law_question) := ⟨rfl, rfl, rfl, by decide +kernel, rfl, by decide +kernel, by decide +kernel⟩
theorem sc__law_more : FnScope ["_law_state", "_law_question_here", "_law_head_here", "_law_names_here", "_law_fresh_here", "_law_sums_here", "_law_got", "_law_turn", "_law_test"] ["_law_state", "_law_question_here", "_law_head_here", "_law_names_here"] (defScope s__law_more) := ⟨rfl, rfl, rfl, by decide +kernel, rfl, by decide +kernel, by decide +kernel⟩
theorem sc__law_alike : FnScope ["_law_found", "_law_due", "_law_k"] ["_law_found", "_law_due"] (defScope s__law_alike) := ⟨rfl, rfl, rfl, by decide +kernel, rfl, by decide +kernel, by decide +kernel⟩
theorem sc_law : FnScope ["_law_script", "_law_state", "_law_names_here", "_law_heads", "_law_k", "_law_got", "_law_question_here", "_law_head_here", "_law_handed"] ["_law_script"] (defScope s_law) := ⟨rfl, rfl, rfl, by decide +kernel, rfl, by decide +kernel, by decide +kernel⟩
section
variable {P : Program} {w : World} {K : PySem.W.Frag} {mg : Str → Option Value} {base : Heap}
theorem ok_is_whole (T : Txt w K mg) : Ok P w K mg base 1 "is_whole" ["thing"] (sp_whole K) := by
  refine Ok.ofV T.d_is_whole sc_is_whole (fun vs H Q E h => ?_) (fun f cdv A outer s H vs Q E hr h => ?_)
  · obtain ⟨v, rfl, _⟩ := h; rfl
  obtain ⟨v, rfl, hv, q⟩ := h
  refine ⟨_, (vss_one (vs_ret (ve_and (ve_callB (call_isi.or call_isiR) (by rfl) T.n_isinstance bf_isinstance (va_c (vv 0) (va_c (ve_bltn (v := .ty "int") (by rfl) T.n_int bt_int rfl) va_nil))) (ve_one (ve_not (ve_callB (call_isi.or call_isiR) (by rfl) T.n_isinstance bf_isinstance (va_c (vv 0) (va_c (ve_bltn (v := .ty "bool") (by rfl) T.n_bool bt_bool rfl) va_nil)))))))), ?_⟩
  refine ⟨_, rfl, isi_any hv (.inl rfl) ⟨_, rfl, ?_⟩⟩
  rcases id hv with ⟨x, rfl, _⟩ | ⟨i, rfl⟩ | ⟨b, rfl⟩ | ⟨k, h⟩
  · exact iteF q
  · exact iteT ⟨_, rfl, isi_any hv (.inr (.inl rfl)) ⟨_, rfl, q⟩⟩
  · exact iteT ⟨_, rfl, isi_any hv (.inr (.inl rfl)) ⟨_, rfl, q⟩⟩
  · cases h <;> exact iteF q
theorem signs_bl (x : Str) : (((List.range x.cps.size).map fun i => V.str (sgn x i)).map fun v => match v with | .str y => V.bl (inA y) | _ => .bl false) = (((List.range x.cps.size).map fun i => inA (sgn x i)).map V.bl) := by
  rw [List.map_map, List.map_map]
  rfl
theorem ok_is_word (T : Txt w K mg) : Ok P w K mg base 1 "is_word" ["thing"] (sp_b K (letB 0)) := by
  refine Ok.ofV T.d_is_word sc_is_word (fun vs H Q E h => ?_) (fun f cdv A outer s H vs Q E hr h => ?_)
  · obtain ⟨v, rfl, _⟩ := h; rfl
  obtain ⟨v, rfl, hv, q⟩ := h
  refine ⟨_, (vss_cons (vs_if (VW.pt (vw_or (vt_not (vt_val (ve_callB (call_isi.or call_isiR) (by rfl) T.n_isinstance bf_isinstance (va_c (vv 0) (va_c (ve_bltn (v := .ty "str") (by rfl) T.n_str bt_str rfl) va_nil))))) (vw_or1 (vt_cmpR op_gt (ve_callB call_len_str (by rfl) T.n_len bf_len (va_c (vv 0) va_nil)) (ve_gl (by rfl) T.g_MOST_LETTERS) (nomark _))))) (vss_one (vs_ret ve_bl)) vss_nil) (vss_one (vs_ret (ve_callB (call_all rfl) (by rfl) T.n_all bf_all (va_c (ve_comp (N := ["sign"]) ⟨by decide +kernel, rfl, by decide +kernel, by decide +kernel⟩ (hfr_none (by decide +kernel)) rfl (vi_str (vv 0)) (fun cl s' H' fp => ⟨(vg_name (i := 0) (show (["sign"] : List Str).Nodup from by decide +kernel) rfl (Or.inl rfl)), vf_nil, (ve_cmpR op_in_str (vv 0) (ve_gl (by rfl) T.g_LETTERS) (by with_unfolding_all rfl))⟩)) va_nil))))), ?_⟩
  refine ⟨_, rfl, isi_any hv (.inr (.inr rfl)) ⟨_, rfl, ?_⟩⟩
  have no : isS v = false → Q (.bl false) H := fun e => by
    have z : letB 0 v = false := by cases v <;> first | rfl | cases e
    rw [← z]; exact q H (Same.refl H)
  rcases id hv with ⟨x, rfl, hx⟩ | ⟨i, rfl⟩ | ⟨b, rfl⟩ | ⟨k, h⟩
  · refine iteF ⟨_, rfl, _, rfl, small hx, _, _, rfl, rfl, _, rfl, ?_⟩
    refine ite2 (fun c => ?_) (fun c => ?_)
    · have c' : (8 : Int) < x.length := of_decide_eq_true c
      have z : letB 0 (.str x) = false := by
        show (decide (0 ≤ x.length) && (decide (x.length ≤ 8) && allIn x)) = false
        rw [decide_eq_false (p := x.length ≤ 8) (by omega)]
        simp
      rw [← z]; exact q H (Same.refl H)
    · have c' : ¬ (8 : Int) < x.length := of_decide_eq_false (Bool.eq_false_iff.mpr c)
      dsimp only [tNext, tRet, tCB, tCons]
      refine comp_pure ((List.range x.cps.size).map fun i => V.str (sgn x i)) (fun v => match v with | .str y => V.bl (inA y) | _ => .bl false) [none] cap_none1 ?_
        (fun R r => wi_str (z := x) (fun R' r' => ⟨_, rfl, r'⟩) R r) (fun v hv' H' R l sm r => ?_) rfl fun D hD => ?_
      · rw [List.length_map, List.length_range]; exact small hx
      · obtain ⟨i, _, rfl⟩ := List.mem_map.mp hv'
        exact ⟨_, rfl, _, _, rfl, rfl, r⟩
      · refine ⟨D, (List.range x.cps.size).map fun i => inA (sgn x i), rfl, SqL.of (by rw [upd_same, signs_bl]), ?_⟩
        have z : letB 0 (.str x) = allIn x := by
          show (decide (0 ≤ x.length) && (decide (x.length ≤ 8) && allIn x)) = allIn x
          rw [decide_eq_true (p := x.length ≤ 8) (by omega)]
          simp
        show Q (.bl (allIn x)) _
        rw [← z]
        exact q _ (same_new hD _)
  · exact iteT (no rfl)
  · exact iteT (no rfl)
  · cases h <;> exact iteT (no rfl)
theorem let_len {v : V} {l : Nat} (h : letB l v = true) : ∃ x, v = .str x ∧ l ≤ x.length ∧ x.length ≤ 8 ∧ allIn x = true := by
  cases v with
  | str x =>
    have h : (decide (l ≤ x.length) && (decide (x.length ≤ 8) && allIn x)) = true := h
    rw [Bool.and_eq_true, Bool.and_eq_true] at h
    exact ⟨x, rfl, of_decide_eq_true h.1, of_decide_eq_true h.2.1, h.2.2⟩
  | _ => cases h
theorem str_empty {x : Str} : x = ("" : Str) ↔ x.length = 0 := by
  constructor
  · rintro rfl; decide +kernel
  · intro h
    obtain ⟨cps⟩ := x
    have h : cps.size = 0 := h
    rw [Array.size_eq_zero_iff] at h
    subst h
    decide +kernel
theorem words_flat : words.all flatV = true := rfl
theorem ok_is_name (T : Txt w K mg) (G_is_word : Ok P w K mg base 1 "is_word" ["thing"] (sp_b K (letB 0))) : Ok P w K mg base 2 "is_name" ["thing"] (sp_b K nameB) := by
  refine Ok.ofV T.d_is_name sc_is_name (fun vs H Q E h => ?_) (fun f cdv A outer s H vs Q E hr h => ?_)
  · obtain ⟨v, rfl, _⟩ := h; rfl
  obtain ⟨v, rfl, hv, q⟩ := h
  obtain ⟨qa, mq, hqa⟩ := T.g_QUESTION_WORDS
  have g_QUESTION_WORDS : ∃ u, mg "QUESTION_WORDS" = some u ∧ RelV (.ref qa) u := ⟨_, mq, rfl⟩
  refine ⟨_, (vss_one (vs_ret (ve_and (ve_fn (G_is_word.mono (by decide)) hr (by rfl) (va_c (vv 0) va_nil)) (ve_and (ve_cmpR op_ne (vv 0) ve_str (nomark _)) (ve_one (ve_cmpR op_notIn_seq (vv 0) (ve_gl (by rfl) g_QUESTION_WORDS) (by with_unfolding_all rfl))))))), ?_⟩
  refine ⟨_, rfl, _, rfl, hv, fun H1 s1 => ⟨_, rfl, ?_⟩⟩
  refine ite2 (fun c => ?_) (fun c => ?_)
  · obtain ⟨x, rfl, _, h8, ha⟩ := let_len c
    refine ⟨_, rfl, rfl, _, rfl, ?_⟩
    by_cases e : x.length = 0
    · have ex := str_empty.mpr e
      subst ex
      refine iteF ?_
      have z : nameB (.str "") = false := by decide +kernel
      rw [← z]; exact q H1 s1
    · have ne : ¬ (V.str x = V.str "") := fun z => e (str_empty.mp (V.str.inj z))
      have e2 : (!decide (V.str x = V.str "")) = true := by rw [decide_eq_false ne]; rfl
      rw [e2]
      refine iteT ⟨_, rfl, qa, words, rfl, .inr (hqa _), rfl, words_flat, ?_⟩
      have z : nameB (.str x) = !inV (.str x) words := by
        show ((decide (1 ≤ x.length) && (decide (x.length ≤ 8) && allIn x)) && !inV (.str x) words) = !inV (.str x) words
        rw [decide_eq_true (p := 1 ≤ x.length) (by omega), decide_eq_true h8, ha]
        rfl
      show Q (.bl (!inV (.str x) words)) H1
      rw [← z]; exact q H1 s1
  · have z : nameB v = false := by
      show (letB 1 v && !inV v words) = false
      cases hv1 : letB 1 v with
      | false => rfl
      | true =>
        obtain ⟨x, rfl, h1, h8, ha⟩ := let_len hv1
        refine absurd ?_ c
        show (decide (0 ≤ x.length) && (decide (x.length ≤ 8) && allIn x)) = true
        rw [decide_eq_true h8, ha, decide_eq_true (Nat.zero_le _)]
        rfl
    rw [← z]; exact q H1 s1
theorem ok_is_value (T : Txt w K mg) (G_is_whole : Ok P w K mg base 1 "is_whole" ["thing"] (sp_whole K)) (G_is_word : Ok P w K mg base 1 "is_word" ["thing"] (sp_b K (letB 0))) :
    Ok P w K mg base 2 "is_value" ["thing"] (sp_b K valB) := by
  refine Ok.ofV T.d_is_value sc_is_value (fun vs H Q E h => ?_) (fun f cdv A outer s H vs Q E hr h => ?_)
  · obtain ⟨v, rfl, _⟩ := h; rfl
  obtain ⟨v, rfl, hv, q⟩ := h
  refine ⟨_, (vss_one (vs_ret (ve_or (ve_fn (G_is_whole.mono (by decide)) hr (by rfl) (va_c (vv 0) va_nil)) (ve_one (ve_fn (G_is_word.mono (by decide)) hr (by rfl) (va_c (vv 0) va_nil)))))), ?_⟩
  refine ⟨_, rfl, _, rfl, hv, _, rfl, ?_⟩
  cases hw : whole v with
  | true =>
    refine iteT ?_
    have z : valB v = true := by show (whole v || letB 0 v) = true; rw [hw]; rfl
    rw [← z]; exact q H (Same.refl H)
  | false =>
    refine iteF ⟨_, rfl, _, rfl, hv, fun H1 s1 => ?_⟩
    have z : valB v = letB 0 v := by show (whole v || letB 0 v) = letB 0 v; rw [hw]; rfl
    rw [← z]; exact q H1 s1
theorem ok_kind_of (T : Txt w K mg) (G_is_whole : Ok P w K mg base 1 "is_whole" ["thing"] (sp_whole K)) : Ok P w K mg base 2 "kind_of" ["value"] (sp_kind K) := by
  refine Ok.ofV T.d_kind_of sc_kind_of (fun vs H Q E h => ?_) (fun f cdv A outer s H vs Q E hr h => ?_)
  · obtain ⟨v, rfl, _⟩ := h; rfl
  obtain ⟨v, rfl, hv, q⟩ := h
  refine ⟨_, (vss_one (vs_ret (ve_ifExp (vt_val (ve_fn (G_is_whole.mono (by decide)) hr (by rfl) (va_c (vv 0) va_nil))) ve_str ve_str))), ?_⟩
  refine ⟨_, rfl, _, rfl, hv, _, rfl, ?_⟩
  cases hw : whole v with
  | true => rw [hw] at q; exact iteT q
  | false => rw [hw] at q; exact iteF q
theorem at0 (x : V) (r : List V) : atI (x :: r) 0 = some x := by
  unfold atI ixN
  simp
theorem at1 (x y : V) (r : List V) : atI (x :: y :: r) 1 = some y := by
  unfold atI ixN
  simp only [List.length_cons]
  rw [if_pos (by omega), if_pos (by omega)]
  rfl
structure Tells (R : Hp → V → Bool → Prop) : Prop where
  same : ∀ {H H' v b}, Same H H' → R H v b → R H' v b
def sp_r (R : Hp → V → Bool → Prop) : Sp := fun vs H Q _ => ∃ v b, vs = [v] ∧ R H v b ∧ ∀ H', Same H H' → Q (.bl b) H'
inductive TupOf (K : PySem.W.Frag) (R : Hp → V → Bool → Prop) (lo hi : Nat) (H : Hp) : V → Bool → Prop
  | no {v} : Tk K H v false → TupOf K R lo hi H v false
  | len {a xs} : SqT K H a xs → ¬ (lo ≤ xs.length ∧ xs.length ≤ hi) → TupOf K R lo hi H (.ref a) false
  | yes {a xs} (f : V → Bool) : SqT K H a xs → lo ≤ xs.length → xs.length ≤ hi → (∀ x ∈ xs, R H x (f x)) → TupOf K R lo hi H (.ref a) (xs.all f)
def sp_one (K : PySem.W.Frag) : Sp := fun vs H Q _ => ∃ v a xs, vs = [v, .ref a] ∧ Th K H v ∧ SqT K H a xs ∧ xs.all flatV = true ∧ Q (.bl (isS v && inV v xs)) H
def sp_tupof (P : Program) (w : World) (K : PySem.W.Frag) (mg : Str → Option Value) (base : Heap) (k : Nat) : Sp := fun vs H Q _ => ∃ v lo hi f ps R b, vs = [v, .int (lo : Nat), .int (hi : Nat), .ref f] ∧ hi ≤ 1000 ∧ Held P w K mg base k f ps (sp_r R) ∧ Tells R ∧ TupOf K R lo hi H v b ∧ ∀ H', Same H H' → Q (.bl b) H'
def sp_unlike (K : PySem.W.Frag) : Sp := fun vs H Q _ => ∃ a ss, vs = [.ref a] ∧ SqL K H a (ss.map V.str) ∧ ss.length ≤ 1000 ∧ ∀ H', Same H H' → Q (.bl (decide ((metS ss).length = ss.length))) H'
theorem ok_is_one_of (T : Txt w K mg) : Ok P w K mg base 1 "is_one_of" ["thing", "texts"] (sp_one K) := by
  refine Ok.ofV T.d_is_one_of sc_is_one_of (fun vs H Q E h => ?_) (fun f cdv A outer s H vs Q E hr h => ?_)
  · obtain ⟨v, a, xs, rfl, _⟩ := h; rfl
  obtain ⟨v, a, xs, rfl, hv, ha, hf, q⟩ := h
  refine ⟨_, (vss_one (vs_ret (ve_and (ve_callB (call_isi.or call_isiR) (by rfl) T.n_isinstance bf_isinstance (va_c (vv 0) (va_c (ve_bltn (v := .ty "str") (by rfl) T.n_str bt_str rfl) va_nil))) (ve_one (ve_cmpR op_in_seq (vv 0) (vv 1) (by with_unfolding_all rfl)))))), ?_⟩
  refine ⟨_, rfl, isi_any hv (.inr (.inr rfl)) ⟨_, rfl, ?_⟩⟩
  rcases id hv with ⟨x, rfl, _⟩ | ⟨i, rfl⟩ | ⟨b, rfl⟩ | ⟨k, h⟩
  · exact iteT ⟨_, rfl, _, rfl, a, xs, rfl, .inr ha, rfl, hf, q⟩
  · exact iteF q
  · exact iteF q
  · cases h <;> exact iteF q
theorem ok_is_tuple_of {k : Nat} (T : Txt w K mg) : Ok P w K mg base (k + 1) "is_tuple_of" ["thing", "least", "most", "is_part"] (sp_tupof P w K mg base k) := by
  refine Ok.ofV T.d_is_tuple_of sc_is_tuple_of (fun vs H Q E h => ?_) (fun f cdv A outer s H vs Q E hr h => ?_)
  · obtain ⟨v, lo, hi, f, ps, R, b, rfl, _⟩ := h; rfl
  obtain ⟨v, lo, hi, g, ps, R, b, rfl, h1000, hg, hR, hv, q⟩ := h
  refine ⟨_, (vss_cons (vs_if (VW.pt (vw_or (vt_not (vt_val (ve_callB call_isiT (by rfl) T.n_isinstance bf_isinstance (va_c (vv 0) (va_c (ve_bltn (v := .ty "tuple") (by rfl) T.n_tuple bt_tuple rfl) va_nil))))) (vw_or1 (vt_not (vt_chain op_le op_le (vv 1) (ve_callB call_len_seq (by rfl) T.n_len bf_len (va_c (vv 0) va_nil)) (vv 2)))))) (vss_one (vs_ret ve_bl)) vss_nil) (vss_one (vs_ret (ve_callB (call_all rfl) (by rfl) T.n_all bf_all (va_c (ve_comp (N := ["part", "is_part"]) ⟨by decide +kernel, rfl, by decide +kernel, by decide +kernel⟩ (hfr_of (defScope s_is_tuple_of) rfl (by decide +kernel)) rfl (vi_tup (vv 0)) (fun cl s' H' fp => ⟨(vg_name (i := 0) (show (["part", "is_part"] : List Str).Nodup from by decide +kernel) rfl (Or.inl rfl)), vf_nil, (ve_heldK (P := P) (w := w) (K := K) (mg := mg) (base := base) hr (vv 1) (va_c (vv 0) va_nil))⟩)) va_nil))))), ?_⟩
  cases hv with
  | no h =>
    exact ⟨_, rfl, _, _, rfl, h, _, rfl, iteT (q H (Same.refl H))⟩
  | @len a xs ha hn =>
    refine ⟨_, rfl, _, _, rfl, .tup ha, _, rfl, iteF ?_⟩
    refine ⟨_, rfl, _, rfl, _, _, rfl, .inr ha, _, _, rfl, rfl, _, rfl, ?_⟩
    refine ite2 (fun c => ⟨_, rfl, _, _, rfl, rfl, _, rfl, ?_⟩) (fun c => ⟨_, rfl, iteT (q H (Same.refl H))⟩)
    have c' : (lo : Int) ≤ xs.length := of_decide_eq_true c
    have e : decide ((xs.length : Int) ≤ (hi : Int)) = false := decide_eq_false fun z => hn ⟨by omega, by omega⟩
    rw [e]
    exact iteT (q H (Same.refl H))
  | @yes a xs t ha h1 h2 hx =>
    refine ⟨_, rfl, _, _, rfl, .tup ha, _, rfl, iteF ?_⟩
    refine ⟨_, rfl, _, rfl, _, _, rfl, .inr ha, _, _, rfl, rfl, _, rfl, ?_⟩
    have e1 : decide ((lo : Int) ≤ (xs.length : Int)) = true := decide_eq_true (by omega)
    have e2 : decide ((xs.length : Int) ≤ (hi : Int)) = true := decide_eq_true (by omega)
    rw [e1]
    refine iteT ⟨_, rfl, _, _, rfl, rfl, _, rfl, ?_⟩
    rw [e2]
    refine iteF ?_
    dsimp only [tNext, tRet, tCB, tCons]
    refine comp_same xs (fun x => .bl (t x)) [none, some (.ref g)] ?_ (small (by omega)) (fun R r => wi_tup ha (fun R' r' => ⟨_, rfl, r'⟩) R r) (fun x hx' H' R l sm r => ?_) rfl fun D H' sm hD => ?_
    · exact cap_at1 3 (by decide +kernel) rfl rfl (by first | exact Or.inl rfl | exact Or.inr (Or.inl rfl) | exact Or.inr (Or.inr rfl))
    · exact ⟨_, rfl, g, ps, _, rfl, hg, _, rfl, x, t x, rfl, hR.same sm (hx x hx'), r⟩
    · refine ⟨D, xs.map t, rfl, SqL.of (by rw [hD, List.map_map]; rfl), ?_⟩
      rw [List.all_map]
      exact q H' sm
theorem ok_are_unlike (T : Txt w K mg) : Ok P w K mg base 1 "are_unlike" ["names"] (sp_unlike K) := by
  refine Ok.ofV T.d_are_unlike sc_are_unlike (fun vs H Q E h => ?_) (fun f cdv A outer s H vs Q E hr h => ?_)
  · obtain ⟨a, ss, rfl, _⟩ := h; rfl
  obtain ⟨a, ss, rfl, ha, hl, q⟩ := h
  refine ⟨_, (vss_one (vs_ret (ve_cmpR op_eq (ve_callB call_lenTx (by rfl) T.n_len bf_len (va_c (ve_callTy (call_setTx rfl) (by rfl) T.n_set bt_set (va_c (vv 0) va_nil)) va_nil)) (ve_callB call_len_seq (by rfl) T.n_len bf_len (va_c (vv 0) va_nil)) (nomark _)))), ?_⟩
  refine ⟨_, rfl, a, ss, rfl, ha, hl, fun D hD => ⟨D, ss, rfl, upd_same, _, rfl, a, _, rfl, .inl ((same_new hD _).seq ha), rfl, ?_⟩⟩
  have e : decide (V.int ((metS ss).length : Nat) = V.int (ss.map V.str).length) = decide ((metS ss).length = ss.length) := by
    rw [List.length_map]
    by_cases z : (metS ss).length = ss.length
    · rw [z]; simp
    · rw [decide_eq_false z, decide_eq_false (by intro y; apply z; have := V.int.inj y; omega)]
  rw [e]
  exact q _ (same_new hD _)
theorem at2 (x y z : V) (r : List V) : atI (x :: y :: z :: r) 2 = some z := by
  unfold atI ixN
  simp only [List.length_cons]
  rw [if_pos (by omega), if_pos (by omega)]
  rfl
theorem th_str {K : PySem.W.Frag} {H : Hp} {x : Str} (h : x.length ≤ 8) : Th K H (.str x) := .inl ⟨x, rfl, by omega⟩
def Nm (x : Str) : Prop := nameB (.str x) = true
theorem name_len {x : Str} (h : nameB (.str x) = true) : x.length ≤ 8 := by
  have h : (letB 1 (.str x) && !inV (.str x) words) = true := h
  rw [Bool.and_eq_true] at h
  obtain ⟨y, e, _, h8, _⟩ := let_len h.1
  cases e
  exact h8
theorem Nm.th {K : PySem.W.Frag} {H : Hp} {x : Str} (h : Nm x) : Th K H (.str x) := th_str (name_len h)
abbrev signs : List V := [.str "=", .str "<", .str ">", .str "!"]
abbrev sumWords : List V := [.str "count", .str "sum", .str "least", .str "most"]
abbrev waysV : List V := [.str "up", .str "down"]
inductive Oth where
  | val (x : V)
  | col (d : Str)
structure Tst where
  c : Str
  sg : Str
  o : Oth
structure Sm where
  wd : Str
  c : Option Str
  new : Str
def IsO (K : PySem.W.Frag) (H : Hp) (v : V) : Oth → Prop
  | .val x => ∃ a, v = .ref a ∧ SqT K H a [.str "value", x] ∧ Th K H x ∧ valB x = true
  | .col d => ∃ a, v = .ref a ∧ SqT K H a [.str "column", .str d] ∧ Nm d
def SgOk (x : Str) : Prop := x = "=" ∨ x = "<" ∨ x = ">" ∨ x = "!"
def IsT (K : PySem.W.Frag) (H : Hp) (v : V) (t : Tst) : Prop := ∃ a w, v = .ref a ∧ SqT K H a [.str t.c, .str t.sg, w] ∧ Nm t.c ∧ SgOk t.sg ∧ IsO K H w t.o
def IsPr (K : PySem.W.Frag) (H : Hp) (v : V) (p : Str × Str) : Prop := ∃ a, v = .ref a ∧ SqT K H a [.str p.1, .str p.2] ∧ Nm p.1 ∧ Nm p.2
def IsKy (K : PySem.W.Frag) (H : Hp) (v : V) (p : Str × Str) : Prop := ∃ a, v = .ref a ∧ SqT K H a [.str p.1, .str p.2] ∧ Nm p.1 ∧ (p.2 = "up" ∨ p.2 = "down")
def WdOk (x : Str) : Prop := x = "sum" ∨ x = "least" ∨ x = "most"
def IsSm (K : PySem.W.Frag) (H : Hp) (v : V) (s : Sm) : Prop := ∃ a, v = .ref a ∧ Nm s.new ∧ ((s.wd = "count" ∧ s.c = none ∧ SqT K H a [.str "count", .non, .str s.new]) ∨ (∃ c, s.c = some c ∧ Nm c ∧ WdOk s.wd ∧ SqT K H a [.str s.wd, .str c, .str s.new]))
def IsN (v : V) (x : Str) : Prop := v = .str x ∧ Nm x
inductive All2 {α β : Type} (R : α → β → Prop) : List α → List β → Prop
  | nil : All2 R [] []
  | cons {a b as bs} : R a b → All2 R as bs → All2 R (a :: as) (b :: bs)
theorem All2.len {α β : Type} {R : α → β → Prop} {as : List α} {bs : List β} (h : All2 R as bs) : as.length = bs.length := by
  induction h with
  | nil => rfl
  | cons _ _ ih => rw [List.length_cons, List.length_cons, ih]
theorem All2.imp {α β : Type} {R S : α → β → Prop} {as : List α} {bs : List β} (h : All2 R as bs) (k : ∀ a b, R a b → S a b) : All2 S as bs := by
  induction h with
  | nil => exact .nil
  | cons r _ ih => exact .cons (k _ _ r) ih
theorem All2.mem {α β : Type} {R : α → β → Prop} {as : List α} {bs : List β} (h : All2 R as bs) {a : α} (m : a ∈ as) : ∃ b, b ∈ bs ∧ R a b := by
  induction h with
  | nil => cases m
  | cons r _ ih =>
    rcases List.mem_cons.mp m with rfl | m
    · exact ⟨_, List.mem_cons_self .., r⟩
    · obtain ⟨b, hb, q⟩ := ih m
      exact ⟨b, List.mem_cons_of_mem _ hb, q⟩
theorem All2.app {α β : Type} {R : α → β → Prop} {as cs : List α} {bs ds : List β} (h : All2 R as bs) (k : All2 R cs ds) : All2 R (as ++ cs) (bs ++ ds) := by
  induction h with
  | nil => exact k
  | cons r _ ih => exact .cons r ih
def TupR {α : Type} (K : PySem.W.Frag) (H : Hp) (R : V → α → Prop) (v : V) (xs : List α) : Prop := ∃ a vs, v = .ref a ∧ SqT K H a vs ∧ All2 R vs xs
theorem TupR.same {α : Type} {K : PySem.W.Frag} {H H' : Hp} {R S : V → α → Prop} {v : V} {xs : List α} (e : Same H H') (k : ∀ a b, R a b → S a b) (h : TupR K H R v xs) : TupR K H' S v xs := by
  obtain ⟨a, vs, rfl, ha, hr⟩ := h
  exact ⟨a, vs, rfl, e.seqT ha, hr.imp k⟩
theorem IsO.same {K : PySem.W.Frag} {H H' : Hp} {v : V} {o : Oth} (e : Same H H') (h : IsO K H v o) : IsO K H' v o := by
  cases o with
  | val x => obtain ⟨a, rfl, ha, hx, hv⟩ := h; exact ⟨a, rfl, e.seqT ha, hx.same e, hv⟩
  | col d => obtain ⟨a, rfl, ha, hd⟩ := h; exact ⟨a, rfl, e.seqT ha, hd⟩
theorem IsT.same {K : PySem.W.Frag} {H H' : Hp} {v : V} {t : Tst} (e : Same H H') (h : IsT K H v t) : IsT K H' v t := by
  obtain ⟨a, w, rfl, ha, h1, h2, h3⟩ := h
  exact ⟨a, w, rfl, e.seqT ha, h1, h2, h3.same e⟩
theorem IsPr.same {K : PySem.W.Frag} {H H' : Hp} {v : V} {t : Str × Str} (e : Same H H') (h : IsPr K H v t) : IsPr K H' v t := by
  obtain ⟨a, rfl, ha, h1⟩ := h
  exact ⟨a, rfl, e.seqT ha, h1⟩
theorem IsKy.same {K : PySem.W.Frag} {H H' : Hp} {v : V} {t : Str × Str} (e : Same H H') (h : IsKy K H v t) : IsKy K H' v t := by
  obtain ⟨a, rfl, ha, h1⟩ := h
  exact ⟨a, rfl, e.seqT ha, h1⟩
theorem IsSm.same {K : PySem.W.Frag} {H H' : Hp} {v : V} {t : Sm} (e : Same H H') (h : IsSm K H v t) : IsSm K H' v t := by
  obtain ⟨a, rfl, hn, h1⟩ := h
  refine ⟨a, rfl, hn, ?_⟩
  rcases h1 with ⟨x, y, z⟩ | ⟨c, x, y, z, u⟩
  · exact .inl ⟨x, y, e.seqT z⟩
  · exact .inr ⟨c, x, y, z, e.seqT u⟩
def YesR {α : Type} (K : PySem.W.Frag) (S : PySem.W.Frag → Hp → V → α → Prop) : Hp → V → Bool → Prop := fun H v b => b = true ∧ ∃ t, S K H v t
theorem yes_tells {α : Type} {K : PySem.W.Frag} {S : PySem.W.Frag → Hp → V → α → Prop} (st : ∀ {H H' v t}, Same H H' → S K H v t → S K H' v t) : Tells (YesR K S) := ⟨fun e h => ⟨h.1, let ⟨t, q⟩ := h.2; ⟨t, st e q⟩⟩⟩
def NameS (_ : PySem.W.Frag) (_ : Hp) (v : V) (x : Str) : Prop := IsN v x
theorem tupof {α : Type} {S : PySem.W.Frag → Hp → V → α → Prop} {lo hi : Nat} {H : Hp} {v : V} {xs : List α} (h : TupR K H (S K H) v xs) (h1 : lo ≤ xs.length) (h2 : xs.length ≤ hi) : TupOf K (YesR K S) lo hi H v true := by
  obtain ⟨a, vs, rfl, ha, hr⟩ := h
  have z := TupOf.yes (K := K) (R := YesR K S) (lo := lo) (hi := hi) (fun _ => true) ha (by rw [hr.len]; exact h1) (by rw [hr.len]; exact h2) (fun x hx => by
    obtain ⟨b, _, q⟩ := hr.mem hx
    exact ⟨rfl, b, q⟩)
  have e : vs.all (fun _ => true) = true := by rw [List.all_eq_true]; intro _ _; rfl
  rw [e] at z
  exact z
def TupS {α : Type} (S : PySem.W.Frag → Hp → V → α → Prop) (lo hi : Nat) : PySem.W.Frag → Hp → V → List α → Prop := fun K H v xs => TupR K H (S K H) v xs ∧ lo ≤ xs.length ∧ xs.length ≤ hi
theorem ok_is_other (T : Txt w K mg) (G_is_one_of : Ok P w K mg base 1 "is_one_of" ["thing", "texts"] (sp_one K)) (G_is_value : Ok P w K mg base 2 "is_value" ["thing"] (sp_b K valB)) (G_is_name : Ok P w K mg base 2 "is_name" ["thing"] (sp_b K nameB)) :
    Ok P w K mg base 3 "is_other" ["thing"] (sp_r (YesR K IsO)) := by
  refine Ok.ofV T.d_is_other sc_is_other (fun vs H Q E h => ?_) (fun f cdv A outer s H vs Q E hr h => ?_)
  · obtain ⟨v, b, rfl, _⟩ := h; rfl
  obtain ⟨v, b, rfl, ⟨rfl, o, ho⟩, q⟩ := h
  refine ⟨_, (vss_cons (vs_if (VW.pt (vw_or (vt_not (vt_val (ve_callB call_isiT (by rfl) T.n_isinstance bf_isinstance (va_c (vv 0) (va_c (ve_bltn (v := .ty "tuple") (by rfl) T.n_tuple bt_tuple rfl) va_nil))))) (vw_or1 (vt_cmpR op_ne (ve_callB call_len_seq (by rfl) T.n_len bf_len (va_c (vv 0) va_nil)) ve_int (nomark _))))) (vss_one (vs_ret ve_bl)) vss_nil) (vss_cons (vs_if (vt_val (ve_fn (G_is_one_of.mono (by decide)) hr (by rfl) (va_c (ve_ix ix_tup (vv 0) ve_int (fun _ _ => rfl)) (va_c (ve_tupA (va_c ve_str va_nil)) va_nil)))) (vss_one (vs_ret (ve_fn (G_is_value.mono (by decide)) hr (by rfl) (va_c (ve_ix ix_tup (vv 0) ve_int (fun _ _ => rfl)) va_nil)))) vss_nil) (vss_one (vs_ret (ve_and (ve_fn (G_is_one_of.mono (by decide)) hr (by rfl) (va_c (ve_ix ix_tup (vv 0) ve_int (fun _ _ => rfl)) (va_c (ve_tupA (va_c ve_str va_nil)) va_nil))) (ve_one (ve_fn (G_is_name.mono (by decide)) hr (by rfl) (va_c (ve_ix ix_tup (vv 0) ve_int (fun _ _ => rfl)) va_nil)))))))), ?_⟩
  cases o with
  | val x =>
    obtain ⟨a, rfl, ha, hx, hv⟩ := ho
    refine ⟨_, rfl, _, _, rfl, .tup ha, _, rfl, iteF ?_⟩
    refine ⟨_, rfl, _, _, rfl, .inr ha, rfl, _, rfl, iteF ?_⟩
    refine ⟨_, rfl, a, _, 0, _, rfl, rfl, ha, at0 _ _, (by show 1 ≤ sizeLine; decide), fun p1 H1 _ s1 g1 => ⟨_, p1, _, rfl, th_str (by decide +kernel), SqT.of g1, rfl, _, rfl, iteT ?_⟩⟩
    refine ⟨_, rfl, a, _, 1, _, rfl, rfl, s1.seqT ha, at1 _ _ _, x, rfl, hx.same s1, fun H2 s2 => ?_⟩
    rw [hv]
    exact q H2 (s1.trans s2)
  | col d =>
    obtain ⟨a, rfl, ha, hd⟩ := ho
    refine ⟨_, rfl, _, _, rfl, .tup ha, _, rfl, iteF ?_⟩
    refine ⟨_, rfl, _, _, rfl, .inr ha, rfl, _, rfl, iteF ?_⟩
    refine ⟨_, rfl, a, _, 0, _, rfl, rfl, ha, at0 _ _, (by show 1 ≤ sizeLine; decide), fun p1 H1 _ s1 g1 => ⟨_, p1, _, rfl, th_str (by decide +kernel), SqT.of g1, rfl, _, rfl, iteF ?_⟩⟩
    refine ⟨_, rfl, a, _, 0, _, rfl, rfl, s1.seqT ha, at0 _ _, (by show 1 ≤ sizeLine; decide), fun p2 H2 _ s2 g2 => ⟨_, p2, _, rfl, th_str (by decide +kernel), SqT.of g2, rfl, _, rfl, iteT ?_⟩⟩
    refine ⟨_, rfl, a, _, 1, _, rfl, rfl, s2.seqT (s1.seqT ha), at1 _ _ _, _, rfl, hd.th, fun H3 s3 => ?_⟩
    rw [show nameB (.str d) = true from hd]
    exact q H3 (s1.trans (s2.trans s3))
theorem sg_in {x : Str} (h : SgOk x) : (isS (.str x) && inV (.str x) signs) = true ∧ x.length ≤ 8 := by
  rcases h with rfl | rfl | rfl | rfl <;> exact ⟨by decide +kernel, by decide +kernel⟩
theorem ok_is_test (T : Txt w K mg) (G_is_one_of : Ok P w K mg base 1 "is_one_of" ["thing", "texts"] (sp_one K)) (G_is_name : Ok P w K mg base 2 "is_name" ["thing"] (sp_b K nameB)) (G_is_other : Ok P w K mg base 3 "is_other" ["thing"] (sp_r (YesR K IsO))) :
    Ok P w K mg base 4 "is_test" ["thing"] (sp_r (YesR K IsT)) := by
  refine Ok.ofV T.d_is_test sc_is_test (fun vs H Q E h => ?_) (fun f cdv A outer s H vs Q E hr h => ?_)
  · obtain ⟨v, b, rfl, _⟩ := h; rfl
  obtain ⟨v, b, rfl, ⟨rfl, t, a, o, rfl, ha, hc, hs, ho⟩, q⟩ := h
  obtain ⟨ka, mk, hka⟩ := T.g_SIGNS
  have g_SIGNS : ∃ u, mg "SIGNS" = some u ∧ RelV (.ref ka) u := ⟨_, mk, rfl⟩
  refine ⟨_, (vss_cons (vs_if (VW.pt (vw_or (vt_not (vt_val (ve_callB call_isiT (by rfl) T.n_isinstance bf_isinstance (va_c (vv 0) (va_c (ve_bltn (v := .ty "tuple") (by rfl) T.n_tuple bt_tuple rfl) va_nil))))) (vw_or1 (vt_cmpR op_ne (ve_callB call_len_seq (by rfl) T.n_len bf_len (va_c (vv 0) va_nil)) ve_int (nomark _))))) (vss_one (vs_ret ve_bl)) vss_nil) (vss_one (vs_ret (ve_and (ve_fn (G_is_name.mono (by decide)) hr (by rfl) (va_c (ve_ix ix_tup (vv 0) ve_int (fun _ _ => rfl)) va_nil)) (ve_and (ve_fn (G_is_one_of.mono (by decide)) hr (by rfl) (va_c (ve_ix ix_tup (vv 0) ve_int (fun _ _ => rfl)) (va_c (ve_gl (by rfl) g_SIGNS) va_nil))) (ve_one (ve_fn (G_is_other.mono (by decide)) hr (by rfl) (va_c (ve_ix ix_tup (vv 0) ve_int (fun _ _ => rfl)) va_nil)))))))), ?_⟩
  refine ⟨_, rfl, _, _, rfl, .tup ha, _, rfl, iteF ?_⟩
  refine ⟨_, rfl, _, _, rfl, .inr ha, rfl, _, rfl, iteF ?_⟩
  refine ⟨_, rfl, a, _, 0, _, rfl, rfl, ha, at0 _ _, _, rfl, hc.th, fun H1 s1 => ⟨_, rfl, ?_⟩⟩
  rw [show nameB (.str t.c) = true from hc]
  refine iteT ⟨_, rfl, a, _, 1, _, rfl, rfl, s1.seqT ha, at1 _ _ _, _, ka, signs, rfl, th_str (sg_in hs).2, hka _, rfl, _, rfl, ?_⟩
  rw [(sg_in hs).1]
  refine iteT ⟨_, rfl, a, _, 2, _, rfl, rfl, s1.seqT ha, at2 _ _ _ _, o, true, rfl, ⟨rfl, _, ho.same s1⟩, fun H2 s2 => q H2 (s1.trans s2)⟩
theorem ok_is_pair (T : Txt w K mg) (G_is_name : Ok P w K mg base 2 "is_name" ["thing"] (sp_r (YesR K NameS))) (G_is_tuple_of : Ok P w K mg base 3 "is_tuple_of" ["thing", "least", "most", "is_part"] (sp_tupof P w K mg base 2)) :
    Ok P w K mg base 4 "is_pair" ["thing"] (sp_r (YesR K IsPr)) := by
  refine Ok.ofV T.d_is_pair sc_is_pair (fun vs H Q E h => ?_) (fun f cdv A outer s H vs Q E hr h => ?_)
  · obtain ⟨v, b, rfl, _⟩ := h; rfl
  obtain ⟨v, b, rfl, ⟨rfl, p, a, rfl, ha, h1, h2⟩, q⟩ := h
  obtain ⟨fa, mf, hf⟩ := G_is_name.held
  have v_is_name : ∃ u, mg "is_name" = some u ∧ RelV (.ref fa) u := ⟨_, mf, rfl⟩
  refine ⟨_, (vss_one (vs_ret (ve_fn (G_is_tuple_of.mono (by decide)) hr (by rfl) (va_c (vv 0) (va_c ve_int (va_c ve_int (va_c (ve_gl (by rfl) v_is_name) va_nil))))))), ?_⟩
  exact ⟨_, rfl, _, 2, 2, fa, _, _, _, rfl, by decide, hf, yes_tells (S := NameS) (fun _ h => h), tupof (S := NameS) (xs := [p.1, p.2]) ⟨a, _, rfl, ha, .cons ⟨rfl, h1⟩ (.cons ⟨rfl, h2⟩ .nil)⟩ (Nat.le_refl _) (Nat.le_refl _), fun H1 s1 => q H1 s1⟩
theorem ok_is_key (T : Txt w K mg) (G_is_one_of : Ok P w K mg base 1 "is_one_of" ["thing", "texts"] (sp_one K)) (G_is_name : Ok P w K mg base 2 "is_name" ["thing"] (sp_b K nameB)) : Ok P w K mg base 3 "is_key" ["thing"] (sp_r (YesR K IsKy)) := by
  refine Ok.ofV T.d_is_key sc_is_key (fun vs H Q E h => ?_) (fun f cdv A outer s H vs Q E hr h => ?_)
  · obtain ⟨v, b, rfl, _⟩ := h; rfl
  obtain ⟨v, b, rfl, ⟨rfl, ⟨c, wy⟩, a, rfl, ha, hc, hw⟩, q⟩ := h
  obtain ⟨ka, mk, hka⟩ := T.g_WAYS
  have g_WAYS : ∃ u, mg "WAYS" = some u ∧ RelV (.ref ka) u := ⟨_, mk, rfl⟩
  refine ⟨_, (vss_cons (vs_if (VW.pt (vw_or (vt_not (vt_val (ve_callB call_isiT (by rfl) T.n_isinstance bf_isinstance (va_c (vv 0) (va_c (ve_bltn (v := .ty "tuple") (by rfl) T.n_tuple bt_tuple rfl) va_nil))))) (vw_or1 (vt_cmpR op_ne (ve_callB call_len_seq (by rfl) T.n_len bf_len (va_c (vv 0) va_nil)) ve_int (nomark _))))) (vss_one (vs_ret ve_bl)) vss_nil) (vss_one (vs_ret (ve_and (ve_fn (G_is_name.mono (by decide)) hr (by rfl) (va_c (ve_ix ix_tup (vv 0) ve_int (fun _ _ => rfl)) va_nil)) (ve_one (ve_fn (G_is_one_of.mono (by decide)) hr (by rfl) (va_c (ve_ix ix_tup (vv 0) ve_int (fun _ _ => rfl)) (va_c (ve_gl (by rfl) g_WAYS) va_nil)))))))), ?_⟩
  refine ⟨_, rfl, _, _, rfl, .tup ha, _, rfl, iteF ?_⟩
  refine ⟨_, rfl, _, _, rfl, .inr ha, rfl, _, rfl, iteF ?_⟩
  refine ⟨_, rfl, a, _, 0, _, rfl, rfl, ha, at0 _ _, _, rfl, hc.th, fun H1 s1 => ⟨_, rfl, ?_⟩⟩
  rw [show nameB (.str c) = true from hc]
  have e : (isS (.str wy) && inV (.str wy) waysV) = true ∧ wy.length ≤ 8 := by
    rcases hw with e | e <;> (have e : wy = _ := e; subst e; exact ⟨by decide +kernel, by decide +kernel⟩)
  refine iteT ⟨_, rfl, a, _, 1, _, rfl, rfl, s1.seqT ha, at1 _ _ _, _, ka, waysV, rfl, th_str e.2, hka _, rfl, ?_⟩
  show Q (.bl (isS (.str wy) && inV (.str wy) waysV)) H1
  rw [e.1]
  exact q H1 s1
theorem ok_is_sum (T : Txt w K mg) (G_is_one_of : Ok P w K mg base 1 "is_one_of" ["thing", "texts"] (sp_one K)) (G_is_name : Ok P w K mg base 2 "is_name" ["thing"] (sp_b K nameB)) : Ok P w K mg base 3 "is_sum" ["thing"] (sp_r (YesR K IsSm)) := by
  refine Ok.ofV T.d_is_sum sc_is_sum (fun vs H Q E h => ?_) (fun f cdv A outer s H vs Q E hr h => ?_)
  · obtain ⟨v, b, rfl, _⟩ := h; rfl
  obtain ⟨v, b, rfl, ⟨rfl, ⟨wd, oc, new⟩, a, rfl, hn, hs⟩, q⟩ := h
  obtain ⟨ka, mk, hka⟩ := T.g_SUM_WORDS
  have g_SUM_WORDS : ∃ u, mg "SUM_WORDS" = some u ∧ RelV (.ref ka) u := ⟨_, mk, rfl⟩
  refine ⟨_, (vss_cons (vs_if (VW.pt (vw_or (vt_not (vt_val (ve_callB call_isiT (by rfl) T.n_isinstance bf_isinstance (va_c (vv 0) (va_c (ve_bltn (v := .ty "tuple") (by rfl) T.n_tuple bt_tuple rfl) va_nil))))) (vw_or1 (vt_cmpR op_ne (ve_callB call_len_seq (by rfl) T.n_len bf_len (va_c (vv 0) va_nil)) ve_int (nomark _))))) (vss_one (vs_ret ve_bl)) vss_nil) (vss_cons (vs_if (VW.pt (vw_or (vt_not (vt_val (ve_fn (G_is_one_of.mono (by decide)) hr (by rfl) (va_c (ve_ix ix_tup (vv 0) ve_int (fun _ _ => rfl)) (va_c (ve_gl (by rfl) g_SUM_WORDS) va_nil))))) (vw_or1 (vt_not (vt_val (ve_fn (G_is_name.mono (by decide)) hr (by rfl) (va_c (ve_ix ix_tup (vv 0) ve_int (fun _ _ => rfl)) va_nil))))))) (vss_one (vs_ret ve_bl)) vss_nil) (vss_one (vs_ret (ve_ifExp (vt_cmpR op_eq (ve_ix ix_tup (vv 0) ve_int (fun _ _ => rfl)) ve_str (nomark _)) (ve_cmpR op_isN (ve_ix ix_tup (vv 0) ve_int (fun _ _ => rfl)) ve_non (nomark _)) (ve_fn (G_is_name.mono (by decide)) hr (by rfl) (va_c (ve_ix ix_tup (vv 0) ve_int (fun _ _ => rfl)) va_nil))))))), ?_⟩
  have hn' : nameB (.str new) = true := hn
  rcases hs with ⟨e, _, ha⟩ | ⟨c, e, hc, hw, ha⟩
  · refine ⟨_, rfl, _, _, rfl, .tup ha, _, rfl, iteF ?_⟩
    refine ⟨_, rfl, _, _, rfl, .inr ha, rfl, _, rfl, iteF ?_⟩
    refine ⟨_, rfl, a, _, 0, _, rfl, rfl, ha, at0 _ _, _, ka, sumWords, rfl, th_str (by decide +kernel), hka _, rfl, _, rfl, iteF ?_⟩
    refine ⟨_, rfl, a, _, 2, _, rfl, rfl, ha, at2 _ _ _ _, _, rfl, hn.th, fun H1 s1 => ⟨_, rfl, ?_⟩⟩
    rw [hn']
    refine iteF ⟨_, rfl, a, _, 0, _, rfl, rfl, s1.seqT ha, at0 _ _, rfl, _, rfl, iteT ?_⟩
    exact ⟨_, rfl, a, _, 1, _, rfl, rfl, s1.seqT ha, at1 _ _ _, rfl, q H1 s1⟩
  · have ew : (isS (.str wd) && inV (.str wd) sumWords) = true ∧ wd.length ≤ 8 ∧ decide (V.str wd = V.str "count") = false := by
      rcases hw with e | e | e <;> (have e : wd = _ := e; subst e; exact ⟨by decide +kernel, by decide +kernel, by decide +kernel⟩)
    refine ⟨_, rfl, _, _, rfl, .tup ha, _, rfl, iteF ?_⟩
    refine ⟨_, rfl, _, _, rfl, .inr ha, rfl, _, rfl, iteF ?_⟩
    refine ⟨_, rfl, a, _, 0, _, rfl, rfl, ha, at0 _ _, _, ka, sumWords, rfl, th_str ew.2.1, hka _, rfl, _, rfl, ?_⟩
    rw [ew.1]
    refine iteF ⟨_, rfl, a, _, 2, _, rfl, rfl, ha, at2 _ _ _ _, _, rfl, hn.th, fun H1 s1 => ⟨_, rfl, ?_⟩⟩
    rw [hn']
    refine iteF ⟨_, rfl, a, _, 0, _, rfl, rfl, s1.seqT ha, at0 _ _, rfl, _, rfl, ?_⟩
    rw [ew.2.2]
    refine iteF ⟨_, rfl, a, _, 1, _, rfl, rfl, s1.seqT ha, at1 _ _ _, _, rfl, hc.th, fun H2 s2 => ?_⟩
    rw [show nameB (.str c) = true from hc]
    exact q H2 (s1.trans s2)
def ManyS (_ : PySem.W.Frag) (_ : Hp) (v : V) (n : Nat) : Prop := v = .int n ∧ n ≤ 60
theorem ok_is_many (T : Txt w K mg) (G_is_whole : Ok P w K mg base 1 "is_whole" ["thing"] (sp_whole K)) : Ok P w K mg base 2 "is_many" ["thing"] (sp_r (YesR K ManyS)) := by
  refine Ok.ofV T.d_is_many sc_is_many (fun vs H Q E h => ?_) (fun f cdv A outer s H vs Q E hr h => ?_)
  · obtain ⟨v, b, rfl, _⟩ := h; rfl
  obtain ⟨v, b, rfl, ⟨rfl, n, rfl, hn⟩, q⟩ := h
  refine ⟨_, (vss_one (vs_ret (ve_and (ve_fn (G_is_whole.mono (by decide)) hr (by rfl) (va_c (vv 0) va_nil)) (ve_one (ve_chain op_le op_le ve_int (vv 0) (ve_gl (by rfl) T.g_MOST_ROWS)))))), ?_⟩
  refine ⟨_, rfl, _, rfl, .inr (.inl ⟨_, rfl⟩), _, rfl, iteT ?_⟩
  refine ⟨_, rfl, _, _, rfl, rfl, _, rfl, ?_⟩
  have e1 : decide ((0 : Int) ≤ (n : Int)) = true := decide_eq_true (by omega)
  have e2 : decide ((n : Int) ≤ 60) = true := decide_eq_true (by omega)
  rw [e1]
  refine iteT ⟨_, _, rfl, rfl, ?_⟩
  show Q (.bl (decide ((n : Int) ≤ 60))) H
  rw [e2]
  exact q H (Same.refl H)
theorem ok_may_be_question (T : Txt w K mg) : Ok P w K mg base 1 "may_be_question" ["thing"] (fun vs H Q _ => ∃ v, vs = [v] ∧ Q (.bl true) H) := by
  refine Ok.ofV T.d_may_be_question sc_may_be_question (fun vs H Q E h => ?_) (fun f cdv A outer s H vs Q E hr h => ?_)
  · obtain ⟨v, rfl, _⟩ := h; rfl
  obtain ⟨v, rfl, q⟩ := h
  exact ⟨_, (vss_one (vs_ret ve_bl)), q⟩
theorem okWeak {k : Nat} {x : Str} {ps : List Str} {sp sp' : Sp} (G : Ok P w K mg base k x ps sp) (h : ∀ vs H Q E, sp' vs H Q E → sp vs H Q E) : Ok P w K mg base k x ps sp' :=
  let ⟨f, fd, h1, h2, h3, h4⟩ := G; ⟨f, fd, h1, h2, h3, h4.imp h⟩
theorem name_yes (G : Ok P w K mg base 2 "is_name" ["thing"] (sp_b K nameB)) : Ok P w K mg base 2 "is_name" ["thing"] (sp_r (YesR K NameS)) :=
  okWeak G fun vs H Q E h => by
    obtain ⟨v, b, rfl, ⟨rfl, x, rfl, hx⟩, q⟩ := h
    exact ⟨_, rfl, Nm.th hx, fun H' s' => by rw [show nameB (.str x) = true from hx]; exact q H' s'⟩
theorem ok_are_tests (T : Txt w K mg) (G_is_test : Ok P w K mg base 4 "is_test" ["thing"] (sp_r (YesR K IsT))) (G_is_tuple_of : Ok P w K mg base 5 "is_tuple_of" ["thing", "least", "most", "is_part"] (sp_tupof P w K mg base 4)) :
    Ok P w K mg base 6 "are_tests" ["thing"] (sp_r (YesR K (TupS IsT 1 3))) := by
  refine Ok.ofV T.d_are_tests sc_are_tests (fun vs H Q E h => ?_) (fun f cdv A outer s H vs Q E hr h => ?_)
  · obtain ⟨v, b, rfl, _⟩ := h; rfl
  obtain ⟨v, b, rfl, ⟨rfl, xs, hx, l1, l2⟩, q⟩ := h
  obtain ⟨fa, mf, hf⟩ := G_is_test.held
  have v_is_test : ∃ u, mg "is_test" = some u ∧ RelV (.ref fa) u := ⟨_, mf, rfl⟩
  refine ⟨_, (vss_one (vs_ret (ve_fn (G_is_tuple_of.mono (by decide)) hr (by rfl) (va_c (vv 0) (va_c ve_int (va_c (ve_gl (by rfl) T.g_MOST_TESTS) (va_c (ve_gl (by rfl) v_is_test) va_nil))))))), ?_⟩
  exact ⟨_, rfl, _, 1, 3, fa, _, _, _, rfl, by decide, hf, yes_tells (S := IsT) (fun e h => h.same e), tupof (S := IsT) hx l1 l2, fun H1 s1 => q H1 s1⟩
theorem ok_are_names (T : Txt w K mg) (G_is_name : Ok P w K mg base 2 "is_name" ["thing"] (sp_r (YesR K NameS))) (G_is_tuple_of : Ok P w K mg base 3 "is_tuple_of" ["thing", "least", "most", "is_part"] (sp_tupof P w K mg base 2)) :
    Ok P w K mg base 4 "are_names" ["thing"] (sp_r (YesR K (TupS NameS 1 8))) := by
  refine Ok.ofV T.d_are_names sc_are_names (fun vs H Q E h => ?_) (fun f cdv A outer s H vs Q E hr h => ?_)
  · obtain ⟨v, b, rfl, _⟩ := h; rfl
  obtain ⟨v, b, rfl, ⟨rfl, xs, hx, l1, l2⟩, q⟩ := h
  obtain ⟨fa, mf, hf⟩ := G_is_name.held
  have v_is_name : ∃ u, mg "is_name" = some u ∧ RelV (.ref fa) u := ⟨_, mf, rfl⟩
  refine ⟨_, (vss_one (vs_ret (ve_fn (G_is_tuple_of.mono (by decide)) hr (by rfl) (va_c (vv 0) (va_c ve_int (va_c (ve_gl (by rfl) T.g_MOST_NAMES) (va_c (ve_gl (by rfl) v_is_name) va_nil))))))), ?_⟩
  exact ⟨_, rfl, _, 1, 8, fa, _, _, _, rfl, by decide, hf, yes_tells (S := NameS) (fun e h => h), tupof (S := NameS) hx l1 l2, fun H1 s1 => q H1 s1⟩
theorem ok_are_group_names (T : Txt w K mg) (G_is_name : Ok P w K mg base 2 "is_name" ["thing"] (sp_r (YesR K NameS))) (G_is_tuple_of : Ok P w K mg base 3 "is_tuple_of" ["thing", "least", "most", "is_part"] (sp_tupof P w K mg base 2)) :
    Ok P w K mg base 4 "are_group_names" ["thing"] (sp_r (YesR K (TupS NameS 0 8))) := by
  refine Ok.ofV T.d_are_group_names sc_are_group_names (fun vs H Q E h => ?_) (fun f cdv A outer s H vs Q E hr h => ?_)
  · obtain ⟨v, b, rfl, _⟩ := h; rfl
  obtain ⟨v, b, rfl, ⟨rfl, xs, hx, l1, l2⟩, q⟩ := h
  obtain ⟨fa, mf, hf⟩ := G_is_name.held
  have v_is_name : ∃ u, mg "is_name" = some u ∧ RelV (.ref fa) u := ⟨_, mf, rfl⟩
  refine ⟨_, (vss_one (vs_ret (ve_fn (G_is_tuple_of.mono (by decide)) hr (by rfl) (va_c (vv 0) (va_c ve_int (va_c (ve_gl (by rfl) T.g_MOST_NAMES) (va_c (ve_gl (by rfl) v_is_name) va_nil))))))), ?_⟩
  exact ⟨_, rfl, _, 0, 8, fa, _, _, _, rfl, by decide, hf, yes_tells (S := NameS) (fun e h => h), tupof (S := NameS) hx l1 l2, fun H1 s1 => q H1 s1⟩
theorem ok_are_pairs (T : Txt w K mg) (G_is_pair : Ok P w K mg base 4 "is_pair" ["thing"] (sp_r (YesR K IsPr))) (G_is_tuple_of : Ok P w K mg base 5 "is_tuple_of" ["thing", "least", "most", "is_part"] (sp_tupof P w K mg base 4)) :
    Ok P w K mg base 6 "are_pairs" ["thing"] (sp_r (YesR K (TupS IsPr 1 3))) := by
  refine Ok.ofV T.d_are_pairs sc_are_pairs (fun vs H Q E h => ?_) (fun f cdv A outer s H vs Q E hr h => ?_)
  · obtain ⟨v, b, rfl, _⟩ := h; rfl
  obtain ⟨v, b, rfl, ⟨rfl, xs, hx, l1, l2⟩, q⟩ := h
  obtain ⟨fa, mf, hf⟩ := G_is_pair.held
  have v_is_pair : ∃ u, mg "is_pair" = some u ∧ RelV (.ref fa) u := ⟨_, mf, rfl⟩
  refine ⟨_, (vss_one (vs_ret (ve_fn (G_is_tuple_of.mono (by decide)) hr (by rfl) (va_c (vv 0) (va_c ve_int (va_c (ve_gl (by rfl) T.g_MOST_PAIRS) (va_c (ve_gl (by rfl) v_is_pair) va_nil))))))), ?_⟩
  exact ⟨_, rfl, _, 1, 3, fa, _, _, _, rfl, by decide, hf, yes_tells (S := IsPr) (fun e h => h.same e), tupof (S := IsPr) hx l1 l2, fun H1 s1 => q H1 s1⟩
theorem ok_are_sums (T : Txt w K mg) (G_is_sum : Ok P w K mg base 3 "is_sum" ["thing"] (sp_r (YesR K IsSm))) (G_is_tuple_of : Ok P w K mg base 4 "is_tuple_of" ["thing", "least", "most", "is_part"] (sp_tupof P w K mg base 3)) :
    Ok P w K mg base 5 "are_sums" ["thing"] (sp_r (YesR K (TupS IsSm 0 4))) := by
  refine Ok.ofV T.d_are_sums sc_are_sums (fun vs H Q E h => ?_) (fun f cdv A outer s H vs Q E hr h => ?_)
  · obtain ⟨v, b, rfl, _⟩ := h; rfl
  obtain ⟨v, b, rfl, ⟨rfl, xs, hx, l1, l2⟩, q⟩ := h
  obtain ⟨fa, mf, hf⟩ := G_is_sum.held
  have v_is_sum : ∃ u, mg "is_sum" = some u ∧ RelV (.ref fa) u := ⟨_, mf, rfl⟩
  refine ⟨_, (vss_one (vs_ret (ve_fn (G_is_tuple_of.mono (by decide)) hr (by rfl) (va_c (vv 0) (va_c ve_int (va_c (ve_gl (by rfl) T.g_MOST_SUMS) (va_c (ve_gl (by rfl) v_is_sum) va_nil))))))), ?_⟩
  exact ⟨_, rfl, _, 0, 4, fa, _, _, _, rfl, by decide, hf, yes_tells (S := IsSm) (fun e h => h.same e), tupof (S := IsSm) hx l1 l2, fun H1 s1 => q H1 s1⟩
theorem ok_are_keys (T : Txt w K mg) (G_is_key : Ok P w K mg base 3 "is_key" ["thing"] (sp_r (YesR K IsKy))) (G_is_tuple_of : Ok P w K mg base 4 "is_tuple_of" ["thing", "least", "most", "is_part"] (sp_tupof P w K mg base 3)) :
    Ok P w K mg base 5 "are_keys" ["thing"] (sp_r (YesR K (TupS IsKy 0 3))) := by
  refine Ok.ofV T.d_are_keys sc_are_keys (fun vs H Q E h => ?_) (fun f cdv A outer s H vs Q E hr h => ?_)
  · obtain ⟨v, b, rfl, _⟩ := h; rfl
  obtain ⟨v, b, rfl, ⟨rfl, xs, hx, l1, l2⟩, q⟩ := h
  obtain ⟨fa, mf, hf⟩ := G_is_key.held
  have v_is_key : ∃ u, mg "is_key" = some u ∧ RelV (.ref fa) u := ⟨_, mf, rfl⟩
  refine ⟨_, (vss_one (vs_ret (ve_fn (G_is_tuple_of.mono (by decide)) hr (by rfl) (va_c (vv 0) (va_c ve_int (va_c (ve_gl (by rfl) T.g_MOST_KEYS) (va_c (ve_gl (by rfl) v_is_key) va_nil))))))), ?_⟩
  exact ⟨_, rfl, _, 0, 3, fa, _, _, _, rfl, by decide, hf, yes_tells (S := IsKy) (fun e h => h.same e), tupof (S := IsKy) hx l1 l2, fun H1 s1 => q H1 s1⟩
inductive Qn where
  | table (T : Str)
  | whr (q : Qn) (ts : List Tst)
  | keep (q : Qn) (ns : List Str)
  | nmd (q : Qn) (ns : List Str)
  | join (q r : Qn) (ps : List (Str × Str))
  | group (q : Qn) (ns : List Str) (ss : List Sm)
  | first (q : Qn) (ks : List (Str × Str)) (m : Nat)
inductive IsQ (K : PySem.W.Frag) (H : Hp) : V → Qn → Prop
  | table {a T} : SqT K H a [.str "table", .str T] → Nm T → IsQ K H (.ref a) (.table T)
  | whr {a v q w ts} : SqT K H a [.str "where", v, w] → IsQ K H v q → TupS IsT 1 3 K H w ts → IsQ K H (.ref a) (.whr q ts)
  | keep {a v q w ns} : SqT K H a [.str "keep", v, w] → IsQ K H v q → TupS NameS 1 8 K H w ns → IsQ K H (.ref a) (.keep q ns)
  | nmd {a v q w ns} : SqT K H a [.str "named", v, w] → IsQ K H v q → TupS NameS 1 8 K H w ns → IsQ K H (.ref a) (.nmd q ns)
  | join {a v q u r w ps} : SqT K H a [.str "join", v, u, w] → IsQ K H v q → IsQ K H u r → TupS IsPr 1 3 K H w ps → IsQ K H (.ref a) (.join q r ps)
  | group {a v q w ns u ss} : SqT K H a [.str "group", v, w, u] → IsQ K H v q → TupS NameS 0 8 K H w ns → TupS IsSm 0 4 K H u ss → IsQ K H (.ref a) (.group q ns ss)
  | first {a v q w ks m} : SqT K H a [.str "first", v, w, .int (m : Nat)] → IsQ K H v q → TupS IsKy 0 3 K H w ks → m ≤ 60 → IsQ K H (.ref a) (.first q ks m)
theorem TupS.same {α : Type} {S : PySem.W.Frag → Hp → V → α → Prop} {lo hi : Nat} {K : PySem.W.Frag} {H H' : Hp} {v : V} {xs : List α} (e : Same H H') (k : ∀ {v t}, S K H v t → S K H' v t) (h : TupS S lo hi K H v xs) : TupS S lo hi K H' v xs :=
  ⟨h.1.same e fun _ _ => k, h.2⟩
theorem IsQ.same {K : PySem.W.Frag} {H H' : Hp} {v : V} {q : Qn} (e : Same H H') (h : IsQ K H v q) : IsQ K H' v q := by
  induction h with
  | table a b => exact .table (e.seqT a) b
  | whr a _ c ih => exact .whr (e.seqT a) ih (c.same e fun h => h.same e)
  | keep a _ c ih => exact .keep (e.seqT a) ih (c.same e fun h => h)
  | nmd a _ c ih => exact .nmd (e.seqT a) ih (c.same e fun h => h)
  | join a _ _ c ih1 ih2 => exact .join (e.seqT a) ih1 ih2 (c.same e fun h => h.same e)
  | group a _ c d ih => exact .group (e.seqT a) ih (c.same e fun h => h) (d.same e fun h => h.same e)
  | first a _ c d ih => exact .first (e.seqT a) ih (c.same e fun h => h.same e) d
def Part (P : Program) (w : World) (K : PySem.W.Frag) (mg : Str → Option Value) (base : Heap) (H : Hp) (f x : V) : Prop := ∃ fa ps sp, f = .ref fa ∧ Held P w K mg base 6 fa ps sp ∧ ∀ H' Q, Same H H' → (∀ H2, Same H' H2 → Q (.bl true) H2) → sp [x] H' Q E0
theorem part_yes {k : Nat} {x : Str} {ps : List Str} {α : Type} {S : PySem.W.Frag → Hp → V → α → Prop} {f : Addr} {H : Hp} {v : V} {t : α} (G : Ok P w K mg base k x ps (sp_r (YesR K S))) (hk : k ≤ 6) (m : mg x = some (.ref f)) (st : ∀ {H H' v t}, Same H H' → S K H v t → S K H' v t) (h : S K H v t) : Part P w K mg base H (.ref f) v :=
  ⟨f, _, _, rfl, (G.heldAt m).mono hk, fun H' Q s' q => ⟨v, true, rfl, ⟨rfl, t, st s' h⟩, q⟩⟩
abbrev forms : List Str := ["table", "where", "keep", "named", "join", "group", "first"]
def sp_q (K : PySem.W.Frag) : Sp := fun vs H Q _ => ∃ v q, vs = [v] ∧ IsQ K H v q ∧ ∀ H', Same H H' → Q (.bl true) H'
theorem part_any {f : Addr} {H : Hp} {v : V} (G : Ok P w K mg base 1 "may_be_question" ["thing"] (fun vs H Q _ => ∃ v, vs = [v] ∧ Q (.bl true) H)) (m : mg "may_be_question" = some (.ref f)) : Part P w K mg base H (.ref f) v :=
  ⟨f, _, _, rfl, (G.heldAt m).mono (by decide), fun H' Q s' q => ⟨v, rfl, q H' (Same.refl H')⟩⟩
structure Forms (P : Program) (w : World) (K : PySem.W.Frag) (mg : Str → Option Value) (base : Heap) : Prop where
  name : Ok P w K mg base 2 "is_name" ["thing"] (sp_r (YesR K NameS))
  any : Ok P w K mg base 1 "may_be_question" ["thing"] (fun vs H Q _ => ∃ v, vs = [v] ∧ Q (.bl true) H)
  tests : Ok P w K mg base 6 "are_tests" ["thing"] (sp_r (YesR K (TupS IsT 1 3)))
  names : Ok P w K mg base 4 "are_names" ["thing"] (sp_r (YesR K (TupS NameS 1 8)))
  gnames : Ok P w K mg base 4 "are_group_names" ["thing"] (sp_r (YesR K (TupS NameS 0 8)))
  pairs : Ok P w K mg base 6 "are_pairs" ["thing"] (sp_r (YesR K (TupS IsPr 1 3)))
  sums : Ok P w K mg base 5 "are_sums" ["thing"] (sp_r (YesR K (TupS IsSm 0 4)))
  keys : Ok P w K mg base 5 "are_keys" ["thing"] (sp_r (YesR K (TupS IsKy 0 3)))
  many : Ok P w K mg base 2 "is_many" ["thing"] (sp_r (YesR K ManyS))
theorem form_at (T : Txt w K mg) (F : Forms P w K mg base) : ∃ d kvs, mg "FORMS" = some (.ref d) ∧ DctK w K d kvs ∧ kvs.length ≤ 1000 ∧ (kvs.map fun q => V.str q.1).all flatV = true ∧
    ∀ H v q, IsQ K H v q → ∃ a k xs t fs, v = .ref a ∧ SqT K H a (.str k :: xs) ∧ k.length ≤ 8 ∧ inV (.str k) (kvs.map fun q => V.str q.1) = true ∧ (kvs.find? fun z => decide (z.1 = k)).map (·.2) = some t ∧ (∀ H, SqT K H t fs) ∧ fs.length ≤ 8 ∧ All2 (Part P w K mg base H) fs xs := by
  obtain ⟨d, t0, t1, t2, t3, t4, t5, t6, md, hd, ⟨f00, h0, m00⟩, ⟨f10, f11, h1, m10, m11⟩, ⟨f20, f21, h2, m20, m21⟩, ⟨f30, f31, h3, m30, m31⟩, ⟨f40, f41, f42, h4, m40, m41, m42⟩, ⟨f50, f51, f52, h5, m50, m51, m52⟩, ⟨f60, f61, f62, h6, m60, m61, m62⟩⟩ := T.g_FORMS
  refine ⟨d, _, md, hd, (by show 7 ≤ 1000; decide), rfl, fun H v q hq => ?_⟩
  cases hq with
  | table a b => exact ⟨_, _, _, t0, _, rfl, a, by decide +kernel, (by show inV (.str "table") (forms.map V.str) = true; decide +kernel), rfl, h0, (by show 1 ≤ 8; decide), .cons (part_yes F.name (by decide) m00 (fun _ h => h) ⟨rfl, b⟩) .nil⟩
  | whr a _ c => exact ⟨_, _, _, t1, _, rfl, a, by decide +kernel, (by show inV (.str "where") (forms.map V.str) = true; decide +kernel), rfl, h1, (by show 2 ≤ 8; decide), .cons (part_any F.any m10) (.cons (part_yes F.tests (by decide) m11 (fun e h => h.same e fun q => q.same e) c) .nil)⟩
  | keep a _ c => exact ⟨_, _, _, t2, _, rfl, a, by decide +kernel, (by show inV (.str "keep") (forms.map V.str) = true; decide +kernel), rfl, h2, (by show 2 ≤ 8; decide), .cons (part_any F.any m20) (.cons (part_yes F.names (by decide) m21 (fun e h => h.same e fun q => q) c) .nil)⟩
  | nmd a _ c => exact ⟨_, _, _, t3, _, rfl, a, by decide +kernel, (by show inV (.str "named") (forms.map V.str) = true; decide +kernel), rfl, h3, (by show 2 ≤ 8; decide), .cons (part_any F.any m30) (.cons (part_yes F.names (by decide) m31 (fun e h => h.same e fun q => q) c) .nil)⟩
  | join a _ _ c => exact ⟨_, _, _, t4, _, rfl, a, by decide +kernel, (by show inV (.str "join") (forms.map V.str) = true; decide +kernel), rfl, h4, (by show 3 ≤ 8; decide), .cons (part_any F.any m40) (.cons (part_any F.any m41) (.cons (part_yes F.pairs (by decide) m42 (fun e h => h.same e fun q => q.same e) c) .nil))⟩
  | group a _ c e => exact ⟨_, _, _, t5, _, rfl, a, by decide +kernel, (by show inV (.str "group") (forms.map V.str) = true; decide +kernel), rfl, h5, (by show 3 ≤ 8; decide), .cons (part_any F.any m50) (.cons (part_yes F.gnames (by decide) m51 (fun e h => h.same e fun q => q) c) (.cons (part_yes F.sums (by decide) m52 (fun e h => h.same e fun q => q.same e) e) .nil))⟩
  | first a _ c e => exact ⟨_, _, _, t6, _, rfl, a, by decide +kernel, (by show inV (.str "first") (forms.map V.str) = true; decide +kernel), rfl, h6, (by show 3 ≤ 8; decide), .cons (part_any F.any m60) (.cons (part_yes F.keys (by decide) m61 (fun e h => h.same e fun q => q.same e) c) (.cons (part_yes F.many (by decide) m62 (fun _ h => h) ⟨rfl, e⟩) .nil))⟩
theorem all2_get {α β : Type} {R : α → β → Prop} : ∀ {as : List α} {bs : List β}, All2 R as bs → ∀ {i : Nat} {a : α} {b : β}, as[i]? = some a → bs[i]? = some b → R a b
  | _, _, .cons r t, 0, _, _, h1, h2 => by cases h1; cases h2; exact r
  | _, _, .cons r t, i + 1, a, b, h1, h2 => all2_get t (i := i) (by simpa using h1) (by simpa using h2)
theorem zw_true {xs ys : List V} : (List.zipWith (fun _ _ : V => V.bl true) xs ys) = (List.zipWith (fun _ _ : V => true) xs ys).map V.bl := by
  rw [List.map_zipWith]
theorem zw_all : ∀ (xs ys : List V), ((List.zipWith (fun _ _ : V => true) xs ys).all id) = true
  | [], _ => by simp
  | _ :: _, [] => by simp
  | x :: xs, y :: ys => by rw [List.zipWith_cons_cons, List.all_cons, zw_all xs ys]; rfl
theorem cut1 (x : V) (xs : List V) : cutV (x :: xs) (some 1) none = xs := by
  unfold cutV
  have e : HT.sIx (x :: xs).length 0 (some 1) = 1 := by
    rw [show (1 : Int) = ((1 : Nat) : Int) from rfl, HT.sIx_nat, List.length_cons]
    omega
  rw [e, HT.sIx_none, List.length_cons]
  simp
theorem nw1 (x : V) (xs : List V) : ¬ (HT.sIx (x :: xs).length 0 (some 1) = 0 ∧ HT.sIx (x :: xs).length (x :: xs).length none = (x :: xs).length) := by
  rw [show (1 : Int) = ((1 : Nat) : Int) from rfl, HT.sIx_nat, List.length_cons]
  omega
theorem ok_has_form (T : Txt w K mg) (F : Forms P w K mg base) (G_is_one_of : Ok P w K mg base 1 "is_one_of" ["thing", "texts"] (sp_one K)) : Ok P w K mg base 7 "has_form" ["thing"] (sp_q K) := by
  refine Ok.ofV T.d_has_form sc_has_form (fun vs H Q E h => ?_) (fun f cdv A outer s H vs Q E hr h => ?_)
  · obtain ⟨v, q, rfl, _⟩ := h; rfl
  obtain ⟨v, q0, rfl, hq, q⟩ := h
  obtain ⟨d, kvs, md, hd, hl, hfl, hat⟩ := form_at T F
  have g_FORMS : ∃ u, mg "FORMS" = some u ∧ RelV (.ref d) u := ⟨_, md, rfl⟩
  obtain ⟨a, k, xs, t, fs, rfl, ha, hk8, hin, hf, ht, hf8, hp⟩ := hat H v q0 hq
  have hlen := hp.len
  refine ⟨_, (vss_cons (vs_if (VW.pt (vw_or (vt_not (vt_val (ve_callB call_isiT (by rfl) T.n_isinstance bf_isinstance (va_c (vv 0) (va_c (ve_bltn (v := .ty "tuple") (by rfl) T.n_tuple bt_tuple rfl) va_nil))))) (vw_or (vt_cmpR op_eq (ve_callB call_len_seq (by rfl) T.n_len bf_len (va_c (vv 0) va_nil)) ve_int (nomark _)) (vw_or1 (vt_not (vt_val (ve_fn (G_is_one_of.mono (by decide)) hr (by rfl) (va_c (ve_ix ix_tup (vv 0) ve_int (fun _ _ => rfl)) (va_c (ve_callTy (call_tupD rfl) (by rfl) T.n_tuple bt_tuple (va_c (ve_gl (by rfl) g_FORMS) va_nil)) va_nil))))))))) (vss_one (vs_ret ve_bl)) vss_nil) (vss_cons (vs_set (i := 1) sc_has_form.nd rfl (by first | exact Or.inl rfl | exact Or.inr rfl) (ve_ix ix_dctK (ve_gl (by rfl) g_FORMS) (ve_ix ix_tup (vv 0) ve_int (fun _ _ => rfl)) (fun _ _ => rfl))) (vss_cons (vs_if (vt_cmpR op_ne (ve_callB call_len_seq (by rfl) T.n_len bf_len (va_c (vv 0) va_nil)) (ve_op op_add (ve_callB call_len_seq (by rfl) T.n_len bf_len (va_c (vv 1) va_nil)) ve_int) (nomark _)) (vss_one (vs_ret ve_bl)) vss_nil) (vss_one (vs_ret (ve_callB (call_all rfl) (by rfl) T.n_all bf_all (va_c (ve_comp (N := ["is_part", "part"]) ⟨by decide +kernel, rfl, by decide +kernel, by decide +kernel⟩ (hfr_none (by decide +kernel)) rfl (vi_zipT (by rfl) T.n_zip (va_c (vv 1) (va_c (ve_slice sl_tupA (vv 0) (vo_some ve_int) vo_none) va_nil))) (fun cl s' H' fp => ⟨(vg_tupK (K := K) (n := 2) rfl (vgs_cons (vg_name (i := 0) (show (["is_part", "part"] : List Str).Nodup from by decide +kernel) rfl (Or.inl rfl)) (vgs_cons (vg_name (i := 1) (show (["is_part", "part"] : List Str).Nodup from by decide +kernel) rfl (Or.inl rfl)) vgs_nil))), vf_nil, (ve_heldK (P := P) (w := w) (K := K) (mg := mg) (base := base) hr (vv 0) (va_c (vv 1) va_nil))⟩)) va_nil))))))), ?_⟩
  refine ⟨_, rfl, _, _, rfl, .tup ha, _, rfl, iteF ?_⟩
  refine ⟨_, rfl, _, _, rfl, .inr ha, rfl, _, rfl, ?_⟩
  have e0 : decide (V.int (((V.str k :: xs).length : Nat) : Int) = V.int 0) = false := decide_eq_false (by intro z; have := V.int.inj z; rw [List.length_cons] at this; omega)
  rw [e0]
  refine iteF ⟨_, rfl, a, _, 0, _, rfl, rfl, ha, at0 _ _, d, kvs, rfl, hd, hl, fun p1 H1 s1 g1 => ⟨_, p1, _, rfl, th_str hk8, SqT.of g1, hfl, _, rfl, ?_⟩⟩
  have e1 : (isS (.str k) && inV (.str k) (kvs.map fun q => V.str q.1)) = true := by rw [hin]; rfl
  rw [e1]
  refine iteF ⟨_, rfl, a, _, 0, _, rfl, rfl, s1.seqT ha, at0 _ _, d, kvs, k, t, rfl, rfl, hd, hf, ?_⟩
  refine ⟨_, rfl, _, _, rfl, .inr (s1.seqT ha), _, rfl, _, _, rfl, .inr (ht _), _, _, rfl, rfl, rfl, _, rfl, ?_⟩
  have e2 : (!decide (V.int (((V.str k :: xs).length : Nat) : Int) = V.int ((fs.length : Nat) + 1 : Int))) = false := by rw [List.length_cons, hlen]; simp
  rw [e2]
  refine iteF ?_
  dsimp only [tNext, tRet, tCB, tCons]
  refine comp_zipA fs xs (fun _ _ => .bl true) [none, none] cap_none2 (small (by omega)) hlen (fun R r => ⟨_, rfl, _, rfl, _, rfl, a, _, rfl, s1.seqT ha, nw1 _ _, fun p2 H2 s2 g2 => ?_⟩) (fun i fv x ef ex H' R l1 l2 sm r => ?_) rfl rfl fun D H' sm hD => ?_
  · rw [cut1] at g2
    exact r t p2 H2 s2 (ht _) (SqT.of g2)
  · obtain ⟨fa, ps, sp, rfl, hh, hc⟩ := all2_get hp ef ex
    exact ⟨_, rfl, fa, ps, sp, rfl, hh, _, rfl, hc H' R (s1.trans sm) fun H2 s2 => r H2 s2⟩
  · refine ⟨D, List.zipWith (fun _ _ => true) fs xs, rfl, SqL.of (by rw [hD, zw_true]), ?_⟩
    rw [zw_all]
    exact q H' (s1.trans sm)
def kids : Qn → List Qn
  | .table _ => []
  | .whr q _ => [q]
  | .keep q _ => [q]
  | .nmd q _ => [q]
  | .join q r _ => [q, r]
  | .group q _ _ => [q]
  | .first q _ _ => [q]
def own : Qn → Nat
  | .whr _ ts => ts.length
  | _ => 1
def size : Qn → Nat
  | .table _ => 1
  | .whr q ts => size q + ts.length
  | .keep q _ => size q + 1
  | .nmd q _ => size q + 1
  | .join q r _ => size q + size r + 1
  | .group q _ _ => size q + 1
  | .first q _ _ => size q + 1
def sizes (qs : List Qn) : Nat := (qs.map size).sum
theorem size_own (q : Qn) : size q = own q + sizes (kids q) := by
  cases q <;> simp [size, own, sizes, kids] <;> omega
theorem own_pos {K : PySem.W.Frag} {H : Hp} {v : V} {q : Qn} (h : IsQ K H v q) : 1 ≤ own q := by
  cases h with
  | whr _ _ c => exact c.2.1
  | _ => exact Nat.le_refl _
def sp_in (K : PySem.W.Frag) : Sp := fun vs H Q _ => ∃ v q H0, vs = [v] ∧ Same H0 H ∧ IsQ K H0 v q ∧ ∀ D H' us, H D = none → Same H H' → H' D = some (.lst us) → All2 (IsQ K H0) us (kids q) → Q (.ref D) H'
theorem ok_questions_in (T : Txt w K mg) : Ok P w K mg base 1 "questions_in" ["question"] (sp_in K) := by
  refine Ok.ofV T.d_questions_in sc_questions_in (fun vs H Q E h => ?_) (fun f cdv A outer s H vs Q E hr h => ?_)
  · obtain ⟨v, q, H0, rfl, _⟩ := h; rfl
  obtain ⟨v, q0, H0, rfl, e, hq, q⟩ := h
  refine ⟨_, (vss_cons (vs_if (vt_cmpR op_eq (ve_ix ix_tup (vv 0) ve_int (fun _ _ => rfl)) ve_str (nomark _)) (vss_one (vs_ret (ve_lstA va_nil))) vss_nil) (vss_one (vs_ret (ve_ifExp (vt_cmpR op_eq (ve_ix ix_tup (vv 0) ve_int (fun _ _ => rfl)) ve_str (nomark _)) (ve_callTy call_listA (by rfl) T.n_list bt_list (va_c (ve_slice sl_tupA (vv 0) (vo_some ve_int) (vo_some ve_int)) va_nil)) (ve_lstA (va_c (ve_ix ix_tup (vv 0) ve_int (fun _ _ => rfl)) va_nil)))))), ?_⟩
  cases hq with
  | table a b => exact ⟨_, rfl, _, _, 0, _, rfl, rfl, (e.seqT a), at0 _ _, rfl, _, rfl, iteT ⟨(by show 0 ≤ sizeLine; decide), fun D H' f s' g => q D H' _ f s' g .nil⟩⟩
  | whr a b c => exact ⟨_, rfl, _, _, 0, _, rfl, rfl, (e.seqT a), at0 _ _, rfl, _, rfl, iteF ⟨_, rfl, _, _, 0, _, rfl, rfl, (e.seqT a), at0 _ _, rfl, _, rfl, iteF ⟨_, rfl, _, _, 1, _, rfl, rfl, (e.seqT a), at1 _ _ _, (by show 1 ≤ sizeLine; decide), fun D H' f s' g => q D H' _ f s' g (.cons b .nil)⟩⟩⟩
  | keep a b c => exact ⟨_, rfl, _, _, 0, _, rfl, rfl, (e.seqT a), at0 _ _, rfl, _, rfl, iteF ⟨_, rfl, _, _, 0, _, rfl, rfl, (e.seqT a), at0 _ _, rfl, _, rfl, iteF ⟨_, rfl, _, _, 1, _, rfl, rfl, (e.seqT a), at1 _ _ _, (by show 1 ≤ sizeLine; decide), fun D H' f s' g => q D H' _ f s' g (.cons b .nil)⟩⟩⟩
  | nmd a b c => exact ⟨_, rfl, _, _, 0, _, rfl, rfl, (e.seqT a), at0 _ _, rfl, _, rfl, iteF ⟨_, rfl, _, _, 0, _, rfl, rfl, (e.seqT a), at0 _ _, rfl, _, rfl, iteF ⟨_, rfl, _, _, 1, _, rfl, rfl, (e.seqT a), at1 _ _ _, (by show 1 ≤ sizeLine; decide), fun D H' f s' g => q D H' _ f s' g (.cons b .nil)⟩⟩⟩
  | group a b c d => exact ⟨_, rfl, _, _, 0, _, rfl, rfl, (e.seqT a), at0 _ _, rfl, _, rfl, iteF ⟨_, rfl, _, _, 0, _, rfl, rfl, (e.seqT a), at0 _ _, rfl, _, rfl, iteF ⟨_, rfl, _, _, 1, _, rfl, rfl, (e.seqT a), at1 _ _ _, (by show 1 ≤ sizeLine; decide), fun D H' f s' g => q D H' _ f s' g (.cons b .nil)⟩⟩⟩
  | first a b c d => exact ⟨_, rfl, _, _, 0, _, rfl, rfl, (e.seqT a), at0 _ _, rfl, _, rfl, iteF ⟨_, rfl, _, _, 0, _, rfl, rfl, (e.seqT a), at0 _ _, rfl, _, rfl, iteF ⟨_, rfl, _, _, 1, _, rfl, rfl, (e.seqT a), at1 _ _ _, (by show 1 ≤ sizeLine; decide), fun D H' f s' g => q D H' _ f s' g (.cons b .nil)⟩⟩⟩
  | join a b c d =>
    refine ⟨_, rfl, _, _, 0, _, rfl, rfl, (e.seqT a), at0 _ _, rfl, _, rfl, iteF ⟨_, rfl, _, _, 0, _, rfl, rfl, (e.seqT a), at0 _ _, rfl, _, rfl, iteT ⟨_, rfl, _, rfl, _, rfl, _, _, rfl, (e.seqT a), (by show ¬ (HT.sIx 4 0 (some 1) = 0 ∧ HT.sIx 4 4 (some 3) = 4); decide), fun p H1 s1 g1 => ⟨p, _, rfl, .inr (SqT.of g1), fun D H' f s' g => q D H' _ (s1.free f) (s1.trans s') g (.cons b (.cons c .nil))⟩⟩⟩⟩
def sp_own (K : PySem.W.Frag) : Sp := fun vs H Q _ => ∃ v q, vs = [v] ∧ IsQ K H v q ∧ Q (.int (own q : Nat)) H
theorem ok_own_size (T : Txt w K mg) : Ok P w K mg base 1 "own_size" ["question"] (sp_own K) := by
  refine Ok.ofV T.d_own_size sc_own_size (fun vs H Q E h => ?_) (fun f cdv A outer s H vs Q E hr h => ?_)
  · obtain ⟨v, q, rfl, _⟩ := h; rfl
  obtain ⟨v, q0, rfl, hq, q⟩ := h
  refine ⟨_, (vss_one (vs_ret (ve_ifExp (vt_cmpR op_eq (ve_ix ix_tup (vv 0) ve_int (fun _ _ => rfl)) ve_str (nomark _)) (ve_callB call_len_seq (by rfl) T.n_len bf_len (va_c (ve_ix ix_tup (vv 0) ve_int (fun _ _ => rfl)) va_nil)) ve_int))), ?_⟩
  cases hq with
  | whr a b c =>
    obtain ⟨⟨p, us, rfl, hp, hr'⟩, _⟩ := c
    refine ⟨_, rfl, _, _, 0, _, rfl, rfl, a, at0 _ _, rfl, _, rfl, iteT ⟨_, rfl, _, _, 2, _, rfl, rfl, a, at2 _ _ _ _, _, _, rfl, .inr hp, ?_⟩⟩
    rw [hr'.len]
    exact q
  | table a b => exact ⟨_, rfl, _, _, 0, _, rfl, rfl, a, at0 _ _, rfl, _, rfl, iteF q⟩
  | keep a b c => exact ⟨_, rfl, _, _, 0, _, rfl, rfl, a, at0 _ _, rfl, _, rfl, iteF q⟩
  | nmd a b c => exact ⟨_, rfl, _, _, 0, _, rfl, rfl, a, at0 _ _, rfl, _, rfl, iteF q⟩
  | group a b c d => exact ⟨_, rfl, _, _, 0, _, rfl, rfl, a, at0 _ _, rfl, _, rfl, iteF q⟩
  | first a b c d => exact ⟨_, rfl, _, _, 0, _, rfl, rfl, a, at0 _ _, rfl, _, rfl, iteF q⟩
  | join a b c d => exact ⟨_, rfl, _, _, 0, _, rfl, rfl, a, at0 _ _, rfl, _, rfl, iteF q⟩
def sp_chk (K : PySem.W.Frag) : Sp := fun vs H Q _ => ∃ v q, vs = [v] ∧ IsQ K H v q ∧ size q ≤ 20 ∧ ∀ H', Same H H' → Q v H'
theorem all2_last {α β : Type} {R : α → β → Prop} {as : List α} {bs : List β} (h : All2 R as bs) (ne : as ≠ []) : ∃ as' a bs' b, as = as' ++ [a] ∧ bs = bs' ++ [b] ∧ All2 R as' bs' ∧ R a b := by
  induction h with
  | nil => exact absurd rfl ne
  | @cons a b as bs r t ih =>
    cases t with
    | nil => exact ⟨[], a, [], b, rfl, rfl, .nil, r⟩
    | cons r' t' =>
      obtain ⟨as', x, bs', y, e1, e2, h1, h2⟩ := ih (by simp)
      exact ⟨a :: as', x, b :: bs', y, by rw [e1]; rfl, by rw [e2]; rfl, .cons r h1, h2⟩
theorem sizes_app (xs ys : List Qn) : sizes (xs ++ ys) = sizes xs + sizes ys := by unfold sizes; rw [List.map_append, List.sum_append]
theorem sizes_pos {K : PySem.W.Frag} {H : Hp} {us : List V} {qs : List Qn} (h : All2 (IsQ K H) us qs) : us.length ≤ sizes qs := by
  induction h with
  | nil => exact Nat.le_refl _
  | @cons v q us qs r _ ih =>
    have := own_pos r
    have e := size_own q
    show us.length + 1 ≤ (((q :: qs).map size).sum)
    rw [List.map_cons, List.sum_cons]
    unfold sizes at ih
    omega
theorem ok_checked (T : Txt w K mg) (G_has_form : Ok P w K mg base 7 "has_form" ["thing"] (sp_q K)) (G_questions_in : Ok P w K mg base 1 "questions_in" ["question"] (sp_in K)) (G_own_size : Ok P w K mg base 1 "own_size" ["question"] (sp_own K)) : Ok P w K mg base 8 "checked" ["thing"] (sp_chk K) := by
  refine Ok.ofV T.d_checked sc_checked (fun vs H Q E h => ?_) (fun f cdv A outer s H vs Q E hr h => ?_)
  · obtain ⟨v, q, rfl, _⟩ := h; rfl
  obtain ⟨v, q0, rfl, hq, h20, q⟩ := h
  refine ⟨_, (vss_cons (vs_set (i := 1) sc_checked.nd rfl (by first | exact Or.inl rfl | exact Or.inr rfl) ve_int) (vss_cons (vs_set (i := 2) sc_checked.nd rfl (by first | exact Or.inl rfl | exact Or.inr rfl) (ve_lstA (va_c (vv 0) va_nil))) (vss_cons (vs_while PassesOwn.never (vt_truth (vv 2)) (vss_cons (vs_set (i := 3) sc_checked.nd rfl (by first | exact Or.inl rfl | exact Or.inr rfl) (ve_bm0 PySem.F.plainAttrs_list PySem.F.slot_list_pop PySem.F.type_list_pop mt_popR (vv 2))) (vss_cons (vs_if (vt_not (vt_val (ve_fn (G_has_form.mono (by decide)) hr (by rfl) (va_c (vv 3) va_nil)))) (vss_one vs_never) vss_nil) (vss_cons (vs_set (i := 1) sc_checked.nd rfl (by first | exact Or.inl rfl | exact Or.inr rfl) (ve_op op_add (vv 1) (ve_fn (G_own_size.mono (by decide)) hr (by rfl) (va_c (vv 3) va_nil)))) (vss_cons (vs_if (vt_cmpR op_gt (vv 1) (ve_gl (by rfl) T.g_MOST_SIZE) (nomark _)) (vss_one vs_never) vss_nil) (vss_one (vs_expr (ve_bm PySem.F.plainAttrs_list PySem.F.slot_list_extend PySem.F.type_list_extend mt_extendR (vv 2) (va_c (ve_fn (G_questions_in.mono (by decide)) hr (by rfl) (va_c (vv 3) va_nil)) va_nil))))))))) (vss_one (vs_ret (vv 0)))))), ?_⟩
  refine ⟨_, rfl, (by show 1 ≤ sizeLine; decide), fun W H1 fW s1 g1 => ?_⟩
  refine ⟨fun m σ H' => ∃ sz us qs l, σ = [some v, some (.int (sz : Nat)), some (.ref W), l] ∧ Same H H' ∧ H' W = some (.lst us) ∧ All2 (IsQ K H) us qs ∧ sz + sizes qs = size q0 ∧ m = sizes qs, ⟨_, 0, _, [q0], _, rfl, s1, g1, .cons hq .nil, by simp [sizes], rfl⟩, ?_⟩
  rintro m σ H' ⟨sz, us, qs, l, rfl, sm, eW, hu, hs, rfl⟩
  by_cases hne : us = []
  · subst hne
    refine ⟨_, rfl, false, .inl ⟨[], SqL.of eW, rfl⟩, ?_⟩
    refine iteF ?_
    exact ⟨_, rfl, q H' sm⟩
  · obtain ⟨us', u, qs', p, rfl, rfl, hu', hp⟩ := all2_last hu hne
    refine ⟨_, rfl, true, .inl ⟨_, SqL.of eW, by cases us' <;> rfl⟩, ?_⟩
    refine iteT ?_
    have hso := size_own p
    have hop := own_pos hp
    have hsz : sizes (qs' ++ [p]) = sizes qs' + size p := by rw [sizes_app]; simp [sizes]
    refine ⟨fun σ' H'' => ∃ m', m' < sizes (qs' ++ [p]) ∧ ∃ sz us qs l, σ' = [some v, some (.int (sz : Nat)), some (.ref W), l] ∧ Same H H'' ∧ H'' W = some (.lst us) ∧ All2 (IsQ K H) us qs ∧ sz + sizes qs = size q0 ∧ m' = sizes qs, fun σ' H'' h => h, ?_⟩
    refine ⟨_, rfl, .inl ⟨rfl, _, SqL.of eW⟩, W, _, u, rfl, rfl, eW, ?_, ?_⟩
    · rw [List.length_append, List.length_singleton, Nat.add_sub_cancel, List.getElem?_append_right (Nat.le_refl _), Nat.sub_self]
      rfl
    rw [List.dropLast_concat]
    have sx : Same H (upd H' W (.lst us')) := same_upd fW sm
    have ex : upd H' W (.lst us') W = some (.lst us') := upd_same
    generalize upd H' W (.lst us') = Hx at sx ex
    refine ⟨_, rfl, u, p, rfl, hp.same sx, fun H2 s2 => ⟨_, rfl, iteF ?_⟩⟩
    refine ⟨_, rfl, _, rfl, u, p, rfl, hp.same (sx.trans s2), _, _, rfl, rfl, ?_⟩
    refine ⟨_, rfl, _, _, rfl, rfl, _, rfl, ?_⟩
    have e20 : decide ((20 : Int) < (sz : Int) + (own p : Int)) = false := decide_eq_false (by omega)
    rw [e20]
    refine iteF ?_
    refine ⟨_, rfl, .inl ⟨rfl, _, SqL.of (s2 _ _ ex)⟩, ?_⟩
    refine ⟨_, rfl, u, p, H, rfl, sx.trans s2, hp, fun D H3 ws fD s3 gD hw => ?_⟩
    have lw := hw.len
    have lu := sizes_pos hu'
    have lk : (kids p).length ≤ 2 := by cases p <;> simp [kids]
    refine ⟨W, D, _, _, rfl, rfl, s3 _ _ (s2 _ _ ex), gD, small (by omega), ?_⟩
    refine ⟨_, ?_, sz + own p, us' ++ ws, qs' ++ kids p, some u, ?_, same_upd fW (sx.trans (s2.trans s3)), upd_same, hu'.app hw, ?_, rfl⟩
    · rw [sizes_app]; omega
    · rw [show ((sz + own p : Nat) : Int) = (sz : Int) + (own p : Int) from by omega]; rfl
    · rw [sizes_app]; omega
end
end My
set_option Elab.async false
set_option linter.all false
set_option maxRecDepth 100000
namespace My
open PySem PySem.Spec PyProof.Rows L2
set_option maxHeartbeats 400000
section
variable {P : Program} {w : World} {K : PySem.W.Frag} {mg : Str → Option Value} {base : Heap}
abbrev Hdr := List (Str × Str)
def IsC (K : PySem.W.Frag) (H : Hp) (v : V) (c : Str × Str) : Prop := ∃ p, v = .ref p ∧ SqT K H p [.str c.1, .str c.2]
theorem IsC.same {K : PySem.W.Frag} {H H' : Hp} {v : V} {c : Str × Str} (e : Same H H') (h : IsC K H v c) : IsC K H' v c := by
  obtain ⟨p, rfl, hp⟩ := h
  exact ⟨p, rfl, e.seqT hp⟩
def IsHd (K : PySem.W.Frag) (H : Hp) (v : V) (hd : Hdr) : Prop := TupR K H (IsC K H) v hd
theorem IsHd.same {K : PySem.W.Frag} {H H' : Hp} {v : V} {hd : Hdr} (e : Same H H') (h : IsHd K H v hd) : IsHd K H' v hd := TupR.same e (fun _ _ q => q.same e) h
def look (hd : Hdr) (n : Str) : Option Str := (hd.find? fun c => decide (c.1 = n)).map (·.2)
theorem look_at {n k : Str} : ∀ {hd : Hdr}, look hd n = some k → ∃ i, hd[i]? = some (n, k) ∧ ∀ (j : Nat) (c : Str × Str), j < i → hd[j]? = some c → c.1 ≠ n
  | [], h => by cases h
  | (m, j) :: r, h => by
    unfold look at h
    rw [List.find?_cons] at h
    by_cases e : m = n
    · rw [decide_eq_true (p := (m, j).1 = n) e] at h
      have h' : j = k := Option.some.inj h
      subst e h'
      exact ⟨0, rfl, fun j c hj => absurd hj (Nat.not_lt_zero _)⟩
    · rw [decide_eq_false (p := (m, j).1 = n) e] at h
      obtain ⟨i, h1, h2⟩ := look_at (hd := r) h
      refine ⟨i + 1, by simpa using h1, fun j' c hj hc => ?_⟩
      cases j' with
      | zero => cases hc; exact e
      | succ j' => exact h2 j' c (by omega) (by simpa using hc)
theorem all2_at {α β : Type} {R : α → β → Prop} : ∀ {as : List α} {bs : List β}, All2 R as bs → ∀ {i : Nat} {a : α}, as[i]? = some a → ∃ b, bs[i]? = some b ∧ R a b
  | _, _, .cons r t, 0, _, h1 => by cases h1; exact ⟨_, rfl, r⟩
  | _, _, .cons r t, i + 1, a, h1 => by
    obtain ⟨b, e, q⟩ := all2_at t (i := i) (a := a) (by simpa using h1)
    exact ⟨b, by simpa using e, q⟩
theorem all2_of {α β : Type} {R : α → β → Prop} : ∀ {as : List α} {bs : List β}, as.length = bs.length → (∀ (i : Nat) (a : α) (b : β), as[i]? = some a → bs[i]? = some b → R a b) → All2 R as bs
  | [], [], _, _ => .nil
  | a :: as, b :: bs, hl, h => .cons (h 0 a b rfl rfl) (all2_of (by simpa using hl) fun i x y h1 h2 => h (i + 1) x y (by simpa using h1) (by simpa using h2))
theorem isn_map {us : List V} {ns : List Str} (h : All2 (NameS K H) us ns) : us = ns.map V.str := by
  induction h with
  | nil => rfl
  | cons r _ ih => rw [List.map_cons, ih, r.1]
def sp_kin (K : PySem.W.Frag) : Sp := fun vs H Q _ => ∃ vh n hd k, vs = [vh, .str n] ∧ IsHd K H vh hd ∧ look hd n = some k ∧ Q (.str k) H
theorem ok_kind_in (T : Txt w K mg) : Ok P w K mg base 1 "kind_in" ["head", "name"] (sp_kin K) := by
  refine Ok.ofV T.d_kind_in sc_kind_in (fun vs H Q E h => ?_) (fun f cdv A outer s H vs Q E hr h => ?_)
  · obtain ⟨vh, n, hd, k, rfl, _⟩ := h; rfl
  obtain ⟨vh, n, hd, k, rfl, ⟨a, us, rfl, ha, hu⟩, hk, q⟩ := h
  refine ⟨_, (vss_cons (vs_for PassesOwn.never rfl (vi_tup (vv 0)) (vg_name (i := 2) sc_kind_in.nd rfl (by first | exact Or.inl rfl | exact Or.inr rfl)) (vss_one (vs_if (vt_cmpR op_eq (ve_ix (ix_tupK (K := K)) (vv 2) ve_int (fun _ _ => rfl)) (vv 1) (nomark _)) (vss_one (vs_ret (ve_ix (ix_tupK (K := K)) (vv 2) ve_int (fun _ _ => rfl)))) vss_nil))) (vss_one vs_never)), ?_⟩
  obtain ⟨i0, h0, hf⟩ := look_at hk
  have hi0 : i0 < us.length := by rw [hu.len]; exact (List.getElem?_eq_some_iff.mp h0).1
  refine ⟨_, rfl, a, rfl, ⟨_, ha⟩, for_tup (xs := us) (fun i σ H' => H' = H ∧ i ≤ i0 ∧ ∃ l, σ = [some (.ref a), some (.str n), l]) ⟨rfl, Nat.zero_le _, _, rfl⟩ (fun i σ H' _ ⟨e, _⟩ => by rw [e]; exact ha) ?_ ?_⟩
  · rintro i x σ H' hx ⟨rfl, hi, l, rfl⟩
    obtain ⟨c, hc, p, rfl, hp⟩ := all2_at hu hx
    refine ⟨_, rfl, p, _, 0, _, rfl, rfl, hp, at0 _ _, _, rfl, rfl, _, rfl, ?_⟩
    by_cases e : i = i0
    · subst e
      rw [h0] at hc
      cases hc
      rw [decide_eq_true rfl]
      exact iteT ⟨_, rfl, p, _, 1, _, rfl, rfl, hp, at1 _ _ _, q⟩
    · have hn := hf i c (by omega) hc
      rw [decide_eq_false (by intro z; exact hn (V.str.inj z))]
      exact iteF ⟨rfl, by omega, _, rfl⟩
  · rintro σ H' ⟨rfl, hi, _⟩
    omega
def sp_like (K : PySem.W.Frag) : Sp := fun vs H Q _ => ∃ (a b : Addr) (xs : List Str), vs = [.ref a, .ref b] ∧ SqL K H a (xs.map V.str) ∧ SqL K H b (xs.map V.str) ∧ Q .non H
theorem ok_need_like_kinds (T : Txt w K mg) : Ok P w K mg base 1 "need_like_kinds" ["kinds", "others"] (sp_like K) := by
  refine Ok.ofV T.d_need_like_kinds sc_need_like_kinds (fun vs H Q E h => ?_) (fun f cdv A outer s H vs Q E hr h => ?_)
  · obtain ⟨a, b, xs, rfl, _⟩ := h; rfl
  obtain ⟨a, b, xs, rfl, ha, hb, q⟩ := h
  have hu := hu_of hr
  exact ⟨_, (vss_one (vs_if (vt_cmpR (op_neS (Nat.lt_of_succ_lt hu)) (vv 0) (vv 1) (nomark _)) (vss_one vs_never) vss_nil)), ⟨_, rfl, _, rfl, a, b, xs, rfl, rfl, ha, hb, _, rfl, iteF q⟩⟩
def sp_nun (K : PySem.W.Frag) : Sp := fun vs H Q _ => ∃ (a : Addr) (ss : List Str), vs = [.ref a] ∧ SqL K H a (ss.map V.str) ∧ ss.length ≤ 1000 ∧ ss.Nodup ∧ ∀ H', Same H H' → Q .non H'
theorem ok_need_unlike (T : Txt w K mg) (G_are_unlike : Ok P w K mg base 1 "are_unlike" ["names"] (sp_unlike K)) : Ok P w K mg base 2 "need_unlike" ["names"] (sp_nun K) := by
  refine Ok.ofV T.d_need_unlike sc_need_unlike (fun vs H Q E h => ?_) (fun f cdv A outer s H vs Q E hr h => ?_)
  · obtain ⟨a, ss, rfl, _⟩ := h; rfl
  obtain ⟨a, ss, rfl, ha, hl, nd, q⟩ := h
  refine ⟨_, (vss_one (vs_if (vt_not (vt_val (ve_fn (G_are_unlike.mono (by decide)) hr (by rfl) (va_c (vv 0) va_nil)))) (vss_one vs_never) vss_nil)), ?_⟩
  refine ⟨_, rfl, a, ss, rfl, ha, hl, fun H1 s1 => ⟨_, rfl, ?_⟩⟩
  rw [decide_eq_true ((metS_eq ss).mpr nd)]
  exact iteF (q H1 s1)
def sp_th : Sp := fun vs H Q _ => ∃ d n v kvs, vs = [.ref d, .str n] ∧ H d = some (.dK kvs) ∧ valV kvs (Sum.inr n) = some v ∧ Q v H
theorem ok_table_head (T : Txt w K mg) : Ok P w K mg base 1 "table_head" ["heads", "name"] sp_th := by
  refine Ok.ofV T.d_table_head sc_table_head (fun vs H Q E h => ?_) (fun f cdv A outer s H vs Q E hr h => ?_)
  · obtain ⟨d, n, v, kvs, rfl, _⟩ := h; rfl
  obtain ⟨d, n, v, kvs, rfl, hd, hv, q⟩ := h
  have hu := hu_of hr
  refine ⟨_, (vss_cons (vs_if (vt_dnotin hu (vv 1) (vv 0)) (vss_one vs_never) vss_nil) (vss_one (vs_ret (ve_dget hu (vv 0) (vv 1) (fun _ _ => rfl))))), ?_⟩
  have g := DGet.k (k := Sum.inr n) hd
  rw [hv] at g
  exact ⟨_, rfl, _, rfl, d, _, rfl, g, _, rfl, iteF ⟨_, rfl, _, rfl, d, v, rfl, g, q⟩⟩
def kindS (v : V) : Str := if whole v then "number" else "word"
def othK (hd : Hdr) : Oth → Option Str
  | .val x => some (kindS x)
  | .col d => look hd d
def sp_oth (K : PySem.W.Frag) : Sp := fun vs H Q _ => ∃ vh u hd o k, vs = [vh, u] ∧ IsHd K H vh hd ∧ IsO K H u o ∧ othK hd o = some k ∧ Q (.str k) H
theorem ok_other_kind (T : Txt w K mg) (G_kind_of : Ok P w K mg base 2 "kind_of" ["value"] (sp_kind K)) (G_kind_in : Ok P w K mg base 1 "kind_in" ["head", "name"] (sp_kin K)) : Ok P w K mg base 3 "other_kind" ["head", "other"] (sp_oth K) := by
  refine Ok.ofV T.d_other_kind sc_other_kind (fun vs H Q E h => ?_) (fun f cdv A outer s H vs Q E hr h => ?_)
  · obtain ⟨vh, u, hd, o, k, rfl, _⟩ := h; rfl
  obtain ⟨vh, u, hd, o, k, rfl, hh, ho, hk, q⟩ := h
  refine ⟨_, (vss_one (vs_ret (ve_ifExp (vt_cmpR op_eq (ve_ix ix_tup (vv 1) ve_int (fun _ _ => rfl)) ve_str (nomark _)) (ve_fn (G_kind_of.mono (by decide)) hr (by rfl) (va_c (ve_ix ix_tup (vv 1) ve_int (fun _ _ => rfl)) va_nil)) (ve_fn (G_kind_in.mono (by decide)) hr (by rfl) (va_c (vv 0) (va_c (ve_ix ix_tup (vv 1) ve_int (fun _ _ => rfl)) va_nil)))))), ?_⟩
  cases o with
  | val x =>
    obtain ⟨a, rfl, ha, hx, _⟩ := ho
    cases hk
    exact ⟨_, rfl, a, _, 0, _, rfl, rfl, ha, at0 _ _, rfl, _, rfl, iteT ⟨_, rfl, a, _, 1, _, rfl, rfl, ha, at1 _ _ _, x, rfl, hx, q⟩⟩
  | col d =>
    obtain ⟨a, rfl, ha, _⟩ := ho
    exact ⟨_, rfl, a, _, 0, _, rfl, rfl, ha, at0 _ _, rfl, _, rfl, iteF ⟨_, rfl, _, rfl, a, _, 1, _, rfl, rfl, ha, at1 _ _ _, _, _, hd, k, rfl, hh, hk, q⟩⟩
def TestOk (hd : Hdr) (t : Tst) : Prop := ∃ k, look hd t.c = some k ∧ othK hd t.o = some k
def sp_wh (K : PySem.W.Frag) : Sp := fun vs H Q _ => ∃ vh u hd ts, vs = [vh, u] ∧ IsHd K H vh hd ∧ TupR K H (IsT K H) u ts ∧ ts.length ≤ 8 ∧ (∀ t ∈ ts, TestOk hd t) ∧ ∀ H', Same H H' → Q vh H'
theorem kinds_of {α : Type} {p : α → Str → Prop} : ∀ {ts : List α}, (∀ t ∈ ts, ∃ k, p t k) → ∃ ks, All2 p ts ks
  | [], _ => ⟨[], .nil⟩
  | t :: r, h => by
    obtain ⟨k, hk⟩ := h t (List.mem_cons_self ..)
    obtain ⟨ks, hks⟩ := kinds_of (ts := r) fun u hu => h u (List.mem_cons_of_mem _ hu)
    exact ⟨k :: ks, .cons hk hks⟩
theorem map_at {α : Type} {f : α → V} {xs : List α} {i : Nat} {y : V} (h : (xs.map f)[i]? = some y) : ∃ x, xs[i]? = some x ∧ y = f x := by
  rw [List.getElem?_map] at h
  cases e : xs[i]? with
  | none => rw [e] at h; cases h
  | some x => rw [e] at h; cases h; exact ⟨x, rfl, rfl⟩
theorem ok_where_head (T : Txt w K mg) (G_need_like_kinds : Ok P w K mg base 1 "need_like_kinds" ["kinds", "others"] (sp_like K)) (G_kind_in : Ok P w K mg base 1 "kind_in" ["head", "name"] (sp_kin K)) (G_other_kind : Ok P w K mg base 3 "other_kind" ["head", "other"] (sp_oth K)) :
    Ok P w K mg base 4 "where_head" ["head", "tests"] (sp_wh K) := by
  refine Ok.ofV T.d_where_head sc_where_head (fun vs H Q E h => ?_) (fun f cdv A outer s H vs Q E hr h => ?_)
  · obtain ⟨vh, u, hd, ts, rfl, _⟩ := h; rfl
  obtain ⟨vh, u, hd, ts, rfl, hh, ⟨a, us, rfl, ha, hu⟩, hl8, hok, q⟩ := h
  refine ⟨_, (vss_cons (vs_expr (ve_fn (G_need_like_kinds.mono (by decide)) hr (by rfl) (va_c (ve_comp (N := ["test", "head"]) ⟨by decide +kernel, rfl, by decide +kernel, by decide +kernel⟩ (hfr_of (defScope s_where_head) rfl (by decide +kernel)) rfl (vi_tup (vv 1)) (fun cl s' H' fp => ⟨(vg_name (i := 0) (show (["test", "head"] : List Str).Nodup from by decide +kernel) rfl (Or.inl rfl)), vf_nil, (ve_fn (G_kind_in.mono (by decide)) hr (by rfl) (va_c (vv 1) (va_c (ve_ix (ix_tupK (K := K)) (vv 0) ve_int (fun _ _ => rfl)) va_nil)))⟩)) (va_c (ve_comp (N := ["test", "head"]) ⟨by decide +kernel, rfl, by decide +kernel, by decide +kernel⟩ (hfr_of (defScope s_where_head) rfl (by decide +kernel)) rfl (vi_tup (vv 1)) (fun cl s' H' fp => ⟨(vg_name (i := 0) (show (["test", "head"] : List Str).Nodup from by decide +kernel) rfl (Or.inl rfl)), vf_nil, (ve_fn (G_other_kind.mono (by decide)) hr (by rfl) (va_c (vv 1) (va_c (ve_ix (ix_tupK (K := K)) (vv 0) ve_int (fun _ _ => rfl)) va_nil)))⟩)) va_nil)))) (vss_one (vs_ret (vv 0)))), ?_⟩
  obtain ⟨ks, hks⟩ := kinds_of hok
  have l1 := hu.len
  have l2 := hks.len
  dsimp only [tSeq, tDrop, tCall, tCons]
  refine comp_ix us (ks.map V.str) (by rw [List.length_map]; omega) [none, some vh] ?_ (small (by omega)) (fun R r => wi_tup ha (fun R' r' => ⟨_, rfl, r'⟩) R r) (fun i x y ex ey H' R l sm r => ?_) rfl fun D1 H1 s1 g1 => ?_
  · exact cap_at1 0 (by decide +kernel) rfl rfl (by first | exact Or.inl rfl | exact Or.inr (Or.inl rfl) | exact Or.inr (Or.inr rfl))
  · obtain ⟨t, ht, p, w', rfl, hp, _, _, ho⟩ := all2_at hu ex
    obtain ⟨k, hk, rfl⟩ := map_at ey
    have hq := all2_get hks ht hk
    exact ⟨_, rfl, _, rfl, p, _, 0, _, rfl, rfl, sm.seqT hp, at0 _ _, _, _, hd, k, rfl, hh.same sm, hq.1, r H' (Same.refl H')⟩
  refine comp_ix us (ks.map V.str) (by rw [List.length_map]; omega) [none, some vh] ?_ (small (by omega)) (fun R r => wi_tup (s1.seqT ha) (fun R' r' => ⟨_, rfl, r'⟩) R r) (fun i x y ex ey H' R l sm r => ?_) rfl fun D2 H2 s2 g2 => ?_
  · exact cap_at1 0 (by decide +kernel) rfl rfl (by first | exact Or.inl rfl | exact Or.inr (Or.inl rfl) | exact Or.inr (Or.inr rfl))
  · obtain ⟨t, ht, p, w', rfl, hp, _, _, ho⟩ := all2_at hu ex
    obtain ⟨k, hk, rfl⟩ := map_at ey
    have hq := all2_get hks ht hk
    exact ⟨_, rfl, _, rfl, p, _, 2, _, rfl, rfl, sm.seqT (s1.seqT hp), at2 _ _ _ _, _, _, hd, t.o, k, rfl, hh.same (s1.trans sm), ho.same (s1.trans sm), hq.2, r H' (Same.refl H')⟩
  exact ⟨D1, D2, ks, rfl, SqL.of (s2 _ _ g1), SqL.of g2, ⟨_, rfl, q H2 (s1.trans s2)⟩⟩
def NmsAt (K : PySem.W.Frag) (H : Hp) (v : V) (ns : List Str) : Prop := ∃ a, v = .ref a ∧ (SqL K H a (ns.map V.str) ∨ SqT K H a (ns.map V.str))
theorem nms_of {lo hi : Nat} {H : Hp} {v : V} {ns : List Str} (h : TupS NameS lo hi K H v ns) : NmsAt K H v ns := by
  obtain ⟨⟨a, us, rfl, ha, hr⟩, _⟩ := h
  rw [isn_map hr] at ha
  exact ⟨a, rfl, .inr ha⟩
def Looks (hd : Hdr) (ns ks : List Str) : Prop := All2 (fun n k => look hd n = some k) ns ks
def sp_kp (K : PySem.W.Frag) : Sp := fun vs H Q _ => ∃ vh u hd ns ks, vs = [vh, u] ∧ IsHd K H vh hd ∧ NmsAt K H u ns ∧ ns.length ≤ 1000 ∧ Looks hd ns ks ∧ ∀ v H', Same H H' → IsHd K H' v (ns.zip ks) → Q v H'
theorem wi_seq {K : PySem.W.Frag} {a : Addr} {xs : List V} {tl : TE} {σ : L2.St} {H : Hp} (hS : SqL K H a xs ∨ SqT K H a xs) (h : ∀ R : VK, R (.ref a) H → tl σ H R) (R : It → Hp → Prop)
    (q : ∀ J : It, (∀ H' i x, Same H H' → xs[i]? = some x → J.go i H' ∧ ∀ y H2, J.yld i H' y H2 → H2 = H' ∧ y = x) → (∀ H', Same H H' → J.stop xs.length H') → R J H) : iList K tl σ H R ∨ iTup K tl σ H R := by
  rcases hS with hS | hS
  · exact .inl (wi_list (fun H' sm => sm.seq hS) h R q)
  · exact .inr (wi_tup hS h R q)
def ColRel (K : PySem.W.Frag) (cs : Hdr) : Nat → Hp → V → Prop := fun i H y => ∃ c p, cs[i]? = some c ∧ y = .ref p ∧ H p = some (.tup [.str c.1, .str c.2])
theorem ColRel.st {cs : Hdr} {i : Nat} {H1 H2 : Hp} {y : V} (e : Same H1 H2) (h : ColRel K cs i H1 y) : ColRel K cs i H2 y := by
  obtain ⟨c, p, h1, h2, h3⟩ := h
  exact ⟨c, p, h1, h2, e _ _ h3⟩
theorem ColRel.su {cs : Hdr} {i : Nat} {H1 : Hp} {D : Addr} {ys zs : List V} {y : V} (hD : H1 D = some (.lst ys)) (h : ColRel K cs i H1 y) : ColRel K cs i (upd H1 D (.lst zs)) y := by
  obtain ⟨c, p, h1, h2, h3⟩ := h
  exact ⟨c, p, h1, h2, by rw [upd_ne (ne_of h3 hD (by intro z; cases z))]; exact h3⟩
theorem cols_hd {cs : Hdr} {H : Hp} {a : Addr} {ys : List V} (ha : SqT K H a ys) (hl : ys.length = cs.length) (h : ∀ (i : Nat) (y : V), ys[i]? = some y → ColRel K cs i H y) : IsHd K H (.ref a) cs := by
  refine ⟨a, ys, rfl, ha, all2_of hl fun i y c e1 e2 => ?_⟩
  obtain ⟨c', p, h1, h2, h3⟩ := h i y e1
  rw [e2] at h1
  cases h1
  exact ⟨p, h2, SqT.of h3⟩
theorem zip_at {ns ks : List Str} {i : Nat} {n k : Str} (h1 : ns[i]? = some n) (h2 : ks[i]? = some k) : (ns.zip ks)[i]? = some (n, k) := by
  rw [List.zip, List.getElem?_zipWith, h1, h2]
theorem ok_keep_head (T : Txt w K mg) (G_kind_in : Ok P w K mg base 1 "kind_in" ["head", "name"] (sp_kin K)) : Ok P w K mg base 2 "keep_head" ["head", "names"] (sp_kp K) := by
  refine Ok.ofV T.d_keep_head sc_keep_head (fun vs H Q E h => ?_) (fun f cdv A outer s H vs Q E hr h => ?_)
  · obtain ⟨vh, u, hd, ns, ks, rfl, _⟩ := h; rfl
  obtain ⟨vh, u, hd, ns, ks, rfl, hh, ⟨a, rfl, ha⟩, hl, hk, q⟩ := h
  refine ⟨_, (vss_one (vs_ret (ve_callTy call_tupleA (by rfl) T.n_tuple bt_tuple (va_c (ve_comp (N := ["name", "head"]) ⟨by decide +kernel, rfl, by decide +kernel, by decide +kernel⟩ (hfr_of (defScope s_keep_head) rfl (by decide +kernel)) rfl (vi_seq (vv 1)) (fun cl s' H' fp => ⟨(vg_name (i := 0) (show (["name", "head"] : List Str).Nodup from by decide +kernel) rfl (Or.inl rfl)), vf_nil, (ve_tupA (va_c (vv 0) (va_c (ve_fn (G_kind_in.mono (by decide)) hr (by rfl) (va_c (vv 1) (va_c (vv 0) va_nil))) va_nil)))⟩)) va_nil)))), ?_⟩
  have hln := hk.len
  dsimp only [tRet, tCB, tCons]
  refine comp_anyI (ns.map V.str) (ColRel K (ns.zip ks)) ColRel.st ColRel.su [none, some vh] ?_ (small (by rw [List.length_map]; exact hl)) (fun R r => wi_seq ha (fun R' r' => ⟨_, rfl, r'⟩) R r) (fun i x ex H' R l sm r => ?_) rfl fun D H' ys sm hD hly hR => ?_
  · exact cap_at1 0 (by decide +kernel) rfl rfl (by first | exact Or.inl rfl | exact Or.inr (Or.inl rfl) | exact Or.inr (Or.inr rfl))
  · obtain ⟨n, hn, rfl⟩ := map_at ex
    obtain ⟨k, hkk, hlk⟩ := all2_at hk hn
    exact ⟨_, rfl, _, rfl, _, rfl, _, _, hd, k, rfl, hh.same sm, hlk, (by show 2 ≤ sizeLine; decide), fun p H2 _ s2 g2 => r _ _ s2 ⟨(n, k), p, zip_at hn hkk, rfl, g2⟩⟩
  · refine ⟨D, _, rfl, SqL.of hD, fun t H2 _ s2 g2 => q _ _ (sm.trans s2) (cols_hd (SqT.of g2) ?_ fun i y e => (hR i y e).st s2)⟩
    rw [hly, List.length_map, List.length_zip]
    omega
def sp_nmh (K : PySem.W.Frag) : Sp := fun vs H Q _ => ∃ vh u hd ns, vs = [vh, u] ∧ IsHd K H vh hd ∧ (∃ a, u = .ref a ∧ SqT K H a (ns.map V.str)) ∧ ns.length ≤ 1000 ∧ ns.length = hd.length ∧ ∀ v H', Same H H' → IsHd K H' v (List.zipWith (fun n c => (n, c.2)) ns hd) → Q v H'
theorem ok_named_head (T : Txt w K mg) : Ok P w K mg base 1 "named_head" ["head", "names"] (sp_nmh K) := by
  refine Ok.ofV T.d_named_head sc_named_head (fun vs H Q E h => ?_) (fun f cdv A outer s H vs Q E hr h => ?_)
  · obtain ⟨vh, u, hd, ns, rfl, _⟩ := h; rfl
  obtain ⟨vh, u, hd, ns, rfl, ⟨b, us, rfl, hb, hu⟩, ⟨a, rfl, ha⟩, hl, hle, q⟩ := h
  refine ⟨_, (vss_cons (vs_if (vt_cmpR op_ne (ve_callB call_len_seq (by rfl) T.n_len bf_len (va_c (vv 1) va_nil)) (ve_callB call_len_seq (by rfl) T.n_len bf_len (va_c (vv 0) va_nil)) (nomark _)) (vss_one vs_never) vss_nil) (vss_one (vs_ret (ve_callTy call_tupleA (by rfl) T.n_tuple bt_tuple (va_c (ve_comp (N := ["name", "column"]) ⟨by decide +kernel, rfl, by decide +kernel, by decide +kernel⟩ (hfr_none (by decide +kernel)) rfl (vi_zipT (by rfl) T.n_zip (va_c (vv 1) (va_c (vv 0) va_nil))) (fun cl s' H' fp => ⟨(vg_tupK (K := K) (n := 2) rfl (vgs_cons (vg_name (i := 0) (show (["name", "column"] : List Str).Nodup from by decide +kernel) rfl (Or.inl rfl)) (vgs_cons (vg_name (i := 1) (show (["name", "column"] : List Str).Nodup from by decide +kernel) rfl (Or.inl rfl)) vgs_nil))), vf_nil, (ve_tupA (va_c (vv 0) (va_c (ve_ix (ix_tupK (K := K)) (vv 1) ve_int (fun _ _ => rfl)) va_nil)))⟩)) va_nil))))), ?_⟩
  have hlu := hu.len
  refine ⟨_, rfl, _, _, rfl, .inr ha, _, rfl, _, _, rfl, .inr hb, rfl, _, rfl, ?_⟩
  have e : (!decide (V.int ((ns.map V.str).length : Nat) = V.int (us.length : Nat))) = false := by rw [List.length_map, hle, hlu]; simp
  rw [e]
  refine iteF ?_
  dsimp only [tNext, tRet, tCB, tCons]
  refine comp_zipI (ns.map V.str) us (ColRel K (List.zipWith (fun n c => (n, c.2)) ns hd)) ColRel.st ColRel.su [none, none] cap_none2 (small (by rw [List.length_map]; exact hl)) (by rw [List.length_map]; omega) (fun R r => ⟨_, rfl, _, rfl, r a b H (Same.refl H) ha hb⟩) (fun i x y ex ey H' R l1 l2 sm r => ?_) rfl rfl fun D H' zs sm hD hlz hR => ?_
  · obtain ⟨n, hn, rfl⟩ := map_at ex
    obtain ⟨c, hc, p, rfl, hp⟩ := all2_at hu ey
    refine ⟨_, rfl, _, rfl, p, _, 1, _, rfl, rfl, sm.seqT hp, at1 _ _ _, (by show 2 ≤ sizeLine; decide), fun t H2 _ s2 g2 => r _ _ s2 ⟨(n, c.2), t, ?_, rfl, g2⟩⟩
    rw [List.getElem?_zipWith, hn, hc]
  · refine ⟨D, _, rfl, SqL.of hD, fun t H2 _ s2 g2 => q _ _ (sm.trans s2) (cols_hd (SqT.of g2) ?_ fun i y e => (hR i y e).st s2)⟩
    rw [hlz, List.length_map, List.length_zipWith]
    omega
def sp_jn (K : PySem.W.Frag) : Sp := fun vs H Q _ => ∃ vh vo u hd ho ps ks, vs = [vh, vo, u] ∧ IsHd K H vh hd ∧ IsHd K H vo ho ∧ TupR K H (IsPr K H) u ps ∧ ps.length ≤ 8 ∧ hd.length ≤ 100 ∧ ho.length ≤ 100 ∧ All2 (fun p k => look hd p.1 = some k ∧ look ho p.2 = some k) ps ks ∧ (ps.map (·.1)).Nodup ∧ (ps.map (·.2)).Nodup ∧
  ∀ v H', Same H H' → IsHd K H' v (hd ++ ho.filter fun c => !decide (c.1 ∈ ps.map (·.2))) → Q v H'
theorem inV_map {n : Str} {ss : List Str} : inV (.str n) (ss.map V.str) = decide (n ∈ ss) := by
  unfold inV
  rw [Bool.eq_iff_iff, List.any_eq_true, decide_eq_true_eq]
  constructor
  · rintro ⟨v, hv, e⟩
    obtain ⟨z, hz, rfl⟩ := List.mem_map.mp hv
    have e2 : (z == n) = true := e
    have e3 : z = n := by simpa using e2
    rw [← e3]; exact hz
  · intro h
    refine ⟨.str n, List.mem_map.mpr ⟨n, h, rfl⟩, ?_⟩
    show (n == n) = true
    simp
theorem flat_map {ss : List Str} : (ss.map V.str).all flatV = true := by
  rw [List.all_eq_true]
  intro v hv
  obtain ⟨z, _, rfl⟩ := List.mem_map.mp hv
  rfl
theorem sel_filter {α : Type} {p : Nat → Bool} {p' : α → Bool} : ∀ {k : Nat} {xs : List α}, (∀ (i : Nat) (x : α), xs[i]? = some x → p (k + i) = p' x) → sel p k xs = xs.filter p'
  | _, [], _ => rfl
  | k, x :: r, h => by
    have h0 := h 0 x rfl
    rw [Nat.add_zero] at h0
    show (if p k then x :: sel p (k + 1) r else sel p (k + 1) r) = _
    rw [List.filter_cons, h0, sel_filter (k := k + 1) (xs := r) fun i y e => by rw [show k + 1 + i = k + (i + 1) by omega]; exact h (i + 1) y (by simpa using e)]
theorem all2_sel {α β : Type} {R : α → β → Prop} {p : Nat → Bool} {as : List α} {bs : List β} (h : All2 R as bs) : ∀ k, All2 R (sel p k as) (sel p k bs) := by
  induction h with
  | nil => exact fun _ => .nil
  | @cons a b as bs r _ ih =>
    intro k
    show All2 R (if p k then a :: sel p (k + 1) as else sel p (k + 1) as) (if p k then b :: sel p (k + 1) bs else sel p (k + 1) bs)
    split
    · exact .cons r (ih _)
    · exact ih _
def leftP (ho : Hdr) (ss : List Str) (i : Nat) : Bool := match ho[i]? with
  | some c => !decide (c.1 ∈ ss)
  | none => false
theorem ok_join_head (T : Txt w K mg) (G_need_like_kinds : Ok P w K mg base 1 "need_like_kinds" ["kinds", "others"] (sp_like K)) (G_kind_in : Ok P w K mg base 1 "kind_in" ["head", "name"] (sp_kin K)) (G_need_unlike : Ok P w K mg base 2 "need_unlike" ["names"] (sp_nun K)) :
    Ok P w K mg base 3 "join_head" ["head", "other", "pairs"] (sp_jn K) := by
  refine Ok.ofV T.d_join_head sc_join_head (fun vs H Q E h => ?_) (fun f cdv A outer s H vs Q E hr h => ?_)
  · obtain ⟨vh, vo, u, hd, ho, ps, ks, rfl, _⟩ := h; rfl
  obtain ⟨vh, vo, u, hd, ho, ps, ks, rfl, hh, hho, ⟨a, us, rfl, ha, hu⟩, hl8, hl1, hl2, hks, nd1, nd2, q⟩ := h
  refine ⟨_, (vss_cons (vs_setC (i0 := 3) sc_join_head.nd rfl (by first | exact Or.inl rfl | exact Or.inr rfl) (N := ["pair"]) ⟨by decide +kernel, rfl, by decide +kernel, by decide +kernel⟩ (hfr_none (by decide +kernel)) rfl (vi_tup (vv 2)) (fun cl s' H' fp => ⟨(vg_name (i := 0) (show (["pair"] : List Str).Nodup from by decide +kernel) rfl (Or.inl rfl)), vf_nil, (ve_ix (ix_tupK (K := K)) (vv 0) ve_int (fun _ _ => rfl))⟩)) (vss_cons (vs_set (i := 4) sc_join_head.nd rfl (by first | exact Or.inl rfl | exact Or.inr rfl) (ve_comp (N := ["pair"]) ⟨by decide +kernel, rfl, by decide +kernel, by decide +kernel⟩ (hfr_none (by decide +kernel)) rfl (vi_tup (vv 2)) (fun cl s' H' fp => ⟨(vg_name (i := 0) (show (["pair"] : List Str).Nodup from by decide +kernel) rfl (Or.inl rfl)), vf_nil, (ve_ix (ix_tupK (K := K)) (vv 0) ve_int (fun _ _ => rfl))⟩))) (vss_cons (vs_expr (ve_fn (G_need_like_kinds.mono (by decide)) hr (by rfl) (va_c (ve_comp (N := ["name", "head"]) ⟨by decide +kernel, rfl, by decide +kernel, by decide +kernel⟩ (hfr_of (defScope s_join_head) rfl (by decide +kernel)) rfl (vi_list (vv 3)) (fun cl s' H' fp => ⟨(vg_name (i := 0) (show (["name", "head"] : List Str).Nodup from by decide +kernel) rfl (Or.inl rfl)), vf_nil, (ve_fn (G_kind_in.mono (by decide)) hr (by rfl) (va_c (vv 1) (va_c (vv 0) va_nil)))⟩)) (va_c (ve_comp (N := ["name", "other"]) ⟨by decide +kernel, rfl, by decide +kernel, by decide +kernel⟩ (hfr_of (defScope s_join_head) rfl (by decide +kernel)) rfl (vi_list (vv 4)) (fun cl s' H' fp => ⟨(vg_name (i := 0) (show (["name", "other"] : List Str).Nodup from by decide +kernel) rfl (Or.inl rfl)), vf_nil, (ve_fn (G_kind_in.mono (by decide)) hr (by rfl) (va_c (vv 1) (va_c (vv 0) va_nil)))⟩)) va_nil)))) (vss_cons (vs_expr (ve_fn (G_need_unlike.mono (by decide)) hr (by rfl) (va_c (vv 3) va_nil))) (vss_cons (vs_expr (ve_fn (G_need_unlike.mono (by decide)) hr (by rfl) (va_c (vv 4) va_nil))) (vss_one (vs_ret (ve_op op_catA (vv 0) (ve_callTy call_tupleA (by rfl) T.n_tuple bt_tuple (va_c (ve_comp (N := ["column", "there"]) ⟨by decide +kernel, rfl, by decide +kernel, by decide +kernel⟩ (hfr_of (defScope s_join_head) rfl (by decide +kernel)) rfl (vi_tup (vv 1)) (fun cl s' H' fp => ⟨(vg_name (i := 0) (show (["column", "there"] : List Str).Nodup from by decide +kernel) rfl (Or.inl rfl)), (vf_one (vt_cmpR (op_notIn_seqK (K := K)) (ve_ix (ix_tupK (K := K)) (vv 0) ve_int (fun _ _ => rfl)) (vv 1) (by with_unfolding_all rfl))), (vv 0)⟩)) va_nil)))))))))), ?_⟩
  have lu := hu.len
  have lk := hks.len
  dsimp only [tSeq, tAsg]
  refine comp_ix us ((ps.map (·.1)).map V.str) (by rw [List.length_map, List.length_map]; omega) [none] cap_none1 (small (by omega)) (fun R r => wi_tup ha (fun R' r' => ⟨_, rfl, r'⟩) R r) (fun i x y ex ey H' R l sm r => ?_) rfl fun D1 H1 s1 g1 => ?_
  · obtain ⟨p, hp, b, rfl, hb, _⟩ := all2_at hu ex
    obtain ⟨n, hn, rfl⟩ := map_at ey
    rw [List.getElem?_map, hp] at hn
    cases hn
    exact ⟨_, rfl, b, _, 0, _, rfl, rfl, sm.seqT hb, at0 _ _, r H' (Same.refl H')⟩
  dsimp only [gName, tSeq, tAsg]
  refine comp_ix us ((ps.map (·.2)).map V.str) (by rw [List.length_map, List.length_map]; omega) [none] cap_none1 (small (by omega)) (fun R r => wi_tup (s1.seqT ha) (fun R' r' => ⟨_, rfl, r'⟩) R r) (fun i x y ex ey H' R l sm r => ?_) rfl fun D2 H2 s2 g2 => ?_
  · obtain ⟨p, hp, b, rfl, hb, _⟩ := all2_at hu ex
    obtain ⟨n, hn, rfl⟩ := map_at ey
    rw [List.getElem?_map, hp] at hn
    cases hn
    exact ⟨_, rfl, b, _, 1, _, rfl, rfl, sm.seqT (s1.seqT hb), at1 _ _ _, r H' (Same.refl H')⟩
  dsimp only [gName, tSeq, tAsg, tDrop, tCall, tCons]
  refine comp_ix ((ps.map (·.1)).map V.str) (ks.map V.str) (by rw [List.length_map, List.length_map, List.length_map]; omega) [none, some vh] ?_ (small (by rw [List.length_map, List.length_map]; omega)) (fun R r => wi_list (fun H' sm => SqL.of (sm _ _ (s2 _ _ g1))) (fun R' r' => ⟨_, rfl, r'⟩) R r) (fun i x y ex ey H' R l sm r => ?_) rfl fun D3 H3 s3 g3 => ?_
  · exact cap_at1 0 (by decide +kernel) rfl rfl (by first | exact Or.inl rfl | exact Or.inr (Or.inl rfl) | exact Or.inr (Or.inr rfl))
  · obtain ⟨n, hn, rfl⟩ := map_at ex
    obtain ⟨k, hk, rfl⟩ := map_at ey
    obtain ⟨p, hp, rfl⟩ : ∃ p, ps[i]? = some p ∧ n = p.1 := by
      rw [List.getElem?_map] at hn
      cases e : ps[i]? with
      | none => rw [e] at hn; cases hn
      | some p => rw [e] at hn; cases hn; exact ⟨p, rfl, rfl⟩
    exact ⟨_, rfl, _, rfl, _, _, hd, k, rfl, hh.same (s1.trans (s2.trans sm)), (all2_get hks hp hk).1, r H' (Same.refl H')⟩
  refine comp_ix ((ps.map (·.2)).map V.str) (ks.map V.str) (by rw [List.length_map, List.length_map, List.length_map]; omega) [none, some vo] ?_ (small (by rw [List.length_map, List.length_map]; omega)) (fun R r => wi_list (fun H' sm => SqL.of (sm _ _ (s3 _ _ g2))) (fun R' r' => ⟨_, rfl, r'⟩) R r) (fun i x y ex ey H' R l sm r => ?_) rfl fun D4 H4 s4 g4 => ?_
  · exact cap_at1 1 (by decide +kernel) rfl rfl (by first | exact Or.inl rfl | exact Or.inr (Or.inl rfl) | exact Or.inr (Or.inr rfl))
  · obtain ⟨n, hn, rfl⟩ := map_at ex
    obtain ⟨k, hk, rfl⟩ := map_at ey
    obtain ⟨p, hp, rfl⟩ : ∃ p, ps[i]? = some p ∧ n = p.2 := by
      rw [List.getElem?_map] at hn
      cases e : ps[i]? with
      | none => rw [e] at hn; cases hn
      | some p => rw [e] at hn; cases hn; exact ⟨p, rfl, rfl⟩
    exact ⟨_, rfl, _, rfl, _, _, ho, k, rfl, hho.same (s1.trans (s2.trans (s3.trans sm))), (all2_get hks hp hk).2, r H' (Same.refl H')⟩
  refine ⟨D3, D4, ks, rfl, SqL.of (s4 _ _ g3), SqL.of g4, ?_⟩
  have t4 := s1.trans (s2.trans (s3.trans s4))
  refine ⟨_, rfl, D1, _, rfl, SqL.of ((s2.trans (s3.trans s4)) _ _ g1), (by rw [List.length_map]; omega), nd1, fun H5 s5 => ?_⟩
  refine ⟨_, rfl, D2, _, rfl, SqL.of ((s3.trans (s4.trans s5)) _ _ g2), (by rw [List.length_map]; omega), nd2, fun H6 s6 => ?_⟩
  have t6 := t4.trans (s5.trans s6)
  have g6 := (s3.trans (s4.trans (s5.trans s6))) _ _ g2
  obtain ⟨b, ws, rfl, hb, hw⟩ := hho
  obtain ⟨c, zs, rfl, hc, hz⟩ := hh
  have lw := hw.len
  have lz := hz.len
  refine ⟨_, rfl, ?_⟩
  dsimp only [tSeq, tCB, tCons]
  refine comp_sel ws (leftP ho (ps.map (·.2))) [none, some (.ref D2)] ?_ (small (by omega)) (fun R r => wi_tup (t6.seqT hb) (fun R' r' => ⟨_, rfl, r'⟩) R r) (fun i x ex H' R l sm r => ?_) rfl fun D7 H7 s7 g7 => ?_
  · exact cap_at1 4 (by decide +kernel) rfl rfl (by first | exact Or.inl rfl | exact Or.inr (Or.inl rfl) | exact Or.inr (Or.inr rfl))
  · obtain ⟨d, hd', p, rfl, hp⟩ := all2_at hw ex
    refine ⟨_, rfl, p, _, 0, _, rfl, rfl, sm.seqT (t6.seqT hp), at0 _ _, _, rfl, D2, _, rfl, .inl (SqL.of (sm _ _ g6)), rfl, flat_map, _, rfl, ?_⟩
    have e : leftP ho (ps.map (·.2)) i = !decide (d.1 ∈ ps.map (·.2)) := by unfold leftP; rw [hd']
    rw [inV_map]
    rw [e] at r
    exact r H' (Same.refl H')
  refine ⟨D7, _, rfl, SqL.of g7, fun t H8 _ s8 g8 => ?_⟩
  have t8 := t6.trans (s7.trans s8)
  have lsel := sel_len (leftP ho (ps.map (·.2))) 0 ws
  refine ⟨c, t, _, _, rfl, rfl, t8.seqT hc, SqT.of g8, small (by omega), fun r H9 s9 g9 => ?_⟩
  refine q _ _ (t8.trans s9) ⟨r, _, rfl, g9, (hz.imp fun _ _ h => h.same (t8.trans s9)).app ?_⟩
  have e : sel (leftP ho (ps.map (·.2))) 0 ho = ho.filter fun c => !decide (c.1 ∈ ps.map (·.2)) := sel_filter fun i x ex => by
    unfold leftP
    rw [Nat.zero_add, ex]
  rw [← e]
  exact (all2_sel hw 0).imp fun _ _ h => h.same (t8.trans s9)
end
end My
set_option Elab.async false
set_option linter.all false
set_option maxRecDepth 100000
namespace My
open PySem PySem.Spec PyProof.Rows L2
set_option maxHeartbeats 400000
section
variable {P : Program} {w : World} {K : PySem.W.Frag} {mg : Str → Option Value} {base : Heap}
def smK (hd : Hdr) (s : Sm) : Option Str := match s.c with
  | none => some "number"
  | some c => look hd c
def sp_sk (K : PySem.W.Frag) : Sp := fun vs H Q _ => ∃ vh u hd s k, vs = [vh, u] ∧ IsHd K H vh hd ∧ IsSm K H u s ∧ smK hd s = some k ∧ Q (.str k) H
theorem wd_ne {x : Str} (h : WdOk x) : decide (V.str x = V.str "count") = false := by
  rcases h with rfl | rfl | rfl <;> decide +kernel
theorem ok_sum_kind (T : Txt w K mg) (G_kind_in : Ok P w K mg base 1 "kind_in" ["head", "name"] (sp_kin K)) : Ok P w K mg base 2 "sum_kind" ["head", "part"] (sp_sk K) := by
  refine Ok.ofV T.d_sum_kind sc_sum_kind (fun vs H Q E h => ?_) (fun f cdv A outer s H vs Q E hr h => ?_)
  · obtain ⟨vh, u, hd, s, k, rfl, _⟩ := h; rfl
  obtain ⟨vh, u, hd, sm, k, rfl, hh, ⟨a, rfl, hn, hs⟩, hk, q⟩ := h
  refine ⟨_, (vss_one (vs_ret (ve_ifExp (vt_cmpR op_eq (ve_ix ix_tup (vv 1) ve_int (fun _ _ => rfl)) ve_str (nomark _)) ve_str (ve_fn (G_kind_in.mono (by decide)) hr (by rfl) (va_c (vv 0) (va_c (ve_ix ix_tup (vv 1) ve_int (fun _ _ => rfl)) va_nil)))))), ?_⟩
  rcases hs with ⟨e, ec, ha⟩ | ⟨c, ec, hc, hw, ha⟩
  · have ek : k = "number" := by
      unfold smK at hk
      rw [ec] at hk
      exact (Option.some.inj hk).symm
    subst ek
    exact ⟨_, rfl, a, _, 0, _, rfl, rfl, ha, at0 _ _, rfl, _, rfl, iteT q⟩
  · have hk' : look hd c = some k := by
      unfold smK at hk
      rw [ec] at hk
      exact hk
    refine ⟨_, rfl, a, _, 0, _, rfl, rfl, ha, at0 _ _, rfl, _, rfl, ?_⟩
    rw [wd_ne hw]
    exact iteF ⟨_, rfl, _, rfl, a, _, 1, _, rfl, rfl, ha, at1 _ _ _, _, _, hd, k, rfl, hh, hk', q⟩
theorem sm_at {H : Hp} {u : V} {s : Sm} (h : IsSm K H u s) : ∃ a x, u = .ref a ∧ SqT K H a [.str s.wd, x, .str s.new] := by
  obtain ⟨a, rfl, hn, hs⟩ := h
  rcases hs with ⟨e, ec, ha⟩ | ⟨c, ec, hc, hw, ha⟩
  · exact ⟨a, _, rfl, by rw [e]; exact ha⟩
  · exact ⟨a, _, rfl, ha⟩
def SumsOk (hd : Hdr) (ss : List Sm) (js : List Str) : Prop := All2 (fun s j => smK hd s = some j ∧ (s.wd = "sum" → j ≠ "word")) ss js
def sp_gr (K : PySem.W.Frag) : Sp := fun vs H Q _ => ∃ vh u x hd ns ss ks js, vs = [vh, u, x] ∧ IsHd K H vh hd ∧ NmsAt K H u ns ∧ ns.length ≤ 100 ∧ TupR K H (IsSm K H) x ss ∧ ss.length ≤ 100 ∧ Looks hd ns ks ∧ SumsOk hd ss js ∧
  ∀ v H', Same H H' → IsHd K H' v (ns.zip ks ++ (ss.map Sm.new).zip js) → Q v H'
theorem ok_group_head (T : Txt w K mg) (G_keep_head : Ok P w K mg base 2 "keep_head" ["head", "names"] (sp_kp K)) (G_sum_kind : Ok P w K mg base 2 "sum_kind" ["head", "part"] (sp_sk K)) : Ok P w K mg base 3 "group_head" ["head", "names", "sums"] (sp_gr K) := by
  refine Ok.ofV T.d_group_head sc_group_head (fun vs H Q E h => ?_) (fun f cdv A outer s H vs Q E hr h => ?_)
  · obtain ⟨vh, u, x, hd, ns, ss, ks, js, rfl, _⟩ := h; rfl
  obtain ⟨vh, u, x, hd, ns, ss, ks, js, rfl, hh, hns, hl, ⟨a, us, rfl, ha, hu⟩, hl2, hks, hjs, q⟩ := h
  refine ⟨_, (vss_cons (vs_set (i := 3) sc_group_head.nd rfl (by first | exact Or.inl rfl | exact Or.inr rfl) (ve_fn (G_keep_head.mono (by decide)) hr (by rfl) (va_c (vv 0) (va_c (vv 1) va_nil)))) (vss_cons (vs_set (i := 4) sc_group_head.nd rfl (by first | exact Or.inl rfl | exact Or.inr rfl) (ve_callTy call_tupleA (by rfl) T.n_tuple bt_tuple (va_c (ve_comp (N := ["part", "head"]) ⟨by decide +kernel, rfl, by decide +kernel, by decide +kernel⟩ (hfr_of (defScope s_group_head) rfl (by decide +kernel)) rfl (vi_tup (vv 2)) (fun cl s' H' fp => ⟨(vg_name (i := 0) (show (["part", "head"] : List Str).Nodup from by decide +kernel) rfl (Or.inl rfl)), vf_nil, (ve_tupA (va_c (ve_ix (ix_tupK (K := K)) (vv 0) ve_int (fun _ _ => rfl)) (va_c (ve_fn (G_sum_kind.mono (by decide)) hr (by rfl) (va_c (vv 1) (va_c (vv 0) va_nil))) va_nil)))⟩)) va_nil))) (vss_cons (vs_for PassesOwn.never rfl (vi_zipT (by rfl) T.n_zip (va_c (vv 2) (va_c (vv 4) va_nil))) (vg_tup rfl (vgs_cons (vg_name (i := 5) sc_group_head.nd rfl (by first | exact Or.inl rfl | exact Or.inr rfl)) (vgs_cons (vg_name (i := 6) sc_group_head.nd rfl (by first | exact Or.inl rfl | exact Or.inr rfl)) vgs_nil))) (vss_one (vs_if (VW.pt (vw_and (vt_cmpR op_eq (ve_ix ix_tup (vv 5) ve_int (fun _ _ => rfl)) ve_str (nomark _)) (vw_and1 (vt_cmpR op_eq (ve_ix ix_tup (vv 6) ve_int (fun _ _ => rfl)) ve_str (nomark _))))) (vss_one vs_never) vss_nil))) (vss_one (vs_ret (ve_op op_catA (vv 3) (vv 4))))))), ?_⟩
  have lu := hu.len
  have lj := hjs.len
  have lk := hks.len
  refine ⟨_, rfl, _, rfl, vh, u, hd, ns, ks, rfl, hh, hns, by omega, hks, fun kept H1 s1 hkept => ?_⟩
  dsimp only [gName, tSeq, tAsg, tCB, tCons]
  refine comp_anyI us (ColRel K ((ss.map Sm.new).zip js)) ColRel.st ColRel.su [none, some vh] ?_ (small (by omega)) (fun R r => wi_tup (s1.seqT ha) (fun R' r' => ⟨_, rfl, r'⟩) R r) (fun i y ey H' R l sm r => ?_) rfl fun D H2 ys s2 hD hly hR => ?_
  · exact cap_at1 0 (by decide +kernel) rfl rfl (by first | exact Or.inl rfl | exact Or.inr (Or.inl rfl) | exact Or.inr (Or.inr rfl))
  · obtain ⟨p, hp, hsm⟩ := all2_at hu ey
    obtain ⟨j, hj, hjk, _⟩ := all2_at hjs hp
    obtain ⟨b, z, rfl, hb⟩ := sm_at hsm
    refine ⟨_, rfl, b, _, 2, _, rfl, rfl, sm.seqT (s1.seqT hb), at2 _ _ _ _, _, rfl, _, rfl, _, _, hd, p, j, rfl, hh.same (s1.trans sm), hsm.same (s1.trans sm), hjk, (by show 2 ≤ sizeLine; decide), fun t H3 _ s3 g3 => r _ _ s3 ⟨(p.new, j), t, zip_at (by rw [List.getElem?_map, hp]; rfl) hj, rfl, g3⟩⟩
  refine ⟨D, _, rfl, SqL.of hD, fun t H3 _ s3 g3 => ?_⟩
  have lz : ((ss.map Sm.new).zip js).length = ss.length := by rw [List.length_zip, List.length_map]; omega
  have hmade : IsHd K H3 (.ref t) ((ss.map Sm.new).zip js) := cols_hd (SqT.of g3) (by rw [hly, lz]; exact lu) fun i y e => (hR i y e).st s3
  have t3 := s1.trans (s2.trans s3)
  dsimp only [gName, tSeq]
  refine ⟨_, rfl, _, rfl, a, t, us, ys, rfl, t3.seqT ha, SqT.of g3, for_zip (fun i σ H' => Same H3 H' ∧ ∃ l5 l6, σ = [some vh, some u, some (.ref a), some kept, some (.ref t), l5, l6]) (by rw [hly]) ⟨Same.refl _, _, _, rfl⟩ (fun i σ H' _ ⟨e, _⟩ => ⟨e.seqT (t3.seqT ha), e.seqT (SqT.of g3)⟩) ?_ ?_⟩
  · rintro i σ H' x y Tp H'' ex ey ⟨sm, l5, l6, rfl⟩ hT rfl
    have s4 : Same H' (upd H' Tp (.tup [x, y])) := same_new hT _
    have t4 := sm.trans s4
    obtain ⟨p, hp, hsm⟩ := all2_at hu ex
    obtain ⟨j, hj, hjk, hjw⟩ := all2_at hjs hp
    obtain ⟨b, z, rfl, hb⟩ := sm_at hsm
    obtain ⟨c, p2, e1, rfl, g5⟩ := hR i y ey
    have ec : c = (p.new, j) := by
      rw [zip_at (n := p.new) (k := j) (by rw [List.getElem?_map, hp]; rfl) hj] at e1
      exact (Option.some.inj e1).symm
    subst ec
    refine ⟨Tp, _, rfl, SqT.of upd_same, rfl, _, _, rfl, _, _, rfl, rfl, ?_⟩
    refine ⟨_, rfl, b, _, 0, _, rfl, rfl, t4.seqT (t3.seqT hb), at0 _ _, rfl, _, rfl, ?_⟩
    refine ite2 (fun cs => ?_) (fun cs => iteF ⟨t4, _, _, rfl⟩)
    have ew : p.wd = "sum" := V.str.inj (of_decide_eq_true cs)
    refine ⟨_, rfl, p2, _, 1, _, rfl, rfl, SqT.of (t4 _ _ (s3 _ _ g5)), at1 _ _ _, rfl, _, rfl, ?_⟩
    rw [decide_eq_false (by intro zz; exact hjw ew (V.str.inj zz))]
    exact iteF ⟨t4, _, _, rfl⟩
  · rintro σ H' ⟨sm, l5, l6, rfl⟩
    obtain ⟨c, zs, rfl, hc, hz⟩ := hkept
    obtain ⟨c2, zs2, e2, hc2, hz2⟩ := hmade
    cases e2
    have l1 := hz.len
    have l2 := hz2.len
    have l3 : (ns.zip ks).length ≤ 100 := by rw [List.length_zip]; omega
    refine ⟨_, rfl, _, rfl, c, t, _, _, rfl, rfl, (s2.trans (s3.trans sm)).seqT hc, sm.seqT hc2, small (by omega), fun r H5 s5 g5 => ?_⟩
    refine q _ _ (t3.trans (sm.trans s5)) ⟨r, _, rfl, g5, (hz.imp fun _ _ h => h.same (s2.trans (s3.trans (sm.trans s5)))).app (hz2.imp fun _ _ h => h.same (sm.trans s5))⟩
def sp_fr (K : PySem.W.Frag) : Sp := fun vs H Q _ => ∃ vh u hd ps ks, vs = [vh, u] ∧ IsHd K H vh hd ∧ TupR K H (IsKy K H) u ps ∧ ps.length ≤ 100 ∧ Looks hd (ps.map (·.1)) ks ∧ (ps.map (·.1)).Nodup ∧ ∀ H', Same H H' → Q vh H'
theorem ok_first_head (T : Txt w K mg) (G_keep_head : Ok P w K mg base 2 "keep_head" ["head", "names"] (sp_kp K)) (G_need_unlike : Ok P w K mg base 2 "need_unlike" ["names"] (sp_nun K)) : Ok P w K mg base 3 "first_head" ["head", "keys"] (sp_fr K) := by
  refine Ok.ofV T.d_first_head sc_first_head (fun vs H Q E h => ?_) (fun f cdv A outer s H vs Q E hr h => ?_)
  · obtain ⟨vh, u, hd, ps, ks, rfl, _⟩ := h; rfl
  obtain ⟨vh, u, hd, ps, ks, rfl, hh, ⟨a, us, rfl, ha, hu⟩, hl, hks, nd, q⟩ := h
  refine ⟨_, (vss_cons (vs_setC (i0 := 2) sc_first_head.nd rfl (by first | exact Or.inl rfl | exact Or.inr rfl) (N := ["key"]) ⟨by decide +kernel, rfl, by decide +kernel, by decide +kernel⟩ (hfr_none (by decide +kernel)) rfl (vi_tup (vv 1)) (fun cl s' H' fp => ⟨(vg_name (i := 0) (show (["key"] : List Str).Nodup from by decide +kernel) rfl (Or.inl rfl)), vf_nil, (ve_ix (ix_tupK (K := K)) (vv 0) ve_int (fun _ _ => rfl))⟩)) (vss_cons (vs_expr (ve_fn (G_keep_head.mono (by decide)) hr (by rfl) (va_c (vv 0) (va_c (vv 2) va_nil)))) (vss_cons (vs_expr (ve_fn (G_need_unlike.mono (by decide)) hr (by rfl) (va_c (vv 2) va_nil))) (vss_one (vs_ret (vv 0)))))), ?_⟩
  have lu := hu.len
  dsimp only [gName, tSeq, tAsg]
  refine comp_ix us ((ps.map (·.1)).map V.str) (by rw [List.length_map, List.length_map]; omega) [none] cap_none1 (small (by omega)) (fun R r => wi_tup ha (fun R' r' => ⟨_, rfl, r'⟩) R r) (fun i x y ex ey H' R l sm r => ?_) rfl fun D1 H1 s1 g1 => ?_
  · obtain ⟨p, hp, b, rfl, hb, _⟩ := all2_at hu ex
    obtain ⟨n, hn, rfl⟩ := map_at ey
    rw [List.getElem?_map, hp] at hn
    cases hn
    exact ⟨_, rfl, b, _, 0, _, rfl, rfl, sm.seqT hb, at0 _ _, r H' (Same.refl H')⟩
  refine ⟨_, rfl, _, rfl, vh, _, hd, _, ks, rfl, hh.same s1, ⟨D1, rfl, .inl (SqL.of g1)⟩, by rw [List.length_map]; omega, hks, fun v H2 s2 _ => ?_⟩
  refine ⟨_, rfl, D1, _, rfl, SqL.of (s2 _ _ g1), by rw [List.length_map]; omega, nd, fun H3 s3 => ?_⟩
  exact ⟨_, rfl, q H3 (s1.trans (s2.trans s3))⟩
end
end My
set_option Elab.async false
set_option linter.all false
set_option maxRecDepth 100000
namespace My
open PySem PySem.Spec PyProof.Rows L2
set_option maxHeartbeats 400000
section
variable {P : Program} {w : World} {K : PySem.W.Frag} {mg : Str → Option Value} {base : Heap}
def Good (hd : Hdr) : Prop := (hd.map (·.1)).Nodup ∧ 1 ≤ hd.length ∧ hd.length ≤ 8
inductive HH (hs : Str → Option Hdr) : Qn → List Hdr → Hdr → Prop
  | table {T hd} : hs T = some hd → HH hs (.table T) [] hd
  | whr {q ts hd} : (∀ t ∈ ts, TestOk hd t) → HH hs (.whr q ts) [hd] hd
  | keep {q ns hd ks} : Looks hd ns ks → HH hs (.keep q ns) [hd] (ns.zip ks)
  | nmd {q ns hd} : ns.length = hd.length → HH hs (.nmd q ns) [hd] (List.zipWith (fun n c => (n, c.2)) ns hd)
  | join {q r ps hd ho ks} : All2 (fun p k => look hd p.1 = some k ∧ look ho p.2 = some k) ps ks → (ps.map (·.1)).Nodup → (ps.map (·.2)).Nodup → HH hs (.join q r ps) [hd, ho] (hd ++ ho.filter fun c => !decide (c.1 ∈ ps.map (·.2)))
  | group {q ns ss hd ks js} : Looks hd ns ks → SumsOk hd ss js → HH hs (.group q ns ss) [hd] (ns.zip ks ++ (ss.map Sm.new).zip js)
  | first {q ps m hd ks} : Looks hd (ps.map (·.1)) ks → (ps.map (·.1)).Nodup → HH hs (.first q ps m) [hd] hd
def HeadsAt (K : PySem.W.Frag) (H : Hp) (d : Addr) (hs : Str → Option Hdr) : Prop := ∃ kvs, H d = some (.dK kvs) ∧ ∀ n hd, hs n = some hd → ∃ v, valV kvs (Sum.inr n) = some v ∧ IsHd K H v hd
theorem HeadsAt.same {H H' : Hp} {d : Addr} {hs : Str → Option Hdr} (e : Same H H') (h : HeadsAt K H d hs) : HeadsAt K H' d hs := by
  obtain ⟨kvs, hd, hh⟩ := h
  refine ⟨kvs, e _ _ hd, fun n hd hn => ?_⟩
  obtain ⟨v, h1, h2⟩ := hh n hd hn
  exact ⟨v, h1, h2.same e⟩
def sp_hh (K : PySem.W.Frag) : Sp := fun vs H Q _ => ∃ d v x us hs q ihds hd, vs = [.ref d, v, .ref x] ∧ HeadsAt K H d hs ∧ IsQ K H v q ∧ SqL K H x us ∧ All2 (IsHd K H) us ihds ∧ (∀ h ∈ ihds, h.length ≤ 100) ∧ HH hs q ihds hd ∧ ∀ v' H', Same H H' → IsHd K H' v' hd → Q v' H'
theorem ok_head_here (T : Txt w K mg) (G_table_head : Ok P w K mg base 1 "table_head" ["heads", "name"] sp_th) (G_where_head : Ok P w K mg base 4 "where_head" ["head", "tests"] (sp_wh K)) (G_keep_head : Ok P w K mg base 2 "keep_head" ["head", "names"] (sp_kp K))
    (G_named_head : Ok P w K mg base 1 "named_head" ["head", "names"] (sp_nmh K)) (G_join_head : Ok P w K mg base 3 "join_head" ["head", "other", "pairs"] (sp_jn K)) (G_group_head : Ok P w K mg base 3 "group_head" ["head", "names", "sums"] (sp_gr K))
    (G_first_head : Ok P w K mg base 3 "first_head" ["head", "keys"] (sp_fr K)) : Ok P w K mg base 5 "head_here" ["heads", "question", "inner"] (sp_hh K) := by
  refine Ok.ofV T.d_head_here sc_head_here (fun vs H Q E h => ?_) (fun f cdv A outer s H vs Q E hr h => ?_)
  · obtain ⟨d, v, x, us, hs, q, ihds, hd, rfl, _⟩ := h; rfl
  obtain ⟨d, v, x, us, hs, q0, ihds, hd, rfl, hds, hq, hx, hu, hlen, hh, q⟩ := h
  refine ⟨_, (vss_cons (vs_set (i := 3) sc_head_here.nd rfl (by first | exact Or.inl rfl | exact Or.inr rfl) (ve_ix ix_tup (vv 1) ve_int (fun _ _ => rfl))) (vss_cons (vs_if (vt_cmpR op_eq (vv 3) ve_str (nomark _)) (vss_one (vs_ret (ve_fn (G_table_head.mono (by decide)) hr (by rfl) (va_c (vv 0) (va_c (ve_ix ix_tup (vv 1) ve_int (fun _ _ => rfl)) va_nil))))) vss_nil) (vss_cons (vs_if (vt_cmpR op_eq (vv 3) ve_str (nomark _)) (vss_one (vs_ret (ve_fn (G_where_head.mono (by decide)) hr (by rfl) (va_c (ve_ix ix_list (vv 2) ve_int (fun _ _ => rfl)) (va_c (ve_ix ix_tup (vv 1) ve_int (fun _ _ => rfl)) va_nil))))) vss_nil) (vss_cons (vs_if (vt_cmpR op_eq (vv 3) ve_str (nomark _)) (vss_one (vs_ret (ve_fn (G_keep_head.mono (by decide)) hr (by rfl) (va_c (ve_ix ix_list (vv 2) ve_int (fun _ _ => rfl)) (va_c (ve_ix ix_tup (vv 1) ve_int (fun _ _ => rfl)) va_nil))))) vss_nil) (vss_cons (vs_if (vt_cmpR op_eq (vv 3) ve_str (nomark _)) (vss_one (vs_ret (ve_fn (G_named_head.mono (by decide)) hr (by rfl) (va_c (ve_ix ix_list (vv 2) ve_int (fun _ _ => rfl)) (va_c (ve_ix ix_tup (vv 1) ve_int (fun _ _ => rfl)) va_nil))))) vss_nil) (vss_cons (vs_if (vt_cmpR op_eq (vv 3) ve_str (nomark _)) (vss_one (vs_ret (ve_fn (G_join_head.mono (by decide)) hr (by rfl) (va_c (ve_ix ix_list (vv 2) ve_int (fun _ _ => rfl)) (va_c (ve_ix ix_list (vv 2) ve_int (fun _ _ => rfl)) (va_c (ve_ix ix_tup (vv 1) ve_int (fun _ _ => rfl)) va_nil)))))) vss_nil) (vss_cons (vs_if (vt_cmpR op_eq (vv 3) ve_str (nomark _)) (vss_one (vs_ret (ve_fn (G_group_head.mono (by decide)) hr (by rfl) (va_c (ve_ix ix_list (vv 2) ve_int (fun _ _ => rfl)) (va_c (ve_ix ix_tup (vv 1) ve_int (fun _ _ => rfl)) (va_c (ve_ix ix_tup (vv 1) ve_int (fun _ _ => rfl)) va_nil)))))) vss_nil) (vss_one (vs_ret (ve_fn (G_first_head.mono (by decide)) hr (by rfl) (va_c (ve_ix ix_list (vv 2) ve_int (fun _ _ => rfl)) (va_c (ve_ix ix_tup (vv 1) ve_int (fun _ _ => rfl)) va_nil)))))))))))), ?_⟩
  cases hh with
  | table hT =>
    cases hq with
    | table a b =>
      obtain ⟨kvs, hd', hmem⟩ := hds
      obtain ⟨v', hv', hI⟩ := hmem _ _ hT
      refine ⟨_, rfl, _, _, 0, _, rfl, rfl, a, at0 _ _, ?_⟩
      exact ⟨_, rfl, rfl, _, rfl, iteT ⟨_, rfl, _, rfl, _, _, 1, _, rfl, rfl, a, at1 _ _ _, d, _, v', kvs, rfl, hd', hv', q _ _ (Same.refl H) hI⟩⟩
  | whr ht =>
    cases hq with
    | whr a b c =>
      cases hu with
      | cons h1 t1 =>
        cases t1
        refine ⟨_, rfl, _, _, 0, _, rfl, rfl, a, at0 _ _, ?_⟩
        refine ⟨_, rfl, rfl, _, rfl, iteF ⟨_, rfl, rfl, _, rfl, iteT ?_⟩⟩
        exact ⟨_, rfl, x, _, 0, _, rfl, rfl, hx, at0 _ _, _, rfl, _, _, 2, _, rfl, rfl, a, at2 _ _ _ _, _, _, _, _, rfl, h1, c.1, by have := c.2.2; omega, ht, fun H' s' => q _ _ s' (h1.same s')⟩
  | keep hk =>
    cases hq with
    | keep a b c =>
      cases hu with
      | cons h1 t1 =>
        cases t1
        refine ⟨_, rfl, _, _, 0, _, rfl, rfl, a, at0 _ _, ?_⟩
        refine ⟨_, rfl, rfl, _, rfl, iteF ⟨_, rfl, rfl, _, rfl, iteF ⟨_, rfl, rfl, _, rfl, iteT ?_⟩⟩⟩
        exact ⟨_, rfl, x, _, 0, _, rfl, rfl, hx, at0 _ _, _, rfl, _, _, 2, _, rfl, rfl, a, at2 _ _ _ _, _, _, _, _, _, rfl, h1, nms_of c, by have := c.2.2; omega, hk, fun v' H' s' h' => q _ _ s' h'⟩
  | nmd hl =>
    cases hq with
    | nmd a b c =>
      cases hu with
      | cons h1 t1 =>
        cases t1
        obtain ⟨⟨n, ws, rfl, hn, hw⟩, c1, c2⟩ := c
        rw [isn_map hw] at hn
        refine ⟨_, rfl, _, _, 0, _, rfl, rfl, a, at0 _ _, ?_⟩
        refine ⟨_, rfl, rfl, _, rfl, iteF ⟨_, rfl, rfl, _, rfl, iteF ⟨_, rfl, rfl, _, rfl, iteF ⟨_, rfl, rfl, _, rfl, iteT ?_⟩⟩⟩⟩
        exact ⟨_, rfl, x, _, 0, _, rfl, rfl, hx, at0 _ _, _, rfl, _, _, 2, _, rfl, rfl, a, at2 _ _ _ _, _, _, _, _, rfl, h1, ⟨n, rfl, hn⟩, by omega, hl, fun v' H' s' h' => q _ _ s' h'⟩
  | join hk n1 n2 =>
    cases hq with
    | join a b c e =>
      cases hu with
      | cons h1 t1 =>
        cases t1 with
        | cons h2 t2 =>
          cases t2
          refine ⟨_, rfl, _, _, 0, _, rfl, rfl, a, at0 _ _, ?_⟩
          refine ⟨_, rfl, rfl, _, rfl, iteF ⟨_, rfl, rfl, _, rfl, iteF ⟨_, rfl, rfl, _, rfl, iteF ⟨_, rfl, rfl, _, rfl, iteF ⟨_, rfl, rfl, _, rfl, iteT ?_⟩⟩⟩⟩⟩
          exact ⟨_, rfl, x, _, 0, _, rfl, rfl, hx, at0 _ _, _, rfl, x, _, 1, _, rfl, rfl, hx, at1 _ _ _, _, rfl, _, _, 3, _, rfl, rfl, a, atI_nat (j := 3) rfl, _, _, _, _, _, _, _, rfl, h1, h2, e.1, by have := e.2.2; omega, hlen _ (by simp), hlen _ (by simp), hk, n1, n2, fun v' H' s' h' => q _ _ s' h'⟩
  | group hk hj =>
    cases hq with
    | group a b c e =>
      cases hu with
      | cons h1 t1 =>
        cases t1
        refine ⟨_, rfl, _, _, 0, _, rfl, rfl, a, at0 _ _, ?_⟩
        refine ⟨_, rfl, rfl, _, rfl, iteF ⟨_, rfl, rfl, _, rfl, iteF ⟨_, rfl, rfl, _, rfl, iteF ⟨_, rfl, rfl, _, rfl, iteF ⟨_, rfl, rfl, _, rfl, iteF ⟨_, rfl, rfl, _, rfl, iteT ?_⟩⟩⟩⟩⟩⟩
        exact ⟨_, rfl, x, _, 0, _, rfl, rfl, hx, at0 _ _, _, rfl, _, _, 2, _, rfl, rfl, a, at2 _ _ _ _, _, rfl, _, _, 3, _, rfl, rfl, a, atI_nat (j := 3) rfl, _, _, _, _, _, _, _, _, rfl, h1, nms_of c, by have := c.2.2; omega, e.1, by have := e.2.2; omega, hk, hj, fun v' H' s' h' => q _ _ s' h'⟩
  | first hk nd =>
    cases hq with
    | first a b c e =>
      cases hu with
      | cons h1 t1 =>
        cases t1
        refine ⟨_, rfl, _, _, 0, _, rfl, rfl, a, at0 _ _, ?_⟩
        refine ⟨_, rfl, rfl, _, rfl, iteF ⟨_, rfl, rfl, _, rfl, iteF ⟨_, rfl, rfl, _, rfl, iteF ⟨_, rfl, rfl, _, rfl, iteF ⟨_, rfl, rfl, _, rfl, iteF ⟨_, rfl, rfl, _, rfl, iteF ?_⟩⟩⟩⟩⟩⟩
        exact ⟨_, rfl, x, _, 0, _, rfl, rfl, hx, at0 _ _, _, rfl, _, _, 2, _, rfl, rfl, a, at2 _ _ _ _, _, _, _, _, _, rfl, h1, c.1, by have := c.2.2; omega, hk, nd, fun H' s' => q _ _ s' (h1.same s')⟩
inductive HQ (hs : Str → Option Hdr) : Qn → Hdr → Prop
  | mk0 {q hd} : kids q = [] → HH hs q [] hd → Good hd → HQ hs q hd
  | mk1 {q k h1 hd} : kids q = [k] → HQ hs k h1 → HH hs q [h1] hd → Good hd → HQ hs q hd
  | mk2 {q k l h1 h2 hd} : kids q = [k, l] → HQ hs k h1 → HQ hs l h2 → HH hs q [h1, h2] hd → Good hd → HQ hs q hd
theorem HQ.good {hs : Str → Option Hdr} {q : Qn} {hd : Hdr} (h : HQ hs q hd) : Good hd := by cases h <;> assumption
theorem HQ.in {hs : Str → Option Hdr} {q : Qn} {hd : Hdr} (h : HQ hs q hd) : ∃ ihds, All2 (HQ hs) (kids q) ihds ∧ HH hs q ihds hd ∧ Good hd := by
  cases h with
  | mk0 e a b => exact ⟨[], by rw [e]; exact .nil, a, b⟩
  | mk1 e k a b => exact ⟨[_], by rw [e]; exact .cons k .nil, a, b⟩
  | mk2 e k l a b => exact ⟨[_, _], by rw [e]; exact .cons k (.cons l .nil), a, b⟩
def sp_nms (K : PySem.W.Frag) : Sp := fun vs H Q _ => ∃ v hd, vs = [v] ∧ IsHd K H v hd ∧ hd.length ≤ 1000 ∧ ∀ D H', Same H H' → H' D = some (.lst ((hd.map (·.1)).map V.str)) → Q (.ref D) H'
theorem ok_names_of' (T : Txt w K mg) : Ok P w K mg base 1 "names_of" ["head"] (sp_nms K) := by
  refine Ok.ofV T.d_names_of sc_names_of (fun vs H Q E h => ?_) (fun f cdv A outer s H vs Q E hr h => ?_)
  · obtain ⟨v, hd, rfl, _⟩ := h; rfl
  obtain ⟨v, hd, rfl, ⟨a, us, rfl, ha, hu⟩, hl, q⟩ := h
  refine ⟨_, (vss_one (vs_ret (ve_comp (N := ["column"]) ⟨by decide +kernel, rfl, by decide +kernel, by decide +kernel⟩ (hfr_none (by decide +kernel)) rfl (vi_tup (vv 0)) (fun cl s' H' fp => ⟨(vg_name (i := 0) (show (["column"] : List Str).Nodup from by decide +kernel) rfl (Or.inl rfl)), vf_nil, (ve_ix (ix_tupK (K := K)) (vv 0) ve_int (fun _ _ => rfl))⟩)))), ?_⟩
  have lu := hu.len
  refine comp_ix us ((hd.map (·.1)).map V.str) (by rw [List.length_map, List.length_map]; omega) [none] cap_none1 (small (by omega)) (fun R r => wi_tup ha (fun R' r' => ⟨_, rfl, r'⟩) R r) (fun i x y ex ey H' R l sm r => ?_) rfl fun D H' sm hD => q D H' sm hD
  obtain ⟨c, hc, p, rfl, hp⟩ := all2_at hu ex
  obtain ⟨n, hn, rfl⟩ := map_at ey
  rw [List.getElem?_map, hc] at hn
  cases hn
  exact ⟨_, rfl, p, _, 0, _, rfl, rfl, sm.seqT hp, at0 _ _, r H' (Same.refl H')⟩
def sp_hw (K : PySem.W.Frag) (n : Nat) : Sp := fun vs H Q _ => ∃ d v hs q hd, vs = [.ref d, v] ∧ HeadsAt K H d hs ∧ IsQ K H v q ∧ size q ≤ n ∧ HQ hs q hd ∧ ∀ v' H', Same H H' → IsHd K H' v' hd → Q v' H'
theorem sizes_mem {k : Qn} : ∀ {qs : List Qn}, k ∈ qs → size k ≤ sizes qs
  | q :: qs, h => by
    show size k ≤ (((q :: qs).map size).sum)
    rw [List.map_cons, List.sum_cons]
    rcases List.mem_cons.mp h with rfl | h
    · omega
    · have := sizes_mem h
      unfold sizes at this
      omega
theorem kid_size {q k : Qn} (h : k ∈ kids q) {K : PySem.W.Frag} {H : Hp} {v : V} (hq : IsQ K H v q) : size k < size q := by
  have e := size_own q
  have o := own_pos hq
  have : size k ≤ sizes (kids q) := by
    exact sizes_mem h
  omega
theorem mem_at {α : Type} {l : List α} {i : Nat} {x : α} (h : l[i]? = some x) : x ∈ l := List.mem_of_getElem? h
theorem ok_head_within (T : Txt w K mg) (G_questions_in : Ok P w K mg base 1 "questions_in" ["question"] (sp_in K)) (G_head_here : Ok P w K mg base 5 "head_here" ["heads", "question", "inner"] (sp_hh K)) (G_need_unlike : Ok P w K mg base 2 "need_unlike" ["names"] (sp_nun K)) (G_names_of : Ok P w K mg base 1 "names_of" ["head"] (sp_nms K)) :
    ∀ n : Nat, Ok P w K mg base (n + 6) "head_within" ["heads", "question"] (sp_hw K n)
  | 0 => by
    refine Ok.ofV T.d_head_within sc_head_within (fun vs H Q E h => ?_) (fun f cdv A outer s H vs Q E hr h => ?_)
    · obtain ⟨d, v, hs, q, hd, rfl, _⟩ := h; rfl
    · obtain ⟨d, v, hs, q, hd, rfl, _, hq, hz, _⟩ := h
      have e := size_own q
      have o := own_pos hq
      omega
  | n + 1 => by
    have G_head_within := ok_head_within T G_questions_in G_head_here G_need_unlike G_names_of n
    refine Ok.ofV T.d_head_within sc_head_within (fun vs H Q E h => ?_) (fun f cdv A outer s H vs Q E hr h => ?_)
    · obtain ⟨d, v, hs, q, hd, rfl, _⟩ := h; rfl
    obtain ⟨d, v, hs, q0, hd, rfl, hds, hq, hz, hh, q⟩ := h
    obtain ⟨ihds, hin, hone, hgood⟩ := hh.in
    refine ⟨_, (vss_cons (vs_setC (i0 := 2) sc_head_within.nd rfl (by first | exact Or.inl rfl | exact Or.inr rfl) (N := ["part", "heads"]) ⟨by decide +kernel, rfl, by decide +kernel, by decide +kernel⟩ (hfr_of (defScope s_head_within) rfl (by decide +kernel)) rfl (vi_list (ve_fn (G_questions_in.mono (by omega)) hr (by rfl) (va_c (vv 1) va_nil))) (fun cl s' H' fp => ⟨(vg_name (i := 0) (show (["part", "heads"] : List Str).Nodup from by decide +kernel) rfl (Or.inl rfl)), vf_nil, (ve_fn (G_head_within.mono (by omega)) hr (by rfl) (va_c (vv 1) (va_c (vv 0) va_nil)))⟩)) (vss_cons (vs_set (i := 3) sc_head_within.nd rfl (by first | exact Or.inl rfl | exact Or.inr rfl) (ve_fn (G_head_here.mono (by omega)) hr (by rfl) (va_c (vv 0) (va_c (vv 1) (va_c (vv 2) va_nil))))) (vss_cons (vs_expr (ve_fn (G_need_unlike.mono (by omega)) hr (by rfl) (va_c (ve_fn (G_names_of.mono (by omega)) hr (by rfl) (va_c (vv 3) va_nil)) va_nil))) (vss_cons (vs_if (vt_not (vt_chain op_le op_le ve_int (ve_callB call_len_seq (by rfl) T.n_len bf_len (va_c (vv 3) va_nil)) (ve_gl (by rfl) T.g_MOST_COLUMNS))) (vss_one vs_never) vss_nil) (vss_one (vs_ret (vv 3))))))), ?_⟩
    have l2 := hin.len
    have lk : (kids q0).length ≤ 2 := by cases q0 <;> simp [kids]
    dsimp only [tSeq, tAsg]
    refine comp_anyL (K := K) (fun us => All2 (IsQ K H) us (kids q0)) (fun i H y => ∃ h, ihds[i]? = some h ∧ IsHd K H y h) (fun e h => ?_) (fun e h => ?_) [none, some (.ref d)] ?_ rfl (fun R r => ⟨_, rfl, v, q0, H, rfl, Same.refl H, hq, fun D H1 us fD s1 gD hus => r D H1 us s1 gD hus⟩) (fun us hus => small (by have := hus.len; omega)) (fun us hus i x ex H' R l sm r => ?_) fun us hus D2 H2 ys t2 g2 hly hR => ?_
    · obtain ⟨h, h1, h2⟩ := h
      exact ⟨h, h1, h2.same e⟩
    · obtain ⟨h, h1, ⟨a, vs, rfl, ha, hv⟩⟩ := h
      exact ⟨h, h1, a, vs, rfl, ha.updL e, hv.imp fun _ _ ⟨p, ep, hp⟩ => ⟨p, ep, hp.updL e⟩⟩
    · exact cap_at1 0 (by decide +kernel) rfl rfl (by first | exact Or.inl rfl | exact Or.inr (Or.inl rfl) | exact Or.inr (Or.inr rfl))
    · obtain ⟨k, hk, hkq⟩ := all2_at hus ex
      obtain ⟨h, hh', hkh⟩ := all2_at hin hk
      have hkz := kid_size (mem_at hk) hq
      exact ⟨_, rfl, _, rfl, d, x, hs, k, h, rfl, hds.same sm, hkq.same sm, by omega, hkh, fun v' H3 s3 h3 => r _ _ s3 ⟨h, hh', h3⟩⟩
    have l1 := hus.len
    have hall : All2 (IsHd K H2) ys ihds := all2_of (by omega) fun i y h e1 e2 => by
      obtain ⟨h', e3, q3⟩ := hR i y e1
      rw [e2] at e3
      cases e3
      exact q3
    have hl100 : ∀ h ∈ ihds, h.length ≤ 100 := fun h hm => by
      obtain ⟨i, hi, e⟩ := List.getElem_of_mem hm
      have hi' : i < (kids q0).length := by omega
      have := (all2_get hin (List.getElem?_eq_getElem hi') (by rw [List.getElem?_eq_getElem hi, e])).good
      have := this.2.2
      omega
    refine ⟨_, rfl, _, rfl, _, rfl, d, v, D2, ys, hs, q0, ihds, hd, rfl, hds.same t2, hq.same t2, SqL.of g2, hall, hl100, hone, fun v' H3 s3 h3 => ?_⟩
    obtain ⟨g1, g2', g3⟩ := hgood
    refine ⟨_, rfl, v', hd, rfl, h3, by omega, fun D4 H4 s4 g4 => ?_⟩
    refine ⟨D4, hd.map (·.1), rfl, SqL.of g4, (by rw [List.length_map]; omega), g1, fun H5 s5 => ?_⟩
    obtain ⟨a, zs, rfl, ha, hz'⟩ := h3
    have lz := hz'.len
    refine ⟨_, rfl, _, _, rfl, .inr ((s4.trans s5).seqT ha), _, _, rfl, rfl, _, rfl, ?_⟩
    have e1 : decide ((1 : Int) ≤ (zs.length : Int)) = true := decide_eq_true (by omega)
    have e2 : decide ((zs.length : Int) ≤ 8) = true := decide_eq_true (by omega)
    rw [e1]
    refine iteT ⟨_, _, rfl, rfl, _, rfl, ?_⟩
    rw [e2]
    exact iteF ⟨_, rfl, q _ _ (t2.trans (s3.trans (s4.trans s5))) ⟨a, zs, rfl, (s4.trans s5).seqT ha, hz'.imp fun _ _ h => h.same (s4.trans s5)⟩⟩
def sp_ho (K : PySem.W.Frag) : Sp := fun vs H Q _ => ∃ d v hs q hd, vs = [.ref d, v] ∧ HeadsAt K H d hs ∧ IsQ K H v q ∧ size q ≤ 20 ∧ HQ hs q hd ∧ ∀ v' H', Same H H' → IsHd K H' v' hd → Q v' H'
theorem ok_head_of (T : Txt w K mg) (G_head_within : Ok P w K mg base 26 "head_within" ["heads", "question"] (sp_hw K 20)) (G_checked : Ok P w K mg base 8 "checked" ["thing"] (sp_chk K)) : Ok P w K mg base 27 "head_of" ["heads", "question"] (sp_ho K) := by
  refine Ok.ofV T.d_head_of sc_head_of (fun vs H Q E h => ?_) (fun f cdv A outer s H vs Q E hr h => ?_)
  · obtain ⟨d, v, hs, q, hd, rfl, _⟩ := h; rfl
  obtain ⟨d, v, hs, q0, hd, rfl, hds, hq, hz, hh, q⟩ := h
  refine ⟨_, (vss_one (vs_ret (ve_fn (G_head_within.mono (by decide)) hr (by rfl) (va_c (vv 0) (va_c (ve_fn (G_checked.mono (by decide)) hr (by rfl) (va_c (vv 1) va_nil)) va_nil))))), ?_⟩
  exact ⟨_, rfl, _, rfl, v, q0, rfl, hq, hz, fun H1 s1 => ⟨d, v, hs, q0, hd, rfl, hds.same s1, hq.same s1, hz, hh, fun v' H2 s2 h2 => q _ _ (s1.trans s2) h2⟩⟩
end
end My
set_option Elab.async false
set_option linter.all false
set_option maxRecDepth 100000
namespace My
open PySem PySem.Spec PyProof.Rows L2
set_option maxHeartbeats 400000
section
variable {P : Program} {w : World} {K : PySem.W.Frag} {mg : Str → Option Value} {base : Heap}
theorem sign_at {z : Str} {j : Int} (h0 : 0 ≤ j) (h1 : j < z.length) : ∃ c, z.cps[j.toNat]? = some c :=
  ⟨_, Array.getElem?_eq_getElem (by show j.toNat < z.length; omega)⟩
theorem add_len (x y : Str) : (x ++ y).length = x.length + y.length := by
  show (x.cps ++ y.cps).size = _
  rw [Array.size_append]
  rfl
theorem at_of {xs : List V} {j : Int} (h0 : 0 ≤ j) (h1 : j < xs.length) : ∃ v, atI xs j = some v ∧ v ∈ xs := by
  have hj : j.toNat < xs.length := by omega
  refine ⟨xs[j.toNat], ?_, List.getElem_mem hj⟩
  have e2 : atI xs ((j.toNat : Nat) : Int) = some xs[j.toNat] := atI_nat (List.getElem?_eq_getElem hj)
  rw [show ((j.toNat : Nat) : Int) = j by omega] at e2
  exact e2
def Lets (x : Str) : Prop := ∀ c ∈ x.cps, 97 ≤ c ∧ c ≤ 122
theorem inA_all : ∀ k : _root_.Fin 26, inA ⟨#[97 + k.val]⟩ = true := by decide +kernel
theorem inA_of {c : Nat} (h1 : 97 ≤ c) (h2 : c ≤ 122) : inA ⟨#[c]⟩ = true := by
  have := inA_all ⟨c - 97, by omega⟩
  simp only at this
  rw [show 97 + (c - 97) = c by omega] at this
  exact this
theorem allIn_of {x : Str} (h : Lets x) : allIn x = true := by
  unfold allIn
  rw [List.all_eq_true]
  intro b hb
  obtain ⟨i, hi, rfl⟩ := List.mem_map.mp hb
  have hi' : i < x.cps.size := List.mem_range.mp hi
  have e : x.cps.getD i 0 = x.cps[i] := by rw [Array.getD_eq_getD_getElem?, Array.getElem?_eq_getElem hi']; rfl
  obtain ⟨h1, h2⟩ := h _ (Array.getElem_mem hi')
  show inA (sgn x i) = true
  unfold sgn
  rw [e]
  exact inA_of h1 h2
theorem Lets.add {x y : Str} (hx : Lets x) (hy : Lets y) : Lets (x ++ y) := fun c hc => by
  have hc : c ∈ x.cps ++ y.cps := hc
  rcases Array.mem_append.mp hc with h | h
  · exact hx c h
  · exact hy c h
theorem Lets.one {z : Str} {i c : Nat} (hz : Lets z) (h : z.cps[i]? = some c) : Lets ⟨#[c]⟩ := fun d hd => by
  have hd : d ∈ #[c] := hd
  have e : d = c := by simpa using hd
  subst e
  exact hz _ (Array.mem_of_getElem? h)
theorem lets_abc : Lets abc := by
  have h : (abc.cps.all fun c => decide (97 ≤ c) && decide (c ≤ 122)) = true := by decide +kernel
  intro c hc
  have := (Array.all_eq_true_iff_forall_mem.mp h) c hc
  rw [Bool.and_eq_true] at this
  exact ⟨of_decide_eq_true this.1, of_decide_eq_true this.2⟩
inductive OfKind : Str → V → Prop
  | num {i} : OfKind "number" (.int i)
  | wrd {x} : Lets x → x.length ≤ 8 → OfKind "word" (.str x)
def sp_seed (K : PySem.W.Frag) : Sp := fun vs H Q _ => ∃ (a : Addr) (ns : List Int), vs = [.ref a] ∧ SqL K H a (ns.map V.int) ∧ ns.length ≤ 63 ∧ ∀ c H', Same H H' → 0 ≤ c → c < M61 → Q (.int c) H'
theorem ok__law_seed (T : Txt w K mg) : Ok P w K mg base 1 "_law_seed" ["_law_script"] (sp_seed K) := by
  refine Ok.ofV T.d__law_seed sc__law_seed (fun vs H Q E h => ?_) (fun f cdv A outer s H vs Q E hr h => ?_)
  · obtain ⟨a, ns, rfl, _⟩ := h; rfl
  obtain ⟨a, ns, rfl, ha, h63, q⟩ := h
  refine ⟨_, (vss_cons (vs_set (i := 1) sc__law_seed.nd rfl (by first | exact Or.inl rfl | exact Or.inr rfl) ve_int) (vss_cons (vs_for PassesOwn.never rfl (vi_enum (by rfl) T.n_enumerate (va_c (vv 0) va_nil)) (vg_tup rfl (vgs_cons (vg_name (i := 2) sc__law_seed.nd rfl (by first | exact Or.inl rfl | exact Or.inr rfl)) (vgs_cons (vg_name (i := 3) sc__law_seed.nd rfl (by first | exact Or.inl rfl | exact Or.inr rfl)) vgs_nil))) (vss_one (vs_set (i := 1) sc__law_seed.nd rfl (by first | exact Or.inl rfl | exact Or.inr rfl) (ve_op op_mod (ve_op op_add (ve_op op_add (ve_op op_add (ve_op op_mul (vv 1) ve_int) (ve_op op_mod (vv 3) (ve_op op_pow ve_int ve_int))) (ve_op op_mul ve_int (vv 2))) ve_int) ve_int)))) (vss_one (vs_ret (vv 1))))), ?_⟩
  refine ⟨_, rfl, a, ns.map V.int, rfl, ha, for_enum (fun i σ H' => Same H H' ∧ ∃ (c : Int) (l2 l3 : Option V), 0 ≤ c ∧ c < M61 ∧ σ = [some (.ref a), some (.int c), l2, l3]) ⟨Same.refl H, 7, _, _, by decide, by decide, rfl⟩ (fun i σ H' _ ⟨e, _⟩ => e.seq ha) ?_ ?_⟩
  · rintro i σ H' x Tp H'' ex ⟨sm, c, l2, l3, c0, c1, rfl⟩ hT rfl
    obtain ⟨z, hz, rfl⟩ := map_at ex
    refine ⟨Tp, _, rfl, SqT.of upd_same, rfl, _, _, rfl, _, _, rfl, rfl, ?_⟩
    refine ⟨_, rfl, _, _, rfl, rfl, .inr ⟨by decide, by decide⟩, _, rfl, _, _, rfl, rfl, ⟨by decide, by decide, by decide⟩, _, _, rfl, rfl, (by show (0 : Int) < 10 ^ 30; decide), _, _, rfl, rfl, _, rfl, _, _, rfl, rfl, .inl ⟨by decide, by decide⟩, _, _, rfl, rfl, _, _, rfl, rfl, _, _, rfl, rfl, (by show (0 : Int) < 2305843009213693951; decide), ?_⟩
    exact ⟨sm.trans (same_new hT _), _, _, _, Int.emod_nonneg _ (by decide), Int.emod_lt_of_pos _ (by decide), rfl⟩
  · rintro σ H' ⟨sm, c, l2, l3, c0, c1, rfl⟩
    exact ⟨_, rfl, q c H' sm c0 c1⟩
def sp_next : Sp := fun vs H Q _ => ∃ (a : Addr) (m : Int), vs = [.ref a, .int m] ∧ StAt H a ∧ 0 < m ∧ ∀ c H', Fx a H H' → 0 ≤ c → c < m → Q (.int c) H'
theorem ok__law_next (T : Txt w K mg) : Ok P w K mg base 1 "_law_next" ["_law_state", "_law_many"] sp_next := by
  refine Ok.ofV T.d__law_next sc__law_next (fun vs H Q E h => ?_) (fun f cdv A outer s H vs Q E hr h => ?_)
  · obtain ⟨a, m, rfl, _⟩ := h; rfl
  obtain ⟨a, m, rfl, ⟨st, hs, s0, s1⟩, hm, q⟩ := h
  refine ⟨_, (vss_cons (vs_asg (ve_op op_mod (ve_op op_add (ve_op op_mul (ve_ix ix_list (vv 0) ve_int (fun _ _ => rfl)) ve_int) ve_int) ve_int) (vg_sub (vv 0) ve_int set_list)) (vss_one (vs_ret (ve_op op_mod (ve_op op_fdiv (ve_ix ix_list (vv 0) ve_int (fun _ _ => rfl)) ve_int) (vv 1))))), ?_⟩
  refine ⟨_, rfl, a, _, 0, _, rfl, rfl, SqL.of hs, at0 _ _, _, _, rfl, rfl, .inr ⟨by decide, by decide⟩, _, _, rfl, rfl, _, _, rfl, rfl, (by show (0 : Int) < 2305843009213693951; decide), ?_⟩
  refine ⟨_, rfl, a, _, 0, 0, rfl, rfl, hs, rfl, ?_⟩
  refine ⟨_, rfl, a, [.int ((st * 1181783497276652981 + 12345678910987) % 2305843009213693951)], 0, _, rfl, rfl, SqL.of upd_same, at0 _ _, _, _, rfl, rfl, ⟨by decide, by decide⟩, _, rfl, _, _, rfl, rfl, hm, ?_⟩
  exact q _ _ ⟨fun b o n h => by rw [upd_ne n]; exact h, (st * 1181783497276652981 + 12345678910987) % 2305843009213693951, upd_same, Int.emod_nonneg _ (by decide), Int.emod_lt_of_pos _ (by decide)⟩ (Int.emod_nonneg _ (by omega)) (Int.emod_lt_of_pos _ hm)
def sp_great : Sp := fun vs H Q _ => ∃ a : Addr, vs = [.ref a] ∧ StAt H a ∧ ∀ i H', Fx a H H' → Q (.int i) H'
theorem ok__law_great (T : Txt w K mg) (G__law_next : Ok P w K mg base 1 "_law_next" ["_law_state", "_law_many"] sp_next) : Ok P w K mg base 2 "_law_great" ["_law_state"] sp_great := by
  refine Ok.ofV T.d__law_great sc__law_great (fun vs H Q E h => ?_) (fun f cdv A outer s H vs Q E hr h => ?_)
  · obtain ⟨a, rfl, _⟩ := h; rfl
  obtain ⟨a, rfl, hs, q⟩ := h
  refine ⟨_, (vss_cons (vs_set (i := 1) sc__law_great.nd rfl (by first | exact Or.inl rfl | exact Or.inr rfl) ve_int) (vss_cons (vs_for PassesOwn.never rfl (vi_range1 (by rfl) T.n_range (va_c ve_int va_nil)) (vg_name (i := 2) sc__law_great.nd rfl (by first | exact Or.inl rfl | exact Or.inr rfl)) (vss_one (vs_set (i := 1) sc__law_great.nd rfl (by first | exact Or.inl rfl | exact Or.inr rfl) (ve_op op_add (ve_op op_mul (vv 1) (ve_op op_pow ve_int ve_int)) (ve_fn (G__law_next.mono (by decide)) hr (by rfl) (va_c (vv 0) (va_c (ve_op op_pow ve_int ve_int) va_nil))))))) (vss_one (vs_ret (ve_ix ix_list (ve_lstA (va_c (vv 1) (va_c (ve_op op_sub ve_int (vv 1)) va_nil))) (ve_fn (G__law_next.mono (by decide)) hr (by rfl) (va_c (vv 0) (va_c ve_int va_nil))) (fun _ _ => rfl)))))), ?_⟩
  refine ⟨_, rfl, by decide, by decide, for_range (n := 4) (fun i σ H' => Fx a H H' ∧ ∃ (c : Int) (l2 : Option V), σ = [some (.ref a), some (.int c), l2]) ⟨.refl hs, 0, _, rfl⟩ ?_ ?_⟩
  · rintro i σ H' hi ⟨fx, c, l2, rfl⟩
    refine ⟨_, rfl, _, _, rfl, rfl, ⟨by decide, by decide, by decide⟩, _, _, rfl, rfl, .inr ⟨by decide, by decide⟩, _, rfl, _, _, rfl, rfl, ⟨by decide, by decide, by decide⟩, a, _, rfl, fx.st, (by show (0 : Int) < 10 ^ 15; decide), fun d H1 f1 _ _ => ?_⟩
    exact ⟨_, _, rfl, rfl, fx.trans f1, _, _, rfl⟩
  · rintro σ H' ⟨fx, c, l2, rfl⟩
    refine ⟨_, rfl, _, rfl, _, _, rfl, rfl, (by show 2 ≤ sizeLine; decide), fun p H1 fp s1 g1 => ?_⟩
    refine ⟨_, rfl, a, 2, rfl, fx.st.same s1, by decide, fun d H2 f2 d0 d1 => ?_⟩
    obtain ⟨v, hv, mv⟩ := at_of (xs := [.int c, .int (0 - c)]) d0 (by show d < 2; omega)
    refine ⟨p, _, _, v, rfl, rfl, SqL.of (f2.same _ _ (fx.st.ne fp) g1), hv, ?_⟩
    simp only [List.mem_cons, List.not_mem_nil, or_false] at mv
    rcases mv with rfl | rfl
    · exact q _ _ ((fx.sm s1).trans f2)
    · exact q _ _ ((fx.sm s1).trans f2)
abbrev smalls : List V := [.str "", .str "a", .str "b", .str "ab"]
def KdOk (k : Str) : Prop := k = "number" ∨ k = "word"
def sp_lval : Sp := fun vs H Q _ => ∃ (a : Addr) (kd : Str), vs = [.ref a, .str kd] ∧ StAt H a ∧ KdOk kd ∧ ∀ v H', Fx a H H' → OfKind kd v → Q v H'
theorem small_kind {v : V} (h : v ∈ smalls) : OfKind "word" v := by
  simp only [smalls, List.mem_cons, List.not_mem_nil, or_false] at h
  have le : ∀ x : Str, (x.cps.all fun c => decide (97 ≤ c) && decide (c ≤ 122)) = true → Lets x := fun x hx c hc => by
    have := (Array.all_eq_true_iff_forall_mem.mp hx) c hc
    rw [Bool.and_eq_true] at this
    exact ⟨of_decide_eq_true this.1, of_decide_eq_true this.2⟩
  rcases h with rfl | rfl | rfl | rfl
  · exact .wrd (le _ (by decide +kernel)) (by decide +kernel)
  · exact .wrd (le _ (by decide +kernel)) (by decide +kernel)
  · exact .wrd (le _ (by decide +kernel)) (by decide +kernel)
  · exact .wrd (le _ (by decide +kernel)) (by decide +kernel)
theorem ok__law_value (T : Txt w K mg) (G__law_next : Ok P w K mg base 1 "_law_next" ["_law_state", "_law_many"] sp_next) (G__law_great : Ok P w K mg base 2 "_law_great" ["_law_state"] sp_great) : Ok P w K mg base 3 "_law_value" ["_law_state", "_law_kind"] sp_lval := by
  refine Ok.ofV T.d__law_value sc__law_value (fun vs H Q E h => ?_) (fun f cdv A outer s H vs Q E hr h => ?_)
  · obtain ⟨a, kd, rfl, _⟩ := h; rfl
  obtain ⟨a, kd, rfl, hs, hk, q⟩ := h
  refine ⟨_, (vss_cons (vs_set (i := 2) sc__law_value.nd rfl (by first | exact Or.inl rfl | exact Or.inr rfl) (ve_fn (G__law_next.mono (by decide)) hr (by rfl) (va_c (vv 0) (va_c ve_int va_nil)))) (vss_cons (vs_if (vt_cmpR op_eq (vv 1) ve_str (nomark _)) (vss_one (vs_ret (ve_ix ix_list (ve_lstA (va_c (ve_op op_sub (ve_fn (G__law_next.mono (by decide)) hr (by rfl) (va_c (vv 0) (va_c ve_int va_nil))) ve_int) (va_c (ve_fn (G__law_great.mono (by decide)) hr (by rfl) (va_c (vv 0) va_nil)) va_nil))) (ve_callTy call_int1 (by rfl) T.n_int bt_int (va_c (ve_cmpR op_eq (vv 2) ve_int (nomark _)) va_nil)) (fun _ _ => rfl)))) vss_nil) (vss_cons (vs_if (vt_cmpR op_lt (vv 2) ve_int (nomark _)) (vss_one (vs_ret (ve_ix ix_list (ve_lstA (va_c ve_str (va_c ve_str (va_c ve_str (va_c ve_str va_nil))))) (ve_op op_mod (vv 2) ve_int) (fun _ _ => rfl)))) vss_nil) (vss_cons (vs_set (i := 3) sc__law_value.nd rfl (by first | exact Or.inl rfl | exact Or.inr rfl) ve_str) (vss_cons (vs_for PassesOwn.never rfl (vi_range1 (by rfl) T.n_range (va_c (ve_fn (G__law_next.mono (by decide)) hr (by rfl) (va_c (vv 0) (va_c ve_int va_nil))) va_nil)) (vg_name (i := 4) sc__law_value.nd rfl (by first | exact Or.inl rfl | exact Or.inr rfl)) (vss_one (vs_set (i := 3) sc__law_value.nd rfl (by first | exact Or.inl rfl | exact Or.inr rfl) (ve_op op_add_str (vv 3) (ve_item_str ve_str (ve_fn (G__law_next.mono (by decide)) hr (by rfl) (va_c (vv 0) (va_c ve_int va_nil))) (fun _ _ => rfl)))))) (vss_one (vs_ret (vv 3)))))))), ?_⟩
  refine ⟨_, rfl, a, 10, rfl, hs, by decide, fun way H1 f1 w0 w1 => ?_⟩
  rcases hk with rfl | rfl
  · refine ⟨_, rfl, rfl, _, rfl, iteT ?_⟩
    refine ⟨_, rfl, a, 4, rfl, f1.st, by decide, fun d H2 f2 d0 d1 => ?_⟩
    refine ⟨_, _, rfl, rfl, _, rfl, a, rfl, f2.st, fun g H3 f3 => ?_⟩
    refine ⟨(by show 2 ≤ sizeLine; decide), fun p H4 _ s4 g4 => ?_⟩
    have fx := (f1.trans (f2.trans f3)).sm s4
    refine ⟨_, rfl, rfl, .inr ⟨_, rfl, ?_⟩⟩
    by_cases e : way = 9
    · rw [decide_eq_true (congrArg V.int e)]
      exact ⟨p, _, _, _, rfl, rfl, SqL.of g4, atI_nat (j := 1) rfl, q _ _ fx .num⟩
    · rw [decide_eq_false (by intro z; exact e (V.int.inj z))]
      exact ⟨p, _, _, _, rfl, rfl, SqL.of g4, atI_nat (j := 0) rfl, q _ _ fx .num⟩
  · refine ⟨_, rfl, rfl, _, rfl, iteF ?_⟩
    refine ⟨_, rfl, _, _, rfl, rfl, _, rfl, ite2 (fun _ => ?_) (fun _ => ?_)⟩
    · refine ⟨(by show 4 ≤ sizeLine; decide), fun p H4 _ s4 g4 => ?_⟩
      obtain ⟨v, hv, mv⟩ := at_of (xs := smalls) (j := way % 4) (by omega) (by show way % 4 < 4; omega)
      exact ⟨_, rfl, _, _, rfl, rfl, (by show (0 : Int) < 4; decide), p, _, _, v, rfl, rfl, SqL.of g4, hv, q _ _ (f1.sm s4) (small_kind mv)⟩
    · refine ⟨_, rfl, a, 9, rfl, f1.st, by decide, fun n H2 f2 n0 n1 => ?_⟩
      refine ⟨_, rfl, by omega, by omega, for_range (n := n.toNat) (fun i σ H' => Fx a H H' ∧ ∃ (x : Str) (l4 : Option V), σ = [some (.ref a), some (.str "word"), some (.int way), some (.str x), l4] ∧ x.length ≤ i ∧ Lets x) ⟨f1.trans f2, _, _, rfl, by decide +kernel, fun d hd => by simp [show (("" : Str).cps) = #[] from rfl] at hd⟩ ?_ ?_⟩
      · rintro i σ H' hi ⟨fx, x, l4, rfl, hl, hx⟩
        have al : abc.length = 26 := by decide +kernel
        refine ⟨_, rfl, _, rfl, a, 26, rfl, fx.st, by decide, fun d H3 f3 d0 d1 => ?_⟩
        obtain ⟨ch, hch⟩ := sign_at (z := abc) d0 (by rw [al]; exact d1)
        refine ⟨_, _, _, rfl, rfl, d0, (by omega), (by rw [al]; exact d1), hch, _, _, rfl, rfl, ?_, fx.trans f3, _, _, rfl, ?_, hx.add (lets_abc.one hch)⟩
        · show x.length + 1 ≤ sizeLine
          exact small (by omega)
        · rw [add_len]
          show x.length + 1 ≤ i + 1
          omega
      · rintro σ H' ⟨fx, x, l4, rfl, hl, hx⟩
        exact ⟨_, rfl, q _ _ fx (.wrd hx (by omega))⟩
end
end My
set_option Elab.async false
set_option linter.all false
set_option maxRecDepth 100000
namespace My
open PySem PySem.Spec PyProof.Rows L2
set_option maxHeartbeats 400000
section
variable {P : Program} {w : World} {K : PySem.W.Frag} {mg : Str → Option Value} {base : Heap}
def sp_lwords : Sp := fun vs H Q _ => vs = [] ∧ ∀ p H', H p = none → Same H H' → H' p = some (.lst words) → Q (.ref p) H'
theorem ok__law_words (T : Txt w K mg) : Ok P w K mg base 1 "_law_words" [] sp_lwords := by
  refine Ok.ofV T.d__law_words sc__law_words (fun vs H Q E h => ?_) (fun f cdv A outer s H vs Q E hr h => ?_)
  · obtain ⟨rfl, _⟩ := h; rfl
  obtain ⟨rfl, q⟩ := h
  refine ⟨_, (vss_cons (vs_set (i := 0) sc__law_words.nd rfl (by first | exact Or.inl rfl | exact Or.inr rfl) (ve_lstA (va_c ve_str (va_c ve_str (va_c ve_str (va_c ve_str (va_c ve_str (va_c ve_str (va_c ve_str (va_c ve_str (va_c ve_str va_nil))))))))))) (vss_one (vs_ret (ve_op op_catLA (vv 0) (ve_lstA (va_c ve_str (va_c ve_str (va_c ve_str (va_c ve_str (va_c ve_str (va_c ve_str (va_c ve_str (va_c ve_str va_nil))))))))))))), ?_⟩
  refine ⟨(by show 9 ≤ sizeLine; decide), fun p1 H1 _ s1 g1 => ?_⟩
  refine ⟨_, rfl, (by show 8 ≤ sizeLine; decide), fun p2 H2 _ s2 g2 => ?_⟩
  exact ⟨p1, p2, _, _, rfl, rfl, s2 _ _ g1, g2, (by show 9 + 8 ≤ sizeLine; decide), fun p H3 f3 s3 g3 => q p H3 ((s1.trans s2).free f3) (s1.trans (s2.trans s3)) g3⟩
def Nms17 (ns : List Str) : Prop := ns.length = 17 ∧ (∀ n ∈ ns, Nm n) ∧ ns.Nodup
theorem Nms17.rev {ns : List Str} (h : Nms17 ns) : Nms17 ns.reverse := ⟨by rw [List.length_reverse]; exact h.1, fun n hn => h.2.1 n (List.mem_reverse.mp hn), List.pairwise_reverse.mpr (h.2.2.imp fun q => Ne.symm q)⟩
theorem abc_at : ∀ j : _root_.Fin 26, abc.cps[j.val]? = some (97 + j.val) := by decide +kernel
theorem abc_get {j : Nat} (h : j < 26) : abc.cps[j]? = some (97 + j) := abc_at ⟨j, h⟩
def sgl (o : Nat) : List Str := (List.range 17).map fun k => ⟨#[97 + (o + k)]⟩
theorem sgl_all : ∀ o : _root_.Fin 10, ((sgl o.val).all fun n => nameB (.str n)) = true ∧ (Txt.slice abc (some (o.val : Int)) (some ((o.val : Int) + 17))).cps.size = 17 ∧ ((List.range 17).all fun i => decide (sgn (Txt.slice abc (some (o.val : Int)) (some ((o.val : Int) + 17))) i = ⟨#[97 + (o.val + i)]⟩)) = true := by decide +kernel
theorem str1_inj {a b : Nat} (h : (⟨#[a]⟩ : Str) = ⟨#[b]⟩) : a = b := by
  have := congrArg (fun x : Str => x.cps.toList) h
  simpa using this
theorem sgl_17 {o : Nat} (h : o < 10) : Nms17 (sgl o) := by
  refine ⟨by simp [sgl], fun n hn => ?_, ?_⟩
  · have := (sgl_all ⟨o, h⟩).1
    rw [List.all_eq_true] at this
    exact this n hn
  · refine List.pairwise_map.mpr (List.Pairwise.imp_of_mem ?_ List.nodup_range)
    intro k l _ _ ne e
    have := str1_inj e
    exact ne (by omega)
theorem sgl_map {o : Nat} (h : o < 10) : ((List.range (Txt.slice abc (some (o : Int)) (some ((o : Int) + 17))).cps.size).map fun i => V.str (sgn (Txt.slice abc (some (o : Int)) (some ((o : Int) + 17))) i)) = (sgl o).map V.str := by
  obtain ⟨_, h2, h3⟩ := sgl_all ⟨o, h⟩
  have h2 : (Txt.slice abc (some (o : Int)) (some ((o : Int) + 17))).cps.size = 17 := h2
  rw [h2]
  unfold sgl
  rw [List.map_map]
  refine List.map_congr_left fun i hi => ?_
  rw [List.all_eq_true] at h3
  have := of_decide_eq_true (h3 i hi)
  show V.str _ = V.str _
  exact congrArg V.str this
def stm (b : Str) (a o : Nat) : Nat → List Str := fun i => (List.range i).map fun k => put b a (97 + (o + k))
theorem stm_17 {b : Str} {a o : Nat} (hb : Lets b) (hl : b.length ≤ 7) (ha : a ≤ b.length) (ho : o < 10) (hw : ∀ w ∈ words, inV w ((stm b a o 17).map V.str) = false) : Nms17 (stm b a o 17) := by
  refine ⟨by simp [stm], fun n hn => ?_, ?_⟩
  · obtain ⟨k, hk, rfl⟩ := List.mem_map.mp hn
    have hk := List.mem_range.mp hk
    have hin : inV (.str (put b a (97 + (o + k)))) words = false := by
      cases e : inV (.str (put b a (97 + (o + k)))) words with
      | false => rfl
      | true =>
        exfalso
        unfold inV at e
        rw [List.any_eq_true] at e
        obtain ⟨v, hv, ev⟩ := e
        have hvs : ∃ z : Str, v = .str z := by
          simp only [words, List.mem_cons, List.not_mem_nil, or_false] at hv
          rcases hv with rfl | rfl | rfl | rfl | rfl | rfl | rfl | rfl | rfl | rfl | rfl | rfl | rfl | rfl | rfl | rfl | rfl <;> exact ⟨_, rfl⟩
        obtain ⟨z, rfl⟩ := hvs
        have e2 : (z == put b a (97 + (o + k))) = true := ev
        have e3 : z = put b a (97 + (o + k)) := by simpa using e2
        have := hw _ hv
        rw [inV_map, decide_eq_false_iff_not] at this
        exact this (by rw [e3]; exact hn)
    show ((decide (1 ≤ (put b a (97 + (o + k))).length) && (decide ((put b a (97 + (o + k))).length ≤ 8) && allIn (put b a (97 + (o + k))))) && !inV (.str (put b a (97 + (o + k)))) words) = true
    have hL : Lets (put b a (97 + (o + k))) := fun c hc => by
      rcases put_mem ha hc with rfl | z
      · omega
      · exact hb c z
    rw [put_len ha, decide_eq_true (p := 1 ≤ b.length + 1) (by omega), decide_eq_true (p := b.length + 1 ≤ 8) (by omega), allIn_of hL, hin]
    rfl
  · refine List.pairwise_map.mpr (List.Pairwise.imp_of_mem ?_ List.nodup_range)
    intro k l _ _ ne e
    have := put_inj ha e
    exact ne (by omega)
def sp_lnm : Sp := fun vs H Q _ => ∃ a : Addr, vs = [.ref a, .int 17] ∧ StAt H a ∧ ∀ p H' ns, Fx a H H' → H p = none → H' p = some (.lst (ns.map V.str)) → Nms17 ns → Q (.ref p) H'
set_option maxHeartbeats 1600000 in
theorem ok__law_names (T : Txt w K mg) (G__law_next : Ok P w K mg base 1 "_law_next" ["_law_state", "_law_many"] sp_next) (G__law_words : Ok P w K mg base 1 "_law_words" [] sp_lwords) : Ok P w K mg base 2 "_law_names" ["_law_state", "_law_many"] sp_lnm := by
  refine Ok.ofV T.d__law_names sc__law_names (fun vs H Q E h => ?_) (fun f cdv A outer s H vs Q E hr h => ?_)
  · obtain ⟨a, rfl, _⟩ := h; rfl
  obtain ⟨a, rfl, hs, q⟩ := h
  refine ⟨_, (vss_cons (vs_set (i := 2) sc__law_names.nd rfl (by first | exact Or.inl rfl | exact Or.inr rfl) ve_str) (vss_cons (vs_set (i := 3) sc__law_names.nd rfl (by first | exact Or.inl rfl | exact Or.inr rfl) (ve_fn (G__law_next.mono (by decide)) hr (by rfl) (va_c (vv 0) (va_c (ve_op op_sub ve_int (vv 1)) va_nil)))) (vss_cons (vs_set (i := 4) sc__law_names.nd rfl (by first | exact Or.inl rfl | exact Or.inr rfl) ve_str) (vss_cons (vs_for PassesOwn.never rfl (vi_range1 (by rfl) T.n_range (va_c (ve_fn (G__law_next.mono (by decide)) hr (by rfl) (va_c (vv 0) (va_c ve_int va_nil))) va_nil)) (vg_name (i := 5) sc__law_names.nd rfl (by first | exact Or.inl rfl | exact Or.inr rfl)) (vss_one (vs_set (i := 4) sc__law_names.nd rfl (by first | exact Or.inl rfl | exact Or.inr rfl) (ve_op op_add_str (vv 4) (ve_item_str (vv 2) (ve_fn (G__law_next.mono (by decide)) hr (by rfl) (va_c (vv 0) (va_c ve_int va_nil))) (fun _ _ => rfl)))))) (vss_cons (vs_set (i := 6) sc__law_names.nd rfl (by first | exact Or.inl rfl | exact Or.inr rfl) (ve_fn (G__law_next.mono (by decide)) hr (by rfl) (va_c (vv 0) (va_c (ve_op op_add (ve_callB call_len_str (by rfl) T.n_len bf_len (va_c (vv 4) va_nil)) ve_int) va_nil)))) (vss_cons (vs_set (i := 7) sc__law_names.nd rfl (by first | exact Or.inl rfl | exact Or.inr rfl) (ve_lstA va_nil)) (vss_cons (vs_for PassesOwn.never rfl (vi_range1 (by rfl) T.n_range (va_c (vv 1) va_nil)) (vg_name (i := 5) sc__law_names.nd rfl (by first | exact Or.inl rfl | exact Or.inr rfl)) (vss_one (vs_expr (ve_bm PySem.F.plainAttrs_list PySem.F.slot_list_append PySem.F.type_list_append mt_appendR (vv 7) (va_c (ve_op op_add_str (ve_op op_add_str (ve_slice sl_strX (vv 4) vo_none (vo_some (vv 6))) (ve_item_str (vv 2) (ve_op op_add (vv 3) (vv 5)) (fun _ _ => rfl))) (ve_slice sl_strX (vv 4) (vo_some (vv 6)) vo_none)) va_nil))))) (vss_cons (vs_if (vt_val (ve_callB (call_any rfl) (by rfl) T.n_any bf_any (va_c (ve_comp (N := ["_law_word", "_law_names_here"]) ⟨by decide +kernel, rfl, by decide +kernel, by decide +kernel⟩ (hfr_of (defScope s__law_names) rfl (by decide +kernel)) rfl (vi_list (ve_fn0 (G__law_words.mono (by decide)) hr (by rfl))) (fun cl s' H' fp => ⟨(vg_name (i := 0) (show (["_law_word", "_law_names_here"] : List Str).Nodup from by decide +kernel) rfl (Or.inl rfl)), vf_nil, (ve_cmpR (op_in_seqK (K := K)) (vv 0) (vv 1) (by with_unfolding_all rfl))⟩)) va_nil))) (vss_one (vs_set (i := 7) sc__law_names.nd rfl (by first | exact Or.inl rfl | exact Or.inr rfl) (ve_callTy (call_listS rfl) (by rfl) T.n_list bt_list (va_c (ve_slice sl_strX (vv 2) (vo_some (vv 3)) (vo_some (ve_op op_add (vv 3) (vv 1)))) va_nil)))) vss_nil) (vss_cons (vs_if (vt_cmpR op_eq (ve_fn (G__law_next.mono (by decide)) hr (by rfl) (va_c (vv 0) (va_c ve_int va_nil))) ve_int (nomark _)) (vss_one (vs_expr (ve_bm0 PySem.F.plainAttrs_list PySem.F.slot_list_reverse PySem.F.type_list_reverse mt_reverseR (vv 7)))) vss_nil) (vss_one (vs_ret (vv 7)))))))))))), ?_⟩
  have al : abc.length = 26 := by decide +kernel
  refine ⟨_, rfl, _, rfl, _, _, rfl, rfl, a, 10, rfl, hs, by decide, fun od H1 f1 o0 o1 => ?_⟩
  obtain ⟨o, rfl⟩ : ∃ o : Nat, od = o := ⟨od.toNat, by omega⟩
  have ho : o < 10 := by omega
  refine ⟨_, rfl, a, 8, rfl, f1.st, by decide, fun n H2 f2 n0 n1 => ?_⟩
  refine ⟨_, rfl, by omega, by omega, for_range (n := n.toNat) (fun i σ H' => Fx a H H' ∧ ∃ (x : Str) (l5 : Option V), σ = [some (.ref a), some (.int 17), some (.str abc), some (.int (o : Nat)), some (.str x), l5, none, none] ∧ x.length ≤ i ∧ Lets x) ⟨f1.trans f2, _, _, rfl, by decide +kernel, fun d hd => by simp [show (("" : Str).cps) = #[] from rfl] at hd⟩ ?_ ?_⟩
  · rintro i σ H' hi ⟨fx, x, l5, rfl, hl, hx⟩
    refine ⟨_, rfl, _, rfl, _, rfl, a, 26, rfl, fx.st, by decide, fun d H3 f3 d0 d1 => ?_⟩
    obtain ⟨ch, hch⟩ := sign_at (z := abc) d0 (by rw [al]; exact d1)
    refine ⟨_, _, _, rfl, rfl, d0, (by omega), (by rw [al]; exact d1), hch, _, _, rfl, rfl, ?_, fx.trans f3, _, _, rfl, ?_, hx.add (lets_abc.one hch)⟩
    · show x.length + 1 ≤ sizeLine
      exact small (by omega)
    · rw [add_len]
      show x.length + 1 ≤ i + 1
      omega
  rintro σ H3 ⟨f3, b, l5, rfl, hl, hb⟩
  have hb7 : b.length ≤ 7 := by omega
  refine ⟨_, rfl, _, rfl, _, rfl, small (by omega), _, _, rfl, rfl, a, _, rfl, f3.st, (by show (0 : Int) < (b.length : Int) + 1; omega), fun ai H4 f4 a0 a1 => ?_⟩
  obtain ⟨at', rfl⟩ : ∃ at' : Nat, ai = at' := ⟨ai.toNat, by omega⟩
  have ha : at' ≤ b.length := by
    have : (at' : Int) < (b.length : Int) + 1 := a1
    omega
  have fx4 := f3.trans f4
  refine ⟨(by show 0 ≤ sizeLine; decide), fun p H5 fp s5 g5 => ?_⟩
  have fp0 : H p = none := fx4.free fp
  have npa : p ≠ a := hs.ne fp0
  refine ⟨_, rfl, _, rfl, by decide, by decide, for_range (n := 17) (fun i σ H' => Fx a H H' ∧ H' p = some (.lst ((stm b at' o i).map V.str)) ∧ ∃ l5, σ = [some (.ref a), some (.int 17), some (.str abc), some (.int (o : Nat)), some (.str b), l5, some (.int (at' : Nat)), some (.ref p)]) ⟨fx4.sm s5, g5, _, rfl⟩ ?_ ?_⟩
  · rintro i σ H' hi ⟨fx, gp, l5, rfl⟩
    have s1 := Txt.slice_le b none (some ((at' : Nat) : Int))
    have s2 := Txt.slice_le b (some ((at' : Nat) : Int)) none
    have ej : ((o : Int) + (0 + (i : Int))).toNat = o + i := by omega
    have hch : abc.cps[((o : Int) + (0 + (i : Int))).toNat]? = some (97 + (o + i)) := by rw [ej]; exact abc_get (by omega)
    refine ⟨_, rfl, .inl ⟨rfl, _, SqL.of gp⟩, _, rfl, _, rfl, _, rfl, _, rfl, small (by omega), _, rfl, _, rfl, _, rfl, _, _, rfl, rfl, _, _, _, rfl, rfl, (by show 0 ≤ (o : Int) + (0 + (i : Int)); omega), (by show (o : Int) + (0 + (i : Int)) < 2 ^ 63; omega), (by rw [al]; show (o : Int) + (0 + (i : Int)) < 26; omega), hch, _, _, rfl, rfl, ?_, _, rfl, _, rfl, _, rfl, _, rfl, small (by omega), _, _, rfl, rfl, ?_, ?_⟩
    · show (Txt.slice b none (some ((at' : Nat) : Int))).length + 1 ≤ sizeLine
      exact small (by omega)
    · rw [add_len]
      show (Txt.slice b none (some ((at' : Nat) : Int))).length + 1 + _ ≤ sizeLine
      exact small (by omega)
    refine ⟨p, _, _, rfl, rfl, gp, ?_, fx.upd fp0 npa, ?_, _, rfl⟩
    · rw [List.length_map]
      exact small1000 (by simp [stm]; omega)
    · rw [upd_same]
      unfold stm
      rw [List.range_succ, List.map_append, List.map_append]
      rfl
  rintro σ H6 ⟨f6, g6, l5', rfl⟩
  dsimp only [tSeq, tIfS, tB, tCB, tCons]
  refine comp_anyL (K := K) (fun us => us = words) (fun i _ y => ∃ w', words[i]? = some w' ∧ y = .bl (inV w' ((stm b at' o 17).map V.str))) (fun _ h => h) (fun _ h => h) [none, some (.ref p)] ?_ rfl (fun R r => ⟨rfl, fun W H7 _ s7 g7 => r W H7 _ s7 g7 rfl⟩) (fun us e => by subst e; exact small (by decide)) (fun us e i x ex H' R l sm r => ?_) fun us e D H7 ys s7 g7 hly hR => ?_
  · exact cap_at1 7 (by decide +kernel) rfl rfl (by first | exact Or.inl rfl | exact Or.inr (Or.inl rfl) | exact Or.inr (Or.inr rfl))
  · subst e
    have fl : flatV x = true := by
      have := words_flat
      rw [List.all_eq_true] at this
      exact this x (List.mem_of_getElem? ex)
    exact ⟨_, rfl, _, rfl, p, _, rfl, .inl (SqL.of (sm _ _ g6)), fl, flat_map, r _ _ (Same.refl _) ⟨x, ex, rfl⟩⟩
  subst e
  have ey : ys = (words.map fun w' => inV w' ((stm b at' o 17).map V.str)).map V.bl := by
    rw [List.map_map]
    refine List.ext_getElem? fun i => ?_
    by_cases hi : i < ys.length
    · obtain ⟨w', h1, h2⟩ := hR i ys[i] (List.getElem?_eq_getElem hi)
      rw [List.getElem?_eq_getElem hi, List.getElem?_map, h1, h2]
      rfl
    · rw [List.getElem?_eq_none (by omega), List.getElem?_eq_none (by rw [List.length_map]; omega)]
  rw [ey] at g7
  refine ⟨D, _, rfl, SqL.of g7, _, rfl, ?_⟩
  have f7 := f6.sm s7
  refine ite2 (fun c => ?_) (fun c => ?_)
  · refine ⟨_, rfl, _, rfl, _, rfl, _, rfl, _, rfl, _, _, rfl, rfl, _, rfl, abc, rfl, small (by rw [al]; decide), ?_⟩
    refine ⟨_, rfl, ?_, fun p2 H8 fp2 s8 g8 => ?_⟩
    · have := Txt.slice_le abc (some (o : Int)) (some ((o : Int) + 17))
      rw [al] at this
      exact Nat.le_trans this (by decide)
    have g8' : H8 p2 = some (.lst ((sgl o).map V.str)) := by rw [g8]; exact congrArg (fun z => some (HO.lst z)) (sgl_map ho)
    have f8 := f7.sm s8
    have fp20 : H p2 = none := f7.free fp2
    refine ⟨_, rfl, a, 2, rfl, f8.st, by decide, fun d H9 f9 d0 d1 => ?_⟩
    have g9 := f9.same _ _ (hs.ne fp20) g8'
    refine ⟨rfl, _, rfl, ite2 (fun _ => ?_) (fun _ => ?_)⟩
    · refine ⟨_, rfl, .inl ⟨rfl, _, SqL.of g9⟩, p2, _, rfl, rfl, g9, ?_⟩
      refine ⟨_, rfl, q p2 _ (sgl o).reverse ((f8.trans f9).upd fp20 (hs.ne fp20)) fp20 ?_ (sgl_17 ho).rev⟩
      rw [upd_same, List.map_reverse]
    · exact ⟨_, rfl, q p2 _ (sgl o) (f8.trans f9) fp20 g9 (sgl_17 ho)⟩
  · have hw : ∀ w' ∈ words, inV w' ((stm b at' o 17).map V.str) = false := fun w' hw' => by
      cases e : inV w' ((stm b at' o 17).map V.str) with
      | false => rfl
      | true =>
        exfalso
        apply c
        rw [List.any_eq_true]
        exact ⟨true, List.mem_map.mpr ⟨w', hw', e⟩, rfl⟩
    have hn := stm_17 hb hb7 ha ho hw
    refine ⟨_, rfl, a, 2, rfl, f7.st, by decide, fun d H9 f9 d0 d1 => ?_⟩
    have g9 := f9.same _ _ npa (s7 _ _ g6)
    refine ⟨rfl, _, rfl, ite2 (fun _ => ?_) (fun _ => ?_)⟩
    · refine ⟨_, rfl, .inl ⟨rfl, _, SqL.of g9⟩, p, _, rfl, rfl, g9, ?_⟩
      refine ⟨_, rfl, q p _ (stm b at' o 17).reverse ((f7.trans f9).upd fp0 npa) fp0 ?_ hn.rev⟩
      rw [upd_same, List.map_reverse]
    · exact ⟨_, rfl, q p _ (stm b at' o 17) (f7.trans f9) fp0 g9 hn⟩
def HdOk (hd : Hdr) : Prop := Good hd ∧ ∀ c ∈ hd, Nm c.1 ∧ KdOk c.2
def sp_lhead (K : PySem.W.Frag) : Sp := fun vs H Q _ => ∃ (a N : Addr) (ns : List Str), vs = [.ref a, .ref N] ∧ StAt H a ∧ H N = some (.lst (ns.map V.str)) ∧ N ≠ a ∧ Nms17 ns ∧ ∀ v H' hd, Fx a H H' → IsHd K H' v hd → HdOk hd → hd.length ≤ 7 → Q v H'
theorem nd_get {α : Type} {l : List α} (h : l.Nodup) {i j : Nat} {x : α} (h1 : l[i]? = some x) (h2 : l[j]? = some x) : i = j := by
  have hp := List.pairwise_iff_getElem.mp h
  obtain ⟨hi, e1⟩ := List.getElem?_eq_some_iff.mp h1
  obtain ⟨hj, e2⟩ := List.getElem?_eq_some_iff.mp h2
  rcases Nat.lt_trichotomy i j with q | q | q
  · exact absurd (e1.trans e2.symm) (hp i j hi hj q)
  · exact q
  · exact absurd (e2.trans e1.symm) (hp j i hj hi q)
theorem nd_of {α : Type} {l : List α} (h : ∀ (i j : Nat) (x : α), l[i]? = some x → l[j]? = some x → i = j) : l.Nodup := by
  refine List.pairwise_iff_getElem.mpr fun i j hi hj hij e => ?_
  have := h i j l[i] (List.getElem?_eq_getElem hi) (by rw [List.getElem?_eq_getElem hj, e])
  omega
theorem names_nd {ns : List Str} (hn : Nms17 ns) {st : Nat} {hd : Hdr} (hl : hd.length ≤ 8) (h : ∀ (j : Nat) (c : Str × Str), hd[j]? = some c → ns[3 + (st + j) % 8]? = some c.1) : (hd.map (·.1)).Nodup := by
  refine nd_of fun i j x h1 h2 => ?_
  have g : ∀ k, (hd.map (·.1))[k]? = some x → k < hd.length ∧ ns[3 + (st + k) % 8]? = some x := fun k hk => by
    rw [List.getElem?_map] at hk
    cases e : hd[k]? with
    | none => rw [e] at hk; cases hk
    | some c =>
      rw [e] at hk
      cases hk
      exact ⟨(List.getElem?_eq_some_iff.mp e).1, h k c e⟩
  obtain ⟨l1, g1⟩ := g i h1
  obtain ⟨l2, g2⟩ := g j h2
  have := nd_get hn.2.2 g1 g2
  omega
set_option maxHeartbeats 800000 in
theorem ok__law_head (T : Txt w K mg) (G__law_next : Ok P w K mg base 1 "_law_next" ["_law_state", "_law_many"] sp_next) : Ok P w K mg base 2 "_law_head" ["_law_state", "_law_names_here"] (sp_lhead K) := by
  refine Ok.ofV T.d__law_head sc__law_head (fun vs H Q E h => ?_) (fun f cdv A outer s H vs Q E hr h => ?_)
  · obtain ⟨a, N, ns, rfl, _⟩ := h; rfl
  obtain ⟨a, N, ns, rfl, hs, hN, nN, hn, q⟩ := h
  refine ⟨_, (vss_cons (vs_set (i := 2) sc__law_head.nd rfl (by first | exact Or.inl rfl | exact Or.inr rfl) (ve_fn (G__law_next.mono (by decide)) hr (by rfl) (va_c (vv 0) (va_c ve_int va_nil)))) (vss_cons (vs_set (i := 3) sc__law_head.nd rfl (by first | exact Or.inl rfl | exact Or.inr rfl) (ve_lstA va_nil)) (vss_cons (vs_for PassesOwn.never rfl (vi_range1 (by rfl) T.n_range (va_c (ve_op op_add ve_int (ve_op op_mul (ve_fn (G__law_next.mono (by decide)) hr (by rfl) (va_c (vv 0) (va_c ve_int va_nil))) (ve_op op_add ve_int (ve_callTy call_int1 (by rfl) T.n_int bt_int (va_c (ve_cmpR op_eq (ve_fn (G__law_next.mono (by decide)) hr (by rfl) (va_c (vv 0) (va_c ve_int va_nil))) ve_int (nomark _)) va_nil))))) va_nil)) (vg_name (i := 4) sc__law_head.nd rfl (by first | exact Or.inl rfl | exact Or.inr rfl)) (vss_cons (vs_set (i := 5) sc__law_head.nd rfl (by first | exact Or.inl rfl | exact Or.inr rfl) (ve_ix ix_list (ve_lstA (va_c ve_str (va_c ve_str (va_c ve_str va_nil)))) (ve_fn (G__law_next.mono (by decide)) hr (by rfl) (va_c (vv 0) (va_c ve_int va_nil))) (fun _ _ => rfl))) (vss_one (vs_expr (ve_bm PySem.F.plainAttrs_list PySem.F.slot_list_append PySem.F.type_list_append mt_appendR (vv 3) (va_c (ve_tupA (va_c (ve_ix ix_list (vv 1) (ve_op op_add ve_int (ve_op op_mod (ve_op op_add (vv 2) (vv 4)) ve_int)) (fun _ _ => rfl)) (va_c (vv 5) va_nil))) va_nil)))))) (vss_one (vs_ret (ve_callTy call_tupleA (by rfl) T.n_tuple bt_tuple (va_c (vv 3) va_nil))))))), ?_⟩
  have l17 := hn.1
  refine ⟨_, rfl, a, 8, rfl, hs, by decide, fun st0 H1 f1 st00 st01 => ?_⟩
  obtain ⟨st, rfl⟩ : ∃ st : Nat, st0 = st := ⟨st0.toNat, by omega⟩
  refine ⟨(by show 0 ≤ sizeLine; decide), fun p H2 fp s2 g2 => ?_⟩
  have f2 := f1.sm s2
  have fp0 : H p = none := f1.free fp
  have npa : p ≠ a := hs.ne fp0
  refine ⟨_, rfl, a, 4, rfl, f2.st, by decide, fun m H3 f3 m0 m1 => ?_⟩
  refine ⟨_, rfl, a, 8, rfl, f3.st, by decide, fun e H4 f4 e0 e1 => ?_⟩
  have f4' := f2.trans (f3.trans f4)
  have g4 := f4.same _ _ npa (f3.same _ _ npa g2)
  refine ⟨rfl, .inr ⟨_, rfl, ?_⟩⟩
  have bnd : ∃ z : Nat, 1 + m * (1 + (if decide (V.int e = V.int 0) then 1 else 0)) = (z : Int) ∧ 1 ≤ z ∧ z ≤ 7 := by
    cases decide (V.int e = V.int 0)
    · exact ⟨(1 + m).toNat, by simp; omega, by omega, by omega⟩
    · exact ⟨(1 + m * 2).toNat, by simp; omega, by omega, by omega⟩
  obtain ⟨z, ez, z1, z7⟩ := bnd
  refine ⟨_, _, rfl, rfl, _, _, rfl, rfl, .inl ⟨by omega, by omega⟩, _, _, rfl, rfl, ?_⟩
  refine ⟨(z : Int), ?_, by omega, by omega, ?_⟩
  · show [V.int (1 + m * (1 + (if decide (V.int e = V.int 0) then 1 else 0)))] = _
    rw [ez]
  rw [Int.toNat_natCast]
  refine for_range (n := z) (fun i σ H' => Fx a H H' ∧ ∃ (us : List V) (hd : Hdr) (l4 l5 : Option V), H' p = some (.lst us) ∧ hd.length = i ∧ All2 (IsC K H') us hd ∧ (∀ (j : Nat) (c : Str × Str), hd[j]? = some c → ns[3 + (st + j) % 8]? = some c.1 ∧ KdOk c.2) ∧ σ = [some (.ref a), some (.ref N), some (.int (st : Nat)), some (.ref p), l4, l5]) ⟨f4', [], [], _, _, g4, rfl, .nil, fun j c h => by simp at h, rfl⟩ ?_ ?_
  · rintro i σ H' hi ⟨fx, us, hd, l4, l5, gp, hl, hu, hc, rfl⟩
    have lu := hu.len
    refine ⟨(by show 3 ≤ sizeLine; decide), fun p1 H5 fp1 s5 g5 => ?_⟩
    refine ⟨_, rfl, a, 3, rfl, fx.st.same s5, by decide, fun d H6 f6 d0 d1 => ?_⟩
    obtain ⟨kv, hkv, mkv⟩ := at_of (xs := [.str "number", .str "number", .str "word"]) d0 (by show d < 3; omega)
    obtain ⟨kd, rfl, hkd⟩ : ∃ kd : Str, kv = .str kd ∧ KdOk kd := by
      simp only [List.mem_cons, List.not_mem_nil, or_false] at mkv
      rcases mkv with rfl | rfl | rfl
      · exact ⟨_, rfl, .inl rfl⟩
      · exact ⟨_, rfl, .inl rfl⟩
      · exact ⟨_, rfl, .inr rfl⟩
    have f6' := (fx.sm s5).trans f6
    refine ⟨p1, _, _, _, rfl, rfl, SqL.of (f6.same _ _ (fx.st.ne fp1) g5), hkv, ?_⟩
    have gp6 := f6.same _ _ npa (s5 _ _ gp)
    have hN6 := f6'.same _ _ nN hN
    have hu6 : All2 (IsC K H6) us hd := hu.imp fun _ _ ⟨p', ep, hp⟩ => ⟨p', ep, f6.seqT (fx.st.same s5) (s5.seqT hp)⟩
    have hix : 3 + (st + i) % 8 < ns.length := by omega
    refine ⟨_, rfl, .inl ⟨rfl, _, SqL.of gp6⟩, ?_⟩
    refine ⟨_, rfl, _, rfl, _, rfl, _, _, rfl, rfl, _, _, rfl, rfl, (by show (0 : Int) < 8; decide), _, _, rfl, rfl, N, _, _, .str ns[3 + (st + i) % 8], rfl, rfl, SqL.of hN6, ?_, _, rfl, (by show 2 ≤ sizeLine; decide), fun t H7 ft s7 g7 => ?_⟩
    · have e8 : (3 : Int) + ((st : Int) + (0 + (i : Int))) % 8 = ((3 + (st + i) % 8 : Nat) : Int) := by omega
      show atI (ns.map V.str) ((3 : Int) + ((st : Int) + (0 + (i : Int))) % 8) = _
      rw [e8]
      exact atI_nat (by rw [List.getElem?_map, List.getElem?_eq_getElem hix]; rfl)
    refine ⟨p, _, _, rfl, rfl, s7 _ _ gp6, small1000 (by omega), ?_⟩
    have ntp : t ≠ p := (ne_of_none gp6 ft).symm
    refine ⟨(f6'.sm s7).upd fp0 npa, us ++ [.ref t], hd ++ [(ns[3 + (st + i) % 8], kd)], _, _, upd_same, by rw [List.length_append, hl]; rfl, ?_, fun j c h => ?_, rfl⟩
    · refine (hu6.imp fun _ _ ⟨p', ep, hp⟩ => ⟨p', ep, (s7.seqT hp).updL (s7 _ _ gp6)⟩).app (.cons ⟨t, rfl, SqT.of (by rw [upd_ne ntp]; exact g7)⟩ .nil)
    · by_cases hj : j < hd.length
      · rw [List.getElem?_append_left hj] at h
        exact hc j c h
      · rw [List.getElem?_append_right (by omega)] at h
        have hj0 : j - hd.length = 0 := by
          by_cases z0 : j - hd.length = 0
          · exact z0
          · rw [List.getElem?_eq_none (by simp; omega)] at h; cases h
        rw [hj0] at h
        cases h
        have : j = i := by omega
        subst this
        exact ⟨List.getElem?_eq_getElem hix, hkd⟩
  · rintro σ H' ⟨fx, us, hd, l4, l5, gp, hl, hu, hc, rfl⟩
    refine ⟨_, rfl, p, us, rfl, SqL.of gp, fun t H5 _ s5 g5 => q _ _ hd (fx.sm s5) ⟨t, us, rfl, SqT.of g5, hu.imp fun _ _ h => h.same s5⟩ ⟨⟨names_nd hn (by omega) fun j c h => (hc j c h).1, by omega, by omega⟩, fun c hcm => ?_⟩ (by omega)⟩
    obtain ⟨j, hj, e⟩ := List.getElem_of_mem hcm
    have h2 := hc j c (by rw [List.getElem?_eq_getElem hj, e])
    exact ⟨hn.2.1 _ (List.mem_of_getElem? h2.1), h2.2⟩
end
end My
set_option Elab.async false
set_option linter.all false
set_option maxRecDepth 100000
namespace My
open PySem PySem.Spec PyProof.Rows L2
set_option maxHeartbeats 400000
section
variable {P : Program} {w : World} {K : PySem.W.Frag} {mg : Str → Option Value} {base : Heap}
def TK (K : PySem.W.Frag) (H H' : Hp) : Prop := ∀ p xs, SqT K H p xs → SqT K H' p xs
theorem _root_.L2.Fx.tk {K : PySem.W.Frag} {a : Addr} {H H' : Hp} (f : Fx a H H') (h : StAt H a) : TK K H H' := fun _ _ e => f.seqT h e
theorem IsC.tk {K : PySem.W.Frag} {H H' : Hp} {v : V} {c : Str × Str} (e : TK K H H') (h : IsC K H v c) : IsC K H' v c := by
  obtain ⟨p, rfl, hp⟩ := h
  exact ⟨p, rfl, e _ _ hp⟩
theorem tupR_tk {α : Type} {K : PySem.W.Frag} {H H' : Hp} {R S : V → α → Prop} {v : V} {xs : List α} (e : TK K H H') (k : ∀ a b, R a b → S a b) (h : TupR K H R v xs) : TupR K H' S v xs := by
  obtain ⟨a, vs, rfl, ha, hr⟩ := h
  exact ⟨a, vs, rfl, e _ _ ha, hr.imp k⟩
theorem IsHd.tk {K : PySem.W.Frag} {H H' : Hp} {v : V} {hd : Hdr} (e : TK K H H') (h : IsHd K H v hd) : IsHd K H' v hd := tupR_tk e (fun _ _ q => q.tk e) h
theorem th_val {K : PySem.W.Frag} {H : Hp} {x : V} (h : valB x = true) : Th K H x := by
  cases x with
  | int i => exact .inr (.inl ⟨i, rfl⟩)
  | str z =>
    have h : (false || letB 0 (.str z)) = true := h
    rw [Bool.false_or] at h
    obtain ⟨y, e, _, h8, _⟩ := let_len h
    cases e
    exact th_str h8
  | _ => cases h
theorem IsO.tk {K : PySem.W.Frag} {H H' : Hp} {v : V} {o : Oth} (e : TK K H H') (h : IsO K H v o) : IsO K H' v o := by
  cases o with
  | val x => obtain ⟨a, rfl, ha, hx, hv⟩ := h; exact ⟨a, rfl, e _ _ ha, th_val hv, hv⟩
  | col d => obtain ⟨a, rfl, ha, hd⟩ := h; exact ⟨a, rfl, e _ _ ha, hd⟩
theorem IsT.tk {K : PySem.W.Frag} {H H' : Hp} {v : V} {t : Tst} (e : TK K H H') (h : IsT K H v t) : IsT K H' v t := by
  obtain ⟨a, w, rfl, ha, h1, h2, h3⟩ := h
  exact ⟨a, w, rfl, e _ _ ha, h1, h2, h3.tk e⟩
theorem IsPr.tk {K : PySem.W.Frag} {H H' : Hp} {v : V} {t : Str × Str} (e : TK K H H') (h : IsPr K H v t) : IsPr K H' v t := by
  obtain ⟨a, rfl, ha, h1⟩ := h
  exact ⟨a, rfl, e _ _ ha, h1⟩
theorem IsKy.tk {K : PySem.W.Frag} {H H' : Hp} {v : V} {t : Str × Str} (e : TK K H H') (h : IsKy K H v t) : IsKy K H' v t := by
  obtain ⟨a, rfl, ha, h1⟩ := h
  exact ⟨a, rfl, e _ _ ha, h1⟩
theorem IsSm.tk {K : PySem.W.Frag} {H H' : Hp} {v : V} {t : Sm} (e : TK K H H') (h : IsSm K H v t) : IsSm K H' v t := by
  obtain ⟨a, rfl, hn, h1⟩ := h
  refine ⟨a, rfl, hn, ?_⟩
  rcases h1 with ⟨x, y, z⟩ | ⟨c, x, y, z, u⟩
  · exact .inl ⟨x, y, e _ _ z⟩
  · exact .inr ⟨c, x, y, z, e _ _ u⟩
theorem TupS.tk {α : Type} {S : PySem.W.Frag → Hp → V → α → Prop} {lo hi : Nat} {K : PySem.W.Frag} {H H' : Hp} {v : V} {xs : List α} (e : TK K H H') (k : ∀ {v t}, S K H v t → S K H' v t) (h : TupS S lo hi K H v xs) : TupS S lo hi K H' v xs :=
  ⟨tupR_tk e (fun _ _ => k) h.1, h.2⟩
theorem IsQ.tk {K : PySem.W.Frag} {H H' : Hp} {v : V} {q : Qn} (e : TK K H H') (h : IsQ K H v q) : IsQ K H' v q := by
  induction h with
  | table a b => exact .table (e _ _ a) b
  | whr a _ c ih => exact .whr (e _ _ a) ih (c.tk e fun h => h.tk e)
  | keep a _ c ih => exact .keep (e _ _ a) ih (c.tk e fun h => h)
  | nmd a _ c ih => exact .nmd (e _ _ a) ih (c.tk e fun h => h)
  | join a _ _ c ih1 ih2 => exact .join (e _ _ a) ih1 ih2 (c.tk e fun h => h.tk e)
  | group a _ c d ih => exact .group (e _ _ a) ih (c.tk e fun h => h) (d.tk e fun h => h.tk e)
  | first a _ c d ih => exact .first (e _ _ a) ih (c.tk e fun h => h.tk e) d
theorem look_mem {hd : Hdr} (nd : (hd.map (·.1)).Nodup) {c : Str × Str} (h : c ∈ hd) : look hd c.1 = some c.2 := by
  induction hd with
  | nil => cases h
  | cons x r ih =>
    rw [List.map_cons, List.nodup_cons] at nd
    unfold look
    rw [List.find?_cons]
    rcases List.mem_cons.mp h with rfl | h
    · rw [decide_eq_true rfl]; rfl
    · have ne : ¬ x.1 = c.1 := fun z => nd.1 (by rw [z]; exact List.mem_map.mpr ⟨c, h, rfl⟩)
      rw [decide_eq_false ne]
      exact ih nd.2 h
theorem of_val {k : Str} {x : V} (h : OfKind k x) : valB x = true ∧ kindS x = k := by
  cases h with
  | num => exact ⟨rfl, rfl⟩
  | @wrd y hx hl =>
    refine ⟨?_, rfl⟩
    show (false || (decide (0 ≤ y.length) && (decide (y.length ≤ 8) && allIn y))) = true
    rw [decide_eq_true (Nat.zero_le _), decide_eq_true hl, allIn_of hx]
    rfl
def kp (hd : Hdr) (k : Str) (i : Nat) : Bool := match hd[i]? with
  | some c => decide (c.2 = k)
  | none => false
abbrev sgs : Str := "=<>!"
theorem sg_at : ∀ j : _root_.Fin 4, ∃ c, sgs.cps[j.val]? = some c ∧ ((⟨#[c]⟩ : Str) = "=" ∨ (⟨#[c]⟩ : Str) = "<" ∨ (⟨#[c]⟩ : Str) = ">" ∨ (⟨#[c]⟩ : Str) = "!") := by
  intro j
  match j with
  | ⟨0, _⟩ => exact ⟨61, (by show sgs.cps[0]? = some 61; decide +kernel), .inl (by decide +kernel)⟩
  | ⟨1, _⟩ => exact ⟨60, (by show sgs.cps[1]? = some 60; decide +kernel), .inr (.inl (by decide +kernel))⟩
  | ⟨2, _⟩ => exact ⟨62, (by show sgs.cps[2]? = some 62; decide +kernel), .inr (.inr (.inl (by decide +kernel)))⟩
  | ⟨3, _⟩ => exact ⟨33, (by show sgs.cps[3]? = some 33; decide +kernel), .inr (.inr (.inr (by decide +kernel)))⟩
  | ⟨n + 4, h⟩ => exact absurd h (by omega)
def sp_ltests (K : PySem.W.Frag) : Sp := fun vs H Q _ => ∃ (a : Addr) (vh : V) (hd : Hdr), vs = [.ref a, vh] ∧ StAt H a ∧ IsHd K H vh hd ∧ HdOk hd ∧ ∀ v H' ts, Fx a H H' → TupS IsT 1 2 K H' v ts → (∀ t ∈ ts, TestOk hd t) → Q v H'
theorem alli_get {R : Nat → V → Prop} {is : List Nat} {ys : List V} (h : AllI R is ys) : ∀ y ∈ ys, ∃ i ∈ is, R i y := by
  induction h with
  | nil => intro y hy; cases hy
  | cons r _ ih =>
    intro z hz
    rcases List.mem_cons.mp hz with rfl | hz
    · exact ⟨_, List.mem_cons_self .., r⟩
    · obtain ⟨i, hi, q⟩ := ih z hz
      exact ⟨i, List.mem_cons_of_mem _ hi, q⟩
theorem sel_mem {p : Nat → Bool} : ∀ {k n : Nat} {i : Nat}, i ∈ sel p k (List.range' k n) → p i = true ∧ k ≤ i ∧ i < k + n
  | k, 0, i, h => by cases h
  | k, n + 1, i, h => by
    rw [List.range'_succ] at h
    have h : i ∈ (if p k then k :: sel p (k + 1) (List.range' (k + 1) n) else sel p (k + 1) (List.range' (k + 1) n)) := h
    split at h
    · rcases List.mem_cons.mp h with rfl | h
      · exact ⟨by assumption, by omega, by omega⟩
      · obtain ⟨a, b, c⟩ := sel_mem h; exact ⟨a, by omega, by omega⟩
    · obtain ⟨a, b, c⟩ := sel_mem h; exact ⟨a, by omega, by omega⟩
theorem sel_has {p : Nat → Bool} : ∀ {k n : Nat} {i : Nat}, p i = true → k ≤ i → i < k + n → i ∈ sel p k (List.range' k n)
  | k, 0, i, _, _, _ => by omega
  | k, n + 1, i, h, h1, h2 => by
    rw [List.range'_succ]
    show i ∈ (if p k then k :: sel p (k + 1) (List.range' (k + 1) n) else sel p (k + 1) (List.range' (k + 1) n))
    by_cases e : i = k
    · subst e
      rw [if_pos h]
      exact List.mem_cons_self ..
    · have := sel_has (k := k + 1) (n := n) h (by omega) (by omega)
      split
      · exact List.mem_cons_of_mem _ this
      · exact this
set_option maxHeartbeats 1600000 in
theorem ok__law_tests (T : Txt w K mg) (G__law_next : Ok P w K mg base 1 "_law_next" ["_law_state", "_law_many"] sp_next) (G__law_value : Ok P w K mg base 3 "_law_value" ["_law_state", "_law_kind"] sp_lval) : Ok P w K mg base 4 "_law_tests" ["_law_state", "_law_head_here"] (sp_ltests K) := by
  refine Ok.ofV T.d__law_tests sc__law_tests (fun vs H Q E h => ?_) (fun f cdv A outer s H vs Q E hr h => ?_)
  · obtain ⟨a, vh, hd, rfl, _⟩ := h; rfl
  obtain ⟨a, vh, hd, rfl, hs, ⟨b, us, rfl, hb, hu⟩, ⟨⟨nd, l1, l8⟩, hc⟩, q⟩ := h
  refine ⟨_, (vss_cons (vs_set (i := 2) sc__law_tests.nd rfl (by first | exact Or.inl rfl | exact Or.inr rfl) (ve_lstA va_nil)) (vss_cons (vs_for PassesOwn.never rfl (vi_range1 (by rfl) T.n_range (va_c (ve_op op_add ve_int (ve_fn (G__law_next.mono (by decide)) hr (by rfl) (va_c (vv 0) (va_c ve_int va_nil)))) va_nil)) (vg_name (i := 3) sc__law_tests.nd rfl (by first | exact Or.inl rfl | exact Or.inr rfl)) (vss_cons (vs_asg (ve_ix ix_tup (vv 1) (ve_fn (G__law_next.mono (by decide)) hr (by rfl) (va_c (vv 0) (va_c (ve_callB call_len_seq (by rfl) T.n_len bf_len (va_c (vv 1) va_nil)) va_nil))) (fun _ _ => rfl)) (vg_tup rfl (vgs_cons (vg_name (i := 4) sc__law_tests.nd rfl (by first | exact Or.inl rfl | exact Or.inr rfl)) (vgs_cons (vg_name (i := 5) sc__law_tests.nd rfl (by first | exact Or.inl rfl | exact Or.inr rfl)) vgs_nil)))) (vss_cons (vs_set (i := 6) sc__law_tests.nd rfl (by first | exact Or.inl rfl | exact Or.inr rfl) (ve_tupA (va_c ve_str (va_c (ve_fn (G__law_value.mono (by decide)) hr (by rfl) (va_c (vv 0) (va_c (vv 5) va_nil))) va_nil)))) (vss_cons (vs_setC (i0 := 7) sc__law_tests.nd rfl (by first | exact Or.inl rfl | exact Or.inr rfl) (N := ["_law_column", "_law_sort", "_law_kind"]) ⟨by decide +kernel, rfl, by decide +kernel, by decide +kernel⟩ (hfr_of (defScope s__law_tests) rfl (by decide +kernel)) rfl (vi_tup (vv 1)) (fun cl s' H' fp => ⟨(vg_tupK (K := K) (n := 2) rfl (vgs_cons (vg_name (i := 0) (show (["_law_column", "_law_sort", "_law_kind"] : List Str).Nodup from by decide +kernel) rfl (Or.inl rfl)) (vgs_cons (vg_name (i := 1) (show (["_law_column", "_law_sort", "_law_kind"] : List Str).Nodup from by decide +kernel) rfl (Or.inl rfl)) vgs_nil))), (vf_one (vt_cmpR op_eq (vv 1) (vv 2) (nomark _))), (vv 0)⟩)) (vss_cons (vs_if (vt_cmpR op_eq (ve_fn (G__law_next.mono (by decide)) hr (by rfl) (va_c (vv 0) (va_c ve_int va_nil))) ve_int (nomark _)) (vss_one (vs_set (i := 6) sc__law_tests.nd rfl (by first | exact Or.inl rfl | exact Or.inr rfl) (ve_tupA (va_c ve_str (va_c (ve_ix ix_list (vv 7) (ve_fn (G__law_next.mono (by decide)) hr (by rfl) (va_c (vv 0) (va_c (ve_callB call_len_seq (by rfl) T.n_len bf_len (va_c (vv 7) va_nil)) va_nil))) (fun _ _ => rfl)) va_nil))))) vss_nil) (vss_one (vs_expr (ve_bm PySem.F.plainAttrs_list PySem.F.slot_list_append PySem.F.type_list_append mt_appendR (vv 2) (va_c (ve_tupA (va_c (vv 4) (va_c (ve_item_str ve_str (ve_fn (G__law_next.mono (by decide)) hr (by rfl) (va_c (vv 0) (va_c ve_int va_nil))) (fun _ _ => rfl)) (va_c (vv 6) va_nil)))) va_nil))))))))) (vss_one (vs_ret (ve_callTy call_tupleA (by rfl) T.n_tuple bt_tuple (va_c (vv 2) va_nil)))))), ?_⟩
  have lu := hu.len
  refine ⟨(by show 0 ≤ sizeLine; decide), fun p H1 fp s1 g1 => ?_⟩
  have f1 := Fx.of hs s1
  have npa : p ≠ a := hs.ne fp
  refine ⟨_, rfl, a, 2, rfl, f1.st, by decide, fun m H2 f2 m0 m1 => ?_⟩
  have f2' := f1.trans f2
  have g2 := f2.same _ _ npa g1
  refine ⟨_, _, rfl, rfl, _, rfl, (by show -(2 ^ 62) ≤ 1 + m; omega), (by show 1 + m < 2 ^ 62; omega), ?_⟩
  refine for_range (n := (1 + m).toNat) (fun i σ H' => Fx a H H' ∧ ∃ (ws : List V) (ts : List Tst) (l3 l4 l5 l6 l7 : Option V), H' p = some (.lst ws) ∧ ts.length = i ∧ All2 (IsT K H') ws ts ∧ (∀ t ∈ ts, TestOk hd t) ∧ σ = [some (.ref a), some (.ref b), some (.ref p), l3, l4, l5, l6, l7]) ⟨f2', [], [], _, _, _, _, _, g2, rfl, .nil, (fun t h => by cases h), rfl⟩ ?_ ?_
  · rintro i σ H' hi ⟨fx, ws, ts, l3, l4, l5, l6, l7, gp, hl, hw, hts, rfl⟩
    have lw := hw.len
    have tk0 : TK K H H' := fx.tk hs
    refine ⟨_, rfl, _, rfl, _, rfl, _, _, rfl, .inr (tk0 _ _ hb), a, _, rfl, fx.st, (by show (0 : Int) < (us.length : Int); omega), fun d H3 f3 d0 d1 => ?_⟩
    obtain ⟨u, hat, hmem⟩ := at_of (xs := us) d0 d1
    obtain ⟨c, hcm, pc, rfl, hpc⟩ := hu.mem hmem
    obtain ⟨hcn, hck⟩ := hc c hcm
    have fl3 := f3
    have fx3 := fx.trans f3
    have tk3 : TK K H H3 := fx3.tk hs
    refine ⟨b, _, _, _, rfl, rfl, tk3 _ _ hb, hat, pc, _, rfl, tk3 _ _ hpc, rfl, _, _, rfl, _, _, rfl, rfl, ?_⟩
    refine ⟨_, rfl, _, rfl, a, c.2, rfl, fx3.st, hck, fun v H4 f4 hv => ?_⟩
    refine ⟨(by show 2 ≤ sizeLine; decide), fun t1 H5 ft1 s5 g5 => ?_⟩
    have fl5 := (f3.trans f4).sm s5
    have fx5 := (fx3.trans f4).sm s5
    have tk5 : TK K H H5 := fx5.tk hs
    have hO1 : IsO K H5 (.ref t1) (.val v) := ⟨t1, rfl, SqT.of g5, th_val (of_val hv).1, (of_val hv).1⟩
    have hT1 : othK hd (.val v) = some c.2 := by
      show some (kindS v) = some c.2
      rw [(of_val hv).2]
    have gp5 := s5 _ _ (f4.same _ _ npa (f3.same _ _ npa gp))
    dsimp only [tSeq, tAsg, gName]
    refine comp_ofT [none, none, some (.str c.2)] ?_ ⟨_, rfl, b, rfl, ⟨_, tk5 _ _ hb⟩, compG Same (ev_same H5) us (kp hd c.2) (fun i _ y => ∃ c', hd[i]? = some c' ∧ y = .str c'.1) (fun _ _ h => h) (fun _ _ _ h => h) (fun i σ => ∃ c', hd[i]? = some c' ∧ At2 [none, none, some (.str c.2)] (.str c'.1) (.str c'.2) σ) (Ps2 [none, none, some (.str c.2)]) ⟨none, none, rfl⟩ (small (by omega)) _ (itt_go fun H' s' => s'.seqT (tk5 _ _ hb)) (itt_stop fun H' s' => s'.seqT (tk5 _ _ hb)) (fun i x σ' H' Q' ex hps s' qq => ?_) (fun i x σ2 ex hA H' R s' r => ?_) (fun i x σ2 ex hA hp H' R s' r => ?_) fun D H6 ys s6 fD g6 hys => ?_⟩
    · refine ⟨rfl, fun i y v h1 h2 => ?_⟩
      match i, h1, h2 with
      | 0, _, h2 => cases h2
      | 1, _, h2 => cases h2
      | 2, h1, h2 => cases h1; cases h2; exact ⟨by decide +kernel, 5, rfl, rfl, by first | exact Or.inl rfl | exact Or.inr (Or.inl rfl) | exact Or.inr (Or.inr rfl)⟩
      | i + 3, h1, _ => cases h1
    · obtain ⟨c', hc', p', rfl, hp'⟩ := all2_at hu ex
      exact hg2 (s'.seqT (tk5 _ _ hp')) hps fun σ2 h1 h2 => qq σ2 h1 ⟨c', hc', h2⟩
    · obtain ⟨c', hc', rfl⟩ := hA
      refine ⟨_, rfl, _, rfl, rfl, _, rfl, ?_⟩
      have e : kp hd c.2 i = decide (V.str c'.2 = V.str c.2) := by
        unfold kp
        rw [hc']
        exact decide_eq_decide.mpr ⟨fun z => congrArg V.str z, fun z => V.str.inj z⟩
      rw [← e]
      exact r H' (Same.refl H')
    · obtain ⟨c', hc', rfl⟩ := hA
      exact ⟨_, rfl, r _ _ (Same.refl H') ⟨c', hc', rfl⟩⟩
    have fl6 := fl5.sm s6
    have fx6 := fx5.sm s6
    have tk6 : TK K H H6 := fx6.tk hs
    have nDa : D ≠ a := fx5.st.ne fD
    obtain ⟨j0, hj0, ej0⟩ := List.getElem_of_mem hcm
    have hne : 0 < ys.length := by
      have hin : j0 ∈ sel (kp hd c.2) 0 (List.range us.length) := by
        rw [List.range_eq_range']
        refine sel_has ?_ (Nat.zero_le _) (by omega)
        unfold kp
        rw [List.getElem?_eq_getElem hj0, ej0]
        exact decide_eq_true rfl
      rw [← hys.len]
      exact List.length_pos_of_mem hin
    have hyk : ∀ y ∈ ys, ∃ c' ∈ hd, y = .str c'.1 ∧ c'.2 = c.2 := fun y hy => by
      obtain ⟨i, hi, c', hc', rfl⟩ := alli_get hys y hy
      rw [List.range_eq_range'] at hi
      have hp := (sel_mem hi).1
      unfold kp at hp
      rw [hc'] at hp
      exact ⟨c', List.mem_of_getElem? hc', rfl, of_decide_eq_true hp⟩
    have lys : ys.length ≤ 8 := by
      have := sel_len (kp hd c.2) 0 (List.range us.length)
      rw [List.length_range, hys.len] at this
      omega
    have lcc : look hd c.1 = some c.2 := look_mem nd hcm
    refine ⟨_, rfl, a, 3, rfl, fx6.st, by decide, fun d3 H7 f7 _ _ => ⟨rfl, _, rfl, ?_⟩⟩
    have fl7 := fl6.trans f7
    have fx7 := fx6.trans f7
    have gp7 := f7.same _ _ npa (s6 _ _ gp5)
    have gD7 := f7.same _ _ nDa g6
    refine ite2 (fun _ => ?_) (fun _ => ?_)
    · refine ⟨_, rfl, _, rfl, _, rfl, D, _, rfl, .inl (SqL.of gD7), a, _, rfl, fx7.st, (by show (0 : Int) < (ys.length : Int); omega), fun d8 H8 f8 d80 d81 => ?_⟩
      obtain ⟨y, hy, my⟩ := at_of (xs := ys) d80 d81
      obtain ⟨c', hcm', rfl, hck'⟩ := hyk y my
      refine ⟨D, _, _, _, rfl, rfl, SqL.of (f8.same _ _ nDa gD7), hy, (by show 2 ≤ sizeLine; decide), fun t2 H9 ft2 s9 g9 => ?_⟩
      have fl9 := (fl7.trans f8).sm s9
      have fx9 := (fx7.trans f8).sm s9
      have hO2 : IsO K H9 (.ref t2) (.col c'.1) := ⟨t2, rfl, SqT.of g9, (hc c' hcm').1⟩
      have hT2 : othK hd (.col c'.1) = some c.2 := by
        show look hd c'.1 = some c.2
        rw [look_mem nd hcm', hck']
      have gp9 := s9 _ _ (f8.same _ _ npa gp7)
      refine ⟨_, rfl, .inl ⟨rfl, _, SqL.of gp9⟩, _, rfl, _, rfl, a, 4, rfl, fl9.st, by decide, fun dz Hz fz dz0 dz1 => ?_⟩
      obtain ⟨ch, hch, hsg⟩ := sg_at ⟨dz.toNat, by omega⟩
      have sl : sgs.length = 4 := by decide +kernel
      refine ⟨_, _, _, rfl, rfl, dz0, (by omega), (by rw [sl]; exact dz1), hch, _, rfl, (by show 3 ≤ sizeLine; decide), fun tz Hy ftz sy gy => ?_⟩
      have flz := (fl9.trans fz).sm sy
      have gpy := sy _ _ (fz.same _ _ npa gp9)
      have ntp : tz ≠ p := (ne_of_none (fz.same _ _ npa gp9) ftz).symm
      have tku : ∀ zs, TK K Hy (upd Hy p (.lst zs)) := fun zs _ _ e => e.updL gpy
      have hOy := (hO2.tk (fun _ _ e => sy.seqT (fz.seqT fl9.st e))).tk (tku (ws ++ [.ref tz]))
      refine ⟨p, _, _, rfl, rfl, gpy, small1000 (by omega), ?_⟩
      refine ⟨(fx.trans flz).upd fp npa, ws ++ [.ref tz], ts ++ [⟨c.1, ⟨#[ch]⟩, (.col c'.1)⟩], _, _, _, _, _, upd_same, by rw [List.length_append, hl]; rfl, (hw.imp fun _ _ h => (h.tk (flz.tk fx.st)).tk (tku _)).app (.cons (b := (⟨c.1, ⟨#[ch]⟩, .col c'.1⟩ : Tst)) ⟨tz, _, rfl, SqT.of (by rw [upd_ne ntp]; exact gy), hcn, hsg, hOy⟩ .nil), fun t ht => ?_, rfl⟩
      rcases List.mem_append.mp ht with ht | ht
      · exact hts t ht
      · rw [List.mem_singleton.mp ht]
        exact ⟨c.2, lcc, hT2⟩
    · have hO3 : IsO K H7 (.ref t1) (.val v) := hO1.tk fun _ _ e => f7.seqT fx6.st (s6.seqT e)
      refine ⟨_, rfl, .inl ⟨rfl, _, SqL.of gp7⟩, _, rfl, _, rfl, a, 4, rfl, fl7.st, by decide, fun dz Hz fz dz0 dz1 => ?_⟩
      obtain ⟨ch, hch, hsg⟩ := sg_at ⟨dz.toNat, by omega⟩
      have sl : sgs.length = 4 := by decide +kernel
      refine ⟨_, _, _, rfl, rfl, dz0, (by omega), (by rw [sl]; exact dz1), hch, _, rfl, (by show 3 ≤ sizeLine; decide), fun tz Hy ftz sy gy => ?_⟩
      have flz := (fl7.trans fz).sm sy
      have gpy := sy _ _ (fz.same _ _ npa gp7)
      have ntp : tz ≠ p := (ne_of_none (fz.same _ _ npa gp7) ftz).symm
      have tku : ∀ zs, TK K Hy (upd Hy p (.lst zs)) := fun zs _ _ e => e.updL gpy
      have hOy := (hO3.tk (fun _ _ e => sy.seqT (fz.seqT fl7.st e))).tk (tku (ws ++ [.ref tz]))
      refine ⟨p, _, _, rfl, rfl, gpy, small1000 (by omega), ?_⟩
      refine ⟨(fx.trans flz).upd fp npa, ws ++ [.ref tz], ts ++ [⟨c.1, ⟨#[ch]⟩, (.val v)⟩], _, _, _, _, _, upd_same, by rw [List.length_append, hl]; rfl, (hw.imp fun _ _ h => (h.tk (flz.tk fx.st)).tk (tku _)).app (.cons (b := (⟨c.1, ⟨#[ch]⟩, .val v⟩ : Tst)) ⟨tz, _, rfl, SqT.of (by rw [upd_ne ntp]; exact gy), hcn, hsg, hOy⟩ .nil), fun t ht => ?_, rfl⟩
      rcases List.mem_append.mp ht with ht | ht
      · exact hts t ht
      · rw [List.mem_singleton.mp ht]
        exact ⟨c.2, lcc, hT1⟩
  · rintro σ H' ⟨fx, ws, ts, l3, l4, l5, l6, l7, gp, hl, hw, hts, rfl⟩
    exact ⟨_, rfl, p, ws, rfl, SqL.of gp, fun t H5 _ s5 g5 => q _ _ ts (fx.sm s5) ⟨⟨t, ws, rfl, SqT.of g5, hw.imp fun _ _ h => h.same s5⟩, by omega, by omega⟩ hts⟩
end
end My
set_option Elab.async false
set_option linter.all false
set_option maxRecDepth 100000
namespace My
open PySem PySem.Spec PyProof.Rows L2
set_option maxHeartbeats 400000
section
variable {P : Program} {w : World} {K : PySem.W.Frag} {mg : Str → Option Value} {base : Heap}
theorem rangeF {α : Type} (l : List α) : ∀ n, (List.range n).filterMap (fun i => l[i]?) = l.take n
  | 0 => by simp
  | n + 1 => by
    rw [List.range_succ, List.filterMap_append, rangeF l n, List.take_add_one]
    cases e : l[n]? with
    | none => simp [e]
    | some x => simp [e]
theorem alli_cols {H : Hp} {us : List V} {hd : Hdr} (hu : All2 (IsC K H) us hd) {is : List Nat} {ys : List V} (h : AllI (fun i y => us[i]? = some y) is ys) : All2 (IsC K H) ys (is.filterMap fun i => hd[i]?) := by
  induction h with
  | nil => exact .nil
  | @cons i y is ys r _ ih =>
    obtain ⟨c, hc, q⟩ := all2_at hu r
    rw [List.filterMap_cons, hc]
    exact .cons q ih
theorem all2_rev {α β : Type} {R : α → β → Prop} {as : List α} {bs : List β} (h : All2 R as bs) : All2 R as.reverse bs.reverse := by
  induction h with
  | nil => exact .nil
  | cons r _ ih =>
    rw [List.reverse_cons, List.reverse_cons]
    exact ih.app (.cons r .nil)
theorem all2_take {α β : Type} {R : α → β → Prop} {as : List α} {bs : List β} (h : All2 R as bs) : ∀ n, All2 R (as.take n) (bs.take n) := by
  induction h with
  | nil => intro n; rw [List.take_nil, List.take_nil]; exact .nil
  | cons r _ ih =>
    intro n
    cases n with
    | zero => exact .nil
    | succ n => exact .cons r (ih n)
def SubH (hd' hd : Hdr) : Prop := (∀ c ∈ hd', c ∈ hd) ∧ (hd'.map (·.1)).Nodup ∧ hd'.length ≤ hd.length
theorem subH_sub {hd' hd : Hdr} (h : hd'.Sublist hd) (nd : (hd.map (·.1)).Nodup) : SubH hd' hd := ⟨fun c hc => h.subset hc, nd.sublist (h.map _), h.length_le⟩
theorem SubH.rev {hd' hd : Hdr} (h : SubH hd' hd) : SubH hd'.reverse hd := ⟨fun c hc => h.1 c (List.mem_reverse.mp hc), by
  rw [List.map_reverse]; exact List.pairwise_reverse.mpr (h.2.1.imp fun q => Ne.symm q), by rw [List.length_reverse]; exact h.2.2⟩
theorem SubH.take {hd' hd : Hdr} (h : SubH hd' hd) (n : Nat) : SubH (hd'.take n) hd := ⟨fun c hc => h.1 c (List.mem_of_mem_take hc), h.2.1.sublist ((List.take_sublist n hd').map _), by have := h.2.2; rw [List.length_take]; omega⟩
def sp_some (K : PySem.W.Frag) : Sp := fun vs H Q _ => ∃ (a : Addr) (vh : V) (hd : Hdr) (n : Nat), vs = [.ref a, vh, .int (n : Nat)] ∧ StAt H a ∧ IsHd K H vh hd ∧ Good hd ∧ n ≤ 1 ∧
  ∀ D H' us hd', Fx a H H' → H D = none → H' D = some (.lst us) → All2 (IsC K H') us hd' → SubH hd' hd → n ≤ hd'.length → Q (.ref D) H'
set_option maxHeartbeats 1600000 in
theorem ok__law_some (T : Txt w K mg) (G__law_next : Ok P w K mg base 1 "_law_next" ["_law_state", "_law_many"] sp_next) : Ok P w K mg base 2 "_law_some" ["_law_state", "_law_head_here", "_law_least"] (sp_some K) := by
  refine Ok.ofV T.d__law_some sc__law_some (fun vs H Q E h => ?_) (fun f cdv A outer s H vs Q E hr h => ?_)
  · obtain ⟨a, vh, hd, n, rfl, _⟩ := h; rfl
  obtain ⟨a, vh, hd, n, rfl, hs, ⟨b, us, rfl, hb, hu⟩, ⟨nd, l1, l8⟩, hn, q⟩ := h
  refine ⟨_, (vss_cons (vs_setC (i0 := 3) sc__law_some.nd rfl (by first | exact Or.inl rfl | exact Or.inr rfl) (N := ["_law_column", "_law_state"]) ⟨by decide +kernel, rfl, by decide +kernel, by decide +kernel⟩ (hfr_of (defScope s__law_some) rfl (by decide +kernel)) rfl (vi_tup (vv 1)) (fun cl s' H' fp => ⟨(vg_name (i := 0) (show (["_law_column", "_law_state"] : List Str).Nodup from by decide +kernel) rfl (Or.inl rfl)), (vf_one (vt_cmpR op_eq (ve_fn (G__law_next.mono (by decide)) hr (by rfl) (va_c (vv 1) (va_c ve_int va_nil))) ve_int (nomark _))), (vv 0)⟩)) (vss_cons (vs_if (vt_cmpR op_lt (ve_callB call_len_seq (by rfl) T.n_len bf_len (va_c (vv 3) va_nil)) (vv 2) (nomark _)) (vss_one (vs_set (i := 3) sc__law_some.nd rfl (by first | exact Or.inl rfl | exact Or.inr rfl) (ve_lstA (va_c (ve_ix ix_tup (vv 1) (ve_fn (G__law_next.mono (by decide)) hr (by rfl) (va_c (vv 0) (va_c (ve_callB call_len_seq (by rfl) T.n_len bf_len (va_c (vv 1) va_nil)) va_nil))) (fun _ _ => rfl)) va_nil)))) vss_nil) (vss_cons (vs_if (vt_cmpR op_eq (ve_fn (G__law_next.mono (by decide)) hr (by rfl) (va_c (vv 0) (va_c ve_int va_nil))) ve_int (nomark _)) (vss_one (vs_expr (ve_bm0 PySem.F.plainAttrs_list PySem.F.slot_list_reverse PySem.F.type_list_reverse mt_reverseR (vv 3)))) vss_nil) (vss_one (vs_ret (vv 3)))))), ?_⟩
  have lu := hu.len
  have fin : ∀ D H' zs hd', Fx a H H' → H D = none → H' D = some (.lst zs) → All2 (IsC K H') zs hd' → SubH hd' hd → n ≤ hd'.length → ∀ H2, Fx a H' H2 → Q (.ref D) H2 ∧ Q (.ref D) (upd H2 D (.lst zs.reverse)) := by
    intro D H' zs hd' fx hD gD hz hsub hle H2 f2
    have nDa : D ≠ a := hs.ne hD
    have g2 := f2.same _ _ nDa gD
    have hz2 : All2 (IsC K H2) zs hd' := hz.imp fun _ _ h => h.tk (f2.tk fx.st)
    refine ⟨q D H2 zs hd' (fx.trans f2) hD g2 hz2 hsub hle, q D _ zs.reverse hd'.reverse ((fx.trans f2).upd hD nDa) hD upd_same ?_ hsub.rev (by rw [List.length_reverse]; exact hle)⟩
    exact all2_rev (hz2.imp fun _ _ h => h.tk fun _ _ e => e.updL g2)
  dsimp only [tSeq, tAsg]
  refine comp_ofT [none, some (.ref a)] ?_ ⟨_, rfl, b, rfl, ⟨_, hb⟩, compN (Fx a) (ev_fx hs) us (fun i _ y => us[i]? = some y) (fun _ _ h => h) (fun _ _ _ h => h) (fun i σ => ∃ x, us[i]? = some x ∧ At1 [none, some (.ref a)] x σ) (Ps1 [none, some (.ref a)]) ⟨none, rfl⟩ (small (by omega)) _ (itt_go fun H' f' => f'.seqT hs hb) (itt_stop fun H' f' => f'.seqT hs hb) (fun i x σ' H' Q' ex hps s' qq => hg1 (i := i) hps fun σ2 h1 h2 => qq σ2 h1 ⟨x, ex, h2⟩) (fun i x σ2 ex hA H' R s' r => ?_) (fun i x σ2 ex hA H' R s' r => ?_) fun D H1 ys f1 fD g1 hys => ?_⟩
  · exact cap_at1 0 (by decide +kernel) rfl rfl (by first | exact Or.inl rfl | exact Or.inr (Or.inl rfl) | exact Or.inr (Or.inr rfl))
  · obtain ⟨x', _, l, rfl⟩ := hA
    exact ⟨_, rfl, a, 2, rfl, s'.st, by decide, fun d H2 f2 _ _ => ⟨rfl, _, rfl, r _ _ f2⟩⟩
  · obtain ⟨x', hx', l, rfl⟩ := hA
    rw [ex] at hx'
    cases hx'
    exact ⟨_, rfl, r _ _ (.refl s'.st) ex⟩
  obtain ⟨is, hsub, hys⟩ := hys
  have hu1 : All2 (IsC K H1) us hd := hu.imp fun _ _ h => h.tk (f1.tk hs)
  have hcol := alli_cols hu1 hys
  have hsubH : SubH (is.filterMap fun i => hd[i]?) hd := by
    refine subH_sub ?_ nd
    have := hsub.filterMap (fun i => hd[i]?)
    rw [rangeF, lu, List.take_length] at this
    exact this
  have lcol := hcol.len
  dsimp only [gName]
  refine ⟨_, rfl, D, _, rfl, .inl (SqL.of g1), _, rfl, _, _, rfl, rfl, _, rfl, ite2 (fun c => ?_) (fun c => ?_)⟩
  · refine ⟨_, rfl, _, rfl, _, rfl, _, _, rfl, .inr (f1.seqT hs hb), a, _, rfl, f1.st, (by show (0 : Int) < (us.length : Int); omega), fun d H2 f2 d0 d1 => ?_⟩
    obtain ⟨u, hat, hm⟩ := at_of (xs := us) d0 d1
    obtain ⟨cc, hcm, hcc⟩ := hu.mem hm
    have fx2 := f1.trans f2
    refine ⟨b, _, _, u, rfl, rfl, fx2.seqT hs hb, hat, (by show 1 ≤ sizeLine; decide), fun p H3 fp s3 g3 => ?_⟩
    have fx3 := fx2.sm s3
    have fp0 : H p = none := fx2.free fp
    have key := fin p H3 [u] [cc] fx3 fp0 g3 (.cons (hcc.tk (fx3.tk hs)) .nil) ⟨fun c' hc' => by rw [List.mem_singleton.mp hc']; exact hcm, by simp, by show 1 ≤ hd.length; exact l1⟩ (by show n ≤ 1; exact hn)
    refine ⟨_, rfl, a, 2, rfl, fx3.st, by decide, fun e H4 f4 _ _ => ⟨rfl, _, rfl, ?_⟩⟩
    refine ite2 (fun _ => ?_) (fun _ => ⟨_, rfl, (key H4 f4).1⟩)
    have g4 := f4.same _ _ (hs.ne fp0) g3
    exact ⟨_, rfl, .inl ⟨rfl, _, SqL.of g4⟩, p, _, rfl, rfl, g4, _, rfl, (key H4 f4).2⟩
  · have c' : ¬ (ys.length : Int) < (n : Int) := of_decide_eq_false (Bool.eq_false_iff.mpr c)
    have key := fin D H1 ys _ f1 fD g1 hcol hsubH (by omega)
    refine ⟨_, rfl, a, 2, rfl, f1.st, by decide, fun e H4 f4 _ _ => ⟨rfl, _, rfl, ?_⟩⟩
    refine ite2 (fun _ => ?_) (fun _ => ⟨_, rfl, (key H4 f4).1⟩)
    have g4 := f4.same _ _ (hs.ne fD) g1
    exact ⟨_, rfl, .inl ⟨rfl, _, SqL.of g4⟩, D, _, rfl, rfl, g4, _, rfl, (key H4 f4).2⟩
theorem looks_of {hd hd' : Hdr} (nd : (hd.map (·.1)).Nodup) (h : ∀ c ∈ hd', c ∈ hd) : Looks hd (hd'.map (·.1)) (hd'.map (·.2)) := by
  induction hd' with
  | nil => exact .nil
  | cons c r ih => exact .cons (look_mem nd (h c (List.mem_cons_self ..))) (ih fun x hx => h x (List.mem_cons_of_mem _ hx))
def sp_lkeys (K : PySem.W.Frag) : Sp := fun vs H Q _ => ∃ (a : Addr) (vh : V) (hd : Hdr), vs = [.ref a, vh] ∧ StAt H a ∧ IsHd K H vh hd ∧ HdOk hd ∧ ∀ v H' ps ks, Fx a H H' → TupS IsKy 0 3 K H' v ps → Looks hd (ps.map (·.1)) ks → (ps.map (·.1)).Nodup → Q v H'
theorem sel_true {α : Type} : ∀ (k : Nat) (xs : List α), sel (fun _ => true) k xs = xs
  | _, [] => rfl
  | k, x :: r => by
    show (if true = true then x :: sel (fun _ => true) (k + 1) r else _) = _
    rw [if_pos rfl, sel_true (k + 1) r]
theorem alli_range {R : Nat → V → Prop} {n : Nat} {ys : List V} (h : AllI R (List.range n) ys) : ys.length = n ∧ ∀ (i : Nat) (y : V), ys[i]? = some y → R i y := by
  have aux : ∀ {is : List Nat} {ys : List V}, AllI R is ys → ∀ (i : Nat) (y : V), ys[i]? = some y → ∃ j, is[i]? = some j ∧ R j y := by
    intro is ys h
    induction h with
    | nil => intro i y e; simp at e
    | cons r _ ih =>
      intro i y e
      cases i with
      | zero => cases e; exact ⟨_, rfl, r⟩
      | succ i => obtain ⟨j, h1, h2⟩ := ih i y (by simpa using e); exact ⟨j, by simpa using h1, h2⟩
  have l := h.len
  rw [List.length_range] at l
  refine ⟨l.symm, fun i y e => ?_⟩
  obtain ⟨j, h1, h2⟩ := aux h i y e
  have hi : i < n := by
    have := (List.getElem?_eq_some_iff.mp e).1
    omega
  rw [List.getElem?_range hi] at h1
  cases h1
  exact h2
set_option maxHeartbeats 1600000 in
theorem ok__law_keys (T : Txt w K mg) (G__law_next : Ok P w K mg base 1 "_law_next" ["_law_state", "_law_many"] sp_next) (G__law_some : Ok P w K mg base 2 "_law_some" ["_law_state", "_law_head_here", "_law_least"] (sp_some K)) : Ok P w K mg base 3 "_law_keys" ["_law_state", "_law_head_here"] (sp_lkeys K) := by
  refine Ok.ofV T.d__law_keys sc__law_keys (fun vs H Q E h => ?_) (fun f cdv A outer s H vs Q E hr h => ?_)
  · obtain ⟨a, vh, hd, rfl, _⟩ := h; rfl
  obtain ⟨a, vh, hd, rfl, hs, hh, ⟨hg, hc⟩, q⟩ := h
  refine ⟨_, (vss_cons (vs_set (i := 2) sc__law_keys.nd rfl (by first | exact Or.inl rfl | exact Or.inr rfl) (ve_slice sl_listA (ve_fn (G__law_some.mono (by decide)) hr (by rfl) (va_c (vv 0) (va_c (vv 1) (va_c ve_int va_nil)))) vo_none (vo_some ve_int))) (vss_one (vs_ret (ve_callTy call_tupleA (by rfl) T.n_tuple bt_tuple (va_c (ve_comp (N := ["_law_name", "_law_kind", "_law_state"]) ⟨by decide +kernel, rfl, by decide +kernel, by decide +kernel⟩ (hfr_of (defScope s__law_keys) rfl (by decide +kernel)) rfl (vi_list (vv 2)) (fun cl s' H' fp => ⟨(vg_tupK (K := K) (n := 2) rfl (vgs_cons (vg_name (i := 0) (show (["_law_name", "_law_kind", "_law_state"] : List Str).Nodup from by decide +kernel) rfl (Or.inl rfl)) (vgs_cons (vg_name (i := 1) (show (["_law_name", "_law_kind", "_law_state"] : List Str).Nodup from by decide +kernel) rfl (Or.inl rfl)) vgs_nil))), vf_nil, (ve_tupA (va_c (vv 0) (va_c (ve_ix (ix_listK (K := K)) (ve_lstA (va_c ve_str (va_c ve_str va_nil))) (ve_fn (G__law_next.mono (by decide)) hr (by rfl) (va_c (vv 2) (va_c ve_int va_nil))) (fun _ _ => rfl)) va_nil)))⟩)) va_nil))))), ?_⟩
  refine ⟨_, rfl, _, rfl, a, vh, hd, 0, rfl, hs, hh, hg, by decide, fun D H1 us hd' f1 fD g1 hu hsub _ => ?_⟩
  refine ⟨_, rfl, D, _, rfl, SqL.of g1, fun p H2 fp s2 g2 => ?_⟩
  rw [show (3 : Int) = ((3 : Nat) : Int) from rfl, cut_toG] at g2
  have fx2 := f1.sm s2
  have hu2 : All2 (IsC K H2) (us.take 3) (hd'.take 3) := all2_take (hu.imp fun _ _ h => h.same s2) 3
  have hsub3 := hsub.take 3
  have fp0 : H p = none := f1.free fp
  have npa : p ≠ a := hs.ne fp0
  generalize us.take 3 = zs at g2 hu2
  have l3 : (hd'.take 3).length ≤ 3 := by rw [List.length_take]; omega
  generalize hd'.take 3 = hz at hu2 hsub3 l3
  have lz := hu2.len
  dsimp only [gName, tRet, tCB, tCons]
  refine comp_ofL [none, none, some (.ref a)] ?_ ⟨_, rfl, p, rfl, ⟨_, SqL.of g2⟩, compG (Fx a) (ev_fx fx2.st) zs (fun _ => true) (fun i H y => ∃ c wy t, hz[i]? = some c ∧ y = .ref t ∧ SqT K H t [.str c.1, .str wy] ∧ (wy = "up" ∨ wy = "down")) (fun e1 e2 h => ?_) (fun _ _ e h => ?_) (fun i σ => ∃ c, hz[i]? = some c ∧ At2 [none, none, some (.ref a)] (.str c.1) (.str c.2) σ) (Ps2 [none, none, some (.ref a)]) ⟨none, none, rfl⟩ (small (by omega)) _ (itlE_go fun H' f' => SqL.of (f'.same _ _ npa g2)) (itlE_stop fun H' f' => SqL.of (f'.same _ _ npa g2)) (fun i x σ' H' Q' ex hps s' qq => ?_) (fun i x σ2 ex hA H' R s' r => r _ (.refl s'.st)) (fun i x σ2 ex hA _ H' R s' r => ?_) fun D2 H3 ys f3 fD2 g3 hys => ?_⟩
  · refine ⟨rfl, fun i y v h1 h2 => ?_⟩
    match i, h1, h2 with
    | 0, _, h2 => cases h2
    | 1, _, h2 => cases h2
    | 2, h1, h2 => cases h1; cases h2; exact ⟨by decide +kernel, 0, rfl, rfl, by first | exact Or.inl rfl | exact Or.inr (Or.inl rfl) | exact Or.inr (Or.inr rfl)⟩
    | i + 3, h1, _ => cases h1
  · obtain ⟨c, wy, t, h1, h2, h3, h4⟩ := h
    exact ⟨c, wy, t, h1, h2, e2.seqT e1.st h3, h4⟩
  · obtain ⟨c, wy, t, h1, h2, h3, h4⟩ := h
    exact ⟨c, wy, t, h1, h2, h3.updL e, h4⟩
  · obtain ⟨c, hc', p', rfl, hp'⟩ := all2_at hu2 ex
    exact hg2 (s'.seqT fx2.st hp') hps fun σ2 h1 h2 => qq σ2 h1 ⟨c, hc', h2⟩
  · obtain ⟨c, hc', rfl⟩ := hA
    refine ⟨_, rfl, (by show 2 ≤ sizeLine; decide), fun l1 H4 fl1 s4 g4 => ?_⟩
    refine ⟨_, rfl, a, 2, rfl, s'.st.same s4, by decide, fun d H5 f5 d0 d1 => ?_⟩
    obtain ⟨v, hv, mv⟩ := at_of (xs := waysV) d0 (by show d < 2; omega)
    obtain ⟨wy, rfl, hwy⟩ : ∃ wy : Str, v = .str wy ∧ (wy = "up" ∨ wy = "down") := by
      simp only [waysV, List.mem_cons, List.not_mem_nil, or_false] at mv
      rcases mv with rfl | rfl
      · exact ⟨_, rfl, .inl rfl⟩
      · exact ⟨_, rfl, .inr rfl⟩
    refine ⟨l1, _, _, _, rfl, rfl, SqL.of (f5.same _ _ (s'.st.ne fl1) g4), hv, (by show 2 ≤ sizeLine; decide), fun t H6 _ s6 g6 => ?_⟩
    exact r _ _ (((Fx.of s'.st s4).trans f5).sm s6) ⟨c, wy, t, hc', rfl, SqT.of g6, hwy⟩
  rw [sel_true] at hys
  obtain ⟨lys, hget⟩ := alli_range hys
  have hpz : ∃ ps : List (Str × Str), All2 (IsKy K H3) ys ps ∧ ps.map (·.1) = hz.map (·.1) := by
    have aux : ∀ (n : Nat) (ys : List V) (hz : Hdr), ys.length = hz.length → (∀ c ∈ hz, Nm c.1) → (∀ (i : Nat) (y : V), ys[i]? = some y → ∃ c wy t, hz[i]? = some c ∧ y = .ref t ∧ SqT K H3 t [.str c.1, .str wy] ∧ (wy = "up" ∨ wy = "down")) → ∃ ps : List (Str × Str), All2 (IsKy K H3) ys ps ∧ ps.map (·.1) = hz.map (·.1) := by
      intro n ys
      induction ys with
      | nil => intro hz hl _ _; cases hz with
        | nil => exact ⟨[], .nil, rfl⟩
        | cons _ _ => simp at hl
      | cons y ys ih =>
        intro hz hl hnm hget
        cases hz with
        | nil => simp at hl
        | cons c hz =>
          obtain ⟨c', wy, t, h1, h2, h3, h4⟩ := hget 0 y rfl
          cases h1
          obtain ⟨ps, h5, h6⟩ := ih hz (by simpa using hl) (fun d hd => hnm d (List.mem_cons_of_mem _ hd)) fun i z e => hget (i + 1) z (by simpa using e)
          exact ⟨(c.1, wy) :: ps, .cons ⟨t, h2, h3, hnm c (List.mem_cons_self ..), h4⟩ h5, by rw [List.map_cons, h6]; rfl⟩
    exact aux 0 ys hz (by omega) (fun c hcm => (hc c (hsub3.1 c hcm)).1) hget
  obtain ⟨ps, hps, epz⟩ := hpz
  have lps := hps.len
  refine ⟨D2, _, rfl, SqL.of g3, fun t H4 _ s4 g4 => q _ _ ps (hz.map (·.2)) ((fx2.trans f3).sm s4) ⟨⟨t, ys, rfl, SqT.of g4, hps.imp fun _ _ h => h.same s4⟩, Nat.zero_le _, by omega⟩ ?_ ?_⟩
  · rw [epz]
    exact looks_of hg.1 hsub3.1
  · rw [epz]
    exact hsub3.2.1
end
end My
set_option Elab.async false
set_option linter.all false
set_option maxRecDepth 100000
namespace My
open PySem PySem.Spec PyProof.Rows L2
set_option maxHeartbeats 400000
section
variable {P : Program} {w : World} {K : PySem.W.Frag} {mg : Str → Option Value} {base : Heap}
abbrev sumW : List V := [.str "count", .str "least", .str "most", .str "sum"]
def sp_lsums (K : PySem.W.Frag) : Sp := fun vs H Q _ => ∃ (a F : Addr) (vh : V) (hd : Hdr) (fs : List Str), vs = [.ref a, vh, .ref F] ∧ StAt H a ∧ IsHd K H vh hd ∧ HdOk hd ∧ H F = some (.lst (fs.map V.str)) ∧ F ≠ a ∧ 2 ≤ fs.length ∧ (∀ n ∈ fs, Nm n) ∧
  ∀ v H' ss js, Fx a H H' → TupS IsSm 1 2 K H' v ss → SumsOk hd ss js → ss.map Sm.new = fs.take ss.length → (∀ (s : Sm) (j : Str), (s, j) ∈ ss.zip js → KdOk j) → Q v H'
theorem word_at {w : Int} (h0 : 0 ≤ w) (h1 : w < 4) : ∃ x : Str, atI sumW w = some (.str x) ∧ ((w = 0 ∧ x = "count") ∨ (w = 1 ∧ x = "least") ∨ (w = 2 ∧ x = "most") ∨ (w = 3 ∧ x = "sum")) := by
  obtain ⟨n, rfl⟩ : ∃ n : Nat, w = n := ⟨w.toNat, by omega⟩
  match n, h1 with
  | 0, _ => exact ⟨_, atI_nat (j := 0) rfl, .inl ⟨rfl, rfl⟩⟩
  | 1, _ => exact ⟨_, atI_nat (j := 1) rfl, .inr (.inl ⟨rfl, rfl⟩)⟩
  | 2, _ => exact ⟨_, atI_nat (j := 2) rfl, .inr (.inr (.inl ⟨rfl, rfl⟩))⟩
  | 3, _ => exact ⟨_, atI_nat (j := 3) rfl, .inr (.inr (.inr ⟨rfl, rfl⟩))⟩
  | n + 4, h => omega
theorem zip_snoc {α β : Type} : ∀ {as : List α} {bs : List β} {a : α} {b : β}, as.length = bs.length → (as ++ [a]).zip (bs ++ [b]) = as.zip bs ++ [(a, b)]
  | [], [], _, _, _ => rfl
  | x :: as, y :: bs, a, b, h => by
    rw [List.cons_append, List.cons_append, List.zip_cons_cons, List.zip_cons_cons, zip_snoc (by simpa using h)]
    rfl
set_option maxHeartbeats 1600000 in
theorem ok__law_sums (T : Txt w K mg) (G__law_next : Ok P w K mg base 1 "_law_next" ["_law_state", "_law_many"] sp_next) : Ok P w K mg base 2 "_law_sums" ["_law_state", "_law_head_here", "_law_fresh_here"] (sp_lsums K) := by
  refine Ok.ofV T.d__law_sums sc__law_sums (fun vs H Q E h => ?_) (fun f cdv A outer s H vs Q E hr h => ?_)
  · obtain ⟨a, F, vh, hd, fs, rfl, _⟩ := h; rfl
  obtain ⟨a, F, vh, hd, fs, rfl, hs, ⟨b, us, rfl, hb, hu⟩, ⟨⟨nd, l1, l8⟩, hc⟩, hF, nF, lf, hfn, q⟩ := h
  refine ⟨_, (vss_cons (vs_set (i := 3) sc__law_sums.nd rfl (by first | exact Or.inl rfl | exact Or.inr rfl) (ve_lstA va_nil)) (vss_cons (vs_for PassesOwn.never rfl (vi_range1 (by rfl) T.n_range (va_c (ve_op op_add ve_int (ve_fn (G__law_next.mono (by decide)) hr (by rfl) (va_c (vv 0) (va_c ve_int va_nil)))) va_nil)) (vg_name (i := 4) sc__law_sums.nd rfl (by first | exact Or.inl rfl | exact Or.inr rfl)) (vss_cons (vs_asg (ve_ix ix_tup (vv 1) (ve_fn (G__law_next.mono (by decide)) hr (by rfl) (va_c (vv 0) (va_c (ve_callB call_len_seq (by rfl) T.n_len bf_len (va_c (vv 1) va_nil)) va_nil))) (fun _ _ => rfl)) (vg_tup rfl (vgs_cons (vg_name (i := 5) sc__law_sums.nd rfl (by first | exact Or.inl rfl | exact Or.inr rfl)) (vgs_cons (vg_name (i := 6) sc__law_sums.nd rfl (by first | exact Or.inl rfl | exact Or.inr rfl)) vgs_nil)))) (vss_cons (vs_set (i := 7) sc__law_sums.nd rfl (by first | exact Or.inl rfl | exact Or.inr rfl) (ve_op op_add ve_int (ve_callTy call_int1 (by rfl) T.n_int bt_int (va_c (ve_cmpR op_eq (vv 6) ve_str (nomark _)) va_nil)))) (vss_cons (vs_set (i := 8) sc__law_sums.nd rfl (by first | exact Or.inl rfl | exact Or.inr rfl) (ve_ix ix_list (ve_lstA (va_c ve_str (va_c ve_str (va_c ve_str (va_c ve_str va_nil))))) (ve_fn (G__law_next.mono (by decide)) hr (by rfl) (va_c (vv 0) (va_c (vv 7) va_nil))) (fun _ _ => rfl))) (vss_cons (vs_if (vt_cmpR op_eq (vv 8) ve_str (nomark _)) (vss_one (vs_set (i := 5) sc__law_sums.nd rfl (by first | exact Or.inl rfl | exact Or.inr rfl) ve_non)) vss_nil) (vss_one (vs_expr (ve_bm PySem.F.plainAttrs_list PySem.F.slot_list_append PySem.F.type_list_append mt_appendR (vv 3) (va_c (ve_tupA (va_c (vv 8) (va_c (vv 5) (va_c (ve_ix ix_list (vv 2) (vv 4) (fun _ _ => rfl)) va_nil)))) va_nil))))))))) (vss_one (vs_ret (ve_callTy call_tupleA (by rfl) T.n_tuple bt_tuple (va_c (vv 3) va_nil)))))), ?_⟩
  have lu := hu.len
  refine ⟨(by show 0 ≤ sizeLine; decide), fun p H1 fp s1 g1 => ?_⟩
  have f1 := Fx.of hs s1
  have npa : p ≠ a := hs.ne fp
  refine ⟨_, rfl, a, 2, rfl, f1.st, by decide, fun m H2 f2 m0 m1 => ?_⟩
  have f2' := f1.trans f2
  have g2 := f2.same _ _ npa g1
  refine ⟨_, _, rfl, rfl, _, rfl, (by show -(2 ^ 62) ≤ 1 + m; omega), (by show 1 + m < 2 ^ 62; omega), ?_⟩
  refine for_range (n := (1 + m).toNat) (fun i σ H' => Fx a H H' ∧ ∃ (ws : List V) (ss : List Sm) (js : List Str) (l4 l5 l6 l7 l8 : Option V), H' p = some (.lst ws) ∧ ss.length = i ∧ All2 (IsSm K H') ws ss ∧ SumsOk hd ss js ∧ ss.map Sm.new = fs.take i ∧ (∀ (s : Sm) (j : Str), (s, j) ∈ ss.zip js → KdOk j) ∧ σ = [some (.ref a), some (.ref b), some (.ref F), some (.ref p), l4, l5, l6, l7, l8]) ⟨f2', [], [], [], _, _, _, _, _, g2, rfl, .nil, .nil, rfl, (fun s j h => by cases h), rfl⟩ ?_ ?_
  · rintro i σ H' hi ⟨fx, ws, ss, js, l4, l5, l6, l7, l8, gp, hl, hw, hsj, hnw, hkj, rfl⟩
    have lw := hw.len
    have lj := hsj.len
    have tk0 : TK K H H' := fx.tk hs
    refine ⟨_, rfl, _, rfl, _, rfl, _, _, rfl, .inr (tk0 _ _ hb), a, _, rfl, fx.st, (by show (0 : Int) < (us.length : Int); omega), fun d H3 f3 d0 d1 => ?_⟩
    obtain ⟨u, hat, hmem⟩ := at_of (xs := us) d0 d1
    obtain ⟨c, hcm, pc, rfl, hpc⟩ := hu.mem hmem
    obtain ⟨hcn, hck⟩ := hc c hcm
    have fx3 := fx.trans f3
    have tk3 : TK K H H3 := fx3.tk hs
    refine ⟨b, _, _, _, rfl, rfl, tk3 _ _ hb, hat, pc, _, rfl, tk3 _ _ hpc, rfl, _, _, rfl, _, _, rfl, rfl, ?_⟩
    have lcc : look hd c.1 = some c.2 := look_mem nd hcm
    have hif : fs.take (i + 1) = fs.take i ++ [fs[i]'(by omega)] := by rw [List.take_add_one, List.getElem?_eq_getElem (by omega)]; rfl
    have hni : Nm (fs[i]'(by omega)) := hfn _ (List.getElem_mem _)
    have hat' : ∀ Hz, Fx a H Hz → SqL K Hz F (fs.map V.str) := fun Hz fz => SqL.of (fz.same _ _ nF hF)
    have hix : atI (fs.map V.str) (0 + (i : Int)) = some (.str (fs[i]'(by omega))) := by
      rw [Int.zero_add]
      exact atI_nat (by rw [List.getElem?_map, List.getElem?_eq_getElem (by omega)]; rfl)
    refine ⟨_, rfl, rfl, .inr ⟨_, rfl, _, _, rfl, rfl, ?_⟩⟩
    obtain ⟨mn, emn, hmn, hm3⟩ : ∃ mn : Int, (3 + (if decide (V.str c.2 = V.str "number") then 1 else 0) : Int) = mn ∧ 3 ≤ mn ∧ (mn ≤ 3 ∨ (mn = 4 ∧ c.2 = "number")) := by
      by_cases e : c.2 = "number"
      · exact ⟨4, by rw [decide_eq_true (congrArg V.str e)]; rfl, by decide, .inr ⟨rfl, e⟩⟩
      · exact ⟨3, by rw [decide_eq_false (by intro z; exact e (V.str.inj z))]; rfl, by decide, .inl (by decide)⟩
    dsimp only [gName]
    rw [emn]
    refine ⟨(by show 4 ≤ sizeLine; decide), fun p4 H4 fp4 s4 g4 => ?_⟩
    have fx4 := fx3.sm s4
    refine ⟨_, rfl, _, rfl, a, mn, rfl, fx4.st, by omega, fun w' H5 f5 w0 w1 => ?_⟩
    have fx5 := fx4.trans f5
    have fl5 : Fx a H' H5 := (f3.sm s4).trans f5
    have gp5 := f5.same _ _ npa (s4 _ _ (f3.same _ _ npa gp))
    obtain ⟨x, hx, hxc⟩ := word_at w0 (show w' < 4 by omega)
    refine ⟨p4, _, _, _, rfl, rfl, SqL.of (f5.same _ _ (fx3.st.ne fp4) g4), hx, ?_⟩
    have rest : ∀ (nv : V) (sm : Sm) (j : Str), (∀ Hz tz, SqT K Hz tz [.str x, nv, .str (fs[i]'(by omega))] → IsSm K Hz (.ref tz) sm) → sm.new = fs[i]'(by omega) → smK hd sm = some j → (sm.wd = "sum" → j ≠ "word") → KdOk j → ∀ tz Hy, H5 tz = none → Same H5 Hy → Hy tz = some (.tup [.str x, nv, .str (fs[i]'(by omega))]) →
        Hy p = some (.lst ws) ∧ (Fx a H (upd Hy p (.lst (ws ++ [.ref tz]))) ∧ All2 (IsSm K (upd Hy p (.lst (ws ++ [.ref tz])))) (ws ++ [.ref tz]) (ss ++ [sm]) ∧ SumsOk hd (ss ++ [sm]) (js ++ [j]) ∧ (ss ++ [sm]).map Sm.new = fs.take (i + 1) ∧ ∀ (s : Sm) (j' : Str), (s, j') ∈ (ss ++ [sm]).zip (js ++ [j]) → KdOk j') := by
      intro nv sm j hsm hnew hk hsum hkd tz Hy ftz sy gy
      have gpy := sy _ _ gp5
      have ntp : tz ≠ p := (ne_of_none gp5 ftz).symm
      refine ⟨gpy, (fx5.sm sy).upd fp npa, ?_, ?_, ?_, ?_⟩
      · exact (hw.imp fun _ _ h => (h.tk ((fl5.sm sy).tk fx.st)).tk fun _ _ e => e.updL gpy).app (.cons (hsm _ tz (SqT.of (by rw [upd_ne ntp]; exact gy))) .nil)
      · exact All2.app hsj (.cons ⟨hk, hsum⟩ .nil)
      · rw [List.map_append, hnw, hif, List.map_singleton, hnew]
      · intro s j' hm
        rw [zip_snoc (by omega)] at hm
        rcases List.mem_append.mp hm with hm | hm
        · exact hkj s j' hm
        · cases List.mem_singleton.mp hm
          exact hkd
    refine ⟨_, rfl, rfl, _, rfl, ?_⟩
    by_cases ec : x = "count"
    · subst ec
      rw [decide_eq_true rfl]
      refine iteT ?_
      refine ⟨_, rfl, .inl ⟨rfl, _, SqL.of gp5⟩, _, rfl, _, rfl, _, rfl, _, rfl, F, _, _, _, rfl, rfl, hat' _ fx5, hix, (by show 3 ≤ sizeLine; decide), fun tz Hy ftz sy gy => ?_⟩
      obtain ⟨k1, k2, k3, k4, k5, k6⟩ := rest .non ⟨"count", none, fs[i]'(by omega)⟩ "number" (fun Hz tz h => ⟨tz, rfl, hni, .inl ⟨rfl, rfl, h⟩⟩) rfl rfl (fun _ => by decide +kernel) (.inl rfl) tz Hy ftz sy gy
      exact ⟨p, _, _, rfl, rfl, k1, small1000 (by omega), k2, _, _, _, _, _, _, _, _, upd_same, by rw [List.length_append, hl]; rfl, k3, k4, k5, k6, rfl⟩
    · rw [decide_eq_false (by intro z; exact ec (V.str.inj z))]
      refine iteF ?_
      have hwd : WdOk x := by
        rcases hxc with ⟨_, e⟩ | ⟨_, e⟩ | ⟨_, e⟩ | ⟨_, e⟩
        · exact absurd e ec
        · exact .inr (.inl e)
        · exact .inr (.inr e)
        · exact .inl e
      have hsum : x = "sum" → c.2 ≠ "word" := fun e => by
        rcases hxc with ⟨_, e'⟩ | ⟨_, e'⟩ | ⟨_, e'⟩ | ⟨e3, e'⟩
        · exact absurd e' ec
        · rw [e] at e'; exact absurd e' (by decide +kernel)
        · rw [e] at e'; exact absurd e' (by decide +kernel)
        · rcases hm3 with z | ⟨_, z⟩
          · omega
          · rw [z]; decide +kernel
      refine ⟨_, rfl, .inl ⟨rfl, _, SqL.of gp5⟩, _, rfl, _, rfl, _, rfl, _, rfl, F, _, _, _, rfl, rfl, hat' _ fx5, hix, (by show 3 ≤ sizeLine; decide), fun tz Hy ftz sy gy => ?_⟩
      obtain ⟨k1, k2, k3, k4, k5, k6⟩ := rest (.str c.1) ⟨x, some c.1, fs[i]'(by omega)⟩ c.2 (fun Hz tz h => ⟨tz, rfl, hni, .inr ⟨c.1, rfl, hcn, hwd, h⟩⟩) rfl lcc hsum hck tz Hy ftz sy gy
      exact ⟨p, _, _, rfl, rfl, k1, small1000 (by omega), k2, _, _, _, _, _, _, _, _, upd_same, by rw [List.length_append, hl]; rfl, k3, k4, k5, k6, rfl⟩
  · rintro σ H' ⟨fx, ws, ss, js, l4, l5, l6, l7, l8, gp, hl, hw, hsj, hnw, hkj, rfl⟩
    exact ⟨_, rfl, p, ws, rfl, SqL.of gp, fun t H5 _ s5 g5 => q _ _ ss js (fx.sm s5) ⟨⟨t, ws, rfl, SqT.of g5, hw.imp fun _ _ h => h.same s5⟩, by omega, by omega⟩ hsj (by rw [hnw, hl]) hkj⟩
end
end My
set_option Elab.async false
set_option linter.all false
set_option maxRecDepth 100000
namespace My
open PySem PySem.Spec PyProof.Rows L2
set_option maxHeartbeats 400000
section
variable {P : Program} {w : World} {K : PySem.W.Frag} {mg : Str → Option Value} {base : Heap}
theorem filt_ne {n : Str} : ∀ {l : List Str}, l.Nodup → l.length ≤ (l.filter fun x => !decide (x = n)).length + 1
  | [], _ => by simp
  | x :: r, h => by
    rw [List.nodup_cons] at h
    rw [List.filter_cons, List.length_cons]
    by_cases e : x = n
    · subst e
      rw [decide_eq_true rfl]
      have : r.filter (fun y => !decide (y = x)) = r := List.filter_eq_self.mpr fun y hy => by
        rw [decide_eq_false (fun z => h.1 (by rw [← z]; exact hy))]
        rfl
      simp [this]
    · rw [decide_eq_false e]
      have := filt_ne (n := n) h.2
      simp only [Bool.not_false, if_true, List.length_cons]
      omega
theorem filt_len {l : List Str} (h : l.Nodup) : ∀ S : List Str, l.length ≤ (l.filter fun x => !decide (x ∈ S)).length + S.length
  | [] => by
    have e : (l.filter fun x => !decide (x ∈ ([] : List Str))) = l := List.filter_eq_self.mpr (by intro x _; simp)
    rw [e]
    exact Nat.le_add_right _ _
  | s :: S => by
    have e : (l.filter fun x => !decide (x ∈ s :: S)) = (l.filter fun x => !decide (x ∈ S)).filter fun x => !decide (x = s) := by
      rw [List.filter_filter]
      refine List.filter_congr fun x _ => ?_
      by_cases a : x = s <;> by_cases b : x ∈ S <;> simp [a, b]
    have h1 := filt_len h S
    have h2 := filt_ne (n := s) (h.sublist (List.filter_sublist (p := fun x => !decide (x ∈ S))))
    rw [e, List.length_cons]
    omega
theorem alli_sel {p : Nat → Bool} {R : Nat → V → Prop} : ∀ {k : Nat} {l : List Str} {ys : List V}, (∀ (j : Nat) (n : Str), l[j]? = some n → ∀ y, R (k + j) y → y = .str n) → AllI R (sel p k (List.range' k l.length)) ys → ys = (sel p k l).map V.str
  | k, [], ys, _, h => by cases h; rfl
  | k, n :: r, ys, hR, h => by
    rw [List.length_cons, List.range'_succ] at h
    have h : AllI R (if p k then k :: sel p (k + 1) (List.range' (k + 1) r.length) else sel p (k + 1) (List.range' (k + 1) r.length)) ys := h
    have ih : ∀ {zs : List V}, AllI R (sel p (k + 1) (List.range' (k + 1) r.length)) zs → zs = (sel p (k + 1) r).map V.str := fun {zs} hz =>
      alli_sel (k := k + 1) (l := r) (fun j m hj y hy => hR (j + 1) m (by simpa using hj) y (by rw [show k + (j + 1) = k + 1 + j by omega]; exact hy)) hz
    show ys = (if p k then n :: sel p (k + 1) r else sel p (k + 1) r).map V.str
    split at h
    · rename_i hp
      rw [if_pos hp]
      cases h with
      | cons r' t =>
        rw [List.map_cons, ← ih t, hR 0 n rfl _ r']
    · rename_i hp
      rw [if_neg hp]
      exact ih h
theorem ys_names {ys : List V} {cs : Hdr} (hl : ys.length = cs.length) (h : ∀ (i : Nat) (y : V), ys[i]? = some y → ∃ c, cs[i]? = some c ∧ y = .str c.1) : ys = (cs.map (·.1)).map V.str := by
  rw [List.map_map]
  refine List.ext_getElem? fun i => ?_
  by_cases hi : i < ys.length
  · obtain ⟨c, h1, h2⟩ := h i ys[i] (List.getElem?_eq_getElem hi)
    rw [List.getElem?_eq_getElem hi, List.getElem?_map, h1, h2]
    rfl
  · rw [List.getElem?_eq_none (by omega), List.getElem?_eq_none (by rw [List.length_map]; omega)]
theorem comp_names {X : Cx} {scope : Scope} {N : List Str} {tl : TE} {σ : L2.St} {H : Hp} {Q : VK} {b : Addr} {us : List V} {cs : Hdr} (hb : SqT K H b us) (hu : All2 (IsC K H) us cs) (h8 : cs.length ≤ 100) (cap : Cap X scope N σ [none, none]) (hw : ∀ R : VK, R (.ref b) H → tl σ H R)
    (q : ∀ D H', H D = none → Same H H' → H' D = some (.lst ((cs.map (·.1)).map V.str)) → Q (.ref D) H') : tComp X scope N (iTup K tl) (gTup K 2 (gCons (gName 0) (gCons (gName 1) gNil))) tYes (tVar 0) σ H Q := by
  have lu := hu.len
  refine comp_ofT [none, none] cap (hw _ ⟨b, rfl, ⟨_, hb⟩, compG Same (ev_same H) us (fun _ => true) (fun i _ y => ∃ c, cs[i]? = some c ∧ y = .str c.1) (fun _ _ h => h) (fun _ _ _ h => h) (fun i σ => ∃ c, cs[i]? = some c ∧ At2 [none, none] (.str c.1) (.str c.2) σ) (Ps2 [none, none]) ⟨none, none, rfl⟩ (small (by omega)) _ (itt_go fun H' s' => s'.seqT hb) (itt_stop fun H' s' => s'.seqT hb) (fun i x σ' H' Q' ex hps s' qq => ?_) (fun i x σ2 ex hA H' R s' r => r _ (Same.refl _)) (fun i x σ2 ex hA _ H' R s' r => ?_) fun D H1 ys s1 fD g1 hys => ?_⟩)
  · obtain ⟨c, hc, p, rfl, hp⟩ := all2_at hu ex
    exact hg2 (s'.seqT hp) hps fun σ2 h1 h2 => qq σ2 h1 ⟨c, hc, h2⟩
  · obtain ⟨c, hc, rfl⟩ := hA
    exact ⟨_, rfl, r _ _ (Same.refl H') ⟨c, hc, rfl⟩⟩
  · rw [sel_true] at hys
    obtain ⟨l, hg⟩ := alli_range hys
    rw [ys_names (by omega) hg] at g1
    exact q D H1 fD s1 g1
def frP (l used : List Str) (i : Nat) : Bool := match l[i]? with
  | some n => !decide (n ∈ used)
  | none => false
def freshOf (ns used : List Str) : List Str := (ns.drop 3).filter fun n => !decide (n ∈ used)
theorem fresh_ok {ns used : List Str} (h : Nms17 ns) : (freshOf ns used).Nodup ∧ (∀ n ∈ freshOf ns used, Nm n ∧ n ∉ used) ∧ 14 ≤ (freshOf ns used).length + used.length ∧ (freshOf ns used).length ≤ 14 := by
  have hd : (ns.drop 3).Nodup := h.2.2.sublist (List.drop_sublist 3 ns)
  have hl : (ns.drop 3).length = 14 := by rw [List.length_drop, h.1]
  refine ⟨hd.sublist List.filter_sublist, fun n hn => ?_, ?_, ?_⟩
  · obtain ⟨h1, h2⟩ := List.mem_filter.mp hn
    exact ⟨h.2.1 n (List.mem_of_mem_drop h1), by simpa using h2⟩
  · have := filt_len hd used
    unfold freshOf
    omega
  · have := List.length_filter_le (fun n => !decide (n ∈ used)) (ns.drop 3)
    unfold freshOf
    omega
theorem comp_fresh {X : Cx} {scope : Scope} {Nn : List Str} {tl : TE} {tt : TT} {σ : L2.St} {H : Hp} {Q : VK} {U : V} {ns used : List Str} (hn : Nms17 ns) (cap : Cap X scope Nn σ [none, some U]) (hw : ∀ R : VK, (∀ p H1, H p = none → Same H H1 → H1 p = some (.lst ((ns.drop 3).map V.str)) → R (.ref p) H1) → tl σ H R)
    (ht : ∀ (n : Str) l H' R, Same H H' → (∀ H2, Same H' H2 → R (!decide (n ∈ used)) H2) → tt (([none, some U].set 0 l).set 0 (some (.str n))) H' R)
    (q : ∀ D H', H D = none → Same H H' → H' D = some (.lst ((freshOf ns used).map V.str)) → Q (.ref D) H') : tComp X scope Nn (iList K tl) (gName 0) tt (tVar 0) σ H Q := by
  have hl : (ns.drop 3).length = 14 := by rw [List.length_drop, hn.1]
  refine comp_ofL [none, some U] cap (hw _ fun p H1 fp s1 g1 => ⟨p, rfl, ⟨_, SqL.of g1⟩, compG Same (ev_same H1) ((ns.drop 3).map V.str) (frP (ns.drop 3) used) (fun i _ y => ∃ n, (ns.drop 3)[i]? = some n ∧ y = .str n) (fun _ _ h => h) (fun _ _ _ h => h) (fun i σ => ∃ n, (ns.drop 3)[i]? = some n ∧ At1 [none, some U] (.str n) σ) (Ps1 [none, some U]) ⟨none, rfl⟩ (small (by rw [List.length_map]; omega)) _ (itlE_go fun H' s' => SqL.of (s' _ _ g1)) (itlE_stop fun H' s' => SqL.of (s' _ _ g1)) (fun i x σ' H' Q' ex hps s' qq => ?_) (fun i x σ2 ex hA H' R s' r => ?_) (fun i x σ2 ex hA _ H' R s' r => ?_) fun D H2 ys s2 fD g2 hys => ?_⟩)
  · obtain ⟨n, hn', rfl⟩ := map_at ex
    exact hg1 (i := i) hps fun σ2 h1 h2 => qq σ2 h1 ⟨n, hn', h2⟩
  · obtain ⟨n, hn', l, rfl⟩ := hA
    refine ht n l H' _ (s1.trans s') fun H2 s2 => ?_
    have e : frP (ns.drop 3) used i = !decide (n ∈ used) := by unfold frP; rw [hn']
    rw [← e]
    exact r H2 s2
  · obtain ⟨n, hn', l, rfl⟩ := hA
    exact ⟨_, by cases l <;> rfl, r _ _ (Same.refl H') ⟨n, hn', rfl⟩⟩
  · rw [List.length_map, List.range_eq_range'] at hys
    have ey := alli_sel (k := 0) (l := ns.drop 3) (fun j n hj y hy => by
      obtain ⟨m, hm, e⟩ := hy
      rw [Nat.zero_add, hj] at hm
      cases hm
      exact e) hys
    have es : sel (frP (ns.drop 3) used) 0 (ns.drop 3) = freshOf ns used := sel_filter fun i x ex => by
      unfold frP
      rw [Nat.zero_add, ex]
    rw [ey, es] at g2
    exact q D H2 (s1.free fD) (s1.trans s2) g2
end
end My
set_option Elab.async false
set_option linter.all false
set_option maxRecDepth 100000
namespace My
open PySem PySem.Spec PyProof.Rows L2
set_option maxHeartbeats 400000
section
variable {P : Program} {w : World} {K : PySem.W.Frag} {mg : Str → Option Value} {base : Heap}
theorem zip_fst_snd : ∀ (hd : Hdr), (hd.map (·.1)).zip (hd.map (·.2)) = hd
  | [] => rfl
  | c :: r => by rw [List.map_cons, List.map_cons, List.zip_cons_cons, zip_fst_snd r]
theorem zw_names : ∀ {ns : List Str} {hd : Hdr}, ns.length = hd.length → (List.zipWith (fun n c => (n, c.2)) ns hd).map (·.1) = ns
  | [], [], _ => rfl
  | n :: ns, c :: hd, h => by rw [List.zipWith_cons_cons, List.map_cons, zw_names (by simpa using h)]
theorem zw_mem : ∀ {ns : List Str} {hd : Hdr} {x : Str × Str}, x ∈ List.zipWith (fun n c => (n, c.2)) ns hd → x.1 ∈ ns ∧ ∃ c ∈ hd, x.2 = c.2
  | [], _, x, h => by simp at h
  | _ :: _, [], x, h => by simp at h
  | n :: ns, c :: hd, x, h => by
    rw [List.zipWith_cons_cons] at h
    rcases List.mem_cons.mp h with rfl | h
    · exact ⟨List.mem_cons_self .., c, List.mem_cons_self .., rfl⟩
    · obtain ⟨h1, c', h2, h3⟩ := zw_mem h
      exact ⟨List.mem_cons_of_mem _ h1, c', List.mem_cons_of_mem _ h2, h3⟩
theorem names_tupS {lo hi : Nat} {H : Hp} {t : Addr} {ns : List Str} (h : SqT K H t (ns.map V.str)) (hn : ∀ n ∈ ns, Nm n) (l1 : lo ≤ ns.length) (l2 : ns.length ≤ hi) : TupS NameS lo hi K H (.ref t) ns := by
  refine ⟨⟨t, _, rfl, h, ?_⟩, l1, l2⟩
  clear h l1 l2
  induction ns with
  | nil => exact .nil
  | cons n r ih => exact .cons ⟨rfl, hn n (List.mem_cons_self ..)⟩ (ih fun m hm => hn m (List.mem_cons_of_mem _ hm))
def sp_fresh (K : PySem.W.Frag) : Sp := fun vs H Q _ => ∃ (vq vh vo : V) (N : Addr) (q : Qn) (hd ow : Hdr) (ns : List Str) (hs : Str → Option Hdr), vs = [vq, vh, vo, .ref N] ∧ IsQ K H vq q ∧ IsHd K H vh hd ∧ HdOk hd ∧ HQ hs q hd ∧ IsHd K H vo ow ∧ HdOk ow ∧ H N = some (.lst (ns.map V.str)) ∧ Nms17 ns ∧
  ∀ p H' v1 v2 q' hd', Same H H' → H' p = some (.tup [v1, v2]) → IsQ K H' v1 q' → IsHd K H' v2 hd' → HQ hs q' hd' → HdOk hd' → (∀ c ∈ hd', c.1 ∉ ow.map (·.1)) → size q' = size q + 2 → hd'.length + ow.length ≤ 9 → Q (.ref p) H'
set_option maxHeartbeats 1600000 in
theorem ok__law_fresh (T : Txt w K mg) : Ok P w K mg base 1 "_law_fresh" ["_law_question_here", "_law_head_here", "_law_own", "_law_names_here"] (sp_fresh K) := by
  refine Ok.ofV T.d__law_fresh sc__law_fresh (fun vs H Q E h => ?_) (fun f cdv A outer s H vs Q E hr h => ?_)
  · obtain ⟨vq, vh, vo, N, q, hd, ow, ns, hs, rfl, _⟩ := h; rfl
  obtain ⟨vq, vh, vo, N, q0, hd, ow, ns, hs, rfl, hq, ⟨b, us, rfl, hb, hu⟩, ⟨⟨nd, l1, l8⟩, hc⟩, hHQ, ⟨o, zs, rfl, ho, hz⟩, ⟨⟨ndo, lo1, lo8⟩, hco⟩, hN, hn, q⟩ := h
  refine ⟨_, (vss_cons (vs_set (i := 4) sc__law_fresh.nd rfl (by first | exact Or.inl rfl | exact Or.inr rfl) (ve_comp (N := ["_law_column", "_law_kind"]) ⟨by decide +kernel, rfl, by decide +kernel, by decide +kernel⟩ (hfr_none (by decide +kernel)) rfl (vi_tup (vv 2)) (fun cl s' H' fp => ⟨(vg_tupK (K := K) (n := 2) rfl (vgs_cons (vg_name (i := 0) (show (["_law_column", "_law_kind"] : List Str).Nodup from by decide +kernel) rfl (Or.inl rfl)) (vgs_cons (vg_name (i := 1) (show (["_law_column", "_law_kind"] : List Str).Nodup from by decide +kernel) rfl (Or.inl rfl)) vgs_nil))), vf_nil, (vv 0)⟩))) (vss_cons (vs_set (i := 5) sc__law_fresh.nd rfl (by first | exact Or.inl rfl | exact Or.inr rfl) (ve_comp (N := ["_law_name", "_law_used"]) ⟨by decide +kernel, rfl, by decide +kernel, by decide +kernel⟩ (hfr_of (defScope s__law_fresh) rfl (by decide +kernel)) rfl (vi_list (ve_slice sl_listA (vv 3) (vo_some ve_int) vo_none)) (fun cl s' H' fp => ⟨(vg_name (i := 0) (show (["_law_name", "_law_used"] : List Str).Nodup from by decide +kernel) rfl (Or.inl rfl)), (vf_one (vt_cmpR (op_notIn_seqK (K := K)) (vv 0) (vv 1) (by with_unfolding_all rfl))), (vv 0)⟩))) (vss_cons (vs_set (i := 1) sc__law_fresh.nd rfl (by first | exact Or.inl rfl | exact Or.inr rfl) (ve_slice sl_tupE (vv 1) vo_none (vo_some (ve_callB (call_min2 rfl) (by rfl) T.n_min bf_min (va_c (ve_callB call_len_seq (by rfl) T.n_len bf_len (va_c (vv 5) va_nil)) (va_c (ve_op op_sub ve_int (ve_callB call_len_seq (by rfl) T.n_len bf_len (va_c (vv 2) va_nil))) va_nil)))))) (vss_cons (vs_set (i := 0) sc__law_fresh.nd rfl (by first | exact Or.inl rfl | exact Or.inr rfl) (ve_tupA (va_c ve_str (va_c (vv 0) (va_c (ve_callTy call_tupleA (by rfl) T.n_tuple bt_tuple (va_c (ve_comp (N := ["_law_name", "_law_kind"]) ⟨by decide +kernel, rfl, by decide +kernel, by decide +kernel⟩ (hfr_none (by decide +kernel)) rfl (vi_tup (vv 1)) (fun cl s' H' fp => ⟨(vg_tupK (K := K) (n := 2) rfl (vgs_cons (vg_name (i := 0) (show (["_law_name", "_law_kind"] : List Str).Nodup from by decide +kernel) rfl (Or.inl rfl)) (vgs_cons (vg_name (i := 1) (show (["_law_name", "_law_kind"] : List Str).Nodup from by decide +kernel) rfl (Or.inl rfl)) vgs_nil))), vf_nil, (vv 0)⟩)) va_nil)) va_nil))))) (vss_cons (vs_setC (i0 := 6) sc__law_fresh.nd rfl (by first | exact Or.inl rfl | exact Or.inr rfl) (N := ["_law_k", "_law_fresh_here", "_law_head_here"]) ⟨by decide +kernel, rfl, by decide +kernel, by decide +kernel⟩ (hfr_of (defScope s__law_fresh) rfl (by decide +kernel)) rfl (vi_range1 (by rfl) T.n_range (va_c (ve_callB call_len_seq (by rfl) T.n_len bf_len (va_c (vv 1) va_nil)) va_nil)) (fun cl s' H' fp => ⟨(vg_name (i := 0) (show (["_law_k", "_law_fresh_here", "_law_head_here"] : List Str).Nodup from by decide +kernel) rfl (Or.inl rfl)), vf_nil, (ve_tupA (va_c (ve_ix (ix_listK (K := K)) (vv 1) (vv 0) (fun _ _ => rfl)) (va_c (ve_ix (ix_tupK (K := K)) (ve_ix (ix_tupK (K := K)) (vv 2) (vv 0) (fun _ _ => rfl)) ve_int (fun _ _ => rfl)) va_nil)))⟩)) (vss_one (vs_ret (ve_tupA (va_c (ve_tupA (va_c ve_str (va_c (vv 0) (va_c (ve_callTy call_tupleA (by rfl) T.n_tuple bt_tuple (va_c (ve_slice sl_listA (vv 5) vo_none (vo_some (ve_callB call_len_seq (by rfl) T.n_len bf_len (va_c (vv 1) va_nil)))) va_nil)) va_nil)))) (va_c (ve_callTy call_tupleA (by rfl) T.n_tuple bt_tuple (va_c (vv 6) va_nil)) va_nil)))))))))), ?_⟩
  have lu := hu.len
  have lz := hz.len
  try dsimp only [tSeq, tAsg]
  refine comp_names ho hz (by omega) cap_none2 (fun R r => ⟨_, rfl, r⟩) fun U H1 fU s1 gU => ?_
  try dsimp only [gName, tSeq, tAsg]
  refine comp_fresh (K := K) (U := .ref U) (used := ow.map (·.1)) hn ?_ (fun R r => ?_) (fun n l H' R s' r => ?_) fun F H2 fF s2 gF => ?_
  · exact cap_at1 4 (by decide +kernel) rfl rfl (by first | exact Or.inl rfl | exact Or.inr (Or.inl rfl) | exact Or.inr (Or.inr rfl))
  · refine ⟨_, rfl, _, rfl, N, _, rfl, SqL.of (s1 _ _ hN), fun p H' fp s' g' => r p H' fp s' ?_⟩
    rw [g', show (3 : Int) = ((3 : Nat) : Int) from rfl, cut_fromG, List.map_drop]
  · refine ⟨_, rfl, _, rfl, U, _, rfl, .inl (SqL.of (s' _ _ gU)), rfl, flat_map, _, rfl, ?_⟩
    rw [inV_map]
    exact r H' (Same.refl H')
  obtain ⟨fnd, fnm, flen, flen2⟩ := fresh_ok (used := ow.map (·.1)) hn
  rw [List.length_map] at flen
  generalize hfr : freshOf ns (ow.map (·.1)) = fr at gF fnd fnm flen flen2
  have t2 := s1.trans s2
  try dsimp only [gName]
  refine ⟨_, rfl, _, rfl, F, _, rfl, .inl (SqL.of gF), _, rfl, o, _, rfl, .inr (t2.seqT ho), _, _, rfl, rfl, _, _, rfl, _, rfl, b, _, rfl, t2.seqT hb, fun h1 H3 s3 g3 => ?_⟩
  obtain ⟨k, ek, hk⟩ : ∃ k : Nat, (if ((9 : Int) - (zs.length : Int)) < (((fr.map V.str).length : Nat) : Int) then ((9 : Int) - (zs.length : Int)) else (((fr.map V.str).length : Nat) : Int)) = (k : Int) ∧ k = min fr.length (9 - zs.length) := by
    rw [List.length_map]
    refine ⟨min fr.length (9 - zs.length), ?_, rfl⟩
    split <;> omega
  have g3' : SqT K H3 h1 (us.take k) := by
    have e := cut_toG us k
    rw [← ek] at e
    rw [← e]
    exact g3
  have t3 := t2.trans s3
  have hu3 : All2 (IsC K H3) (us.take k) (hd.take k) := all2_take (hu.imp fun _ _ h => h.same t3) k
  have hsub : SubH (hd.take k) hd := subH_sub (List.take_sublist k hd) nd
  have hlk : (hd.take k).length = min k hd.length := List.length_take
  have hk1 : 1 ≤ k := by omega
  generalize ehk : hd.take k = hd1 at hu3 hsub hlk
  generalize us.take k = us1 at g3' hu3
  have lu1 := hu3.len
  have hc1 : ∀ c ∈ hd1, Nm c.1 ∧ KdOk c.2 := fun c h => hc c (hsub.1 c h)
  try dsimp only [gName]
  refine ⟨_, rfl, ?_⟩
  try dsimp only [tCB, tCons]
  refine comp_names g3' hu3 (by omega) cap_none2 (fun R r => ⟨_, rfl, r⟩) fun D4 H4 _ s4 g4 => ?_
  refine ⟨D4, _, rfl, SqL.of g4, fun t4 H5 _ s5 g5 => ?_⟩
  refine ⟨(by show 3 ≤ sizeLine; decide), fun qk H6 _ s6 g6 => ?_⟩
  have t6 := t3.trans (s4.trans (s5.trans s6))
  have t36 := s4.trans (s5.trans s6)
  have hQk : IsQ K H6 (.ref qk) (.keep q0 (hd1.map (·.1))) := .keep (SqT.of g6) (hq.same t6) (names_tupS (SqT.of (s6 _ _ g5)) (fun n hn' => by
    obtain ⟨c, hcm, rfl⟩ := List.mem_map.mp hn'
    exact (hc1 c hcm).1) (by rw [List.length_map]; omega) (by rw [List.length_map]; omega))
  have gF6 := (s3.trans t36) _ _ gF
  have hu6 : All2 (IsC K H6) us1 hd1 := hu3.imp fun _ _ h => h.same t36
  have g6' := t36.seqT g3'
  try dsimp only [gName, tSeq, tAsg]
  refine comp_anyI ((List.range hd1.length).map fun i : Nat => V.int (0 + (i : Int))) (ColRel K (List.zipWith (fun n c => (n, c.2)) (fr.take hd1.length) hd1)) ColRel.st ColRel.su [none, some (.ref F), some (.ref h1)] ?_ (small (by rw [List.length_map, List.length_range]; omega)) (fun R r => wi_rng1 hd1.length (fun R' r' => ⟨_, rfl, h1, _, rfl, .inr g6', by rw [← lu1] at r'; exact r'⟩) (by omega) R r) (fun i x ex H' R l sm r => ?_) rfl fun D7 H7 ys s7 g7 hly hR => ?_
  · refine ⟨rfl, fun i y v h1 h2 => ?_⟩
    match i, h1, h2 with
    | 0, _, h2 => cases h2
    | 1, h1, h2 => cases h1; cases h2; exact ⟨by decide +kernel, 5, rfl, rfl, by first | exact Or.inl rfl | exact Or.inr (Or.inl rfl) | exact Or.inr (Or.inr rfl)⟩
    | 2, h1, h2 => cases h1; cases h2; exact ⟨by decide +kernel, 1, rfl, rfl, by first | exact Or.inl rfl | exact Or.inr (Or.inl rfl) | exact Or.inr (Or.inr rfl)⟩
    | i + 3, h1, _ => cases h1
  · have hi : i < hd1.length := by
      have := (List.getElem?_eq_some_iff.mp ex).1
      rw [List.length_map, List.length_range] at this
      exact this
    have exx : x = .int (0 + (i : Int)) := by
      rw [List.getElem?_map, List.getElem?_range hi] at ex
      exact (Option.some.inj ex).symm
    subst exx
    obtain ⟨p', hp', hpc⟩ : ∃ p', us1[i]? = some (.ref p') ∧ SqT K H6 p' [.str (hd1[i]'hi).1, .str (hd1[i]'hi).2] := by
      have hi' : i < us1.length := by omega
      obtain ⟨c, hc', p', e1, e2⟩ := all2_at hu6 (List.getElem?_eq_getElem hi')
      rw [List.getElem?_eq_getElem hi] at hc'
      cases hc'
      exact ⟨p', by rw [List.getElem?_eq_getElem hi', e1], e2⟩
    have hif : i < fr.length := by omega
    have a1 : atI (fr.map V.str) (0 + (i : Int)) = some (.str (fr[i]'hif)) := by
      rw [Int.zero_add]
      exact atI_nat (by rw [List.getElem?_map, List.getElem?_eq_getElem hif]; rfl)
    have a2 : atI us1 (0 + (i : Int)) = some (.ref p') := by
      rw [Int.zero_add]
      exact atI_nat hp'
    refine ⟨_, rfl, _, rfl, F, _, _, _, rfl, rfl, SqL.of (sm _ _ gF6), a1, _, rfl, _, rfl, h1, _, _, _, rfl, rfl, sm.seqT g6', a2, p', _, 1, _, rfl, rfl, sm.seqT hpc, at1 _ _ _, (by show 2 ≤ sizeLine; decide), fun t H8 _ s8 g8 => r _ _ s8 ⟨(fr[i]'hif, (hd1[i]'hi).2), t, ?_, rfl, g8⟩⟩
    rw [List.getElem?_zipWith, List.getElem?_take, if_pos hi, List.getElem?_eq_getElem hif, List.getElem?_eq_getElem hi]
  rw [List.length_map, List.length_range] at hly
  have lft : (fr.take hd1.length).length = hd1.length := by rw [List.length_take]; omega
  have lzw : (List.zipWith (fun n c => (n, c.2)) (fr.take hd1.length) hd1).length = hd1.length := by rw [List.length_zipWith, lft, Nat.min_self]
  try dsimp only [gName]
  refine ⟨_, rfl, ?_⟩
  try dsimp only [tCB, tCons]
  refine ⟨_, rfl, _, rfl, h1, _, rfl, .inr (s7.seqT g6'), _, rfl, F, _, rfl, SqL.of (s7 _ _ gF6), fun p8 H8 _ s8 g8 => ?_⟩
  rw [lu1, cut_toG, ← List.map_take] at g8
  refine ⟨p8, _, rfl, SqL.of g8, fun t9 H9 _ s9 g9 => ?_⟩
  refine ⟨(by show 3 ≤ sizeLine; decide), fun qn H10 _ s10 g10 => ?_⟩
  refine ⟨_, rfl, D7, _, rfl, SqL.of ((s8.trans (s9.trans s10)) _ _ g7), fun t11 H11 _ s11 g11 => ?_⟩
  refine ⟨(by show 2 ≤ sizeLine; decide), fun p12 H12 _ s12 g12 => ?_⟩
  have t712 := s8.trans (s9.trans (s10.trans (s11.trans s12)))
  have hnt : ∀ n ∈ fr.take hd1.length, Nm n ∧ n ∉ ow.map (·.1) := fun n h => fnm n (List.mem_of_mem_take h)
  have ndt : (fr.take hd1.length).Nodup := fnd.sublist (List.take_sublist _ _)
  have hgk : Good hd1 := ⟨hsub.2.1, by omega, by omega⟩
  have hgn : Good (List.zipWith (fun n c => (n, c.2)) (fr.take hd1.length) hd1) := ⟨by rw [zw_names lft]; exact ndt, by omega, by omega⟩
  have hHQk : HQ hs (.keep q0 (hd1.map (·.1))) hd1 := by
    have h := HH.keep (hs := hs) (q := q0) (looks_of nd hsub.1)
    rw [zip_fst_snd] at h
    exact .mk1 rfl hHQ h hgk
  have hHQn : HQ hs (.nmd (.keep q0 (hd1.map (·.1))) (fr.take hd1.length)) (List.zipWith (fun n c => (n, c.2)) (fr.take hd1.length) hd1) := .mk1 rfl hHQk (.nmd lft) hgn
  refine q p12 H12 (.ref qn) (.ref t11) (.nmd (.keep q0 (hd1.map (·.1))) (fr.take hd1.length)) _ (t6.trans (s7.trans t712)) g12 ?_ ?_ hHQn ⟨hgn, fun x hx => ?_⟩ (fun x hx => ?_) rfl ?_
  · refine .nmd (SqT.of ((s11.trans s12) _ _ g10)) (hQk.same (s7.trans t712)) (names_tupS (SqT.of ((s10.trans (s11.trans s12)) _ _ g9)) (fun n h => (hnt n h).1) (by omega) (by omega))
  · exact cols_hd (SqT.of (s12 _ _ g11)) (by omega) fun i y e => (hR i y e).st t712
  · obtain ⟨h1', c, hcm, e⟩ := zw_mem hx
    exact ⟨(hnt _ h1').1, by rw [e]; exact (hc1 c hcm).2⟩
  · exact (hnt _ (zw_mem hx).1).2
  · rw [lzw]
    omega
end
end My
set_option Elab.async false
set_option linter.all false
set_option maxRecDepth 100000
namespace My
open PySem PySem.Spec PyProof.Rows L2
set_option maxHeartbeats 400000
section
variable {P : Program} {w : World} {K : PySem.W.Frag} {mg : Str → Option Value} {base : Heap}
def sp_ljoin (K : PySem.W.Frag) : Sp := fun vs H Q _ => ∃ (a N : Addr) (vq vh vo voh : V) (q qo : Qn) (hd ho : Hdr) (ns : List Str) (hs : Str → Option Hdr), vs = [.ref a, vq, vh, vo, voh, .ref N] ∧ StAt H a ∧ N ≠ a ∧ IsQ K H vq q ∧ IsHd K H vh hd ∧ HdOk hd ∧ HQ hs q hd ∧ IsQ K H vo qo ∧ IsHd K H voh ho ∧ HdOk ho ∧ HQ hs qo ho ∧ H N = some (.lst (ns.map V.str)) ∧ Nms17 ns ∧
  ∀ p H' v1 v2 q' hd', Fx a H H' → H' p = some (.tup [v1, v2]) → IsQ K H' v1 q' → IsHd K H' v2 hd' → HQ hs q' hd' → HdOk hd' → size q' ≤ size q + size qo + 3 → Q (.ref p) H'
def PairIn (hd ho : Hdr) (pr : Str × Str) : Prop := ∃ k, (pr.1, k) ∈ hd ∧ (pr.2, k) ∈ ho
theorem alli_pairs {H : Hp} {ho : Hdr} {c : Str × Str} {is : List Nat} {ys : List V} (hc : Nm c.1) (hn : ∀ x ∈ ho, Nm x.1) (h : AllI (fun i y => ∃ c' t, ho[i]? = some c' ∧ c'.2 = c.2 ∧ y = .ref t ∧ SqT K H t [.str c.1, .str c'.1]) is ys) : ∃ prs : List (Str × Str), All2 (IsPr K H) ys prs ∧ ∀ pr ∈ prs, pr.1 = c.1 ∧ (pr.2, c.2) ∈ ho := by
  induction h with
  | nil => exact ⟨[], .nil, fun pr h => by cases h⟩
  | @cons i y is ys r _ ih =>
    obtain ⟨c', t, h1, h2, h3, h4⟩ := r
    obtain ⟨prs, h5, h6⟩ := ih
    have hm := List.mem_of_getElem? h1
    refine ⟨(c.1, c'.1) :: prs, .cons ⟨t, h3, h4, hc, hn c' hm⟩ h5, fun pr hp => ?_⟩
    rcases List.mem_cons.mp hp with rfl | hp
    · exact ⟨rfl, by rw [← h2]; exact hm⟩
    · exact h6 pr hp
def leP (ho : Hdr) (d : Str) (i : Nat) : Bool := match ho[i]? with
  | some c => !decide (c.1 = d)
  | none => false
theorem filt_drop {ho : Hdr} (nd : (ho.map (·.1)).Nodup) {d k : Str} (h : (d, k) ∈ ho) : (ho.filter fun c => !decide (c.1 = d)).length + 1 = ho.length := by
  induction ho with
  | nil => cases h
  | cons c r ih =>
    rw [List.map_cons, List.nodup_cons] at nd
    rw [List.filter_cons, List.length_cons]
    rcases List.mem_cons.mp h with e | h
    · subst e
      have : r.filter (fun c => !decide (c.1 = d)) = r := List.filter_eq_self.mpr fun y hy => by
        rw [decide_eq_false (fun z => nd.1 (by rw [← z]; exact List.mem_map.mpr ⟨y, hy, rfl⟩))]
        rfl
      simp [this]
    · have ne : ¬ c.1 = d := fun z => nd.1 (by rw [z]; exact List.mem_map.mpr ⟨_, h, rfl⟩)
      have := ih nd.2 h
      rw [decide_eq_false ne]
      simp only [Bool.not_false, if_true, List.length_cons]
      omega
set_option maxHeartbeats 3200000 in
theorem ok__law_join (T : Txt w K mg) (G__law_next : Ok P w K mg base 1 "_law_next" ["_law_state", "_law_many"] sp_next) (G__law_fresh : Ok P w K mg base 1 "_law_fresh" ["_law_question_here", "_law_head_here", "_law_own", "_law_names_here"] (sp_fresh K)) :
    Ok P w K mg base 2 "_law_join" ["_law_state", "_law_question_here", "_law_head_here", "_law_other", "_law_other_head", "_law_names_here"] (sp_ljoin K) := by
  refine Ok.ofV T.d__law_join sc__law_join (fun vs H Q E h => ?_) (fun f cdv A outer s H vs Q E hr h => ?_)
  · obtain ⟨a, N, vq, vh, vo, voh, q, qo, hd, ho, ns, hs, rfl, _⟩ := h; rfl
  obtain ⟨a, N, vq, vh, vo, voh, q0, qo, hd, ho, ns, hs, rfl, hst, nNa, hq, hh, hok, hHQ, hqo, hho, hoko, hHQo, hN, hn, q⟩ := h
  have hu := hu_of hr
  refine ⟨_, (vss_cons (vs_asg (ve_fn (G__law_fresh.mono (by decide)) hr (by rfl) (va_c (vv 3) (va_c (vv 4) (va_c (vv 2) (va_c (vv 5) va_nil))))) (vg_tup rfl (vgs_cons (vg_name (i := 3) sc__law_join.nd rfl (by first | exact Or.inl rfl | exact Or.inr rfl)) (vgs_cons (vg_name (i := 4) sc__law_join.nd rfl (by first | exact Or.inl rfl | exact Or.inr rfl)) vgs_nil)))) (vss_cons (vs_set (i := 6) sc__law_join.nd rfl (by first | exact Or.inl rfl | exact Or.inr rfl) (ve_lstA va_nil)) (vss_cons (vs_for PassesOwn.never rfl (vi_tup (vv 2)) (vg_tup rfl (vgs_cons (vg_name (i := 7) sc__law_join.nd rfl (by first | exact Or.inl rfl | exact Or.inr rfl)) (vgs_cons (vg_name (i := 8) sc__law_join.nd rfl (by first | exact Or.inl rfl | exact Or.inr rfl)) vgs_nil))) (vss_one (vs_expr (ve_bm PySem.F.plainAttrs_list PySem.F.slot_list_extend PySem.F.type_list_extend mt_extendR (vv 6) (va_c (ve_comp (N := ["_law_d", "_law_sort", "_law_c", "_law_kind"]) ⟨by decide +kernel, rfl, by decide +kernel, by decide +kernel⟩ (hfr_of (defScope s__law_join) rfl (by decide +kernel)) rfl (vi_tup (vv 4)) (fun cl s' H' fp => ⟨(vg_tupK (K := K) (n := 2) rfl (vgs_cons (vg_name (i := 0) (show (["_law_d", "_law_sort", "_law_c", "_law_kind"] : List Str).Nodup from by decide +kernel) rfl (Or.inl rfl)) (vgs_cons (vg_name (i := 1) (show (["_law_d", "_law_sort", "_law_c", "_law_kind"] : List Str).Nodup from by decide +kernel) rfl (Or.inl rfl)) vgs_nil))), (vf_one (vt_cmpR op_eq (vv 3) (vv 1) (nomark _))), (ve_tupA (va_c (vv 2) (va_c (vv 0) va_nil)))⟩)) va_nil))))) (vss_cons (vs_if (vt_cmpR (op_eqN (Nat.lt_of_succ_lt hu)) (vv 6) (ve_lstA va_nil) (nomark _)) (vss_one (vs_ret (ve_tupA (va_c (vv 1) (va_c (vv 2) va_nil))))) vss_nil) (vss_cons (vs_set (i := 9) sc__law_join.nd rfl (by first | exact Or.inl rfl | exact Or.inr rfl) (ve_ix ix_list (vv 6) (ve_fn (G__law_next.mono (by decide)) hr (by rfl) (va_c (vv 0) (va_c (ve_callB call_len_seq (by rfl) T.n_len bf_len (va_c (vv 6) va_nil)) va_nil))) (fun _ _ => rfl))) (vss_cons (vs_set (i := 10) sc__law_join.nd rfl (by first | exact Or.inl rfl | exact Or.inr rfl) (ve_callTy call_tupleA (by rfl) T.n_tuple bt_tuple (va_c (ve_comp (N := ["_law_column", "_law_pair"]) ⟨by decide +kernel, rfl, by decide +kernel, by decide +kernel⟩ (hfr_of (defScope s__law_join) rfl (by decide +kernel)) rfl (vi_tup (vv 4)) (fun cl s' H' fp => ⟨(vg_name (i := 0) (show (["_law_column", "_law_pair"] : List Str).Nodup from by decide +kernel) rfl (Or.inl rfl)), (vf_one (vt_cmpR op_ne (ve_ix (ix_tupK (K := K)) (vv 0) ve_int (fun _ _ => rfl)) (ve_ix (ix_tupK (K := K)) (vv 1) ve_int (fun _ _ => rfl)) (nomark _))), (vv 0)⟩)) va_nil))) (vss_one (vs_ret (ve_tupA (va_c (ve_tupA (va_c ve_str (va_c (vv 1) (va_c (vv 3) (va_c (ve_tupA (va_c (vv 9) va_nil)) va_nil))))) (va_c (ve_op op_catA (vv 2) (vv 10)) va_nil))))))))))), ?_⟩
  obtain ⟨⟨nd, l1, l8⟩, hc⟩ := id hok
  refine ⟨_, rfl, _, rfl, _, rfl, _, rfl, vo, voh, vh, N, qo, ho, hd, ns, hs, rfl, hqo, hho, hoko, hHQo, hh, hok, hN, hn, fun r H1 v1 v2 q1 h1 s1 g1 hq1 hh1 hHQ1 hok1 hdis hsz hl9 => ?_⟩
  obtain ⟨⟨nd1, ll1, ll8⟩, hc1⟩ := id hok1
  refine ⟨r, _, rfl, SqT.of g1, rfl, _, _, rfl, _, _, rfl, rfl, ?_⟩
  refine ⟨(by show 0 ≤ sizeLine; decide), fun p H2 fp s2 g2 => ?_⟩
  have fp0 : H p = none := s1.free fp
  have npa : p ≠ a := hst.ne fp0
  have t2 := s1.trans s2
  obtain ⟨b, us, rfl, hb, hus⟩ := hh
  obtain ⟨o, zs, rfl, ho1, hzs⟩ := hh1
  have lus := hus.len
  have lzs := hzs.len
  refine ⟨_, rfl, b, rfl, ⟨_, t2.seqT hb⟩, for_tup (xs := us) (fun i σ H' => Same H1 H' ∧ ∃ (ws : List V) (prs : List (Str × Str)) (l7 l8 : Option V), H' p = some (.lst ws) ∧ All2 (IsPr K H') ws prs ∧ (∀ pr ∈ prs, PairIn hd h1 pr) ∧ ws.length ≤ 8 * i ∧ σ = [some (.ref a), some vq, some (.ref b), some v1, some (.ref o), some (.ref N), some (.ref p), l7, l8, none, none]) ⟨s2, [], [], _, _, g2, .nil, (fun pr h => by cases h), Nat.zero_le _, rfl⟩ (fun i σ H' _ ⟨e, _⟩ => e.seqT (s1.seqT hb)) ?_ ?_⟩
  · rintro i x σ H' hx ⟨sm, ws, prs, l7, l8', gp, hw, hpr, lw, rfl⟩
    obtain ⟨c, hcm, pc, rfl, hpc⟩ := all2_at hus hx
    have hcm' := List.mem_of_getElem? hcm
    refine ⟨pc, _, rfl, sm.seqT (s1.seqT hpc), rfl, _, _, rfl, _, _, rfl, rfl, ?_⟩
    refine ⟨_, rfl, .inl ⟨rfl, _, SqL.of gp⟩, ?_⟩
    try dsimp only [tCons]
    refine comp_ofT [none, none, some (.str c.1), some (.str c.2)] ?_ ⟨_, rfl, o, rfl, ⟨_, sm.seqT ho1⟩, compG Same (ev_same H') zs (kp h1 c.2) (fun i H y => ∃ c' t, h1[i]? = some c' ∧ c'.2 = c.2 ∧ y = .ref t ∧ SqT K H t [.str c.1, .str c'.1]) (fun _ e h => ?_) (fun _ _ e h => ?_) (fun i σ => ∃ c', h1[i]? = some c' ∧ At2 [none, none, some (.str c.1), some (.str c.2)] (.str c'.1) (.str c'.2) σ) (Ps2 [none, none, some (.str c.1), some (.str c.2)]) ⟨none, none, rfl⟩ (small (by omega)) _ (itt_go fun H'' s' => s'.seqT (sm.seqT ho1)) (itt_stop fun H'' s' => s'.seqT (sm.seqT ho1)) (fun i x σ' H'' Q' ex hps s' qq => ?_) (fun i x σ2 ex hA H'' R s' rr => ?_) (fun i x σ2 ex hA hp H'' R s' rr => ?_) fun D H3 ys s3 fD g3 hys => ?_⟩
    · refine ⟨rfl, fun i y v h1 h2 => ?_⟩
      match i, h1, h2 with
      | 0, _, h2 => cases h2
      | 1, _, h2 => cases h2
      | 2, h1, h2 => cases h1; cases h2; exact ⟨by decide +kernel, 7, rfl, rfl, by first | exact Or.inl rfl | exact Or.inr (Or.inl rfl) | exact Or.inr (Or.inr rfl)⟩
      | 3, h1, h2 => cases h1; cases h2; exact ⟨by decide +kernel, 8, rfl, rfl, by first | exact Or.inl rfl | exact Or.inr (Or.inl rfl) | exact Or.inr (Or.inr rfl)⟩
      | i + 4, h1, _ => cases h1
    · obtain ⟨c', t, e1, e2, e3, e4⟩ := h
      exact ⟨c', t, e1, e2, e3, e.seqT e4⟩
    · obtain ⟨c', t, e1, e2, e3, e4⟩ := h
      exact ⟨c', t, e1, e2, e3, e4.updL e⟩
    · obtain ⟨c', hc', p', rfl, hp'⟩ := all2_at hzs ex
      exact hg2 (s'.seqT (sm.seqT hp')) hps fun σ2 h1 h2 => qq σ2 h1 ⟨c', hc', h2⟩
    · obtain ⟨c', hc', rfl⟩ := hA
      refine ⟨_, rfl, _, rfl, rfl, _, rfl, ?_⟩
      have e : kp h1 c.2 i = decide (V.str c.2 = V.str c'.2) := by
        unfold kp
        rw [hc']
        exact decide_eq_decide.mpr ⟨fun z => by rw [show c'.2 = c.2 from z], fun z => (V.str.inj z).symm⟩
      rw [← e]
      exact rr H'' (Same.refl H'')
    · obtain ⟨c', hc', rfl⟩ := hA
      unfold kp at hp
      rw [hc'] at hp
      exact ⟨_, rfl, _, rfl, (by show 2 ≤ sizeLine; decide), fun t H4 _ s4 g4 => rr _ _ s4 ⟨c', t, hc', of_decide_eq_true hp, rfl, SqT.of g4⟩⟩
    have lys : ys.length ≤ 8 := by
      have := sel_len (kp h1 c.2) 0 (List.range zs.length)
      rw [List.length_range, hys.len] at this
      omega
    obtain ⟨pr2, hp2, hin2⟩ := alli_pairs (hc c hcm').1 (fun x hx => (hc1 x hx).1) hys
    have gp3 := s3 _ _ gp
    have hi8 : i < 8 := by
      have := (List.getElem?_eq_some_iff.mp hx).1
      omega
    have nDp : D ≠ p := (ne_of_none gp fD).symm
    refine ⟨p, D, _, _, rfl, rfl, gp3, g3, small (by omega), ?_⟩
    refine ⟨same_upd fp (sm.trans s3), ws ++ ys, prs ++ pr2, _, _, upd_same, ((hw.imp fun _ _ h => h.same s3).app hp2).imp (fun _ _ h => h.tk fun _ _ e => e.updL gp3), fun pr hp => ?_, by rw [List.length_append]; omega, rfl⟩
    rcases List.mem_append.mp hp with hp | hp
    · exact hpr pr hp
    · obtain ⟨e1, e2⟩ := hin2 pr hp
      exact ⟨c.2, by rw [e1]; exact hcm', e2⟩
  · rintro σ H3 ⟨sm, ws, prs, l7, l8', gp, hw, hpr, lw, rfl⟩
    have t3 := s1.trans sm
    have lw' := hw.len
    refine ⟨_, rfl, (by show 0 ≤ sizeLine; decide), fun e H4 _ s4 g4 => ⟨p, e, ws, rfl, rfl, SqL.of (s4 _ _ gp), SqL.of g4, _, rfl, ?_⟩⟩
    have t4 := t3.trans s4
    by_cases hws : ws = []
    · have ee : ws.isEmpty = true := by rw [hws]; rfl
      rw [ee]
      refine iteT ?_
      exact ⟨_, rfl, _, rfl, (by show 2 ≤ sizeLine; decide), fun p5 H5 _ s5 g5 => q p5 H5 _ _ q0 hd (.of hst (t4.trans s5)) g5 (hq.same (t4.trans s5)) ⟨b, us, rfl, (t4.trans s5).seqT hb, hus.imp fun _ _ h => h.same (t4.trans s5)⟩ hHQ hok (by omega)⟩
    · have lpos : 0 < ws.length := List.length_pos_iff.mpr hws
      have ee : ws.isEmpty = false := by cases ws with
        | nil => exact absurd rfl hws
        | cons _ _ => rfl
      rw [ee]
      refine iteF ?_
      have gp4 := s4 _ _ gp
      refine ⟨_, rfl, _, rfl, _, rfl, p, _, rfl, .inl (SqL.of gp4), a, _, rfl, hst.same t4, (by show (0 : Int) < (ws.length : Int); omega), fun d H5 f5 d0 d1 => ?_⟩
      have fx5 : Fx a H H5 := (Fx.of hst t4).trans f5
      obtain ⟨u, hat, hum⟩ := at_of (xs := ws) d0 d1
      obtain ⟨pr, hprm, pp, rfl, hpp, hp1, hp2⟩ := hw.mem hum
      obtain ⟨k, hk1, hk2⟩ := hpr pr hprm
      have tk15 : TK K H1 H5 := fun _ _ e => f5.seqT (hst.same t4) (s4.seqT (sm.seqT e))
      have tk5 : TK K H H5 := fx5.tk hst
      have hpp5 : SqT K H5 pp [.str pr.1, .str pr.2] := f5.seqT (hst.same t4) (s4.seqT hpp)
      refine ⟨p, _, _, _, rfl, rfl, SqL.of (f5.same _ _ npa gp4), hat, ?_⟩
      try dsimp only [gName, tSeq, tAsg, tCB, tCons]
      refine comp_sel zs (leP h1 pr.2) [none, some (.ref pp)] ?_ (small (by omega)) (fun R rr => wi_tup (tk15 _ _ ho1) (fun R' r' => ⟨_, rfl, r'⟩) R rr) (fun i x ex H' R l sm' rr => ?_) rfl fun D H6 s6 g6 => ?_
      · exact cap_at1 9 (by decide +kernel) rfl rfl (by first | exact Or.inl rfl | exact Or.inr (Or.inl rfl) | exact Or.inr (Or.inr rfl))
      · obtain ⟨c', hc', p', rfl, hp'⟩ := all2_at hzs ex
        refine ⟨_, rfl, p', _, 0, _, rfl, rfl, sm'.seqT (tk15 _ _ hp'), at0 _ _, _, rfl, pp, _, 1, _, rfl, rfl, sm'.seqT hpp5, at1 _ _ _, rfl, _, rfl, ?_⟩
        have e : leP h1 pr.2 i = !decide (V.str c'.1 = V.str pr.2) := by
          unfold leP
          rw [hc']
          exact congrArg not (decide_eq_decide.mpr ⟨fun z => congrArg V.str z, fun z => V.str.inj z⟩)
        rw [← e]
        exact rr H' (Same.refl H')
      refine ⟨D, _, rfl, SqL.of g6, fun t7 H7 _ s7 g7 => ?_⟩
      refine ⟨_, rfl, _, rfl, _, rfl, (by show 1 ≤ sizeLine; decide), fun t8 H8 _ s8 g8 => ?_⟩
      refine ⟨(by show 4 ≤ sizeLine; decide), fun qj H9 _ s9 g9 => ?_⟩
      have s79 := s8.trans s9
      have s59 := s6.trans (s7.trans s79)
      have tk9 : TK K H H9 := fun _ _ e => s59.seqT (tk5 _ _ e)
      have tk19 : TK K H1 H9 := fun _ _ e => s59.seqT (tk15 _ _ e)
      have es : sel (leP h1 pr.2) 0 h1 = h1.filter fun c => !decide (c.1 ∈ [pr].map (·.2)) := sel_filter fun i x ex => by
        unfold leP
        rw [Nat.zero_add, ex]
        simp
      have hl2 := all2_sel (p := leP h1 pr.2) hzs 0
      rw [es] at hl2
      have lsel := hl2.len
      have lfd := filt_drop nd1 hk2
      have lfe : (h1.filter fun c => !decide (c.1 ∈ [pr].map (·.2))).length + 1 = h1.length := by
        rw [← lfd]
        congr 2
        refine List.filter_congr fun x _ => ?_
        simp
      refine ⟨_, rfl, _, rfl, b, t7, _, _, rfl, rfl, tk9 _ _ hb, SqT.of (s79 _ _ g7), small (by omega), fun t10 H10 s10 g10 => ?_⟩
      refine ⟨(by show 2 ≤ sizeLine; decide), fun p11 H11 _ s11 g11 => ?_⟩
      have s911 := s10.trans s11
      have fx11 : Fx a H H11 := fx5.sm (s59.trans s911)
      have tk11 : TK K H H11 := fun _ _ e => s911.seqT (tk9 _ _ e)
      have tk111 : TK K H1 H11 := fun _ _ e => s911.seqT (tk19 _ _ e)
      have hgj : Good (hd ++ h1.filter fun c => !decide (c.1 ∈ [pr].map (·.2))) := by
        refine ⟨?_, by rw [List.length_append]; omega, by rw [List.length_append]; omega⟩
        rw [List.map_append, List.nodup_append]
        refine ⟨nd, nd1.sublist (List.filter_sublist.map _), fun x hx y hy e => ?_⟩
        subst e
        obtain ⟨c', hc', rfl⟩ := List.mem_map.mp hy
        exact hdis c' (List.mem_filter.mp hc').1 hx
      refine q p11 H11 _ _ (.join q0 q1 [pr]) (hd ++ h1.filter fun c => !decide (c.1 ∈ [pr].map (·.2))) fx11 g11 ?_ ?_ ?_ ⟨hgj, fun c' hc' => ?_⟩ ?_
      · refine .join (SqT.of (s911 _ _ g9)) (hq.tk tk11) (hq1.tk tk111) ⟨⟨t8, _, rfl, SqT.of ((s9.trans s911) _ _ g8), .cons ⟨pp, rfl, (s59.trans s911).seqT hpp5, hp1, hp2⟩ .nil⟩, Nat.le_refl _, by show 1 ≤ 3; decide⟩
      · exact ⟨t10, _, rfl, s11.seqT g10, (hus.imp fun _ _ h => h.tk tk11).app (hl2.imp fun _ _ h => h.tk tk111)⟩
      · exact .mk2 rfl hHQ hHQ1 (.join (ks := [k]) (.cons ⟨look_mem nd hk1, look_mem nd1 hk2⟩ .nil) (by simp) (by simp)) hgj
      · rcases List.mem_append.mp hc' with hc' | hc'
        · exact hc c' hc'
        · exact hc1 c' (List.mem_filter.mp hc').1
      · show size q0 + size q1 + 1 ≤ _
        omega
end
end My
set_option Elab.async false
set_option linter.all false
set_option maxRecDepth 100000
namespace My
open PySem PySem.Spec PyProof.Rows L2
set_option maxHeartbeats 400000
section
variable {P : Program} {w : World} {K : PySem.W.Frag} {mg : Str → Option Value} {base : Heap}
def sp_alike (K : PySem.W.Frag) : Sp := fun vs H Q _ => ∃ v1 v2 hd, vs = [v1, v2] ∧ IsHd K H v1 hd ∧ IsHd K H v2 hd ∧ hd.length ≤ 100 ∧ (∀ c ∈ hd, c.1.length ≤ 8 ∧ c.2.length ≤ 8) ∧ Q (.bl true) H
theorem ok__law_alike (T : Txt w K mg) : Ok P w K mg base 1 "_law_alike" ["_law_found", "_law_due"] (sp_alike K) := by
  refine Ok.ofV T.d__law_alike sc__law_alike (fun vs H Q E h => ?_) (fun f cdv A outer s H vs Q E hr h => ?_)
  · obtain ⟨v1, v2, hd, rfl, _⟩ := h; rfl
  obtain ⟨v1, v2, hd, rfl, ⟨a, us, rfl, ha, hu⟩, ⟨b, zs, rfl, hb, hz⟩, hl, h8, q⟩ := h
  have hU := hu_of hr
  refine ⟨_, (vss_cons (vs_if (VW.pt (vw_or (vt_not (vt_val (ve_callB call_isiT (by rfl) T.n_isinstance bf_isinstance (va_c (vv 0) (va_c (ve_bltn (v := .ty "tuple") (by rfl) T.n_tuple bt_tuple rfl) va_nil))))) (vw_or1 (vt_cmpR op_ne (ve_callB call_len_seq (by rfl) T.n_len bf_len (va_c (vv 0) va_nil)) (ve_callB call_len_seq (by rfl) T.n_len bf_len (va_c (vv 1) va_nil)) (nomark _))))) (vss_one (vs_ret ve_bl)) vss_nil) (vss_cons (vs_for PassesOwn.never rfl (vi_range1 (by rfl) T.n_range (va_c (ve_callB call_len_seq (by rfl) T.n_len bf_len (va_c (vv 1) va_nil)) va_nil)) (vg_name (i := 2) sc__law_alike.nd rfl (by first | exact Or.inl rfl | exact Or.inr rfl)) (vss_cons (vs_if (VW.pt (vw_or (vt_not (vt_val (ve_callB call_isiT (by rfl) T.n_isinstance bf_isinstance (va_c (ve_ix ix_tup (vv 0) (vv 2) (fun _ _ => rfl)) (va_c (ve_bltn (v := .ty "tuple") (by rfl) T.n_tuple bt_tuple rfl) va_nil))))) (vw_or (vt_cmpR op_ne (ve_callB call_len_seq (by rfl) T.n_len bf_len (va_c (ve_ix ix_tup (vv 0) (vv 2) (fun _ _ => rfl)) va_nil)) ve_int (nomark _)) (vw_or1 (vt_not (vt_val (ve_callB (call_isi.or call_isiR) (by rfl) T.n_isinstance bf_isinstance (va_c (ve_ix ix_tup (ve_ix ix_tup (vv 0) (vv 2) (fun _ _ => rfl)) ve_int (fun _ _ => rfl)) (va_c (ve_bltn (v := .ty "str") (by rfl) T.n_str bt_str rfl) va_nil))))))))) (vss_one (vs_ret ve_bl)) vss_nil) (vss_one (vs_if (VW.pt (vw_or (vt_not (vt_val (ve_callB (call_isi.or call_isiR) (by rfl) T.n_isinstance bf_isinstance (va_c (ve_ix ix_tup (ve_ix ix_tup (vv 0) (vv 2) (fun _ _ => rfl)) ve_int (fun _ _ => rfl)) (va_c (ve_bltn (v := .ty "str") (by rfl) T.n_str bt_str rfl) va_nil))))) (vw_or1 (vt_cmpR (op_neT (Nat.lt_of_succ_lt hU)) (ve_ix ix_tup (vv 0) (vv 2) (fun _ _ => rfl)) (ve_ix ix_tup (vv 1) (vv 2) (fun _ _ => rfl)) (nomark _))))) (vss_one (vs_ret ve_bl)) vss_nil)))) (vss_one (vs_ret ve_bl)))), ?_⟩
  have lu := hu.len
  have lz := hz.len
  refine ⟨_, rfl, _, _, rfl, .tup ha, _, rfl, iteF ?_⟩
  refine ⟨_, rfl, _, _, rfl, .inr ha, _, rfl, _, _, rfl, .inr hb, rfl, _, rfl, ?_⟩
  have e : (!decide (V.int (us.length : Nat) = V.int (zs.length : Nat))) = false := by rw [lu, lz]; simp
  rw [e]
  refine iteF ?_
  refine ⟨_, rfl, _, _, rfl, .inr hb, _, rfl, (by show -(2 ^ 62) ≤ ((zs.length : Nat) : Int); omega), (by show ((zs.length : Nat) : Int) < 2 ^ 62; omega), ?_⟩
  refine for_range (n := (((zs.length : Nat) : Int)).toNat) (fun i σ H' => H' = H ∧ ∃ l, σ = [some (.ref a), some (.ref b), l]) ⟨rfl, _, rfl⟩ ?_ ?_
  · rintro i σ H' hi ⟨rfl, l, rfl⟩
    have hi' : i < hd.length := by omega
    obtain ⟨p, hp, hpc⟩ : ∃ p, us[i]? = some (.ref p) ∧ SqT K H' p [.str (hd[i]'hi').1, .str (hd[i]'hi').2] := by
      obtain ⟨c, hc, p, e1, e2⟩ := all2_at hu (List.getElem?_eq_getElem (show i < us.length by omega))
      rw [List.getElem?_eq_getElem hi'] at hc
      cases hc
      exact ⟨p, by rw [List.getElem?_eq_getElem (show i < us.length by omega), e1], e2⟩
    obtain ⟨p2, hp2, hpc2⟩ : ∃ p, zs[i]? = some (.ref p) ∧ SqT K H' p [.str (hd[i]'hi').1, .str (hd[i]'hi').2] := by
      obtain ⟨c, hc, p, e1, e2⟩ := all2_at hz (List.getElem?_eq_getElem (show i < zs.length by omega))
      rw [List.getElem?_eq_getElem hi'] at hc
      cases hc
      exact ⟨p, by rw [List.getElem?_eq_getElem (show i < zs.length by omega), e1], e2⟩
    obtain ⟨n1, n2⟩ := h8 _ (List.getElem_mem hi')
    have A1 : atI us (0 + (i : Int)) = some (.ref p) := by rw [Int.zero_add]; exact atI_nat hp
    have A2 : atI zs (0 + (i : Int)) = some (.ref p2) := by rw [Int.zero_add]; exact atI_nat hp2
    refine ⟨_, rfl, _, rfl, a, _, _, _, rfl, rfl, ha, A1, _, _, rfl, .tup hpc, _, rfl, iteF ?_⟩
    refine ⟨_, rfl, _, rfl, a, _, _, _, rfl, rfl, ha, A1, p, _, rfl, .inr hpc, rfl, _, rfl, iteF ?_⟩
    refine ⟨_, rfl, _, rfl, a, _, _, _, rfl, rfl, ha, A1, p, _, 0, _, rfl, rfl, hpc, at0 _ _, isi_any (th_str n1) (.inr (.inr rfl)) ⟨_, rfl, iteF ?_⟩⟩
    refine ⟨_, rfl, _, rfl, a, _, _, _, rfl, rfl, ha, A1, p, _, 1, _, rfl, rfl, hpc, at1 _ _ _, isi_any (th_str n2) (.inr (.inr rfl)) ⟨_, rfl, iteF ?_⟩⟩
    refine ⟨_, rfl, _, rfl, a, _, _, _, rfl, rfl, ha, A1, _, rfl, _, rfl, b, _, _, _, rfl, rfl, hb, A2, p, p2, [(hd[i]'hi').1, (hd[i]'hi').2], rfl, rfl, hpc, hpc2, _, rfl, iteF ?_⟩
    exact ⟨rfl, _, rfl⟩
  · rintro σ H' ⟨rfl, l, rfl⟩
    exact q
end
end My
set_option Elab.async false
set_option linter.all false
set_option maxRecDepth 100000
namespace My
open PySem PySem.Spec PyProof.Rows L2
set_option maxHeartbeats 400000
section
variable {P : Program} {w : World} {K : PySem.W.Frag} {mg : Str → Option Value} {base : Heap}
def hdK (hd : Hdr) : List (Key × V) := hd.map fun c => ((Sum.inr c.1 : Key), V.str c.2)
theorem prs_hd {H : Hp} {us : List V} {hd : Hdr} (h : All2 (IsC K H) us hd) : PrsAt K H us (hdK hd) := by
  induction h with
  | nil => exact .nil
  | cons r _ ih =>
    obtain ⟨p, rfl, hp⟩ := r
    exact .cons ⟨p, rfl, hp⟩ ih
theorem hdK_nd {hd : Hdr} (h : (hd.map (·.1)).Nodup) : ((hdK hd).map (·.1)).Nodup := by
  unfold hdK
  rw [List.map_map]
  have e : ((fun x : Key × V => x.1) ∘ fun c : Str × Str => ((Sum.inr c.1 : Key), V.str c.2)) = (fun n : Str => (Sum.inr n : Key)) ∘ fun c : Str × Str => c.1 := rfl
  rw [e, ← List.map_map]
  exact List.pairwise_map.mpr (h.imp fun ne z => ne (Sum.inr.inj z))
theorem hdK_val (n : Str) : ∀ hd : Hdr, valV (hdK hd) (Sum.inr n) = (look hd n).map V.str
  | [] => rfl
  | c :: r => by
    show valV (((Sum.inr c.1 : Key), V.str c.2) :: hdK r) (Sum.inr n) = _
    unfold look
    rw [List.find?_cons]
    by_cases e : c.1 = n
    · rw [valV_pos (by rw [e]), decide_eq_true e]
      rfl
    · rw [valV_neg (by intro z; exact e (Sum.inr.inj z)), decide_eq_false e]
      exact hdK_val n r
theorem comp_namesL {X : Cx} {scope : Scope} {N : List Str} {tl : TE} {σ : L2.St} {H : Hp} {Q : VK} {b : Addr} {us : List V} {cs : Hdr} (hb : H b = some (.lst us)) (hu : All2 (IsC K H) us cs) (h8 : cs.length ≤ 100) (cap : Cap X scope N σ [none, none]) (hw : ∀ R : VK, R (.ref b) H → tl σ H R)
    (q : ∀ D H', H D = none → Same H H' → H' D = some (.lst ((cs.map (·.1)).map V.str)) → Q (.ref D) H') : tComp X scope N (iList K tl) (gTup K 2 (gCons (gName 0) (gCons (gName 1) gNil))) tYes (tVar 0) σ H Q := by
  have lu := hu.len
  refine comp_ofL [none, none] cap (hw _ ⟨b, rfl, ⟨_, SqL.of hb⟩, compG Same (ev_same H) us (fun _ => true) (fun i _ y => ∃ c, cs[i]? = some c ∧ y = .str c.1) (fun _ _ h => h) (fun _ _ _ h => h) (fun i σ => ∃ c, cs[i]? = some c ∧ At2 [none, none] (.str c.1) (.str c.2) σ) (Ps2 [none, none]) ⟨none, none, rfl⟩ (small (by omega)) _ (itlE_go fun H' s' => SqL.of (s' _ _ hb)) (itlE_stop fun H' s' => SqL.of (s' _ _ hb)) (fun i x σ' H' Q' ex hps s' qq => ?_) (fun i x σ2 ex hA H' R s' r => r _ (Same.refl _)) (fun i x σ2 ex hA _ H' R s' r => ?_) fun D H1 ys s1 fD g1 hys => ?_⟩)
  · obtain ⟨c, hc, p, rfl, hp⟩ := all2_at hu ex
    exact hg2 (s'.seqT hp) hps fun σ2 h1 h2 => qq σ2 h1 ⟨c, hc, h2⟩
  · obtain ⟨c, hc, rfl⟩ := hA
    exact ⟨_, rfl, r _ _ (Same.refl H') ⟨c, hc, rfl⟩⟩
  · rw [sel_true] at hys
    obtain ⟨l, hg⟩ := alli_range hys
    rw [ys_names (by omega) hg] at g1
    exact q D H1 fD s1 g1
def sp_lgroup (K : PySem.W.Frag) : Sp := fun vs H Q _ => ∃ (a N : Addr) (vq vh : V) (q : Qn) (hd : Hdr) (ns : List Str) (hs : Str → Option Hdr), vs = [.ref a, vq, vh, .ref N] ∧ StAt H a ∧ N ≠ a ∧ IsQ K H vq q ∧ IsHd K H vh hd ∧ HdOk hd ∧ HQ hs q hd ∧ H N = some (.lst (ns.map V.str)) ∧ Nms17 ns ∧
  ∀ p H' v1 v2 q' hd', Fx a H H' → H' p = some (.tup [v1, v2]) → IsQ K H' v1 q' → IsHd K H' v2 hd' → HQ hs q' hd' → HdOk hd' → size q' ≤ size q + 1 → Q (.ref p) H'
abbrev lmW : List V := [.str "least", .str "most"]
set_option maxHeartbeats 3200000 in
theorem ok__law_group (T : Txt w K mg) (G__law_some : Ok P w K mg base 2 "_law_some" ["_law_state", "_law_head_here", "_law_least"] (sp_some K)) (G__law_sums : Ok P w K mg base 2 "_law_sums" ["_law_state", "_law_head_here", "_law_fresh_here"] (sp_lsums K)) :
    Ok P w K mg base 3 "_law_group" ["_law_state", "_law_question_here", "_law_head_here", "_law_names_here"] (sp_lgroup K) := by
  refine Ok.ofV T.d__law_group sc__law_group (fun vs H Q E h => ?_) (fun f cdv A outer s H vs Q E hr h => ?_)
  · obtain ⟨a, N, vq, vh, q, hd, ns, hs, rfl, _⟩ := h; rfl
  obtain ⟨a, N, vq, vh, q0, hd, ns, hs, rfl, hst, nNa, hq, hh, hok, hHQ, hN, hn, q⟩ := h
  have hu := hu_of hr
  refine ⟨_, (vss_cons (vs_set (i := 4) sc__law_group.nd rfl (by first | exact Or.inl rfl | exact Or.inr rfl) (ve_slice sl_listA (ve_fn (G__law_some.mono (by decide)) hr (by rfl) (va_c (vv 0) (va_c (vv 2) (va_c ve_int va_nil)))) vo_none (vo_some ve_int))) (vss_cons (vs_set (i := 5) sc__law_group.nd rfl (by first | exact Or.inl rfl | exact Or.inr rfl) (ve_callTy call_tupleA (by rfl) T.n_tuple bt_tuple (va_c (ve_comp (N := ["_law_name", "_law_kind"]) ⟨by decide +kernel, rfl, by decide +kernel, by decide +kernel⟩ (hfr_none (by decide +kernel)) rfl (vi_list (vv 4)) (fun cl s' H' fp => ⟨(vg_tupK (K := K) (n := 2) rfl (vgs_cons (vg_name (i := 0) (show (["_law_name", "_law_kind"] : List Str).Nodup from by decide +kernel) rfl (Or.inl rfl)) (vgs_cons (vg_name (i := 1) (show (["_law_name", "_law_kind"] : List Str).Nodup from by decide +kernel) rfl (Or.inl rfl)) vgs_nil))), vf_nil, (vv 0)⟩)) va_nil))) (vss_cons (vs_setC (i0 := 6) sc__law_group.nd rfl (by first | exact Or.inl rfl | exact Or.inr rfl) (N := ["_law_name", "_law_some_here"]) ⟨by decide +kernel, rfl, by decide +kernel, by decide +kernel⟩ (hfr_of (defScope s__law_group) rfl (by decide +kernel)) rfl (vi_list (ve_slice sl_listA (vv 3) (vo_some ve_int) vo_none)) (fun cl s' H' fp => ⟨(vg_name (i := 0) (show (["_law_name", "_law_some_here"] : List Str).Nodup from by decide +kernel) rfl (Or.inl rfl)), (vf_one (vt_cmpR (op_notIn_seqK (K := K)) (vv 0) (vv 1) (by with_unfolding_all rfl))), (vv 0)⟩)) (vss_cons (vs_set (i := 7) sc__law_group.nd rfl (by first | exact Or.inl rfl | exact Or.inr rfl) (ve_fn (G__law_sums.mono (by decide)) hr (by rfl) (va_c (vv 0) (va_c (vv 2) (va_c (vv 6) va_nil))))) (vss_cons (vs_for PassesOwn.never rfl (vi_tup (vv 7)) (vg_tup rfl (vgs_cons (vg_name (i := 8) sc__law_group.nd rfl (by first | exact Or.inl rfl | exact Or.inr rfl)) (vgs_cons (vg_name (i := 9) sc__law_group.nd rfl (by first | exact Or.inl rfl | exact Or.inr rfl)) (vgs_cons (vg_name (i := 10) sc__law_group.nd rfl (by first | exact Or.inl rfl | exact Or.inr rfl)) vgs_nil)))) (vss_cons (vs_set (i := 11) sc__law_group.nd rfl (by first | exact Or.inl rfl | exact Or.inr rfl) ve_str) (vss_cons (vs_if (vt_cmpR op_in_seq (vv 8) (ve_tupA (va_c ve_str (va_c ve_str va_nil))) (by with_unfolding_all rfl)) (vss_one (vs_set (i := 11) sc__law_group.nd rfl (by first | exact Or.inl rfl | exact Or.inr rfl) (ve_dget hu (ve_callTy (call_dictP rfl) (by rfl) T.n_dict bt_dict (va_c (vv 2) va_nil)) (vv 9) (fun _ _ => rfl)))) vss_nil) (vss_one (vs_expr (ve_bm PySem.F.plainAttrs_list PySem.F.slot_list_append PySem.F.type_list_append mt_appendR (vv 4) (va_c (ve_tupA (va_c (vv 10) (va_c (vv 11) va_nil))) va_nil))))))) (vss_one (vs_ret (ve_tupA (va_c (ve_tupA (va_c ve_str (va_c (vv 1) (va_c (vv 5) (va_c (vv 7) va_nil))))) (va_c (ve_callTy call_tupleA (by rfl) T.n_tuple bt_tuple (va_c (vv 4) va_nil)) va_nil)))))))))), ?_⟩
  obtain ⟨⟨nd, l1, l8⟩, hc⟩ := id hok
  refine ⟨_, rfl, _, rfl, a, vh, hd, 0, rfl, hst, hh, ⟨nd, l1, l8⟩, by decide, fun D H1 us hd' f1 fD g1 hus hsub _ => ?_⟩
  refine ⟨_, rfl, D, _, rfl, SqL.of g1, fun p H2 fp s2 g2 => ?_⟩
  rw [show (6 : Int) = ((6 : Nat) : Int) from rfl, cut_toG] at g2
  have fx2 := f1.sm s2
  have hu2 : All2 (IsC K H2) (us.take 6) (hd'.take 6) := all2_take (hus.imp fun _ _ h => h.same s2) 6
  have hsub6 := hsub.take 6
  have fp0 : H p = none := f1.free fp
  have npa : p ≠ a := hst.ne fp0
  generalize us.take 6 = zs at g2 hu2
  have l6 : (hd'.take 6).length ≤ 6 := by rw [List.length_take]; omega
  generalize hd'.take 6 = hz at hu2 hsub6 l6
  have lz := hu2.len
  have hcz : ∀ c ∈ hz, Nm c.1 ∧ KdOk c.2 := fun c h => hc c (hsub6.1 c h)
  try dsimp only [gName, tSeq, tAsg, tCB, tCons]
  refine comp_namesL g2 hu2 (by omega) cap_none2 (fun R r => ⟨_, rfl, r⟩) fun D3 H3 fD3 s3 g3 => ?_
  refine ⟨D3, _, rfl, SqL.of g3, fun t4 H4 ft4 s4 g4 => ?_⟩
  have fx4 := (fx2.sm s3).sm s4
  have gp4 := (s3.trans s4) _ _ g2
  try dsimp only [gName, tSeq, tAsg]
  refine comp_fresh (K := K) (U := .ref t4) (used := hz.map (·.1)) hn ?_ (fun R r => ?_) (fun n l H' R s' r => ?_) fun F H5 fF s5 gF => ?_
  · exact cap_at1 5 (by decide +kernel) rfl rfl (by first | exact Or.inl rfl | exact Or.inr (Or.inl rfl) | exact Or.inr (Or.inr rfl))
  · refine ⟨_, rfl, _, rfl, N, _, rfl, SqL.of (fx4.same _ _ nNa hN), fun p' H' fp' s' g' => r p' H' fp' s' ?_⟩
    rw [g', show (3 : Int) = ((3 : Nat) : Int) from rfl, cut_fromG, List.map_drop]
  · refine ⟨_, rfl, _, rfl, t4, _, rfl, .inr (SqT.of (s' _ _ g4)), rfl, flat_map, _, rfl, ?_⟩
    rw [inV_map]
    exact r H' (Same.refl H')
  obtain ⟨fnd, fnm, flen, flen2⟩ := fresh_ok (used := hz.map (·.1)) hn
  rw [List.length_map] at flen
  generalize hfr : freshOf ns (hz.map (·.1)) = fr at gF fnd fnm flen flen2
  have fx5 := fx4.sm s5
  have nFa : F ≠ a := fx4.st.ne fF
  try dsimp only [gName]
  refine ⟨_, rfl, _, rfl, _, rfl, a, F, vh, hd, fr, rfl, fx5.st, hh.tk (fx5.tk hst), hok, gF, nFa, by omega, fun n h => (fnm n h).1, fun vsm H6 ss js f6 hsm hsj hnew hkj => ?_⟩
  obtain ⟨⟨sa, xs, rfl, hxs, hx2⟩, ls1, ls2⟩ := hsm
  have lxs := hx2.len
  have ljs := hsj.len
  have fx6 := fx5.trans f6
  have gp6 := f6.same _ _ npa (s5 _ _ gp4)
  obtain ⟨hb0, hus0, rfl, hhb, hhu⟩ := id hh
  have lhu := hhu.len
  refine ⟨_, rfl, sa, rfl, ⟨_, hxs⟩, for_tup (xs := xs) (fun i σ H' => (Fx a H H' ∧ TK K H6 H') ∧ ∃ (ws : List V) (l8 l9 l10 l11 : Option V), H' p = some (.lst (zs ++ ws)) ∧ ws.length = i ∧ All2 (IsC K H') ws (((ss.map Sm.new).zip js).take i) ∧ σ = [some (.ref a), some vq, some (.ref hb0), some (.ref N), some (.ref p), some (.ref t4), some (.ref F), some (.ref sa), l8, l9, l10, l11]) ⟨⟨fx6, fun _ _ e => e⟩, [], _, _, _, _, by rw [List.append_nil]; exact gp6, rfl, .nil, rfl⟩ (fun i σ H' _ ⟨e, _⟩ => e.2 _ _ hxs) ?_ ?_⟩
  · rintro i x σ H' hx ⟨⟨fl, tk6⟩, ws, l8', l9, l10, l11, gp, lws, hws, rfl⟩
    obtain ⟨sm, hsmi, hism⟩ := all2_at hx2 hx
    obtain ⟨j, hji, hjk, hjw⟩ := all2_at hsj hsmi
    have hi : i < ss.length := (List.getElem?_eq_some_iff.mp hsmi).1
    have hkd : KdOk j := hkj sm j (List.mem_of_getElem? (List.getElem?_zip_eq_some.mpr ⟨hsmi, hji⟩))
    obtain ⟨b, rfl, hnm, hcase⟩ := hism
    have hzi : ((ss.map Sm.new).zip js).take (i + 1) = ((ss.map Sm.new).zip js).take i ++ [(sm.new, j)] := by
      have e : ((ss.map Sm.new).zip js)[i]? = some (sm.new, j) := List.getElem?_zip_eq_some.mpr ⟨by rw [List.getElem?_map, hsmi]; rfl, hji⟩
      rw [List.take_add_one, e]
      rfl
    have key : ∀ Hc, Fx a H' Hc → ∀ tz Hy, Hc tz = none → Same Hc Hy → Hy tz = some (.tup [.str sm.new, .str j]) → Hy p = some (.lst (zs ++ ws)) ∧ (Fx a H (upd Hy p (.lst (zs ++ ws ++ [V.ref tz]))) ∧ TK K H6 (upd Hy p (.lst (zs ++ ws ++ [V.ref tz])))) ∧ (ws ++ [V.ref tz]).length = i + 1 ∧ All2 (IsC K (upd Hy p (.lst (zs ++ ws ++ [V.ref tz])))) (ws ++ [V.ref tz]) (((ss.map Sm.new).zip js).take (i + 1)) := by
      intro Hc fc tz Hy ftz sy gy
      have gpc := fc.same _ _ npa gp
      have gpy := sy _ _ gpc
      have ntp : tz ≠ p := (ne_of_none gpc ftz).symm
      refine ⟨gpy, ⟨((fl.trans fc).sm sy).upd fp0 npa, fun _ _ e => (sy.seqT (fc.seqT fl.st (tk6 _ _ e))).updL gpy⟩, by rw [List.length_append, lws]; rfl, ?_⟩
      · rw [hzi]
        exact (hws.imp fun _ _ h => (h.tk ((fc.sm sy).tk fl.st)).tk fun _ _ e => e.updL gpy).app (.cons ⟨tz, rfl, SqT.of (by rw [upd_ne ntp]; exact gy)⟩ .nil)
    have hkey : ∃ cv, SqT K H6 b [.str sm.wd, cv, .str sm.new] ∧ ((inV (.str sm.wd) lmW = true ∧ ∃ c, cv = .str c ∧ look hd c = some j) ∨ (inV (.str sm.wd) lmW = false ∧ j = "number")) := by
      rcases hcase with ⟨e, ec, hb⟩ | ⟨c, ec, hcn, hwd, hb⟩
      · refine ⟨_, by rw [e]; exact hb, .inr ⟨by rw [e]; decide +kernel, ?_⟩⟩
        unfold smK at hjk
        rw [ec] at hjk
        exact (Option.some.inj hjk).symm
      · have hlk : look hd c = some j := by
          unfold smK at hjk
          rw [ec] at hjk
          exact hjk
        refine ⟨_, hb, ?_⟩
        rcases hwd with e | e | e
        · refine .inr ⟨by rw [e]; decide +kernel, ?_⟩
          rcases hkd with z | z
          · exact z
          · exact absurd z (hjw e)
        · exact .inl ⟨by rw [e]; decide +kernel, c, rfl, hlk⟩
        · exact .inl ⟨by rw [e]; decide +kernel, c, rfl, hlk⟩
    obtain ⟨cv, hb, hcv⟩ := hkey
    refine ⟨b, _, rfl, tk6 _ _ hb, rfl, _, _, rfl, _, _, rfl, _, _, rfl, rfl, ?_⟩
    refine ⟨_, rfl, (by show 2 ≤ sizeLine; decide), fun tt Ht ftt st gt => ⟨tt, lmW, rfl, .inr (SqT.of gt), rfl, rfl, _, rfl, ?_⟩⟩
    have flt : Fx a H' Ht := .of fl.st st
    rcases hcv with ⟨ew, c, rfl, hlk⟩ | ⟨ew, rfl⟩
    · show if inV (.str sm.wd) lmW = true then _ else _
      rw [ew]
      refine iteT ?_
      have hhu' : All2 (IsC K Ht) hus0 hd := hhu.imp fun _ _ h => h.tk fun _ _ e => st.seqT (tk6 _ _ (fx6.tk hst _ _ e))
      refine ⟨_, rfl, hb0, _, _, rfl, st.seqT (tk6 _ _ (fx6.tk hst _ _ hhb)), prs_hd hhu', by omega, fun dd Hd fdd sd gd => ?_⟩
      rw [mergeK_nd (hdK_nd nd)] at gd
      refine ⟨_, rfl, dd, .str j, rfl, ?_, ?_⟩
      · have hg := DGet.k (k := (Sum.inr c : Key)) gd
        rw [hdK_val, hlk] at hg
        exact hg
      · have flc : Fx a H' Hd := flt.sm sd
        refine ⟨_, rfl, .inl ⟨rfl, _, SqL.of (flc.same _ _ npa gp)⟩, _, rfl, _, rfl, (by show 2 ≤ sizeLine; decide), fun tz Hy ftz sy gy => ?_⟩
        obtain ⟨k1, k2, k3, k4⟩ := key Hd flc tz Hy ftz sy gy
        exact ⟨p, _, _, rfl, rfl, k1, small1000 (by rw [List.length_append]; omega), k2, ws ++ [V.ref tz], _, _, _, _, by rw [← List.append_assoc]; exact upd_same, k3, k4, rfl⟩
    · show if inV (.str sm.wd) lmW = true then _ else _
      rw [ew]
      refine iteF ?_
      refine ⟨_, rfl, .inl ⟨rfl, _, SqL.of (flt.same _ _ npa gp)⟩, _, rfl, _, rfl, (by show 2 ≤ sizeLine; decide), fun tz Hy ftz sy gy => ?_⟩
      obtain ⟨k1, k2, k3, k4⟩ := key Ht flt tz Hy ftz sy gy
      exact ⟨p, _, _, rfl, rfl, k1, small1000 (by rw [List.length_append]; omega), k2, ws ++ [V.ref tz], _, _, _, _, by rw [← List.append_assoc]; exact upd_same, k3, k4, rfl⟩
  · rintro σ H' ⟨⟨fl, tk6⟩, ws, l8', l9, l10, l11, gp, lws, hws, rfl⟩
    have lzj : ((ss.map Sm.new).zip js).length = ss.length := by rw [List.length_zip, List.length_map]; omega
    rw [List.take_of_length_le (by omega)] at hws
    have hfst : ((ss.map Sm.new).zip js).map (·.1) = ss.map Sm.new := List.map_fst_zip (by rw [List.length_map]; omega)
    have hgd : Good (hz ++ (ss.map Sm.new).zip js) := by
      refine ⟨?_, by rw [List.length_append]; omega, by rw [List.length_append]; omega⟩
      rw [List.map_append, hfst, hnew, List.nodup_append]
      refine ⟨hsub6.2.1, fnd.sublist (List.take_sublist _ _), fun x hx y hy e => ?_⟩
      subst e
      exact (fnm x (List.mem_of_mem_take hy)).2 hx
    refine ⟨_, rfl, _, rfl, _, rfl, (by show 4 ≤ sizeLine; decide), fun qj H7 _ s7 g7 => ⟨_, rfl, p, _, rfl, SqL.of (s7 _ _ gp), fun t8 H8 _ s8 g8 => ⟨(by show 2 ≤ sizeLine; decide), fun p9 H9 _ s9 g9 => ?_⟩⟩⟩
    have t9 := s7.trans (s8.trans s9)
    have fx9 := fl.sm t9
    have tk9 : TK K H H9 := fx9.tk hst
    have tk69 : TK K H6 H9 := fun _ _ e => t9.seqT (tk6 _ _ e)
    have tk29 : TK K H2 H9 := fun _ _ e => tk69 _ _ (f6.seqT fx5.st (s5.seqT (s4.seqT (s3.seqT e))))
    have tk49 : TK K H4 H9 := fun _ _ e => tk69 _ _ (f6.seqT fx5.st (s5.seqT e))
    refine q p9 H9 _ _ (.group q0 (hz.map (·.1)) ss) (hz ++ (ss.map Sm.new).zip js) fx9 g9 ?_ ?_ ?_ ⟨hgd, fun c hcm => ?_⟩ (Nat.le_refl _)
    · refine .group (SqT.of ((s8.trans s9) _ _ g7)) (hq.tk tk9) (names_tupS (tk49 _ _ (SqT.of g4)) (fun n hn' => ?_) (Nat.zero_le _) (by rw [List.length_map]; omega)) ⟨⟨sa, xs, rfl, tk69 _ _ hxs, hx2.imp fun _ _ h => h.tk tk69⟩, Nat.zero_le _, by omega⟩
      obtain ⟨c, hcm, rfl⟩ := List.mem_map.mp hn'
      exact (hcz c hcm).1
    · exact ⟨t8, _, rfl, SqT.of (s9 _ _ g8), (hu2.imp fun _ _ h => h.tk tk29).app (hws.imp fun _ _ h => h.same t9)⟩
    · have h := HH.group (hs := hs) (q := q0) (looks_of nd hsub6.1) hsj
      rw [zip_fst_snd] at h
      exact .mk1 rfl hHQ h hgd
    · rcases List.mem_append.mp hcm with hcm | hcm
      · exact hcz c hcm
      · refine ⟨(fnm c.1 (List.mem_of_mem_take (l := fr) (i := ss.length) ?_)).1, ?_⟩
        · rw [← hnew, ← hfst]
          exact List.mem_map.mpr ⟨c, hcm, rfl⟩
        · rw [List.zip_map_left] at hcm
          obtain ⟨⟨s', j'⟩, hm, rfl⟩ := List.mem_map.mp hcm
          exact hkj s' j' hm
end
end My
set_option Elab.async false
set_option linter.all false
set_option maxRecDepth 100000
namespace My
open PySem PySem.Spec PyProof.Rows L2
set_option maxHeartbeats 400000
section
variable {P : Program} {w : World} {K : PySem.W.Frag} {mg : Str → Option Value} {base : Heap}
def sp_lmore (K : PySem.W.Frag) : Sp := fun vs H Q _ => ∃ (a N : Addr) (vq vh : V) (q : Qn) (hd : Hdr) (ns : List Str) (hs : Str → Option Hdr), vs = [.ref a, vq, vh, .ref N] ∧ StAt H a ∧ N ≠ a ∧ IsQ K H vq q ∧ IsHd K H vh hd ∧ HdOk hd ∧ HQ hs q hd ∧ H N = some (.lst (ns.map V.str)) ∧ Nms17 ns ∧
  ∀ p H' v1 v2 q' hd', Fx a H H' → H' p = some (.tup [v1, v2]) → IsQ K H' v1 q' → IsHd K H' v2 hd' → HQ hs q' hd' → HdOk hd' → size q' ≤ size q + 3 → Q (.ref p) H'
theorem at_last {α : Type} {xs : List α} {x : α} (h : xs[xs.length - 1]? = some x) : atI xs (-1) = some x := by
  have hl : xs.length - 1 < xs.length := (List.getElem?_eq_some_iff.mp h).1
  unfold atI ixN
  rw [if_neg (by decide), if_pos (by omega)]
  show xs[((-1 : Int) + (xs.length : Int)).toNat]? = some x
  rw [show ((-1 : Int) + (xs.length : Int)).toNat = xs.length - 1 by omega]
  exact h
def rot {α : Type} (k : Nat) (l : List α) : List α := l.drop k ++ l.take k
theorem rot_perm {α : Type} (k : Nat) (l : List α) : (rot k l).Perm l := List.perm_append_comm.trans (by rw [List.take_append_drop])
theorem rot_map {α β : Type} (f : α → β) (k : Nat) (l : List α) : (rot k l).map f = rot k (l.map f) := by
  unfold rot
  rw [List.map_append, List.map_drop, List.map_take]
theorem rot_len {α : Type} (k : Nat) (l : List α) : (rot k l).length = l.length := (rot_perm k l).length_eq
theorem all2_drop {α β : Type} {R : α → β → Prop} {as : List α} {bs : List β} (h : All2 R as bs) : ∀ n, All2 R (as.drop n) (bs.drop n) := by
  induction h with
  | nil => intro n; rw [List.drop_nil, List.drop_nil]; exact .nil
  | cons r t ih =>
    intro n
    cases n with
    | zero => exact .cons r t
    | succ n => exact ih n
theorem all2_rot {α β : Type} {R : α → β → Prop} {as : List α} {bs : List β} (h : All2 R as bs) (k : Nat) : All2 R (rot k as) (rot k bs) := (all2_drop h k).app (all2_take h k)
theorem rot_zip {α β : Type} (k : Nat) {as : List α} {bs : List β} (h : as.length = bs.length) : rot k (as.zip bs) = (rot k as).zip (rot k bs) := by
  unfold rot
  rw [List.zip_append (by rw [List.length_drop, List.length_drop, h])]
  rw [show as.zip bs = List.zipWith Prod.mk as bs from rfl, List.drop_zipWith, List.take_zipWith]
  rfl
theorem more_where {a b t1 t2 t4 q5 p6 : Addr} {vq : V} {q0 : Qn} {us : List V} {c0 : Str × Str} {hd1 : Hdr} {hs : Str → Option Hdr} {H H1 H2 H3 H4 H5 H6 : Hp} {Q : VK} (hst : StAt H a) (hq : IsQ K H vq q0) (hb : SqT K H b us) (hu : All2 (IsC K H) us (c0 :: hd1)) (hok : HdOk (c0 :: hd1)) (hHQ : HQ hs q0 (c0 :: hd1))
    (q : ∀ p H' v1 v2 q' hd', Fx a H H' → H' p = some (.tup [v1, v2]) → IsQ K H' v1 q' → IsHd K H' v2 hd' → HQ hs q' hd' → HdOk hd' → size q' ≤ size q0 + 3 → Q (.ref p) H')
    (f1 : Fx a H H1) (s2 : Same H1 H2) (g2 : H2 t1 = some (.tup [.str "column", .str c0.1])) (s3 : Same H2 H3) (g3 : H3 t2 = some (.tup [.str c0.1, .str "!", .ref t1])) (s4 : Same H3 H4) (g4 : H4 t4 = some (.tup [.ref t2, .ref t2, .ref t2]))
    (s5 : Same H4 H5) (g5 : H5 q5 = some (.tup [.str "where", vq, .ref t4])) (s6 : Same H5 H6) (g6 : H6 p6 = some (.tup [.ref q5, .ref b])) : Q (.ref p6) H6 := by
  obtain ⟨⟨nd, l1, l8⟩, hc⟩ := id hok
  obtain ⟨hn0, hk0⟩ := hc c0 (List.mem_cons_self ..)
  have lk0 : look (c0 :: hd1) c0.1 = some c0.2 := look_mem nd (List.mem_cons_self ..)
  have s16 := s2.trans (s3.trans (s4.trans (s5.trans s6)))
  have fx := f1.sm s16
  have tk : TK K H H6 := fx.tk hst
  have hT : IsT K H6 (.ref t2) ⟨c0.1, "!", .col c0.1⟩ := ⟨t2, .ref t1, rfl, SqT.of ((s4.trans (s5.trans s6)) _ _ g3), hn0, .inr (.inr (.inr rfl)), t1, rfl, SqT.of ((s3.trans (s4.trans (s5.trans s6))) _ _ g2), hn0⟩
  refine q p6 H6 _ _ (.whr q0 [⟨c0.1, "!", .col c0.1⟩, ⟨c0.1, "!", .col c0.1⟩, ⟨c0.1, "!", .col c0.1⟩]) (c0 :: hd1) fx g6 ?_ ?_ ?_ hok (Nat.le_refl _)
  · exact .whr (SqT.of (s6 _ _ g5)) (hq.tk tk) ⟨⟨t4, _, rfl, SqT.of ((s5.trans s6) _ _ g4), .cons hT (.cons hT (.cons hT .nil))⟩, by show 1 ≤ 3; decide, by show 3 ≤ 3; decide⟩
  · exact ⟨b, us, rfl, tk _ _ hb, hu.imp fun _ _ h => h.tk tk⟩
  · refine .mk1 rfl hHQ (.whr fun t ht => ?_) ⟨nd, l1, l8⟩
    have e : t = ⟨c0.1, "!", .col c0.1⟩ := by
      simp only [List.mem_cons, List.not_mem_nil, or_false, or_self] at ht
      exact ht
    rw [e]
    exact ⟨c0.2, lk0, lk0⟩
set_option maxHeartbeats 3200000 in
theorem ok__law_more (T : Txt w K mg) (G__law_next : Ok P w K mg base 1 "_law_next" ["_law_state", "_law_many"] sp_next) :
    Ok P w K mg base 2 "_law_more" ["_law_state", "_law_question_here", "_law_head_here", "_law_names_here"] (sp_lmore K) := by
  refine Ok.ofV T.d__law_more sc__law_more (fun vs H Q E h => ?_) (fun f cdv A outer s H vs Q E hr h => ?_)
  · obtain ⟨a, N, vq, vh, q, hd, ns, hs, rfl, _⟩ := h; rfl
  obtain ⟨a, N, vq, vh, q0, hd, ns, hs, rfl, hst, nNa, hq, ⟨b, us, rfl, hb, hu0⟩, hok, hHQ, hN, hn, q⟩ := h
  have hu := hu_of hr
  refine ⟨_, (vss_cons (vs_if (VW.pt (vw_and (vt_cmpR op_lt (ve_callB call_len_seq (by rfl) T.n_len bf_len (va_c (vv 2) va_nil)) ve_int (nomark _)) (vw_and1 (vt_cmpR op_eq (ve_fn (G__law_next.mono (by decide)) hr (by rfl) (va_c (vv 0) (va_c ve_int va_nil))) ve_int (nomark _))))) (vss_cons (vs_setC (i0 := 4) sc__law_more.nd rfl (by first | exact Or.inl rfl | exact Or.inr rfl) (N := ["_law_name", "_law_head_here"]) ⟨by decide +kernel, rfl, by decide +kernel, by decide +kernel⟩ (hfr_of (defScope s__law_more) rfl (by decide +kernel)) rfl (vi_list (ve_slice sl_listA (vv 3) (vo_some ve_int) vo_none)) (fun cl s' H' fp => ⟨(vg_name (i := 0) (show (["_law_name", "_law_head_here"] : List Str).Nodup from by decide +kernel) rfl (Or.inl rfl)), (vf_one (vt_dnotin hu (vv 0) (ve_callTy (call_dictPK (K := K) rfl) (by rfl) T.n_dict bt_dict (va_c (vv 1) va_nil)))), (vv 0)⟩)) (vss_cons (vs_set (i := 5) sc__law_more.nd rfl (by first | exact Or.inl rfl | exact Or.inr rfl) (ve_lstA (va_c (ve_tupA (va_c ve_str (va_c ve_non (va_c (ve_ix ix_list (vv 4) ve_int (fun _ _ => rfl)) va_nil)))) (va_c (ve_tupA (va_c ve_str (va_c (ve_ix ix_tup (ve_ix ix_tup (vv 2) ve_int (fun _ _ => rfl)) ve_int (fun _ _ => rfl)) (va_c (ve_ix ix_list (vv 4) ve_int (fun _ _ => rfl)) va_nil)))) (va_c (ve_tupA (va_c ve_str (va_c (ve_ix ix_tup (ve_ix ix_tup (vv 2) (ve_un un_neg ve_int) (fun _ _ => rfl)) ve_int (fun _ _ => rfl)) (va_c (ve_ix ix_list (vv 4) ve_int (fun _ _ => rfl)) va_nil)))) va_nil))))) (vss_cons (vs_set (i := 6) sc__law_more.nd rfl (by first | exact Or.inl rfl | exact Or.inr rfl) (ve_lstA (va_c (ve_tupA (va_c (ve_ix ix_list (vv 4) ve_int (fun _ _ => rfl)) (va_c ve_str va_nil))) (va_c (ve_tupA (va_c (ve_ix ix_list (vv 4) ve_int (fun _ _ => rfl)) (va_c (ve_ix ix_tup (ve_ix ix_tup (vv 2) ve_int (fun _ _ => rfl)) ve_int (fun _ _ => rfl)) va_nil))) (va_c (ve_tupA (va_c (ve_ix ix_list (vv 4) ve_int (fun _ _ => rfl)) (va_c (ve_ix ix_tup (ve_ix ix_tup (vv 2) (ve_un un_neg ve_int) (fun _ _ => rfl)) ve_int (fun _ _ => rfl)) va_nil))) va_nil))))) (vss_cons (vs_set (i := 7) sc__law_more.nd rfl (by first | exact Or.inl rfl | exact Or.inr rfl) (ve_fn (G__law_next.mono (by decide)) hr (by rfl) (va_c (vv 0) (va_c ve_int va_nil)))) (vss_cons (vs_set (i := 5) sc__law_more.nd rfl (by first | exact Or.inl rfl | exact Or.inr rfl) (ve_op op_catLA (ve_slice sl_listA (vv 5) (vo_some (vv 7)) vo_none) (ve_slice sl_listA (vv 5) vo_none (vo_some (vv 7))))) (vss_cons (vs_set (i := 6) sc__law_more.nd rfl (by first | exact Or.inl rfl | exact Or.inr rfl) (ve_op op_catLA (ve_slice sl_listA (vv 6) (vo_some (vv 7)) vo_none) (ve_slice sl_listA (vv 6) vo_none (vo_some (vv 7))))) (vss_one (vs_ret (ve_tupA (va_c (ve_tupA (va_c ve_str (va_c (vv 1) (va_c (ve_callTy call_tupleA (by rfl) T.n_tuple bt_tuple (va_c (ve_comp (N := ["_law_name", "_law_kind"]) ⟨by decide +kernel, rfl, by decide +kernel, by decide +kernel⟩ (hfr_none (by decide +kernel)) rfl (vi_tup (vv 2)) (fun cl s' H' fp => ⟨(vg_tupK (K := K) (n := 2) rfl (vgs_cons (vg_name (i := 0) (show (["_law_name", "_law_kind"] : List Str).Nodup from by decide +kernel) rfl (Or.inl rfl)) (vgs_cons (vg_name (i := 1) (show (["_law_name", "_law_kind"] : List Str).Nodup from by decide +kernel) rfl (Or.inl rfl)) vgs_nil))), vf_nil, (vv 0)⟩)) va_nil)) (va_c (ve_callTy call_tupleA (by rfl) T.n_tuple bt_tuple (va_c (vv 5) va_nil)) va_nil))))) (va_c (ve_op op_catA (vv 2) (ve_callTy call_tupleA (by rfl) T.n_tuple bt_tuple (va_c (vv 6) va_nil))) va_nil))))))))))) vss_nil) (vss_cons (vs_set (i := 8) sc__law_more.nd rfl (by first | exact Or.inl rfl | exact Or.inr rfl) (ve_tupA (va_c (ve_ix ix_tup (ve_ix ix_tup (vv 2) ve_int (fun _ _ => rfl)) ve_int (fun _ _ => rfl)) (va_c ve_str (va_c (ve_tupA (va_c ve_str (va_c (ve_ix ix_tup (ve_ix ix_tup (vv 2) ve_int (fun _ _ => rfl)) ve_int (fun _ _ => rfl)) va_nil))) va_nil))))) (vss_one (vs_ret (ve_tupA (va_c (ve_tupA (va_c ve_str (va_c (vv 1) (va_c (ve_tupA (va_c (vv 8) (va_c (vv 8) (va_c (vv 8) va_nil)))) va_nil)))) (va_c (vv 2) va_nil))))))), ?_⟩
  obtain ⟨⟨nd, l1, l8⟩, hc⟩ := id hok
  have lu := hu0.len
  refine ⟨_, rfl, b, _, rfl, .inr hb, _, _, rfl, rfl, _, rfl, ?_⟩
  obtain ⟨c0, hd1, rfl⟩ : ∃ c0 r, hd = c0 :: r := by
    cases hd with
    | nil => simp at l1
    | cons c r => exact ⟨c, r, rfl⟩
  obtain ⟨us1, p0, rfl, hp0, hu1⟩ : ∃ us1 p0, us = .ref p0 :: us1 ∧ SqT K H p0 [.str c0.1, .str c0.2] ∧ All2 (IsC K H) us1 hd1 := by
    cases hu0 with
    | cons r t => obtain ⟨p0, rfl, hp0⟩ := r; exact ⟨_, p0, rfl, hp0, t⟩
  obtain ⟨hn0, hk0⟩ := hc c0 (List.mem_cons_self ..)
  have lk0 : look (c0 :: hd1) c0.1 = some c0.2 := look_mem nd (List.mem_cons_self ..)
  refine ite2 (fun c => ?_) (fun c => ?_)
  · refine ⟨_, rfl, a, 2, rfl, hst, by decide, fun d H1 f1 d0 d1 => ⟨rfl, _, rfl, ?_⟩⟩
    refine ite2 (fun c2 => ?_) (fun c2 => ?_)
    · have lus : (V.ref p0 :: us1).length < 6 := by have := of_decide_eq_true c; omega
      rw [lu] at lus
      have hu0 : All2 (IsC K H) (V.ref p0 :: us1) (c0 :: hd1) := .cons ⟨p0, rfl, hp0⟩ hu1
      have lu' := hu0.len
      have tk1 : TK K H H1 := f1.tk hst
      try dsimp only [gName, tSeq, tAsg]
      refine comp_fresh (K := K) (U := .ref b) (used := (c0 :: hd1).map (·.1)) hn ?_ (fun R r => ?_) (fun n l H' R s' r => ?_) fun F H2 fF s2 gF => ?_
      · exact cap_at1 2 (by decide +kernel) rfl rfl (by first | exact Or.inl rfl | exact Or.inr (Or.inl rfl) | exact Or.inr (Or.inr rfl))
      · refine ⟨_, rfl, _, rfl, N, _, rfl, SqL.of (f1.same _ _ nNa hN), fun p' H' fp' s' g' => r p' H' fp' s' ?_⟩
        rw [g', show (3 : Int) = ((3 : Nat) : Int) from rfl, cut_fromG, List.map_drop]
      · refine ⟨_, rfl, _, rfl, b, _, _, rfl, s'.seqT (tk1 _ _ hb), prs_hd (hu0.imp fun _ _ h => (h.tk tk1).same s'), by rw [lu']; omega, fun dd Hd fdd sd gd => ?_⟩
        rw [mergeK_nd (hdK_nd nd)] at gd
        refine ⟨dd, _, rfl, DGet.k (k := (Sum.inr n : Key)) gd, _, rfl, ?_⟩
        rw [hdK_val]
        have e : (!((look (c0 :: hd1) n).map V.str).isSome) = !decide (n ∈ (c0 :: hd1).map (·.1)) := by
          congr 1
          rw [Option.isSome_map]
          unfold look
          rw [Option.isSome_map, Bool.eq_iff_iff, List.find?_isSome, decide_eq_true_eq]
          constructor
          · rintro ⟨x, hx, hx2⟩
            exact List.mem_map.mpr ⟨x, hx, of_decide_eq_true hx2⟩
          · intro h
            obtain ⟨x, hx, hx2⟩ := List.mem_map.mp h
            exact ⟨x, hx, decide_eq_true hx2⟩
        rw [e]
        exact r _ sd
      obtain ⟨fnd, fnm, flen, flen2⟩ := fresh_ok (used := (c0 :: hd1).map (·.1)) hn
      rw [List.length_map] at flen
      generalize hfr : freshOf ns ((c0 :: hd1).map (·.1)) = fr at gF fnd fnm flen flen2
      have fl3 : 3 ≤ fr.length := by rw [lu'] at lu; omega
      obtain ⟨n0, n1, n2, fr', rfl⟩ : ∃ n0 n1 n2 r, fr = n0 :: n1 :: n2 :: r := by
        match fr, fl3 with
        | n0 :: n1 :: n2 :: r, _ => exact ⟨n0, n1, n2, r, rfl⟩
        | [], h => exact absurd h (by decide)
        | [_], h => exact absurd h (by show ¬ 3 ≤ 1; decide)
        | [_, _], h => exact absurd h (by show ¬ 3 ≤ 2; decide)
      have fx2 := f1.sm s2
      have tk2 : TK K H H2 := fx2.tk hst
      obtain ⟨pl, cl, hpl, hcl, hpc⟩ : ∃ (pl : Addr) (cl : Str × Str), (V.ref p0 :: us1)[(V.ref p0 :: us1).length - 1]? = some (V.ref pl) ∧ cl ∈ c0 :: hd1 ∧ SqT K H pl [.str cl.1, .str cl.2] := by
        have hlt : (V.ref p0 :: us1).length - 1 < (V.ref p0 :: us1).length := by rw [List.length_cons]; omega
        obtain ⟨cl, e1, pl, e2, e3⟩ := all2_at hu0 (List.getElem?_eq_getElem hlt)
        exact ⟨pl, cl, by rw [List.getElem?_eq_getElem hlt, e2], List.mem_of_getElem? e1, e3⟩
      have alast := at_last hpl
      obtain ⟨hnl, hkl⟩ := hc cl hcl
      have lkl : look (c0 :: hd1) cl.1 = some cl.2 := look_mem nd hcl
      have A0 : ∀ r : List Str, atI ((n0 :: n1 :: n2 :: r).map V.str) 0 = some (.str n0) := fun r => at0 _ _
      have A1 : ∀ r : List Str, atI ((n0 :: n1 :: n2 :: r).map V.str) 1 = some (.str n1) := fun r => at1 _ _ _
      have A2 : ∀ r : List Str, atI ((n0 :: n1 :: n2 :: r).map V.str) 2 = some (.str n2) := fun r => at2 _ _ _ _
      try dsimp only [gName]
      refine ⟨_, rfl, F, _, 0, _, rfl, rfl, SqL.of gF, A0 _, (by show 3 ≤ sizeLine; decide), fun t1 H3 ft1 s3 g3 => ?_⟩
      refine ⟨_, rfl, b, _, 0, _, rfl, rfl, s3.seqT (tk2 _ _ hb), at0 _ _, p0, _, 0, _, rfl, rfl, s3.seqT (tk2 _ _ hp0), at0 _ _, _, rfl, F, _, 1, _, rfl, rfl, SqL.of (s3 _ _ gF), A1 _, (by show 3 ≤ sizeLine; decide), fun t2 H4 ft2 s4 g4 => ?_⟩
      have s34 := s3.trans s4
      refine ⟨_, rfl, _, rfl, b, _, _, _, rfl, rfl, s34.seqT (tk2 _ _ hb), alast, pl, _, 0, _, rfl, rfl, s34.seqT (tk2 _ _ hpc), at0 _ _, _, rfl, F, _, 2, _, rfl, rfl, SqL.of (s34 _ _ gF), A2 _, (by show 3 ≤ sizeLine; decide), fun t3 H5 ft3 s5 g5 => ⟨(by show 3 ≤ sizeLine; decide), fun L1 H6 fL1 s6 g6 => ?_⟩⟩
      have s26 := s34.trans (s5.trans s6)
      refine ⟨_, rfl, F, _, 0, _, rfl, rfl, SqL.of (s26 _ _ gF), A0 _, (by show 2 ≤ sizeLine; decide), fun v1 H7 fv1 s7 g7 => ?_⟩
      have s27 := s26.trans s7
      refine ⟨_, rfl, F, _, 1, _, rfl, rfl, SqL.of (s27 _ _ gF), A1 _, _, rfl, b, _, 0, _, rfl, rfl, s27.seqT (tk2 _ _ hb), at0 _ _, p0, _, 1, _, rfl, rfl, s27.seqT (tk2 _ _ hp0), at1 _ _ _, (by show 2 ≤ sizeLine; decide), fun v2 H8 fv2 s8 g8 => ?_⟩
      have s28 := s27.trans s8
      refine ⟨_, rfl, F, _, 2, _, rfl, rfl, SqL.of (s28 _ _ gF), A2 _, _, rfl, _, rfl, b, _, _, _, rfl, rfl, s28.seqT (tk2 _ _ hb), alast, pl, _, 1, _, rfl, rfl, s28.seqT (tk2 _ _ hpc), at1 _ _ _, (by show 2 ≤ sizeLine; decide), fun v3 H9 fv3 s9 g9 => ⟨(by show 3 ≤ sizeLine; decide), fun M1 H10 fM1 s10 g10 => ?_⟩⟩
      have s210 := s28.trans (s9.trans s10)
      have fx10 := fx2.sm s210
      refine ⟨_, rfl, a, 3, rfl, fx10.st, by decide, fun d2 H11 f11 e0 e1 => ?_⟩
      obtain ⟨k, rfl⟩ : ∃ k : Nat, d2 = k := ⟨d2.toNat, by omega⟩
      have fx11 := fx10.trans f11
      have nL1 : L1 ≠ a := (fx2.sm (s34.trans s5)).st.ne fL1
      have nM1 : M1 ≠ a := (fx2.sm (s28.trans s9)).st.ne fM1
      have g611 := f11.same _ _ nL1 ((s7.trans (s8.trans (s9.trans s10))) _ _ g6)
      have g1011 := f11.same _ _ nM1 g10
      refine ⟨_, rfl, _, rfl, _, rfl, L1, _, rfl, SqL.of g611, fun p12 H12 fp12 s12 g12 => ⟨_, rfl, _, rfl, _, rfl, L1, _, rfl, SqL.of (s12 _ _ g611), fun p13 H13 fp13 s13 g13 => ⟨p12, p13, _, _, rfl, rfl, s13 _ _ g12, g13, ?_, fun L2' H14 fL2 s14 g14 => ?_⟩⟩⟩
      · rw [cut_fromG, cut_toG, ← List.length_append]
        show (rot k _).length ≤ _
        rw [rot_len]
        show 3 ≤ sizeLine
        decide
      rw [cut_fromG, cut_toG] at g14
      have g14 : H14 L2' = some (.lst (rot k [.ref t1, .ref t2, .ref t3])) := g14
      have s1114 := s12.trans (s13.trans s14)
      refine ⟨_, rfl, _, rfl, _, rfl, M1, _, rfl, SqL.of (s1114 _ _ g1011), fun p15 H15 fp15 s15 g15 => ⟨_, rfl, _, rfl, _, rfl, M1, _, rfl, SqL.of ((s1114.trans s15) _ _ g1011), fun p16 H16 fp16 s16 g16 => ⟨p15, p16, _, _, rfl, rfl, s16 _ _ g15, g16, ?_, fun M2 H17 fM2 s17 g17 => ?_⟩⟩⟩
      · rw [cut_fromG, cut_toG, ← List.length_append]
        show (rot k _).length ≤ _
        rw [rot_len]
        show 3 ≤ sizeLine
        decide
      rw [cut_fromG, cut_toG] at g17
      have g17 : H17 M2 = some (.lst (rot k [.ref v1, .ref v2, .ref v3])) := g17
      have s1417 := s15.trans (s16.trans s17)
      have s1117 := s1114.trans s1417
      have fx17 := fx11.sm s1117
      have tk17 : TK K H H17 := fx17.tk hst
      have tk1017 : TK K H10 H17 := fun _ _ e => s1117.seqT (f11.seqT fx10.st e)
      refine ⟨_, rfl, ?_⟩
      try dsimp only [tCB, tCons]
      refine comp_names (tk17 _ _ hb) (hu0.imp fun _ _ h => h.tk tk17) (by omega) cap_none2 (fun R r => ⟨_, rfl, r⟩) fun D18 H18 _ s18 g18 => ?_
      refine ⟨D18, _, rfl, SqL.of g18, fun t19 H19 _ s19 g19 => ?_⟩
      refine ⟨_, rfl, L2', _, rfl, SqL.of ((s1417.trans (s18.trans s19)) _ _ g14), fun t20 H20 _ s20 g20 => ⟨(by show 4 ≤ sizeLine; decide), fun q21 H21 _ s21 g21 => ?_⟩⟩
      have s1721 := s18.trans (s19.trans (s20.trans s21))
      refine ⟨_, rfl, _, rfl, M2, _, rfl, SqL.of (s1721 _ _ g17), fun t22 H22 _ s22 g22 => ⟨b, t22, _, _, rfl, rfl, s22.seqT (s1721.seqT (tk17 _ _ hb)), SqT.of g22, ?_, fun r23 H23 s23 g23 => ⟨(by show 2 ≤ sizeLine; decide), fun p24 H24 _ s24 g24 => ?_⟩⟩⟩
      · rw [rot_len, lu']
        exact small (by have : (c0 :: hd1).length < 6 := lus; simp only [List.length_cons, List.length_nil] at this ⊢; omega)
      have s1724 := s1721.trans (s22.trans (s23.trans s24))
      have fx24 := fx17.sm s1724
      have tk24 : TK K H H24 := fx24.tk hst
      have tk1024 : TK K H10 H24 := fun _ _ e => s1724.seqT (tk1017 _ _ e)
      have s610 := s7.trans (s8.trans (s9.trans s10))
      have hm1 : IsSm K H24 (.ref t1) ⟨"count", none, n0⟩ := ⟨t1, rfl, (fnm n0 (by simp)).1, .inl ⟨rfl, rfl, tk1024 _ _ (SqT.of ((s4.trans (s5.trans (s6.trans s610))) _ _ g3))⟩⟩
      have hm2 : IsSm K H24 (.ref t2) ⟨"most", some c0.1, n1⟩ := ⟨t2, rfl, (fnm n1 (by simp)).1, .inr ⟨c0.1, rfl, hn0, .inr (.inr rfl), tk1024 _ _ (SqT.of ((s5.trans (s6.trans s610)) _ _ g4))⟩⟩
      have hm3 : IsSm K H24 (.ref t3) ⟨"least", some cl.1, n2⟩ := ⟨t3, rfl, (fnm n2 (by simp)).1, .inr ⟨cl.1, rfl, hnl, .inr (.inl rfl), tk1024 _ _ (SqT.of ((s6.trans s610) _ _ g5))⟩⟩
      have hSm : All2 (IsSm K H24) [.ref t1, .ref t2, .ref t3] [⟨"count", none, n0⟩, ⟨"most", some c0.1, n1⟩, ⟨"least", some cl.1, n2⟩] := .cons hm1 (.cons hm2 (.cons hm3 .nil))
      have hC : All2 (IsC K H24) [.ref v1, .ref v2, .ref v3] [(n0, "number"), (n1, c0.2), (n2, cl.2)] := .cons ⟨v1, rfl, tk1024 _ _ (SqT.of ((s8.trans (s9.trans s10)) _ _ g7))⟩ (.cons ⟨v2, rfl, tk1024 _ _ (SqT.of ((s9.trans s10) _ _ g8))⟩ (.cons ⟨v3, rfl, tk1024 _ _ (SqT.of (s10 _ _ g9))⟩ .nil))
      have hJ : SumsOk (c0 :: hd1) [⟨"count", none, n0⟩, ⟨"most", some c0.1, n1⟩, ⟨"least", some cl.1, n2⟩] [("number" : Str), c0.2, cl.2] :=
        .cons ⟨rfl, fun e => absurd (show ("count" : Str) = "sum" from e) (by decide +kernel)⟩ (.cons ⟨lk0, fun e => absurd (show ("most" : Str) = "sum" from e) (by decide +kernel)⟩ (.cons ⟨lkl, fun e => absurd (show ("least" : Str) = "sum" from e) (by decide +kernel)⟩ .nil))
      have hz : ((rot k [(⟨"count", none, n0⟩ : Sm), ⟨"most", some c0.1, n1⟩, ⟨"least", some cl.1, n2⟩]).map Sm.new).zip (rot k [("number" : Str), c0.2, cl.2]) = rot k [(n0, ("number" : Str)), (n1, c0.2), (n2, cl.2)] := by
        rw [rot_map]
        exact (rot_zip k (as := [n0, n1, n2]) (bs := [("number" : Str), c0.2, cl.2]) rfl).symm
      have hgd : Good ((c0 :: hd1) ++ rot k [(n0, ("number" : Str)), (n1, c0.2), (n2, cl.2)]) := by
        have l6 : (c0 :: hd1).length < 6 := lus
        refine ⟨?_, by rw [List.length_append, rot_len]; simp, by rw [List.length_append, rot_len]; simp only [List.length_cons, List.length_nil] at l6 ⊢; omega⟩
        rw [List.map_append, rot_map, List.nodup_append]
        have hn3 : [n0, n1, n2].Nodup := fnd.sublist (List.take_sublist 3 (n0 :: n1 :: n2 :: fr'))
        refine ⟨nd, ((rot_perm k _).nodup_iff).mpr hn3, fun x hx y hy e => ?_⟩
        subst e
        have hy3 : x ∈ [n0, n1, n2] := (rot_perm k _).mem_iff.mp hy
        exact (fnm x (List.mem_of_mem_take (i := 3) hy3)).2 hx
      refine q p24 H24 _ _ (.group q0 ((c0 :: hd1).map (·.1)) (rot k [⟨"count", none, n0⟩, ⟨"most", some c0.1, n1⟩, ⟨"least", some cl.1, n2⟩])) ((c0 :: hd1) ++ rot k [(n0, ("number" : Str)), (n1, c0.2), (n2, cl.2)]) fx24 g24 ?_ ?_ ?_ ⟨hgd, fun x hx => ?_⟩ (by show size q0 + 1 ≤ size q0 + 3; omega)
      · refine .group (SqT.of ((s22.trans (s23.trans s24)) _ _ g21)) (hq.tk tk24) (names_tupS (SqT.of ((s20.trans (s21.trans (s22.trans (s23.trans s24)))) _ _ g19)) (fun n hn' => ?_) (Nat.zero_le _) (by rw [List.length_map]; exact l8)) ⟨⟨t20, _, rfl, SqT.of ((s21.trans (s22.trans (s23.trans s24))) _ _ g20), all2_rot hSm k⟩, Nat.zero_le _, by rw [rot_len]; show 3 ≤ 4; decide⟩
        obtain ⟨x, hx, rfl⟩ := List.mem_map.mp hn'
        exact (hc x hx).1
      · exact ⟨r23, _, rfl, s24.seqT g23, (hu0.imp fun _ _ h => h.tk tk24).app (all2_rot hC k)⟩
      · have h := HH.group (hs := hs) (q := q0) (looks_of nd fun c h => h) (all2_rot hJ k)
        rw [zip_fst_snd, hz] at h
        exact .mk1 rfl hHQ h hgd
      · rcases List.mem_append.mp hx with hx | hx
        · exact hc x hx
        · have hx3 := (rot_perm k _).mem_iff.mp hx
          simp only [List.mem_cons, List.not_mem_nil, or_false] at hx3
          rcases hx3 with rfl | rfl | rfl
          · exact ⟨(fnm n0 (by simp)).1, .inl rfl⟩
          · exact ⟨(fnm n1 (by simp)).1, hk0⟩
          · exact ⟨(fnm n2 (by simp)).1, hkl⟩
    · have tk1 : TK K H H1 := f1.tk hst
      refine ⟨_, rfl, b, _, 0, _, rfl, rfl, tk1 _ _ hb, at0 _ _, p0, _, 0, _, rfl, rfl, tk1 _ _ hp0, at0 _ _, _, rfl, b, _, 0, _, rfl, rfl, tk1 _ _ hb, at0 _ _, p0, _, 0, _, rfl, rfl, tk1 _ _ hp0, at0 _ _, (by show 2 ≤ sizeLine; decide), fun t1 H2 _ s2 g2 => ⟨(by show 3 ≤ sizeLine; decide), fun t2 H3 _ s3 g3 => ?_⟩⟩
      refine ⟨_, rfl, _, rfl, _, rfl, _, rfl, (by show 3 ≤ sizeLine; decide), fun t4 H4 _ s4 g4 => ⟨(by show 3 ≤ sizeLine; decide), fun q5 H5 _ s5 g5 => ⟨_, rfl, (by show 2 ≤ sizeLine; decide), fun p6 H6 _ s6 g6 => ?_⟩⟩⟩
      exact more_where hst hq hb (.cons ⟨p0, rfl, hp0⟩ hu1) hok hHQ q f1 s2 g2 s3 g3 s4 g4 s5 g5 s6 g6
  · have tk1 : TK K H H := fun _ _ e => e
    refine ⟨_, rfl, b, _, 0, _, rfl, rfl, tk1 _ _ hb, at0 _ _, p0, _, 0, _, rfl, rfl, tk1 _ _ hp0, at0 _ _, _, rfl, b, _, 0, _, rfl, rfl, tk1 _ _ hb, at0 _ _, p0, _, 0, _, rfl, rfl, tk1 _ _ hp0, at0 _ _, (by show 2 ≤ sizeLine; decide), fun t1 H2 _ s2 g2 => ⟨(by show 3 ≤ sizeLine; decide), fun t2 H3 _ s3 g3 => ?_⟩⟩
    refine ⟨_, rfl, _, rfl, _, rfl, _, rfl, (by show 3 ≤ sizeLine; decide), fun t4 H4 _ s4 g4 => ⟨(by show 3 ≤ sizeLine; decide), fun q5 H5 _ s5 g5 => ⟨_, rfl, (by show 2 ≤ sizeLine; decide), fun p6 H6 _ s6 g6 => ?_⟩⟩⟩
    exact more_where hst hq hb (.cons ⟨p0, rfl, hp0⟩ hu1) hok hHQ q (.refl hst) s2 g2 s3 g3 s4 g4 s5 g5 s6 g6
end
end My
set_option Elab.async false
set_option linter.all false
set_option maxRecDepth 100000
namespace My
open PySem PySem.Spec PyProof.Rows L2
set_option maxHeartbeats 400000
section
variable {P : Program} {w : World} {K : PySem.W.Frag} {mg : Str → Option Value} {base : Heap}
def lookT (ts : List (Str × Hdr)) (n : Str) : Option Hdr := (ts.find? fun t => decide (t.1 = n)).map (·.2)
def DTab (K : PySem.W.Frag) (H : Hp) (d : Addr) (ts : List (Str × Hdr)) : Prop := ∃ kvs, H d = some (.dK kvs) ∧ All2 (fun (kv : Key × V) (t : Str × Hdr) => kv.1 = Sum.inr t.1 ∧ IsHd K H kv.2 t.2) kvs ts
structure TsOk (ts : List (Str × Hdr)) : Prop where
  nd : (ts.map (·.1)).Nodup
  nm : ∀ t ∈ ts, Nm t.1 ∧ HdOk t.2
  l1 : 1 ≤ ts.length
  l3 : ts.length ≤ 3
theorem DTab.fx {H H' : Hp} {a d : Addr} {ts : List (Str × Hdr)} (h : DTab K H d ts) (hs : StAt H a) (f : Fx a H H') : DTab K H' d ts := by
  obtain ⟨kvs, hd, h2⟩ := h
  obtain ⟨st, h1, _⟩ := id hs
  exact ⟨kvs, f.same d _ (ne_of hd h1 (by intro z; cases z)) hd, h2.imp fun _ _ q => ⟨q.1, q.2.tk (f.tk hs)⟩⟩
theorem dtab_keys {H : Hp} {kvs : List (Key × V)} {ts : List (Str × Hdr)} (h : All2 (fun (kv : Key × V) (t : Str × Hdr) => kv.1 = Sum.inr t.1 ∧ IsHd K H kv.2 t.2) kvs ts) : kvs.map (·.1) = (ts.map (·.1)).map fun n => (Sum.inr n : Key) := by
  induction h with
  | nil => rfl
  | cons r _ ih => rw [List.map_cons, List.map_cons, List.map_cons, ih, r.1]
theorem dtab_val {H : Hp} {kvs : List (Key × V)} {ts : List (Str × Hdr)} (h : All2 (fun (kv : Key × V) (t : Str × Hdr) => kv.1 = Sum.inr t.1 ∧ IsHd K H kv.2 t.2) kvs ts) (n : Str) (hd : Hdr) : lookT ts n = some hd → ∃ v, valV kvs (Sum.inr n) = some v ∧ IsHd K H v hd := by
  induction h with
  | nil => intro e; cases e
  | @cons kv t kvs ts r _ ih =>
    intro e
    unfold lookT at e
    rw [List.find?_cons] at e
    by_cases en : t.1 = n
    · rw [decide_eq_true en] at e
      have e : t.2 = hd := Option.some.inj e
      exact ⟨kv.2, valV_pos (by rw [r.1, en]), by rw [← e]; exact r.2⟩
    · rw [decide_eq_false en] at e
      rw [valV_neg (by rw [r.1]; intro z; exact en (Sum.inr.inj z))]
      exact ih e
theorem lookT_mem {ts : List (Str × Hdr)} (nd : (ts.map (·.1)).Nodup) {t : Str × Hdr} (h : t ∈ ts) : lookT ts t.1 = some t.2 := by
  induction ts with
  | nil => cases h
  | cons x r ih =>
    rw [List.map_cons, List.nodup_cons] at nd
    unfold lookT
    rw [List.find?_cons]
    rcases List.mem_cons.mp h with rfl | h
    · rw [decide_eq_true rfl]; rfl
    · rw [decide_eq_false (fun z => nd.1 (by rw [z]; exact List.mem_map.mpr ⟨t, h, rfl⟩))]
      exact ih nd.2 h
theorem DTab.heads {H : Hp} {d : Addr} {ts : List (Str × Hdr)} (h : DTab K H d ts) : HeadsAt K H d (lookT ts) := by
  obtain ⟨kvs, hd, h2⟩ := h
  exact ⟨kvs, hd, fun n hd' e => dtab_val h2 n hd' e⟩
def bnd : Nat → Nat
  | 0 => 1
  | 1 => 5
  | _ => 13
theorem bnd_pos : ∀ m, 1 ≤ bnd m
  | 0 => by decide
  | 1 => by decide
  | _ + 2 => by show 1 ≤ 13; decide
theorem bnd_step : ∀ {m}, m ≤ 1 → bnd m + 4 ≤ bnd (m + 1)
  | 0, _ => by decide
  | 1, _ => by decide
  | _ + 2, h => by omega
def sp_lq (K : PySem.W.Frag) (n : Nat) : Sp := fun vs H Q _ => ∃ (a d N : Addr) (m : Nat) (ts : List (Str × Hdr)) (ns : List Str), vs = [.ref a, .ref d, .ref N, .int (m : Nat)] ∧ m < n ∧ m ≤ 2 ∧ StAt H a ∧ N ≠ a ∧ DTab K H d ts ∧ TsOk ts ∧ H N = some (.lst (ns.map V.str)) ∧ Nms17 ns ∧
  ∀ p H' v1 v2 q' hd', Fx a H H' → H' p = some (.tup [v1, v2]) → IsQ K H' v1 q' → IsHd K H' v2 hd' → HQ (lookT ts) q' hd' → HdOk hd' → size q' ≤ bnd m → Q (.ref p) H'
def turned (ns : List Str) (t n : Nat) : List Str := (List.range n).map fun i => ns.getD (3 + (t + i) % 14) ""
theorem turned_ok {ns : List Str} (h : Nms17 ns) (t : Nat) {n : Nat} (hn : n ≤ 14) : (turned ns t n).Nodup ∧ ∀ x ∈ turned ns t n, Nm x := by
  have hg : ∀ i, ns.getD (3 + (t + i) % 14) "" ∈ ns ∧ ns[3 + (t + i) % 14]? = some (ns.getD (3 + (t + i) % 14) "") := fun i => by
    have hi : 3 + (t + i) % 14 < ns.length := by rw [h.1]; omega
    rw [List.getD_eq_getElem?_getD, List.getElem?_eq_getElem hi]
    exact ⟨List.getElem_mem hi, rfl⟩
  refine ⟨?_, fun x hx => ?_⟩
  · refine List.pairwise_map.mpr (List.Pairwise.imp_of_mem ?_ List.nodup_range)
    intro i j hi hj ne e
    have hi := List.mem_range.mp hi
    have hj := List.mem_range.mp hj
    have h1 := (hg i).2
    have h2 := (hg j).2
    rw [← e] at h2
    have := nd_get h.2.2 h1 h2
    omega
  · obtain ⟨i, _, rfl⟩ := List.mem_map.mp hx
    exact h.2.1 _ (hg i).1
theorem turned_at {ns : List Str} (h : Nms17 ns) {t n i : Nat} {x : Str} (e : (turned ns t n)[i]? = some x) : ns[3 + (t + i) % 14]? = some x := by
  have hi : i < n := by
    have := (List.getElem?_eq_some_iff.mp e).1
    simpa [turned] using this
  unfold turned at e
  rw [List.getElem?_map, List.getElem?_range hi] at e
  have e : ns.getD (3 + (t + i) % 14) "" = x := Option.some.inj e
  have hl : 3 + (t + i) % 14 < ns.length := by rw [h.1]; omega
  rw [List.getD_eq_getElem?_getD, List.getElem?_eq_getElem hl] at e
  rw [List.getElem?_eq_getElem hl]
  exact congrArg some e
theorem rng_at {n i : Nat} {x : V} (e : ((List.range n).map fun i : Nat => V.int (0 + (i : Int)))[i]? = some x) : i < n ∧ x = .int (0 + (i : Int)) := by
  have hi : i < n := by
    have := (List.getElem?_eq_some_iff.mp e).1
    rw [List.length_map, List.length_range] at this
    exact this
  rw [List.getElem?_map, List.getElem?_range hi] at e
  exact ⟨hi, (Option.some.inj e).symm⟩
set_option maxHeartbeats 6400000 in
theorem ok__law_question (T : Txt w K mg) (G__law_next : Ok P w K mg base 1 "_law_next" ["_law_state", "_law_many"] sp_next) (G__law_some : Ok P w K mg base 2 "_law_some" ["_law_state", "_law_head_here", "_law_least"] (sp_some K)) (G__law_keys : Ok P w K mg base 3 "_law_keys" ["_law_state", "_law_head_here"] (sp_lkeys K))
    (G__law_tests : Ok P w K mg base 4 "_law_tests" ["_law_state", "_law_head_here"] (sp_ltests K)) (G__law_group : Ok P w K mg base 3 "_law_group" ["_law_state", "_law_question_here", "_law_head_here", "_law_names_here"] (sp_lgroup K))
    (G__law_join : Ok P w K mg base 2 "_law_join" ["_law_state", "_law_question_here", "_law_head_here", "_law_other", "_law_other_head", "_law_names_here"] (sp_ljoin K)) :
    ∀ n : Nat, Ok P w K mg base (n + 6) "_law_question" ["_law_state", "_law_heads", "_law_names_here", "_law_deep"] (sp_lq K n)
  | 0 => by
    refine Ok.ofV T.d__law_question sc__law_question (fun vs H Q E h => ?_) (fun f cdv A outer s H vs Q E hr h => ?_)
    · obtain ⟨a, d, N, m, ts, ns, rfl, _⟩ := h; rfl
    · obtain ⟨a, d, N, m, ts, ns, rfl, hm, _⟩ := h
      omega
  | n + 1 => by
    have G__law_question := ok__law_question T G__law_next G__law_some G__law_keys G__law_tests G__law_group G__law_join n
    refine Ok.ofV T.d__law_question sc__law_question (fun vs H Q E h => ?_) (fun f cdv A outer s H vs Q E hr h => ?_)
    · obtain ⟨a, d, N, m, ts, ns, rfl, _⟩ := h; rfl
    obtain ⟨a, d, N, m, ts, ns, rfl, hmn, hm2, hst, nNa, hD, hts, hN, hn, q⟩ := h
    have hu := hu_of hr
    refine ⟨_, (vss_cons (vs_if (VW.pt (vw_or (vt_cmpR op_eq (vv 3) ve_int (nomark _)) (vw_or1 (vt_cmpR op_eq (ve_fn (G__law_next.mono (by omega)) hr (by rfl) (va_c (vv 0) (va_c ve_int va_nil))) ve_int (nomark _))))) (vss_cons (vs_set (i := 4) sc__law_question.nd rfl (by first | exact Or.inl rfl | exact Or.inr rfl) (ve_ix ix_list (ve_callB (call_sortD rfl) (by rfl) T.n_sorted bf_sorted (va_c (vv 1) va_nil)) (ve_fn (G__law_next.mono (by omega)) hr (by rfl) (va_c (vv 0) (va_c (ve_callB call_lenD (by rfl) T.n_len bf_len (va_c (vv 1) va_nil)) va_nil))) (fun _ _ => rfl))) (vss_one (vs_ret (ve_tupA (va_c (ve_tupA (va_c ve_str (va_c (vv 4) va_nil))) (va_c (ve_dget hu (vv 1) (vv 4) (fun _ _ => rfl)) va_nil)))))) vss_nil) (vss_cons (vs_set (i := 5) sc__law_question.nd rfl (by first | exact Or.inl rfl | exact Or.inr rfl) (ve_fn (G__law_next.mono (by omega)) hr (by rfl) (va_c (vv 0) (va_c ve_int va_nil)))) (vss_cons (vs_asg (ve_fn (G__law_question.mono (by omega)) hr (by rfl) (va_c (vv 0) (va_c (vv 1) (va_c (vv 2) (va_c (ve_op op_sub (vv 3) ve_int) va_nil))))) (vg_tup rfl (vgs_cons (vg_name (i := 6) sc__law_question.nd rfl (by first | exact Or.inl rfl | exact Or.inr rfl)) (vgs_cons (vg_name (i := 7) sc__law_question.nd rfl (by first | exact Or.inl rfl | exact Or.inr rfl)) vgs_nil)))) (vss_cons (vs_if (vt_cmpR op_eq (vv 5) ve_int (nomark _)) (vss_one (vs_ret (ve_tupA (va_c (ve_tupA (va_c ve_str (va_c (vv 6) (va_c (ve_fn (G__law_tests.mono (by omega)) hr (by rfl) (va_c (vv 0) (va_c (vv 7) va_nil))) va_nil)))) (va_c (vv 7) va_nil))))) vss_nil) (vss_cons (vs_if (vt_cmpR op_eq (vv 5) ve_int (nomark _)) (vss_cons (vs_set (i := 8) sc__law_question.nd rfl (by first | exact Or.inl rfl | exact Or.inr rfl) (ve_fn (G__law_some.mono (by omega)) hr (by rfl) (va_c (vv 0) (va_c (vv 7) (va_c ve_int va_nil))))) (vss_one (vs_ret (ve_tupA (va_c (ve_tupA (va_c ve_str (va_c (vv 6) (va_c (ve_callTy call_tupleA (by rfl) T.n_tuple bt_tuple (va_c (ve_comp (N := ["_law_name", "_law_kind"]) ⟨by decide +kernel, rfl, by decide +kernel, by decide +kernel⟩ (hfr_none (by decide +kernel)) rfl (vi_list (vv 8)) (fun cl s' H' fp => ⟨(vg_tupK (K := K) (n := 2) rfl (vgs_cons (vg_name (i := 0) (show (["_law_name", "_law_kind"] : List Str).Nodup from by decide +kernel) rfl (Or.inl rfl)) (vgs_cons (vg_name (i := 1) (show (["_law_name", "_law_kind"] : List Str).Nodup from by decide +kernel) rfl (Or.inl rfl)) vgs_nil))), vf_nil, (vv 0)⟩)) va_nil)) va_nil)))) (va_c (ve_callTy call_tupleA (by rfl) T.n_tuple bt_tuple (va_c (vv 8) va_nil)) va_nil)))))) vss_nil) (vss_cons (vs_if (vt_cmpR op_eq (vv 5) ve_int (nomark _)) (vss_cons (vs_set (i := 9) sc__law_question.nd rfl (by first | exact Or.inl rfl | exact Or.inr rfl) (ve_fn (G__law_next.mono (by omega)) hr (by rfl) (va_c (vv 0) (va_c ve_int va_nil)))) (vss_cons (vs_set (i := 10) sc__law_question.nd rfl (by first | exact Or.inl rfl | exact Or.inr rfl) (ve_comp (N := ["_law_k", "_law_names_here", "_law_turn"]) ⟨by decide +kernel, rfl, by decide +kernel, by decide +kernel⟩ (hfr_of (defScope s__law_question) rfl (by decide +kernel)) rfl (vi_range1 (by rfl) T.n_range (va_c (ve_callB call_len_seq (by rfl) T.n_len bf_len (va_c (vv 7) va_nil)) va_nil)) (fun cl s' H' fp => ⟨(vg_name (i := 0) (show (["_law_k", "_law_names_here", "_law_turn"] : List Str).Nodup from by decide +kernel) rfl (Or.inl rfl)), vf_nil, (ve_ix (ix_listK (K := K)) (vv 1) (ve_op op_add ve_int (ve_op op_mod (ve_op op_add (vv 2) (vv 0)) ve_int)) (fun _ _ => rfl))⟩))) (vss_cons (vs_setC (i0 := 11) sc__law_question.nd rfl (by first | exact Or.inl rfl | exact Or.inr rfl) (N := ["_law_k", "_law_fresh_here", "_law_head_here"]) ⟨by decide +kernel, rfl, by decide +kernel, by decide +kernel⟩ (hfr_of (defScope s__law_question) rfl (by decide +kernel)) rfl (vi_range1 (by rfl) T.n_range (va_c (ve_callB call_len_seq (by rfl) T.n_len bf_len (va_c (vv 7) va_nil)) va_nil)) (fun cl s' H' fp => ⟨(vg_name (i := 0) (show (["_law_k", "_law_fresh_here", "_law_head_here"] : List Str).Nodup from by decide +kernel) rfl (Or.inl rfl)), vf_nil, (ve_tupA (va_c (ve_ix (ix_listK (K := K)) (vv 1) (vv 0) (fun _ _ => rfl)) (va_c (ve_ix (ix_tupK (K := K)) (ve_ix (ix_tupK (K := K)) (vv 2) (vv 0) (fun _ _ => rfl)) ve_int (fun _ _ => rfl)) va_nil)))⟩)) (vss_one (vs_ret (ve_tupA (va_c (ve_tupA (va_c ve_str (va_c (vv 6) (va_c (ve_callTy call_tupleA (by rfl) T.n_tuple bt_tuple (va_c (vv 10) va_nil)) va_nil)))) (va_c (ve_callTy call_tupleA (by rfl) T.n_tuple bt_tuple (va_c (vv 11) va_nil)) va_nil)))))))) vss_nil) (vss_cons (vs_if (vt_cmpR op_eq (vv 5) ve_int (nomark _)) (vss_cons (vs_asg (ve_fn (G__law_question.mono (by omega)) hr (by rfl) (va_c (vv 0) (va_c (vv 1) (va_c (vv 2) (va_c (ve_callTy call_int1 (by rfl) T.n_int bt_int (va_c (ve_cmpR op_eq (vv 3) ve_int (nomark _)) va_nil)) va_nil))))) (vg_tup rfl (vgs_cons (vg_name (i := 12) sc__law_question.nd rfl (by first | exact Or.inl rfl | exact Or.inr rfl)) (vgs_cons (vg_name (i := 13) sc__law_question.nd rfl (by first | exact Or.inl rfl | exact Or.inr rfl)) vgs_nil)))) (vss_one (vs_ret (ve_fn (G__law_join.mono (by omega)) hr (by rfl) (va_c (vv 0) (va_c (vv 6) (va_c (vv 7) (va_c (vv 12) (va_c (vv 13) (va_c (vv 2) va_nil)))))))))) vss_nil) (vss_cons (vs_if (vt_cmpR op_eq (vv 5) ve_int (nomark _)) (vss_one (vs_ret (ve_fn (G__law_group.mono (by omega)) hr (by rfl) (va_c (vv 0) (va_c (vv 6) (va_c (vv 7) (va_c (vv 2) va_nil))))))) vss_nil) (vss_one (vs_ret (ve_tupA (va_c (ve_tupA (va_c ve_str (va_c (vv 6) (va_c (ve_fn (G__law_keys.mono (by omega)) hr (by rfl) (va_c (vv 0) (va_c (vv 7) va_nil))) (va_c (ve_fn (G__law_next.mono (by omega)) hr (by rfl) (va_c (vv 0) (va_c ve_int va_nil))) va_nil))))) (va_c (vv 7) va_nil))))))))))))), ?_⟩
    refine ⟨_, rfl, rfl, _, rfl, ?_⟩
    by_cases em : m = 0
    · have e : decide (V.int (m : Int) = V.int 0) = true := by rw [em]; rfl
      rw [e]
      refine iteT ?_
      have f1 : Fx a H H := .refl hst
      obtain ⟨kvs, hdk, hkv⟩ := hD.fx hst f1
      have lkv := hkv.len
      obtain ⟨tl1, tl3⟩ := And.intro hts.l1 hts.l3
      refine ⟨_, rfl, d, kvs, _, rfl, hdk, dtab_keys hkv, by omega, fun B H2 ss fB s2 hp g2 => ⟨_, rfl, _, rfl, d, kvs, rfl, s2 _ _ hdk, a, _, rfl, f1.st.same s2, (by show (0 : Int) < (kvs.length : Int); omega), fun k H3 f3 k0 k1 => ?_⟩⟩
      have lss := hp.length_eq
      rw [List.length_map] at lss
      obtain ⟨u, hat, hum⟩ := at_of (xs := ss.map V.str) k0 (by rw [List.length_map, lss, ← lkv]; exact k1)
      obtain ⟨nm, hnm, rfl⟩ := List.mem_map.mp hum
      obtain ⟨t, htm, rfl⟩ := List.mem_map.mp (hp.mem_iff.mp hnm)
      have nBa : B ≠ a := f1.st.ne fB
      refine ⟨B, _, _, _, rfl, rfl, SqL.of (f3.same _ _ nBa g2), hat, ?_⟩
      have fx3 := (f1.sm s2).trans f3
      obtain ⟨kvs3, hdk3, hkv3⟩ := hD.fx hst fx3
      obtain ⟨v, hv, hvh⟩ := dtab_val hkv3 t.1 t.2 (lookT_mem hts.nd htm)
      refine ⟨_, rfl, (by show 2 ≤ sizeLine; decide), fun t4 H4 _ s4 g4 => ⟨_, rfl, _, rfl, d, v, rfl, ?_, (by show 2 ≤ sizeLine; decide), fun p5 H5 _ s5 g5 => ?_⟩⟩
      · have hg := DGet.k (k := (Sum.inr t.1 : Key)) (s4 _ _ hdk3)
        rw [hv] at hg
        exact hg
      · exact q p5 H5 _ _ (.table t.1) t.2 (fx3.sm (s4.trans s5)) g5 (.table (SqT.of (s5 _ _ g4)) (hts.nm t htm).1) (hvh.same (s4.trans s5)) (.mk0 rfl (.table (lookT_mem hts.nd htm)) (hts.nm t htm).2.1) (hts.nm t htm).2 (bnd_pos m)
    have e : decide (V.int (m : Int) = V.int 0) = false := decide_eq_false (by intro z; have := V.int.inj z; omega)
    rw [e]
    refine iteF ?_
    refine ⟨_, rfl, a, 6, rfl, hst, by decide, fun d0 H1 f1 _ _ => ⟨rfl, _, rfl, ?_⟩⟩
    refine ite2 (fun _ => ?_) (fun _ => ?_)
    · obtain ⟨kvs, hdk, hkv⟩ := hD.fx hst f1
      have lkv := hkv.len
      obtain ⟨tl1, tl3⟩ := And.intro hts.l1 hts.l3
      refine ⟨_, rfl, d, kvs, _, rfl, hdk, dtab_keys hkv, by omega, fun B H2 ss fB s2 hp g2 => ⟨_, rfl, _, rfl, d, kvs, rfl, s2 _ _ hdk, a, _, rfl, f1.st.same s2, (by show (0 : Int) < (kvs.length : Int); omega), fun k H3 f3 k0 k1 => ?_⟩⟩
      have lss := hp.length_eq
      rw [List.length_map] at lss
      obtain ⟨u, hat, hum⟩ := at_of (xs := ss.map V.str) k0 (by rw [List.length_map, lss, ← lkv]; exact k1)
      obtain ⟨nm, hnm, rfl⟩ := List.mem_map.mp hum
      obtain ⟨t, htm, rfl⟩ := List.mem_map.mp (hp.mem_iff.mp hnm)
      have nBa : B ≠ a := f1.st.ne fB
      refine ⟨B, _, _, _, rfl, rfl, SqL.of (f3.same _ _ nBa g2), hat, ?_⟩
      have fx3 := (f1.sm s2).trans f3
      obtain ⟨kvs3, hdk3, hkv3⟩ := hD.fx hst fx3
      obtain ⟨v, hv, hvh⟩ := dtab_val hkv3 t.1 t.2 (lookT_mem hts.nd htm)
      refine ⟨_, rfl, (by show 2 ≤ sizeLine; decide), fun t4 H4 _ s4 g4 => ⟨_, rfl, _, rfl, d, v, rfl, ?_, (by show 2 ≤ sizeLine; decide), fun p5 H5 _ s5 g5 => ?_⟩⟩
      · have hg := DGet.k (k := (Sum.inr t.1 : Key)) (s4 _ _ hdk3)
        rw [hv] at hg
        exact hg
      · exact q p5 H5 _ _ (.table t.1) t.2 (fx3.sm (s4.trans s5)) g5 (.table (SqT.of (s5 _ _ g4)) (hts.nm t htm).1) (hvh.same (s4.trans s5)) (.mk0 rfl (.table (lookT_mem hts.nd htm)) (hts.nm t htm).2.1) (hts.nm t htm).2 (bnd_pos m)
    refine ⟨_, rfl, a, 6, rfl, f1.st, by decide, fun way H2 f2 w0 w1 => ?_⟩
    have fx2 := f1.trans f2
    obtain ⟨m', rfl⟩ : ∃ m', m = m' + 1 := ⟨m - 1, by omega⟩
    have em' : (((m' + 1 : Nat) : Int) - 1) = (m' : Nat) := by omega
    refine ⟨_, rfl, _, rfl, _, rfl, _, rfl, _, _, rfl, rfl, a, d, N, m', ts, ns, ?_, by omega, by omega, fx2.st, nNa, hD.fx hst fx2, hts, fx2.same _ _ nNa hN, hn, fun r H3 v1 v2 q1 h1 f3 g3 hq1 hh1 hHQ1 hok1 hz1 => ?_⟩
    · exact congrArg (fun z => [V.ref a, V.ref d, V.ref N, V.int z]) em'
    have fx3 := fx2.trans f3
    refine ⟨r, _, rfl, SqT.of g3, rfl, _, _, rfl, _, _, rfl, rfl, ?_⟩
    obtain ⟨⟨nd1, l1, l8⟩, hc1⟩ := id hok1
    have hm1 : m' ≤ 1 := by omega
    have hbn := bnd_step hm1
    refine ⟨_, rfl, rfl, _, rfl, ite2 (fun _ => ?_) (fun _ => ?_)⟩
    · refine ⟨_, rfl, _, rfl, _, rfl, a, v2, h1, rfl, fx3.st, hh1, hok1, fun vt H4 ts' f4 hts' htok => ⟨(by show 3 ≤ sizeLine; decide), fun t5 H5 _ s5 g5 => ⟨_, rfl, (by show 2 ≤ sizeLine; decide), fun p6 H6 _ s6 g6 => ?_⟩⟩⟩
      have s46 := s5.trans s6
      have tk36 : TK K H3 H6 := fun _ _ e => s46.seqT (f4.seqT fx3.st e)
      have tk46 : TK K H4 H6 := fun _ _ e => s46.seqT e
      refine q p6 H6 _ _ (.whr q1 ts') h1 ((fx3.trans f4).sm s46) g6 (.whr (SqT.of (s6 _ _ g5)) (hq1.tk tk36) ?_) (hh1.tk tk36) (.mk1 rfl hHQ1 (.whr htok) hok1.1) hok1 ?_
      · obtain ⟨x1, x2, x3⟩ := hts'.tk tk46 (fun h => h.tk tk46)
        exact ⟨x1, x2, by omega⟩
      · show size q1 + ts'.length ≤ _
        have := hts'.2.2
        omega
    refine ⟨_, rfl, rfl, _, rfl, ite2 (fun _ => ?_) (fun _ => ?_)⟩
    · refine ⟨_, rfl, _, rfl, a, v2, h1, 1, rfl, fx3.st, hh1, hok1.1, by decide, fun D H4 us hd' f4 fD g4 hus hsub hle => ?_⟩
      have lus := hus.len
      have hl8 := hsub.2.2
      refine ⟨_, rfl, ?_⟩
      try dsimp only [tCB, tCons]
      refine comp_namesL g4 hus (by omega) cap_none2 (fun R r => ⟨_, rfl, r⟩) fun D5 H5 _ s5 g5 => ⟨D5, _, rfl, SqL.of g5, fun t6 H6 _ s6 g6 => ⟨(by show 3 ≤ sizeLine; decide), fun q7 H7 _ s7 g7 => ⟨_, rfl, D, _, rfl, SqL.of ((s5.trans (s6.trans s7)) _ _ g4), fun t8 H8 _ s8 g8 => ⟨(by show 2 ≤ sizeLine; decide), fun p9 H9 _ s9 g9 => ?_⟩⟩⟩⟩
      have s49 := s5.trans (s6.trans (s7.trans (s8.trans s9)))
      have tk39 : TK K H3 H9 := fun _ _ e => s49.seqT (f4.seqT fx3.st e)
      have hgd : Good hd' := ⟨hsub.2.1, hle, by omega⟩
      have hcd : ∀ c ∈ hd', Nm c.1 ∧ KdOk c.2 := fun c h => hc1 c (hsub.1 c h)
      refine q p9 H9 _ _ (.keep q1 (hd'.map (·.1))) hd' ((fx3.trans f4).sm s49) g9 (.keep (SqT.of ((s8.trans s9) _ _ g7)) (hq1.tk tk39) (names_tupS (SqT.of ((s7.trans (s8.trans s9)) _ _ g6)) (fun n hn' => ?_) (by rw [List.length_map]; exact hle) (by rw [List.length_map]; omega))) ⟨t8, us, rfl, SqT.of (s9 _ _ g8), hus.imp fun _ _ h => h.same s49⟩ ?_ ⟨hgd, hcd⟩ (by show size q1 + 1 ≤ _; omega)
      · obtain ⟨c, hcm, rfl⟩ := List.mem_map.mp hn'
        exact (hcd c hcm).1
      · have h := HH.keep (hs := lookT ts) (q := q1) (looks_of nd1 hsub.1)
        rw [zip_fst_snd] at h
        exact .mk1 rfl hHQ1 h hgd
    refine ⟨_, rfl, rfl, _, rfl, ite2 (fun _ => ?_) (fun _ => ?_)⟩
    · refine ⟨_, rfl, a, 14, rfl, fx3.st, by decide, fun tz H4 f4 t0 t1 => ?_⟩
      obtain ⟨tn, rfl⟩ : ∃ tn : Nat, tz = tn := ⟨tz.toNat, by omega⟩
      have fx4 := fx3.trans f4
      obtain ⟨hb, us, rfl, hhb, hus⟩ := id hh1
      have lus := hus.len
      have tk34 : TK K H3 H4 := f4.tk fx3.st
      have hhb4 := tk34 _ _ hhb
      have lfr : (turned ns tn h1.length).length = h1.length := by simp [turned]
      obtain ⟨tnd, tnm⟩ := turned_ok hn tn (n := h1.length) (by omega)
      try dsimp only [gName, tSeq, tAsg]
      refine comp_ix ((List.range h1.length).map fun i : Nat => V.int (0 + (i : Int))) ((turned ns tn h1.length).map V.str) (by rw [List.length_map, List.length_map, List.length_range, lfr]) [none, some (.ref N), some (.int (tn : Nat))] ?_ (small (by rw [List.length_map, List.length_range]; omega)) (fun R r => wi_rng1 h1.length (fun R' r' => ⟨_, rfl, hb, _, rfl, .inr hhb4, by rw [← lus] at r'; exact r'⟩) (by omega) R r) (fun i x y ex ey H' R l sm r => ?_) rfl fun F H5 s5 g5 => ?_
      · refine ⟨rfl, fun i y v h1 h2 => ?_⟩
        match i, h1, h2 with
        | 0, _, h2 => cases h2
        | 1, h1, h2 => cases h1; cases h2; exact ⟨by decide +kernel, 2, rfl, rfl, by first | exact Or.inl rfl | exact Or.inr (Or.inl rfl) | exact Or.inr (Or.inr rfl)⟩
        | 2, h1, h2 => cases h1; cases h2; exact ⟨by decide +kernel, 9, rfl, rfl, by first | exact Or.inl rfl | exact Or.inr (Or.inl rfl) | exact Or.inr (Or.inr rfl)⟩
        | i + 3, h1, _ => cases h1
      · obtain ⟨hi, rfl⟩ := rng_at ex
        obtain ⟨fn, hfn, rfl⟩ := map_at ey
        have hfi : ns[3 + (tn + i) % 14]? = some fn := turned_at hn hfn
        refine ⟨_, rfl, _, rfl, _, rfl, _, _, rfl, rfl, _, _, rfl, rfl, (by show (0 : Int) < 14; decide), _, _, rfl, rfl, N, _, _, _, rfl, rfl, SqL.of (sm _ _ (fx4.same _ _ nNa hN)), ?_, r _ (Same.refl H')⟩
        have e : (3 + ((tn : Int) + (0 + (i : Int))) % 14) = ((3 + (tn + i) % 14 : Nat) : Int) := by omega
        rw [e]
        exact atI_nat (by rw [List.getElem?_map, hfi]; rfl)
      have hus5 : All2 (IsC K H5) us h1 := hus.imp fun _ _ h => (h.tk tk34).same s5
      have hhb5 := s5.seqT hhb4
      generalize hfrs : turned ns tn h1.length = fr at g5 lfr tnd tnm
      try dsimp only [gName, tSeq, tAsg]
      refine comp_anyI ((List.range h1.length).map fun i : Nat => V.int (0 + (i : Int))) (ColRel K (List.zipWith (fun n c => (n, c.2)) fr h1)) ColRel.st ColRel.su [none, some (.ref F), some (.ref hb)] ?_ (small (by rw [List.length_map, List.length_range]; omega)) (fun R r => wi_rng1 h1.length (fun R' r' => ⟨_, rfl, hb, _, rfl, .inr hhb5, by rw [← lus] at r'; exact r'⟩) (by omega) R r) (fun i x ex H' R l sm r => ?_) rfl fun D7 H7 ys s7 g7 hly hR => ?_
      · refine ⟨rfl, fun i y v h1 h2 => ?_⟩
        match i, h1, h2 with
        | 0, _, h2 => cases h2
        | 1, h1, h2 => cases h1; cases h2; exact ⟨by decide +kernel, 10, rfl, rfl, by first | exact Or.inl rfl | exact Or.inr (Or.inl rfl) | exact Or.inr (Or.inr rfl)⟩
        | 2, h1, h2 => cases h1; cases h2; exact ⟨by decide +kernel, 7, rfl, rfl, by first | exact Or.inl rfl | exact Or.inr (Or.inl rfl) | exact Or.inr (Or.inr rfl)⟩
        | i + 3, h1, _ => cases h1
      · obtain ⟨hi, rfl⟩ := rng_at ex
        obtain ⟨p', hp', hpc⟩ : ∃ p', us[i]? = some (.ref p') ∧ SqT K H5 p' [.str (h1[i]'hi).1, .str (h1[i]'hi).2] := by
          have hi' : i < us.length := by omega
          obtain ⟨c, hc', p', e1, e2⟩ := all2_at hus5 (List.getElem?_eq_getElem hi')
          rw [List.getElem?_eq_getElem hi] at hc'
          cases hc'
          exact ⟨p', by rw [List.getElem?_eq_getElem hi', e1], e2⟩
        have hif : i < fr.length := by omega
        have a1 : atI (fr.map V.str) (0 + (i : Int)) = some (.str (fr[i]'hif)) := by
          rw [Int.zero_add]
          exact atI_nat (by rw [List.getElem?_map, List.getElem?_eq_getElem hif]; rfl)
        have a2 : atI us (0 + (i : Int)) = some (.ref p') := by
          rw [Int.zero_add]
          exact atI_nat hp'
        refine ⟨_, rfl, _, rfl, F, _, _, _, rfl, rfl, SqL.of (sm _ _ g5), a1, _, rfl, _, rfl, hb, _, _, _, rfl, rfl, sm.seqT hhb5, a2, p', _, 1, _, rfl, rfl, sm.seqT hpc, at1 _ _ _, (by show 2 ≤ sizeLine; decide), fun t H8 _ s8 g8 => r _ _ s8 ⟨(fr[i]'hif, (h1[i]'hi).2), t, ?_, rfl, g8⟩⟩
        rw [List.getElem?_zipWith, List.getElem?_eq_getElem hif, List.getElem?_eq_getElem hi]
      rw [List.length_map, List.length_range] at hly
      have lzw : (List.zipWith (fun n c => (n, c.2)) fr h1).length = h1.length := by rw [List.length_zipWith, lfr, Nat.min_self]
      try dsimp only [gName]
      refine ⟨_, rfl, _, rfl, F, _, rfl, SqL.of (s7 _ _ g5), fun t8 H8 _ s8 g8 => ⟨(by show 3 ≤ sizeLine; decide), fun q9 H9 _ s9 g9 => ⟨_, rfl, D7, _, rfl, SqL.of ((s8.trans s9) _ _ g7), fun t10 H10 _ s10 g10 => ⟨(by show 2 ≤ sizeLine; decide), fun p11 H11 _ s11 g11 => ?_⟩⟩⟩⟩
      have s711 := s8.trans (s9.trans (s10.trans s11))
      have s411 := s5.trans (s7.trans s711)
      have tk311 : TK K H3 H11 := fun _ _ e => s411.seqT (tk34 _ _ e)
      have hgn : Good (List.zipWith (fun n c => (n, c.2)) fr h1) := ⟨by rw [zw_names lfr]; exact tnd, by omega, by omega⟩
      refine q p11 H11 (.ref q9) (.ref t10) (.nmd q1 fr) _ (fx4.sm s411) g11 (.nmd (SqT.of ((s10.trans s11) _ _ g9)) (hq1.tk tk311) (names_tupS (SqT.of ((s9.trans (s10.trans s11)) _ _ g8)) tnm (by omega) (by omega))) (cols_hd (SqT.of (s11 _ _ g10)) (by omega) fun i y e => (hR i y e).st s711) (.mk1 rfl hHQ1 (.nmd lfr) hgn) ⟨hgn, fun x hx => ?_⟩ (by show size q1 + 1 ≤ _; omega)
      obtain ⟨h1', c, hcm, e⟩ := zw_mem hx
      exact ⟨tnm _ h1', by rw [e]; exact (hc1 c hcm).2⟩
    refine ⟨_, rfl, rfl, _, rfl, ite2 (fun _ => ?_) (fun _ => ?_)⟩
    · obtain ⟨k, ek, hk1, hkb⟩ : ∃ k : Nat, (if decide (V.int ((m' + 1 : Nat) : Int) = V.int 2) = true then (1 : Int) else 0) = (k : Nat) ∧ k ≤ m' ∧ bnd m' + bnd k + 3 ≤ bnd (m' + 1) := by
        match m', hm1 with
        | 0, _ => exact ⟨0, by rw [decide_eq_false (by intro z; have := V.int.inj z; omega)]; rfl, Nat.le_refl _, by decide⟩
        | 1, _ => exact ⟨1, by rw [decide_eq_true (show V.int ((1 + 1 : Nat) : Int) = V.int 2 from rfl)]; rfl, Nat.le_refl _, by decide⟩
      refine ⟨_, rfl, _, rfl, _, rfl, _, rfl, rfl, .inr ⟨_, rfl, a, d, N, k, ts, ns, ?_, by omega, by omega, fx3.st, nNa, hD.fx hst fx3, hts, fx3.same _ _ nNa hN, hn, fun r2 H4 vo voh qo ho f4 g4 hqo hho hHQo hoko hzo => ?_⟩⟩
      · exact congrArg (fun z => [V.ref a, V.ref d, V.ref N, V.int z]) ek
      have fx4 := fx3.trans f4
      refine ⟨r2, _, rfl, SqT.of g4, rfl, _, _, rfl, _, _, rfl, rfl, ?_⟩
      have tk34 : TK K H3 H4 := f4.tk fx3.st
      refine ⟨_, rfl, _, rfl, _, rfl, _, rfl, _, rfl, _, rfl, a, N, v1, v2, vo, voh, q1, qo, h1, ho, ns, lookT ts, rfl, fx4.st, nNa, hq1.tk tk34, hh1.tk tk34, hok1, hHQ1, hqo, hho, hoko, hHQo, fx4.same _ _ nNa hN, hn, fun p H' w1 w2 q' hd' f' g' hq' hh' hHQ' hok' hz' => q p H' _ _ q' hd' (fx4.trans f') g' hq' hh' hHQ' hok' (by omega)⟩
    refine ⟨_, rfl, rfl, _, rfl, ite2 (fun _ => ?_) (fun _ => ?_)⟩
    · exact ⟨_, rfl, _, rfl, _, rfl, _, rfl, a, N, v1, v2, q1, h1, ns, lookT ts, rfl, fx3.st, nNa, hq1, hh1, hok1, hHQ1, fx3.same _ _ nNa hN, hn, fun p H' w1 w2 q' hd' f' g' hq' hh' hHQ' hok' hz' => q p H' _ _ q' hd' (fx3.trans f') g' hq' hh' hHQ' hok' (by omega)⟩
    · refine ⟨_, rfl, _, rfl, _, rfl, a, v2, h1, rfl, fx3.st, hh1, hok1, fun vk H4 ps ks f4 hps hlk hndp => ⟨_, rfl, a, 7, rfl, (fx3.trans f4).st, by decide, fun mm H5 f5 m0 m1 => ⟨(by show 4 ≤ sizeLine; decide), fun t6 H6 _ s6 g6 => ⟨_, rfl, (by show 2 ≤ sizeLine; decide), fun p7 H7 _ s7 g7 => ?_⟩⟩⟩⟩
      obtain ⟨mn, rfl⟩ : ∃ mn : Nat, mm = mn := ⟨mm.toNat, by omega⟩
      have f35 := f4.trans f5
      have s57 := s6.trans s7
      have tk37 : TK K H3 H7 := fun _ _ e => s57.seqT (f35.seqT fx3.st e)
      have tk47 : TK K H4 H7 := fun _ _ e => s57.seqT (f5.seqT (fx3.trans f4).st e)
      refine q p7 H7 _ _ (.first q1 ps mn) h1 ((fx3.trans f35).sm s57) g7 (.first (SqT.of (s7 _ _ g6)) (hq1.tk tk37) (hps.tk tk47 fun h => h.tk tk47) (by omega)) (hh1.tk tk37) (.mk1 rfl hHQ1 (.first hlk hndp) hok1.1) hok1 (by show size q1 + 1 ≤ _; omega)
end
end My
set_option Elab.async false
set_option linter.all false
set_option maxRecDepth 100000
namespace My
open PySem PySem.Spec PyProof.Rows L2
set_option maxHeartbeats 400000
section
variable {P : Program} {w : World} {K : PySem.W.Frag} {mg : Str → Option Value} {base : Heap}
def GotOk (K : PySem.W.Frag) (H : Hp) (ts : List (Str × Hdr)) (v : V) : Prop := ∃ (r : Addr) (v1 v2 : V) (q : Qn) (hd : Hdr), v = .ref r ∧ SqT K H r [v1, v2] ∧ IsQ K H v1 q ∧ IsHd K H v2 hd ∧ HQ (lookT ts) q hd ∧ HdOk hd ∧ size q ≤ 20
theorem GotOk.tk {H H' : Hp} {ts : List (Str × Hdr)} {v : V} (e : TK K H H') (h : GotOk K H ts v) : GotOk K H' ts v := by
  obtain ⟨r, v1, v2, q, hd, rfl, h1, h2, h3, h4, h5, h6⟩ := h
  exact ⟨r, v1, v2, q, hd, rfl, e _ _ h1, h2.tk e, h3.tk e, h4, h5, h6⟩
theorem bnd13 : ∀ m, bnd m ≤ 13
  | 0 => by decide
  | 1 => by decide
  | _ + 2 => Nat.le_refl _
set_option maxHeartbeats 6400000 in
theorem ok_law {f : Addr} {fd : FuncData} (F : Fun K "law" "law" s_law f fd) (T : Txt w K mg) (G__law_seed : Ok P w K mg base 1 "_law_seed" ["_law_script"] (sp_seed K)) (G__law_next : Ok P w K mg base 1 "_law_next" ["_law_state", "_law_many"] sp_next)
    (G__law_names : Ok P w K mg base 2 "_law_names" ["_law_state", "_law_many"] sp_lnm) (G__law_head : Ok P w K mg base 2 "_law_head" ["_law_state", "_law_names_here"] (sp_lhead K))
    (G__law_question : Ok P w K mg base 9 "_law_question" ["_law_state", "_law_heads", "_law_names_here", "_law_deep"] (sp_lq K 3)) (G__law_more : Ok P w K mg base 2 "_law_more" ["_law_state", "_law_question_here", "_law_head_here", "_law_names_here"] (sp_lmore K))
    (G__law_alike : Ok P w K mg base 1 "_law_alike" ["_law_found", "_law_due"] (sp_alike K)) (G_head_of : Ok P w K mg base 27 "head_of" ["heads", "question"] (sp_ho K)) :
    FnOk P w K mg base CX0 28 f fd ["_law_script"] (sp_law K) := by
  refine Fun.okV F sc_law (fun vs H Q E h => ?_) (fun cdv A outer s H vs Q E hr h => ?_)
  · obtain ⟨a, ns, rfl, _⟩ := h; rfl
  obtain ⟨sc, sn, rfl, hS, h63, q⟩ := h
  have hu := hu_of hr
  refine ⟨_, (vss_cons (vs_set (i := 1) sc_law.nd rfl (by first | exact Or.inl rfl | exact Or.inr rfl) (ve_lstA (va_c (ve_fn (G__law_seed.mono (by decide)) hr (by rfl) (va_c (vv 0) va_nil)) va_nil))) (vss_cons (vs_set (i := 2) sc_law.nd rfl (by first | exact Or.inl rfl | exact Or.inr rfl) (ve_fn (G__law_names.mono (by decide)) hr (by rfl) (va_c (vv 1) (va_c ve_int va_nil)))) (vss_cons (vs_set (i := 3) sc_law.nd rfl (by first | exact Or.inl rfl | exact Or.inr rfl) ve_dnewA) (vss_cons (vs_for PassesOwn.never rfl (vi_range1 (by rfl) T.n_range (va_c (ve_op op_add ve_int (ve_fn (G__law_next.mono (by decide)) hr (by rfl) (va_c (vv 1) (va_c ve_int va_nil)))) va_nil)) (vg_name (i := 4) sc_law.nd rfl (by first | exact Or.inl rfl | exact Or.inr rfl)) (vss_one (vs_dput hu (vv 3) (ve_ix ix_list (vv 2) (vv 4) (fun _ _ => rfl)) (ve_fn (G__law_head.mono (by decide)) hr (by rfl) (va_c (vv 1) (va_c (vv 2) va_nil)))))) (vss_cons (vs_set (i := 5) sc_law.nd rfl (by first | exact Or.inl rfl | exact Or.inr rfl) (ve_lstA va_nil)) (vss_cons (vs_for PassesOwn.never rfl (vi_range1 (by rfl) T.n_range (va_c ve_int va_nil)) (vg_name (i := 4) sc_law.nd rfl (by first | exact Or.inl rfl | exact Or.inr rfl)) (vss_cons (vs_asg (ve_fn (G__law_question.mono (by decide)) hr (by rfl) (va_c (vv 1) (va_c (vv 3) (va_c (vv 2) (va_c (ve_callB (call_min2 rfl) (by rfl) T.n_min bf_min (va_c (vv 4) (va_c ve_int va_nil))) va_nil))))) (vg_tup rfl (vgs_cons (vg_name (i := 6) sc_law.nd rfl (by first | exact Or.inl rfl | exact Or.inr rfl)) (vgs_cons (vg_name (i := 7) sc_law.nd rfl (by first | exact Or.inl rfl | exact Or.inr rfl)) vgs_nil)))) (vss_cons (vs_expr (ve_bm PySem.F.plainAttrs_list PySem.F.slot_list_append PySem.F.type_list_append mt_appendR (vv 5) (va_c (ve_tupA (va_c (vv 6) (va_c (vv 7) va_nil))) va_nil))) (vss_one (vs_expr (ve_bm PySem.F.plainAttrs_list PySem.F.slot_list_append PySem.F.type_list_append mt_appendR (vv 5) (va_c (ve_fn (G__law_more.mono (by decide)) hr (by rfl) (va_c (vv 1) (va_c (vv 6) (va_c (vv 7) (va_c (vv 2) va_nil))))) va_nil))))))) (vss_cons (vs_set (i := 8) sc_law.nd rfl (by first | exact Or.inl rfl | exact Or.inr rfl) (ve_callTy call_dictD (by rfl) T.n_dict bt_dict (va_c (vv 3) va_nil))) (vss_cons (vs_for PassesOwn.never rfl (vi_list (ve_op op_catLA (vv 5) (ve_rev (vv 5) (ve_un un_neg ve_int)))) (vg_tup rfl (vgs_cons (vg_name (i := 6) sc_law.nd rfl (by first | exact Or.inl rfl | exact Or.inr rfl)) (vgs_cons (vg_name (i := 7) sc_law.nd rfl (by first | exact Or.inl rfl | exact Or.inr rfl)) vgs_nil))) (vss_one (vs_if (VW.pt (vw_or (vt_not (vt_val (ve_fn (G__law_alike.mono (by decide)) hr (by rfl) (va_c (ve_fn (G_head_of.mono (by decide)) hr (by rfl) (va_c (vv 8) (va_c (vv 6) va_nil))) (va_c (vv 7) va_nil))))) (vw_or1 (vt_cmpR (op_neD (Nat.lt_of_succ_lt hu)) (vv 8) (vv 3) (nomark _))))) (vss_one (vs_ret ve_bl)) vss_nil))) (vss_one (vs_ret ve_bl)))))))))), ?_⟩
  refine ⟨_, rfl, sc, sn, rfl, hS, h63, fun c H1 s1 c0 c1 => ⟨(by show 1 ≤ sizeLine; decide), fun a H2 fa s2 g2 => ?_⟩⟩
  have hst : StAt H2 a := ⟨c, g2, c0, c1⟩
  refine ⟨_, rfl, a, rfl, hst, fun N H3 ns f3 fN g3 hn => ?_⟩
  have nNa : N ≠ a := hst.ne fN
  have hst3 := f3.st
  refine fun d H4 fd4 s4 g4 => ?_
  have nda : d ≠ a := hst3.ne fd4
  refine ⟨_, rfl, a, 2, rfl, hst3.same s4, by decide, fun z H5 f5 z0 z1 => ?_⟩
  have fx5 : Fx a H3 H5 := (Fx.of hst3 s4).trans f5
  refine ⟨_, _, rfl, rfl, _, rfl, (by show -(2 ^ 62) ≤ 2 + z; omega), (by show 2 + z < 2 ^ 62; omega), ?_⟩
  refine for_range (n := (2 + z).toNat) (fun i σ H' => Fx a H3 H' ∧ ∃ (kvs : List (Key × V)) (ts : List (Str × Hdr)) (l4 : Option V), H' d = some (.dK kvs) ∧ All2 (fun (kv : Key × V) (t : Str × Hdr) => kv.1 = Sum.inr t.1 ∧ IsHd K H' kv.2 t.2) kvs ts ∧ ts.map (·.1) = ns.take i ∧ (∀ t ∈ ts, HdOk t.2) ∧ σ = [some (.ref sc), some (.ref a), some (.ref N), some (.ref d), l4, none, none, none, none]) ⟨fx5, [], [], _, f5.same _ _ nda g4, .nil, rfl, (fun t h => by cases h), rfl⟩ ?_ ?_
  · rintro i σ H' hi ⟨fx, kvs, ts, l4, hdk, hkv, hnm, hok, rfl⟩
    have l17 := hn.1
    have hi3 : i < 3 := by omega
    have hin : i < ns.length := by omega
    have lkv := hkv.len
    have lts : ts.length = i := by
      have := congrArg List.length hnm
      rw [List.length_map, List.length_take] at this
      omega
    refine ⟨_, rfl, _, rfl, a, N, ns, rfl, fx.st, fx.same _ _ nNa g3, nNa, hn, fun v H6 hd f6 hh hok6 _ => ?_⟩
    have hdk6 := f6.same _ _ nda hdk
    refine ⟨_, rfl, _, rfl, _, rfl, N, _, _, _, rfl, rfl, SqL.of ((fx.trans f6).same _ _ nNa g3), (by rw [Int.zero_add]; exact atI_nat (by rw [List.getElem?_map, List.getElem?_eq_getElem hin]; rfl)), d, _, rfl, DPut.k (k := (Sum.inr ns[i] : Key)) hdk6 (small1000 (by omega)), ?_⟩
    have hnew : valV kvs (Sum.inr ns[i] : Key) = none := by
      cases e : valV kvs (Sum.inr ns[i] : Key) with
      | none => rfl
      | some v =>
        exfalso
        have hm := valV_in e
        rw [dtab_keys hkv, hnm] at hm
        obtain ⟨n', hn', e'⟩ := List.mem_map.mp hm
        have e' : n' = ns[i] := Sum.inr.inj e'
        obtain ⟨j, hj, ej⟩ := List.getElem_of_mem hn'
        rw [List.length_take] at hj
        rw [List.getElem_take] at ej
        have := nd_get hn.2.2 (List.getElem?_eq_getElem hin) (show ns[j]? = some ns[i] by rw [List.getElem?_eq_getElem (by omega), ej, e'])
        omega
    rw [putK_new v hnew]
    have tku : TK K H6 (upd H6 d (.dK (kvs ++ [((Sum.inr ns[i] : Key), v)]))) := fun _ _ e => e.updD hdk6
    refine ⟨(fx.trans f6).upd fd4 nda, _, ts ++ [(ns[i], hd)], _, upd_same, (hkv.imp fun _ _ h => ⟨h.1, (h.2.tk (f6.tk fx.st)).tk tku⟩).app (.cons ⟨rfl, hh.tk tku⟩ .nil), ?_, fun t ht => ?_, rfl⟩
    · rw [List.map_append, hnm, List.take_add_one, List.getElem?_eq_getElem hin]
      rfl
    · rcases List.mem_append.mp ht with ht | ht
      · exact hok t ht
      · rw [List.mem_singleton.mp ht]
        exact hok6
  rintro σ H6 ⟨fx6, kvs, ts, l4, hdk, hkv, hnm, hok, rfl⟩
  have l17 := hn.1
  have lts : ts.length = (2 + z).toNat := by
    have := congrArg List.length hnm
    rw [List.length_map, List.length_take] at this
    omega
  have hts : TsOk ts := ⟨by rw [hnm]; exact hn.2.2.sublist (List.take_sublist _ _), fun t ht => ⟨hn.2.1 _ (List.mem_of_mem_take (i := (2 + z).toNat) (by rw [← hnm]; exact List.mem_map.mpr ⟨t, ht, rfl⟩)), hok t ht⟩, by omega, by omega⟩
  have hD6 : DTab K H6 d ts := ⟨kvs, hdk, hkv⟩
  have gN6 := fx6.same _ _ nNa g3
  refine ⟨(by show 0 ≤ sizeLine; decide), fun p H7 fp s7 g7 => ?_⟩
  have npa : p ≠ a := fx6.st.ne fp
  refine ⟨_, rfl, by decide, by decide, for_range (n := 4) (fun i σ H' => Fx a H6 H' ∧ ∃ (ws : List V) (l4 l6 l7 : Option V), H' p = some (.lst ws) ∧ ws.length = 2 * i ∧ (∀ v ∈ ws, GotOk K H' ts v) ∧ σ = [some (.ref sc), some (.ref a), some (.ref N), some (.ref d), l4, some (.ref p), l6, l7, none]) ⟨.of fx6.st s7, [], _, _, _, g7, rfl, (fun v h => by cases h), rfl⟩ ?_ ?_⟩
  · rintro i σ H' hi ⟨fx, ws, l4, l6, l7, gp, lws, hws, rfl⟩
    obtain ⟨m, em, hm2⟩ : ∃ m : Nat, (if (2 : Int) < 0 + (i : Int) then 2 else 0 + (i : Int)) = (m : Nat) ∧ m ≤ 2 := by
      by_cases h : 2 < i
      · exact ⟨2, by rw [if_pos (by omega)]; rfl, Nat.le_refl _⟩
      · exact ⟨i, by rw [if_neg (by omega)]; omega, by omega⟩
    refine ⟨_, rfl, _, rfl, _, rfl, _, rfl, _, _, rfl, a, d, N, m, ts, ns, ?_, by omega, hm2, fx.st, nNa, hD6.fx fx6.st fx, hts, fx.same _ _ nNa gN6, hn, fun r H8 v1 v2 q1 h1 f8 g8 hq1 hh1 hHQ1 hok1 hz1 => ?_⟩
    · exact congrArg (fun z => [V.ref a, V.ref d, V.ref N, V.int z]) em
    have hb := bnd13 m
    refine ⟨r, _, rfl, SqT.of g8, rfl, _, _, rfl, _, _, rfl, rfl, ?_⟩
    have gp8 := f8.same _ _ npa gp
    refine ⟨_, rfl, .inl ⟨rfl, _, SqL.of gp8⟩, _, rfl, _, rfl, (by show 2 ≤ sizeLine; decide), fun t9 H9 ft9 s9 g9 => ⟨p, _, _, rfl, rfl, s9 _ _ gp8, small1000 (by omega), ?_⟩⟩
    have gp9 := s9 _ _ gp8
    have nt9 : t9 ≠ p := (ne_of_none gp8 ft9).symm
    have tk89 : TK K H8 (upd H9 p (.lst (ws ++ [.ref t9]))) := fun _ _ e => (s9.seqT e).updL gp9
    have fx10 : Fx a H6 (upd H9 p (.lst (ws ++ [.ref t9]))) := ((fx.trans f8).sm s9).upd fp npa
    have hnew : GotOk K (upd H9 p (.lst (ws ++ [.ref t9]))) ts (.ref t9) := ⟨t9, v1, v2, q1, h1, rfl, SqT.of (by rw [upd_ne nt9]; exact g9), hq1.tk tk89, hh1.tk tk89, hHQ1, hok1, by omega⟩
    have hold : ∀ v ∈ ws, GotOk K (upd H9 p (.lst (ws ++ [.ref t9]))) ts v := fun v hv => ((hws v hv).tk (f8.tk fx.st)).tk tk89
    refine ⟨_, rfl, .inl ⟨rfl, _, SqL.of upd_same⟩, _, rfl, _, rfl, _, rfl, _, rfl, a, N, v1, v2, q1, h1, ns, lookT ts, rfl, fx10.st, nNa, hq1.tk tk89, hh1.tk tk89, hok1, hHQ1, fx10.same _ _ nNa gN6, hn, fun r2 H11 w1 w2 q2 h2 f11 g11 hq2 hh2 hHQ2 hok2 hz2 => ?_⟩
    have gp11 := f11.same _ _ npa (upd_same (H := H9) (a := p) (o := .lst (ws ++ [.ref t9])))
    refine ⟨p, _, _, rfl, rfl, gp11, small1000 (by rw [List.length_append]; show ws.length + 1 ≤ 1000; omega), ?_⟩
    have tk1112 : TK K H11 (upd H11 p (.lst (ws ++ [.ref t9] ++ [.ref r2]))) := fun _ _ e => e.updL gp11
    have tk1012 : TK K (upd H9 p (.lst (ws ++ [.ref t9]))) (upd H11 p (.lst (ws ++ [.ref t9] ++ [.ref r2]))) := fun _ _ e => tk1112 _ _ (f11.seqT fx10.st e)
    refine ⟨(fx10.trans f11).upd fp npa, _, _, _, _, upd_same, by rw [List.length_append, List.length_append]; show ws.length + 1 + 1 = _; omega, fun v hv => ?_, rfl⟩
    rcases List.mem_append.mp hv with hv | hv
    · rcases List.mem_append.mp hv with hv | hv
      · exact (hold v hv).tk tk1012
      · rw [List.mem_singleton.mp hv]
        exact hnew.tk tk1012
    · rw [List.mem_singleton.mp hv]
      exact ⟨r2, w1, w2, q2, h2, rfl, tk1112 _ _ (SqT.of g11), hq2.tk tk1112, hh2.tk tk1112, hHQ2, hok2, by omega⟩
  rintro σ H8 ⟨fx8, ws, l4', l6, l7, gp, lws, hws, rfl⟩
  obtain ⟨kvs8, hdk8, hkv8⟩ := hD6.fx fx6.st fx8
  refine ⟨_, rfl, d, kvs8, rfl, hdk8, fun e H9 fe s9 g9 => ?_⟩
  refine ⟨_, rfl, _, rfl, _, rfl, p, ws, rfl, rfl, SqL.of (s9 _ _ gp), fun p10 H10 f10 s10 g10 => ⟨p, p10, ws, ws.reverse, rfl, rfl, (s9.trans s10) _ _ gp, g10, small (by rw [List.length_reverse]; omega), fun L H11 fL s11 g11 => ?_⟩⟩
  have s811 := s9.trans (s10.trans s11)
  refine ⟨L, rfl, ⟨_, SqL.of g11⟩, for_list (xs := ws ++ ws.reverse) (fun i σ H' => Same H11 H' ∧ ∃ (l6 l7 : Option V), σ = [some (.ref sc), some (.ref a), some (.ref N), some (.ref d), l4', some (.ref p), l6, l7, some (.ref e)]) ⟨Same.refl _, _, _, rfl⟩ (fun i σ H' _ ⟨sm, _⟩ => SqL.of (sm _ _ g11)) ?_ ?_⟩
  · rintro i x σ H' hx ⟨sm, l6, l7, rfl⟩
    have s8 := s811.trans sm
    have hxm : x ∈ ws := by
      rcases List.mem_append.mp (List.mem_of_getElem? hx) with h | h
      · exact h
      · exact List.mem_reverse.mp h
    obtain ⟨r, v1, v2, q1, h1, rfl, hr1, hq1, hh1, hHQ1, hok1, hz1⟩ := (hws x hxm).tk (fun _ _ e => s8.seqT e)
    obtain ⟨⟨nd1, l1, l8⟩, hc1⟩ := id hok1
    have hDe : HeadsAt K H' e (lookT ts) := DTab.heads ⟨kvs8, ((s10.trans s11).trans sm) _ _ g9, hkv8.imp fun _ _ h => ⟨h.1, h.2.same s8⟩⟩
    refine ⟨r, _, rfl, hr1, rfl, _, _, rfl, _, _, rfl, rfl, ?_⟩
    refine ⟨_, rfl, _, rfl, e, v1, lookT ts, q1, h1, rfl, hDe, hq1, hz1, hHQ1, fun v' H12 s12 hh' => ⟨_, rfl, v', v2, h1, rfl, hh', hh1.same s12, by omega, fun c hcm => ⟨name_len (hc1 c hcm).1, ?_⟩, _, rfl, iteF ?_⟩⟩
    · rcases (hc1 c hcm).2 with e | e <;> (rw [e]; decide +kernel)
    · refine ⟨_, rfl, _, rfl, e, d, kvs8, rfl, rfl, (((s10.trans s11).trans sm).trans s12) _ _ g9, (s8.trans s12) _ _ hdk8, fun kv hkvm => ?_, _, rfl, iteF ⟨sm.trans s12, _, _, rfl⟩⟩
      obtain ⟨t, _, _, hv, vs, ev, _⟩ := hkv8.mem hkvm
      exact ⟨hv, ev⟩
  · rintro σ H' ⟨sm, l6, l7, rfl⟩
    exact q H'
end
end My
set_option Elab.async false
set_option linter.all false
set_option maxRecDepth 100000
namespace My
open PySem PySem.Spec PyProof.Rows L2
set_option maxHeartbeats 400000
section
variable {P : Program} {w : World} {K : PySem.W.Frag} {mg : Str → Option Value} {base : Heap}
theorem all_head_of (T : Txt w K mg) : Ok P w K mg base 27 "head_of" ["heads", "question"] (sp_ho K) := by
  have g1 := ok_is_whole (P := P) (base := base) T
  have g2 := ok_is_word (P := P) (base := base) T
  have g3 := ok_is_name T g2
  have g4 := ok_is_value T g1 g2
  have g5 := ok_kind_of T g1
  have g6 := ok_is_one_of (P := P) (base := base) T
  have g7 := name_yes g3
  have fm : Forms P w K mg base := ⟨g7, ok_may_be_question T, ok_are_tests T (ok_is_test T g6 g3 (ok_is_other T g6 g4 g3)) (ok_is_tuple_of T), ok_are_names T g7 (ok_is_tuple_of T), ok_are_group_names T g7 (ok_is_tuple_of T), ok_are_pairs T (ok_is_pair T g7 (ok_is_tuple_of T)) (ok_is_tuple_of T), ok_are_sums T (ok_is_sum T g6 g3) (ok_is_tuple_of T), ok_are_keys T (ok_is_key T g6 g3) (ok_is_tuple_of T), ok_is_many T g1⟩
  have g8 := ok_questions_in (P := P) (base := base) T
  have g9 := ok_kind_in (P := P) (base := base) T
  have g10 := ok_need_like_kinds (P := P) (base := base) T
  have g11 := ok_need_unlike T (ok_are_unlike (P := P) (base := base) T)
  have g12 := ok_keep_head T g9
  have g13 := ok_head_here T (ok_table_head T) (ok_where_head T g10 g9 (ok_other_kind T g5 g9)) g12 (ok_named_head T) (ok_join_head T g10 g9 g11) (ok_group_head T g12 (ok_sum_kind T g9)) (ok_first_head T g12 g11)
  exact ok_head_of T (ok_head_within T g8 g13 g11 (ok_names_of' T) 20) (ok_checked T (ok_has_form T fm g6) g8 (ok_own_size T))
theorem law_fn {fa : Addr} (T : Txt w K mg) (hmg : mg "law" = some (.ref fa)) :
    ∃ fd : FuncData, (∀ (s : Shared) (u : Value), BindsTo s fd ⟨[u], []⟩ [("_law_script", u)]) ∧ ∀ base : Heap, K.In base → base.Ns mainGlobals mg → FnOk P w K mg base CX0 28 fa fd ["_law_script"] (sp_law K) := by
  obtain ⟨f, fd, F, B, m⟩ := T.d_law
  have e : fa = f := by
    rw [m] at hmg
    injection hmg with e
    injection e with e
    exact e.symm
  subst e
  refine ⟨fd, ?_, fun base _ _ => ?_⟩
  · obtain ⟨⟨oc, od, kV, doc, pm, an, cdv, ct, osl, rfl, lk, hcd⟩, kp⟩ := F
    exact fun s u => .of_eq rfl
  · have n1 := ok__law_next (P := P) (base := base) T
    have n2 := ok__law_value T n1 (ok__law_great T n1)
    have n3 := ok__law_some T n1
    exact ok_law F T (ok__law_seed T) n1 (ok__law_names T n1 (ok__law_words T)) (ok__law_head T n1) (ok__law_question T n1 n3 (ok__law_keys T n1 n3) (ok__law_tests T n1 n2) (ok__law_group T n3 (ok__law_sums T n1)) (ok__law_join T n1 (ok__law_fresh T)) 3) (ok__law_more T n1) (ok__law_alike T) (all_head_of T)
end
theorem txt_mk {K : PySem.W.Frag} {h : Heap} {mg : Str → Option Value} (X : K.In h) (G : h.Ns mainGlobals mg) {w : World} {f0 : Addr} {od0 an0 : Option Addr} {sl0 : Array (Option Value)} {oc0 kV0 dc0 pm0 cd0 ct0 : Value} {f1 : Addr} {od1 an1 : Option Addr} {sl1 : Array (Option Value)} {oc1 kV1 dc1 pm1 cd1 ct1 : Value} {f2 : Addr} {od2 an2 : Option Addr} {sl2 : Array (Option Value)} {oc2 kV2 dc2 pm2 cd2 ct2 : Value} {f3 : Addr} {od3 an3 : Option Addr} {sl3 : Array (Option Value)} {oc3 kV3 dc3 pm3 cd3 ct3 : Value} {f4 : Addr} {od4 an4 : Option Addr} {sl4 : Array (Option Value)} {oc4 kV4 dc4 pm4 cd4 ct4 : Value} {f5 : Addr} {od5 an5 : Option Addr} {sl5 : Array (Option Value)} {oc5 kV5 dc5 pm5 cd5 ct5 : Value} {f6 : Addr} {od6 an6 : Option Addr} {sl6 : Array (Option Value)} {oc6 kV6 dc6 pm6 cd6 ct6 : Value} {f7 : Addr} {od7 an7 : Option Addr} {sl7 : Array (Option Value)} {oc7 kV7 dc7 pm7 cd7 ct7 : Value} {f8 : Addr} {od8 an8 : Option Addr} {sl8 : Array (Option Value)} {oc8 kV8 dc8 pm8 cd8 ct8 : Value} {f9 : Addr} {od9 an9 : Option Addr} {sl9 : Array (Option Value)} {oc9 kV9 dc9 pm9 cd9 ct9 : Value} {f10 : Addr} {od10 an10 : Option Addr} {sl10 : Array (Option Value)} {oc10 kV10 dc10 pm10 cd10 ct10 : Value} {f11 : Addr} {od11 an11 : Option Addr} {sl11 : Array (Option Value)} {oc11 kV11 dc11 pm11 cd11 ct11 : Value} {f12 : Addr} {od12 an12 : Option Addr} {sl12 : Array (Option Value)} {oc12 kV12 dc12 pm12 cd12 ct12 : Value} {f13 : Addr} {od13 an13 : Option Addr} {sl13 : Array (Option Value)} {oc13 kV13 dc13 pm13 cd13 ct13 : Value} {f14 : Addr} {od14 an14 : Option Addr} {sl14 : Array (Option Value)} {oc14 kV14 dc14 pm14 cd14 ct14 : Value} {f15 : Addr} {od15 an15 : Option Addr} {sl15 : Array (Option Value)} {oc15 kV15 dc15 pm15 cd15 ct15 : Value} {f16 : Addr} {od16 an16 : Option Addr} {sl16 : Array (Option Value)} {oc16 kV16 dc16 pm16 cd16 ct16 : Value} {f17 : Addr} {od17 an17 : Option Addr} {sl17 : Array (Option Value)} {oc17 kV17 dc17 pm17 cd17 ct17 : Value} {f18 : Addr} {od18 an18 : Option Addr} {sl18 : Array (Option Value)} {oc18 kV18 dc18 pm18 cd18 ct18 : Value} {f19 : Addr} {od19 an19 : Option Addr} {sl19 : Array (Option Value)} {oc19 kV19 dc19 pm19 cd19 ct19 : Value} {f20 : Addr} {od20 an20 : Option Addr} {sl20 : Array (Option Value)} {oc20 kV20 dc20 pm20 cd20 ct20 : Value} {f21 : Addr} {od21 an21 : Option Addr} {sl21 : Array (Option Value)} {oc21 kV21 dc21 pm21 cd21 ct21 : Value} {f22 : Addr} {od22 an22 : Option Addr} {sl22 : Array (Option Value)} {oc22 kV22 dc22 pm22 cd22 ct22 : Value} {f23 : Addr} {od23 an23 : Option Addr} {sl23 : Array (Option Value)} {oc23 kV23 dc23 pm23 cd23 ct23 : Value} {f24 : Addr} {od24 an24 : Option Addr} {sl24 : Array (Option Value)} {oc24 kV24 dc24 pm24 cd24 ct24 : Value} {f25 : Addr} {od25 an25 : Option Addr} {sl25 : Array (Option Value)} {oc25 kV25 dc25 pm25 cd25 ct25 : Value} {f26 : Addr} {od26 an26 : Option Addr} {sl26 : Array (Option Value)} {oc26 kV26 dc26 pm26 cd26 ct26 : Value} {f27 : Addr} {od27 an27 : Option Addr} {sl27 : Array (Option Value)} {oc27 kV27 dc27 pm27 cd27 ct27 : Value} {f28 : Addr} {od28 an28 : Option Addr} {sl28 : Array (Option Value)} {oc28 kV28 dc28 pm28 cd28 ct28 : Value} {f29 : Addr} {od29 an29 : Option Addr} {sl29 : Array (Option Value)} {oc29 kV29 dc29 pm29 cd29 ct29 : Value} {f30 : Addr} {od30 an30 : Option Addr} {sl30 : Array (Option Value)} {oc30 kV30 dc30 pm30 cd30 ct30 : Value} {f31 : Addr} {od31 an31 : Option Addr} {sl31 : Array (Option Value)} {oc31 kV31 dc31 pm31 cd31 ct31 : Value} {f32 : Addr} {od32 an32 : Option Addr} {sl32 : Array (Option Value)} {oc32 kV32 dc32 pm32 cd32 ct32 : Value} {f33 : Addr} {od33 an33 : Option Addr} {sl33 : Array (Option Value)} {oc33 kV33 dc33 pm33 cd33 ct33 : Value} {f34 : Addr} {od34 an34 : Option Addr} {sl34 : Array (Option Value)} {oc34 kV34 dc34 pm34 cd34 ct34 : Value} {f35 : Addr} {od35 an35 : Option Addr} {sl35 : Array (Option Value)} {oc35 kV35 dc35 pm35 cd35 ct35 : Value} {f36 : Addr} {od36 an36 : Option Addr} {sl36 : Array (Option Value)} {oc36 kV36 dc36 pm36 cd36 ct36 : Value} {f37 : Addr} {od37 an37 : Option Addr} {sl37 : Array (Option Value)} {oc37 kV37 dc37 pm37 cd37 ct37 : Value} {f38 : Addr} {od38 an38 : Option Addr} {sl38 : Array (Option Value)} {oc38 kV38 dc38 pm38 cd38 ct38 : Value} {f39 : Addr} {od39 an39 : Option Addr} {sl39 : Array (Option Value)} {oc39 kV39 dc39 pm39 cd39 ct39 : Value} {f40 : Addr} {od40 an40 : Option Addr} {sl40 : Array (Option Value)} {oc40 kV40 dc40 pm40 cd40 ct40 : Value} {f41 : Addr} {od41 an41 : Option Addr} {sl41 : Array (Option Value)} {oc41 kV41 dc41 pm41 cd41 ct41 : Value} {f42 : Addr} {od42 an42 : Option Addr} {sl42 : Array (Option Value)} {oc42 kV42 dc42 pm42 cd42 ct42 : Value} {f43 : Addr} {od43 an43 : Option Addr} {sl43 : Array (Option Value)} {oc43 kV43 dc43 pm43 cd43 ct43 : Value} {f44 : Addr} {od44 an44 : Option Addr} {sl44 : Array (Option Value)} {oc44 kV44 dc44 pm44 cd44 ct44 : Value} {f45 : Addr} {od45 an45 : Option Addr} {sl45 : Array (Option Value)} {oc45 kV45 dc45 pm45 cd45 ct45 : Value} {f46 : Addr} {od46 an46 : Option Addr} {sl46 : Array (Option Value)} {oc46 kV46 dc46 pm46 cd46 ct46 : Value} {f47 : Addr} {od47 an47 : Option Addr} {sl47 : Array (Option Value)} {oc47 kV47 dc47 pm47 cd47 ct47 : Value} {f48 : Addr} {od48 an48 : Option Addr} {sl48 : Array (Option Value)} {oc48 kV48 dc48 pm48 cd48 ct48 : Value} {f49 : Addr} {od49 an49 : Option Addr} {sl49 : Array (Option Value)} {oc49 kV49 dc49 pm49 cd49 ct49 : Value} {f50 : Addr} {od50 an50 : Option Addr} {sl50 : Array (Option Value)} {oc50 kV50 dc50 pm50 cd50 ct50 : Value} {f51 : Addr} {od51 an51 : Option Addr} {sl51 : Array (Option Value)} {oc51 kV51 dc51 pm51 cd51 ct51 : Value} {f52 : Addr} {od52 an52 : Option Addr} {sl52 : Array (Option Value)} {oc52 kV52 dc52 pm52 cd52 ct52 : Value} {f53 : Addr} {od53 an53 : Option Addr} {sl53 : Array (Option Value)} {oc53 kV53 dc53 pm53 cd53 ct53 : Value} {f54 : Addr} {od54 an54 : Option Addr} {sl54 : Array (Option Value)} {oc54 kV54 dc54 pm54 cd54 ct54 : Value} {f55 : Addr} {od55 an55 : Option Addr} {sl55 : Array (Option Value)} {oc55 kV55 dc55 pm55 cd55 ct55 : Value} {f56 : Addr} {od56 an56 : Option Addr} {sl56 : Array (Option Value)} {oc56 kV56 dc56 pm56 cd56 ct56 : Value} {f57 : Addr} {od57 an57 : Option Addr} {sl57 : Array (Option Value)} {oc57 kV57 dc57 pm57 cd57 ct57 : Value} {f58 : Addr} {od58 an58 : Option Addr} {sl58 : Array (Option Value)} {oc58 kV58 dc58 pm58 cd58 ct58 : Value} {ca_QUESTION_WORDS : Addr} {co_QUESTION_WORDS : Obj} {ci_QUESTION_WORDS : Array Value} {cn_QUESTION_WORDS : Nat} {ct_LETTERS : Tok} {ct_MOST_LETTERS : Tok} {ct_MOST_COLUMNS : Tok} {ca_SIGNS : Addr} {co_SIGNS : Obj} {ci_SIGNS : Array Value} {cn_SIGNS : Nat} {ca_SUM_WORDS : Addr} {co_SUM_WORDS : Obj} {ci_SUM_WORDS : Array Value} {cn_SUM_WORDS : Nat} {ca_WAYS : Addr} {co_WAYS : Obj} {ci_WAYS : Array Value} {cn_WAYS : Nat} {ct_MOST_TESTS : Tok} {ct_MOST_NAMES : Tok} {ct_MOST_PAIRS : Tok} {ct_MOST_SUMS : Tok} {ct_MOST_KEYS : Tok} {ct_MOST_ROWS : Tok} {ct_MOST_SIZE : Tok} {ca_FORMS : Addr} {co_FORMS : Obj} {ce_FORMS : Array DictEntry} {cp_FORMS : Nat} {tt14_0 : Addr} {to14_0 : Obj} {ti14_0 : Array Value} {tn14_0 : Nat} {tt14_1 : Addr} {to14_1 : Obj} {ti14_1 : Array Value} {tn14_1 : Nat} {tt14_2 : Addr} {to14_2 : Obj} {ti14_2 : Array Value} {tn14_2 : Nat} {tt14_3 : Addr} {to14_3 : Obj} {ti14_3 : Array Value} {tn14_3 : Nat} {tt14_4 : Addr} {to14_4 : Obj} {ti14_4 : Array Value} {tn14_4 : Nat} {tt14_5 : Addr} {to14_5 : Obj} {ti14_5 : Array Value} {tn14_5 : Nat} {tt14_6 : Addr} {to14_6 : Obj} {ti14_6 : Array Value} {tn14_6 : Nat}
    (a0 : PySem.W.nsIn K mainGlobals "is_whole" = some (some (.ref f0))) (l0 : K.lookup f0 = some ⟨oc0, od0, .func (PySem.W.fnOf "is_whole" "is_whole" (defArgs s_is_whole) (defBody s_is_whole) (defScope s_is_whole) .none kV0 dc0 pm0 an0 cd0 ct0), sl0⟩) (c0 : PySem.W.codeIn K cd0 "is_whole" = true) (k0 : PySem.W.keepIn K (.ref f0) = true)
    (a1 : PySem.W.nsIn K mainGlobals "is_word" = some (some (.ref f1))) (l1 : K.lookup f1 = some ⟨oc1, od1, .func (PySem.W.fnOf "is_word" "is_word" (defArgs s_is_word) (defBody s_is_word) (defScope s_is_word) .none kV1 dc1 pm1 an1 cd1 ct1), sl1⟩) (c1 : PySem.W.codeIn K cd1 "is_word" = true) (k1 : PySem.W.keepIn K (.ref f1) = true)
    (a2 : PySem.W.nsIn K mainGlobals "is_one_of" = some (some (.ref f2))) (l2 : K.lookup f2 = some ⟨oc2, od2, .func (PySem.W.fnOf "is_one_of" "is_one_of" (defArgs s_is_one_of) (defBody s_is_one_of) (defScope s_is_one_of) .none kV2 dc2 pm2 an2 cd2 ct2), sl2⟩) (c2 : PySem.W.codeIn K cd2 "is_one_of" = true) (k2 : PySem.W.keepIn K (.ref f2) = true)
    (a3 : PySem.W.nsIn K mainGlobals "is_tuple_of" = some (some (.ref f3))) (l3 : K.lookup f3 = some ⟨oc3, od3, .func (PySem.W.fnOf "is_tuple_of" "is_tuple_of" (defArgs s_is_tuple_of) (defBody s_is_tuple_of) (defScope s_is_tuple_of) .none kV3 dc3 pm3 an3 cd3 ct3), sl3⟩) (c3 : PySem.W.codeIn K cd3 "is_tuple_of" = true) (k3 : PySem.W.keepIn K (.ref f3) = true)
    (a4 : PySem.W.nsIn K mainGlobals "are_unlike" = some (some (.ref f4))) (l4 : K.lookup f4 = some ⟨oc4, od4, .func (PySem.W.fnOf "are_unlike" "are_unlike" (defArgs s_are_unlike) (defBody s_are_unlike) (defScope s_are_unlike) .none kV4 dc4 pm4 an4 cd4 ct4), sl4⟩) (c4 : PySem.W.codeIn K cd4 "are_unlike" = true) (k4 : PySem.W.keepIn K (.ref f4) = true)
    (a5 : PySem.W.nsIn K mainGlobals "names_of" = some (some (.ref f5))) (l5 : K.lookup f5 = some ⟨oc5, od5, .func (PySem.W.fnOf "names_of" "names_of" (defArgs s_names_of) (defBody s_names_of) (defScope s_names_of) .none kV5 dc5 pm5 an5 cd5 ct5), sl5⟩) (c5 : PySem.W.codeIn K cd5 "names_of" = true) (k5 : PySem.W.keepIn K (.ref f5) = true)
    (a6 : PySem.W.nsIn K mainGlobals "is_name" = some (some (.ref f6))) (l6 : K.lookup f6 = some ⟨oc6, od6, .func (PySem.W.fnOf "is_name" "is_name" (defArgs s_is_name) (defBody s_is_name) (defScope s_is_name) .none kV6 dc6 pm6 an6 cd6 ct6), sl6⟩) (c6 : PySem.W.codeIn K cd6 "is_name" = true) (k6 : PySem.W.keepIn K (.ref f6) = true)
    (w6 : oc6 = .type "function")
    (a7 : PySem.W.nsIn K mainGlobals "is_value" = some (some (.ref f7))) (l7 : K.lookup f7 = some ⟨oc7, od7, .func (PySem.W.fnOf "is_value" "is_value" (defArgs s_is_value) (defBody s_is_value) (defScope s_is_value) .none kV7 dc7 pm7 an7 cd7 ct7), sl7⟩) (c7 : PySem.W.codeIn K cd7 "is_value" = true) (k7 : PySem.W.keepIn K (.ref f7) = true)
    (a8 : PySem.W.nsIn K mainGlobals "kind_of" = some (some (.ref f8))) (l8 : K.lookup f8 = some ⟨oc8, od8, .func (PySem.W.fnOf "kind_of" "kind_of" (defArgs s_kind_of) (defBody s_kind_of) (defScope s_kind_of) .none kV8 dc8 pm8 an8 cd8 ct8), sl8⟩) (c8 : PySem.W.codeIn K cd8 "kind_of" = true) (k8 : PySem.W.keepIn K (.ref f8) = true)
    (a9 : PySem.W.nsIn K mainGlobals "is_other" = some (some (.ref f9))) (l9 : K.lookup f9 = some ⟨oc9, od9, .func (PySem.W.fnOf "is_other" "is_other" (defArgs s_is_other) (defBody s_is_other) (defScope s_is_other) .none kV9 dc9 pm9 an9 cd9 ct9), sl9⟩) (c9 : PySem.W.codeIn K cd9 "is_other" = true) (k9 : PySem.W.keepIn K (.ref f9) = true)
    (a10 : PySem.W.nsIn K mainGlobals "is_test" = some (some (.ref f10))) (l10 : K.lookup f10 = some ⟨oc10, od10, .func (PySem.W.fnOf "is_test" "is_test" (defArgs s_is_test) (defBody s_is_test) (defScope s_is_test) .none kV10 dc10 pm10 an10 cd10 ct10), sl10⟩) (c10 : PySem.W.codeIn K cd10 "is_test" = true) (k10 : PySem.W.keepIn K (.ref f10) = true)
    (w10 : oc10 = .type "function")
    (a11 : PySem.W.nsIn K mainGlobals "is_pair" = some (some (.ref f11))) (l11 : K.lookup f11 = some ⟨oc11, od11, .func (PySem.W.fnOf "is_pair" "is_pair" (defArgs s_is_pair) (defBody s_is_pair) (defScope s_is_pair) .none kV11 dc11 pm11 an11 cd11 ct11), sl11⟩) (c11 : PySem.W.codeIn K cd11 "is_pair" = true) (k11 : PySem.W.keepIn K (.ref f11) = true)
    (w11 : oc11 = .type "function")
    (a12 : PySem.W.nsIn K mainGlobals "is_sum" = some (some (.ref f12))) (l12 : K.lookup f12 = some ⟨oc12, od12, .func (PySem.W.fnOf "is_sum" "is_sum" (defArgs s_is_sum) (defBody s_is_sum) (defScope s_is_sum) .none kV12 dc12 pm12 an12 cd12 ct12), sl12⟩) (c12 : PySem.W.codeIn K cd12 "is_sum" = true) (k12 : PySem.W.keepIn K (.ref f12) = true)
    (w12 : oc12 = .type "function")
    (a13 : PySem.W.nsIn K mainGlobals "is_key" = some (some (.ref f13))) (l13 : K.lookup f13 = some ⟨oc13, od13, .func (PySem.W.fnOf "is_key" "is_key" (defArgs s_is_key) (defBody s_is_key) (defScope s_is_key) .none kV13 dc13 pm13 an13 cd13 ct13), sl13⟩) (c13 : PySem.W.codeIn K cd13 "is_key" = true) (k13 : PySem.W.keepIn K (.ref f13) = true)
    (w13 : oc13 = .type "function")
    (a14 : PySem.W.nsIn K mainGlobals "is_many" = some (some (.ref f14))) (l14 : K.lookup f14 = some ⟨oc14, od14, .func (PySem.W.fnOf "is_many" "is_many" (defArgs s_is_many) (defBody s_is_many) (defScope s_is_many) .none kV14 dc14 pm14 an14 cd14 ct14), sl14⟩) (c14 : PySem.W.codeIn K cd14 "is_many" = true) (k14 : PySem.W.keepIn K (.ref f14) = true)
    (a15 : PySem.W.nsIn K mainGlobals "are_tests" = some (some (.ref f15))) (l15 : K.lookup f15 = some ⟨oc15, od15, .func (PySem.W.fnOf "are_tests" "are_tests" (defArgs s_are_tests) (defBody s_are_tests) (defScope s_are_tests) .none kV15 dc15 pm15 an15 cd15 ct15), sl15⟩) (c15 : PySem.W.codeIn K cd15 "are_tests" = true) (k15 : PySem.W.keepIn K (.ref f15) = true)
    (a16 : PySem.W.nsIn K mainGlobals "are_names" = some (some (.ref f16))) (l16 : K.lookup f16 = some ⟨oc16, od16, .func (PySem.W.fnOf "are_names" "are_names" (defArgs s_are_names) (defBody s_are_names) (defScope s_are_names) .none kV16 dc16 pm16 an16 cd16 ct16), sl16⟩) (c16 : PySem.W.codeIn K cd16 "are_names" = true) (k16 : PySem.W.keepIn K (.ref f16) = true)
    (a17 : PySem.W.nsIn K mainGlobals "are_group_names" = some (some (.ref f17))) (l17 : K.lookup f17 = some ⟨oc17, od17, .func (PySem.W.fnOf "are_group_names" "are_group_names" (defArgs s_are_group_names) (defBody s_are_group_names) (defScope s_are_group_names) .none kV17 dc17 pm17 an17 cd17 ct17), sl17⟩) (c17 : PySem.W.codeIn K cd17 "are_group_names" = true) (k17 : PySem.W.keepIn K (.ref f17) = true)
    (a18 : PySem.W.nsIn K mainGlobals "are_pairs" = some (some (.ref f18))) (l18 : K.lookup f18 = some ⟨oc18, od18, .func (PySem.W.fnOf "are_pairs" "are_pairs" (defArgs s_are_pairs) (defBody s_are_pairs) (defScope s_are_pairs) .none kV18 dc18 pm18 an18 cd18 ct18), sl18⟩) (c18 : PySem.W.codeIn K cd18 "are_pairs" = true) (k18 : PySem.W.keepIn K (.ref f18) = true)
    (a19 : PySem.W.nsIn K mainGlobals "are_sums" = some (some (.ref f19))) (l19 : K.lookup f19 = some ⟨oc19, od19, .func (PySem.W.fnOf "are_sums" "are_sums" (defArgs s_are_sums) (defBody s_are_sums) (defScope s_are_sums) .none kV19 dc19 pm19 an19 cd19 ct19), sl19⟩) (c19 : PySem.W.codeIn K cd19 "are_sums" = true) (k19 : PySem.W.keepIn K (.ref f19) = true)
    (a20 : PySem.W.nsIn K mainGlobals "are_keys" = some (some (.ref f20))) (l20 : K.lookup f20 = some ⟨oc20, od20, .func (PySem.W.fnOf "are_keys" "are_keys" (defArgs s_are_keys) (defBody s_are_keys) (defScope s_are_keys) .none kV20 dc20 pm20 an20 cd20 ct20), sl20⟩) (c20 : PySem.W.codeIn K cd20 "are_keys" = true) (k20 : PySem.W.keepIn K (.ref f20) = true)
    (a21 : PySem.W.nsIn K mainGlobals "may_be_question" = some (some (.ref f21))) (l21 : K.lookup f21 = some ⟨oc21, od21, .func (PySem.W.fnOf "may_be_question" "may_be_question" (defArgs s_may_be_question) (defBody s_may_be_question) (defScope s_may_be_question) .none kV21 dc21 pm21 an21 cd21 ct21), sl21⟩) (c21 : PySem.W.codeIn K cd21 "may_be_question" = true) (k21 : PySem.W.keepIn K (.ref f21) = true)
    (a22 : PySem.W.nsIn K mainGlobals "has_form" = some (some (.ref f22))) (l22 : K.lookup f22 = some ⟨oc22, od22, .func (PySem.W.fnOf "has_form" "has_form" (defArgs s_has_form) (defBody s_has_form) (defScope s_has_form) .none kV22 dc22 pm22 an22 cd22 ct22), sl22⟩) (c22 : PySem.W.codeIn K cd22 "has_form" = true) (k22 : PySem.W.keepIn K (.ref f22) = true)
    (a23 : PySem.W.nsIn K mainGlobals "questions_in" = some (some (.ref f23))) (l23 : K.lookup f23 = some ⟨oc23, od23, .func (PySem.W.fnOf "questions_in" "questions_in" (defArgs s_questions_in) (defBody s_questions_in) (defScope s_questions_in) .none kV23 dc23 pm23 an23 cd23 ct23), sl23⟩) (c23 : PySem.W.codeIn K cd23 "questions_in" = true) (k23 : PySem.W.keepIn K (.ref f23) = true)
    (a24 : PySem.W.nsIn K mainGlobals "own_size" = some (some (.ref f24))) (l24 : K.lookup f24 = some ⟨oc24, od24, .func (PySem.W.fnOf "own_size" "own_size" (defArgs s_own_size) (defBody s_own_size) (defScope s_own_size) .none kV24 dc24 pm24 an24 cd24 ct24), sl24⟩) (c24 : PySem.W.codeIn K cd24 "own_size" = true) (k24 : PySem.W.keepIn K (.ref f24) = true)
    (a25 : PySem.W.nsIn K mainGlobals "checked" = some (some (.ref f25))) (l25 : K.lookup f25 = some ⟨oc25, od25, .func (PySem.W.fnOf "checked" "checked" (defArgs s_checked) (defBody s_checked) (defScope s_checked) .none kV25 dc25 pm25 an25 cd25 ct25), sl25⟩) (c25 : PySem.W.codeIn K cd25 "checked" = true) (k25 : PySem.W.keepIn K (.ref f25) = true)
    (a26 : PySem.W.nsIn K mainGlobals "kind_in" = some (some (.ref f26))) (l26 : K.lookup f26 = some ⟨oc26, od26, .func (PySem.W.fnOf "kind_in" "kind_in" (defArgs s_kind_in) (defBody s_kind_in) (defScope s_kind_in) .none kV26 dc26 pm26 an26 cd26 ct26), sl26⟩) (c26 : PySem.W.codeIn K cd26 "kind_in" = true) (k26 : PySem.W.keepIn K (.ref f26) = true)
    (a27 : PySem.W.nsIn K mainGlobals "need_like_kinds" = some (some (.ref f27))) (l27 : K.lookup f27 = some ⟨oc27, od27, .func (PySem.W.fnOf "need_like_kinds" "need_like_kinds" (defArgs s_need_like_kinds) (defBody s_need_like_kinds) (defScope s_need_like_kinds) .none kV27 dc27 pm27 an27 cd27 ct27), sl27⟩) (c27 : PySem.W.codeIn K cd27 "need_like_kinds" = true) (k27 : PySem.W.keepIn K (.ref f27) = true)
    (a28 : PySem.W.nsIn K mainGlobals "need_unlike" = some (some (.ref f28))) (l28 : K.lookup f28 = some ⟨oc28, od28, .func (PySem.W.fnOf "need_unlike" "need_unlike" (defArgs s_need_unlike) (defBody s_need_unlike) (defScope s_need_unlike) .none kV28 dc28 pm28 an28 cd28 ct28), sl28⟩) (c28 : PySem.W.codeIn K cd28 "need_unlike" = true) (k28 : PySem.W.keepIn K (.ref f28) = true)
    (a29 : PySem.W.nsIn K mainGlobals "table_head" = some (some (.ref f29))) (l29 : K.lookup f29 = some ⟨oc29, od29, .func (PySem.W.fnOf "table_head" "table_head" (defArgs s_table_head) (defBody s_table_head) (defScope s_table_head) .none kV29 dc29 pm29 an29 cd29 ct29), sl29⟩) (c29 : PySem.W.codeIn K cd29 "table_head" = true) (k29 : PySem.W.keepIn K (.ref f29) = true)
    (a30 : PySem.W.nsIn K mainGlobals "other_kind" = some (some (.ref f30))) (l30 : K.lookup f30 = some ⟨oc30, od30, .func (PySem.W.fnOf "other_kind" "other_kind" (defArgs s_other_kind) (defBody s_other_kind) (defScope s_other_kind) .none kV30 dc30 pm30 an30 cd30 ct30), sl30⟩) (c30 : PySem.W.codeIn K cd30 "other_kind" = true) (k30 : PySem.W.keepIn K (.ref f30) = true)
    (a31 : PySem.W.nsIn K mainGlobals "where_head" = some (some (.ref f31))) (l31 : K.lookup f31 = some ⟨oc31, od31, .func (PySem.W.fnOf "where_head" "where_head" (defArgs s_where_head) (defBody s_where_head) (defScope s_where_head) .none kV31 dc31 pm31 an31 cd31 ct31), sl31⟩) (c31 : PySem.W.codeIn K cd31 "where_head" = true) (k31 : PySem.W.keepIn K (.ref f31) = true)
    (a32 : PySem.W.nsIn K mainGlobals "keep_head" = some (some (.ref f32))) (l32 : K.lookup f32 = some ⟨oc32, od32, .func (PySem.W.fnOf "keep_head" "keep_head" (defArgs s_keep_head) (defBody s_keep_head) (defScope s_keep_head) .none kV32 dc32 pm32 an32 cd32 ct32), sl32⟩) (c32 : PySem.W.codeIn K cd32 "keep_head" = true) (k32 : PySem.W.keepIn K (.ref f32) = true)
    (a33 : PySem.W.nsIn K mainGlobals "named_head" = some (some (.ref f33))) (l33 : K.lookup f33 = some ⟨oc33, od33, .func (PySem.W.fnOf "named_head" "named_head" (defArgs s_named_head) (defBody s_named_head) (defScope s_named_head) .none kV33 dc33 pm33 an33 cd33 ct33), sl33⟩) (c33 : PySem.W.codeIn K cd33 "named_head" = true) (k33 : PySem.W.keepIn K (.ref f33) = true)
    (a34 : PySem.W.nsIn K mainGlobals "join_head" = some (some (.ref f34))) (l34 : K.lookup f34 = some ⟨oc34, od34, .func (PySem.W.fnOf "join_head" "join_head" (defArgs s_join_head) (defBody s_join_head) (defScope s_join_head) .none kV34 dc34 pm34 an34 cd34 ct34), sl34⟩) (c34 : PySem.W.codeIn K cd34 "join_head" = true) (k34 : PySem.W.keepIn K (.ref f34) = true)
    (a35 : PySem.W.nsIn K mainGlobals "sum_kind" = some (some (.ref f35))) (l35 : K.lookup f35 = some ⟨oc35, od35, .func (PySem.W.fnOf "sum_kind" "sum_kind" (defArgs s_sum_kind) (defBody s_sum_kind) (defScope s_sum_kind) .none kV35 dc35 pm35 an35 cd35 ct35), sl35⟩) (c35 : PySem.W.codeIn K cd35 "sum_kind" = true) (k35 : PySem.W.keepIn K (.ref f35) = true)
    (a36 : PySem.W.nsIn K mainGlobals "group_head" = some (some (.ref f36))) (l36 : K.lookup f36 = some ⟨oc36, od36, .func (PySem.W.fnOf "group_head" "group_head" (defArgs s_group_head) (defBody s_group_head) (defScope s_group_head) .none kV36 dc36 pm36 an36 cd36 ct36), sl36⟩) (c36 : PySem.W.codeIn K cd36 "group_head" = true) (k36 : PySem.W.keepIn K (.ref f36) = true)
    (a37 : PySem.W.nsIn K mainGlobals "first_head" = some (some (.ref f37))) (l37 : K.lookup f37 = some ⟨oc37, od37, .func (PySem.W.fnOf "first_head" "first_head" (defArgs s_first_head) (defBody s_first_head) (defScope s_first_head) .none kV37 dc37 pm37 an37 cd37 ct37), sl37⟩) (c37 : PySem.W.codeIn K cd37 "first_head" = true) (k37 : PySem.W.keepIn K (.ref f37) = true)
    (a38 : PySem.W.nsIn K mainGlobals "head_here" = some (some (.ref f38))) (l38 : K.lookup f38 = some ⟨oc38, od38, .func (PySem.W.fnOf "head_here" "head_here" (defArgs s_head_here) (defBody s_head_here) (defScope s_head_here) .none kV38 dc38 pm38 an38 cd38 ct38), sl38⟩) (c38 : PySem.W.codeIn K cd38 "head_here" = true) (k38 : PySem.W.keepIn K (.ref f38) = true)
    (a39 : PySem.W.nsIn K mainGlobals "head_within" = some (some (.ref f39))) (l39 : K.lookup f39 = some ⟨oc39, od39, .func (PySem.W.fnOf "head_within" "head_within" (defArgs s_head_within) (defBody s_head_within) (defScope s_head_within) .none kV39 dc39 pm39 an39 cd39 ct39), sl39⟩) (c39 : PySem.W.codeIn K cd39 "head_within" = true) (k39 : PySem.W.keepIn K (.ref f39) = true)
    (a40 : PySem.W.nsIn K mainGlobals "head_of" = some (some (.ref f40))) (l40 : K.lookup f40 = some ⟨oc40, od40, .func (PySem.W.fnOf "head_of" "head_of" (defArgs s_head_of) (defBody s_head_of) (defScope s_head_of) .none kV40 dc40 pm40 an40 cd40 ct40), sl40⟩) (c40 : PySem.W.codeIn K cd40 "head_of" = true) (k40 : PySem.W.keepIn K (.ref f40) = true)
    (a41 : PySem.W.nsIn K mainGlobals "_law_seed" = some (some (.ref f41))) (l41 : K.lookup f41 = some ⟨oc41, od41, .func (PySem.W.fnOf "_law_seed" "_law_seed" (defArgs s__law_seed) (defBody s__law_seed) (defScope s__law_seed) .none kV41 dc41 pm41 an41 cd41 ct41), sl41⟩) (c41 : PySem.W.codeIn K cd41 "_law_seed" = true) (k41 : PySem.W.keepIn K (.ref f41) = true)
    (a42 : PySem.W.nsIn K mainGlobals "_law_next" = some (some (.ref f42))) (l42 : K.lookup f42 = some ⟨oc42, od42, .func (PySem.W.fnOf "_law_next" "_law_next" (defArgs s__law_next) (defBody s__law_next) (defScope s__law_next) .none kV42 dc42 pm42 an42 cd42 ct42), sl42⟩) (c42 : PySem.W.codeIn K cd42 "_law_next" = true) (k42 : PySem.W.keepIn K (.ref f42) = true)
    (a43 : PySem.W.nsIn K mainGlobals "_law_words" = some (some (.ref f43))) (l43 : K.lookup f43 = some ⟨oc43, od43, .func (PySem.W.fnOf "_law_words" "_law_words" (defArgs s__law_words) (defBody s__law_words) (defScope s__law_words) .none kV43 dc43 pm43 an43 cd43 ct43), sl43⟩) (c43 : PySem.W.codeIn K cd43 "_law_words" = true) (k43 : PySem.W.keepIn K (.ref f43) = true)
    (a44 : PySem.W.nsIn K mainGlobals "_law_names" = some (some (.ref f44))) (l44 : K.lookup f44 = some ⟨oc44, od44, .func (PySem.W.fnOf "_law_names" "_law_names" (defArgs s__law_names) (defBody s__law_names) (defScope s__law_names) .none kV44 dc44 pm44 an44 cd44 ct44), sl44⟩) (c44 : PySem.W.codeIn K cd44 "_law_names" = true) (k44 : PySem.W.keepIn K (.ref f44) = true)
    (a45 : PySem.W.nsIn K mainGlobals "_law_great" = some (some (.ref f45))) (l45 : K.lookup f45 = some ⟨oc45, od45, .func (PySem.W.fnOf "_law_great" "_law_great" (defArgs s__law_great) (defBody s__law_great) (defScope s__law_great) .none kV45 dc45 pm45 an45 cd45 ct45), sl45⟩) (c45 : PySem.W.codeIn K cd45 "_law_great" = true) (k45 : PySem.W.keepIn K (.ref f45) = true)
    (a46 : PySem.W.nsIn K mainGlobals "_law_value" = some (some (.ref f46))) (l46 : K.lookup f46 = some ⟨oc46, od46, .func (PySem.W.fnOf "_law_value" "_law_value" (defArgs s__law_value) (defBody s__law_value) (defScope s__law_value) .none kV46 dc46 pm46 an46 cd46 ct46), sl46⟩) (c46 : PySem.W.codeIn K cd46 "_law_value" = true) (k46 : PySem.W.keepIn K (.ref f46) = true)
    (a47 : PySem.W.nsIn K mainGlobals "_law_head" = some (some (.ref f47))) (l47 : K.lookup f47 = some ⟨oc47, od47, .func (PySem.W.fnOf "_law_head" "_law_head" (defArgs s__law_head) (defBody s__law_head) (defScope s__law_head) .none kV47 dc47 pm47 an47 cd47 ct47), sl47⟩) (c47 : PySem.W.codeIn K cd47 "_law_head" = true) (k47 : PySem.W.keepIn K (.ref f47) = true)
    (a48 : PySem.W.nsIn K mainGlobals "_law_tests" = some (some (.ref f48))) (l48 : K.lookup f48 = some ⟨oc48, od48, .func (PySem.W.fnOf "_law_tests" "_law_tests" (defArgs s__law_tests) (defBody s__law_tests) (defScope s__law_tests) .none kV48 dc48 pm48 an48 cd48 ct48), sl48⟩) (c48 : PySem.W.codeIn K cd48 "_law_tests" = true) (k48 : PySem.W.keepIn K (.ref f48) = true)
    (a49 : PySem.W.nsIn K mainGlobals "_law_some" = some (some (.ref f49))) (l49 : K.lookup f49 = some ⟨oc49, od49, .func (PySem.W.fnOf "_law_some" "_law_some" (defArgs s__law_some) (defBody s__law_some) (defScope s__law_some) .none kV49 dc49 pm49 an49 cd49 ct49), sl49⟩) (c49 : PySem.W.codeIn K cd49 "_law_some" = true) (k49 : PySem.W.keepIn K (.ref f49) = true)
    (a50 : PySem.W.nsIn K mainGlobals "_law_sums" = some (some (.ref f50))) (l50 : K.lookup f50 = some ⟨oc50, od50, .func (PySem.W.fnOf "_law_sums" "_law_sums" (defArgs s__law_sums) (defBody s__law_sums) (defScope s__law_sums) .none kV50 dc50 pm50 an50 cd50 ct50), sl50⟩) (c50 : PySem.W.codeIn K cd50 "_law_sums" = true) (k50 : PySem.W.keepIn K (.ref f50) = true)
    (a51 : PySem.W.nsIn K mainGlobals "_law_group" = some (some (.ref f51))) (l51 : K.lookup f51 = some ⟨oc51, od51, .func (PySem.W.fnOf "_law_group" "_law_group" (defArgs s__law_group) (defBody s__law_group) (defScope s__law_group) .none kV51 dc51 pm51 an51 cd51 ct51), sl51⟩) (c51 : PySem.W.codeIn K cd51 "_law_group" = true) (k51 : PySem.W.keepIn K (.ref f51) = true)
    (a52 : PySem.W.nsIn K mainGlobals "_law_keys" = some (some (.ref f52))) (l52 : K.lookup f52 = some ⟨oc52, od52, .func (PySem.W.fnOf "_law_keys" "_law_keys" (defArgs s__law_keys) (defBody s__law_keys) (defScope s__law_keys) .none kV52 dc52 pm52 an52 cd52 ct52), sl52⟩) (c52 : PySem.W.codeIn K cd52 "_law_keys" = true) (k52 : PySem.W.keepIn K (.ref f52) = true)
    (a53 : PySem.W.nsIn K mainGlobals "_law_fresh" = some (some (.ref f53))) (l53 : K.lookup f53 = some ⟨oc53, od53, .func (PySem.W.fnOf "_law_fresh" "_law_fresh" (defArgs s__law_fresh) (defBody s__law_fresh) (defScope s__law_fresh) .none kV53 dc53 pm53 an53 cd53 ct53), sl53⟩) (c53 : PySem.W.codeIn K cd53 "_law_fresh" = true) (k53 : PySem.W.keepIn K (.ref f53) = true)
    (a54 : PySem.W.nsIn K mainGlobals "_law_join" = some (some (.ref f54))) (l54 : K.lookup f54 = some ⟨oc54, od54, .func (PySem.W.fnOf "_law_join" "_law_join" (defArgs s__law_join) (defBody s__law_join) (defScope s__law_join) .none kV54 dc54 pm54 an54 cd54 ct54), sl54⟩) (c54 : PySem.W.codeIn K cd54 "_law_join" = true) (k54 : PySem.W.keepIn K (.ref f54) = true)
    (a55 : PySem.W.nsIn K mainGlobals "_law_question" = some (some (.ref f55))) (l55 : K.lookup f55 = some ⟨oc55, od55, .func (PySem.W.fnOf "_law_question" "_law_question" (defArgs s__law_question) (defBody s__law_question) (defScope s__law_question) .none kV55 dc55 pm55 an55 cd55 ct55), sl55⟩) (c55 : PySem.W.codeIn K cd55 "_law_question" = true) (k55 : PySem.W.keepIn K (.ref f55) = true)
    (a56 : PySem.W.nsIn K mainGlobals "_law_more" = some (some (.ref f56))) (l56 : K.lookup f56 = some ⟨oc56, od56, .func (PySem.W.fnOf "_law_more" "_law_more" (defArgs s__law_more) (defBody s__law_more) (defScope s__law_more) .none kV56 dc56 pm56 an56 cd56 ct56), sl56⟩) (c56 : PySem.W.codeIn K cd56 "_law_more" = true) (k56 : PySem.W.keepIn K (.ref f56) = true)
    (a57 : PySem.W.nsIn K mainGlobals "_law_alike" = some (some (.ref f57))) (l57 : K.lookup f57 = some ⟨oc57, od57, .func (PySem.W.fnOf "_law_alike" "_law_alike" (defArgs s__law_alike) (defBody s__law_alike) (defScope s__law_alike) .none kV57 dc57 pm57 an57 cd57 ct57), sl57⟩) (c57 : PySem.W.codeIn K cd57 "_law_alike" = true) (k57 : PySem.W.keepIn K (.ref f57) = true)
    (a58 : PySem.W.nsIn K mainGlobals "law" = some (some (.ref f58))) (l58 : K.lookup f58 = some ⟨oc58, od58, .func (PySem.W.fnOf "law" "law" (defArgs s_law) (defBody s_law) (defScope s_law) .none kV58 dc58 pm58 an58 cd58 ct58), sl58⟩) (c58 : PySem.W.codeIn K cd58 "law" = true) (k58 : PySem.W.keepIn K (.ref f58) = true)
    (q0 : PySem.W.nsIn K mainGlobals "QUESTION_WORDS" = some (some (.ref ca_QUESTION_WORDS))) (r0 : K.lookup ca_QUESTION_WORDS = some co_QUESTION_WORDS) (t0 : co_QUESTION_WORDS.cls = .type "tuple") (y0 : co_QUESTION_WORDS.dict = none) (u0 : co_QUESTION_WORDS.data = .seq ci_QUESTION_WORDS cn_QUESTION_WORDS) (v0 : Vals [.str "and", .str "by", .str "count", .str "down", .str "first", .str "group", .str "join", .str "keep", .str "least", .str "most", .str "named", .str "on", .str "sum", .str "table", .str "up", .str "where", .str "with"] ci_QUESTION_WORDS.toList)
    (q1 : PySem.W.nsIn K mainGlobals "LETTERS" = some (some (.str "abcdefghijklmnopqrstuvwxyz" ct_LETTERS)))
    (q2 : PySem.W.nsIn K mainGlobals "MOST_LETTERS" = some (some (.int 8 ct_MOST_LETTERS)))
    (q3 : PySem.W.nsIn K mainGlobals "MOST_COLUMNS" = some (some (.int 8 ct_MOST_COLUMNS)))
    (q4 : PySem.W.nsIn K mainGlobals "SIGNS" = some (some (.ref ca_SIGNS))) (r4 : K.lookup ca_SIGNS = some co_SIGNS) (t4 : co_SIGNS.cls = .type "tuple") (y4 : co_SIGNS.dict = none) (u4 : co_SIGNS.data = .seq ci_SIGNS cn_SIGNS) (v4 : Vals [.str "=", .str "<", .str ">", .str "!"] ci_SIGNS.toList)
    (q5 : PySem.W.nsIn K mainGlobals "SUM_WORDS" = some (some (.ref ca_SUM_WORDS))) (r5 : K.lookup ca_SUM_WORDS = some co_SUM_WORDS) (t5 : co_SUM_WORDS.cls = .type "tuple") (y5 : co_SUM_WORDS.dict = none) (u5 : co_SUM_WORDS.data = .seq ci_SUM_WORDS cn_SUM_WORDS) (v5 : Vals [.str "count", .str "sum", .str "least", .str "most"] ci_SUM_WORDS.toList)
    (q6 : PySem.W.nsIn K mainGlobals "WAYS" = some (some (.ref ca_WAYS))) (r6 : K.lookup ca_WAYS = some co_WAYS) (t6 : co_WAYS.cls = .type "tuple") (y6 : co_WAYS.dict = none) (u6 : co_WAYS.data = .seq ci_WAYS cn_WAYS) (v6 : Vals [.str "up", .str "down"] ci_WAYS.toList)
    (q7 : PySem.W.nsIn K mainGlobals "MOST_TESTS" = some (some (.int 3 ct_MOST_TESTS)))
    (q8 : PySem.W.nsIn K mainGlobals "MOST_NAMES" = some (some (.int 8 ct_MOST_NAMES)))
    (q9 : PySem.W.nsIn K mainGlobals "MOST_PAIRS" = some (some (.int 3 ct_MOST_PAIRS)))
    (q10 : PySem.W.nsIn K mainGlobals "MOST_SUMS" = some (some (.int 4 ct_MOST_SUMS)))
    (q11 : PySem.W.nsIn K mainGlobals "MOST_KEYS" = some (some (.int 3 ct_MOST_KEYS)))
    (q12 : PySem.W.nsIn K mainGlobals "MOST_ROWS" = some (some (.int 60 ct_MOST_ROWS)))
    (q13 : PySem.W.nsIn K mainGlobals "MOST_SIZE" = some (some (.int 20 ct_MOST_SIZE)))
    (q14 : PySem.W.nsIn K mainGlobals "FORMS" = some (some (.ref ca_FORMS))) (r14 : K.lookup ca_FORMS = some co_FORMS) (x14 : co_FORMS.ExactDict) (o14 : (ca_FORMS == sysModules) = false) (u14 : co_FORMS.data = .dict ce_FORMS cp_FORMS) (h14 : ∀ P : Program, PH P w ce_FORMS.toList [("table", Value.ref tt14_0), ("where", Value.ref tt14_1), ("keep", Value.ref tt14_2), ("named", Value.ref tt14_3), ("join", Value.ref tt14_4), ("group", Value.ref tt14_5), ("first", Value.ref tt14_6)])
    (r14_0 : K.lookup tt14_0 = some to14_0) (t14_0 : to14_0.cls = .type "tuple") (y14_0 : to14_0.dict = none) (u14_0 : to14_0.data = .seq ti14_0 tn14_0) (v14_0 : Vals [.ref f6] ti14_0.toList)
    (r14_1 : K.lookup tt14_1 = some to14_1) (t14_1 : to14_1.cls = .type "tuple") (y14_1 : to14_1.dict = none) (u14_1 : to14_1.data = .seq ti14_1 tn14_1) (v14_1 : Vals [.ref f21, .ref f15] ti14_1.toList)
    (r14_2 : K.lookup tt14_2 = some to14_2) (t14_2 : to14_2.cls = .type "tuple") (y14_2 : to14_2.dict = none) (u14_2 : to14_2.data = .seq ti14_2 tn14_2) (v14_2 : Vals [.ref f21, .ref f16] ti14_2.toList)
    (r14_3 : K.lookup tt14_3 = some to14_3) (t14_3 : to14_3.cls = .type "tuple") (y14_3 : to14_3.dict = none) (u14_3 : to14_3.data = .seq ti14_3 tn14_3) (v14_3 : Vals [.ref f21, .ref f16] ti14_3.toList)
    (r14_4 : K.lookup tt14_4 = some to14_4) (t14_4 : to14_4.cls = .type "tuple") (y14_4 : to14_4.dict = none) (u14_4 : to14_4.data = .seq ti14_4 tn14_4) (v14_4 : Vals [.ref f21, .ref f21, .ref f18] ti14_4.toList)
    (r14_5 : K.lookup tt14_5 = some to14_5) (t14_5 : to14_5.cls = .type "tuple") (y14_5 : to14_5.dict = none) (u14_5 : to14_5.data = .seq ti14_5 tn14_5) (v14_5 : Vals [.ref f21, .ref f17, .ref f19] ti14_5.toList)
    (r14_6 : K.lookup tt14_6 = some to14_6) (t14_6 : to14_6.cls = .type "tuple") (y14_6 : to14_6.dict = none) (u14_6 : to14_6.data = .seq ti14_6 tn14_6) (v14_6 : Vals [.ref f21, .ref f20, .ref f14] ti14_6.toList)
    (z0 : PySem.W.nsIn K mainGlobals "all" = some none)
    (z1 : PySem.W.nsIn K mainGlobals "any" = some none)
    (z2 : PySem.W.nsIn K mainGlobals "bool" = some none)
    (z3 : PySem.W.nsIn K mainGlobals "dict" = some none)
    (z4 : PySem.W.nsIn K mainGlobals "enumerate" = some none)
    (z5 : PySem.W.nsIn K mainGlobals "int" = some none)
    (z6 : PySem.W.nsIn K mainGlobals "isinstance" = some none)
    (z7 : PySem.W.nsIn K mainGlobals "len" = some none)
    (z8 : PySem.W.nsIn K mainGlobals "list" = some none)
    (z9 : PySem.W.nsIn K mainGlobals "min" = some none)
    (z10 : PySem.W.nsIn K mainGlobals "range" = some none)
    (z11 : PySem.W.nsIn K mainGlobals "set" = some none)
    (z12 : PySem.W.nsIn K mainGlobals "sorted" = some none)
    (z13 : PySem.W.nsIn K mainGlobals "str" = some none)
    (z14 : PySem.W.nsIn K mainGlobals "tuple" = some none)
    (z15 : PySem.W.nsIn K mainGlobals "zip" = some none) : Txt w K mg :=
  ⟨PySem.W.mg_none_of X G z0,
    PySem.W.mg_none_of X G z1,
    PySem.W.mg_none_of X G z2,
    PySem.W.mg_none_of X G z3,
    PySem.W.mg_none_of X G z4,
    PySem.W.mg_none_of X G z5,
    PySem.W.mg_none_of X G z6,
    PySem.W.mg_none_of X G z7,
    PySem.W.mg_none_of X G z8,
    PySem.W.mg_none_of X G z9,
    PySem.W.mg_none_of X G z10,
    PySem.W.mg_none_of X G z11,
    PySem.W.mg_none_of X G z12,
    PySem.W.mg_none_of X G z13,
    PySem.W.mg_none_of X G z14,
    PySem.W.mg_none_of X G z15,
    ⟨_, PySem.W.mg_of X G q0, fun H => .inr ⟨_, _, _, r0, t0, y0, u0, by have e := v0.length; simp only [Array.length_toList] at e; rw [← e]; exact small (by decide), v0⟩⟩,
    ⟨_, PySem.W.mg_of X G q1, _, rfl⟩,
    ⟨_, PySem.W.mg_of X G q2, _, rfl⟩,
    ⟨_, PySem.W.mg_of X G q3, _, rfl⟩,
    ⟨_, PySem.W.mg_of X G q4, fun H => .inr ⟨_, _, _, r4, t4, y4, u4, by have e := v4.length; simp only [Array.length_toList] at e; rw [← e]; exact small (by decide), v4⟩⟩,
    ⟨_, PySem.W.mg_of X G q5, fun H => .inr ⟨_, _, _, r5, t5, y5, u5, by have e := v5.length; simp only [Array.length_toList] at e; rw [← e]; exact small (by decide), v5⟩⟩,
    ⟨_, PySem.W.mg_of X G q6, fun H => .inr ⟨_, _, _, r6, t6, y6, u6, by have e := v6.length; simp only [Array.length_toList] at e; rw [← e]; exact small (by decide), v6⟩⟩,
    ⟨_, PySem.W.mg_of X G q7, _, rfl⟩,
    ⟨_, PySem.W.mg_of X G q8, _, rfl⟩,
    ⟨_, PySem.W.mg_of X G q9, _, rfl⟩,
    ⟨_, PySem.W.mg_of X G q10, _, rfl⟩,
    ⟨_, PySem.W.mg_of X G q11, _, rfl⟩,
    ⟨_, PySem.W.mg_of X G q12, _, rfl⟩,
    ⟨_, PySem.W.mg_of X G q13, _, rfl⟩,
    ⟨ca_FORMS, tt14_0, tt14_1, tt14_2, tt14_3, tt14_4, tt14_5, tt14_6, PySem.W.mg_of X G q14, ⟨co_FORMS, r14, o14, fun P => dictOf_mk x14 u14 (h14 P) (by show (List.map (fun x : Str × Value => x.1) [("table", Value.ref tt14_0), ("where", Value.ref tt14_1), ("keep", Value.ref tt14_2), ("named", Value.ref tt14_3), ("join", Value.ref tt14_4), ("group", Value.ref tt14_5), ("first", Value.ref tt14_6)]).Nodup; exact (by decide +kernel : (["table", "where", "keep", "named", "join", "group", "first"] : List Str).Nodup))⟩, ⟨f6, fun H => .inr ⟨_, _, _, r14_0, t14_0, y14_0, u14_0, by have e := v14_0.length; simp only [Array.length_toList] at e; rw [← e]; exact small (by show 1 ≤ 1000; decide), v14_0⟩, PySem.W.mg_of X G a6⟩, ⟨f21, f15, fun H => .inr ⟨_, _, _, r14_1, t14_1, y14_1, u14_1, by have e := v14_1.length; simp only [Array.length_toList] at e; rw [← e]; exact small (by show 2 ≤ 1000; decide), v14_1⟩, PySem.W.mg_of X G a21, PySem.W.mg_of X G a15⟩, ⟨f21, f16, fun H => .inr ⟨_, _, _, r14_2, t14_2, y14_2, u14_2, by have e := v14_2.length; simp only [Array.length_toList] at e; rw [← e]; exact small (by show 2 ≤ 1000; decide), v14_2⟩, PySem.W.mg_of X G a21, PySem.W.mg_of X G a16⟩, ⟨f21, f16, fun H => .inr ⟨_, _, _, r14_3, t14_3, y14_3, u14_3, by have e := v14_3.length; simp only [Array.length_toList] at e; rw [← e]; exact small (by show 2 ≤ 1000; decide), v14_3⟩, PySem.W.mg_of X G a21, PySem.W.mg_of X G a16⟩, ⟨f21, f21, f18, fun H => .inr ⟨_, _, _, r14_4, t14_4, y14_4, u14_4, by have e := v14_4.length; simp only [Array.length_toList] at e; rw [← e]; exact small (by show 3 ≤ 1000; decide), v14_4⟩, PySem.W.mg_of X G a21, PySem.W.mg_of X G a21, PySem.W.mg_of X G a18⟩, ⟨f21, f17, f19, fun H => .inr ⟨_, _, _, r14_5, t14_5, y14_5, u14_5, by have e := v14_5.length; simp only [Array.length_toList] at e; rw [← e]; exact small (by show 3 ≤ 1000; decide), v14_5⟩, PySem.W.mg_of X G a21, PySem.W.mg_of X G a17, PySem.W.mg_of X G a19⟩, ⟨f21, f20, f14, fun H => .inr ⟨_, _, _, r14_6, t14_6, y14_6, u14_6, by have e := v14_6.length; simp only [Array.length_toList] at e; rw [← e]; exact small (by show 3 ≤ 1000; decide), v14_6⟩, PySem.W.mg_of X G a21, PySem.W.mg_of X G a20, PySem.W.mg_of X G a14⟩⟩,
    ⟨f6, _, ⟨_, PySem.W.mg_of X G a6, rfl⟩, l6, w6⟩,
    ⟨f10, _, ⟨_, PySem.W.mg_of X G a10, rfl⟩, l10, w10⟩,
    ⟨f11, _, ⟨_, PySem.W.mg_of X G a11, rfl⟩, l11, w11⟩,
    ⟨f12, _, ⟨_, PySem.W.mg_of X G a12, rfl⟩, l12, w12⟩,
    ⟨f13, _, ⟨_, PySem.W.mg_of X G a13, rfl⟩, l13, w13⟩,
    ⟨f0, _, fun_mk (st := s_is_whole) l0 c0 k0, (fun_mk (st := s_is_whole) l0 c0 k0).binds (ps := ["thing"]) fun _ _ _ _ _ _ us hl => match us, hl with | [_], _ => rfl, PySem.W.mg_of X G a0⟩,
    ⟨f1, _, fun_mk (st := s_is_word) l1 c1 k1, (fun_mk (st := s_is_word) l1 c1 k1).binds (ps := ["thing"]) fun _ _ _ _ _ _ us hl => match us, hl with | [_], _ => rfl, PySem.W.mg_of X G a1⟩,
    ⟨f2, _, fun_mk (st := s_is_one_of) l2 c2 k2, (fun_mk (st := s_is_one_of) l2 c2 k2).binds (ps := ["thing", "texts"]) fun _ _ _ _ _ _ us hl => match us, hl with | [_, _], _ => rfl, PySem.W.mg_of X G a2⟩,
    ⟨f3, _, fun_mk (st := s_is_tuple_of) l3 c3 k3, (fun_mk (st := s_is_tuple_of) l3 c3 k3).binds (ps := ["thing", "least", "most", "is_part"]) fun _ _ _ _ _ _ us hl => match us, hl with | [_, _, _, _], _ => rfl, PySem.W.mg_of X G a3⟩,
    ⟨f4, _, fun_mk (st := s_are_unlike) l4 c4 k4, (fun_mk (st := s_are_unlike) l4 c4 k4).binds (ps := ["names"]) fun _ _ _ _ _ _ us hl => match us, hl with | [_], _ => rfl, PySem.W.mg_of X G a4⟩,
    ⟨f5, _, fun_mk (st := s_names_of) l5 c5 k5, (fun_mk (st := s_names_of) l5 c5 k5).binds (ps := ["head"]) fun _ _ _ _ _ _ us hl => match us, hl with | [_], _ => rfl, PySem.W.mg_of X G a5⟩,
    ⟨f6, _, fun_mk (st := s_is_name) l6 c6 k6, (fun_mk (st := s_is_name) l6 c6 k6).binds (ps := ["thing"]) fun _ _ _ _ _ _ us hl => match us, hl with | [_], _ => rfl, PySem.W.mg_of X G a6⟩,
    ⟨f7, _, fun_mk (st := s_is_value) l7 c7 k7, (fun_mk (st := s_is_value) l7 c7 k7).binds (ps := ["thing"]) fun _ _ _ _ _ _ us hl => match us, hl with | [_], _ => rfl, PySem.W.mg_of X G a7⟩,
    ⟨f8, _, fun_mk (st := s_kind_of) l8 c8 k8, (fun_mk (st := s_kind_of) l8 c8 k8).binds (ps := ["value"]) fun _ _ _ _ _ _ us hl => match us, hl with | [_], _ => rfl, PySem.W.mg_of X G a8⟩,
    ⟨f9, _, fun_mk (st := s_is_other) l9 c9 k9, (fun_mk (st := s_is_other) l9 c9 k9).binds (ps := ["thing"]) fun _ _ _ _ _ _ us hl => match us, hl with | [_], _ => rfl, PySem.W.mg_of X G a9⟩,
    ⟨f10, _, fun_mk (st := s_is_test) l10 c10 k10, (fun_mk (st := s_is_test) l10 c10 k10).binds (ps := ["thing"]) fun _ _ _ _ _ _ us hl => match us, hl with | [_], _ => rfl, PySem.W.mg_of X G a10⟩,
    ⟨f11, _, fun_mk (st := s_is_pair) l11 c11 k11, (fun_mk (st := s_is_pair) l11 c11 k11).binds (ps := ["thing"]) fun _ _ _ _ _ _ us hl => match us, hl with | [_], _ => rfl, PySem.W.mg_of X G a11⟩,
    ⟨f12, _, fun_mk (st := s_is_sum) l12 c12 k12, (fun_mk (st := s_is_sum) l12 c12 k12).binds (ps := ["thing"]) fun _ _ _ _ _ _ us hl => match us, hl with | [_], _ => rfl, PySem.W.mg_of X G a12⟩,
    ⟨f13, _, fun_mk (st := s_is_key) l13 c13 k13, (fun_mk (st := s_is_key) l13 c13 k13).binds (ps := ["thing"]) fun _ _ _ _ _ _ us hl => match us, hl with | [_], _ => rfl, PySem.W.mg_of X G a13⟩,
    ⟨f14, _, fun_mk (st := s_is_many) l14 c14 k14, (fun_mk (st := s_is_many) l14 c14 k14).binds (ps := ["thing"]) fun _ _ _ _ _ _ us hl => match us, hl with | [_], _ => rfl, PySem.W.mg_of X G a14⟩,
    ⟨f15, _, fun_mk (st := s_are_tests) l15 c15 k15, (fun_mk (st := s_are_tests) l15 c15 k15).binds (ps := ["thing"]) fun _ _ _ _ _ _ us hl => match us, hl with | [_], _ => rfl, PySem.W.mg_of X G a15⟩,
    ⟨f16, _, fun_mk (st := s_are_names) l16 c16 k16, (fun_mk (st := s_are_names) l16 c16 k16).binds (ps := ["thing"]) fun _ _ _ _ _ _ us hl => match us, hl with | [_], _ => rfl, PySem.W.mg_of X G a16⟩,
    ⟨f17, _, fun_mk (st := s_are_group_names) l17 c17 k17, (fun_mk (st := s_are_group_names) l17 c17 k17).binds (ps := ["thing"]) fun _ _ _ _ _ _ us hl => match us, hl with | [_], _ => rfl, PySem.W.mg_of X G a17⟩,
    ⟨f18, _, fun_mk (st := s_are_pairs) l18 c18 k18, (fun_mk (st := s_are_pairs) l18 c18 k18).binds (ps := ["thing"]) fun _ _ _ _ _ _ us hl => match us, hl with | [_], _ => rfl, PySem.W.mg_of X G a18⟩,
    ⟨f19, _, fun_mk (st := s_are_sums) l19 c19 k19, (fun_mk (st := s_are_sums) l19 c19 k19).binds (ps := ["thing"]) fun _ _ _ _ _ _ us hl => match us, hl with | [_], _ => rfl, PySem.W.mg_of X G a19⟩,
    ⟨f20, _, fun_mk (st := s_are_keys) l20 c20 k20, (fun_mk (st := s_are_keys) l20 c20 k20).binds (ps := ["thing"]) fun _ _ _ _ _ _ us hl => match us, hl with | [_], _ => rfl, PySem.W.mg_of X G a20⟩,
    ⟨f21, _, fun_mk (st := s_may_be_question) l21 c21 k21, (fun_mk (st := s_may_be_question) l21 c21 k21).binds (ps := ["thing"]) fun _ _ _ _ _ _ us hl => match us, hl with | [_], _ => rfl, PySem.W.mg_of X G a21⟩,
    ⟨f22, _, fun_mk (st := s_has_form) l22 c22 k22, (fun_mk (st := s_has_form) l22 c22 k22).binds (ps := ["thing"]) fun _ _ _ _ _ _ us hl => match us, hl with | [_], _ => rfl, PySem.W.mg_of X G a22⟩,
    ⟨f23, _, fun_mk (st := s_questions_in) l23 c23 k23, (fun_mk (st := s_questions_in) l23 c23 k23).binds (ps := ["question"]) fun _ _ _ _ _ _ us hl => match us, hl with | [_], _ => rfl, PySem.W.mg_of X G a23⟩,
    ⟨f24, _, fun_mk (st := s_own_size) l24 c24 k24, (fun_mk (st := s_own_size) l24 c24 k24).binds (ps := ["question"]) fun _ _ _ _ _ _ us hl => match us, hl with | [_], _ => rfl, PySem.W.mg_of X G a24⟩,
    ⟨f25, _, fun_mk (st := s_checked) l25 c25 k25, (fun_mk (st := s_checked) l25 c25 k25).binds (ps := ["thing"]) fun _ _ _ _ _ _ us hl => match us, hl with | [_], _ => rfl, PySem.W.mg_of X G a25⟩,
    ⟨f26, _, fun_mk (st := s_kind_in) l26 c26 k26, (fun_mk (st := s_kind_in) l26 c26 k26).binds (ps := ["head", "name"]) fun _ _ _ _ _ _ us hl => match us, hl with | [_, _], _ => rfl, PySem.W.mg_of X G a26⟩,
    ⟨f27, _, fun_mk (st := s_need_like_kinds) l27 c27 k27, (fun_mk (st := s_need_like_kinds) l27 c27 k27).binds (ps := ["kinds", "others"]) fun _ _ _ _ _ _ us hl => match us, hl with | [_, _], _ => rfl, PySem.W.mg_of X G a27⟩,
    ⟨f28, _, fun_mk (st := s_need_unlike) l28 c28 k28, (fun_mk (st := s_need_unlike) l28 c28 k28).binds (ps := ["names"]) fun _ _ _ _ _ _ us hl => match us, hl with | [_], _ => rfl, PySem.W.mg_of X G a28⟩,
    ⟨f29, _, fun_mk (st := s_table_head) l29 c29 k29, (fun_mk (st := s_table_head) l29 c29 k29).binds (ps := ["heads", "name"]) fun _ _ _ _ _ _ us hl => match us, hl with | [_, _], _ => rfl, PySem.W.mg_of X G a29⟩,
    ⟨f30, _, fun_mk (st := s_other_kind) l30 c30 k30, (fun_mk (st := s_other_kind) l30 c30 k30).binds (ps := ["head", "other"]) fun _ _ _ _ _ _ us hl => match us, hl with | [_, _], _ => rfl, PySem.W.mg_of X G a30⟩,
    ⟨f31, _, fun_mk (st := s_where_head) l31 c31 k31, (fun_mk (st := s_where_head) l31 c31 k31).binds (ps := ["head", "tests"]) fun _ _ _ _ _ _ us hl => match us, hl with | [_, _], _ => rfl, PySem.W.mg_of X G a31⟩,
    ⟨f32, _, fun_mk (st := s_keep_head) l32 c32 k32, (fun_mk (st := s_keep_head) l32 c32 k32).binds (ps := ["head", "names"]) fun _ _ _ _ _ _ us hl => match us, hl with | [_, _], _ => rfl, PySem.W.mg_of X G a32⟩,
    ⟨f33, _, fun_mk (st := s_named_head) l33 c33 k33, (fun_mk (st := s_named_head) l33 c33 k33).binds (ps := ["head", "names"]) fun _ _ _ _ _ _ us hl => match us, hl with | [_, _], _ => rfl, PySem.W.mg_of X G a33⟩,
    ⟨f34, _, fun_mk (st := s_join_head) l34 c34 k34, (fun_mk (st := s_join_head) l34 c34 k34).binds (ps := ["head", "other", "pairs"]) fun _ _ _ _ _ _ us hl => match us, hl with | [_, _, _], _ => rfl, PySem.W.mg_of X G a34⟩,
    ⟨f35, _, fun_mk (st := s_sum_kind) l35 c35 k35, (fun_mk (st := s_sum_kind) l35 c35 k35).binds (ps := ["head", "part"]) fun _ _ _ _ _ _ us hl => match us, hl with | [_, _], _ => rfl, PySem.W.mg_of X G a35⟩,
    ⟨f36, _, fun_mk (st := s_group_head) l36 c36 k36, (fun_mk (st := s_group_head) l36 c36 k36).binds (ps := ["head", "names", "sums"]) fun _ _ _ _ _ _ us hl => match us, hl with | [_, _, _], _ => rfl, PySem.W.mg_of X G a36⟩,
    ⟨f37, _, fun_mk (st := s_first_head) l37 c37 k37, (fun_mk (st := s_first_head) l37 c37 k37).binds (ps := ["head", "keys"]) fun _ _ _ _ _ _ us hl => match us, hl with | [_, _], _ => rfl, PySem.W.mg_of X G a37⟩,
    ⟨f38, _, fun_mk (st := s_head_here) l38 c38 k38, (fun_mk (st := s_head_here) l38 c38 k38).binds (ps := ["heads", "question", "inner"]) fun _ _ _ _ _ _ us hl => match us, hl with | [_, _, _], _ => rfl, PySem.W.mg_of X G a38⟩,
    ⟨f39, _, fun_mk (st := s_head_within) l39 c39 k39, (fun_mk (st := s_head_within) l39 c39 k39).binds (ps := ["heads", "question"]) fun _ _ _ _ _ _ us hl => match us, hl with | [_, _], _ => rfl, PySem.W.mg_of X G a39⟩,
    ⟨f40, _, fun_mk (st := s_head_of) l40 c40 k40, (fun_mk (st := s_head_of) l40 c40 k40).binds (ps := ["heads", "question"]) fun _ _ _ _ _ _ us hl => match us, hl with | [_, _], _ => rfl, PySem.W.mg_of X G a40⟩,
    ⟨f41, _, fun_mk (st := s__law_seed) l41 c41 k41, (fun_mk (st := s__law_seed) l41 c41 k41).binds (ps := ["_law_script"]) fun _ _ _ _ _ _ us hl => match us, hl with | [_], _ => rfl, PySem.W.mg_of X G a41⟩,
    ⟨f42, _, fun_mk (st := s__law_next) l42 c42 k42, (fun_mk (st := s__law_next) l42 c42 k42).binds (ps := ["_law_state", "_law_many"]) fun _ _ _ _ _ _ us hl => match us, hl with | [_, _], _ => rfl, PySem.W.mg_of X G a42⟩,
    ⟨f43, _, fun_mk (st := s__law_words) l43 c43 k43, (fun_mk (st := s__law_words) l43 c43 k43).binds (ps := []) fun _ _ _ _ _ _ us hl => match us, hl with | [], _ => rfl, PySem.W.mg_of X G a43⟩,
    ⟨f44, _, fun_mk (st := s__law_names) l44 c44 k44, (fun_mk (st := s__law_names) l44 c44 k44).binds (ps := ["_law_state", "_law_many"]) fun _ _ _ _ _ _ us hl => match us, hl with | [_, _], _ => rfl, PySem.W.mg_of X G a44⟩,
    ⟨f45, _, fun_mk (st := s__law_great) l45 c45 k45, (fun_mk (st := s__law_great) l45 c45 k45).binds (ps := ["_law_state"]) fun _ _ _ _ _ _ us hl => match us, hl with | [_], _ => rfl, PySem.W.mg_of X G a45⟩,
    ⟨f46, _, fun_mk (st := s__law_value) l46 c46 k46, (fun_mk (st := s__law_value) l46 c46 k46).binds (ps := ["_law_state", "_law_kind"]) fun _ _ _ _ _ _ us hl => match us, hl with | [_, _], _ => rfl, PySem.W.mg_of X G a46⟩,
    ⟨f47, _, fun_mk (st := s__law_head) l47 c47 k47, (fun_mk (st := s__law_head) l47 c47 k47).binds (ps := ["_law_state", "_law_names_here"]) fun _ _ _ _ _ _ us hl => match us, hl with | [_, _], _ => rfl, PySem.W.mg_of X G a47⟩,
    ⟨f48, _, fun_mk (st := s__law_tests) l48 c48 k48, (fun_mk (st := s__law_tests) l48 c48 k48).binds (ps := ["_law_state", "_law_head_here"]) fun _ _ _ _ _ _ us hl => match us, hl with | [_, _], _ => rfl, PySem.W.mg_of X G a48⟩,
    ⟨f49, _, fun_mk (st := s__law_some) l49 c49 k49, (fun_mk (st := s__law_some) l49 c49 k49).binds (ps := ["_law_state", "_law_head_here", "_law_least"]) fun _ _ _ _ _ _ us hl => match us, hl with | [_, _, _], _ => rfl, PySem.W.mg_of X G a49⟩,
    ⟨f50, _, fun_mk (st := s__law_sums) l50 c50 k50, (fun_mk (st := s__law_sums) l50 c50 k50).binds (ps := ["_law_state", "_law_head_here", "_law_fresh_here"]) fun _ _ _ _ _ _ us hl => match us, hl with | [_, _, _], _ => rfl, PySem.W.mg_of X G a50⟩,
    ⟨f51, _, fun_mk (st := s__law_group) l51 c51 k51, (fun_mk (st := s__law_group) l51 c51 k51).binds (ps := ["_law_state", "_law_question_here", "_law_head_here", "_law_names_here"]) fun _ _ _ _ _ _ us hl => match us, hl with | [_, _, _, _], _ => rfl, PySem.W.mg_of X G a51⟩,
    ⟨f52, _, fun_mk (st := s__law_keys) l52 c52 k52, (fun_mk (st := s__law_keys) l52 c52 k52).binds (ps := ["_law_state", "_law_head_here"]) fun _ _ _ _ _ _ us hl => match us, hl with | [_, _], _ => rfl, PySem.W.mg_of X G a52⟩,
    ⟨f53, _, fun_mk (st := s__law_fresh) l53 c53 k53, (fun_mk (st := s__law_fresh) l53 c53 k53).binds (ps := ["_law_question_here", "_law_head_here", "_law_own", "_law_names_here"]) fun _ _ _ _ _ _ us hl => match us, hl with | [_, _, _, _], _ => rfl, PySem.W.mg_of X G a53⟩,
    ⟨f54, _, fun_mk (st := s__law_join) l54 c54 k54, (fun_mk (st := s__law_join) l54 c54 k54).binds (ps := ["_law_state", "_law_question_here", "_law_head_here", "_law_other", "_law_other_head", "_law_names_here"]) fun _ _ _ _ _ _ us hl => match us, hl with | [_, _, _, _, _, _], _ => rfl, PySem.W.mg_of X G a54⟩,
    ⟨f55, _, fun_mk (st := s__law_question) l55 c55 k55, (fun_mk (st := s__law_question) l55 c55 k55).binds (ps := ["_law_state", "_law_heads", "_law_names_here", "_law_deep"]) fun _ _ _ _ _ _ us hl => match us, hl with | [_, _, _, _], _ => rfl, PySem.W.mg_of X G a55⟩,
    ⟨f56, _, fun_mk (st := s__law_more) l56 c56 k56, (fun_mk (st := s__law_more) l56 c56 k56).binds (ps := ["_law_state", "_law_question_here", "_law_head_here", "_law_names_here"]) fun _ _ _ _ _ _ us hl => match us, hl with | [_, _, _, _], _ => rfl, PySem.W.mg_of X G a56⟩,
    ⟨f57, _, fun_mk (st := s__law_alike) l57 c57 k57, (fun_mk (st := s__law_alike) l57 c57 k57).binds (ps := ["_law_found", "_law_due"]) fun _ _ _ _ _ _ us hl => match us, hl with | [_, _], _ => rfl, PySem.W.mg_of X G a57⟩,
    ⟨f58, _, fun_mk (st := s_law) l58 c58 k58, (fun_mk (st := s_law) l58 c58 k58).binds (ps := ["_law_script"]) fun _ _ _ _ _ _ us hl => match us, hl with | [_], _ => rfl, PySem.W.mg_of X G a58⟩⟩
end My
set_option Elab.async false
set_option linter.all false
set_option maxRecDepth 100000
open PySem PySem.W PyProof.Rows
def PySem.W.Fast.tw12281975478315738970:=0
def PySem.W.Fast.tw7304716596386692128:=0
def PySem.W.Fast.tw3569414990719030439:=0
def PySem.W.Fast.tw13596466291133808997:=0
def PySem.W.Fast.tw8596291063288580846:=0
def PySem.W.Fast.tw4822911144717203390:=0
def PySem.W.Fast.tw13678235164091236713:=0
def PySem.W.Fast.tw12101063296377734645:=0
def PySem.W.Fast.tw7693335555967662164:=0
def PySem.W.Fast.tw16180515604964540413:=0
def PySem.W.Fast.tw10972753664238964349:=0
def PySem.W.Fast.tw12600146207471876653:=0
def PySem.W.Fast.tw6138284886961789154:=0
def PySem.W.Fast.tw12200740218992856556:=0
def PySem.W.Fast.tw17976298301068934050:=0
def PySem.W.Fast.tw13262342758028869812:=0
def PySem.W.Fast.tw14870982318571427572:=0
def PySem.W.Fast.tw5325502475193737933:=0
def PySem.W.Fast.tw6599256592902501138:=0
def PySem.W.Fast.tw4242880269804927221:=0
def PySem.W.Fast.tw7607953743434431308:=0
def PySem.W.Fast.tw9282112858726331658:=0
def PySem.W.Fast.tw4004485638564527625:=0
def PySem.W.Fast.tw15931981515313860787:=0
def PySem.W.Fast.tw7606912090922146736:=0
def PySem.W.Fast.tw5362911292791889172:=0
def PySem.W.Fast.tw7479472574957010941:=0
def PySem.W.Fast.tw12831661578403543021:=0
def PySem.W.Fast.tw8836253987324804941:=0
def PySem.W.Fast.tw8490866919785933752:=0
def PySem.W.Fast.tw5736899109274191537:=0
def PySem.W.Fast.tw8173568607599329715:=0
def PySem.W.Fast.tw13700882953406679216:=0
def PySem.W.Fast.tw6314066247261791766:=0
def PySem.W.Fast.tw8377824537982841179:=0
def PySem.W.Fast.tw4693269725382560592:=0
def PySem.W.Fast.tw8352045263972594369:=0
def PySem.W.Fast.tw12908655886435789916:=0
def PySem.W.Fast.tw10638921738219645914:=0
def PySem.W.Fast.tw189608504777648544:=0
def PySem.W.Fast.tw13373448449645414190:=0
def PySem.W.Fast.tw5097021983023492227:=0
def PySem.W.Fast.tw15429262798601310258:=0
def PySem.W.Fast.tw11415144917805592437:=0
def PySem.W.Fast.tw17099621005135917608:=0
def PySem.W.Fast.tw17479175746953172954:=0
def PySem.W.Fast.tw9873376767733517245:=0
def PySem.W.Fast.tw7667476410608064046:=0
def PySem.W.Fast.tw7339338427734430400:=0
def PySem.W.Fast.tw16494299544925530421:=0
def PySem.W.Fast.tw15302783628812854293:=0
def PySem.W.Fast.tw3503348516712488852:=0
def PySem.W.Fast.tw5211354240743897584:=0
def PySem.W.Fast.tw4703890595182940241:=0
def PySem.W.Fast.tw15272019975975327305:=0
def PySem.W.Fast.tw16940040694276527630:=0
def PySem.W.Fast.tw6620713585094507492:=0
def PySem.W.Fast.tw8711624672273399537:=0
def PySem.W.Fast.tw6693713502207508895:=0
def PySem.W.Fast.tw11407807290493753888:=0
def PySem.W.Fast.tw12605087009886060642:=0
def PySem.W.Fast.tw7474902503222098429:=0
def PySem.W.Fast.tw7324676924657814663:=0
def PySem.W.Fast.tw5786225522536996006:=0
def PySem.W.Fast.tw13180210068588441294:=0
def PySem.W.Fast.tw11891354316243350476:=0
def PySem.W.Fast.tw9947545156257148206:=0
def PySem.W.Fast.tw17957809495257683238:=0
def PySem.W.Fast.tw7091066947339861577:=0
def PySem.W.Fast.tw16555426639939203373:=0
def PySem.W.Fast.tw10418647218643903673:=0
def PySem.W.Fast.tw4119889397915545680:=0
def PySem.W.Fast.tw10759124905704806220:=0
def PySem.W.Fast.tw15681663979703417042:=0
def PySem.W.Fast.tw939639321061277995:=0
def PySem.W.Fast.tw2320511600350609241:=0
def PySem.W.Fast.tw13305683199331307815:=0
def PySem.W.Fast.tw9661801664947106583:=0
def PySem.W.Fast.tw10313663903229037204:=0
def PySem.W.Fast.tw17583395351156646074:=0
def PySem.W.Fast.tw11887458311865225395:=0
def PySem.W.Fast.tw8736994691242124279:=0
def PySem.W.Fast.tw667118098880023953:=0
def PySem.W.Fast.tw6718574125326410677:=0
def PySem.W.Fast.tw15661095472823982927:=0
def PySem.W.Fast.tw12162138881181158790:=0
def PySem.W.Fast.tw5927383614182647976:=0
def PySem.W.Fast.tw278282414755467060:=0
def PySem.W.Fast.tw1876782255370805732:=0
def PySem.W.Fast.tw6083701568960459198:=0
def PySem.W.Fast.tw11389192837624146385:=0
def PySem.W.Fast.tw11527738593929154780:=0
def PySem.W.Fast.tw11071331310206562979:=0
def PySem.W.Fast.tw11845687568832102838:=0
def PySem.W.Fast.tw8333343383778092213:=0
def PySem.W.Fast.tw6552146130113134467:=0
def PySem.W.Fast.tw6793373388555334670:=0
def PySem.W.Fast.tw2994699842279057108:=0
def PySem.W.Fast.tw17798109814523772996:=0
def PySem.W.Fast.tw8758452126839992862:=0
def PySem.W.Fast.tw706431947298941501:=0
def PySem.W.Fast.tw9356068505149514757:=0
def PySem.W.Fast.tw2438576917149137781:=0
def PySem.W.Fast.tw9748613597655500505:=0
def PySem.W.Fast.tw825286718922494470:=0
def PySem.W.Fast.tw12676894105221275137:=0
def PySem.W.Fast.tw471906412991456737:=0
def PySem.W.Fast.tw9990037676084199266:=0
def PySem.W.Fast.tw6162109435593393780:=0
def PySem.W.Fast.tw16293752337782421059:=0
def PySem.W.Fast.tw12884370531117347167:=0
def PySem.W.Fast.tw16518727422403722992:=0
def PySem.W.Fast.tw4621796242305137333:=0
def PySem.W.Fast.tw15971368229511574281:=0
def PySem.W.Fast.tw13273952995733486020:=0
def PySem.W.Fast.tw633005001821693591:=0
def PySem.W.Fast.tw9343661991202606224:=0
def PySem.W.Fast.tw13884012372906809579:=0
def PySem.W.Fast.tw10997565995130638509:=0
def PySem.W.Fast.tw2471480539957856864:=0
def PySem.W.Fast.tw9409934123290492523:=0
def PySem.W.Fast.tw11938243162484316264:=0
def PySem.W.Fast.tw1813804076759232887:=0
def PySem.W.Fast.tw374071869671643081:=0
def PySem.W.Fast.tw5474564458983199190:=0
def PySem.W.Fast.tw16768710122351084311:=0
def PySem.W.Fast.tw17341758230853890688:=0
def PySem.W.Fast.tw10382936692930842814:=0
def PySem.W.Fast.tw8452435940981781658:=0
def PySem.W.Fast.tw12516490301882490855:=0
def PySem.W.Fast.tw6358820569278082388:=0
def PySem.W.Fast.tw2802328246772948359:=0
def PySem.W.Fast.tw12552393213039619990:=0
def PySem.W.Fast.tw2791908867833921317:=0
def PySem.W.Fast.tw7517307884517199506:=0
def PySem.W.Fast.tw6107907561888053771:=0
def PySem.W.Fast.tw12119575294901004948:=0
def PySem.W.Fast.tw2034839939300580487:=0
def PySem.W.Fast.tw6812092515437994268:=0
def PySem.W.Fast.tw14126007542204000291:=0
def PySem.W.Fast.tw6851954800928782668:=0
def PySem.W.Fast.tw14373954711416497538:=0
def PySem.W.Fast.tw4858210442644076426:=0
def PySem.W.Fast.tw4576166549270433722:=0
def PySem.W.Fast.tw13448378479196828312:=0
def PySem.W.Fast.tw8997024426294628101:=0
def PySem.W.Fast.tw16104804017096475892:=0
def PySem.W.Fast.tw7370477801807814625:=0
def PySem.W.Fast.tw3505137755676498300:=0
def PySem.W.Fast.tw16545238441217080869:=0
def PySem.W.Fast.tw17992968047082049564:=0
def PySem.W.Fast.tw2965766632714335029:=0
def PySem.W.Fast.tw9379600915873306336:=0
set_option maxRecDepth 100000 in
set_option maxHeartbeats 0 in
theorem PySem.Challenge.cw_shardask_k05_heads_told_holds : PySem.Challenge.rw_shardask_k05_heads_told.Holds := by
  w_on; o_law; k_head; (case hw => w_witness2)
  k_fill
  refine L2.walk_ofK (l := PySem.Challenge.rw_shardask_k05_heads_told) (n := 63) (k := 28) (x := "_law_script") (CX := L2.CX0) (sp := My.sp_law) rfl (by decide) rfl ⟨rfl, by decide, by decide⟩ (fun w h Y => PySem.W.kIn_of Y) ?F (fun K H a ns hl hO hS => My.sp_law_of hl hS) (fun _ _ _ _ z => z)
  case F =>
    intro w mg fa h KX G hmg
    have T : My.Txt w (L2.KOf KX) mg := by
      dsimp only [L2.KOf]
      refine' My.txt_mk KX G ?a0 ?l0 ?c0 ?k0 ?a1 ?l1 ?c1 ?k1 ?a2 ?l2 ?c2 ?k2 ?a3 ?l3 ?c3 ?k3 ?a4 ?l4 ?c4 ?k4 ?a5 ?l5 ?c5 ?k5 ?a6 ?l6 ?c6 ?k6 ?w6 ?a7 ?l7 ?c7 ?k7 ?a8 ?l8 ?c8 ?k8 ?a9 ?l9 ?c9 ?k9 ?a10 ?l10 ?c10 ?k10 ?w10 ?a11 ?l11 ?c11 ?k11 ?w11 ?a12 ?l12 ?c12 ?k12 ?w12 ?a13 ?l13 ?c13 ?k13 ?w13 ?a14 ?l14 ?c14 ?k14 ?a15 ?l15 ?c15 ?k15 ?a16 ?l16 ?c16 ?k16 ?a17 ?l17 ?c17 ?k17 ?a18 ?l18 ?c18 ?k18 ?a19 ?l19 ?c19 ?k19 ?a20 ?l20 ?c20 ?k20 ?a21 ?l21 ?c21 ?k21 ?a22 ?l22 ?c22 ?k22 ?a23 ?l23 ?c23 ?k23 ?a24 ?l24 ?c24 ?k24 ?a25 ?l25 ?c25 ?k25 ?a26 ?l26 ?c26 ?k26 ?a27 ?l27 ?c27 ?k27 ?a28 ?l28 ?c28 ?k28 ?a29 ?l29 ?c29 ?k29 ?a30 ?l30 ?c30 ?k30 ?a31 ?l31 ?c31 ?k31 ?a32 ?l32 ?c32 ?k32 ?a33 ?l33 ?c33 ?k33 ?a34 ?l34 ?c34 ?k34 ?a35 ?l35 ?c35 ?k35 ?a36 ?l36 ?c36 ?k36 ?a37 ?l37 ?c37 ?k37 ?a38 ?l38 ?c38 ?k38 ?a39 ?l39 ?c39 ?k39 ?a40 ?l40 ?c40 ?k40 ?a41 ?l41 ?c41 ?k41 ?a42 ?l42 ?c42 ?k42 ?a43 ?l43 ?c43 ?k43 ?a44 ?l44 ?c44 ?k44 ?a45 ?l45 ?c45 ?k45 ?a46 ?l46 ?c46 ?k46 ?a47 ?l47 ?c47 ?k47 ?a48 ?l48 ?c48 ?k48 ?a49 ?l49 ?c49 ?k49 ?a50 ?l50 ?c50 ?k50 ?a51 ?l51 ?c51 ?k51 ?a52 ?l52 ?c52 ?k52 ?a53 ?l53 ?c53 ?k53 ?a54 ?l54 ?c54 ?k54 ?a55 ?l55 ?c55 ?k55 ?a56 ?l56 ?c56 ?k56 ?a57 ?l57 ?c57 ?k57 ?a58 ?l58 ?c58 ?k58 ?q0 ?r0 ?t0 ?y0 ?u0 ?v0 ?q1 ?q2 ?q3 ?q4 ?r4 ?t4 ?y4 ?u4 ?v4 ?q5 ?r5 ?t5 ?y5 ?u5 ?v5 ?q6 ?r6 ?t6 ?y6 ?u6 ?v6 ?q7 ?q8 ?q9 ?q10 ?q11 ?q12 ?q13 ?q14 ?r14 ?x14 ?o14 ?u14 ?h14 ?r14_0 ?t14_0 ?y14_0 ?u14_0 ?v14_0 ?r14_1 ?t14_1 ?y14_1 ?u14_1 ?v14_1 ?r14_2 ?t14_2 ?y14_2 ?u14_2 ?v14_2 ?r14_3 ?t14_3 ?y14_3 ?u14_3 ?v14_3 ?r14_4 ?t14_4 ?y14_4 ?u14_4 ?v14_4 ?r14_5 ?t14_5 ?y14_5 ?u14_5 ?v14_5 ?r14_6 ?t14_6 ?y14_6 ?u14_6 ?v14_6 ?z0 ?z1 ?z2 ?z3 ?z4 ?z5 ?z6 ?z7 ?z8 ?z9 ?z10 ?z11 ?z12 ?z13 ?z14 ?z15
      (case a0 => k_is)
      (case l0 => k_is)
      (case c0 => k_is)
      (case k0 => k_is)
      (case a1 => k_is)
      (case l1 => k_is)
      (case c1 => k_is)
      (case k1 => k_is)
      (case a2 => k_is)
      (case l2 => k_is)
      (case c2 => k_is)
      (case k2 => k_is)
      (case a3 => k_is)
      (case l3 => k_is)
      (case c3 => k_is)
      (case k3 => k_is)
      (case a4 => k_is)
      (case l4 => k_is)
      (case c4 => k_is)
      (case k4 => k_is)
      (case a5 => k_is)
      (case l5 => k_is)
      (case c5 => k_is)
      (case k5 => k_is)
      (case a6 => k_is)
      (case l6 => k_is)
      (case c6 => k_is)
      (case k6 => k_is)
      (case w6 => rfl)
      (case a7 => k_is)
      (case l7 => k_is)
      (case c7 => k_is)
      (case k7 => k_is)
      (case a8 => k_is)
      (case l8 => k_is)
      (case c8 => k_is)
      (case k8 => k_is)
      (case a9 => k_is)
      (case l9 => k_is)
      (case c9 => k_is)
      (case k9 => k_is)
      (case a10 => k_is)
      (case l10 => k_is)
      (case c10 => k_is)
      (case k10 => k_is)
      (case w10 => rfl)
      (case a11 => k_is)
      (case l11 => k_is)
      (case c11 => k_is)
      (case k11 => k_is)
      (case w11 => rfl)
      (case a12 => k_is)
      (case l12 => k_is)
      (case c12 => k_is)
      (case k12 => k_is)
      (case w12 => rfl)
      (case a13 => k_is)
      (case l13 => k_is)
      (case c13 => k_is)
      (case k13 => k_is)
      (case w13 => rfl)
      (case a14 => k_is)
      (case l14 => k_is)
      (case c14 => k_is)
      (case k14 => k_is)
      (case a15 => k_is)
      (case l15 => k_is)
      (case c15 => k_is)
      (case k15 => k_is)
      (case a16 => k_is)
      (case l16 => k_is)
      (case c16 => k_is)
      (case k16 => k_is)
      (case a17 => k_is)
      (case l17 => k_is)
      (case c17 => k_is)
      (case k17 => k_is)
      (case a18 => k_is)
      (case l18 => k_is)
      (case c18 => k_is)
      (case k18 => k_is)
      (case a19 => k_is)
      (case l19 => k_is)
      (case c19 => k_is)
      (case k19 => k_is)
      (case a20 => k_is)
      (case l20 => k_is)
      (case c20 => k_is)
      (case k20 => k_is)
      (case a21 => k_is)
      (case l21 => k_is)
      (case c21 => k_is)
      (case k21 => k_is)
      (case a22 => k_is)
      (case l22 => k_is)
      (case c22 => k_is)
      (case k22 => k_is)
      (case a23 => k_is)
      (case l23 => k_is)
      (case c23 => k_is)
      (case k23 => k_is)
      (case a24 => k_is)
      (case l24 => k_is)
      (case c24 => k_is)
      (case k24 => k_is)
      (case a25 => k_is)
      (case l25 => k_is)
      (case c25 => k_is)
      (case k25 => k_is)
      (case a26 => k_is)
      (case l26 => k_is)
      (case c26 => k_is)
      (case k26 => k_is)
      (case a27 => k_is)
      (case l27 => k_is)
      (case c27 => k_is)
      (case k27 => k_is)
      (case a28 => k_is)
      (case l28 => k_is)
      (case c28 => k_is)
      (case k28 => k_is)
      (case a29 => k_is)
      (case l29 => k_is)
      (case c29 => k_is)
      (case k29 => k_is)
      (case a30 => k_is)
      (case l30 => k_is)
      (case c30 => k_is)
      (case k30 => k_is)
      (case a31 => k_is)
      (case l31 => k_is)
      (case c31 => k_is)
      (case k31 => k_is)
      (case a32 => k_is)
      (case l32 => k_is)
      (case c32 => k_is)
      (case k32 => k_is)
      (case a33 => k_is)
      (case l33 => k_is)
      (case c33 => k_is)
      (case k33 => k_is)
      (case a34 => k_is)
      (case l34 => k_is)
      (case c34 => k_is)
      (case k34 => k_is)
      (case a35 => k_is)
      (case l35 => k_is)
      (case c35 => k_is)
      (case k35 => k_is)
      (case a36 => k_is)
      (case l36 => k_is)
      (case c36 => k_is)
      (case k36 => k_is)
      (case a37 => k_is)
      (case l37 => k_is)
      (case c37 => k_is)
      (case k37 => k_is)
      (case a38 => k_is)
      (case l38 => k_is)
      (case c38 => k_is)
      (case k38 => k_is)
      (case a39 => k_is)
      (case l39 => k_is)
      (case c39 => k_is)
      (case k39 => k_is)
      (case a40 => k_is)
      (case l40 => k_is)
      (case c40 => k_is)
      (case k40 => k_is)
      (case a41 => k_is)
      (case l41 => k_is)
      (case c41 => k_is)
      (case k41 => k_is)
      (case a42 => k_is)
      (case l42 => k_is)
      (case c42 => k_is)
      (case k42 => k_is)
      (case a43 => k_is)
      (case l43 => k_is)
      (case c43 => k_is)
      (case k43 => k_is)
      (case a44 => k_is)
      (case l44 => k_is)
      (case c44 => k_is)
      (case k44 => k_is)
      (case a45 => k_is)
      (case l45 => k_is)
      (case c45 => k_is)
      (case k45 => k_is)
      (case a46 => k_is)
      (case l46 => k_is)
      (case c46 => k_is)
      (case k46 => k_is)
      (case a47 => k_is)
      (case l47 => k_is)
      (case c47 => k_is)
      (case k47 => k_is)
      (case a48 => k_is)
      (case l48 => k_is)
      (case c48 => k_is)
      (case k48 => k_is)
      (case a49 => k_is)
      (case l49 => k_is)
      (case c49 => k_is)
      (case k49 => k_is)
      (case a50 => k_is)
      (case l50 => k_is)
      (case c50 => k_is)
      (case k50 => k_is)
      (case a51 => k_is)
      (case l51 => k_is)
      (case c51 => k_is)
      (case k51 => k_is)
      (case a52 => k_is)
      (case l52 => k_is)
      (case c52 => k_is)
      (case k52 => k_is)
      (case a53 => k_is)
      (case l53 => k_is)
      (case c53 => k_is)
      (case k53 => k_is)
      (case a54 => k_is)
      (case l54 => k_is)
      (case c54 => k_is)
      (case k54 => k_is)
      (case a55 => k_is)
      (case l55 => k_is)
      (case c55 => k_is)
      (case k55 => k_is)
      (case a56 => k_is)
      (case l56 => k_is)
      (case c56 => k_is)
      (case k56 => k_is)
      (case a57 => k_is)
      (case l57 => k_is)
      (case c57 => k_is)
      (case k57 => k_is)
      (case a58 => k_is)
      (case l58 => k_is)
      (case c58 => k_is)
      (case k58 => k_is)
      (case q0 => k_is)
      (case r0 => k_is)
      (case t0 => rfl)
      (case y0 => rfl)
      (case u0 => rfl)
      (case v0 => repeat (first | exact L2.Paired_nil | refine L2.Paired_cons rfl ?_ | refine L2.Paired_cons ⟨_, rfl⟩ ?_))
      (case q1 => k_is)
      (case q2 => k_is)
      (case q3 => k_is)
      (case q4 => k_is)
      (case r4 => k_is)
      (case t4 => rfl)
      (case y4 => rfl)
      (case u4 => rfl)
      (case v4 => repeat (first | exact L2.Paired_nil | refine L2.Paired_cons rfl ?_ | refine L2.Paired_cons ⟨_, rfl⟩ ?_))
      (case q5 => k_is)
      (case r5 => k_is)
      (case t5 => rfl)
      (case y5 => rfl)
      (case u5 => rfl)
      (case v5 => repeat (first | exact L2.Paired_nil | refine L2.Paired_cons rfl ?_ | refine L2.Paired_cons ⟨_, rfl⟩ ?_))
      (case q6 => k_is)
      (case r6 => k_is)
      (case t6 => rfl)
      (case y6 => rfl)
      (case u6 => rfl)
      (case v6 => repeat (first | exact L2.Paired_nil | refine L2.Paired_cons rfl ?_ | refine L2.Paired_cons ⟨_, rfl⟩ ?_))
      (case q7 => k_is)
      (case q8 => k_is)
      (case q9 => k_is)
      (case q10 => k_is)
      (case q11 => k_is)
      (case q12 => k_is)
      (case q13 => k_is)
      (case q14 => k_is)
      (case r14 => k_is)
      (case x14 => exact ⟨rfl, rfl, rfl⟩)
      (case o14 => first | rfl | decide +kernel)
      (case u14 => rfl)
      (case h14 => intro P; repeat (first | exact L2.PH.nil | refine L2.PH.cons rfl rfl rfl ?_))
      (case r14_0 => k_is)
      (case t14_0 => rfl)
      (case y14_0 => rfl)
      (case u14_0 => rfl)
      (case v14_0 => repeat (first | exact L2.Paired_nil | refine L2.Paired_cons rfl ?_ | refine L2.Paired_cons ⟨_, rfl⟩ ?_))
      (case r14_1 => k_is)
      (case t14_1 => rfl)
      (case y14_1 => rfl)
      (case u14_1 => rfl)
      (case v14_1 => repeat (first | exact L2.Paired_nil | refine L2.Paired_cons rfl ?_ | refine L2.Paired_cons ⟨_, rfl⟩ ?_))
      (case r14_2 => k_is)
      (case t14_2 => rfl)
      (case y14_2 => rfl)
      (case u14_2 => rfl)
      (case v14_2 => repeat (first | exact L2.Paired_nil | refine L2.Paired_cons rfl ?_ | refine L2.Paired_cons ⟨_, rfl⟩ ?_))
      (case r14_3 => k_is)
      (case t14_3 => rfl)
      (case y14_3 => rfl)
      (case u14_3 => rfl)
      (case v14_3 => repeat (first | exact L2.Paired_nil | refine L2.Paired_cons rfl ?_ | refine L2.Paired_cons ⟨_, rfl⟩ ?_))
      (case r14_4 => k_is)
      (case t14_4 => rfl)
      (case y14_4 => rfl)
      (case u14_4 => rfl)
      (case v14_4 => repeat (first | exact L2.Paired_nil | refine L2.Paired_cons rfl ?_ | refine L2.Paired_cons ⟨_, rfl⟩ ?_))
      (case r14_5 => k_is)
      (case t14_5 => rfl)
      (case y14_5 => rfl)
      (case u14_5 => rfl)
      (case v14_5 => repeat (first | exact L2.Paired_nil | refine L2.Paired_cons rfl ?_ | refine L2.Paired_cons ⟨_, rfl⟩ ?_))
      (case r14_6 => k_is)
      (case t14_6 => rfl)
      (case y14_6 => rfl)
      (case u14_6 => rfl)
      (case v14_6 => repeat (first | exact L2.Paired_nil | refine L2.Paired_cons rfl ?_ | refine L2.Paired_cons ⟨_, rfl⟩ ?_))
      (case z0 => k_is)
      (case z1 => k_is)
      (case z2 => k_is)
      (case z3 => k_is)
      (case z4 => k_is)
      (case z5 => k_is)
      (case z6 => k_is)
      (case z7 => k_is)
      (case z8 => k_is)
      (case z9 => k_is)
      (case z10 => k_is)
      (case z11 => k_is)
      (case z12 => k_is)
      (case z13 => k_is)
      (case z14 => k_is)
      (case z15 => k_is)
    exact My.law_fn (P := PySem.Challenge.rw_shardask_k05_heads_told.prog) T hmg
