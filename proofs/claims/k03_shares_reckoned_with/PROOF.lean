import PyProof.Rows.All
import Wide.All
import OpenK.AllK
import Wide.FinOn
import Lean
import PyProof.EqAt
import PyProof.EqKinds
import PyProof.TupleCall
import PyProof.CompFree
import PyProof.ExcClass2
import PyProof.InstStoreFacts
import PyProof.ExcArgs
import PyProof.ExcInit
import PyProof.ExcBaseAll.ValueError
import KE.KIsAll
import KE.KIntText
import PyProof.StrBlockG
import PyProof.StrBlockH
import PyProof.StrWalks
import PyProof.Rows.StrNews2
import PyProof.Rows.StrOr
import PyProof.Rows.Digits
import PyProof.StrBlockL
import PyProof.MeetsStr2
import PyProof.CompMap
import PyProof.NeKinds
import KE.IntTextLaws
import PyProof.Rows.StrPartPair
import PyProof.StrLawsTight
import PyProof.StrLawsChain
import PyProof.Rows.StrIntSpec
import PyProof.Rows.StrItems
import PyProof.RulesRaise
import PyProof.RulesAs
import PyProof.RaisesMany
import PySem.Challenge.RW_trialdeal_k03_shares_reckoned_with
/-! PpLay -/
set_option Elab.async false
set_option linter.all false
set_option maxRecDepth 100000
/-! THE HAND LAYER, for ints, bools, texts, own classes, LISTS and tuples (index, slices, in, append, pop ..), calls, loops. Paste it whole ahead of your own text; what your proof does not reach may be deleted. -/
namespace L2
open PySem PySem.Spec PyProof.Rows

/-- a key: an int or a str -/
abbrev Key := Sum Int Str
def keyIs : Key → Value → Bool
  | .inl k, v => Value.isInt k v
  | .inr x, v => Value.isStrOf x v
def keyH (w : World) : Key → Int
  | .inl k => hashInt k
  | .inr x => hashStr w x
theorem keyIs_shape : ∀ {k : Key} {v : Value}, keyIs k v = true → (∃ i t, k = Sum.inl i ∧ v = Value.int i t) ∨ (∃ x t, k = Sum.inr x ∧ v = Value.str x t)
  | .inl i, v, h => by
    obtain ⟨t, e⟩ := Value.isInt_shape (k := i) (v := v) h
    exact .inl ⟨i, t, rfl, e⟩
  | .inr x, v, h => by
    obtain ⟨t, e⟩ := Value.isStrOf_shape (x := x) (v := v) h
    exact .inr ⟨x, t, rfl, e⟩
theorem keyIs_int (i : Int) (t : Tok) : keyIs (.inl i) (.int i t) = true := by simp [keyIs, Value.isInt]
theorem keyIs_str (x : Str) (t : Tok) : keyIs (.inr x) (.str x t) = true := by simp [keyIs, Value.isStrOf]
theorem key_ll (a b : Int) : decide ((Sum.inl a : Key) = Sum.inl b) = (a == b) := by
  by_cases e : a = b
  · subst e; simp
  · have h : ¬ (Sum.inl a : Key) = Sum.inl b := fun q => e (Sum.inl.inj q)
    rw [decide_eq_false h]
    exact (beq_eq_false_iff_ne.mpr e).symm
theorem key_rr (a b : Str) : decide ((Sum.inr a : Key) = Sum.inr b) = decide (a = b) := by
  by_cases e : a = b
  · subst e; simp
  · have h : ¬ (Sum.inr a : Key) = Sum.inr b := fun q => e (Sum.inr.inj q)
    rw [decide_eq_false h, decide_eq_false e]
theorem key_lr (a : Int) (b : Str) : decide ((Sum.inl a : Key) = Sum.inr b) = false := decide_eq_false (fun q => nomatch q)
theorem key_rl (a : Str) (b : Int) : decide ((Sum.inr a : Key) = Sum.inl b) = false := decide_eq_false (fun q => nomatch q)

def mixKind (prog : Program) (w : World) : PySem.KeyKind prog w Key where
  is := keyIs
  hash := keyH w
  inj := fun v a b ha hb => by
    rcases keyIs_shape ha with ⟨i, t, rfl, rfl⟩ | ⟨x, t, rfl, rfl⟩
    · rcases keyIs_shape hb with ⟨j, u, rfl, e⟩ | ⟨y, u, rfl, e⟩
      · injection e with e1 _; rw [e1]
      · exact nomatch e
    · rcases keyIs_shape hb with ⟨j, u, rfl, e⟩ | ⟨y, u, rfl, e⟩
      · exact nomatch e
      · injection e with e1 _; rw [e1]
  byValue := fun k v h => by
    rcases keyIs_shape h with ⟨i, t, rfl, rfl⟩ | ⟨x, t, rfl, rfl⟩ <;> rfl
  pyHash := fun hv h => by
    rcases keyIs_shape hv with ⟨i, t, rfl, rfl⟩ | ⟨x, t, rfl, rfl⟩
    · exact wpAny_pyHash_int h
    · exact wpAny_pyHash_str h
  eqBool := fun hu hv h => by
    rcases keyIs_shape hu with ⟨i, t, rfl, rfl⟩ | ⟨x, t, rfl, rfl⟩
    · rcases keyIs_shape hv with ⟨j, u, rfl, rfl⟩ | ⟨y, u, rfl, rfl⟩
      · rw [key_ll] at h; exact wpAny_eqBool_int h
      · rw [key_lr] at h; exact SeqAt.EqAt.int_str i t y u _ _ _ _ h
    · rcases keyIs_shape hv with ⟨j, u, rfl, rfl⟩ | ⟨y, u, rfl, rfl⟩
      · rw [key_rl] at h; exact SeqAt.EqAt.str_int x t j u _ _ _ _ h
      · rw [key_rr] at h; exact wpAny_eqBool_str h
  «strs» := fun k x t v h => by
    rcases keyIs_shape h with ⟨i, u, rfl, e⟩ | ⟨y, u, rfl, e⟩
    · exact nomatch e
    · injection e with e1 _
      subst e1
      cases v <;> rfl

theorem mixKind_is (prog : Program) (w : World) (k : Key) (v : Value) : (mixKind prog w).is k v = keyIs k v := rfl
theorem mixKind_int (prog : Program) (w : World) (i : Int) (t : Tok) : (mixKind prog w).is (.inl i) (.int i t) = true := keyIs_int i t
theorem mixKind_str (prog : Program) (w : World) (x : Str) (t : Tok) : (mixKind prog w).is (.inr x) (.str x t) = true := keyIs_str x t
end L2

namespace L2
open PySem PySem.Spec PyProof.Rows

/-- a value, without the heap -/
inductive V where
  | non | bl (b : Bool) | int (i : Int) | str (x : Str) | byt (b : Array UInt8) | flt (b : UInt64) | ref (a : Addr) | ty (n : String)
  deriving DecidableEq

def RelV : V → Value → Prop
  | .non, u => u = Value.none
  | .bl b, u => u = Value.bool b
  | .int i, u => ∃ t, u = Value.int i t
  | .str x, u => ∃ t, u = Value.str x t
  | .byt b, u => ∃ t, u = Value.bytes b t
  | .flt b, u => ∃ t, u = Value.float b t
  | .ref a, u => u = Value.ref a
  | .ty n, u => u = Value.type n

abbrev Vals : List V → List Value → Prop := Paired RelV
theorem Vals.length {xs : List V} {us : List Value} (r : Vals xs us) : xs.length = us.length := Paired.length r
theorem Vals.get : ∀ {xs : List V} {us : List Value} {i : Nat} {x : V}, Vals xs us → xs[i]? = some x → ∃ u, us[i]? = some u ∧ RelV x u
  | _, _, _, _, .nil, e => by simp at e
  | _, _, 0, _, .cons r _, e => by simp at e; subst e; exact ⟨_, rfl, r⟩
  | _, _, i + 1, x, .cons _ t, e => by
    obtain ⟨u, h1, h2⟩ := Vals.get (i := i) (x := x) t (by simpa using e)
    exact ⟨u, by simpa using h1, h2⟩
theorem Vals.set {x : V} {u : Value} (r : RelV x u) : ∀ {xs : List V} {us : List Value} (i : Nat), Vals xs us → Vals (xs.set i x) (us.set i u)
  | _, _, _, .nil => .nil
  | _, _, 0, .cons _ t => .cons r t
  | _, _, i + 1, .cons q t => .cons q (Vals.set r i t)
theorem Vals.append : ∀ {xs ys : List V} {us ws : List Value}, Vals xs us → Vals ys ws → Vals (xs ++ ys) (us ++ ws)
  | _, _, _, _, .nil, s => s
  | _, _, _, _, .cons r t, s => .cons r (Vals.append t s)
theorem Vals.take : ∀ {xs : List V} {us : List Value} (n : Nat), Vals xs us → Vals (xs.take n) (us.take n)
  | _, _, 0, _ => .nil
  | _, _, _ + 1, .nil => .nil
  | _, _, n + 1, .cons r t => .cons r (Vals.take n t)
theorem Vals.drop : ∀ {xs : List V} {us : List Value} (n : Nat), Vals xs us → Vals (xs.drop n) (us.drop n)
  | _, _, 0, r => r
  | _, _, _ + 1, .nil => .nil
  | _, _, n + 1, .cons _ t => Vals.drop n t
theorem Vals.none_of : ∀ {xs : List V} {us : List Value} {i : Nat}, Vals xs us → xs[i]? = none → us[i]? = none := fun {xs us i} r e => by
  have h1 := r.length
  have h2 : xs.length ≤ i := List.getElem?_eq_none_iff.mp e
  exact List.getElem?_eq_none_iff.mpr (by omega)

def RelO : Option V → Option Value → Prop
  | some v, some u => RelV v u
  | none, none => True
  | _, _ => False
def KV {κ : Type} : List (κ × V) → List (κ × Value) → Prop := Paired fun (p : κ × V) (q : κ × Value) => p.1 = q.1 ∧ RelV p.2 q.2

/-- a key of a dict (00_mix): an int or a text -/
def kV : Key → V
  | .inl i => .int i
  | .inr x => .str x

/-- what stands at a tracked address -/
inductive HO where
  /-- a list -/
  | lst (xs : List V)
  /-- a tuple (never changes) -/
  | tup (xs : List V)
  /-- a dict whose keys are ints and texts; one whose keys are tuples of ints and texts (the empty one is both) -/
  | dK (kvs : List (Key × V)) | dT (kvs : List (List Key × V))
  /-- a set of ints: its members, its size -/
  | set (S : Int → Bool) (n : Nat)
  /-- an instance of the class at C, its dict at dx, its attributes -/
  | ins (C dx : Addr) (fs : List (Str × V))
  /-- the dict of the instance at x -/
  | own (x : Addr)
  /-- the dict of an exception -/
  | xd (fs : List (Str × V))
  /-- a bound method, f of x -/
  | met (f x : Addr)
  /-- a range object lo, lo + 1, .. below hi -/
  | rng (lo hi : Int)
  /-- a thing that is known to the object (the script; a dict while a loop walks it): read, never written while it is so -/
  | frz (o : Obj) (u : HO)
  /-- a code object's table -/
  | tbl (ps : Array Value)
  /-- any other thing, by what is true of its one object (a def of one's own: SetO a S n := HO.ext fun h => ..) -/
  | ext (φ : Heap → Prop)

abbrev Hp := Addr → Option HO
def upd (H : Hp) (a : Addr) (o : HO) : Hp := fun b => if b = a then some o else H b
theorem upd_same {H : Hp} {a : Addr} {o : HO} : upd H a o a = some o := by unfold upd; rw [if_pos rfl]
theorem upd_ne {H : Hp} {a b : Addr} {o : HO} (h : b ≠ a) : upd H a o b = H b := by unfold upd; rw [if_neg h]
theorem upd_upd {H : Hp} {a : Addr} {o u : HO} : upd (upd H a o) a u = upd H a u := by
  funext b; unfold upd; split <;> rfl
/-- two objects of different content stand apart -/
theorem ne_of {H : Hp} {a b : Addr} {o u : HO} (h : H a = some o) (h' : H b = some u) (d : o ≠ u) : a ≠ b := by
  intro e; subst e; rw [h] at h'; exact d (Option.some.inj h')
theorem ne_of_none {H : Hp} {a b : Addr} {o : HO} (h : H a = some o) (h' : H b = none) : a ≠ b := by
  intro e; subst e; rw [h] at h'; cases h'

section
variable (P : Program) (w : World)
def ObjOk (H : Hp) (h : Heap) (a : Addr) : HO → Prop
  | .lst xs => xs.length ≤ sizeLine ∧ ∃ (its : List Value) (n : Nat), Vals xs its ∧ h.get? a = some { cls := .type "list", data := .seq its.toArray n }
  | .tup xs => xs.length ≤ sizeLine ∧ ∃ its : List Value, Vals xs its ∧ IsTup h a its.toArray
  | .dK kvs => kvs.length ≤ sizeLine ∧ (a == sysModules) = false ∧ ∃ vs, KV kvs vs ∧ h.DictOf (mixKind P w) a vs
  | .dT kvs => kvs.length ≤ sizeLine ∧ (a == sysModules) = false ∧ ∃ xs : List (List Key × Addr × Value),
      Paired (fun (p : List Key × V) (q : List Key × Addr × Value) => p.1 = q.1 ∧ H q.2.1 = some (.tup (p.1.map kV)) ∧ RelV p.2 q.2.2) kvs xs ∧
      ∃ o es ep, h.get? a = some o ∧ o.ExactDict ∧ o.data = .dict es ep ∧ es.toList = xs.map (entryOfKey (tupleKind (mixKind P w))) ∧ (xs.map (·.1)).Nodup
  | .set S n => h.SetOf (intKind P w) a S n
  | .ins C dx fs => H dx = some (.own a) ∧ fs.length ≤ 1000 ∧ dx ≠ a ∧ h.get? a = some (PySem.W.instObj C dx) ∧
      ∃ mA, h.Ns1 dx mA ∧ (∀ f, RelO (fs.lookup f) (mA f)) ∧ PySem.Within mA (fs.map (·.1))
  | .own _ => ∃ o, h.get? a = some o
  | .xd fs => ∃ mA, h.Ns1 a mA ∧ ∀ f, RelO (fs.lookup f) (mA f)
  | .rng lo hi => ∃ t u v, h.get? a = some { cls := .type "range", data := .fields #[.int lo t, .int hi u, .int 1 v] }
  | .frz o u => h.get? a = some o ∧ ObjOk H h a u
  | .tbl ps => h.get? a = some { cls := .none, data := .fields ps }
  | .met f x => h.get? a = some (PySem.W.methodObj (.ref f) (.ref x))
  | .ext φ => φ h ∧ (∃ o, h.get? a = some o) ∧ ∀ h1 h2 : Heap, φ h1 → (∀ o, h1.get? a = some o → h2.get? a = some o) → φ h2
/-- the abstract heap is held -/
def HOk (H : Hp) (h : Heap) : Prop := ∀ a o, H a = some o → ObjOk P w H h a o
end

section
variable {P : Program} {w : World} {H H' : Hp} {h h' : Heap} {a : Addr} {o : HO}
theorem ObjOk.lt (x : ObjOk P w H h a o) : a < h.objs.size := by
  cases o with
  | lst xs => obtain ⟨_, _, _, _, e⟩ := x; exact Heap.lt_size e
  | tup xs => obtain ⟨_, _, _, p⟩ := x; exact p.lt
  | dK kvs => obtain ⟨_, _, _, _, o, _, _, e, _⟩ := x; exact Heap.lt_size e
  | dT kvs => obtain ⟨_, _, _, _, o, _, _, e, _⟩ := x; exact Heap.lt_size e
  | set S n => obtain ⟨o, _, _, _, e, _⟩ := x; exact Heap.lt_size e
  | ins C dx fs => obtain ⟨_, _, _, e, _⟩ := x; exact Heap.lt_size e
  | own y => obtain ⟨_, e⟩ := x; exact Heap.lt_size e
  | xd fs => obtain ⟨_, ⟨_, _, _, e, _⟩, _⟩ := x; exact Heap.lt_size e
  | rng lo hi => obtain ⟨_, _, _, e⟩ := x; exact Heap.lt_size e
  | frz ob u => obtain ⟨e, _⟩ := x; exact Heap.lt_size e
  | tbl ps => exact Heap.lt_size (show h.get? a = some _ from x)
  | met f y => exact Heap.lt_size (show h.get? a = some _ from x)
  | ext φ => obtain ⟨_, ⟨_, e⟩, _⟩ := x; exact Heap.lt_size e
theorem Paired.mapP {α β : Type} {F G : α → β → Prop} : ∀ {l₁ : List α} {l₂ : List β}, Paired F l₁ l₂ → (∀ a b, F a b → G a b) → Paired G l₁ l₂
  | _, _, .nil, _ => .nil
  | _, _, .cons r t, f => .cons (f _ _ r) (Paired.mapP t f)
theorem Paired.imp' {α β : Type} {F G : α → β → Prop} (f : ∀ a b, F a b → G a b) {l₁ : List α} {l₂ : List β} (r : Paired F l₁ l₂) : Paired G l₁ l₂ := Paired.mapP r f
/-- what an object's description leans on: its own object, its own dict, the tuples -/
theorem ObjOk.stay (x : ObjOk P w H h a o) (k : ∀ b u, (b = a ∨ H b = some (.own a)) → h.get? b = some u → h'.get? b = some u)
    (ho : ∀ b, H b = some (.own a) → H' b = some (.own a)) (ht : ∀ b xs, H b = some (.tup xs) → H' b = some (.tup xs)) : ObjOk P w H' h' a o := by
  induction o with
  | lst xs => obtain ⟨z, its, n, r, e⟩ := x; exact ⟨z, its, n, r, k _ _ (.inl rfl) e⟩
  | tup xs => obtain ⟨z, its, r, ob, e, c⟩ := x; exact ⟨z, its, r, ob, k _ _ (.inl rfl) e, c⟩
  | dK kvs => obtain ⟨z, y, vs, r, ob, es, ep, e, c⟩ := x; exact ⟨z, y, vs, r, ob, es, ep, k _ _ (.inl rfl) e, c⟩
  | dT kvs =>
    obtain ⟨z, y, xs, r, ob, es, ep, e, c⟩ := x
    exact ⟨z, y, xs, Paired.mapP r fun p q z => ⟨z.1, ht _ _ z.2.1, z.2.2⟩, ob, es, ep, k _ _ (.inl rfl) e, c⟩
  | set S n => obtain ⟨ob, es, ep, t, e, c⟩ := x; exact ⟨ob, es, ep, t, k _ _ (.inl rfl) e, c⟩
  | ins C dx fs =>
    obtain ⟨d, z, ne, e, mA, ⟨od, es, ep, e2, c⟩, r⟩ := x
    exact ⟨ho _ d, z, ne, k _ _ (.inl rfl) e, mA, ⟨od, es, ep, k _ _ (.inr d) e2, c⟩, r⟩
  | own y => obtain ⟨ob, e⟩ := x; exact ⟨ob, k _ _ (.inl rfl) e⟩
  | xd fs => obtain ⟨mA, ⟨od, es, ep, e, c⟩, r⟩ := x; exact ⟨mA, ⟨od, es, ep, k _ _ (.inl rfl) e, c⟩, r⟩
  | rng lo hi => obtain ⟨t, u, v, e⟩ := x; exact ⟨t, u, v, k _ _ (.inl rfl) e⟩
  | frz ob u ih => obtain ⟨e, q⟩ := x; exact ⟨k _ _ (.inl rfl) e, ih q⟩
  | tbl ps =>
    have e : h.get? a = some { cls := .none, data := .fields ps } := x
    show h'.get? a = some { cls := .none, data := .fields ps }
    exact k a _ (.inl rfl) e
  | met f y =>
    have e : h.get? a = some (PySem.W.methodObj (.ref f) (.ref y)) := x
    show h'.get? a = some (PySem.W.methodObj (.ref f) (.ref y))
    exact k a _ (.inl rfl) e
  | ext φ => obtain ⟨p, ⟨o, e⟩, st⟩ := x; exact ⟨st _ _ p fun o q => k _ _ (.inl rfl) q, ⟨o, k _ _ (.inl rfl) e⟩, st⟩
theorem HOk.lt (x : HOk P w H h) (e : H a = some o) : a < h.objs.size := (x a o e).lt
theorem HOk.fresh (x : HOk P w H h) (e : h.objs.size ≤ a) : H a = none := by
  cases q : H a with
  | none => rfl
  | some u => exact absurd (Nat.lt_of_lt_of_le (x.lt q) e) (Nat.lt_irrefl _)
/-- every object of the heap is kept -/
theorem HOk.kept (x : HOk P w H h) (k : ∀ b u, h.get? b = some u → h'.get? b = some u) : HOk P w H h' := fun a o e =>
  (x a o e).stay (fun b u _ q => k b u q) (fun _ q => q) fun _ _ q => q
/-- a new object is laid and tracked -/
theorem HOk.laid (x : HOk P w H h) (k : ∀ b u, h.get? b = some u → h'.get? b = some u) (hp : h.objs.size ≤ a) (new : ObjOk P w (upd H a o) h' a o) : HOk P w (upd H a o) h' := fun b u e => by
  have hn := x.fresh hp
  by_cases hb : b = a
  · subst hb; rw [upd_same] at e; cases e; exact new
  · rw [upd_ne hb] at e
    exact (x b u e).stay (fun c v _ q => k c v q) (fun c q => by rw [upd_ne (ne_of_none q hn)]; exact q) fun c xs q => by rw [upd_ne (ne_of_none q hn)]; exact q
end

/-- what may be read as u: it is u, or a known u -/
def Rd (H : Hp) (a : Addr) (u : HO) : Prop := H a = some u ∨ ∃ o, H a = some (.frz o u)
theorem Rd.of {H : Hp} {a : Addr} {u : HO} (h : H a = some u) : Rd H a u := .inl h
theorem Rd.ok {P : Program} {w : World} {H : Hp} {h : Heap} {a : Addr} {u : HO} (r : Rd H a u) (x : HOk P w H h) : ObjOk P w H h a u := by
  rcases r with r | ⟨o, r⟩
  · exact x a u r
  · obtain ⟨_, q⟩ := x a _ r
    exact q
/-- what may be written -/
def Mut : Option HO → Prop
  | some (.lst _) => True
  | some (.dK _) => True
  | some (.dT _) => True
  | some (.set _ _) => True
  | some (.ins _ _ _) => True
  | some (.ext _) => True
  | _ => False
section
variable {P : Program} {w : World} {H : Hp} {h h' : Heap} {x e : Addr} {o' : HO}
/-- the object at e is changed: x itself, or the dict of the instance x -/
theorem HOk.write (ok : HOk P w H h) (mu : Mut (H x)) (he : e = x ∨ H e = some (.own x)) (k : ∀ b u, b ≠ e → h.get? b = some u → h'.get? b = some u) (heo : ∃ u, h'.get? e = some u)
    (new : ObjOk P w (upd H x o') h' x o') : HOk P w (upd H x o') h' := fun b u q => by
  have nown : ∀ c y, H c = some (.own y) → c ≠ x := fun c y r z => by subst z; rw [r] at mu; exact mu
  have ntup : ∀ c xs, H c = some (.tup xs) → c ≠ x := fun c xs r z => by subst z; rw [r] at mu; exact mu
  by_cases hb : b = x
  · subst hb; rw [upd_same] at q; cases q; exact new
  · rw [upd_ne hb] at q
    by_cases hbe : b = e
    · have q' : H b = some (.own x) := by
        rcases he with z | z
        · exact absurd (hbe.trans z) hb
        · rw [hbe]; exact z
      rw [q] at q'; cases q'
      obtain ⟨v, hv⟩ := heo
      exact ⟨v, by rw [hbe]; exact hv⟩
    · refine (ok b u q).stay (fun c v hc r => k c v ?_ r) (fun c r => by rw [upd_ne (nown c b r)]; exact r) fun c xs r => by rw [upd_ne (ntup c xs r)]; exact r
      rcases hc with rfl | hc
      · exact hbe
      · rintro rfl
        rcases he with z | z
        · exact nown c b hc z
        · rw [hc] at z; cases z; exact hb rfl
end

/-! ### kept unless tracked; of the frames at fs (the callers') the slots may change (an exception that passes writes there); of the records at ex (iterators) nothing is said -/
structure Un (fs ex : List Addr) (H H' : Hp) (h h' : Heap) : Prop where
  keep : ∀ b o, h.get? b = some o → H b = none → b ∉ fs → b ∉ ex → h'.get? b = some o
  slot : ∀ b o, h.get? b = some o → H b = none → b ∈ fs → b ∉ ex → ∃ sl, h'.get? b = some { o with slots := sl }
  free : ∀ b o, h.get? b = some o → H b = none → b ∉ ex → H' b = none
  there : ∀ b o, h.get? b = some o → b ∉ ex → ∃ o', h'.get? b = some o'
  tups : ∀ b xs, H b = some (.tup xs) → H' b = some (.tup xs)
  frzs : ∀ b o u, H b = some (.frz o u) → H' b = some (.frz o u)
  tbls : ∀ b ps, H b = some (.tbl ps) → ∃ more, H' b = some (.tbl (ps ++ more))
  sys : H sysModules = none → H' sysModules = none
section
variable {fs fs' ex ex' : List Addr} {H H1 H2 : Hp} {h h1 h2 h' : Heap} {a x e : Addr} {o : HO}
theorem Un.any (u : Un fs ex H H1 h h1) {b : Addr} {ob : Obj} (q : h.get? b = some ob) (n : H b = none) (hx : b ∉ ex) : ∃ sl, h1.get? b = some { ob with slots := sl } := by
  by_cases hb : b ∈ fs
  · exact u.slot b ob q n hb hx
  · exact ⟨ob.slots, u.keep b ob q n hb hx⟩
theorem Un.trans (a : Un fs ex H H1 h h1) (b : Un fs ex H1 H2 h1 h2) : Un fs ex H H2 h h2 where
  keep := fun c ob q n hc hx => b.keep c ob (a.keep c ob q n hc hx) (a.free c ob q n hx) hc hx
  slot := fun c ob q n hc hx => by
    obtain ⟨sl, e1⟩ := a.slot c ob q n hc hx
    obtain ⟨sl', e2⟩ := b.slot c _ e1 (a.free c ob q n hx) hc hx
    exact ⟨sl', e2⟩
  free := fun c ob q n hx => by
    obtain ⟨o', e1⟩ := a.there c ob q hx
    exact b.free c o' e1 (a.free c ob q n hx) hx
  there := fun c ob q hx => by
    obtain ⟨o', e1⟩ := a.there c ob q hx
    exact b.there c o' e1 hx
  tups := fun c xs q => b.tups c xs (a.tups c xs q)
  frzs := fun c ob xs q => b.frzs c ob xs (a.frzs c ob xs q)
  tbls := fun c ps q => by
    obtain ⟨m1, e1⟩ := a.tbls c ps q
    obtain ⟨m2, e2⟩ := b.tbls c _ e1
    exact ⟨m1 ++ m2, by rw [e2, Array.append_assoc]⟩
  sys := fun q => b.sys (a.sys q)
theorem Un.kept (k : ∀ b u, h.get? b = some u → h'.get? b = some u) : Un fs ex H H h h' :=
  ⟨fun b ob q _ _ _ => k b ob q, fun b ob q _ _ _ => ⟨ob.slots, k b ob q⟩, fun _ _ _ n _ => n, fun b ob q _ => ⟨ob, k b ob q⟩, fun _ _ q => q, fun _ _ _ q => q, fun _ ps q => ⟨#[], by rw [q]; simp⟩, fun q => q⟩
theorem Un.refl : Un fs ex H H h h := Un.kept fun _ _ q => q
theorem Un.laid (k : ∀ b u, h.get? b = some u → h'.get? b = some u) (hp : h.objs.size ≤ a) (hn : H a = none) (hz : sysModules < h.objs.size) : Un fs ex H (upd H a o) h h' where
  sys := fun q => by rw [upd_ne (Nat.ne_of_lt (Nat.lt_of_lt_of_le hz hp))]; exact q
  keep := fun b u q _ _ _ => k b u q
  slot := fun b u q _ _ _ => ⟨u.slots, k b u q⟩
  free := fun b u q n _ => by rw [upd_ne (Nat.ne_of_lt (Nat.lt_of_lt_of_le (Heap.lt_size q) hp))]; exact n
  there := fun b u q _ => ⟨u, k b u q⟩
  tups := fun b xs q => by rw [upd_ne (ne_of_none q hn)]; exact q
  frzs := fun b u xs q => by rw [upd_ne (ne_of_none q hn)]; exact q
  tbls := fun b ps q => ⟨#[], by rw [upd_ne (ne_of_none q hn), q]; simp⟩
theorem Un.write (mu : Mut (H x)) (he : e = x ∨ H e = some (.own x)) (k : ∀ b u, b ≠ e → h.get? b = some u → h'.get? b = some u) (heo : ∃ u, h'.get? e = some u) : Un fs ex H (upd H x o) h h' := by
  have hx : ∀ b, H b = none → b ≠ x := fun b n z => by subst z; rw [n] at mu; exact mu
  have hb : ∀ b, H b = none → b ≠ e := fun b n z => by
    subst z
    rcases he with r | r
    · exact hx b n r
    · rw [n] at r; cases r
  have hm : ∀ b u, H b = some u → ¬ Mut (some u) → b ≠ x := fun b u q nm z => by subst z; rw [q] at mu; exact nm mu
  refine ⟨fun b u q n _ _ => k b u (hb b n) q, fun b u q n _ _ => ⟨u.slots, k b u (hb b n) q⟩, fun b u q n _ => by rw [upd_ne (hx b n)]; exact n, fun b u q _ => ?_,
    fun b xs q => by rw [upd_ne (hm b _ q fun z => z)]; exact q, fun b u xs q => by rw [upd_ne (hm b _ q fun z => z)]; exact q, fun b ps q => ⟨#[], by rw [upd_ne (hm b _ q fun z => z), q]; simp⟩, fun q => by rw [upd_ne (hx _ q)]; exact q⟩
  by_cases hbe : b = e
  · subst hbe; exact heo
  · exact ⟨u, k b u hbe q⟩
theorem Un.mono (u : Un fs ex H H1 h h1) (hs : ∀ b ∈ fs, b ∈ fs') (hx : ∀ b ∈ ex, b ∈ ex') : Un fs' ex' H H1 h h1 :=
  ⟨fun b ob q n hb he => u.keep b ob q n (fun z => hb (hs b z)) fun z => he (hx b z), fun _ _ q n _ he => u.any q n fun z => he (hx _ z), fun b ob q n he => u.free b ob q n fun z => he (hx b z), fun b ob q he => u.there b ob q fun z => he (hx b z), u.tups, u.frzs, u.tbls, u.sys⟩
end

/-! ### the heap without what is tracked -/
def trk (h : Heap) (H : Hp) : List Addr := (List.range h.objs.size).filter fun a => (H a).isSome
def hidT (h : Heap) (H : Hp) : Heap := PySem.W.hideAll h (trk h H)
theorem hidT_size (h : Heap) (H : Hp) : (hidT h H).objs.size = h.objs.size := PySem.W.hideAll_size _ _
theorem hidT_get {h : Heap} {H : Hp} {b : Addr} {o : Obj} (e : h.get? b = some o) (n : H b = none) : (hidT h H).get? b = some o :=
  PySem.W.hideAll_get _ e fun hm => by
    have q : (H b).isSome = true := (List.mem_filter.mp hm).2
    rw [n] at q; simp at q
theorem of_hidT {h : Heap} {H : Hp} {b : Addr} {o : Obj} (e : (hidT h H).get? b = some o) : h.get? b = some o ∧ H b = none := by
  have e' : h.get? b = some o := PySem.W.of_hideAll (trk h H) e
  refine ⟨e', ?_⟩
  cases q : H b with
  | none => rfl
  | some x =>
    have hm : b ∈ trk h H := List.mem_filter.mpr ⟨List.mem_range.mpr (Heap.lt_size e'), by simp [q]⟩
    have z : (hidT h H).get? b = none := PySem.W.hideAll_none (trk h H) hm
    rw [z] at e; cases e

/-! ### OpenK's ledger, filled with every new object but one -/
def allNews (g h : Heap) (L : Addr) : List (Addr × Obj) := (List.range h.objs.size).filterMap fun a => if a = L ∨ (g.get? a).isSome = true then none else (h.get? a).map fun o => (a, o)
theorem mem_allNews {g h : Heap} {L a : Addr} {o : Obj} (h1 : a ≠ L) (h2 : g.get? a = none) (h3 : h.get? a = some o) : (a, o) ∈ allNews g h L :=
  List.mem_filterMap.mpr ⟨a, List.mem_range.mpr (Heap.lt_size h3), by simp [h1, h2, h3]⟩
theorem of_mem_allNews {g h : Heap} {L : Addr} {p : Addr × Obj} (hp : p ∈ allNews g h L) : p.1 ≠ L ∧ g.get? p.1 = none ∧ h.get? p.1 = some p.2 := by
  obtain ⟨b, _, e⟩ := List.mem_filterMap.mp hp
  split at e
  · cases e
  · rename_i hn
    cases q : h.get? b with
    | none => rw [q] at e; simp at e
    | some u =>
      rw [q] at e
      simp only [Option.map_some, Option.some.injEq] at e
      subst e
      refine ⟨fun z => hn (.inl z), ?_, q⟩
      show g.get? b = none
      cases r : g.get? b with
      | none => rfl
      | some v => exact (hn (.inr (by simp [r]))).elim
def rest (g h : Heap) (L d : Addr) : List (Addr × Obj) := (allNews g h L).filter fun p => decide (p.1 ≠ d)
theorem rest_ne {g h : Heap} {L d : Addr} : ∀ p ∈ rest g h L d, p.1 ≠ d := fun p hp => of_decide_eq_true (List.mem_filter.mp hp).2
theorem mem_rest {g h : Heap} {L d a : Addr} {o : Obj} (h1 : a ≠ L) (h2 : g.get? a = none) (h3 : h.get? a = some o) (h4 : a ≠ d) : (a, o) ∈ rest g h L d :=
  List.mem_filter.mpr ⟨mem_allNews h1 h2 h3, decide_eq_true h4⟩
theorem news_all {g h : Heap} {L : Addr} : News g L h (allNews g h L) := fun p hp => let ⟨a, b, c⟩ := of_mem_allNews hp; ⟨c, a, b⟩
theorem news_at {g h : Heap} {L d : Addr} {o : Obj} (h1 : d ≠ L) (h2 : g.get? d = none) (h3 : h.get? d = some o) : News g L h ((d, o) :: rest g h L d) := fun p hp => by
  rcases List.mem_cons.mp hp with rfl | hp
  · exact ⟨h3, h1, h2⟩
  · exact news_all p (List.mem_filter.mp hp).1
/-- behind a rule that changed d alone: all else but the frame is kept -/
theorem kept_of_news {g h h' : Heap} {L d : Addr} {m : Str → Option Value} (k : ∀ b o, g.get? b = some o → h.get? b = some o) (F : Fr g L h' m) (N : News g L h' (rest g h L d)) :
    ∀ b o, b ≠ L → b ≠ d → h.get? b = some o → h'.get? b = some o := fun b o h1 h2 e => by
  cases q : g.get? b with
  | some u =>
    have := k b u q
    rw [e] at this; cases this
    exact F.keep b _ q
  | none => exact (N (b, o) (mem_rest h1 q e h2)).1
end L2

namespace L2
open PySem PySem.Spec PyProof.Rows

/-- the module's facts, over the base: the heap at the law's entry without what is tracked there -/
structure Mod (K : PySem.W.Frag) (mg : Str → Option Value) (base : Heap) : Prop where
  kin : K.In base
  glob : base.Ns mainGlobals mg
  blt : ∃ mb, base.Ns builtinsNs mb ∧ ∀ x : Str, x ≠ "__name__" → mb x = bootBuiltins x
  nolimit : base.NoLimit

/-- the context: a def's body (or a comprehension's block) running. base: fixed through the whole law; s₀, H₀: the entry; outer: the frames whose slots others may change (a def's callers); stack: all frames that run;
   ex: iterators that were made ahead of the entry and are walked here (a comprehension's); fn: the names whose cells were made at the entry (a def: all; a comprehension's block: its own); calm: not within an except suite; pn: pins that every state bears; xe: what is wanted of an exception that leaves the code -/
structure Cx where
  prog : Program
  w : World
  K : PySem.W.Frag
  mg : Str → Option Value
  base : Heap
  A : Around
  N : List Str
  s₀ : Shared
  H₀ : Hp
  env : Env
  outer : List Env
  stack : List Env
  ex : List Addr
  fn : Str → Bool
  calm : Bool
  pn : List (Addr × Obj)
  xe : Value → Shared → Prop
/-- the callers' frames -/
def frs (l : List Env) : List Addr := l.filterMap (·.frame)
abbrev Cx.fs (X : Cx) : List Addr := frs X.outer

def Vis (sc : Scope) (x : Str) : Prop := sc.names.lookup x = some .local ∨ sc.names.lookup x = some .cell ∨ sc.names.lookup x = some .free
def Loc (sc : Scope) (x : Str) : Prop := sc.names.lookup x = some .local ∨ sc.names.lookup x = some .cell
def Look (env : Env) (h : Heap) (m : Str → Option Value) (x : Str) (u : Value) : Prop :=
  (env.kindOf x = some .local ∧ m x = some u) ∨ ((env.kindOf x = some .cell ∨ env.kindOf x = some .free) ∧ ∃ c, env.cells.lookup x = some c ∧ h.IsCell c (some u))

structure Cx.Ok (X : Cx) : Prop where
  mod : Mod X.K X.mg X.base
  kind : X.env.scope.kind = .function
  glob : X.env.globals = mainGlobals
  blt : X.env.builtins = builtinsNs
  above : X.s₀.heap.objs.size ≤ X.env.locals
  inj : ∀ x y c, X.env.cells.lookup x = some c → X.env.cells.lookup y = some c → x = y
  has : ∀ x, (X.env.kindOf x = some .cell ∨ X.env.kindOf x = some .free) → ∃ c, X.env.cells.lookup x = some c
  cab : ∀ x c, X.fn x = true → X.env.cells.lookup x = some c → X.s₀.heap.objs.size ≤ c
  hd : X.calm = true → X.A.handled = none
  frames : X.A.frames = some X.stack
  stk : X.stack = X.outer ∨ (X.stack = X.env :: X.outer ∧ X.env.frame = some X.env.locals)
  exf : ∀ b ∈ X.ex, b ≠ X.env.locals ∧ ∀ x c, X.env.cells.lookup x = some c → c ≠ b
  bs : ∀ b o, X.base.get? b = some o → X.s₀.heap.get? b = some o ∧ X.H₀ b = none
  bsz : X.base.objs.size ≤ X.s₀.heap.objs.size
  noex : ∀ b o, X.base.get? b = some o → b ∉ X.ex
  exfs : ∀ b ∈ X.ex, b ∉ X.fs
  funs : X.s₀.heap.FunFrames X.base X.outer
  frf : ∀ b ∈ X.fs, X.H₀ b = none

structure Inv (X : Cx) (pins : List (Addr × Obj)) (σ : List (Option V)) (H : Hp) (s : Shared) : Prop where
  ok : X.Ok
  os : s.os = X.s₀.os
  bare : AllBare s.gens
  base : Un X.fs X.ex X.H₀ H X.s₀.heap s.heap
  loc : ∃ m, s.heap.Ns X.env.locals m ∧ ∀ (i : Nat) (x : Str) (v : V), X.N[i]? = some x → σ[i]? = some (some v) → Vis X.env.scope x → ∃ u, RelV v u ∧ Look X.env s.heap m x u
  cell : ∀ x c, X.env.cells.lookup x = some c → ∃ v, s.heap.IsCell c v
  free : H X.env.locals = none
  freeC : ∀ x c, X.env.cells.lookup x = some c → H c = none
  pin : ∀ p ∈ X.pn ++ pins, s.heap.get? p.1 = some p.2 ∧ H p.1 = none ∧ p.1 ≠ X.env.locals ∧ p.1 ∉ X.fs ∧ ∀ v, p.2.data ≠ .cell v
  hok : HOk X.prog X.w H s.heap
  len : σ.length = X.N.length

section
variable {X : Cx} {pins : List (Addr × Obj)} {σ : List (Option V)} {H H' : Hp} {s : Shared} {h' : Heap}

theorem Cx.Ok.nofr (ok : X.Ok) {b : Addr} {o : Obj} (e : X.base.get? b = some o) : b ∉ X.fs := fun hb => by
  have := (ok.funs.mem hb).1
  rw [e] at this; cases this
theorem Inv.bs (I : Inv X pins σ H s) : ∀ b o, X.base.get? b = some o → s.heap.get? b = some o ∧ H b = none := fun b o e =>
  ⟨I.base.keep b o (I.ok.bs b o e).1 (I.ok.bs b o e).2 (I.ok.nofr e) (I.ok.noex b o e), I.base.free b o (I.ok.bs b o e).1 (I.ok.bs b o e).2 (I.ok.noex b o e)⟩
theorem Inv.bk (I : Inv X pins σ H s) : ∀ b o, X.base.get? b = some o → s.heap.get? b = some o := fun b o e => (I.bs b o e).1
theorem Inv.mod (I : Inv X pins σ H s) : Mod X.K X.mg X.base := I.ok.mod
theorem Inv.kIn (I : Inv X pins σ H s) : X.K.In s.heap := I.ok.mod.kin.keeps I.bk
theorem Inv.nolimit (I : Inv X pins σ H s) : s.heap.NoLimit := I.ok.mod.nolimit.keeps I.bk
/-- the frame over the base: for OpenK's rules (K.In X.base is I.mod.kin) -/
theorem Inv.fr (I : Inv X pins σ H s) : ∃ m, Fr X.base X.env.locals s.heap m :=
  let ⟨m, hn, _⟩ := I.loc
  ⟨m, hn, I.bk, Nat.le_trans I.ok.bsz I.ok.above⟩
theorem Inv.lt (I : Inv X pins σ H s) : X.env.locals < s.heap.objs.size := let ⟨_, hn, _⟩ := I.loc; hn.lt
theorem Inv.sz (I : Inv X pins σ H s) : X.s₀.heap.objs.size ≤ s.heap.objs.size := Nat.le_trans I.ok.above (Nat.le_of_lt I.lt)
theorem Inv.nofs (I : Inv X pins σ H s) {a : Addr} (h : s.heap.objs.size ≤ a) : a ∉ X.fs := fun hb => by
  obtain ⟨_, o, ho, _⟩ := I.ok.funs.mem hb
  exact absurd (Nat.lt_of_lt_of_le (Heap.lt_size ho) (Nat.le_trans I.sz h)) (Nat.lt_irrefl _)
theorem Inv.cne (I : Inv X pins σ H s) : ∀ x c, X.env.cells.lookup x = some c → c ≠ X.env.locals := fun x c e z => by
  obtain ⟨v, o, ho, hd⟩ := I.cell x c e
  obtain ⟨m, ⟨o', es, ep, ho', hd', _⟩, _⟩ := I.loc
  rw [z, ho'] at ho; cases ho; rw [hd'] at hd; cases hd
theorem Inv.funs (I : Inv X pins σ H s) : s.heap.FunFrames X.base X.outer := by
  have all : ∀ (l : List Env), (∀ b ∈ frs l, b ∈ X.fs) → X.s₀.heap.FunFrames X.base l → s.heap.FunFrames X.base l := by
    intro l
    induction l with
    | nil => intro _ _; trivial
    | cons env r ih =>
      intro hs hl
      obtain ⟨hk, ⟨L, o, hf, hn, ho, hd⟩, hr⟩ := hl
      have hL : L ∈ X.fs := hs L (by unfold frs; rw [List.filterMap_cons, hf]; exact List.mem_cons_self)
      obtain ⟨sl, e⟩ := I.base.slot L o ho (I.ok.frf L hL) hL fun z => I.ok.exfs L z hL
      exact ⟨hk, ⟨L, _, hf, hn, e, hd⟩, ih (fun b hb => hs b (by unfold frs; rw [List.filterMap_cons, hf]; exact List.mem_cons_of_mem _ hb)) hr⟩
  exact all X.outer (fun _ hb => hb) I.ok.funs

/-- the frames that run, for a call -/
theorem Inv.stack (I : Inv X pins σ H s) : s.heap.FunFrames X.base X.stack := by
  rcases I.ok.stk with e | ⟨e, hf⟩
  · rw [e]; exact I.funs
  · rw [e]
    obtain ⟨m, hn, _⟩ := I.loc
    refine .cons (by rw [I.ok.kind]; decide) hf hn ?_ I.funs
    exact Heap.get?_none_of_le (Nat.le_trans I.ok.bsz I.ok.above)
theorem Inv.stkSub (I : Inv X pins σ H s) : ∀ b ∈ frs X.stack, b ∈ X.env.locals :: X.fs := fun b hb => by
  rcases I.ok.stk with e | ⟨e, hf⟩
  · rw [e] at hb; exact List.mem_cons_of_mem _ hb
  · rw [e] at hb
    unfold frs at hb
    rw [List.filterMap_cons, hf] at hb
    exact hb
theorem Inv.stkFree (I : Inv X pins σ H s) : ∀ b ∈ frs X.stack, H b = none := fun b hb => by
  rcases List.mem_cons.mp (I.stkSub b hb) with e | hb
  · rw [e]; exact I.free
  · obtain ⟨_, o, ho, _⟩ := I.ok.funs.mem hb
    exact I.base.free b o ho (I.ok.frf b hb) fun z => I.ok.exfs b z hb

/-- THE STEP: the untracked objects but the frame and the records at ch are kept (the callers' frames up to slots), the frame's map is kept, the new abstract heap is held -/
theorem Inv.step {g' : Array GenState} {t' : Nat} {d' : Drawn} {ch : List Addr} (I : Inv X pins σ H s)
    (hch : ∀ b ∈ ch, (b ∈ X.ex ∨ X.s₀.heap.objs.size ≤ b) ∧ b ≠ X.env.locals ∧ (∀ x c, X.env.cells.lookup x = some c → c ≠ b) ∧ ∀ p ∈ X.pn ++ pins, p.1 ≠ b)
    (keep : ∀ b o, b ≠ X.env.locals → b ∉ X.fs → b ∉ ch → s.heap.get? b = some o → H b = none → h'.get? b = some o)
    (slot : ∀ b o, b ≠ X.env.locals → b ∈ X.fs → b ∉ ch → s.heap.get? b = some o → H b = none → ∃ sl, h'.get? b = some { o with slots := sl }) (free : ∀ b o, b ∉ ch → s.heap.get? b = some o → H b = none → H' b = none)
    (there : ∀ b o, b ∉ ch → s.heap.get? b = some o → ∃ o', h'.get? b = some o')
    (tups : ∀ b xs, H b = some (.tup xs) → H' b = some (.tup xs)) (frzs : ∀ b o u, H b = some (.frz o u) → H' b = some (.frz o u)) (tbls : ∀ b ps, H b = some (.tbl ps) → ∃ more, H' b = some (.tbl (ps ++ more))) (sys : H sysModules = none → H' sysModules = none)
    (ns : ∀ m, s.heap.Ns X.env.locals m → h'.Ns X.env.locals m) (hok : HOk X.prog X.w H' h') (hg : AllBare g') :
    Inv X pins σ H' { s with heap := h', gens := g', drawn := d', toks := t' } := by
  have neL : ∀ b o, X.s₀.heap.get? b = some o → b ≠ X.env.locals := fun b o e => Nat.ne_of_lt (Nat.lt_of_lt_of_le (Heap.lt_size e) I.ok.above)
  have neC : ∀ b o, X.s₀.heap.get? b = some o → b ∉ X.ex → b ∉ ch := fun b o e hx hb => by
    rcases (hch b hb).1 with z | z
    · exact hx z
    · exact absurd (Nat.lt_of_lt_of_le (Heap.lt_size e) z) (Nat.lt_irrefl _)
  have cellK : ∀ x c, X.env.cells.lookup x = some c → ∀ v, s.heap.IsCell c v → h'.IsCell c v := fun x c e v ⟨o, ho, hd⟩ => by
    have nch : c ∉ ch := fun z => (hch c z).2.2.1 x c e rfl
    by_cases hc : c ∈ X.fs
    · obtain ⟨sl, q⟩ := slot c o (I.cne x c e) hc nch ho (I.freeC x c e)
      exact ⟨_, q, hd⟩
    · exact ⟨o, keep c o (I.cne x c e) hc nch ho (I.freeC x c e), hd⟩
  refine ⟨I.ok, I.os, hg, ⟨fun b o e n hb hx => ?_, fun b o e n hb hx => ?_, fun b o e n hx => ?_, fun b o e hx => ?_, fun b xs e => tups b xs (I.base.tups b xs e), fun b o xs e => frzs b o xs (I.base.frzs b o xs e), fun b ps e => ?_, fun q => sys (I.base.sys q)⟩, ?_, fun x c e => ?_, ?_, fun x c e => ?_, fun p hp => ?_, hok, I.len⟩
  · exact keep b o (neL b o e) hb (neC b o e hx) (I.base.keep b o e n hb hx) (I.base.free b o e n hx)
  · obtain ⟨sl, e1⟩ := I.base.slot b o e n hb hx
    obtain ⟨sl', e2⟩ := slot b _ (neL b o e) hb (neC b o e hx) e1 (I.base.free b o e n hx)
    exact ⟨sl', e2⟩
  · obtain ⟨o', e1⟩ := I.base.there b o e hx
    exact free b o' (neC b o e hx) e1 (I.base.free b o e n hx)
  · obtain ⟨o', e1⟩ := I.base.there b o e hx
    exact there b o' (neC b o e hx) e1
  · obtain ⟨m1, e1⟩ := I.base.tbls b ps e
    obtain ⟨m2, e2⟩ := tbls b _ e1
    exact ⟨m1 ++ m2, by rw [e2, Array.append_assoc]⟩
  · obtain ⟨m, hn, hl⟩ := I.loc
    refine ⟨m, ns m hn, fun i x v e1 e2 e3 => ?_⟩
    obtain ⟨u, r, l⟩ := hl i x v e1 e2 e3
    refine ⟨u, r, ?_⟩
    rcases l with l | ⟨k, c, e, z⟩
    · exact .inl l
    · exact .inr ⟨k, c, e, cellK x c e _ z⟩
  · obtain ⟨v, z⟩ := I.cell x c e
    exact ⟨v, cellK x c e v z⟩
  · obtain ⟨m, ⟨o, _, _, ho, _⟩, _⟩ := I.loc
    exact free _ o (fun z => (hch _ z).2.1 rfl) ho I.free
  · obtain ⟨v, o, ho, hd⟩ := I.cell x c e
    exact free c o (fun z => (hch c z).2.2.1 x c e rfl) ho (I.freeC x c e)
  · obtain ⟨e, n, ne, nf, d⟩ := I.pin p hp
    have nch : p.1 ∉ ch := fun z => (hch p.1 z).2.2.2 p hp rfl
    exact ⟨keep p.1 p.2 ne nf nch e n, free p.1 p.2 nch e n, ne, nf, d⟩
/-- .. where the frame's own object is kept too -/
theorem Inv.un {t' : Nat} (I : Inv X pins σ H s) (u : Un X.fs [] H H' s.heap h') (hok : HOk X.prog X.w H' h') : Inv X pins σ H' { s with heap := h', toks := t' } := by
  obtain ⟨m, ⟨o, es, ep, ho, r⟩, _⟩ := id I.loc
  obtain ⟨sl, hL⟩ := u.any ho I.free (by simp)
  exact I.step (g' := s.gens) (d' := s.drawn) (ch := []) (fun _ z => nomatch z) (fun b o _ hb _ e n => u.keep b o e n hb (by simp)) (fun b o _ hb _ e n => u.slot b o e n hb (by simp)) (fun b o _ e n => u.free b o e n (by simp)) (fun b o _ e => u.there b o e (by simp)) u.tups u.frzs u.tbls u.sys (fun m' hm => by
    obtain ⟨o', es', ep', ho', r'⟩ := hm
    rw [ho] at ho'; cases ho'
    exact ⟨_, es', ep', hL, r'⟩) hok I.bare
/-- behind a call (or a comprehension's block): the slots of this frame may have changed too, the records at ch may have turned -/
theorem Inv.call {g' : Array GenState} {t' : Nat} {d' : Drawn} {ch : List Addr} (I : Inv X pins σ H s) (u : Un (frs X.stack) ch H H' s.heap h') (hok : HOk X.prog X.w H' h') (hg : AllBare g')
    (hch : ∀ b ∈ ch, (b ∈ X.ex ∨ X.s₀.heap.objs.size ≤ b) ∧ b ≠ X.env.locals ∧ (∀ x c, X.env.cells.lookup x = some c → c ≠ b) ∧ ∀ p ∈ X.pn ++ pins, p.1 ≠ b) :
    Inv X pins σ H' { s with heap := h', gens := g', drawn := d', toks := t' } := by
  obtain ⟨m, ⟨o, es, ep, ho, r⟩, _⟩ := id I.loc
  obtain ⟨sl, hL⟩ := u.any ho I.free fun z => (hch _ z).2.1 rfl
  exact I.step (ch := ch) hch (fun b o hL hb hc e n => u.keep b o e n (fun z => (List.mem_cons.mp (I.stkSub b z)).elim hL hb) hc) (fun b o _ _ hc e n => u.any e n hc) (fun b o hc e n => u.free b o e n hc) (fun b o hc e => u.there b o e hc) u.tups u.frzs u.tbls u.sys (fun m' hm => by
    obtain ⟨o', es', ep', ho', r'⟩ := hm
    rw [ho] at ho'; cases ho'
    exact ⟨_, es', ep', hL, r'⟩) hok hg
/-- an untracked record of ours (an iterator) has turned -/
theorem Inv.turned {t' : Nat} {it : Addr} (I : Inv X pins σ H s) (k : ∀ b o, b ≠ it → s.heap.get? b = some o → h'.get? b = some o) (hn : H it = none) (hL : it ≠ X.env.locals)
    (h1 : it ∈ X.ex ∨ X.s₀.heap.objs.size ≤ it) (h2 : ∀ x c, X.env.cells.lookup x = some c → c ≠ it) (h3 : ∀ p ∈ X.pn ++ pins, p.1 ≠ it) : Inv X pins σ H { s with heap := h', toks := t' } := by
  have nit : ∀ b u, H b = some u → b ≠ it := fun b u e z => by rw [z, hn] at e; cases e
  refine I.step (g' := s.gens) (d' := s.drawn) (ch := [it]) (fun b hb => ?_) (fun b o _ _ hc e _ => k b o (fun z => hc (by simp [z])) e) (fun b o _ _ hc e _ => ⟨o.slots, k b o (fun z => hc (by simp [z])) e⟩) (fun _ _ _ _ n => n)
    (fun b o hc e => ⟨o, k b o (fun z => hc (by simp [z])) e⟩) (fun _ _ e => e) (fun _ _ _ e => e) (fun b ps e => ⟨#[], by rw [e]; simp⟩) (fun q => q) (fun m hm => ?_) (fun b u e => ?_) I.bare
  · have e : b = it := by simpa using hb
    subst e
    exact ⟨h1, hL, h2, h3⟩
  · obtain ⟨o, es, ep, ho, r⟩ := hm
    exact ⟨o, es, ep, k _ o (Ne.symm hL) ho, r⟩
  · refine (I.hok b u e).stay (fun c v hc q => k c v ?_ q) (fun _ q => q) fun _ _ q => q
    rcases hc with z | z
    · rw [z]; exact nit b u e
    · exact nit c _ z
theorem Inv.tok (I : Inv X pins σ H s) (t : Nat) : Inv X pins σ H { s with toks := t } := I.un (h' := s.heap) (t' := t) Un.refl I.hok
/-- all objects kept -/
theorem Inv.kept {t' : Nat} (I : Inv X pins σ H s) (k : ∀ b u, s.heap.get? b = some u → h'.get? b = some u) : Inv X pins σ H { s with heap := h', toks := t' } := I.un (Un.kept k) (I.hok.kept k)
/-- a new object laid and tracked -/
theorem Inv.laid {a : Addr} {o : HO} {t' : Nat} (I : Inv X pins σ H s) (k : ∀ b u, s.heap.get? b = some u → h'.get? b = some u) (hp : s.heap.objs.size ≤ a) (new : ObjOk X.prog X.w (upd H a o) h' a o) :
    Inv X pins σ (upd H a o) { s with heap := h', toks := t' } := I.un (Un.laid k hp (I.hok.fresh hp) (Nat.lt_trans (by decide : sysModules < mainGlobals) (I.mod.glob.keeps I.bk).lt)) (I.hok.laid k hp new)
/-- an object written -/
theorem Inv.write {x e : Addr} {o : HO} {t' : Nat} (I : Inv X pins σ H s) (mu : Mut (H x)) (he : e = x ∨ H e = some (.own x)) (k : ∀ b u, b ≠ e → s.heap.get? b = some u → h'.get? b = some u) (heo : ∃ u, h'.get? e = some u)
    (new : ObjOk X.prog X.w (upd H x o) h' x o) : Inv X pins σ (upd H x o) { s with heap := h', toks := t' } := I.un (Un.write mu he k heo) (I.hok.write mu he k heo new)
/-- forgetting slots, pins -/
theorem Inv.weak {σ' : List (Option V)} (I : Inv X pins σ H s) (hl : σ'.length = σ.length) (w : ∀ (i : Nat) v, σ'[i]? = some (some v) → σ[i]? = some (some v)) : Inv X pins σ' H s :=
  ⟨I.ok, I.os, I.bare, I.base, let ⟨m, hn, hl'⟩ := I.loc; ⟨m, hn, fun i x v e1 e2 e3 => hl' i x v e1 (w i v e2) e3⟩, I.cell, I.free, I.freeC, I.pin, I.hok, hl.trans I.len⟩
theorem Inv.pins_of {pins' : List (Addr × Obj)} (I : Inv X pins σ H s) (h : ∀ p ∈ pins', s.heap.get? p.1 = some p.2 ∧ H p.1 = none ∧ p.1 ≠ X.env.locals ∧ p.1 ∉ X.fs ∧ ∀ v, p.2.data ≠ .cell v) : Inv X pins' σ H s :=
  ⟨I.ok, I.os, I.bare, I.base, I.loc, I.cell, I.free, I.freeC, fun p hp => (List.mem_append.mp hp).elim (fun z => I.pin p (List.mem_append_left _ z)) (h p), I.hok, I.len⟩

theorem nodup_ix {N : List Str} (hN : N.Nodup) {i j : Nat} {x : Str} (a : N[i]? = some x) (b : N[j]? = some x) : i = j := by
  obtain ⟨h1, e1⟩ := List.getElem?_eq_some_iff.mp a
  obtain ⟨h2, e2⟩ := List.getElem?_eq_some_iff.mp b
  exact (List.getElem_inj hN).mp (e1.trans e2.symm)

/-- a name is stored; what changed -/
theorem store_ok2 {M : Model} {A : Around} {E : Value → Shared → Prop} {i : Nat} {x : Str} {v : V} {u : Value} {Q : Unit → Shared → Prop} (I : Inv X pins σ H s) (hN : X.N.Nodup) (hi : X.N[i]? = some x) (hx : Loc X.env.scope x) (r : RelV v u)
    (h : ∀ s', Inv X pins (σ.set i (some v)) H s' → (∃ a, Heap.SameBut a s.heap s'.heap ∧ (a = X.env.locals ∨ X.env.cells.lookup x = some a)) → Q () s') (hf : X.fn x = true ∨ X.env.scope.names.lookup x = some .local := by first | exact .inl rfl | exact .inr rfl | assumption) : wpAny M A (storeName X.env x u) Q E s := by
  obtain ⟨m, hn, hl⟩ := id I.loc
  have hcls : (X.env.scope.kind == .class || (X.env.scope.kind == .module && X.env.locals != X.env.globals)) = false := by rw [I.ok.kind]; rfl
  have hiσ : i < σ.length := by rw [I.len]; exact (List.getElem?_eq_some_iff.mp hi).1
  have cne := I.cne
  have tracked : ∀ {a : Addr} {h' : Heap}, (∃ o, s.heap.get? a = some o ∧ H a = none) → Heap.SameBut a s.heap h' → HOk X.prog X.w H h' := fun {a h'} ha hs b ob e => by
    obtain ⟨_, _, hfree⟩ := ha
    refine (I.hok b ob e).stay (fun c w' hc q => (hs.2 c ?_).trans q) (fun _ q => q) fun _ _ q => q
    rintro rfl
    rcases hc with rfl | hc
    · rw [hfree] at e; cases e
    · rw [hfree] at hc; cases hc
  rcases hx with hk | hk
  · refine wpAny_storeName_local hk hn (fun h' hn' hs => ?_) hcls
    obtain ⟨oL, _, _, hoL, _⟩ := id hn
    refine h _ ⟨I.ok, I.os, I.bare, ⟨fun b o e n hb hx => ?_, fun b o e n hb hx => ?_, I.base.free, fun b o e hx => ?_, I.base.tups, I.base.frzs, I.base.tbls, I.base.sys⟩, ⟨_, hn', fun j y v' e1 e2 e3 => ?_⟩, fun y c e => ?_, I.free, I.freeC, fun p hp => ?_, tracked ⟨oL, hoL, I.free⟩ hs, by simpa using I.len⟩ ⟨_, hs, .inl rfl⟩
    · exact (hs.2 b (Nat.ne_of_lt (Nat.lt_of_lt_of_le (Heap.lt_size e) I.ok.above))).trans (I.base.keep b o e n hb hx)
    · obtain ⟨sl, e1⟩ := I.base.slot b o e n hb hx
      exact ⟨sl, (hs.2 b (Nat.ne_of_lt (Nat.lt_of_lt_of_le (Heap.lt_size e) I.ok.above))).trans e1⟩
    · obtain ⟨o', e1⟩ := I.base.there b o e hx
      exact ⟨o', (hs.2 b (Nat.ne_of_lt (Nat.lt_of_lt_of_le (Heap.lt_size e) I.ok.above))).trans e1⟩
    · by_cases hj : j = i
      · subst hj
        rw [hi] at e1; cases e1
        rw [List.getElem?_set_self hiσ] at e2
        cases e2
        exact ⟨u, r, .inl ⟨hk, by simp⟩⟩
      · rw [List.getElem?_set_ne (Ne.symm hj)] at e2
        obtain ⟨u', r', q⟩ := hl j y v' e1 e2 e3
        refine ⟨u', r', ?_⟩
        rcases q with ⟨k, e⟩ | ⟨k, c, e, z⟩
        · refine .inl ⟨k, ?_⟩
          have : y ≠ x := fun e => hj (nodup_ix hN e1 (e ▸ hi))
          simp [this, e]
        · exact .inr ⟨k, c, e, z.sameBut hs (cne y c e)⟩
    · obtain ⟨w', z⟩ := I.cell y c e
      exact ⟨w', z.sameBut hs (cne y c e)⟩
    · obtain ⟨e, n, ne, nf, d⟩ := I.pin p hp
      exact ⟨(hs.2 p.1 ne).trans e, n, ne, nf, d⟩
  · have hfn : X.fn x = true := by
      rcases hf with z | z
      · exact z
      · rw [z] at hk; cases hk
    obtain ⟨c, hc⟩ := I.ok.has x (.inl hk)
    obtain ⟨w', z⟩ := I.cell x c hc
    refine wpAny_storeName_cell I.ok.kind hk hc z (fun h' hc' hs => ?_)
    obtain ⟨oc, hoc, hocd⟩ := id z
    refine h { s with heap := h' } ⟨I.ok, I.os, I.bare, ⟨fun b o e n hb hx => ?_, fun b o e n hb hx => ?_, I.base.free, fun b o e hx => ?_, I.base.tups, I.base.frzs, I.base.tbls, I.base.sys⟩, ⟨m, hn.sameBut hs (Ne.symm (cne x c hc)), fun j y v' e1 e2 e3 => ?_⟩, fun y c' e => ?_, I.free, I.freeC, fun p hp => ?_, tracked ⟨oc, hoc, I.freeC x c hc⟩ hs, by simpa using I.len⟩ ⟨c, hs, .inr hc⟩
    · exact (hs.2 b (Nat.ne_of_lt (Nat.lt_of_lt_of_le (Heap.lt_size e) (I.ok.cab x c hfn hc)))).trans (I.base.keep b o e n hb hx)
    · obtain ⟨sl, e1⟩ := I.base.slot b o e n hb hx
      exact ⟨sl, (hs.2 b (Nat.ne_of_lt (Nat.lt_of_lt_of_le (Heap.lt_size e) (I.ok.cab x c hfn hc)))).trans e1⟩
    · obtain ⟨o', e1⟩ := I.base.there b o e hx
      exact ⟨o', (hs.2 b (Nat.ne_of_lt (Nat.lt_of_lt_of_le (Heap.lt_size e) (I.ok.cab x c hfn hc)))).trans e1⟩
    · by_cases hj : j = i
      · subst hj
        rw [hi] at e1; cases e1
        rw [List.getElem?_set_self hiσ] at e2
        cases e2
        exact ⟨u, r, .inr ⟨.inl hk, c, hc, hc'⟩⟩
      · rw [List.getElem?_set_ne (Ne.symm hj)] at e2
        obtain ⟨u', r', q⟩ := hl j y v' e1 e2 e3
        refine ⟨u', r', ?_⟩
        rcases q with q | ⟨k, c', e, z'⟩
        · exact .inl q
        · refine .inr ⟨k, c', e, z'.sameBut hs ?_⟩
          rintro rfl
          exact hj (nodup_ix hN e1 (I.ok.inj _ _ _ e hc ▸ hi))
    · by_cases hcc : c' = c
      · subst hcc; exact ⟨_, hc'⟩
      · obtain ⟨w2, z2⟩ := I.cell y c' e
        exact ⟨w2, z2.sameBut hs hcc⟩
    · obtain ⟨e, n, ne, nf, d⟩ := I.pin p hp
      refine ⟨(hs.2 p.1 ?_).trans e, n, ne, nf, d⟩
      intro q
      rw [q, hoc] at e
      have q' : oc = p.2 := Option.some.inj e
      exact d w' (by rw [← q']; exact hocd)
theorem store_ok {M : Model} {A : Around} {E : Value → Shared → Prop} {i : Nat} {x : Str} {v : V} {u : Value} {Q : Unit → Shared → Prop} (I : Inv X pins σ H s) (hN : X.N.Nodup) (hi : X.N[i]? = some x) (hx : Loc X.env.scope x) (r : RelV v u)
    (h : ∀ s', Inv X pins (σ.set i (some v)) H s' → Q () s') (hf : X.fn x = true ∨ X.env.scope.names.lookup x = some .local := by first | exact .inl rfl | exact .inr rfl | assumption) : wpAny M A (storeName X.env x u) Q E s :=
  store_ok2 I hN hi hx r (fun s' I' _ => h s' I') hf
/-- behind a call or a block, the state as it is -/
theorem Inv.call' {s' : Shared} {ch : List Addr} (I : Inv X pins σ H s) (ho : s'.os = s.os) (u : Un (frs X.stack) ch H H' s.heap s'.heap) (hok : HOk X.prog X.w H' s'.heap) (hg : AllBare s'.gens)
    (hch : ∀ b ∈ ch, (b ∈ X.ex ∨ X.s₀.heap.objs.size ≤ b) ∧ b ≠ X.env.locals ∧ (∀ x c, X.env.cells.lookup x = some c → c ≠ b) ∧ ∀ p ∈ X.pn ++ pins, p.1 ≠ b) : Inv X pins σ H' s' := by
  obtain ⟨h', g', d', t', o'⟩ := s'
  have e : o' = s.os := ho
  subst e
  exact I.call (g' := g') (t' := t') (d' := d') u hok hg hch
end

/-! ### the judgements -/
/-- an exception: its class, its own dict's address (where it has one), the abstract heap behind it -/
abbrev XK := Value → Option Addr → Hp → Prop
abbrev St := List (Option V)
abbrev VK := V → Hp → Prop
/-- an expression's reading; a test's; an argument list's -/
abbrev TE := St → Hp → VK → Prop
abbrev TT := St → Hp → (Bool → Hp → Prop) → Prop
abbrev TA := St → Hp → (List V → Hp → Prop) → Prop
/-- what is wanted behind a statement -/
structure Ends where
  nx : St → Hp → Prop
  rt : VK
  bk : St → Hp → Prop := fun _ _ => False
  ct : St → Hp → Prop := fun _ _ => False
abbrev TS := Ends → St → Hp → Prop

def EP (X : Cx) (pins : List (Addr × Obj)) (σ : St) (Q : VK) (u : Value) (s' : Shared) : Prop := ∃ v H', Inv X pins σ H' s' ∧ RelV v u ∧ Q v H'
def TP (X : Cx) (pins : List (Addr × Obj)) (σ : St) (Q : Bool → Hp → Prop) (b : Bool) (s' : Shared) : Prop := ∃ H', Inv X pins σ H' s' ∧ Q b H'
def AP (X : Cx) (pins : List (Addr × Obj)) (σ : St) (Q : List V → Hp → Prop) (us : List Value) (s' : Shared) : Prop := ∃ vs H', Inv X pins σ H' s' ∧ Vals vs us ∧ Q vs H'
def SP (X : Cx) (pins : List (Addr × Obj)) (D : Ends) (f : Flow) (s' : Shared) : Prop :=
  match f with
  | .next => ∃ σ' H', Inv X pins σ' H' s' ∧ D.nx σ' H'
  | .brk => ∃ σ' H', Inv X pins σ' H' s' ∧ D.bk σ' H'
  | .cont => ∃ σ' H', Inv X pins σ' H' s' ∧ D.ct σ' H'
  | .ret u => ∃ v σ' H', Inv X pins σ' H' s' ∧ RelV v u ∧ D.rt v H'

def PE (X : Cx) (e : Expr) (t : TE) : Prop :=
  ∀ (pins : List (Addr × Obj)) (s : Shared) (σ : St) (H : Hp) (Q : VK), Inv X pins σ H s → t σ H Q → wpAny (model X.prog X.w) X.A (eval e X.env) (EP X pins σ Q) X.xe s
def PT (X : Cx) (e : Expr) (t : TT) : Prop :=
  ∀ (pins : List (Addr × Obj)) (s : Shared) (σ : St) (H : Hp) (Q : Bool → Hp → Prop), Inv X pins σ H s → t σ H Q → wpAny (model X.prog X.w) X.A (isTrue e X.env (eval e X.env)) (TP X pins σ Q) X.xe s
/-- a test whatever its 'whole' is (and, or) -/
def PW (X : Cx) (e : Expr) (t : TT) : Prop :=
  ∀ (whole : Sem Value) (pins : List (Addr × Obj)) (s : Shared) (σ : St) (H : Hp) (Q : Bool → Hp → Prop), Inv X pins σ H s → t σ H Q → wpAny (model X.prog X.w) X.A (isTrue e X.env whole) (TP X pins σ Q) X.xe s
theorem PW.pt {X : Cx} {e : Expr} {t : TT} (h : PW X e t) : PT X e t := h _
/-- an argument list (no star), from the left -/
def PA (X : Cx) (es : List Expr) (t : TA) : Prop :=
  ∀ (pos : Pos) (pins : List (Addr × Obj)) (s : Shared) (σ : St) (H : Hp) (Q : List V → Hp → Prop), Inv X pins σ H s → t σ H Q → wpAny (model X.prog X.w) X.A (spliced (backTo pos (starEach es X.env))) (AP X pins σ Q) X.xe s
def PS (X : Cx) (st : Stmt) (t : TS) : Prop :=
  ∀ (pins : List (Addr × Obj)) (s : Shared) (σ : St) (H : Hp) (D : Ends), Inv X pins σ H s → t D σ H → wpAny (model X.prog X.w) X.A (exec st X.env) (SP X pins D) X.xe s
def PSs (X : Cx) (st : List Stmt) (t : TS) : Prop :=
  ∀ (pins : List (Addr × Obj)) (s : Shared) (σ : St) (H : Hp) (D : Ends), Inv X pins σ H s → t D σ H → wpAny (model X.prog X.w) X.A (execs st X.env) (SP X pins D) X.xe s
/-- weaken the end -/
theorem thn {α : Type} {t : Sem α} {Q Q' : α → Shared → Prop} {M : Model} {A : Around} {E : Value → Shared → Prop} {s : Shared} (h : wpAny M A t Q E s) (hQ : ∀ a s, Q a s → Q' a s) : wpAny M A t Q' E s := wpAny_mono h hQ fun _ _ x => x
end L2

namespace L2
open PySem PySem.Spec PyProof.Rows
section
variable {X : Cx}

/-- two expressions in a row -/
theorem bin {a b : Expr} {ta tb : TE} (ha : PE X a ta) (hb : PE X b tb) {pins : List (Addr × Obj)} {s : Shared} {σ : St} {H : Hp} {R : V → V → Hp → Prop} (I : Inv X pins σ H s) (h : ta σ H fun x H1 => tb σ H1 fun y H2 => R x y H2)
    {α : Type} {Q : α → Shared → Prop} {f : Value → Value → Sem α}
    (hf : ∀ v u s2 x y H2, Inv X pins σ H2 s2 → RelV x v → RelV y u → R x y H2 → wpAny (model X.prog X.w) X.A (f v u) Q X.xe s2) :
    wpAny (model X.prog X.w) X.A (eval a X.env) (fun v s₁ => wpAny (model X.prog X.w) X.A (eval b X.env) (fun u s₂ => wpAny (model X.prog X.w) X.A (f v u) Q X.xe s₂) X.xe s₁) X.xe s := by
  refine thn (ha pins s σ H _ I h) fun v s1 ⟨x, H1, I1, r1, q1⟩ => ?_
  refine thn (hb pins s1 σ H1 _ I1 q1) fun u s2 ⟨y, H2, I2, r2, q2⟩ => ?_
  exact hf v u s2 x y H2 I2 r1 r2 q2

/-! ### names and constants -/
def tVar (i : Nat) : TE := fun σ H Q => ∃ v, σ[i]? = some (some v) ∧ Q v H
def tC (v : V) : TE := fun _ H Q => Q v H
theorem pe_var {i : Nat} {x : Str} {pos : Pos} (hN : X.N[i]? = some x) (hv : Vis X.env.scope x) (hd : (x == ("__debug__" : Str)) = false := by decide) (hcd : (x == ("__classdict__" : Str)) = false := by decide) : PE X (.Name x pos) (tVar i) := by
  intro pins s σ H Q I h
  obtain ⟨v, e, h⟩ := h
  obtain ⟨m, hn, hl⟩ := I.loc
  obtain ⟨u, r, l⟩ := hl i x v hN e hv
  have fin : EP X pins σ Q u s := ⟨v, H, I, r, h⟩
  rcases l with ⟨hk, hm⟩ | ⟨hk, c, hc, hcell⟩
  · exact wpAny_Name (wpAny_loadName_local I.ok.kind hk hn hm fin) hd
  · rcases hk with hk | hk
    · exact wpAny_Name (wpAny_loadName_cell I.ok.kind hk hc hcell fin) hd
    · exact wpAny_Name (wpAny_loadName_free I.ok.kind hk hc hcell fin hcd) hd
theorem pe_int {i j pos} : PE X (.Constant (.int i) j pos) (tC (.int i)) := fun _ _ _ H _ I h => wpAny_Constant_int ⟨.int i, H, I.tok _, ⟨_, rfl⟩, h⟩
theorem pe_bl {b j pos} : PE X (.Constant (.bool b) j pos) (tC (.bl b)) := fun _ _ _ H _ I h => Constant_bool ⟨.bl b, H, I, rfl, h⟩
theorem pe_non {j pos} : PE X (.Constant .none j pos) (tC .non) := fun _ _ _ H _ I h => Constant_none ⟨.non, H, I, rfl, h⟩
theorem pe_str {x j pos} : PE X (.Constant (.str x) j pos) (tC (.str x)) := fun _ _ _ H _ I h => Calls.Constant_str ⟨.str x, H, I.tok _, ⟨_, rfl⟩, h⟩

/-- a global name of the def -/
def Gl (X : Cx) (x : Str) : Prop := X.env.kindOf x = some .globalImplicit
theorem ld_glob {E : Value → Shared → Prop} {pins : List (Addr × Obj)} {s : Shared} {σ : St} {H : Hp} {x : Str} {u : Value} {pos : Pos} {Q : Value → Shared → Prop} (I : Inv X pins σ H s) (hg : Gl X x) (hm : X.mg x = some u) (h : Q u s)
    (hd : (x == ("__debug__" : Str)) = false := by decide) : wpAny (model X.prog X.w) X.A (eval (.Name x pos) X.env) Q E s :=
  Calls.Name_function_global I.ok.kind hg (Calls.loadGlobal_global (by rw [I.ok.glob]; exact I.mod.glob.keeps I.bk) hm h) hd
theorem ld_blt {E : Value → Shared → Prop} {pins : List (Addr × Obj)} {s : Shared} {σ : St} {H : Hp} {x : Str} {u : Value} {pos : Pos} {Q : Value → Shared → Prop} (I : Inv X pins σ H s) (hg : Gl X x) (hm : X.mg x = none) (hv : bootBuiltins x = some u) (h : Q u s)
    (hn : x ≠ "__name__" := by decide) (hd : (x == ("__debug__" : Str)) = false := by decide) : wpAny (model X.prog X.w) X.A (eval (.Name x pos) X.env) Q E s := by
  obtain ⟨mb, h1, h2⟩ := I.mod.blt
  exact Calls.Name_function_global I.ok.kind hg (Calls.loadGlobal_builtin (by rw [I.ok.glob]; exact I.mod.glob.keeps I.bk) hm (by rw [I.ok.blt]; exact h1.keeps I.bk) ((h2 x hn).trans hv) h) hd
/-- a module's constant, a class, a function, as a value -/
theorem pe_glob {x : Str} {v : V} {u : Value} {pos : Pos} (hg : Gl X x) (hm : X.mg x = some u) (r : RelV v u) (hd : (x == ("__debug__" : Str)) = false := by decide) : PE X (.Name x pos) (tC v) :=
  fun _ _ _ H _ I h => ld_glob I hg hm ⟨v, H, I, r, h⟩ hd
theorem pe_bltn {x : Str} {v : V} {u : Value} {pos : Pos} (hg : Gl X x) (hm : X.mg x = none) (hv : bootBuiltins x = some u) (r : RelV v u) (hn : x ≠ "__name__" := by decide) (hd : (x == ("__debug__" : Str)) = false := by decide) : PE X (.Name x pos) (tC v) :=
  fun _ _ _ H _ I h => ld_blt I hg hm hv ⟨v, H, I, r, h⟩ hn hd

/-! ### arithmetic -/
/-- two ints -/
def t2I (ta tb : TE) (k : Int → Int → Hp → Prop) : St → Hp → Prop := fun σ H => ta σ H fun x H1 => tb σ H1 fun y H2 => ∃ i j, x = .int i ∧ y = .int j ∧ k i j H2
def tAdd (ta tb : TE) : TE := fun σ H Q => t2I ta tb (fun i j H2 => Q (.int (i + j)) H2) σ H
def tSub (ta tb : TE) : TE := fun σ H Q => t2I ta tb (fun i j H2 => Q (.int (i - j)) H2) σ H
/-- the left factor below 2^64 -/
def tMul (ta tb : TE) : TE := fun σ H Q => t2I ta tb (fun i j H2 => (-(2 ^ 64) < i ∧ i < 2 ^ 64) ∧ Q (.int (i * j)) H2) σ H
variable {a b : Expr} {ta tb : TE} {pos : Pos}
theorem pe_add (ha : PE X a ta) (hb : PE X b tb) : PE X (.BinOp a .Add b pos) (tAdd ta tb) := by
  intro pins s σ H Q I h
  refine wpAny_BinOp (bin ha hb I h fun v u s2 x y H2 I2 rx ry q => ?_)
  obtain ⟨i, j, rfl, rfl, q⟩ := q
  obtain ⟨t, rfl⟩ := rx
  obtain ⟨t', rfl⟩ := ry
  exact add_int ⟨.int _, H2, I2.tok _, ⟨_, rfl⟩, q⟩
theorem pe_sub (ha : PE X a ta) (hb : PE X b tb) : PE X (.BinOp a .Sub b pos) (tSub ta tb) := by
  intro pins s σ H Q I h
  refine wpAny_BinOp (bin ha hb I h fun v u s2 x y H2 I2 rx ry q => ?_)
  obtain ⟨i, j, rfl, rfl, q⟩ := q
  obtain ⟨t, rfl⟩ := rx
  obtain ⟨t', rfl⟩ := ry
  exact sub_int ⟨.int _, H2, I2.tok _, ⟨_, rfl⟩, q⟩
theorem pe_mul (ha : PE X a ta) (hb : PE X b tb) : PE X (.BinOp a .Mult b pos) (tMul ta tb) := by
  intro pins s σ H Q I h
  refine wpAny_BinOp (bin ha hb I h fun v u s2 x y H2 I2 rx ry q => ?_)
  obtain ⟨i, j, rfl, rfl, ⟨q1, q2⟩, q⟩ := q
  obtain ⟨t, rfl⟩ := rx
  obtain ⟨t', rfl⟩ := ry
  exact mul_int ⟨.int _, H2, I2.tok _, ⟨_, rfl⟩, q⟩ (.of_left (intBits_le_64 q1 q2))

/-! ### comparisons -/
def PC (X : Cx) (op : CmpOp) (a b : Expr) (t : TE) : Prop :=
  ∀ (pins : List (Addr × Obj)) (s : Shared) (σ : St) (H : Hp) (Q : VK), Inv X pins σ H s → t σ H Q →
    wpAny (model X.prog X.w) X.A (eval a X.env) (fun v s₁ => wpAny (model X.prog X.w) X.A (eval b X.env) (fun u s₂ => wpAny (model X.prog X.w) X.A (compareOp op v u) (EP X pins σ Q) X.xe s₂) X.xe s₁) X.xe s
theorem nobehind (b : Expr) {op : CmpOp} (h : op ≠ .In) (h2 : op ≠ .NotIn) : behindInMarks op b = false := by
  have e1 : (op == CmpOp.In) = false := by cases op <;> first | rfl | exact absurd rfl h
  have e2 : (op == CmpOp.NotIn) = false := by cases op <;> first | rfl | exact absurd rfl h2
  cases b <;> simp [behindInMarks, e1, e2]
def tCmp (p : Int → Int → Bool) (ta tb : TE) : TE := fun σ H Q => t2I ta tb (fun i j H2 => Q (.bl (p i j)) H2) σ H
abbrev tLt : TE → TE → TE := tCmp fun i j => decide (i < j)
abbrev tLe : TE → TE → TE := tCmp fun i j => decide (i ≤ j)
abbrev tGt : TE → TE → TE := tCmp fun i j => decide (j < i)
abbrev tGe : TE → TE → TE := tCmp fun i j => decide (j ≤ i)
abbrev tEqI : TE → TE → TE := tCmp fun i j => decide (i = j)
abbrev tNeI : TE → TE → TE := tCmp fun i j => !decide (i = j)
/-- a comparison of two ints, by its rule -/
theorem pc_int {op : CmpOp} {p : Int → Int → Bool} (ha : PE X a ta) (hb : PE X b tb)
    (rule : ∀ (i j : Int) (t u : Tok) (Q : Value → Shared → Prop) (s : Shared), Q (.bool (p i j)) s → wpAny (model X.prog X.w) X.A (compareOp op (.int i t) (.int j u)) Q X.xe s) : PC X op a b (tCmp p ta tb) := by
  intro pins s σ H Q I h
  refine bin ha hb I h fun v u s2 x y H2 I2 rx ry q => ?_
  obtain ⟨i, j, rfl, rfl, q⟩ := q
  obtain ⟨t, rfl⟩ := rx
  obtain ⟨t', rfl⟩ := ry
  exact rule i j t t' _ s2 ⟨.bl _, H2, I2, rfl, q⟩
theorem pc_lt (ha : PE X a ta) (hb : PE X b tb) : PC X .Lt a b (tLt ta tb) := pc_int ha hb fun _ _ _ _ _ _ h => lt_int h
theorem pc_le (ha : PE X a ta) (hb : PE X b tb) : PC X .LtE a b (tLe ta tb) := pc_int ha hb fun _ _ _ _ _ _ h => le_int h
theorem pc_gt (ha : PE X a ta) (hb : PE X b tb) : PC X .Gt a b (tGt ta tb) := pc_int ha hb fun _ _ _ _ _ _ h => gt_int h
theorem pc_ge (ha : PE X a ta) (hb : PE X b tb) : PC X .GtE a b (tGe ta tb) := pc_int ha hb fun _ _ _ _ _ _ h => ge_int h
theorem pc_eqI (ha : PE X a ta) (hb : PE X b tb) : PC X .Eq a b (tEqI ta tb) := pc_int ha hb fun _ _ _ _ _ _ h => eq_int (by rw [Bool.beq_eq_decide_eq]; exact h)
theorem pc_neI (ha : PE X a ta) (hb : PE X b tb) : PC X .NotEq a b (tNeI ta tb) := pc_int ha hb fun _ _ _ _ _ _ h => ne_int (by rw [bne, Bool.beq_eq_decide_eq]; exact h)
/-- is None -/
def tIsN (ta : TE) : TE := fun σ H Q => ta σ H fun x H1 => Q (.bl (decide (x = .non))) H1
def tNotN (ta : TE) : TE := fun σ H Q => ta σ H fun x H1 => Q (.bl (!decide (x = .non))) H1
theorem RelV.none_iff {x : V} {v : Value} (r : RelV x v) : (v == Value.none) = decide (x = .non) := by
  cases x with
  | non => cases r; rfl
  | bl _ => cases r; rfl
  | int _ => obtain ⟨t, rfl⟩ := r; rfl
  | str _ => obtain ⟨t, rfl⟩ := r; rfl
  | byt _ => obtain ⟨t, rfl⟩ := r; rfl
  | flt _ => obtain ⟨t, rfl⟩ := r; rfl
  | ref _ => cases r; rfl
  | ty _ => cases r; rfl
theorem pc_isN {j pos'} (ha : PE X a ta) : PC X .Is a (.Constant .none j pos') (tIsN ta) := by
  intro pins s σ H Q I h
  refine thn (ha pins s σ H _ I h) fun v s1 ⟨x, H1, I1, r1, q1⟩ => ?_
  exact Constant_none (is_none_gen ⟨.bl _, H1, I1, by rw [r1.none_iff]; rfl, q1⟩)
theorem pc_notN {j pos'} (ha : PE X a ta) : PC X .IsNot a (.Constant .none j pos') (tNotN ta) := by
  intro pins s σ H Q I h
  refine thn (ha pins s σ H _ I h) fun v s1 ⟨x, H1, I1, r1, q1⟩ => ?_
  exact Constant_none (isnot_none_gen ⟨.bl _, H1, I1, by rw [r1.none_iff]; rfl, q1⟩)
/-- a comparison as a value, as a test -/
def tB (t : TE) : TT := fun σ H Q => t σ H fun x H1 => ∃ c, x = .bl c ∧ Q c H1
theorem pe_cmp {op : CmpOp} {t : TE} (h : PC X op a b t) (h1 : behindInMarks op b = false := by first | exact nobehind _ (by decide) (by decide) | rfl) : PE X (.Compare a [op] [b] pos) t := fun pins s σ H Q I hw => wpAny_Compare1 (h pins s σ H Q I hw) h1
theorem pt_cmp {op : CmpOp} {t : TE} (h : PC X op a b t) (h1 : behindInMarks op b = false := by first | exact nobehind _ (by decide) (by decide) | rfl) : PT X (.Compare a [op] [b] pos) (tB t) := by
  intro pins s σ H Q I hw
  refine wpAny_isTrue_Compare1 (thn (h pins s σ H _ I hw) fun v s1 h1 => thn h1 fun u s2 h2 => thn h2 fun c s3 ⟨x, H1, I1, r1, q1⟩ => ?_) h1
  obtain ⟨d, rfl, q⟩ := q1
  cases r1
  exact wpAny_truthy_bool ⟨H1, I1, q⟩
/-- an expression whose value is a bool, as a test -/
theorem pt_val {e : Expr} {t : TE} (h : PE X e t) (he : ∀ whole, isTrue e X.env whole = (do let v ← whole; standAt e.pos; holding [v] (truthy v)) := by intro _; rfl) : PT X e (tB t) := by
  intro pins s σ H Q I hw
  refine isTrue_plain (thn (h pins s σ H _ I hw) fun v s1 ⟨x, H1, I1, r1, q1⟩ => ?_) (he _)
  obtain ⟨d, rfl, q⟩ := q1
  cases r1
  exact wpAny_truthy_bool ⟨H1, I1, q⟩

/-! ### and, or, not -/
variable {tA tB' : TT} {rest : List Expr}
def tAnd (t u : TT) : TT := fun σ H Q => t σ H fun c H1 => if c = true then u σ H1 Q else Q false H1
def tOr (t u : TT) : TT := fun σ H Q => t σ H fun c H1 => if c = true then Q true H1 else u σ H1 Q
def tNot (t : TT) : TT := fun σ H Q => t σ H fun c H1 => Q (!c) H1
theorem pw_and1 (ha : PT X a tA) : PW X (.BoolOp .And [a] pos) tA := by
  intro wh pins s σ H Q I h
  refine isTrue_and (thn (ha pins s σ H Q I h) fun c s1 e => ?_)
  cases c with
  | true => exact isTrue_and_nil e
  | false => exact e
theorem pw_or1 (ha : PT X a tA) : PW X (.BoolOp .Or [a] pos) tA := by
  intro wh pins s σ H Q I h
  refine isTrue_or (thn (ha pins s σ H Q I h) fun c s1 e => ?_)
  cases c with
  | false => exact isTrue_or_nil e
  | true => exact e
theorem pw_and (ha : PT X a tA) (hb : PW X (.BoolOp .And (b :: rest) pos) tB') : PW X (.BoolOp .And (a :: b :: rest) pos) (tAnd tA tB') := by
  intro wh pins s σ H Q I h
  refine isTrue_and (thn (ha pins s σ H _ I h) fun c s1 ⟨H1, I1, q1⟩ => ?_)
  cases c with
  | true => exact hb wh pins s1 σ H1 Q I1 q1
  | false => exact ⟨H1, I1, q1⟩
theorem pw_or (ha : PT X a tA) (hb : PW X (.BoolOp .Or (b :: rest) pos) tB') : PW X (.BoolOp .Or (a :: b :: rest) pos) (tOr tA tB') := by
  intro wh pins s σ H Q I h
  refine isTrue_or (thn (ha pins s σ H _ I h) fun c s1 ⟨H1, I1, q1⟩ => ?_)
  cases c with
  | true => exact ⟨H1, I1, q1⟩
  | false => exact hb wh pins s1 σ H1 Q I1 q1
theorem pt_not (ha : PT X a tA) : PT X (.UnaryOp .Not a pos) (tNot tA) := by
  intro pins s σ H Q I h
  exact isTrue_not (ha pins s σ H (fun c H1 => Q (!c) H1) I h)
/-- .. as values (bools) -/
def tAndV (ta tb : TE) : TE := fun σ H Q => ta σ H fun x H1 => ∃ c, x = .bl c ∧ if c = true then tb σ H1 Q else Q (.bl false) H1
def tOrV (ta tb : TE) : TE := fun σ H Q => ta σ H fun x H1 => ∃ c, x = .bl c ∧ if c = true then Q (.bl true) H1 else tb σ H1 Q
def tNotV (ta : TE) : TE := fun σ H Q => ta σ H fun x H1 => ∃ c, x = .bl c ∧ Q (.bl (!c)) H1
theorem pe_one {op} {t : TE} (h : PE X a t) : PE X (.BoolOp op [a] pos) t := fun pins s σ H Q I hw => BoolOp_one (h pins s σ H Q I hw)
theorem pe_and (ha : PE X a ta) (hb : PE X (.BoolOp .And (b :: rest) pos) tb) : PE X (.BoolOp .And (a :: b :: rest) pos) (tAndV ta tb) := by
  intro pins s σ H Q I h
  refine BoolOp_and (thn (ha pins s σ H _ I h) fun v s1 ⟨x, H1, I1, r1, q1⟩ => ?_)
  obtain ⟨c, rfl, q1⟩ := q1
  cases r1
  refine wpAny_truthy_bool ?_
  cases c with
  | true => exact hb pins s1 σ H1 Q I1 q1
  | false => exact ⟨.bl false, H1, I1, rfl, q1⟩
theorem pe_or (ha : PE X a ta) (hb : PE X (.BoolOp .Or (b :: rest) pos) tb) : PE X (.BoolOp .Or (a :: b :: rest) pos) (tOrV ta tb) := by
  intro pins s σ H Q I h
  refine BoolOp_or (thn (ha pins s σ H _ I h) fun v s1 ⟨x, H1, I1, r1, q1⟩ => ?_)
  obtain ⟨c, rfl, q1⟩ := q1
  cases r1
  refine wpAny_truthy_bool ?_
  cases c with
  | false => exact hb pins s1 σ H1 Q I1 q1
  | true => exact ⟨.bl true, H1, I1, rfl, q1⟩
theorem pe_not (ha : PE X a ta) : PE X (.UnaryOp .Not a pos) (tNotV ta) := by
  intro pins s σ H Q I h
  refine UnaryOp_ (thn (ha pins s σ H _ I h) fun v s1 ⟨x, H1, I1, r1, q1⟩ => ?_)
  obtain ⟨c, rfl, q1⟩ := q1
  cases r1
  exact not_of (wpAny_truthy_bool ⟨.bl (!c), H1, I1, rfl, q1⟩)
/-- a if t else b -/
def tIf (t : TT) (ta tb : TE) : TE := fun σ H Q => t σ H fun c H1 => if c = true then ta σ H1 Q else tb σ H1 Q
theorem pe_ifExp {c : Expr} (hc : PT X c tA) (ha : PE X a ta) (hb : PE X b tb) : PE X (.IfExp c a b pos) (tIf tA ta tb) := by
  intro pins s σ H Q I h
  refine wpAny_IfExp (thn (hc pins s σ H _ I h) fun d s1 ⟨H1, I1, q1⟩ => ?_)
  cases d with
  | true => exact ha pins s1 σ H1 Q I1 q1
  | false => exact hb pins s1 σ H1 Q I1 q1
end
end L2

namespace L2
open PySem PySem.Spec PyProof.Rows

/-! ### a list, a tuple that is read: tracked, frozen, or an object of the module -/
def SqL (K : PySem.W.Frag) (H : Hp) (a : Addr) (xs : List V) : Prop :=
  Rd H a (.lst xs) ∨
    ∃ (o : Obj) (its : Array Value) (n : Nat), K.lookup a = some o ∧ o.cls = .type "list" ∧ o.dict = none ∧ o.data = .seq its n ∧ its.size ≤ sizeLine ∧ Vals xs its.toList
def SqT (K : PySem.W.Frag) (H : Hp) (a : Addr) (xs : List V) : Prop :=
  Rd H a (.tup xs) ∨
    ∃ (o : Obj) (its : Array Value) (n : Nat), K.lookup a = some o ∧ o.cls = .type "tuple" ∧ o.data = .seq its n ∧ its.size ≤ sizeLine ∧ Vals xs its.toList
def absV : Value → Option V
  | .none => some .non
  | .bool b => some (.bl b)
  | .int i _ => some (.int i)
  | .str x _ => some (.str x)
  | .bytes b _ => some (.byt b)
  | .float b _ => some (.flt b)
  | .ref a => some (.ref a)
  | .type n => some (.ty n)
  | _ => none
theorem RelV.abs {x : V} {u : Value} (r : RelV x u) : absV u = some x := by
  cases x with
  | non => cases r; rfl
  | bl _ => cases r; rfl
  | int _ => obtain ⟨t, rfl⟩ := r; rfl
  | str _ => obtain ⟨t, rfl⟩ := r; rfl
  | byt _ => obtain ⟨t, rfl⟩ := r; rfl
  | flt _ => obtain ⟨t, rfl⟩ := r; rfl
  | ref _ => cases r; rfl
  | ty _ => cases r; rfl
theorem RelV.inj {x y : V} {u : Value} (r : RelV x u) (q : RelV y u) : x = y := Option.some.inj (r.abs.symm.trans q.abs)
theorem Vals.inj : ∀ {xs ys : List V} {us : List Value}, Vals xs us → Vals ys us → xs = ys
  | _, _, _, .nil, .nil => rfl
  | _, _, _, .cons r t, .cons r' t' => by rw [r.inj r', Vals.inj t t']
section
variable {X : Cx} {pins : List (Addr × Obj)} {σ : St} {H : Hp} {s : Shared} {a : Addr} {xs ys : List V}
theorem SqL.of {K : PySem.W.Frag} (h : H a = some (.lst xs)) : SqL K H a xs := .inl (.inl h)
theorem SqT.of {K : PySem.W.Frag} (h : H a = some (.tup xs)) : SqT K H a xs := .inl (.inl h)
theorem Inv.list (I : Inv X pins σ H s) (h : SqL X.K H a xs) : ∃ its : List Value, Vals xs its ∧ PlainL s.heap a its.toArray ∧ xs.length ≤ sizeLine := by
  rcases h with h | ⟨o, its, n, hk, hc, hd, hs, hz, r⟩
  · obtain ⟨z, its, n, r, e⟩ := h.ok I.hok
    exact ⟨its, r, ⟨_, n, e, rfl, rfl, rfl⟩, z⟩
  · refine ⟨its.toList, r, ⟨o, n, I.kIn a o hk, hc, hd, by simpa using hs⟩, ?_⟩
    have e := r.length
    simp only [Array.length_toList] at e
    omega
theorem Inv.tuple (I : Inv X pins σ H s) (h : SqT X.K H a xs) : ∃ its : List Value, Vals xs its ∧ IsTup s.heap a its.toArray ∧ xs.length ≤ sizeLine := by
  rcases h with h | ⟨o, its, n, hk, hc, hs, hz, r⟩
  · obtain ⟨z, its, r, p⟩ := h.ok I.hok
    exact ⟨its, r, p, z⟩
  · refine ⟨its.toList, r, ⟨o, I.kIn a o hk, hc, n, by simpa using hs⟩, ?_⟩
    have e := r.length
    simp only [Array.length_toList] at e
    omega
theorem Inv.list_inj (I : Inv X pins σ H s) (h : SqL X.K H a xs) (h' : SqL X.K H a ys) : xs = ys := by
  obtain ⟨its, r, ⟨o, n, e, _, _, d⟩, _⟩ := I.list h
  obtain ⟨its', r', ⟨o', n', e', _, _, d'⟩, _⟩ := I.list h'
  rw [e] at e'; cases e'
  rw [d] at d'
  injection d' with d1 _
  have : its = its' := by simpa using congrArg Array.toList d1
  subst this
  exact r.inj r'
theorem Inv.tuple_inj (I : Inv X pins σ H s) (h : SqT X.K H a xs) (h' : SqT X.K H a ys) : xs = ys := by
  obtain ⟨its, r, ⟨o, e, _, n, d⟩, _⟩ := I.tuple h
  obtain ⟨its', r', ⟨o', e', _, n', d'⟩, _⟩ := I.tuple h'
  rw [e] at e'; cases e'
  rw [d] at d'
  injection d' with d1 _
  have : its = its' := by simpa using congrArg Array.toList d1
  subst this
  exact r.inj r'
end

/-! ### another wish about exceptions -/
abbrev Cx.wish (X : Cx) (E : Value → Shared → Prop) : Cx := { X with xe := E }
/-- no exception leaves -/
abbrev Cx.nox (X : Cx) : Cx := X.wish fun _ _ => False
theorem Cx.Ok.wish {X : Cx} (ok : X.Ok) (E : Value → Shared → Prop) : (X.wish E).Ok :=
  ⟨ok.mod, ok.kind, ok.glob, ok.blt, ok.above, ok.inj, ok.has, ok.cab, ok.hd, ok.frames, ok.stk, ok.exf, ok.bs, ok.bsz, ok.noex, ok.exfs, ok.funs, ok.frf⟩
theorem Cx.Ok.unwish {X : Cx} {E : Value → Shared → Prop} (ok : (X.wish E).Ok) : X.Ok :=
  ⟨ok.mod, ok.kind, ok.glob, ok.blt, ok.above, ok.inj, ok.has, ok.cab, ok.hd, ok.frames, ok.stk, ok.exf, ok.bs, ok.bsz, ok.noex, ok.exfs, ok.funs, ok.frf⟩
section
variable {X : Cx} {pins : List (Addr × Obj)} {σ : St} {H : Hp} {s : Shared} {E : Value → Shared → Prop}
theorem Inv.wish (I : Inv X pins σ H s) (E : Value → Shared → Prop) : Inv (X.wish E) pins σ H s := ⟨I.ok.wish E, I.os, I.bare, I.base, I.loc, I.cell, I.free, I.freeC, I.pin, I.hok, I.len⟩
theorem Inv.unwish (I : Inv (X.wish E) pins σ H s) : Inv X pins σ H s := ⟨I.ok.unwish, I.os, I.bare, I.base, I.loc, I.cell, I.free, I.freeC, I.pin, I.hok, I.len⟩
theorem SP.unwish {D : Ends} {f : Flow} {s' : Shared} (h : SP (X.wish E) pins D f s') : SP X pins D f s' := by
  cases f with
  | next => obtain ⟨σ', H', I, q⟩ := h; exact ⟨σ', H', I.unwish, q⟩
  | brk => obtain ⟨σ', H', I, q⟩ := h; exact ⟨σ', H', I.unwish, q⟩
  | cont => obtain ⟨σ', H', I, q⟩ := h; exact ⟨σ', H', I.unwish, q⟩
  | ret u => obtain ⟨v, σ', H', I, r, q⟩ := h; exact ⟨v, σ', H', I.unwish, r, q⟩
theorem PE.nox {e : Expr} {t : TE} (h : PE X.nox e t) : PE X e t := fun pins s σ H Q I hw =>
  wpAny_mono (h pins s σ H Q (I.wish _) hw) (fun _ _ ⟨v, H', I', r, q⟩ => ⟨v, H', I'.unwish, r, q⟩) fun _ _ z => False.elim z
theorem PT.nox {e : Expr} {t : TT} (h : PT X.nox e t) : PT X e t := fun pins s σ H Q I hw =>
  wpAny_mono (h pins s σ H Q (I.wish _) hw) (fun _ _ ⟨H', I', q⟩ => ⟨H', I'.unwish, q⟩) fun _ _ z => False.elim z
theorem PSs.nox {st : List Stmt} {t : TS} (h : PSs X.nox st t) : PSs X st t := fun pins s σ H D I hw =>
  wpAny_mono (h pins s σ H D (I.wish _) hw) (fun _ _ q => q.unwish) fun _ _ z => False.elim z
end

/-! ### blocks and small statements -/
section
variable {X : Cx} {st : Stmt} {rest : List Stmt} {t u : TS} {e : Expr} {te : TE} {pos : Pos}
def tNext : TS := fun D σ H => D.nx σ H
def tSeq (t u : TS) : TS := fun D σ H => t { D with nx := u D } σ H
theorem pss_nil : PSs X [] tNext := fun _ _ σ H _ I h => wpAny_execs_nil ⟨σ, H, I, h⟩
theorem pss_cons (h1 : PS X st t) (h2 : PSs X rest u) : PSs X (st :: rest) (tSeq t u) := by
  intro pins s σ H D I h
  refine wpAny_execs_cons (thn (h1 pins s σ H { D with nx := u D } I h) fun f s1 q => ?_)
  cases f with
  | next =>
    obtain ⟨σ', H', I', q⟩ := q
    exact h2 pins s1 σ' H' D I' q
  | ret v => exact q
  | brk => exact q
  | cont => exact q
theorem pss_one (h1 : PS X st t) : PSs X [st] t := by
  intro pins s σ H D I h
  refine wpAny_execs_cons (thn (h1 pins s σ H D I h) fun f s1 q => ?_)
  cases f with
  | next => exact wpAny_execs_nil q
  | ret v => exact q
  | brk => exact q
  | cont => exact q
def tBreak : TS := fun D σ H => D.bk σ H
def tCont : TS := fun D σ H => D.ct σ H
theorem ps_pass : PS X (.Pass pos) tNext := fun _ _ σ H _ I h => wpAny_Pass ⟨σ, H, I, h⟩
theorem ps_break : PS X (.Break pos) tBreak := fun _ _ σ H _ I h => wpAny_Break ⟨σ, H, I, h⟩
theorem ps_continue : PS X (.Continue pos) tCont := fun _ _ σ H _ I h => wpAny_Continue ⟨σ, H, I, h⟩
/-- in a def's body nothing is shown -/
theorem Inv.quiet {pins : List (Addr × Obj)} {σ : St} {H : Hp} {s : Shared} (I : Inv X pins σ H s) : interactive X.env = false := by simp [interactive, I.ok.kind]
/-- a docstring -/
theorem ps_doc {x j pos pos'} : PS X (.Expr (.Constant (.str x) j pos) pos') tNext := fun _ s σ H _ I h => wpAny_Expr (Calls.Constant_str (show SP X _ _ .next { s with toks := s.toks + 1 } from ⟨σ, H, I.tok _, h⟩)) I.quiet
/-- an expression whose value is dropped -/
def tDrop (te : TE) : TS := fun D σ H => te σ H fun _ H1 => D.nx σ H1
theorem ps_expr (he : PE X e te) (hs : swapsWith e none pos.line X.env = pure false := by rfl) : PS X (.Expr e pos) (tDrop te) := by
  intro pins s σ H D I h
  exact wpAny_Expr_any (thn (he pins s σ H _ I h) fun v s1 ⟨x, H1, I1, r1, q1⟩ => ⟨σ, H1, I1, q1⟩) I.quiet hs
def tRet (te : TE) : TS := fun D σ H => te σ H D.rt
theorem ps_ret (he : PE X e te) : PS X (.Return (some e) pos) (tRet te) := by
  intro pins s σ H D I h
  exact wpAny_Return_some (thn (he pins s σ H _ I h) fun v s1 ⟨x, H1, I1, r1, q1⟩ => ⟨x, σ, H1, I1, r1, q1⟩)
def tRetN : TS := fun D _ H => D.rt .non H
theorem ps_retN : PS X (.Return none pos) tRetN := fun _ _ σ H _ I h => wpAny_Return_none ⟨.non, σ, H, I, rfl, h⟩
def tIfS (c : TT) (t u : TS) : TS := fun D σ H => c σ H fun b H1 => if b = true then t D σ H1 else u D σ H1
theorem ps_if {c : Expr} {a b : List Stmt} {tc : TT} (hc : PT X c tc) (ha : PSs X a t) (hb : PSs X b u) : PS X (.If c a b pos) (tIfS tc t u) := by
  intro pins s σ H D I h
  refine wpAny_If (thn (hc pins s σ H _ I h) fun d s1 ⟨H1, I1, q1⟩ => ?_)
  cases d with
  | true => exact ha pins s1 σ H1 D I1 q1
  | false => exact hb pins s1 σ H1 D I1 q1
/-- code that the proof never comes to -/
def tNever : TS := fun _ _ _ => False
theorem ps_never : PS X st tNever := fun _ _ _ _ _ _ h => h.elim
theorem pss_never {sts : List Stmt} : PSs X sts tNever := fun _ _ _ _ _ _ h => h.elim
end

/-! ### targets -/
abbrev TG := V → St → Hp → (St → Hp → Prop) → Prop
abbrev TGs := List V → St → Hp → (St → Hp → Prop) → Prop
def PG (X : Cx) (target : Expr) (t : TG) : Prop :=
  ∀ (pins : List (Addr × Obj)) (s : Shared) (σ : St) (H : Hp) (v : V) (u : Value) (Q : St → Hp → Prop), Inv X pins σ H s → RelV v u → t v σ H Q →
    wpAny (model X.prog X.w) X.A (assign target X.env u) (fun _ s' => ∃ σ' H', Inv X pins σ' H' s' ∧ Q σ' H') X.xe s
/-- several targets, one after another -/
def PGs (X : Cx) (ts : List Expr) (t : TGs) : Prop :=
  ∀ (pins : List (Addr × Obj)) (s : Shared) (σ : St) (H : Hp) (vs : List V) (us : List Value) (Q : St → Hp → Prop), Inv X pins σ H s → Vals vs us → t vs σ H Q →
    wpAny (model X.prog X.w) X.A (assignInOrder ((assignEach ts X.env).map (·.2)) us) (fun _ s' => ∃ σ' H', Inv X pins σ' H' s' ∧ Q σ' H') X.xe s
/-- o[i] = v, by values -/
abbrev TSet := V → V → V → Hp → (Hp → Prop) → Prop
def PSet (X : Cx) (t : TSet) : Prop :=
  ∀ (pins : List (Addr × Obj)) (s : Shared) (σ : St) (H : Hp) (o i v : V) (ov iv u : Value) (Q : Hp → Prop), Inv X pins σ H s → RelV o ov → RelV i iv → RelV v u → t o i v H Q →
    wpAny (model X.prog X.w) X.A (setItem ov iv u) (fun _ s' => ∃ H', Inv X pins σ H' s' ∧ Q H') X.xe s
/-- a op= b, by values -/
abbrev TIp := V → V → Hp → VK → Prop
def PIp (X : Cx) (op : Operator) (t : TIp) : Prop :=
  ∀ (pins : List (Addr × Obj)) (s : Shared) (σ : St) (H : Hp) (x y : V) (v u : Value) (Q : VK), Inv X pins σ H s → RelV x v → RelV y u → t x y H Q →
    wpAny (model X.prog X.w) X.A (inplaceOp op v u) (EP X pins σ Q) X.xe s
section
variable {X : Cx} {pos : Pos}
def gName (i : Nat) : TG := fun v σ H Q => Q (σ.set i (some v)) H
theorem pg_name {i : Nat} {x : Str} (hN : X.N.Nodup) (hi : X.N[i]? = some x) (hx : Loc X.env.scope x) (hf : X.fn x = true ∨ X.env.scope.names.lookup x = some .local := by first | exact .inl rfl | exact .inr rfl | assumption) : PG X (.Name x pos) (gName i) := by
  intro pins s σ H v u Q I r h
  exact wpAny_assign_Name (store_ok I hN hi hx r (fun s' I' => ⟨_, H, I', h⟩) hf)
def gNil : TGs := fun vs σ H Q => vs = [] ∧ Q σ H
def gCons (t : TG) (u : TGs) : TGs := fun vs σ H Q => ∃ v r, vs = v :: r ∧ t v σ H fun σ' H' => u r σ' H' Q
theorem pgs_nil : PGs X [] gNil := by
  intro pins s σ H vs us Q I r h
  obtain ⟨e, h⟩ := h
  subst e
  cases r
  exact assignInOrder_nil ⟨σ, H, I, h⟩
theorem pgs_cons {e : Expr} {es : List Expr} {t : TG} {u : TGs} (h1 : PG X e t) (h2 : PGs X es u)
    (hs : (assignEach (e :: es) X.env).map (·.2) = assign e X.env :: (assignEach es X.env).map (·.2) := by rfl) : PGs X (e :: es) (gCons t u) := by
  intro pins s σ H vs us Q I r h
  obtain ⟨v, vr, e1, h⟩ := h
  subst e1
  cases r with
  | cons r rr =>
    rw [hs]
    refine assignInOrder_cons (thn (h1 pins s σ H _ _ _ I r h) fun _ s1 ⟨σ1, H1, I1, q1⟩ => ?_)
    exact h2 pins s1 σ1 H1 _ _ Q I1 rr q1
/-- (a, b, ..) = a tuple of that length -/
def gTup (K : PySem.W.Frag) (n : Nat) (t : TGs) : TG := fun v σ H Q => ∃ a xs, v = .ref a ∧ SqT K H a xs ∧ xs.length = n ∧ t xs σ H Q
theorem pg_tup {es : List Expr} {k : Nat} {t : TGs} {n : Nat} (hc : X.calm = true) (h : PGs X es t)
    (hn : (assignEach es X.env).length = n := by rfl) (hst : (assignEach es X.env).findIdx? (·.1) = none := by rfl) : PG X (.Tuple es k pos) (gTup X.K n t) := by
  intro pins s σ H v u Q I r hw
  obtain ⟨a, xs, e1, hq, hl, hw⟩ := hw
  subst e1
  cases r
  obtain ⟨its, rv, ht, hz⟩ := I.tuple hq
  refine assign_Tuple_tuple (I.ok.hd hc) ht (by simp [hn, ← hl, rv.length]) hst fun h' hx => ?_
  have I1 : Inv X pins σ H { s with heap := h' } := I.kept (t' := s.toks) fun b o e => hx b o (Nat.ne_of_lt (Heap.lt_size e)) e
  exact h pins _ σ H xs _ Q I1 (by simpa using rv) hw
/-- o[i] = .. -/
def gSub (to ti : TE) (t : TSet) : TG := fun v σ H Q => to σ H fun o H1 => ti σ H1 fun i H2 => t o i v H2 fun H3 => Q σ H3
theorem pg_sub {o i : Expr} {to ti : TE} {t : TSet} (ho : PE X o to) (hi : PE X i ti) (hs : PSet X t)
    (ha : ∀ v, assign (.Subscript o i pos) X.env v = (do
      let ov ← holding [v] (eval o X.env)
      let iv ← holding [v, ov] (eval i X.env)
      standAt pos
      holding [v, ov, iv] (setItem ov iv v)
      release [v, ov, iv] []) := by intro _; rfl) : PG X (.Subscript o i pos) (gSub to ti t) := by
  intro pins s σ H v u Q I r h
  rw [ha]
  refine wpAny_bind (wpAny_holding (thn (ho pins s σ H _ I h) fun ov s1 ⟨x, H1, I1, r1, q1⟩ => ?_))
  refine wpAny_bind (wpAny_holding (thn (hi pins s1 σ H1 _ I1 q1) fun iv s2 ⟨y, H2, I2, r2, q2⟩ => ?_))
  refine wpAny_bind (wpAny_standAt (wpAny_bind (wpAny_holding (thn (hs pins s2 σ H2 x y v ov iv u _ I2 r1 r2 r q2) fun _ s3 ⟨H3, I3, q3⟩ => ?_))))
  exact wpAny_release ⟨σ, H3, I3, q3⟩
/-- target = value -/
def tAsg (te : TE) (g : TG) : TS := fun D σ H => te σ H fun x H1 => g x σ H1 D.nx
theorem ps_asg {tg e : Expr} {te : TE} {g : TG} (he : PE X e te) (hg : PG X tg g) (hs : swapsWithSole [tg] e pos.line X.env = pure false := by rfl) (hw : swappedStores [tg] e X.env = pure none := by rfl)
    (h1 : (assignEach [tg] X.env).map (·.2) = [assign tg X.env] := by rfl) : PS X (.Assign [tg] e pos) (tAsg te g) := by
  intro pins s σ H D I h
  refine wpAny_Assign_stores (thn (he pins s σ H _ I h) fun v s1 ⟨x, H1, I1, r1, q1⟩ => ?_) hs hw
  rw [h1]
  exact thn (hg pins s1 σ H1 x v _ I1 r1 q1) fun _ s2 q => q
/-- name = value -/
theorem ps_set {i : Nat} {x : Str} {e : Expr} {te : TE} {pos' : Pos} (hN : X.N.Nodup) (hi : X.N[i]? = some x) (hx : Loc X.env.scope x) (he : PE X e te) (hs : swapsWith e (some (.Name x pos')) pos.line X.env = pure false := by rfl) (hf : X.fn x = true ∨ X.env.scope.names.lookup x = some .local := by first | exact .inl rfl | exact .inr rfl | assumption) :
    PS X (.Assign [.Name x pos'] e pos) (tAsg te (gName i)) := by
  intro pins s σ H D I h
  refine wpAny_Assign_Name (thn (he pins s σ H _ I h) fun v s1 ⟨y, H1, I1, r1, q1⟩ => ?_) hs
  exact store_ok I1 hN hi hx r1 (fun s2 I2 => ⟨_, H1, I2, q1⟩) hf
/-- a, b = x, y with plain local names: stored from the right; the pair itself is not tracked (the opening rows as in PyProof/Rows/TupAssign.lean:23) -/
def tPar (i j : Nat) (ta : TA) : TS := fun D σ H => ta σ H fun vs H1 => ∃ v w, vs = [v, w] ∧ D.nx ((σ.set i (some v)).set j (some w)) H1
theorem ps_par {i j : Nat} {x y : Str} {a b : Expr} {ta : TA} {px py pt : Pos} {kt k2 pt2} (hc : X.calm = true) (hN : X.N.Nodup) (hi : X.N[i]? = some x) (hj : X.N[j]? = some y) (hij : i ≠ j)
    (hx : X.env.scope.names.lookup x = some .local) (hy : X.env.scope.names.lookup y = some .local) (ha : PA X [a, b] ta)
    (hw : swappedStores [.Tuple [.Name x px, .Name y py] kt pt] (.Tuple [a, b] k2 pt2) X.env = pure (some [x, y]))
    (hs : swapsWithSole [.Tuple [.Name x px, .Name y py] kt pt] (.Tuple [a, b] k2 pt2) pos.line X.env = pure false := by rfl) :
    PS X (.Assign [.Tuple [.Name x px, .Name y py] kt pt] (.Tuple [a, b] k2 pt2) pos) (tPar i j ta) := by
  intro pins s σ H D I h
  rw [exec_Assign_arm]
  refine wpAny_bind (wpAny_standAt ?_)
  rw [hs]
  refine wpAny_bind (wpAny_pure ?_)
  rw [if_neg (by decide)]
  refine wpAny_bind (Tuple_ (thn (ha _ pins s σ H _ I h) fun us s1 ⟨vs, H1, I1, r1, q1⟩ => ?_))
  obtain ⟨v, w, e1, q1⟩ := q1
  subst e1
  obtain ⟨u1, u2, rfl, rv, rw'⟩ : ∃ u1 u2, us = [u1, u2] ∧ RelV v u1 ∧ RelV w u2 := by
    cases r1 with
    | cons p q =>
      cases q with
      | cons p' q' =>
        cases q'
        exact ⟨_, _, rfl, p, p'⟩
  refine wpAny_newObj_type ?_ (by show 2 ≤ sizeLine; decide)
  have I2 : Inv X pins σ H1 { s1 with heap := s1.heap.push { cls := .type "tuple", data := .seq [u1, u2].toArray } } := I1.kept (t' := s1.toks) fun b o e => Heap.get?_push_of_some _ e
  rw [hw]
  refine wpAny_bind (wpAny_pure ?_)
  show wpAny (model X.prog X.w) X.A (do rule "assign.swapped-stores"; let items ← unpackItems (.ref s1.heap.objs.size) 2 none; assignInOrder [fun v => bindName X.env y v, fun v => bindName X.env x v] items.reverse; pure Flow.next) _ _ _
  refine wpAny_bind (wpAny_rule (wpAny_bind (unpackItems_tuple (items := #[u1, u2]) (I.ok.hd hc) (IsTup.new s1.heap _) fun h' hx' => ?_)))
  have I3 := I2.kept (h' := h') (t' := s1.toks) fun b o e => hx' b o (Nat.ne_of_lt (Heap.lt_size e)) e
  show wpAny _ _ (assignInOrder [fun v => bindName X.env y v, fun v => bindName X.env x v] [u2, u1] >>= fun _ => pure Flow.next) _ _ _
  refine wpAny_bind (assignInOrder_cons (wpAny_bindName (store_ok I3 hN hj (.inl hy) rw' (fun s2 I4 => ?_) (.inr hy))))
  refine assignInOrder_cons (wpAny_bindName (store_ok I4 hN hi (.inl hx) rv (fun s3 I5 => assignInOrder_nil (wpAny_pure ?_)) (.inr hx)))
  rw [List.set_comm _ _ (Ne.symm hij)] at I5
  exact ⟨_, H1, I5, q1⟩
/-- name op= e -/
def tAug (i : Nat) (te : TE) (ti : TIp) : TS := fun D σ H => ∃ x, σ[i]? = some (some x) ∧ te σ H fun y H1 => ti x y H1 fun z H2 => D.nx (σ.set i (some z)) H2
theorem ps_aug {i : Nat} {x : Str} {e : Expr} {te : TE} {op : Operator} {ti : TIp} {pos' : Pos} (hN : X.N.Nodup) (hi : X.N[i]? = some x) (hx : Loc X.env.scope x) (he : PE X e te) (ho : PIp X op ti) (hf : X.fn x = true ∨ X.env.scope.names.lookup x = some .local := by first | exact .inl rfl | exact .inr rfl | assumption) :
    PS X (.AugAssign (.Name x pos') op e pos) (tAug i te ti) := by
  intro pins s σ H D I h
  obtain ⟨v, e1, h⟩ := h
  obtain ⟨m, hn, hl⟩ := I.loc
  have vis : Vis X.env.scope x := by rcases hx with k | k; exact .inl k; exact .inr (.inl k)
  obtain ⟨u, r, l⟩ := hl i x v hi e1 vis
  refine wpAny_AugAssign_Name ?_
  have go : wpAny (model X.prog X.w) X.A (eval e X.env) (fun w s₂ => wpAny (model X.prog X.w) X.A (inplaceOp op u w) (fun r s₃ => wpAny (model X.prog X.w) X.A (storeName X.env x r) (fun _ => SP X pins D .next) X.xe s₃) X.xe s₂) X.xe s := by
    refine thn (he pins s σ H _ I h) fun w s1 ⟨y, H1, I1, r1, q1⟩ => ?_
    refine thn (ho pins s1 σ H1 v y u w _ I1 r r1 q1) fun z s2 ⟨zv, H2, I2, r2, q2⟩ => ?_
    exact store_ok I2 hN hi hx r2 (fun s3 I3 => ⟨_, H2, I3, q2⟩) hf
  rcases l with ⟨hk, hm⟩ | ⟨hk, c, hc, hcell⟩
  · exact wpAny_loadName_local I.ok.kind hk hn hm go
  · rcases hk with hk | hk
    · exact wpAny_loadName_cell I.ok.kind hk hc hcell go
    · rcases hx with k | k
      · have : X.env.scope.names.lookup x = some .free := hk
        rw [k] at this; cases this
      · have : X.env.scope.names.lookup x = some .free := hk
        rw [k] at this; cases this
/-- o[i] op= e -/
def tAugS (to ti te : TE) (tget : V → V → Hp → VK → Prop) (tip : TIp) (tset : TSet) : TS := fun D σ H => to σ H fun o H1 => ti σ H1 fun i H2 => tget o i H2 fun x H3 => te σ H3 fun y H4 => tip x y H4 fun z H5 => tset o i z H5 fun H6 => D.nx σ H6
/-- o[i], by values -/
def PGet (X : Cx) (t : V → V → Hp → VK → Prop) : Prop :=
  ∀ (pins : List (Addr × Obj)) (s : Shared) (σ : St) (H : Hp) (o i : V) (ov iv : Value) (Q : VK), Inv X pins σ H s → RelV o ov → RelV i iv → t o i H Q →
    wpAny (model X.prog X.w) X.A (getItem ov iv) (EP X pins σ Q) X.xe s
theorem ps_augS {o i e : Expr} {to ti te : TE} {tget : V → V → Hp → VK → Prop} {tip : TIp} {tset : TSet} {op : Operator} {tpos : Pos} (ho : PE X o to) (hi : PE X i ti) (hg : PGet X tget) (he : PE X e te) (hp : PIp X op tip) (hs : PSet X tset)
    (ha : ∀ ov iv new, augStore i ov iv new = (do holding [new, ov, iv] (setItem ov iv new); release [new, ov, iv] []; pure .next) := by intros; rfl) : PS X (.AugAssign (.Subscript o i tpos) op e pos) (tAugS to ti te tget tip tset) := by
  intro pins s σ H D I h
  refine wpAny_AugAssign_SubscriptAny (thn (ho pins s σ H _ I h) fun ov s1 ⟨x1, H1, I1, r1, q1⟩ => ?_) ha
  refine thn (hi pins s1 σ H1 _ I1 q1) fun iv s2 ⟨x2, H2, I2, r2, q2⟩ => ?_
  refine thn (hg pins s2 σ H2 x1 x2 ov iv _ I2 r1 r2 q2) fun old s3 ⟨x3, H3, I3, r3, q3⟩ => ?_
  refine thn (he pins s3 σ H3 _ I3 q3) fun v s4 ⟨x4, H4, I4, r4, q4⟩ => ?_
  refine thn (hp pins s4 σ H4 x3 x4 old v _ I4 r3 r4 q4) fun new s5 ⟨x5, H5, I5, r5, q5⟩ => ?_
  exact thn (hs pins s5 σ H5 x1 x2 x5 ov iv new _ I5 r1 r2 r5 q5) fun _ s6 ⟨H6, I6, q6⟩ => ⟨σ, H6, I6, q6⟩
/-- ints -/
def ipI (f : Int → Int → Int) : TIp := fun x y H Q => ∃ i j, x = .int i ∧ y = .int j ∧ Q (.int (f i j)) H
theorem ip_add : PIp X .Add (ipI fun i j => i + j) := by
  intro pins s σ H x y v u Q I r1 r2 h
  obtain ⟨i, j, e1, e2, q⟩ := h
  subst e1; subst e2
  obtain ⟨t, rfl⟩ := r1
  obtain ⟨t', rfl⟩ := r2
  exact iadd_int ⟨.int _, H, I.tok _, ⟨_, rfl⟩, q⟩
theorem ip_sub : PIp X .Sub (ipI fun i j => i - j) := by
  intro pins s σ H x y v u Q I r1 r2 h
  obtain ⟨i, j, e1, e2, q⟩ := h
  subst e1; subst e2
  obtain ⟨t, rfl⟩ := r1
  obtain ⟨t', rfl⟩ := r2
  exact isub_int ⟨.int _, H, I.tok _, ⟨_, rfl⟩, q⟩
end

/-! ### while -/
section
variable {X : Cx} {pos : Pos}
/-- the invariant W with its measure -/
def tWhile (c : TT) (tb : TS) : TS := fun D σ H => ∃ W : Nat → St → Hp → Prop, (∃ m, W m σ H) ∧ ∀ m σ H, W m σ H →
  c σ H fun b H1 => if b = true then ∃ N : St → Hp → Prop, (∀ σ' H', N σ' H' → ∃ m', m' < m ∧ W m' σ' H') ∧ tb { D with nx := N, ct := N, bk := D.nx } σ H1 else D.nx σ H1
theorem ps_while {c : Expr} {body : List Stmt} {tc : TT} {tb : TS} (hp : PassesOwn (model X.prog X.w) X.A X.env X.xe) (hc : PT X c tc) (hb : PSs X body tb) : PS X (.While c body [] pos) (tWhile tc tb) := by
  intro pins s σ H D I h
  obtain ⟨W, ⟨m0, w0⟩, turn⟩ := h
  refine wpAny_While (codeAny_whileLoop (fun n s' => ∃ σ' H', Inv X pins σ' H' s' ∧ W n σ' H') ?_ m0 ⟨σ, H, I, w0⟩)
  rintro n s1 ⟨σ1, H1, I1, w1⟩
  refine wpAny_passesOwn hp (thn (hc pins s1 σ1 H1 _ I1 (turn n σ1 H1 w1)) fun b s2 ⟨H2, I2, q2⟩ => ?_)
  cases b with
  | true =>
    obtain ⟨N, hN, q2⟩ := q2
    rw [if_pos rfl]
    refine wpAny_passesOwn hp (thn (hb pins s2 σ1 H2 _ I2 q2) fun f s3 q3 => ?_)
    cases f with
    | next =>
      obtain ⟨σ3, H3, I3, n3⟩ := q3
      obtain ⟨m', hm, w3⟩ := hN σ3 H3 n3
      exact ⟨m', hm, σ3, H3, I3, w3⟩
    | cont =>
      obtain ⟨σ3, H3, I3, n3⟩ := q3
      obtain ⟨m', hm, w3⟩ := hN σ3 H3 n3
      exact ⟨m', hm, σ3, H3, I3, w3⟩
    | brk => exact q3
    | ret v => exact q3
  | false =>
    rw [if_neg Bool.false_ne_true]
    exact wpAny_execs_nil ⟨σ1, H2, I2, q2⟩
end

/-! ### what a loop or a comprehension walks -/
/-- at turn i: it yields x (the heap may grow), or it stops -/
structure It where
  go : Nat → Hp → Prop
  yld : Nat → Hp → V → Hp → Prop
  stop : Nat → Hp → Prop
/-- the iterator's own objects may turn: they are not the frame's, not pinned, younger than the entry (or a comprehension's own) -/
def FpOk (X : Cx) (pins : List (Addr × Obj)) (H : Hp) (b : Addr) : Prop :=
  H b = none ∧ b ≠ X.env.locals ∧ b ∉ X.fs ∧ (b ∈ X.ex ∨ X.s₀.heap.objs.size ≤ b) ∧ (∀ x c, X.env.cells.lookup x = some c → c ≠ b) ∧ ∀ p ∈ X.pn ++ pins, p.1 ≠ b
theorem Inv.fpOk {X : Cx} {pins : List (Addr × Obj)} {σ : St} {H H' : Hp} {s : Shared} {b : Addr} (I : Inv X pins σ H s) (hb : s.heap.objs.size ≤ b) (hn : H' b = none) : FpOk X pins H' b := by
  refine ⟨hn, Nat.ne_of_gt (Nat.lt_of_lt_of_le I.lt hb), I.nofs hb, .inr (Nat.le_trans I.sz hb), fun x c e z => ?_, fun p hp z => ?_⟩
  · obtain ⟨v, q⟩ := I.cell x c e
    exact absurd (Nat.lt_of_lt_of_le q.lt (by rw [z]; exact hb)) (Nat.lt_irrefl _)
  · exact absurd (Nat.lt_of_lt_of_le (Heap.lt_size (I.pin p hp).1) (by rw [z]; exact hb)) (Nat.lt_irrefl _)
structure Turn (P : Program) (w : World) (K : PySem.W.Frag) (tg : Expr) (J : It) (fp : List Addr) (it : Addr) (tn : Nat → Heap → Prop) : Prop where
  mem : it ∈ fp
  obj : ∀ i h, tn i h → ∀ b ∈ fp, ∃ o, h.get? b = some o ∧ ∀ v, o.data ≠ .cell v
  keep : ∀ i h h', tn i h → (∀ b ∈ fp, ∀ o, h.get? b = some o → h'.get? b = some o) → tn i h'
  item : ∀ (X : Cx), X.prog = P → X.w = w → X.K = K → X.calm = true → ∀ (i : Nat) (pins : List (Addr × Obj)) (s : Shared) (σ : St) (H : Hp) (E : Value → Shared → Prop), Inv X pins σ H s → (∀ b ∈ fp, FpOk X pins H b) → tn i s.heap → J.go i H →
    wpAny (model P w) X.A (pyNext (.ref it)) (fun r s1 => ∃ u, r = some u ∧
      wpAny (model P w) X.A (letOwnedTupleGo tg (.ref it) u) (fun _ s2 => ∃ x H', Inv X pins σ H' s2 ∧ RelV x u ∧ J.yld i H x H' ∧ tn (i + 1) s2.heap ∧ ∀ b ∈ fp, H' b = none) E s1) E s
  done : ∀ (X : Cx), X.prog = P → X.w = w → X.K = K → X.calm = true → ∀ (i : Nat) (pins : List (Addr × Obj)) (s : Shared) (σ : St) (H : Hp) (E : Value → Shared → Prop), Inv X pins σ H s → (∀ b ∈ fp, FpOk X pins H b) → tn i s.heap → J.stop i H →
    wpAny (model P w) X.A (pyNext (.ref it)) (fun r s1 => r = none ∧ Inv X pins σ H s1) E s
  self : ∀ (A : Around) (i : Nat) (s : Shared) (Q : Value → Shared → Prop) (E : Value → Shared → Prop), tn i s.heap → Q (.ref it) s → wpAny (model P w) A (pyIter (.ref it)) Q E s
abbrev TI := St → Hp → (It → Hp → Prop) → Prop
/-- an iterator has come -/
def PIE (X : Cx) (pins : List (Addr × Obj)) (σ : St) (tg : Expr) (R : It → Hp → Prop) (itv : Value) (s2 : Shared) : Prop :=
  ∃ (it : Addr) (fp : List Addr) (tn : Nat → Heap → Prop) (J : It) (H' : Hp), itv = .ref it ∧ Inv X pins σ H' s2 ∧ Turn X.prog X.w X.K tg J fp it tn ∧ tn 0 s2.heap ∧ (∀ b ∈ fp, FpOk X pins H' b) ∧ R J H'
def PI (X : Cx) (tg iter : Expr) (wi : TI) : Prop :=
  ∀ (pins : List (Addr × Obj)) (s : Shared) (σ : St) (H : Hp) (R : It → Hp → Prop), Inv X pins σ H s → wi σ H R →
    wpAny (model X.prog X.w) X.A (eval iter X.env) (fun v s1 => wpAny (model X.prog X.w) X.A (pyIter v) (PIE X pins σ tg R) X.xe s1) X.xe s

/-- the step ahead of the store is nothing for an iterator that keeps no tuple -/
theorem go_of {M : Model} {A : Around} {E : Value → Shared → Prop} {s : Shared} {tg : Expr} {it : Addr} {u : Value} {o : Obj} {n : String} {vs : Array Value} {Q : Unit → Shared → Prop} (ho : s.heap.get? it = some o) (hc : o.cls = .type n) (hd : o.data = .fields vs)
    (hn : ["enumerate", "zip", "dict_itemiterator", "dict_reverseitemiterator", "odict_iterator", "itertools.zip_longest", "itertools.pairwise"].contains n = false) (hQ : Q () s) : wpAny M A (letOwnedTupleGo tg (.ref it) u) Q E s := by
  unfold letOwnedTupleGo
  cases tg <;> first
    | exact wpAny_pure hQ
    | (cases u <;> first
        | exact wpAny_pure hQ
        | (refine wpAny_bind (wpAny_load ho ?_)
           rw [hc, hd]
           show wpAny M A (if (["enumerate", "zip", "dict_itemiterator", "dict_reverseitemiterator", "odict_iterator", "itertools.zip_longest", "itertools.pairwise"].contains n && vs[0]? == some (rawInt _)) = true then _ else _) Q E s
           rw [if_neg (by intro h; rw [hn, Bool.false_and] at h; cases h)]
           exact wpAny_pure hQ))

/-- the list at a, as it stands at each turn (a loop may append to it) -/
def Itl (K : PySem.W.Frag) (a : Addr) : It :=
  ⟨fun i H => ∃ xs x, SqL K H a xs ∧ xs[i]? = some x, fun i H x H' => H' = H ∧ ∀ xs, SqL K H a xs → xs[i]? = some x, fun i H => ∃ xs, SqL K H a xs ∧ xs.length ≤ i⟩
def Itt (K : PySem.W.Frag) (a : Addr) : It :=
  ⟨fun i H => ∃ xs x, SqT K H a xs ∧ xs[i]? = some x, fun i H x H' => H' = H ∧ ∀ xs, SqT K H a xs → xs[i]? = some x, fun i H => ∃ xs, SqT K H a xs ∧ xs.length ≤ i⟩
/-- lo, lo + 1, .. (n of them) -/
def Itr (lo : Int) (n : Nat) : It := ⟨fun i _ => i < n, fun i H x H' => H' = H ∧ x = .int (lo + i), fun i _ => n ≤ i⟩
theorem turn_list {P : Program} {w : World} {K : PySem.W.Frag} {tg : Expr} (a it : Addr) : Turn P w K tg (Itl K a) [it] it (fun i h => h.IsListIter it a i) where
  mem := by simp
  obj := fun i h st b hb => by
    have e : b = it := by simpa using hb
    subst e
    obtain ⟨o, e, c, d⟩ := st
    exact ⟨o, e, fun v z => by rw [d] at z; cases z⟩
  keep := fun i h h' st k => st.at fun o e => k it (by simp) o e
  item := by
    intro X hP hw hK hc i pins s σ H E I hf st hg
    subst hP hw hK
    obtain ⟨xs, x, hq, hx⟩ := hg
    obtain ⟨its, rv, p, hz⟩ := I.list hq
    obtain ⟨u, hu, ru⟩ := rv.get hx
    obtain ⟨f0, f1, f2, f3, f4, f5⟩ := hf it (by simp)
    refine wpAny_pyNext_list_item st p.isList (x := u) (by simpa using hu) fun h' st' sb => ?_
    have I1 : Inv X pins σ H { s with heap := h' } := I.turned (t' := s.toks) (fun b o hb e => (sb.2 b hb).trans e) f0 f1 f3 f4 f5
    obtain ⟨o, e, c, d⟩ := id st'
    exact ⟨u, rfl, go_of (s := { s with heap := h' }) e c d (by decide) ⟨x, H, I1, ru, ⟨rfl, fun ys hy => by rw [I.list_inj hy hq]; exact hx⟩, st', fun b hb => (hf b hb).1⟩⟩
  done := by
    intro X hP hw hK hc i pins s σ H E I hf st hg
    subst hP hw hK
    obtain ⟨xs, hq, hx⟩ := hg
    obtain ⟨its, rv, p, hz⟩ := I.list hq
    obtain ⟨f0, f1, f2, f3, f4, f5⟩ := hf it (by simp)
    have hl := rv.length
    exact wpAny_pyNext_list_end (I.ok.hd hc) st p.isList (by simp; omega) fun h' eb => ⟨rfl, I.turned (t' := s.toks) (fun b o hb e => eb b o hb e) f0 f1 f3 f4 f5⟩
  self := fun _ _ _ _ _ st h => wpAny_pyIter_listiter st h
theorem turn_tuple {P : Program} {w : World} {K : PySem.W.Frag} {tg : Expr} (a it : Addr) : Turn P w K tg (Itt K a) [it] it (fun i h => h.IsTupleIter it a i) where
  mem := by simp
  obj := fun i h st b hb => by
    have e : b = it := by simpa using hb
    subst e
    obtain ⟨o, e, c, d⟩ := st
    exact ⟨o, e, fun v z => by rw [d] at z; cases z⟩
  keep := fun i h h' st k => st.at fun o e => k it (by simp) o e
  item := by
    intro X hP hw hK hc i pins s σ H E I hf st hg
    subst hP hw hK
    obtain ⟨xs, x, hq, hx⟩ := hg
    obtain ⟨its, rv, p, hz⟩ := I.tuple hq
    obtain ⟨u, hu, ru⟩ := rv.get hx
    obtain ⟨f0, f1, f2, f3, f4, f5⟩ := hf it (by simp)
    refine wpAny_pyNext_tuple_item st (show s.heap.IsTuple a its.toArray from p) (x := u) (by simpa using hu) fun h' st' sb => ?_
    have I1 : Inv X pins σ H { s with heap := h' } := I.turned (t' := s.toks) (fun b o hb e => (sb.2 b hb).trans e) f0 f1 f3 f4 f5
    obtain ⟨o, e, c, d⟩ := id st'
    exact ⟨u, rfl, go_of (s := { s with heap := h' }) e c d (by decide) ⟨x, H, I1, ru, ⟨rfl, fun ys hy => by rw [I.tuple_inj hy hq]; exact hx⟩, st', fun b hb => (hf b hb).1⟩⟩
  done := by
    intro X hP hw hK hc i pins s σ H E I hf st hg
    subst hP hw hK
    obtain ⟨xs, hq, hx⟩ := hg
    obtain ⟨its, rv, p, hz⟩ := I.tuple hq
    obtain ⟨f0, f1, f2, f3, f4, f5⟩ := hf it (by simp)
    have hl := rv.length
    exact wpAny_pyNext_tuple_end (I.ok.hd hc) st (show s.heap.IsTuple a its.toArray from p) (by simp; omega) fun h' eb => ⟨rfl, I.turned (t' := s.toks) (fun b o hb e => eb b o hb e) f0 f1 f3 f4 f5⟩
  self := fun _ _ _ _ _ st h => wpAny_pyIter_tupleiter st h
theorem turn_range {P : Program} {w : World} {K : PySem.W.Frag} {tg : Expr} (it : Addr) (lo : Int) (n : Nat) : Turn P w K tg (Itr lo n) [it] it (fun i h => IsRangeIter h it (lo + (i : Nat) * 1) ((n : Int) - (i : Nat)) 1) where
  mem := by simp
  obj := fun i h st b hb => by
    have e : b = it := by simpa using hb
    subst e
    exact ⟨_, st, fun v z => by
      have z' : Data.fields _ = Data.cell v := z
      cases z'⟩
  keep := fun i h h' st k => k it (by simp) _ st
  item := by
    intro X hP hw hK hc i pins s σ H E I hf st hg
    subst hP hw hK
    obtain ⟨f0, f1, f2, f3, f4, f5⟩ := hf it (by simp)
    have W := Walks.range (prog := X.prog) (w := X.w) (I.ok.hd hc) it lo 1 n
    refine W.item i s _ _ hg st fun v h' tk hv st' kk => ?_
    obtain ⟨t, rfl⟩ := hv
    have I1 : Inv X pins σ H { s with heap := h', toks := tk } := I.turned (fun b o hb e => kk b o (by simpa using hb) e) f0 f1 f3 f4 f5
    refine ⟨_, rfl, go_of (s := { s with heap := h', toks := tk }) (n := "range_iterator") st' rfl rfl (by decide) ⟨.int (lo + i), H, I1, ⟨t, ?_⟩, ⟨rfl, rfl⟩, st', fun b hb => (hf b hb).1⟩⟩
    rw [Int.mul_one]
  done := by
    intro X hP hw hK hc i pins s σ H E I hf st hg
    subst hP hw hK
    obtain ⟨f0, f1, f2, f3, f4, f5⟩ := hf it (by simp)
    exact wpAny_pyNext_range_end (I.ok.hd hc) st (by have : n ≤ i := hg; omega) fun h' eb => ⟨rfl, I.turned (t' := s.toks) (fun b o hb e => eb b o hb e) f0 f1 f3 f4 f5⟩
  self := fun _ _ _ _ _ st h => wpAny_pyIter_rangeiter st h
end L2

namespace L2
open PySem PySem.Spec PyProof.Rows
section
variable {X : Cx} {tg : Expr}
def iList (K : PySem.W.Frag) (tl : TE) : TI := fun σ H R => tl σ H fun x H1 => ∃ a, x = .ref a ∧ (∃ xs, SqL K H1 a xs) ∧ R (Itl K a) H1
def iTup (K : PySem.W.Frag) (tl : TE) : TI := fun σ H R => tl σ H fun x H1 => ∃ a, x = .ref a ∧ (∃ xs, SqT K H1 a xs) ∧ R (Itt K a) H1
theorem pi_list {l : Expr} {tl : TE} (hl : PE X l tl) : PI X tg l (iList X.K tl) := by
  intro pins s σ H R I h
  refine thn (hl pins s σ H _ I h) fun v s1 ⟨x, H1, I1, r1, q1⟩ => ?_
  obtain ⟨a, e, ⟨xs, hq⟩, q⟩ := q1
  subst e
  cases r1
  obtain ⟨its, rv, p, hz⟩ := I1.list hq
  refine wpAny_pyIter_list p.isList ?_
  refine ⟨s1.heap.objs.size, [s1.heap.objs.size], _, _, H1, rfl, I1.kept (t' := s1.toks) fun b o e => Heap.get?_push_of_some _ e, turn_list a _, ⟨_, Heap.get?_push_size _ rfl, rfl, rfl⟩, fun b hb => ?_, q⟩
  have e : b = s1.heap.objs.size := by simpa using hb
  subst e
  exact I1.fpOk (Nat.le_refl _) (I1.hok.fresh (Nat.le_refl _))
theorem pi_tup {l : Expr} {tl : TE} (hl : PE X l tl) : PI X tg l (iTup X.K tl) := by
  intro pins s σ H R I h
  refine thn (hl pins s σ H _ I h) fun v s1 ⟨x, H1, I1, r1, q1⟩ => ?_
  obtain ⟨a, e, ⟨xs, hq⟩, q⟩ := q1
  subst e
  cases r1
  obtain ⟨its, rv, p, hz⟩ := I1.tuple hq
  refine wpAny_pyIter_tuple (show s1.heap.IsTuple a its.toArray from p) ?_
  refine ⟨s1.heap.objs.size, [s1.heap.objs.size], _, _, H1, rfl, I1.kept (t' := s1.toks) fun b o e => Heap.get?_push_of_some _ e, turn_tuple a _, ⟨_, Heap.get?_push_size _ rfl, rfl, rfl⟩, fun b hb => ?_, q⟩
  have e : b = s1.heap.objs.size := by simpa using hb
  subst e
  exact I1.fpOk (Nat.le_refl _) (I1.hok.fresh (Nat.le_refl _))
/-- a range object just made, walked -/
theorem range_it {pins : List (Addr × Obj)} {σ : St} {H : Hp} {s : Shared} {R : It → Hp → Prop} {E : Value → Shared → Prop} {lo hi : Int} {t u v : Tok} {tk : Nat} (I : Inv X pins σ H s) (h1 : -(2 ^ 62) ≤ lo) (h2 : lo < 2 ^ 62) (h3 : -(2 ^ 62) ≤ hi) (h4 : hi < 2 ^ 62)
    (q : R (Itr lo (hi - lo).toNat) H) : wpAny (model X.prog X.w) X.A (pyIter (.ref s.heap.objs.size)) (PIE X pins σ tg R) E { s with heap := s.heap.push { cls := .type "range", data := .fields #[.int lo t, .int hi u, .int 1 v] }, toks := tk } := by
  refine wpAny_pyIter_range (IsRange.new ..) (small_one h1 h2 h3 h4) ?_
  have I1 : Inv X pins σ H { s with heap := s.heap.push { cls := .type "range", data := .fields #[.int lo t, .int hi u, .int 1 v] }, toks := tk } := I.kept fun b o e => Heap.get?_push_of_some _ e
  refine ⟨(s.heap.push { cls := .type "range", data := .fields #[.int lo t, .int hi u, .int 1 v] }).objs.size, [(s.heap.push { cls := .type "range", data := .fields #[.int lo t, .int hi u, .int 1 v] }).objs.size], _, _, H, rfl,
    I1.kept (t' := tk) fun b o e => Heap.get?_push_of_some _ e, turn_range _ lo (hi - lo).toNat, ?_, fun b hb => ?_, q⟩
  · have e1 : lo + ((0 : Nat) : Int) * 1 = lo := by simp
    have e2 : (((hi - lo).toNat : Nat) : Int) - ((0 : Nat) : Int) = Builtin.Range.rangeSize lo hi 1 := by rw [rangeSize_one]; split <;> omega
    show IsRangeIter _ _ (lo + ((0 : Nat) : Int) * 1) ((((hi - lo).toNat : Nat) : Int) - ((0 : Nat) : Int)) 1
    rw [e1, e2]
    exact Heap.get?_push_size _ rfl
  · have e : b = (s.heap.push { cls := .type "range", data := .fields #[.int lo t, .int hi u, .int 1 v] }).objs.size := by simpa using hb
    subst e
    exact I1.fpOk (Nat.le_refl _) (I1.hok.fresh (Nat.le_refl _))
def iRng1 (ta : TA) : TI := fun σ H R => ta σ H fun vs H1 => ∃ j : Int, vs = [.int j] ∧ -(2 ^ 62) ≤ j ∧ j < 2 ^ 62 ∧ R (Itr 0 j.toNat) H1
def iRng2 (ta : TA) : TI := fun σ H R => ta σ H fun vs H1 => ∃ i j : Int, vs = [.int i, .int j] ∧ (-(2 ^ 62) ≤ i ∧ i < 2 ^ 62 ∧ -(2 ^ 62) ≤ j ∧ j < 2 ^ 62) ∧ R (Itr i (j - i).toNat) H1
theorem pi_range1 {a : Expr} {ta : TA} {p pos : Pos} (hg : Gl X "range") (hm : X.mg "range" = none) (ha : PA X [a] ta) (hs : starEach [a] X.env = [(false, eval a X.env)] := by rfl) : PI X tg (.Call (.Name "range" p) [a] [] pos) (iRng1 ta) := by
  intro pins s σ H R I h
  refine Call_ (ld_blt I hg hm boot_range (PyProof.Rows.callWith_type1 (thn (ha pos pins s σ H _ I h) fun us s1 ⟨vs, H1, I1, r1, q1⟩ => ?_) hs rfl))
  obtain ⟨j, e, q1, q2, q⟩ := q1
  subst e
  cases r1 with
  | cons r rr =>
    cases rr
    obtain ⟨t, rfl⟩ := r
    exact call_range_1 (range_it I1 (by omega) (by omega) q1 q2 (by simpa using q))
theorem pi_range2 {a b : Expr} {ta : TA} {p pos : Pos} (hg : Gl X "range") (hm : X.mg "range" = none) (ha : PA X [a, b] ta) (hs : starEach [a, b] X.env = [(false, eval a X.env), (false, eval b X.env)] := by rfl) (hs2 : starEach [b] X.env = [(false, eval b X.env)] := by rfl) :
    PI X tg (.Call (.Name "range" p) [a, b] [] pos) (iRng2 ta) := by
  intro pins s σ H R I h
  refine Call_ (ld_blt I hg hm boot_range (PyProof.Rows.callWith_type1 (thn (ha pos pins s σ H _ I h) fun us s1 ⟨vs, H1, I1, r1, q1⟩ => ?_) (by rw [hs, hs2]) (by rw [hs2]; rfl)))
  obtain ⟨i, j, e, ⟨q1, q2, q3, q4⟩, q⟩ := q1
  subst e
  cases r1 with
  | cons r rr =>
    cases rr with
    | cons r' rr =>
      cases rr
      obtain ⟨t, rfl⟩ := r
      obtain ⟨t', rfl⟩ := r'
      exact call_range_2 (range_it I1 q1 q2 q3 q4 q)

/-! ### for -/
/-- W: the invariant by the turn and a measure; N: what the body is to reach -/
def tFor (wi : TI) (g : TG) (tb : TS) : TS := fun D σ H => wi σ H fun J H1 => ∃ W : Nat → Nat → St → Hp → Prop, (∃ m, W 0 m σ H1) ∧ ∀ i m σ H, W i m σ H →
  (J.stop i H ∧ D.nx σ H) ∨ (J.go i H ∧ ∃ N : St → Hp → Prop, (∀ σ' H', N σ' H' → ∃ m', m' < m ∧ W (i + 1) m' σ' H') ∧ ∀ x H', J.yld i H x H' → g x σ H' fun σ2 H2 => tb { D with nx := N, ct := N, bk := D.nx } σ2 H2)
/-- the records at fp as they stand -/
def pinsAt (fp : List Addr) (h : Heap) : List (Addr × Obj) := fp.filterMap fun b => (h.get? b).map fun o => (b, o)
theorem mem_pinsAt {fp : List Addr} {h : Heap} {b : Addr} {o : Obj} (hb : b ∈ fp) (e : h.get? b = some o) : (b, o) ∈ pinsAt fp h := List.mem_filterMap.mpr ⟨b, hb, by rw [e]; rfl⟩
theorem of_pinsAt {fp : List Addr} {h : Heap} {p : Addr × Obj} (hp : p ∈ pinsAt fp h) : p.1 ∈ fp ∧ h.get? p.1 = some p.2 := by
  obtain ⟨b, hb, e⟩ := List.mem_filterMap.mp hp
  cases q : h.get? b with
  | none => rw [q] at e; cases e
  | some o =>
    rw [q] at e
    have e' : (b, o) = p := Option.some.inj e
    subst e'
    exact ⟨hb, q⟩
theorem Inv.pinned {pins : List (Addr × Obj)} {σ : St} {H : Hp} {s : Shared} {fp : List Addr} (I : Inv X pins σ H s) (hf : ∀ b ∈ fp, FpOk X pins H b) (ho : ∀ b ∈ fp, ∃ o, s.heap.get? b = some o ∧ ∀ v, o.data ≠ .cell v) : Inv X (pins ++ pinsAt fp s.heap) σ H s :=
  I.pins_of fun p hp => (List.mem_append.mp hp).elim (fun z => I.pin p (List.mem_append_right _ z)) fun z => by
    obtain ⟨hb, e⟩ := of_pinsAt z
    obtain ⟨f0, f1, f2, _⟩ := hf p.1 hb
    obtain ⟨o, e', d⟩ := ho p.1 hb
    rw [e] at e'; cases e'
    exact ⟨e, f0, f1, f2, d⟩
theorem Inv.unpinned {pins pl : List (Addr × Obj)} {σ : St} {H : Hp} {s : Shared} (I : Inv X (pins ++ pl) σ H s) : Inv X pins σ H s := I.pins_of fun p hp => I.pin p (List.mem_append_right _ (List.mem_append_left _ hp))
theorem ps_for {iter : Expr} {body : List Stmt} {wi : TI} {g : TG} {tb : TS} {pos : Pos} (hp : PassesOwn (model X.prog X.w) X.A X.env X.xe) (hc : X.calm = true) (hi : PI X tg iter wi) (hg : PG X tg g) (hb : PSs X body tb)
    (hs : ∀ x, foldedSetIterable iter X.env x = pure x := by intro _; rfl) : PS X (.For tg iter body [] pos) (tFor wi g tb) := by
  intro pins s σ H D I h
  refine wpAny_For (thn (hi pins s σ H _ I h) fun v s1 h1 => thn h1 fun itv s2 h2 => ?_) hs
  obtain ⟨it, fp, tn, J, H2, e, I2, T, st2, f2, W, ⟨m0, w0⟩, turn⟩ := h2
  subst e
  -- what stays true of the iterator's objects through the loop
  have stat : ∀ {H' : Hp}, (∀ b ∈ fp, H' b = none) → ∀ b ∈ fp, FpOk X pins H' b := fun hn b hb => ⟨hn b hb, (f2 b hb).2⟩
  refine codeAny_forLoop_any (fun n s' => ∃ i σ' H', Inv X pins σ' H' s' ∧ tn i s'.heap ∧ (∀ b ∈ fp, H' b = none) ∧ W i n σ' H') ?_ m0 ⟨0, σ, H2, I2, st2, fun b hb => (f2 b hb).1, w0⟩
  rintro n s3 ⟨i, σ3, H3, I3, st3, fr3, w3⟩
  rcases turn i n σ3 H3 w3 with ⟨stop, qn⟩ | ⟨go, N, hN, step⟩
  · refine wpAny_passesOwn hp (thn (T.done X rfl rfl rfl hc i pins s3 σ3 H3 X.xe I3 (stat fr3) st3 stop) fun r s4 ⟨hr, I4⟩ => ?_)
    subst hr
    exact wpAny_execs_nil ⟨σ3, H3, I4, qn⟩
  · refine wpAny_passesOwn hp (thn (T.item X rfl rfl rfl hc i pins s3 σ3 H3 X.xe I3 (stat fr3) st3 go) fun r s4 ⟨u, hr, h4⟩ => ?_)
    subst hr
    refine wpAny_passesOwn hp (thn h4 fun _ s5 ⟨x, H5, I5, r5, y5, st5, fr5⟩ => ?_)
    have I5' := I5.pinned (stat fr5) (T.obj _ _ st5)
    refine wpAny_passesOwn hp (thn (hg _ s5 σ3 H5 x u _ I5' r5 (step x H5 y5)) fun _ s6 ⟨σ6, H6, I6, q6⟩ => ?_)
    refine wpAny_passesOwn hp (thn (hb _ s6 σ6 H6 _ I6 q6) fun f s7 q7 => ?_)
    have again : ∀ {σ7 : St} {H7 : Hp}, Inv X (pins ++ pinsAt fp s5.heap) σ7 H7 s7 → N σ7 H7 → ∃ m, m < n ∧ ∃ i σ' H', Inv X pins σ' H' s7 ∧ tn i s7.heap ∧ (∀ b ∈ fp, H' b = none) ∧ W i m σ' H' := fun {σ7 H7} I7 n7 => by
      obtain ⟨m', hm, w7⟩ := hN σ7 H7 n7
      refine ⟨m', hm, i + 1, σ7, H7, I7.unpinned, T.keep _ _ _ st5 fun b hb o e => (I7.pin (b, o) (List.mem_append_right _ (List.mem_append_right _ (mem_pinsAt hb e)))).1, fun b hb => ?_, w7⟩
      obtain ⟨o, e, d⟩ := T.obj _ _ st5 b hb
      exact (I7.pin (b, o) (List.mem_append_right _ (List.mem_append_right _ (mem_pinsAt hb e)))).2.1
    cases f with
    | next => obtain ⟨σ7, H7, I7, n7⟩ := q7; exact again I7 n7
    | cont => obtain ⟨σ7, H7, I7, n7⟩ := q7; exact again I7 n7
    | brk => obtain ⟨σ7, H7, I7, q7⟩ := q7; exact ⟨σ7, H7, I7.unpinned, q7⟩
    | ret v => obtain ⟨x7, σ7, H7, I7, r7, q7⟩ := q7; exact ⟨x7, σ7, H7, I7.unpinned, r7, q7⟩
end

/-! ### the forms one uses -/
/-- over a list that the body leaves as it is -/
theorem for_list {K : PySem.W.Frag} {a : Addr} {xs : List V} {g : TG} {tb : TS} {D : Ends} {σ : St} {H : Hp} (Pv : Nat → St → Hp → Prop) (h0 : Pv 0 σ H) (hl : ∀ i σ H, i ≤ xs.length → Pv i σ H → SqL K H a xs)
    (hs : ∀ i x σ H, xs[i]? = some x → Pv i σ H → g x σ H fun σ2 H2 => tb { D with nx := Pv (i + 1), ct := Pv (i + 1), bk := D.nx } σ2 H2) (hd : ∀ σ H, Pv xs.length σ H → D.nx σ H) :
    ∃ W : Nat → Nat → St → Hp → Prop, (∃ m, W 0 m σ H) ∧ ∀ i m σ H, W i m σ H →
      ((Itl K a).stop i H ∧ D.nx σ H) ∨ ((Itl K a).go i H ∧ ∃ N : St → Hp → Prop, (∀ σ' H', N σ' H' → ∃ m', m' < m ∧ W (i + 1) m' σ' H') ∧ ∀ x H', (Itl K a).yld i H x H' → g x σ H' fun σ2 H2 => tb { D with nx := N, ct := N, bk := D.nx } σ2 H2) := by
  refine ⟨fun i m σ H => m = xs.length - i ∧ i ≤ xs.length ∧ Pv i σ H, ⟨xs.length, by simp, Nat.zero_le _, h0⟩, ?_⟩
  rintro i m σ H ⟨rfl, hi, p⟩
  have q := hl i σ H hi p
  by_cases hlt : i < xs.length
  · refine .inr ⟨⟨xs, xs[i], q, by simp [hlt]⟩, Pv (i + 1), fun σ' H' p' => ⟨xs.length - (i + 1), by omega, rfl, hlt, p'⟩, fun x H' y => ?_⟩
    obtain ⟨e, y⟩ := y
    subst e
    exact hs i x σ _ (y xs q) p
  · have e : i = xs.length := by omega
    subst e
    exact .inl ⟨⟨xs, q, Nat.le_refl _⟩, hd σ H p⟩
theorem for_tup {K : PySem.W.Frag} {a : Addr} {xs : List V} {g : TG} {tb : TS} {D : Ends} {σ : St} {H : Hp} (Pv : Nat → St → Hp → Prop) (h0 : Pv 0 σ H) (hl : ∀ i σ H, i ≤ xs.length → Pv i σ H → SqT K H a xs)
    (hs : ∀ i x σ H, xs[i]? = some x → Pv i σ H → g x σ H fun σ2 H2 => tb { D with nx := Pv (i + 1), ct := Pv (i + 1), bk := D.nx } σ2 H2) (hd : ∀ σ H, Pv xs.length σ H → D.nx σ H) :
    ∃ W : Nat → Nat → St → Hp → Prop, (∃ m, W 0 m σ H) ∧ ∀ i m σ H, W i m σ H →
      ((Itt K a).stop i H ∧ D.nx σ H) ∨ ((Itt K a).go i H ∧ ∃ N : St → Hp → Prop, (∀ σ' H', N σ' H' → ∃ m', m' < m ∧ W (i + 1) m' σ' H') ∧ ∀ x H', (Itt K a).yld i H x H' → g x σ H' fun σ2 H2 => tb { D with nx := N, ct := N, bk := D.nx } σ2 H2) := by
  refine ⟨fun i m σ H => m = xs.length - i ∧ i ≤ xs.length ∧ Pv i σ H, ⟨xs.length, by simp, Nat.zero_le _, h0⟩, ?_⟩
  rintro i m σ H ⟨rfl, hi, p⟩
  have q := hl i σ H hi p
  by_cases hlt : i < xs.length
  · refine .inr ⟨⟨xs, xs[i], q, by simp [hlt]⟩, Pv (i + 1), fun σ' H' p' => ⟨xs.length - (i + 1), by omega, rfl, hlt, p'⟩, fun x H' y => ?_⟩
    obtain ⟨e, y⟩ := y
    subst e
    exact hs i x σ _ (y xs q) p
  · have e : i = xs.length := by omega
    subst e
    exact .inl ⟨⟨xs, q, Nat.le_refl _⟩, hd σ H p⟩
theorem for_range {lo : Int} {n : Nat} {g : TG} {tb : TS} {D : Ends} {σ : St} {H : Hp} (Pv : Nat → St → Hp → Prop) (h0 : Pv 0 σ H)
    (hs : ∀ i σ H, i < n → Pv i σ H → g (.int (lo + i)) σ H fun σ2 H2 => tb { D with nx := Pv (i + 1), ct := Pv (i + 1), bk := D.nx } σ2 H2) (hd : ∀ σ H, Pv n σ H → D.nx σ H) :
    ∃ W : Nat → Nat → St → Hp → Prop, (∃ m, W 0 m σ H) ∧ ∀ i m σ H, W i m σ H →
      ((Itr lo n).stop i H ∧ D.nx σ H) ∨ ((Itr lo n).go i H ∧ ∃ N : St → Hp → Prop, (∀ σ' H', N σ' H' → ∃ m', m' < m ∧ W (i + 1) m' σ' H') ∧ ∀ x H', (Itr lo n).yld i H x H' → g x σ H' fun σ2 H2 => tb { D with nx := N, ct := N, bk := D.nx } σ2 H2) := by
  refine ⟨fun i m σ H => m = n - i ∧ i ≤ n ∧ Pv i σ H, ⟨n, by simp, Nat.zero_le _, h0⟩, ?_⟩
  rintro i m σ H ⟨rfl, hi, p⟩
  by_cases hlt : i < n
  · refine .inr ⟨hlt, Pv (i + 1), fun σ' H' p' => ⟨n - (i + 1), by omega, rfl, hlt, p'⟩, fun x H' y => ?_⟩
    obtain ⟨e, y⟩ := y
    subst e y
    exact hs i σ _ hlt p
  · have e : i = n := by omega
    subst e
    exact .inl ⟨Nat.le_refl _, hd σ H p⟩
/-- while, by a word and a measure of the state -/
theorem while_by {c : TT} {tb : TS} {D : Ends} {σ : St} {H : Hp} (Pv : St → Hp → Prop) (μ : St → Hp → Nat) (h0 : Pv σ H)
    (hs : ∀ σ H, Pv σ H → c σ H fun b H1 => if b = true then tb { D with nx := fun σ' H' => Pv σ' H' ∧ μ σ' H' < μ σ H, ct := fun σ' H' => Pv σ' H' ∧ μ σ' H' < μ σ H, bk := D.nx } σ H1 else D.nx σ H1)
    (mono : ∀ σ H Q Q', (∀ b H1, Q b H1 → Q' b H1) → c σ H Q → c σ H Q') : tWhile c tb D σ H := by
  refine ⟨fun m σ H => m = μ σ H ∧ Pv σ H, ⟨_, rfl, h0⟩, ?_⟩
  rintro m σ H ⟨rfl, p⟩
  refine mono σ H _ _ (fun b H1 q => ?_) (hs σ H p)
  cases b with
  | true => exact ⟨_, fun σ' H' ⟨p', l⟩ => ⟨_, l, rfl, p'⟩, q⟩
  | false => exact q
end L2

namespace L2
open PySem PySem.Spec PyProof.Rows

abbrev R2 := V → V → Hp → VK → Prop
/-- a two-place operation on values: f is binaryOp op, inplaceOp op or compareOp op -/
def OpR (X : Cx) (f : Value → Value → Sem Value) (r : R2) : Prop :=
  ∀ (pins : List (Addr × Obj)) (s : Shared) (σ : St) (H : Hp) (x y : V) (v u : Value) (Q : VK), Inv X pins σ H s → RelV x v → RelV y u → r x y H Q →
    wpAny (model X.prog X.w) X.A (f v u) (EP X pins σ Q) X.xe s
/-- a one-place operation -/
def UnR (X : Cx) (f : Value → Sem Value) (r : V → Hp → VK → Prop) : Prop :=
  ∀ (pins : List (Addr × Obj)) (s : Shared) (σ : St) (H : Hp) (x : V) (v : Value) (Q : VK), Inv X pins σ H s → RelV x v → r x H Q →
    wpAny (model X.prog X.w) X.A (f v) (EP X pins σ Q) X.xe s
/-- a call of a value that is known (a builtin, a type) with values -/
def CallR (X : Cx) (f : Value) (r : List V → Hp → VK → Prop) : Prop :=
  ∀ (pins : List (Addr × Obj)) (s : Shared) (σ : St) (H : Hp) (xs : List V) (us : List Value) (Q : VK), Inv X pins σ H s → Vals xs us → r xs H Q →
    wpAny (model X.prog X.w) X.A (call f us) (EP X pins σ Q) X.xe s
/-- a value's truth -/
def TruR (X : Cx) (r : V → Hp → (Bool → Hp → Prop) → Prop) : Prop :=
  ∀ (pins : List (Addr × Obj)) (s : Shared) (σ : St) (H : Hp) (x : V) (v : Value) (Q : Bool → Hp → Prop), Inv X pins σ H s → RelV x v → r x H Q →
    wpAny (model X.prog X.w) X.A (truthy v) (TP X pins σ Q) X.xe s

def tOp (r : R2) (ta tb : TE) : TE := fun σ H Q => ta σ H fun x H1 => tb σ H1 fun y H2 => r x y H2 Q
def tUn (r : V → Hp → VK → Prop) (ta : TE) : TE := fun σ H Q => ta σ H fun x H1 => r x H1 Q
/-- ints in, under C, and a value out -/
def rI (C : Int → Int → Prop) (g : Int → Int → V) : R2 := fun x y H Q => ∃ i j, x = .int i ∧ y = .int j ∧ C i j ∧ Q (g i j) H
def rI0 (g : Int → Int → V) : R2 := fun x y H Q => ∃ i j, x = .int i ∧ y = .int j ∧ Q (g i j) H
def rU (g : Int → V) : V → Hp → VK → Prop := fun x H Q => ∃ i, x = .int i ∧ Q (g i) H

section
variable {X : Cx} {a b c : Expr} {ta tb tc : TE} {pos : Pos}

theorem binT (ha : PE X a ta) (hb : PE X b tb) {pins : List (Addr × Obj)} {s : Shared} {σ : St} {H : Hp} {R : V → V → Hp → Prop} (I : Inv X pins σ H s)
    (h : ta σ H fun x H1 => tb σ H1 fun y H2 => R x y H2) {Q : Value → Shared → Prop} {f : Value → Value → Sem Value}
    (hf : ∀ v u s2 x y H2, Inv X pins σ H2 s2 → RelV x v → RelV y u → R x y H2 → wpAny (model X.prog X.w) X.A (f v u) Q X.xe s2) :
    wpAny (model X.prog X.w) X.A (eval a X.env) (fun v s₁ => wpAny (model X.prog X.w) X.A (eval b X.env) (fun u s₂ => wpAny (model X.prog X.w) X.A (f v u) Q X.xe s₂) X.xe s₁) X.xe s := by
  refine thn (ha pins s σ H _ I h) fun v s1 ⟨x, H1, I1, r1, q1⟩ => ?_
  refine thn (hb pins s1 σ H1 _ I1 q1) fun u s2 ⟨y, H2, I2, r2, q2⟩ => ?_
  exact hf v u s2 x y H2 I2 r1 r2 q2

theorem pe_op {op : Operator} {r : R2} (ho : OpR X (binaryOp op) r) (ha : PE X a ta) (hb : PE X b tb) : PE X (.BinOp a op b pos) (tOp r ta tb) := by
  intro pins s σ H Q I h
  exact wpAny_BinOp (binT ha hb I h fun v u s2 x y H2 I2 rx ry q => ho pins s2 σ H2 x y v u Q I2 rx ry q)
theorem pe_un {op : UnaryOp} {r : V → Hp → VK → Prop} (ho : UnR X (unaryOp op) r) (ha : PE X a ta) : PE X (.UnaryOp op a pos) (tUn r ta) := by
  intro pins s σ H Q I h
  exact UnaryOp_ (thn (ha pins s σ H _ I h) fun v s1 ⟨x, H1, I1, r1, q1⟩ => ho pins s1 σ H1 x v Q I1 r1 q1)
/-- a op= e at a name: the name's slot i -/
theorem augR {op : Operator} {r : R2} (ho : OpR X (inplaceOp op) r) {pins : List (Addr × Obj)} {s : Shared} {σ : St} {H : Hp} {x y : V} {v u : Value} {Q : VK} (I : Inv X pins σ H s)
    (rx : RelV x v) (ry : RelV y u) (q : r x y H Q) : wpAny (model X.prog X.w) X.A (inplaceOp op v u) (EP X pins σ Q) X.xe s := ho pins s σ H x y v u Q I rx ry q

/-! ### ints -/
theorem opI {f : Value → Value → Sem Value} {C : Int → Int → Prop} {g : Int → Int → Int}
    (rule : ∀ (i j : Int) (t u : Tok) (s : Shared) (Q : Value → Shared → Prop) (E : Value → Shared → Prop), C i j → Q (.int (g i j) s.toks) { s with toks := s.toks + 1 } → wpAny (model X.prog X.w) X.A (f (.int i t) (.int j u)) Q E s) :
    OpR X f (rI C fun i j => .int (g i j)) := by
  intro pins s σ H x y v u Q I rx ry h
  obtain ⟨i, j, rfl, rfl, hc, q⟩ := h
  obtain ⟨t, rfl⟩ := rx
  obtain ⟨t', rfl⟩ := ry
  exact rule i j t t' s _ _ hc ⟨.int (g i j), H, I.tok _, ⟨_, rfl⟩, q⟩
theorem opI0 {f : Value → Value → Sem Value} {g : Int → Int → Int}
    (rule : ∀ (i j : Int) (t u : Tok) (s : Shared) (Q : Value → Shared → Prop) (E : Value → Shared → Prop), Q (.int (g i j) s.toks) { s with toks := s.toks + 1 } → wpAny (model X.prog X.w) X.A (f (.int i t) (.int j u)) Q E s) :
    OpR X f (rI0 fun i j => .int (g i j)) := by
  intro pins s σ H x y v u Q I rx ry h
  obtain ⟨i, j, rfl, rfl, q⟩ := h
  obtain ⟨t, rfl⟩ := rx
  obtain ⟨t', rfl⟩ := ry
  exact rule i j t t' s _ _ ⟨.int (g i j), H, I.tok _, ⟨_, rfl⟩, q⟩
theorem opB0 {f : Value → Value → Sem Value} {g : Int → Int → Bool}
    (rule : ∀ (i j : Int) (t u : Tok) (s : Shared) (Q : Value → Shared → Prop) (E : Value → Shared → Prop), Q (.bool (g i j)) s → wpAny (model X.prog X.w) X.A (f (.int i t) (.int j u)) Q E s) :
    OpR X f (rI0 fun i j => .bl (g i j)) := by
  intro pins s σ H x y v u Q I rx ry h
  obtain ⟨i, j, rfl, rfl, q⟩ := h
  obtain ⟨t, rfl⟩ := rx
  obtain ⟨t', rfl⟩ := ry
  exact rule i j t t' s _ _ ⟨.bl (g i j), H, I, rfl, q⟩

def CDiv (i j : Int) : Prop := 0 < j ∧ j < 1073741824
def CDivN (i j : Int) : Prop := j ≠ 0 ∧ j.natAbs < 1073741824
def CPow (i j : Int) : Prop := 0 ≤ j ∧ j ≤ 1000000 ∧ i.natAbs < 2 ^ 64
def CMul (i j : Int) : Prop := (-(2 ^ 64) < i ∧ i < 2 ^ 64) ∨ (-(2 ^ 64) < j ∧ j < 2 ^ 64)
theorem CMul.ok {i j : Int} (h : CMul i j) : IntMulOk i j := by
  rcases h with ⟨h1, h2⟩ | ⟨h1, h2⟩
  · exact .of_left (intBits_le_64 h1 h2)
  · exact .of_right (intBits_le_64 h1 h2)
theorem two_pow_nn (k : Nat) : (0 : Int) ≤ 2 ^ k := by
  rw [two_pow_cast]
  exact Int.natCast_nonneg _

theorem op_add : OpR X (binaryOp .Add) (rI0 fun i j => .int (i + j)) := opI0 fun _ _ _ _ _ _ _ q => add_int q
theorem op_sub : OpR X (binaryOp .Sub) (rI0 fun i j => .int (i - j)) := opI0 fun _ _ _ _ _ _ _ q => sub_int q
theorem op_mul : OpR X (binaryOp .Mult) (rI CMul fun i j => .int (i * j)) := opI fun _ _ _ _ _ _ _ hc q => mul_int q hc.ok
/-- // by a positive divisor -/
theorem op_fdiv : OpR X (binaryOp .FloorDiv) (rI CDiv fun i j => .int (i / j)) := opI fun i j _ _ _ _ _ hc q => by
  have h1 : (0 : Int) < j := hc.1
  have h2 : j < 1073741824 := hc.2
  exact floordiv_int (by omega) (by rw [Int.fdiv_eq_ediv_of_nonneg i (by omega)]; exact q) (.inl (PyProof.noPylong_small (by omega)))
theorem op_fdivN : OpR X (binaryOp .FloorDiv) (rI CDivN fun i j => .int (i.fdiv j)) := opI fun _ _ _ _ _ _ _ hc q => floordiv_int hc.1 q (.inl (PyProof.noPylong_small hc.2))
/-- % by a positive divisor of any size -/
theorem op_mod : OpR X (binaryOp .Mod) (rI (fun _ j => 0 < j) fun i j => .int (i % j)) := opI fun i j _ _ _ _ _ hc q => by
  have h1 : (0 : Int) < j := hc
  exact mod_int' (by omega) (by rw [Int.fmod_eq_emod_of_nonneg i (by omega)]; exact q)
theorem op_modN : OpR X (binaryOp .Mod) (rI (fun _ j => j ≠ 0) fun i j => .int (i.fmod j)) := opI fun _ _ _ _ _ _ _ hc q => mod_int' hc q
theorem op_pow : OpR X (binaryOp .Pow) (rI CPow fun i j => .int (i ^ j.toNat)) := opI fun _ _ _ _ _ _ _ hc q => pow_int_small hc.1 hc.2.1 hc.2.2 q
theorem op_shl : OpR X (binaryOp .LShift) (rI CPow fun i j => .int (i * 2 ^ j.toNat)) := opI fun _ _ _ _ _ _ _ hc q => lshift_int_small hc.1 hc.2.1 hc.2.2 q
theorem op_shr : OpR X (binaryOp .RShift) (rI (fun _ j => 0 ≤ j) fun i j => .int (i / 2 ^ j.toNat)) := opI fun i j _ _ _ _ _ hc q =>
  rshift_int hc (by rw [Int.fdiv_eq_ediv_of_nonneg i (two_pow_nn _)]; exact q)
theorem op_and : OpR X (binaryOp .BitAnd) (rI0 fun i j => .int (Builtin.bitAnd i j)) := opI0 fun _ _ _ _ _ _ _ q => and_int q
theorem op_or : OpR X (binaryOp .BitOr) (rI0 fun i j => .int (Builtin.bitOr i j)) := opI0 fun _ _ _ _ _ _ _ q => or_int q
theorem op_xor : OpR X (binaryOp .BitXor) (rI0 fun i j => .int (Builtin.bitXor i j)) := opI0 fun _ _ _ _ _ _ _ q => xor_int q

theorem iop_add : OpR X (inplaceOp .Add) (rI0 fun i j => .int (i + j)) := opI0 fun _ _ _ _ _ _ _ q => iadd_int q
theorem iop_sub : OpR X (inplaceOp .Sub) (rI0 fun i j => .int (i - j)) := opI0 fun _ _ _ _ _ _ _ q => isub_int q
theorem iop_mul : OpR X (inplaceOp .Mult) (rI CMul fun i j => .int (i * j)) := opI fun _ _ _ _ _ _ _ hc q => imul_int q hc.ok
theorem iop_fdiv : OpR X (inplaceOp .FloorDiv) (rI CDiv fun i j => .int (i / j)) := opI fun i j _ _ _ _ _ hc q => by
  have h1 : (0 : Int) < j := hc.1
  have h2 : j < 1073741824 := hc.2
  exact ifloordiv_int (by omega) (by rw [Int.fdiv_eq_ediv_of_nonneg i (by omega)]; exact q) (.inl (PyProof.noPylong_small (by omega)))
theorem iop_mod : OpR X (inplaceOp .Mod) (rI (fun _ j => 0 < j) fun i j => .int (i % j)) := opI fun i j _ _ _ _ _ hc q => by
  have h1 : (0 : Int) < j := hc
  exact imod_int (by omega) (by rw [Int.fmod_eq_emod_of_nonneg i (by omega)]; exact q)
theorem iop_shl : OpR X (inplaceOp .LShift) (rI CPow fun i j => .int (i * 2 ^ j.toNat)) := opI fun _ _ _ _ _ _ _ hc q => ilshift_int_small hc.1 hc.2.1 hc.2.2 q
theorem iop_shr : OpR X (inplaceOp .RShift) (rI (fun _ j => 0 ≤ j) fun i j => .int (i / 2 ^ j.toNat)) := opI fun i j _ _ _ _ _ hc q =>
  irshift_int hc (by rw [Int.fdiv_eq_ediv_of_nonneg i (two_pow_nn _)]; exact q)
theorem iop_and : OpR X (inplaceOp .BitAnd) (rI0 fun i j => .int (Builtin.bitAnd i j)) := opI0 fun _ _ _ _ _ _ _ q => iand_int q
theorem iop_or : OpR X (inplaceOp .BitOr) (rI0 fun i j => .int (Builtin.bitOr i j)) := opI0 fun _ _ _ _ _ _ _ q => ior_int q
theorem iop_xor : OpR X (inplaceOp .BitXor) (rI0 fun i j => .int (Builtin.bitXor i j)) := opI0 fun _ _ _ _ _ _ _ q => ixor_int q

theorem unI {f : Value → Sem Value} {g : Int → Int}
    (rule : ∀ (i : Int) (t : Tok) (s : Shared) (Q : Value → Shared → Prop) (E : Value → Shared → Prop), Q (.int (g i) s.toks) { s with toks := s.toks + 1 } → wpAny (model X.prog X.w) X.A (f (.int i t)) Q E s) :
    UnR X f (rU fun i => .int (g i)) := by
  intro pins s σ H x v Q I rx h
  obtain ⟨i, rfl, q⟩ := h
  obtain ⟨t, rfl⟩ := rx
  exact rule i t s _ _ ⟨.int (g i), H, I.tok _, ⟨_, rfl⟩, q⟩
theorem un_neg : UnR X (unaryOp .USub) (rU fun i => .int (-i)) := unI fun _ _ _ _ _ q => neg_int q
theorem un_inv : UnR X (unaryOp .Invert) (rU fun i => .int (Builtin.bitNot i)) := unI fun _ _ _ _ _ q => invert_int q

/-! ### bools among ints: n += (a < b) -/
theorem op_add_ib : OpR X (binaryOp .Add) (fun x y H Q => ∃ i k, x = .int i ∧ y = .bl k ∧ Q (.int (i + b2i k)) H) := by
  intro pins s σ H x y v u Q I rx ry h
  obtain ⟨i, k, rfl, rfl, q⟩ := h
  obtain ⟨t, rfl⟩ := rx
  cases ry
  exact add_int_bool ⟨.int (i + b2i k), H, I.tok _, ⟨_, rfl⟩, q⟩
end

/-! ### comparisons -/
/-- the scalars that == tells apart as data does -/
def scal : V → V → Bool
  | .non, .non => true | .non, .int _ => true | .int _, .non => true | .non, .bl _ => true | .bl _, .non => true | .non, .str _ => true | .str _, .non => true
  | .int _, .int _ => true | .bl _, .bl _ => true | .str _, .str _ => true | .byt _, .byt _ => true
  | .int _, .str _ => true | .str _, .int _ => true | .bl _, .str _ => true | .str _, .bl _ => true
  | _, _ => false
def rEq : R2 := fun x y H Q => scal x y = true ∧ Q (.bl (decide (x = y))) H
def rNe : R2 := fun x y H Q => scal x y = true ∧ Q (.bl (!decide (x = y))) H

theorem dec_int {i j : Int} : decide (V.int i = V.int j) = (i == j) := by
  rw [Bool.eq_iff_iff]
  simp
theorem dec_bl {i j : Bool} : decide (V.bl i = V.bl j) = (i == j) := by
  rw [Bool.eq_iff_iff]
  simp
theorem dec_str {i j : Str} : decide (V.str i = V.str j) = (i == j) := by
  rw [Bool.eq_iff_iff]
  simp
theorem dec_byt {i j : Array UInt8} : decide (V.byt i = V.byt j) = (i.toList == j.toList) := by
  rw [Bool.eq_iff_iff]
  cases i
  cases j
  simp

section
variable {X : Cx} {a b c : Expr} {ta tb tc : TE} {pos : Pos}
theorem fin_bl {pins : List (Addr × Obj)} {σ : St} {H : Hp} {s : Shared} {Q : VK} {k k' : Bool} (I : Inv X pins σ H s) (q : Q (.bl k) H) (e : k = k') : EP X pins σ Q (.bool k') s := by
  subst e
  exact ⟨.bl k, H, I, rfl, q⟩
theorem op_eq : OpR X (compareOp .Eq) rEq := by
  intro pins s σ H x y v u Q I rx ry h
  obtain ⟨hs, q⟩ := h
  cases x with
  | non =>
    cases rx
    cases y with
    | non => cases ry; exact PySem.EqNone.eq_none_none (fin_bl I q (by simp))
    | bl j => cases ry; exact PySem.EqNone.eq_none_bool (fin_bl I q (by simp))
    | int j => obtain ⟨t', rfl⟩ := ry; exact PySem.EqNone.eq_none_int (fin_bl I q (by simp))
    | str j => obtain ⟨t', rfl⟩ := ry; exact PySem.EqNone.eq_none_str (fin_bl I q (by simp))
    | _ => exact absurd (show false = true from hs) Bool.false_ne_true
  | bl i =>
    cases rx
    cases y with
    | non => cases ry; exact PySem.EqNone.eq_bool_none (fin_bl I q (by simp))
    | bl j => cases ry; exact eq_bool (fin_bl I q dec_bl)
    | str j => obtain ⟨t', rfl⟩ := ry; exact PySem.EqMixed.eq_bool_str (fin_bl I q (by simp))
    | _ => exact absurd (show false = true from hs) Bool.false_ne_true
  | int i =>
    obtain ⟨t, rfl⟩ := rx
    cases y with
    | non => cases ry; exact PySem.EqNone.eq_int_none (fin_bl I q (by simp))
    | int j => obtain ⟨t', rfl⟩ := ry; exact eq_int (fin_bl I q dec_int)
    | str j => obtain ⟨t', rfl⟩ := ry; exact PySem.EqMixed.eq_int_str (fin_bl I q (by simp))
    | _ => exact absurd (show false = true from hs) Bool.false_ne_true
  | str i =>
    obtain ⟨t, rfl⟩ := rx
    cases y with
    | non => cases ry; exact PySem.EqNone.eq_str_none (fin_bl I q (by simp))
    | bl j => cases ry; exact PySem.EqMixed.eq_str_bool (fin_bl I q (by simp))
    | int j => obtain ⟨t', rfl⟩ := ry; exact PySem.EqMixed.eq_str_int (fin_bl I q (by simp))
    | str j => obtain ⟨t', rfl⟩ := ry; exact eq_str (fin_bl I q dec_str)
    | _ => exact absurd (show false = true from hs) Bool.false_ne_true
  | byt i =>
    obtain ⟨t, rfl⟩ := rx
    cases y with
    | byt j => obtain ⟨t', rfl⟩ := ry; exact PySem.W.eq_bytes (fin_bl I q dec_byt)
    | _ => exact absurd (show false = true from hs) Bool.false_ne_true
  | _ => cases y <;> exact absurd (show false = true from hs) Bool.false_ne_true
theorem op_ne : OpR X (compareOp .NotEq) rNe := by
  intro pins s σ H x y v u Q I rx ry h
  obtain ⟨hs, q⟩ := h
  cases x with
  | non =>
    cases rx
    cases y with
    | non => cases ry; exact PySem.EqNone.ne_none_none (fin_bl I q (by simp))
    | bl j => cases ry; exact PySem.EqNone.ne_none_bool (fin_bl I q (by simp))
    | int j => obtain ⟨t', rfl⟩ := ry; exact PySem.EqNone.ne_none_int (fin_bl I q (by simp))
    | str j => obtain ⟨t', rfl⟩ := ry; exact PySem.EqNone.ne_none_str (fin_bl I q (by simp))
    | _ => exact absurd (show false = true from hs) Bool.false_ne_true
  | bl i =>
    cases rx
    cases y with
    | non => cases ry; exact PySem.EqNone.ne_bool_none (fin_bl I q (by simp))
    | bl j => cases ry; exact ne_bool (fin_bl I q (congrArg not dec_bl))
    | str j => obtain ⟨t', rfl⟩ := ry; exact PySem.EqMixed.ne_bool_str (fin_bl I q (by simp))
    | _ => exact absurd (show false = true from hs) Bool.false_ne_true
  | int i =>
    obtain ⟨t, rfl⟩ := rx
    cases y with
    | non => cases ry; exact PySem.EqNone.ne_int_none (fin_bl I q (by simp))
    | int j => obtain ⟨t', rfl⟩ := ry; exact ne_int (fin_bl I q (congrArg not dec_int))
    | str j => obtain ⟨t', rfl⟩ := ry; exact PySem.EqMixed.ne_int_str (fin_bl I q (by simp))
    | _ => exact absurd (show false = true from hs) Bool.false_ne_true
  | str i =>
    obtain ⟨t, rfl⟩ := rx
    cases y with
    | non => cases ry; exact PySem.EqNone.ne_str_none (fin_bl I q (by simp))
    | bl j => cases ry; exact PySem.EqMixed.ne_str_bool (fin_bl I q (by simp))
    | int j => obtain ⟨t', rfl⟩ := ry; exact PySem.EqMixed.ne_str_int (fin_bl I q (by simp))
    | str j => obtain ⟨t', rfl⟩ := ry; exact ne_str (fin_bl I q (congrArg not dec_str))
    | _ => exact absurd (show false = true from hs) Bool.false_ne_true
  | byt i =>
    obtain ⟨t, rfl⟩ := rx
    cases y with
    | byt j => obtain ⟨t', rfl⟩ := ry; exact PySem.W.ne_bytes (fin_bl I q (congrArg not dec_byt))
    | _ => exact absurd (show false = true from hs) Bool.false_ne_true
  | _ => cases y <;> exact absurd (show false = true from hs) Bool.false_ne_true

theorem op_lt : OpR X (compareOp .Lt) (rI0 fun i j => .bl (decide (i < j))) := opB0 fun _ _ _ _ _ _ _ q => lt_int q
theorem op_le : OpR X (compareOp .LtE) (rI0 fun i j => .bl (decide (i ≤ j))) := opB0 fun _ _ _ _ _ _ _ q => le_int q
theorem op_gt : OpR X (compareOp .Gt) (rI0 fun i j => .bl (decide (j < i))) := opB0 fun _ _ _ _ _ _ _ q => gt_int q
theorem op_ge : OpR X (compareOp .GtE) (rI0 fun i j => .bl (decide (j ≤ i))) := opB0 fun _ _ _ _ _ _ _ q => ge_int q
theorem op_lt_str : OpR X (compareOp .Lt) (fun x y H Q => ∃ i j, x = .str i ∧ y = .str j ∧ Q (.bl (decide (i.cps.toList < j.cps.toList))) H) := by
  intro pins s σ H x y v u Q I rx ry h
  obtain ⟨i, j, rfl, rfl, q⟩ := h
  obtain ⟨t, rfl⟩ := rx
  obtain ⟨t', rfl⟩ := ry
  exact lt_str (fin_bl I q rfl)
/-- the one string within the other -/
theorem op_in_str : OpR X (compareOp .In) (fun x y H Q => ∃ i j, x = .str i ∧ y = .str j ∧ Q (.bl (!(Builtin.Str.occurrences j i 0 j.length 1).isEmpty)) H) := by
  intro pins s σ H x y v u Q I rx ry h
  obtain ⟨i, j, rfl, rfl, q⟩ := h
  obtain ⟨t, rfl⟩ := rx
  obtain ⟨t', rfl⟩ := ry
  exact in_str (fin_bl I q rfl)

/-- is None, is not None: the right side a value none -/
theorem op_isN : OpR X (compareOp .Is) (fun x y H Q => y = .non ∧ Q (.bl (decide (x = .non))) H) := by
  intro pins s σ H x y v u Q I rx ry h
  obtain ⟨rfl, q⟩ := h
  cases ry
  refine is_none_gen (fin_bl I q ?_)
  cases x <;> first
    | (cases rx; rfl)
    | (obtain ⟨t, rfl⟩ := rx; rfl)
theorem op_notN : OpR X (compareOp .IsNot) (fun x y H Q => y = .non ∧ Q (.bl (!decide (x = .non))) H) := by
  intro pins s σ H x y v u Q I rx ry h
  obtain ⟨rfl, q⟩ := h
  cases ry
  refine isnot_none_gen (fin_bl I q ?_)
  cases x <;> first
    | (cases rx; rfl)
    | (obtain ⟨t, rfl⟩ := rx; rfl)

theorem op_notin_str : OpR X (compareOp .NotIn) (fun x y H Q => ∃ i j, x = .str i ∧ y = .str j ∧ Q (.bl (!(!(Builtin.Str.occurrences j i 0 j.length 1).isEmpty))) H) := by
  intro pins s σ H x y v u Q I rx ry h
  obtain ⟨i, j, rfl, rfl, q⟩ := h
  obtain ⟨t, rfl⟩ := rx
  obtain ⟨t', rfl⟩ := ry
  exact notIn_str (fin_bl I q rfl)
/-- is, is not of two objects that are tracked lists or instances -/
def isObj : HO → Bool
  | .lst _ => true
  | .ins _ _ _ => true
  | _ => false
theorem obj_there {pins : List (Addr × Obj)} {s : Shared} {σ : St} {H : Hp} {a : Addr} {o : HO} (I : Inv X pins σ H s) (h : H a = some o) (p : isObj o = true) : ∃ ob, s.heap.get? a = some ob ∧ ob.cls ≠ .type "tuple" := by
  cases o with
  | lst xs =>
    obtain ⟨_, its, n, _, e⟩ : xs.length ≤ sizeLine ∧ ∃ (its : List Value) (n : Nat), Vals xs its ∧ s.heap.get? a = some { cls := .type "list", data := .seq its.toArray n } := I.hok a _ h
    exact ⟨_, e, (by show Value.type "list" ≠ .type "tuple"; decide +kernel)⟩
  | ins C dx fs =>
    have x := I.hok a _ h
    obtain ⟨_, _, _, e, _⟩ := x
    exact ⟨_, e, (by show Value.ref C ≠ .type "tuple"; exact fun z => by cases z)⟩
  | _ => exact absurd (show false = true from p) Bool.false_ne_true
theorem op_is_ref : OpR X (compareOp .Is) (fun x y H Q => ∃ a b oa ob, x = .ref a ∧ y = .ref b ∧ H a = some oa ∧ isObj oa = true ∧ H b = some ob ∧ isObj ob = true ∧ Q (.bl (decide (a = b))) H) := by
  intro pins s σ H x y v u Q I rx ry h
  obtain ⟨a, b, oa, ob, rfl, rfl, ha, pa, hb, pb, q⟩ := h
  cases rx
  cases ry
  obtain ⟨o1, e1, n1⟩ := obj_there I ha pa
  obtain ⟨o2, e2, _⟩ := obj_there I hb pb
  by_cases z : a = b
  · subst z
    exact wpAny_is_ref_self (fin_bl I q (by simp))
  · exact wpAny_is_ref_other z e1 e2 n1 (fin_bl I q (by simp [z]))
theorem op_isnot_ref : OpR X (compareOp .IsNot) (fun x y H Q => ∃ a b oa ob, x = .ref a ∧ y = .ref b ∧ H a = some oa ∧ isObj oa = true ∧ H b = some ob ∧ isObj ob = true ∧ Q (.bl (!decide (a = b))) H) := by
  intro pins s σ H x y v u Q I rx ry h
  obtain ⟨a, b, oa, ob, rfl, rfl, ha, pa, hb, pb, q⟩ := h
  cases rx
  cases ry
  obtain ⟨o1, e1, n1⟩ := obj_there I ha pa
  obtain ⟨o2, e2, _⟩ := obj_there I hb pb
  by_cases z : a = b
  · subst z
    exact wpAny_isNot_ref_self (fin_bl I q (by simp))
  · exact wpAny_isNot_ref_other z e1 e2 n1 (fin_bl I q (by simp [z]))

/-- two rules for one operation: by cases -/
theorem OpR.or {f : Value → Value → Sem Value} {r r' : R2} (h : OpR X f r) (h' : OpR X f r') : OpR X f (fun x y H Q => r x y H Q ∨ r' x y H Q) := by
  intro pins s σ H x y v u Q I rx ry q
  rcases q with q | q
  · exact h pins s σ H x y v u Q I rx ry q
  · exact h' pins s σ H x y v u Q I rx ry q

theorem nomark (b : Expr) {op : CmpOp} (h : op ≠ .In := by decide) (h2 : op ≠ .NotIn := by decide) : behindInMarks op b = false := by
  have e1 : (op == CmpOp.In) = false := by cases op <;> first | rfl | exact absurd rfl h
  have e2 : (op == CmpOp.NotIn) = false := by cases op <;> first | rfl | exact absurd rfl h2
  cases b <;> simp [behindInMarks, e1, e2]
/-- a comparison as a value; hm: nomark b, or (for in, not in) by with_unfolding_all rfl -/
theorem pe_cmpR {op : CmpOp} {r : R2} (ho : OpR X (compareOp op) r) (ha : PE X a ta) (hb : PE X b tb) (hm : behindInMarks op b = false) : PE X (.Compare a [op] [b] pos) (tOp r ta tb) := by
  intro pins s σ H Q I h
  exact wpAny_Compare1 (binT ha hb I h fun v u s2 x y H2 I2 rx ry q => ho pins s2 σ H2 x y v u Q I2 rx ry q) hm
/-- a reading of a value as a test -/
def tTest (t : TE) : TT := fun σ H Q => t σ H fun x H' => ∃ k, x = .bl k ∧ Q k H'
theorem pt_cmpR {op : CmpOp} {r : R2} (ho : OpR X (compareOp op) r) (ha : PE X a ta) (hb : PE X b tb) (hm : behindInMarks op b = false) : PT X (.Compare a [op] [b] pos) (tTest (tOp r ta tb)) := by
  intro pins s σ H Q I h
  refine wpAny_isTrue_Compare1 (thn (ha pins s σ H _ I h) fun v s1 ⟨x, H1, I1, r1, q1⟩ => thn (hb pins s1 σ H1 _ I1 q1) fun u s2 ⟨y, H2, I2, r2, q2⟩ =>
    thn (ho pins s2 σ H2 x y v u _ I2 r1 r2 q2) fun c s3 ⟨z, H3, I3, r3, k, e, q3⟩ => ?_) hm
  subst e
  cases r3
  exact wpAny_truthy_bool ⟨H3, I3, q3⟩
/-- a op1 b op2 c -/
def tChain (r r' : R2) (ta tb tc : TE) : TE := fun σ H Q => ta σ H fun x H1 => tb σ H1 fun y H2 => r x y H2 fun z H3 => ∃ k, z = .bl k ∧
  (if k = true then tc σ H3 fun w' H4 => r' y w' H4 Q else Q (.bl false) H3)
theorem pe_chain {op op' : CmpOp} {r r' : R2} (ho : OpR X (compareOp op) r) (ho' : OpR X (compareOp op') r') (ha : PE X a ta) (hb : PE X b tb) (hc : PE X c tc)
    (hm : lastMarks [op, op'] [b, c] = false := by with_unfolding_all rfl) : PE X (.Compare a [op, op'] [b, c] pos) (tChain r r' ta tb tc) := by
  intro pins s σ H Q I h
  refine Compare_chain (thn (ha pins s σ H _ I h) fun v s1 ⟨x, H1, I1, r1, q1⟩ => chain_link (thn (hb pins s1 σ H1 _ I1 q1) fun u s2 ⟨y, H2, I2, r2, q2⟩ =>
    thn (ho pins s2 σ H2 x y v u _ I2 r1 r2 q2) fun d s3 ⟨z, H3, I3, r3, k, e, q3⟩ => ?_)) hm
  subst e
  cases r3
  refine wpAny_truthy_bool ?_
  cases k with
  | false => exact ite_ff ⟨.bl false, H3, I3, rfl, q3⟩
  | true => exact ite_tt (chain_last (thn (hc pins s3 σ H3 _ I3 q3) fun w' s4 ⟨z', H4, I4, r4, q4⟩ => ho' pins s4 σ H4 y z' u w' Q I4 r2 r4 q4))
theorem pt_chain {op op' : CmpOp} {r r' : R2} (ho : OpR X (compareOp op) r) (ho' : OpR X (compareOp op') r') (ha : PE X a ta) (hb : PE X b tb) (hc : PE X c tc)
    (hm : lastMarks [op, op'] [b, c] = false := by with_unfolding_all rfl) : PT X (.Compare a [op, op'] [b, c] pos) (tTest (tChain r r' ta tb tc)) := by
  intro pins s σ H Q I h
  refine isTrue_chain (thn (ha pins s σ H _ I h) fun v s1 ⟨x, H1, I1, r1, q1⟩ => test_link (thn (hb pins s1 σ H1 _ I1 q1) fun u s2 ⟨y, H2, I2, r2, q2⟩ =>
    thn (ho pins s2 σ H2 x y v u _ I2 r1 r2 q2) fun d s3 ⟨z, H3, I3, r3, k, e, q3⟩ => ?_)) hm
  subst e
  cases r3
  refine wpAny_truthy_bool ?_
  cases k with
  | false =>
    obtain ⟨k', e', q'⟩ := q3
    cases e'
    exact ite_ff ⟨H3, I3, q'⟩
  | true =>
    refine ite_tt (test_last (thn (hc pins s3 σ H3 _ I3 q3) fun w' s4 ⟨z', H4, I4, r4, q4⟩ => thn (ho' pins s4 σ H4 y z' u w' _ I4 r2 r4 q4) fun d' s5 ⟨z2, H5, I5, r5, k2, e2, q5⟩ => ?_))
    subst e2
    cases r5
    exact wpAny_truthy_bool ⟨H5, I5, q5⟩

/-! ### truth -/
/-- a value's truth by the abstract heap -/
def TruV (K : PySem.W.Frag) (x : V) (H : Hp) (k : Bool) : Prop :=
  match x with
  | .non => k = false
  | .bl b => k = b
  | .int i => k = (i != 0)
  | .str y => y.length ≤ sizeLine ∧ k = ((y.length : Int) != 0)
  | .byt y => y.size ≤ sizeLine ∧ k = ((y.size : Int) != 0)
  | .ref p => (∃ xs, SqL K H p xs ∧ k = !xs.isEmpty) ∨ (∃ xs, SqT K H p xs ∧ k = !xs.isEmpty) ∨ ∃ kvs, H p = some (.dK kvs) ∧ k = !kvs.isEmpty
  | _ => False
theorem isEmpty_kv {κ : Type} {kvs : List (κ × V)} {vs : List (κ × Value)} (r : KV kvs vs) : (!vs.isEmpty) = !kvs.isEmpty := by
  cases r <;> rfl
theorem isEmpty_of {xs : List V} {its : List Value} (r : Vals xs its) : (!its.toArray.isEmpty) = !xs.isEmpty := by
  cases r <;> simp
theorem line63 : (sizeLine : Nat) < 2 ^ 63 := by rw [sizeLine_eq]; decide
theorem tru_ok : TruR X (fun x H Q => ∃ k, TruV X.K x H k ∧ Q k H) := by
  intro pins s σ H x v Q I rx h
  obtain ⟨k, e, q⟩ := h
  have hl := line63
  have hs : sizeLine = 16777216 := sizeLine_eq
  cases x with
  | non =>
    cases rx
    have e' : k = false := e
    subst e'
    exact truthy_none ⟨H, I, q⟩
  | bl b =>
    cases rx
    have e' : k = b := e
    subst e'
    exact wpAny_truthy_bool ⟨H, I, q⟩
  | int i =>
    obtain ⟨t, rfl⟩ := rx
    have e' : k = (i != 0) := e
    subst e'
    exact PySem.P.truthy_int ⟨H, I, q⟩
  | str y =>
    obtain ⟨t, rfl⟩ := rx
    obtain ⟨hy, e'⟩ : y.length ≤ sizeLine ∧ k = ((y.length : Int) != 0) := e
    subst e'
    exact PySem.P.truthy_str (by omega) ⟨H, I.tok _, q⟩
  | byt y =>
    obtain ⟨t, rfl⟩ := rx
    obtain ⟨hy, e'⟩ : y.size ≤ sizeLine ∧ k = ((y.size : Int) != 0) := e
    subst e'
    exact PySem.W.truthy_bytes (by omega) ⟨H, I.tok _, q⟩
  | ref p =>
    cases rx
    have e' : (∃ xs, SqL X.K H p xs ∧ k = !xs.isEmpty) ∨ (∃ xs, SqT X.K H p xs ∧ k = !xs.isEmpty) ∨ ∃ kvs, H p = some (.dK kvs) ∧ k = !kvs.isEmpty := e
    rcases e' with ⟨xs, hx, e'⟩ | ⟨xs, hx, e'⟩ | ⟨kvs, hx, e'⟩
    · subst e'
      obtain ⟨its, r, pl, hz⟩ := I.list hx
      have hlen := r.length
      exact wpAny_truthy_list pl.isList (by simp only [List.size_toArray]; omega) ⟨H, I.tok _, by rw [isEmpty_of r]; exact q⟩
    · subst e'
      obtain ⟨its, r, pl, hz⟩ := I.tuple hx
      have hlen := r.length
      exact truthy_tuple pl (by simp only [List.size_toArray]; omega) ⟨H, I.tok _, by rw [isEmpty_of r]; exact q⟩
    · subst e'
      obtain ⟨hz, hS, vs, r, m⟩ : kvs.length ≤ sizeLine ∧ (p == sysModules) = false ∧ ∃ vs, KV kvs vs ∧ s.heap.DictOf (mixKind X.prog X.w) p vs := I.hok p _ hx
      have hlen : kvs.length = vs.length := Paired.length r
      exact wpAny_truthy_dict hS m (by omega) ⟨H, I.tok _, by rw [isEmpty_kv r]; exact q⟩
  | _ => exact (show False from e).elim
/-- any expression whose test is its value's truth (a name, a call, a subscript, a field ..: he by fun _ => rfl) -/
theorem pt_truth (ha : PE X a ta) (he : ∀ whole, isTrue a X.env whole = (do let v ← whole; standAt a.pos; holding [v] (truthy v))) :
    PT X a (fun σ H Q => ta σ H fun x H' => ∃ k, TruV X.K x H' k ∧ Q k H') := by
  intro pins s σ H Q I h
  exact isTrue_plain (thn (ha pins s σ H _ I h) fun v s1 ⟨x, H1, I1, r1, q1⟩ => tru_ok pins s1 σ H1 x v Q I1 r1 q1) (he _)

/-! ### strs and bytes -/
theorem pe_byt {x : List UInt8} {k : Nat} : PE X (.Constant (.bytes x) k pos) (fun _ H Q => Q (.byt x.toArray) H) := fun _ _ _ H _ I h => PySem.W.Constant_bytes ⟨.byt x.toArray, H, I.tok _, ⟨_, rfl⟩, h⟩
theorem op_add_str : OpR X (binaryOp .Add) (fun x y H Q => ∃ i j, x = .str i ∧ y = .str j ∧ i.length + j.length ≤ sizeLine ∧ Q (.str (i ++ j)) H) := by
  intro pins s σ H x y v u Q I rx ry h
  obtain ⟨i, j, rfl, rfl, hz, q⟩ := h
  obtain ⟨t, rfl⟩ := rx
  obtain ⟨t', rfl⟩ := ry
  exact add_str (fun t' tk => ⟨.str (i ++ j), H, I.tok _, ⟨_, rfl⟩, q⟩) hz
theorem iop_add_str : OpR X (inplaceOp .Add) (fun x y H Q => ∃ i j, x = .str i ∧ y = .str j ∧ i.length + j.length ≤ sizeLine ∧ Q (.str (i ++ j)) H) := by
  intro pins s σ H x y v u Q I rx ry h
  obtain ⟨i, j, rfl, rfl, hz, q⟩ := h
  obtain ⟨t, rfl⟩ := rx
  obtain ⟨t', rfl⟩ := ry
  exact iadd_str (fun t' tk => ⟨.str (i ++ j), H, I.tok _, ⟨_, rfl⟩, q⟩) hz
theorem op_add_byt : OpR X (binaryOp .Add) (fun x y H Q => ∃ i j, x = .byt i ∧ y = .byt j ∧ i.size + j.size ≤ 16777216 ∧ Q (.byt (i ++ j)) H) := by
  intro pins s σ H x y v u Q I rx ry h
  obtain ⟨i, j, rfl, rfl, hz, q⟩ := h
  obtain ⟨t, rfl⟩ := rx
  obtain ⟨t', rfl⟩ := ry
  exact PySem.W.KBy.add_bytes hz (fun t' tk => ⟨.byt (i ++ j), H, I.tok _, ⟨_, rfl⟩, q⟩)

def PlainIxT (b : Expr) : Prop := ∀ o i, subscripted b false o i = operate [o, i] (getItem o i)
/-- s[i], 0 ≤ i < len -/
theorem pe_item_str (ha : PE X a ta) (hb : PE X b tb) (hs : PlainIxT b) :
    PE X (.Subscript a b pos) (tOp (fun x y H Q => ∃ z i c, x = .str z ∧ y = .int i ∧ 0 ≤ i ∧ i < 2 ^ 63 ∧ i < z.length ∧ z.cps[i.toNat]? = some c ∧ Q (.str ⟨#[c]⟩) H) ta tb) := by
  intro pins s σ H Q I h
  refine Subscript_ (binT ha hb I h fun v u s2 x y H2 I2 rx ry q => ?_)
  obtain ⟨z, i, c, rfl, rfl, h0, h63, h1, hc, q⟩ := q
  obtain ⟨t, rfl⟩ := rx
  obtain ⟨t', rfl⟩ := ry
  have e : seqIndex? i z.length = some i.toNat := PySem.StrLaws.seqIndex_nonneg h0 h1
  exact tail_any (typeIs_str s2 z t) slot_str_getitem.lookup (getItem_str (c := c) (by
    have e1 : decide (i < -(2 ^ 63 : Int)) = false := decide_eq_false (by omega)
    have e2 : decide (i ≥ 2 ^ 63) = false := decide_eq_false (by omega)
    rw [e1, e2] <;> rfl) (by rw [e]; exact hc) ⟨.str ⟨#[c]⟩, H2, I2.tok _, ⟨_, rfl⟩, q⟩) (hs _ _)
/-- b[i], 0 ≤ i < len -/
theorem pe_item_byt (ha : PE X a ta) (hb : PE X b tb) (hs : PlainIxT b) :
    PE X (.Subscript a b pos) (tOp (fun x y H Q => ∃ (z : List UInt8) (i : Int), x = .byt z.toArray ∧ y = .int i ∧ z.length ≤ sizeLine ∧ 0 ≤ i ∧ i < z.length ∧ Q (.int ((z.getD i.toNat 0).toNat : Nat)) H) ta tb) := by
  intro pins s σ H Q I h
  refine Subscript_ (binT ha hb I h fun v u s2 x y H2 I2 rx ry q => ?_)
  obtain ⟨z, i, rfl, rfl, hz, h0, h1, q⟩ := q
  obtain ⟨t, rfl⟩ := rx
  obtain ⟨t', rfl⟩ := ry
  have hl : sizeLine = 16777216 := sizeLine_eq
  exact tail_any (PySem.W.typeIs_bytes s2 z.toArray t) PySem.W.FB.slot_bytes_getitem.lookup (PySem.W.getItem_bytes (by omega) h0 h1 ⟨.int ((z.getD i.toNat 0).toNat : Nat), H2, I2.tok _, ⟨_, rfl⟩, q⟩) (hs _ _)

/-! ### scalar builtins, by CallR -/
theorem vals1 {x : V} {us : List Value} (r : Vals [x] us) : ∃ u, us = [u] ∧ RelV x u := by
  cases r with
  | cons r1 r2 => cases r2; exact ⟨_, rfl, r1⟩
theorem vals2 {x y : V} {us : List Value} (r : Vals [x, y] us) : ∃ u w', us = [u, w'] ∧ RelV x u ∧ RelV y w' := by
  cases r with
  | cons r1 r2 =>
    cases r2 with
    | cons r3 r4 => cases r4; exact ⟨_, _, rfl, r1, r3⟩
theorem call_abs : CallR X (.builtin "abs") (fun xs H Q => ∃ i, xs = [.int i] ∧ Q (.int (if i < 0 then -i else i)) H) := by
  intro pins s σ H xs us Q I r h
  obtain ⟨i, rfl, q⟩ := h
  obtain ⟨u, rfl, t, rfl⟩ := vals1 r
  exact call_abs_int fun u tk => ⟨.int (if i < 0 then -i else i), H, I.tok _, ⟨_, rfl⟩, q⟩
theorem call_max2 (hc : X.calm = true) : CallR X (.builtin "max") (fun xs H Q => ∃ i j, xs = [.int i, .int j] ∧ Q (.int (if j > i then j else i)) H) := by
  intro pins s σ H xs us Q I r h
  obtain ⟨i, j, rfl, q⟩ := h
  obtain ⟨u, w', rfl, ⟨t, rfl⟩, ⟨t', rfl⟩⟩ := vals2 r
  refine max_two_ints (I.ok.hd hc) fun h' tk k => ⟨_, H, I.kept k, ?_, q⟩
  by_cases hj : j > i
  · rw [if_pos hj, if_pos hj]; exact ⟨_, rfl⟩
  · rw [if_neg hj, if_neg hj]; exact ⟨_, rfl⟩
theorem call_min2 (hc : X.calm = true) : CallR X (.builtin "min") (fun xs H Q => ∃ i j, xs = [.int i, .int j] ∧ Q (.int (if j < i then j else i)) H) := by
  intro pins s σ H xs us Q I r h
  obtain ⟨i, j, rfl, q⟩ := h
  obtain ⟨u, w', rfl, ⟨t, rfl⟩, ⟨t', rfl⟩⟩ := vals2 r
  refine min_two_ints (I.ok.hd hc) fun h' tk k => ⟨_, H, I.kept k, ?_, q⟩
  by_cases hj : j < i
  · rw [if_pos hj, if_pos hj]; exact ⟨_, rfl⟩
  · rw [if_neg hj, if_neg hj]; exact ⟨_, rfl⟩
theorem call_int1 : CallR X (.type "int") (fun xs H Q => (∃ i, xs = [.int i] ∧ Q (.int i) H) ∨ ∃ k, xs = [.bl k] ∧ Q (.int (if k then 1 else 0)) H) := by
  intro pins s σ H xs us Q I r h
  rcases h with ⟨i, rfl, q⟩ | ⟨k, rfl, q⟩
  · obtain ⟨u, rfl, t, rfl⟩ := vals1 r
    exact call_int_int ⟨.int i, H, I, ⟨_, rfl⟩, q⟩
  · obtain ⟨u, rfl, r1⟩ := vals1 r
    cases r1
    exact call_int_bool ⟨.int (if k then 1 else 0), H, I.tok _, ⟨_, rfl⟩, q⟩
theorem call_bool1 : CallR X (.type "bool") (fun xs H Q => (∃ i, xs = [.int i] ∧ Q (.bl (i != 0)) H) ∨ ∃ k, xs = [.bl k] ∧ Q (.bl k) H) := by
  intro pins s σ H xs us Q I r h
  rcases h with ⟨i, rfl, q⟩ | ⟨k, rfl, q⟩
  · obtain ⟨u, rfl, t, rfl⟩ := vals1 r
    exact call_bool_int ⟨.bl (i != 0), H, I, rfl, q⟩
  · obtain ⟨u, rfl, r1⟩ := vals1 r
    cases r1
    exact call_bool_bool ⟨.bl k, H, I, rfl, q⟩
theorem call_str_int : CallR X (.type "str") (fun xs H Q => ∃ i, xs = [.int i] ∧ i.natAbs.log2 < 1920 ∧ Q (.str (toString i)) H) := by
  intro pins s σ H xs us Q I r h
  obtain ⟨i, rfl, hz, q⟩ := h
  obtain ⟨u, rfl, t, rfl⟩ := vals1 r
  exact PySem.P.str_of_int hz ⟨.str _, H, I.tok _, ⟨_, rfl⟩, q⟩
theorem call_ord : CallR X (.builtin "ord") (fun xs H Q => ∃ x, xs = [.str x] ∧ x.length = 1 ∧ Q (.int (x.cps.getD 0 0 : Nat)) H) := by
  intro pins s σ H xs us Q I r h
  obtain ⟨x, rfl, hz, q⟩ := h
  obtain ⟨u, rfl, t, rfl⟩ := vals1 r
  exact ord_of_one hz ⟨.int _, H, I.tok _, ⟨_, rfl⟩, q⟩
theorem call_chr : CallR X (.builtin "chr") (fun xs H Q => ∃ i, xs = [.int i] ∧ 0 ≤ i ∧ i ≤ 1114111 ∧ Q (.str ⟨#[i.toNat]⟩) H) := by
  intro pins s σ H xs us Q I r h
  obtain ⟨i, rfl, h0, h1, q⟩ := h
  obtain ⟨u, rfl, t, rfl⟩ := vals1 r
  exact chr_of_range h0 h1 ⟨.str _, H, I.tok _, ⟨_, rfl⟩, q⟩
/-- len of a str, a bytes, a list, a tuple -/
def LenV (K : PySem.W.Frag) (x : V) (H : Hp) (n : Nat) : Prop :=
  match x with
  | .str y => y.length ≤ sizeLine ∧ n = y.length
  | .byt y => y.size ≤ sizeLine ∧ n = y.size
  | .ref p => (∃ xs, SqL K H p xs ∧ n = xs.length) ∨ ∃ xs, SqT K H p xs ∧ n = xs.length
  | _ => False
theorem call_len : CallR X (.builtin "len") (fun xs H Q => ∃ x n, xs = [x] ∧ LenV X.K x H n ∧ Q (.int n) H) := by
  intro pins s σ H xs us Q I r h
  obtain ⟨x, n, rfl, e, q⟩ := h
  obtain ⟨u, rfl, rx⟩ := vals1 r
  have hl := line63
  have hs : sizeLine = 16777216 := sizeLine_eq
  cases x with
  | str y =>
    obtain ⟨t, rfl⟩ := rx
    obtain ⟨hy, e'⟩ : y.length ≤ sizeLine ∧ n = y.length := e
    subst e'
    exact len_str (by omega) ⟨.int _, H, I.tok _, ⟨_, rfl⟩, q⟩
  | byt y =>
    obtain ⟨t, rfl⟩ := rx
    obtain ⟨hy, e'⟩ : y.size ≤ sizeLine ∧ n = y.size := e
    subst e'
    exact PySem.W.len_bytes (by omega) ⟨.int _, H, I.tok _, ⟨_, rfl⟩, q⟩
  | ref p =>
    cases rx
    have e' : (∃ xs, SqL X.K H p xs ∧ n = xs.length) ∨ ∃ xs, SqT X.K H p xs ∧ n = xs.length := e
    rcases e' with ⟨xs, hx, e'⟩ | ⟨xs, hx, e'⟩
    · subst e'
      obtain ⟨its, r', pl, hz⟩ := I.list hx
      have hlen := r'.length
      exact Calls.call_len_list pl.isList (by simp only [List.size_toArray]; omega) ⟨.int xs.length, H, I.tok _, ⟨_, by simp only [List.size_toArray]; rw [hlen]⟩, q⟩
    · subst e'
      obtain ⟨its, r', pl, hz⟩ := I.tuple hx
      have hlen := r'.length
      exact len_tuple pl (by simp only [List.size_toArray]; omega) ⟨.int xs.length, H, I.tok _, ⟨_, by simp only [List.size_toArray]; rw [hlen]⟩, q⟩
  | _ => exact (show False from e).elim
/-- divmod: a new tuple -/
theorem call_divmod : CallR X (.builtin "divmod") (fun xs H Q => ∃ i j, xs = [.int i, .int j] ∧ CDiv i j ∧ ∀ p, H p = none → Q (.ref p) (upd H p (.tup [.int (i / j), .int (i % j)]))) := by
  intro pins s σ H xs us Q I r h
  obtain ⟨i, j, rfl, ⟨h1, h2⟩, q⟩ := h
  obtain ⟨u, w', rfl, ⟨t, rfl⟩, ⟨t', rfl⟩⟩ := vals2 r
  refine divmod_int (by omega) ?_ (.inl (PyProof.noPylong_small (by omega)))
  rw [Int.fdiv_eq_ediv_of_nonneg i (by omega), Int.fmod_eq_emod_of_nonneg i (by omega)]
  have hn : H s.heap.objs.size = none := I.hok.fresh (Nat.le_refl _)
  refine ⟨.ref s.heap.objs.size, _, ?_, rfl, q _ hn⟩
  refine I.laid (fun b o e => Heap.get?_push_of_some _ e) (Nat.le_refl _) ⟨by simp only [List.length_cons, List.length_nil]; rw [sizeLine_eq]; decide, [.int (i / j) s.toks, .int (i % j) (s.toks + 1)], .cons ⟨_, rfl⟩ (.cons ⟨_, rfl⟩ .nil), ?_⟩
  exact ⟨_, Heap.get?_push_size s.heap rfl, rfl, 0, rfl⟩
end
end L2

namespace L2
open PySem PySem.Spec PyProof.Rows

/-! ### an instance, its attributes a map -/
structure ObjM (h : Heap) (x dx C : Addr) (mA : Str → Option Value) : Prop where
  obj : h.get? x = some (PySem.W.instObj C dx)
  ns : h.Ns1 dx mA
  ne : dx ≠ x

theorem lookIn_ns {h : Heap} {dx : Addr} {mA : Str → Option Value} (n : h.Ns1 dx mA) : ∃ od, h.get? dx = some od ∧ ∀ name, PySem.W.lookIn name od = some (mA name) := by
  obtain ⟨o, es, ep, ho, hd, hk, _, hm⟩ := n
  refine ⟨o, ho, fun name => ?_⟩
  have e := hm name
  unfold nsFind findBy at e
  rw [← Array.find?_toList] at e
  unfold PySem.W.lookIn
  rw [hd]
  dsimp only
  split
  · rename_i y q
    rw [q] at e
    exact congrArg some e
  · rename_i q
    rw [q] at e
    have a : es.toList.any (·.refKey) = false := by
      rw [List.any_eq_false]
      intro y hy
      obtain ⟨z, t, hkey⟩ := hk y (Array.mem_toList_iff.mp hy)
      simp [DictEntry.refKey, hkey]
    have a' : ¬ es.toList.any (·.refKey) = true := by rw [a]; exact Bool.false_ne_true
    rw [if_neg a']
    exact congrArg some e

theorem ObjM.look {h : Heap} {x dx C : Addr} {mA : Str → Option Value} (I : ObjM h x dx C mA) : ∃ od, PySem.W.InstAt h x (PySem.W.instObj C dx) C (some od) ∧ ∀ name, PySem.W.lookIn name od = some (mA name) :=
  let ⟨od, ho, hl⟩ := lookIn_ns I.ns
  ⟨od, ⟨I.obj, rfl, rfl, ho⟩, hl⟩

section
variable {prog : Program} {w : World} {A : Around} {E : Value → Shared → Prop} {s : Shared} {K : PySem.W.Frag} {x dx C f : Addr} {mA : Str → Option Value} {name : Str} {v : Value}

theorem get_map {expr : Bool} {Q : Value → Shared → Prop} (X : K.In s.heap) (I : ObjM s.heap x dx C mA) (hg : PySem.W.plainGet K C name = true) (hh : PySem.W.hasDictIn K C = true)
    (ha : PySem.W.findIn K (.ref C) name = some none) (hv : mA name = some v) (hv' : PySem.W.handedIn v = true) (h : Q v { s with toks := s.toks + 1 }) :
    wpAny (model prog w) A (getAttr (.ref x) name expr) Q E s := by
  obtain ⟨od, J, hl⟩ := I.look
  exact PySem.W.get_value X J (PySem.W.plainGet_of hg).1 (PySem.W.findObj_own hh ha rfl (by rw [hl, hv])) hv' h

theorem get_const {expr : Bool} {a : Value} {Q : Value → Shared → Prop} (X : K.In s.heap) (I : ObjM s.heap x dx C mA) (hg : PySem.W.plainGet K C name = true) (hh : PySem.W.hasDictIn K C = true)
    (ha : PySem.W.findIn K (.ref C) name = some (some a)) (hn : PySem.W.specialIn K a "__get__" = some none) (hc : PySem.W.copiedNames.contains name = false) (hv : mA name = none) (hv' : PySem.W.handedIn a = true)
    (h : Q a { s with toks := s.toks + 1 }) : wpAny (model prog w) A (getAttr (.ref x) name expr) Q E s := by
  obtain ⟨od, J, hl⟩ := I.look
  exact PySem.W.get_value X J (PySem.W.plainGet_of hg).1 (PySem.W.findObj_cls hh ha hn hv' hc (by rw [hl, hv])) hv' h

theorem get_meth {pl : Sem Bool} {Q : Value × List Value → Shared → Prop} (X : K.In s.heap) (I : ObjM s.heap x dx C mA) (hg : PySem.W.plainGet K C name = true)
    (hf : PySem.W.findIn K (.ref C) name = some (some (.ref f))) (ht : PySem.W.isFn K (.ref f) = true) (hv : mA name = none) (h : Q (.ref f, [.ref x]) s) :
    wpAny (model prog w) A (getMethod (.ref x) name pl) Q E s := by
  obtain ⟨od, J, hl⟩ := I.look
  exact PySem.W.method_fn X J (PySem.W.plainGet_of hg).1 (PySem.W.plainGet_of hg).2 hf (beq_iff_eq.mp ht) (by show (PySem.W.lookIn name od).map (·.isSome) = some false; rw [hl, hv]; rfl) h

theorem set_map {ns : List Str} {Q : Unit → Shared → Prop} (X : K.In s.heap) (I : ObjM s.heap x dx C mA)
    (hs : PySem.W.findIn K (.ref C) "__setattr__" = some (some (.builtin "object.__setattr__"))) (hp : PySem.W.plainOver K C = true) (ht : PySem.W.takerIn K C name = some none) (hh : PySem.W.hasDictIn K C = true)
    (hw : PySem.Within mA ns) (hsz : ns.length ≤ sizeLine)
    (h : ∀ h', ObjM h' x dx C (fun y => if y = name then some v else mA y) → Heap.SameBut dx s.heap h' → Q () { s with heap := h', toks := s.toks + 2 }) :
    wpAny (model prog w) A (setAttr (.ref x) name v) Q E s := by
  obtain ⟨od, J, hl⟩ := I.look
  refine PySem.W.set_plain X J hs (PySem.W.osa_open (s := { s with toks := s.toks + 1 }) (r := none) X J hp ht fun b => ?_)
  obtain ⟨cd, hc, hd'⟩ := PySem.W.any_some hh
  have hx : s.heap.get? x = some ⟨.ref C, some dx, .plain, #[]⟩ := I.obj
  refine wpAny_bind (wpAny_pure (wpAny_bind (wpAny_bind (wpAny_loadPart hx (wpAny_bind (PySem.W.Looks.here (s := { s with toks := s.toks + 1 }) (PySem.W.looks_clsIn X hc) ?_))))))
  rw [hd']
  refine wpAny_pure (a := some dx) (wpAny_bind (wpAny_pure (wpAny_bind ?_)))
  refine wpAny_nsSet1 (s := { s with toks := s.toks + 1 }) I.ns fun h' hn2 hs2 => ?_
  obtain ⟨oD, esD, epD, hoD, hdD, hcD⟩ := hn2.count (PySem.Within.cons name v hw)
  refine wpAny_bind (wpAny_lookBehind hoD (by rw [hdD]; exact pastItsLine_dict (Nat.le_trans hcD (by rw [List.length_cons]; omega))) ?_)
  exact wpAny_pure (h _ ⟨(hs2.2 _ (Ne.symm I.ne)).trans I.obj, hn2, I.ne⟩ hs2)

/-- C(..): the dict at the heap's end, the instance behind it; then its __init__ -/
theorem make_map {R : Result → Shared → Prop} {vs : List Value} {kw : List (Str × Value)} (X : K.In s.heap) (hm : PySem.W.makesIn K C = true)
    (hi : PySem.W.findIn K (.ref C) "__init__" = some (some (.ref f))) (hf : PySem.W.typeIn K (.ref f) = some (.type "function"))
    (h : codeAny (model prog w) (A.under (.builtin "type.__call__" ⟨.ref C :: vs, kw⟩)) (.call (.ref f) ⟨.ref (s.heap.objs.size + 1) :: vs, kw⟩) (PySem.W.InitBack (s.heap.objs.size + 1) R)
      { s with heap := (s.heap.push PySem.W.emptyDict).push (PySem.W.instObj C s.heap.objs.size) }) :
    codeAny (model prog w) A (.call (.ref C) ⟨vs, kw⟩) R s := by
  obtain ⟨hh, g, d, t, os⟩ := s
  exact PySem.W.make_core (PySem.W.makes_of X hm) (PySem.W.looks_findIn X hi) (fun self => PySem.W.bind_fn X self hf) (.inl rfl) h
/-- C() where there is no __init__ but object's -/
theorem make_map0 {R : Result → Shared → Prop} (X : K.In s.heap) (hm : PySem.W.makesIn K C = true)
    (hi : PySem.W.findIn K (.ref C) "__init__" = some (some (.builtin "object.__init__")))
    (hb : ∀ self, PySem.W.Looks (model prog w) s.heap (bindSpecial (.builtin "object.__init__") self) (.builtin "object.__init__", [self]))
    (h : codeAny (model prog w) (A.under (.builtin "type.__call__" ⟨[.ref C], []⟩)) (.call (.builtin "object.__init__") ⟨[.ref (s.heap.objs.size + 1)], []⟩) (PySem.W.InitBack (s.heap.objs.size + 1) R)
      { s with heap := (s.heap.push PySem.W.emptyDict).push (PySem.W.instObj C s.heap.objs.size) }) :
    codeAny (model prog w) A (.call (.ref C) ⟨[], []⟩) R s := by
  obtain ⟨hh, g, d, t, os⟩ := s
  exact PySem.W.make_core (PySem.W.makes_of X hm) (PySem.W.looks_findIn X hi) hb (.inr ⟨rfl, rfl⟩) h
end

/-! ### the attributes as a list of pairs -/
def putF (f : Str) (v : V) : List (Str × V) → List (Str × V)
  | [] => [(f, v)]
  | (g, x) :: r => if g = f then (g, v) :: r else (g, x) :: putF f v r
theorem lookup_putF (f g : Str) (v : V) : ∀ fs : List (Str × V), (putF f v fs).lookup g = if g = f then some v else fs.lookup g
  | [] => by
    show List.lookup g [(f, v)] = _
    by_cases h : g = f
    · have hb : (g == f) = true := beq_iff_eq.mpr h
      simp only [List.lookup, hb, if_pos h]
    · have hb : (g == f) = false := beq_eq_false_iff_ne.mpr h
      simp only [List.lookup, hb, if_neg h]
  | (k, x) :: r => by
    have ih := lookup_putF f g v r
    rw [show putF f v ((k, x) :: r) = (if k = f then (k, v) :: r else (k, x) :: putF f v r) from rfl]
    by_cases hk : k = f
    · rw [if_pos hk]
      by_cases h : g = k
      · have hb : (g == k) = true := beq_iff_eq.mpr h
        simp only [List.lookup, hb, if_pos (h.trans hk)]
      · have hb : (g == k) = false := beq_eq_false_iff_ne.mpr h
        simp only [List.lookup, hb, if_neg (fun e : g = f => h (e.trans hk.symm))]
    · rw [if_neg hk]
      by_cases h : g = k
      · have hb : (g == k) = true := beq_iff_eq.mpr h
        simp only [List.lookup, hb, if_neg (fun e : g = f => hk (h.symm.trans e))]
      · have hb : (g == k) = false := beq_eq_false_iff_ne.mpr h
        simp only [List.lookup, hb]
        exact ih
theorem keys_putF (f : Str) (v : V) : ∀ fs : List (Str × V), f ∈ (putF f v fs).map (·.1) ∧ ∀ g, g ∈ fs.map (·.1) → g ∈ (putF f v fs).map (·.1)
  | [] => ⟨by simp [putF], fun g h => by simp at h⟩
  | (k, x) :: r => by
    obtain ⟨i1, i2⟩ := keys_putF f v r
    rw [show putF f v ((k, x) :: r) = (if k = f then (k, v) :: r else (k, x) :: putF f v r) from rfl]
    by_cases hk : k = f
    · rw [if_pos hk]
      subst hk
      exact ⟨by simp, fun g h => by simpa using h⟩
    · rw [if_neg hk]
      refine ⟨?_, fun g h => ?_⟩
      · rw [List.map_cons]
        exact List.mem_cons_of_mem _ i1
      · rw [List.map_cons] at h ⊢
        rcases List.mem_cons.mp h with e | e
        · exact List.mem_cons.mpr (.inl e)
        · exact List.mem_cons_of_mem _ (i2 g e)
theorem length_putF (f : Str) (v : V) : ∀ fs : List (Str × V), (putF f v fs).length ≤ fs.length + 1
  | [] => by simp [putF]
  | (k, x) :: r => by
    have ih := length_putF f v r
    rw [show putF f v ((k, x) :: r) = (if k = f then (k, v) :: r else (k, x) :: putF f v r) from rfl]
    by_cases hk : k = f
    · rw [if_pos hk, List.length_cons, List.length_cons]; omega
    · rw [if_neg hk, List.length_cons, List.length_cons]; omega

theorem RelO.some_of {v : V} {o : Option Value} (r : RelO (some v) o) : ∃ u, o = some u ∧ RelV v u := by
  cases o with
  | none => exact (show False from r).elim
  | some u => exact ⟨u, rfl, r⟩
theorem RelO.none_of {o : Option Value} (r : RelO none o) : o = none := by
  cases o with
  | none => rfl
  | some u => exact (show False from r).elim
theorem handed_of {v : V} {u : Value} (r : RelV v u) : PySem.W.handedIn u = true := by
  cases v with
  | non => cases (show u = Value.none from r); rfl
  | bl b => cases (show u = Value.bool b from r); rfl
  | int i => obtain ⟨t, e⟩ := (show ∃ t, u = Value.int i t from r); cases e; rfl
  | str x => obtain ⟨t, e⟩ := (show ∃ t, u = Value.str x t from r); cases e; rfl
  | byt b => obtain ⟨t, e⟩ := (show ∃ t, u = Value.bytes b t from r); cases e; rfl
  | flt b => obtain ⟨t, e⟩ := (show ∃ t, u = Value.float b t from r); cases e; rfl
  | ref a => cases (show u = Value.ref a from r); rfl
  | ty n => cases (show u = Value.type n from r); rfl

section
variable {P : Program} {w : World} {H H' : Hp} {h h' : Heap} {a C dx : Addr} {fs fs' : List (Str × V)}
theorem ins_get (hok : HOk P w H h) (e : H a = some (.ins C dx fs)) : ∃ mA, ObjM h a dx C mA ∧ (∀ f, RelO (fs.lookup f) (mA f)) ∧ PySem.Within mA (fs.map (·.1)) ∧ fs.length ≤ 1000 ∧ H dx = some (.own a) := by
  obtain ⟨d, z, ne, ob, mA, n, r, q⟩ := (show ObjOk P w H h a (.ins C dx fs) from hok a _ e)
  exact ⟨mA, ⟨ob, n, ne⟩, r, q, z, d⟩
end

/-! ### what of the text a class must have -/
structure Cls (K : PySem.W.Frag) (C : Addr) : Prop where
  pg : PySem.W.plainGet K C Str.empty = true
  hd : PySem.W.hasDictIn K C = true
  po : PySem.W.plainOver K C = true
  sa : PySem.W.findIn K (.ref C) "__setattr__" = some (some (.builtin "object.__setattr__"))
theorem Cls.get {K : PySem.W.Frag} {C : Addr} (c : Cls K C) (f : Str) : PySem.W.plainGet K C f = true := c.pg
/-- no class of it has the name -/
def NoAttr (K : PySem.W.Frag) (C : Addr) (f : Str) : Prop := PySem.W.findIn K (.ref C) f = some none
theorem NoAttr.taker {K : PySem.W.Frag} {C : Addr} {f : Str} (n : NoAttr K C f) : PySem.W.takerIn K C f = some none := by
  unfold PySem.W.takerIn
  rw [show PySem.W.findIn K (.ref C) f = some none from n]
  rfl
/-- a constant of the class -/
structure Con (K : PySem.W.Frag) (C : Addr) (f : Str) (v : V) (u : Value) : Prop where
  at_ : PySem.W.findIn K (.ref C) f = some (some u)
  rel : RelV v u
  get : PySem.W.specialIn K u "__get__" = some none
  cp : PySem.W.copiedNames.contains f = false
/-- a method: a plain def of the class or of one above it -/
structure Meth (K : PySem.W.Frag) (C : Addr) (m : Str) (f : Addr) : Prop where
  at_ : PySem.W.findIn K (.ref C) m = some (some (.ref f))
  fn : PySem.W.isFn K (.ref f) = true
  kp : PySem.W.keepIn K (.ref f) = true

section
variable {X : Cx} {pins : List (Addr × Obj)} {σ : St} {H : Hp} {s : Shared} {a C dx : Addr} {fs : List (Str × V)} {f : Str} {v : V} {A : Around} {E : Value → Shared → Prop}

theorem getattr_ok {b : Bool} {Q : Value → Shared → Prop} (I : Inv X pins σ H s) (e : H a = some (.ins C dx fs)) (c : Cls X.K C) (n : NoAttr X.K C f) (l : fs.lookup f = some v)
    (h : ∀ u s', Inv X pins σ H s' → RelV v u → Q u s') : wpAny (model X.prog X.w) A (getAttr (.ref a) f b) Q E s := by
  obtain ⟨mA, O, r, _, _, _⟩ := ins_get I.hok e
  obtain ⟨u, hu, ru⟩ := RelO.some_of (v := v) (o := mA f) (by rw [← l]; exact r f)
  exact get_map I.kIn O (c.get f) c.hd n hu (handed_of ru) (h u _ (I.tok _) ru)

theorem getcon_ok {b : Bool} {u : Value} {Q : Value → Shared → Prop} (I : Inv X pins σ H s) (e : H a = some (.ins C dx fs)) (c : Cls X.K C) (k : Con X.K C f v u) (l : fs.lookup f = none)
    (h : ∀ s', Inv X pins σ H s' → Q u s') : wpAny (model X.prog X.w) A (getAttr (.ref a) f b) Q E s := by
  obtain ⟨mA, O, r, _, _, _⟩ := ins_get I.hok e
  have hn : mA f = none := RelO.none_of (by rw [← l]; exact r f)
  exact get_const I.kIn O (c.get f) c.hd k.at_ k.get k.cp hn (handed_of k.rel) (h _ (I.tok _))

theorem getmeth_ok {m : Str} {g : Addr} {pl : Sem Bool} {Q : Value × List Value → Shared → Prop} (I : Inv X pins σ H s) (e : H a = some (.ins C dx fs)) (c : Cls X.K C) (k : Meth X.K C m g) (l : fs.lookup m = none)
    (h : Q (.ref g, [.ref a]) s) : wpAny (model X.prog X.w) A (getMethod (.ref a) m pl) Q E s := by
  obtain ⟨mA, O, r, _, _, _⟩ := ins_get I.hok e
  have hn : mA m = none := RelO.none_of (by rw [← l]; exact r m)
  exact get_meth I.kIn O (c.get m) k.at_ k.fn hn h

theorem setattr_ok {y : V} {u : Value} {Q : Unit → Shared → Prop} (I : Inv X pins σ H s) (e : H a = some (.ins C dx fs)) (c : Cls X.K C) (n : NoAttr X.K C f) (hl : fs.length < 1000) (ry : RelV y u)
    (h : ∀ s', Inv X pins σ (upd H a (.ins C dx (putF f y fs))) s' → Q () s') : wpAny (model X.prog X.w) A (setAttr (.ref a) f u) Q E s := by
  obtain ⟨mA, O, r, wi, _, ho⟩ := ins_get I.hok e
  have hz : (fs.map (·.1)).length ≤ sizeLine := by rw [List.length_map, sizeLine_eq]; omega
  refine set_map I.kIn O c.sa c.po n.taker c.hd wi hz fun h' O' sb => h _ ?_
  have hd : ∃ o, h'.get? dx = some o := let ⟨o, _, _, e', _⟩ := O'.ns; ⟨o, e'⟩
  refine I.write (x := a) (e := dx) (by rw [e]; exact True.intro) (.inr ho) (fun b q hb z => (sb.2 b hb).trans z) hd ?_
  refine ⟨by rw [upd_ne O.ne]; exact ho, ?_, O.ne, O'.obj, _, O'.ns, fun g => ?_, fun g hg => ?_⟩
  · have := length_putF f y fs; omega
  · show RelO ((putF f y fs).lookup g) (if g = f then some u else mA g)
    rw [lookup_putF]
    by_cases q : g = f
    · rw [if_pos q, if_pos q]; exact ry
    · rw [if_neg q, if_neg q]; exact r g
  · by_cases q : g = f
    · rw [q]; exact (keys_putF f y fs).1
    · refine (keys_putF f y fs).2 g (wi g fun z => hg ?_)
      show (if g = f then some u else mA g) = none
      rw [if_neg q]; exact z

/-- a new instance, tracked, without attributes -/
theorem Inv.made (I : Inv X pins σ H s) : Inv X pins σ (upd (upd H s.heap.objs.size (.own (s.heap.objs.size + 1))) (s.heap.objs.size + 1) (.ins C s.heap.objs.size []))
    { s with heap := (s.heap.push PySem.W.emptyDict).push (PySem.W.instObj C s.heap.objs.size) } := by
  have e1 : (s.heap.push PySem.W.emptyDict).get? s.heap.objs.size = some PySem.W.emptyDict := Heap.get?_push_size s.heap rfl
  have e2 : ((s.heap.push PySem.W.emptyDict).push (PySem.W.instObj C s.heap.objs.size)).get? (s.heap.objs.size + 1) = some (PySem.W.instObj C s.heap.objs.size) := by
    have := Heap.get?_push_size (s.heap.push PySem.W.emptyDict) (o := PySem.W.instObj C s.heap.objs.size) rfl
    rwa [Heap.size_push] at this
  have e3 : (s.heap.push PySem.W.emptyDict).Ns s.heap.objs.size (fun _ => none) := ⟨PySem.W.emptyDict, #[], _, e1, rfl, (fun e he => absurd he (by simp)), fun _ => rfl⟩
  have I1 := I.laid (a := s.heap.objs.size) (o := .own (s.heap.objs.size + 1)) (h' := s.heap.push PySem.W.emptyDict) (t' := s.toks) (fun b u q => Heap.get?_push_of_some _ q) (Nat.le_refl _) ⟨_, e1⟩
  refine I1.laid (a := s.heap.objs.size + 1) (o := .ins C s.heap.objs.size []) (t' := s.toks) (fun b u q => Heap.get?_push_of_some _ q) (Nat.le_of_eq (Heap.size_push _ _)) ?_
  have ne : s.heap.objs.size ≠ s.heap.objs.size + 1 := Nat.ne_of_lt (Nat.lt_succ_self _)
  refine ⟨by rw [upd_ne ne, upd_same], Nat.zero_le _, ne, e2, fun _ => none, (Heap.Ns1.of_empty e3).at fun o q => Heap.get?_push_of_some _ q, fun _ => True.intro, fun y hy => absurd rfl hy⟩

/-- e.f where nothing but the object is asked: through attributeBase (super) and the last hold -/
theorem attr_of {prog : Program} {w : World} {env : Env} {e : Expr} {f : Str} {pos : Pos} {s : Shared} {Q : Value → Shared → Prop} (hb : attributeBase e f env (eval e env) = eval e env)
    (h : wpAny (model prog w) A (eval e env) (fun o s₁ => wpAny (model prog w) A (getAttr o f true) Q E s₁) E s) : wpAny (model prog w) A (eval (.Attribute e f pos) env) Q E s :=
  Attribute_any_ h (by rw [arm_eval_Attribute, hb])
end

/-! ### readings and rules -/
/-- e.f, an attribute of the instance -/
def tFld (K : PySem.W.Frag) (ta : TE) (f : Str) : TE := fun σ H Q => ta σ H fun x H1 => ∃ a C dx fs v, x = .ref a ∧ H1 a = some (.ins C dx fs) ∧ Cls K C ∧ NoAttr K C f ∧ fs.lookup f = some v ∧ Q v H1
/-- e.f, a constant of the class -/
def tCon (K : PySem.W.Frag) (ta : TE) (f : Str) : TE := fun σ H Q => ta σ H fun x H1 => ∃ a C dx fs v u, x = .ref a ∧ H1 a = some (.ins C dx fs) ∧ Cls K C ∧ Con K C f v u ∧ fs.lookup f = none ∧ Q v H1
/-- e.f = value -/
def sFld (K : PySem.W.Frag) (ta tv : TE) (f : Str) : TS := fun D σ H => tv σ H fun y H1 => ta σ H1 fun x H2 => ∃ a C dx fs, x = .ref a ∧ H2 a = some (.ins C dx fs) ∧ Cls K C ∧ NoAttr K C f ∧ fs.length < 1000 ∧
  D.nx σ (upd H2 a (.ins C dx (putF f y fs)))
/-- an augmented operator on two values -/
def InOp (X : Cx) (op : Operator) (rd : V → V → Hp → VK → Prop) : Prop :=
  ∀ (pins : List (Addr × Obj)) (s : Shared) (σ : St) (H : Hp) (x y : V) (u v : Value) (Q : VK), Inv X pins σ H s → RelV x u → RelV y v → rd x y H Q → wpAny (model X.prog X.w) X.A (inplaceOp op u v) (EP X pins σ Q) X.xe s
/-- e.f op= value -/
def sFldAug (K : PySem.W.Frag) (ta tv : TE) (rd : V → V → Hp → VK → Prop) (f : Str) : TS := fun D σ H => ta σ H fun x H1 => ∃ a C dx fs v, x = .ref a ∧ H1 a = some (.ins C dx fs) ∧ Cls K C ∧ NoAttr K C f ∧ fs.lookup f = some v ∧
  tv σ H1 fun y H2 => rd v y H2 fun z H3 => ∃ dx' fs', H3 a = some (.ins C dx' fs') ∧ fs'.length < 1000 ∧ D.nx σ (upd H3 a (.ins C dx' (putF f z fs')))

section
variable {X : Cx} {o e value : Expr} {f : Str} {pos pos' tpos : Pos} {ta tv : TE}
theorem pe_fld (he : PE X e ta) (hb : attributeBase e f X.env (eval e X.env) = eval e X.env) : PE X (.Attribute e f pos) (tFld X.K ta f) := by
  intro pins s σ H Q I h
  refine attr_of hb (thn (he pins s σ H _ I h) fun u s1 ⟨x, H1, I1, rx, a, C, dx, fs, v, ex, ea, c, n, l, q⟩ => ?_)
  subst ex
  obtain rfl : u = Value.ref a := rx
  exact getattr_ok I1 ea c n l fun u' s2 I2 ru => ⟨v, H1, I2, ru, q⟩
theorem pe_con (he : PE X e ta) (hb : attributeBase e f X.env (eval e X.env) = eval e X.env) : PE X (.Attribute e f pos) (tCon X.K ta f) := by
  intro pins s σ H Q I h
  refine attr_of hb (thn (he pins s σ H _ I h) fun u s1 ⟨x, H1, I1, rx, a, C, dx, fs, v, u0, ex, ea, c, k, l, q⟩ => ?_)
  subst ex
  obtain rfl : u = Value.ref a := rx
  exact getcon_ok I1 ea c k l fun s2 I2 => ⟨v, H1, I2, k.rel, q⟩
theorem ps_fld (ha : PE X o ta) (hv : PE X value tv) (hs : swapsWith value (some (.Attribute o f pos')) pos.line X.env = pure false) : PS X (.Assign [.Attribute o f pos'] value pos) (sFld X.K ta tv f) := by
  intro pins s σ H D I h
  refine plainObj_wpAny_Assign_Attribute (thn (hv pins s σ H _ I h) fun u s1 ⟨y, H1, I1, ry, q⟩ => thn (ha pins s1 σ H1 _ I1 q) fun ov s2 ⟨x, H2, I2, rx, a, C, dx, fs, ex, ea, c, n, l, q2⟩ => ?_) hs
  subst ex
  obtain rfl : ov = Value.ref a := rx
  exact setattr_ok I2 ea c n l ry fun s3 I3 => ⟨σ, _, I3, q2⟩
theorem ps_fldaug {op : Operator} {rd : V → V → Hp → VK → Prop} (ha : PE X o ta) (hv : PE X value tv) (hop : InOp X op rd) : PS X (.AugAssign (.Attribute o f tpos) op value pos) (sFldAug X.K ta tv rd f) := by
  intro pins s σ H D I h
  refine wpAny_AugAssign_AttributeAny (thn (ha pins s σ H _ I h) fun ov s1 ⟨x, H1, I1, rx, a, C, dx, fs, v, ex, ea, c, n, l, q⟩ => ?_)
  subst ex
  obtain rfl : ov = Value.ref a := rx
  refine getattr_ok I1 ea c n l fun u s2 I2 ru => thn (hv pins s2 σ H1 _ I2 q) fun w3 s3 ⟨y, H2, I3, ry, q3⟩ => thn (hop pins s3 σ H2 v y u w3 _ I3 ru ry q3) fun w4 s4 ⟨z, H3, I4, rz, dx', fs', ea', l', q4⟩ => ?_
  exact setattr_ok I4 ea' c n l' rz fun s5 I5 => ⟨σ, _, I5, q4⟩
def rAdd : V → V → Hp → VK → Prop := fun x y H Q => ∃ i j, x = .int i ∧ y = .int j ∧ Q (.int (i + j)) H
def rSub : V → V → Hp → VK → Prop := fun x y H Q => ∃ i j, x = .int i ∧ y = .int j ∧ Q (.int (i - j)) H
theorem in_add : InOp X .Add rAdd := by
  rintro pins s σ H x y u v Q I rx ry ⟨i, j, rfl, rfl, q⟩
  obtain ⟨t, rfl⟩ := (show ∃ t, u = Value.int i t from rx)
  obtain ⟨t', rfl⟩ := (show ∃ t', v = Value.int j t' from ry)
  exact PyProof.Rows.iadd_int ⟨.int (i + j), H, I.tok _, ⟨_, rfl⟩, q⟩
theorem in_sub : InOp X .Sub rSub := by
  rintro pins s σ H x y u v Q I rx ry ⟨i, j, rfl, rfl, q⟩
  obtain ⟨t, rfl⟩ := (show ∃ t, u = Value.int i t from rx)
  obtain ⟨t', rfl⟩ := (show ∃ t', v = Value.int j t' from ry)
  exact PyProof.Rows.isub_int ⟨.int (i - j), H, I.tok _, ⟨_, rfl⟩, q⟩

/-- what is between an instance and its method: the tree of a method call -/
theorem methcall_of {pl : Sem Bool} {m : Str} {apos : Pos} {args : List Expr} {pins : List (Addr × Obj)} {s : Shared} {σ : St} {H : Hp} {Q : Value → Shared → Prop} {te : TE} (he : PE X e te) (I : Inv X pins σ H s)
    (h : te σ H fun x H1 => ∃ a C dx fs g, x = .ref a ∧ H1 a = some (.ins C dx fs) ∧ Cls X.K C ∧ Meth X.K C m g ∧ fs.lookup m = none ∧
      ∀ s1, Inv X pins σ H1 s1 → wpAny (model X.prog X.w) X.A (callWith pos (.ref g) [.ref a] (backTo pos (starEach args X.env)) (backToKw pos (keywordEach [] X.env))) Q X.xe s1)
    (ht : eval (.Call (.Attribute e m apos) args [] pos) X.env = (do
      let ov ← eval e X.env
      standAt apos.atName
      let (f, first) ← holding [ov] (getMethod ov m pl)
      callWith pos f first (backTo pos (starEach args X.env)) (backToKw pos (keywordEach [] X.env)))) :
    wpAny (model X.prog X.w) X.A (eval (.Call (.Attribute e m apos) args [] pos) X.env) Q X.xe s := by
  refine PySem.W.methodCall_KW (pl := pl) (thn (he pins s σ H _ I h) fun u s1 ⟨x, H1, I1, rx, a, C, dx, fs, g, ex, ea, c, k, l, q⟩ => ?_) ht
  subst ex
  obtain rfl : u = Value.ref a := rx
  exact getmeth_ok I1 ea c k l (q s1 I1)
end

/-! ### isinstance -/
section
variable {X : Cx} {pins : List (Addr × Obj)} {σ : St} {H : Hp} {s : Shared} {A : Around} {E : Value → Shared → Prop} {Q : Value → Shared → Prop} {c : Value} {b : Bool}
/-- the type of a value, as the fragment's deciders take it; for an instance its class -/
inductive TyOf (K : PySem.W.Frag) (H : Hp) : V → Value → Prop where
  | non : TyOf K H .non (.type "NoneType")
  | bl (x : Bool) : TyOf K H (.bl x) (.type "bool")
  | int (i : Int) : TyOf K H (.int i) (.type "int")
  | str (x : Str) : TyOf K H (.str x) (.type "str")
  | flt (x : UInt64) : TyOf K H (.flt x) (.type "float")
  | lst {a : Addr} {xs : List V} (e : H a = some (.lst xs)) : TyOf K H (.ref a) (.type "list")
  | frz {a : Addr} {o : Obj} {xs : List V} (e : H a = some (.frz o (.lst xs))) : TyOf K H (.ref a) (.type "list")
  | tup {a : Addr} {xs : List V} (e : H a = some (.tup xs)) : TyOf K H (.ref a) (.type "tuple")
  | dK {a : Addr} {kvs : List (Key × V)} (e : H a = some (.dK kvs)) : TyOf K H (.ref a) (.type "dict")
  | dT {a : Addr} {kvs : List (List Key × V)} (e : H a = some (.dT kvs)) : TyOf K H (.ref a) (.type "dict")
  | ins {a C dx : Addr} {fs : List (Str × V)} (e : H a = some (.ins C dx fs)) (cl : Cls K C) (ha : PySem.W.findIn K (.ref C) "__class__" = some (some (.builtin "object.__class__")))
      (hn : PySem.W.specialIn K (.builtin "object.__class__") "__get__" = some (some (.builtin "getset_descriptor.__get__"))) (htk : PySem.W.takesIn K (.builtin "object.__class__") = some true)
      (hm : PySem.W.mroIn K C (.type "object") = some true) : TyOf K H (.ref a) (.ref C)
/-- isinstance(x, c) for one class c, a built-in or an own one: kitOne's answer -/
theorem isinst_ok {x : V} {u t : Value} (I : Inv X pins σ H s) (rx : RelV x u) (ty : TyOf X.K H x t) (e : PySem.W.kitOne X.K t c = some b) (h : ∀ tk, Q (.bool b) { s with toks := tk }) :
    wpAny (model X.prog X.w) A (call (.builtin "isinstance") [u, c]) Q E s := by
  cases ty with
  | non => cases (show u = Value.none from rx); exact PySem.W.kia_one PySem.W.kitx_none I.kIn True.intro e (fun z => nomatch z) h
  | bl y => cases (show u = Value.bool y from rx); exact PySem.W.kia_one PySem.W.kitx_bool I.kIn True.intro e (fun z => nomatch z) h
  | int i => obtain ⟨t, q⟩ := (show ∃ t, u = Value.int i t from rx); cases q; exact PySem.W.kia_one PySem.W.kitx_int I.kIn True.intro e (fun z => nomatch z) h
  | str y => obtain ⟨t, q⟩ := (show ∃ t, u = Value.str y t from rx); cases q; exact PySem.W.kia_one PySem.W.kitx_str I.kIn True.intro e (fun z => nomatch z) h
  | flt y => obtain ⟨t, q⟩ := (show ∃ t, u = Value.float y t from rx); cases q; exact PySem.W.kia_one PySem.W.kitx_float I.kIn True.intro e (fun z => nomatch z) h
  | @lst a xs ea =>
    cases (show u = Value.ref a from rx)
    obtain ⟨_, _, n, _, h1⟩ := (show ObjOk X.prog X.w H s.heap a (.lst xs) from I.hok a _ ea)
    exact PySem.W.kia_one PySem.W.kitx_list I.kIn ⟨_, h1, rfl⟩ e (fun z => nomatch z) h
  | @frz a ob xs ea =>
    cases (show u = Value.ref a from rx)
    obtain ⟨_, _, _, n, _, h1⟩ := (show ObjOk X.prog X.w H s.heap a (.frz ob (.lst xs)) from I.hok a _ ea)
    exact PySem.W.kia_one PySem.W.kitx_list I.kIn ⟨_, h1, rfl⟩ e (fun z => nomatch z) h
  | @tup a xs ea =>
    cases (show u = Value.ref a from rx)
    obtain ⟨_, _, _, p⟩ := (show ObjOk X.prog X.w H s.heap a (.tup xs) from I.hok a _ ea)
    obtain ⟨o, h1, h2, _⟩ := p
    exact PySem.W.kia_one PySem.W.kitx_tuple I.kIn ⟨o, h1, h2⟩ e (fun z => nomatch z) h
  | @dK a kvs ea =>
    cases (show u = Value.ref a from rx)
    obtain ⟨_, _, vs, _, p⟩ := (show ObjOk X.prog X.w H s.heap a (.dK kvs) from I.hok a _ ea)
    obtain ⟨o, es, ep, h1, h2, _⟩ := p
    exact PySem.W.kia_one PySem.W.kitx_dict I.kIn ⟨o, h1, h2.1⟩ e (fun z => nomatch z) h
  | @dT a kvs ea =>
    cases (show u = Value.ref a from rx)
    obtain ⟨_, _, xs, _, o, es, ep, h1, h2, _⟩ := (show ObjOk X.prog X.w H s.heap a (.dT kvs) from I.hok a _ ea)
    exact PySem.W.kia_one PySem.W.kitx_dict I.kIn ⟨o, h1, h2.1⟩ e (fun z => nomatch z) h
  | @ins a C dx fs ea cl ha hn htk hm =>
    cases (show u = Value.ref a from rx)
    obtain ⟨mA, O, _⟩ := ins_get I.hok ea
    obtain ⟨od, J, _⟩ := O.look
    exact PySem.W.kia_one (PySem.W.kitx_own (cl.get _) cl.hd ha hn htk hm) I.kIn J e (fun z => nomatch z) h
end
end L2

namespace L2
open PySem PySem.Spec PyProof.Rows

/-! ### room -/
structure Room (k : Nat) (A : Around) : Prop where
  hd : A.handled = none
  dp : A.depth + 3 * k + 5 < recursionLimit
  un : A.units + 16 * k + 200 < cLine
  gd : A.guards = some []
theorem Room.mono {j k : Nat} {A : Around} (r : Room k A) (h : j ≤ k) : Room j A := ⟨r.hd, by have := r.dp; omega, by have := r.un; omega, r.gd⟩
theorem Room.deeper {k : Nat} {A : Around} (r : Room (k + 1) A) (env : Env) : Room k (A.deeper env) :=
  ⟨r.hd, by have := r.dp; show A.depth + 1 + 3 * k + 5 < _; omega, by have := r.un; show A.units + 3 + 16 * k + 200 < _; omega, r.gd⟩
theorem Room.in1 {k : Nat} {A : Around} (r : Room (k + 1) A) : Room k A.in1 :=
  ⟨r.hd, by have := r.dp; show A.depth + 3 * k + 5 < _; omega, by have := r.un; show A.units + 1 + 16 * k + 200 < _; omega, r.gd⟩
theorem make_depth {A : Around} {C : Addr} {us : List Value} {kw : List (Str × Value)} : (A.under (.builtin "type.__call__" ⟨.ref C :: us, kw⟩)).depth = A.depth + 1 := by
  first | rfl | simp [Around.under, Code.weight, Code.isCreation, Code.isGuard, Code.isCaller, Code.frames, Code.isFrame, guardIds]
theorem make_units {A : Around} {C : Addr} {us : List Value} {kw : List (Str × Value)} : (A.under (.builtin "type.__call__" ⟨.ref C :: us, kw⟩)).units = A.units + 1 := by
  first | rfl | simp [Around.under, Code.cUnits, Code.frames, Code.isFrame]
theorem Room.make {k : Nat} {A : Around} (r : Room (k + 1) A) (C : Addr) (us : List Value) (kw : List (Str × Value)) : Room k (A.under (.builtin "type.__call__" ⟨.ref C :: us, kw⟩)) :=
  ⟨r.hd, by have := r.dp; rw [make_depth]; omega, by have := r.un; rw [make_units]; omega, by have h := r.gd; first | (simp only [Around.under]; rw [h]; rfl) | simp [Around.under, h, pushGuards, Code.guards, Code.isGuard, guardIds]⟩
theorem Room.depth {k : Nat} {A : Around} (r : Room k A) : A.depth < recursionLimit := by have := r.dp; omega
theorem Room.units {k : Nat} {A : Around} (r : Room k A) : A.units + 64 < cLine := by have := r.un; omega
theorem Room.units0 {k : Nat} {A : Around} (r : Room k A) : A.units < cLine := by have := r.un; omega

/-! ### argument lists and displays -/
def tNil : TA := fun _ H Q => Q [] H
def tCons (ta : TE) (tr : TA) : TA := fun σ H Q => ta σ H fun x H1 => tr σ H1 fun xs H2 => Q (x :: xs) H2
section
variable {X : Cx} {e : Expr} {es : List Expr} {te : TE} {t : TA} {pos : Pos}
theorem pa_nil : PA X [] tNil := fun _ _ _ _ H Q I h => Calls.spliced_nil ⟨[], H, I, .nil, h⟩
theorem pa_cons (ha : PE X e te) (hr : PA X es t) (hs : starEach (e :: es) X.env = (false, eval e X.env) :: starEach es X.env := by rfl) : PA X (e :: es) (tCons te t) := by
  intro pos pins s σ H Q I h
  rw [hs]
  show wpAny _ _ (spliced ((false, eval e X.env) :: backTo pos (starEach es X.env))) _ _ s
  refine Calls.spliced_cons (thn (ha pins s σ H _ I h) fun u s1 ⟨x, H1, I1, r1, q1⟩ => ?_)
  exact thn (hr pos pins s1 σ H1 _ I1 q1) fun us s2 ⟨xs, H2, I2, r2, q2⟩ => ⟨x :: xs, H2, I2, .cons r1 r2, q2⟩

/-- a tuple, a list of written items -/
def tTup (t : TA) : TE := fun σ H Q => t σ H fun xs H1 => xs.length ≤ sizeLine ∧ ∀ p, H1 p = none → Q (.ref p) (upd H1 p (.tup xs))
def tLst (t : TA) : TE := fun σ H Q => t σ H fun xs H1 => xs.length ≤ sizeLine ∧ ∀ p, H1 p = none → Q (.ref p) (upd H1 p (.lst xs))
theorem pe_tup {x1} (h : PA X es t) : PE X (.Tuple es x1 pos) (tTup t) := by
  intro pins s σ H Q I hq
  refine wpAny_Tuple_spliced (thn (h pos pins s σ H _ I hq) fun us s1 ⟨xs, H1, I1, r, z, q⟩ => ⟨by rw [← r.length]; exact z, ?_⟩)
  have hf : H1 s1.heap.objs.size = none := I1.hok.fresh (Nat.le_refl _)
  refine ⟨.ref s1.heap.objs.size, upd H1 s1.heap.objs.size (.tup xs), I1.laid (t' := s1.toks) (fun b u e => Heap.get?_push_of_some _ e) (Nat.le_refl _) ?_, rfl, q _ hf⟩
  exact ⟨z, us, r, ⟨_, Heap.get?_push_size _ rfl, rfl, _, rfl⟩⟩
theorem pe_lst (h : PA X es t) : PE X (.List es pos) (tLst t) := by
  intro pins s σ H Q I hq
  refine wpAny_List_spliced (thn (h pos pins s σ H _ I hq) fun us s1 ⟨xs, H1, I1, r, z, q⟩ => ⟨by rw [← r.length]; exact z, ?_⟩)
  have hf : H1 s1.heap.objs.size = none := I1.hok.fresh (Nat.le_refl _)
  refine ⟨.ref s1.heap.objs.size, upd H1 s1.heap.objs.size (.lst xs), I1.laid (t' := s1.toks) (fun b u e => Heap.get?_push_of_some _ e) (Nat.le_refl _) ?_, rfl, q _ hf⟩
  exact ⟨z, us, 0, r, Heap.get?_push_size _ rfl⟩
end

/-! ### what a def promises -/
/-- a def's promise: the bound arguments in the parameters' order, the heap, the wanted end, the wanted exception -/
abbrev Sp := List V → Hp → VK → XK → Prop
/-- how an exception lies behind a call (file 08 gives it): the callers' frames, abstract heap and state ahead of the call, the wish, the exception, the state -/
abbrev CXT := List Env → Hp → Shared → XK → Value → Shared → Prop

/-- the state at a call -/
structure Env0 (P : Program) (w : World) (K : PySem.W.Frag) (mg : Str → Option Value) (base : Heap) (A : Around) (outer : List Env) (s : Shared) (H : Hp) : Prop where
  frames : A.frames = some outer
  mod : Mod K mg base
  bs : ∀ b o, base.get? b = some o → s.heap.get? b = some o ∧ H b = none
  bsz : base.objs.size ≤ s.heap.objs.size
  funs : s.heap.FunFrames base outer
  frf : ∀ b ∈ frs outer, H b = none
  hok : HOk P w H s.heap
  bare : AllBare s.gens
/-- a call's end -/
def CE (outer : List Env) (P : Program) (w : World) (H : Hp) (s : Shared) (Q : VK) (u : Value) (s' : Shared) : Prop :=
  ∃ v H', s'.os = s.os ∧ AllBare s'.gens ∧ Un (frs outer) [] H H' s.heap s'.heap ∧ HOk P w H' s'.heap ∧ RelV v u ∧ Q v H'
def CR (CX : CXT) (outer : List Env) (P : Program) (w : World) (H : Hp) (s : Shared) (Q : VK) (E : XK) (r : Result) (s' : Shared) : Prop :=
  match r with
  | .ok (.ret u) => CE outer P w H s Q u s'
  | .ok _ => False
  | .error e => CX outer H s E e s'
structure FnOk (P : Program) (w : World) (K : PySem.W.Frag) (mg : Str → Option Value) (base : Heap) (CX : CXT) (k : Nat) (f : Addr) (fd : FuncData) (ps : List Str) (sp : Sp) : Prop where
  len : ∀ vs H Q E, sp vs H Q E → vs.length = ps.length
  run : ∀ (A : Around) (outer : List Env) (s : Shared) (H : Hp) (args : Args) (us : List Value) (vs : List V) (Q : VK) (E : XK), Room k A → Env0 P w K mg base A outer s H → BindsTo s fd args (ps.zip us) → Vals vs us → sp vs H Q E →
    codeAny (model P w) A (.call (.ref f) args) (CR CX outer P w H s Q E) s
theorem FnOk.mono {P : Program} {w : World} {K : PySem.W.Frag} {mg : Str → Option Value} {base : Heap} {CX : CXT} {j k : Nat} {f : Addr} {fd : FuncData} {ps : List Str} {sp : Sp} (F : FnOk P w K mg base CX j f fd ps sp) (h : j ≤ k) :
    FnOk P w K mg base CX k f fd ps sp := ⟨F.len, fun A outer s H args us vs Q E hr => F.run A outer s H args us vs Q E (hr.mono h)⟩
/-- a weaker promise -/
theorem FnOk.imp {P : Program} {w : World} {K : PySem.W.Frag} {mg : Str → Option Value} {base : Heap} {CX : CXT} {k : Nat} {f : Addr} {fd : FuncData} {ps : List Str} {sp sp' : Sp} (F : FnOk P w K mg base CX k f fd ps sp)
    (h : ∀ vs H Q E, sp' vs H Q E → sp vs H Q E) : FnOk P w K mg base CX k f fd ps sp' :=
  ⟨fun vs H Q E q => F.len vs H Q E (h _ _ _ _ q), fun A outer s H args us vs Q E hr he hb hv hs => F.run A outer s H args us vs Q E hr he hb hv (h _ _ _ _ hs)⟩

theorem Env0.make {P : Program} {w : World} {K : PySem.W.Frag} {mg : Str → Option Value} {base : Heap} {A : Around} {outer : List Env} {s : Shared} {H : Hp} (e : Env0 P w K mg base A outer s H) (C : Addr) (us : List Value) (kw : List (Str × Value)) :
    Env0 P w K mg base (A.under (.builtin "type.__call__" ⟨.ref C :: us, kw⟩)) outer s H := ⟨by first | exact e.frames | (simpa [Around.under, Code.envs, Code.isFrame, pushEnvs] using e.frames), e.mod, e.bs, e.bsz, e.funs, e.frf, e.hok, e.bare⟩
theorem Env0.in1 {P : Program} {w : World} {K : PySem.W.Frag} {mg : Str → Option Value} {base : Heap} {A : Around} {outer : List Env} {s : Shared} {H : Hp} (e : Env0 P w K mg base A outer s H) :
    Env0 P w K mg base A.in1 outer s H := ⟨e.frames, e.mod, e.bs, e.bsz, e.funs, e.frf, e.hok, e.bare⟩

section
variable {X : Cx} {pins : List (Addr × Obj)} {σ : St} {H : Hp} {s s' : Shared}
/-- from a body: what a callee wants -/
theorem Inv.env0 (I : Inv X pins σ H s) : Env0 X.prog X.w X.K X.mg X.base X.A X.stack s H :=
  ⟨I.ok.frames, I.ok.mod, I.bs, Nat.le_trans I.ok.bsz I.sz, I.stack, I.stkFree, I.hok, I.bare⟩
/-- behind a call -/
theorem Inv.after {Q : VK} {u : Value} (I : Inv X pins σ H s) (h : CE X.stack X.prog X.w H s Q u s') : EP X pins σ Q u s' := by
  obtain ⟨v, H', os, bare, un, hok, r, q⟩ := h
  obtain ⟨hh, g, d, t, os'⟩ := s'
  obtain rfl : os' = s.os := os
  exact ⟨v, H', I.call (h' := hh) (g' := g) (d' := d) (t' := t) (ch := []) un hok bare (fun b z => absurd z (by simp)), r, q⟩
end

/-! ### calls -/
/-- f(..): the written arguments, then the defaults dvs; E: what is wanted of an exception -/
def tCall (sp : Sp) (dvs : List V) (E : XK) (t : TA) : TE := fun σ H Q => t σ H fun vs H1 => sp (vs ++ dvs) H1 Q E
/-- o.m(..) of an instance of the class at C -/
def tMeth (C : Addr) (m : Str) (sp : Sp) (dvs : List V) (E : XK) (ta : TE) (t : TA) : TE := fun σ H Q => ta σ H fun x H1 => ∃ a dx fs, x = .ref a ∧ H1 a = some (.ins C dx fs) ∧ fs.lookup m = none ∧
  t σ H1 fun vs H2 => sp (x :: (vs ++ dvs)) H2 Q E
/-- C(..): a new instance and its dict, then __init__ -/
def tMake (C : Addr) (sp : Sp) (dvs : List V) (E : XK) (t : TA) : TE := fun σ H Q => t σ H fun vs H1 => ∀ x dx, H1 x = none → H1 dx = none → dx ≠ x →
  sp (.ref x :: (vs ++ dvs)) (upd (upd H1 dx (.own x)) x (.ins C dx [])) (fun v H2 => v = .non ∧ Q (.ref x) H2) E

/-- how the parameters are bound: us the positional arguments, kw the keywords' values by name, ds the defaults that fill up -/
def Binds (K : PySem.W.Frag) (fd : FuncData) (ps : List Str) (ds : List Value) : Prop :=
  ∀ (s : Shared) (us : List Value), K.In s.heap → (us ++ ds).length = ps.length → BindsTo s fd ⟨us, []⟩ (ps.zip (us ++ ds))
/-- every parameter is given -/
theorem Binds.all {K : PySem.W.Frag} {fd : FuncData} {ps : List Str} (h : ∀ us : List Value, us.length = ps.length → bindArgs fd ⟨us, []⟩ = pure (ps.zip us)) : Binds K fd ps [] := fun s us _ hl => by
  rw [List.append_nil] at hl ⊢
  exact .of_eq (h us hl)

/-- an exception of a callee reaches what this body wants of exceptions -/
def Passes (CX : CXT) (X : Cx) (E : XK) : Prop := ∀ (pins : List (Addr × Obj)) (σ : St) (H : Hp) (s : Shared) (e : Value) (s' : Shared), Inv X pins σ H s → CX X.stack H s E e s' → X.xe e s'

section
variable {X : Cx} {CX : CXT} {k : Nat} {f C : Addr} {fd : FuncData} {ps : List Str} {sp : Sp} {dvs : List V} {ds : List Value} {E : XK} {x m : Str} {p pos apos : Pos} {e o : Expr} {es : List Expr} {ta : TE} {t : TA}

/-- the callee runs -/
theorem run_fn {pins : List (Addr × Obj)} {σ : St} {H : Hp} {s : Shared} {Q : VK} {us : List Value} {vs : List V} (F : FnOk X.prog X.w X.K X.mg X.base CX k f fd ps sp) (hr : Room k X.A) (hb : Binds X.K fd ps ds) (hd : Vals dvs ds) (hx : Passes CX X E)
    (I : Inv X pins σ H s) (r : Vals vs us) (h : sp (vs ++ dvs) H Q E) : wpAny (model X.prog X.w) X.A (call (.ref f) us) (EP X pins σ Q) X.xe s := by
  have r2 : Vals (vs ++ dvs) (us ++ ds) := r.append hd
  have hl : (us ++ ds).length = ps.length := by rw [← r2.length]; exact F.len _ _ _ _ h
  refine wpAny_call (codeAny_mono (F.run X.A X.stack s H ⟨us, []⟩ (us ++ ds) (vs ++ dvs) Q E hr I.env0 (hb s us I.kIn hl) r2 h) fun r s' hq => ?_)
  cases r with
  | error e => exact hx pins σ H s e s' I hq
  | ok fl =>
    cases fl with
    | ret u => exact I.after hq
    | next => exact False.elim hq
    | brk => exact False.elim hq
    | cont => exact False.elim hq

theorem pe_call (F : FnOk X.prog X.w X.K X.mg X.base CX k f fd ps sp) (hr : Room k X.A) (hg : Gl X x) (hm : X.mg x = some (.ref f)) (hk : PySem.W.keepIn X.K (.ref f) = true) (hb : Binds X.K fd ps ds) (hd : Vals dvs ds) (hx : Passes CX X E)
    (ha : PA X (e :: es) t) (hdb : (x == ("__debug__" : Str)) = false := by decide) (he : starEach (e :: es) X.env = (false, eval e X.env) :: starEach es X.env := by rfl) (hpl : (backTo pos (starEach es X.env)).any (·.1) = false := by rfl) :
    PE X (.Call (.Name x p) (e :: es) [] pos) (tCall sp dvs E t) := by
  intro pins s σ H Q I h
  refine wpAny_Call_Name_kw (ld_glob I hg hm ?_ hdb)
  refine PySem.W.callWith_K (h₀ := X.base) I.ok.mod.kin hk (thn (ha pos pins s σ H _ I h) fun us s1 ⟨vs, H1, I1, r, q⟩ => ⟨I1.kIn, ?_⟩) he hpl
  exact run_fn F hr hb hd hx I1 r q
theorem pe_call0 (F : FnOk X.prog X.w X.K X.mg X.base CX k f fd ps sp) (hr : Room k X.A) (hg : Gl X x) (hm : X.mg x = some (.ref f)) (hk : PySem.W.keepIn X.K (.ref f) = true) (hb : Binds X.K fd ps ds) (hd : Vals dvs ds) (hx : Passes CX X E)
    (hdb : (x == ("__debug__" : Str)) = false := by decide) : PE X (.Call (.Name x p) [] [] pos) (tCall sp dvs E tNil) := by
  intro pins s σ H Q I h
  refine wpAny_Call_Name_kw (ld_glob I hg hm ?_ hdb)
  exact PySem.W.callWith_K0 I.kIn hk (run_fn (us := []) F hr hb hd hx I .nil h)

/-- o.m(e, ..) -/
theorem pe_meth {pl : Sem Bool} (he : PE X o ta) (c : Cls X.K C) (hm : Meth X.K C m f) (F : FnOk X.prog X.w X.K X.mg X.base CX k f fd ps sp) (hr : Room k X.A) (hb : Binds X.K fd ps ds) (hd : Vals dvs ds) (hx : Passes CX X E) (ha : PA X (e :: es) t)
    (hst : starEach (e :: es) X.env = (false, eval e X.env) :: starEach es X.env := by rfl) (hpl : (backTo pos (starEach es X.env)).any (·.1) = false := by rfl)
    (ht : eval (.Call (.Attribute o m apos) (e :: es) [] pos) X.env = (do
      let ov ← eval o X.env
      standAt apos.atName
      let (f, first) ← holding [ov] (getMethod ov m pl)
      callWith pos f first (backTo pos (starEach (e :: es) X.env)) (backToKw pos (keywordEach [] X.env))) := by rfl) :
    PE X (.Call (.Attribute o m apos) (e :: es) [] pos) (tMeth C m sp dvs E ta t) := by
  intro pins s σ H Q I h
  refine PySem.W.methodCall_KW (pl := pl) (thn (he pins s σ H _ I h) fun u s1 ⟨x, H1, I1, rx, a, dx, fs, ex, ea, l, q⟩ => ?_) ht
  subst ex
  obtain rfl : u = Value.ref a := rx
  refine getmeth_ok I1 ea c hm l ?_
  refine PySem.W.callWith_K (first := [.ref a]) (h₀ := X.base) I.ok.mod.kin hm.kp (thn (ha pos pins s1 σ H1 _ I1 q) fun us s2 ⟨vs, H2, I2, r, q2⟩ => ⟨I2.kIn, ?_⟩) hst hpl
  exact run_fn (us := .ref a :: us) (vs := .ref a :: vs) F hr hb hd hx I2 (.cons rfl r) q2
/-- o.m() -/
theorem pe_meth0 {pl : Sem Bool} (he : PE X o ta) (c : Cls X.K C) (hm : Meth X.K C m f) (F : FnOk X.prog X.w X.K X.mg X.base CX k f fd ps sp) (hr : Room k X.A) (hb : Binds X.K fd ps ds) (hd : Vals dvs ds) (hx : Passes CX X E)
    (ht : eval (.Call (.Attribute o m apos) [] [] pos) X.env = (do
      let ov ← eval o X.env
      standAt apos.atName
      let (f, first) ← holding [ov] (getMethod ov m pl)
      callWith pos f first (backTo pos (starEach [] X.env)) (backToKw pos (keywordEach [] X.env))) := by rfl) :
    PE X (.Call (.Attribute o m apos) [] [] pos) (tMeth C m sp dvs E ta tNil) := by
  intro pins s σ H Q I h
  refine PySem.W.methodCall_KW (pl := pl) (thn (he pins s σ H _ I h) fun u s1 ⟨x, H1, I1, rx, a, dx, fs, ex, ea, l, q⟩ => ?_) ht
  subst ex
  obtain rfl : u = Value.ref a := rx
  refine getmeth_ok I1 ea c hm l ?_
  exact PySem.W.callWith_K0 (first := [.ref a]) I1.kIn hm.kp (run_fn (us := [.ref a]) (vs := [.ref a]) F hr hb hd hx I1 (.cons rfl .nil) q)

/-- what a class must have to be made -/
structure Mk (K : PySem.W.Frag) (C f : Addr) : Prop where
  makes : PySem.W.makesIn K C = true
  init : PySem.W.findIn K (.ref C) "__init__" = some (some (.ref f))
  fn : PySem.W.isFn K (.ref f) = true
  kp : PySem.W.keepIn K (.ref C) = true

theorem run_make {pins : List (Addr × Obj)} {σ : St} {H : Hp} {s : Shared} {Q : VK} {us : List Value} {vs : List V} (M : Mk X.K C f) (F : FnOk X.prog X.w X.K X.mg X.base CX k f fd ps sp) (hr : Room (k + 1) X.A) (hb : Binds X.K fd ps ds) (hd : Vals dvs ds)
    (hx : Passes CX X E) (I : Inv X pins σ H s) (r : Vals vs us)
    (h : ∀ x dx, H x = none → H dx = none → dx ≠ x → sp (.ref x :: (vs ++ dvs)) (upd (upd H dx (.own x)) x (.ins C dx [])) (fun v H2 => v = .non ∧ Q (.ref x) H2) E) :
    wpAny (model X.prog X.w) X.A (call (.ref C) us) (EP X pins σ Q) X.xe s := by
  have hq := h (s.heap.objs.size + 1) s.heap.objs.size (I.hok.fresh (Nat.le_succ _)) (I.hok.fresh (Nat.le_refl _)) (Nat.ne_of_lt (Nat.lt_succ_self _))
  have I2 := Inv.made (C := C) I
  have r2 : Vals (V.ref (s.heap.objs.size + 1) :: (vs ++ dvs)) (Value.ref (s.heap.objs.size + 1) :: (us ++ ds)) := .cons rfl (r.append hd)
  have hl : (Value.ref (s.heap.objs.size + 1) :: us ++ ds).length = ps.length := by
    have e := r2.length
    rw [F.len _ _ _ _ hq] at e
    exact e.symm
  refine wpAny_call (make_map (f := f) I.kIn M.makes M.init (beq_iff_eq.mp M.fn) (codeAny_mono (F.run _ X.stack _ _ ⟨Value.ref (s.heap.objs.size + 1) :: us, []⟩ (Value.ref (s.heap.objs.size + 1) :: (us ++ ds)) _ _ E (hr.make C us [])
    (I2.env0.make C us []) (hb _ (Value.ref (s.heap.objs.size + 1) :: us) I2.kIn hl) r2 hq) fun r s' hq' => ?_))
  cases r with
  | error e => exact hx pins σ _ _ e s' I2 hq'
  | ok fl =>
    cases fl with
    | ret u =>
      obtain ⟨v, H', I3, rv, ev, q3⟩ := I2.after hq'
      subst ev
      exact ⟨rv, ⟨V.ref (s.heap.objs.size + 1), H', I3, rfl, q3⟩⟩
    | next => exact False.elim hq'
    | brk => exact False.elim hq'
    | cont => exact False.elim hq'
theorem pe_make (M : Mk X.K C f) (F : FnOk X.prog X.w X.K X.mg X.base CX k f fd ps sp) (hr : Room (k + 1) X.A) (hg : Gl X x) (hm : X.mg x = some (.ref C)) (hb : Binds X.K fd ps ds) (hd : Vals dvs ds) (hx : Passes CX X E)
    (ha : PA X (e :: es) t) (hdb : (x == ("__debug__" : Str)) = false := by decide) (he : starEach (e :: es) X.env = (false, eval e X.env) :: starEach es X.env := by rfl) (hpl : (backTo pos (starEach es X.env)).any (·.1) = false := by rfl) :
    PE X (.Call (.Name x p) (e :: es) [] pos) (tMake C sp dvs E t) := by
  intro pins s σ H Q I h
  refine wpAny_Call_Name_kw (ld_glob I hg hm ?_ hdb)
  refine PySem.W.callWith_K (h₀ := X.base) I.ok.mod.kin M.kp (thn (ha pos pins s σ H _ I h) fun us s1 ⟨vs, H1, I1, r, q⟩ => ⟨I1.kIn, ?_⟩) he hpl
  exact run_make M F hr hb hd hx I1 r q
theorem pe_make0 (M : Mk X.K C f) (F : FnOk X.prog X.w X.K X.mg X.base CX k f fd ps sp) (hr : Room (k + 1) X.A) (hg : Gl X x) (hm : X.mg x = some (.ref C)) (hb : Binds X.K fd ps ds) (hd : Vals dvs ds) (hx : Passes CX X E)
    (hdb : (x == ("__debug__" : Str)) = false := by decide) : PE X (.Call (.Name x p) [] [] pos) (tMake C sp dvs E tNil) := by
  intro pins s σ H Q I h
  refine wpAny_Call_Name_kw (ld_glob I hg hm ?_ hdb)
  exact PySem.W.callWith_K0 I.kIn M.kp (run_make (us := []) M F hr hb hd hx I .nil h)
end

/-! ### keywords -/
/-- the values of the keywords, from the left -/
def PK (X : Cx) (kws : List Keyword) (t : TA) : Prop :=
  ∀ (pos : Pos) (pins : List (Addr × Obj)) (s : Shared) (σ : St) (H : Hp) (Q : List V → Hp → Prop), Inv X pins σ H s → t σ H Q → wpAny (model X.prog X.w) X.A (evalAll ((backToKw pos (keywordEach kws X.env)).map (·.2))) (AP X pins σ Q) X.xe s
section
variable {X : Cx} {CX : CXT} {k : Nat} {f C : Addr} {fd : FuncData} {ps ks : List Str} {sp : Sp} {E : XK} {x m : Str} {p pos apos kpos : Pos} {e o : Expr} {es : List Expr} {kws : List Keyword} {te ta : TE} {t tk : TA} {nm : Option Str}
theorem pk_nil : PK X [] tNil := fun _ _ _ _ H Q I h => wpAny_evalAll_nil ⟨[], H, I, .nil, h⟩
theorem pk_cons (ha : PE X e te) (hr : PK X kws t) : PK X (⟨nm, e, kpos⟩ :: kws) (tCons te t) := by
  intro pos pins s σ H Q I h
  show wpAny _ _ (evalAll ((do let v ← eval e X.env; standAt pos; pure v) :: (backToKw pos (keywordEach kws X.env)).map (·.2))) _ _ s
  refine wpAny_evalAll_cons (wpAny_bind (thn (ha pins s σ H _ I h) fun u s1 ⟨x, H1, I1, r1, q1⟩ => wpAny_bind (wpAny_standAt (wpAny_pure ?_))))
  exact thn (hr pos pins s1 σ H1 _ I1 q1) fun us s2 ⟨xs, H2, I2, r2, q2⟩ => ⟨x :: xs, H2, I2, .cons r1 r2, q2⟩

/-- how a call with keywords binds: g puts the positional values us and the keywords' values ws (names ks) in the parameters' order, defaults among them -/
structure KBinds (K : PySem.W.Frag) (fd : FuncData) (ps ks : List Str) (g : List Value → List Value → List Value) (gV : List V → List V → List V) : Prop where
  to : ∀ (s : Shared) (us ws : List Value), K.In s.heap → (g us ws).length = ps.length → BindsTo s fd ⟨us, ks.zip ws⟩ (ps.zip (g us ws))
  rel : ∀ {vs : List V} {us : List Value} {zs : List V} {ws : List Value}, Vals vs us → Vals zs ws → Vals (gV vs zs) (g us ws)
def tCallK (sp : Sp) (gV : List V → List V → List V) (E : XK) (t tk : TA) : TE := fun σ H Q => t σ H fun vs H1 => tk σ H1 fun zs H2 => sp (gV vs zs) H2 Q E
variable {g : List Value → List Value → List Value} {gV : List V → List V → List V}
theorem run_fnk {pins : List (Addr × Obj)} {σ : St} {H : Hp} {s : Shared} {Q : VK} {us ws : List Value} {vs zs : List V} (F : FnOk X.prog X.w X.K X.mg X.base CX k f fd ps sp) (hr : Room k X.A) (hb : KBinds X.K fd ps ks g gV) (hx : Passes CX X E)
    (I : Inv X pins σ H s) (r : Vals vs us) (rz : Vals zs ws) (h : sp (gV vs zs) H Q E) : wpAny (model X.prog X.w) X.A (call (.ref f) us (ks.zip ws)) (EP X pins σ Q) X.xe s := by
  have r2 := hb.rel r rz
  have hl : (g us ws).length = ps.length := by rw [← r2.length]; exact F.len _ _ _ _ h
  refine wpAny_call (codeAny_mono (F.run X.A X.stack s H ⟨us, ks.zip ws⟩ (g us ws) (gV vs zs) Q E hr I.env0 (hb.to s us ws I.kIn hl) r2 h) fun r s' hq => ?_)
  cases r with
  | error e => exact hx pins σ H s e s' I hq
  | ok fl =>
    cases fl with
    | ret u => exact I.after hq
    | next => exact False.elim hq
    | brk => exact False.elim hq
    | cont => exact False.elim hq
/-- f(e, .., k = v, ..) -/
theorem pe_callK (F : FnOk X.prog X.w X.K X.mg X.base CX k f fd ps sp) (hr : Room k X.A) (hg : Gl X x) (hm : X.mg x = some (.ref f)) (hk : PySem.W.keepIn X.K (.ref f) = true) (hb : KBinds X.K fd ps ks g gV) (hx : Passes CX X E)
    (ha : PA X (e :: es) t) (hkw : PK X kws tk) (hall : (backToKw pos (keywordEach kws X.env)).all (·.1.isSome) = true := by rfl) (hks : (backToKw pos (keywordEach kws X.env)).filterMap (·.1) = ks := by rfl)
    (hdb : (x == ("__debug__" : Str)) = false := by decide) (he : starEach (e :: es) X.env = (false, eval e X.env) :: starEach es X.env := by rfl)
    (hpl : ((backTo pos (starEach (e :: es) X.env)).any (·.1) || (backToKw pos (keywordEach kws X.env)).any (·.1.isNone)) = false := by rfl) :
    PE X (.Call (.Name x p) (e :: es) kws pos) (tCallK sp gV E t tk) := by
  intro pins s σ H Q I h
  refine wpAny_Call_Name_kw (ld_glob I hg hm ?_ hdb)
  refine PySem.W.callWith_KW (h₀ := X.base) I.ok.mod.kin hk hall (thn (ha pos pins s σ H _ I h) fun us s1 ⟨vs, H1, I1, r, q⟩ => ?_) hpl he
  refine thn (hkw pos pins s1 σ H1 _ I1 q) fun ws s2 ⟨zs, H2, I2, rz, q2⟩ => ⟨I2.kIn, ?_⟩
  rw [hks]
  exact run_fnk F hr hb hx I2 r rz q2
end

/-! ### a def's body keeps its promise -/
/-- names: the parameters first -/
structure FnScope (N P : List Str) (sc : Scope) : Prop where
  kind : sc.kind = .function
  co : sc.isCoroutine = false
  gen : sc.isGenerator = false
  nd : N.Nodup
  pre : N.take P.length = P
  par : ∀ x ∈ P, sc.names.lookup x = some .local ∨ sc.names.lookup x = some .cell
  nofree : ∀ y ∈ sc.names, y.2 ≠ .free

theorem bindL_out {kindOf : Str → Option NameKind} {x : Str} : ∀ {binds : List (Str × Value)} {m : Str → Option Value}, (∀ v, (x, v) ∉ binds) → bindL kindOf binds m x = m x
  | [], _, _ => rfl
  | (n, v) :: r, m, h => by
    unfold bindL
    rw [bindL_out fun w hw => h w (List.mem_cons_of_mem _ hw)]
    split
    · have : x ≠ n := by rintro rfl; exact h v List.mem_cons_self
      simp [this]
    · rfl
theorem bindC_out {kindOf : Str → Option NameKind} {x : Str} : ∀ {binds : List (Str × Value)} {m : Str → Option Value}, (∀ v, (x, v) ∉ binds) → bindC kindOf binds m x = m x
  | [], _, _ => rfl
  | (n, v) :: r, m, h => by
    unfold bindC
    rw [bindC_out fun w hw => h w (List.mem_cons_of_mem _ hw)]
    split
    · rfl
    · have : x ≠ n := by rintro rfl; exact h v List.mem_cons_self
      simp [this]
theorem bindL_get {kindOf : Str → Option NameKind} {x : Str} {v : Value} : ∀ {P : List Str} {vs : List Value} {i : Nat} {m : Str → Option Value}, P.Nodup → P[i]? = some x → vs[i]? = some v → kindOf x = some .local →
    bindL kindOf (P.zip vs) m x = some v
  | [], _, _, _, _, h, _, _ => by simp at h
  | _ :: _, [], _, _, _, _, h, _ => by simp at h
  | p :: P, w :: vs, 0, m, nd, h1, h2, hk => by
    simp at h1 h2; subst h1; subst h2
    show bindL kindOf ((p, w) :: P.zip vs) m p = _
    unfold bindL
    rw [bindL_out fun v hv => (List.nodup_cons.mp nd).1 (List.of_mem_zip hv).1, if_pos hk]
    simp
  | p :: P, w :: vs, i + 1, m, nd, h1, h2, hk => by
    show bindL kindOf ((p, w) :: P.zip vs) m x = _
    unfold bindL
    exact bindL_get (i := i) (List.nodup_cons.mp nd).2 (by simpa using h1) (by simpa using h2) hk
theorem bindC_get {kindOf : Str → Option NameKind} {x : Str} {v : Value} : ∀ {P : List Str} {vs : List Value} {i : Nat} {m : Str → Option Value}, P.Nodup → P[i]? = some x → vs[i]? = some v → kindOf x ≠ some .local →
    bindC kindOf (P.zip vs) m x = some v
  | [], _, _, _, _, h, _, _ => by simp at h
  | _ :: _, [], _, _, _, _, h, _ => by simp at h
  | p :: P, w :: vs, 0, m, nd, h1, h2, hk => by
    simp at h1 h2; subst h1; subst h2
    show bindC kindOf ((p, w) :: P.zip vs) m p = _
    unfold bindC
    rw [bindC_out fun v hv => (List.nodup_cons.mp nd).1 (List.of_mem_zip hv).1, if_neg hk]
    simp
  | p :: P, w :: vs, i + 1, m, nd, h1, h2, hk => by
    show bindC kindOf ((p, w) :: P.zip vs) m x = _
    unfold bindC
    exact bindC_get (i := i) (List.nodup_cons.mp nd).2 (by simpa using h1) (by simpa using h2) hk

/-- the names' values at the entry -/
def start (N : List Str) (vs : List V) : St := vs.map some ++ List.replicate (N.length - vs.length) none

/-- the context of a def's body, at its entry; an exception leaves the frame, then lies as CX says -/
def cxOf (CX : CXT) (P : Program) (w : World) (K : PySem.W.Frag) (mg : Str → Option Value) (base : Heap) (N : List Str) (qual : Str) (scope : Scope) (f : Addr) (cd : Value) (A : Around) (outer : List Env) (s : Shared) (H : Hp) (E : XK) : Cx where
  prog := P
  w := w
  K := K
  mg := mg
  base := base
  A := A.deeper (envOfC qual scope s.heap.objs.size f cd)
  N := N
  s₀ := s
  H₀ := H
  env := envOfC qual scope s.heap.objs.size f cd
  outer := outer
  stack := envOfC qual scope s.heap.objs.size f cd :: outer
  ex := []
  calm := true
  fn := fun _ => true
  pn := []
  xe := fun e s' => wpAny (model P w) (A.deeper (envOfC qual scope s.heap.objs.size f cd)) (leaving (envOfC qual scope s.heap.objs.size f cd) e) (fun _ s'' => CX outer H s E e s'') (fun e' s'' => CX outer H s E e' s'') s'

theorem cell_has {sc : Scope} {n : Nat} {x : Str} (h : sc.names.lookup x = some .cell) : ∃ c, (cellsFrom n sc.names []).lookup x = some c := by
  have q := PySem.W.cellsFrom_some sc.names n [] (.inl h)
  exact Option.isSome_iff_exists.mp q

theorem inv_start {CX : CXT} {P : Program} {w : World} {K : PySem.W.Frag} {mg : Str → Option Value} {base : Heap} {N ps : List Str} {qual : Str} {scope : Scope} {f : Addr} {cd : Value} {A : Around} {outer : List Env} {s s1 : Shared} {H : Hp} {E : XK} {us : List Value} {vs : List V}
    (S : FnScope N ps scope) (hd : A.handled = none) (e0 : Env0 P w K mg base A outer s H) (hl : vs.length = ps.length) (r : Vals vs us)
    (x : InCallC s s.heap.objs.size (bindL (envOfC qual scope s.heap.objs.size f cd).kindOf (ps.zip us) fun _ => none) (cellsFrom (s.heap.objs.size + 1) scope.names []) (bindC (envOfC qual scope s.heap.objs.size f cd).kindOf (ps.zip us) fun _ => none) s1) :
    Inv (cxOf CX P w K mg base N qual scope f cd A outer s H E) [] (start N vs) H s1 := by
  have hpl : ps.length ≤ N.length := by have := congrArg List.length S.pre; rw [List.length_take] at this; omega
  obtain ⟨h1, tk, rfl, hk⟩ := x.done
  have noA : ∀ b : Addr, b ∉ (cxOf CX P w K mg base N qual scope f cd A outer s H E).ex := fun b z => absurd (show b ∈ ([] : List Addr) from z) (by simp)
  refine ⟨⟨e0.mod, S.kind, rfl, rfl, Nat.le_refl _, fun y z c h1 h2 => ?_, fun y hy => ?_, fun y c _ h => ?_, fun _ => hd, Around.frames_deeper e0.frames, .inr ⟨rfl, rfl⟩, fun b z => absurd z (noA b), e0.bs, e0.bsz, fun b _ _ => noA b, fun b z => absurd z (noA b), e0.funs, e0.frf⟩,
    rfl, e0.bare, Un.kept hk, ⟨_, x.toInCall.ns, fun i y v h1 h2 h3 => ?_⟩, fun y c h => ⟨_, x.cell y c h⟩, e0.hok.fresh (Nat.le_refl _), fun y c h => ?_, fun p hp => absurd (show p ∈ ([] : List (Addr × Obj)) from hp) (by simp), e0.hok.kept hk, ?_⟩
  · exact name_of_addr x.apart (PySem.mem_of_lookup h1) (PySem.mem_of_lookup h2)
  · have hy : scope.names.lookup y = some .cell ∨ scope.names.lookup y = some .free := hy
    rcases hy with hy | hy
    · exact cell_has hy
    · exact absurd rfl (S.nofree _ (PySem.mem_of_lookup hy))
  · exact Nat.le_of_lt (x.above y c (PySem.mem_of_lookup h))
  · have hi : i < vs.length := by
      unfold start at h2
      by_cases hi : i < vs.length
      · exact hi
      · rw [List.getElem?_append_right (by simpa using hi)] at h2
        rw [List.getElem?_replicate] at h2
        split at h2 <;> cases h2
    have ha : vs[i]? = some v := by
      unfold start at h2
      rw [List.getElem?_append_left (by simpa using hi), List.getElem?_map] at h2
      cases e : vs[i]? with
      | none => rw [e] at h2; cases h2
      | some a => rw [e] at h2; cases h2; rfl
    obtain ⟨u, hu, rv⟩ := r.get ha
    have hp : ps[i]? = some y := by
      rw [← S.pre, List.getElem?_take_of_lt (by omega)]; exact h1
    have ndP : ps.Nodup := by rw [← S.pre]; exact S.nd.sublist (List.take_sublist _ _)
    refine ⟨u, rv, ?_⟩
    rcases S.par y (List.mem_of_getElem? hp) with k | k
    · exact .inl ⟨k, bindL_get ndP hp hu k⟩
    · obtain ⟨c, e⟩ := cell_has (n := s.heap.objs.size + 1) k
      refine .inr ⟨.inl k, c, e, ?_⟩
      have q := x.cell y c e
      rw [bindC_get ndP hp hu (by show scope.names.lookup y ≠ _; rw [k]; decide)] at q
      exact q
  · exact e0.hok.fresh (Nat.le_of_lt (x.above y c (PySem.mem_of_lookup h)))
  · unfold start
    show _ = N.length
    rw [List.length_append, List.length_map, List.length_replicate]
    omega

/-- THE RULE: a def (or a method) of the text, by its body. The body's reading t is chosen for each entry; it is run at the parameters' values -/
theorem fn_of {CX : CXT} {P : Program} {w : World} {K : PySem.W.Frag} {mg : Str → Option Value} {base : Heap} {k : Nat} {f : Addr} {name qual : Str} {params : Arguments} {body : List Stmt} {scope : Scope} {dV kV doc pm cdv ct oc : Value} {an od : Option Addr}
    {osl : Array (Option Value)} {N ps : List Str} {sp : Sp} (lk : K.lookup f = some ⟨oc, od, .func (PySem.W.fnOf name qual params body scope dV kV doc pm an cdv ct), osl⟩) (hcd : PySem.W.codeIn K cdv qual = true) (S : FnScope N ps scope)
    (len : ∀ vs H Q E, sp vs H Q E → vs.length = ps.length)
    (hbody : ∀ (A : Around) (outer : List Env) (s : Shared) (H : Hp) (vs : List V) (Q : VK) (E : XK), Room k (A.deeper (envOfC qual scope s.heap.objs.size f cdv)) → sp vs H Q E →
      ∃ t, PSs (cxOf CX P w K mg base N qual scope f cdv A outer s H E) body t ∧ t { nx := fun _ H' => Q .non H', rt := Q } (start N vs) H) :
    FnOk P w K mg base CX (k + 1) f (PySem.W.fnOf name qual params body scope dV kV doc pm an cdv ct) ps sp := by
  refine ⟨len, fun A outer s H args us vs Q E hr e0 hb r hsp => ?_⟩
  have hl := len _ _ _ _ hsp
  have KX : K.In s.heap := e0.mod.kin.keeps fun b o e => (e0.bs b o e).1
  have lim : s.heap.NoLimit := e0.mod.nolimit.keeps fun b o e => (e0.bs b o e).1
  have hkind : ∀ y ∈ ps.zip us, scope.names.lookup y.1 = some .local ∨ (scope.names.lookup y.1 = some .cell ∧ ((cellsFrom (s.heap.objs.size + 1) scope.names []).lookup y.1).isSome = true) := fun ⟨n, v⟩ hy => by
    rcases S.par n (List.of_mem_zip hy).1 with q | q
    · exact .inl q
    · exact .inr ⟨q, PySem.W.cellsFrom_some _ _ _ (.inl q)⟩
  refine codeAny_call_function hr.depth (KX _ _ lk) rfl S.co S.gen rfl (PySem.W.codeRec_of KX hcd) (hb _ _ _ _ ?_)
  refine wpAny_newFunctionEnv_cells S.kind hkind fun env he s1 x => ?_
  subst he
  refine ⟨lim.keeps x.toInCall.keep, codeAny_func ?_⟩
  obtain ⟨t, ht, hq⟩ := hbody A outer s H vs Q E (hr.deeper _) hsp
  have I : Inv (cxOf CX P w K mg base N qual scope f cdv A outer s H E) [] (start N vs) H s1 := inv_start S hr.hd e0 hl r x
  refine wpAny_mono (ht [] s1 (start N vs) H _ I hq) (fun fl s' hs => ?_) fun e s' hs => hs
  have fin : ∀ {σ' : St} {H' : Hp} {v : V} {u : Value}, Inv (cxOf CX P w K mg base N qual scope f cdv A outer s H E) [] σ' H' s' → RelV v u → Q v H' → CE outer P w H s Q u s' :=
    fun {σ' H' v u} J rv q => ⟨v, H', J.os, J.bare, J.base, J.hok, rv, q⟩
  cases fl with
  | ret u =>
    obtain ⟨v, σ', H', J, rv, q⟩ := hs
    exact fin J rv q
  | next =>
    obtain ⟨σ', H', J, q⟩ := hs
    exact fin (v := V.non) (u := Value.none) J rfl q
  | brk =>
    obtain ⟨_, _, _, q⟩ := hs
    exact False.elim q
  | cont =>
    obtain ⟨_, _, _, q⟩ := hs
    exact False.elim q
end L2

namespace L2
open PySem PySem.Spec PyProof.Rows
section
variable {X : Cx} {x : Str} {p pos : Pos} {e : Expr} {es : List Expr} {t : TA} {id T : String} {r : List V → Hp → VK → Prop}

def tCB (r : List V → Hp → VK → Prop) (t : TA) : TE := fun σ H Q => t σ H fun vs H1 => r vs H1 Q
/-- f(e, ..), f a built-in function -/
theorem pe_callB (hc : CallR X (.builtin id) r) (hg : Gl X x) (hm : X.mg x = none) (hv : bootBuiltins x = some (.builtin id)) (ha : PA X (e :: es) t) (hn : x ≠ "__name__" := by decide) (hdb : (x == ("__debug__" : Str)) = false := by decide)
    (he : starEach (e :: es) X.env = (false, eval e X.env) :: starEach es X.env := by rfl) (hpl : (backTo pos (starEach es X.env)).any (·.1) = false := by rfl) : PE X (.Call (.Name x p) (e :: es) [] pos) (tCB r t) := by
  intro pins s σ H Q I h
  refine wpAny_Call_Name_kw (ld_blt I hg hm hv ?_ hn hdb)
  exact PyProof.Rows.callWith_builtin1 (thn (ha pos pins s σ H _ I h) fun us s1 ⟨vs, H1, I1, r1, q1⟩ => hc pins s1 σ H1 vs us Q I1 r1 q1) he hpl
/-- T(e, ..), T a built-in type -/
theorem pe_callTy (hc : CallR X (.type T) r) (hg : Gl X x) (hm : X.mg x = none) (hv : bootBuiltins x = some (.type T)) (ha : PA X (e :: es) t) (hn : x ≠ "__name__" := by decide) (hdb : (x == ("__debug__" : Str)) = false := by decide)
    (he : starEach (e :: es) X.env = (false, eval e X.env) :: starEach es X.env := by rfl) (hpl : (backTo pos (starEach es X.env)).any (·.1) = false := by rfl) : PE X (.Call (.Name x p) (e :: es) [] pos) (tCB r t) := by
  intro pins s σ H Q I h
  refine wpAny_Call_Name_kw (ld_blt I hg hm hv ?_ hn hdb)
  exact PyProof.Rows.callWith_type1 (thn (ha pos pins s σ H _ I h) fun us s1 ⟨vs, H1, I1, r1, q1⟩ => hc pins s1 σ H1 vs us Q I1 r1 q1) he hpl
/-- T() -/
theorem pe_callTy0 (hc : CallR X (.type T) r) (hg : Gl X x) (hm : X.mg x = none) (hv : bootBuiltins x = some (.type T)) (hn : x ≠ "__name__" := by decide) (hdb : (x == ("__debug__" : Str)) = false := by decide) :
    PE X (.Call (.Name x p) [] [] pos) (tCB r tNil) := by
  intro pins s σ H Q I h
  refine wpAny_Call_Name_kw (ld_blt I hg hm hv ?_ hn hdb)
  exact PyProof.Rows.callWith_type0 (hc pins s σ H [] [] Q I .nil h)
end
end L2

namespace HT
open PySem PyProof.Rows

/-- t < u of tuples of ints -/
def lexLt : List Int → List Int → Bool
  | [], [] => false
  | [], _ :: _ => true
  | _ :: _, [] => false
  | x :: xs, y :: ys => if x = y then lexLt xs ys else decide (x < y)
theorem lexLt_cons (x y : Int) (xs ys : List Int) : lexLt (x :: xs) (y :: ys) = if x = y then lexLt xs ys else decide (x < y) := rfl
theorem lexLt_nil_nil : lexLt [] [] = false := rfl
theorem lexLt_nil_cons (y : Int) (ys : List Int) : lexLt [] (y :: ys) = true := rfl
theorem lexLt_cons_nil (x : Int) (xs : List Int) : lexLt (x :: xs) [] = false := rfl

theorem eqAt_int (A : Around) (s : Shared) (a : Int) (t : Tok) (c : Int) (u : Tok) : ∃ e, SeqAt.EqAt A s (.int a t) (.int c u) e ∧ (e = true ↔ a = c) :=
  ⟨(a == c), SeqAt.EqAt.int_int a t c u, by simp⟩
theorem rcLt_int (A : Around) (s : Shared) (a : Int) (t : Tok) (c : Int) (u : Tok) (prog : Program) (w : World) (E : Value → Shared → Prop) (Q : Value → Shared → Prop) (h : Q (.bool (decide (a < c))) s) :
    wpAny (model prog w) A (richCompare .Lt (.int a t) (.int c u)) Q E s :=
  (PyProof.Rows.lt_int h : wpAny (model prog w) A (compareOp .Lt (.int a t) (.int c u)) Q E s)

section
open PySem.SeqAt
open PySem.AutoSeq1 (wpAny_loadPart')
open PySem.MeetsSeq PySem.MeetsSeq2 PySem.MeetsSeq3

theorem tuple_lt_ints (l b : Addr) (items items2 : Array Value) (n n2 : Nat) (dd dd2 : Option Addr) (sl sl2 : Array (Option Value)) (ns ms : List Int) (hi : IntsAre items.toList ns) (hj : IntsAre items2.toList ms) :
    Meets (Builtin.«tuple.__lt__» ⟨[.ref l, .ref b], []⟩)
      (fun _ R s => s.heap.get? l = some { cls := .type "tuple", dict := dd, data := .seq items n, slots := sl } ∧ s.heap.get? b = some { cls := .type "tuple", dict := dd2, data := .seq items2 n2, slots := sl2 } ∧
        R (.ok (.ret (.bool (lexLt ns ms)))) s) :=
  .of_wp fun prog w A R s h => by
    obtain ⟨hp, g, d, tk, os⟩ := s; obtain ⟨hl, hb, h⟩ := h
    have f2 := AutoSeq1.sub_tuple_tuple
    have z1 : items.size = ns.length := by rw [← hi.length]; simp
    have z2 : items2.size = ms.length := by rw [← hj.length]; simp
    wp_walk using wpAny_loadPart' hl, wpAny_loadPart' hb, wpAny_forIn_list _ (fun rest b s' => b.1 = none ∧ s' = ⟨hp, g, d, tk, os⟩ ∧ ∃ (vs ws : List Value) (ns' ms' : List Int), rest = vs.zip ws ∧
      IntsAre vs ns' ∧ IntsAre ws ms' ∧ ns'.length + items2.size = ms'.length + items.size ∧ R (.ok (.ret (.bool (lexLt ns' ms')))) ⟨hp, g, d, tk, os⟩) _
    case turn =>
      rintro ⟨y, x⟩ rest b s' ⟨hb', rfl, vs, ws, ns', ms', hz, hvi, hwi, hlen, hR⟩
      cases hvi with
      | nil => rw [List.zip_nil_left] at hz; cases hz
      | cons a t hvi' =>
        cases hwi with
        | nil => rw [List.zip_nil_right] at hz; cases hz
        | cons c u hwi' =>
          rw [List.zip_cons_cons] at hz
          injection hz with hyx hrest
          injection hyx with hy hx
          subst hy hx
          rw [lexLt_cons] at hR
          simp only [List.length_cons] at hlen
          obtain ⟨e, he, hiff⟩ := eqAt_int A.in1 ⟨hp, g, d, tk, os⟩ a t c u
          refine wpAny_bind (he prog w _ _ ?_)
          cases e with
          | true =>
            rw [if_pos (hiff.mp rfl)] at hR
            wp_walk
            exact ⟨rfl, rfl, _, _, _, _, hrest, hvi', hwi', by omega, hR⟩
          | false =>
            rw [if_neg (fun q => absurd (hiff.mpr q) Bool.false_ne_true)] at hR
            have hri := rcLt_int A.in1 ⟨hp, g, d, tk, os⟩ a t c u prog w
            wp_walk using hri
            exact ⟨_, rfl, by simpa using hR⟩
    case fin =>
      rintro ⟨b1, b2⟩ s' ⟨hb', rfl, vs, ws, ns', ms', hz, hvi, hwi, hlen, hR⟩
      simp only at hb'
      subst hb'
      have hv : lexLt ns' ms' = decide (items.size < items2.size) := by
        cases hvi with
        | nil =>
          cases hwi with
          | nil =>
            simp only [List.length_nil] at hlen
            rw [lexLt_nil_nil]
            exact (decide_eq_false (by omega)).symm
          | cons c u hw =>
            simp only [List.length_nil, List.length_cons] at hlen
            rw [lexLt_nil_cons]
            exact (decide_eq_true (by omega)).symm
        | cons a t hv =>
          cases hwi with
          | nil =>
            simp only [List.length_nil, List.length_cons] at hlen
            rw [lexLt_cons_nil]
            exact (decide_eq_false (by omega)).symm
          | cons c u hw =>
            rw [List.zip_cons_cons] at hz
            cases hz
      rw [hv] at hR
      wp_walk
      exact ⟨_, rfl, by simpa [Builtin.Tuple.tupleCompareSizes] using hR⟩
    case h =>
      exact ⟨rfl, rfl, items.toList, items2.toList, ns, ms, rfl, hi, hj, by omega, h⟩
end

section
variable {prog : Program} {w : World} {A : Around} {E : Value → Shared → Prop} {s : Shared}

theorem lt_tupInts {l b : Addr} {items items2 : Array Value} {ns ms : List Int} {Q : Value → Shared → Prop} (hl : IsTup s.heap l items) (hb : IsTup s.heap b items2) (hi : IntsAre items.toList ns) (hj : IntsAre items2.toList ms)
    (hu : A.units < cLine) (h : Q (.bool (lexLt ns ms)) s) : wpAny (model prog w) A (compareOp .Lt (.ref l) (.ref b)) Q E s := by
  obtain ⟨⟨cls, dd, data, sl⟩, ho, hc, n, hd⟩ := id hl
  obtain ⟨⟨cls2, dd2, data2, sl2⟩, ho2, hc2, n2, hd2⟩ := id hb
  simp only at hc hd hc2 hd2
  subst hc hd hc2 hd2
  exact richCompare_meets_room (op := .Lt) ⟨_, ho, rfl⟩ ⟨_, ho2, rfl⟩ PySem.F.slot_tuple_lt PySem.F.entry_tuple_lt (PySem.F.args_tuple_lt_2 _ _) (tuple_lt_ints l b items items2 n n2 dd dd2 sl sl2 ns ms hi hj)
    ⟨ho, ho2, show Value.bool (lexLt ns ms) ≠ Value.notImplemented ∧ Q (.bool (lexLt ns ms)) s from ⟨(fun x => nomatch x), h⟩⟩ hu

/-- t + u, t not empty -/
theorem cat_tup {t b : Addr} {vs ws : List Value} {Q : Value → Shared → Prop} (ht : IsTup s.heap t vs.toArray) (hb : IsTup s.heap b ws.toArray) (hv : vs ≠ [])
    (h1 : ws = [] → Q (.ref t) s) (h2 : ws ≠ [] → Q (.ref s.heap.objs.size) { s with heap := s.heap.push { cls := .type "tuple", data := .seq (vs ++ ws).toArray } })
    (hsz : vs.length + ws.length ≤ sizeLine) : wpAny (model prog w) A (binaryOp .Add (.ref t) (.ref b)) Q E s := by
  obtain ⟨⟨cls, dd, data, sl⟩, ho, hc, n, hd⟩ := id ht
  obtain ⟨⟨cls2, dd2, data2, sl2⟩, ho2, hc2, n2, hd2⟩ := id hb
  simp only at hc hd hc2 hd2
  subst hc hd hc2 hd2
  have e : vs.toArray ++ ws.toArray = (vs ++ ws).toArray := by simp
  by_cases hw : ws = []
  · exact concat_meets ⟨_, ho, rfl⟩ ⟨_, ho2, rfl⟩ noFill_tuple_add seq_tuple_add PySem.F.slot_tuple_add PySem.F.entry_tuple_add (PySem.F.args_tuple_add_2 _ _)
      (tuple_addW1 t b vs.toArray ws.toArray n n2 dd dd2 sl sl2 (by simpa using hv) (by simp [hw])) ⟨ho, ho2, h1 hw⟩
  · refine concat_meets ⟨_, ho, rfl⟩ ⟨_, ho2, rfl⟩ noFill_tuple_add seq_tuple_add PySem.F.slot_tuple_add PySem.F.entry_tuple_add (PySem.F.args_tuple_add_2 _ _)
      (tuple_addW2 t b vs.toArray ws.toArray n n2 dd dd2 sl sl2 (by simpa using hv) (by simpa using hw) (by rw [List.size_toArray, List.size_toArray]; exact hsz)) ⟨ho, ho2, ?_⟩
    rw [e]
    exact h2 hw

/-! ### t[a:b], not the whole -/
/-- a slice's bound as a place among n (d where it is left out) -/
def sIx (n d : Nat) : Option Int → Nat
  | none => d
  | some v => if v < 0 then (v + (n : Int)).toNat else min v.toNat n
theorem sIx_none (n d : Nat) : sIx n d none = d := rfl
theorem sIx_nat (n d k : Nat) : sIx n d (some (k : Int)) = min k n := by
  show (if (k : Int) < 0 then ((k : Int) + (n : Int)).toNat else min (k : Int).toNat n) = min k n
  rw [if_neg (by omega), Int.toNat_natCast]
theorem sIx_le (n d : Nat) (hd : d ≤ n) (o : Option Int) : sIx n d o ≤ n := by
  cases o with
  | none => exact hd
  | some v =>
    show (if v < 0 then (v + (n : Int)).toNat else min v.toNat n) ≤ n
    by_cases hv : v < 0
    · rw [if_pos hv]; omega
    · rw [if_neg hv]; exact Nat.min_le_right _ _
theorem clip_eq (v : Int) (n d : Nat) : (if v < 0 then max (v + (n : Int)) 0 else min v (n : Int)) = ((sIx n d (some v) : Nat) : Int) := by
  show (if v < 0 then max (v + (n : Int)) 0 else min v (n : Int)) = (((if v < 0 then (v + (n : Int)).toNat else min v.toNat n) : Nat) : Int)
  by_cases hv : v < 0
  · simp only [if_pos hv]; omega
  · simp only [if_neg hv]; omega
theorem adjust_gen (lo hi : Option Int) (n : Nat) : Builtin.Slice.sliceAdjust lo hi 1 (n : Int) = (((sIx n 0 lo : Nat) : Int), ((sIx n n hi : Nat) : Int)) := by
  have h1 : ¬ ((1 : Int) < 0) := by omega
  unfold Builtin.Slice.sliceAdjust
  simp only [h1, if_false]
  refine Prod.ext ?_ ?_
  · cases lo with
    | none => rfl
    | some v => exact clip_eq v n 0
  · cases hi with
    | none => rfl
    | some v => exact clip_eq v n n
theorem places_gen (i j : Nat) : Builtin.Slice.slicePlaces (i : Int) (j : Int) 1 = j - i := by
  unfold Builtin.Slice.slicePlaces
  have h1 : (1 : Int) > 0 := by omega
  simp only [h1, if_true, Int.ediv_one]
  split <;> omega
theorem slicePart_ {v : Value} {o : Option Int} {Q : Option Int → Shared → Prop} (p : IsPart v o) (h : Q o s) : wpAny (model prog w) A (Builtin.Slice.slicePartIndex v) Q E s := by
  cases p with
  | none => exact slicePart_none h
  | int i t => exact slicePart_int h
theorem sliceApplied_gen {sl : Addr} {vl vu : Value} {lo hi : Option Int} {n : Nat} {Q : Int × Int × Nat → Shared → Prop} (hs : s.heap.IsSliceOf sl vl vu .none) (pl : IsPart vl lo) (pu : IsPart vu hi)
    (h : Q (((sIx n 0 lo : Nat) : Int), 1, sIx n n hi - sIx n 0 lo) s) : wpAny (model prog w) A (Builtin.Slice.sliceApplied (.ref sl) (pure (n : Int))) Q E s := by
  obtain ⟨os, hos, hcs, hds⟩ := id hs
  unfold Builtin.Slice.sliceApplied Builtin.Slice.sliceFields
  refine wpAny_bind (wpAny_bind (wpAny_field hos hds (x := vl) rfl (wpAny_bind (wpAny_field hos hds (x := vu) rfl (wpAny_bind (wpAny_field hos hds (x := .none) rfl (wpAny_pure ?_)))))))
  refine wpAny_bind (slicePart_none ?_)
  show wpAny _ _ (if ((1 : Int) == 0) = true then _ else _) _ _ s
  rw [if_neg (by decide)]
  refine wpAny_bind (slicePart_ pl (wpAny_bind (slicePart_ pu (wpAny_bind (wpAny_pure ?_)))))
  show wpAny _ _ (match Builtin.Slice.sliceAdjust lo hi 1 (n : Int) with | (lo, hi) => pure (lo, (1 : Int), Builtin.Slice.slicePlaces lo hi 1)) _ _ s
  rw [adjust_gen lo hi n]
  show wpAny _ _ (pure (((sIx n 0 lo : Nat) : Int), (1 : Int), Builtin.Slice.slicePlaces ((sIx n 0 lo : Nat) : Int) ((sIx n n hi : Nat) : Int) 1)) _ _ s
  rw [places_gen]
  exact wpAny_pure h
theorem pick_gen (xs : Array Value) (i k : Nat) : ((List.range k).filterMap fun (m : Nat) => xs[((i : Int) + (m : Int) * 1).toNat]?).toArray = ((xs.toList.drop i).take k).toArray := by
  have e : (fun (m : Nat) => xs[((i : Int) + (m : Int) * 1).toNat]?) = fun m => xs[i + m]? := by
    funext m
    have : ((i : Int) + (m : Int) * 1).toNat = i + m := by omega
    rw [this]
  rw [e]
  have := pick_run xs i k
  rw [List.filterMap_map] at this
  have e2 : ((fun x => xs[x]?) ∘ fun x => i + x) = fun m => xs[i + m]? := rfl
  rw [e2] at this
  rw [this]

theorem getItem_tuple_cut {t sl : Addr} {items : Array Value} {vl vu : Value} {lo hi : Option Int} {Q : Value → Shared → Prop} (ht : IsTup s.heap t items) (hs : s.heap.IsSliceOf sl vl vu .none) (pl : IsPart vl lo) (pu : IsPart vu hi)
    (hw : ¬ (sIx items.size 0 lo = 0 ∧ sIx items.size items.size hi = items.size))
    (h : Q (.ref s.heap.objs.size) { s with heap := s.heap.push { cls := .type "tuple", data := .seq ((items.toList.drop (sIx items.size 0 lo)).take (sIx items.size items.size hi - sIx items.size 0 lo)).toArray } })
    (hsz : items.size ≤ sizeLine) : wpAny (model prog w) A (getItem (.ref t) (.ref sl)) Q E s := by
  have htake : sizeOk (.seq ((items.toList.drop (sIx items.size 0 lo)).take (sIx items.size items.size hi - sIx items.size 0 lo)).toArray) := by
    show ((items.toList.drop (sIx items.size 0 lo)).take (sIx items.size items.size hi - sIx items.size 0 lo)).toArray.size ≤ sizeLine
    rw [List.size_toArray, List.length_take, List.length_drop, Array.length_toList]
    omega
  have hj : sIx items.size items.size hi ≤ items.size := sIx_le _ _ (Nat.le_refl _) hi
  obtain ⟨os, hos, hcs, hds⟩ := id hs
  have hTs : s.TypeIs (.ref sl) "slice" := ⟨os, hos, hcs⟩
  unfold getItem
  try with_reducible refine wpAny_holding ?_
  first | refine wpAny_bind (wpAny_pure ?_) | skip
  refine wpAny_bind (wpAny_sequenceKey ht.typeIs (by decide) ?_)
  refine wpAny_bind (wpAny_callSpecial?_slot (name := Str.ofString "__getitem__") ht.typeIs PyProof.Rows.slot_tuple_getitem
    (wpAny_call_entry PyProof.Rows.slot_tuple_getitem ht.typeIs entry_tuple_getitem ?_ (args_tuple_getitem _ _)))
  show wpAny _ _ (Builtin.Tuple.tupleItemsOf (.ref t) >>= _) _ _ s
  refine wpAny_bind (tupleItemsOf_ ht ?_)
  refine wpAny_bind (wpAny_typeOf hTs ?_)
  rw [if_pos (by decide)]
  refine wpAny_bind (sliceApplied_gen hs pl pu ?_)
  have hno : ¬ ((((sIx items.size 0 lo : Nat) : Int) == 0 && (1 : Int) == 1 && (sIx items.size items.size hi - sIx items.size 0 lo) == items.size) = true) := by
    intro q
    rw [Bool.and_eq_true, Bool.and_eq_true] at q
    have q1 : ((sIx items.size 0 lo : Nat) : Int) = 0 := eq_of_beq q.1.1
    have q2 : sIx items.size items.size hi - sIx items.size 0 lo = items.size := eq_of_beq q.2
    exact hw ⟨by omega, by omega⟩
  show wpAny _ _ (if (((sIx items.size 0 lo : Nat) : Int) == 0 && (1 : Int) == 1 && (sIx items.size items.size hi - sIx items.size 0 lo) == items.size) = true then _ else _) _ _ s
  rw [if_neg hno, pick_gen]
  first
    | exact wpAny_bind (m := Builtin.Tuple.tupleExact _) (wpAny_newObj_type (wpAny_pure ⟨_, rfl, wpAny_pure h⟩) htake)
    | exact wpAny_bind (m := Builtin.Tuple.tupleExact _) (wpAny_newObj_type (wpAny_bind (wpAny_pure (wpAny_pure ⟨_, rfl, wpAny_pure h⟩))) htake)
    | exact wpAny_bind (wpAny_bind (m := Builtin.Tuple.tupleExact _) (wpAny_newObj_type (wpAny_pure (wpAny_pure ⟨_, rfl, wpAny_pure h⟩)) htake))
    | exact wpAny_bind (wpAny_bind (m := Builtin.Tuple.tupleExact _) (wpAny_newObj_type (wpAny_pure ⟨_, rfl, wpAny_pure h⟩) htake))
end
end HT

namespace L2
open PySem PySem.Spec PyProof.Rows

/-! ### the parts of a slice -/
abbrev TO := St → Hp → (Option Int → Hp → Prop) → Prop
/-- a slice's part (left out, or an int) -/
def PO (X : Cx) (e : Option Expr) (t : TO) : Prop :=
  ∀ (pins : List (Addr × Obj)) (s : Shared) (σ : St) (H : Hp) (Q : Option Int → Hp → Prop), Inv X pins σ H s → t σ H Q →
    wpAny (model X.prog X.w) X.A (evalPart e X.env) (fun u s' => ∃ o H', Inv X pins σ H' s' ∧ IsPart u o ∧ Q o H') X.xe s
def tNoPart : TO := fun _ H Q => Q none H
def tPart (t : TE) : TO := fun σ H Q => t σ H fun x H1 => ∃ i, x = .int i ∧ Q (some i) H1

theorem intsAre_of {ns : List Int} : ∀ {us : List Value}, Vals (ns.map V.int) us → IntsAre us ns := by
  induction ns with
  | nil => intro us r; rw [List.map_nil] at r; cases r; exact .nil
  | cons n ns ih =>
    intro us r
    rw [List.map_cons] at r
    cases r with
    | cons r1 r2 =>
      obtain ⟨t, e⟩ := r1
      subst e
      exact .cons n t (ih r2)

section
variable {X : Cx} {e : Expr} {te : TE} {lo hi : Option Expr} {tl th : TO} {pos p2 : Pos}

theorem po_none : PO X none tNoPart := by
  intro pins s σ H Q I h
  rw [evalPart_none]
  exact wpAny_pure ⟨none, H, I, .none, h⟩
theorem po_some (h : PE X e te) : PO X (some e) (tPart te) := by
  intro pins s σ H Q I hw
  rw [evalPart_some]
  refine thn (h pins s σ H _ I hw) fun u s1 ⟨x, H1, I1, r1, q1⟩ => ?_
  obtain ⟨i, rfl, q⟩ := q1
  obtain ⟨t, rfl⟩ := r1
  exact ⟨some i, H1, I1, .int i t, q⟩

/-- what a slice of a value is, by values: the slice object stands at sl -/
def SlR (X : Cx) (r : V → Option Int → Option Int → Hp → VK → Prop) : Prop :=
  ∀ (pins : List (Addr × Obj)) (s : Shared) (σ : St) (H : Hp) (x : V) (v vl vu : Value) (lo hi : Option Int) (sl : Addr) (Q : VK), Inv X pins σ H s → RelV x v → s.heap.IsSliceOf sl vl vu .none → IsPart vl lo → IsPart vu hi → r x lo hi H Q →
    ∃ T id, typeLookup (.type T) "__getitem__" = pure (some (.builtin id)) ∧ s.TypeIs v T ∧ wpAny (model X.prog X.w) X.A (getItem v (.ref sl)) (EP X pins σ Q) X.xe s
theorem SlR.or {r r' : V → Option Int → Option Int → Hp → VK → Prop} (h : SlR X r) (h' : SlR X r') : SlR X (fun x lo hi H Q => r x lo hi H Q ∨ r' x lo hi H Q) := by
  intro pins s σ H x v vl vu lo hi sl Q I rx hs pl pu q
  rcases q with q | q
  · exact h pins s σ H x v vl vu lo hi sl Q I rx hs pl pu q
  · exact h' pins s σ H x v vl vu lo hi sl Q I rx hs pl pu q
def tSl (r : V → Option Int → Option Int → Hp → VK → Prop) (te : TE) (tl th : TO) : TE := fun σ H Q => te σ H fun x H1 => tl σ H1 fun l H2 => th σ H2 fun u H3 => r x l u H3 Q
/-- a[lo:hi], any a -/
theorem pe_slice {r : V → Option Int → Option Int → Hp → VK → Prop} (hr : SlR X r) (he : PE X e te) (hl : PO X lo tl) (hu : PO X hi th) : PE X (.Subscript e (.Slice lo hi none p2) pos) (tSl r te tl th) := by
  intro pins s σ H Q I h
  refine Subscript_ (thn (he pins s σ H _ I h) fun v s1 ⟨x, H1, I1, r1, q1⟩ => ?_)
  refine wpAny_Slice (thn (hl pins s1 σ H1 _ I1 q1) fun vl s2 ⟨l, H2, I2, pl, q2⟩ => thn (hu pins s2 σ H2 _ I2 q2) fun vu s3 ⟨u, H3, I3, pu, q3⟩ => ?_)
  rw [evalPart_none]
  refine wpAny_pure ?_
  have I4 : Inv X pins σ H3 { s3 with heap := s3.heap.push { cls := .type "slice", data := .fields #[vl, vu, .none] } } := I3.kept (t' := s3.toks) fun b ob q => Heap.get?_push_of_some _ q
  obtain ⟨T, id, hT, ht, hg⟩ := hr pins { s3 with heap := s3.heap.push { cls := .type "slice", data := .fields #[vl, vu, .none] } } σ H3 x v vl vu l u s3.heap.objs.size Q I4 r1 (Heap.IsSliceOf.new ..) pl pu q3
  show wpAny (model X.prog X.w) X.A (subscriptTail e (.Slice lo hi none p2) v (.ref s3.heap.objs.size)) (EP X pins σ Q) X.xe { s3 with heap := s3.heap.push { cls := .type "slice", data := .fields #[vl, vu, .none] } }
  exact tail_any (ops := [.ref s3.heap.objs.size, v]) ht hT hg (by with_unfolding_all rfl)

/-- the items of xs[lo:hi] -/
def cutV (xs : List V) (lo hi : Option Int) : List V := (xs.drop (HT.sIx xs.length 0 lo)).take (HT.sIx xs.length xs.length hi - HT.sIx xs.length 0 lo)
theorem cutV_length (xs : List V) (lo hi : Option Int) : (cutV xs lo hi).length ≤ xs.length := by
  unfold cutV
  rw [List.length_take, List.length_drop]
  omega
/-- t[lo:hi], not the whole of it (the whole would be t itself) -/
def rSlT (K : PySem.W.Frag) : V → Option Int → Option Int → Hp → VK → Prop := fun x lo hi H Q => ∃ a xs, x = .ref a ∧ SqT K H a xs ∧
  ¬ (HT.sIx xs.length 0 lo = 0 ∧ HT.sIx xs.length xs.length hi = xs.length) ∧ ∀ p, H p = none → Q (.ref p) (upd H p (.tup (cutV xs lo hi)))
theorem sl_tup : SlR X (rSlT X.K) := by
  intro pins s σ H x v vl vu lo hi sl Q I rx hs pl pu h
  obtain ⟨a, xs, rfl, hx, hw, q⟩ := h
  cases rx
  obtain ⟨its, r, ht, hz⟩ := I.tuple hx
  have hlen : its.toArray.size = xs.length := by rw [List.size_toArray]; exact r.length.symm
  refine ⟨"tuple", _, PyProof.Rows.slot_tuple_getitem.lookup, ht.typeIs, ?_⟩
  refine HT.getItem_tuple_cut ht hs pl pu (by rw [hlen]; exact hw) ?_ (by rw [hlen]; exact hz)
  rw [hlen]
  refine ⟨.ref s.heap.objs.size, _, I.laid (t' := s.toks) (o := .tup (cutV xs lo hi)) (fun b ob q => Heap.get?_push_of_some _ q) (Nat.le_refl _) ?_, rfl, q _ (I.hok.fresh (Nat.le_refl _))⟩
  exact ⟨Nat.le_trans (cutV_length xs lo hi) hz, _, (r.drop (HT.sIx xs.length 0 lo)).take (HT.sIx xs.length xs.length hi - HT.sIx xs.length 0 lo), IsTup.new _ _⟩

/-! ### t < u, t + u -/
def rLtT (K : PySem.W.Frag) : R2 := fun x y H Q => ∃ a b ns ms, x = .ref a ∧ y = .ref b ∧ SqT K H a (ns.map V.int) ∧ SqT K H b (ms.map V.int) ∧ Q (.bl (HT.lexLt ns ms)) H
theorem op_ltT (hu : X.A.units < cLine) : OpR X (compareOp .Lt) (rLtT X.K) := by
  intro pins s σ H x y v u Q I rx ry h
  obtain ⟨a, b, ns, ms, rfl, rfl, ha, hb, q⟩ := h
  cases rx
  cases ry
  obtain ⟨its, r1, p1, _⟩ := I.tuple ha
  obtain ⟨its2, r2, p2, _⟩ := I.tuple hb
  have i1 : IntsAre its.toArray.toList ns := intsAre_of r1
  have i2 : IntsAre its2.toArray.toList ms := intsAre_of r2
  exact HT.lt_tupInts p1 p2 i1 i2 hu ⟨.bl (HT.lexLt ns ms), H, I, rfl, q⟩
/-- t + u, t not empty: u empty gives t itself -/
def rCatT (K : PySem.W.Frag) : R2 := fun x y H Q => ∃ a b xs ys, x = .ref a ∧ y = .ref b ∧ SqT K H a xs ∧ SqT K H b ys ∧ xs ≠ [] ∧ xs.length + ys.length ≤ sizeLine ∧
  (ys = [] → Q (.ref a) H) ∧ (ys ≠ [] → ∀ p, H p = none → Q (.ref p) (upd H p (.tup (xs ++ ys))))
theorem Vals.nil_iff {xs : List V} {us : List Value} (r : Vals xs us) : us = [] ↔ xs = [] := by
  cases r with
  | nil => simp
  | cons _ _ => simp
theorem op_catT : OpR X (binaryOp .Add) (rCatT X.K) := by
  intro pins s σ H x y v u Q I rx ry h
  obtain ⟨a, b, xs, ys, rfl, rfl, ha, hb, hx, hz, q1, q2⟩ := h
  cases rx
  cases ry
  obtain ⟨its, r1, p1, _⟩ := I.tuple ha
  obtain ⟨its2, r2, p2, _⟩ := I.tuple hb
  refine HT.cat_tup p1 p2 (fun z => hx (r1.nil_iff.mp z)) (fun z => ⟨.ref a, H, I, rfl, q1 (r2.nil_iff.mp z)⟩) (fun z => ?_) (by rw [← r1.length, ← r2.length]; exact hz)
  refine ⟨.ref s.heap.objs.size, _, I.laid (t' := s.toks) (o := .tup (xs ++ ys)) (fun b ob q => Heap.get?_push_of_some _ q) (Nat.le_refl _) ?_, rfl, q2 (fun w => z (r2.nil_iff.mpr w)) _ (I.hok.fresh (Nat.le_refl _))⟩
  exact ⟨by rw [List.length_append]; exact hz, _, r1.append r2, IsTup.new _ _⟩
/-- tuple(t) -/
theorem call_tupleT : CallR X (.type "tuple") (fun xs H Q => ∃ a ys, xs = [.ref a] ∧ SqT X.K H a ys ∧ Q (.ref a) H) := by
  intro pins s σ H xs us Q I r h
  obtain ⟨a, ys, rfl, ha, q⟩ := h
  obtain ⟨u, rfl, ru⟩ := vals1 r
  cases ru
  obtain ⟨its, _, p1, _⟩ := I.tuple ha
  exact call_tuple_same (items := its.toArray) p1 ⟨.ref a, H, I, rfl, q⟩
end
end L2

namespace L2
open PySem PySem.Spec PyProof.Rows

/-! ### places -/
/-- the place that an index of any sign means -/
def ixN (n : Nat) (i : Int) : Option Nat := if 0 ≤ i then (if i < n then some i.toNat else none) else if -(n : Int) ≤ i then some (i + n).toNat else none
def atI {α : Type} (xs : List α) (i : Int) : Option α := (ixN xs.length i).bind fun j => xs[j]?
theorem ixN_seq {n : Nat} {i : Int} {j : Nat} (h : ixN n i = some j) : seqIndex? i n = some j ∧ j < n ∧ -(n : Int) ≤ i ∧ i < n := by
  unfold ixN at h
  by_cases h0 : 0 ≤ i
  · rw [if_pos h0] at h
    by_cases h1 : i < n
    · rw [if_pos h1] at h
      have e : i.toNat = j := Option.some.inj h
      exact ⟨by rw [seqIndex_of h0 h1, e], by omega, by omega, h1⟩
    · rw [if_neg h1] at h; cases h
  · rw [if_neg h0] at h
    by_cases h1 : -(n : Int) ≤ i
    · rw [if_pos h1] at h
      have e : (i + n).toNat = j := Option.some.inj h
      exact ⟨by rw [seqIndex_neg (by omega) h1, e], by omega, h1, by omega⟩
    · rw [if_neg h1] at h; cases h
theorem atI_get {α : Type} {xs : List α} {i : Int} {v : α} (h : atI xs i = some v) : ∃ j, seqIndex? i xs.length = some j ∧ xs[j]? = some v ∧ j < xs.length ∧ -(xs.length : Int) ≤ i ∧ i < xs.length := by
  unfold atI at h
  cases e : ixN xs.length i with
  | none => rw [e] at h; cases h
  | some j =>
    rw [e] at h
    obtain ⟨h1, h2, h3, h4⟩ := ixN_seq e
    exact ⟨j, h1, h, h2, h3, h4⟩
theorem atI_nat {α : Type} {xs : List α} {j : Nat} {v : α} (h : xs[j]? = some v) : atI xs (j : Int) = some v := by
  have hj : j < xs.length := (List.getElem?_eq_some_iff.mp h).1
  have e : ixN xs.length (j : Int) = some j := by
    unfold ixN
    rw [if_pos (by omega), if_pos (by omega)]; simp
  unfold atI; rw [e]; exact h
theorem atI_last {α : Type} (xs : List α) (v : α) : atI (xs ++ [v]) (-1) = some v := by
  have hl : (xs ++ [v]).length = xs.length + 1 := by simp
  have e : ixN (xs ++ [v]).length (-1) = some xs.length := by
    unfold ixN
    rw [hl, if_neg (by decide), if_pos (by omega)]
    congr 1
    omega
  unfold atI
  rw [e]
  show (xs ++ [v])[xs.length]? = some v
  simp

/-! ### what may be subscripted -/
/-- what stands as an index of a plain subscript -/
def PlainIx (b : Expr) : Prop := ∀ o i, subscripted b false o i = operate [o, i] (getItem o i)
/-- a subscript by values -/
def IxR (X : Cx) (r : R2) : Prop :=
  ∀ (value slice : Expr) (pins : List (Addr × Obj)) (s : Shared) (σ : St) (H : Hp) (x y : V) (v u : Value) (Q : VK), Inv X pins σ H s → RelV x v → RelV y u → r x y H Q →
    subscripted slice false v u = operate [v, u] (getItem v u) → wpAny (model X.prog X.w) X.A (subscriptTail value slice v u) (EP X pins σ Q) X.xe s
/-- a call of a builtin's method by values: the receiver, the arguments -/
def MtR (X : Cx) (id : String) (r : V → List V → Hp → VK → Prop) : Prop :=
  ∀ (pins : List (Addr × Obj)) (s : Shared) (σ : St) (H : Hp) (x : V) (xs : List V) (v : Value) (us : List Value) (Q : VK), Inv X pins σ H s → RelV x v → Vals xs us → r x xs H Q →
    wpAny (model X.prog X.w) X.A (call (.builtin id) (v :: us)) (EP X pins σ Q) X.xe s
section
variable {X : Cx} {a b : Expr} {ta tb : TE} {pos : Pos}
theorem IxR.or {r r' : R2} (h : IxR X r) (h' : IxR X r') : IxR X (fun x y H Q => r x y H Q ∨ r' x y H Q) := by
  intro value slice pins s σ H x y v u Q I rx ry q hs
  rcases q with q | q
  · exact h value slice pins s σ H x y v u Q I rx ry q hs
  · exact h' value slice pins s σ H x y v u Q I rx ry q hs
theorem MtR.or {id : String} {r r' : V → List V → Hp → VK → Prop} (h : MtR X id r) (h' : MtR X id r') : MtR X id (fun x xs H Q => r x xs H Q ∨ r' x xs H Q) := by
  intro pins s σ H x xs v us Q I rx rs q
  rcases q with q | q
  · exact h pins s σ H x xs v us Q I rx rs q
  · exact h' pins s σ H x xs v us Q I rx rs q
/-- a[b] -/
theorem pe_ix {r : R2} (hr : IxR X r) (ha : PE X a ta) (hb : PE X b tb) (hs : PlainIx b) : PE X (.Subscript a b pos) (tOp r ta tb) := by
  intro pins s σ H Q I h
  exact Subscript_ (binT ha hb I h fun v u s2 x y H2 I2 rx ry q => hr a b pins s2 σ H2 x y v u Q I2 rx ry q (hs _ _))

def rIxL (K : PySem.W.Frag) : R2 := fun x y H Q => ∃ p xs i v, x = .ref p ∧ y = .int i ∧ SqL K H p xs ∧ atI xs i = some v ∧ Q v H
def rIxT (K : PySem.W.Frag) : R2 := fun x y H Q => ∃ p xs i v, x = .ref p ∧ y = .int i ∧ SqT K H p xs ∧ atI xs i = some v ∧ Q v H
def rIxS : R2 := fun x y H Q => ∃ z i c, x = .str z ∧ y = .int i ∧ z.length ≤ sizeLine ∧ atI z.cps.toList i = some c ∧ Q (.str ⟨#[c]⟩) H
theorem ix_list : IxR X (rIxL X.K) := by
  intro value slice pins s σ H x y v u Q I rx ry h hs
  obtain ⟨p, xs, i, z, rfl, rfl, hq, he, q⟩ := h
  cases rx
  obtain ⟨t, rfl⟩ := ry
  obtain ⟨its, r, pl, hz⟩ := I.list hq
  obtain ⟨j, h1, h2, h3, h4, h5⟩ := atI_get he
  obtain ⟨w, ew, rw'⟩ := r.get h2
  have hl := r.length
  have hn := line63
  have fin : EP X pins σ Q w s := ⟨z, H, I, rw', q⟩
  by_cases h0 : 0 ≤ i
  · have hj : i.toNat = j := by
      rw [seqIndex_of h0 h5] at h1
      exact Option.some.inj h1
    exact item_listR pl.isList h0 (by omega) (by rw [hj]; simpa using ew) fin hs
  · have hj : (i + (its.toArray.size : Int)).toNat = j := by
      rw [seqIndex_neg (by omega) h4] at h1
      rw [List.size_toArray, ← hl]
      exact Option.some.inj h1
    exact subscriptTail_builtinR (x := w) pl.isList.typeIs slot_list_getitem.lookup
      (wpAny_getItem_list_neg (Q := fun r s' => r = w ∧ EP X pins σ Q r s') pl.isList (by omega) (by rw [List.size_toArray] <;> omega) (by omega) (by rw [hj]; simpa using ew) ⟨rfl, fin⟩) hs
theorem ix_tup : IxR X (rIxT X.K) := by
  intro value slice pins s σ H x y v u Q I rx ry h hs
  obtain ⟨p, xs, i, z, rfl, rfl, hq, he, q⟩ := h
  cases rx
  obtain ⟨t, rfl⟩ := ry
  obtain ⟨its, r, pl, hz⟩ := I.tuple hq
  obtain ⟨j, h1, h2, h3, h4, h5⟩ := atI_get he
  obtain ⟨w, ew, rw'⟩ := r.get h2
  have hl := r.length
  have hn := line63
  have fin : EP X pins σ Q w s := ⟨z, H, I, rw', q⟩
  exact subscriptTail_builtinR (x := w) pl.typeIs slot_tuple_getitem.lookup
    (getItem_tuple (j := j) (Q := fun r s' => r = w ∧ EP X pins σ Q r s') pl (by omega) (by omega) (by rw [List.size_toArray, ← hl]; exact h1) (by simpa using ew) ⟨rfl, fin⟩) hs
theorem ix_str : IxR X rIxS := by
  intro value slice pins s σ H x y v u Q I rx ry h hs
  obtain ⟨z, i, c, rfl, rfl, hz, he, q⟩ := h
  obtain ⟨t, rfl⟩ := rx
  obtain ⟨t', rfl⟩ := ry
  obtain ⟨j, h1, h2, h3, h4, h5⟩ := atI_get he
  have hl : z.cps.toList.length = z.length := by simp [Str.length]
  rw [hl] at h1 h4 h5
  have hn := line63
  exact tail_any (typeIs_str s z t) slot_str_getitem.lookup (getItem_str (c := c) (by
    have e1 : decide (i < -(2 ^ 63 : Int)) = false := decide_eq_false (by omega)
    have e2 : decide (i ≥ 2 ^ 63) = false := decide_eq_false (by omega)
    rw [e1, e2, Bool.or_false]) (by rw [h1]; simpa using h2) ⟨.str ⟨#[c]⟩, H, I.tok _, ⟨_, rfl⟩, q⟩) hs
/-- list, tuple or str -/
def rIx (K : PySem.W.Frag) : R2 := fun x y H Q => rIxL K x y H Q ∨ rIxT K x y H Q ∨ rIxS x y H Q
theorem ix_seq : IxR X (rIx X.K) := ix_list.or (ix_tup.or ix_str)

/-! ### xs[i] = v, any sign -/
/-- the list's object behind a store -/
theorem mapSeq_set (its : List Value) (n j : Nat) (u : Value) : Obj.mapSeq (·.setIfInBounds j u) { cls := .type "list", data := .seq its.toArray n } = { cls := .type "list", data := .seq (its.set j u).toArray n } := by
  simp [Obj.mapSeq]
theorem Inv.lst {pins : List (Addr × Obj)} {σ : St} {H : Hp} {s : Shared} {p : Addr} {xs : List V} (I : Inv X pins σ H s) (h : H p = some (.lst xs)) :
    ∃ (its : List Value) (n : Nat), Vals xs its ∧ s.heap.get? p = some { cls := .type "list", data := .seq its.toArray n } ∧ xs.length ≤ sizeLine := by
  obtain ⟨z, its, n, r, e⟩ := I.hok p _ h
  exact ⟨its, n, r, e, z⟩
/-- the list at p is written by an update of its object -/
theorem Inv.lstUpd {pins : List (Addr × Obj)} {σ : St} {H : Hp} {s : Shared} {p : Addr} {xs ys : List V} {its its' : List Value} {n n' : Nat} {f : Obj → Obj} (I : Inv X pins σ H s) (h : H p = some (.lst xs))
    (ho : s.heap.get? p = some { cls := .type "list", data := .seq its.toArray n }) (hf : f { cls := .type "list", data := .seq its.toArray n } = { cls := .type "list", data := .seq its'.toArray n' }) (r : Vals ys its') (hz : ys.length ≤ sizeLine) (t : Nat) :
    Inv X pins σ (upd H p (.lst ys)) { s with heap := s.heap.update p f, toks := t } := by
  have e : (s.heap.update p f).get? p = some { cls := .type "list", data := .seq its'.toArray n' } := by
    rw [Heap.get?_update_self f ho (by rw [hf] <;> rfl), hf]
  refine I.write (x := p) (e := p) (by rw [h]; trivial) (.inl rfl) (fun b u hb q => (Heap.get?_update_other _ _ (Ne.symm hb)).trans q) ⟨_, e⟩ ?_
  exact ⟨hz, its', n', r, e⟩
def rSetL : V → V → V → Hp → (Hp → Prop) → Prop := fun o i v H Q => ∃ p xs k j, o = .ref p ∧ i = .int k ∧ H p = some (.lst xs) ∧ ixN xs.length k = some j ∧ Q (upd H p (.lst (xs.set j v)))
theorem set_list : PSet X rSetL := by
  intro pins s σ H o i v ov iv u Q I ro ri rv h
  obtain ⟨p, xs, k, j, rfl, rfl, hp, hj, q⟩ := h
  cases ro
  obtain ⟨t, rfl⟩ := ri
  obtain ⟨its, n, r, ho, hz⟩ := I.lst hp
  obtain ⟨h1, h2, h3, h4⟩ := ixN_seq hj
  have hl := r.length
  have hn := line63
  have I' : Inv X pins σ (upd H p (.lst (xs.set j v))) { s with heap := s.heap.update p (Obj.mapSeq (·.setIfInBounds j u)) } :=
    I.lstUpd hp ho (mapSeq_set its n j u) (r.set rv j) (by rw [List.length_set]; exact hz) s.toks
  by_cases h0 : 0 ≤ k
  · have hk : k.toNat = j := by
      rw [seqIndex_of h0 h4] at h1
      exact Option.some.inj h1
    exact PySem.W.ki_setAt ho h0 (by omega) (by rw [List.size_toArray, ← hl]; exact h4) (by rw [hk]; exact ⟨_, I', q⟩)
  · have hk : (k + (its.toArray.size : Int)).toNat = j := by
      rw [seqIndex_neg (by omega) h3] at h1
      rw [List.size_toArray, ← hl]
      exact Option.some.inj h1
    exact PySem.W.ki_setBack ho (by omega) (by rw [List.size_toArray, ← hl]; exact h3) (by omega) (by rw [hk]; exact ⟨_, I', q⟩)

/-! ### slices -/
theorem slice_bounds (lo hi : Option Int) (n : Nat) : (sliceBounds lo hi none n).1 = ((HT.sIx n 0 lo : Nat) : Int) ∧ (sliceBounds lo hi none n).2.1 = ((HT.sIx n n hi : Nat) : Int) ∧ (sliceBounds lo hi none n).2.2 = 1 := by
  refine ⟨?_, ?_, rfl⟩
  · cases lo with
    | none => simp [sliceBounds, HT.sIx]
    | some i =>
      simp only [sliceBounds, HT.sIx, Option.getD_none, show (1 : Int) > 0 by decide, if_true]
      by_cases h : i < 0
      · simp only [h, if_true] <;> omega
      · simp only [h, if_false] <;> omega
  · cases hi with
    | none => simp [sliceBounds, HT.sIx]
    | some i =>
      simp only [sliceBounds, HT.sIx, Option.getD_none, show (1 : Int) > 0 by decide, if_true]
      by_cases h : i < 0
      · simp only [h, if_true] <;> omega
      · simp only [h, if_false] <;> omega
theorem slicePick_cut (its : List Value) (lo hi : Option Int) : slicePick its.toArray lo hi none = ((its.drop (HT.sIx its.length 0 lo)).take (HT.sIx its.length its.length hi - HT.sIx its.length 0 lo)).toArray := by
  obtain ⟨h1, h2, h3⟩ := slice_bounds lo hi its.toArray.size
  unfold slicePick
  rw [h1, h2, h3]
  simp only [sliceRange_one, pick_run, List.size_toArray] <;> rfl
/-- xs[lo:hi] of a list: a new list -/
def rSlL (K : PySem.W.Frag) : V → Option Int → Option Int → Hp → VK → Prop := fun x lo hi H Q => ∃ a xs, x = .ref a ∧ SqL K H a xs ∧ ∀ p, H p = none → Q (.ref p) (upd H p (.lst (cutV xs lo hi)))
theorem sl_list : SlR X (rSlL X.K) := by
  intro pins s σ H x v vl vu lo hi sl Q I rx hs pl pu h
  obtain ⟨a, xs, rfl, hx, q⟩ := h
  cases rx
  obtain ⟨its, r, ht, hz⟩ := I.list hx
  have hlen := r.length
  refine ⟨"list", _, slot_list_getitem.lookup, ht.isList.typeIs, ?_⟩
  refine wpAny_getItem_list_slice ht.isList hs pl pu .none (by simp) ?_ (by rw [List.size_toArray] <;> omega)
  rw [slicePick_cut, ← hlen]
  refine ⟨.ref s.heap.objs.size, _, I.laid (t' := s.toks) (o := .lst (cutV xs lo hi)) (fun b ob q => Heap.get?_push_of_some _ q) (Nat.le_refl _) ?_, rfl, q _ (I.hok.fresh (Nat.le_refl _))⟩
  exact ⟨Nat.le_trans (cutV_length xs lo hi) hz, _, 0, (r.drop (HT.sIx xs.length 0 lo)).take (HT.sIx xs.length xs.length hi - HT.sIx xs.length 0 lo), Heap.get?_push_size _ rfl⟩

/-! ### in, not in: flat items -/
def flatV : V → Bool
  | .non => true
  | .bl _ => true
  | .int _ => true
  | .str _ => true
  | _ => false
/-- == of flat values -/
def eqV : V → V → Bool
  | .non, .non => true
  | .bl a, .bl b => a == b
  | .bl a, .int b => (if a then 1 else 0) == b
  | .int a, .bl b => a == (if b then 1 else 0)
  | .int a, .int b => a == b
  | .str a, .str b => a == b
  | _, _ => false
theorem eqAt_V {A : Around} {s : Shared} {y x : V} {u v : Value} (ry : RelV y u) (rx : RelV x v) (fy : flatV y = true) (fx : flatV x = true) : SeqAt.EqAt A s u v (eqV y x) := by
  cases y with
  | non =>
    cases ry
    cases x with
    | non => cases rx; exact SeqAt.EqAt.same _
    | bl b => cases rx; exact SeqAt.EqAt.none_bool b
    | int b => obtain ⟨t, rfl⟩ := rx; exact SeqAt.EqAt.none_int b t
    | str b => obtain ⟨t, rfl⟩ := rx; exact SeqAt.EqAt.none_str b t
    | _ => exact absurd (show false = true from fx) Bool.false_ne_true
  | bl a =>
    cases ry
    cases x with
    | non => cases rx; exact SeqAt.EqAt.bool_none a
    | bl b => cases rx; exact SeqAt.EqAt.bool_bool a b
    | int b => obtain ⟨t, rfl⟩ := rx; exact SeqAt.EqAt.bool_int a b t
    | str b => obtain ⟨t, rfl⟩ := rx; exact SeqAt.EqAt.bool_str a b t
    | _ => exact absurd (show false = true from fx) Bool.false_ne_true
  | int a =>
    obtain ⟨t', rfl⟩ := ry
    cases x with
    | non => cases rx; exact SeqAt.EqAt.int_none a t'
    | bl b => cases rx; exact SeqAt.EqAt.int_bool a t' b
    | int b => obtain ⟨t, rfl⟩ := rx; exact SeqAt.EqAt.int_int a t' b t
    | str b => obtain ⟨t, rfl⟩ := rx; exact SeqAt.EqAt.int_str a t' b t
    | _ => exact absurd (show false = true from fx) Bool.false_ne_true
  | str a =>
    obtain ⟨t', rfl⟩ := ry
    cases x with
    | non => cases rx; exact SeqAt.EqAt.str_none a t'
    | bl b => cases rx; exact SeqAt.EqAt.str_bool a t' b
    | int b => obtain ⟨t, rfl⟩ := rx; exact SeqAt.EqAt.str_int a t' b t
    | str b => obtain ⟨t, rfl⟩ := rx; exact SeqAt.EqAt.str_str a t' b t
    | _ => exact absurd (show false = true from fx) Bool.false_ne_true
  | _ => exact absurd (show false = true from fy) Bool.false_ne_true
/-- the items' answers, read off the values (a value's own answer does not lean on its token) -/
def eqU (x : V) (u : Value) : Bool := match u with
  | .none => eqV .non x
  | .bool b => eqV (.bl b) x
  | .int i _ => eqV (.int i) x
  | .str z _ => eqV (.str z) x
  | _ => false
theorem eqU_of {x y : V} {u : Value} (r : RelV y u) (f : flatV y = true) : eqU x u = eqV y x := by
  cases y with
  | non => cases r; rfl
  | bl b => cases r; rfl
  | int i => obtain ⟨t, rfl⟩ := r; rfl
  | str z => obtain ⟨t, rfl⟩ := r; rfl
  | _ => exact absurd (show false = true from f) Bool.false_ne_true
theorem any_eqU {x : V} : ∀ {xs : List V} {us : List Value}, Vals xs us → xs.all flatV = true → us.any (eqU x) = xs.any fun y => eqV y x
  | _, _, .nil, _ => rfl
  | y :: xs, u :: us, .cons r t, f => by
    rw [List.all_cons, Bool.and_eq_true] at f
    rw [List.any_cons, List.any_cons, eqU_of r f.1, any_eqU t f.2]
theorem mem_eqAt {A : Around} {s : Shared} {x : V} {v : Value} (rx : RelV x v) (fx : flatV x = true) : ∀ {xs : List V} {us : List Value}, Vals xs us → xs.all flatV = true → ∀ u ∈ us, SeqAt.EqAt A s u v (eqU x u)
  | _, _, .nil, _ => fun u hu => by cases hu
  | y :: xs, u :: us, .cons r t, f => fun u' hu => by
    rw [List.all_cons, Bool.and_eq_true] at f
    rcases List.mem_cons.mp hu with rfl | hu
    · rw [eqU_of r f.1]; exact eqAt_V r rx f.1 fx
    · exact mem_eqAt rx fx t f.2 u' hu
def inV (x : V) (xs : List V) : Bool := xs.any fun y => eqV y x
/-- x in a list or tuple of flat items -/
def rIn (K : PySem.W.Frag) (neg : Bool) : R2 := fun x y H Q => ∃ p xs, y = .ref p ∧ (SqL K H p xs ∨ SqT K H p xs) ∧ flatV x = true ∧ xs.all flatV = true ∧ Q (.bl (if neg then !inV x xs else inV x xs)) H
theorem op_in_seq : OpR X (compareOp .In) (rIn X.K false) := by
  intro pins s σ H x y v u Q I rx ry h
  obtain ⟨p, xs, rfl, hq, fx, fs, q⟩ := h
  cases ry
  rcases hq with hq | hq
  · obtain ⟨its, r, pl, hz⟩ := I.list hq
    refine SeqAt.in_listAt (eqU x) pl.isList (fun w hw => mem_eqAt rx fx r fs w (by simpa using hw)) ⟨.bl _, H, I, rfl, ?_⟩
    rw [show its.toArray.any (eqU x) = its.any (eqU x) by simp, any_eqU r fs]
    exact q
  · obtain ⟨its, r, pl, hz⟩ := I.tuple hq
    refine SeqAt.in_tupleAt (eqU x) pl (fun w hw => mem_eqAt rx fx r fs w (by simpa using hw)) ⟨.bl _, H, I, rfl, ?_⟩
    rw [show its.toArray.any (eqU x) = its.any (eqU x) by simp, any_eqU r fs]
    exact q
theorem op_notIn_seq : OpR X (compareOp .NotIn) (rIn X.K true) := by
  intro pins s σ H x y v u Q I rx ry h
  obtain ⟨p, xs, rfl, hq, fx, fs, q⟩ := h
  cases ry
  rcases hq with hq | hq
  · obtain ⟨its, r, pl, hz⟩ := I.list hq
    refine SeqAt.notIn_listAt (eqU x) pl.isList (fun w hw => mem_eqAt rx fx r fs w (by simpa using hw)) ⟨.bl _, H, I, rfl, ?_⟩
    rw [show its.toArray.any (eqU x) = its.any (eqU x) by simp, any_eqU r fs]
    exact q
  · obtain ⟨its, r, pl, hz⟩ := I.tuple hq
    refine SeqAt.notIn_tupleAt (eqU x) pl (fun w hw => mem_eqAt rx fx r fs w (by simpa using hw)) ⟨.bl _, H, I, rfl, ?_⟩
    rw [show its.toArray.any (eqU x) = its.any (eqU x) by simp, any_eqU r fs]
    exact q
theorem op_notIn_str : OpR X (compareOp .NotIn) (fun x y H Q => ∃ i j, x = .str i ∧ y = .str j ∧ Q (.bl (!(!(Builtin.Str.occurrences j i 0 j.length 1).isEmpty))) H) := by
  intro pins s σ H x y v u Q I rx ry h
  obtain ⟨i, j, rfl, rfl, q⟩ := h
  obtain ⟨t, rfl⟩ := rx
  obtain ⟨t', rfl⟩ := ry
  exact notIn_str ⟨.bl _, H, I, rfl, q⟩

/-! ### len, list(x), tuple(x) of any list or tuple that is read -/
theorem call_len_seq : CallR X (.builtin "len") (fun xs H Q => ∃ p ys, xs = [.ref p] ∧ (SqL X.K H p ys ∨ SqT X.K H p ys) ∧ Q (.int ys.length) H) := by
  intro pins s σ H xs us Q I r h
  obtain ⟨p, ys, rfl, hq, q⟩ := h
  obtain ⟨u, rfl, rx⟩ := vals1 r
  cases rx
  have hn := line63
  rcases hq with hq | hq
  · obtain ⟨its, r', pl, hz⟩ := I.list hq
    have hlen := r'.length
    exact Calls.call_len_list pl.isList (by simp only [List.size_toArray] <;> omega) ⟨.int ys.length, H, I.tok _, ⟨s.toks + 1, by rw [List.size_toArray, hlen]⟩, q⟩
  · obtain ⟨its, r', pl, hz⟩ := I.tuple hq
    have hlen := r'.length
    exact len_tuple pl (by simp only [List.size_toArray] <;> omega) ⟨.int ys.length, H, I.tok _, ⟨s.toks + 1, by rw [List.size_toArray, hlen]⟩, q⟩
theorem call_len_str : CallR X (.builtin "len") (fun xs H Q => ∃ z, xs = [.str z] ∧ z.length ≤ sizeLine ∧ Q (.int z.length) H) := by
  intro pins s σ H xs us Q I r h
  obtain ⟨z, rfl, hz, q⟩ := h
  obtain ⟨u, rfl, t, rfl⟩ := vals1 r
  have hn := line63
  exact len_str (by omega) ⟨.int z.length, H, I.tok _, ⟨_, rfl⟩, q⟩
theorem CallR.or {f : Value} {r r' : List V → Hp → VK → Prop} (h : CallR X f r) (h' : CallR X f r') : CallR X f (fun xs H Q => r xs H Q ∨ r' xs H Q) := by
  intro pins s σ H xs us Q I rs q
  rcases q with q | q
  · exact h pins s σ H xs us Q I rs q
  · exact h' pins s σ H xs us Q I rs q
theorem call_list_of : CallR X (.type "list") (fun xs H Q => ∃ p ys, xs = [.ref p] ∧ (SqL X.K H p ys ∨ SqT X.K H p ys) ∧ ∀ l, H l = none → Q (.ref l) (upd H l (.lst ys))) := by
  intro pins s σ H xs us Q I r h
  obtain ⟨p, ys, rfl, hq, q⟩ := h
  obtain ⟨u, rfl, rx⟩ := vals1 r
  cases rx
  have fin : ∀ (its : List Value), Vals ys its → ys.length ≤ sizeLine → ∀ (h' : Heap) (c' : Nat), (∀ b o', s.heap.get? b = some o' → h'.get? b = some o') →
      h'.get? s.heap.objs.size = some { cls := .type "list", dict := none, data := .seq its.toArray c', slots := #[] } → EP X pins σ Q (.ref s.heap.objs.size) { s with heap := h' } := fun its r' hz h' c' kp e =>
    ⟨.ref s.heap.objs.size, _, I.laid (t' := s.toks) kp (Nat.le_refl _) (show ObjOk X.prog X.w _ h' _ (.lst ys) from ⟨hz, its, c', r', e⟩), rfl, q _ (I.hok.fresh (Nat.le_refl _))⟩
  rcases hq with hq | hq
  · obtain ⟨its, r', pl, hz⟩ := I.list hq
    have hlen := r'.length
    obtain ⟨o, ho, hc, n, hd⟩ := pl.isList
    exact call_list_seq p (.inl rfl) ho hc hd (fun h' c' kp e => fin its r' hz h' c' kp e) (by simp only [List.size_toArray] <;> omega)
  · obtain ⟨its, r', pl, hz⟩ := I.tuple hq
    have hlen := r'.length
    obtain ⟨o, ho, hc, n, hd⟩ := pl
    exact call_list_seq p (.inr rfl) ho hc hd (fun h' c' kp e => fin its r' hz h' c' kp e) (by simp only [List.size_toArray] <;> omega)
theorem call_tuple_of : CallR X (.type "tuple") (fun xs H Q => ∃ p ys, xs = [.ref p] ∧ ((SqL X.K H p ys ∧ ∀ l, H l = none → Q (.ref l) (upd H l (.tup ys))) ∨ (SqT X.K H p ys ∧ Q (.ref p) H))) := by
  intro pins s σ H xs us Q I r h
  obtain ⟨p, ys, rfl, h⟩ := h
  obtain ⟨u, rfl, rx⟩ := vals1 r
  cases rx
  rcases h with ⟨hq, q⟩ | ⟨hq, q⟩
  · obtain ⟨its, r', pl, hz⟩ := I.list hq
    have hlen := r'.length
    refine call_tuple_list pl.isList (fun h' kp => ?_) (by simp only [List.size_toArray] <;> omega)
    have I1 : Inv X pins σ H { s with heap := h' } := I.kept (t' := s.toks) kp
    have I2 : Inv X pins σ (upd H h'.objs.size (.tup ys)) { s with heap := h'.push { cls := .type "tuple", data := .seq its.toArray } } :=
      I1.laid (t' := s.toks) (fun b o e => Heap.get?_push_of_some _ e) (Nat.le_refl _) (show ObjOk X.prog X.w _ _ _ (.tup ys) from ⟨hz, its, r', IsTup.new _ _⟩)
    exact ⟨.ref h'.objs.size, _, I2, rfl, q _ (I1.hok.fresh (Nat.le_refl _))⟩
  · obtain ⟨its, r', pl, hz⟩ := I.tuple hq
    exact call_tuple_same pl ⟨.ref p, H, I, rfl, q⟩

/-! ### the call of a builtin's method: o.m(..) -/
/-- the value is of that builtin type -/
def tyV (K : PySem.W.Frag) (T : String) (x : V) (H : Hp) : Prop := match x with
  | .str _ => T = "str"
  | .int _ => T = "int"
  | .ref p => (T = "list" ∧ ∃ xs, SqL K H p xs) ∨ (T = "tuple" ∧ ∃ o, K.lookup p = some o ∧ o.cls = .type "tuple" ∧ o.dict = none) ∨
      (T = "dict" ∧ ((∃ kvs, H p = some (.dK kvs)) ∨ ∃ kvs, H p = some (.dT kvs))) ∨ (T = "set" ∧ ∃ S n, H p = some (.set S n))
  | _ => False
theorem tyV_is {pins : List (Addr × Obj)} {σ : St} {H : Hp} {s : Shared} {T : String} {x : V} {v : Value} (I : Inv X pins σ H s) (r : RelV x v) (ty : tyV X.K T x H) :
    s.TypeIs v T ∧ ∀ a, v = .ref a → ∃ ob, s.heap.get? a = some ob ∧ ob.dict = none := by
  cases x with
  | str z =>
    obtain ⟨t, rfl⟩ := r
    cases (show T = "str" from ty)
    exact ⟨typeIs_str s z t, fun _ e => nomatch e⟩
  | int i =>
    obtain ⟨t, rfl⟩ := r
    cases (show T = "int" from ty)
    exact ⟨typeIs_int s i t, fun _ e => nomatch e⟩
  | ref p =>
    cases r
    rcases ty with ⟨rfl, xs, hq⟩ | ⟨rfl, o, hk, hc, hd⟩ | ⟨rfl, hk⟩ | ⟨rfl, S, n, hk⟩
    · obtain ⟨its, _, pl, _⟩ := I.list hq
      refine ⟨pl.isList.typeIs, fun a e => ?_⟩
      cases e
      obtain ⟨o, n, e, c, hd, _⟩ := pl
      exact ⟨o, e, hd⟩
    · refine ⟨⟨o, I.kIn p o hk, hc⟩, fun a e => ?_⟩
      cases e
      exact ⟨o, I.kIn _ o hk, hd⟩
    · have z : ∃ o, s.heap.get? p = some o ∧ o.ExactDict := by
        rcases hk with ⟨kvs, hk⟩ | ⟨kvs, hk⟩
        · obtain ⟨_, _, _, _, o, _, _, e, ex, _⟩ := I.hok p _ hk
          exact ⟨o, e, ex⟩
        · obtain ⟨_, _, _, _, o, _, _, e, ex, _⟩ := I.hok p _ hk
          exact ⟨o, e, ex⟩
      obtain ⟨o, e, ex⟩ := z
      refine ⟨⟨o, e, ex.1⟩, fun a e2 => ?_⟩
      cases e2
      exact ⟨o, e, ex.2.1⟩
    · obtain ⟨o, _, _, _, e, ex, _⟩ := I.hok p _ hk
      refine ⟨⟨o, e, ex.1⟩, fun a e2 => ?_⟩
      cases e2
      exact ⟨o, e, ex.2.1⟩
  | _ => exact False.elim ty
def tBM0 (K : PySem.W.Frag) (T : String) (r : V → List V → Hp → VK → Prop) (to : TE) : TE := fun σ H Q => to σ H fun x H1 => tyV K T x H1 ∧ r x [] H1 Q
def tBM (K : PySem.W.Frag) (T : String) (r : V → List V → Hp → VK → Prop) (to : TE) (t : TA) : TE := fun σ H Q => to σ H fun x H1 => tyV K T x H1 ∧ t σ H1 fun xs H2 => r x xs H2 Q
variable {o e : Expr} {es : List Expr} {to : TE} {t : TA} {name : Str} {apos cpos : Pos} {T id : String} {r : V → List V → Hp → VK → Prop}
theorem pe_bm0 (pa : PlainAttrs T) (slot : Slot T name id) (hty : typeOf (.builtin id) = pure (.type "method_descriptor")) (hm : MtR X id r) (ho : PE X o to)
    (hbase : attributeBase o name X.env (eval o X.env) = eval o X.env := by rfl) (hline : (apos.endLine == cpos.line) = true := by rfl) : PE X (.Call (.Attribute o name apos) [] [] cpos) (tBM0 X.K T r to) := by
  intro pins s σ H Q I h
  refine wpAny_Call_method0_late hbase hline (thn (ho pins s σ H _ I h) fun v s1 ⟨x, H1, I1, r1, ty, q1⟩ => ?_)
  obtain ⟨h1, h2⟩ := tyV_is I1 r1 ty
  exact ⟨T, id, pa, slot, hty, h1, h2, Calls.callWith_builtin rfl (PySem.evalArgs_none (hm pins s1 σ H1 x [] v [] Q I1 r1 .nil q1))⟩
theorem pe_bm (pa : PlainAttrs T) (slot : Slot T name id) (hty : typeOf (.builtin id) = pure (.type "method_descriptor")) (hm : MtR X id r) (ho : PE X o to) (ha : PA X (e :: es) t)
    (hbase : attributeBase o name X.env (eval o X.env) = eval o X.env := by rfl)
    (hfew : ((backTo cpos (starEach (e :: es) X.env)).all (fun x => !x.1) && (backToKw cpos (keywordEach [] X.env)).all (fun x => x.1.isSome)
      && decide ((e :: es).length + ([] : List Keyword).length + (if ([] : List Keyword).isEmpty then 0 else 1) < 30)) = true := by rfl)
    (hline : (apos.endLine == cpos.line) = true := by rfl) (hs : starEach (e :: es) X.env = (false, eval e X.env) :: starEach es X.env := by rfl) (hplain : (backTo cpos (starEach es X.env)).any (·.1) = false := by rfl) :
    PE X (.Call (.Attribute o name apos) (e :: es) [] cpos) (tBM X.K T r to t) := by
  intro pins s σ H Q I h
  refine wpAny_Call_method_late hbase hfew hline rfl (thn (ho pins s σ H _ I h) fun v s1 ⟨x, H1, I1, r1, ty, q1⟩ => ?_)
  obtain ⟨h1, h2⟩ := tyV_is I1 r1 ty
  refine ⟨T, id, pa, slot, hty, h1, h2, ?_⟩
  have hA := ha cpos pins s1 σ H1 _ I1 q1
  rw [hs] at hA ⊢
  refine Calls.callWith_builtin (by show (false || (backTo cpos (starEach es X.env)).any (·.1)) = false; rw [hplain] <;> rfl) (Calls.evalArgs_plain ?_)
  exact thn hA fun us s2 ⟨vs, H2, I2, r2, q2⟩ => hm pins s2 σ H2 x vs v us Q I2 r1 r2 q2
/- xs.append(e), list.index on a module's tuple .. are MtR facts of 06m -/
end
end L2

namespace L2
open PySem PySem.Spec PyProof.Rows

def MtM (X : Cx) (id : String) (r : V → List V → Hp → VK → Prop) : Prop :=
  ∀ (pins : List (Addr × Obj)) (s : Shared) (σ : St) (H : Hp) (x : V) (xs : List V) (v : Value) (us : List Value) (Q : VK), Inv X pins σ H s → RelV x v → Vals xs us → r x xs H Q →
    wpAny (model X.prog X.w) X.A (call (.builtin id) (v :: us)) (EP X pins σ Q) X.xe s

/-! ### lists of values -/
theorem Vals.one : ∀ {x : V} {us : List Value}, Vals [x] us → ∃ u, us = [u] ∧ RelV x u
  | _, _, .cons r .nil => ⟨_, rfl, r⟩
theorem Vals.two : ∀ {x y : V} {us : List Value}, Vals [x, y] us → ∃ u v, us = [u, v] ∧ RelV x u ∧ RelV y v
  | _, _, _, .cons r (.cons q .nil) => ⟨_, _, rfl, r, q⟩
theorem Vals.zero : ∀ {us : List Value}, Vals [] us → us = []
  | _, .nil => rfl
theorem Vals.dropLast {xs : List V} {us : List Value} (h : Vals xs us) : Vals xs.dropLast us.dropLast := by
  induction h with
  | nil => exact .nil
  | cons r t ih =>
    cases t with
    | nil => exact .nil
    | cons q t' => exact .cons r ih
theorem Vals.eraseIdx : ∀ {xs : List V} {us : List Value} (i : Nat), Vals xs us → Vals (xs.eraseIdx i) (us.eraseIdx i)
  | _, _, _, .nil => .nil
  | _, _, 0, .cons _ t => t
  | _, _, i + 1, .cons r t => .cons r (Vals.eraseIdx i t)
theorem Vals.reverse {xs : List V} {us : List Value} (h : Vals xs us) : Vals xs.reverse us.reverse := by
  induction h with
  | nil => exact .nil
  | cons r t ih => rw [List.reverse_cons, List.reverse_cons]; exact Vals.append ih (.cons r .nil)
theorem Vals.rep {xs : List V} {us : List Value} (h : Vals xs us) : ∀ k : Nat, Vals (List.replicate k xs).flatten (List.replicate k us).flatten
  | 0 => .nil
  | k + 1 => by
    rw [List.replicate_succ, List.replicate_succ, List.flatten_cons, List.flatten_cons]
    exact Vals.append h (Vals.rep h k)
theorem erase_last {α : Type} (l : List α) : l.eraseIdx (l.length - 1) = l.dropLast := by
  induction l with
  | nil => rfl
  | cons a r ih =>
    cases r with
    | nil => rfl
    | cons b r =>
      have e : (a :: b :: r).length - 1 = ((b :: r).length - 1) + 1 := by
        have h1 : (a :: b :: r).length = r.length + 2 := rfl
        have h2 : (b :: r).length = r.length + 1 := rfl
        omega
      rw [e, List.eraseIdx_cons_succ, ih]
      all_goals rfl
theorem len_erase {α : Type} : ∀ (l : List α) (i : Nat), (l.eraseIdx i).length ≤ l.length
  | [], _ => Nat.le_refl _
  | _ :: _, 0 => Nat.le_succ _
  | _ :: r, i + 1 => Nat.succ_le_succ (len_erase r i)
theorem foldl_rep (its : List Value) : ∀ (k : Nat) (acc : List Value),
    List.foldl (fun x1 x2 => x1 ++ x2) acc.toArray (List.replicate k its.toArray) = (acc ++ (List.replicate k its).flatten).toArray
  | 0, acc => by simp
  | k + 1, acc => by
    have e : acc.toArray ++ its.toArray = (acc ++ its).toArray := by simp
    have e2 : (acc ++ its) ++ (List.replicate k its).flatten = acc ++ (List.replicate (k + 1) its).flatten := by
      rw [List.replicate_succ, List.flatten_cons, List.append_assoc]
    rw [← e2, ← foldl_rep its k (acc ++ its), ← e, List.replicate_succ, List.foldl_cons]

section
variable {X : Cx} {pins : List (Addr × Obj)} {σ : St} {H : Hp} {s : Shared} {l b : Addr} {xs ys zs : List V}

/-! ### the two steps: a tracked list is rewritten, a new list is laid -/
theorem Inv.lset {its its' : List Value} {n : Nat} {f : Array Value → Array Value} {t' : Nat} (I : Inv X pins σ H s) (hH : H l = some (.lst xs))
    (e : s.heap.get? l = some { cls := .type "list", data := .seq its.toArray n }) (hf : f its.toArray = its'.toArray) (hv : Vals ys its') (hz : ys.length ≤ sizeLine) :
    Inv X pins σ (upd H l (.lst ys)) { s with heap := s.heap.update l (Obj.mapSeq f), toks := t' } := by
  have q := PySem.IsL.update e f
  rw [hf] at q
  refine I.write (x := l) (e := l) (by rw [hH]; exact trivial) (.inl rfl) (fun b' u hb hu => (Heap.get?_update_other s.heap (Obj.mapSeq f) (Ne.symm hb)).trans hu) ⟨_, q⟩ ?_
  exact ⟨hz, its', _, hv, q⟩
theorem Inv.lnew {its : List Value} {t' : Nat} (I : Inv X pins σ H s) (hv : Vals ys its) (hz : ys.length ≤ sizeLine) :
    Inv X pins σ (upd H s.heap.objs.size (.lst ys)) { s with heap := s.heap.push { cls := .type "list", data := .seq its.toArray }, toks := t' } :=
  I.laid (fun _ _ q => Heap.get?_push_of_some _ q) (Nat.le_refl _) ⟨hz, its, 0, hv, Heap.get?_push_size _ rfl⟩
theorem Inv.fresh (I : Inv X pins σ H s) : H s.heap.objs.size = none := I.hok.fresh (Nat.le_refl _)
theorem Inv.lstM (I : Inv X pins σ H s) (hH : H l = some (.lst xs)) : xs.length ≤ sizeLine ∧ ∃ (its : List Value) (n : Nat), Vals xs its ∧ xs.length = its.length ∧ s.heap.get? l = some { cls := .type "list", data := .seq its.toArray n } := by
  obtain ⟨z, its, n, r, e⟩ := I.hok l _ hH
  exact ⟨z, its, n, r, r.length, e⟩

theorem notLongL {n : Nat} (h : n ≤ sizeLine) : Builtin.List.listTooLong n = false := by
  unfold Builtin.List.listTooLong
  exact decide_eq_false (by omega)
end

section
variable {X : Cx}

/-! ### methods -/
def rAppend : V → List V → Hp → VK → Prop := fun x vs H Q => ∃ l xs y, x = .ref l ∧ vs = [y] ∧ H l = some (.lst xs) ∧ xs.length < sizeLine ∧ Q .non (upd H l (.lst (xs ++ [y])))
theorem mt_append : MtM X "list.append" rAppend := by
  intro pins s σ H x vs v us Q I rx rv h
  obtain ⟨l, xs, y, rfl, rfl, hH, hz, q⟩ := h
  cases rx
  obtain ⟨u, rfl, ru⟩ := rv.one
  obtain ⟨z, its, n, r, hl, e⟩ := I.lstM hH
  refine call_meets F.slot_list_append ⟨_, e, rfl⟩ F.entry_list_append (F.args_list_append_2 _ _) (PySem.list_append l its.toArray n u (by rw [List.size_toArray]; omega)) ⟨e, ?_⟩
  refine ⟨.non, _, I.lset (its' := its ++ [u]) hH e (by simp) (r.append (.cons ru .nil)) ?_, rfl, q⟩
  rw [List.length_append, List.length_singleton]
  omega

def rExtend : V → List V → Hp → VK → Prop := fun x vs H Q => ∃ l b xs zs, x = .ref l ∧ vs = [.ref b] ∧ H l = some (.lst xs) ∧ H b = some (.lst zs) ∧ xs.length + zs.length ≤ sizeLine ∧ Q .non (upd H l (.lst (xs ++ zs)))
theorem mt_extend : MtM X "list.extend" rExtend := by
  intro pins s σ H x vs v us Q I rx rv h
  obtain ⟨l, b, xs, zs, rfl, rfl, hH, hB, hz, q⟩ := h
  cases rx
  obtain ⟨u, rfl, ru⟩ := rv.one
  cases ru
  obtain ⟨z, its, n, r, hl, e⟩ := I.lstM hH
  obtain ⟨z2, its2, n2, r2, hl2, e2⟩ := I.lstM hB
  have hsz : its.toArray.size + its2.toArray.size ≤ sizeLine := by rw [List.size_toArray, List.size_toArray]; omega
  have hlong : ¬ (!its.toArray.isEmpty && Builtin.List.listTooLong (its.toArray.size + its2.toArray.size)) = true := by
    rw [notLongL hsz, Bool.and_false]
    exact Bool.false_ne_true
  refine call_meets F.slot_list_extend ⟨_, e, rfl⟩ F.entry_list_extend (F.args_list_extend_2 _ _)
    (AutoSeq1.list_extend_list_list_0 l its.toArray n b its2.toArray n2 hlong (by rw [List.size_toArray]; omega) (by omega)) ⟨e, e2, ?_⟩
  refine ⟨.non, _, I.lset (its' := its ++ its2) hH e (by simp) (r.append r2) ?_, rfl, q⟩
  rw [List.length_append]
  omega

def rPop : V → List V → Hp → VK → Prop := fun x vs H Q => ∃ l xs y, x = .ref l ∧ vs = [] ∧ H l = some (.lst xs) ∧ xs[xs.length - 1]? = some y ∧ Q y (upd H l (.lst xs.dropLast))
theorem mt_pop : MtM X "list.pop" rPop := by
  intro pins s σ H x vs v us Q I rx rv h
  obtain ⟨l, xs, y, rfl, rfl, hH, hy, q⟩ := h
  cases rx
  have hus := rv.zero
  subst hus
  obtain ⟨z, its, n, r, hl, e⟩ := I.lstM hH
  obtain ⟨u, hu, ru⟩ := r.get hy
  have hy' : its.toArray[its.toArray.size - 1]? = some u := by
    show its.toArray[its.length - 1]? = some u
    rw [← Array.getElem?_toList, ← hl]
    exact hu
  refine call_meets F.slot_list_pop ⟨_, e, rfl⟩ F.entry_list_pop (F.args_list_pop_1 _) (MeetsSeq.list_pop_last l its.toArray n u hy' (by rw [List.size_toArray]; omega)) ⟨e, ?_⟩
  refine ⟨y, _, I.lset (its' := its.dropLast) hH e ?_ r.dropLast ?_, ru, q⟩
  · show its.toArray.eraseIdxIfInBounds (its.toArray.size - 1) = its.dropLast.toArray
    rw [List.size_toArray, List.eraseIdxIfInBounds_toArray, erase_last]
  · rw [List.length_dropLast]
    omega

def rPopAt : V → List V → Hp → VK → Prop := fun x vs H Q => ∃ l xs i k y, x = .ref l ∧ vs = [.int i] ∧ H l = some (.lst xs) ∧ -(2 ^ 63) ≤ i ∧ i < 2 ^ 63 ∧ seqIndex? i xs.length = some k ∧ xs[k]? = some y ∧ Q y (upd H l (.lst (xs.eraseIdx k)))
theorem mt_popAt : MtM X "list.pop" rPopAt := by
  intro pins s σ H x vs v us Q I rx rv h
  obtain ⟨l, xs, i, k, y, rfl, rfl, hH, h1, h2, hk, hy, q⟩ := h
  cases rx
  obtain ⟨u, rfl, ru⟩ := rv.one
  obtain ⟨t, rfl⟩ := ru
  obtain ⟨z, its, n, r, hl, e⟩ := I.lstM hH
  obtain ⟨w, hw, rw'⟩ := r.get hy
  refine call_meets F.slot_list_pop ⟨_, e, rfl⟩ F.entry_list_pop (F.args_list_pop_2 _ _)
    (MeetsSeq.list_pop_at l its.toArray n i t k w (fitsIndex_both h1 h2) (by rw [List.size_toArray, ← hl]; exact hk) (by rw [← Array.getElem?_toList]; exact hw) (by rw [List.size_toArray]; omega)) ⟨e, ?_⟩
  refine ⟨y, _, I.lset (its' := its.eraseIdx k) hH e ?_ (r.eraseIdx k) ?_, rw', q⟩
  · show its.toArray.eraseIdxIfInBounds k = (its.eraseIdx k).toArray
    rw [List.eraseIdxIfInBounds_toArray]
  · have := len_erase xs k
    omega

def rReverse : V → List V → Hp → VK → Prop := fun x vs H Q => ∃ l xs, x = .ref l ∧ vs = [] ∧ H l = some (.lst xs) ∧ Q .non (upd H l (.lst xs.reverse))
theorem mt_reverse : MtM X "list.reverse" rReverse := by
  intro pins s σ H x vs v us Q I rx rv h
  obtain ⟨l, xs, rfl, rfl, hH, q⟩ := h
  cases rx
  have hus := rv.zero
  subst hus
  obtain ⟨z, its, n, r, hl, e⟩ := I.lstM hH
  refine call_meets F.slot_list_reverse ⟨_, e, rfl⟩ F.entry_list_reverse (F.args_list_reverse_1 _) (AutoSeq1.list_reverse_list_0 l its.toArray n (by rw [List.size_toArray]; omega)) ⟨e, ?_⟩
  refine ⟨.non, _, I.lset (its' := its.reverse) hH e (by simp) r.reverse ?_, rfl, q⟩
  rw [List.length_reverse]
  omega

def rClear : V → List V → Hp → VK → Prop := fun x vs H Q => ∃ l xs, x = .ref l ∧ vs = [] ∧ H l = some (.lst xs) ∧ Q .non (upd H l (.lst []))
theorem mt_clear : MtM X "list.clear" rClear := by
  intro pins s σ H x vs v us Q I rx rv h
  obtain ⟨l, xs, rfl, rfl, hH, q⟩ := h
  cases rx
  have hus := rv.zero
  subst hus
  obtain ⟨z, its, n, r, hl, e⟩ := I.lstM hH
  refine call_meets F.slot_list_clear ⟨_, e, rfl⟩ F.entry_list_clear (F.args_list_clear_1 _) (AutoSeq1.list_clear_list_0 l its.toArray n (by rw [List.size_toArray]; omega)) ⟨e, ?_⟩
  exact ⟨.non, _, I.lset (its' := []) (ys := []) hH e rfl .nil (Nat.zero_le _), rfl, q⟩

/-! ### list + list, list += list, list * int -/
def rCat : R2 := fun x y H Q => ∃ l b xs zs, x = .ref l ∧ y = .ref b ∧ H l = some (.lst xs) ∧ H b = some (.lst zs) ∧ xs.length + zs.length ≤ sizeLine ∧ ∀ p, H p = none → Q (.ref p) (upd H p (.lst (xs ++ zs)))
theorem op_cat : OpR X (binaryOp .Add) rCat := by
  intro pins s σ H x y v u Q I rx ry h
  obtain ⟨l, b, xs, zs, rfl, rfl, hH, hB, hz, q⟩ := h
  cases rx
  cases ry
  obtain ⟨z, its, n, r, hl, e⟩ := I.lstM hH
  obtain ⟨z2, its2, n2, r2, hl2, e2⟩ := I.lstM hB
  refine PySem.P.add_list e e2 ?_ (by rw [List.size_toArray, List.size_toArray]; omega)
  have ea : its.toArray ++ its2.toArray = (its ++ its2).toArray := by simp
  rw [ea]
  exact ⟨.ref _, _, I.lnew (t' := s.toks) (r.append r2) (by rw [List.length_append]; omega), rfl, q _ I.fresh⟩
/-- a list times an int (a negative one is nothing) -/
def rRep : R2 := fun x y H Q => ∃ l k xs, x = .ref l ∧ y = .int k ∧ H l = some (.lst xs) ∧ -(2 ^ 63) ≤ k ∧ k < 2 ^ 63 ∧ xs.length * k.toNat ≤ sizeLine ∧
  ∀ p, H p = none → Q (.ref p) (upd H p (.lst (List.replicate k.toNat xs).flatten))
theorem len_rep {α : Type} (xs : List α) (k : Nat) : (List.replicate k xs).flatten.length = k * xs.length := by
  induction k with
  | zero => simp
  | succ k ih => rw [List.replicate_succ, List.flatten_cons, List.length_append, ih, Nat.succ_mul, Nat.add_comm]
theorem op_rep : OpR X (binaryOp .Mult) rRep := by
  intro pins s σ H x y v u Q I rx ry h
  obtain ⟨l, k, xs, rfl, rfl, hH, h1, h2, hz, q⟩ := h
  cases rx
  obtain ⟨t, rfl⟩ := ry
  obtain ⟨z, its, n, r, hl, e⟩ := I.lstM hH
  have hlen : its.toArray.size * k.toNat ≤ sizeLine := by rw [List.size_toArray, ← hl]; exact hz
  have hcap : ¬ its.toArray.size * k.toNat > (2 ^ 63 - 1) / 8 := by
    have : (sizeLine : Nat) ≤ (2 ^ 63 - 1) / 8 := by decide
    omega
  have hfit : ¬ (!Builtin.List.listFitsIndex k) = true := by
    rw [fitsIndex_both h1 h2]
    exact Bool.false_ne_true
  have hlong : ¬ Builtin.List.listTooLong (its.toArray.size * k.toNat) = true := by
    rw [notLongL hlen]
    exact Bool.false_ne_true
  have hnew : List.foldl (fun x1 x2 => x1 ++ x2) #[] (List.replicate (if its.toArray.isEmpty = true then 0 else k.toNat) its.toArray) = (List.replicate k.toNat its).flatten.toArray := by
    have f0 : ∀ m : Nat, List.foldl (fun x1 x2 => x1 ++ x2) #[] (List.replicate m its.toArray) = (List.replicate m its).flatten.toArray := fun m => by
      have := foldl_rep its m []
      rw [List.nil_append] at this
      exact this
    rw [f0]
    cases its with
    | nil => simp
    | cons a r' => rw [if_neg (by simp)]
  refine wpAny_binaryOp_repeat_ref (T := "list") (U := "int") (by decide) ⟨_, e, rfl⟩ (fun s' => typeIs_int s' k t) noFill_list_mul F.fills_int_mul F.slot_int_rmul repeat_list F.slot_int_index.lookup
    (call_meets F.slot_int_rmul (typeIs_int s k t) F.entry_int_rmul (F.args_int_rmul_2 _ _) (int___rmul___int_list k t l its.toArray n)
      ⟨e, rfl, ⟨_, e, rfl⟩, call_meets F.slot_list_mul ⟨_, e, rfl⟩ F.entry_list_mul (F.args_list_mul_2 _ _) (AutoListH.list___mul___list_int_3 l its.toArray n k t hfit hcap hlong) ⟨e, ?_⟩⟩)
  rw [hnew]
  exact ⟨.ref _, _, I.lnew (t' := s.toks) (r.rep k.toNat) (by rw [len_rep, Nat.mul_comm]; exact hz), rfl, q _ I.fresh⟩

/-! ### del xs[i] -/
theorem del_list {pins : List (Addr × Obj)} {s : Shared} {σ : St} {H : Hp} {l : Addr} {xs : List V} {i : Int} {t : Tok} {k : Nat} {Q : Unit → Shared → Prop} (I : Inv X pins σ H s) (hH : H l = some (.lst xs))
    (h1 : -(2 ^ 63) ≤ i) (h2 : i < 2 ^ 63) (hk : seqIndex? i xs.length = some k) (h : ∀ s', Inv X pins σ (upd H l (.lst (xs.eraseIdx k))) s' → Q () s') :
    wpAny (model X.prog X.w) X.A (delItem (.ref l) (.int i t)) Q X.xe s := by
  obtain ⟨z, its, n, r, hl, e⟩ := I.lstM hH
  refine PySem.P.delItem_list (k := k) e (fitsIndex_both h1 h2) (by rw [List.size_toArray, ← hl]; exact hk) (h _ ?_) (by rw [List.size_toArray]; omega)
  refine I.lset (its' := its.eraseIdx k) (t' := s.toks) hH e ?_ (r.eraseIdx k) ?_
  · show its.toArray.eraseIdxIfInBounds k = (its.eraseIdx k).toArray
    rw [List.eraseIdxIfInBounds_toArray]
  · have := len_erase xs k
    omega
end

/-! ### xs[a:b] = ys -/
section
variable {prog : Program} {w : World} {A : Around} {E : Value → Shared → Prop} {s : Shared}
theorem splice_eq (its its2 : List Value) (a c : Nat) : its.toArray.extract 0 a ++ its2.toArray ++ its.toArray.extract c its.toArray.size = (its.take a ++ its2 ++ its.drop c).toArray := by
  apply Array.toList_inj.mp
  first
    | (simp
       exact List.take_of_length_le (by simp))
    | simp [List.take_of_length_le]
    | simp
theorem bounds_run {a c n : Nat} (hac : a ≤ c) (hc : c ≤ n) : sliceBounds (some (a : Int)) (some (c : Int)) none n = ((a : Int), (c : Int), 1) := by
  simp only [sliceBounds, Option.getD_none]
  have h1 : ¬ ((a : Int) < 0) := by omega
  have h2 : ¬ ((c : Int) < 0) := by omega
  simp only [h1, h2, if_false, show (1 : Int) > 0 by decide, if_true]
  congr 1
  · omega
  · congr 1; omega
set_option maxRecDepth 100000 in
/-- list.__setitem__ with a slice of step one and another list -/
theorem setItem_slice {l b sl : Addr} {items new : Array Value} {n n2 : Nat} {vl vu : Value} {a c : Nat} {Q : Unit → Shared → Prop}
    (e : s.heap.get? l = some { cls := .type "list", data := .seq items n }) (e2 : s.heap.get? b = some { cls := .type "list", data := .seq new n2 }) (hne : l ≠ b)
    (hs : s.heap.IsSliceOf sl vl vu .none) (pl : IsPart vl (some (a : Int))) (pu : IsPart vu (some (c : Int))) (hac : a ≤ c) (hc : c ≤ items.size)
    (hsz : items.size + new.size ≤ sizeLine) (h : Q () { s with heap := s.heap.update l (Obj.mapSeq fun xs => xs.extract 0 a ++ new ++ xs.extract c xs.size) }) :
    wpAny (model prog w) A (setItem (.ref l) (.ref sl) (.ref b)) Q E s := by
  have hl : s.heap.IsList l items := PySem.IsL.isList e
  have hb : s.heap.IsList b new := PySem.IsL.isList e2
  obtain ⟨os, hos, hcs, hds⟩ := id hs
  have hTs : s.TypeIs (.ref sl) "slice" := ⟨os, hos, hcs⟩
  have hstep : ¬ ((rawPart none == rawInt 0) = true) := Bool.false_ne_true
  have hsame : Builtin.List.listSameRef (.ref l) (.ref b) = false := by
    unfold Builtin.List.listSameRef
    exact beq_eq_false_iff_ne.mpr hne
  have hmax : (max (a : Int) (c : Int)).toNat = c := by omega
  have hz' : ((fun xs : Array Value => xs.extract 0 a ++ new ++ xs.extract c xs.size) items).size ≤ sizeLine + 1 := by
    simp only [Array.size_append, Array.size_extract]
    omega
  unfold setItem
  try with_reducible refine wpAny_holding ?_
  first | refine wpAny_bind (wpAny_pure ?_) | skip
  refine wpAny_bind (wpAny_sequenceKey hl.typeIs (by decide) ?_)
  refine wpAny_bind (wpAny_callSpecial?_slot (name := Str.ofString "__setitem__") hl.typeIs slot_list_setitem
    (wpAny_call_entry slot_list_setitem hl.typeIs entry_list_setitem ?_ (args_list_setitem _ _ _)))
  show wpAny _ _ (Builtin.List.listSubscript? (.ref sl) >>= _) _ _ s
  refine wpAny_bind ?_
  unfold Builtin.List.listSubscript?
  refine wpAny_bind (wpAny_specialOf hTs slice_no_index ?_)
  simp only [Option.isNone_none, if_true]
  refine wpAny_pure ?_
  show wpAny _ _ (typeOf (.ref sl) >>= _) _ _ s
  refine wpAny_bind (wpAny_typeOf hTs ?_)
  first
    | rw [if_neg (by decide)]
    | refine PySem.W.KFB.if_not (by decide) ?_
  rw [listSliceParts_eq]
  refine wpAny_bind (wpAny_bind (wpAny_field hos hds (x := .none) rfl (wpAny_bind (wpAny_listPart .none ?_))))
  rw [if_neg hstep]
  refine wpAny_bind (wpAny_field hos hds (x := vl) rfl (wpAny_bind (wpAny_listPart pl ?_)))
  refine wpAny_bind (wpAny_field hos hds (x := vu) rfl (wpAny_bind (wpAny_listPart pu (wpAny_pure ?_))))
  first
    | simp only [hsame, Bool.false_eq_true, if_false]
    | refine PySem.W.KFB.if_not hsame ?_
    | (dsimp only
       rw [if_neg (by rw [hsame]; exact Bool.false_ne_true)])
  refine wpAny_bind (m := Builtin.List.listAllItems (.ref b) "must assign iterable to extended slice") ?_
  unfold Builtin.List.listAllItems
  refine wpAny_bind (wpAny_typeOf hb.typeIs ?_)
  first
    | refine PySem.W.KFB.if_so (by decide) ?_
    | rw [if_pos (by decide)]
    | simp only [beq_self_eq_true, Bool.true_or, if_true]
  unfold Builtin.List.listItems
  refine wpAny_bind (wpAny_seqItems e2 rfl (wpAny_pure ?_))
  refine wpAny_bind (wpAny_bind (wpAny_seqItems e rfl (wpAny_pure ?_)))
  refine wpAny_bind (wpAny_of_eq ((sliceIndices_raw (some (a : Int)) (some (c : Int)) none items.size (by simp)).trans (congrArg (pure : Int × Int × Int → Sem (Int × Int × Int)) (bounds_run hac hc))) ?_)
  show wpAny _ _ (if ((1 : Int) == 1) = true then _ else _) _ _ s
  rw [if_pos (by decide)]
  refine wpAny_bind (wpAny_rule ?_)
  first
    | simp only [notLongL hsz, Bool.false_eq_true, if_false]
    | refine PySem.W.KFB.if_not (notLongL hsz) ?_
  first | refine wpAny_bind (wpAny_pure ?_) | skip
  show wpAny _ _ (updateSeq l (fun xs => xs.extract 0 ((a : Int)).toNat ++ new ++ xs.extract (max (a : Int) (c : Int)).toNat xs.size) >>= _) _ _ s
  rw [hmax, Int.toNat_natCast]
  refine wpAny_bind (wpAny_updateSeq (hz := Nat.le_trans (Nat.le_add_right _ _) hsz) (_hz' := hz') e rfl ?_)
  refine wpAny_bind (wpAny_letGo ?_)
  first
    | exact wpAny_bind (wpAny_pure (wpAny_pure ⟨.none, rfl, wpAny_pure h⟩))
    | exact wpAny_pure ⟨.none, rfl, wpAny_pure h⟩
end

section
variable {X : Cx}
/-- xs[a:c] = ys of another list, at the value level: sl is the slice object that was just made -/
theorem set_slice {pins : List (Addr × Obj)} {s : Shared} {σ : St} {H : Hp} {l b sl : Addr} {xs ys : List V} {a c : Int} {vl vu : Value} {Q : Unit → Shared → Prop} (I : Inv X pins σ H s)
    (hH : H l = some (.lst xs)) (hB : H b = some (.lst ys)) (hne : l ≠ b) (hs : s.heap.IsSliceOf sl vl vu .none) (ra : RelV (.int a) vl) (rc : RelV (.int c) vu) (h0 : 0 ≤ a) (hac : a ≤ c) (hc : c ≤ xs.length)
    (hz : xs.length + ys.length ≤ sizeLine) (h : ∀ s', Inv X pins σ (upd H l (.lst (xs.take a.toNat ++ ys ++ xs.drop c.toNat))) s' → Q () s') :
    wpAny (model X.prog X.w) X.A (setItem (.ref l) (.ref sl) (.ref b)) Q X.xe s := by
  obtain ⟨ta, rfl⟩ := ra
  obtain ⟨tc, rfl⟩ := rc
  obtain ⟨z, its, n, r, hl, e⟩ := I.lstM hH
  obtain ⟨z2, its2, n2, r2, hl2, e2⟩ := I.lstM hB
  obtain ⟨a', rfl⟩ := Int.eq_ofNat_of_zero_le h0
  obtain ⟨c', rfl⟩ := Int.eq_ofNat_of_zero_le (Int.le_trans h0 hac)
  simp only [Int.toNat_natCast] at h
  refine setItem_slice (a := a') (c := c') e e2 hne hs (.int _ _) (.int _ _) (by omega) (by rw [List.size_toArray]; omega) (by rw [List.size_toArray, List.size_toArray]; omega) (h _ ?_)
  refine I.lset (its' := its.take a' ++ its2 ++ its.drop c') (t' := s.toks) hH e ?_ (Vals.append (Vals.append (r.take _) r2) (r.drop _)) ?_
  · exact splice_eq its its2 a' c'
  · rw [List.length_append, List.length_append, List.length_take, List.length_drop]
    omega
end
end L2


namespace L2
open PySem PySem.Spec PyProof.Rows

/-! ### lists of pairs as tables -/
section
variable {κ : Type} [DecidableEq κ]
def valV (kvs : List (κ × V)) (k : κ) : Option V := (kvs.find? fun kv => decide (kv.1 = k)).map (·.2)
/-- in its place, or at the end -/
def putK (kvs : List (κ × V)) (k : κ) (v : V) : List (κ × V) :=
  if (kvs.any fun kv => decide (kv.1 = k)) = true then kvs.map (fun kv => if kv.1 = k then (kv.1, v) else kv) else kvs ++ [(k, v)]
def dropK (kvs : List (κ × V)) (k : κ) : List (κ × V) := kvs.filter fun kv => decide (kv.1 ≠ k)

theorem valV_nil {k : κ} : valV ([] : List (κ × V)) k = none := rfl
theorem valV_pos {p : κ × V} {r : List (κ × V)} {k : κ} (e : p.1 = k) : valV (p :: r) k = some p.2 := by simp [valV, List.find?_cons, e]
theorem valV_neg {p : κ × V} {r : List (κ × V)} {k : κ} (e : ¬ p.1 = k) : valV (p :: r) k = valV r k := by simp [valV, List.find?_cons, e]
theorem valV_any (k : κ) : ∀ kvs : List (κ × V), (kvs.any fun kv => decide (kv.1 = k)) = (valV kvs k).isSome
  | [] => rfl
  | p :: r => by
    rw [List.any_cons]
    by_cases e : p.1 = k
    · simp only [valV_pos e, decide_eq_true e, Bool.true_or, Option.isSome_some]
    · rw [valV_neg e, decide_eq_false e, Bool.false_or]; exact valV_any k r
theorem valV_map (k j : κ) (y : V) : ∀ kvs : List (κ × V), valV (kvs.map fun kv => if kv.1 = k then (kv.1, y) else kv) j = (valV kvs j).map fun x => if j = k then y else x
  | [] => rfl
  | p :: r => by
    have ih := valV_map k j y r
    rw [List.map_cons]
    by_cases h : p.1 = k
    · rw [if_pos h]
      by_cases e : p.1 = j
      · rw [valV_pos (p := (p.1, y)) e, valV_pos e, Option.map_some, if_pos (e.symm.trans h)]
      · rw [valV_neg (p := (p.1, y)) e, valV_neg e, ih]
    · rw [if_neg h]
      by_cases e : p.1 = j
      · rw [valV_pos (p := p) e, valV_pos e, Option.map_some, if_neg (fun z => h (e.trans z))]
      · rw [valV_neg (p := p) e, valV_neg e, ih]
theorem valV_snoc (k j : κ) (y : V) : ∀ kvs : List (κ × V), valV kvs k = none → valV (kvs ++ [(k, y)]) j = if j = k then some y else valV kvs j
  | [], _ => by
    by_cases e : k = j
    · rw [if_pos e.symm]; exact valV_pos (p := (k, y)) e
    · rw [if_neg (fun z => e z.symm)]; exact valV_neg (p := (k, y)) e
  | p :: r, hn => by
    rw [List.cons_append]
    have hk : ¬ p.1 = k := fun z => by rw [valV_pos z] at hn; cases hn
    rw [valV_neg hk] at hn
    have ih := valV_snoc k j y r hn
    by_cases e : p.1 = j
    · rw [valV_pos e, valV_pos e, if_neg (fun z => hk (e.trans z))]
    · rw [valV_neg e, valV_neg e, ih]
theorem valV_put (kvs : List (κ × V)) (k j : κ) (y : V) : valV (putK kvs k y) j = if j = k then some y else valV kvs j := by
  unfold putK
  by_cases a : (kvs.any fun kv => decide (kv.1 = k)) = true
  · rw [if_pos a, valV_map]
    rw [valV_any] at a
    by_cases e : j = k
    · obtain ⟨x, hx⟩ := Option.isSome_iff_exists.mp a
      rw [if_pos e, e, hx, Option.map_some, if_pos rfl]
    · rw [if_neg e]
      cases valV kvs j with
      | none => rfl
      | some x => rw [Option.map_some, if_neg e]
  · rw [if_neg a]
    refine valV_snoc k j y kvs ?_
    rw [valV_any] at a
    cases q : valV kvs k with
    | none => rfl
    | some x => rw [q] at a; exact (a rfl).elim
theorem length_putK (kvs : List (κ × V)) (k : κ) (v : V) : (putK kvs k v).length ≤ kvs.length + 1 := by
  unfold putK
  split
  · rw [List.length_map]; omega
  · rw [List.length_append, List.length_cons, List.length_nil]; omega
theorem putK_new {kvs : List (κ × V)} {k : κ} (v : V) (h : valV kvs k = none) : putK kvs k v = kvs ++ [(k, v)] := by
  unfold putK
  rw [valV_any, h]
  exact if_neg (by decide)

theorem RelO.isSome_eq {o : Option V} {u : Option Value} (r : RelO o u) : o.isSome = u.isSome := by
  cases o with
  | none => cases u with
    | none => rfl
    | some _ => exact (show False from r).elim
  | some _ => cases u with
    | none => exact (show False from r).elim
    | some _ => rfl
theorem RelO.getD {o : Option V} {u : Option Value} {d : V} {d' : Value} (r : RelO o u) (rd : RelV d d') : RelV (o.getD d) (u.getD d') := by
  cases o with
  | none => cases u with
    | none => exact rd
    | some _ => exact (show False from r).elim
  | some _ => cases u with
    | none => exact (show False from r).elim
    | some _ => exact r

/-- raw tables of the same keys -/
theorem KV.val {kvs : List (κ × V)} {vs : List (κ × Value)} (r : KV kvs vs) (k : κ) : RelO (valV kvs k) (valueAt vs k) := by
  unfold KV at r
  induction r with
  | nil => exact True.intro
  | @cons p q ps qs h t ih =>
    obtain ⟨h1, h2⟩ := h
    by_cases e : p.1 = k
    · have e' : q.1 = k := h1.symm.trans e
      have b : valueAt (q :: qs) k = some q.2 := by simp [valueAt, List.find?_cons, e']
      rw [valV_pos e, b]; exact h2
    · have e' : ¬ q.1 = k := fun z => e (h1.trans z)
      have b : valueAt (q :: qs) k = valueAt qs k := by simp [valueAt, List.find?_cons, e']
      rw [valV_neg e, b]; exact ih
theorem KV.any {kvs : List (κ × V)} {vs : List (κ × Value)} (r : KV kvs vs) (k : κ) : (kvs.any fun kv => decide (kv.1 = k)) = vs.any fun kv => decide (kv.1 = k) := by
  unfold KV at r
  induction r with
  | nil => rfl
  | cons h t ih => rw [List.any_cons, List.any_cons, ih, h.1]
theorem KV.repl {kvs : List (κ × V)} {vs : List (κ × Value)} (r : KV kvs vs) (k : κ) {y : V} {u : Value} (ry : RelV y u) :
    KV (kvs.map fun kv => if kv.1 = k then (kv.1, y) else kv) (vs.map fun kv => if kv.1 = k then (kv.1, u) else kv) := by
  unfold KV at r ⊢
  induction r with
  | nil => exact .nil
  | @cons p q ps qs h t ih =>
    rw [List.map_cons, List.map_cons]
    refine .cons ?_ ih
    obtain ⟨h1, h2⟩ := h
    by_cases e : p.1 = k
    · rw [if_pos e, if_pos (h1.symm.trans e)]; exact ⟨h1, ry⟩
    · rw [if_neg e, if_neg (fun z => e (h1.trans z))]; exact ⟨h1, h2⟩
theorem KV.put {kvs : List (κ × V)} {vs : List (κ × Value)} (r : KV kvs vs) (k : κ) {y : V} {u : Value} (ry : RelV y u) : KV (putK kvs k y) (stored vs k u) := by
  unfold putK stored
  rw [r.any k]
  by_cases e : (vs.any fun kv => decide (kv.1 = k)) = true
  · rw [if_pos e, if_pos e]; exact r.repl k ry
  · rw [if_neg e, if_neg e]; exact Paired.snoc r ⟨rfl, ry⟩
theorem KV.drop {kvs : List (κ × V)} {vs : List (κ × Value)} (r : KV kvs vs) (k : κ) : KV (dropK kvs k) (without vs k) := by
  unfold KV at r ⊢
  unfold dropK without
  induction r with
  | nil => exact .nil
  | @cons p q ps qs h t ih =>
    obtain ⟨h1, h2⟩ := h
    rw [List.filter_cons, List.filter_cons]
    by_cases e : p.1 = k
    · have a : ¬ decide (p.1 ≠ k) = true := by simp [e]
      have b : ¬ decide (q.1 ≠ k) = true := by simp [h1.symm.trans e]
      rw [if_neg a, if_neg b]; exact ih
    · have e' : ¬ q.1 = k := fun z => e (h1.trans z)
      have a : decide (p.1 ≠ k) = true := by simp [e]
      have b : decide (q.1 ≠ k) = true := by simp [e']
      rw [if_pos a, if_pos b]; exact .cons ⟨h1, h2⟩ ih
theorem KV.keys {kvs : List (κ × V)} {vs : List (κ × Value)} (r : KV kvs vs) : kvs.map (·.1) = vs.map (·.1) := by
  unfold KV at r
  induction r with
  | nil => rfl
  | cons h t ih => rw [List.map_cons, List.map_cons, ih, h.1]
theorem KV.length {kvs : List (κ × V)} {vs : List (κ × Value)} (r : KV kvs vs) : kvs.length = vs.length := Paired.length r
theorem dropK_le (kvs : List (κ × V)) (k : κ) : (dropK kvs k).length ≤ kvs.length := List.length_filter_le _ _
end


/-! ### a tracked dict, its keys ints and texts or tuples of these -/
theorem kV_is {P : Program} {w : World} {k : Key} {u : Value} (r : RelV (kV k) u) : (mixKind P w).is k u = true := by
  cases k with
  | inl i => obtain ⟨t, e⟩ := (show ∃ t, u = Value.int i t from r); subst e; exact mixKind_int P w i t
  | inr x => obtain ⟨t, e⟩ := (show ∃ t, u = Value.str x t from r); subst e; exact mixKind_str P w x t
theorem kV_inj {a b : Key} (e : kV a = kV b) : a = b := by
  cases a with
  | inl i => cases b with
    | inl j => have e' : V.int i = V.int j := e; injection e' with e'; rw [e']
    | inr y => exact nomatch (show V.int i = V.str y from e)
  | inr x => cases b with
    | inl j => exact nomatch (show V.str x = V.int j from e)
    | inr y => have e' : V.str x = V.str y := e; injection e' with e'; rw [e']
theorem kVs_inj : ∀ {a b : List Key}, a.map kV = b.map kV → a = b
  | [], [], _ => rfl
  | [], _ :: _, e => by simp at e
  | _ :: _, [], e => by simp at e
  | x :: xs, y :: ys, e => by
    rw [List.map_cons, List.map_cons] at e
    injection e with e1 e2
    rw [kV_inj e1, kVs_inj e2]
theorem items_are {P : Program} {w : World} : ∀ {ks : List Key} {us : List Value}, Vals (ks.map kV) us → ItemsAre (mixKind P w) ks us
  | [], _, r => by rw [List.map_nil] at r; cases r; exact .nil
  | k :: ks, _, r => by
    rw [List.map_cons] at r
    cases r with
    | cons h t => exact .cons (kV_is h) (items_are t)

/-- raw entries of a dict with tuple keys -/
abbrev KT (H : Hp) : List (List Key × V) → List (List Key × Addr × Value) → Prop := Paired fun p q => p.1 = q.1 ∧ H q.2.1 = some (.tup (p.1.map kV)) ∧ RelV p.2 q.2.2
theorem KT.val {H : Hp} {kvs : List (List Key × V)} {xs : List (List Key × Addr × Value)} (r : KT H kvs xs) (k : List Key) : RelO (valV kvs k) ((atKey xs k).map (·.2)) := by
  induction r with
  | nil => exact True.intro
  | @cons p q ps qs h t ih =>
    obtain ⟨h1, _, h2⟩ := h
    by_cases e : p.1 = k
    · have e' : q.1 = k := h1.symm.trans e
      have b : atKey (q :: qs) k = some q.2 := by simp [atKey, List.find?_cons, e']
      rw [valV_pos e, b]; exact h2
    · have e' : ¬ q.1 = k := fun z => e (h1.trans z)
      have b : atKey (q :: qs) k = atKey qs k := by simp [atKey, List.find?_cons, e']
      rw [valV_neg e, b]; exact ih
theorem KT.repl {H : Hp} {kvs : List (List Key × V)} {xs : List (List Key × Addr × Value)} (r : KT H kvs xs) (k : List Key) {y : V} {u : Value} (ry : RelV y u) :
    KT H (kvs.map fun kv => if kv.1 = k then (kv.1, y) else kv) (xs.map (putAt k u)) := by
  induction r with
  | nil => exact .nil
  | @cons p q ps qs h t ih =>
    rw [List.map_cons, List.map_cons]
    refine .cons ?_ ih
    obtain ⟨h1, h2, h3⟩ := h
    unfold putAt
    by_cases e : p.1 = k
    · rw [if_pos e, if_pos (h1.symm.trans e)]; exact ⟨h1, h2, ry⟩
    · rw [if_neg e, if_neg (fun z => e (h1.trans z))]; exact ⟨h1, h2, h3⟩
theorem KT.put {H : Hp} {kvs : List (List Key × V)} {xs : List (List Key × Addr × Value)} (r : KT H kvs xs) (k : List Key) {b : Addr} {y : V} {u : Value} (hb : H b = some (.tup (k.map kV))) (ry : RelV y u) :
    KT H (putK kvs k y) (storedH xs k b u) := by
  have e : (kvs.any fun kv => decide (kv.1 = k)) = (atKey xs k).isSome := by
    rw [valV_any, (r.val k).isSome_eq, Option.isSome_map]
  unfold putK storedH
  rw [e]
  by_cases q : (atKey xs k).isSome = true
  · rw [if_pos q, if_pos q]; exact r.repl k ry
  · rw [if_neg q, if_neg q]; exact Paired.snoc r ⟨rfl, hb, ry⟩
theorem KT.keeps {H H' : Hp} {kvs : List (List Key × V)} {xs : List (List Key × Addr × Value)} (r : KT H kvs xs) (ht : ∀ b ys, H b = some (.tup ys) → H' b = some (.tup ys)) : KT H' kvs xs :=
  Paired.mapP r fun _ _ z => ⟨z.1, ht _ _ z.2.1, z.2.2⟩

section
variable {P : Program} {w : World} {H : Hp} {h : Heap} {a : Addr}
theorem rd_of {u : HO} (ok : HOk P w H h) (e : Rd H a u) : ObjOk P w H h a u := e.ok ok
theorem dk_rd {kvs : List (Key × V)} (ok : HOk P w H h) (e : Rd H a (.dK kvs)) : kvs.length ≤ sizeLine ∧ (a == sysModules) = false ∧ ∃ vs, KV kvs vs ∧ h.DictOf (mixKind P w) a vs :=
  show ObjOk P w H h a (.dK kvs) from rd_of ok e
theorem dk_of {kvs : List (Key × V)} (ok : HOk P w H h) (e : H a = some (.dK kvs)) : kvs.length ≤ sizeLine ∧ (a == sysModules) = false ∧ ∃ vs, KV kvs vs ∧ h.DictOf (mixKind P w) a vs := dk_rd ok (.inl e)
/-- a tracked tuple of ints and texts is a key -/
theorem key_of {ks : List Key} (ok : HOk P w H h) (e : H a = some (.tup (ks.map kV))) : (tupleKind (mixKind P w)).is h ks a := by
  obtain ⟨_, its, r, o, h1, h2, n, h3⟩ := (show ObjOk P w H h a (.tup (ks.map kV)) from ok a _ e)
  exact ⟨o, its.toArray, n, h1, h2, h3, by simpa using items_are r⟩
theorem dt_rd {kvs : List (List Key × V)} (ok : HOk P w H h) (e : Rd H a (.dT kvs)) : kvs.length ≤ sizeLine ∧ (a == sysModules) = false ∧
    ∃ xs, KT H kvs xs ∧ h.DictOfH (tupleKind (mixKind P w)) a xs := by
  obtain ⟨z, y, xs, r, o, es, ep, h1, h2, h3, h4, h5⟩ := (show ObjOk P w H h a (.dT kvs) from rd_of ok e)
  refine ⟨z, y, xs, r, o, es, ep, h1, h2, h3, h4, fun x hx => ?_, h5⟩
  have all : ∀ {l : List (List Key × V)} {m : List (List Key × Addr × Value)}, KT H l m → ∀ x ∈ m, (tupleKind (mixKind P w)).is h x.1 x.2.1 := by
    intro l m q
    induction q with
    | nil => intro x hx; exact nomatch hx
    | @cons p q ps qs hq t ih =>
      intro x hx
      rcases List.mem_cons.mp hx with e | hx
      · subst e
        exact key_of ok (by rw [← hq.1]; exact hq.2.1)
      · exact ih x hx
  exact all r x hx
theorem dt_of {kvs : List (List Key × V)} (ok : HOk P w H h) (e : H a = some (.dT kvs)) : kvs.length ≤ sizeLine ∧ (a == sysModules) = false ∧
    ∃ xs, KT H kvs xs ∧ h.DictOfH (tupleKind (mixKind P w)) a xs := dt_rd ok (.inl e)
end

/-- what the dict at a holds at the key y -/
def DGet (H : Hp) (a : Addr) (y : V) (r : Option V) : Prop :=
  (∃ kvs k, Rd H a (.dK kvs) ∧ y = kV k ∧ r = valV kvs k) ∨ ∃ kvs k b, Rd H a (.dT kvs) ∧ y = .ref b ∧ H b = some (.tup (k.map kV)) ∧ r = valV kvs k
/-- the heap behind a[y] = v -/
def DPut (H : Hp) (a : Addr) (y v : V) (H' : Hp) : Prop :=
  (∃ kvs k, H a = some (.dK kvs) ∧ y = kV k ∧ kvs.length < sizeLine ∧ H' = upd H a (.dK (putK kvs k v))) ∨
  ∃ kvs k b, H a = some (.dT kvs) ∧ y = .ref b ∧ H b = some (.tup (k.map kV)) ∧ kvs.length < sizeLine ∧ H' = upd H a (.dT (putK kvs k v))
theorem DGet.k {H : Hp} {a : Addr} {kvs : List (Key × V)} {k : Key} (e : H a = some (.dK kvs)) : DGet H a (kV k) (valV kvs k) := .inl ⟨kvs, k, .inl e, rfl, rfl⟩
theorem DGet.t {H : Hp} {a b : Addr} {kvs : List (List Key × V)} {k : List Key} (e : H a = some (.dT kvs)) (eb : H b = some (.tup (k.map kV))) : DGet H a (.ref b) (valV kvs k) := .inr ⟨kvs, k, b, .inl e, rfl, eb, rfl⟩
theorem DPut.k {H : Hp} {a : Addr} {kvs : List (Key × V)} {k : Key} {v : V} (e : H a = some (.dK kvs)) (hl : kvs.length < sizeLine) : DPut H a (kV k) v (upd H a (.dK (putK kvs k v))) := .inl ⟨kvs, k, e, rfl, hl, rfl⟩
theorem DPut.t {H : Hp} {a b : Addr} {kvs : List (List Key × V)} {k : List Key} {v : V} (e : H a = some (.dT kvs)) (eb : H b = some (.tup (k.map kV))) (hl : kvs.length < sizeLine) :
    DPut H a (.ref b) v (upd H a (.dT (putK kvs k v))) := .inr ⟨kvs, k, b, e, rfl, eb, hl, rfl⟩


section
variable {X : Cx} {pins : List (Addr × Obj)} {σ : St} {H : Hp} {s : Shared} {a : Addr} {y v : V} {u r : Value} {o : Option V} {A : Around} {E : Value → Shared → Prop}

theorem Inv.big (I : Inv X pins σ H s) : sysModules < s.heap.objs.size := by
  have h : mainGlobals < s.heap.objs.size := (I.mod.glob.keeps I.bk).lt
  exact Nat.lt_trans (by decide) h

/-- d[y], there -/
theorem d_getItem {Q : Value → Shared → Prop} (hu : A.units + 1 < cLine) (I : Inv X pins σ H s) (g : DGet H a y (some v)) (ry : RelV y u) (h : ∀ w' s', Inv X pins σ H s' → RelV v w' → Q w' s') :
    wpAny (model X.prog X.w) A (getItem (.ref a) u) Q E s := by
  rcases g with ⟨kvs, k, e, ey, l⟩ | ⟨kvs, k, b, e, ey, eb, l⟩
  · subst ey
    obtain ⟨z, hd, vs, rel, dd⟩ := dk_rd I.hok e
    obtain ⟨w', hw, rw'⟩ := RelO.some_of (v := v) (o := valueAt vs k) (by rw [l]; exact rel.val k)
    exact wpAny_getItem_of (kV_is ry) dd.mapOf hw (h w' _ (I.tok _) rw')
  · subst ey
    cases (show u = Value.ref b from ry)
    obtain ⟨z, hd, xs, rel, dd⟩ := dt_rd I.hok e
    obtain ⟨w', hw, rw'⟩ := RelO.some_of (v := v) (o := (atKey xs k).map (·.2)) (by rw [l]; exact rel.val k)
    obtain ⟨p, hp, hp2⟩ := Option.map_eq_some_iff.mp hw
    refine wpAny_getItem_heap (tupleKind_room_in1 hu) (key_of I.hok eb) dd hp ?_
    rw [hp2]
    exact h w' _ (I.tok _) rw'
/-- y in d -/
theorem d_in {Q : Value → Shared → Prop} (hu : A.units + 1 < cLine) (I : Inv X pins σ H s) (g : DGet H a y o) (ry : RelV y u) (h : ∀ s', Inv X pins σ H s' → Q (.bool o.isSome) s') :
    wpAny (model X.prog X.w) A (compareOp .In u (.ref a)) Q E s := by
  rcases g with ⟨kvs, k, e, ey, l⟩ | ⟨kvs, k, b, e, ey, eb, l⟩
  · subst ey
    obtain ⟨z, hd, vs, rel, dd⟩ := dk_rd I.hok e
    refine wpAny_in_of (kV_is ry) hd dd.mapOf ?_
    rw [← (rel.val k).isSome_eq, ← l]
    exact h _ (I.tok _)
  · subst ey
    cases (show u = Value.ref b from ry)
    obtain ⟨z, hd, xs, rel, dd⟩ := dt_rd I.hok e
    refine wpAny_in_heap (tupleKind_room_in1 hu) (key_of I.hok eb) hd dd ?_
    have q := (rel.val k).isSome_eq
    rw [Option.isSome_map] at q
    rw [← q, ← l]
    exact h _ (I.tok _)
theorem d_notIn {Q : Value → Shared → Prop} (hu : A.units + 1 < cLine) (I : Inv X pins σ H s) (g : DGet H a y o) (ry : RelV y u) (h : ∀ s', Inv X pins σ H s' → Q (.bool (!o.isSome)) s') :
    wpAny (model X.prog X.w) A (compareOp .NotIn u (.ref a)) Q E s := by
  rcases g with ⟨kvs, k, e, ey, l⟩ | ⟨kvs, k, b, e, ey, eb, l⟩
  · subst ey
    obtain ⟨z, hd, vs, rel, dd⟩ := dk_rd I.hok e
    refine wpAny_notIn_of (kV_is ry) hd dd.mapOf ?_
    rw [← (rel.val k).isSome_eq, ← l]
    exact h _ (I.tok _)
  · subst ey
    cases (show u = Value.ref b from ry)
    obtain ⟨z, hd, xs, rel, dd⟩ := dt_rd I.hok e
    refine wpAny_notIn_heap (tupleKind_room_in1 hu) (key_of I.hok eb) hd dd ?_
    have q := (rel.val k).isSome_eq
    rw [Option.isSome_map] at q
    rw [← q, ← l]
    exact h _ (I.tok _)
/-- a dict's object is replaced -/
theorem d_write {h' : Heap} {t' : Nat} {ob : HO} (I : Inv X pins σ H s) (mu : Mut (H a)) (hs : Heap.SameBut a s.heap h') (he : ∃ q, h'.get? a = some q) (new : ObjOk X.prog X.w (upd H a ob) h' a ob) :
    Inv X pins σ (upd H a ob) { s with heap := h', toks := t' } :=
  I.write (x := a) (e := a) mu (.inl rfl) (fun b q hb z => (hs.2 b hb).trans z) he new
theorem dk_new {P : Program} {w : World} {H' : Hp} {h' : Heap} {kvs : List (Key × V)} {vs : List (Key × Value)} (z : kvs.length ≤ sizeLine) (hd : (a == sysModules) = false) (rel : KV kvs vs) (dd : h'.DictOf (mixKind P w) a vs) :
    ObjOk P w H' h' a (.dK kvs) := ⟨z, hd, vs, rel, dd⟩
/-- d[y] = v -/
theorem d_setItem {H' : Hp} {Q : Unit → Shared → Prop} (hu : A.units + 1 < cLine) (I : Inv X pins σ H s) (g : DPut H a y v H') (ry : RelV y u) (rv : RelV v r) (h : ∀ s', Inv X pins σ H' s' → Q () s') :
    wpAny (model X.prog X.w) A (setItem (.ref a) u r) Q E s := by
  rcases g with ⟨kvs, k, e, ey, l, eH⟩ | ⟨kvs, k, b, e, ey, eb, l, eH⟩
  · subst ey eH
    obtain ⟨z, hd, vs, rel, dd⟩ := dk_of I.hok e
    have hz : vs.length ≤ sizeLine := by rw [← rel.length]; exact z
    have hl : (putK kvs k v).length ≤ sizeLine := by have := length_putK kvs k v; omega
    refine wpAny_setItem_pairs (hsz := hz) (kV_is ry) dd fun h' dd' hs => h _ ?_
    have he : ∃ q, h'.get? a = some q := let ⟨q, _, _, hq, _⟩ := dd'; ⟨q, hq⟩
    exact d_write I (by rw [e]; exact True.intro) hs he (dk_new hl hd (rel.put k rv) dd')
  · subst ey eH
    cases (show u = Value.ref b from ry)
    obtain ⟨z, hd, xs, rel, dd⟩ := dt_of I.hok e
    have hz : xs.length ≤ sizeLine := by rw [← Paired.length rel]; exact z
    have hl : (putK kvs k v).length ≤ sizeLine := by have := length_putK kvs k v; omega
    refine wpAny_setItem_heap (hsz := hz) (tupleKind_room_in1 hu) (key_of I.hok eb) dd fun h' dd' hs => h _ ?_
    obtain ⟨q, es, ep, hq, h2, h3, h4, _, h5⟩ := dd'
    refine d_write I (by rw [e]; exact True.intro) hs ⟨q, hq⟩ ⟨hl, hd, _, (rel.put k eb rv).keeps fun c ys ec => ?_, q, es, ep, hq, h2, h3, h4, h5⟩
    rw [upd_ne (ne_of ec e (fun z => nomatch z))]
    exact ec
end

section
variable {X : Cx} {pins : List (Addr × Obj)} {σ : St} {H : Hp} {s : Shared} {a : Addr} {kvs : List (Key × V)} {k : Key} {u : Value} {A : Around} {E : Value → Shared → Prop}
/-- del d[k] -/
theorem d_delItem {Q : Unit → Shared → Prop} (I : Inv X pins σ H s) (e : H a = some (.dK kvs)) (ry : RelV (kV k) u) (l : (valV kvs k).isSome = true) (h : ∀ s', Inv X pins σ (upd H a (.dK (dropK kvs k))) s' → Q () s') :
    wpAny (model X.prog X.w) A (delItem (.ref a) u) Q E s := by
  obtain ⟨z, hd, vs, rel, dd⟩ := dk_of I.hok e
  refine wpAny_delItem_slot dd.typeIs (by decide) PySem.F.slot_dict_delitem
    (call_meetsIn PySem.F.slot_dict_delitem dd.typeIs PySem.F.entry_dict_delitem (PySem.F.args_dict_delitem_2 _ _) (meets_dict_delitem_pairs (mixKind X.prog X.w) a (kV_is ry)) ⟨vs, dd, by rw [← rel.length]; exact z, by rw [← (rel.val k).isSome_eq]; exact l, fun h' dd' hs => h _ ?_⟩)
  have he : ∃ q, h'.get? a = some q := let ⟨q, _, _, hq, _⟩ := dd'; ⟨q, hq⟩
  exact d_write I (by rw [e]; exact True.intro) hs he (dk_new (Nat.le_trans (dropK_le kvs k) z) hd (rel.drop k) dd')
/-- d.pop(k[, x]), there -/
theorem d_pop {v : V} {more : List Value} {Q : Value → Shared → Prop} (I : Inv X pins σ H s) (e : H a = some (.dK kvs)) (ry : RelV (kV k) u) (l : valV kvs k = some v) (hm : more = [] ∨ ∃ x, more = [x])
    (h : ∀ w' s', Inv X pins σ (upd H a (.dK (dropK kvs k))) s' → RelV v w' → Q w' s') : wpAny (model X.prog X.w) A (call (.builtin "dict.pop") (.ref a :: u :: more)) Q E s := by
  obtain ⟨z, hd, vs, rel, dd⟩ := dk_of I.hok e
  obtain ⟨w', hw, rw'⟩ := RelO.some_of (v := v) (o := valueAt vs k) (by rw [← l]; exact rel.val k)
  have hp : (keyPart u).isSome = true := by
    cases k with
    | inl i => obtain ⟨t, q⟩ := (show ∃ t, u = Value.int i t from ry); subst q; rfl
    | inr x => obtain ⟨t, q⟩ := (show ∃ t, u = Value.str x t from ry); subst q; rfl
  have ha : argsOk "dict.pop" ⟨.ref a :: u :: more, []⟩ := by
    rcases hm with q | ⟨x, q⟩
    · subst q; exact PySem.F.args_dict_pop_2 _ _
    · subst q; exact PySem.F.args_dict_pop_3 _ _ _
  refine call_meetsIn PySem.F.slot_dict_pop dd.typeIs PySem.F.entry_dict_pop ha (meets_dict_pop_there (mixKind X.prog X.w) a (kV_is ry) more hm hp)
    ⟨vs, w', dd, by rw [← rel.length]; exact z, hw, fun h' dd' hs => h w' _ ?_ rw'⟩
  have he : ∃ q, h'.get? a = some q := let ⟨q, _, _, hq, _⟩ := dd'; ⟨q, hq⟩
  exact d_write I (by rw [e]; exact True.intro) hs he (dk_new (Nat.le_trans (dropK_le kvs k) z) hd (rel.drop k) dd')
/-- d.pop(k, x), not there -/
theorem d_popD {r : Value} {Q : Value → Shared → Prop} (I : Inv X pins σ H s) (e : H a = some (.dK kvs)) (ry : RelV (kV k) u) (l : valV kvs k = none) (h : ∀ s', Inv X pins σ H s' → Q r s') :
    wpAny (model X.prog X.w) A (call (.builtin "dict.pop") [.ref a, u, r]) Q E s := by
  obtain ⟨z, hd, vs, rel, dd⟩ := dk_of I.hok e
  have hn : valueAt vs k = none := RelO.none_of (by rw [← l]; exact rel.val k)
  have hp : (keyPart u).isSome = true := by
    cases k with
    | inl i => obtain ⟨t, q⟩ := (show ∃ t, u = Value.int i t from ry); subst q; rfl
    | inr x => obtain ⟨t, q⟩ := (show ∃ t, u = Value.str x t from ry); subst q; rfl
  exact call_meetsIn PySem.F.slot_dict_pop dd.typeIs PySem.F.entry_dict_pop (PySem.F.args_dict_pop_3 _ _ _) (meets_dict_pop_default (mixKind X.prog X.w) a (kV_is ry) hd hp r) ⟨vs, dd, hn, h _ (I.tok _)⟩
/-- d.clear() -/
theorem d_clear {Q : Value → Shared → Prop} (I : Inv X pins σ H s) (e : H a = some (.dK kvs)) (h : ∀ s', Inv X pins σ (upd H a (.dK [])) s' → Q .none s') : wpAny (model X.prog X.w) A (call (.builtin "dict.clear") [.ref a]) Q E s := by
  obtain ⟨z, hd, vs, rel, dd⟩ := dk_of I.hok e
  refine call_meetsIn PySem.F.slot_dict_clear dd.typeIs PySem.F.entry_dict_clear (PySem.F.args_dict_clear_1 _) (meets_dict_clear (mixKind X.prog X.w) a) ⟨vs, dd, by rw [← rel.length]; exact z, fun h' dd' hs => h _ ?_⟩
  have he : ∃ q, h'.get? a = some q := let ⟨q, _, _, hq, _⟩ := dd'; ⟨q, hq⟩
  exact d_write (t' := s.toks) I (by rw [e]; exact True.intro) hs he (dk_new (Nat.zero_le _) hd .nil dd')
/-- len(d) -/
theorem d_len {Q : Value → Shared → Prop} (I : Inv X pins σ H s) (e : Rd H a (.dK kvs)) (h : ∀ t s', Inv X pins σ H s' → Q (.int kvs.length t) s') : wpAny (model X.prog X.w) A (call (.builtin "len") [.ref a]) Q E s := by
  obtain ⟨z, hd, vs, rel, dd⟩ := dk_rd I.hok e
  refine call_len_dict hd dd (by rw [← rel.length]; rw [sizeLine_eq] at z; omega) ?_
  rw [← rel.length]
  exact h _ _ (I.tok _)
/-- if d -/
theorem d_truth {Q : Bool → Shared → Prop} (I : Inv X pins σ H s) (e : Rd H a (.dK kvs)) (h : ∀ s', Inv X pins σ H s' → Q (!kvs.isEmpty) s') : wpAny (model X.prog X.w) A (truthy (.ref a)) Q E s := by
  obtain ⟨z, hd, vs, rel, dd⟩ := dk_rd I.hok e
  refine wpAny_truthy_dict hd dd (by rw [← rel.length]; rw [sizeLine_eq] at z; omega) ?_
  have q : kvs.isEmpty = vs.isEmpty := by cases rel <;> rfl
  rw [← q]
  exact h _ (I.tok _)
end


/-! ### readings and rules -/
/-- the element of a subscription, not a slice -/
def NoSl (i : Expr) : Prop := ∀ ov iv, subscripted i false ov iv = operate [ov, iv] (getItem ov iv)
theorem subD_of {prog : Program} {w : World} {A : Around} {E : Value → Shared → Prop} {s : Shared} {env : Env} {value slice : Expr} {pos : Pos} {T id : String} {Q : Value → Shared → Prop}
    (hl : typeLookup (.type T) "__getitem__" = pure (some (.builtin id))) (hs : NoSl slice)
    (h : wpAny (model prog w) A (eval value env) (fun o s₁ => wpAny (model prog w) A (eval slice env) (fun i s₂ => s₂.TypeIs o T ∧ wpAny (model prog w) A (getItem o i) Q E s₂) E s₁) E s) :
    wpAny (model prog w) A (eval (.Subscript value slice pos) env) Q E s := by
  refine Subscript_ (wpAny_mono h (fun o s₁ h₁ => wpAny_mono h₁ (fun i s₂ h₂ => ?_) fun _ _ x => x) fun _ _ x => x)
  obtain ⟨hT, h₂⟩ := h₂
  unfold subscriptTail
  refine wpAny_bind ?_
  rw [getitemInPython_of_ne hT.not_modules]
  refine wpAny_bind (wpAny_specialOf hT hl ?_)
  have fin : wpAny (model prog w) A (subscripted slice false o i) (fun r s₃ => wpAny (model prog w) A (letTemporaryGo value o r >>= fun _ => pure r) Q E s₃) E s₂ := by
    rw [hs o i]
    exact wpAny_operating (wpAny_mono h₂ (fun r s₃ h₃ => wpAny_bind (wpAny_letTemporaryGo (wpAny_pure h₃))) fun _ _ x => x)
  first
    | exact wpAny_pure (wpAny_bind fin)
    | exact wpAny_bind (wpAny_pure (wpAny_bind fin))
    | exact wpAny_bind fin

theorem dict_typeIs {X : Cx} {pins : List (Addr × Obj)} {σ : St} {H : Hp} {s : Shared} {a : Addr} {y : V} {o : Option V} (I : Inv X pins σ H s) (g : DGet H a y o) : s.TypeIs (.ref a) "dict" := by
  rcases g with ⟨kvs, k, e, _, _⟩ | ⟨kvs, k, b, e, _, _, _⟩
  · obtain ⟨_, _, vs, _, dd⟩ := dk_rd I.hok e
    exact dd.typeIs
  · obtain ⟨_, _, xs, _, dd⟩ := dt_rd I.hok e
    exact dd.typeIs
theorem dict_noDict {X : Cx} {pins : List (Addr × Obj)} {σ : St} {H : Hp} {s : Shared} {a : Addr} {y : V} {o : Option V} (I : Inv X pins σ H s) (g : DGet H a y o) :
    ∀ b, Value.ref a = .ref b → ∃ ob, s.heap.get? b = some ob ∧ ob.dict = none := fun b q => by
  cases q
  rcases g with ⟨kvs, k, e, _, _⟩ | ⟨kvs, k, b, e, _, _, _⟩
  · obtain ⟨_, _, vs, _, ob, _, _, h1, h2, _⟩ := dk_rd I.hok e
    exact ⟨ob, h1, h2.2.1⟩
  · obtain ⟨_, _, xs, _, ob, _, _, h1, h2, _⟩ := dt_rd I.hok e
    exact ⟨ob, h1, h2.2.1⟩

/-- d[y] -/
def tDGet (td ty : TE) : TE := fun σ H Q => td σ H fun x H1 => ty σ H1 fun y H2 => ∃ a v, x = .ref a ∧ DGet H2 a y (some v) ∧ Q v H2
/-- y in d, y not in d -/
def tDIn (ty td : TE) : TE := fun σ H Q => ty σ H fun y H1 => td σ H1 fun x H2 => ∃ a o, x = .ref a ∧ DGet H2 a y o ∧ Q (.bl o.isSome) H2
def tDNotIn (ty td : TE) : TE := fun σ H Q => ty σ H fun y H1 => td σ H1 fun x H2 => ∃ a o, x = .ref a ∧ DGet H2 a y o ∧ Q (.bl (!o.isSome)) H2
/-- d[y] = v -/
def sDPut (td ty tv : TE) : TS := fun D σ H => tv σ H fun v H1 => td σ H1 fun x H2 => ty σ H2 fun y H3 => ∃ a H4, x = .ref a ∧ DPut H3 a y v H4 ∧ D.nx σ H4
/-- d[y] op= v -/
def sDAug (td ty tv : TE) (rd : V → V → Hp → VK → Prop) : TS := fun D σ H => td σ H fun x H1 => ty σ H1 fun y H2 => ∃ a v, x = .ref a ∧ DGet H2 a y (some v) ∧
  tv σ H2 fun y2 H3 => rd v y2 H3 fun z H4 => ∃ H5, DPut H4 a y z H5 ∧ D.nx σ H5
/-- del d[y] -/
def sDDel (td ty : TE) : TS := fun D σ H => td σ H fun x H1 => ty σ H1 fun y H2 => ∃ a kvs k, x = .ref a ∧ H2 a = some (.dK kvs) ∧ y = kV k ∧ (valV kvs k).isSome = true ∧ D.nx σ (upd H2 a (.dK (dropK kvs k)))

section
variable {X : Cx} {o i e value : Expr} {pos pos' tpos : Pos} {td ty tv : TE}
theorem pe_dget (hu : X.A.units + 1 < cLine) (ho : PE X o td) (hi : PE X i ty) (hs : NoSl i) : PE X (.Subscript o i pos) (tDGet td ty) := by
  intro pins s σ H Q I h
  refine subD_of PySem.F.slot_dict_getitem.lookup hs (thn (ho pins s σ H _ I h) fun u s1 ⟨x, H1, I1, rx, q1⟩ => thn (hi pins s1 σ H1 _ I1 q1) fun iv s2 ⟨y, H2, I2, ry, a, v, ex, g, q2⟩ => ?_)
  subst ex
  obtain rfl : u = Value.ref a := rx
  exact ⟨dict_typeIs I2 g, d_getItem hu I2 g ry fun w' s3 I3 rw' => ⟨v, H2, I3, rw', q2⟩⟩
theorem pc_din (hu : X.A.units + 1 < cLine) (hi : PE X i ty) (ho : PE X o td) : PC X .In i o (tDIn ty td) := by
  intro pins s σ H Q I h
  refine thn (hi pins s σ H _ I h) fun iv s1 ⟨y, H1, I1, ry, q1⟩ => thn (ho pins s1 σ H1 _ I1 q1) fun u s2 ⟨x, H2, I2, rx, a, ov, ex, g, q2⟩ => ?_
  subst ex
  obtain rfl : u = Value.ref a := rx
  exact d_in hu I2 g ry fun s3 I3 => ⟨.bl ov.isSome, H2, I3, rfl, q2⟩
theorem pc_dnotin (hu : X.A.units + 1 < cLine) (hi : PE X i ty) (ho : PE X o td) : PC X .NotIn i o (tDNotIn ty td) := by
  intro pins s σ H Q I h
  refine thn (hi pins s σ H _ I h) fun iv s1 ⟨y, H1, I1, ry, q1⟩ => thn (ho pins s1 σ H1 _ I1 q1) fun u s2 ⟨x, H2, I2, rx, a, ov, ex, g, q2⟩ => ?_
  subst ex
  obtain rfl : u = Value.ref a := rx
  exact d_notIn hu I2 g ry fun s3 I3 => ⟨.bl (!ov.isSome), H2, I3, rfl, q2⟩
theorem ps_dput (hu : X.A.units + 1 < cLine) (ho : PE X o td) (hi : PE X i ty) (hv : PE X value tv) (hs : swapsWith value (some (.Subscript o i pos')) pos.line X.env = pure false) :
    PS X (.Assign [.Subscript o i pos'] value pos) (sDPut td ty tv) := by
  intro pins s σ H D I h
  refine wpAny_Assign_Subscript (thn (hv pins s σ H _ I h) fun r s1 ⟨v, H1, I1, rv, q1⟩ => thn (ho pins s1 σ H1 _ I1 q1) fun u s2 ⟨x, H2, I2, rx, q2⟩ => thn (hi pins s2 σ H2 _ I2 q2) fun iv s3 ⟨y, H3, I3, ry, a, H4, ex, g, q3⟩ => ?_) hs
  subst ex
  obtain rfl : u = Value.ref a := rx
  exact d_setItem hu I3 g ry rv fun s4 I4 => ⟨σ, H4, I4, q3⟩
theorem ps_daug {op : Operator} {rd : V → V → Hp → VK → Prop} (hu : X.A.units + 1 < cLine) (ho : PE X o td) (hi : PE X i ty) (hv : PE X value tv) (hop : InOp X op rd)
    (ha : ∀ ov iv new, augStore i ov iv new = (do holding [new, ov, iv] (setItem ov iv new); release [new, ov, iv] []; pure .next)) : PS X (.AugAssign (.Subscript o i tpos) op value pos) (sDAug td ty tv rd) := by
  intro pins s σ H D I h
  refine wpAny_AugAssign_SubscriptAny (thn (ho pins s σ H _ I h) fun u s1 ⟨x, H1, I1, rx, q1⟩ => thn (hi pins s1 σ H1 _ I1 q1) fun iv s2 ⟨y, H2, I2, ry, a, v, ex, g, q2⟩ => ?_) ha
  subst ex
  obtain rfl : u = Value.ref a := rx
  refine d_getItem hu I2 g ry fun w' s3 I3 rw' => thn (hv pins s3 σ H2 _ I3 q2) fun w2 s4 ⟨y2, H3, I4, ry2, q3⟩ => thn (hop pins s4 σ H3 v y2 w' w2 _ I4 rw' ry2 q3) fun w3 s5 ⟨z, H4, I5, rz, H5, g5, q4⟩ => ?_
  exact d_setItem hu I5 g5 ry rz fun s6 I6 => ⟨σ, H5, I6, q4⟩
theorem ps_ddel (ho : PE X o td) (hi : PE X i ty) : PS X (.Delete [.Subscript o i tpos] pos) (sDDel td ty) := by
  intro pins s σ H D I h
  refine wpAny_Delete (wpAny_deleteEach_cons (wpAny_delete_Subscript (thn (ho pins s σ H _ I h) fun u s1 ⟨x, H1, I1, rx, q1⟩ => thn (hi pins s1 σ H1 _ I1 q1) fun iv s2 ⟨y, H2, I2, ry, a, kvs, k, ex, e, ey, l, q2⟩ => ?_)))
  subst ex ey
  obtain rfl : u = Value.ref a := rx
  exact d_delItem I2 e ry l fun s3 I3 => wpAny_deleteEach_nil ⟨σ, _, I3, q2⟩
end


/-! ### displays -/
theorem dk_empty {P : Program} {w : World} {H : Hp} (h : Heap) (hb : sysModules < h.objs.size) : ObjOk P w H (h.push { cls := .type "dict", data := .dict #[] }) h.objs.size (.dK []) :=
  ⟨Nat.zero_le _, beq_eq_false_iff_ne.mpr (Ne.symm (Nat.ne_of_lt hb)), [], .nil, Heap.DictOf.new h⟩
theorem dt_empty {P : Program} {w : World} {H : Hp} (h : Heap) (hb : sysModules < h.objs.size) : ObjOk P w H (h.push { cls := .type "dict", data := .dict #[] }) h.objs.size (.dT []) :=
  ⟨Nat.zero_le _, beq_eq_false_iff_ne.mpr (Ne.symm (Nat.ne_of_lt hb)), [], .nil, _, #[], 0, Heap.get?_push_size _ rfl, ⟨rfl, rfl, rfl⟩, rfl, rfl, List.nodup_nil⟩
/-- {}, to be a dict of the kind that is wanted -/
def tDNewK : TE := fun _ H Q => ∀ p, H p = none → Q (.ref p) (upd H p (.dK []))
def tDNewT : TE := fun _ H Q => ∀ p, H p = none → Q (.ref p) (upd H p (.dT []))
section
variable {X : Cx} {pos : Pos}
theorem pe_dnewK : PE X (.Dict [] [] pos) tDNewK := fun pins s σ H Q I h =>
  wpAny_Dict_empty ⟨.ref s.heap.objs.size, _, I.laid (a := s.heap.objs.size) (o := .dK []) (t' := s.toks) (fun _ _ q => Heap.get?_push_of_some _ q) (Nat.le_refl _) (dk_empty s.heap I.big), rfl, h _ (I.hok.fresh (Nat.le_refl _))⟩
theorem pe_dnewT : PE X (.Dict [] [] pos) tDNewT := fun pins s σ H Q I h =>
  wpAny_Dict_empty ⟨.ref s.heap.objs.size, _, I.laid (a := s.heap.objs.size) (o := .dT []) (t' := s.toks) (fun _ _ q => Heap.get?_push_of_some _ q) (Nat.le_refl _) (dt_empty s.heap I.big), rfl, h _ (I.hok.fresh (Nat.le_refl _))⟩
end

/-- the pairs of a display, from the left -/
def tPairs : List (TE × TE) → St → Hp → (List (V × V) → Hp → Prop) → Prop
  | [], _, H, Q => Q [] H
  | (tk, tv) :: r, σ, H, Q => tk σ H fun x H1 => tv σ H1 fun y H2 => tPairs r σ H2 fun ps H3 => Q ((x, y) :: ps) H3
abbrev VV : List (V × V) → List (Value × Value) → Prop := Paired fun p q => RelV p.1 q.1 ∧ RelV p.2 q.2
def PPs (X : Cx) (pos : Pos) (keys : List (Option Expr)) (values : List Expr) (trs : List (TE × TE)) : Prop :=
  ∀ (pins : List (Addr × Obj)) (s : Shared) (σ : St) (H : Hp) (Q : List (V × V) → Hp → Prop), Inv X pins σ H s → tPairs trs σ H Q →
    wpAny (model X.prog X.w) X.A (evalPairs (pairTrees keys values X.env pos)) (fun vs s' => ∃ ps H', Inv X pins σ H' s' ∧ VV ps vs ∧ Q ps H') X.xe s
theorem pps_nil {X : Cx} {pos : Pos} : PPs X pos [] [] [] := fun pins s σ H Q I h => pairTrees_nil_walk ⟨[], H, I, .nil, h⟩
theorem pps_cons {X : Cx} {pos : Pos} {k v : Expr} {ks : List (Option Expr)} {vs : List Expr} {tk tv : TE} {trs : List (TE × TE)} (hk : PE X k tk) (hv : PE X v tv) (hr : PPs X pos ks vs trs) :
    PPs X pos (some k :: ks) (v :: vs) ((tk, tv) :: trs) := fun pins s σ H Q I h =>
  pairTrees_cons_walk (thn (hk pins s σ H _ I h) fun u s1 ⟨x, H1, I1, rx, q1⟩ => thn (hv pins s1 σ H1 _ I1 q1) fun w2 s2 ⟨y, H2, I2, ry, q2⟩ =>
    thn (hr pins s2 σ H2 _ I2 q2) fun ws s3 ⟨ps, H3, I3, rel, q3⟩ => ⟨(x, y) :: ps, H3, I3, .cons ⟨rx, ry⟩ rel, q3⟩)

def mergeK (kvs more : List (Key × V)) : List (Key × V) := more.foldl (fun acc kv => putK acc kv.1 kv.2) kvs
theorem KV.merge : ∀ {more : List (Key × V)} {rs : List (Key × Value)} {kvs : List (Key × V)} {vs : List (Key × Value)}, KV more rs → KV kvs vs → KV (mergeK kvs more) (merged vs rs) := by
  intro more rs kvs vs r
  unfold KV at r
  induction r generalizing kvs vs with
  | nil => intro q; exact q
  | @cons p q ps qs h t ih =>
    intro r0
    have e : KV (putK kvs p.1 p.2) (stored vs q.1 q.2) := by
      have := r0.put p.1 h.2
      rw [← h.1]; exact this
    exact ih e
theorem length_mergeK : ∀ (more kvs : List (Key × V)), (mergeK kvs more).length ≤ kvs.length + more.length
  | [], kvs => by show kvs.length ≤ kvs.length + 0; omega
  | p :: r, kvs => by
    have h1 := length_mergeK r (putK kvs p.1 p.2)
    have h2 := length_putK kvs p.1 p.2
    show (mergeK (putK kvs p.1 p.2) r).length ≤ _
    rw [List.length_cons]; omega
theorem carries_of {P : Program} {w : World} : ∀ {kvs : List (Key × V)} {ws : List (Value × Value)}, VV (kvs.map fun kv => (kV kv.1, kv.2)) ws → ∃ rs, Carries (mixKind P w) ws rs ∧ KV kvs rs
  | [], _, r => by rw [List.map_nil] at r; cases r; exact ⟨[], True.intro, .nil⟩
  | p :: kvs, _, r => by
    rw [List.map_cons] at r
    cases r with
    | @cons a b as bs h t =>
      obtain ⟨rs, c, q⟩ := carries_of (P := P) (w := w) t
      obtain ⟨b1, b2⟩ := b
      exact ⟨(p.1, b2) :: rs, ⟨kV_is h.1, rfl, c⟩, .cons ⟨rfl, h.2⟩ q⟩
/-- {k: v, ..} with keys ints and texts; the new dict stands empty while the pairs are made -/
def tDisp (trs : List (TE × TE)) : TE := fun σ H Q => ∀ p, H p = none → tPairs trs σ (upd H p (.dK [])) fun ps H2 => H2 p = some (.dK []) ∧ ∃ kvs : List (Key × V), ps = kvs.map (fun kv => (kV kv.1, kv.2)) ∧ kvs.length ≤ 15 ∧ Q (.ref p) (upd H2 p (.dK (mergeK [] kvs)))
theorem pe_disp {X : Cx} {pos : Pos} {keys : List (Option Expr)} {values : List Expr} {trs : List (TE × TE)} (h : PPs X pos keys values trs) (hall : keys.all (·.isSome) = true) (hl : keys.length = values.length) (h0 : keys ≠ [])
    (h15 : keys.length ≤ 15) : PE X (.Dict keys values pos) (tDisp trs) := by
  intro pins s σ H Q I q
  have hn := I.hok.fresh (Nat.le_refl s.heap.objs.size)
  have I1 := I.laid (a := s.heap.objs.size) (o := .dK []) (h' := s.heap.push { cls := .type "dict", data := .dict #[] }) (t' := s.toks) (fun _ _ q => Heap.get?_push_of_some _ q) (Nat.le_refl _) (dk_empty s.heap I.big)
  refine wpAny_Dict_walk (knd := mixKind X.prog X.w) hall hl h0 h15 (thn (h pins _ σ _ _ I1 (q _ hn)) fun ws s2 ⟨ps, H2, I2, rel, e, kvs, ep, lk, q2⟩ => ?_)
  subst ep
  obtain ⟨rs, c, rk⟩ := carries_of (P := X.prog) (w := X.w) rel
  obtain ⟨z, hd, vs0, r0, dd⟩ := dk_of I2.hok e
  cases r0
  refine ⟨rs, c, dd, fun h' dd' hs => ⟨.ref s.heap.objs.size, _, ?_, rfl, q2⟩⟩
  have hz : (mergeK [] kvs).length ≤ sizeLine := by
    have h1 := length_mergeK kvs []
    rw [List.length_nil] at h1
    rw [sizeLine_eq]; omega
  have he : ∃ q, h'.get? s.heap.objs.size = some q := let ⟨q, _, _, hq, _⟩ := dd'; ⟨q, hq⟩
  exact d_write I2 (by rw [e]; exact True.intro) hs he (dk_new hz hd (rk.merge .nil) dd')


/-! ### methods -/
/-- a method call o.m(e) of a built-in, with one argument: what must be seen of the text -/
structure M1 (X : Cx) (o : Expr) (m : Str) (apos : Pos) (e : Expr) (cpos : Pos) : Prop where
  base : attributeBase o m X.env (eval o X.env) = eval o X.env
  few : ((backTo cpos (starEach [e] X.env)).all (fun x => !x.1) && (backToKw cpos (keywordEach [] X.env)).all (fun x => x.1.isSome)
    && decide (([e] : List Expr).length + ([] : List Keyword).length + (if ([] : List Keyword).isEmpty then 0 else 1) < 30)) = true
  line : (apos.endLine == cpos.line) = true
  trees : backTo cpos (starEach [e] X.env) = [(false, eval e X.env)]
structure M2 (X : Cx) (o : Expr) (m : Str) (apos : Pos) (e f : Expr) (cpos : Pos) : Prop where
  base : attributeBase o m X.env (eval o X.env) = eval o X.env
  few : ((backTo cpos (starEach [e, f] X.env)).all (fun x => !x.1) && (backToKw cpos (keywordEach [] X.env)).all (fun x => x.1.isSome)
    && decide (([e, f] : List Expr).length + ([] : List Keyword).length + (if ([] : List Keyword).isEmpty then 0 else 1) < 30)) = true
  line : (apos.endLine == cpos.line) = true
  trees : backTo cpos (starEach [e, f] X.env) = [(false, eval e X.env), (false, eval f X.env)]

/-- a is a dict, whatever its keys -/
def IsD (H : Hp) (a : Addr) : Prop := (∃ kvs, Rd H a (.dK kvs)) ∨ ∃ kvs, Rd H a (.dT kvs)
theorem isD_at {X : Cx} {pins : List (Addr × Obj)} {σ : St} {H : Hp} {s : Shared} {a : Addr} (I : Inv X pins σ H s) (d : IsD H a) :
    s.TypeIs (.ref a) "dict" ∧ (∀ b, Value.ref a = .ref b → ∃ ob, s.heap.get? b = some ob ∧ ob.dict = none) ∧ (a == sysModules) = false := by
  rcases d with ⟨kvs, e⟩ | ⟨kvs, e⟩
  · obtain ⟨_, hd, vs, _, dd⟩ := dk_rd I.hok e
    refine ⟨dd.typeIs, fun b q => ?_, hd⟩
    cases q
    obtain ⟨ob, _, _, h1, h2, _⟩ := dd
    exact ⟨ob, h1, h2.2.1⟩
  · obtain ⟨_, hd, xs, _, dd⟩ := dt_rd I.hok e
    refine ⟨dd.typeIs, fun b q => ?_, hd⟩
    cases q
    obtain ⟨ob, _, _, h1, h2, _⟩ := dd
    exact ⟨ob, h1, h2.2.1⟩

section
variable {X : Cx} {pins : List (Addr × Obj)} {σ : St} {H : Hp} {s : Shared} {a : Addr} {y d : V} {u r : Value} {o : Option V} {A : Around} {E : Value → Shared → Prop}
/-- d.get(y) -/
theorem d_get1 {Q : Value → Shared → Prop} (hu : A.units + 1 < cLine) (I : Inv X pins σ H s) (g : DGet H a y o) (ry : RelV y u) (h : ∀ w' s', Inv X pins σ H s' → RelV (o.getD .non) w' → Q w' s') :
    wpAny (model X.prog X.w) A (call (.builtin "dict.get") [.ref a, u]) Q E s := by
  rcases g with ⟨kvs, k, e, ey, l⟩ | ⟨kvs, k, b, e, ey, eb, l⟩
  · subst ey
    obtain ⟨z, hd, vs, rel, dd⟩ := dk_rd I.hok e
    refine call_meetsIn PySem.F.slot_dict_get dd.typeIs PySem.F.entry_dict_get (PySem.F.args_dict_get_2 _ _) (meets_dict_get (mixKind X.prog X.w) a (kV_is ry) hd) ⟨_, dd.mapOf, h _ _ (I.tok _) ?_⟩
    rw [l]
    exact (rel.val k).getD rfl
  · subst ey
    cases (show u = Value.ref b from ry)
    obtain ⟨z, hd, xs, rel, dd⟩ := dt_rd I.hok e
    refine call_meetsIn PySem.F.slot_dict_get dd.typeIs PySem.F.entry_dict_get (PySem.F.args_dict_get_2 _ _) (meetsH_dict_get (tupleKind (mixKind X.prog X.w)) a b hd) ⟨tupleKind_room_in1 hu, k, xs, key_of I.hok eb, dd, h _ _ (I.tok _) ?_⟩
    rw [l]
    exact (rel.val k).getD rfl
/-- d.get(y, x) -/
theorem d_get2 {Q : Value → Shared → Prop} (hu : A.units + 1 < cLine) (I : Inv X pins σ H s) (g : DGet H a y o) (ry : RelV y u) (rd : RelV d r) (h : ∀ w' s', Inv X pins σ H s' → RelV (o.getD d) w' → Q w' s') :
    wpAny (model X.prog X.w) A (call (.builtin "dict.get") [.ref a, u, r]) Q E s := by
  rcases g with ⟨kvs, k, e, ey, l⟩ | ⟨kvs, k, b, e, ey, eb, l⟩
  · subst ey
    obtain ⟨z, hd, vs, rel, dd⟩ := dk_rd I.hok e
    refine call_meetsIn PySem.F.slot_dict_get dd.typeIs PySem.F.entry_dict_get (PySem.F.args_dict_get_3 _ _ _) (meets_dict_get_default (mixKind X.prog X.w) a (kV_is ry) hd r) ⟨_, dd.mapOf, h _ _ (I.tok _) ?_⟩
    rw [l]
    exact (rel.val k).getD rd
  · subst ey
    cases (show u = Value.ref b from ry)
    obtain ⟨z, hd, xs, rel, dd⟩ := dt_rd I.hok e
    refine call_meetsIn PySem.F.slot_dict_get dd.typeIs PySem.F.entry_dict_get (PySem.F.args_dict_get_3 _ _ _) (meetsH_dict_get_default (tupleKind (mixKind X.prog X.w)) a b hd r) ⟨tupleKind_room_in1 hu, k, xs, key_of I.hok eb, dd, h _ _ (I.tok _) ?_⟩
    rw [l]
    exact (rel.val k).getD rd
end

def tDGet1 (td ty : TE) : TE := fun σ H Q => td σ H fun x H1 => ∃ a, x = .ref a ∧ IsD H1 a ∧ ty σ H1 fun y H2 => ∃ o, DGet H2 a y o ∧ Q (o.getD .non) H2
def tDGet2 (td ty tx : TE) : TE := fun σ H Q => td σ H fun x H1 => ∃ a, x = .ref a ∧ IsD H1 a ∧ ty σ H1 fun y H2 => tx σ H2 fun z H3 => ∃ o, DGet H3 a y o ∧ Q (o.getD z) H3
/-- d.pop(k): there; d.pop(k, x): there or not -/
def tDPop1 (td ty : TE) : TE := fun σ H Q => td σ H fun x H1 => ∃ a, x = .ref a ∧ IsD H1 a ∧ ty σ H1 fun y H2 => ∃ kvs k v, H2 a = some (.dK kvs) ∧ y = kV k ∧ valV kvs k = some v ∧ Q v (upd H2 a (.dK (dropK kvs k)))
def tDPop2 (td ty tx : TE) : TE := fun σ H Q => td σ H fun x H1 => ∃ a, x = .ref a ∧ IsD H1 a ∧ ty σ H1 fun y H2 => tx σ H2 fun z H3 => ∃ kvs k, H3 a = some (.dK kvs) ∧ y = kV k ∧
  (∀ v, valV kvs k = some v → Q v (upd H3 a (.dK (dropK kvs k)))) ∧ (valV kvs k = none → Q z H3)
section
variable {X : Cx} {o e f : Expr} {apos cpos : Pos} {td ty tx : TE}
theorem pe_dget1 (hu : X.A.units + 1 < cLine) (ho : PE X o td) (he : PE X e ty) (m : M1 X o "get" apos e cpos) : PE X (.Call (.Attribute o "get" apos) [e] [] cpos) (tDGet1 td ty) := by
  intro pins s σ H Q I h
  refine wpAny_Call_method m.base m.few m.line PySem.F.plainAttrs_dict PySem.F.slot_dict_get PySem.F.type_dict_get (thn (ho pins s σ H _ I h) fun u s1 ⟨x, H1, I1, rx, a, ex, d, q1⟩ => ?_)
  subst ex
  obtain rfl : u = Value.ref a := rx
  obtain ⟨t1, t2, _⟩ := isD_at I1 d
  refine ⟨t1, t2, ?_⟩
  rw [m.trees]
  refine Calls.callWith_builtin rfl (Calls.evalArgs_plain (Calls.spliced_cons (thn (he pins s1 σ H1 _ I1 q1) fun iv s2 ⟨y, H2, I2, ry, ov, g, q2⟩ => Calls.spliced_nil ?_)))
  exact d_get1 hu I2 g ry fun w' s3 I3 rw' => ⟨_, H2, I3, rw', q2⟩
theorem pe_dget2 (hu : X.A.units + 1 < cLine) (ho : PE X o td) (he : PE X e ty) (hf : PE X f tx) (m : M2 X o "get" apos e f cpos) : PE X (.Call (.Attribute o "get" apos) [e, f] [] cpos) (tDGet2 td ty tx) := by
  intro pins s σ H Q I h
  refine wpAny_Call_method m.base m.few m.line PySem.F.plainAttrs_dict PySem.F.slot_dict_get PySem.F.type_dict_get (thn (ho pins s σ H _ I h) fun u s1 ⟨x, H1, I1, rx, a, ex, d, q1⟩ => ?_)
  subst ex
  obtain rfl : u = Value.ref a := rx
  obtain ⟨t1, t2, _⟩ := isD_at I1 d
  refine ⟨t1, t2, ?_⟩
  rw [m.trees]
  refine Calls.callWith_builtin rfl (Calls.evalArgs_plain (Calls.spliced_cons (thn (he pins s1 σ H1 _ I1 q1) fun iv s2 ⟨y, H2, I2, ry, q2⟩ =>
    Calls.spliced_cons (thn (hf pins s2 σ H2 _ I2 q2) fun fv s3 ⟨z, H3, I3, rz, ov, g, q3⟩ => Calls.spliced_nil ?_))))
  exact d_get2 hu I3 g ry rz fun w' s4 I4 rw' => ⟨_, H3, I4, rw', q3⟩
theorem pe_dpop1 (ho : PE X o td) (he : PE X e ty) (m : M1 X o "pop" apos e cpos) : PE X (.Call (.Attribute o "pop" apos) [e] [] cpos) (tDPop1 td ty) := by
  intro pins s σ H Q I h
  refine wpAny_Call_method m.base m.few m.line PySem.F.plainAttrs_dict PySem.F.slot_dict_pop PySem.F.type_dict_pop (thn (ho pins s σ H _ I h) fun u s1 ⟨x, H1, I1, rx, a, ex, d, q1⟩ => ?_)
  subst ex
  obtain rfl : u = Value.ref a := rx
  obtain ⟨t1, t2, _⟩ := isD_at I1 d
  refine ⟨t1, t2, ?_⟩
  rw [m.trees]
  refine Calls.callWith_builtin rfl (Calls.evalArgs_plain (Calls.spliced_cons (thn (he pins s1 σ H1 _ I1 q1) fun iv s2 ⟨y, H2, I2, ry, kvs, k, v, ea, ey, l, q2⟩ => Calls.spliced_nil ?_)))
  subst ey
  exact d_pop I2 ea ry l (.inl rfl) fun w' s3 I3 rw' => ⟨v, _, I3, rw', q2⟩
theorem pe_dpop2 (ho : PE X o td) (he : PE X e ty) (hf : PE X f tx) (m : M2 X o "pop" apos e f cpos) : PE X (.Call (.Attribute o "pop" apos) [e, f] [] cpos) (tDPop2 td ty tx) := by
  intro pins s σ H Q I h
  refine wpAny_Call_method m.base m.few m.line PySem.F.plainAttrs_dict PySem.F.slot_dict_pop PySem.F.type_dict_pop (thn (ho pins s σ H _ I h) fun u s1 ⟨x, H1, I1, rx, a, ex, d, q1⟩ => ?_)
  subst ex
  obtain rfl : u = Value.ref a := rx
  obtain ⟨t1, t2, _⟩ := isD_at I1 d
  refine ⟨t1, t2, ?_⟩
  rw [m.trees]
  refine Calls.callWith_builtin rfl (Calls.evalArgs_plain (Calls.spliced_cons (thn (he pins s1 σ H1 _ I1 q1) fun iv s2 ⟨y, H2, I2, ry, q2⟩ =>
    Calls.spliced_cons (thn (hf pins s2 σ H2 _ I2 q2) fun fv s3 ⟨z, H3, I3, rz, kvs, k, ea, ey, q3, q4⟩ => Calls.spliced_nil ?_))))
  subst ey
  cases l : valV kvs k with
  | some v => exact d_pop I3 ea ry l (.inr ⟨fv, rfl⟩) fun w' s4 I4 rw' => ⟨v, _, I4, rw', q3 v l⟩
  | none => exact d_popD I3 ea ry l fun s4 I4 => ⟨z, H3, I4, rz, q4 l⟩
end

/-! ### dict(d): a copy -/
section
variable {X : Cx} {pins : List (Addr × Obj)} {σ : St} {H : Hp} {s : Shared} {a : Addr} {kvs : List (Key × V)} {A : Around} {E : Value → Shared → Prop}
theorem d_copyOf {Q : Value → Shared → Prop} (I : Inv X pins σ H s) (e : Rd H a (.dK kvs)) (h : ∀ p s', H p = none → Inv X pins σ (upd H p (.dK kvs)) s' → Q (.ref p) s') : wpAny (model X.prog X.w) A (call (.type "dict") [.ref a]) Q E s := by
  obtain ⟨z, hd, vs, rel, dd⟩ := dk_rd I.hok e
  refine kt_call_dict hd dd (by rw [← rel.length]; exact z) fun h' dd' hs => ?_
  refine h _ _ (I.hok.fresh (Nat.le_refl _)) (I.laid (a := s.heap.objs.size) (o := .dK kvs) (t' := s.toks) (fun b q hq => ?_) (Nat.le_refl _) (dk_new z (beq_eq_false_iff_ne.mpr (Ne.symm (Nat.ne_of_lt I.big))) rel dd'))
  exact (hs.2 b (Nat.ne_of_lt (Heap.lt_size hq))).trans (Heap.get?_push_of_some _ hq)
end


section
variable {X : Cx} {pins : List (Addr × Obj)} {σ : St} {H : Hp} {s : Shared} {a : Addr} {y : V} {u : Value} {A : Around} {E : Value → Shared → Prop}
/-- d[y], not there: a KeyError -/
theorem d_missing {Q : Value → Shared → Prop} (hu : A.units + 1 < cLine) (hh : A.handled = none) (I : Inv X pins σ H s) (g : DGet H a y none) (ry : RelV y u)
    (h : ∀ h' e t', Heap.NewExc s.heap h' e "KeyError" → E (.ref e) { s with heap := h', toks := t' }) : wpAny (model X.prog X.w) A (getItem (.ref a) u) Q E s := by
  rcases g with ⟨kvs, k, e, ey, l⟩ | ⟨kvs, k, b, e, ey, eb, l⟩
  · subst ey
    obtain ⟨z, hd, vs, rel, dd⟩ := dk_rd I.hok e
    have hn : valueAt vs k = none := RelO.none_of (by rw [l]; exact rel.val k)
    exact wpAny_getItem_missing_of (kV_is ry) hd hh dd.mapOf hn fun h' ex ne => h h' ex _ ne
  · subst ey
    cases (show u = Value.ref b from ry)
    obtain ⟨z, hd, xs, rel, dd⟩ := dt_rd I.hok e
    have hn : (atKey xs k).map (·.2) = none := RelO.none_of (by rw [l]; exact rel.val k)
    exact wpAny_getItem_missing_heap (tupleKind_room_in1 hu) (key_of I.hok eb) hd hh dd (Option.map_eq_none_iff.mp hn) fun h' ex ne => h h' ex _ ne
end
end L2

namespace Att
open PySem PySem.W PySem.Calls PyProof.Rows

/-! ### the script -/
theorem ints_of_wellAll {P : Params} {h : Heap} : ∀ (ns : List Int) (vs : List Value), WellAll P h vs (ns.map WData.int) → IntsAre vs ns := by
  intro ns
  induction ns with
  | nil =>
    intro vs w
    rw [List.map_nil] at w
    cases w
    exact .nil
  | cons n ns ih =>
    intro vs w
    rw [List.map_cons] at w
    cases w with
    | cons a b =>
      cases a
      exact .cons _ _ (ih _ b)

theorem script_of {l : OpenLaw} {n : Nat} (hn : l.most = some n) {P : Params} {h : Heap} {args : List WData} {vals : List Value}
    (hpre : l.row.toRowW.claim.pre args = true) (hwl : WellAll P h vals args) :
    ∃ a vs ns, vals = [Value.ref a] ∧ args = [WData.list (ns.map WData.int)] ∧ h.get? a = some { cls := .type "list", data := .seq vs.toArray } ∧ IntsAre vs ns ∧ ns.length ≤ n := by
  have hsh : WShape.hasAll [] args [.list .int] = true := (pre_splitW hpre).1
  have hc : l.pre.holds [] { args := args } = true := (pre_splitW hpre).2
  obtain ⟨d, r, rfl, h1, h2⟩ := hasAllW_cons hsh
  obtain rfl := hasAllW_nil h2
  obtain ⟨xs, rfl, h3⟩ := hasW_list h1
  obtain ⟨ns, rfl⟩ := items_int h3
  have hlen : ns.length ≤ n := by
    unfold OpenLaw.pre at hc
    have h4 : (WTm.not (.lt (.lit (.int (n : Int))) (.len (.arg 0)))).holds [] { args := [.list (ns.map .int)] } = true := by
      have h4 := (holds_andW hc).1
      rw [hn] at h4
      exact h4
    have h5 := condW_of h4 (w_not (w_lt w_lit (w_len_list (w_arg rfl))))
    rw [List.length_map] at h5
    refine Nat.le_of_not_lt fun q => ?_
    have q' : (n : Int) < ((ns.length : Nat) : Int) := by omega
    first
      | (rw [decide_eq_true q'] at h5; exact absurd h5 (by decide))
      | (simp at h5; omega)
  cases hwl with
  | cons w1 w2 =>
    cases w2
    cases w1 with
    | list ho hall => exact ⟨_, _, ns, rfl, rfl, ho, ints_of_wellAll ns _ hall, hlen⟩

theorem post_true (l : OpenLaw) (args : List WData) : l.row.toRowW.claim.post args (.bool true) args = true :=
  postW_of (r := l.row.toRowW) (X := (true == true))
    (show WShape.has [] (.bool true) .bool = true by first | rfl | decide | simp [WShape.has, WShape.arms, WShape.armsAll])
    (show (WTm.eq .res (.lit (.bool true))).value [] { args := args, res := some (.bool true), after := args } = some (.bool (true == true)) from w_eq_bool (w_res rfl) w_lit) rfl

/-! ### the attachment: holds_open's last premise (the goal 'hc' behind k_head) from a wpAny of the law's body -/
theorem attach {l : OpenLaw} {n : Nat} {q : Program} {loose : List Str} {XP : (Str → Option Value) → Heap → Prop} {YP : World → Heap → Prop} {d : DefRec} {x : Str}
    (hn : l.most = some n) (hdf : d.params.defaults = [])
    (hbind : ∀ pm cd doc v : Value, bindArgs (docDef d.name d.params d.body d.scope pm cd doc) ⟨[v], []⟩ = pure [(x, v)])
    (hx : d.scope.names.lookup x = some .local ∨ d.scope.names.lookup x = some .cell)
    (hk : d.scope.kind = .function) (hco : d.scope.isCoroutine = false) (hgen : d.scope.isGenerator = false)
    (body : ∀ (w : World) (s₀ s₁ s : Shared) (mg mb : Str → Option Value) (fa : Addr) (o : Obj) (pm cd doc : Value) (a : Addr) (vs : List Value) (ns : List Int),
      Ground q loose [] XP w s₀ mg mb s₁.heap → YP w s₁.heap →
      s₁.heap.get? fa = some o → o.data = .func (docDef d.name d.params d.body d.scope pm cd doc) → s₁.heap.CodeRec cd d.name → mg d.name = some (.ref fa) →
      s₁.heap.get? a = some { cls := .type "list", data := .seq vs.toArray } → IntsAre vs ns → ns.length ≤ n →
      s.gens = #[] → s.os = s₁.os →
      Fr s₁.heap s₁.heap.objs.size s.heap (bindL (envOfC d.name d.scope s₁.heap.objs.size fa cd).kindOf [(x, .ref a)] fun _ => none) →
      Cl s₁.heap.objs.size (cellsFrom (s₁.heap.objs.size + 1) d.scope.names []) s.heap (bindC (envOfC d.name d.scope s₁.heap.objs.size fa cd).kindOf [(x, .ref a)] fun _ => none) →
      wpAny (model l.prog w) (callerA.deeper (envOfC d.name d.scope s₁.heap.objs.size fa cd)) (execs d.body (envOfC d.name d.scope s₁.heap.objs.size fa cd))
        (fun f s' => f = .ret (.bool true) ∧ OldK s₁.heap s'.heap ∧ s'.os = s₁.os ∧ AllBare s'.gens) (fun _ _ => False) s) :
    WalkO q loose XP YP l.row.toRowW d [] (fun f vs => PySem.call f vs) := by
  intro w s₀ s₁ mg mb G Y fa o pm cd doc dV kV ho hd hcd hD hmg hg args vals as hpre hlay hrd hwl hlo
  obtain rfl : dV = .none := Dflts.none hD hdf
  obtain rfl : kV = .none := Dflts.noKw hD
  obtain ⟨a, vs, ns, rfl, rfl, hobj, hints, hlen⟩ := script_of hn hpre hwl
  refine enter_call ?_
  refine call_cells_ret (o := o) (by rw [depth_caller]; decide) ho (fd_plain hd) G.T.nolimit hcd (hbind pm cd doc (.ref a)) (fun y hy => ?_) (fun h₁ tk F X => ?_) hco hgen hk
  · obtain rfl : y = (x, Value.ref a) := List.mem_singleton.mp hy
    rcases hx with e | e
    · exact .inl e
    · exact .inr ⟨e, cellsFrom_some _ _ _ (.inl e)⟩
  · refine wpAny_mono (body w s₀ s₁ { s₁ with heap := h₁, toks := tk } mg mb fa o pm cd doc a vs ns G Y ho (fd_plain hd) hcd hmg hobj hints hlen hg rfl F X) (fun f s' hq => ?_) (fun _ _ hq => hq)
    obtain ⟨rfl, h2, h3, h4⟩ := hq
    exact ⟨.inl ⟨.bool true, .bool true, [], rfl, fun _ => rfl, .bool true, post_true l _, fun _ => ⟨List.Pairwise.nil, fun _ hm => (nomatch hm)⟩⟩, h2, h3, h4⟩

/-- the same from a codeAny of the CALL (for a layer whose function contracts speak of calls) -/
theorem attach_call {l : OpenLaw} {n : Nat} {q : Program} {loose : List Str} {XP : (Str → Option Value) → Heap → Prop} {YP : World → Heap → Prop} {d : DefRec}
    (hn : l.most = some n) (hdf : d.params.defaults = [])
    (call : ∀ (w : World) (s₀ s₁ : Shared) (mg mb : Str → Option Value) (fa : Addr) (o : Obj) (pm cd doc : Value) (a : Addr) (vs : List Value) (ns : List Int),
      Ground q loose [] XP w s₀ mg mb s₁.heap → YP w s₁.heap →
      s₁.heap.get? fa = some o → o.data = .func (docDef d.name d.params d.body d.scope pm cd doc) → s₁.heap.CodeRec cd d.name → mg d.name = some (.ref fa) →
      s₁.heap.get? a = some { cls := .type "list", data := .seq vs.toArray } → IntsAre vs ns → ns.length ≤ n → s₁.gens = #[] →
      codeAny (model l.prog w) callerA (.call (.ref fa) ⟨[.ref a], []⟩) (fun r s' => r = .ok (.ret (.bool true)) ∧ OldK s₁.heap s'.heap ∧ s'.os = s₁.os ∧ AllBare s'.gens) s₁) :
    WalkO q loose XP YP l.row.toRowW d [] (fun f vs => PySem.call f vs) := by
  intro w s₀ s₁ mg mb G Y fa o pm cd doc dV kV ho hd hcd hD hmg hg args vals as hpre hlay hrd hwl hlo
  obtain rfl : dV = .none := Dflts.none hD hdf
  obtain rfl : kV = .none := Dflts.noKw hD
  obtain ⟨a, vs, ns, rfl, rfl, hobj, hints, hlen⟩ := script_of hn hpre hwl
  refine enter_call (codeAny_mono (call w s₀ s₁ mg mb fa o pm cd doc a vs ns G Y ho (fd_plain hd) hcd hmg hobj hints hlen hg) fun r s' hq => ?_)
  obtain ⟨rfl, h2, h3, h4⟩ := hq
  exact ⟨.inl ⟨.bool true, .bool true, [], rfl, fun _ => rfl, .bool true, post_true l _, fun _ => ⟨List.Pairwise.nil, fun _ hm => (nomatch hm)⟩⟩, h2, h3, h4⟩

/-- the same where the top left finished generators (o_head chose holds_openN): nothing may have changed at all and no generator may be left -/
theorem attachN {l : OpenLaw} {n : Nat} {q : Program} {loose : List Str} {XP : (Str → Option Value) → Heap → Prop} {YP : World → Heap → Prop} {d : DefRec} {x : Str}
    (hn : l.most = some n) (hdf : d.params.defaults = [])
    (hbind : ∀ pm cd doc v : Value, bindArgs (docDef d.name d.params d.body d.scope pm cd doc) ⟨[v], []⟩ = pure [(x, v)])
    (hx : d.scope.names.lookup x = some .local ∨ d.scope.names.lookup x = some .cell)
    (hk : d.scope.kind = .function) (hco : d.scope.isCoroutine = false) (hgen : d.scope.isGenerator = false)
    (body : ∀ (w : World) (s₀ s₁ s : Shared) (mg mb : Str → Option Value) (fa : Addr) (o : Obj) (pm cd doc : Value) (a : Addr) (vs : List Value) (ns : List Int),
      Ground q loose [] XP w s₀ mg mb s₁.heap → YP w s₁.heap →
      s₁.heap.get? fa = some o → o.data = .func (docDef d.name d.params d.body d.scope pm cd doc) → s₁.heap.CodeRec cd d.name → mg d.name = some (.ref fa) →
      s₁.heap.get? a = some { cls := .type "list", data := .seq vs.toArray } → IntsAre vs ns → ns.length ≤ n →
      s.gens = #[] → s.os = s₁.os →
      Fr s₁.heap s₁.heap.objs.size s.heap (bindL (envOfC d.name d.scope s₁.heap.objs.size fa cd).kindOf [(x, .ref a)] fun _ => none) →
      Cl s₁.heap.objs.size (cellsFrom (s₁.heap.objs.size + 1) d.scope.names []) s.heap (bindC (envOfC d.name d.scope s₁.heap.objs.size fa cd).kindOf [(x, .ref a)] fun _ => none) →
      wpAny (model l.prog w) (callerA.deeper (envOfC d.name d.scope s₁.heap.objs.size fa cd)) (execs d.body (envOfC d.name d.scope s₁.heap.objs.size fa cd))
        (fun f s' => f = .ret (.bool true) ∧ (∀ b o, s₁.heap.get? b = some o → s'.heap.get? b = some o) ∧ s'.os = s₁.os ∧ s'.gens = #[]) (fun _ _ => False) s) :
    WalkN q loose XP YP l.row.toRowW d [] (fun f vs => PySem.call f vs) := by
  intro w s₀ s₁ mg mb G Y fa o pm cd doc dV kV ho hd hcd hD hmg hg args vals as hpre hlay hrd hwl hlo
  obtain rfl : dV = .none := Dflts.none hD hdf
  obtain rfl : kV = .none := Dflts.noKw hD
  obtain ⟨a, vs, ns, rfl, rfl, hobj, hints, hlen⟩ := script_of hn hpre hwl
  refine enter_callW ?_
  refine call_cells_ret (o := o) (by rw [depth_caller]; decide) ho (fd_plain hd) G.T.nolimit hcd (hbind pm cd doc (.ref a)) (fun y hy => ?_) (fun h₁ tk F X => ?_) hco hgen hk
  · obtain rfl : y = (x, Value.ref a) := List.mem_singleton.mp hy
    rcases hx with e | e
    · exact .inl e
    · exact .inr ⟨e, cellsFrom_some _ _ _ (.inl e)⟩
  · refine wpAny_mono (body w s₀ s₁ { s₁ with heap := h₁, toks := tk } mg mb fa o pm cd doc a vs ns G Y ho (fd_plain hd) hcd hmg hobj hints hlen hg rfl F X) (fun f s' hq => ?_) (fun _ _ hq => hq)
    obtain ⟨rfl, h2, h3, h4⟩ := hq
    exact ⟨.inl ⟨.bool true, .bool true, [], rfl, fun _ => rfl, .bool true, post_true l _, fun _ => ⟨List.Pairwise.nil, fun _ hm => (nomatch hm)⟩⟩, h2, h3, h4⟩

/-! ### rules over ANY heap (no ledger) from facts about the written part K: the library's own take a ledger (News) for what they write -/
section
variable {prog : Program} {w : World} {A : Around} {E : Value → Shared → Prop} {s : Shared} {K : Frag}

/-- a def of the module, or a method (qual 'C.m'), entered: the frame is the next address; cells behind it -/
theorem call_fn {R : Result → Shared → Prop} {name qual : Str} {params : Arguments} {body : List Stmt} {scope : Scope} {dV kV doc pm cdv ct oc : Value} {an od : Option Addr} {osl : Array (Option Value)} {f : Addr} {args : Args} {binds : List (Str × Value)}
    (X : K.In s.heap) (hlim : s.heap.NoLimit) (ho : K.lookup f = some ⟨oc, od, .func (fnOf name qual params body scope dV kV doc pm an cdv ct), osl⟩) (hcd : codeIn K cdv qual = true) (hroom : A.depth < recursionLimit)
    (hbind : BindsTo s (fnOf name qual params body scope dV kV doc pm an cdv ct) args binds)
    (hkind : (binds.all fun y => scope.names.lookup y.1 == some .local || scope.names.lookup y.1 == some .cell) = true)
    (h : ∀ s₁, InCallC s s.heap.objs.size (bindL (envOfC qual scope s.heap.objs.size f cdv).kindOf binds fun _ => none) (cellsFrom (s.heap.objs.size + 1) scope.names [])
        (bindC (envOfC qual scope s.heap.objs.size f cdv).kindOf binds fun _ => none) s₁ →
      wpAny (model prog w) (A.deeper (envOfC qual scope s.heap.objs.size f cdv)) (execs body (envOfC qual scope s.heap.objs.size f cdv))
        (fun fl s' => R (.ok (.ret (match fl with | .ret v => v | _ => .none))) s')
        (fun e s' => wpAny (model prog w) (A.deeper (envOfC qual scope s.heap.objs.size f cdv)) (leaving (envOfC qual scope s.heap.objs.size f cdv) e) (fun _ s'' => R (.error e) s'') (fun e' s'' => R (.error e') s'') s') s₁)
    (hco : scope.isCoroutine = false) (hgen : scope.isGenerator = false) (hk : scope.kind = .function) : codeAny (model prog w) A (.call (.ref f) args) R s := by
  refine codeAny_call_function hroom (X _ _ ho) rfl hco hgen rfl (codeRec_of X hcd) (hbind _ _ _ _ ?_)
  refine wpAny_newFunctionEnv_cells hk (kindsX hkind _) fun env he s₁ x => ?_
  subst he
  exact ⟨hlim.keeps x.toInCall.keep, codeAny_func (h s₁ x)⟩

/-- C(..): dict at size, instance at size + 1, then __init__ -/
theorem make_obj {R : Result → Shared → Prop} {C fI : Addr} {rest : List Value} {kw : List (Str × Value)}
    (X : K.In s.heap) (hm : makesIn K C = true) (hi : findIn K (.ref C) "__init__" = some (some (.ref fI))) (hf : isFn K (.ref fI) = true)
    (h : codeAny (model prog w) (A.under (.builtin "type.__call__" ⟨.ref C :: rest, kw⟩)) (.call (.ref fI) ⟨.ref (s.heap.objs.size + 1) :: rest, kw⟩) (InitBack (s.heap.objs.size + 1) R)
      { s with heap := (s.heap.push emptyDict).push (instObj C s.heap.objs.size) }) : codeAny (model prog w) A (.call (.ref C) ⟨rest, kw⟩) R s := by
  obtain ⟨hh, g, d, t, os⟩ := s
  exact make_core (makes_of X hm) (looks_findIn X hi) (fun self => bind_fn X self (beq_iff_eq.mp hf)) (.inl rfl) h

/-- x.name where the instance's dict holds the name and the class does not -/
theorem get_field {x C : Addr} {ox : Obj} {es : List DictEntry} {n : Nat} {name : Str} {expr : Bool} {v : Value} {Q : Value → Shared → Prop}
    (X : K.In s.heap) (I : PySem.W.InstAt s.heap x ox C (some (dictOf es n))) (hg : plainGet K C name = true) (hh : hasDictIn K C = true) (ha : findIn K (.ref C) name = some none)
    (hl : getL name es = some (some v)) (hv : handedIn v = true) (h : Q v { s with toks := s.toks + 1 }) : wpAny (model prog w) A (getAttr (.ref x) name expr) Q E s :=
  get_value X I (plainGet_of hg).1 (findObj_own hh ha rfl hl) hv h

/-- x.m(..): the method found in the class -/
theorem get_method {x C f : Addr} {ox : Obj} {es : List DictEntry} {n : Nat} {name : Str} {pl : Sem Bool} {Q : Value × List Value → Shared → Prop}
    (X : K.In s.heap) (I : PySem.W.InstAt s.heap x ox C (some (dictOf es n))) (hg : plainGet K C name = true) (hf : findIn K (.ref C) name = some (some (.ref f))) (ht : isFn K (.ref f) = true)
    (hl : getL name es = some none) (h : Q (.ref f, [.ref x]) s) : wpAny (model prog w) A (getMethod (.ref x) name pl) Q E s :=
  method_fn X I (plainGet_of hg).1 (plainGet_of hg).2 hf (beq_iff_eq.mp ht) (by show (lookIn name (dictOf es n)).map _ = _; rw [lookIn_dict, hl]; rfl) h

/-! the whole heap as the ledger: makes every rule that writes through a ledger a rule over any heap -/
def noObjs (h : Heap) : Heap := { h with objs := #[] }
theorem noObjs_get (h : Heap) (b : Addr) : (noObjs h).get? b = none := by
  cases e : (noObjs h).get? b with
  | none => rfl
  | some o => exact absurd (Heap.lt_size e) (Nat.not_lt_zero _)
def ledger (h : Heap) (L d : Addr) : List (Addr × Obj) := (List.range h.objs.size).filterMap fun a => if a = L ∨ a = d then none else (h.get? a).map fun o => (a, o)
theorem mem_ledger {h : Heap} {L d a : Addr} {o : Obj} : (a, o) ∈ ledger h L d ↔ a ≠ L ∧ a ≠ d ∧ h.get? a = some o := by
  unfold ledger
  rw [List.mem_filterMap]
  constructor
  · rintro ⟨b, _, e⟩
    split at e
    · cases e
    · rename_i hb
      obtain ⟨o', ho, e'⟩ := Option.map_eq_some_iff.mp e
      cases e'
      exact ⟨fun q => hb (.inl q), fun q => hb (.inr q), ho⟩
  · rintro ⟨n1, n2, ho⟩
    refine ⟨a, List.mem_range.mpr (Heap.lt_size ho), ?_⟩
    rw [if_neg (show ¬ (a = L ∨ a = d) from fun q => q.elim n1 n2), ho] <;> rfl
theorem news_ledger {h : Heap} {L d : Addr} {od : Obj} (hne : d ≠ L) (ho : h.get? d = some od) : News (noObjs h) L h ([] ++ (d, od) :: ledger h L d) := by
  rintro ⟨a, o⟩ hp
  rcases List.mem_cons.mp hp with e | hp
  · cases e
    exact ⟨ho, hne, noObjs_get _ _⟩
  · obtain ⟨n1, n2, e⟩ := mem_ledger.mp hp
    exact ⟨e, n1, noObjs_get _ _⟩
theorem fr_all {h : Heap} {L : Addr} {m : Str → Option Value} (n : h.Ns L m) : Fr (noObjs h) L h m :=
  ⟨n, fun b o e => (by rw [noObjs_get] at e; cases e), Nat.zero_le _⟩
/-- Upd of the head entry (for append_K, setItem_K ..) -/
theorem upd_ledger {h : Heap} {L d : Addr} {o o' : Obj} : Upd d o o' ((d, o) :: ledger h L d) ((d, o') :: ledger h L d) :=
  .head fun ⟨_, _⟩ hp => (mem_ledger.mp hp).2.1

/-- x.name = v over any heap: L is any namespace of the heap (the frame's, say): its map stays, its object is not told; all else but the dict stays -/
theorem set_field {x C dx L : Addr} {ox : Obj} {m : Str → Option Value} {es es' : List DictEntry} {n n' : Nat} {name : Str} {v : Value} {Q : Unit → Shared → Prop}
    (X : K.In s.heap) (I : PySem.W.InstAt s.heap x ox C (some (dictOf es n))) (hd : ox.dict = some dx) (hL : s.heap.Ns L m) (hne : dx ≠ L)
    (hs : findIn K (.ref C) "__setattr__" = some (some (.builtin "object.__setattr__"))) (hp : plainOver K C = true) (ht : takerIn K C name = some none) (hh : hasDictIn K C = true) (hl : (getL name es).isSome = true)
    (e : (putL name (PyData.keyHash w.params name) (.str name (s.toks + 1)) v es, putN name es n) = (es', n')) (hz : es'.length ≤ 1000)
    (h : ∀ h' : Heap, h'.Ns L m → h'.get? dx = some (dictOf es' n') → (∀ b o, b ≠ dx → b ≠ L → s.heap.get? b = some o → h'.get? b = some o) → Q () { s with heap := h', toks := s.toks + 2 }) :
    wpAny (model prog w) A (setAttr (.ref x) name v) Q E s := by
  obtain ⟨e1, e2⟩ := Prod.mk.inj e
  have hdx : s.heap.get? dx = some (dictOf es n) := by
    have := I.dict
    rw [hd] at this
    exact this
  refine set_plain X I hs (osa_dict (s := { s with toks := s.toks + 1 }) (h₀ := noObjs s.heap) (L := L) (m := m) (od := dictOf es n) (od' := dictOf es' n') (es := es') (n := n') (pre := []) (post := ledger s.heap L dx)
    (fr_all hL) (news_ledger hne hdx) X I hd hp ht hh hl (fun _ q => nomatch q) (fun ⟨_, _⟩ q => (mem_ledger.mp q).2.1) (by rw [putName_dict, e1, e2]) rfl hz fun h' F' N' => ?_)
  exact h h' F'.ns (N'.get (List.Mem.head _)) fun b o n1 n2 ho => N'.get (List.Mem.tail _ (mem_ledger.mpr ⟨n2, n1, ho⟩))
end
end Att

namespace L2
open PySem PySem.Spec PyProof.Rows

theorem vals_ints : ∀ {vs : List Value} {ns : List Int}, IntsAre vs ns → Vals (ns.map V.int) vs
  | _, _, .nil => .nil
  | _, _, .cons n t h => .cons ⟨t, rfl⟩ (vals_ints h)

/-- nothing is tracked but the script, known to the object (or it is an object of the module) -/
def Only (H : Hp) : Prop := ∀ b, H b = none ∨ ∃ o xs, H b = some (.frz o (.lst xs))

/-- THE HEAD: the law's promise, at the heap behind the top. F, the promise of the law's def, may use that base is part of the heap (so K.In base, base.Ns mainGlobals mg stand in Mod) -/
theorem law_call {P : Program} {w : World} {K : PySem.W.Frag} {mg mb : Str → Option Value} {CX : CXT} {k : Nat} {fa a : Addr} {fd : FuncData} {x : Str} {sp : Sp} {s₁ : Shared} {vs : List Value} {ns : List Int}
    (KX : K.In s₁.heap) (hns : s₁.heap.Ns mainGlobals mg) (hb : s₁.heap.Ns builtinsNs mb) (hbb : ∀ x : Str, x ≠ "__name__" → mb x = bootBuiltins x) (hlim : s₁.heap.NoLimit) (hg : s₁.gens = #[])
    (ha : s₁.heap.get? a = some { cls := .type "list", data := .seq vs.toArray }) (hi : IntsAre vs ns) (hl : ns.length ≤ sizeLine) (hr : Room k callerA)
    (F : ∀ base : Heap, K.In base → base.Ns mainGlobals mg → FnOk P w K mg base CX k fa fd [x] sp) (hbind : ∀ (s : Shared) (u : Value), BindsTo s fd ⟨[u], []⟩ [(x, u)])
    (hsp : ∀ H : Hp, Only H → SqL K H a (ns.map V.int) → sp [.ref a] H (fun v _ => v = .bl true) fun _ _ _ => False)
    (hCX : ∀ H e s', CX [] H s₁ (fun _ _ _ => False) e s' → False) :
    codeAny (model P w) callerA (.call (.ref fa) ⟨[.ref a], []⟩) (fun r s' => r = .ok (.ret (.bool true)) ∧ OldK s₁.heap s'.heap ∧ s'.os = s₁.os ∧ AllBare s'.gens) s₁ := by
  have rv := vals_ints hi
  have lenV := hi.length
  -- from an abstract heap in which nothing but the script may be tracked
  have core : ∀ H : Hp, Only H → SqL K H a (ns.map V.int) → HOk P w H s₁.heap → (∀ b, H b ≠ none → b = a) → (H a ≠ none → K.lookup a = none) →
      codeAny (model P w) callerA (.call (.ref fa) ⟨[.ref a], []⟩) (fun r s' => r = .ok (.ret (.bool true)) ∧ OldK s₁.heap s'.heap ∧ s'.os = s₁.os ∧ AllBare s'.gens) s₁ := by
    intro H hO hS hok hA hK
    have base_of : ∀ {b : Addr} {o : Obj}, s₁.heap.get? b = some o → H b = none → (hidT s₁.heap H).get? b = some o := fun e n => hidT_get e n
    have noA : ∀ {b : Addr} {o : Obj} {es : Array DictEntry} {ep : Nat}, s₁.heap.get? b = some o → o.data = .dict es ep → H b = none := fun {b o es ep} e d => by
      cases q : H b with
      | none => rfl
      | some u =>
        have e' : b = a := hA b (by rw [q]; simp)
        subst e'
        rw [ha] at e; cases e
        have d' : Data.seq vs.toArray _ = Data.dict es ep := d
        cases d'
    have nsK : ∀ {b : Addr} {m : Str → Option Value}, s₁.heap.Ns b m → (hidT s₁.heap H).Ns b m := fun {b m} ⟨o, es, ep, e, d, r⟩ => ⟨o, es, ep, base_of e (noA e d), d, r⟩
    have hKb : K.In (hidT s₁.heap H) := fun b o e => base_of (KX b o e) (by
      cases q : H b with
      | none => rfl
      | some u =>
        have e' : b = a := hA b (by rw [q]; simp)
        subst e'
        rw [hK (by rw [q]; simp)] at e; cases e)
    have hM : Mod K mg (hidT s₁.heap H) := ⟨hKb, nsK hns, ⟨mb, nsK hb, hbb⟩, let ⟨mc, h1, h2⟩ := hlim; ⟨mc, nsK h1, h2⟩⟩
    have e0 : Env0 P w K mg (hidT s₁.heap H) callerA [] s₁ H := ⟨rfl, hM, fun b o e => of_hidT e, Nat.le_of_eq (hidT_size _ _), trivial, fun b hb => absurd (show b ∈ ([] : List Addr) from hb) (by simp), hok, .of_eq hg⟩
    refine codeAny_mono ((F _ hKb (nsK hns)).run callerA [] s₁ H ⟨[.ref a], []⟩ [.ref a] [.ref a] _ _ hr e0 (hbind s₁ (.ref a)) (.cons rfl .nil) (hsp H hO hS)) fun r s' h => ?_
    cases r with
    | error e => exact (hCX H e s' h).elim
    | ok fl =>
      cases fl with
      | next => exact False.elim h
      | brk => exact False.elim h
      | cont => exact False.elim h
      | ret u =>
        obtain ⟨v, H', os, bare, un, hok', r', q⟩ := h
        have q' : v = .bl true := q
        subst q'
        obtain rfl : u = Value.bool true := r'
        refine ⟨rfl, OldK.of_keep fun b o e => ?_, os, bare⟩
        cases q : H b with
        | none => exact un.keep b o e q (by intro z; exact absurd (show b ∈ ([] : List Addr) from z) (by simp)) (by simp)
        | some u =>
          rcases hO b with z | ⟨ob, xs, z⟩
          · rw [q] at z; cases z
          · have z2 := un.frzs b ob _ z
            obtain ⟨e1, _⟩ := hok b _ z
            obtain ⟨e2, _⟩ := hok' b _ z2
            rw [e] at e1; cases e1
            exact e2
  cases hk : K.lookup a with
  | some o =>
    -- the script is one of the module's own objects
    have e := KX a o hk
    rw [ha] at e
    cases e
    refine core (fun _ => none) (fun _ => .inl rfl) (.inr ⟨_, vs.toArray, _, hk, rfl, rfl, rfl, by rw [List.size_toArray, lenV]; exact hl, by simpa using rv⟩) (fun b u z => by have z' : (none : Option HO) = some u := z; cases z') (fun b z => absurd rfl z) fun z => absurd rfl z
  | none =>
    refine core (fun b => if b = a then some (.frz { cls := .type "list", data := .seq vs.toArray } (.lst (ns.map V.int))) else none) (fun b => ?_) (.inl (.inr ⟨{ cls := .type "list", data := .seq vs.toArray }, if_pos rfl⟩)) (fun b u z => ?_) (fun b z => ?_) fun _ => hk
    · by_cases hb : b = a
      · exact .inr ⟨_, _, if_pos hb⟩
      · exact .inl (if_neg hb)
    · by_cases hb : b = a
      · have z' := (if_pos hb).symm.trans z
        cases z'
        subst hb
        exact ⟨ha, by rw [List.length_map]; exact hl, vs, _, rv, ha⟩
      · have z' := (if_neg hb).symm.trans z
        cases z'
    · by_cases hb : b = a
      · exact hb
      · exact absurd (if_neg hb) z
end L2

namespace L2
open PySem PySem.Spec PyProof.Rows

abbrev KOf {K : PySem.W.Frag} {h : Heap} (_ : K.In h) : PySem.W.Frag := K

/-- the goal that k_head leaves (case hc), from the law's promise. F gives the function object fd (K's own) once, then the promise over every base -/
theorem walk_of {l : PySem.W.OpenLaw} {n k : Nat} {q : Program} {loose : List Str} {XP : (Str → Option Value) → Heap → Prop} {YP : World → Heap → Prop} {d : DefRec} {K : Params → PySem.W.Frag} {CX : World → CXT} {sp : World → Sp} {x : Str}
    (hn : l.most = some n) (hn2 : n ≤ sizeLine) (hdf : d.params.defaults = []) (hr : Room k callerA)
    (hY : ∀ (w : World) (h : Heap), YP w h → (K w.params).In h)
    (F : ∀ (w : World) (mg : Str → Option Value) (fa : Addr) (h : Heap), (K w.params).In h → h.Ns mainGlobals mg → mg d.name = some (.ref fa) →
      ∃ fd : FuncData, (∀ (s : Shared) (u : Value), BindsTo s fd ⟨[u], []⟩ [(x, u)]) ∧
        ∀ base : Heap, (K w.params).In base → base.Ns mainGlobals mg → FnOk l.prog w (K w.params) mg base (CX w) k fa fd [x] (sp w))
    (hsp : ∀ (w : World) (H : Hp) (a : Addr) (ns : List Int), ns.length ≤ n → Only H → SqL (K w.params) H a (ns.map V.int) → sp w [.ref a] H (fun v _ => v = .bl true) fun _ _ _ => False)
    (hCX : ∀ (w : World) (H : Hp) (s : Shared) (e : Value) (s' : Shared), CX w [] H s (fun _ _ _ => False) e s' → False) :
    PySem.W.WalkO q loose XP YP l.row.toRowW d [] (fun f vs => PySem.call f vs) := by
  refine Att.attach_call hn hdf fun w s₀ s₁ mg mb fa o pm cd doc a vs ns G Y ho hd hcd hmg hobj hints hlen hg => ?_
  have KX := hY w _ Y
  obtain ⟨fd, hb, hF⟩ := F w mg fa _ KX G.T.g hmg
  exact law_call KX G.T.g G.T.b G.T.builtins G.T.nolimit hg hobj hints (Nat.le_trans hlen hn2) hr hF hb (fun H hO hS => hsp w H a ns hlen hO hS) fun H e s' => hCX w H s₁ e s'
/-- the same where the promise hangs on the written part alone: (sp := My.sp_law), no hole under a binder -/
theorem walk_ofK {l : PySem.W.OpenLaw} {n k : Nat} {q : Program} {loose : List Str} {XP : (Str → Option Value) → Heap → Prop} {YP : World → Heap → Prop} {d : DefRec} {K : Params → PySem.W.Frag} {CX : CXT} {sp : PySem.W.Frag → Sp} {x : Str}
    (hn : l.most = some n) (hn2 : n ≤ sizeLine) (hdf : d.params.defaults = []) (hr : Room k callerA)
    (hY : ∀ (w : World) (h : Heap), YP w h → (K w.params).In h)
    (F : ∀ (w : World) (mg : Str → Option Value) (fa : Addr) (h : Heap), (K w.params).In h → h.Ns mainGlobals mg → mg d.name = some (.ref fa) →
      ∃ fd : FuncData, (∀ (s : Shared) (u : Value), BindsTo s fd ⟨[u], []⟩ [(x, u)]) ∧
        ∀ base : Heap, (K w.params).In base → base.Ns mainGlobals mg → FnOk l.prog w (K w.params) mg base CX k fa fd [x] (sp (K w.params)))
    (hsp : ∀ (K : PySem.W.Frag) (H : Hp) (a : Addr) (ns : List Int), ns.length ≤ n → Only H → SqL K H a (ns.map V.int) → sp K [.ref a] H (fun v _ => v = .bl true) fun _ _ _ => False)
    (hCX : ∀ (H : Hp) (s : Shared) (e : Value) (s' : Shared), CX [] H s (fun _ _ _ => False) e s' → False) :
    PySem.W.WalkO q loose XP YP l.row.toRowW d [] (fun f vs => PySem.call f vs) :=
  walk_of (K := K) (CX := fun _ => CX) (sp := fun w => sp (K w.params)) hn hn2 hdf hr hY F (fun w H a ns h1 h2 h3 => hsp (K w.params) H a ns h1 h2 h3) fun _ H s e s' => hCX H s e s'
end L2

/- THE LAST THEOREM (shape; LID, My.* are yours):
   My.Adr: a structure of the addresses that your layer names (classes, functions); My.Txt K t: a structure (Prop) of the equations over K;
   My.txt_mk : {K} {implicit addresses ..} (e1 : nsIn K mainGlobals "law" = some (some (.ref f))) (e2 : K.lookup f = some ⟨oc, od, .func (fnOf "law" "law" params body scope dV kV doc pm an cdv ct), sl⟩) (e3 : codeIn K cdv "law" = true) .. : ∃ t, My.Txt K t

set_option maxRecDepth 100000 in
set_option maxHeartbeats 0 in
theorem PySem.Challenge.cw_LID_holds : PySem.Challenge.rw_LID.Holds := by
  w_on; o_law; k_head; (case hw => w_witness2)
  k_fill
  refine L2.walk_of (l := PySem.Challenge.rw_LID) (n := 63) (k := 40) (x := "script") (CX := fun w => ..) (sp := fun _ => My.sp_law) rfl (by decide) rfl ⟨rfl, by decide, by decide⟩ (fun w h Y => PySem.W.kIn_of Y) ?F ?S ?C
  case F =>
    intro w mg fa h KX G hmg
    have T : ∃ t, My.Txt (L2.KOf KX) t := by
      dsimp only [L2.KOf]                          -- K must stand as «<heap const> w.params» for k_is
      refine' My.txt_mk ?e1 ?e2 ?e3 ..
      (case e1 => PySem.W.k_is)                    -- in the order: a name -> its address -> its object -> its parts
      (case e2 => PySem.W.k_is)
      ..
    obtain ⟨t, T⟩ := T
    have e0 := hmg.symm.trans (PySem.W.mg_of KX G T.law)
    cases e0                                       -- fa is the law's own address
    exact ⟨_, fun s u => .of_eq rfl, fun base kb nb => My.law_fn T kb nb⟩     -- if «.of_eq rfl» comes too early: refine' ⟨_, ?b, fun base kb nb => My.law_fn T kb nb⟩; exact fun s u => .of_eq rfl
  case S => exact fun w H a ns hl hO hS => ..
  case C => exact ..
(the tactic k_is has no namespace: write k_is) -/

/-! SHORT WORDS over the layer: a def of the text, its body, what a loop and a test want. -/
namespace L2
open PySem PySem.Spec PyProof.Rows

/-! ### the text by places -/
/-- the j-th statement of a class's body -/
def inClass (s : Stmt) (j : Nat) : Stmt := match s with
  | .ClassDef _ _ _ body _ _ _ _ _ _ _ => body.getD j (.Pass ⟨0, 0, 0, 0⟩)
  | _ => .Pass ⟨0, 0, 0, 0⟩
def defArgs (s : Stmt) : Arguments := match s with
  | .FunctionDef _ a _ _ _ _ _ _ _ _ => a
  | _ => { posonlyargs := [], args := [], vararg := none, kwonlyargs := [], kw_defaults := [], kwarg := none, defaults := [] }
def defBody (s : Stmt) : List Stmt := match s with
  | .FunctionDef _ _ b _ _ _ _ _ _ _ => b
  | _ => []
def defScope (s : Stmt) : Scope := match s with
  | .FunctionDef _ _ _ _ _ _ sc _ _ _ => sc
  | _ => { kind := .function, names := [], isGenerator := false, isCoroutine := false }

/-! ### no exception leaves a def -/
abbrev CX0 : CXT := fun _ _ _ _ _ _ => False
abbrev E0 : XK := fun _ _ _ => False
theorem pass0 {X : Cx} : Passes CX0 X E0 := fun _ _ _ _ _ _ _ h => h.elim

/-! ### a def (or method) of the text as it stands behind the top -/
structure Fun (K : PySem.W.Frag) (x qual : Str) (st : Stmt) (f : Addr) (fd : FuncData) : Prop where
  ex : ∃ (oc : Value) (od : Option Addr) (kV doc pm : Value) (an : Option Addr) (cdv ct : Value) (osl : Array (Option Value)),
    fd = PySem.W.fnOf x qual (defArgs st) (defBody st) (defScope st) .none kV doc pm an cdv ct ∧ K.lookup f = some ⟨oc, od, .func fd, osl⟩ ∧ PySem.W.codeIn K cdv qual = true
  kp : PySem.W.keepIn K (.ref f) = true
section
variable {P : Program} {w : World} {K : PySem.W.Frag} {mg : Str → Option Value} {base : Heap}
/-- THE RULE for a def: its body as a term of rules, and the reading of that term -/
theorem Fun.ok {x qual : Str} {st : Stmt} {f : Addr} {fd : FuncData} {N ps : List Str} {k : Nat} {sp : Sp} (F : Fun K x qual st f fd) (S : FnScope N ps (defScope st)) (len : ∀ vs H Q E, sp vs H Q E → vs.length = ps.length)
    (hbody : ∀ (cdv : Value) (A : Around) (outer : List Env) (s : Shared) (H : Hp) (vs : List V) (Q : VK) (E : XK), Room k (A.deeper (envOfC qual (defScope st) s.heap.objs.size f cdv)) → sp vs H Q E →
      ∃ t, PSs (cxOf CX0 P w K mg base N qual (defScope st) f cdv A outer s H E).nox (defBody st) t ∧ t { nx := fun _ H' => Q .non H', rt := Q } (start N vs) H) : FnOk P w K mg base CX0 (k + 1) f fd ps sp := by
  obtain ⟨oc, od, kV, doc, pm, an, cdv, ct, osl, rfl, lk, hcd⟩ := F.ex
  refine fn_of lk hcd S len fun A outer s H vs Q E hr hsp => ?_
  obtain ⟨t, h, q⟩ := hbody cdv A outer s H vs Q E hr hsp
  exact ⟨t, h.nox, q⟩
/-- how its arguments bind (no defaults): h is «fun _ _ _ _ _ _ us hl => match us, hl with | [_, _], _ => rfl», one _ a parameter -/
theorem Fun.binds {x qual : Str} {st : Stmt} {f : Addr} {fd : FuncData} {ps : List Str} (F : Fun K x qual st f fd)
    (h : ∀ (kV doc pm : Value) (an : Option Addr) (cdv ct : Value) (us : List Value), us.length = ps.length → bindArgs (PySem.W.fnOf x qual (defArgs st) (defBody st) (defScope st) .none kV doc pm an cdv ct) ⟨us, []⟩ = pure (ps.zip us)) : Binds K fd ps [] := by
  obtain ⟨oc, od, kV, doc, pm, an, cdv, ct, osl, rfl, lk, hcd⟩ := F.ex
  exact .all (h kV doc pm an cdv ct)
theorem fun_mk {x qual : Str} {st : Stmt} {f : Addr} {oc : Value} {od an : Option Addr} {osl : Array (Option Value)} {kV doc pm cdv ct : Value} (l : K.lookup f = some ⟨oc, od, .func (PySem.W.fnOf x qual (defArgs st) (defBody st) (defScope st) .none kV doc pm an cdv ct), osl⟩)
    (c : PySem.W.codeIn K cdv qual = true) (k : PySem.W.keepIn K (.ref f) = true) : Fun K x qual st f (PySem.W.fnOf x qual (defArgs st) (defBody st) (defScope st) .none kV doc pm an cdv ct) := ⟨⟨oc, od, kV, doc, pm, an, cdv, ct, osl, rfl, l, c⟩, k⟩
end
theorem hu_of {A : Around} {k : Nat} (hr : Room k A) : A.units + 1 < cLine := Nat.lt_of_le_of_lt (Nat.add_le_add_left (by decide : 1 ≤ 64) _) hr.units
theorem small1000 {n : Nat} (h : n ≤ 1000) : n < sizeLine := Nat.lt_of_le_of_lt h (by decide)

/-! ### expressions in short: the name that stands in the i-th slot -/
section
variable {X : Cx}
theorem pv (i : Nat) {x : Str} {pos : Pos} (hN : X.N[i]? = some x := by rfl) (hv : Vis X.env.scope x := by first | exact Or.inl rfl | exact Or.inr (Or.inl rfl) | exact Or.inr (Or.inr rfl)) (hd : (x == ("__debug__" : Str)) = false := by decide)
    (hcd : (x == ("__classdict__" : Str)) = false := by decide) : PE X (.Name x pos) (tVar i) := pe_var hN hv hd hcd
end

/-! ### tests -/
theorem iteF {A B : Prop} (h : B) : if false = true then A else B := by
  rw [if_neg Bool.false_ne_true]
  exact h
theorem iteT {A B : Prop} (h : A) : if true = true then A else B := by
  rw [if_pos rfl]
  exact h
theorem ite2 {c A B : Prop} [Decidable c] (h1 : c → A) (h2 : ¬ c → B) : if c then A else B := by
  by_cases h : c
  · rw [if_pos h]
    exact h1 h
  · rw [if_neg h]
    exact h2 h
theorem iteNS {c A B : Prop} [Decidable c] (hc : c) (h : B) : if (!decide c) = true then A else B := by
  rw [decide_eq_true hc]
  exact iteF h

/-! ### heaps -/
/-- all that was tracked is as it was -/
def Same (H H' : Hp) : Prop := ∀ b o, H b = some o → H' b = some o
theorem Same.refl (H : Hp) : Same H H := fun _ _ h => h
theorem Same.trans {H H1 H2 : Hp} (a : Same H H1) (b : Same H1 H2) : Same H H2 := fun c o h => b c o (a c o h)
theorem Same.free {H H' : Hp} (e : Same H H') {l : Addr} (h : H' l = Option.none) : H l = Option.none := by
  cases q : H l with
  | none => rfl
  | some o =>
    rw [e l o q] at h
    cases h
theorem Same.seq {K : PySem.W.Frag} {H H' : Hp} {a : Addr} {xs : List V} (e : Same H H') (h : SqL K H a xs) : SqL K H' a xs := by
  rcases h with (h | ⟨o, h⟩) | h
  · exact .inl (.inl (e _ _ h))
  · exact .inl (.inr ⟨o, e _ _ h⟩)
  · exact .inr h


section
variable {X : Cx}
/-- len of a dict -/
theorem call_lenD : CallR X (.builtin "len") (fun xs H Q => ∃ a kvs, xs = [V.ref a] ∧ H a = some (.dK kvs) ∧ Q (.int kvs.length) H) := by
  intro pins s σ H xs us Q I r h
  obtain ⟨a, kvs, rfl, ha, q⟩ := h
  obtain ⟨u, rfl, ru⟩ := vals1 r
  cases ru
  exact d_len I (.inl ha) fun t s' I' => ⟨.int kvs.length, H, I', ⟨t, rfl⟩, q⟩
end
/-! ### a dict's pairs: keys that differ -/
section
variable {κ : Type} [DecidableEq κ]
theorem valV_not {kvs : List (κ × V)} {k : κ} (h : valV kvs k = none) : ¬ k ∈ kvs.map (·.1) := by
  intro m
  obtain ⟨p, hp, e⟩ := List.mem_map.mp m
  have q : (kvs.any fun kv => decide (kv.1 = k)) = true := List.any_eq_true.mpr ⟨p, hp, decide_eq_true e⟩
  rw [valV_any, h] at q
  exact absurd q (by simp)
theorem valV_in {kvs : List (κ × V)} {k : κ} {v : V} (h : valV kvs k = some v) : k ∈ kvs.map (·.1) := by
  have q : (kvs.any fun kv => decide (kv.1 = k)) = true := by
    rw [valV_any, h]
    all_goals rfl
  obtain ⟨p, hp, e⟩ := List.any_eq_true.mp q
  exact List.mem_map.mpr ⟨p, hp, of_decide_eq_true e⟩
theorem nd_snoc : ∀ {l : List κ} {k : κ}, l.Nodup → ¬ k ∈ l → (l ++ [k]).Nodup
  | [], k, _, _ => by simp
  | a :: r, k, h, hk => by
    obtain ⟨h1, h2⟩ := List.nodup_cons.mp h
    show (a :: (r ++ [k])).Nodup
    refine List.nodup_cons.mpr ⟨fun m => ?_, nd_snoc h2 fun m => hk (List.mem_cons.mpr (Or.inr m))⟩
    rcases List.mem_append.mp m with q | q
    · exact h1 q
    · exact hk (List.mem_cons.mpr (Or.inl (List.mem_singleton.mp q).symm))
theorem nd_putK {kvs : List (κ × V)} {k : κ} (v : V) (hn : (kvs.map (·.1)).Nodup) (h : valV kvs k = none) : ((putK kvs k v).map (·.1)).Nodup := by
  rw [putK_new v h, List.map_append]
  exact nd_snoc hn (valV_not h)
theorem dropK_pos {p : κ × V} {r : List (κ × V)} {k : κ} (e : p.1 = k) : dropK (p :: r) k = dropK r k := by
  unfold dropK
  rw [List.filter_cons, if_neg (by simp [e])]
theorem dropK_neg {p : κ × V} {r : List (κ × V)} {k : κ} (e : ¬ p.1 = k) : dropK (p :: r) k = p :: dropK r k := by
  unfold dropK
  rw [List.filter_cons, if_pos (by simp [e])]
theorem dropK_no : ∀ {kvs : List (κ × V)} {k : κ}, ¬ k ∈ kvs.map (·.1) → dropK kvs k = kvs
  | [], _, _ => rfl
  | p :: r, k, h => by
    have h' : ¬ k ∈ r.map (·.1) := fun m => by
      obtain ⟨q, hq, e⟩ := List.mem_map.mp m
      exact h (List.mem_map.mpr ⟨q, List.mem_cons.mpr (Or.inr hq), e⟩)
    rw [dropK_neg fun e => h (List.mem_map.mpr ⟨p, List.mem_cons.mpr (Or.inl rfl), e⟩), dropK_no h']
theorem dropK_mem {kvs : List (κ × V)} {k : κ} {p : κ × V} (h : p ∈ dropK kvs k) : p ∈ kvs := (List.mem_filter.mp h).1
theorem nd_dropK : ∀ {kvs : List (κ × V)} {k : κ}, (kvs.map (·.1)).Nodup → ((dropK kvs k).map (·.1)).Nodup
  | [], _, _ => List.nodup_nil
  | p :: r, k, h => by
    have h : (p.1 :: r.map (·.1)).Nodup := h
    obtain ⟨h1, h2⟩ := List.nodup_cons.mp h
    by_cases e : p.1 = k
    · rw [dropK_pos e]
      exact nd_dropK h2
    · rw [dropK_neg e]
      show (p.1 :: (dropK r k).map (·.1)).Nodup
      refine List.nodup_cons.mpr ⟨fun m => h1 ?_, nd_dropK h2⟩
      obtain ⟨q, hq, eq⟩ := List.mem_map.mp m
      exact List.mem_map.mpr ⟨q, dropK_mem hq, eq⟩
theorem dropK_len : ∀ {kvs : List (κ × V)} {k : κ}, (kvs.map (·.1)).Nodup → k ∈ kvs.map (·.1) → (dropK kvs k).length + 1 = kvs.length
  | [], _, _, m => by simp at m
  | p :: r, k, h, m => by
    have h : (p.1 :: r.map (·.1)).Nodup := h
    have m : k = p.1 ∨ k ∈ r.map (·.1) := List.mem_cons.mp m
    obtain ⟨h1, h2⟩ := List.nodup_cons.mp h
    by_cases e : p.1 = k
    · subst e
      rw [dropK_pos rfl, dropK_no h1]
      all_goals rfl
    · have m' : k ∈ r.map (·.1) := m.resolve_left fun z => e z.symm
      have q := dropK_len h2 m'
      rw [dropK_neg e, List.length_cons, List.length_cons]
      omega
end
end L2

/-! Cp -/
set_option Elab.async false
set_option linter.all false
set_option maxRecDepth 100000
set_option maxHeartbeats 4000000
namespace My
open PySem L2
/-! a list comprehension of one clause without a test: its loop, with the step between the next thing and its store -/
section
variable {prog : Program} {w : World} {A : Around} {R : Result → Shared → Prop} {s : Shared}
theorem compLoopT {elt target iter : Expr} {scope : Scope} {pos : Pos} {it acc : Value} {env : Env} (J : Nat → Shared → Prop)
    (turn : ∀ n s, J n s → wpAny (model prog w) A (pyNext it) (fun r s₁ => match r with
      | none => R (.ok .next) s₁
      | some v => wpAny (model prog w) A (letOwnedTupleGo target it v) (fun _ s₂ => wpAny (model prog w) A (assign target env v) (fun _ s₃ => wpAny (model prog w) A (eval elt env)
          (fun x s₄ => wpAny (model prog w) A (call (.builtin "list.append") [acc, x]) (fun _ s₅ => ∃ m, m < n ∧ J m s₅) (fun _ _ => False) s₄) (fun _ _ => False) s₃) (fun _ _ => False) s₂) (fun _ _ => False) s₁) (fun _ _ => False) s)
    (n : Nat) (h : J n s) : codeAny (model prog w) A (.compLoop (.ListComp elt [⟨target, iter, [], 0⟩] scope pos) 0 it acc env) R s := by
  refine codeAny_loop rfl J (fun n s hJ => ?_) n h
  show wpAny _ _ (Sem.onRaise (compTurn (.ListComp elt [⟨target, iter, [], 0⟩] scope pos) 0 it acc env) (fun x => do noteFrame x env; theTreesLotGoes x)) _ _ s
  refine wpAny_noted ?_
  rw [compTurn_list1]
  refine wpAny_bind (wpAny_standAt (wpAny_bind (wpAny_mono (turn n s hJ) (fun r s₁ h₁ => ?_) fun _ _ z => z.elim)))
  cases r with
  | none => exact wpAny_pure h₁
  | some v =>
    refine wpAny_bind (wpAny_mono h₁ (fun _ s₂ h₂ => ?_) fun _ _ z => z.elim)
    refine wpAny_bind (wpAny_mono h₂ (fun _ s₃ h₃ => ?_) fun _ _ z => z.elim)
    refine wpAny_bind (wpAny_bind (wpAny_mono h₃ (fun x s₄ h₄ => ?_) fun _ _ z => z.elim))
    refine wpAny_bind (wpAny_mono h₄ (fun _ s₅ h₅ => wpAny_pure (wpAny_pure ⟨rfl, h₅⟩)) fun _ _ z => z.elim)
end
/-- the context of a comprehension's block -/
def compCx (X : Cx) (sc : Scope) (cl : List (Str × Addr)) (N : List Str) (s : Shared) (H : Hp) (C : Addr) (fp : List Addr) : Cx where
  prog := X.prog
  w := X.w
  K := X.K
  mg := X.mg
  base := X.base
  A := X.A
  N := N
  s₀ := s
  H₀ := H
  env := compEnvC sc cl C X.env
  outer := X.stack
  stack := X.stack
  ex := fp
  fn := fun _ => false
  calm := X.calm
  pn := []
  xe := fun _ _ => False
/-- what of the scope must hold: its names are its own, global, or taken from the def around it -/
structure CompSc (X : Cx) (sc : Scope) (cl : List (Str × Addr)) (x : Str) (zs : List Str) (js : List Nat) : Prop where
  clos : closureFor sc X.env = pure cl
  kind : sc.kind = .function
  noCell : ∀ y ∈ sc.names, y.2 ≠ .cell
  names : ∀ y ∈ sc.names, y.2 = .local → sc.names.lookup y.1 = some .local
  var : sc.names.lookup x = some .local
  sub : ∀ z c, cl.lookup z = some c → X.env.cells.lookup z = some c
  has : ∀ z, ((relabel sc X.env).names.lookup z = some .cell ∨ (relabel sc X.env).names.lookup z = some .free) → ∃ c, cl.lookup z = some c
  nd : (x :: zs).Nodup
  cap : ∀ (k : Nat) (z : Str), zs[k]? = some z → ∃ j : Nat, js[k]? = some j ∧ X.N[j]? = some z ∧ Vis X.env.scope z ∧ X.env.kindOf z ≠ some .local ∧
    ((relabel sc X.env).names.lookup z = some .cell ∨ (relabel sc X.env).names.lookup z = some .free)
  len : js.length = zs.length
def capS (js : List Nat) (σ : St) : St := js.map fun j => (σ[j]?).join
/-- the reading: W, turn, measure, the things so far, the heap -/
def tLC (wi : TI) (js : List Nat) (te : TE) : TE := fun σ H Q => wi σ H fun J H1 => ∀ D, H1 D = none → ∃ W : Nat → Nat → List V → Hp → Prop, (∃ m, W 0 m [] (upd H1 D (.lst []))) ∧
  ∀ i m ys H2, W i m ys H2 → H2 D = some (.lst ys) ∧ ((J.stop i H2 ∧ Q (.ref D) H2) ∨ (J.go i H2 ∧ ys.length < sizeLine ∧
    ∀ x H3, J.yld i H2 x H3 → te (some x :: capS js σ) H3 fun y H4 => H4 D = some (.lst ys) ∧ ∃ m', m' < m ∧ W (i + 1) m' (ys ++ [y]) (upd H4 D (.lst (ys ++ [y])))))
section
variable {X : Cx} {pins : List (Addr × Obj)} {σ : St} {H : Hp} {s : Shared} {sc : Scope} {cl : List (Str × Addr)} {x : Str} {zs : List Str} {js : List Nat} {C : Addr} {fp : List Addr}
theorem comp_ok (I : Inv X pins σ H s) (S : CompSc X sc cl x zs js) (hf : ∀ b ∈ fp, FpOk X pins H b ∧ b < s.heap.objs.size) (hC : s.heap.objs.size ≤ C) : (compCx X sc cl (x :: zs) s H C fp).Ok := by
  refine ⟨I.ok.mod, S.kind, I.ok.glob, I.ok.blt, hC, fun y z c h1 h2 => I.ok.inj y z c (S.sub _ _ h1) (S.sub _ _ h2), fun z h => S.has z h, (fun _ _ h => nomatch h), I.ok.hd, I.ok.frames, .inl rfl, fun b hb => ?_, I.bs, ?_, fun b o e hb => ?_, fun b hb hs => ?_, I.stack, I.stkFree⟩
  · obtain ⟨⟨_, h1, _, _, h4, _⟩, h6⟩ := hf b hb
    exact ⟨fun e => absurd h6 (Nat.not_lt.mpr (by rw [show b = C from e]; exact hC)), fun z c e => h4 z c (S.sub _ _ e)⟩
  · exact Nat.le_trans I.ok.bsz I.sz
  · obtain ⟨⟨_, _, _, h3, _⟩, _⟩ := hf b hb
    rcases h3 with h | h
    · exact I.ok.noex b o e h
    · exact absurd (Heap.lt_size e) (Nat.not_lt.mpr (Nat.le_trans I.ok.bsz h))
  · obtain ⟨⟨_, h1, h2, _⟩, _⟩ := hf b hb
    rcases List.mem_cons.mp (I.stkSub b hs) with e | e
    · exact h1 e
    · exact h2 e
theorem comp_start {s1 : Shared} (I : Inv X pins σ H s) (S : CompSc X sc cl x zs js) (hf : ∀ b ∈ fp, FpOk X pins H b ∧ b < s.heap.objs.size) (hC : s.heap.objs.size ≤ C) (ho : s1.os = s.os) (hg : s1.gens = s.gens)
    (hk : ∀ b o, s.heap.get? b = some o → s1.heap.get? b = some o) {m : Str → Option Value} (hn : s1.heap.Ns C m) : Inv (compCx X sc cl (x :: zs) s H C fp) [] (none :: capS js σ) H s1 := by
  refine ⟨comp_ok I S hf hC, ho, by rw [hg]; exact I.bare, Un.kept hk, ⟨m, hn, fun i y v h1 h2 h3 => ?_⟩, fun z c e => ?_, I.hok.fresh hC, fun z c e => I.freeC z c (S.sub _ _ e), fun p hp => absurd (show p ∈ ([] : List (Addr × Obj)) from hp) (by simp), I.hok.kept hk, ?_⟩
  · cases i with
    | zero => cases h2
    | succ i =>
      have h1' : zs[i]? = some y := h1
      obtain ⟨j, hj, hN, hv, nl, k'⟩ := S.cap i y h1'
      have h2' : (capS js σ)[i]? = some (some v) := h2
      have h5 : σ[j]? = some (some v) := by
        unfold capS at h2'
        rw [List.getElem?_map, hj] at h2'
        have h6 : (σ[j]?).join = some v := Option.some.inj h2'
        cases e : σ[j]? with
        | none => rw [e] at h6; cases h6
        | some o => rw [e] at h6; exact congrArg some h6
      obtain ⟨m0, hn0, hl⟩ := I.loc
      obtain ⟨u, ru, lk⟩ := hl j y v hN h5 hv
      refine ⟨u, ru, ?_⟩
      rcases lk with ⟨k1, _⟩ | ⟨_, c, ec, hc⟩
      · exact absurd k1 nl
      · obtain ⟨c', ec'⟩ := S.has y k'
        have e2 := S.sub _ _ ec'
        rw [ec] at e2
        cases e2
        exact .inr ⟨k', c, ec', hc.keeps hk⟩
  · obtain ⟨v, hv⟩ := I.cell z c (S.sub _ _ e)
    exact ⟨v, hv.keeps hk⟩
  · show ((none :: capS js σ : St)).length = (x :: zs).length
    unfold capS
    rw [List.length_cons, List.length_cons, List.length_map, S.len]
/-- behind the block -/
theorem comp_end {s1 : Shared} {σ' : St} {H' : Hp} {h' : Heap} (I : Inv X pins σ H s) (hf : ∀ b ∈ fp, FpOk X pins H b ∧ b < s.heap.objs.size) (hC : s.heap.objs.size ≤ C) (J : Inv (compCx X sc cl (x :: zs) s H C fp) [] σ' H' s1)
    (hs : Heap.SameBut C s1.heap h') : Inv X pins σ H' { s1 with heap := h' } := by
  have old : ∀ b o, s1.heap.get? b = some o → b ≠ C → h'.get? b = some o := fun b o e n => (hs.2 b n).trans e
  have lt : ∀ {b o}, s.heap.get? b = some o → b ≠ C := fun {b o} e z => by
    have q := Heap.lt_size e
    rw [z] at q
    exact absurd q (Nat.not_lt.mpr hC)
  have B := J.base
  refine I.call' (s' := { s1 with heap := h' }) (ch := fp) J.os ⟨fun b o e n hb hx => old b o (B.keep b o e n hb hx) (lt e), fun b o e n hb hx => ?_, B.free, fun b o e hx => ?_, B.tups, B.frzs, B.tbls, B.sys⟩ (fun b o e => ?_) J.bare fun b hb => ?_
  · obtain ⟨sl, q⟩ := B.slot b o e n hb hx
    exact ⟨sl, old _ _ q (lt e)⟩
  · obtain ⟨o', q⟩ := B.there b o e hx
    exact ⟨o', old _ _ q (lt e)⟩
  · have nC : ∀ c u, H' c = some u → c ≠ C := fun c u q z => by
      have f : H' C = none := J.free
      rw [z, f] at q; cases q
    refine (J.hok b o e).stay (fun c v hc q => old c v q ?_) (fun _ q => q) fun _ _ q => q
    rcases hc with rfl | hc
    · exact nC _ _ e
    · exact nC _ _ hc
  · obtain ⟨⟨_, h1, _, h3, h4, h5⟩, _⟩ := hf b hb
    exact ⟨h3, h1, h4, h5⟩
end
section
variable {X : Cx} {sc : Scope} {cl : List (Str × Addr)} {x : Str} {zs : List Str} {js : List Nat} {elt iter : Expr} {px pos : Pos} {wi : TI} {te : TE}
theorem pe_lc (hc : X.calm = true) (S : CompSc X sc cl x zs js) (hi : PI X (.Name x px) iter wi) (he : ∀ s H C fp, PE (compCx X sc cl (x :: zs) s H C fp) elt te)
    (hs : ∀ v, foldedSetIterable iter X.env v = pure v := by intro _; rfl) : PE X (.ListComp elt [⟨.Name x px, iter, [], 0⟩] sc pos) (tLC wi js te) := by
  intro pins s σ H Q I h
  rw [eval_ListComp]
  refine wpAny_comprehension_free (use := none) rfl hs S.clos S.kind S.names (thn (hi pins s σ H _ I h) fun v s1 h1 => thn h1 fun itv s2 h2 => ?_)
  obtain ⟨it, fp, tn, J, H2, e, I2, T, st2, f2, body⟩ := h2
  subst e
  have fr2 : H2 s2.heap.objs.size = none := I2.fresh
  obtain ⟨W, ⟨m0, w0⟩, turn⟩ := body _ fr2
  refine wpAny_newObj_type ?_
  have I3 : Inv X pins σ (upd H2 s2.heap.objs.size (.lst [])) { s2 with heap := s2.heap.push { cls := .type "list", data := .seq ([] : List Value).toArray } } := I2.lnew (t' := s2.toks) (ys := []) (its := []) .nil (Nat.zero_le _)
  refine wpAny_newFunctionEnv S.noCell (by intro y hy; simp at hy) (fun h₁ hn hsb => ?_) S.kind
  generalize hs3 : ({ s2 with heap := s2.heap.push { cls := .type "list", data := .seq ([] : List Value).toArray } } : Shared) = s3 at I3 hn hsb ⊢
  have fpl : ∀ b ∈ fp, FpOk X pins (upd H2 s2.heap.objs.size (.lst [])) b ∧ b < s3.heap.objs.size := fun b hb => by
    obtain ⟨o, ho, _⟩ := T.obj _ _ st2 b hb
    have hl := Heap.lt_size ho
    have hne : b ≠ s2.heap.objs.size := Nat.ne_of_lt hl
    obtain ⟨z1, z2⟩ := f2 b hb
    refine ⟨⟨by rw [upd_ne hne]; exact z1, z2⟩, ?_⟩
    rw [← hs3]
    show b < (s2.heap.push _).objs.size
    rw [Heap.size_push]
    exact Nat.lt_succ_of_lt hl
  have old : ∀ b o, s3.heap.get? b = some o → h₁.get? b = some o := fun b o e => hsb.extBut b o (Nat.ne_of_lt (Heap.lt_size e)) (Heap.get?_push_of_some _ e)
  have loop : ∀ sS : Shared, sS.heap = h₁ → sS.os = s3.os → sS.gens = s3.gens → codeAny (model X.prog X.w) X.A (.compLoop (.ListComp elt [⟨.Name x px, iter, [], 0⟩] sc pos) 0 (.ref it) (.ref s2.heap.objs.size) (compEnvC sc cl s3.heap.objs.size X.env))
      (compPost (model X.prog X.w) X.A X.xe none (EP X pins σ Q) (.ref s2.heap.objs.size) s3.heap.objs.size) sS := by
    intro sS eh eo eg
    subst eh
    have J0 : Inv (compCx X sc cl (x :: zs) s3 (upd H2 s2.heap.objs.size (.lst [])) s3.heap.objs.size fp) [] (none :: capS js σ) (upd H2 s2.heap.objs.size (.lst [])) sS := comp_start I3 S fpl (Nat.le_refl _) eo eg old hn
    generalize hX : compCx X sc cl (x :: zs) s3 (upd H2 s2.heap.objs.size (.lst [])) s3.heap.objs.size fp = X' at J0
    have stat : ∀ {H' : Hp}, (∀ b ∈ fp, H' b = none) → ∀ b ∈ fp, FpOk X' [] H' b := fun {H'} hn b hb => by
      subst hX
      obtain ⟨⟨_, z1, z2, z3, z4, z5⟩, z6⟩ := fpl b hb
      refine ⟨hn b hb, Nat.ne_of_lt z6, fun q => ?_, .inl hb, fun y c e => z4 y c (S.sub _ _ e), fun p hp => absurd (show p ∈ ([] : List (Addr × Obj)) from hp) (by simp)⟩
      rcases List.mem_cons.mp (I3.stkSub b q) with e | e
      · exact z1 e
      · exact z2 e
    have st3 : tn 0 sS.heap := T.keep _ _ _ st2 fun b hb o e => old b o (by rw [← hs3]; exact Heap.get?_push_of_some _ e)
    refine compLoopT (fun n s' => ∃ i ys o H', Inv X' [] (o :: capS js σ) H' s' ∧ tn i s'.heap ∧ (∀ b ∈ fp, H' b = none) ∧ W i n ys H') ?_ m0 ⟨0, [], none, _, J0, st3, fun b hb => (fpl b hb).1.1, w0⟩
    rintro n s' ⟨i, ys, o, H', Iv, st, fr, w⟩
    obtain ⟨hD, alt⟩ := turn i n ys H' w
    have eP : X'.prog = X.prog := by subst hX; rfl
    have eW : X'.w = X.w := by subst hX; rfl
    have eK : X'.K = X.K := by subst hX; rfl
    have eC : X'.calm = true := by subst hX; exact hc
    have eA : X'.A = X.A := by subst hX; rfl
    have eE : X'.env = compEnvC sc cl s3.heap.objs.size X.env := by subst hX; rfl
    have eX : X'.xe = fun _ _ => False := by subst hX; rfl
    rcases alt with ⟨stop, q⟩ | ⟨go, hlen, step⟩
    · have d := T.done X' eP eW eK eC i [] s' _ H' (fun _ _ => False) Iv (stat fr) st stop
      rw [eA] at d
      refine thn d fun r s4 ⟨hr, I4⟩ => ?_
      subst hr
      obtain ⟨m, hm, _⟩ := id I4.loc
      rw [eE] at hm
      subst hX
      exact ⟨m, hm, fun h' hs' => ⟨.ref s2.heap.objs.size, H', comp_end I3 fpl (Nat.le_refl _) I4 hs', rfl, q⟩⟩
    · have d := T.item X' eP eW eK eC i [] s' _ H' (fun _ _ => False) Iv (stat fr) st go
      rw [eA] at d
      refine thn d fun r s4 ⟨u, hr, h4⟩ => ?_
      subst hr
      refine thn h4 fun _ s5 ⟨y, H5, I5, r5, y5, st5, fr5⟩ => ?_
      have I5' := I5.pinned (stat fr5) (T.obj _ _ st5)
      have hg : PG X' (.Name x px) (gName 0) := by
        subst hX
        exact pg_name S.nd rfl (.inl (lookup_relabel_local S.var)) (.inr (lookup_relabel_local S.var))
      have g6 := hg _ s5 _ H5 y u (fun σ6 H6 => σ6 = (some y :: capS js σ) ∧ H6 = H5) I5' r5 ⟨rfl, rfl⟩
      rw [eP, eW, eA, eE, eX] at g6
      refine thn g6 fun _ s6 ⟨σ6, H6, I6, e6, e6'⟩ => ?_
      subst e6
      subst e6'
      have he' : PE X' elt te := by subst hX; exact he _ _ _ _
      have g7 := he' _ s6 _ H6 _ I6 (step y H6 y5)
      rw [eP, eW, eA, eE, eX] at g7
      refine thn g7 fun uv s7 ⟨v7, H7, I7, r7, hD7, m', hm', w7⟩ => ?_
      have g8 := (mt_append (X := X')) _ s7 _ H7 (.ref s2.heap.objs.size) [v7] (.ref s2.heap.objs.size) [uv] (fun _ H8 => H8 = upd H7 s2.heap.objs.size (.lst (ys ++ [v7]))) I7 rfl (.cons r7 .nil) ⟨_, ys, v7, rfl, rfl, hD7, hlen, rfl⟩
      rw [eP, eW, eA, eX] at g8
      refine thn g8 fun _ s8 ⟨_, H8, I8, _, e8⟩ => ?_
      subst e8
      refine ⟨m', hm', i + 1, ys ++ [v7], some y, _, I8.unpinned, T.keep _ _ _ st5 fun b hb o e => (I8.pin (b, o) (List.mem_append_right _ (List.mem_append_right _ (mem_pinsAt hb e)))).1, fun b hb => ?_, w7⟩
      obtain ⟨o', e', _⟩ := T.obj _ _ st5 b hb
      exact (I8.pin (b, o') (List.mem_append_right _ (List.mem_append_right _ (mem_pinsAt hb e')))).2.1
  have st1 : tn 0 h₁ := T.keep _ _ _ st2 fun b hb o e => old b o (by rw [← hs3]; exact Heap.get?_push_of_some _ e)
  exact codeAny_compStart_list (loop _ rfl rfl rfl) (T.self _ 0 _ _ _ st1 (loop _ rfl rfl rfl))
end
end My

/-! Ei -/
set_option Elab.async false
set_option linter.all false
set_option maxRecDepth 100000
set_option maxHeartbeats 4000000
namespace My
open PySem
/-! the base's own __init__ on an error of an own class: its args are a new tuple -/
section
variable {prog : Program} {w : World} {A : Around} {h : Heap} {g : Array GenState} {d : Drawn} {tk : Nat} {os : OsState} {C N e t0 : Addr}
variable {nm q : Str} {bs bm bmB : List Value} {hdct ab : Bool} {sn : List Str} {sub : List Value} {col : Option Bool} {dd : Option Addr}
variable {k0 k1 k2 k3 k5 : Option Value} {B newId initId : String}
abbrev excAt (C t : Addr) : Obj := { cls := .ref C, data := .fields #[.ref t, .none, .none, .none, .bool false, .none] }
theorem viCall {R : Result → Shared → Prop} {v : Value} (F : ExcBaseFacts B newId initId bmB) (T : OwnTail h bmB bm)
    (hC : h.get? C = some (excClassObj nm q C N bs bm hdct sn sub ab col dd k0 k1 k2 k3 k5 newId)) (he : h.get? e = some (excAt C t0))
    (hR : ∀ h', h'.get? e = some (excAt C h.objs.size) → (∀ b o, b ≠ e → h.get? b = some o → h'.get? b = some o) → R (.ok (.ret .none)) ⟨h', g, d, tk, os⟩) :
    codeAny (model prog w) A (.call (.builtin initId) ⟨[.ref e, v], []⟩) R ⟨h, g, d, tk, os⟩ := by
  refine codeAny_call_builtin F.init.plain F.initEntry (wpAny_check_init_subT F T hC he rfl ?_)
  wp_walk
  refine hR _ ?_ fun b o hb eb => ?_
  · exact Heap.get?_update_self _ (Heap.get?_push_of_some _ he) rfl
  · exact (Heap.get?_update_ne _ _ _ _ hb).trans (Heap.get?_push_of_some _ eb)
end
end My

/-! Es -/
set_option Elab.async false
set_option linter.all false
set_option maxRecDepth 100000
set_option maxHeartbeats 4000000
namespace My
open PySem PySem.W Builtin Builtin.ObjectAttr
/-! the first attribute of an error: its dict is made -/
section
variable {prog : Program} {w : World} {A : Around} {s : Shared} {K : Frag} {C x : Addr}
theorem osaPass {R : Result → Shared → Prop} {ox : Obj} {od : Option Obj} {name : Str} {tk : Tok} {v : Value} {cd : ClassData} (X : K.In s.heap) (I : InstAt s.heap x ox C od)
    (hc : clsIn K C = some cd) (hp : refuseLoop (.ref x) "__setattr__" cd.mro = pure ()) (hm0 : mroIn K C (.type "object") = some true) (ht : takerIn K C name = some none)
    (h : ∀ b, wpAny (model prog w) A.in1 (storeInOwnDict (.ref x) (.ref C) (.str name tk) name v b)
      (fun fin s' => match fin with | .done f => R (.ok f) s' | .again c' => c'.quiet = true ∧ codeAny (model prog w) A c' R s') (fun e s' => R (.error e) s') s) :
    codeAny (model prog w) A (.call (.builtin "object.__setattr__") ⟨[.ref x, .str name tk, v], []⟩) R s := by
  have SF := PySem.F.store_object
  have sub : Looks (model prog w) s.heap (isInstance (.ref x) (.type "object")) true := I.type.andThen (looks_mroIn X hm0)
  refine codeAny_call_builtin SF.slot.plain SF.entry (@check_slot (model prog w) _ _ s "object.__setattr__" "object" "__setattr__" (.ref x) [.str name tk, v] [] _ SF.kind SF.split sub (SF.args _ _ _) ?_)
  obtain ⟨attr, ha, hr⟩ := Option.bind_eq_some_iff.mp ht
  have hm : Looks (model prog w) s.heap (mroOf (.ref C)) cd.mro := (looks_clsIn X hc).andThen .now
  have L3 : Looks (model prog w) s.heap (storeTaker? attr) none := by
    cases attr with
    | none => exact .now
    | some a =>
      obtain ⟨b, hb, e⟩ := Option.map_eq_some_iff.mp hr
      refine (looks_takesIn X hb).andThen ?_
      cases b
      · exact .now
      · cases e
  rw [osa_eq, refuse_eq]
  refine wpAny_bind (wpAny_bind (I.type.here (wpAny_bind (hm.here ?_))))
  rw [hp]
  refine wpAny_pure (wpAny_bind (I.type.here (wpAny_bind ((looks_findIn X ha).here (wpAny_bind (L3.here ?_))))))
  exact h _
end
end My

/-! Et -/
set_option Elab.async false
set_option linter.all false
set_option maxRecDepth 100000
set_option maxHeartbeats 4000000
namespace My
open PySem PySem.W Builtin Builtin.ObjectAttr
section
variable {prog : Program} {w : World} {A : Around} {E : Value → Shared → Prop} {s : Shared} {K : Frag} {C x : Addr}
theorem setExc {fs : Array Value} {sl : Array (Option Value)} {name : Str} {v : Value} {cd : ClassData} {Q : Unit → Shared → Prop} (X : K.In s.heap) (hx : s.heap.get? x = some ⟨.ref C, none, .fields fs, sl⟩)
    (hs : findIn K (.ref C) "__setattr__" = some (some (.builtin "object.__setattr__"))) (hc : clsIn K C = some cd) (hd : cd.hasDict = true)
    (hp : refuseLoop (.ref x) "__setattr__" cd.mro = pure ()) (hm0 : mroIn K C (.type "object") = some true) (ht : takerIn K C name = some none)
    (h : ∀ h' tk, h'.get? x = some ⟨.ref C, some s.heap.objs.size, .fields fs, sl⟩ → h'.Ns1 s.heap.objs.size (fun y => if y = name then some v else none) →
      (∀ b o, b ≠ x → s.heap.get? b = some o → h'.get? b = some o) → Q () { s with heap := h', toks := tk }) : wpAny (model prog w) A (setAttr (.ref x) name v) Q E s := by
  have J : InstAt s.heap x ⟨.ref C, none, .fields fs, sl⟩ C none := ⟨hx, rfl, rfl, True.intro⟩
  refine set_plain X J hs (osaPass (s := { s with toks := s.toks + 1 }) X J hc hp hm0 ht fun b => ?_)
  refine wpAny_bind (wpAny_pure (wpAny_bind (wpAny_bind (wpAny_loadPart hx (wpAny_bind (Looks.here (s := { s with toks := s.toks + 1 }) (looks_clsIn X hc) ?_))))))
  rw [hd]
  have hx1 : (s.heap.push { cls := .type "dict", data := .dict #[] }).get? x = some ⟨.ref C, none, .fields fs, sl⟩ := Heap.get?_push_of_some _ hx
  have hxs : x ≠ s.heap.objs.size := Nat.ne_of_lt (Heap.lt_size hx)
  refine wpAny_bind (wpAny_alloc' ?_)
  refine wpAny_bind (wpAny_update' hx1 ?_)
  refine wpAny_pure ?_
  generalize eU : ((s.heap.push { cls := .type "dict", data := .dict #[] }).update x fun o => { cls := o.cls, dict := some s.heap.objs.size, data := o.data, slots := o.slots } : Heap) = hU
  have gd : hU.get? s.heap.objs.size = some { cls := .type "dict", data := .dict #[] } := by
    rw [← eU]
    exact (Heap.get?_update_ne _ _ _ _ hxs.symm).trans (Heap.get?_push_at rfl rfl)
  have gx : hU.get? x = some ⟨.ref C, some s.heap.objs.size, .fields fs, sl⟩ := by
    rw [← eU]
    exact Heap.get?_update_self _ hx1 rfl
  have nd : hU.Ns s.heap.objs.size (fun _ => none) := ⟨_, #[], _, gd, rfl, fun e he => absurd he (by simp), fun _ => rfl⟩
  show wpAny _ _ (storeInDict s.heap.objs.size (.str name _) name v) _ _ _
  unfold storeInDict newKeyGuard
  refine wpAny_bind (wpAny_pure (wpAny_bind (wpAny_nsSet1 (Heap.Ns1.of_empty nd) fun h' hn' hsb => ?_)))
  obtain ⟨oD, esD, epD, hoD, hdD, hcD⟩ := hn'.count (Within.cons name v Within.nil)
  refine wpAny_bind (wpAny_lookBehind hoD (by
    rw [hdD]
    exact pastItsLine_dict (Nat.le_trans hcD (by rw [List.length_cons, List.length_nil, sizeLine_eq]; omega))) ?_)
  refine wpAny_pure ?_
  refine h h' _ ((hsb.2 x hxs).trans gx) hn' fun b o hb e => ?_
  refine (hsb.2 b (Nat.ne_of_lt (Heap.lt_size e))).trans ?_
  rw [← eU]
  exact (Heap.get?_update_ne _ _ _ _ hb).trans (Heap.get?_push_of_some _ e)
end
end My

/-! Eg -/
set_option Elab.async false
set_option linter.all false
set_option maxRecDepth 100000
set_option maxHeartbeats 4000000
namespace My
open PySem PySem.W Builtin Builtin.ObjectAttr
/-! an attribute of an error read from its dict -/
section
variable {prog : Program} {w : World} {A : Around} {E : Value → Shared → Prop} {s : Shared} {K : Frag} {C x dx : Addr}
abbrev bga : String := "BaseException.__getattribute__"
theorem bgaCall {R : Result → Shared → Prop} {ox : Obj} {od : Option Obj} {name : Str} {tk : Tok} {v : Value} (X : K.In s.heap) (I : InstAt s.heap x ox C od)
    (hm0 : mroIn K C (.type "BaseException") = some true) (hf : findObj K C od name = some (.value v)) (h : R (.ok (.ret v)) s) :
    codeAny (model prog w) A (.call (.builtin bga) ⟨[.ref x, .str name tk], []⟩) R s := by
  have sub : Looks (model prog w) s.heap (isInstance (.ref x) (.type "BaseException")) true := I.type.andThen (looks_mroIn X hm0)
  have L1 := looks_find (M := model prog w) X I hf
  refine codeAny_call_builtin PySem.F.excAttr_ValueError.ga.plain PySem.F.entry_bexc_ga (@check_slot (model prog w) _ _ s bga "BaseException" "__getattribute__" (.ref x) [.str name tk] [] _ (by decide +kernel) (by decide +kernel) sub (PySem.F.args_bexc_ga _ _) ?_)
  refine wpAny_bind (wpAny_pure (wpAny_bind (wpAny_pure (wpAny_bind (I.type.here (wpAny_bind (L1.here ?_)))))))
  exact wpAny_pure h
theorem getExc {expr : Bool} {ox : Obj} {od : Option Obj} {name : Str} {v : Value} {Q : Value → Shared → Prop} (X : K.In s.heap) (I : InstAt s.heap x ox C od)
    (hga : findIn K (.ref C) "__getattribute__" = some (some (.builtin bga))) (hk : findIn K (.ref C) "__getattr__" = some none)
    (hm0 : mroIn K C (.type "BaseException") = some true) (hf : findObj K C od name = some (.value v)) (hv' : handedIn v = true) (h : Q v { s with toks := s.toks + 1 }) :
    wpAny (model prog w) A (getAttr (.ref x) name expr) Q E s := by
  have L0 := I.type (M := model prog w)
  have L1 := looks_findIn (M := model prog w) X hga
  have L2 := looks_findIn (M := model prog w) X hk
  have f3 := PySem.F.excAttr_ValueError.ga.bind (.ref x)
  unfold getAttr getAttrBy
  refine wpAny_bind (wpAny_mkText (wpAny_holding (wpAny_bind (Looks.here (s := { s with toks := s.toks + 1 }) L0 (wpAny_bind (Looks.here (s := { s with toks := s.toks + 1 }) L1 ?_))))))
  have hx1 : (onTheHeap (Value.ref C) && Value.builtin bga == Value.builtin "object.__getattribute__") = false := by
    rw [show (Value.builtin bga == Value.builtin "object.__getattribute__") = false from by decide +kernel]
    rfl
  show wpAny _ _ (if (onTheHeap (Value.ref C) && Value.builtin bga == Value.builtin "object.__getattribute__") = true then _ else _) _ _ _
  rw [if_neg (by rw [hx1]; decide)]
  unfold getAttrByItsOwn
  refine wpAny_bind ?_
  show wpAny _ _ (typeLookup (.ref C) "__getattr__") _ _ _
  refine Looks.here (s := { s with toks := s.toks + 1 }) L2 ?_
  have hx0 : (expr && onTheHeap (Value.builtin bga)) = false := by cases expr <;> rfl
  refine wpAny_bind (wpAny_attempt (wpAny_holding ?_))
  unfold callGetattribute
  rw [if_neg (by rw [hx0]; decide)]
  unfold boundAndCalled
  rw [f3]
  refine wpAny_bind (wpAny_pure ?_)
  refine wpAny_call (bgaCall (s := { s with toks := s.toks + 1 }) X I hm0 hf ?_)
  show wpAny _ _ (handedOut v) _ _ _
  rw [handedOut_of hv']
  exact wpAny_pure h
end
end My

/-! Ec -/
set_option Elab.async false
set_option linter.all false
set_option maxRecDepth 100000
set_option maxHeartbeats 4000000
namespace My
open PySem PySem.W
/-! an own error class under another own one, with an __init__ of its own, made: over what the top has written (K) -/
section
variable {prog : Program} {w : World} {A : Around} {E : Value → Shared → Prop} {h : Heap} {g : Array GenState}
variable {d : Drawn} {t : Nat} {os : OsState} {nm q : Str} {C N : Addr} {bs bm bmB : List Value} {hdct ab : Bool}
variable {sn : List Str} {sub : List Value} {col : Option Bool} {dd : Option Addr}
variable {k0 k1 k2 k3 k5 : Option Value} {B newId initId : String} {K : Frag}
abbrev tupO (vs : List Value) : Obj := { cls := .type "tuple", data := .seq vs.toArray }
theorem tcallK (X : K.In h) (F : ExcBaseFacts B newId initId bmB) (T : OwnTail h bmB bm) {rest : List Value}
    {fI : Addr} {Q : Fin → Shared → Prop}
    (hC : h.get? C = some (excClassObj nm q C N bs bm hdct sn sub ab col dd k0 k1 k2 k3 k5 newId))
    (hi : findIn K (.ref C) "__init__" = some (some (.ref fI))) (hfI : typeIn K (.ref fI) = some (.type "function"))
    (hq : wpAny (model prog w) A (call (.ref fI) (.ref (h.objs.size + 1) :: rest))
      (fun r s' => r = .none ∧ Q (.done (.ret (.ref (h.objs.size + 1)))) s') E ⟨(h.push (tupO rest)).push (excAt C h.objs.size), g, d, t, os⟩)
    (hrest : rest.length ≤ sizeLine) :
    wpAny (model prog w) A (Builtin.«type.__call__» ⟨.ref C :: rest, []⟩) Q E ⟨h, g, d, t, os⟩ := by
  repeat (first
    | with_reducible refine wpAny_loadPart_at hC ?_
    | with_reducible refine wpAny_madeBy_exc hC ?_
    | wp_step)
  refine codeAny_call_builtin_code (Code.quiet_builtin _ F.quiet) (wpAny_check_new_subT F T hC ?_)
  refine codeAny_exc_new_subT F T hC ?_ hrest
  show wpAny _ _ _ _ _ _
  have up : ∀ b o, h.get? b = some o → ((h.push (tupO rest)).push (excAt C h.objs.size)).get? b = some o :=
    fun b o e => Heap.get?_push_of_some _ (Heap.get?_push_of_some _ e)
  have hC1 := up _ _ hC
  have X1 : K.In ((h.push (tupO rest)).push (excAt C h.objs.size)) := X.keeps up
  have hg1 : ((h.push (tupO rest)).push (excAt C h.objs.size)).get? (h.objs.size + 1) = some (excAt C h.objs.size) := by heap_get
  have hcC : (Value.ref C :: bm).contains (.ref C) = true := by simp
  unfold isInstance
  repeat (first
    | with_reducible refine wpAny_loadPart_at hg1 ?_
    | (with_reducible refine wpAny_isSubtype_exc hC1 ?_; rw [hcC])
    | wp_step)
  show wpAny _ _ (typeLookup (.ref C) _) _ _ _
  refine Looks.here (s := ⟨(h.push (tupO rest)).push (excAt C h.objs.size), g, d, t, os⟩) (looks_findIn X1 hi) ?_
  refine wpAny_holding (wpAny_bind ?_)
  unfold bindSpecial
  refine wpAny_bind (Looks.here (s := ⟨(h.push (tupO rest)).push (excAt C h.objs.size), g, d, t, os⟩) (looks_typeIn X1 hfI) ?_)
  rw [if_pos (by decide)]
  refine wpAny_pure (wpAny_bind (wpAny_mono hq (fun r s' hr => ?_) fun _ _ x => x))
  obtain ⟨rfl, hQ⟩ := hr
  wp_walk
  exact hQ
theorem callK (X : K.In h) (F : ExcBaseFacts B newId initId bmB) (T : OwnTail h bmB bm) {rest : List Value}
    {fI : Addr} {Q : Value → Shared → Prop}
    (hC : h.get? C = some (excClassObj nm q C N bs bm hdct sn sub ab col dd k0 k1 k2 k3 k5 newId))
    (hi : findIn K (.ref C) "__init__" = some (some (.ref fI))) (hfI : typeIn K (.ref fI) = some (.type "function"))
    (hq : wpAny (model prog w) (A.under (.builtin "type.__call__" ⟨.ref C :: rest, []⟩))
      (call (.ref fI) (.ref (h.objs.size + 1) :: rest)) (fun r s' => r = .none ∧ Q (.ref (h.objs.size + 1)) s') E ⟨(h.push (tupO rest)).push (excAt C h.objs.size), g, d, t, os⟩)
    (hrest : rest.length ≤ sizeLine) : wpAny (model prog w) A (call (.ref C) rest) Q E ⟨h, g, d, t, os⟩ := by
  have f1 := tc_lookup
  have f2 := tc_bind (.ref C)
  have hT : Shared.TypeIs ⟨h, g, d, t, os⟩ (.ref C) "type" := ⟨_, hC, rfl⟩
  refine wpAny_call (codeAny_of_tree ?_)
  show wpAny _ _ (callAny (.ref C) _) _ _ _
  repeat (any_goals (first
    | assumption
    | with_reducible refine wpAny_loadPart_at hC ?_
    | wp_step))
  refine ⟨rfl, ?_⟩
  refine codeAny_call_builtin_at (Code.quiet_builtin _ (by decide +kernel)) entry_typeCall (wpAny_check_type_call_sub hC ?_)
  exact tcallK X F T hC hi hfI hq hrest
end
/-! isinstance of an error -/
section
variable {prog : Program} {w : World} {A : Around} {E : Value → Shared → Prop} {s : Shared} {K : Frag} {x C : Addr} {ox : Obj} {od : Option Obj}
theorem findData {a g : Value} {name : Str} (hc : (clsIn K C).isSome = true) (ha : findIn K (.ref C) name = some (some a)) (hg : specialIn K a "__get__" = some (some g)) (ht : takesIn K a = some true) : findObj K C od name = some (.bind g a) := by
  obtain ⟨cd, hc⟩ := Option.isSome_iff_exists.mp hc
  unfold findObj
  rw [hc, Option.bind_some, ha, Option.bind_some]
  simp [hg, ht]
theorem bgaBind {R : Result → Shared → Prop} {name : Str} {tk : Tok} {a g : Value} (X : K.In s.heap) (I : InstAt s.heap x ox C od)
    (hm0 : mroIn K C (.type "BaseException") = some true) (hf : findObj K C od name = some (.bind g a))
    (h : wpAny (model prog w) A.in1 (call g [a, .ref x, .ref C]) (fun v s' => R (.ok (.ret v)) s') (fun e s' => R (.error e) s') s) :
    codeAny (model prog w) A (.call (.builtin bga) ⟨[.ref x, .str name tk], []⟩) R s := by
  have sub : Looks (model prog w) s.heap (isInstance (.ref x) (.type "BaseException")) true := I.type.andThen (looks_mroIn X hm0)
  have L1 := looks_find (M := model prog w) X I hf
  refine codeAny_call_builtin PySem.F.excAttr_ValueError.ga.plain PySem.F.entry_bexc_ga (@check_slot (model prog w) _ _ s bga "BaseException" "__getattribute__" (.ref x) [.str name tk] [] _ (by decide +kernel) (by decide +kernel) sub (PySem.F.args_bexc_ga _ _) ?_)
  refine wpAny_bind (wpAny_pure (wpAny_bind (wpAny_pure (wpAny_bind (I.type.here (wpAny_bind (L1.here ?_)))))))
  show wpAny _ _ (holding [a] (call g [a, .ref x, .ref C]) >>= ret) _ _ _
  exact wpAny_bind (wpAny_holding (wpAny_mono h (fun v s' z => wpAny_pure z) fun _ _ z => z))
structure ErrI (K : Frag) (C : Addr) : Prop where
  cls : (clsIn K C).isSome = true
  ga : findIn K (.ref C) "__getattribute__" = some (some (.builtin bga))
  hk : findIn K (.ref C) "__getattr__" = some none
  mb : mroIn K C (.type "BaseException") = some true
  mo : mroIn K C (.type "object") = some true
  ca : findIn K (.ref C) "__class__" = some (some (.builtin "object.__class__"))
theorem errClass {Q : Option Value → Shared → Prop} (T : ErrI K C) (hn : specialIn K (.builtin "object.__class__") "__get__" = some (some (.builtin "getset_descriptor.__get__"))) (htk : takesIn K (.builtin "object.__class__") = some true)
    (X : K.In s.heap) (I : InstAt s.heap x ox C od) (h : Q (some (.ref C)) { s with toks := s.toks + 1 }) : wpAny (model prog w) A (getAttr? (.ref x) "__class__") Q E s := by
  have hf : findObj K C od "__class__" = some (.bind (.builtin "getset_descriptor.__get__") (.builtin "object.__class__")) := findData T.cls T.ca hn htk
  have L0 := I.type (M := model prog w)
  have L1 := looks_findIn (M := model prog w) X T.ga
  have L2 := looks_findIn (M := model prog w) X T.hk
  have f3 := PySem.F.excAttr_ValueError.ga.bind (.ref x)
  unfold getAttr? getAttrBy? getAttrBy
  refine wpAny_bind (wpAny_mkText (wpAny_bind (wpAny_attempt (wpAny_holding (wpAny_bind (Looks.here (s := { s with toks := s.toks + 1 }) L0 (wpAny_bind (Looks.here (s := { s with toks := s.toks + 1 }) L1 ?_))))))))
  have hx1 : (onTheHeap (Value.ref C) && Value.builtin bga == Value.builtin "object.__getattribute__") = false := by
    rw [show (Value.builtin bga == Value.builtin "object.__getattribute__") = false from by decide +kernel]
    rfl
  show wpAny _ _ (if (onTheHeap (Value.ref C) && Value.builtin bga == Value.builtin "object.__getattribute__") = true then _ else _) _ _ _
  rw [if_neg (by rw [hx1]; decide)]
  unfold getAttrByItsOwn
  refine wpAny_bind ?_
  show wpAny _ _ (typeLookup (.ref C) "__getattr__") _ _ _
  refine Looks.here (s := { s with toks := s.toks + 1 }) L2 ?_
  refine wpAny_bind (wpAny_attempt (wpAny_holding ?_))
  unfold callGetattribute
  rw [if_neg (by decide)]
  unfold boundAndCalled
  rw [f3]
  refine wpAny_bind (wpAny_pure ?_)
  refine wpAny_call (bgaBind (s := { s with toks := s.toks + 1 }) X I T.mb hf ?_)
  refine wpAny_call (class_get (s := { s with toks := s.toks + 1 }) (ox := ox) (od := od) X I T.mo ?_)
  show wpAny _ _ (handedOut (.ref C)) _ _ _
  rw [handedOut_of rfl]
  exact wpAny_pure (wpAny_pure h)
theorem kitErr (T : ErrI K C) (hn : specialIn K (.builtin "object.__class__") "__get__" = some (some (.builtin "getset_descriptor.__get__"))) (htk : takesIn K (.builtin "object.__class__") = some true) :
    KitX K (.ref x) (.ref C) (fun h => ∃ ox od, InstAt h x ox C od) where
  ty := fun _ _ _ ⟨_, _, I⟩ => I.type
  it := fun _ _ X _ => by
    obtain ⟨cdD, hcD⟩ := Option.isSome_iff_exists.mp T.cls
    unfold clsIn at hcD
    split at hcD
    · rename_i c' d' cd' sl' ho
      intro A' Q' E' s' k q
      unfold isType loadHead
      exact wpAny_bind (wpAny_loadPart (k _ _ (X _ _ ho)) (wpAny_pure q))
    · cases hcD
  ne := fun h tp dd its n sl X htp => by
    obtain ⟨cdD, hcD⟩ := Option.isSome_iff_exists.mp T.cls
    refine Bool.eq_false_iff.mpr fun q => ?_
    have e : C = tp := Value.ref.inj (beq_iff_eq.mp q)
    subst e
    unfold clsIn at hcD
    split at hcD
    · rename_i c' d' cd' sl' ho
      have z := (X _ _ ho).symm.trans htp
      cases z
    · cases hcD
  ca := fun X ⟨_, _, I⟩ k => errClass T hn htk X I k
end
end My

/-! Er -/
set_option Elab.async false
set_option linter.all false
set_option maxRecDepth 100000
set_option maxHeartbeats 4000000
namespace My
open PySem PySem.W L2
abbrev bmV : List Value := [.type "ValueError", .type "Exception", .type "BaseException", .type "object"]
/-- the object of an error -/
abbrev errAt (C : Addr) (d : Option Addr) (t : Addr) : Obj := { cls := .ref C, dict := d, data := .fields #[.ref t, .none, .none, .none, .bool false, .none] }
def ErrO (x C : Addr) (d : Option Addr) : HO := .ext fun h => ∃ t, h.get? x = some (errAt C d t)
theorem errO_ok {P : Program} {w : World} {H : Hp} {h : Heap} {x C : Addr} {d : Option Addr} {t : Addr} (e : h.get? x = some (errAt C d t)) : ObjOk P w H h x (ErrO x C d) :=
  ⟨⟨t, e⟩, ⟨_, e⟩, fun _ _ ⟨t', e'⟩ k => ⟨t', k _ e'⟩⟩
theorem errO_at {P : Program} {w : World} {H : Hp} {h : Heap} {x C : Addr} {d : Option Addr} (ok : HOk P w H h) (e : H x = some (ErrO x C d)) : ∃ t, h.get? x = some (errAt C d t) := (ok x _ e).1
theorem upd_id {H : Hp} {a : Addr} {o : HO} (h : H a = some o) : upd H a o = H := by
  funext b
  unfold upd
  split
  · rename_i e; rw [e, h]
  · rfl
/-- what is known of the class at the bottom, under ValueError, without an __init__ of its own -/
structure BaseC (K : Frag) (D : Addr) : Prop where
  cls : ∃ nm q N bs sn sub ab col dd k0 k1 k2 k3 k5, K.lookup D = some (excClassObj nm q D N bs bmV true sn sub ab col dd k0 k1 k2 k3 k5 "ValueError.__new__") ∧
     ∃ o es ep, K.lookup N = some o ∧ o.data = .dict es ep ∧ StrKeys es ∧ nsFind es "__init__" = none
  ga : specialIn K (.ref D) "__getattribute__" = some (some (.builtin "type.__getattribute__"))
  reads : readsIn K D (.type "type") = true
  ini : findCls K (.ref D) (.type "type") "__init__" = some (.val (.builtin "ValueError.__init__"))
  fi : findIn K (.ref D) "__init__" = some (some (.builtin "ValueError.__init__"))
  kp : keepIn K (.ref D) = true
  it : ErrI K D
theorem BaseC.tail {K : Frag} {D : Addr} (B : BaseC K D) {h : Heap} (X : K.In h) : OwnTail h bmV (.ref D :: bmV) := by
  obtain ⟨nm, q, N, bs, sn, sub, ab, col, dd, k0, k1, k2, k3, k5, l, o, es, ep, lN, hd, hs, hn⟩ := B.cls
  exact .own (X _ _ l) ⟨o, es, ep, X _ _ lN, hd, hs, fun _ => rfl⟩ hn .base
/-- an own error class under it, with an __init__ of its own at f -/
structure ErrC (K : Frag) (D : Addr) (nm : Str) (C f : Addr) : Prop where
  cls : ∃ q N bs sn sub ab col dd k0 k1 k2 k3 k5, K.lookup C = some (excClassObj nm q C N bs (.ref D :: bmV) true sn sub ab col dd k0 k1 k2 k3 k5 "ValueError.__new__")
  init : findIn K (.ref C) "__init__" = some (some (.ref f))
  fn : typeIn K (.ref f) = some (.type "function")
  kp : keepIn K (.ref C) = true
  sa : findIn K (.ref C) "__setattr__" = some (some (.builtin "object.__setattr__"))
  it : ErrI K C
theorem ErrC.clsIn {K : Frag} {D C f : Addr} {nm : Str} (T : ErrC K D nm C f) : ∃ cd, PySem.W.clsIn K C = some cd ∧ cd.hasDict = true ∧ cd.mro = .ref C :: .ref D :: bmV := by
  obtain ⟨q, N, bs, sn, sub, ab, col, dd, k0, k1, k2, k3, k5, l⟩ := T.cls
  unfold PySem.W.clsIn
  rw [l]
  exact ⟨_, rfl, rfl, rfl⟩
theorem ErrC.refuse {K : Frag} {D C f : Addr} {nm : Str} (T : ErrC K D nm C f) (x : Addr) : ∃ cd, PySem.W.clsIn K C = some cd ∧ cd.hasDict = true ∧ refuseLoop (.ref x) "__setattr__" cd.mro = pure () := by
  obtain ⟨cd, h1, h2, h3⟩ := T.clsIn
  refine ⟨cd, h1, h2, ?_⟩
  rw [h3, refuseLoop_ref, refuseLoop_ref]
  exact PySem.F.store_ValueError.passes _
section
variable {X : Cx} {pins : List (Addr × Obj)} {σ : St} {H : Hp} {s : Shared}
/-- the promise of an error's __init__: its one field is laid -/
def spErr (C : Addr) (fld : Str) : Sp := fun vs H Q _ => ∃ x v, vs = [.ref x, v] ∧ H x = some (ErrO x C none) ∧ ∀ dx, H dx = none → dx ≠ x → Q .non (upd (upd H dx (.xd [(fld, v)])) x (ErrO x C (some dx)))
def tErr (C : Addr) (fld : Str) (te : TE) : TE := fun σ H Q => te σ H fun v H1 => ∀ x dx, H1 x = none → H1 dx = none → dx ≠ x → Q (.ref x) (upd (upd H1 dx (.xd [(fld, v)])) x (ErrO x C (some dx)))
theorem upd3 {H : Hp} {x dx : Addr} {a b c : HO} (n : dx ≠ x) : upd (upd (upd H x a) dx b) x c = upd (upd H dx b) x c := by
  funext z
  unfold upd
  by_cases h1 : z = x
  · rw [if_pos h1, if_pos h1]
  · rw [if_neg h1, if_neg h1]
    by_cases h2 : z = dx
    · rw [if_pos h2, if_neg h1]
    · rw [if_neg h2, if_neg h1]
theorem make_err {D C f : Addr} {nm fld : Str} {k : Nat} {fd : FuncData} {ps : List Str} {u : Value} {v : V} {Q : VK} (B : BaseC X.K D) (T : ErrC X.K D nm C f) (F : FnOk X.prog X.w X.K X.mg X.base CX0 k f fd ps (spErr C fld)) (hr : Room (k + 1) X.A) (hb : Binds X.K fd ps [])
    (I : Inv X pins σ H s) (r : RelV v u) (h : ∀ x dx, H x = none → H dx = none → dx ≠ x → Q (.ref x) (upd (upd H dx (.xd [(fld, v)])) x (ErrO x C (some dx)))) :
    wpAny (model X.prog X.w) X.A (call (.ref C) [u]) (EP X pins σ Q) X.xe s := by
  obtain ⟨hp, g, dr, tk, os⟩ := s
  obtain ⟨q, N, bs, sn, sub, ab, col, dd, k0, k1, k2, k3, k5, l⟩ := T.cls
  refine callK (C := C) I.kIn PySem.F.excBase_ValueError (B.tail I.kIn) (I.kIn _ _ l) T.init T.fn ?_ (by rw [List.length_cons, List.length_nil, sizeLine_eq]; omega)
  have f0 : H hp.objs.size = none := I.fresh
  have I1 : Inv X pins σ H ⟨hp.push (tupO [u]), g, dr, tk, os⟩ := I.kept (h' := hp.push (tupO [u])) (t' := tk) fun b o e => Heap.get?_push_of_some _ e
  have sz : (hp.push (tupO [u])).objs.size = hp.objs.size + 1 := Heap.size_push _ _
  have fx : H (hp.objs.size + 1) = none := by rw [← sz]; exact I1.fresh
  have I2 : Inv X pins σ (upd H (hp.objs.size + 1) (ErrO (hp.objs.size + 1) C none)) ⟨(hp.push (tupO [u])).push (excAt C hp.objs.size), g, dr, tk, os⟩ :=
    I1.laid (h' := (hp.push (tupO [u])).push (excAt C hp.objs.size)) (t' := tk) (a := hp.objs.size + 1) (fun b o e => Heap.get?_push_of_some _ e) (Nat.le_of_eq sz)
      (errO_ok (t := hp.objs.size) (Heap.get?_push_at sz.symm rfl))
  generalize (⟨(hp.push (tupO [u])).push (excAt C hp.objs.size), g, dr, tk, os⟩ : Shared) = s2 at I2 ⊢
  generalize hp.objs.size + 1 = x at fx I2 ⊢
  have r2 : Vals [V.ref x, v] [Value.ref x, u] := .cons rfl (.cons r .nil)
  have hsp : spErr C fld [V.ref x, v] (upd H x (ErrO x C none)) (fun y H2 => y = .non ∧ Q (.ref x) H2) E0 :=
    ⟨x, v, rfl, upd_same, fun dx hd nd => ⟨rfl, by
      rw [upd3 nd]
      rw [upd_ne nd] at hd
      exact h x dx fx hd nd⟩⟩
  have hl : ([Value.ref x, u] ++ [] : List Value).length = ps.length := by
    rw [List.append_nil, ← r2.length]
    exact F.len _ _ _ _ hsp
  have hbd := hb s2 [Value.ref x, u] I2.kIn hl
  rw [List.append_nil] at hbd
  refine wpAny_call (codeAny_mono (F.run _ X.stack s2 _ ⟨[Value.ref x, u], []⟩ [Value.ref x, u] _ _ E0 (hr.make C [u] []) (I2.env0.make C [u] []) hbd r2 hsp) fun r s' hq' => ?_)
  cases r with
  | error e => exact False.elim hq'
  | ok fl =>
    cases fl with
    | ret u' =>
      obtain ⟨y, H', I3, ry, ey, q3⟩ := I2.after hq'
      subst ey
      exact ⟨ry, V.ref x, H', I3, rfl, q3⟩
    | next => exact False.elim hq'
    | brk => exact False.elim hq'
    | cont => exact False.elim hq'
end
end My

/-! Es2 -/
set_option Elab.async false
set_option linter.all false
set_option maxRecDepth 100000
set_option maxHeartbeats 4000000
namespace My
open PySem PySem.W L2
def one (P : V → Hp → Prop) (vs : List V) (H : Hp) : Prop := match vs with
  | [v] => P v H
  | _ => False
theorem one_of {P : V → Hp → Prop} {vs : List V} {H : Hp} (h : one P vs H) : ∃ v, vs = [v] ∧ P v H := by
  cases vs with
  | nil => exact h.elim
  | cons v r =>
    cases r with
    | nil => exact ⟨v, rfl, h⟩
    | cons _ _ => exact h.elim
def two (P : V → V → Hp → Prop) (vs : List V) (H : Hp) : Prop := match vs with
  | [v, u] => P v u H
  | _ => False
theorem two_of {P : V → V → Hp → Prop} {vs : List V} {H : Hp} (h : two P vs H) : ∃ v u, vs = [v, u] ∧ P v u H := by
  match vs, h with
  | [v, u], h => exact ⟨v, u, rfl, h⟩
section
variable {X : Cx} {pins : List (Addr × Obj)} {σ : St} {H : Hp} {s : Shared}
/-- C(e), C an own error class -/
theorem pe_err {D C f : Addr} {nm fld x : Str} {k : Nat} {fd : FuncData} {ps : List Str} {e : Expr} {te : TE} {p pos : Pos} (B : BaseC X.K D) (T : ErrC X.K D nm C f) (F : FnOk X.prog X.w X.K X.mg X.base CX0 k f fd ps (spErr C fld)) (hr : Room (k + 1) X.A) (hb : Binds X.K fd ps [])
    (hg : Gl X x) (hm : X.mg x = some (.ref C)) (ha : PE X e te) (hdb : (x == ("__debug__" : Str)) = false := by decide) (he : starEach [e] X.env = (false, eval e X.env) :: starEach [] X.env := by rfl) (hpl : (backTo pos (starEach [] X.env)).any (·.1) = false := by rfl) :
    PE X (.Call (.Name x p) [e] [] pos) (tErr C fld te) := by
  intro pins s σ H Q I h
  refine wpAny_Call_Name_kw (ld_glob I hg hm ?_ hdb)
  have pa : PA X [e] (tCons te tNil) := pa_cons ha pa_nil he
  have h' : tCons te tNil σ H (one fun v H1 => ∀ x dx, H1 x = none → H1 dx = none → dx ≠ x → Q (.ref x) (upd (upd H1 dx (.xd [(fld, v)])) x (ErrO x C (some dx)))) := h
  refine PySem.W.callWith_K (h₀ := X.base) I.ok.mod.kin T.kp (thn (pa pos pins s σ H _ I h') fun us s1 ⟨vs, H1, I1, r, q⟩ => ⟨I1.kIn, ?_⟩) he hpl
  obtain ⟨v, rfl, q⟩ := one_of q
  obtain ⟨u, rfl, ru⟩ := vals1 r
  exact make_err B T F hr hb I1 ru q
/-- the base's __init__ on an error that is being made -/
def tBI (ts tt : TE) (C : Addr) : TE := fun σ H Q => ts σ H fun x H1 => tt σ H1 fun v H2 => ∃ a, x = .ref a ∧ H2 a = some (ErrO a C none) ∧ Q .non H2
theorem pe_baseInit {D C f : Addr} {nm x : Str} {o e : Expr} {ts tt : TE} {p apos pos : Pos} {pl : Sem Bool} (B : BaseC X.K D) (T : ErrC X.K D nm C f) (hg : Gl X x) (hm : X.mg x = some (.ref D)) (hs : PE X o ts) (ht : PE X e tt) (hdb : (x == ("__debug__" : Str)) = false := by decide)
    (hst : starEach [o, e] X.env = (false, eval o X.env) :: starEach [e] X.env := by rfl) (hst2 : starEach [e] X.env = (false, eval e X.env) :: starEach [] X.env := by rfl) (hpl : (backTo pos (starEach [e] X.env)).any (·.1) = false := by rfl)
    (htr : eval (.Call (.Attribute (.Name x p) "__init__" apos) [o, e] [] pos) X.env = (do
      let ov ← eval (.Name x p) X.env
      standAt apos.atName
      let (f, first) ← holding [ov] (getMethod ov "__init__" pl)
      callWith pos f first (backTo pos (starEach [o, e] X.env)) (backToKw pos (keywordEach [] X.env))) := by rfl) :
    PE X (.Call (.Attribute (.Name x p) "__init__" apos) [o, e] [] pos) (tBI ts tt C) := by
  intro pins s σ H Q I h
  refine PySem.W.methodCall_KW (pl := pl) (ld_glob I hg hm ?_ hdb) htr
  refine method_cls I.kIn B.ga (cls_value I.kIn B.reads B.ini rfl ?_)
  have I0 : Inv X pins σ H { s with toks := s.toks + 1 } := I.tok _
  have pa : PA X [o, e] (tCons ts (tCons tt tNil)) := pa_cons hs (pa_cons ht pa_nil hst2) hst
  have h' : tCons ts (tCons tt tNil) σ H (two fun x v H2 => ∃ a, x = .ref a ∧ H2 a = some (ErrO a C none) ∧ Q .non H2) := h
  refine PyProof.Rows.callWith_builtin1 (thn (pa pos pins _ σ H _ I0 h') fun us s1 ⟨vs, H1, I1, r, q⟩ => ?_) hst hpl
  obtain ⟨_, v, rfl, a, rfl, ha, q⟩ := two_of q
  obtain ⟨u, u', rfl, ru, ru'⟩ := vals2 r
  cases (show u = Value.ref a from ru)
  obtain ⟨t0, hx⟩ := errO_at I1.hok ha
  obtain ⟨q', N, bs, sn, sub, ab, col, dd, k0, k1, k2, k3, k5, l⟩ := T.cls
  obtain ⟨hp, g, dr, tk, os⟩ := s1
  refine wpAny_call (viCall (C := C) PySem.F.excBase_ValueError (B.tail I1.kIn) (I1.kIn _ _ l) hx fun h' hx' hk => ?_)
  have I2 : Inv X pins σ (upd H1 a (ErrO a C none)) ⟨h', g, dr, tk, os⟩ := I1.write (h' := h') (t' := tk) (x := a) (e := a) (by rw [ha]; exact True.intro) (.inl rfl) (fun b o hb e => hk b o hb e) ⟨_, hx'⟩ (errO_ok hx')
  rw [upd_id ha] at I2
  exact ⟨.non, H1, I2, rfl, q⟩
/-- self.f = e: an error's first field -/
def sErr (K : Frag) (C : Addr) (ta tv : TE) (f : Str) : TS := fun D σ H => tv σ H fun y H1 => ta σ H1 fun x H2 => ∃ a, x = .ref a ∧ H2 a = some (ErrO a C none) ∧ takerIn K C f = some none ∧ ∀ dx, H2 dx = none → dx ≠ a → D.nx σ (upd (upd H2 dx (.xd [(f, y)])) a (ErrO a C (some dx)))
theorem ps_err {D C fI : Addr} {nm f : Str} {o value : Expr} {ta tv : TE} {pos pos' : Pos} (T : ErrC X.K D nm C fI) (ha : PE X o ta) (hv : PE X value tv) (hs : swapsWith value (some (.Attribute o f pos')) pos.line X.env = pure false) :
    PS X (.Assign [.Attribute o f pos'] value pos) (sErr X.K C ta tv f) := by
  intro pins s σ H D' I h
  refine plainObj_wpAny_Assign_Attribute (thn (hv pins s σ H _ I h) fun u s1 ⟨y, H1, I1, ry, q⟩ => thn (ha pins s1 σ H1 _ I1 q) fun ov s2 ⟨x, H2, I2, rx, a, ex, ea, tk, q2⟩ => ?_) hs
  subst ex
  obtain rfl : ov = Value.ref a := rx
  obtain ⟨t0, hx⟩ := errO_at I2.hok ea
  obtain ⟨cd, hc, hd, hp⟩ := T.refuse a
  refine setExc I2.kIn hx T.sa hc hd hp T.it.mo tk fun h' tk' hx' hn' hk => ?_
  have fr : H2 s2.heap.objs.size = none := I2.fresh
  have nz : s2.heap.objs.size ≠ a := fun z => by rw [← z, fr] at ea; cases ea
  obtain ⟨oD, es, ep, hoD, rD⟩ := id hn'
  have nf : oD.isFreed = false := Obj.isFreed_of_dict rD.1
  have I3 : Inv X pins σ (upd H2 s2.heap.objs.size (.xd [(f, y)])) { s2 with heap := s2.heap.push oD, toks := s2.toks } := by
    refine I2.laid (h' := s2.heap.push oD) (t' := s2.toks) (a := s2.heap.objs.size) (fun b o e => Heap.get?_push_of_some _ e) (Nat.le_refl _) ⟨_, ⟨oD, es, ep, Heap.get?_push_at rfl nf, rD⟩, fun g => ?_⟩
    by_cases e : g = f
    · subst e
      rw [if_pos rfl, List.lookup_cons_self]
      exact ry
    · rw [if_neg e, List.lookup_cons, beq_eq_false_iff_ne.mpr e]
      exact True.intro
  have ea3 : upd H2 s2.heap.objs.size (.xd [(f, y)]) a = some (ErrO a C none) := by rw [upd_ne nz.symm]; exact ea
  have I4 : Inv X pins σ (upd (upd H2 s2.heap.objs.size (.xd [(f, y)])) a (ErrO a C (some s2.heap.objs.size))) { s2 with heap := h', toks := tk' } := by
    refine I3.write (h' := h') (t' := tk') (x := a) (e := a) (by rw [ea3]; exact True.intro) (.inl rfl) (fun b o hb e => ?_) ⟨_, hx'⟩ (errO_ok (t := t0) hx')
    by_cases z : b = s2.heap.objs.size
    · subst z
      have e' : (s2.heap.push oD).get? s2.heap.objs.size = some o := e
      rw [Heap.get?_push_at rfl nf] at e'
      cases e'
      exact hoD
    · have e' : (s2.heap.push oD).get? b = some o := e
      exact hk b o hb (by rw [← Heap.get?_push_ne _ _ oD z]; exact e')
  exact ⟨σ, _, I4, q2 _ fr nz⟩
end
end My

/-! Eu -/
set_option Elab.async false
set_option linter.all false
set_option maxRecDepth 100000
set_option maxHeartbeats 4000000
namespace My
open PySem PySem.W L2
theorem ErrC.hasDict {K : Frag} {D C f : Addr} {nm : Str} (T : ErrC K D nm C f) : hasDictIn K C = true := by
  obtain ⟨cd, h1, h2, _⟩ := T.clsIn
  unfold hasDictIn
  rw [h1]
  exact h2
section
variable {prog : Program} {w : World} {A : Around} {E : Value → Shared → Prop} {h : Heap} {g : Array GenState}
variable {d : Drawn} {t : Nat} {os : OsState} {nm q : Str} {C N : Addr} {bs bm bmB : List Value} {hdct ab : Bool}
variable {sn : List Str} {sub : List Value} {col : Option Bool} {dd : Option Addr}
variable {k0 k1 k2 k3 k5 : Option Value} {B newId initId : String} {K : Frag}
theorem tcallB (X : K.In h) (F : ExcBaseFacts B newId initId bmB) (T : OwnTail h bmB bm) {v : Value} {Q : Fin → Shared → Prop}
    (hC : h.get? C = some (excClassObj nm q C N bs bm hdct sn sub ab col dd k0 k1 k2 k3 k5 newId))
    (hi : findIn K (.ref C) "__init__" = some (some (.builtin initId)))
    (hq : ∀ h' : Heap, (∀ b o, h.get? b = some o → h'.get? b = some o) → h'.get? (h.objs.size + 1) = some (excAt C (h.objs.size + 2)) → Q (.done (.ret (.ref (h.objs.size + 1)))) ⟨h', g, d, t, os⟩) :
    wpAny (model prog w) A (Builtin.«type.__call__» ⟨.ref C :: [v], []⟩) Q E ⟨h, g, d, t, os⟩ := by
  repeat (first
    | with_reducible refine wpAny_loadPart_at hC ?_
    | with_reducible refine wpAny_madeBy_exc hC ?_
    | wp_step)
  refine codeAny_call_builtin_code (Code.quiet_builtin _ F.quiet) (wpAny_check_new_subT F T hC ?_)
  refine codeAny_exc_new_subT F T hC ?_ (by rw [List.length_cons, List.length_nil, sizeLine_eq]; omega)
  show wpAny _ _ _ _ _ _
  have up : ∀ b o, h.get? b = some o → ((h.push (tupO [v])).push (excAt C h.objs.size)).get? b = some o :=
    fun b o e => Heap.get?_push_of_some _ (Heap.get?_push_of_some _ e)
  have hC1 := up _ _ hC
  have X1 : K.In ((h.push (tupO [v])).push (excAt C h.objs.size)) := X.keeps up
  have hg1 : ((h.push (tupO [v])).push (excAt C h.objs.size)).get? (h.objs.size + 1) = some (excAt C h.objs.size) := by heap_get
  have hcC : (Value.ref C :: bm).contains (.ref C) = true := by simp
  have T1 := T.keeps up
  unfold isInstance
  repeat (first
    | with_reducible refine wpAny_loadPart_at hg1 ?_
    | (with_reducible refine wpAny_isSubtype_exc hC1 ?_; rw [hcC])
    | wp_step)
  show wpAny _ _ (typeLookup (.ref C) _) _ _ _
  refine Looks.here (s := ⟨(h.push (tupO [v])).push (excAt C h.objs.size), g, d, t, os⟩) (looks_findIn X1 hi) ?_
  refine wpAny_holding (wpAny_bind (wpAny_of_eq (F.init.bind _) ?_))
  refine wpAny_bind (wpAny_call (viCall (C := C) F T1 hC1 hg1 fun h' hx hk => ?_))
  have sz : ((h.push (tupO [v])).push (excAt C h.objs.size)).objs.size = h.objs.size + 2 := by simp only [Heap.size_push]
  rw [sz] at hx
  wp_walk
  exact hq h' (fun b o e => hk b o (Nat.ne_of_lt (Nat.lt_succ_of_lt (Heap.lt_size e))) (up b o e)) hx
theorem callB (X : K.In h) (F : ExcBaseFacts B newId initId bmB) (T : OwnTail h bmB bm) {v : Value} {Q : Value → Shared → Prop}
    (hC : h.get? C = some (excClassObj nm q C N bs bm hdct sn sub ab col dd k0 k1 k2 k3 k5 newId))
    (hi : findIn K (.ref C) "__init__" = some (some (.builtin initId)))
    (hq : ∀ h' : Heap, (∀ b o, h.get? b = some o → h'.get? b = some o) → h'.get? (h.objs.size + 1) = some (excAt C (h.objs.size + 2)) → Q (.ref (h.objs.size + 1)) ⟨h', g, d, t, os⟩) :
    wpAny (model prog w) A (call (.ref C) [v]) Q E ⟨h, g, d, t, os⟩ := by
  have f1 := tc_lookup
  have f2 := tc_bind (.ref C)
  have hT : Shared.TypeIs ⟨h, g, d, t, os⟩ (.ref C) "type" := ⟨_, hC, rfl⟩
  refine wpAny_call (codeAny_of_tree ?_)
  show wpAny _ _ (callAny (.ref C) _) _ _ _
  repeat (any_goals (first
    | assumption
    | with_reducible refine wpAny_loadPart_at hC ?_
    | wp_step))
  refine ⟨rfl, ?_⟩
  refine codeAny_call_builtin_at (Code.quiet_builtin _ (by decide +kernel)) entry_typeCall (wpAny_check_type_call_sub hC ?_)
  exact tcallB X F T hC hi hq
end
section
variable {X : Cx} {pins : List (Addr × Obj)} {σ : St} {H : Hp} {s : Shared}
theorem err_inst {P : Program} {w : World} {H : Hp} {h : Heap} {a C dx : Addr} {fs : List (Str × V)} (ok : HOk P w H h) (ea : H a = some (ErrO a C (some dx))) (ed : H dx = some (.xd fs)) :
    ∃ (ox od : Obj), InstAt h a ox C (some od) ∧ ∃ mA : Str → Option Value, (∀ f, RelO (fs.lookup f) (mA f)) ∧ ∀ name, lookIn name od = some (mA name) := by
  obtain ⟨t, hx⟩ := errO_at ok ea
  obtain ⟨mA, hn, hr⟩ := (show ObjOk P w H h dx (.xd fs) from ok dx _ ed)
  obtain ⟨od, hod, hl⟩ := lookIn_ns hn
  exact ⟨_, od, ⟨hx, rfl, rfl, hod⟩, mA, hr, hl⟩
/-- e.f: an error's field -/
def tErrF (K : Frag) (ta : TE) (f : Str) : TE := fun σ H Q => ta σ H fun x H1 => ∃ a C dx fs v, x = .ref a ∧ H1 a = some (ErrO a C (some dx)) ∧ H1 dx = some (.xd fs) ∧ fs.lookup f = some v ∧ ErrI K C ∧ hasDictIn K C = true ∧ findIn K (.ref C) f = some none ∧ Q v H1
theorem pe_errF {e : Expr} {ta : TE} {f : Str} {pos : Pos} (he : PE X e ta) (hb : attributeBase e f X.env (eval e X.env) = eval e X.env) : PE X (.Attribute e f pos) (tErrF X.K ta f) := by
  intro pins s σ H Q I h
  refine attr_of hb (thn (he pins s σ H _ I h) fun u s1 ⟨x, H1, I1, rx, a, C, dx, fs, v, ex, ea, ed, l, T, hd, nf, q⟩ => ?_)
  subst ex
  obtain rfl : u = Value.ref a := rx
  obtain ⟨ox, od, J, mA, hr, hl⟩ := err_inst I1.hok ea ed
  obtain ⟨u, eu, ru⟩ := RelO.some_of (l ▸ hr f)
  exact getExc I1.kIn J T.ga T.hk T.mb (findObj_own hd nf rfl (by rw [hl, eu])) (handed_of ru) ⟨v, H1, I1.tok _, ru, q⟩
/-- what isinstance asks of the top besides -/
structure IsT (K : Frag) : Prop where
  gt : specialIn K (.builtin "object.__class__") "__get__" = some (some (.builtin "getset_descriptor.__get__"))
  tk : takesIn K (.builtin "object.__class__") = some true
/-- an error, whatever it is made of -/
def ErrAt (H : Hp) (a C : Addr) : Prop := H a = some (ErrO a C none) ∨ ∃ dx fs, H a = some (ErrO a C (some dx)) ∧ H dx = some (.xd fs)
theorem ErrAt.inst {P : Program} {w : World} {H : Hp} {h : Heap} {a C : Addr} (E : ErrAt H a C) (ok : HOk P w H h) : ∃ ox od, InstAt h a ox C od := by
  rcases E with e | ⟨dx, fs, ea, ed⟩
  · obtain ⟨t, hx⟩ := errO_at ok e
    exact ⟨_, none, ⟨hx, rfl, rfl, True.intro⟩⟩
  · obtain ⟨ox, od, J, _⟩ := err_inst ok ea ed
    exact ⟨ox, some od, J⟩
def isV : V → Value
  | .ref a => .ref a
  | .ty n => .type n
  | _ => .none
def rIsi (K : Frag) : List V → Hp → VK → Prop := fun vs H Q => ∃ a C c b, vs = [.ref a, c] ∧ ErrAt H a C ∧ ErrI K C ∧ ((∃ z, c = .ref z) ∨ ∃ n, c = .ty n) ∧ kitOne K (.ref C) (isV c) = some b ∧ Q (.bl b) H
theorem call_isi (N : IsT X.K) : CallR X (.builtin "isinstance") (rIsi X.K) := by
  intro pins s σ H xs us Q I r h
  obtain ⟨a, C, c, b, rfl, ea, T, hc, e, q⟩ := h
  obtain ⟨u, u', rfl, ru, ru'⟩ := vals2 r
  cases (show u = Value.ref a from ru)
  have ec : u' = isV c := by
    rcases hc with ⟨z, rfl⟩ | ⟨n, rfl⟩
    · exact ru'
    · exact ru'
  subst ec
  exact kia_one (kitErr T N.gt N.tk) I.kIn (ea.inst I.hok) e (fun z => nomatch z) fun tk => ⟨.bl b, H, I.tok _, rfl, q⟩
/-- the base class itself, of a text -/
def tBase (D : Addr) (te : TE) : TE := fun σ H Q => te σ H fun v H1 => ∀ x, H1 x = none → Q (.ref x) (upd H1 x (ErrO x D none))
theorem pe_base {D : Addr} {x : Str} {e : Expr} {te : TE} {p pos : Pos} (B : BaseC X.K D) (hg : Gl X x) (hm : X.mg x = some (.ref D)) (ha : PE X e te) (hdb : (x == ("__debug__" : Str)) = false := by decide)
    (he : starEach [e] X.env = (false, eval e X.env) :: starEach [] X.env := by rfl) (hpl : (backTo pos (starEach [] X.env)).any (·.1) = false := by rfl) : PE X (.Call (.Name x p) [e] [] pos) (tBase D te) := by
  intro pins s σ H Q I h
  refine wpAny_Call_Name_kw (ld_glob I hg hm ?_ hdb)
  have pa : PA X [e] (tCons te tNil) := pa_cons ha pa_nil he
  have h' : tCons te tNil σ H (one fun v H1 => ∀ x, H1 x = none → Q (.ref x) (upd H1 x (ErrO x D none))) := h
  refine PySem.W.callWith_K (h₀ := X.base) I.ok.mod.kin B.kp (thn (pa pos pins s σ H _ I h') fun us s1 ⟨vs, H1, I1, r, q⟩ => ⟨I1.kIn, ?_⟩) he hpl
  obtain ⟨v, rfl, q⟩ := one_of q
  obtain ⟨u, rfl, ru⟩ := vals1 r
  obtain ⟨nm, q', N, bs, sn, sub, ab, col, dd, k0, k1, k2, k3, k5, l, _⟩ := B.cls
  obtain ⟨hp, g, dr, tk, os⟩ := s1
  refine callB (C := D) I1.kIn PySem.F.excBase_ValueError .base (I1.kIn _ _ l) B.fi (fun h' up hy => ?_)
  have ly : hp.objs.size ≤ hp.objs.size + 1 := Nat.le_succ _
  have fy : H1 (hp.objs.size + 1) = none := I1.hok.fresh ly
  exact ⟨.ref _, _, I1.laid (h' := h') (t' := tk) (a := hp.objs.size + 1) (fun b o e => up b o e) ly (errO_ok (t := hp.objs.size + 2) hy), rfl, q _ fy⟩
end
end My

/-! Tx -/
set_option Elab.async false
set_option linter.all false
set_option maxRecDepth 100000
set_option maxHeartbeats 4000000
namespace My
open PySem L2 PySem.Calls PyProof.Rows
open PySem.Builtin.Str (occurrences partsBetween strSub)
section
variable {X : Cx}
/-! great numbers -/
def GDiv (i j : Int) : Prop := 0 < j ∧ j.natAbs.log2 < 9000
theorem op_gdiv : OpR X (binaryOp .FloorDiv) (rI GDiv fun i j => .int (i / j)) := opI fun i j _ _ _ _ _ hc q => by
  have z := hc.1
  exact floordiv_int (by omega) (by rw [Int.fdiv_eq_ediv_of_nonneg i (Int.le_of_lt z)]; exact q) (.inl (PyProof.noPylong_of_log2 hc.2))
def GMul (i j : Int) : Prop := Builtin.Int.intBits i + Builtin.Int.intBits j ≤ 1000000
theorem GMul.ok {i j : Int} (h : GMul i j) : IntMulOk i j := by
  unfold IntMulOk
  have z : Builtin.Int.intTooBig (Builtin.Int.intBits i + Builtin.Int.intBits j) = false := by
    unfold Builtin.Int.intTooBig
    refine decide_eq_false ?_
    have h' : Builtin.Int.intBits i + Builtin.Int.intBits j ≤ 1000000 := h
    have hb : (1000000 : Int) ≤ bitsLine := by decide +kernel
    omega
  rw [z]; simp
theorem op_gmul : OpR X (binaryOp .Mult) (rI GMul fun i j => .int (i * j)) := opI fun _ _ _ _ _ _ _ hc q => PyProof.Rows.mul_int q hc.ok
/-! the texts' methods -/
theorem mt_starts : MtR X "str.startswith" (fun x xs H Q => ∃ a b, x = .str a ∧ xs = [.str b] ∧ Q (.bl (Txt.startswith a b)) H) := by
  intro pins s σ H x xs v us Q I rx rs h
  obtain ⟨a, b, rfl, rfl, q⟩ := h
  obtain ⟨t, rfl⟩ := rx
  obtain ⟨u, rfl, t', rfl⟩ := vals1 rs
  exact call_gives F.slot_str_startswith (typeIs_str _ _ _) F.entry_str_startswith (F.args_str_startswith_2 _ _) (gives_str_startswith a b t t') ⟨.bl _, H, I, rfl, q⟩
theorem mt_ends : MtR X "str.endswith" (fun x xs H Q => ∃ a b, x = .str a ∧ xs = [.str b] ∧ Q (.bl (Txt.endswith a b)) H) := by
  intro pins s σ H x xs v us Q I rx rs h
  obtain ⟨a, b, rfl, rfl, q⟩ := h
  obtain ⟨t, rfl⟩ := rx
  obtain ⟨u, rfl, t', rfl⟩ := vals1 rs
  exact call_gives F.slot_str_endswith (typeIs_str _ _ _) F.entry_str_endswith (F.args_str_endswith_2 _ _) (gives_str_endswith a b t t') ⟨.bl _, H, I, rfl, q⟩
theorem mt_find : MtR X "str.find" (fun x xs H Q => ∃ a b, x = .str a ∧ xs = [.str b] ∧ Q (.int (Txt.find a b)) H) := by
  intro pins s σ H x xs v us Q I rx rs h
  obtain ⟨a, b, rfl, rfl, q⟩ := h
  obtain ⟨t, rfl⟩ := rx
  obtain ⟨u, rfl, t', rfl⟩ := vals1 rs
  exact call_gives F.slot_str_find (typeIs_str _ _ _) F.entry_str_find (F.args_str_find_2 _ _) (gives_str_find a b t t') ⟨.int _, H, I.tok _, ⟨_, rfl⟩, q⟩
theorem three (a b c : Str) (t u v : Tok) : Vals [.str a, .str b, .str c] [.str a t, .str b u, .str c v] := .cons (⟨t, rfl⟩ : RelV (.str a) _) (.cons (⟨u, rfl⟩ : RelV (.str b) _) (.cons (⟨v, rfl⟩ : RelV (.str c) _) .nil))
/-- text.partition(sep): a new tuple of three texts -/
def rPart : V → List V → Hp → VK → Prop := fun x xs H Q => ∃ a b, x = .str a ∧ xs = [.str b] ∧ (b.length == 0) = false ∧ a.length ≤ sizeLine ∧
  ∀ p, H p = none → Q (.ref p) (upd H p (.tup [.str (Txt.partition a b).1, .str (Txt.partition a b).2.1, .str (Txt.partition a b).2.2]))
theorem mt_part : MtR X "str.partition" rPart := by
  intro pins s σ H x xs v us Q I rx rs h
  obtain ⟨a, b, rfl, rfl, hb, ha, q⟩ := h
  obtain ⟨t, rfl⟩ := rx
  obtain ⟨u, rfl, t', rfl⟩ := vals1 rs
  refine call_meets F.slot_str_partition (typeIs_str _ _ _) F.entry_str_partition (F.args_str_partition_2 _ _) (meets_str_partition a b t t' hb ha) ?_
  have q' := q s.heap.objs.size (I.hok.fresh (Nat.le_refl _))
  unfold Txt.partition at q'
  revert q'
  cases occurrences a b 0 a.length 1 with
  | nil =>
    intro q'
    exact ⟨.ref _, _, I.laid (t' := s.toks + 1) (fun b o e => Heap.get?_push_of_some _ e) (Nat.le_refl _) (show ObjOk X.prog X.w _ _ _ (.tup _) from ⟨(by show 3 ≤ sizeLine; decide), _, three _ _ _ _ _ _, IsTup.new _ _⟩), rfl, q'⟩
  | cons i r =>
    intro q'
    exact ⟨.ref _, _, I.laid (t' := s.toks + 1 + 1) (fun b o e => Heap.get?_push_of_some _ e) (Nat.le_refl _) (show ObjOk X.prog X.w _ _ _ (.tup _) from ⟨(by show 3 ≤ sizeLine; decide), _, three _ _ _ _ _ _, IsTup.new _ _⟩), rfl, q'⟩

/-- text.split(sep): a new list of texts -/
def rSplit : V → List V → Hp → VK → Prop := fun x xs H Q => ∃ a b, x = .str a ∧ xs = [.str b] ∧ (b.length == 0) = false ∧ a.length ≤ sizeLine ∧
  (partsBetween a (occurrences a b 0 a.length (a.length + 1)) b.length).length ≤ sizeLine ∧ ∀ p, H p = none → Q (.ref p) (upd H p (.lst ((Txt.split a b).map V.str)))
theorem vals_strs : ∀ (l : List (Str × Tok)), Vals (l.map fun z => V.str z.1) (strValues l)
  | [] => .nil
  | z :: l => .cons (⟨z.2, rfl⟩ : RelV (.str z.1) _) (vals_strs l)
theorem mt_split : MtR X "str.split" rSplit := by
  intro pins s σ H x xs v us Q I rx rs h
  obtain ⟨a, b, rfl, rfl, hb, ha, hn, q⟩ := h
  obtain ⟨t, rfl⟩ := rx
  obtain ⟨u, rfl, t', rfl⟩ := vals1 rs
  have q' := q s.heap.objs.size (I.hok.fresh (Nat.le_refl _))
  have one : ∀ (l : List (Str × Tok)) (k : Nat), Txt.split a b = l.map (·.1) → l.length ≤ sizeLine → EP X pins σ Q (.ref s.heap.objs.size) { s with heap := s.heap.push { cls := .type "list", data := .seq (strValues l).toArray }, toks := k } := by
    intro l k e hl
    rw [e, List.map_map] at q'
    exact ⟨.ref _, _, I.laid (t' := k) (fun b o e => Heap.get?_push_of_some _ e) (Nat.le_refl _) (show ObjOk X.prog X.w _ _ _ (.lst _) from ⟨by rw [List.length_map]; exact hl, _, _, vals_strs l, Heap.get?_push_size _ rfl⟩), rfl, q'⟩
  cases h1 : (decide (a.length < b.length) || decide (Builtin.Str.strKind a < Builtin.Str.strKind b))
  · cases hf : (occurrences a b 0 a.length (a.length + 1)).isEmpty
    · refine call_meets F.slot_str_split (typeIs_str _ _ _) F.entry_str_split (F.args_str_split_2 _ _) (meets_str_split_sep a b t t' h1 hb hf ha hn) ?_
      have z : Txt.split a b = (numbered s.toks (partsBetween a (occurrences a b 0 a.length (a.length + 1)) b.length)).map (·.1) := by
        rw [numbered_texts]; unfold Txt.split; rw [if_neg (by rw [h1]; decide), if_neg (by rw [hf]; decide)]
      have y := one _ (s.toks + (partsBetween a (occurrences a b 0 a.length (a.length + 1)) b.length).length) z (by rw [← List.length_map (f := (·.1)), numbered_texts]; exact hn)
      rw [← strsFrom_eq] at y
      exact y
    · refine call_meets F.slot_str_split (typeIs_str _ _ _) F.entry_str_split (F.args_str_split_2 _ _) (meets_str_split_not_found a b t t' h1 hb hf) ?_
      exact one [(a, t)] s.toks (by unfold Txt.split; rw [if_neg (by rw [h1]; decide), if_pos hf]; rfl) (by show 1 ≤ sizeLine; decide)
  · refine call_meets F.slot_str_split (typeIs_str _ _ _) F.entry_str_split (F.args_str_split_2 _ _) (meets_str_split_cannot_occur a b t t' h1) ?_
    exact one [(a, t)] s.toks (by unfold Txt.split; rw [if_pos h1]; rfl) (by show 1 ≤ sizeLine; decide)
/-- int(text) -/
theorem call_int_text : CallR X (.type "int") (fun xs H Q => ∃ z n, xs = [.str z] ∧ z.length ≤ 640 ∧ intText? z = some n ∧ Q (.int n) H) := by
  intro pins s σ H xs us Q I r h
  obtain ⟨z, n, rfl, hl, hn, q⟩ := h
  obtain ⟨u, rfl, t, rfl⟩ := vals1 r
  exact PySem.call_int_1 (PySem.W.KIN.gives_text hl hn).meets ⟨rfl, .int n, H, I.tok _, ⟨_, rfl⟩, q⟩
/-- str(n) of a number of up to 4,300 figures -/
theorem call_str_great (nd : X.base.NoDigits) (hc : X.calm = true) : CallR X (.type "str") (fun xs H Q => ∃ i, xs = [.int i] ∧ i.natAbs < 10 ^ 4300 ∧ Q (.str (toString i)) H) := by
  intro pins s σ H xs us Q I r h
  obtain ⟨i, rfl, hz, q⟩ := h
  obtain ⟨u, rfl, t, rfl⟩ := vals1 r
  exact str_of_int_or (I.ok.hd hc) (nd.keeps I.bk) (fun _ => ⟨.str _, H, I.tok _, ⟨_, rfl⟩, q⟩) fun z => absurd hz (Nat.not_lt.mpr z)
/-- a field of an f-string: a number; a text -/
def tFieldI (te : TE) : TE := fun σ H Q => te σ H fun x H1 => ∃ i, x = .int i ∧ i.natAbs < 10 ^ 4300 ∧ Q (.str (toString i)) H1
theorem pe_fieldI {e : Expr} {te : TE} {pos : Pos} (nd : X.base.NoDigits) (hc : X.calm = true) (he : PE X e te) : PE X (.FormattedValue e (-1) none pos) (tFieldI te) := by
  intro pins s σ H Q I h
  refine wpAny_FormattedValue_plain (thn (he pins s σ H _ I h) fun v s1 ⟨x, H1, I1, r1, i, e1, hz, q⟩ => ?_)
  subst e1
  obtain ⟨t, rfl⟩ := r1
  exact PyProof.Rows.formatField_int (I1.ok.hd hc) (nd.keeps I1.bk) (fun _ => ⟨.str _, H1, I1.tok _, ⟨_, rfl⟩, q⟩) fun z => absurd hz (Nat.not_lt.mpr z)

/-- the signs of a text -/
def Its (z : Str) : It := ⟨fun i _ => i < z.cps.size, fun i H x H' => H' = H ∧ ∃ c, z.cps[i]? = some c ∧ x = .str ⟨#[c]⟩, fun i _ => z.cps.size ≤ i⟩
section
variable {P : Program} {w : World} {K : PySem.W.Frag} {tg : Expr}
theorem itObj {h : Heap} {it : Addr} {ty : String} {z : Str} {t : Tok} {i : Nat} (st : h.IsStrIter it ty z t i) : ∀ b ∈ [it], ∃ o, h.get? b = some o ∧ ∀ v, o.data ≠ .cell v := by
  intro b hb
  obtain ⟨o, e, _, d⟩ := st
  cases List.mem_singleton.mp hb
  exact ⟨o, e, fun v y => by rw [d] at y; cases y⟩
theorem turn_signsA (z : Str) (t : Tok) (it : Addr) : Turn P w K tg (Its z) [it] it (fun i h => h.IsStrIter it "str_ascii_iterator" z t i) where
  mem := List.mem_singleton.mpr rfl
  obj := fun _ _ st => itObj st
  keep := fun _ _ _ ⟨o, e, r⟩ k => ⟨o, k it (List.mem_singleton.mpr rfl) o e, r⟩
  item := by
    intro X hP hw hK hc i pins s σ H E I hf st hg
    subst hP hw hK
    have hg' : i < z.cps.size := hg
    obtain ⟨f0, f1, f2, f3, f4, f5⟩ := hf it (List.mem_singleton.mpr rfl)
    have hx : z.cps[i]? = some z.cps[i] := Array.getElem?_eq_getElem hg'
    refine wpAny_pyNext_ascii_item st hx fun h' st' sb => ?_
    have I1 : Inv X pins σ H { s with heap := h', toks := s.toks + 1 } := I.turned (t' := s.toks + 1) (fun b o hb e => (sb.2 b hb).trans e) f0 f1 f3 f4 f5
    obtain ⟨o, e, c, d⟩ := id st'
    exact ⟨_, rfl, go_of (s := { s with heap := h', toks := s.toks + 1 }) e c d (by decide) ⟨.str _, H, I1, ⟨_, rfl⟩, ⟨rfl, _, hx, rfl⟩, st', fun b hb => (hf b hb).1⟩⟩
  done := by
    intro X hP hw hK hc i pins s σ H E I hf st hg
    subst hP hw hK
    have hg' : z.cps.size ≤ i := hg
    obtain ⟨f0, f1, f2, f3, f4, f5⟩ := hf it (List.mem_singleton.mpr rfl)
    exact wpAny_pyNext_ascii_end (I.ok.hd hc) st (Array.getElem?_eq_none hg') fun h' eb => ⟨rfl, I.turned (t' := s.toks) (fun b o hb e => eb b o hb e) f0 f1 f3 f4 f5⟩
  self := fun _ _ _ _ _ st h => wpAny_pyIter_striter_ascii st h
theorem turn_signsW (z : Str) (t : Tok) (it : Addr) : Turn P w K tg (Its z) [it] it (fun i h => h.IsStrIter it "str_iterator" z t i) where
  mem := List.mem_singleton.mpr rfl
  obj := fun _ _ st => itObj st
  keep := fun _ _ _ ⟨o, e, r⟩ k => ⟨o, k it (List.mem_singleton.mpr rfl) o e, r⟩
  item := by
    intro X hP hw hK hc i pins s σ H E I hf st hg
    subst hP hw hK
    have hg' : i < z.cps.size := hg
    obtain ⟨f0, f1, f2, f3, f4, f5⟩ := hf it (List.mem_singleton.mpr rfl)
    have hx : z.cps[i]? = some z.cps[i] := Array.getElem?_eq_getElem hg'
    refine wpAny_pyNext_wide_item st hx fun h' st' sb => ?_
    have I1 : Inv X pins σ H { s with heap := h', toks := s.toks + 1 } := I.turned (t' := s.toks + 1) (fun b o hb e => (sb.2 b hb).trans e) f0 f1 f3 f4 f5
    obtain ⟨o, e, c, d⟩ := id st'
    exact ⟨_, rfl, go_of (s := { s with heap := h', toks := s.toks + 1 }) e c d (by decide) ⟨.str _, H, I1, ⟨_, rfl⟩, ⟨rfl, _, hx, rfl⟩, st', fun b hb => (hf b hb).1⟩⟩
  done := by
    intro X hP hw hK hc i pins s σ H E I hf st hg
    subst hP hw hK
    have hg' : z.cps.size ≤ i := hg
    obtain ⟨f0, f1, f2, f3, f4, f5⟩ := hf it (List.mem_singleton.mpr rfl)
    exact wpAny_pyNext_wide_end (I.ok.hd hc) st (Array.getElem?_eq_none hg') fun h' eb => ⟨rfl, I.turned (t' := s.toks) (fun b o hb e => eb b o hb e) f0 f1 f3 f4 f5⟩
  self := fun _ _ _ _ _ st h => wpAny_pyIter_striter_wide st h
end
/-- for .. in a text -/
def iStr (tl : TE) : TI := fun σ H R => tl σ H fun x H1 => ∃ z, x = .str z ∧ R (Its z) H1
theorem pi_str {tg l : Expr} {tl : TE} (hl : PE X l tl) : PI X tg l (iStr tl) := by
  intro pins s σ H R I h
  refine thn (hl pins s σ H _ I h) fun v s1 ⟨x, H1, I1, r1, q1⟩ => ?_
  obtain ⟨z, e, q⟩ := q1
  subst e
  obtain ⟨t, rfl⟩ := r1
  have fr : ∀ b ∈ [s1.heap.objs.size], FpOk X pins H1 b := fun b hb => by
    cases List.mem_singleton.mp hb
    exact I1.fpOk (Nat.le_refl _) (I1.hok.fresh (Nat.le_refl _))
  cases ha : z.cps.all (· < 128)
  · exact wpAny_pyIter_wide ha ⟨_, [s1.heap.objs.size], _, _, H1, rfl, I1.kept (t' := s1.toks) fun b o e => Heap.get?_push_of_some _ e, turn_signsW z t _, ⟨_, Heap.get?_push_size _ rfl, rfl, rfl⟩, fr, q⟩
  · exact wpAny_pyIter_ascii ha ⟨_, [s1.heap.objs.size], _, _, H1, rfl, I1.kept (t' := s1.toks) fun b o e => Heap.get?_push_of_some _ e, turn_signsA z t _, ⟨_, Heap.get?_push_size _ rfl, rfl, rfl⟩, fr, q⟩
/-- an f-string of three parts -/
def tJoin3 (ta tb tc : TE) : TE := fun σ H Q => ta σ H fun x H1 => ∃ a, x = .str a ∧ a.length ≤ sizeLine ∧ tb σ H1 fun y H2 => ∃ b, y = .str b ∧ (a ++ b).length ≤ sizeLine ∧
  tc σ H2 fun z H3 => ∃ c, z = .str c ∧ (a ++ b ++ c).length ≤ sizeLine ∧ Q (.str (a ++ b ++ c)) H3
theorem emptyApp (a : Str) : Str.empty ++ a = a := by
  show (⟨#[] ++ a.cps⟩ : Str) = a
  rw [Array.empty_append]
theorem pe_join3 {a b c : Expr} {ta tb tc : TE} {pos : Pos} (ha : PE X a ta) (hb : PE X b tb) (hc : PE X c tc) : PE X (.JoinedStr [a, b, c] pos) (tJoin3 ta tb tc) := by
  intro pins s σ H Q I h
  refine wpAny_JoinedStr ?_
  refine thn (ha pins s σ H _ I h) fun v s1 ⟨x, H1, I1, r1, y1, e1, z1, q1⟩ => ?_
  subst e1
  obtain ⟨t, rfl⟩ := r1
  refine ⟨y1, t, rfl, by rw [emptyApp]; exact z1, ?_⟩
  rw [emptyApp]
  refine thn (hb pins s1 σ H1 _ I1 q1) fun v s2 ⟨x, H2, I2, r2, y2, e2, z2, q2⟩ => ?_
  subst e2
  obtain ⟨t, rfl⟩ := r2
  refine ⟨y2, t, rfl, z2, ?_⟩
  refine thn (hc pins s2 σ H2 _ I2 q2) fun v s3 ⟨x, H3, I3, r3, y3, e3, z3, q3⟩ => ?_
  subst e3
  obtain ⟨t, rfl⟩ := r3
  exact ⟨y3, t, rfl, z3, z3, .str _, H3, I3.tok _, ⟨_, rfl⟩, q3⟩
end
end My

/-! Cp3 -/
set_option Elab.async false
set_option linter.all false
set_option maxRecDepth 100000
set_option maxHeartbeats 4000000
namespace My
open PySem L2
/-! a list comprehension of one clause with one test -/
section
variable {prog : Program} {w : World} {A : Around} {R : Result → Shared → Prop} {s : Shared}
theorem compLoopT1 {elt target iter c : Expr} {scope : Scope} {pos : Pos} {it acc : Value} {env : Env} (J : Nat → Shared → Prop)
    (turn : ∀ n s, J n s → wpAny (model prog w) A (pyNext it) (fun r s₁ => match r with
      | none => R (.ok .next) s₁
      | some v => wpAny (model prog w) A (letOwnedTupleGo target it v) (fun _ s₂ => wpAny (model prog w) A (assign target env v) (fun _ s₃ => wpAny (model prog w) A (isTrue c env (eval c env)) (fun k s₀ =>
          (k = false → ∃ m, m < n ∧ J m s₀) ∧ (k = true → wpAny (model prog w) A (eval elt env)
          (fun x s₄ => wpAny (model prog w) A (call (.builtin "list.append") [acc, x]) (fun _ s₅ => ∃ m, m < n ∧ J m s₅) (fun _ _ => False) s₄) (fun _ _ => False) s₀)) (fun _ _ => False) s₃) (fun _ _ => False) s₂) (fun _ _ => False) s₁) (fun _ _ => False) s)
    (n : Nat) (h : J n s) : codeAny (model prog w) A (.compLoop (.ListComp elt [⟨target, iter, [c], 0⟩] scope pos) 0 it acc env) R s := by
  refine codeAny_loop rfl J (fun n s hJ => ?_) n h
  show wpAny _ _ (Sem.onRaise (compTurn (.ListComp elt [⟨target, iter, [c], 0⟩] scope pos) 0 it acc env) (fun x => do noteFrame x env; theTreesLotGoes x)) _ _ s
  refine wpAny_noted ?_
  rw [compTurn_list]
  refine wpAny_bind (wpAny_standAt (wpAny_bind (wpAny_mono (turn n s hJ) (fun r s₁ h₁ => ?_) fun _ _ z => z.elim)))
  cases r with
  | none => exact wpAny_pure h₁
  | some v =>
    refine wpAny_bind (wpAny_mono h₁ (fun _ s₂ h₂ => ?_) fun _ _ z => z.elim)
    refine wpAny_bind (wpAny_mono h₂ (fun _ s₃ h₃ => ?_) fun _ _ z => z.elim)
    refine wpAny_bind (wpAny_tests_one (wpAny_mono h₃ (fun k s₀ h₀ => ?_) fun _ _ z => z.elim))
    cases k with
    | false => exact wpAny_pure ⟨rfl, h₀.1 rfl⟩
    | true =>
      refine wpAny_bind (wpAny_bind (wpAny_mono (h₀.2 rfl) (fun x s₄ h₄ => ?_) fun _ _ z => z.elim))
      refine wpAny_bind (wpAny_mono h₄ (fun _ s₅ h₅ => wpAny_pure (wpAny_pure ⟨rfl, h₅⟩)) fun _ _ z => z.elim)
end
/-- the reading: W, turn, measure, the things so far, the heap -/
def tLCif (wi : TI) (js : List Nat) (tt : TT) (te : TE) : TE := fun σ H Q => wi σ H fun J H1 => ∀ D, H1 D = none → ∃ W : Nat → Nat → List V → Hp → Prop, (∃ m, W 0 m [] (upd H1 D (.lst []))) ∧
  ∀ i m ys H2, W i m ys H2 → H2 D = some (.lst ys) ∧ ((J.stop i H2 ∧ Q (.ref D) H2) ∨ (J.go i H2 ∧ ys.length < sizeLine ∧
    ∀ x H3, J.yld i H2 x H3 → tt (some x :: capS js σ) H3 fun k H0 => (k = false → ∃ m', m' < m ∧ W (i + 1) m' ys H0) ∧
      (k = true → te (some x :: capS js σ) H0 fun y H4 => H4 D = some (.lst ys) ∧ ∃ m', m' < m ∧ W (i + 1) m' (ys ++ [y]) (upd H4 D (.lst (ys ++ [y]))))))
section
variable {X : Cx} {sc : Scope} {cl : List (Str × Addr)} {x : Str} {zs : List Str} {js : List Nat} {elt iter c : Expr} {px pos : Pos} {wi : TI} {te : TE} {tt : TT}
theorem pe_lcIf (hc : X.calm = true) (S : CompSc X sc cl x zs js) (hi : PI X (.Name x px) iter wi) (ht : ∀ s H C fp, PT (compCx X sc cl (x :: zs) s H C fp) c tt) (he : ∀ s H C fp, PE (compCx X sc cl (x :: zs) s H C fp) elt te)
    (hs : ∀ v, foldedSetIterable iter X.env v = pure v := by intro _; rfl) : PE X (.ListComp elt [⟨.Name x px, iter, [c], 0⟩] sc pos) (tLCif wi js tt te) := by
  intro pins s σ H Q I h
  rw [eval_ListComp]
  refine wpAny_comprehension_free (use := none) rfl hs S.clos S.kind S.names (thn (hi pins s σ H _ I h) fun v s1 h1 => thn h1 fun itv s2 h2 => ?_)
  obtain ⟨it, fp, tn, J, H2, e, I2, T, st2, f2, body⟩ := h2
  subst e
  have fr2 : H2 s2.heap.objs.size = none := I2.fresh
  obtain ⟨W, ⟨m0, w0⟩, turn⟩ := body _ fr2
  refine wpAny_newObj_type ?_
  have I3 : Inv X pins σ (upd H2 s2.heap.objs.size (.lst [])) { s2 with heap := s2.heap.push { cls := .type "list", data := .seq ([] : List Value).toArray } } := I2.lnew (t' := s2.toks) (ys := []) (its := []) .nil (Nat.zero_le _)
  refine wpAny_newFunctionEnv S.noCell (by intro y hy; simp at hy) (fun h₁ hn hsb => ?_) S.kind
  generalize hs3 : ({ s2 with heap := s2.heap.push { cls := .type "list", data := .seq ([] : List Value).toArray } } : Shared) = s3 at I3 hn hsb ⊢
  have fpl : ∀ b ∈ fp, FpOk X pins (upd H2 s2.heap.objs.size (.lst [])) b ∧ b < s3.heap.objs.size := fun b hb => by
    obtain ⟨o, ho, _⟩ := T.obj _ _ st2 b hb
    have hl := Heap.lt_size ho
    have hne : b ≠ s2.heap.objs.size := Nat.ne_of_lt hl
    obtain ⟨z1, z2⟩ := f2 b hb
    refine ⟨⟨by rw [upd_ne hne]; exact z1, z2⟩, ?_⟩
    rw [← hs3]
    show b < (s2.heap.push _).objs.size
    rw [Heap.size_push]
    exact Nat.lt_succ_of_lt hl
  have old : ∀ b o, s3.heap.get? b = some o → h₁.get? b = some o := fun b o e => hsb.extBut b o (Nat.ne_of_lt (Heap.lt_size e)) (Heap.get?_push_of_some _ e)
  have loop : ∀ sS : Shared, sS.heap = h₁ → sS.os = s3.os → sS.gens = s3.gens → codeAny (model X.prog X.w) X.A (.compLoop (.ListComp elt [⟨.Name x px, iter, [c], 0⟩] sc pos) 0 (.ref it) (.ref s2.heap.objs.size) (compEnvC sc cl s3.heap.objs.size X.env))
      (compPost (model X.prog X.w) X.A X.xe none (EP X pins σ Q) (.ref s2.heap.objs.size) s3.heap.objs.size) sS := by
    intro sS eh eo eg
    subst eh
    have J0 : Inv (compCx X sc cl (x :: zs) s3 (upd H2 s2.heap.objs.size (.lst [])) s3.heap.objs.size fp) [] (none :: capS js σ) (upd H2 s2.heap.objs.size (.lst [])) sS := comp_start I3 S fpl (Nat.le_refl _) eo eg old hn
    generalize hX : compCx X sc cl (x :: zs) s3 (upd H2 s2.heap.objs.size (.lst [])) s3.heap.objs.size fp = X' at J0
    have stat : ∀ {H' : Hp}, (∀ b ∈ fp, H' b = none) → ∀ b ∈ fp, FpOk X' [] H' b := fun {H'} hn b hb => by
      subst hX
      obtain ⟨⟨_, z1, z2, z3, z4, z5⟩, z6⟩ := fpl b hb
      refine ⟨hn b hb, Nat.ne_of_lt z6, fun q => ?_, .inl hb, fun y c e => z4 y c (S.sub _ _ e), fun p hp => absurd (show p ∈ ([] : List (Addr × Obj)) from hp) (by simp)⟩
      rcases List.mem_cons.mp (I3.stkSub b q) with e | e
      · exact z1 e
      · exact z2 e
    have st3 : tn 0 sS.heap := T.keep _ _ _ st2 fun b hb o e => old b o (by rw [← hs3]; exact Heap.get?_push_of_some _ e)
    refine compLoopT1 (fun n s' => ∃ i ys o H', Inv X' [] (o :: capS js σ) H' s' ∧ tn i s'.heap ∧ (∀ b ∈ fp, H' b = none) ∧ W i n ys H') ?_ m0 ⟨0, [], none, _, J0, st3, fun b hb => (fpl b hb).1.1, w0⟩
    rintro n s' ⟨i, ys, o, H', Iv, st, fr, w⟩
    obtain ⟨hD, alt⟩ := turn i n ys H' w
    have eP : X'.prog = X.prog := by subst hX; rfl
    have eW : X'.w = X.w := by subst hX; rfl
    have eK : X'.K = X.K := by subst hX; rfl
    have eC : X'.calm = true := by subst hX; exact hc
    have eA : X'.A = X.A := by subst hX; rfl
    have eE : X'.env = compEnvC sc cl s3.heap.objs.size X.env := by subst hX; rfl
    have eX : X'.xe = fun _ _ => False := by subst hX; rfl
    rcases alt with ⟨stop, q⟩ | ⟨go, hlen, step⟩
    · have d := T.done X' eP eW eK eC i [] s' _ H' (fun _ _ => False) Iv (stat fr) st stop
      rw [eA] at d
      refine thn d fun r s4 ⟨hr, I4⟩ => ?_
      subst hr
      obtain ⟨m, hm, _⟩ := id I4.loc
      rw [eE] at hm
      subst hX
      exact ⟨m, hm, fun h' hs' => ⟨.ref s2.heap.objs.size, H', comp_end I3 fpl (Nat.le_refl _) I4 hs', rfl, q⟩⟩
    · have d := T.item X' eP eW eK eC i [] s' _ H' (fun _ _ => False) Iv (stat fr) st go
      rw [eA] at d
      refine thn d fun r s4 ⟨u, hr, h4⟩ => ?_
      subst hr
      refine thn h4 fun _ s5 ⟨y, H5, I5, r5, y5, st5, fr5⟩ => ?_
      have I5' := I5.pinned (stat fr5) (T.obj _ _ st5)
      have hg : PG X' (.Name x px) (gName 0) := by
        subst hX
        exact pg_name S.nd rfl (.inl (lookup_relabel_local S.var)) (.inr (lookup_relabel_local S.var))
      have g6 := hg _ s5 _ H5 y u (fun σ6 H6 => σ6 = (some y :: capS js σ) ∧ H6 = H5) I5' r5 ⟨rfl, rfl⟩
      rw [eP, eW, eA, eE, eX] at g6
      refine thn g6 fun _ s6 ⟨σ6, H6, I6, e6, e6'⟩ => ?_
      subst e6
      subst e6'
      have ht' : PT X' c tt := by subst hX; exact ht _ _ _ _
      have g0 := ht' _ s6 _ H6 _ I6 (step y H6 y5)
      rw [eP, eW, eA, eE, eX] at g0
      refine thn g0 fun k sk ⟨Hk, Ik, qk⟩ => ?_
      cases k with
      | false =>
        obtain ⟨m', hm', w7⟩ := qk.1 rfl
        refine ⟨fun _ => ?_, fun z => nomatch z⟩
        refine ⟨m', hm', i + 1, ys, some y, _, Ik.unpinned, T.keep _ _ _ st5 fun b hb o e => (Ik.pin (b, o) (List.mem_append_right _ (List.mem_append_right _ (mem_pinsAt hb e)))).1, fun b hb => ?_, w7⟩
        obtain ⟨o', e', _⟩ := T.obj _ _ st5 b hb
        exact (Ik.pin (b, o') (List.mem_append_right _ (List.mem_append_right _ (mem_pinsAt hb e')))).2.1
      | true =>
      refine ⟨fun z => (nomatch z), fun _ => ?_⟩
      have he' : PE X' elt te := by subst hX; exact he _ _ _ _
      have g7 := he' _ sk _ Hk _ Ik (qk.2 rfl)
      rw [eP, eW, eA, eE, eX] at g7
      refine thn g7 fun uv s7 ⟨v7, H7, I7, r7, hD7, m', hm', w7⟩ => ?_
      have g8 := (mt_append (X := X')) _ s7 _ H7 (.ref s2.heap.objs.size) [v7] (.ref s2.heap.objs.size) [uv] (fun _ H8 => H8 = upd H7 s2.heap.objs.size (.lst (ys ++ [v7]))) I7 rfl (.cons r7 .nil) ⟨_, ys, v7, rfl, rfl, hD7, hlen, rfl⟩
      rw [eP, eW, eA, eX] at g8
      refine thn g8 fun _ s8 ⟨_, H8, I8, _, e8⟩ => ?_
      subst e8
      refine ⟨m', hm', i + 1, ys ++ [v7], some y, _, I8.unpinned, T.keep _ _ _ st5 fun b hb o e => (I8.pin (b, o) (List.mem_append_right _ (List.mem_append_right _ (mem_pinsAt hb e)))).1, fun b hb => ?_, w7⟩
      obtain ⟨o', e', _⟩ := T.obj _ _ st5 b hb
      exact (I8.pin (b, o') (List.mem_append_right _ (List.mem_append_right _ (mem_pinsAt hb e')))).2.1
  have st1 : tn 0 h₁ := T.keep _ _ _ st2 fun b hb o e => old b o (by rw [← hs3]; exact Heap.get?_push_of_some _ e)
  exact codeAny_compStart_list (loop _ rfl rfl rfl) (T.self _ 0 _ _ _ st1 (loop _ rfl rfl rfl))
end
end My

/-! Eq -/
set_option Elab.async false
set_option linter.all false
set_option maxRecDepth 100000
set_option maxHeartbeats 4000000
namespace My
open PySem L2
/-! == and != of tuples of flat things, and of a list and [] -/
section
variable {X : Cx}
def eqVs : List V → List V → Bool
  | [], [] => true
  | x :: xs, y :: ys => eqV x y && eqVs xs ys
  | _, _ => false
theorem eqVs_all : ∀ (xs ys : List V), ((List.range (min xs.length ys.length)).all (fun j => eqV (xs.getD j .non) (ys.getD j .non)) && xs.length == ys.length) = eqVs xs ys
  | [], [] => rfl
  | [], y :: ys => by simp [eqVs]
  | x :: xs, [] => by simp [eqVs]
  | x :: xs, y :: ys => by
    have ih := eqVs_all xs ys
    show _ = (eqV x y && eqVs xs ys)
    rw [← ih, List.length_cons, List.length_cons, Nat.succ_min_succ, List.range_succ_eq_map, List.all_cons, List.all_map, Bool.and_assoc]
    congr 1
    rw [show (xs.length + 1 == ys.length + 1) = (xs.length == ys.length) from by simp]
    rfl
theorem tup_eqs {pins : List (Addr × Obj)} {σ : St} {H : Hp} {s : Shared} {A : Around} {xs ys : List V} {its jts : List Value} (r1 : Vals xs its) (r2 : Vals ys jts) (f1 : xs.all flatV = true) (f2 : ys.all flatV = true) :
    ∀ j (h1 : j < its.toArray.size) (h2 : j < jts.toArray.size), SeqAt.EqAt A s its.toArray[j] jts.toArray[j] (eqV (xs.getD j .non) (ys.getD j .non)) := by
  intro j h1 h2
  have h1' : j < its.length := by simpa using h1
  have h2' : j < jts.length := by simpa using h2
  have k1 : j < xs.length := by rw [r1.length]; exact h1'
  have k2 : j < ys.length := by rw [r2.length]; exact h2'
  obtain ⟨u1, e1, q1⟩ := r1.get (List.getElem?_eq_getElem k1)
  obtain ⟨u2, e2, q2⟩ := r2.get (List.getElem?_eq_getElem k2)
  have a1 : its.toArray[j] = u1 := by
    have := List.getElem?_eq_getElem h1'
    rw [e1] at this
    simpa using (Option.some.inj this).symm
  have a2 : jts.toArray[j] = u2 := by
    have := List.getElem?_eq_getElem h2'
    rw [e2] at this
    simpa using (Option.some.inj this).symm
  have z1 : xs.getD j .non = xs[j] := by simp [k1]
  have z2 : ys.getD j .non = ys[j] := by simp [k2]
  rw [a1, a2, z1, z2]
  exact eqAt_V q1 q2 (List.all_eq_true.mp f1 _ (List.getElem_mem k1)) (List.all_eq_true.mp f2 _ (List.getElem_mem k2))
def rTT (K : PySem.W.Frag) (g : Bool → Bool) : R2 := fun x y H Q => ∃ p q xs ys, x = .ref p ∧ y = .ref q ∧ SqT K H p xs ∧ SqT K H q ys ∧ xs.all flatV = true ∧ ys.all flatV = true ∧ Q (.bl (g (eqVs xs ys))) H
theorem op_eqT (hu : X.A.units < cLine) : OpR X (compareOp .Eq) (rTT X.K id) := by
  intro pins s σ H x y v u Q I rx ry h
  obtain ⟨p, q, xs, ys, rfl, rfl, hp, hq, f1, f2, k⟩ := h
  cases rx
  cases ry
  obtain ⟨its, r1, t1, _⟩ := I.tuple hp
  obtain ⟨jts, r2, t2, _⟩ := I.tuple hq
  refine SeqAt.eq_tupleAt t1 t2 hu (tup_eqs (pins := pins) (σ := σ) (H := H) r1 r2 f1 f2) ?_
  refine ⟨.bl _, H, I, ?_, k⟩
  have z := eqVs_all xs ys
  rw [r1.length, r2.length] at z
  show Value.bool _ = Value.bool _
  rw [id, ← z]
  simp
theorem op_neT (hu : X.A.units < cLine) : OpR X (compareOp .NotEq) (rTT X.K not) := by
  intro pins s σ H x y v u Q I rx ry h
  obtain ⟨p, q, xs, ys, rfl, rfl, hp, hq, f1, f2, k⟩ := h
  cases rx
  cases ry
  obtain ⟨its, r1, t1, _⟩ := I.tuple hp
  obtain ⟨jts, r2, t2, _⟩ := I.tuple hq
  refine SeqAt.RcNeAt.tuples t1 t2 hu (tup_eqs (pins := pins) (σ := σ) (H := H) r1 r2 f1 f2) X.prog X.w X.xe _ ?_
  refine ⟨.bl _, H, I, ?_, k⟩
  have z := eqVs_all xs ys
  rw [r1.length, r2.length] at z
  show Value.bool _ = Value.bool _
  rw [← z]
  simp
/-- a list and the empty one -/
def rNil (K : PySem.W.Frag) : R2 := fun x y H Q => ∃ p q xs, x = .ref p ∧ y = .ref q ∧ SqL K H p xs ∧ SqL K H q [] ∧ Q (.bl xs.isEmpty) H
theorem op_eqNil (hu : X.A.units < cLine) : OpR X (compareOp .Eq) (rNil X.K) := by
  intro pins s σ H x y v u Q I rx ry h
  obtain ⟨p, q, xs, rfl, rfl, hp, hq, k⟩ := h
  cases rx
  cases ry
  obtain ⟨its, r1, t1, _⟩ := I.list hp
  obtain ⟨jts, r2, t2, _⟩ := I.list hq
  have l1 := r1.length
  have l2 := r2.length
  cases xs with
  | nil =>
    have e1 : its = [] := List.length_eq_zero_iff.mp l1.symm
    have e2 : jts = [] := List.length_eq_zero_iff.mp l2.symm
    subst e1 e2
    exact SeqAt.eq_listAt (e := fun _ => true) t1.isList t2.isList rfl hu (fun j h _ => absurd h (Nat.not_lt_zero _)) ⟨.bl true, H, I, rfl, k⟩
  | cons x xs =>
    have e2 : jts = [] := List.length_eq_zero_iff.mp l2.symm
    subst e2
    refine SeqAt.eq_list_lengthsAt t1.isList t2.isList ?_ hu ⟨.bl false, H, I, rfl, k⟩
    simp [← l1]
end
end My

/-! Eqs -/
set_option Elab.async false
set_option linter.all false
set_option maxRecDepth 100000
set_option maxHeartbeats 1000000
namespace My
open PySem L2
/-! == of two rows of the very same things -/
section
variable {X : Cx}
def plainV : V → Bool
  | .ref _ => true
  | v => flatV v
theorem eqV_refl {v : V} (h : flatV v = true) : eqV v v = true := by
  cases v with
  | non => rfl
  | bl b => cases b <;> rfl
  | int i => exact beq_self_eq_true i
  | str s => exact beq_self_eq_true s
  | _ => cases h
theorem plain_or {v : V} (h : plainV v = true) : (∃ a, v = .ref a) ∨ flatV v = true := by
  cases v with
  | ref a => exact .inl ⟨a, rfl⟩
  | _ => exact .inr h
theorem same_eqAt {A : Around} {s : Shared} {v : V} {u1 u2 : Value} (q1 : RelV v u1) (q2 : RelV v u2) (h : plainV v = true) : SeqAt.EqAt A s u1 u2 true := by
  rcases plain_or h with ⟨a, rfl⟩ | h
  · cases (show u1 = Value.ref a from q1)
    cases (show u2 = Value.ref a from q2)
    exact SeqAt.EqAt.same _
  · have f := eqAt_V (A := A) (s := s) q1 q2 h h
    rw [eqV_refl h] at f
    exact f
theorem all_eqAt {A : Around} {s : Shared} {xs : List V} {its jts : List Value} (r1 : Vals xs its) (r2 : Vals xs jts) (f : xs.all plainV = true) :
    ∀ j (h1 : j < its.toArray.size) (h2 : j < jts.toArray.size), SeqAt.EqAt A s its.toArray[j] jts.toArray[j] true := by
  intro j h1 h2
  have h1' : j < its.length := by simpa using h1
  have h2' : j < jts.length := by simpa using h2
  have k1 : j < xs.length := by rw [r1.length]; exact h1'
  obtain ⟨u1, e1, q1⟩ := r1.get (List.getElem?_eq_getElem k1)
  obtain ⟨u2, e2, q2⟩ := r2.get (List.getElem?_eq_getElem k1)
  have a1 : its.toArray[j] = u1 := by
    have := List.getElem?_eq_getElem h1'
    rw [e1] at this
    simpa using (Option.some.inj this).symm
  have a2 : jts.toArray[j] = u2 := by
    have := List.getElem?_eq_getElem h2'
    rw [e2] at this
    simpa using (Option.some.inj this).symm
  rw [a1, a2]
  exact same_eqAt q1 q2 (List.all_eq_true.mp f _ (List.getElem_mem k1))
def rSameT (K : PySem.W.Frag) : R2 := fun x y H Q => ∃ p q xs, x = .ref p ∧ y = .ref q ∧ SqT K H p xs ∧ SqT K H q xs ∧ xs.all plainV = true ∧ Q (.bl true) H
theorem op_sameT (hu : X.A.units < cLine) : OpR X (compareOp .Eq) (rSameT X.K) := by
  intro pins s σ H x y v u Q I rx ry h
  obtain ⟨p, q, xs, rfl, rfl, hp, hq, f, k⟩ := h
  cases rx
  cases ry
  obtain ⟨its, r1, t1, _⟩ := I.tuple hp
  obtain ⟨jts, r2, t2, _⟩ := I.tuple hq
  refine SeqAt.eq_tupleAt (e := fun _ => true) t1 t2 hu (all_eqAt r1 r2 f) ?_
  refine ⟨.bl true, H, I, ?_, k⟩
  show Value.bool _ = Value.bool _
  have l1 := r1.length
  have l2 := r2.length
  simp [← l1, ← l2]
def rSameL (K : PySem.W.Frag) : R2 := fun x y H Q => ∃ p q xs, x = .ref p ∧ y = .ref q ∧ SqL K H p xs ∧ SqL K H q xs ∧ xs.all plainV = true ∧ Q (.bl true) H
theorem op_sameL (hu : X.A.units < cLine) : OpR X (compareOp .Eq) (rSameL X.K) := by
  intro pins s σ H x y v u Q I rx ry h
  obtain ⟨p, q, xs, rfl, rfl, hp, hq, f, k⟩ := h
  cases rx
  cases ry
  obtain ⟨its, r1, t1, _⟩ := I.list hp
  obtain ⟨jts, r2, t2, _⟩ := I.list hq
  have l1 := r1.length
  have l2 := r2.length
  refine SeqAt.eq_listAt (e := fun _ => true) t1.isList t2.isList (by simp [← l1, ← l2]) hu (all_eqAt r1 r2 f) ?_
  refine ⟨.bl true, H, I, ?_, k⟩
  show Value.bool _ = Value.bool _
  simp
end
end My

/-! Nm -/
set_option Elab.async false
set_option linter.all false
set_option maxRecDepth 100000
set_option maxHeartbeats 4000000
namespace My
open PySem L2
open PySem.Builtin.Str (occurrences partsBetween strSub)
/-! texts of numbers, and of shares, as lists of signs -/
def fig (c : Nat) : Bool := decide (48 ≤ c) && decide (c ≤ 57)
def figs (L : List Nat) : Bool := !L.isEmpty && !(L.head? == some 48 && L != [48]) && L.all fig
abbrev cs (z : Str) : List Nat := z.cps.toList
theorem fig_iff {c : Nat} : fig c = true ↔ 48 ≤ c ∧ c ≤ 57 := by simp [fig]
theorem all_digits {L : List Nat} (h : L.all fig = true) : NumText.AllDigits L := fun c hc => fig_iff.mp (List.all_eq_true.mp h c hc)
theorem figs_all {L : List Nat} (h : figs L = true) : L.all fig = true := by
  unfold figs at h
  simp only [Bool.and_eq_true] at h
  exact h.2
theorem figs_ne {L : List Nat} (h : figs L = true) : L ≠ [] := by
  intro e
  subst e
  cases h
abbrev val (L : List Nat) : Nat := NumText.digitsVal L
theorem str_ext {a b : Str} (h : cs a = cs b) : a = b := by
  cases a; cases b
  exact congrArg Str.mk (Array.toList_inj.mp h)
theorem cs_mk (L : List Nat) : cs ⟨L.toArray⟩ = L := rfl
theorem cs_app (a b : Str) : cs (a ++ b) = cs a ++ cs b := by
  show (a.cps ++ b.cps).toList = _
  exact Array.toList_append
/-- partition at the first stroke -/
theorem part_at {z : Str} {A R : List Nat} (h : cs z = A ++ 47 :: R) (hA : 47 ∉ A) : Txt.partition z ⟨#[47]⟩ = (⟨A.toArray⟩, ⟨#[47]⟩, ⟨R.toArray⟩) := by
  have h' : z.cps.toList = A ++ 47 :: R := h
  have hz : z.length = A.length + 1 + R.length := by
    show z.cps.size = _
    rw [← Array.length_toList, h']
    simp
    omega
  rcases PyProof.Rows.partition_whole z ⟨#[47]⟩ with ⟨_, hn⟩ | ⟨i, hp, hi, hn⟩
  · exfalso
    have m : 47 ∈ cs z := by rw [h]; simp
    obtain ⟨i, hi⟩ := (PyProof.Rows.mem_iff_at z 47).mp m
    exact hn i hi
  · have gi : (cs z)[i]? = some 47 := (StrLaws.subAt_one z 47 i).mp hi
    have e : i = A.length := by
      rcases Nat.lt_trichotomy i A.length with l | l | l
      · exfalso
        rw [h, List.getElem?_append_left l] at gi
        exact hA (List.mem_of_getElem? gi)
      · exact l
      · exfalso
        refine hn A.length l ((StrLaws.subAt_one z 47 A.length).mpr ?_)
        show (cs z)[A.length]? = some 47
        rw [h]
        simp
    subst e
    rw [hp]
    have e1 : strSub z 0 A.length = ⟨A.toArray⟩ := str_ext (by
      show (z.cps.extract 0 A.length).toList = _
      rw [Array.toList_extract, h']
      simp)
    have e2 : strSub z (A.length + (⟨#[47]⟩ : Str).length) z.length = ⟨R.toArray⟩ := str_ext (by
      show (z.cps.extract (A.length + 1) z.length).toList = _
      rw [Array.toList_extract, h', hz]
      rw [List.extract_eq_take_drop, show A ++ 47 :: R = (A ++ [47]) ++ R from by simp, show A.length + 1 = (A ++ [47]).length from by simp, List.drop_left, List.take_of_length_le (by simp)])
    rw [e1, e2]
theorem part_none {z : Str} (h : 47 ∉ cs z) : Txt.partition z ⟨#[47]⟩ = (z, Str.empty, Str.empty) := by
  rcases PyProof.Rows.partition_whole z ⟨#[47]⟩ with ⟨hp, _⟩ | ⟨i, _, hi, _⟩
  · exact hp
  · exact absurd ((PyProof.Rows.mem_iff_at z 47).mpr ⟨i, hi⟩) h
theorem part_split (z : Str) : (47 ∉ cs z) ∨ ∃ A R, cs z = A ++ 47 :: R ∧ 47 ∉ A := by
  by_cases h : 47 ∈ cs z
  · right
    generalize cs z = L at h
    induction L with
    | nil => cases h
    | cons c L ih =>
      by_cases e : c = 47
      · subst e; exact ⟨[], L, rfl, by simp⟩
      · have h' : 47 ∈ L := by
          rcases List.mem_cons.mp h with q | q
          · exact absurd q.symm e
          · exact q
        obtain ⟨A, R, e1, e2⟩ := ih h'
        exact ⟨c :: A, R, by rw [e1]; rfl, by simp only [List.mem_cons, not_or]; exact ⟨fun q => e q.symm, e2⟩⟩
  · exact .inl h

/-- split at strokes: one part, two, or more -/
theorem split_cases (z : Str) : (Txt.split z ⟨#[47]⟩ = [z] ∧ 47 ∉ cs z) ∨ (∃ a b, Txt.split z ⟨#[47]⟩ = [a, b] ∧ cs z = cs a ++ 47 :: cs b ∧ 47 ∉ cs a ∧ 47 ∉ cs b) ∨
    (2 < (Txt.split z ⟨#[47]⟩).length ∧ ∃ A R, cs z = A ++ 47 :: R ∧ 47 ∉ A ∧ 47 ∈ R) := by
  have hj := StrLaws.join_split z ⟨#[47]⟩
  have hf := StrLaws.split_free z 47
  have hp := PyProof.Rows.split_pos z ⟨#[47]⟩
  generalize hl : Txt.split z ⟨#[47]⟩ = l at hj hf hp
  match l, hj, hf, hp with
  | [], _, _, hp => exact absurd hp (by decide)
  | [a], hj, hf, _ =>
    have e : a = z := hj
    subst e
    exact .inl ⟨rfl, hf _ (by simp)⟩
  | [a, b], hj, hf, _ =>
    refine .inr (.inl ⟨a, b, rfl, ?_, hf _ (by simp), hf _ (by simp)⟩)
    have e : a ++ ⟨#[47]⟩ ++ b = z := hj
    rw [← e, cs_app, cs_app]
    show cs a ++ [47] ++ cs b = _
    simp
  | a :: b :: c :: r, hj, hf, _ =>
    refine .inr (.inr ⟨by simp, cs a, cs (Str.join ⟨#[47]⟩ (b :: c :: r)), ?_, hf _ (by simp), ?_⟩)
    · have e : a ++ ⟨#[47]⟩ ++ Str.join ⟨#[47]⟩ (b :: c :: r) = z := hj
      rw [← e, cs_app, cs_app]
      show cs a ++ [47] ++ _ = _
      simp
    · have e : Str.join ⟨#[47]⟩ (b :: c :: r) = b ++ ⟨#[47]⟩ ++ Str.join ⟨#[47]⟩ (c :: r) := rfl
      rw [e, cs_app, cs_app]
      show 47 ∈ cs b ++ [47] ++ _
      simp
theorem fig_no (L : List Nat) (h : 47 ∈ L) : figs L = false := by
  cases e : figs L with
  | false => rfl
  | true =>
    have a := List.all_eq_true.mp (figs_all e) 47 h
    cases a
/-- the share that a text writes: what both sides tell -/
def okS (a b : List Nat) : Bool := figs a && figs b && decide (2 ≤ val b) && decide (1 ≤ val a) && decide (val a < val b) && decide (Nat.gcd (val a) (val b) = 1)
def rd (z : Str) : Option (Nat × Nat) :=
  if z = "0" then some (0, 1) else if z = "1" then some (1, 1) else
    match Txt.split z ⟨#[47]⟩ with
    | [a, b] => if okS (cs a) (cs b) = true then some (val (cs a), val (cs b)) else none
    | _ => none
/-- by partition -/
theorem rd_part {z : Str} (h0 : z ≠ "0") (h1 : z ≠ "1") : rd z = (if okS (cs (Txt.partition z ⟨#[47]⟩).1) (cs (Txt.partition z ⟨#[47]⟩).2.2) = true then
    some (val (cs (Txt.partition z ⟨#[47]⟩).1), val (cs (Txt.partition z ⟨#[47]⟩).2.2)) else none) := by
  unfold rd
  rw [if_neg h0, if_neg h1]
  rcases split_cases z with ⟨e, hn⟩ | ⟨a, b, e, hz, ha, hb⟩ | ⟨hl, A, R, hz, hA, hR⟩
  · rw [e, part_none hn]
    have e2 : figs (cs Str.empty) = false := rfl
    unfold okS
    rw [e2]
    simp
  · rw [e, part_at hz ha]
  · rw [part_at hz hA]
    have e2 : figs (cs ⟨R.toArray⟩) = false := fig_no R hR
    have e3 : okS (cs ⟨A.toArray⟩) (cs ⟨R.toArray⟩) = false := by unfold okS; rw [e2]; simp
    show _ = if okS (cs ⟨A.toArray⟩) (cs ⟨R.toArray⟩) = true then _ else none
    rw [e3]
    generalize Txt.split z ⟨#[47]⟩ = l at hl
    match l, hl with
    | a :: b :: c :: r, _ => rfl
/-- the text of a number -/
abbrev tx (n : Nat) : Str := Str.ofString (toString ((n : Nat) : Int))
theorem tx_cs (n : Nat) : cs (tx n) = (Nat.toDigits 10 n).map Char.toNat := by
  exact PySem.W.KIN.signs_num n
theorem tx_val (n : Nat) : val (cs (tx n)) = n := by rw [tx_cs]; exact PySem.W.KIN.val_back n

theorem dig_fig : ∀ d : Nat, d < 10 → fig (Nat.digitChar d).toNat = true := by decide
theorem dig_one : ∀ d : Nat, d < 10 → figs [(Nat.digitChar d).toNat] = true := by decide
theorem tx_figs (n : Nat) : figs (cs (tx n)) = true := by
  rw [tx_cs]
  induction n using Nat.strongRecOn with
  | _ n ih =>
    by_cases h : n < 10
    · rw [Nat.toDigits_of_lt_base h]
      exact dig_one n h
    · have hm : n % 10 < 10 := Nat.mod_lt n (by decide)
      have t : Nat.toDigits 10 (n / 10) ++ Nat.toDigits 10 (n % 10) = Nat.toDigits 10 (10 * (n / 10) + n % 10) := Nat.toDigits_append_toDigits (by decide) (by omega) hm
      rw [Nat.div_add_mod] at t
      rw [← t, List.map_append, Nat.toDigits_of_lt_base hm]
      have i1 := ih (n / 10) (by omega)
      have v1 := PySem.W.KIN.val_back (n / 10)
      generalize (Nat.toDigits 10 (n / 10)).map Char.toNat = L at i1 v1
      show figs (L ++ [(Nat.digitChar (n % 10)).toNat]) = true
      have a1 := figs_all i1
      cases L with
      | nil => exact absurd rfl (figs_ne i1)
      | cons c L =>
        have hc : c ≠ 48 := by
          intro e
          subst e
          have : (48 :: L) = [48] := by
            unfold figs at i1
            simp only [Bool.and_eq_true, Bool.not_eq_true', List.head?_cons, beq_self_eq_true, Bool.true_and] at i1
            have := i1.1.2
            simpa using this
          rw [this] at v1
          have v0 : NumText.digitsVal [48] = 0 := rfl
          rw [v0] at v1
          omega
        unfold figs
        rw [List.all_append, a1]
        simp [hc, dig_fig _ hm]
theorem tx_free (n : Nat) : 47 ∉ cs (tx n) := fun h => by
  have e := fig_no _ h
  rw [tx_figs] at e
  cases e
/-- the text of a share -/
def shT (t b : Nat) : Str := if b = 1 then tx t else tx t ++ "/" ++ tx b
theorem shT_cs (t b : Nat) : cs (tx t ++ "/" ++ tx b) = cs (tx t) ++ 47 :: cs (tx b) := by
  rw [cs_app, cs_app]
  show cs (tx t) ++ [47] ++ _ = _
  simp
theorem tx0 : tx 0 = "0" := by decide +kernel
theorem tx1 : tx 1 = "1" := by decide +kernel
theorem rd_str {t b : Nat} : rd (tx t ++ "/" ++ tx b) = if (2 ≤ b ∧ 1 ≤ t ∧ t < b ∧ Nat.gcd t b = 1) then some (t, b) else none := by
  have h := shT_cs t b
  have m : 47 ∈ cs (tx t ++ "/" ++ tx b) := by rw [h]; simp
  have n0 : tx t ++ "/" ++ tx b ≠ "0" := fun e => by rw [e] at m; exact absurd m (by decide +kernel)
  have n1 : tx t ++ "/" ++ tx b ≠ "1" := fun e => by rw [e] at m; exact absurd m (by decide +kernel)
  rw [rd_part n0 n1, part_at h (tx_free t)]
  show (if okS (cs (tx t)) (cs (tx b)) = true then some (val (cs (tx t)), val (cs (tx b))) else none) = _
  unfold okS
  rw [tx_figs, tx_figs, tx_val, tx_val]
  by_cases c : 2 ≤ b ∧ 1 ≤ t ∧ t < b ∧ Nat.gcd t b = 1
  · rw [if_pos c, if_pos]
    simp [c]
  · rw [if_neg c, if_neg]
    simp
    omega
/-- a share in lowest terms -/
def Low (t b : Nat) : Prop := 1 ≤ b ∧ t ≤ b ∧ Nat.gcd t b = 1
theorem Low.cases {t b : Nat} (h : Low t b) : (b = 1 ∧ (t = 0 ∨ t = 1)) ∨ (2 ≤ b ∧ 1 ≤ t ∧ t < b ∧ Nat.gcd t b = 1) := by
  obtain ⟨h1, h2, h3⟩ := h
  by_cases e : b = 1
  · left; omega
  · right
    refine ⟨by omega, ?_, ?_, h3⟩
    · rcases Nat.eq_zero_or_pos t with z | z
      · subst z; rw [Nat.gcd_zero_left] at h3; omega
      · exact z
    · rcases Nat.lt_or_eq_of_le h2 with l | l
      · exact l
      · subst l; rw [Nat.gcd_self] at h3; omega
theorem rd_sh {t b : Nat} (h : Low t b) : rd (shT t b) = some (t, b) := by
  unfold shT
  rcases h.cases with ⟨rfl, rfl | rfl⟩ | c
  · rw [if_pos rfl, tx0]; unfold rd; rw [if_pos rfl]
  · rw [if_pos rfl, tx1]; unfold rd; rw [if_neg (by decide +kernel), if_pos rfl]
  · rw [if_neg (by omega), rd_str, if_pos c]
end My

/-! N3 -/
set_option Elab.async false
set_option linter.all false
set_option maxRecDepth 100000
set_option maxHeartbeats 400000
namespace My
/-! sums and products of shares in lowest terms: the numbers behind added and times_share -/
theorem cop_mul {a b c : Nat} (h : Nat.Coprime a c) (k : Nat.Coprime b c) : Nat.Coprime (a * b) c := Nat.Coprime.mul_left h k
/-- what is left over is coprime to either bottom -/
theorem gcd_core {g W b d : Nat} (hb : Nat.Coprime W b) (hd : Nat.Coprime W d) : Nat.gcd (g * W) (g * b * (g * d)) = g * Nat.gcd W g := by
  have e : g * b * (g * d) = g * (g * (b * d)) := by
    rw [Nat.mul_assoc, Nat.mul_left_comm b g d]
  rw [e, Nat.gcd_mul_left]
  congr 1
  have hbd : Nat.Coprime W (b * d) := Nat.Coprime.mul_right hb hd
  exact Nat.Coprime.gcd_mul_right_cancel_right g hbd.symm
/-- the sum's parts, in lowest terms; b = g b', d = g d' -/
theorem add_core {g W b d : Nat} (hg : 0 < g) (hW : 0 < g * b * (g * d)) (hb : Nat.Coprime W b) (hd : Nat.Coprime W d) :
    g * W / Nat.gcd (g * W) (g * b * (g * d)) = W / Nat.gcd W g ∧ g * b * (g * d) / Nat.gcd (g * W) (g * b * (g * d)) = b * (g * d / Nat.gcd W g) := by
  rw [gcd_core hb hd]
  have s0 : 0 < Nat.gcd W g := Nat.gcd_pos_of_pos_right W hg
  constructor
  · exact Nat.mul_div_mul_left _ _ hg
  · have e : g * b * (g * d) = g * (b * (g * d)) := by rw [Nat.mul_assoc]
    rw [e, Nat.mul_div_mul_left _ _ hg]
    exact Nat.mul_div_assoc _ (Nat.dvd_trans (Nat.gcd_dvd_right W g) (Nat.dvd_mul_right g d))
/-- the two bottoms by their common part -/
theorem cop_parts {b d : Nat} (h : 0 < Nat.gcd b d) : Nat.Coprime (b / Nat.gcd b d) (d / Nat.gcd b d) := Nat.coprime_div_gcd_div_gcd h
theorem cop_div {a b k : Nat} (h : Nat.Coprime a b) (hk : k ∣ b) : Nat.Coprime a (b / k) := Nat.Coprime.coprime_dvd_right (Nat.div_dvd_of_dvd hk) h
theorem cop_add {a x y m : Nat} (h : Nat.Coprime a m) (hm : m ∣ y) (e : x = a + y ∨ x + y = a) : Nat.Coprime x m := by
  rcases e with e | e
  · subst e
    obtain ⟨k, rfl⟩ := hm
    rw [Nat.coprime_iff_gcd_eq_one] at h ⊢
    rw [Nat.gcd_comm, Nat.gcd_add_mul_left_right, Nat.gcd_comm]
    exact h
  · obtain ⟨k, rfl⟩ := hm
    rw [Nat.coprime_iff_gcd_eq_one] at h ⊢
    rw [← e, Nat.gcd_comm, Nat.gcd_add_mul_left_right, Nat.gcd_comm] at h
    exact h
theorem cop_sub {x y z m : Nat} (e : x + y = z) (hz : m ∣ z) (h : Nat.Coprime y m) : Nat.Coprime x m := by
  rw [Nat.coprime_iff_gcd_eq_one] at h ⊢
  have d1 := Nat.gcd_dvd_left x m
  have d2 := Nat.gcd_dvd_right x m
  have d3 : Nat.gcd x m ∣ y := by
    have : Nat.gcd x m ∣ x + y := by rw [e]; exact Nat.dvd_trans d2 hz
    exact (Nat.dvd_add_right d1).mp this
  have d4 : Nat.gcd x m ∣ Nat.gcd y m := Nat.dvd_gcd d3 d2
  rw [h] at d4
  exact Nat.dvd_one.mp d4
/-- added, in the program's own words: one = (a, b), the other one c / d, or -c / d -/
theorem added_eq {a b c d W : Nat} (b1 : 1 ≤ b) (d1 : 1 ≤ d) (hab : Nat.gcd a b = 1) (hcd : Nat.gcd c d = 1) (hW : W = a * (d / Nat.gcd b d) + c * (b / Nat.gcd b d) ∨ W + c * (b / Nat.gcd b d) = a * (d / Nat.gcd b d)) :
    (W / Nat.gcd W (Nat.gcd b d) = Nat.gcd b d * W / Nat.gcd (Nat.gcd b d * W) (b * d)) ∧ (b / Nat.gcd b d * (d / Nat.gcd W (Nat.gcd b d)) = b * d / Nat.gcd (Nat.gcd b d * W) (b * d)) := by
  have g0 : 0 < Nat.gcd b d := Nat.gcd_pos_of_pos_left d b1
  have eb : Nat.gcd b d * (b / Nat.gcd b d) = b := Nat.mul_div_cancel' (Nat.gcd_dvd_left b d)
  have ed : Nat.gcd b d * (d / Nat.gcd b d) = d := Nat.mul_div_cancel' (Nat.gcd_dvd_right b d)
  have cp := cop_parts (b := b) (d := d) g0
  have ca : Nat.Coprime a (b / Nat.gcd b d) := cop_div hab (Nat.gcd_dvd_left b d)
  have cc : Nat.Coprime c (d / Nat.gcd b d) := cop_div hcd (Nat.gcd_dvd_right b d)
  have hb : Nat.Coprime W (b / Nat.gcd b d) := cop_add (a := a * (d / Nat.gcd b d)) (y := c * (b / Nat.gcd b d)) (cop_mul ca cp.symm) (Nat.dvd_mul_left _ _) hW
  have hd : Nat.Coprime W (d / Nat.gcd b d) := by
    rcases hW with h | h
    · exact cop_add (a := c * (b / Nat.gcd b d)) (y := a * (d / Nat.gcd b d)) (cop_mul cc cp) (Nat.dvd_mul_left _ _) (.inl (by rw [h, Nat.add_comm]))
    · exact cop_sub h (Nat.dvd_mul_left _ _) (cop_mul cc cp)
  have pos : 0 < Nat.gcd b d * (b / Nat.gcd b d) * (Nat.gcd b d * (d / Nat.gcd b d)) := by rw [eb, ed]; exact Nat.mul_pos b1 d1
  have main := add_core (W := W) g0 pos hb hd
  rw [eb, ed] at main
  exact ⟨main.1.symm, main.2.symm⟩
/-- the whole top of the sum, or of the difference -/
theorem whole_add {a b c d : Nat} : Nat.gcd b d * (a * (d / Nat.gcd b d) + c * (b / Nat.gcd b d)) = a * d + c * b := by
  have eb : Nat.gcd b d * (b / Nat.gcd b d) = b := Nat.mul_div_cancel' (Nat.gcd_dvd_left b d)
  have ed : Nat.gcd b d * (d / Nat.gcd b d) = d := Nat.mul_div_cancel' (Nat.gcd_dvd_right b d)
  rw [Nat.mul_add, Nat.mul_left_comm, Nat.mul_left_comm _ c, eb, ed]
theorem whole_sub {a b c d W : Nat} (h : W + c * (b / Nat.gcd b d) = a * (d / Nat.gcd b d)) : Nat.gcd b d * W + c * b = a * d := by
  have eb : Nat.gcd b d * (b / Nat.gcd b d) = b := Nat.mul_div_cancel' (Nat.gcd_dvd_left b d)
  have ed : Nat.gcd b d * (d / Nat.gcd b d) = d := Nat.mul_div_cancel' (Nat.gcd_dvd_right b d)
  have e := congrArg (Nat.gcd b d * ·) h
  simp only [Nat.mul_add] at e
  rw [Nat.mul_left_comm _ c, Nat.mul_left_comm _ a, eb, ed] at e
  exact e
/-- times_share -/
theorem times_eq {a b c d : Nat} (b1 : 1 ≤ b) (d1 : 1 ≤ d) (hab : Nat.gcd a b = 1) (hcd : Nat.gcd c d = 1) :
    (a / Nat.gcd a d * (c / Nat.gcd c b) = a * c / Nat.gcd (a * c) (b * d)) ∧ (b / Nat.gcd c b * (d / Nat.gcd a d) = b * d / Nat.gcd (a * c) (b * d)) := by
  have l0 : 0 < Nat.gcd a d := Nat.gcd_pos_of_pos_right a d1
  have r0 : 0 < Nat.gcd c b := Nat.gcd_pos_of_pos_right c b1
  have ea : Nat.gcd a d * (a / Nat.gcd a d) = a := Nat.mul_div_cancel' (Nat.gcd_dvd_left a d)
  have ed : Nat.gcd a d * (d / Nat.gcd a d) = d := Nat.mul_div_cancel' (Nat.gcd_dvd_right a d)
  have ec : Nat.gcd c b * (c / Nat.gcd c b) = c := Nat.mul_div_cancel' (Nat.gcd_dvd_left c b)
  have eb : Nat.gcd c b * (b / Nat.gcd c b) = b := Nat.mul_div_cancel' (Nat.gcd_dvd_right c b)
  have p1 : Nat.Coprime (a / Nat.gcd a d) (d / Nat.gcd a d) := cop_parts (b := a) (d := d) l0
  have p2 : Nat.Coprime (c / Nat.gcd c b) (b / Nat.gcd c b) := cop_parts (b := c) (d := b) r0
  have p3 : Nat.Coprime (a / Nat.gcd a d) (b / Nat.gcd c b) := (cop_div (Nat.Coprime.symm (cop_div (Nat.Coprime.symm hab) (Nat.gcd_dvd_left a d))) (Nat.gcd_dvd_right c b))
  have p4 : Nat.Coprime (c / Nat.gcd c b) (d / Nat.gcd a d) := (cop_div (Nat.Coprime.symm (cop_div (Nat.Coprime.symm hcd) (Nat.gcd_dvd_left c b))) (Nat.gcd_dvd_right a d))
  have e1 : a * c = Nat.gcd a d * Nat.gcd c b * (a / Nat.gcd a d * (c / Nat.gcd c b)) := by
    conv => lhs; rw [← ea, ← ec]
    rw [Nat.mul_assoc, Nat.mul_assoc, Nat.mul_left_comm (a / Nat.gcd a d)]
  have e2 : b * d = Nat.gcd a d * Nat.gcd c b * (b / Nat.gcd c b * (d / Nat.gcd a d)) := by
    conv => lhs; rw [← eb, ← ed]
    rw [Nat.mul_comm (Nat.gcd a d) (Nat.gcd c b), Nat.mul_assoc, Nat.mul_assoc, Nat.mul_left_comm (b / Nat.gcd c b)]
  have k : Nat.Coprime (a / Nat.gcd a d * (c / Nat.gcd c b)) (b / Nat.gcd c b * (d / Nat.gcd a d)) := Nat.Coprime.mul_right (cop_mul p3 p2) (cop_mul p1 p4)
  have g : Nat.gcd (a * c) (b * d) = Nat.gcd a d * Nat.gcd c b := by
    rw [e1, e2, Nat.gcd_mul_left, k, Nat.mul_one]
  rw [g]
  have lr : 0 < Nat.gcd a d * Nat.gcd c b := Nat.mul_pos l0 r0
  constructor
  · conv => rhs; rw [e1]
    exact (Nat.mul_div_cancel_left _ lr).symm
  · conv => rhs; rw [e2]
    exact (Nat.mul_div_cancel_left _ lr).symm
end My

/-! T3 -/
set_option Elab.async false
set_option linter.all false
set_option maxRecDepth 100000
set_option maxHeartbeats 4000000
namespace My
open PySem L2
def top (i : Nat) : Stmt := PySem.Challenge.pw_trialdeal_k03_shares_reckoned_with.main.body.getD i (.Pass ⟨0, 0, 0, 0⟩)
abbrev sCell : Stmt := top 15
abbrev sPurse : Stmt := top 16
abbrev sTake : Stmt := top 17
/-! the purse -/
abbrev kL : Key := Sum.inr "left"
abbrev kS : Key := Sum.inr "seed"
abbrev kA : Key := Sum.inr "at"
def purseK (l s a : Int) : List (Key × V) := [(kL, .int l), (kS, .int s), (kA, .int a)]
theorem nLS : ¬ (kL = kS) := by decide +kernel
theorem nLA : ¬ (kL = kA) := by decide +kernel
theorem nSA : ¬ (kS = kA) := by decide +kernel
theorem nSL : ¬ (kS = kL) := by decide +kernel
theorem nAL : ¬ (kA = kL) := by decide +kernel
theorem nAS : ¬ (kA = kS) := by decide +kernel
theorem getL (l s a : Int) : valV (purseK l s a) kL = some (.int l) := valV_pos (p := (kL, V.int l)) rfl
theorem getS (l s a : Int) : valV (purseK l s a) kS = some (.int s) := by
  unfold purseK
  rw [valV_neg (p := (kL, V.int l)) nLS]
  exact valV_pos (p := (kS, V.int s)) rfl
theorem getA (l s a : Int) : valV (purseK l s a) kA = some (.int a) := by
  unfold purseK
  rw [valV_neg (p := (kL, V.int l)) nLA, valV_neg (p := (kS, V.int s)) nSA]
  exact valV_pos (p := (kA, V.int a)) rfl
theorem any_of {kvs : List (Key × V)} {k : Key} {v : V} (h : valV kvs k = some v) : (kvs.any fun kv => decide (kv.1 = k)) = true := by
  rw [valV_any, h]
  rfl
theorem putL (l s a y : Int) : putK (purseK l s a) kL (.int y) = purseK y s a := by
  unfold putK
  rw [if_pos (any_of (getL l s a))]
  unfold purseK
  rw [List.map_cons, List.map_cons, List.map_cons, List.map_nil, if_pos rfl, if_neg nSL, if_neg nAL]
theorem putA (l s a y : Int) : putK (purseK l s a) kA (.int y) = purseK l s y := by
  unfold putK
  rw [if_pos (any_of (getA l s a))]
  unfold purseK
  rw [List.map_cons, List.map_cons, List.map_cons, List.map_nil, if_neg nLA, if_neg nSA, if_pos rfl]
theorem putNew {kvs : List (Key × V)} {k : Key} {v : V} (h : valV kvs k = none) : putK kvs k v = kvs ++ [(k, v)] := putK_new v h
theorem mergeP (l s a : Int) : mergeK [] [(kL, V.int l), (kS, V.int s), (kA, V.int a)] = purseK l s a := by
  show putK (putK (putK [] kL (.int l)) kS (.int s)) kA (.int a) = _
  rw [putNew (k := kL) (v := V.int l) valV_nil]
  rw [putNew (k := kS) (by rw [List.nil_append, valV_neg (p := (kL, V.int l)) nLS]; rfl)]
  rw [putNew (k := kA) (by rw [List.nil_append, List.cons_append, valV_neg (p := (kL, V.int l)) nLA, List.nil_append, valV_neg (p := (kS, V.int s)) nSA]; rfl)]
  rfl
structure PurseAt (H : Hp) (p : Addr) : Prop where
  ex : ∃ l s a : Int, H p = some (.dK (purseK l s a)) ∧ 0 ≤ l
/-- all but the purse is as it was -/
def Kept (H H' : Hp) (p : Addr) : Prop := ∀ b o, H b = some o → b ≠ p → H' b = some o
theorem Kept.refl (H : Hp) (p : Addr) : Kept H H p := fun _ _ h _ => h
theorem Kept.trans {H H1 H2 : Hp} {p : Addr} (x : Kept H H1 p) (y : Kept H1 H2 p) : Kept H H2 p := fun b o h n => y b o (x b o h n) n
def spCell (K : PySem.W.Frag) : Sp := fun vs H Q _ => ∃ (a : Addr) (ns : List Int) (k : Int), vs = [.ref a, .int k] ∧ SqL K H a (ns.map V.int) ∧ 0 ≤ k ∧ ∀ c : Int, Q (.int c) H
def spPurse : Sp := fun vs H Q _ => ∃ (c : Int), vs = [.int c] ∧ ∀ (p : Addr) (H' : Hp), H p = none → PurseAt H' p → Kept H H' p → Q (.ref p) H'
def spTake : Sp := fun vs H Q _ => ∃ (p : Addr) (m : Int), vs = [.ref p, .int m] ∧ PurseAt H p ∧ 0 < m ∧ m < 1073741824 ∧ ∀ (r : Int) (H' : Hp), 0 ≤ r → r < m → PurseAt H' p → Kept H H' p → (∀ b, H b = none → H' b = none) → Q (.int r) H'
section
variable {P : Program} {w : World} {K : PySem.W.Frag} {mg : Str → Option Value} {base : Heap}
theorem scC : FnScope ["_law_script", "_law_k"] ["_law_script", "_law_k"] (defScope sCell) := ⟨rfl, rfl, rfl, by decide +kernel, rfl, by decide +kernel, by decide +kernel⟩
theorem ok_cell {f : Addr} {fd : FuncData} (F : Fun K "_law_cell" "_law_cell" sCell f fd) (ml : mg "len" = none) : FnOk P w K mg base CX0 1 f fd ["_law_script", "_law_k"] (spCell K) := by
  refine F.ok scC (fun vs H Q E h => ?_) (fun cdv A outer s H vs Q E hr h => ?_)
  · obtain ⟨a, ns, k, rfl, _⟩ := h
    rfl
  obtain ⟨a, ns, k, rfl, hS, h0, q⟩ := h
  refine ⟨_, pss_cons (ps_if (pt_cmpR op_lt (pv 1) (pe_callB call_len_seq rfl ml PySem.boot_len (pa_cons (pv 0) pa_nil)) (nomark _)) (pss_one (ps_ret (pe_ix ix_list (pv 0) (pv 1) (fun _ _ => rfl)))) pss_nil)
    (pss_one (ps_ret pe_int)), ?_⟩
  refine ⟨_, rfl, _, rfl, a, _, rfl, .inl hS, _, _, rfl, rfl, _, rfl, ?_⟩
  refine ite2 (fun c => ?_) (fun c => ?_)
  · have c' : k < (((ns.map V.int).length : Nat) : Int) := of_decide_eq_true c
    rw [List.length_map] at c'
    have hk : k.toNat < ns.length := by omega
    have ek : k = ((k.toNat : Nat) : Int) := by omega
    have z : atI (ns.map V.int) ((k.toNat : Nat) : Int) = some (.int ns[k.toNat]) := atI_nat (by rw [List.getElem?_map, List.getElem?_eq_getElem hk] <;> rfl)
    rw [← ek] at z
    exact ⟨_, rfl, _, rfl, a, _, _, _, rfl, rfl, hS, z, q _⟩
  · exact q 0
theorem scP : FnScope ["_law_cell_here"] ["_law_cell_here"] (defScope sPurse) := ⟨rfl, rfl, rfl, by decide +kernel, rfl, by decide +kernel, by decide +kernel⟩
theorem ok_purse {f : Addr} {fd : FuncData} (F : Fun K "_law_purse" "_law_purse" sPurse f fd) (mm : mg "max" = none) : FnOk P w K mg base CX0 1 f fd ["_law_cell_here"] spPurse := by
  refine F.ok scP (fun vs H Q E h => ?_) (fun cdv A outer s H vs Q E hr h => ?_)
  · obtain ⟨c, rfl, _⟩ := h
    rfl
  obtain ⟨c, rfl, q⟩ := h
  refine ⟨_, pss_one (ps_ret (pe_disp (pps_cons pe_str (pe_callB (call_max2 rfl) rfl mm PyProof.Rows.boot_max (pa_cons pe_int (pa_cons (pe_op op_sub (pv 0) (pe_op op_pow pe_int pe_int)) pa_nil)))
    (pps_cons pe_str (pe_op op_mod (pv 0) pe_int) (pps_cons pe_str pe_int pps_nil))) rfl rfl (by simp) (by decide))), ?_⟩
  intro p hp
  refine ⟨_, rfl, _, _, rfl, rfl, ⟨by decide, by decide, by decide⟩, _, _, rfl, rfl, _, _, rfl, ?_⟩
  refine ⟨_, rfl, _, _, rfl, rfl, (by show (0 : Int) < 2147483647; decide), upd_same, [(kL, V.int _), (kS, V.int _), (kA, V.int 0)], rfl, (by show 3 ≤ 15; decide), ?_⟩
  rw [mergeP]
  refine q p _ hp ⟨_, _, _, upd_same, ?_⟩ fun b o h n => by rw [upd_ne n, upd_ne n]; exact h
  split <;> omega
theorem scT : FnScope ["_law_purse_here", "_law_many", "_law_digit", "_law_number"] ["_law_purse_here", "_law_many"] (defScope sTake) := ⟨rfl, rfl, rfl, by decide +kernel, rfl, by decide +kernel, by decide +kernel⟩
theorem keptUpd {H : Hp} {p : Addr} (o : HO) : Kept H (upd H p o) p := fun b u h n => by rw [upd_ne n]; exact h
theorem noneUpd {H : Hp} {p : Addr} {o u : HO} (h : H p = some u) : ∀ b, H b = none → upd H p o b = none := fun b hb => by
  rw [upd_ne (fun e => by subst e; rw [h] at hb; cases hb)]; exact hb
theorem ok_take {f : Addr} {fd : FuncData} (F : Fun K "_law_take" "_law_take" sTake f fd) : FnOk P w K mg base CX0 1 f fd ["_law_purse_here", "_law_many"] spTake := by
  refine F.ok scT (fun vs H Q E h => ?_) (fun cdv A outer s H vs Q E hr h => ?_)
  · obtain ⟨p, m, rfl, _⟩ := h
    rfl
  obtain ⟨p, m, rfl, ⟨l, s0, a, hp, hl⟩, m0, m1, q⟩ := h
  have hu := hu_of hr
  have nd := scT.nd
  refine ⟨_, pss_cons (ps_if (pt_cmpR op_gt (pe_dget hu (pv 0) pe_str (fun _ _ => rfl)) pe_int (nomark _))
      (pss_cons (ps_set (i := 2) nd rfl (Or.inl rfl) (pe_op op_mod (pe_dget hu (pv 0) pe_str (fun _ _ => rfl)) (pv 1)))
      (pss_cons (ps_dput hu (pv 0) pe_str (pe_op op_fdiv (pe_dget hu (pv 0) pe_str (fun _ _ => rfl)) (pv 1)) rfl)
      (pss_one (ps_ret (pv 2))))) pss_nil)
    (pss_cons (ps_dput hu (pv 0) pe_str (pe_op op_add (pe_dget hu (pv 0) pe_str (fun _ _ => rfl)) pe_int) rfl)
    (pss_cons (ps_set (i := 3) nd rfl (Or.inl rfl) (pe_op op_mod (pe_op op_mul (pe_op op_add (pe_dget hu (pv 0) pe_str (fun _ _ => rfl)) (pe_op op_mul pe_int (pe_dget hu (pv 0) pe_str (fun _ _ => rfl)))) pe_int) pe_int))
    (pss_cons (ps_set (i := 3) nd rfl (Or.inl rfl) (pe_op op_mod (pe_op op_mul (pv 3) (pv 3)) pe_int))
    (pss_cons (ps_set (i := 3) nd rfl (Or.inl rfl) (pe_op op_mod (pe_op op_mul (pe_op op_add (pv 3) pe_int) (pe_op op_add (pv 3) (pe_dget hu (pv 0) pe_str (fun _ _ => rfl)))) pe_int))
    (pss_one (ps_ret (pe_op op_mod (pe_op op_fdiv (pe_op op_mod (pe_op op_mul (pv 3) (pe_op op_add (pv 3) pe_int)) pe_int) pe_int) (pv 1)))))))), ?_⟩
  have g0 : DGet H p (.str "left") (some (.int l)) := (getL l s0 a) ▸ DGet.k (k := kL) hp
  refine ⟨_, rfl, p, _, rfl, g0, _, _, rfl, rfl, _, rfl, ?_⟩
  refine ite2 (fun c => ?_) (fun c => ?_)
  · refine ⟨_, rfl, p, _, rfl, g0, _, rfl, _, _, rfl, rfl, m0, ?_⟩
    refine ⟨_, rfl, p, _, rfl, g0, _, rfl, _, _, rfl, rfl, ⟨m0, m1⟩, _, rfl, p, _, rfl, DPut.k (k := kL) hp (small1000 (by show 3 ≤ 1000; decide)), ?_⟩
    rw [putL]
    refine ⟨_, rfl, q _ _ (Int.emod_nonneg _ (by omega)) (Int.emod_lt_of_pos _ m0) ⟨_, _, _, upd_same, Int.ediv_nonneg hl (by omega)⟩ (keptUpd _) (noneUpd hp)⟩
  · have gA : DGet H p (.str "at") (some (.int a)) := (getA l s0 a) ▸ DGet.k (k := kA) hp
    refine ⟨_, rfl, p, _, rfl, gA, _, _, rfl, rfl, _, rfl, p, _, rfl, DPut.k (k := kA) hp (small1000 (by show 3 ≤ 1000; decide)), ?_⟩
    rw [putA]
    have hS : DGet (upd H p (.dK (purseK l s0 (a + 1)))) p (.str "seed") (some (.int s0)) := (getS l s0 (a + 1)) ▸ DGet.k (k := kS) upd_same
    have hA : DGet (upd H p (.dK (purseK l s0 (a + 1)))) p (.str "at") (some (.int (a + 1))) := (getA l s0 (a + 1)) ▸ DGet.k (k := kA) upd_same
    refine ⟨_, rfl, p, _, rfl, hS, _, rfl, p, _, rfl, hA, _, _, rfl, rfl, .inl ⟨by decide, by decide⟩, _, _, rfl, rfl, _, _, rfl, rfl, .inr ⟨by decide, by decide⟩, _, _, rfl, rfl, (by show (0 : Int) < 2147483647; decide), ?_⟩
    generalize e1 : ((s0 + 7919 * (a + 1)) * 48271 % 2147483647 : Int) = n1
    have b1 : 0 ≤ n1 ∧ n1 < 2147483647 := by omega
    refine ⟨_, rfl, _, rfl, _, _, rfl, rfl, .inl ⟨by omega, by omega⟩, _, _, rfl, rfl, (by show (0 : Int) < 2147483629; decide), ?_⟩
    generalize e2 : (n1 * n1 % 2147483629 : Int) = n2
    have b2 : 0 ≤ n2 ∧ n2 < 2147483629 := by omega
    refine ⟨_, rfl, _, _, rfl, rfl, _, rfl, _, rfl, p, _, rfl, hA, _, _, rfl, rfl, _, _, rfl, rfl, .inl ⟨by omega, by omega⟩, _, _, rfl, rfl, (by show (0 : Int) < 2147483587; decide), ?_⟩
    generalize e3 : ((n2 + 104729) * (n2 + (a + 1)) % 2147483587 : Int) = n3
    have b3 : 0 ≤ n3 ∧ n3 < 2147483587 := by omega
    refine ⟨_, rfl, _, rfl, _, _, rfl, rfl, _, _, rfl, rfl, .inl ⟨by omega, by omega⟩, _, _, rfl, rfl, (by show (0 : Int) < 2147483579; decide), _, _, rfl, rfl, ⟨by decide, by decide⟩, _, rfl, _, _, rfl, rfl, m0, ?_⟩
    exact q _ _ (Int.emod_nonneg _ (by omega)) (Int.emod_lt_of_pos _ m0) ⟨_, _, _, upd_same, hl⟩ (keptUpd _) (noneUpd hp)
theorem atI_mem {xs : List V} {i : Int} (h0 : 0 ≤ i) (h : i < (xs.length : Int)) : ∃ v, atI xs i = some v ∧ v ∈ xs := by
  have hk : i.toNat < xs.length := by omega
  have ek : i = ((i.toNat : Nat) : Int) := by omega
  have z : atI xs ((i.toNat : Nat) : Int) = some xs[i.toNat] := atI_nat (List.getElem?_eq_getElem hk)
  rw [← ek] at z
  exact ⟨_, z, List.getElem_mem hk⟩
theorem PurseAt.keep {H H' : Hp} {p : Addr} (x : PurseAt H p) (h : ∀ o, H p = some o → H' p = some o) : PurseAt H' p := by
  obtain ⟨l, s, a, e, hl⟩ := x.ex
  exact ⟨l, s, a, h _ e, hl⟩
theorem PurseAt.there {H : Hp} {p : Addr} (x : PurseAt H p) : ∃ o, H p = some o := by
  obtain ⟨l, s, a, e, hl⟩ := x.ex
  exact ⟨_, e⟩
theorem PurseAt.new {H : Hp} {p q : Addr} {o : HO} (x : PurseAt H p) (h : H q = none) : PurseAt (upd H q o) p := x.keep fun u e => by rw [upd_ne (ne_of_none e h)]; exact e
theorem Kept.new {H H1 : Hp} {p q : Addr} {o : HO} (x : Kept H H1 p) (h : H1 q = none) : Kept H (upd H1 q o) p := fun b u e n => by
  have e1 := x b u e n
  rw [upd_ne (ne_of_none e1 h)]; exact e1
theorem small_le {n : Nat} (h : n ≤ 1000) : n ≤ sizeLine := Nat.le_of_lt (small1000 h)
end
end My

/-! Rz -/
set_option Elab.async false
set_option linter.all false
set_option maxRecDepth 100000
set_option maxHeartbeats 1000000
namespace My
open PySem PySem.W L2
/-! an error that leaves a frame: what is written, to the last object -/
/-- the error's head: no traceback yet, or one at rest -/
def Head (h : Heap) (e : Addr) (vs : Array Value) : Prop := vs[1]? = some .none ∨ ∃ T oT ts, vs[1]? = some (.ref T) ∧ T ≠ e ∧ h.get? T = some oT ∧ oT.data = .fields ts ∧ ts[3]? = some .none
/-- behind it -/
structure LeftX (fr : List Addr) (e T : Addr) (oe : Obj) (h h' : Heap) (r : Value) : Prop where
  keep : ∀ b o, b ≠ e → b ∉ fr → h.get? b = some o → h'.get? b = some o
  slot : ∀ b o, b ≠ e → h.get? b = some o → ∃ sl, h'.get? b = some { o with slots := sl }
  new : h.objs.size ≤ T
  exc : h'.get? e = some (oe.mapFields (fun x => x.setIfInBounds 1 (.ref T)))
  trc : ∃ oT ts, h'.get? T = some oT ∧ oT.data = .fields ts ∧ ts[3]? = some r ∧ T ≠ e
theorem set_same {vs : Array Value} {i : Nat} {v : Value} (h : vs[i]? = some v) : vs.setIfInBounds i v = vs := by
  obtain ⟨hi, e⟩ := Array.getElem?_eq_some_iff.mp h
  apply Array.ext
  · simp
  · intro j h1 h2
    simp only [Array.size_setIfInBounds] at h1
    rw [Array.getElem_setIfInBounds h1]
    split
    · rename_i z; subst z; exact e.symm
    · rfl
theorem mapF {o : Obj} {vs : Array Value} (hd : o.data = .fields vs) (f : Array Value → Array Value) : o.mapFields f = { o with data := .fields (f vs) } := by
  obtain ⟨c, d, dt, sl⟩ := o
  have e : dt = .fields vs := hd
  subst e
  rfl
theorem notFreed {o : Obj} {vs : Array Value} (hd : o.data = .fields vs) : o.isFreed = false := by
  obtain ⟨c, d, dt, sl⟩ := o
  have e : dt = .fields vs := hd
  subst e
  rfl
/-- a new record of a built-in kind -/
theorem wp_newFields {M : Model} {A : Around} {E : Value → Shared → Prop} {s : Shared} {c : String} {vs : List Value} {Q : Value → Shared → Prop} (hl : vs.length ≤ sizeLine + 2)
    (q : Q (.ref s.heap.objs.size) { s with heap := s.heap.push { cls := .type c, data := .fields vs.toArray } }) : wpAny M A (newFields c vs) Q E s := by
  unfold newFields newObj
  refine wpAny_ite_false (decide_eq_false (by rw [List.size_toArray]; omega)) ?_
  unfold newObjAsIs
  exact wpAny_bind (wpAny_alloc (wpAny_pure q))
theorem place_len {pl : List Value} (h : IsPlace pl) : pl.length ≤ 6 := by
  rcases h with rfl | ⟨a, b, c, d, c9, b10, _, rfl⟩
  · decide
  · exact Nat.le_refl _
section
variable {M : Model} {A : Around} {E : Value → Shared → Prop} {s : Shared} {base : Heap} {env : Env} {outer : List Env} {L e : Addr} {oe : Obj} {vs : Array Value} {Q : Unit → Shared → Prop}
/-- the second half: the frame's object, the new entry, the error's head -/
theorem note_jp {head : Value} {hn : Bool} (hA : A.frames = some (env :: outer)) (hF : s.heap.FunFrames base (env :: outer)) (hL : env.frame = some L) (he : s.heap.get? e = some oe) (hd : oe.data = .fields vs) (h1 : 1 < vs.size)
    (q : ∀ h' T, LeftX (frs (env :: outer)) e T oe s.heap h' (rawInt ↑L) → Q () { s with heap := h' }) :
    wpAny M A (do
      let a ← frameOf env
      let pl ← entryPlaceOf L hn
      let b ← EntryCells.newEntry head a .none (rawInt ↑L) .none pl
      setField (.ref e) 1 b) Q E s := by
  have nfr : e ∉ frs (env :: outer) := fun z => by
    obtain ⟨_, o, ho, hn⟩ := hF.mem z
    rw [he] at ho; cases ho
    exact hn vs hd
  refine wpAny_bind (wpAny_frameOf_fun hA hF hL fun h1' so => ?_)
  refine wpAny_bind (wpAny_entryPlaceOf fun pl hpl => ?_)
  refine wpAny_bind ?_
  unfold EntryCells.newEntry
  refine wp_newFields ?_ ?_
  · have := place_len hpl
    have b : 100 ≤ sizeLine := by decide
    rw [List.length_append]
    split
    · rw [List.length_replicate]; show 5 + 6 ≤ _; omega
    · show 5 + pl.length ≤ _; omega
  have e1 : h1'.get? e = some oe := by rw [so.2.1 e nfr]; exact he
  have lt := Heap.lt_size e1
  generalize hob : ({ cls := .type "traceback", data := .fields ([head, Value.ref L, .none, rawInt ↑L, .none] ++ if pl.isEmpty = true then List.replicate 6 Value.none else pl).toArray } : Obj) = ob
  have e2 : (h1'.push ob).get? e = some oe := Heap.get?_push_of_some _ e1
  refine wpAny_setField e2 hd h1 ?_
  refine q _ h1'.objs.size ⟨fun b o nb nf hb => ?_, fun b o nb hb => ?_, Nat.le_of_eq so.1.symm, ?_, ?_⟩
  · rw [Heap.get?_update_ne _ _ _ _ nb]
    exact Heap.get?_push_of_some _ (by rw [so.2.1 b nf]; exact hb)
  · obtain ⟨sl, z⟩ := so.2.2 b o hb
    exact ⟨sl, by rw [Heap.get?_update_ne _ _ _ _ nb]; exact Heap.get?_push_of_some _ z⟩
  · exact Heap.get?_update_self _ e2 (by rw [mapF hd]; rfl)
  · have nT : h1'.objs.size ≠ e := Ne.symm (Nat.ne_of_lt lt)
    refine ⟨ob, _, ?_, by rw [← hob], ?_, nT⟩
    · rw [Heap.get?_update_ne _ _ _ _ nT]
      exact Heap.get?_push_at rfl (by rw [← hob]; rfl)
    · rfl
theorem bne_refV (a : Addr) : (Value.ref a != Value.none) = true := rfl
theorem rawInt_none (L : Addr) : (Value.none == rawInt ↑L) = false := rfl
/-- an error comes to a frame's end -/
theorem note_exact (hA : A.frames = some (env :: outer)) (hF : s.heap.FunFrames base (env :: outer)) (hL : env.frame = some L) (he : s.heap.get? e = some oe) (hd : oe.data = .fields vs) (hv : Head s.heap e vs)
    (q : ∀ h' T, LeftX (frs (env :: outer)) e T oe s.heap h' (rawInt ↑L) → Q () { s with heap := h' }) : wpAny M A (noteFrame (.ref e) env) Q E s := by
  unfold noteFrame
  rw [hL]
  rcases hv with hv | ⟨T, oT, ts, hv, nT, hT, hTd, h3⟩
  · have h1 : 1 < vs.size := (Array.getElem?_eq_some_iff.mp hv).1
    refine wpAny_bind (wpAny_field he hd hv ?_)
    refine wpAny_ite_false rfl ?_
    exact note_jp hA hF hL he hd h1 q
  · have h1 : 1 < vs.size := (Array.getElem?_eq_some_iff.mp hv).1
    have h3' : 3 < ts.size := (Array.getElem?_eq_some_iff.mp h3).1
    refine wpAny_bind (wpAny_field he hd hv ?_)
    refine wpAny_ite_true rfl ?_
    refine wpAny_bind (wpAny_field hT hTd h3 ?_)
    refine wpAny_ite_false rfl ?_
    refine wpAny_bind (wpAny_setField hT hTd h3' ?_)
    have g : ∀ b, (s.heap.update T (Obj.mapFields fun x => x.setIfInBounds 3 Value.none)).get? b = s.heap.get? b := fun b => by
      by_cases z : b = T
      · subst z
        rw [Heap.get?_update_self _ hT (by rw [mapF hTd]; rfl), hT, mapF hTd, set_same h3, ← hTd]
      · exact Heap.get?_update_ne _ _ _ _ z
    have sz : (s.heap.update T (Obj.mapFields fun x => x.setIfInBounds 3 Value.none)).objs.size = s.heap.objs.size := Heap.size_update _ _ _
    generalize s.heap.update T (Obj.mapFields fun x => x.setIfInBounds 3 Value.none) = h0 at g sz
    have hF0 : h0.FunFrames base (env :: outer) := Heap.FunFrames.of_keeps (fun b o hb _ => ⟨o, by rw [g]; exact hb, rfl⟩) hF
    refine note_jp (s := { s with heap := h0 }) hA hF0 hL (by show h0.get? e = _; rw [g]; exact he) hd h1 fun h' T' x => ?_
    exact q h' T' ⟨fun b o nb nf hb => x.keep b o nb nf (by show h0.get? b = _; rw [g]; exact hb), fun b o nb hb => x.slot b o nb (by show h0.get? b = _; rw [g]; exact hb), by rw [← sz]; exact x.new, x.exc, x.trc⟩
theorem LeftX.flight {fr : List Addr} {T : Addr} {h h' : Heap} {r : Value} (x : LeftX fr e T oe h h' r) (hd : oe.data = .fields vs) (h1 : 1 < vs.size) (s' : Shared) (es : s'.heap = h')
    (q : ∀ h2, LeftX fr e T oe h h2 .none → Q () { s' with heap := h2 }) : wpAny M A (setFlight (.ref e) none) Q E s' := by
  subst es
  obtain ⟨oT, ts, hT, hTd, h3, nT⟩ := x.trc
  have h3' : 3 < ts.size := (Array.getElem?_eq_some_iff.mp h3).1
  have e1 : (oe.mapFields (fun x => x.setIfInBounds 1 (.ref T))).data = .fields (vs.setIfInBounds 1 (.ref T)) := Obj.data_mapFields hd _
  have e2 : (vs.setIfInBounds 1 (Value.ref T))[1]? = some (.ref T) := by simp [h1]
  refine wpAny_setFlight_none x.exc e1 e2 hT hTd h3' (q _ ⟨fun b o nb nf hb => ?_, fun b o nb hb => ?_, x.new, ?_, ?_⟩)
  · have z := x.keep b o nb nf hb
    rw [Heap.get?_update_ne _ _ _ _ (fun w => ?_)]
    · exact z
    · rw [w] at hb
      exact absurd (Nat.lt_of_lt_of_le (Heap.lt_size hb) x.new) (Nat.lt_irrefl _)
  · obtain ⟨sl, z⟩ := x.slot b o nb hb
    refine ⟨sl, ?_⟩
    rw [Heap.get?_update_ne _ _ _ _ (fun w => ?_)]
    · exact z
    · rw [w] at hb
      exact absurd (Nat.lt_of_lt_of_le (Heap.lt_size hb) x.new) (Nat.lt_irrefl _)
  · rw [Heap.get?_update_ne _ _ _ _ nT.symm]
    exact x.exc
  · refine ⟨_, _, Heap.get?_update_self _ hT (by rw [mapF hTd]; rfl), Obj.data_mapFields hTd _, ?_, nT⟩
    simp [h3']
theorem leave_exact (hA : A.frames = some (env :: outer)) (hF : s.heap.FunFrames base (env :: outer)) (hL : env.frame = some L) (he : s.heap.get? e = some oe) (hd : oe.data = .fields vs) (hv : Head s.heap e vs)
    (q : ∀ h' T, LeftX (frs (env :: outer)) e T oe s.heap h' .none → Q () { s with heap := h' }) : wpAny M A (leaving env (.ref e)) Q E s := by
  have h1 : 1 < vs.size := by
    rcases hv with hv | ⟨T, oT, ts, hv, _⟩
    · exact (Array.getElem?_eq_some_iff.mp hv).1
    · exact (Array.getElem?_eq_some_iff.mp hv).1
  unfold leaving
  exact wpAny_bind (note_exact hA hF hL he hd hv fun h' T x => x.flight hd h1 _ rfl fun h2 x2 => q h2 T x2)
end
end My

/-! Rz2 -/
set_option Elab.async false
set_option linter.all false
set_option maxRecDepth 100000
set_option maxHeartbeats 1000000
namespace My
open PySem PySem.W L2
open PyProof.Rows (AllBare)
/-- an error's object, with whatever traceback -/
abbrev errW (C : Addr) (d : Option Addr) (t : Addr) (v : Value) : Obj := { cls := .ref C, dict := d, data := .fields #[.ref t, v, .none, .none, .bool false, .none] }
def ErrT (x C : Addr) (d : Option Addr) : HO := .ext fun h => ∃ t v, h.get? x = some (errW C d t v)
theorem errT_ok {P : Program} {w : World} {H : Hp} {h : Heap} {x C : Addr} {d : Option Addr} {t : Addr} {v : Value} (e : h.get? x = some (errW C d t v)) : ObjOk P w H h x (ErrT x C d) :=
  ⟨⟨t, v, e⟩, ⟨_, e⟩, fun _ _ ⟨t', v', e'⟩ k => ⟨t', v', k _ e'⟩⟩
theorem errT_at {P : Program} {w : World} {H : Hp} {h : Heap} {x C : Addr} {d : Option Addr} (ok : HOk P w H h) (e : H x = some (ErrT x C d)) : ∃ t v, h.get? x = some (errW C d t v) := (ok x _ e).1
/-- the traceback of an error at rest: untracked, younger than n -/
def Fly (n : Nat) (H : Hp) (h : Heap) (x C : Addr) (d : Option Addr) : Prop := ∃ t T oT ts, h.get? x = some (errW C d t (.ref T)) ∧ T ≠ x ∧ n ≤ T ∧ H T = none ∧ h.get? T = some oT ∧ oT.data = .fields ts ∧ ts[3]? = some Value.none
/-- how an error lies behind a call: its class, its address, its dict, the heap -/
def CXE (P : Program) (w : World) : CXT := fun outer H s E e s' => ∃ x C dx fs H', e = .ref x ∧ s'.os = s.os ∧ AllBare s'.gens ∧ Un (frs outer) [] H H' s.heap s'.heap ∧ HOk P w H' s'.heap ∧ H' x = some (ErrT x C (some dx)) ∧ H' dx = some (.xd fs) ∧ Fly s.heap.objs.size H' s'.heap x C (some dx) ∧ E (.ref C) (some x) H'
section
variable {X : Cx} {pins : List (Addr × Obj)} {σ : St} {H : Hp} {s : Shared}
/-- an error comes to the end of a body's frame: all stands but it and the slots -/
theorem Inv.left {x C : Addr} {d : Option Addr} {t T : Addr} {v r : Value} {h' : Heap} {o : HO} (I : Inv X pins σ H s) (hS : X.stack = X.env :: X.outer) (hx : H x = some o) (ho : (∃ φ, o = .ext φ)) (he : s.heap.get? x = some (errW C d t v))
    (l : LeftX (frs (X.env :: X.outer)) x T (errW C d t v) s.heap h' r) : Inv X pins σ (upd H x (ErrT x C d)) { s with heap := h' } := by
  obtain ⟨φ, rfl⟩ := ho
  have nx : ∀ b u, H b = some u → (∀ φ, u ≠ .ext φ) → b ≠ x := fun b u e n z => by
    subst z
    rw [hx] at e
    exact n φ (Option.some.inj e).symm
  have fr0 : ∀ b ∈ frs (X.env :: X.outer), H b = none := fun b hb => I.stkFree b (by rw [hS]; exact hb)
  have nfr : ∀ b u, H b = some u → b ∉ frs (X.env :: X.outer) := fun b u e z => by rw [fr0 b z] at e; cases e
  have exc : h'.get? x = some (errW C d t (.ref T)) := l.exc
  have sub : ∀ b, b ∈ frs (X.env :: X.outer) → b = X.env.locals ∨ b ∈ X.fs := fun b hb => List.mem_cons.mp (I.stkSub b (by rw [hS]; exact hb))
  refine I.step (g' := s.gens) (d' := s.drawn) (t' := s.toks) (ch := []) (fun _ z => nomatch z) (fun b o hL hf _ e n => ?_) (fun b o hL hf _ e n => ?_) (fun b o _ e n => ?_) (fun b o _ e => ?_) (fun b xs e => ?_) (fun b o u e => ?_) (fun b ps e => ⟨#[], ?_⟩) (fun e => ?_) (fun m hm => ?_) (fun b u e => ?_) I.bare
  · refine l.keep b o (fun z => by rw [z, hx] at n; cases n) (fun z => ?_) e
    rcases sub b z with q | q
    · exact hL q
    · exact hf q
  · exact l.slot b o (fun z => by rw [z, hx] at n; cases n) e
  · rw [upd_ne (fun z => by rw [z, hx] at n; cases n)]; exact n
  · by_cases z : b = x
    · subst z; exact ⟨_, exc⟩
    · obtain ⟨sl, q⟩ := l.slot b o z e
      exact ⟨_, q⟩
  · rw [upd_ne (nx b _ e fun _ => by intro z; cases z)]; exact e
  · rw [upd_ne (nx b _ e fun _ => by intro z; cases z)]; exact e
  · rw [upd_ne (nx b _ e fun _ => by intro z; cases z), e]; simp
  · rw [upd_ne (fun z => by rw [z, hx] at e; cases e)]; exact e
  · obtain ⟨o, es, ep, ho, r⟩ := hm
    obtain ⟨sl, q⟩ := l.slot _ o (fun z => by have := I.free; rw [z, hx] at this; cases this) ho
    exact ⟨_, es, ep, q, r⟩
  · by_cases z : b = x
    · subst z
      rw [upd_same] at e
      cases e
      exact errT_ok exc
    · rw [upd_ne z] at e
      refine (I.hok b u e).stay (fun c o' hc q => ?_) (fun c q => ?_) fun c xs q => ?_
      · rcases hc with rfl | hc
        · exact l.keep c o' z (nfr c u e) q
        · exact l.keep c o' (nx c _ hc fun _ => by intro w; cases w) (nfr c _ hc) q
      · rw [upd_ne (nx c _ q fun _ => by intro w; cases w)]; exact q
      · rw [upd_ne (nx c _ q fun _ => by intro w; cases w)]; exact q
end
section
variable {P : Program} {w : World} {K : Frag} {mg : Str → Option Value} {base : Heap} {N : List Str} {qual : Str} {scope : Scope} {f : Addr} {cd : Value} {A : Around} {outer : List Env} {s0 : Shared} {H0 : Hp} {E : XK} {pins : List (Addr × Obj)} {σ : St} {H : Hp} {s : Shared}
/-- an error leaves a def -/
theorem xe_of {x C dx : Addr} {t : Addr} {v : Value} {o : HO} {fs : List (Str × V)} (I : Inv (cxOf (CXE P w) P w K mg base N qual scope f cd A outer s0 H0 E) pins σ H s) (hx : H x = some o) (ho : (∃ φ, o = .ext φ)) (hdx : H dx = some (.xd fs)) (he : s.heap.get? x = some (errW C (some dx) t v))
    (hv : Head s.heap x #[.ref t, v, .none, .none, .bool false, .none]) (q : E (.ref C) (some x) (upd H x (ErrT x C (some dx)))) : (cxOf (CXE P w) P w K mg base N qual scope f cd A outer s0 H0 E).xe (.ref x) s := by
  have hA := I.ok.frames
  refine leave_exact hA I.stack rfl he rfl hv fun h' T l => ?_
  have J := Inv.left I rfl hx ho he l
  have nT : H T = none := I.hok.fresh l.new
  obtain ⟨oT, ts, h1, h2, h3, h4⟩ := l.trc
  have nd : dx ≠ x := fun z => by
    obtain ⟨φ, rfl⟩ := ho
    rw [z, hx] at hdx; cases hdx
  refine ⟨x, C, dx, fs, _, rfl, J.os, J.bare, J.base, J.hok, upd_same, by rw [upd_ne nd]; exact hdx, ⟨t, T, oT, ts, l.exc, h4, Nat.le_trans I.sz l.new, ?_, h1, h2, h3⟩, q⟩
  rw [upd_ne h4]; exact nT
/-- a callee's error goes on -/
theorem passE : Passes (CXE P w) (cxOf (CXE P w) P w K mg base N qual scope f cd A outer s0 H0 E) E := by
  intro pins σ H s e s' I h
  obtain ⟨x, C, dx, fs, H', rfl, os, bare, un, hok, hx, hdx, ⟨t, T, oT, ts, h1, h2, _, h4, h5, h6, h7⟩, q⟩ := h
  have J := I.call' os un hok bare (fun b z => absurd z (by simp))
  refine xe_of J hx ⟨_, rfl⟩ hdx h1 (.inr ⟨T, oT, ts, rfl, h2, h5, h6, h7⟩) ?_
  rw [upd_id hx]
  exact q
end
end My

/-! Rz3 -/
set_option Elab.async false
set_option linter.all false
set_option maxRecDepth 100000
set_option maxHeartbeats 1000000
namespace My
open PySem PySem.W L2
open PyProof.Rows (AllBare)
section
variable {prog : Program} {w : World} {A : Around} {E : Value → Shared → Prop} {s : Shared} {env : Env} {x : Sem Value} {Q : Flow → Shared → Prop} {K : Frag} {C : Addr}
/-- raise of an own error that has just been made -/
theorem wp_raise (T : ErrI K C) (ht : typeIn K (.ref C) = some (.type "type")) (hA : A.handled = none)
    (hx : wpAny (model prog w) A x (fun v s1 => ∃ e t d od, v = .ref e ∧ InstAt s1.heap e (errAt C d t) C od ∧ K.In s1.heap ∧ E (.ref e) s1) E s) : wpAny (model prog w) A (raiseStmt env (some x) none) Q E s := by
  unfold raiseStmt
  refine wpAny_bind (wpAny_mono hx (fun v s1 h => ?_) (fun _ _ z => z))
  obtain ⟨e, t, d, od, rfl, I, KX, q⟩ := h
  obtain ⟨hp, g, dr, tk, os⟩ := s1
  have noC : ∀ c : ClassData, (errAt C d t).data ≠ Data.cls c := fun c z => by cases z
  refine wpAny_bind (wpAny_pure ?_)
  refine wpAny_bind ?_
  show wpAny _ _ (excFromValue (.ref e) _) _ _ _
  unfold excFromValue
  refine wpAny_bind ?_
  unfold isExcClass
  refine wpAny_bind (ks_wpAny_isType_inst I.at_ noC ?_)
  refine wpAny_ite_false rfl (wpAny_pure ?_)
  refine wpAny_ite_false rfl ?_
  refine wpAny_bind ?_
  have sub : Looks (model prog w) hp (isInstance (.ref e) (.type "BaseException")) true := I.type.andThen (looks_mroIn KX T.mb)
  refine Looks.here (s := ⟨hp, g, dr, tk, os⟩) sub ?_
  refine wpAny_ite_true rfl (wpAny_pure ?_)
  refine wpAny_bind (ks_wpAny_isType_inst I.at_ noC ?_)
  refine wpAny_ite_false rfl ?_
  refine wpAny_bind ?_
  unfold raisedInstance
  refine wpAny_bind (Looks.here (s := ⟨hp, g, dr, tk, os⟩) I.type ?_)
  refine wpAny_bind (Looks.here (s := ⟨hp, g, dr, tk, os⟩) (looks_typeIn KX ht) ?_)
  refine wpAny_ite_true rfl (wpAny_pure ?_)
  refine wpAny_bind ?_
  unfold setFlight
  refine wpAny_bind (wpAny_field I.at_ rfl rfl ?_)
  refine wpAny_ite_false rfl (wpAny_pure ?_)
  exact wpAny_raiseNew_none hA q
end
theorem ErrC.type {K : Frag} {D : Addr} {nm : Str} {C f : Addr} (T : ErrC K D nm C f) : typeIn K (.ref C) = some (.type "type") := by
  obtain ⟨q, N, bs, sn, sub, ab, col, dd, k0, k1, k2, k3, k5, l⟩ := T.cls
  show (K.lookup C).map (fun o => o.cls) = _
  rw [l]
  rfl
/-- raise C(e): the wish of the error is told by E -/
def qR (E : XK) (C : Addr) : VK := fun y H' => ∃ x dx fs, y = .ref x ∧ H' x = some (ErrO x C (some dx)) ∧ H' dx = some (.xd fs) ∧ E (.ref C) (some x) (upd H' x (ErrT x C (some dx)))
def tRaise (E : XK) (C : Addr) (fld : Str) (te : TE) : TS := fun _ σ H => tErr C fld te σ H (qR E C)
theorem upd_upd {H : Hp} {x : Addr} {a b : HO} : upd (upd H x a) x b = upd H x b := by
  funext z
  unfold upd
  by_cases h : z = x
  · rw [if_pos h, if_pos h]
  · rw [if_neg h, if_neg h, if_neg h]
section
variable {P : Program} {w : World} {K : Frag} {mg : Str → Option Value} {base : Heap} {N : List Str} {qual : Str} {scope : Scope} {f : Addr} {cd : Value} {A : Around} {outer : List Env} {s0 : Shared} {H0 : Hp} {E : XK}
abbrev cxE (P : Program) (w : World) (K : Frag) (mg : Str → Option Value) (base : Heap) (N : List Str) (qual : Str) (scope : Scope) (f : Addr) (cd : Value) (A : Around) (outer : List Env) (s0 : Shared) (H0 : Hp) (E : XK) : Cx := cxOf (CXE P w) P w K mg base N qual scope f cd A outer s0 H0 E
theorem ps_raise {D C fI : Addr} {nm fld x : Str} {k : Nat} {fd : FuncData} {ps : List Str} {e : Expr} {te : TE} {p pos pos' : Pos} (B : BaseC K D) (T : ErrC K D nm C fI) (F : FnOk P w K mg base CX0 k fI fd ps (spErr C fld)) (hr : Room (k + 1) (cxE P w K mg base N qual scope f cd A outer s0 H0 E).A) (hb : Binds K fd ps [])
    (hg : Gl (cxE P w K mg base N qual scope f cd A outer s0 H0 E) x) (hm : mg x = some (.ref C)) (ha : PE (cxE P w K mg base N qual scope f cd A outer s0 H0 E) e te)
    (hdb : (x == ("__debug__" : Str)) = false := by decide) (he : starEach [e] (cxE P w K mg base N qual scope f cd A outer s0 H0 E).env = (false, eval e (cxE P w K mg base N qual scope f cd A outer s0 H0 E).env) :: starEach [] (cxE P w K mg base N qual scope f cd A outer s0 H0 E).env := by rfl) (hpl : (backTo pos (starEach [] (cxE P w K mg base N qual scope f cd A outer s0 H0 E).env)).any (·.1) = false := by rfl) :
    PS (cxE P w K mg base N qual scope f cd A outer s0 H0 E) (.Raise (some (.Call (.Name x p) [e] [] pos)) none pos') (tRaise E C fld te) := by
  intro pins s σ H D' I h
  have pe := pe_err (X := cxE P w K mg base N qual scope f cd A outer s0 H0 E) (p := p) (pos := pos) B T F hr hb hg hm ha hdb he hpl
  have hd : (cxE P w K mg base N qual scope f cd A outer s0 H0 E).A.handled = none := I.ok.hd rfl
  rw [arm_exec_Raise]
  refine wpAny_bind (wpAny_standAt ?_)
  refine wp_raise T.it T.type hd ?_
  refine wpAny_bind (thn (pe pins s σ H (qR E C) I h) fun u s1 h1 => ?_)
  obtain ⟨y, H1, I1, ry, x, dx, fs, rfl, e1, e2, q⟩ := h1
  refine wpAny_bind (wpAny_standAt (wpAny_pure ?_))
  obtain ⟨t, ht⟩ := errO_at I1.hok e1
  obtain ⟨ox, od, J, _⟩ := err_inst I1.hok e1 e2
  have eo : ox = errAt C (some dx) t := Option.some.inj (J.at_.symm.trans ht)
  subst eo
  exact ⟨x, t, some dx, some od, ry, J, I1.kIn, xe_of I1 e1 ⟨_, rfl⟩ e2 ht (.inl rfl) q⟩
/-- the reading of a raise, met -/
theorem rd_raise {C : Addr} {fld : Str} {te : TE} {D : Ends} {σ : St} {H : Hp} (h : te σ H fun v H1 => ∀ x dx, H1 x = none → H1 dx = none → dx ≠ x → qR E C (.ref x) (upd (upd H1 dx (.xd [(fld, v)])) x (ErrO x C (some dx)))) : tRaise E C fld te D σ H := h
theorem qR_of {C x dx : Addr} {fld : Str} {v : V} {H1 : Hp} (nd : dx ≠ x) (q : E (.ref C) (some x) (upd (upd H1 dx (.xd [(fld, v)])) x (ErrT x C (some dx)))) : qR E C (.ref x) (upd (upd H1 dx (.xd [(fld, v)])) x (ErrO x C (some dx))) :=
  ⟨x, dx, _, rfl, upd_same, by rw [upd_ne nd, upd_same], by rw [upd_upd]; exact q⟩
/-- THE RULE for a def out of which errors may come -/
theorem okE {x qual : Str} {st : Stmt} {f : Addr} {fd : FuncData} {N ps : List Str} {k : Nat} {sp : Sp} (F : Fun K x qual st f fd) (S : FnScope N ps (defScope st)) (len : ∀ vs H Q E, sp vs H Q E → vs.length = ps.length)
    (hbody : ∀ (cdv : Value) (A : Around) (outer : List Env) (s : Shared) (H : Hp) (vs : List V) (Q : VK) (E : XK), Room k (A.deeper (PyProof.Rows.envOfC qual (defScope st) s.heap.objs.size f cdv)) → sp vs H Q E →
      ∃ t, PSs (cxE P w K mg base N qual (defScope st) f cdv A outer s H E) (defBody st) t ∧ t { nx := fun _ H' => Q .non H', rt := Q } (start N vs) H) : FnOk P w K mg base (CXE P w) (k + 1) f fd ps sp := by
  obtain ⟨oc, od, kV, doc, pm, an, cdv, ct, osl, rfl, lk, hcd⟩ := F.ex
  refine fn_of lk hcd S len fun A outer s H vs Q E hr hsp => ?_
  obtain ⟨t, h, q⟩ := hbody cdv A outer s H vs Q E hr hsp
  exact ⟨t, h, q⟩
/-- a raise that is never come to -/
theorem ps_never {X : Cx} {st : Stmt} : PS X st (fun _ _ _ => False) := fun _ _ _ _ _ _ h => h.elim
/-- a def out of which no error comes, as one out of which errors may come -/
theorem FnOk.toE {k : Nat} {f : Addr} {fd : FuncData} {ps : List Str} {sp : Sp} (F : FnOk P w K mg base CX0 k f fd ps sp) : FnOk P w K mg base (CXE P w) k f fd ps sp :=
  ⟨F.len, fun A outer s H args us vs Q E hr he hb hv hs => codeAny_mono (F.run A outer s H args us vs Q E hr he hb hv hs) fun r s' h => by
    cases r with
    | error e => exact False.elim h
    | ok fl => cases fl <;> exact h⟩
end
end My

/-! Rz4 -/
set_option Elab.async false
set_option linter.all false
set_option maxRecDepth 100000
set_option maxHeartbeats 1000000
namespace My
open PySem PySem.W L2
open PyProof.Rows (AllBare)
/-! what an expression does at one state of the names: within a try -/
def PX (X : Cx) (σ : St) (e : Expr) (t : TE) : Prop := ∀ (pins : List (Addr × Obj)) (s : Shared) (H : Hp) (Q : VK), Inv X pins σ H s → t σ H Q → wpAny (model X.prog X.w) X.A (eval e X.env) (EP X pins σ Q) X.xe s
def PXA (X : Cx) (σ : St) (es : List Expr) (t : TA) : Prop := ∀ (pos : Pos) (pins : List (Addr × Obj)) (s : Shared) (H : Hp) (Q : List V → Hp → Prop), Inv X pins σ H s → t σ H Q → wpAny (model X.prog X.w) X.A (spliced (backTo pos (starEach es X.env))) (AP X pins σ Q) X.xe s
section
variable {X : Cx} {σ : St} {e : Expr} {es : List Expr} {te : TE} {t : TA} {pos : Pos}
theorem px_of (h : PE X e te) : PX X σ e te := fun pins s H Q I q => h pins s σ H Q I q
theorem pxa_of (h : PA X es t) : PXA X σ es t := fun pos pins s H Q I q => h pos pins s σ H Q I q
theorem pxa_nil : PXA X σ [] tNil := pxa_of pa_nil
theorem pxa_cons (ha : PX X σ e te) (hr : PXA X σ es t) (hs : starEach (e :: es) X.env = (false, eval e X.env) :: starEach es X.env := by rfl) : PXA X σ (e :: es) (tCons te t) := by
  intro pos pins s H Q I h
  rw [hs]
  show wpAny _ _ (spliced ((false, eval e X.env) :: backTo pos (starEach es X.env))) _ _ s
  refine Calls.spliced_cons (thn (ha pins s H _ I h) fun u s1 ⟨x, H1, I1, r1, q1⟩ => ?_)
  exact thn (hr pos pins s1 H1 _ I1 q1) fun us s2 ⟨xs, H2, I2, r2, q2⟩ => ⟨x :: xs, H2, I2, .cons r1 r2, q2⟩
theorem px_tup {x1} (h : PXA X σ es t) : PX X σ (.Tuple es x1 pos) (tTup t) := by
  intro pins s H Q I hq
  refine wpAny_Tuple_spliced (thn (h pos pins s H _ I hq) fun us s1 ⟨xs, H1, I1, r, z, q⟩ => ⟨by rw [← r.length]; exact z, ?_⟩)
  have hf : H1 s1.heap.objs.size = none := I1.hok.fresh (Nat.le_refl _)
  refine ⟨.ref s1.heap.objs.size, upd H1 s1.heap.objs.size (.tup xs), I1.laid (t' := s1.toks) (fun b u e => Heap.get?_push_of_some _ e) (Nat.le_refl _) ?_, rfl, q _ hf⟩
  exact ⟨z, us, r, ⟨_, Heap.get?_push_size _ rfl, rfl, _, rfl⟩⟩
theorem px_lst (h : PXA X σ es t) : PX X σ (.List es pos) (tLst t) := by
  intro pins s H Q I hq
  refine wpAny_List_spliced (thn (h pos pins s H _ I hq) fun us s1 ⟨xs, H1, I1, r, z, q⟩ => ⟨by rw [← r.length]; exact z, ?_⟩)
  have hf : H1 s1.heap.objs.size = none := I1.hok.fresh (Nat.le_refl _)
  refine ⟨.ref s1.heap.objs.size, upd H1 s1.heap.objs.size (.lst xs), I1.laid (t' := s1.toks) (fun b u e => Heap.get?_push_of_some _ e) (Nat.le_refl _) ?_, rfl, q _ hf⟩
  exact ⟨z, us, 0, r, Heap.get?_push_size _ rfl⟩
/-- an exception of a callee reaches what is wanted, at these names -/
def PassX (CX : CXT) (X : Cx) (σ : St) (E : XK) : Prop := ∀ (pins : List (Addr × Obj)) (H : Hp) (s : Shared) (e : Value) (s' : Shared), Inv X pins σ H s → CX X.stack H s E e s' → X.xe e s'
variable {CX : CXT} {k : Nat} {f C : Addr} {fd : FuncData} {ps : List Str} {sp : Sp} {dvs : List V} {ds : List Value} {E : XK} {x : Str} {p : Pos}
theorem run_fnX {pins : List (Addr × Obj)} {H : Hp} {s : Shared} {Q : VK} {us : List Value} {vs : List V} (F : FnOk X.prog X.w X.K X.mg X.base CX k f fd ps sp) (hr : Room k X.A) (hb : Binds X.K fd ps ds) (hd : Vals dvs ds) (hx : PassX CX X σ E)
    (I : Inv X pins σ H s) (r : Vals vs us) (h : sp (vs ++ dvs) H Q E) : wpAny (model X.prog X.w) X.A (call (.ref f) us) (EP X pins σ Q) X.xe s := by
  have r2 : Vals (vs ++ dvs) (us ++ ds) := r.append hd
  have hl : (us ++ ds).length = ps.length := by rw [← r2.length]; exact F.len _ _ _ _ h
  refine wpAny_call (codeAny_mono (F.run X.A X.stack s H ⟨us, []⟩ (us ++ ds) (vs ++ dvs) Q E hr I.env0 (hb s us I.kIn hl) r2 h) fun r s' hq => ?_)
  cases r with
  | error e => exact hx pins H s e s' I hq
  | ok fl =>
    cases fl with
    | ret u => exact I.after hq
    | next => exact False.elim hq
    | brk => exact False.elim hq
    | cont => exact False.elim hq
theorem px_call (F : FnOk X.prog X.w X.K X.mg X.base CX k f fd ps sp) (hr : Room k X.A) (hg : Gl X x) (hm : X.mg x = some (.ref f)) (hk : PySem.W.keepIn X.K (.ref f) = true) (hb : Binds X.K fd ps ds) (hd : Vals dvs ds) (hx : PassX CX X σ E)
    (ha : PXA X σ (e :: es) t) (hdb : (x == ("__debug__" : Str)) = false := by decide) (he : starEach (e :: es) X.env = (false, eval e X.env) :: starEach es X.env := by rfl) (hpl : (backTo pos (starEach es X.env)).any (·.1) = false := by rfl) :
    PX X σ (.Call (.Name x p) (e :: es) [] pos) (tCall sp dvs E t) := by
  intro pins s H Q I h
  refine wpAny_Call_Name_kw (ld_glob I hg hm ?_ hdb)
  refine PySem.W.callWith_K (h₀ := X.base) I.ok.mod.kin hk (thn (ha pos pins s H _ I h) fun us s1 ⟨vs, H1, I1, r, q⟩ => ⟨I1.kIn, ?_⟩) he hpl
  exact run_fnX F hr hb hd hx I1 r q
end
/-! which errors a class catches -/
section
variable {prog : Program} {w : World} {A : Around} {E : Value → Shared → Prop} {s : Shared} {K : Frag} {C D e : Addr} {Q : Bool → Shared → Prop} {ox : Obj} {od : Option Obj} {b : Bool}
theorem wp_matches (KX : K.In s.heap) (hD : ∃ cd, clsIn K D = some cd) (hT : typeIn K (.ref D) = some (.type "type")) (hB : mroIn K D (.type "BaseException") = some true) (I : InstAt s.heap e ox C od) (hC : mroIn K C (.ref D) = some b) (q : Q b s) : wpAny (model prog w) A (excMatches (.ref e) (.ref D)) Q E s := by
  unfold excMatches
  have L1 : Looks (model prog w) s.heap (isInstance (.ref D) (.type "tuple")) false := (looks_typeIn KX hT).andThen (Looks.of_pure rfl)
  refine wpAny_bind (Looks.here L1 ?_)
  refine wpAny_ite_false rfl ?_
  refine wpAny_bind (wpAny_pure ?_)
  refine wpAny_bind ?_
  obtain ⟨cd, hc⟩ := hD
  obtain ⟨hp, g, dr, tk, os⟩ := s
  obtain ⟨oD, hoD, hdD⟩ : ∃ oD, K.lookup D = some oD ∧ oD.data = .cls cd := by
    unfold clsIn at hc
    split at hc
    · rename_i h
      exact ⟨_, h, by cases hc; rfl⟩
    · cases hc
  rw [List.forIn_cons]
  refine wpAny_bind (wpAny_bind ?_)
  unfold isExcClass
  refine wpAny_bind (ks_wpAny_isType_cls (KX _ _ hoD) hdD ?_)
  refine wpAny_ite_true rfl ?_
  refine Looks.here (s := ⟨hp, g, dr, tk, os⟩) (looks_mroIn KX hB) ?_
  refine wpAny_ite_false rfl (wpAny_pure ?_)
  show wpAny _ _ (forIn ([] : List Value) PUnit.unit _) _ _ _
  rw [List.forIn_nil]
  refine wpAny_pure ?_
  refine wpAny_bind (Looks.here (s := ⟨hp, g, dr, tk, os⟩) I.type ?_)
  refine wpAny_bind ?_
  rw [List.forIn_cons]
  refine wpAny_bind (wpAny_bind (Looks.here (s := ⟨hp, g, dr, tk, os⟩) (looks_mroIn KX hC) ?_))
  cases b with
  | true =>
    refine wpAny_ite_true rfl (wpAny_pure ?_)
    exact wpAny_pure (wpAny_pure q)
  | false =>
    refine wpAny_ite_false rfl (wpAny_pure ?_)
    show wpAny _ _ (forIn ([] : List Value) _ _) _ _ _
    rw [List.forIn_nil]
    exact wpAny_pure (wpAny_pure q)
end
end My

/-! Rz5 -/
set_option Elab.async false
set_option linter.all false
set_option maxRecDepth 100000
set_option maxHeartbeats 1000000
namespace My
open PySem PySem.W L2
open PyProof.Rows (AllBare)
def PXS (X : Cx) (σ : St) (st : Stmt) (t : TS) : Prop := ∀ (pins : List (Addr × Obj)) (s : Shared) (H : Hp) (D : Ends), Inv X pins σ H s → t D σ H → wpAny (model X.prog X.w) X.A (exec st X.env) (SP X pins D) X.xe s
section
variable {X : Cx} {σ : St} {e : Expr} {te : TE} {pos : Pos}
theorem pxs_set {i : Nat} {x : Str} {pos' : Pos} (hN : X.N.Nodup) (hi : X.N[i]? = some x) (hx : Loc X.env.scope x) (he : PX X σ e te) (hs : swapsWith e (some (.Name x pos')) pos.line X.env = pure false := by rfl) (hf : X.fn x = true ∨ X.env.scope.names.lookup x = some .local := by first | exact .inl rfl | exact .inr rfl | assumption) :
    PXS X σ (.Assign [.Name x pos'] e pos) (tAsg te (gName i)) := by
  intro pins s H D I h
  refine wpAny_Assign_Name (thn (he pins s H _ I h) fun v s1 ⟨y, H1, I1, r1, q1⟩ => ?_) hs
  exact store_ok I1 hN hi hx r1 (fun s2 I2 => ⟨_, H1, I2, q1⟩) hf
theorem pxs_ret (he : PX X σ e te) : PXS X σ (.Return (some e) pos) (tRet te) := by
  intro pins s H D I h
  exact wpAny_Return_some (thn (he pins s H _ I h) fun v s1 ⟨x, H1, I1, r1, q1⟩ => ⟨x, σ, H1, I1, r1, q1⟩)
end
/-- within a try -/
abbrev tryCx (X : Cx) (pn : List (Addr × Obj)) (xe : Value → Shared → Prop) : Cx := { X with pn := pn, xe := xe }
/-- within an except suite -/
abbrev exCx (X : Cx) (x : Addr) : Cx := { X with A := X.A.mark (some (.ref x)), calm := false, xe := fun _ _ => False }
section
variable {X : Cx} {pins pins' pn : List (Addr × Obj)} {σ : St} {H : Hp} {s : Shared} {xe : Value → Shared → Prop} {x : Addr}
theorem Ok.toTry (ok : X.Ok) : (tryCx X pn xe).Ok := ⟨ok.mod, ok.kind, ok.glob, ok.blt, ok.above, ok.inj, ok.has, ok.cab, ok.hd, ok.frames, ok.stk, ok.exf, ok.bs, ok.bsz, ok.noex, ok.exfs, ok.funs, ok.frf⟩
theorem Ok.ofTry (ok : (tryCx X pn xe).Ok) : X.Ok := ⟨ok.mod, ok.kind, ok.glob, ok.blt, ok.above, ok.inj, ok.has, ok.cab, ok.hd, ok.frames, ok.stk, ok.exf, ok.bs, ok.bsz, ok.noex, ok.exfs, ok.funs, ok.frf⟩
theorem Inv.toTry (I : Inv X pins σ H s) : Inv (tryCx X (X.pn ++ pins) xe) [] σ H s :=
  ⟨Ok.toTry I.ok, I.os, I.bare, I.base, I.loc, I.cell, I.free, I.freeC, fun p hp => I.pin p (by rw [List.append_nil] at hp; exact hp), I.hok, I.len⟩
theorem Inv.ofTry (I : Inv (tryCx X (X.pn ++ pins) xe) pins' σ H s) : Inv X pins σ H s :=
  ⟨Ok.ofTry I.ok, I.os, I.bare, I.base, I.loc, I.cell, I.free, I.freeC, fun p hp => I.pin p (List.mem_append_left _ hp), I.hok, I.len⟩
theorem Inv.toEx (I : Inv X pins σ H s) : Inv (exCx X x) pins σ H s :=
  ⟨⟨I.ok.mod, I.ok.kind, I.ok.glob, I.ok.blt, I.ok.above, I.ok.inj, I.ok.has, I.ok.cab, fun z => Bool.noConfusion z, I.ok.frames, I.ok.stk, I.ok.exf, I.ok.bs, I.ok.bsz, I.ok.noex, I.ok.exfs, I.ok.funs, I.ok.frf⟩, I.os, I.bare, I.base, I.loc, I.cell, I.free, I.freeC, I.pin, I.hok, I.len⟩
theorem Inv.ofEx (ok : X.Ok) (I : Inv (exCx X x) pins σ H s) : Inv X pins σ H s := ⟨ok, I.os, I.bare, I.base, I.loc, I.cell, I.free, I.freeC, I.pin, I.hok, I.len⟩
theorem SP.ofEx {D : Ends} {f : Flow} (ok : X.Ok) (h : SP (exCx X x) pins D f s) : SP X pins D f s := by
  cases f with
  | next => obtain ⟨σ', H', I, q⟩ := h; exact ⟨σ', H', Inv.ofEx ok I, q⟩
  | brk => obtain ⟨σ', H', I, q⟩ := h; exact ⟨σ', H', Inv.ofEx ok I, q⟩
  | cont => obtain ⟨σ', H', I, q⟩ := h; exact ⟨σ', H', Inv.ofEx ok I, q⟩
  | ret u => obtain ⟨v, σ', H', I, r, q⟩ := h; exact ⟨v, σ', H', Inv.ofEx ok I, r, q⟩
theorem SP.ofTry {D : Ends} {f : Flow} (h : SP (tryCx X (X.pn ++ pins) xe) pins' D f s) : SP X pins D f s := by
  cases f with
  | next => obtain ⟨σ', H', I, q⟩ := h; exact ⟨σ', H', Inv.ofTry I, q⟩
  | brk => obtain ⟨σ', H', I, q⟩ := h; exact ⟨σ', H', Inv.ofTry I, q⟩
  | cont => obtain ⟨σ', H', I, q⟩ := h; exact ⟨σ', H', Inv.ofTry I, q⟩
  | ret u => obtain ⟨v, σ', H', I, r, q⟩ := h; exact ⟨v, σ', H', Inv.ofTry I, r, q⟩
/-- a name goes -/
theorem unbind_ok {M : Model} {A : Around} {E : Value → Shared → Prop} {i : Nat} {n : Str} {v : V} {Q : Unit → Shared → Prop} (I : Inv X pins σ H s) (hN : X.N.Nodup) (hi : X.N[i]? = some n) (hk : X.env.scope.names.lookup n = some .local) (hv : σ[i]? = some (some v))
    (h : ∀ s', Inv X pins (σ.set i none) H s' → Q () s') : wpAny M A (unbindName X.env n) Q E s := by
  obtain ⟨m, hn, hl⟩ := id I.loc
  have hcls : (X.env.scope.kind == .class || (X.env.scope.kind == .module && X.env.locals != X.env.globals)) = false := by rw [I.ok.kind]; rfl
  have hiσ : i < σ.length := by rw [I.len]; exact (List.getElem?_eq_some_iff.mp hi).1
  obtain ⟨u, _, lk⟩ := hl i n v hi hv (.inl hk)
  have mu : m n = some u := by
    rcases lk with ⟨_, z⟩ | ⟨z, _⟩
    · exact z
    · have k' : X.env.kindOf n = some .local := hk
      rcases z with z | z <;> (rw [k'] at z; cases z)
  have cne := I.cne
  refine wpAny_unbindName_local hk hn mu hcls fun h' u' hn' hs => ?_
  obtain ⟨oL, _, _, hoL, _⟩ := id hn
  have tracked : HOk X.prog X.w H h' := fun b ob e => by
    refine (I.hok b ob e).stay (fun c w' hc q => (hs.2 c ?_).trans q) (fun _ q => q) fun _ _ q => q
    rintro rfl
    rcases hc with rfl | hc
    · rw [I.free] at e; cases e
    · rw [I.free] at hc; cases hc
  refine h _ ⟨I.ok, I.os, I.bare, ⟨fun b o e n hb hx => ?_, fun b o e n hb hx => ?_, I.base.free, fun b o e hx => ?_, I.base.tups, I.base.frzs, I.base.tbls, I.base.sys⟩, ⟨_, hn', fun j y v' e1 e2 e3 => ?_⟩, fun y c e => ?_, I.free, I.freeC, fun p hp => ?_, tracked, by simpa using I.len⟩
  · exact (hs.2 b (Nat.ne_of_lt (Nat.lt_of_lt_of_le (Heap.lt_size e) I.ok.above))).trans (I.base.keep b o e n hb hx)
  · obtain ⟨sl, e1⟩ := I.base.slot b o e n hb hx
    exact ⟨sl, (hs.2 b (Nat.ne_of_lt (Nat.lt_of_lt_of_le (Heap.lt_size e) I.ok.above))).trans e1⟩
  · obtain ⟨o', e1⟩ := I.base.there b o e hx
    exact ⟨o', (hs.2 b (Nat.ne_of_lt (Nat.lt_of_lt_of_le (Heap.lt_size e) I.ok.above))).trans e1⟩
  · by_cases hj : j = i
    · subst hj
      rw [List.getElem?_set_self hiσ] at e2
      cases e2
    · rw [List.getElem?_set_ne (Ne.symm hj)] at e2
      obtain ⟨u2, r', q⟩ := hl j y v' e1 e2 e3
      refine ⟨u2, r', ?_⟩
      rcases q with ⟨k, e⟩ | ⟨k, c, e, z⟩
      · refine .inl ⟨k, ?_⟩
        have : y ≠ n := fun e => hj (nodup_ix hN e1 (e ▸ hi))
        simp [this, e]
      · exact .inr ⟨k, c, e, z.sameBut hs (cne y c e)⟩
  · obtain ⟨w', z⟩ := I.cell y c e
    exact ⟨w', z.sameBut hs (cne y c e)⟩
  · obtain ⟨e, n, ne, nf, d⟩ := I.pin p hp
    exact ⟨(hs.2 p.1 ne).trans e, n, ne, nf, d⟩
end
/-- what catches: an own class -/
structure Catch (K : Frag) (D : Addr) : Prop where
  cls : ∃ cd, clsIn K D = some cd
  ty : typeIn K (.ref D) = some (.type "type")
  mb : mroIn K D (.type "BaseException") = some true
/-- the name of the error goes behind the suite -/
def unEnds (D : Ends) (i : Nat) : Ends := ⟨fun σ H => D.nx (σ.set i none) H, D.rt, fun σ H => D.bk (σ.set i none) H, fun σ H => D.ct (σ.set i none) H⟩
def eTry (K : Frag) (B : Addr) (i : Nat) (th : TS) (D : Ends) (σ : St) : XK := fun c o H' => ∃ x C, c = .ref C ∧ o = some x ∧ mroIn K C (.ref B) = some true ∧ th (unEnds D i) (σ.set i (some (.ref x))) H'
def tTry (K : Frag) (B : Addr) (i : Nat) (tb : XK → TS) (th : TS) : TS := fun D σ H => tb (eTry K B i th D σ) D σ H
end My

/-! Rz6 -/
set_option Elab.async false
set_option linter.all false
set_option maxRecDepth 100000
set_option maxHeartbeats 1000000
namespace My
open PySem PySem.W L2
open PyProof.Rows (AllBare)
section
variable {X : Cx} {pins : List (Addr × Obj)} {σ : St} {H : Hp} {s : Shared}
/-- behind the suite: the error's name is set to None, then goes -/
theorem name_goes {i : Nat} {n : Str} {pos : Pos} {E : Value → Shared → Prop} {D : Ends} {f : Flow} (ok : X.Ok) (hN : X.N.Nodup) (hi : X.N[i]? = some n) (hk : X.env.scope.names.lookup n = some .local) (h : SP X pins (unEnds D i) f s) :
    wpAny (model X.prog X.w) X.A (do
      bindName X.env n .none
      unbindBehindTheSuite X.env n pos) (fun _ s' => SP X pins D f s') E s := by
  have go : ∀ {σ' : St} {H' : Hp}, Inv X pins σ' H' s → (∀ s', Inv X pins (σ'.set i none) H' s' → SP X pins D f s') → wpAny (model X.prog X.w) X.A (do
      bindName X.env n .none
      unbindBehindTheSuite X.env n pos) (fun _ s' => SP X pins D f s') E s := fun {σ' H'} I q => by
    have hiσ : i < σ'.length := by rw [I.len]; exact (List.getElem?_eq_some_iff.mp hi).1
    refine wpAny_bind (wpAny_bindName (store_ok I hN hi (.inl hk) (v := V.non) (u := Value.none) rfl (fun s1 I1 => ?_) (.inr hk)))
    unfold unbindBehindTheSuite
    refine wpAny_onRaise (unbind_ok (v := V.non) I1 hN hi hk (List.getElem?_set_self hiσ) fun s2 I2 => ?_)
    rw [List.set_set] at I2
    exact q s2 I2
  cases f with
  | next => obtain ⟨σ', H', I, q⟩ := h; exact go I fun s' I' => ⟨_, H', I', q⟩
  | brk => obtain ⟨σ', H', I, q⟩ := h; exact go I fun s' I' => ⟨_, H', I', q⟩
  | cont => obtain ⟨σ', H', I, q⟩ := h; exact go I fun s' I' => ⟨_, H', I', q⟩
  | ret u => obtain ⟨v, σ', H', I, r, q⟩ := h; exact go I fun s' I' => ⟨v, _, H', I', r, q⟩
end
section
variable {X : Cx} {pins : List (Addr × Obj)} {σ : St} {H : Hp} {s : Shared}
theorem errT_inst {P : Program} {w : World} {H : Hp} {h : Heap} {a C dx : Addr} {fs : List (Str × V)} (ok : HOk P w H h) (ea : H a = some (ErrT a C (some dx))) (ed : H dx = some (.xd fs)) :
    ∃ (ox od : Obj), InstAt h a ox C (some od) ∧ ∃ mA : Str → Option Value, (∀ f, RelO (fs.lookup f) (mA f)) ∧ ∀ name, lookIn name od = some (mA name) := by
  obtain ⟨t, v, hx⟩ := errT_at ok ea
  obtain ⟨mA, hn, hr⟩ := (show ObjOk P w H h dx (.xd fs) from ok dx _ ed)
  obtain ⟨od, hod, hl⟩ := lookIn_ns hn
  exact ⟨_, od, ⟨hx, rfl, rfl, hod⟩, mA, hr, hl⟩
/-- e.f of an error that was caught -/
def tErrFT (K : Frag) (ta : TE) (f : Str) : TE := fun σ H Q => ta σ H fun x H1 => ∃ a C dx fs v, x = .ref a ∧ H1 a = some (ErrT a C (some dx)) ∧ H1 dx = some (.xd fs) ∧ fs.lookup f = some v ∧ ErrI K C ∧ hasDictIn K C = true ∧ findIn K (.ref C) f = some none ∧ Q v H1
theorem pe_errFT {e : Expr} {ta : TE} {f : Str} {pos : Pos} (he : PE X e ta) (hb : attributeBase e f X.env (eval e X.env) = eval e X.env) : PE X (.Attribute e f pos) (tErrFT X.K ta f) := by
  intro pins s σ H Q I h
  refine attr_of hb (thn (he pins s σ H _ I h) fun u s1 ⟨x, H1, I1, rx, a, C, dx, fs, v, ex, ea, ed, l, T, hd, nf, q⟩ => ?_)
  subst ex
  obtain rfl : u = Value.ref a := rx
  obtain ⟨ox, od, J, mA, hr, hl⟩ := errT_inst I1.hok ea ed
  obtain ⟨u, eu, ru⟩ := RelO.some_of (l ▸ hr f)
  exact getExc I1.kIn J T.ga T.hk T.mb (findObj_own hd nf rfl (by rw [hl, eu])) (handed_of ru) ⟨v, H1, I1.tok _, ru, q⟩
/-- isinstance of an error that was caught; of one class, of a tuple of classes -/
def rIsT1 (K : Frag) : List V → Hp → VK → Prop := fun vs H Q => ∃ a C dx fs c b, vs = [.ref a, c] ∧ H a = some (ErrT a C (some dx)) ∧ H dx = some (.xd fs) ∧ ErrI K C ∧ ((∃ z, c = .ref z) ∨ ∃ n, c = .ty n) ∧ kitOne K (.ref C) (isV c) = some b ∧ Q (.bl b) H
theorem call_isT1 (N : IsT X.K) : CallR X (.builtin "isinstance") (rIsT1 X.K) := by
  intro pins s σ H xs us Q I r h
  obtain ⟨a, C, dx, fs, c, b, rfl, ea, ed, T, hc, e, q⟩ := h
  obtain ⟨u, u', rfl, ru, ru'⟩ := vals2 r
  cases (show u = Value.ref a from ru)
  have ec : u' = isV c := by
    rcases hc with ⟨z, rfl⟩ | ⟨n, rfl⟩
    · exact ru'
    · exact ru'
  subst ec
  obtain ⟨ox, od, J, _⟩ := errT_inst I.hok ea ed
  exact kia_one (kitErr T N.gt N.tk) I.kIn ⟨ox, some od, J⟩ e (fun z => nomatch z) fun tk => ⟨.bl b, H, I.tok _, rfl, q⟩
def rIsTn (K : Frag) : List V → Hp → VK → Prop := fun vs H Q => ∃ (a C dx : Addr) (fs : List (Str × V)) (p : Addr) (cs : List Addr) (b : Bool), vs = [.ref a, .ref p] ∧ H a = some (ErrT a C (some dx)) ∧ H dx = some (.xd fs) ∧ ErrI K C ∧ H p = some (.tup (cs.map V.ref)) ∧ kitAny K (.ref C) (cs.map Value.ref) = some b ∧ Q (.bl b) H
theorem vals_refs : ∀ {cs : List Addr} {us : List Value}, Vals (cs.map V.ref) us → us = cs.map Value.ref
  | [], _, .nil => rfl
  | c :: cs, _, .cons r t => by
    rw [vals_refs t]
    cases (show _ = Value.ref c from r)
    rfl
theorem call_isTn (N : IsT X.K) : CallR X (.builtin "isinstance") (rIsTn X.K) := by
  intro pins s σ H xs us Q I r h
  obtain ⟨a, C, dx, fs, p, cs, b, rfl, ea, ed, T, hp, e, q⟩ := h
  obtain ⟨u, u', rfl, ru, ru'⟩ := vals2 r
  cases (show u = Value.ref a from ru)
  cases (show u' = Value.ref p from ru')
  obtain ⟨ox, od, J, _⟩ := errT_inst I.hok ea ed
  obtain ⟨_, its, rv, ⟨o, h1, h2, n, h3⟩⟩ := (show ObjOk X.prog X.w H s.heap p (.tup (cs.map V.ref)) from I.hok p _ hp)
  have ei := vals_refs rv
  subst ei
  obtain ⟨c0, d0, dt0, sl0⟩ := o
  have hc0 : c0 = .type "tuple" := h2
  have hd0 : dt0 = .seq (cs.map Value.ref).toArray n := h3
  subst hc0
  subst hd0
  exact kia_tup (kitErr T N.gt N.tk) I.kIn ⟨ox, some od, J⟩ h1 e (fun z => nomatch z) fun tk => ⟨.bl b, H, I.tok _, rfl, q⟩
end
/-- try: one statement; except B as n: a suite without calls of own defs -/
theorem ps_try {X : Cx} {st : Stmt} {tb : XK → TS} {th : TS} {B : Addr} {n cn : Str} {i : Nat} {b₀ : Stmt} {suite : List Stmt} {pc ph pos : Pos} (hS : X.stack = X.env :: X.outer) (hL : X.env.frame = some X.env.locals) (hc : X.calm = true) (hN : X.N.Nodup) (hi : X.N[i]? = some n)
    (hk : X.env.scope.names.lookup n = some .local) (cB : Catch X.K B) (hg : Gl X cn) (hm : X.mg cn = some (.ref B)) (hb : ∀ (σ : St) (E : XK) (pn : List (Addr × Obj)) (xe : Value → Shared → Prop), PassX (CXE X.prog X.w) (tryCx X pn xe) σ E → PXS (tryCx X pn xe) σ st (tb E)) (hh : ∀ x, PSs (exCx X x) (b₀ :: suite) th)
    (hdb : (cn == ("__debug__" : Str)) = false := by decide) :
    PS X (.Try [st] [.ExceptHandler (some (.Name cn pc)) (some n) (b₀ :: suite) ph] [] [] pos) (tTry X.K B i tb th) := by
  intro pins s σ H D I h
  refine wpAny_Try_except ?_
  have px := hb σ (eTry X.K B i th D σ) (X.pn ++ pins) (fun e s₁ => wpAny (model X.prog X.w) X.A (noteFrame e X.env) (fun _ s₂ => wpAny (model X.prog X.w) X.A (setFlight e none) (fun _ s₃ => wpAny (model X.prog X.w) X.A (handleBy e X.env [.ExceptHandler (some (.Name cn pc)) (some n) (b₀ :: suite) ph]) (SP X pins D) X.xe s₃) X.xe s₂) X.xe s₁) ?_
  · refine wpAny_execs_cons (thn (px [] s H D (Inv.toTry I) h) fun f s1 q => ?_)
    cases f with
    | next => exact wpAny_execs_nil (wpAny_execs_nil (SP.ofTry (f := .next) q))
    | ret v => exact SP.ofTry (f := .ret v) q
    | brk => exact SP.ofTry (f := .brk) q
    | cont => exact SP.ofTry (f := .cont) q
  intro pins' H1 s1 ev s' I1 h1
  obtain ⟨x, C, dx, fs, H', rfl, os, bare, un, hok, hx, hdx, ⟨t, T, oT, ts, e1, e2, _, e4, e5, e6, e7⟩, x', C', ec, eo, hm', q⟩ := h1
  cases ec
  cases eo
  have J : Inv X pins σ H' s' := Inv.ofTry (I1.call' os un hok bare (fun b z => absurd z (by simp)))
  have hA : X.A.frames = some (X.env :: X.outer) := by rw [← hS]; exact J.ok.frames
  have hF : s'.heap.FunFrames X.base (X.env :: X.outer) := by rw [← hS]; exact J.stack
  refine note_exact hA hF hL e1 rfl (.inr ⟨T, oT, ts, rfl, e2, e5, e6, e7⟩) fun h' T' l => ?_
  refine l.flight rfl (by show 1 < 6; decide) _ rfl fun h2 l2 => ?_
  have J2 := Inv.left J hS hx ⟨_, rfl⟩ e1 l2
  rw [upd_id hx] at J2
  have ex2 : h2.get? x = some (errW C (some dx) t (.ref T')) := l2.exc
  obtain ⟨oT', ts', f1, f2, f3, f4⟩ := l2.trc
  generalize hs2 : ({ s' with heap := h2 } : Shared) = s2 at J2
  have g2 : s2.heap = h2 := by rw [← hs2]
  rw [← g2] at ex2 f1
  refine wpAny_handleBy_cons ?_ (by intro z; cases z)
  refine codeAny_handlers_test ?_
  refine ld_glob (X := exCx X x) (Inv.toEx J2) hg hm ?_ hdb
  obtain ⟨ox, odd, JI⟩ : ∃ ox od, InstAt s2.heap x ox C od := by
    obtain ⟨ox, od, J, _⟩ := errT_inst J2.hok hx hdx
    exact ⟨ox, some od, J⟩
  refine wp_matches J2.kIn cB.cls cB.ty cB.mb JI hm' ?_
  show codeAny _ _ _ _ _
  refine codeAny_handlers_suite_as ?_
  have h3 : 3 < ts'.size := (Array.getElem?_eq_some_iff.mp f3).1
  refine wpAny_setFlight_none ex2 rfl rfl f1 f2 h3 ?_
  have J3 : Inv X pins σ H' { s2 with heap := s2.heap.update T' (Obj.mapFields fun x => x.setIfInBounds 3 Value.none) } := by
    refine J2.kept (t' := s2.toks) fun b u hb => ?_
    by_cases z : b = T'
    · subst z
      have e : oT' = u := Option.some.inj (f1.symm.trans hb)
      subst e
      rw [Heap.get?_update_self _ f1 (by rw [mapF f2]; rfl), mapF f2, set_same f3, ← f2]
    · rw [Heap.get?_update_ne _ _ _ _ z]; exact hb
  generalize ({ s2 with heap := s2.heap.update T' (Obj.mapFields fun x => x.setIfInBounds 3 Value.none) } : Shared) = s3 at J3
  refine store_ok (X := exCx X x) (Inv.toEx J3) hN hi (.inl hk) (v := V.ref x) (u := Value.ref x) rfl (fun s4 I4 => ?_) (.inr hk)
  refine wpAny_mono (hh x pins s4 _ H' (unEnds D i) I4 q) (fun f s5 q5 => ?_) (fun _ _ z => False.elim z)
  exact name_goes J3.ok hN hi hk (SP.ofEx J3.ok q5)
end My

/-! Rz7 -/
set_option Elab.async false
set_option linter.all false
set_option maxRecDepth 100000
set_option maxHeartbeats 400000
namespace My
open PySem PySem.W L2
open PyProof.Rows (AllBare)
/-! loops out of which an error goes: the wish told by Inv -/
def HeadL (X : Cx) (h : Heap) (H : Hp) (x : Addr) (v : Value) : Prop := v = .none ∨ ∃ T oT ts, v = .ref T ∧ T ≠ x ∧ h.get? T = some oT ∧ oT.data = .fields ts ∧ (ts[3]? = some Value.none ∨ (ts[3]? = some (rawInt ↑X.env.locals) ∧ X.s₀.heap.objs.size ≤ T ∧ H T = none))
def XI (X : Cx) (E : XK) : Value → Shared → Prop := fun e s => ∃ σ H x C dx fs t v, e = .ref x ∧ Inv X [] σ H s ∧ (∃ φ, H x = some (.ext φ)) ∧ H dx = some (.xd fs) ∧ s.heap.get? x = some (errW C (some dx) t v) ∧ HeadL X s.heap H x v ∧ E (.ref C) (some x) (upd H x (ErrT x C (some dx)))
section
variable {X : Cx} {pins : List (Addr × Obj)} {σ : St} {H : Hp} {s : Shared} {E : XK}
theorem Inv.nopins (I : Inv X pins σ H s) : Inv X [] σ H s := ⟨I.ok, I.os, I.bare, I.base, I.loc, I.cell, I.free, I.freeC, fun p hp => I.pin p (by rw [List.append_nil] at hp; exact List.mem_append_left _ hp), I.hok, I.len⟩
/-- the last entry of a traceback at rest is set to rest: nothing changes -/
theorem same_flight {h : Heap} {T : Addr} {oT : Obj} {ts : Array Value} {r : Value} (hT : h.get? T = some oT) (hd : oT.data = .fields ts) (h3 : ts[3]? = some r) : ∀ b u, h.get? b = some u → (h.update T (Obj.mapFields fun x => x.setIfInBounds 3 r)).get? b = some u := fun b u hb => by
  by_cases z : b = T
  · subst z
    have e : oT = u := Option.some.inj (hT.symm.trans hb)
    subst e
    rw [Heap.get?_update_self _ hT (by rw [mapF hd]; rfl), mapF hd, set_same h3, ← hd]
  · rw [Heap.get?_update_ne _ _ _ _ z]; exact hb
theorem wp_setFlight {M : Model} {A : Around} {Ex : Value → Shared → Prop} {e tb L : Addr} {oe otb : Obj} {vs tvs : Array Value} {Q : Unit → Shared → Prop} (he : s.heap.get? e = some oe) (hd : oe.data = .fields vs) (hv : vs[1]? = some (.ref tb)) (ht : s.heap.get? tb = some otb) (htd : otb.data = .fields tvs) (h3 : 3 < tvs.size)
    (q : Q () { s with heap := s.heap.update tb (Obj.mapFields fun x => x.setIfInBounds 3 (rawInt ↑L)) }) : wpAny M A (setFlight (.ref e) (some L)) Q Ex s := by
  unfold setFlight
  refine wpAny_bind (wpAny_field he hd hv ?_)
  refine wpAny_ite_true rfl ?_
  exact wpAny_setField ht htd h3 q
/-- the wish passes a loop's own frame -/
theorem passOwn (hS : X.stack = X.env :: X.outer) (hL : X.env.frame = some X.env.locals) (hp : X.pn = []) : PassesOwn (model X.prog X.w) X.A X.env (XI X E) := by
  intro e s h
  obtain ⟨σ, H, x, C, dx, fs, t, v, rfl, I, ⟨φ, hx⟩, hdx, he, hv, q⟩ := h
  have nd : dx ≠ x := fun z => by rw [z, hx] at hdx; cases hdx
  have hA : X.A.frames = some (X.env :: X.outer) := by rw [← hS]; exact I.ok.frames
  have hF : s.heap.FunFrames X.base (X.env :: X.outer) := by rw [← hS]; exact I.stack
  -- behind the note: in flight at this frame
  have back : ∀ (s' : Shared) (H' : Hp) (T : Addr) (oT : Obj) (ts : Array Value) (v' : Value), Inv X [] σ H' s' → (∃ φ, H' x = some (.ext φ)) → H' dx = some (.xd fs) → v' = .ref T → s'.heap.get? x = some (errW C (some dx) t v') → T ≠ x → s'.heap.get? T = some oT → oT.data = .fields ts → ts[3]? = some (rawInt ↑X.env.locals) → X.s₀.heap.objs.size ≤ T → H' T = none → E (.ref C) (some x) (upd H' x (ErrT x C (some dx))) →
      cameBackBy (model X.prog X.w) X.A X.env (XI X E) (.ref x) s' := by
    intro s' H' T oT ts v' I' hx' hdx' ev hxe nT hT hTd h3 yT fT q'
    subst ev
    unfold cameBackBy
    refine wpAny_bind (wpAny_field hxe rfl rfl ?_)
    refine wpAny_ite_false rfl ?_
    rw [hL]
    refine wp_setFlight hxe rfl rfl hT hTd (Array.getElem?_eq_some_iff.mp h3).1 ?_
    have k := same_flight hT hTd h3
    exact ⟨σ, H', x, C, dx, fs, t, _, rfl, I'.kept (t' := s'.toks) k, hx', hdx', k _ _ hxe, .inr ⟨T, oT, ts, rfl, nT, k _ _ hT, hTd, .inr ⟨h3, yT, fT⟩⟩, q'⟩
  have fresh : ∀ (T : Addr) (h' : Heap), LeftX (frs (X.env :: X.outer)) x T (errW C (some dx) t v) s.heap h' (rawInt ↑X.env.locals) → cameBackBy (model X.prog X.w) X.A X.env (XI X E) (.ref x) { s with heap := h' } := by
    intro T h' l
    have J := Inv.left I hS hx ⟨_, rfl⟩ he l
    obtain ⟨oT, ts, f1, f2, f3, f4⟩ := l.trc
    refine back _ _ T oT ts _ J ⟨_, upd_same⟩ (by rw [upd_ne nd]; exact hdx) rfl l.exc f4 f1 f2 f3 (Nat.le_trans I.sz l.new) ?_ ?_
    · rw [upd_ne f4]; exact I.hok.fresh l.new
    · rw [upd_upd]; exact q
  unfold notedBy
  rcases hv with rfl | ⟨T, oT, ts, rfl, nT, hT, hTd, h3 | ⟨h3, yT, fT⟩⟩
  · exact note_exact hA hF hL he rfl (.inl rfl) fun h' T l => fresh T h' l
  · exact note_exact hA hF hL he rfl (.inr ⟨T, oT, ts, rfl, nT, hT, hTd, h3⟩) fun h' T' l => fresh T' h' l
  · exact wpAny_noteFrame_inFlight hL he rfl rfl hT hTd h3 (back s H T oT ts _ I ⟨φ, hx⟩ hdx rfl he nT hT hTd h3 yT fT q)
end
section
variable {P : Program} {w : World} {K : Frag} {mg : Str → Option Value} {base : Heap} {N : List Str} {qual : Str} {scope : Scope} {f : Addr} {cd : Value} {A : Around} {outer : List Env} {s0 : Shared} {H0 : Hp} {E : XK} {pins : List (Addr × Obj)} {σ : St} {H : Hp} {s : Shared}
/-- the wish, told by Inv, meets the def's own end -/
theorem xi_xe (e : Value) (s : Shared) (h : XI (cxE P w K mg base N qual scope f cd A outer s0 H0 E) E e s) : (cxE P w K mg base N qual scope f cd A outer s0 H0 E).xe e s := by
  obtain ⟨σ, H, x, C, dx, fs, t, v, rfl, I, ⟨φ, hx⟩, hdx, he, hv, q⟩ := h
  rcases hv with rfl | ⟨T, oT, ts, rfl, nT, hT, hTd, h3 | ⟨h3, yT, fT⟩⟩
  · exact xe_of I hx ⟨_, rfl⟩ hdx he (.inl rfl) q
  · exact xe_of I hx ⟨_, rfl⟩ hdx he (.inr ⟨T, oT, ts, rfl, nT, hT, hTd, h3⟩) q
  · have nd : dx ≠ x := fun z => by rw [z, hx] at hdx; cases hdx
    show wpAny _ _ (leaving _ (.ref x)) _ _ s
    unfold leaving
    refine wpAny_bind (wpAny_noteFrame_inFlight rfl he rfl rfl hT hTd h3 ?_)
    have h3' : 3 < ts.size := (Array.getElem?_eq_some_iff.mp h3).1
    refine wpAny_setFlight_none he rfl rfl hT hTd h3' ?_
    -- only the traceback has changed
    have k : ∀ b u, b ≠ T → s.heap.get? b = some u → (s.heap.update T (Obj.mapFields fun x => x.setIfInBounds 3 Value.none)).get? b = some u := fun b u n e => by rw [Heap.get?_update_ne _ _ _ _ n]; exact e
    have gT : (s.heap.update T (Obj.mapFields fun x => x.setIfInBounds 3 Value.none)).get? T = some { oT with data := .fields (ts.setIfInBounds 3 Value.none) } := by
      rw [Heap.get?_update_self _ hT (by rw [mapF hTd]; rfl), mapF hTd]
    have nL : T ≠ (cxE P w K mg base N qual scope f cd A outer s0 H0 E).env.locals := fun z => by
      obtain ⟨m, ⟨o, es, ep, ho, hd, _⟩, _⟩ := I.loc
      rw [← z, hT] at ho
      cases ho
      rw [hTd] at hd; cases hd
    have nC : ∀ y c, (cxE P w K mg base N qual scope f cd A outer s0 H0 E).env.cells.lookup y = some c → c ≠ T := fun y c hc z => by
      obtain ⟨u, o, ho, hd⟩ := I.cell y c hc
      rw [z, hT] at ho
      cases ho
      rw [hTd] at hd; cases hd
    have J : Inv (cxE P w K mg base N qual scope f cd A outer s0 H0 E) [] σ H { s with heap := s.heap.update T (Obj.mapFields fun x => x.setIfInBounds 3 Value.none) } :=
      I.turned (t' := s.toks) k fT nL (.inr yT) nC (fun p hp => absurd (show p ∈ ([] : List (Addr × Obj)) from hp) (by simp))
    -- the error as one with whatever traceback
    have hx2 := k x _ nT.symm he
    have J2 : Inv (cxE P w K mg base N qual scope f cd A outer s0 H0 E) [] σ (upd H x (ErrT x C (some dx))) { s with heap := s.heap.update T (Obj.mapFields fun x => x.setIfInBounds 3 Value.none) } :=
      J.write (h' := s.heap.update T (Obj.mapFields fun x => x.setIfInBounds 3 Value.none)) (t' := s.toks) (x := x) (e := x) (by rw [hx]; exact True.intro) (.inl rfl) (fun b o _ e => e) ⟨_, hx2⟩ (errT_ok hx2)
    refine ⟨x, C, dx, fs, _, rfl, J2.os, J2.bare, J2.base, J2.hok, upd_same, by rw [upd_ne nd]; exact hdx, ⟨t, T, _, _, hx2, nT, yT, by rw [upd_ne nT]; exact fT, gT, rfl, ?_⟩, q⟩
    simp [h3']
/-- the context of a body with loops out of which errors go -/
abbrev cxI (P : Program) (w : World) (K : Frag) (mg : Str → Option Value) (base : Heap) (N : List Str) (qual : Str) (scope : Scope) (f : Addr) (cd : Value) (A : Around) (outer : List Env) (s0 : Shared) (H0 : Hp) (E : XK) : Cx := (cxE P w K mg base N qual scope f cd A outer s0 H0 E).wish (XI (cxE P w K mg base N qual scope f cd A outer s0 H0 E) E)
theorem PSs.ofI {st : List Stmt} {t : TS} (h : PSs (cxI P w K mg base N qual scope f cd A outer s0 H0 E) st t) : PSs (cxE P w K mg base N qual scope f cd A outer s0 H0 E) st t := fun pins s σ H D I hw =>
  wpAny_mono (h pins s σ H D (I.wish _) hw) (fun _ _ q => q.unwish) fun e s z => xi_xe e s z
/-- for loops -/
theorem ownI : PassesOwn (model P w) (cxI P w K mg base N qual scope f cd A outer s0 H0 E).A (cxI P w K mg base N qual scope f cd A outer s0 H0 E).env (cxI P w K mg base N qual scope f cd A outer s0 H0 E).xe := passOwn rfl rfl rfl
/-- a callee's error goes on -/
theorem passI : Passes (CXE P w) (cxI P w K mg base N qual scope f cd A outer s0 H0 E) E := by
  intro pins σ H s e s' I h
  obtain ⟨x, C, dx, fs, H', rfl, os, bare, un, hok, hx, hdx, ⟨t, T, oT, ts, h1, h2, _, h4, h5, h6, h7⟩, q⟩ := h
  have J := I.unwish.call' os un hok bare (fun b z => absurd z (by simp))
  refine ⟨σ, H', x, C, dx, fs, t, _, rfl, Inv.nopins J, ⟨_, hx⟩, hdx, h1, .inr ⟨T, oT, ts, rfl, h2, h5, h6, .inl h7⟩, ?_⟩
  rw [upd_id hx]
  exact q
theorem ps_raiseI {D C fI : Addr} {nm fld x : Str} {k : Nat} {fd : FuncData} {ps : List Str} {e : Expr} {te : TE} {p pos pos' : Pos} (B : BaseC K D) (T : ErrC K D nm C fI) (F : FnOk P w K mg base CX0 k fI fd ps (spErr C fld)) (hr : Room (k + 1) (cxI P w K mg base N qual scope f cd A outer s0 H0 E).A) (hb : Binds K fd ps [])
    (hg : Gl (cxI P w K mg base N qual scope f cd A outer s0 H0 E) x) (hm : mg x = some (.ref C)) (ha : PE (cxI P w K mg base N qual scope f cd A outer s0 H0 E) e te)
    (hdb : (x == ("__debug__" : Str)) = false := by decide) (he : starEach [e] (cxI P w K mg base N qual scope f cd A outer s0 H0 E).env = (false, eval e (cxI P w K mg base N qual scope f cd A outer s0 H0 E).env) :: starEach [] (cxI P w K mg base N qual scope f cd A outer s0 H0 E).env := by rfl) (hpl : (backTo pos (starEach [] (cxI P w K mg base N qual scope f cd A outer s0 H0 E).env)).any (·.1) = false := by rfl) :
    PS (cxI P w K mg base N qual scope f cd A outer s0 H0 E) (.Raise (some (.Call (.Name x p) [e] [] pos)) none pos') (tRaise E C fld te) := by
  intro pins s σ H D' I h
  have pe := pe_err (X := cxI P w K mg base N qual scope f cd A outer s0 H0 E) (p := p) (pos := pos) B T F hr hb hg hm ha hdb he hpl
  have hd : (cxI P w K mg base N qual scope f cd A outer s0 H0 E).A.handled = none := I.ok.hd rfl
  rw [arm_exec_Raise]
  refine wpAny_bind (wpAny_standAt ?_)
  refine wp_raise T.it T.type hd ?_
  refine wpAny_bind (thn (pe pins s σ H (qR E C) I h) fun u s1 h1 => ?_)
  obtain ⟨y, H1, I1, ry, x, dx, fs, rfl, e1, e2, q⟩ := h1
  refine wpAny_bind (wpAny_standAt (wpAny_pure ?_))
  obtain ⟨t, ht⟩ := errO_at I1.hok e1
  obtain ⟨ox, od, J, _⟩ := err_inst I1.hok e1 e2
  have eo : ox = errAt C (some dx) t := Option.some.inj (J.at_.symm.trans ht)
  subst eo
  exact ⟨x, t, some dx, some od, ry, J, I1.kIn, ⟨σ, H1, x, C, dx, fs, t, .none, rfl, Inv.nopins I1.unwish, ⟨_, e1⟩, e2, ht, .inl rfl, q⟩⟩
/-- THE RULE for a def out of which errors may come, out of its loops too -/
theorem okI {x qual : Str} {st : Stmt} {f : Addr} {fd : FuncData} {N ps : List Str} {k : Nat} {sp : Sp} (F : Fun K x qual st f fd) (S : FnScope N ps (defScope st)) (len : ∀ vs H Q E, sp vs H Q E → vs.length = ps.length)
    (hbody : ∀ (cdv : Value) (A : Around) (outer : List Env) (s : Shared) (H : Hp) (vs : List V) (Q : VK) (E : XK), Room k (A.deeper (PyProof.Rows.envOfC qual (defScope st) s.heap.objs.size f cdv)) → sp vs H Q E →
      ∃ t, PSs (cxI P w K mg base N qual (defScope st) f cdv A outer s H E) (defBody st) t ∧ t { nx := fun _ H' => Q .non H', rt := Q } (start N vs) H) : FnOk P w K mg base (CXE P w) (k + 1) f fd ps sp :=
  okE F S len fun cdv A outer s H vs Q E hr hsp => let ⟨t, h, q⟩ := hbody cdv A outer s H vs Q E hr hsp; ⟨t, PSs.ofI h, q⟩
end
end My

/-! R1 -/
set_option Elab.async false
set_option linter.all false
set_option maxRecDepth 100000
set_option maxHeartbeats 1000000
set_option exponentiation.threshold 10000
namespace My
open PySem PySem.W L2
theorem itT {A B : Prop} (h : A) : if true = true then A else B := by rw [if_pos rfl]; exact h
theorem itF {A B : Prop} (h : B) : if false = true then A else B := by rw [if_neg (by decide)]; exact h
def Ext (H H' : Hp) : Prop := ∀ b o, H b = some o → H' b = some o
theorem Ext.refl (H : Hp) : Ext H H := fun _ _ h => h
theorem Ext.trans {H H1 H2 : Hp} (a : Ext H H1) (b : Ext H1 H2) : Ext H H2 := fun x o h => b x o (a x o h)
theorem Ext.new {H : Hp} {p : Addr} {o : HO} (h : H p = none) : Ext H (upd H p o) := fun b u e => by rw [upd_ne (ne_of_none e h)]; exact e
theorem SqT.ext {K : Frag} {H H' : Hp} {p : Addr} {xs : List V} (h : SqT K H p xs) (e : Ext H H') : SqT K H' p xs := by
  rcases h with h | h
  · left
    rcases h with h | ⟨o, h⟩
    · exact .inl (e _ _ h)
    · exact .inr ⟨o, e _ _ h⟩
  · exact .inr h
theorem SqL.ext {K : Frag} {H H' : Hp} {s : Addr} {xs : List V} (h : SqL K H s xs) (x : Ext H H') : SqL K H' s xs := by
  rcases h with h | h
  · rcases h with h | ⟨o, h⟩
    · exact .inl (.inl (x _ _ h))
    · exact .inl (.inr ⟨o, x _ _ h⟩)
  · exact .inr h
theorem pe_ty {X : Cx} {x : Str} {n : String} {pos : Pos} (hg : Gl X x) (hm : X.mg x = none) (hv : bootBuiltins x = some (.type n)) (hn : x ≠ "__name__" := by decide +kernel) (hd : (x == ("__debug__" : Str)) = false := by decide) : PE X (.Name x pos) (tC (.ty n)) :=
  pe_bltn hg hm hv (show RelV (.ty n) (.type n) from rfl) hn hd
section
variable {P : Program} {w : World} {K : Frag} {mg : Str → Option Value} {base : Heap}
abbrev sGcd : Stmt := top 7
def spGcd : Sp := fun vs H Q _ => ∃ a b : Nat, vs = [.int a, .int b] ∧ Q (.int (Nat.gcd a b)) H
theorem scG : FnScope ["one", "other"] ["one", "other"] (defScope sGcd) := ⟨rfl, rfl, rfl, by decide +kernel, rfl, by decide +kernel, by decide +kernel⟩
def secN : St → Nat
  | [_, some (.int b)] => b.toNat
  | _ => 0
theorem ok_gcd {f : Addr} {fd : FuncData} (F : Fun K "greatest_common" "greatest_common" sGcd f fd) : FnOk P w K mg base CX0 1 f fd ["one", "other"] spGcd := by
  refine F.ok scG (fun vs H Q E h => ?_) (fun cdv A outer s H vs Q E hr h => ?_)
  · obtain ⟨c, lo, rfl, _⟩ := h
    rfl
  obtain ⟨a, b, rfl, q⟩ := h
  have nd := scG.nd
  refine ⟨_, pss_cons (ps_while PassesOwn.never (pt_cmpR op_gt (pv 1) pe_int (nomark _)) (pss_one (ps_par (i := 0) (j := 1) rfl nd rfl rfl (by decide) rfl rfl (pa_cons (pv 1) (pa_cons (pe_op op_mod (pv 0) (pv 1)) pa_nil)) rfl))) (pss_one (ps_ret (pv 0))), ?_⟩
  refine while_by (fun σ H' => H' = H ∧ ∃ x y : Nat, σ = [some (.int x), some (.int y)] ∧ Nat.gcd x y = Nat.gcd a b) (fun σ _ => secN σ) ⟨rfl, a, b, rfl, rfl⟩ ?_ ?_
  · rintro σ H' ⟨rfl, x, y, rfl, e⟩
    refine ⟨_, rfl, _, _, rfl, rfl, _, rfl, ?_⟩
    refine ite2 (fun c => ?_) (fun c => ?_)
    · have c' : (0 : Int) < (y : Int) := of_decide_eq_true c
      refine ⟨_, rfl, _, rfl, _, rfl, _, _, rfl, rfl, c', _, _, rfl, ⟨rfl, y, x % y, ?_, ?_⟩, ?_⟩
      · show [some (V.int y), some (V.int ((x : Int) % (y : Int)))] = _
        rw [show ((x : Int) % (y : Int)) = ((x % y : Nat) : Int) from by simp]
      · rw [← e, Nat.gcd_comm x y, Nat.gcd_rec y x, Nat.gcd_comm]
      · show ((x : Int) % (y : Int)).toNat < (y : Int).toNat
        have := Int.emod_lt_of_pos (x : Int) c'
        omega
    · have c' : ¬ (0 : Int) < (y : Int) := fun z => c (decide_eq_true z)
      have y0 : y = 0 := by omega
      subst y0
      rw [Nat.gcd_zero_right] at e
      refine ⟨_, rfl, ?_⟩
      rw [e]
      exact q
  · rintro σ H Q Q' m ⟨x, e, i, j, h1, h2, b, hb, q⟩
    exact ⟨x, e, i, j, h1, h2, b, hb, m _ _ q⟩
/-- an own class of refusals, as the top has written it -/
structure One (K : Frag) (mg : Str → Option Value) (D : Addr) (nm : Str) (st : Stmt) (C f : Addr) (fd : FuncData) : Prop where
  cls : ErrC K D nm C f
  mgC : mg nm = some (.ref C)
  ok : ∀ (P : Program) (w : World) (base : Heap), FnOk P w K mg base CX0 1 f fd ["self", "found"] (spErr C "found")
  bi : Binds K fd ["self", "found"] []
/-- a number that the rules of division and product let by -/
def Sz (n : Nat) : Prop := n < 2 ^ 8999
theorem Sz.log {n : Nat} (h : Sz n) : ((n : Nat) : Int).natAbs.log2 < 9000 := by
  rw [Int.natAbs_natCast]
  by_cases z : n = 0
  · rw [z]; decide
  · exact (Nat.log2_lt z).mpr (Nat.lt_trans h (Nat.pow_lt_pow_right (by decide) (by decide)))
theorem Sz.mono {m n : Nat} (h : Sz n) (e : m ≤ n) : Sz m := Nat.lt_of_le_of_lt e h
/-- bits of a number -/
theorem bits_le {n : Nat} {k : Nat} (h : n < 2 ^ k) : Builtin.Int.intBits ((n : Nat) : Int) ≤ k := by
  unfold Builtin.Int.intBits
  split
  · exact Nat.zero_le _
  · rename_i hz
    have hn : n ≠ 0 := fun e => by subst e; exact hz rfl
    have : n.log2 < k := (Nat.log2_lt hn).mpr h
    rw [Int.natAbs_natCast]
    omega
theorem bits_neg (n : Nat) : Builtin.Int.intBits (-(n : Int)) = Builtin.Int.intBits ((n : Nat) : Int) := by
  unfold Builtin.Int.intBits
  by_cases z : n = 0
  · subst z; rfl
  · rw [if_neg (by simp; omega), if_neg (by simp; omega), Int.natAbs_neg]
theorem gm {m n : Nat} (h : Sz m) (k : Sz n) : GMul ((m : Nat) : Int) ((n : Nat) : Int) := by
  have h1 := bits_le h
  have h2 := bits_le k
  show _ + _ ≤ 1000000
  omega
/-- c or -c -/
def Sgn (C : Int) (c : Nat) : Prop := C = (c : Int) ∨ C = -(c : Int)
theorem gmS {C : Int} {c n : Nat} (s : Sgn C c) (h : Sz c) (k : Sz n) : GMul C ((n : Nat) : Int) := by
  have h1 := bits_le h
  have h2 := bits_le k
  show _ + _ ≤ 1000000
  rcases s with rfl | rfl
  · omega
  · rw [bits_neg]; omega
abbrev sAdd : Stmt := top 8
def spAdd (K : Frag) : Sp := fun vs H Q _ => ∃ (p : Addr) (a b c d W : Nat) (C : Int), vs = [.ref p, .int C, .int d] ∧ SqT K H p [.int a, .int b] ∧ Sgn C c ∧ Sz a ∧ Sz b ∧ Sz c ∧ Sz d ∧ 1 ≤ b ∧ 1 ≤ d ∧
  (a : Int) * ((d / Nat.gcd b d : Nat) : Int) + C * ((b / Nat.gcd b d : Nat) : Int) = (W : Int) ∧ ∀ r, H r = none → Q (.ref r) (upd H r (.tup [.int (W / Nat.gcd W (Nat.gcd b d) : Nat), .int (b / Nat.gcd b d * (d / Nat.gcd W (Nat.gcd b d)) : Nat)]))
theorem scAdd : FnScope ["one", "top", "bottom", "common", "whole", "struck"] ["one", "top", "bottom"] (defScope sAdd) := ⟨rfl, rfl, rfl, by decide +kernel, rfl, by decide +kernel, by decide +kernel⟩
theorem ok_add {f g : Addr} {fd gd : FuncData} (F : Fun K "added" "added" sAdd f fd) (G : FnOk P w K mg base CX0 1 g gd ["one", "other"] spGcd) (bG : Binds K gd ["one", "other"] []) (kG : keepIn K (.ref g) = true) (mG : mg "greatest_common" = some (.ref g)) : FnOk P w K mg base CX0 2 f fd ["one", "top", "bottom"] (spAdd K) := by
  refine F.ok scAdd (fun vs H Q E h => ?_) (fun cdv A outer s H vs Q E hr h => ?_)
  · obtain ⟨p, a, b, c, d, W, C, rfl, _⟩ := h
    rfl
  obtain ⟨p, a, b, c, d, W, C, rfl, hp, sg, sa, sb, sc, sd, b1, d1, hW, q⟩ := h
  have nd := scAdd.nd
  refine ⟨_, pss_cons (ps_set (i := 3) nd rfl (Or.inl rfl) (pe_call G hr rfl mG kG bG .nil pass0 (pa_cons (pe_ix ix_tup (pv 0) pe_int (fun _ _ => rfl)) (pa_cons (pv 2) pa_nil))))
    (pss_cons (ps_set (i := 4) nd rfl (Or.inl rfl) (pe_op op_add (pe_op op_gmul (pe_ix ix_tup (pv 0) pe_int (fun _ _ => rfl)) (pe_op op_gdiv (pv 2) (pv 3))) (pe_op op_gmul (pv 1) (pe_op op_gdiv (pe_ix ix_tup (pv 0) pe_int (fun _ _ => rfl)) (pv 3)))))
    (pss_cons (ps_set (i := 5) nd rfl (Or.inl rfl) (pe_call G hr rfl mG kG bG .nil pass0 (pa_cons (pv 4) (pa_cons (pv 3) pa_nil))))
    (pss_one (ps_ret (pe_tup (pa_cons (pe_op op_gdiv (pv 4) (pv 5)) (pa_cons (pe_op op_gmul (pe_op op_gdiv (pe_ix ix_tup (pv 0) pe_int (fun _ _ => rfl)) (pv 3)) (pe_op op_gdiv (pv 2) (pv 5))) pa_nil))))))), ?_⟩
  have g0 : 0 < Nat.gcd b d := Nat.gcd_pos_of_pos_left d b1
  have sg' : Sz (Nat.gcd b d) := sb.mono (Nat.le_of_dvd b1 (Nat.gcd_dvd_left b d))
  have gi : GDiv ((d : Nat) : Int) ((Nat.gcd b d : Nat) : Int) := ⟨by omega, sg'.log⟩
  have gj : GDiv ((b : Nat) : Int) ((Nat.gcd b d : Nat) : Int) := ⟨by omega, sg'.log⟩
  have e1 : ((d : Int) / ((Nat.gcd b d : Nat) : Int)) = ((d / Nat.gcd b d : Nat) : Int) := by simp
  have e2 : ((b : Int) / ((Nat.gcd b d : Nat) : Int)) = ((b / Nat.gcd b d : Nat) : Int) := by simp
  have sd1 : Sz (d / Nat.gcd b d) := sd.mono (Nat.div_le_self _ _)
  have sb1 : Sz (b / Nat.gcd b d) := sb.mono (Nat.div_le_self _ _)
  refine ⟨_, rfl, p, _, _, _, rfl, rfl, hp, rfl, _, rfl, b, d, rfl, ?_⟩
  refine ⟨_, rfl, p, _, _, _, rfl, rfl, hp, rfl, _, rfl, _, rfl, _, _, rfl, rfl, gi, _, _, rfl, rfl, by rw [e1]; exact gm sa sd1, ?_⟩
  refine ⟨_, rfl, _, rfl, p, _, _, _, rfl, rfl, hp, rfl, _, rfl, _, _, rfl, rfl, gj, _, _, rfl, rfl, by rw [e2]; exact gmS sg sc sb1, _, _, rfl, rfl, ?_⟩
  show (tSeq _ _) _ [some (.ref p), some (.int C), some (.int d), some (.int (Nat.gcd b d : Nat)), some (.int ((a : Int) * ((d : Int) / ((Nat.gcd b d : Nat) : Int)) + C * ((b : Int) / ((Nat.gcd b d : Nat) : Int)))), none] H
  rw [e1, e2, hW]
  have s0 : 0 < Nat.gcd W (Nat.gcd b d) := Nat.gcd_pos_of_pos_right W g0
  have ss : Sz (Nat.gcd W (Nat.gcd b d)) := sg'.mono (Nat.le_of_dvd g0 (Nat.gcd_dvd_right W _))
  have gs : ∀ n : Nat, GDiv ((n : Nat) : Int) ((Nat.gcd W (Nat.gcd b d) : Nat) : Int) := fun n => ⟨by omega, ss.log⟩
  have e3 : ((W : Int) / ((Nat.gcd W (Nat.gcd b d) : Nat) : Int)) = ((W / Nat.gcd W (Nat.gcd b d) : Nat) : Int) := by simp
  have e4 : ((d : Int) / ((Nat.gcd W (Nat.gcd b d) : Nat) : Int)) = ((d / Nat.gcd W (Nat.gcd b d) : Nat) : Int) := by simp
  refine ⟨_, rfl, _, rfl, W, Nat.gcd b d, rfl, ?_⟩
  refine ⟨_, rfl, _, rfl, _, _, rfl, rfl, gs W, _, rfl, p, _, _, _, rfl, rfl, hp, rfl, _, rfl, _, _, rfl, rfl, gj, _, rfl, _, rfl, _, _, rfl, rfl, gs d, _, _, rfl, rfl, by rw [e2, e4]; exact gm sb1 (sd.mono (Nat.div_le_self _ _)), by show 2 ≤ sizeLine; decide, fun r hr => ?_⟩
  have := q r hr
  rw [Int.natCast_mul, ← e2, ← e3, ← e4] at this
  exact this
/-- less_share -/
abbrev sLes : Stmt := top 12
def spLes (K : Frag) : Sp := fun vs H Q _ => ∃ (p r : Addr) (a b c d : Nat), vs = [.ref p, .ref r] ∧ SqT K H p [.int a, .int b] ∧ SqT K H r [.int c, .int d] ∧ Sz a ∧ Sz b ∧ Sz c ∧ Sz d ∧ Q (.bl (decide (a * d < c * b))) H
theorem scLes : FnScope ["one", "other"] ["one", "other"] (defScope sLes) := ⟨rfl, rfl, rfl, by decide +kernel, rfl, by decide +kernel, by decide +kernel⟩
theorem ok_les {f : Addr} {fd : FuncData} (F : Fun K "less_share" "less_share" sLes f fd) : FnOk P w K mg base CX0 1 f fd ["one", "other"] (spLes K) := by
  refine F.ok scLes (fun vs H Q E h => ?_) (fun cdv A outer s H vs Q E hr h => ?_)
  · obtain ⟨p, r, a, b, c, d, rfl, _⟩ := h
    rfl
  obtain ⟨p, r, a, b, c, d, rfl, hp, hr', sa, sb, sc, sd, q⟩ := h
  refine ⟨_, pss_one (ps_ret (pe_cmpR op_lt (pe_op op_gmul (pe_ix ix_tup (pv 0) pe_int (fun _ _ => rfl)) (pe_ix ix_tup (pv 1) pe_int (fun _ _ => rfl))) (pe_op op_gmul (pe_ix ix_tup (pv 1) pe_int (fun _ _ => rfl)) (pe_ix ix_tup (pv 0) pe_int (fun _ _ => rfl))) (nomark _))), ?_⟩
  refine ⟨_, rfl, p, _, _, _, rfl, rfl, hp, rfl, _, rfl, r, _, _, _, rfl, rfl, hr', rfl, _, _, rfl, rfl, gm sa sd, ?_⟩
  refine ⟨_, rfl, r, _, _, _, rfl, rfl, hr', rfl, _, rfl, p, _, _, _, rfl, rfl, hp, rfl, _, _, rfl, rfl, gm sc sb, _, _, rfl, rfl, ?_⟩
  have e : decide ((a : Int) * (d : Int) < (c : Int) * (b : Int)) = decide (a * d < c * b) := by
    rw [Bool.eq_iff_iff, decide_eq_true_iff, decide_eq_true_iff]
    rw [← Int.natCast_mul, ← Int.natCast_mul]
    omega
  show Q (.bl (decide ((a : Int) * (d : Int) < (c : Int) * (b : Int)))) H
  rw [e]
  exact q
/-- times_share -/
abbrev sTim : Stmt := top 11
def spTim (K : Frag) : Sp := fun vs H Q _ => ∃ (p r : Addr) (a b c d : Nat), vs = [.ref p, .ref r] ∧ SqT K H p [.int a, .int b] ∧ SqT K H r [.int c, .int d] ∧ Sz a ∧ Sz b ∧ Sz c ∧ Sz d ∧ 1 ≤ b ∧ 1 ≤ d ∧
  ∀ l, H l = none → Q (.ref l) (upd H l (.tup [.int (a / Nat.gcd a d * (c / Nat.gcd c b) : Nat), .int (b / Nat.gcd c b * (d / Nat.gcd a d) : Nat)]))
theorem scTim : FnScope ["one", "other", "left", "right"] ["one", "other"] (defScope sTim) := ⟨rfl, rfl, rfl, by decide +kernel, rfl, by decide +kernel, by decide +kernel⟩
theorem ok_tim {f g : Addr} {fd gd : FuncData} (F : Fun K "times_share" "times_share" sTim f fd) (G : FnOk P w K mg base CX0 1 g gd ["one", "other"] spGcd) (bG : Binds K gd ["one", "other"] []) (kG : keepIn K (.ref g) = true) (mG : mg "greatest_common" = some (.ref g)) : FnOk P w K mg base CX0 2 f fd ["one", "other"] (spTim K) := by
  refine F.ok scTim (fun vs H Q E h => ?_) (fun cdv A outer s H vs Q E hr h => ?_)
  · obtain ⟨p, r, a, b, c, d, rfl, _⟩ := h
    rfl
  obtain ⟨p, r, a, b, c, d, rfl, hp, hr', sa, sb, sc, sd, b1, d1, q⟩ := h
  have nd := scTim.nd
  refine ⟨_, pss_cons (ps_set (i := 2) nd rfl (Or.inl rfl) (pe_call G hr rfl mG kG bG .nil pass0 (pa_cons (pe_ix ix_tup (pv 0) pe_int (fun _ _ => rfl)) (pa_cons (pe_ix ix_tup (pv 1) pe_int (fun _ _ => rfl)) pa_nil))))
    (pss_cons (ps_set (i := 3) nd rfl (Or.inl rfl) (pe_call G hr rfl mG kG bG .nil pass0 (pa_cons (pe_ix ix_tup (pv 1) pe_int (fun _ _ => rfl)) (pa_cons (pe_ix ix_tup (pv 0) pe_int (fun _ _ => rfl)) pa_nil))))
    (pss_one (ps_ret (pe_tup (pa_cons (pe_op op_gmul (pe_op op_gdiv (pe_ix ix_tup (pv 0) pe_int (fun _ _ => rfl)) (pv 2)) (pe_op op_gdiv (pe_ix ix_tup (pv 1) pe_int (fun _ _ => rfl)) (pv 3)))
      (pa_cons (pe_op op_gmul (pe_op op_gdiv (pe_ix ix_tup (pv 0) pe_int (fun _ _ => rfl)) (pv 3)) (pe_op op_gdiv (pe_ix ix_tup (pv 1) pe_int (fun _ _ => rfl)) (pv 2))) pa_nil)))))), ?_⟩
  have l0 : 0 < Nat.gcd a d := Nat.gcd_pos_of_pos_right a d1
  have r0 : 0 < Nat.gcd c b := Nat.gcd_pos_of_pos_right c b1
  have sl : Sz (Nat.gcd a d) := sd.mono (Nat.le_of_dvd d1 (Nat.gcd_dvd_right a d))
  have sr : Sz (Nat.gcd c b) := sb.mono (Nat.le_of_dvd b1 (Nat.gcd_dvd_right c b))
  have gl : ∀ n : Nat, GDiv ((n : Nat) : Int) ((Nat.gcd a d : Nat) : Int) := fun n => ⟨by omega, sl.log⟩
  have gr : ∀ n : Nat, GDiv ((n : Nat) : Int) ((Nat.gcd c b : Nat) : Int) := fun n => ⟨by omega, sr.log⟩
  have ea : ((a : Int) / ((Nat.gcd a d : Nat) : Int)) = ((a / Nat.gcd a d : Nat) : Int) := by simp
  have ed : ((d : Int) / ((Nat.gcd a d : Nat) : Int)) = ((d / Nat.gcd a d : Nat) : Int) := by simp
  have ec : ((c : Int) / ((Nat.gcd c b : Nat) : Int)) = ((c / Nat.gcd c b : Nat) : Int) := by simp
  have eb : ((b : Int) / ((Nat.gcd c b : Nat) : Int)) = ((b / Nat.gcd c b : Nat) : Int) := by simp
  refine ⟨_, rfl, p, _, _, _, rfl, rfl, hp, rfl, _, rfl, r, _, _, _, rfl, rfl, hr', rfl, a, d, rfl, ?_⟩
  refine ⟨_, rfl, r, _, _, _, rfl, rfl, hr', rfl, _, rfl, p, _, _, _, rfl, rfl, hp, rfl, c, b, rfl, ?_⟩
  refine ⟨_, rfl, p, _, _, _, rfl, rfl, hp, rfl, _, rfl, _, _, rfl, rfl, gl a, _, rfl, r, _, _, _, rfl, rfl, hr', rfl, _, rfl, _, _, rfl, rfl, gr c, _, _, rfl, rfl, by rw [ea, ec]; exact gm (sa.mono (Nat.div_le_self _ _)) (sc.mono (Nat.div_le_self _ _)), ?_⟩
  refine ⟨_, rfl, p, _, _, _, rfl, rfl, hp, rfl, _, rfl, _, _, rfl, rfl, gr b, _, rfl, r, _, _, _, rfl, rfl, hr', rfl, _, rfl, _, _, rfl, rfl, gl d, _, _, rfl, rfl, by rw [eb, ed]; exact gm (sb.mono (Nat.div_le_self _ _)) (sd.mono (Nat.div_le_self _ _)), by show 2 ≤ sizeLine; decide, fun l hl => ?_⟩
  have := q l hl
  rw [Int.natCast_mul, Int.natCast_mul, ← ea, ← eb, ← ec, ← ed] at this
  exact this
end
end My

/-! R2 -/
set_option Elab.async false
set_option linter.all false
set_option maxRecDepth 100000
set_option maxHeartbeats 1000000
set_option exponentiation.threshold 10000
namespace My
open PySem PySem.W L2
section
variable {P : Program} {w : World} {K : Frag} {mg : Str → Option Value} {base : Heap}
theorem div_gt {N D : Nat} (h : 0 < Nat.gcd N D) : (D / Nat.gcd N D < N / Nat.gcd N D) ↔ D < N := by
  have hn : Nat.gcd N D * (N / Nat.gcd N D) = N := Nat.mul_div_cancel' (Nat.gcd_dvd_left N D)
  have hd : Nat.gcd N D * (D / Nat.gcd N D) = D := Nat.mul_div_cancel' (Nat.gcd_dvd_right N D)
  rw [← Nat.mul_lt_mul_left h, hn, hd]
/-- what an error of the two is made of -/
def Two (C : Addr) (p r : Addr) (H : Hp) (E : XK) : Prop := ∀ q H2, Ext H H2 → H2 q = some (.tup [.ref p, .ref r]) → ∀ e dx, H2 e = none → H2 dx = none → dx ≠ e → E (.ref C) (some e) (upd (upd H2 dx (.xd [("found", .ref q)])) e (ErrT e C (some dx)))
/-- two shares -/
structure Shs (K : Frag) (H : Hp) (p r : Addr) (a b c d : Nat) : Prop where
  hp : SqT K H p [.int a, .int b]
  hr : SqT K H r [.int c, .int d]
  lo : Low a b
  lr : Low c d
  sb : Sz b
  sd : Sz d
theorem Shs.sa {H : Hp} {p r : Addr} {a b c d : Nat} (h : Shs K H p r a b c d) : Sz a := h.sb.mono h.lo.2.1
theorem Shs.sc {H : Hp} {p r : Addr} {a b c d : Nat} (h : Shs K H p r a b c d) : Sz c := h.sd.mono h.lr.2.1
abbrev sPlu : Stmt := top 9
def spPlu (K : Frag) (C : Addr) : Sp := fun vs H Q E => ∃ (p r : Addr) (a b c d : Nat), vs = [.ref p, .ref r] ∧ Shs K H p r a b c d ∧
  (a * d + c * b ≤ b * d → ∀ l, H l = none → Q (.ref l) (upd H l (.tup [.int ((a * d + c * b) / Nat.gcd (a * d + c * b) (b * d) : Nat), .int (b * d / Nat.gcd (a * d + c * b) (b * d) : Nat)]))) ∧ (b * d < a * d + c * b → Two C p r H E)
theorem scPlu : FnScope ["one", "other", "total"] ["one", "other"] (defScope sPlu) := ⟨rfl, rfl, rfl, by decide +kernel, rfl, by decide +kernel, by decide +kernel⟩
theorem ok_plu {f g D C fC : Addr} {fd gd fdC : FuncData} {st : Stmt} (F : Fun K "plus_share" "plus_share" sPlu f fd) (B : BaseC K D) (T : One K mg D "NoShare" st C fC fdC)
    (G : FnOk P w K mg base CX0 2 g gd ["one", "top", "bottom"] (spAdd K)) (bG : Binds K gd ["one", "top", "bottom"] []) (kG : keepIn K (.ref g) = true) (mG : mg "added" = some (.ref g)) : FnOk P w K mg base (CXE P w) 3 f fd ["one", "other"] (spPlu K C) := by
  refine okE F scPlu (fun vs H Q E h => ?_) (fun cdv A outer s H vs Q E hr h => ?_)
  · obtain ⟨p, r, a, b, c, d, rfl, _⟩ := h
    rfl
  obtain ⟨p, r, a, b, c, d, rfl, sh, q1, q2⟩ := h
  have nd := scPlu.nd
  refine ⟨_, pss_cons (ps_set (i := 2) nd rfl (Or.inl rfl) (pe_call G hr rfl mG kG bG .nil pass0 (pa_cons (pv 0) (pa_cons (pe_ix ix_tup (pv 1) pe_int (fun _ _ => rfl)) (pa_cons (pe_ix ix_tup (pv 1) pe_int (fun _ _ => rfl)) pa_nil)))))
    (pss_cons (ps_if (pt_cmpR op_gt (pe_ix ix_tup (pv 2) pe_int (fun _ _ => rfl)) (pe_ix ix_tup (pv 2) pe_int (fun _ _ => rfl)) (nomark _)) (pss_one (ps_raise B T.cls (T.ok P w base) hr T.bi rfl T.mgC (pe_tup (pa_cons (pv 0) (pa_cons (pv 1) pa_nil))))) pss_nil)
    (pss_one (ps_ret (pv 2)))), ?_⟩
  have ae := added_eq (a := a) (b := b) (c := c) (d := d) sh.lo.1 sh.lr.1 sh.lo.2.2 sh.lr.2.2 (.inl rfl)
  rw [whole_add] at ae
  have G0 : 0 < Nat.gcd (a * d + c * b) (b * d) := Nat.gcd_pos_of_pos_right _ (Nat.mul_pos sh.lo.1 sh.lr.1)
  refine ⟨_, rfl, _, rfl, r, _, _, _, rfl, rfl, sh.hr, rfl, _, rfl, r, _, _, _, rfl, rfl, sh.hr, rfl, p, a, b, c, d, a * (d / Nat.gcd b d) + c * (b / Nat.gcd b d), _, rfl, sh.hp, .inl rfl, sh.sa, sh.sb, sh.sc, sh.sd, sh.lo.1, sh.lr.1, by rw [← Int.natCast_mul, ← Int.natCast_mul, ← Int.natCast_add], fun l hl => ?_⟩
  rw [ae.1, ae.2]
  have x1 := Ext.new (o := .tup [V.int ((a * d + c * b) / Nat.gcd (a * d + c * b) (b * d) : Nat), V.int (b * d / Nat.gcd (a * d + c * b) (b * d) : Nat)]) hl
  have q1' := fun h => q1 h l hl
  have f1 : upd H l (.tup [V.int ((a * d + c * b) / Nat.gcd (a * d + c * b) (b * d) : Nat), V.int (b * d / Nat.gcd (a * d + c * b) (b * d) : Nat)]) l = some (.tup [V.int ((a * d + c * b) / Nat.gcd (a * d + c * b) (b * d) : Nat), V.int (b * d / Nat.gcd (a * d + c * b) (b * d) : Nat)]) := upd_same
  have gt := div_gt G0
  generalize upd H l (.tup [V.int ((a * d + c * b) / Nat.gcd (a * d + c * b) (b * d) : Nat), V.int (b * d / Nat.gcd (a * d + c * b) (b * d) : Nat)]) = H1 at x1 f1 q1' ⊢
  generalize (a * d + c * b) / Nat.gcd (a * d + c * b) (b * d) = n1 at f1 gt ⊢
  generalize b * d / Nat.gcd (a * d + c * b) (b * d) = n2 at f1 gt ⊢
  refine ⟨_, rfl, l, _, _, _, rfl, rfl, SqT.of f1, rfl, _, rfl, l, _, _, _, rfl, rfl, SqT.of f1, rfl, _, _, rfl, rfl, _, rfl, ?_⟩
  refine ite2 (fun c1 => ?_) (fun c1 => ?_)
  · have c2 : ((n2 : Nat) : Int) < ((n1 : Nat) : Int) := of_decide_eq_true c1
    have c3 : b * d < a * d + c * b := gt.mp (by omega)
    refine ⟨_, rfl, _, rfl, by show 2 ≤ sizeLine; decide, fun t ht => ?_⟩
    exact fun e dx h1 h2 ne => qR_of ne (q2 c3 t _ (x1.trans (Ext.new ht)) upd_same e dx h1 h2 ne)
  · have c2 : ¬ ((n2 : Nat) : Int) < ((n1 : Nat) : Int) := fun z => c1 (decide_eq_true z)
    have c3 : ¬ b * d < a * d + c * b := fun z => by have := gt.mpr z; omega
    exact ⟨_, rfl, q1' (by omega)⟩
end
end My

/-! R3 -/
set_option Elab.async false
set_option linter.all false
set_option maxRecDepth 100000
set_option maxHeartbeats 1000000
set_option exponentiation.threshold 10000
namespace My
open PySem PySem.W L2
section
variable {P : Program} {w : World} {K : Frag} {mg : Str → Option Value} {base : Heap}
abbrev sMin : Stmt := top 10
def spMin (K : Frag) (C : Addr) : Sp := fun vs H Q E => ∃ (p r : Addr) (a b c d : Nat), vs = [.ref p, .ref r] ∧ Shs K H p r a b c d ∧
  (c * b ≤ a * d → ∀ l, H l = none → Q (.ref l) (upd H l (.tup [.int ((a * d - c * b) / Nat.gcd (a * d - c * b) (b * d) : Nat), .int (b * d / Nat.gcd (a * d - c * b) (b * d) : Nat)]))) ∧ (a * d < c * b → Two C p r H E)
theorem scMin : FnScope ["one", "other"] ["one", "other"] (defScope sMin) := ⟨rfl, rfl, rfl, by decide +kernel, rfl, by decide +kernel, by decide +kernel⟩
theorem sub_parts {a b c d : Nat} (b1 : 1 ≤ b) (h : c * b ≤ a * d) : c * (b / Nat.gcd b d) ≤ a * (d / Nat.gcd b d) := by
  have g0 : 0 < Nat.gcd b d := Nat.gcd_pos_of_pos_left d b1
  have eb : Nat.gcd b d * (b / Nat.gcd b d) = b := Nat.mul_div_cancel' (Nat.gcd_dvd_left b d)
  have ed : Nat.gcd b d * (d / Nat.gcd b d) = d := Nat.mul_div_cancel' (Nat.gcd_dvd_right b d)
  refine (Nat.mul_le_mul_left_iff g0).mp ?_
  rw [Nat.mul_left_comm _ c, Nat.mul_left_comm _ a, eb, ed]
  exact h
theorem ok_min {f g k D C fC : Addr} {fd gd kd fdC : FuncData} {st : Stmt} (F : Fun K "minus_share" "minus_share" sMin f fd) (B : BaseC K D) (T : One K mg D "NoShare" st C fC fdC)
    (G : FnOk P w K mg base CX0 2 g gd ["one", "top", "bottom"] (spAdd K)) (bG : Binds K gd ["one", "top", "bottom"] []) (kG : keepIn K (.ref g) = true) (mG : mg "added" = some (.ref g))
    (L : FnOk P w K mg base CX0 1 k kd ["one", "other"] (spLes K)) (bL : Binds K kd ["one", "other"] []) (kL : keepIn K (.ref k) = true) (mL : mg "less_share" = some (.ref k)) : FnOk P w K mg base (CXE P w) 3 f fd ["one", "other"] (spMin K C) := by
  refine okE F scMin (fun vs H Q E h => ?_) (fun cdv A outer s H vs Q E hr h => ?_)
  · obtain ⟨p, r, a, b, c, d, rfl, _⟩ := h
    rfl
  obtain ⟨p, r, a, b, c, d, rfl, sh, q1, q2⟩ := h
  have hr1 := hr.mono (show 1 ≤ 2 by decide)
  refine ⟨_, pss_cons (ps_if (pt_val (pe_call L hr1 rfl mL kL bL .nil pass0 (pa_cons (pv 0) (pa_cons (pv 1) pa_nil)))) (pss_one (ps_raise B T.cls (T.ok P w base) hr T.bi rfl T.mgC (pe_tup (pa_cons (pv 0) (pa_cons (pv 1) pa_nil))))) pss_nil)
    (pss_one (ps_ret (pe_call G hr rfl mG kG bG .nil pass0 (pa_cons (pv 0) (pa_cons (pe_un un_neg (pe_ix ix_tup (pv 1) pe_int (fun _ _ => rfl))) (pa_cons (pe_ix ix_tup (pv 1) pe_int (fun _ _ => rfl)) pa_nil)))))), ?_⟩
  refine ⟨_, rfl, _, rfl, p, r, a, b, c, d, rfl, sh.hp, sh.hr, sh.sa, sh.sb, sh.sc, sh.sd, _, rfl, ?_⟩
  refine ite2 (fun c1 => ?_) (fun c1 => ?_)
  · have c2 : a * d < c * b := of_decide_eq_true c1
    refine ⟨_, rfl, _, rfl, by show 2 ≤ sizeLine; decide, fun t ht => ?_⟩
    exact fun e dx h1 h2 ne => qR_of ne (q2 c2 t _ (Ext.new ht) upd_same e dx h1 h2 ne)
  · have c2 : c * b ≤ a * d := Nat.le_of_not_lt fun z => c1 (decide_eq_true z)
    have sp := sub_parts sh.lo.1 c2
    have hW : a * (d / Nat.gcd b d) - c * (b / Nat.gcd b d) + c * (b / Nat.gcd b d) = a * (d / Nat.gcd b d) := Nat.sub_add_cancel sp
    have ae := added_eq (a := a) (b := b) (c := c) (d := d) sh.lo.1 sh.lr.1 sh.lo.2.2 sh.lr.2.2 (.inr hW)
    have ws : Nat.gcd b d * (a * (d / Nat.gcd b d) - c * (b / Nat.gcd b d)) = a * d - c * b := by
      have := whole_sub hW
      omega
    rw [ws] at ae
    refine ⟨_, rfl, _, rfl, r, _, _, _, rfl, rfl, sh.hr, rfl, _, rfl, _, rfl, r, _, _, _, rfl, rfl, sh.hr, rfl, p, a, b, c, d, a * (d / Nat.gcd b d) - c * (b / Nat.gcd b d), _, rfl, sh.hp, .inr rfl, sh.sa, sh.sb, sh.sc, sh.sd, sh.lo.1, sh.lr.1, ?_, fun l hl => ?_⟩
    · rw [Int.neg_mul, ← Int.natCast_mul, ← Int.natCast_mul]
      omega
    · rw [ae.1, ae.2]
      exact q1 c2 l hl
end
end My

/-! R4 -/
set_option Elab.async false
set_option linter.all false
set_option maxRecDepth 100000
set_option maxHeartbeats 400000
set_option exponentiation.threshold 10000
namespace My
open PySem PySem.W L2
/-- a share in a list: where it lies, its parts -/
abbrev ShZ := Addr × Nat × Nat
def stepT (s : Nat × Nat) (z : ShZ) : Nat × Nat := (s.1 * z.2.2 + z.2.1 * s.2, s.2 * z.2.2)
def tot (zs : List ShZ) : Nat × Nat := zs.foldl stepT (0, 1)
theorem tot_snoc (zs : List ShZ) (z : ShZ) : tot (zs ++ [z]) = stepT (tot zs) z := by unfold tot; rw [List.foldl_append]; rfl
theorem low_scale {k x y : Nat} (hk : 0 < k) : k * x / Nat.gcd (k * x) (k * y) = x / Nat.gcd x y ∧ k * y / Nat.gcd (k * x) (k * y) = y / Nat.gcd x y := by
  rw [Nat.gcd_mul_left]
  exact ⟨Nat.mul_div_mul_left _ _ hk, Nat.mul_div_mul_left _ _ hk⟩
theorem fold_pos : ∀ {zs : List ShZ} {s : Nat × Nat}, (∀ z ∈ zs, 1 ≤ z.2.2) → 1 ≤ s.2 → 1 ≤ (zs.foldl stepT s).2
  | [], _, _, h => h
  | z :: zs, s, h, h1 => fold_pos (zs := zs) (s := stepT s z) (fun y hy => h y (List.mem_cons_of_mem _ hy)) (Nat.mul_pos h1 (h z (List.mem_cons_self ..)))
theorem tot_pos {zs : List ShZ} (h : ∀ z ∈ zs, 1 ≤ z.2.2) : 1 ≤ (tot zs).2 := fold_pos h (Nat.le_refl _)
theorem fold_grows : ∀ {zs : List ShZ} {s : Nat × Nat}, (∀ z ∈ zs, 1 ≤ z.2.2) → s.2 < s.1 → (zs.foldl stepT s).2 < (zs.foldl stepT s).1
  | [], _, _, h => h
  | z :: zs, s, h, h1 => fold_grows (zs := zs) (s := stepT s z) (fun y hy => h y (List.mem_cons_of_mem _ hy)) (by
    have d1 : 0 < z.2.2 := h z (List.mem_cons_self ..)
    show s.2 * z.2.2 < s.1 * z.2.2 + z.2.1 * s.2
    exact Nat.lt_of_lt_of_le ((Nat.mul_lt_mul_right d1).mpr h1) (Nat.le_add_right _ _))
theorem tot_grows {zs ys : List ShZ} (h : ∀ z ∈ ys, 1 ≤ z.2.2) (g : (tot zs).2 < (tot zs).1) : (tot (zs ++ ys)).2 < (tot (zs ++ ys)).1 := by
  unfold tot
  rw [List.foldl_append]
  exact fold_grows h g
/-- the total in lowest terms -/
def redT (s : Nat × Nat) : Nat × Nat := (s.1 / Nat.gcd s.1 s.2, s.2 / Nat.gcd s.1 s.2)
theorem red_step {N D c d : Nat} (hD : 1 ≤ D) : redT (N * d + c * D, D * d) = ((N / Nat.gcd N D * d + c * (D / Nat.gcd N D)) / Nat.gcd (N / Nat.gcd N D * d + c * (D / Nat.gcd N D)) (D / Nat.gcd N D * d), D / Nat.gcd N D * d / Nat.gcd (N / Nat.gcd N D * d + c * (D / Nat.gcd N D)) (D / Nat.gcd N D * d)) := by
  have g0 : 0 < Nat.gcd N D := Nat.gcd_pos_of_pos_right N hD
  have hn : Nat.gcd N D * (N / Nat.gcd N D) = N := Nat.mul_div_cancel' (Nat.gcd_dvd_left N D)
  have hd : Nat.gcd N D * (D / Nat.gcd N D) = D := Nat.mul_div_cancel' (Nat.gcd_dvd_right N D)
  have e1 : N * d + c * D = Nat.gcd N D * (N / Nat.gcd N D * d + c * (D / Nat.gcd N D)) := by
    rw [Nat.mul_add, ← Nat.mul_assoc, hn, Nat.mul_left_comm, hd]
  have e2 : D * d = Nat.gcd N D * (D / Nat.gcd N D * d) := by rw [← Nat.mul_assoc, hd]
  have ls := low_scale (x := N / Nat.gcd N D * d + c * (D / Nat.gcd N D)) (y := D / Nat.gcd N D * d) g0
  unfold redT
  show ((N * d + c * D) / Nat.gcd (N * d + c * D) (D * d), D * d / Nat.gcd (N * d + c * D) (D * d)) = _
  rw [e1, e2, ls.1, ls.2]
section
variable {P : Program} {w : World} {K : Frag} {mg : Str → Option Value} {base : Heap}
abbrev sSum : Stmt := top 13
/-- a list of shares -/
structure Lst (K : Frag) (H : Hp) (p : Addr) (zs : List ShZ) : Prop where
  hp : SqL K H p (zs.map fun z => V.ref z.1)
  all : ∀ z ∈ zs, SqT K H z.1 [.int (z.2.1 : Nat), .int (z.2.2 : Nat)] ∧ Low z.2.1 z.2.2 ∧ Sz z.2.2
  sz : ∀ i, i ≤ zs.length → Sz (redT (tot (zs.take i))).2
def spSum (K : Frag) (C : Addr) : Sp := fun vs H Q E => ∃ (p : Addr) (zs : List ShZ), vs = [.ref p] ∧ Lst K H p zs ∧
  ((tot zs).1 ≤ (tot zs).2 → ∀ l H', Ext H H' → SqT K H' l [.int ((redT (tot zs)).1 : Nat), .int ((redT (tot zs)).2 : Nat)] → Q (.ref l) H') ∧
  ((tot zs).2 < (tot zs).1 → ∀ e dx H2, Ext H H2 → H2 e = none → H2 dx = none → dx ≠ e → E (.ref C) (some e) (upd (upd H2 dx (.xd [("found", .ref p)])) e (ErrT e C (some dx))))
theorem scSum : FnScope ["several", "total", "share"] ["several"] (defScope sSum) := ⟨rfl, rfl, rfl, by decide +kernel, rfl, by decide +kernel, by decide +kernel⟩
theorem low_red {N D : Nat} (h1 : 1 ≤ D) (h : N ≤ D) : Low (N / Nat.gcd N D) (D / Nat.gcd N D) := by
  have g0 : 0 < Nat.gcd N D := Nat.gcd_pos_of_pos_right N h1
  have gle : Nat.gcd N D ≤ D := Nat.le_of_dvd h1 (Nat.gcd_dvd_right N D)
  refine ⟨(Nat.le_div_iff_mul_le g0).mpr (by omega), Nat.div_le_div_right h, ?_⟩
  rw [Nat.gcd_div (Nat.gcd_dvd_left N D) (Nat.gcd_dvd_right N D)]; exact Nat.div_self g0
/-- one turn of sum_shares' loop -/
def tTurn (K : Frag) (E : XK) (C : Addr) : TS := tSeq (tAsg (tCall (spAdd K) [] E0 (tCons (tVar 1) (tCons (tOp (rIxT K) (tVar 2) (tC (.int 0))) (tCons (tOp (rIxT K) (tVar 2) (tC (.int 1))) tNil)))) (gName 1))
  (tIfS (tTest (tOp (rI0 fun i j => .bl (decide (j < i))) (tOp (rIxT K) (tVar 1) (tC (.int 0))) (tOp (rIxT K) (tVar 1) (tC (.int 1))))) (tRaise E C "found" (tVar 0)) tNext)
theorem sum_turn {D : Ends} {E : XK} {C : Addr} {H : Hp} {p q z : Addr} {a b c d m1 m2 : Nat} (lo : Low a b) (lz : Low c d) (sb : Sz b) (sd : Sz d) (hq : SqT K H q [.int a, .int b]) (hz : SqT K H z [.int c, .int d])
    (r1 : m1 = (a * d + c * b) / Nat.gcd (a * d + c * b) (b * d)) (r2 : m2 = b * d / Nat.gcd (a * d + c * b) (b * d))
    (nx : ∀ l H', Ext H H' → SqT K H' l [.int m1, .int m2] → ¬ m2 < m1 → D.nx [some (.ref p), some (.ref l), some (.ref z)] H')
    (ex : m2 < m1 → ∀ e dx H2, Ext H H2 → H2 e = none → H2 dx = none → dx ≠ e → E (.ref C) (some e) (upd (upd H2 dx (.xd [("found", .ref p)])) e (ErrT e C (some dx)))) :
    tTurn K E C D [some (.ref p), some (.ref q), some (.ref z)] H := by
  have ae := added_eq (a := a) (b := b) (c := c) (d := d) lo.1 lz.1 lo.2.2 lz.2.2 (.inl rfl)
  rw [whole_add, ← r1, ← r2] at ae
  refine ⟨_, rfl, _, rfl, z, _, _, _, rfl, rfl, hz, rfl, _, rfl, z, _, _, _, rfl, rfl, hz, rfl, q, a, b, c, d, a * (d / Nat.gcd b d) + c * (b / Nat.gcd b d), _, rfl, hq, .inl rfl, sb.mono lo.2.1, sb, sd.mono lz.2.1, sd, lo.1, lz.1, by rw [← Int.natCast_mul, ← Int.natCast_mul, ← Int.natCast_add], fun l hl => ?_⟩
  rw [ae.1, ae.2]
  have x1 := Ext.new (o := .tup [V.int (m1 : Nat), V.int (m2 : Nat)]) hl
  have f1 : upd H l (.tup [V.int (m1 : Nat), V.int (m2 : Nat)]) l = some (.tup [V.int (m1 : Nat), V.int (m2 : Nat)]) := upd_same
  generalize upd H l (.tup [V.int (m1 : Nat), V.int (m2 : Nat)]) = H1 at x1 f1 ⊢
  refine ⟨_, rfl, l, _, _, _, rfl, rfl, SqT.of f1, rfl, _, rfl, l, _, _, _, rfl, rfl, SqT.of f1, rfl, _, _, rfl, rfl, _, rfl, ?_⟩
  refine ite2 (fun c1 => ?_) (fun c1 => ?_)
  · have c2 : ((m2 : Nat) : Int) < ((m1 : Nat) : Int) := of_decide_eq_true c1
    exact ⟨_, rfl, fun e dx h1 h2 ne => qR_of ne (ex (by omega) e dx H1 x1 h1 h2 ne)⟩
  · have c2 : ¬ ((m2 : Nat) : Int) < ((m1 : Nat) : Int) := fun z => c1 (decide_eq_true z)
    exact nx l H1 x1 (SqT.of f1) (by omega)
theorem ok_sum {f g D C fC n0 : Addr} {fd gd fdC : FuncData} {st : Stmt} (F : Fun K "sum_shares" "sum_shares" sSum f fd) (B : BaseC K D) (T : One K mg D "NoShare" st C fC fdC) (m0 : mg "NONE" = some (.ref n0)) (t0 : ∀ H, SqT K H n0 [.int (0 : Nat), .int (1 : Nat)])
    (G : FnOk P w K mg base CX0 2 g gd ["one", "top", "bottom"] (spAdd K)) (bG : Binds K gd ["one", "top", "bottom"] []) (kG : keepIn K (.ref g) = true) (mG : mg "added" = some (.ref g)) : FnOk P w K mg base (CXE P w) 3 f fd ["several"] (spSum K C) := by
  refine okI F scSum (fun vs H Q E h => ?_) (fun cdv A outer s H vs Q E hr h => ?_)
  · obtain ⟨p, zs, rfl, _⟩ := h
    rfl
  obtain ⟨p, zs, rfl, L, q1, q2⟩ := h
  have nd := scSum.nd
  refine ⟨_, pss_cons (ps_set (i := 1) nd rfl (Or.inl rfl) (pe_glob (v := .ref n0) rfl m0 rfl))
    (pss_cons (ps_for ownI rfl (pi_list (pv 0)) (pg_name (i := 2) nd rfl (Or.inl rfl))
      (pss_cons (ps_set (i := 1) nd rfl (Or.inl rfl) (pe_call G hr rfl mG kG bG .nil pass0 (pa_cons (pv 1) (pa_cons (pe_ix ix_tup (pv 2) pe_int (fun _ _ => rfl)) (pa_cons (pe_ix ix_tup (pv 2) pe_int (fun _ _ => rfl)) pa_nil)))))
      (pss_one (ps_if (pt_cmpR op_gt (pe_ix ix_tup (pv 1) pe_int (fun _ _ => rfl)) (pe_ix ix_tup (pv 1) pe_int (fun _ _ => rfl)) (nomark _)) (pss_one (ps_raiseI B T.cls (T.ok P w base) hr T.bi rfl T.mgC (pv 0))) pss_nil))))
    (pss_one (ps_ret (pv 1)))), ?_⟩
  have d1 : ∀ z ∈ zs, 1 ≤ z.2.2 := fun z hz => (L.all z hz).2.1.1
  have z0 : (tot (zs.take 0)).1 ≤ (tot (zs.take 0)).2 ∧ SqT K H n0 [.int ((redT (tot (zs.take 0))).1 : Nat), .int ((redT (tot (zs.take 0))).2 : Nat)] := by
    have e : tot (zs.take 0) = (0, 1) := by rw [List.take_zero]; rfl
    rw [e]
    exact ⟨by decide, t0 H⟩
  refine ⟨_, rfl, p, rfl, ⟨_, L.hp⟩, for_list (xs := zs.map fun z => V.ref z.1) (fun i σ H' => Ext H H' ∧ (tot (zs.take i)).1 ≤ (tot (zs.take i)).2 ∧ ∃ q o, σ = [some (.ref p), some (.ref q), o] ∧ SqT K H' q [.int ((redT (tot (zs.take i))).1 : Nat), .int ((redT (tot (zs.take i))).2 : Nat)]) ⟨Ext.refl _, z0.1, n0, _, rfl, z0.2⟩ ?_ ?_ ?_⟩
  · rintro i σ H' _ ⟨x, _⟩
    exact My.SqL.ext L.hp x
  · rintro i v σ H' ev ⟨x, le, q, o, rfl, hq⟩
    rw [List.getElem?_map] at ev
    obtain ⟨z, ez, rfl⟩ : ∃ z, zs[i]? = some z ∧ V.ref z.1 = v := by
      cases h : zs[i]? with
      | none => rw [h] at ev; cases ev
      | some z => rw [h] at ev; exact ⟨z, rfl, Option.some.inj ev⟩
    have mz : z ∈ zs := List.mem_of_getElem? ez
    obtain ⟨hz, lz, sz⟩ := L.all z mz
    have hz' := My.SqT.ext hz x
    have il : i < zs.length := (List.getElem?_eq_some_iff.mp ez).1
    have tk : zs.take (i + 1) = zs.take i ++ [z] := by rw [List.take_succ, ez]; rfl
    have D1 : 1 ≤ (tot (zs.take i)).2 := tot_pos fun y hy => d1 y (List.mem_of_mem_take hy)
    have Dn : 1 ≤ (tot (zs.take (i + 1))).2 := tot_pos fun y hy => d1 y (List.mem_of_mem_take hy)
    have st : tot (zs.take (i + 1)) = stepT (tot (zs.take i)) z := by rw [tk]; exact tot_snoc _ _
    have sb : Sz (redT (tot (zs.take i))).2 := L.sz i (Nat.le_of_lt il)
    have lo : Low (redT (tot (zs.take i))).1 (redT (tot (zs.take i))).2 := low_red D1 le
    have rs := red_step (N := (tot (zs.take i)).1) (D := (tot (zs.take i)).2) (c := z.2.1) (d := z.2.2) D1
    have rs1 : (redT (tot (zs.take (i + 1)))).1 = ((redT (tot (zs.take i))).1 * z.2.2 + z.2.1 * (redT (tot (zs.take i))).2) / Nat.gcd ((redT (tot (zs.take i))).1 * z.2.2 + z.2.1 * (redT (tot (zs.take i))).2) ((redT (tot (zs.take i))).2 * z.2.2) := by
      rw [st]; exact congrArg Prod.fst rs
    have rs2 : (redT (tot (zs.take (i + 1)))).2 = (redT (tot (zs.take i))).2 * z.2.2 / Nat.gcd ((redT (tot (zs.take i))).1 * z.2.2 + z.2.1 * (redT (tot (zs.take i))).2) ((redT (tot (zs.take i))).2 * z.2.2) := by
      rw [st]; exact congrArg Prod.snd rs
    have gt := div_gt (N := (tot (zs.take (i + 1))).1) (D := (tot (zs.take (i + 1))).2) (Nat.gcd_pos_of_pos_right _ Dn)
    have gt' : (redT (tot (zs.take (i + 1)))).2 < (redT (tot (zs.take (i + 1)))).1 ↔ (tot (zs.take (i + 1))).2 < (tot (zs.take (i + 1))).1 := gt
    have gr : (tot (zs.take (i + 1))).2 < (tot (zs.take (i + 1))).1 → (tot zs).2 < (tot zs).1 := fun g => by
      have := tot_grows (zs := zs.take (i + 1)) (ys := zs.drop (i + 1)) (fun y hy => d1 y (List.mem_of_mem_drop hy)) g
      rw [List.take_append_drop] at this
      exact this
    clear rs
    generalize (redT (tot (zs.take (i + 1)))).1 = m1 at rs1 gt' ⊢
    generalize (redT (tot (zs.take (i + 1)))).2 = m2 at rs2 gt' ⊢
    generalize (redT (tot (zs.take i))).1 = a at hq lo rs1 rs2
    generalize (redT (tot (zs.take i))).2 = b at hq sb lo rs1 rs2
    generalize z.2.1 = c at hz' lz rs1 rs2
    generalize z.2.2 = d at hz' lz sz rs1 rs2
    exact sum_turn lo lz sb sz hq hz' rs1 rs2 (fun l H1 x1 h1 hn => ⟨x.trans x1, Nat.le_of_not_lt fun g => hn (gt'.mpr g), l, _, rfl, h1⟩) (fun g e dx H1 x1 e1 e2 ne => q2 (gr (gt'.mp g)) e dx H1 (x.trans x1) e1 e2 ne)
  · rintro σ H' ⟨x, le, q, o, rfl, hq⟩
    rw [List.length_map, List.take_length] at le hq
    exact ⟨_, rfl, q1 le q H' x hq⟩
end
end My

/-! R5 -/
set_option Elab.async false
set_option linter.all false
set_option maxRecDepth 100000
set_option maxHeartbeats 1000000
set_option exponentiation.threshold 10000
namespace My
open PySem PySem.W L2
/-- // of numbers that no division by parts is asked for -/
def GDv (i j : Int) : Prop := 0 < j ∧ Builtin.divisionGoesByPylong i j = false
section
variable {X : Cx}
theorem op_gdv : OpR X (binaryOp .FloorDiv) (rI GDv fun i j => .int (i / j)) := opI fun i j _ _ _ _ _ hc q => by
  have z := hc.1
  exact PyProof.Rows.floordiv_int (by omega) (by rw [Int.fdiv_eq_ediv_of_nonneg i (Int.le_of_lt z)]; exact q) (.inl hc.2)
end
def Dv (a b : Nat) : Prop := Builtin.divisionGoesByPylong (a : Int) ((Nat.gcd a b : Nat) : Int) = false ∧ Builtin.divisionGoesByPylong (b : Int) ((Nat.gcd a b : Nat) : Int) = false
theorem Dv.sz {a b : Nat} (h1 : 1 ≤ b) (h : Sz b) : Dv a b := by
  have s : Sz (Nat.gcd a b) := h.mono (Nat.le_of_dvd h1 (Nat.gcd_dvd_right a b))
  exact ⟨PyProof.noPylong_of_log2 s.log, PyProof.noPylong_of_log2 s.log⟩
theorem noPy_same (x : Int) : Builtin.divisionGoesByPylong x x = false := by
  show (decide (_ > 300) && decide (_ > _ + 150)) = false
  rw [decide_eq_false (p := _ > _ + 150) (by omega), Bool.and_false]
theorem Dv.same {a : Nat} : Dv a a := by
  unfold Dv
  rw [Nat.gcd_self]
  exact ⟨noPy_same _, noPy_same _⟩
section
variable {P : Program} {w : World} {K : Frag} {mg : Str → Option Value} {base : Heap}
abbrev sCom : Stmt := top 18
theorem scCo : FnScope ["_law_one", "_law_other"] ["_law_one", "_law_other"] (defScope sCom) := ⟨rfl, rfl, rfl, by decide +kernel, rfl, by decide +kernel, by decide +kernel⟩
theorem ok_com {f : Addr} {fd : FuncData} (F : Fun K "_law_common" "_law_common" sCom f fd) : FnOk P w K mg base CX0 1 f fd ["_law_one", "_law_other"] spGcd := by
  refine F.ok scCo (fun vs H Q E h => ?_) (fun cdv A outer s H vs Q E hr h => ?_)
  · obtain ⟨c, lo, rfl, _⟩ := h
    rfl
  obtain ⟨a, b, rfl, q⟩ := h
  have nd := scCo.nd
  refine ⟨_, pss_cons (ps_while PassesOwn.never (pt_cmpR op_ne (pv 1) pe_int (nomark _)) (pss_one (ps_par (i := 0) (j := 1) rfl nd rfl rfl (by decide) rfl rfl (pa_cons (pv 1) (pa_cons (pe_op op_mod (pv 0) (pv 1)) pa_nil)) rfl))) (pss_one (ps_ret (pv 0))), ?_⟩
  refine while_by (fun σ H' => H' = H ∧ ∃ x y : Nat, σ = [some (.int x), some (.int y)] ∧ Nat.gcd x y = Nat.gcd a b) (fun σ _ => secN σ) ⟨rfl, a, b, rfl, rfl⟩ ?_ ?_
  · rintro σ H' ⟨rfl, x, y, rfl, e⟩
    refine ⟨_, rfl, rfl, _, rfl, ?_⟩
    refine ite2 (fun c => ?_) (fun c => ?_)
    · have c' : (0 : Int) < (y : Int) := by
        rcases Nat.eq_zero_or_pos y with z | z
        · subst z
          exact absurd c (by decide)
        · omega
      refine ⟨_, rfl, _, rfl, _, rfl, _, _, rfl, rfl, c', _, _, rfl, ⟨rfl, y, x % y, ?_, ?_⟩, ?_⟩
      · show [some (V.int y), some (V.int ((x : Int) % (y : Int)))] = _
        rw [show ((x : Int) % (y : Int)) = ((x % y : Nat) : Int) from by simp]
      · rw [← e, Nat.gcd_comm x y, Nat.gcd_rec y x, Nat.gcd_comm]
      · show ((x : Int) % (y : Int)).toNat < (y : Int).toNat
        have := Int.emod_lt_of_pos (x : Int) c'
        omega
    · have y0 : y = 0 := by
        rcases Nat.eq_zero_or_pos y with z | z
        · exact z
        · exfalso
          refine c ?_
          rw [decide_eq_false]
          · rfl
          · intro h
            injection h with h
            omega
      subst y0
      rw [Nat.gcd_zero_right] at e
      refine ⟨_, rfl, ?_⟩
      rw [e]
      exact q
  · rintro σ H Q Q' m ⟨x, e, h1, b, hb, q⟩
    exact ⟨x, e, h1, b, hb, m _ _ q⟩
abbrev sLow : Stmt := top 19
def spLow : Sp := fun vs H Q _ => ∃ a b : Nat, vs = [.int a, .int b] ∧ 1 ≤ b ∧ Dv a b ∧ ∀ p, H p = none → Q (.ref p) (upd H p (.tup [.int (a / Nat.gcd a b : Nat), .int (b / Nat.gcd a b : Nat)]))
theorem scLo : FnScope ["_law_top", "_law_bottom", "_law_by"] ["_law_top", "_law_bottom"] (defScope sLow) := ⟨rfl, rfl, rfl, by decide +kernel, rfl, by decide +kernel, by decide +kernel⟩
theorem ok_low {f g : Addr} {fd gd : FuncData} (F : Fun K "_law_lowest" "_law_lowest" sLow f fd) (G : FnOk P w K mg base CX0 1 g gd ["_law_one", "_law_other"] spGcd) (bG : Binds K gd ["_law_one", "_law_other"] []) (kG : PySem.W.keepIn K (.ref g) = true) (mG : mg "_law_common" = some (.ref g)) :
    FnOk P w K mg base CX0 2 f fd ["_law_top", "_law_bottom"] spLow := by
  refine F.ok scLo (fun vs H Q E h => ?_) (fun cdv A outer s H vs Q E hr h => ?_)
  · obtain ⟨c, lo, rfl, _⟩ := h
    rfl
  obtain ⟨a, b, rfl, h1, hb, q⟩ := h
  have nd := scLo.nd
  refine ⟨_, pss_cons (ps_set (i := 2) nd rfl (Or.inl rfl) (pe_call G hr rfl mG kG bG .nil pass0 (pa_cons (pv 0) (pa_cons (pv 1) pa_nil))))
    (pss_one (ps_ret (pe_tup (pa_cons (pe_op op_gdv (pv 0) (pv 2)) (pa_cons (pe_op op_gdv (pv 1) (pv 2)) pa_nil))))), ?_⟩
  have g0 : 0 < Nat.gcd a b := Nat.gcd_pos_of_pos_right a h1
  have gi : (0 : Int) < ((Nat.gcd a b : Nat) : Int) := by omega
  refine ⟨_, rfl, _, rfl, a, b, rfl, ?_⟩
  refine ⟨_, rfl, _, rfl, _, _, rfl, rfl, ⟨gi, hb.1⟩, _, rfl, _, rfl, _, _, rfl, rfl, ⟨gi, hb.2⟩, by show 2 ≤ sizeLine; decide, fun p hp => ?_⟩
  have e1 : ((a : Int) / ((Nat.gcd a b : Nat) : Int)) = ((a / Nat.gcd a b : Nat) : Int) := by simp
  have e2 : ((b : Int) / ((Nat.gcd a b : Nat) : Int)) = ((b / Nat.gcd a b : Nat) : Int) := by simp
  show Q (.ref p) (upd H p (.tup [.int ((a : Int) / ((Nat.gcd a b : Nat) : Int)), .int ((b : Int) / ((Nat.gcd a b : Nat) : Int))]))
  rw [e1, e2]
  exact q p hp
end
end My

/-! R6 -/
set_option Elab.async false
set_option linter.all false
set_option maxRecDepth 100000
set_option maxHeartbeats 4000000
set_option exponentiation.threshold 10000
namespace My
open PySem PySem.W L2
theorem big3000 : 3000 ≤ sizeLine := by decide
theorem b1000 {n : Nat} (h : n ≤ 10 ^ 990) : Builtin.Int.intBits ((n : Nat) : Int) ≤ 5000 := by
  unfold Builtin.Int.intBits
  split
  · exact Nat.zero_le _
  · rename_i hz
    have hn : n ≠ 0 := fun e => by subst e; exact hz rfl
    have h2 : n < 2 ^ 4000 := Nat.lt_of_le_of_lt h (by
      calc (10 : Nat) ^ 990 ≤ (2 ^ 4) ^ 990 := Nat.pow_le_pow_left (by decide) 990
        _ = 2 ^ 3960 := by rw [← Nat.pow_mul]
        _ < 2 ^ 4000 := Nat.pow_lt_pow_right (by decide) (by decide))
    have : n.log2 < 4000 := (Nat.log2_lt hn).mpr h2
    rw [Int.natAbs_natCast]
    omega
section
variable {P : Program} {w : World} {K : PySem.W.Frag} {mg : Str → Option Value} {base : Heap}
abbrev sGre : Stmt := top 28
def spGre : Sp := fun vs H Q _ => vs = [] ∧ ∀ p, H p = none → Q (.ref p) (upd H p (.tup [.int ((10 ^ 999 + 6 : Nat) : Int), .int ((10 ^ 999 + 7 : Nat) : Int)]))
theorem scGr : FnScope ["_law_number", "_law_k"] [] (defScope sGre) := ⟨rfl, rfl, rfl, by decide +kernel, rfl, by decide +kernel, by decide +kernel⟩
theorem pow_step (i : Nat) : ((10 ^ (27 * i) : Nat) : Int) * ((10 : Int) ^ Int.toNat 27) = ((10 ^ (27 * (i + 1)) : Nat) : Int) := by
  rw [show (10 : Int) ^ Int.toNat 27 = ((10 ^ 27 : Nat) : Int) from by decide, ← Int.natCast_mul, ← Nat.pow_add, Nat.mul_add]
theorem ok_gre {f : Addr} {fd : FuncData} (F : Fun K "_law_great" "_law_great" sGre f fd) (mr : mg "range" = none) : FnOk P w K mg base CX0 1 f fd [] spGre := by
  refine F.ok scGr (fun vs H Q E h => ?_) (fun cdv A outer s H vs Q E hr h => ?_)
  · obtain ⟨rfl, _⟩ := h
    rfl
  obtain ⟨rfl, q⟩ := h
  have nd := scGr.nd
  refine ⟨_, pss_cons (ps_set (i := 0) nd rfl (Or.inl rfl) pe_int)
    (pss_cons (ps_for PassesOwn.never rfl (pi_range1 rfl mr (pa_cons pe_int pa_nil)) (pg_name (i := 1) nd rfl (Or.inl rfl)) (pss_one (ps_set (i := 0) nd rfl (Or.inl rfl) (pe_op op_gmul (pv 0) (pe_op op_pow pe_int pe_int)))))
    (pss_one (ps_ret (pe_tup (pa_cons (pe_op op_add (pv 0) pe_int) (pa_cons (pe_op op_add (pv 0) pe_int) pa_nil)))))), ?_⟩
  refine ⟨37, rfl, by decide, by decide, for_range (n := 37) (fun i σ H' => H' = H ∧ i ≤ 37 ∧ ∃ b, σ = [some (.int ((10 ^ (27 * i) : Nat) : Int)), b]) ⟨rfl, by decide, none, rfl⟩ ?_ ?_⟩
  · rintro i σ H' hi ⟨rfl, _, b, rfl⟩
    refine ⟨_, rfl, _, _, rfl, rfl, ⟨by decide, by decide, by decide⟩, _, _, rfl, rfl, ?_, rfl, by omega, some (.int (0 + (i : Int))), ?_⟩
    · show Builtin.Int.intBits _ + Builtin.Int.intBits _ ≤ 1000000
      have b1 := b1000 (n := 10 ^ (27 * i)) (Nat.pow_le_pow_right (by decide) (by omega))
      have b2 : Builtin.Int.intBits ((10 : Int) ^ Int.toNat 27) ≤ 100 := by decide +kernel
      omega
    · show [some (V.int (((10 ^ (27 * i) : Nat) : Int) * ((10 : Int) ^ Int.toNat 27))), some (V.int (0 + (i : Int)))] = _
      rw [pow_step]
  · rintro σ H' ⟨rfl, _, b, rfl⟩
    refine ⟨_, rfl, _, _, rfl, rfl, _, rfl, _, _, rfl, rfl, by show 2 ≤ sizeLine; decide, fun p hp => ?_⟩
    have e1 : ((10 ^ 999 + 6 : Nat) : Int) = ((10 ^ (27 * 37) : Nat) : Int) + 6 := by rw [Int.natCast_add]; rfl
    have e2 : ((10 ^ 999 + 7 : Nat) : Int) = ((10 ^ (27 * 37) : Nat) : Int) + 7 := by rw [Int.natCast_add]; rfl
    have := q p hp
    rw [e1, e2] at this
    exact this
abbrev sSha : Stmt := top 20
/-- a new share; all but the purse is as it was -/
def spSha (K : PySem.W.Frag) : Sp := fun vs H Q _ => ∃ p, vs = [.ref p] ∧ PurseAt H p ∧ ∀ (r : Addr) (t b : Nat) (H' : Hp), SqT K H' r [.int t, .int b] → Low t b → t ≤ 10 ^ 160 → b ≤ 10 ^ 160 → PurseAt H' p → Kept H H' p → r ≠ p → Q (.ref r) H'
theorem scSh : FnScope ["_law_purse_here", "_law_way", "_law_bottom", "_law_base", "_law_k", "_law_top"] ["_law_purse_here"] (defScope sSha) := ⟨rfl, rfl, rfl, by decide +kernel, rfl, by decide +kernel, by decide +kernel⟩
end
theorem pow_le {B i : Nat} (h : B ≤ 10 ^ 8) (hi : i ≤ 20) : B ^ i ≤ 10 ^ 160 := by
  calc B ^ i ≤ (10 ^ 8) ^ i := Nat.pow_le_pow_left h i
    _ = 10 ^ (8 * i) := by rw [← Nat.pow_mul]
    _ ≤ 10 ^ 160 := Nat.pow_le_pow_right (by decide) (by omega)
theorem sz_of {n : Nat} (h : n ≤ 10 ^ 2691) : Sz n := by
  refine Nat.lt_of_le_of_lt h ?_
  calc (10 : Nat) ^ 2691 = (10 ^ 3) ^ 897 := by rw [← Nat.pow_mul]
    _ ≤ (2 ^ 10) ^ 897 := Nat.pow_le_pow_left (by decide) 897
    _ = 2 ^ 8970 := by rw [← Nat.pow_mul]
    _ < 2 ^ 8999 := Nat.pow_lt_pow_right (by decide) (by decide)
theorem sz160 {n : Nat} (h : n ≤ 10 ^ 160) : Sz n := sz_of (Nat.le_trans h (Nat.pow_le_pow_right (by decide) (by decide)))
theorem le1000 {n : Nat} (h : n ≤ 10 ^ 160) : n < 10 ^ 1000 := Nat.lt_of_le_of_lt h (Nat.pow_lt_pow_right (by decide) (by decide))
theorem Kept.ext {H H1 H2 : Hp} {p : Addr} (x : Kept H H1 p) (y : Ext H1 H2) : Kept H H2 p := fun b o h n => y b o (x b o h n)
theorem PurseAt.ext {H H' : Hp} {p : Addr} (x : PurseAt H p) (y : Ext H H') : PurseAt H' p := x.keep fun o e => y p o e
theorem PurseAt.ne {H : Hp} {p q : Addr} (x : PurseAt H p) (h : H q = none) : q ≠ p := fun e => by
  obtain ⟨o, ho⟩ := x.there
  rw [← e, h] at ho
  cases ho
theorem Ext.kept {H H' : Hp} (x : Ext H H') (p : Addr) : Kept H H' p := fun b o h _ => x b o h
def rInt1 : List V → Hp → VK → Prop := fun xs H Q => (∃ i, xs = [.int i] ∧ Q (.int i) H) ∨ ∃ k, xs = [.bl k] ∧ Q (.int (if k then 1 else 0)) H
def rMin2 : List V → Hp → VK → Prop := fun xs H Q => ∃ i j, xs = [.int i, .int j] ∧ Q (.int (if j < i then j else i)) H
def rPow : R2 := rI CPow fun i j => .int (i ^ j.toNat)
def rMul : R2 := rI CMul fun i j => .int (i * j)
def rDiv : R2 := rI CDiv fun i j => .int (i / j)
def rAdd : R2 := rI0 fun i j => .int (i + j)
def tkT (n : Int) : TE := tCall spTake [] E0 (tCons (tVar 0) (tCons (tC (.int n)) tNil))
def t108 : TE := tOp rPow (tC (.int 10)) (tC (.int 8))
def tkP : TE := tCall spTake [] E0 (tCons (tVar 0) (tCons t108 tNil))
def tPr (a b : Int) : TE := tTup (tCons (tC (.int a)) (tCons (tC (.int b)) tNil))
def tW1 (K : PySem.W.Frag) : TE := tOp (rIxL K) (tLst (tCons (tPr 0 1) (tCons (tPr 1 1) (tCons (tPr 1 2) tNil)))) (tkT 3)
def tW2 (K : PySem.W.Frag) : TE := tOp rAdd (tC (.int 1)) (tOp (rIxL K) (tLst (tCons (tkT 12) (tCons (tkT 1000) (tCons tkP tNil)))) (tkT 3))
def tW4 : TS := tFor (iRng1 (tCons (tOp rMul (tkT 20) (tCB rInt1 (tCons (tOp rEq (tVar 1) (tC (.int 1))) tNil))) tNil)) (gName 4) (tAsg (tOp rMul (tVar 2) (tVar 3)) (gName 2))
def tW5 : TE := tOp rAdd (tOp rDiv (tOp rMul tkP (tVar 2)) t108) (tkT 3)
def tW6 : TE := tCall spLow [] E0 (tCons (tCB rMin2 (tCons (tVar 5) (tCons (tVar 2) tNil))) (tCons (tVar 2) tNil))
def tShaB (K : PySem.W.Frag) : TS := tSeq (tAsg (tkT 6) (gName 1)) (tSeq (tIfS (tTest (tOp rEq (tVar 1) (tC (.int 0)))) (tRet (tW1 K)) tNext) (tSeq (tAsg (tW2 K) (gName 2)) (tSeq (tAsg (tVar 2) (gName 3)) (tSeq tW4 (tSeq (tAsg tW5 (gName 5)) (tRet tW6))))))
abbrev NSh : List Str := ["_law_purse_here", "_law_way", "_law_bottom", "_law_base", "_law_k", "_law_top"]
section
variable {P : Program} {w : World} {K : PySem.W.Frag} {mg : Str → Option Value} {base : Heap}
theorem sha_der {f g k : Addr} {gd kd : FuncData} {cdv : Value} {A : Around} {outer : List Env} {s : Shared} {H : Hp} {E : XK} (G : FnOk P w K mg base CX0 1 g gd ["_law_purse_here", "_law_many"] spTake) (bG : Binds K gd ["_law_purse_here", "_law_many"] []) (kG : PySem.W.keepIn K (.ref g) = true) (mG : mg "_law_take" = some (.ref g))
    (W : FnOk P w K mg base CX0 2 k kd ["_law_top", "_law_bottom"] spLow) (bW : Binds K kd ["_law_top", "_law_bottom"] []) (kW : PySem.W.keepIn K (.ref k) = true) (mW : mg "_law_lowest" = some (.ref k))
    (mr : mg "range" = none) (m1 : mg "int" = none) (mm : mg "min" = none)
    (hr : Room 2 (A.deeper (PyProof.Rows.envOfC "_law_share" (defScope sSha) s.heap.objs.size f cdv))) : PSs (cxOf CX0 P w K mg base NSh "_law_share" (defScope sSha) f cdv A outer s H E).nox (defBody sSha) (tShaB K) := by
  have nd := scSh.nd
  have hr1 : Room 1 _ := hr.mono (show 1 ≤ 2 by decide)
  exact pss_cons (ps_set (i := 1) nd rfl (Or.inl rfl) (pe_call G hr1 rfl mG kG bG .nil pass0 (pa_cons (pv 0) (pa_cons pe_int pa_nil))))
    (pss_cons (ps_if (pt_cmpR op_eq (pv 1) pe_int (nomark _)) (pss_one (ps_ret (pe_ix ix_list (pe_lst (pa_cons (pe_tup (pa_cons pe_int (pa_cons pe_int pa_nil))) (pa_cons (pe_tup (pa_cons pe_int (pa_cons pe_int pa_nil))) (pa_cons (pe_tup (pa_cons pe_int (pa_cons pe_int pa_nil))) pa_nil))))
      (pe_call G hr1 rfl mG kG bG .nil pass0 (pa_cons (pv 0) (pa_cons pe_int pa_nil))) (fun _ _ => rfl)))) pss_nil)
    (pss_cons (ps_set (i := 2) nd rfl (Or.inl rfl) (pe_op op_add pe_int (pe_ix ix_list (pe_lst (pa_cons (pe_call G hr1 rfl mG kG bG .nil pass0 (pa_cons (pv 0) (pa_cons pe_int pa_nil))) (pa_cons (pe_call G hr1 rfl mG kG bG .nil pass0 (pa_cons (pv 0) (pa_cons pe_int pa_nil)))
      (pa_cons (pe_call G hr1 rfl mG kG bG .nil pass0 (pa_cons (pv 0) (pa_cons (pe_op op_pow pe_int pe_int) pa_nil))) pa_nil)))) (pe_call G hr1 rfl mG kG bG .nil pass0 (pa_cons (pv 0) (pa_cons pe_int pa_nil))) (fun _ _ => rfl))))
    (pss_cons (ps_set (i := 3) nd rfl (Or.inl rfl) (pv 2))
    (pss_cons (ps_for PassesOwn.never rfl (pi_range1 rfl mr (pa_cons (pe_op op_mul (pe_call G hr1 rfl mG kG bG .nil pass0 (pa_cons (pv 0) (pa_cons pe_int pa_nil))) (pe_callTy call_int1 rfl m1 PyProof.Rows.boot_int (pa_cons (pe_cmpR op_eq (pv 1) pe_int (nomark _)) pa_nil))) pa_nil)) (pg_name (i := 4) nd rfl (Or.inl rfl))
      (pss_one (ps_set (i := 2) nd rfl (Or.inl rfl) (pe_op op_mul (pv 2) (pv 3)))))
    (pss_cons (ps_set (i := 5) nd rfl (Or.inl rfl) (pe_op op_add (pe_op op_fdiv (pe_op op_mul (pe_call G hr1 rfl mG kG bG .nil pass0 (pa_cons (pv 0) (pa_cons (pe_op op_pow pe_int pe_int) pa_nil))) (pv 2)) (pe_op op_pow pe_int pe_int)) (pe_call G hr1 rfl mG kG bG .nil pass0 (pa_cons (pv 0) (pa_cons pe_int pa_nil)))))
    (pss_one (ps_ret (pe_call W hr rfl mW kW bW .nil pass0 (pa_cons (pe_callB (call_min2 rfl) rfl mm PyProof.Rows.boot_min (pa_cons (pv 5) (pa_cons (pv 2) pa_nil))) (pa_cons (pv 2) pa_nil))))))))))
end
theorem rd_take {n : Int} {σ : St} {H : Hp} {Q : VK} {p : Addr} (h0 : σ[0]? = some (some (.ref p))) (hp : PurseAt H p) (a : 0 < n) (b : n < 1073741824)
    (q : ∀ r H', 0 ≤ r → r < n → PurseAt H' p → Kept H H' p → (∀ b, H b = none → H' b = none) → Q (.int r) H') : tkT n σ H Q := ⟨_, h0, p, n, rfl, hp, a, b, q⟩
theorem e108 : (10 : Int) ^ Int.toNat 8 = 100000000 := by decide
theorem rd_108 {σ : St} {H : Hp} {Q : VK} (q : Q (.int 100000000) H) : t108 σ H Q := by
  refine ⟨_, _, rfl, rfl, ⟨by decide, by decide, by decide⟩, ?_⟩
  show Q (.int ((10 : Int) ^ Int.toNat 8)) H
  rw [e108]; exact q
theorem rd_takeP {σ : St} {H : Hp} {Q : VK} {p : Addr} (h0 : σ[0]? = some (some (.ref p))) (hp : PurseAt H p)
    (q : ∀ r H', 0 ≤ r → r < 100000000 → PurseAt H' p → Kept H H' p → (∀ b, H b = none → H' b = none) → Q (.int r) H') : tkP σ H Q := by
  refine ⟨_, h0, ?_⟩
  refine rd_108 ?_
  exact ⟨p, 100000000, rfl, hp, by decide, by decide, q⟩
theorem one160 : 1 ≤ 10 ^ 160 := Nat.pow_pos (by decide)
theorem two160 : 2 ≤ 10 ^ 160 := Nat.le_trans (by decide : 2 ≤ 10 ^ 1) (Nat.pow_le_pow_right (by decide) (by decide))
theorem of3 {r : Int} (h0 : 0 ≤ r) (h : r < 3) : r = 0 ∨ r = 1 ∨ r = 2 := by omega
theorem sh1 {K : PySem.W.Frag} {σ : St} {H : Hp} {Q : VK} {p : Addr} (h0 : σ[0]? = some (some (.ref p))) (hp : PurseAt H p)
    (q : ∀ (r : Addr) (t b : Nat) (H' : Hp), SqT K H' r [.int t, .int b] → Low t b → t ≤ 10 ^ 160 → b ≤ 10 ^ 160 → PurseAt H' p → Kept H H' p → r ≠ p → Q (.ref r) H') : tW1 K σ H Q := by
  refine ⟨by show 2 ≤ sizeLine; decide, fun a1 h1 => ⟨by show 2 ≤ sizeLine; decide, fun a2 h2 => ⟨by show 2 ≤ sizeLine; decide, fun a3 h3 => ⟨by show 3 ≤ sizeLine; decide, fun l hl => ?_⟩⟩⟩⟩
  have x1 := Ext.new (o := .tup [V.int 0, V.int 1]) h1
  have x2 := Ext.new (o := .tup [V.int 1, V.int 1]) h2
  have x3 := Ext.new (o := .tup [V.int 1, V.int 2]) h3
  have x4 := Ext.new (o := .lst [V.ref a1, V.ref a2, V.ref a3]) hl
  have e1 := x4 _ _ (x3 _ _ (x2 a1 _ upd_same))
  have e2 := x4 _ _ (x3 a2 _ upd_same)
  have e3 := x4 a3 _ upd_same
  have n1 := hp.ne h1
  have n2 := (hp.ext x1).ne h2
  have n3 := (hp.ext (x1.trans x2)).ne h3
  have n4 := (hp.ext ((x1.trans x2).trans x3)).ne hl
  have xx := ((x1.trans x2).trans x3).trans x4
  have e4 : upd (upd (upd (upd H a1 (.tup [V.int 0, V.int 1])) a2 (.tup [V.int 1, V.int 1])) a3 (.tup [V.int 1, V.int 2])) l (.lst [V.ref a1, V.ref a2, V.ref a3]) l = some (.lst [V.ref a1, V.ref a2, V.ref a3]) := upd_same
  generalize upd (upd (upd (upd H a1 (.tup [V.int 0, V.int 1])) a2 (.tup [V.int 1, V.int 1])) a3 (.tup [V.int 1, V.int 2])) l (.lst [V.ref a1, V.ref a2, V.ref a3]) = H2 at xx e1 e2 e3 e4
  refine rd_take h0 (hp.ext xx) (by decide) (by decide) fun r H3 r0 r3 hp3 k3 _ => ?_
  have kk := (Ext.kept xx p).trans k3
  rcases of3 r0 r3 with rfl | rfl | rfl
  · exact ⟨l, _, _, _, rfl, rfl, SqL.of (k3 _ _ e4 n4), rfl, q a1 0 1 H3 (SqT.of (k3 _ _ e1 n1)) ⟨by decide, by decide, by decide⟩ (Nat.zero_le _) (one160) hp3 kk n1⟩
  · exact ⟨l, _, _, _, rfl, rfl, SqL.of (k3 _ _ e4 n4), rfl, q a2 1 1 H3 (SqT.of (k3 _ _ e2 n2)) ⟨by decide, by decide, by decide⟩ (one160) (one160) hp3 kk n2⟩
  · exact ⟨l, _, _, _, rfl, rfl, SqL.of (k3 _ _ e4 n4), rfl, q a3 1 2 H3 (SqT.of (k3 _ _ e3 n3)) ⟨by decide, by decide, by decide⟩ (one160) two160 hp3 kk n3⟩
theorem sh2 {K : PySem.W.Frag} {σ : St} {H : Hp} {Q : VK} {p : Addr} (h0 : σ[0]? = some (some (.ref p))) (hp : PurseAt H p)
    (q : ∀ (B : Nat) (H' : Hp), 1 ≤ B → B ≤ 10 ^ 8 → PurseAt H' p → Kept H H' p → Q (.int (B : Nat)) H') : tW2 K σ H Q := by
  refine rd_take h0 hp (by decide) (by decide) fun r1 H1 a1 b1 hp1 k1 _ => ?_
  refine rd_take h0 hp1 (by decide) (by decide) fun r2 H2 a2 b2 hp2 k2 _ => ?_
  refine rd_takeP h0 hp2 fun r3 H3 a3 b3 hp3 k3 _ => ?_
  refine ⟨by show 3 ≤ sizeLine; decide, fun l hl => ?_⟩
  have x4 := Ext.new (o := .lst [V.int r1, V.int r2, V.int r3]) hl
  have nl := hp3.ne hl
  have e4 : upd H3 l (.lst [V.int r1, V.int r2, V.int r3]) l = some (.lst [V.int r1, V.int r2, V.int r3]) := upd_same
  have hp4 := hp3.ext x4
  have k4 := (((k1.trans k2).trans k3).ext x4)
  generalize upd H3 l (.lst [V.int r1, V.int r2, V.int r3]) = H4 at e4 hp4 k4
  refine rd_take h0 hp4 (by decide) (by decide) fun r H5 r0 r3' hp5 k5 _ => ?_
  have kk := k4.trans k5
  have fin : ∀ x : Int, 0 ≤ x → x < 100000000 → Q (.int (1 + x)) H5 := fun x h1 h2 => by
    have e : (1 + x : Int) = ((1 + x).toNat : Int) := by omega
    rw [e]
    exact q _ H5 (by omega) (by show _ ≤ 100000000; omega) hp5 kk
  rcases of3 r0 r3' with rfl | rfl | rfl
  · exact ⟨l, _, _, _, rfl, rfl, SqL.of (k5 _ _ e4 nl), rfl, _, _, rfl, rfl, fin r1 a1 (by omega)⟩
  · exact ⟨l, _, _, _, rfl, rfl, SqL.of (k5 _ _ e4 nl), rfl, _, _, rfl, rfl, fin r2 a2 (by omega)⟩
  · exact ⟨l, _, _, _, rfl, rfl, SqL.of (k5 _ _ e4 nl), rfl, _, _, rfl, rfl, fin r3 a3 (by omega)⟩
theorem sh4 {D : Ends} {H : Hp} {p : Addr} {way : Int} {B : Nat} {o4 o5 : Option V} (hp : PurseAt H p) (hB : B ≤ 10 ^ 8)
    (q : ∀ (i : Nat) (o : Option V) (H' : Hp), i ≤ 19 → PurseAt H' p → Kept H H' p → D.nx [some (.ref p), some (.int way), some (.int (B ^ (i + 1) : Nat)), some (.int B), o, o5] H') :
    tW4 D [some (.ref p), some (.int way), some (.int B), some (.int B), o4, o5] H := by
  refine rd_take rfl hp (by decide) (by decide) fun r H1 a1 b1 hp1 k1 _ => ?_
  refine ⟨_, rfl, rfl, .inr ⟨_, rfl, ?_⟩⟩
  obtain ⟨n, hn, en⟩ : ∃ n : Nat, n ≤ 19 ∧ r * (if decide (V.int way = V.int 1) = true then 1 else 0) = (n : Int) := by
    by_cases c : decide (V.int way = V.int 1) = true
    · rw [if_pos c]; exact ⟨r.toNat, by omega, by omega⟩
    · rw [if_neg c]; exact ⟨0, by decide, by omega⟩
  refine ⟨_, _, rfl, rfl, .inl ⟨by omega, by omega⟩, (n : Int), ?_, by omega, by omega, ?_⟩
  · show [V.int (r * (if decide (V.int way = V.int 1) = true then 1 else 0))] = _
    rw [en]
  refine for_range (n := n) (fun i σ H' => H' = H1 ∧ i ≤ 19 ∧ ∃ o, σ = [some (.ref p), some (.int way), some (.int (B ^ (i + 1) : Nat)), some (.int B), o, o5]) ⟨rfl, by decide, o4, by rw [Nat.zero_add, Nat.pow_one]⟩ ?_ ?_
  · rintro i σ H' hi ⟨rfl, _, o, rfl⟩
    refine ⟨_, rfl, _, rfl, _, _, rfl, rfl, .inr ⟨by omega, ?_⟩, rfl, by omega, some (.int (0 + (i : Int))), ?_⟩
    · have : (10 : Nat) ^ 8 = 100000000 := by decide
      omega
    · show [some (V.ref p), some (.int way), some (V.int (((B ^ (i + 1) : Nat) : Int) * (B : Int))), some (.int B), some (V.int (0 + (i : Int))), o5] = _
      rw [← Int.natCast_mul, ← Nat.pow_succ]
  · rintro σ H' ⟨rfl, _, o, rfl⟩
    exact q n o _ hn hp1 k1
theorem sh5 {Q : VK} {H : Hp} {p : Addr} {b : Nat} {o1 o3 o4 o5 : Option V} (hp : PurseAt H p)
    (q : ∀ (t : Nat) (H' : Hp), PurseAt H' p → Kept H H' p → Q (.int (t : Nat)) H') : tW5 [some (.ref p), o1, some (.int (b : Nat)), o3, o4, o5] H Q := by
  refine rd_takeP rfl hp fun r H1 a1 b1 hp1 k1 _ => ?_
  refine ⟨_, rfl, _, _, rfl, rfl, .inl ⟨by omega, by omega⟩, ?_⟩
  refine rd_108 ?_
  refine ⟨_, _, rfl, rfl, ⟨by decide, by decide⟩, ?_⟩
  refine rd_take rfl hp1 (by decide) (by decide) fun r2 H2 a2 b2 hp2 k2 _ => ?_
  refine ⟨_, _, rfl, rfl, ?_⟩
  have h1 : 0 ≤ r * (b : Int) / 100000000 := Int.ediv_nonneg (Int.mul_nonneg a1 (by omega)) (by decide)
  have e : r * (b : Int) / 100000000 + r2 = ((r * (b : Int) / 100000000 + r2).toNat : Int) := by omega
  show Q (V.int (r * (b : Int) / 100000000 + r2)) H2
  rw [e]
  exact q _ H2 hp2 (k1.trans k2)
theorem sh6 {Q : VK} {H : Hp} {p : Addr} {b t : Nat} {o0 o1 o3 o4 : Option V} {K : PySem.W.Frag} (h1 : 1 ≤ b) (hb : b ≤ 10 ^ 160) (hp : PurseAt H p)
    (q : ∀ (r : Addr) (t b : Nat) (H' : Hp), SqT K H' r [.int t, .int b] → Low t b → t ≤ 10 ^ 160 → b ≤ 10 ^ 160 → PurseAt H' p → Kept H H' p → r ≠ p → Q (.ref r) H') : tW6 [o0, o1, some (.int (b : Nat)), o3, o4, some (.int (t : Nat))] H Q := by
  refine ⟨_, rfl, _, rfl, _, _, rfl, ?_⟩
  obtain ⟨m, em, hm⟩ : ∃ m : Nat, (if (b : Int) < (t : Int) then (b : Int) else (t : Int)) = (m : Int) ∧ m ≤ b := by
    by_cases c : (b : Int) < (t : Int)
    · rw [if_pos c]; exact ⟨b, rfl, Nat.le_refl _⟩
    · rw [if_neg c]; exact ⟨t, rfl, by omega⟩
  rw [em]
  refine ⟨_, rfl, m, b, rfl, h1, Dv.sz h1 (sz160 hb), fun r hr => ?_⟩
  have le1 : m / Nat.gcd m b ≤ 10 ^ 160 := Nat.le_trans (Nat.div_le_self _ _) (Nat.le_trans hm hb)
  have le2 : b / Nat.gcd m b ≤ 10 ^ 160 := Nat.le_trans (Nat.div_le_self _ _) hb
  exact q r _ _ _ (SqT.of upd_same) (low_red h1 hm) le1 le2 (hp.new hr) (Kept.new (Kept.refl _ _) hr) (hp.ne hr)
section
variable {P : Program} {w : World} {K : PySem.W.Frag} {mg : Str → Option Value} {base : Heap}
theorem sha_rd {H : Hp} {Q : VK} {p : Addr} {bk ct : St → Hp → Prop} {nx : St → Hp → Prop} (hp : PurseAt H p)
    (q : ∀ (r : Addr) (t b : Nat) (H' : Hp), SqT K H' r [.int t, .int b] → Low t b → t ≤ 10 ^ 160 → b ≤ 10 ^ 160 → PurseAt H' p → Kept H H' p → r ≠ p → Q (.ref r) H') :
    tShaB K ⟨nx, Q, bk, ct⟩ [some (.ref p), none, none, none, none, none] H := by
  refine rd_take rfl hp (by decide) (by decide) fun way H1 a1 b1 hp1 k1 _ => ?_
  refine ⟨_, rfl, rfl, _, rfl, ?_⟩
  refine ite2 (fun c => ?_) (fun c => ?_)
  · exact sh1 rfl hp1 fun r t b H' h1 h2 h3 h4 h5 h6 h7 => q r t b H' h1 h2 h3 h4 h5 (k1.trans h6) h7
  refine sh2 rfl hp1 fun B H2 B1 B8 hp2 k2 => ?_
  refine ⟨_, rfl, ?_⟩
  refine sh4 hp2 B8 fun i o H3 hi hp3 k3 => ?_
  refine sh5 hp3 fun t H4 hp4 k4 => ?_
  exact sh6 (Nat.pow_pos (by omega)) (pow_le B8 (by omega)) hp4 fun r t b H' h1 h2 h3 h4 h5 h6 h7 => q r t b H' h1 h2 h3 h4 h5 ((((k1.trans k2).trans k3).trans k4).trans h6) h7
theorem ok_sha {f g k : Addr} {fd gd kd : FuncData} (F : Fun K "_law_share" "_law_share" sSha f fd) (G : FnOk P w K mg base CX0 1 g gd ["_law_purse_here", "_law_many"] spTake) (bG : Binds K gd ["_law_purse_here", "_law_many"] []) (kG : PySem.W.keepIn K (.ref g) = true) (mG : mg "_law_take" = some (.ref g))
    (W : FnOk P w K mg base CX0 2 k kd ["_law_top", "_law_bottom"] spLow) (bW : Binds K kd ["_law_top", "_law_bottom"] []) (kW : PySem.W.keepIn K (.ref k) = true) (mW : mg "_law_lowest" = some (.ref k))
    (mr : mg "range" = none) (m1 : mg "int" = none) (mm : mg "min" = none) : FnOk P w K mg base CX0 3 f fd ["_law_purse_here"] (spSha K) := by
  refine F.ok scSh (fun vs H Q E h => ?_) (fun cdv A outer s H vs Q E hr h => ?_)
  · obtain ⟨p, rfl, _⟩ := h
    rfl
  obtain ⟨p, rfl, hp, q⟩ := h
  exact ⟨_, sha_der G bG kG mG W bW kW mW mr m1 mm hr, sha_rd hp q⟩
end
end My

/-! R7 -/
set_option Elab.async false
set_option linter.all false
set_option maxRecDepth 100000
set_option maxHeartbeats 4000000
set_option exponentiation.threshold 5000
namespace My
open PySem PySem.W L2
def rIsB (K : PySem.W.Frag) : List V → Hp → VK → Prop := fun vs H Q => ∃ x n t b, vs = [x, .ty n] ∧ TyOf K H x t ∧ PySem.W.kitOne K t (.type n) = some b ∧ Q (.bl b) H
theorem call_isB {X : Cx} : CallR X (.builtin "isinstance") (rIsB X.K) := by
  intro pins s σ H xs us Q I r h
  obtain ⟨x, n, t, b, rfl, ty, e, q⟩ := h
  obtain ⟨u, u', rfl, ru, ru'⟩ := vals2 r
  cases (show u' = Value.type n from ru')
  exact isinst_ok I ru ty e fun tk => ⟨.bl b, H, I.tok _, rfl, q⟩
def rIsT (K : PySem.W.Frag) : List V → Hp → VK → Prop := fun vs H Q => ∃ p xs n b, vs = [.ref p, .ty n] ∧ SqT K H p xs ∧ PySem.W.kitOne K (.type "tuple") (.type n) = some b ∧ Q (.bl b) H
theorem call_isT {X : Cx} : CallR X (.builtin "isinstance") (rIsT X.K) := by
  intro pins s σ H xs us Q I r h
  obtain ⟨p, ys, n, b, rfl, hq, e, q⟩ := h
  obtain ⟨u, u', rfl, ru, ru'⟩ := vals2 r
  cases (show u' = Value.type n from ru')
  cases (show u = Value.ref p from ru)
  obtain ⟨its, _, ⟨o, h1, h2, _⟩, _⟩ := I.tuple hq
  exact PySem.W.kia_one PySem.W.kitx_tuple I.kIn ⟨o, h1, h2⟩ e (fun z => nomatch z) fun tk => ⟨.bl b, H, I.tok _, rfl, q⟩
theorem eqVs2 (a b c d : Nat) : eqVs [.int a, .int b] [.int c, .int d] = (decide (a = c) && decide (b = d)) := by
  show (((a : Int) == (c : Int)) && (((b : Int) == (d : Int)) && true)) = _
  rw [Bool.and_true, Bool.eq_iff_iff, Bool.and_eq_true, Bool.and_eq_true, beq_iff_eq, beq_iff_eq, decide_eq_true_iff, decide_eq_true_iff]
  omega
/-- the two shares that stand at the top -/
abbrev scPartC : Scope := { kind := .function, names := [(".0", .local), ("_law_part", .local), ("isinstance", .globalImplicit), ("int", .globalImplicit), ("bool", .globalImplicit)], isGenerator := false, isCoroutine := false }
theorem no_cell2 {ns : List (Str × NameKind)} (h : ∀ p ∈ ns, p.2 ≠ .cell ∧ p.2 ≠ .free) (z : Str) : ¬ (List.lookup z ns = some .cell ∨ List.lookup z ns = some .free) := by
  induction ns with
  | nil => simp
  | cons p ns ih =>
    obtain ⟨a, k⟩ := p
    have hk := h (a, k) (List.mem_cons_self ..)
    rw [List.lookup_cons]
    split
    · intro q
      rcases q with q | q
      · exact hk.1 (Option.some.inj q)
      · exact hk.2 (Option.some.inj q)
    · exact ih fun p hp => h p (List.mem_cons_of_mem _ hp)
theorem compA {X : Cx} : CompSc X scPartC [] "_law_part" [] [] := by
  refine ⟨rfl, rfl, by decide +kernel, by decide +kernel, by decide +kernel, (fun _ _ h => nomatch h), (fun z h => ?_), by decide +kernel, (fun k z h => nomatch h), rfl⟩
  have e : (relabel scPartC X.env).names = scPartC.names := rfl
  rw [e] at h
  exact absurd h (no_cell2 (by decide +kernel) z)
theorem k_ii {K : Frag} : kitOne K (.type "int") (.type "int") = some true := rfl
theorem k_ib {K : Frag} : kitOne K (.type "int") (.type "bool") = some false := rfl
theorem k_tt {K : Frag} : kitOne K (.type "tuple") (.type "tuple") = some true := rfl
theorem k_bb {K : Frag} : kitOne K (.type "bool") (.type "bool") = some true := rfl
section
variable {P : Program} {w : World} {K : Frag} {mg : Str → Option Value} {base : Heap}
abbrev sIs : Stmt := top 21
def spIs (K : PySem.W.Frag) : Sp := fun vs H Q _ => ∃ p q, ∃ t b : Nat, vs = [.ref p, .ref q] ∧ SqT K H p [.int t, .int b] ∧ SqT K H q [.int t, .int b] ∧ ∀ H', Ext H H' → Q (.bl true) H'
theorem scIs : FnScope ["_law_found", "_law_due"] ["_law_found", "_law_due"] (defScope sIs) := ⟨rfl, rfl, rfl, by decide +kernel, rfl, by decide +kernel, by decide +kernel⟩
theorem eqVs_refl2 (t b : Nat) : eqVs [.int t, .int b] [.int t, .int b] = true := by rw [eqVs2]; simp
theorem ok_is {f : Addr} {fd : FuncData} (F : Fun K "_law_is" "_law_is" sIs f fd) (mi : mg "isinstance" = none) (mt : mg "tuple" = none) (ml : mg "len" = none) (m1 : mg "int" = none) (m2 : mg "bool" = none) :
    FnOk P w K mg base CX0 1 f fd ["_law_found", "_law_due"] (spIs K) := by
  refine F.ok scIs (fun vs H Q E h => ?_) (fun cdv A outer s H vs Q E hr h => ?_)
  · obtain ⟨p, q, t, b, rfl, _⟩ := h
    rfl
  obtain ⟨p, q, t, b, rfl, hp, hq, k⟩ := h
  have hu : (A.deeper (PyProof.Rows.envOfC "_law_is" (defScope sIs) s.heap.objs.size f cdv)).units < cLine := hr.units0
  refine ⟨_, pss_cons (ps_if (PW.pt (pw_or (pt_not (pt_val (pe_callB call_isT rfl mi PyProof.Rows.boot_isinstance (pa_cons (pv 0) (pa_cons (pe_ty rfl mt PyProof.Rows.boot_tuple) pa_nil))))) (pw_or (pt_cmpR op_ne (pe_callB call_len_seq rfl ml PySem.boot_len (pa_cons (pv 0) pa_nil)) pe_int (nomark _)) (pw_or1 (pt_cmpR (op_neT hu) (pv 0) (pv 1) (nomark _)))))) (pss_one (ps_ret pe_bl)) pss_nil)
    (pss_one (ps_ret (pe_cmpR (op_eqNil hu) (pe_lcIf (te := tVar 0) (tt := tOr (tNot (tB (tCB (rIsB K) (tCons (tVar 0) (tCons (tC (.ty "int")) tNil))))) (tB (tCB (rIsB K) (tCons (tVar 0) (tCons (tC (.ty "bool")) tNil))))) rfl compA (pi_tup (pv 0))
      (fun s H C fp => by exact PW.pt (pw_or (pt_not (pt_val (pe_callB call_isB rfl mi PyProof.Rows.boot_isinstance (pa_cons (pv 0) (pa_cons (pe_ty rfl m1 PyProof.Rows.boot_int) pa_nil))))) (pw_or1 (pt_val (pe_callB call_isB rfl mi PyProof.Rows.boot_isinstance (pa_cons (pv 0) (pa_cons (pe_ty rfl m2 PyProof.Rows.boot_bool) pa_nil)))))))
      (fun s H C fp => by exact pv 0)) (pe_lst pa_nil) (nomark _)))), ?_⟩
  refine ⟨_, rfl, _, _, _, _, rfl, hp, k_tt, _, rfl, ?_⟩
  refine itF ⟨_, rfl, p, _, rfl, .inr hp, rfl, _, rfl, ?_⟩
  refine itF ⟨_, rfl, _, rfl, p, q, _, _, rfl, rfl, hp, hq, rfl, rfl, _, rfl, ?_⟩
  rw [eqVs_refl2]
  refine itF ⟨_, rfl, p, rfl, ⟨_, hp⟩, fun D hD => ?_⟩
  refine ⟨fun i m ys H2 => m = 2 - i ∧ i ≤ 2 ∧ ys = [] ∧ H2 = upd H D (.lst []), ⟨2, rfl, by decide, rfl, rfl⟩, ?_⟩
  rintro i m ys H2 ⟨rfl, hi, rfl, rfl⟩
  have hp2 := My.SqT.ext hp (Ext.new (o := .lst []) hD)
  refine ⟨upd_same, ?_⟩
  by_cases l : i < 2
  · have hx : ∃ n : Nat, [V.int t, V.int b][i]? = some (.int n) := by
      match i, l with
      | 0, _ => exact ⟨t, rfl⟩
      | 1, _ => exact ⟨b, rfl⟩
    obtain ⟨n, hx⟩ := hx
    refine .inr ⟨⟨_, _, hp2, hx⟩, by show 0 < sizeLine; decide, fun x H3 y => ?_⟩
    obtain ⟨rfl, y⟩ := y
    have e := y _ hp2
    rw [hx] at e
    cases e
    refine ⟨_, rfl, _, _, _, _, rfl, .int _, k_ii, _, rfl, ?_⟩
    refine itF ⟨_, rfl, _, _, _, _, rfl, .int _, k_ib, _, rfl, ?_⟩
    exact ⟨fun _ => ⟨2 - (i + 1), by omega, rfl, l, rfl, rfl⟩, fun z => nomatch z⟩
  · have e : i = 2 := by omega
    subst e
    refine .inl ⟨⟨_, hp2, Nat.le_refl _⟩, by show 0 ≤ sizeLine; decide, fun E hE => ?_⟩
    have nE : D ≠ E := fun z => by rw [← z, upd_same] at hE; cases hE
    exact ⟨D, E, [], rfl, rfl, SqL.of (by rw [upd_ne nE]; exact upd_same), SqL.of upd_same, k _ ((Ext.new hD).trans (Ext.new hE))⟩
end
end My

/-! R8 -/
set_option Elab.async false
set_option linter.all false
set_option maxRecDepth 100000
set_option maxHeartbeats 1000000
set_option exponentiation.threshold 10000
namespace My
open PySem PySem.W L2
section
variable {P : Program} {w : World} {K : Frag} {mg : Str → Option Value} {base : Heap}
/-- a def, as the others call it -/
structure Df (P : Program) (w : World) (K : Frag) (mg : Str → Option Value) (base : Heap) (cx : CXT) (k : Nat) (nm : Str) (ps : List Str) (sp : Sp) (g : Addr) (gd : FuncData) : Prop where
  G : FnOk P w K mg base cx k g gd ps sp
  b : Binds K gd ps []
  kp : keepIn K (.ref g) = true
  m : mg nm = some (.ref g)
abbrev sCal : Stmt := top 22
def spCal (K : Frag) (C : Addr) : Sp := fun vs H Q E => ∃ i x y, vs = [.int i, x, y] ∧ ((i = 0 ∧ spPlu K C [x, y] H Q E) ∨ (i = 1 ∧ spMin K C [x, y] H Q E) ∨ (i = 2 ∧ spTim K [x, y] H Q E) ∨ (i = 3 ∧ spSum K C [x] H Q E))
theorem scCal : FnScope ["_law_way", "_law_one", "_law_other"] ["_law_way", "_law_one", "_law_other"] (defScope sCal) := ⟨rfl, rfl, rfl, by decide +kernel, rfl, by decide +kernel, by decide +kernel⟩
theorem ok_cal {f C a1 a2 a3 a4 : Addr} {fd d1 d2 d3 d4 : FuncData} (F : Fun K "_law_called" "_law_called" sCal f fd) (A1 : Df P w K mg base (CXE P w) 3 "plus_share" ["one", "other"] (spPlu K C) a1 d1) (A2 : Df P w K mg base (CXE P w) 3 "minus_share" ["one", "other"] (spMin K C) a2 d2)
    (A3 : Df P w K mg base CX0 2 "times_share" ["one", "other"] (spTim K) a3 d3) (A4 : Df P w K mg base (CXE P w) 3 "sum_shares" ["several"] (spSum K C) a4 d4) : FnOk P w K mg base (CXE P w) 4 f fd ["_law_way", "_law_one", "_law_other"] (spCal K C) := by
  refine okE F scCal (fun vs H Q E h => ?_) (fun cdv A outer s H vs Q E hr h => ?_)
  · obtain ⟨i, x, y, rfl, _⟩ := h
    rfl
  obtain ⟨i, x, y, rfl, h⟩ := h
  have hr2 := hr.mono (show 2 ≤ 3 by decide)
  refine ⟨_, pss_cons (ps_if (pt_cmpR op_eq (pv 0) pe_int (nomark _)) (pss_one (ps_ret (pe_call A1.G hr rfl A1.m A1.kp A1.b .nil passE (pa_cons (pv 1) (pa_cons (pv 2) pa_nil))))) pss_nil)
    (pss_cons (ps_if (pt_cmpR op_eq (pv 0) pe_int (nomark _)) (pss_one (ps_ret (pe_call A2.G hr rfl A2.m A2.kp A2.b .nil passE (pa_cons (pv 1) (pa_cons (pv 2) pa_nil))))) pss_nil)
    (pss_cons (ps_if (pt_cmpR op_eq (pv 0) pe_int (nomark _)) (pss_one (ps_ret (pe_call A3.G hr2 rfl A3.m A3.kp A3.b .nil pass0 (pa_cons (pv 1) (pa_cons (pv 2) pa_nil))))) pss_nil)
    (pss_one (ps_ret (pe_call A4.G hr rfl A4.m A4.kp A4.b .nil passE (pa_cons (pv 1) pa_nil)))))), ?_⟩
  rcases h with ⟨rfl, h⟩ | ⟨rfl, h⟩ | ⟨rfl, h⟩ | ⟨rfl, h⟩
  · exact ⟨_, rfl, rfl, _, rfl, itT ⟨_, rfl, _, rfl, h⟩⟩
  · exact ⟨_, rfl, rfl, _, rfl, itF ⟨_, rfl, rfl, _, rfl, itT ⟨_, rfl, _, rfl, h⟩⟩⟩
  · exact ⟨_, rfl, rfl, _, rfl, itF ⟨_, rfl, rfl, _, rfl, itF ⟨_, rfl, rfl, _, rfl, itT ⟨_, rfl, _, rfl, h⟩⟩⟩⟩
  · exact ⟨_, rfl, rfl, _, rfl, itF ⟨_, rfl, rfl, _, rfl, itF ⟨_, rfl, rfl, _, rfl, itF ⟨_, rfl, h⟩⟩⟩⟩
theorem boot_VE : bootBuiltins "ValueError" = some (.type "ValueError") := by decide +kernel
abbrev sTol : Stmt := top 23
/-- a share was told -/
def Sh (K : Frag) (H : Hp) (Q : VK) (m1 m2 : Nat) : Prop := ∀ p r H', Ext H H' → H' p = some (.tup [.str "share", .ref r]) → SqT K H' r [.int m1, .int m2] → Q (.ref p) H'
/-- NoShare, of the two -/
def No (H : Hp) (Q : VK) (p r : Addr) : Prop := ∀ l t H', Ext H H' → H' l = some (.tup [.str "none", .ref t]) → H' t = some (.tup [.ref p, .ref r]) → Q (.ref l) H'
def NoL (H : Hp) (Q : VK) (p : Addr) : Prop := ∀ l H', Ext H H' → H' l = some (.tup [.str "none", .ref p]) → Q (.ref l) H'
def rdc (x y : Nat) : Nat × Nat := (x / Nat.gcd x y, y / Nat.gcd x y)
def spTol (K : Frag) : Sp := fun vs H Q _ => ∃ i x y, vs = [.int i, x, y] ∧
  ((∃ p r a b c d, x = .ref p ∧ y = .ref r ∧ Shs K H p r a b c d ∧
    ((i = 0 ∧ (a * d + c * b ≤ b * d → Sh K H Q (rdc (a * d + c * b) (b * d)).1 (rdc (a * d + c * b) (b * d)).2) ∧ (b * d < a * d + c * b → No H Q p r)) ∨
     (i = 1 ∧ (c * b ≤ a * d → Sh K H Q (rdc (a * d - c * b) (b * d)).1 (rdc (a * d - c * b) (b * d)).2) ∧ (a * d < c * b → No H Q p r)) ∨
     (i = 2 ∧ Sh K H Q (rdc (a * c) (b * d)).1 (rdc (a * c) (b * d)).2))) ∨
   (i = 3 ∧ ∃ p zs, x = .ref p ∧ Lst K H p zs ∧ ((tot zs).1 ≤ (tot zs).2 → Sh K H Q (redT (tot zs)).1 (redT (tot zs)).2) ∧ ((tot zs).2 < (tot zs).1 → NoL H Q p)))
theorem scTol : FnScope ["_law_way", "_law_one", "_law_other", "_law_found", "e"] ["_law_way", "_law_one", "_law_other"] (defScope sTol) := ⟨rfl, rfl, rfl, by decide +kernel, rfl, by decide +kernel, by decide +kernel⟩
/-- what the law asks of the three classes -/
structure Kit (K : Frag) (mg : Str → Option Value) (D C CN CL : Addr) : Prop where
  T : IsT K
  it : ErrI K C
  hd : hasDictIn K C = true
  nf : findIn K (.ref C) "found" = some none
  cat : Catch K D
  mro : mroIn K C (.ref D) = some true
  k1 : kitOne K (.ref C) (.ref C) = some true
  k2 : kitAny K (.ref C) [.ref CL, .ref CN] = some false
  k3 : kitOne K (.ref C) (.type "ValueError") = some true
  mD : mg "DealError" = some (.ref D)
  mC : mg "NoShare" = some (.ref C)
  mN : mg "NoNumber" = some (.ref CN)
  mL : mg "NoLevel" = some (.ref CL)
def thTol (K : Frag) (C CN CL : Addr) : TS := tSeq (tAsg (tTup (tCons (tC (.str "other")) (tCons (tC .non) tNil))) (gName 3)) (tIfS (tAnd (tB (tCB (rIsT1 K) (tCons (tVar 4) (tCons (tC (.ref C)) tNil)))) (tAnd (tNot (tB (tCB (rIsTn K) (tCons (tVar 4) (tCons (tTup (tCons (tC (.ref CL)) (tCons (tC (.ref CN)) tNil))) tNil)))))
  (tB (tCB (rIsT1 K) (tCons (tVar 4) (tCons (tC (.ty "ValueError")) tNil)))))) (tAsg (tTup (tCons (tC (.str "none")) (tCons (tErrFT K (tVar 4) "found") tNil))) (gName 3)) tNext)
def tbTol (K : Frag) (C : Addr) (E : XK) : TS := tAsg (tTup (tCons (tC (.str "share")) (tCons (tCall (spCal K C) [] E (tCons (tVar 0) (tCons (tVar 1) (tCons (tVar 2) tNil)))) tNil))) (gName 3)
theorem tol_rest {D C CN CL : Addr} (Z : Kit K mg D C CN CL) {Q : VK} {H1 : Hp} {u : Int} {x y v : V} {e dx : Addr} (he : H1 e = none) (hdx : H1 dx = none) (ne : dx ≠ e)
    (q : ∀ l H', Ext H1 H' → H' l = some (.tup [.str "none", v]) → Q (.ref l) H') : thTol K C CN CL (unEnds { nx := tRet (tVar 3) { nx := fun _ H' => Q .non H', rt := Q }, rt := Q } 4) [some (.int u), some x, some y, some .non, some (.ref e)] (upd (upd H1 dx (.xd [("found", v)])) e (ErrT e C (some dx))) := by
  have x2 := Ext.new (o := .xd [("found", v)]) hdx
  have he2 : upd H1 dx (.xd [("found", v)]) e = none := by rw [upd_ne ne.symm]; exact he
  have x3 := Ext.new (o := ErrT e C (some dx)) he2
  have fd : upd (upd H1 dx (.xd [("found", v)])) e (ErrT e C (some dx)) dx = some (.xd [("found", v)]) := x3 _ _ upd_same
  have fe : upd (upd H1 dx (.xd [("found", v)])) e (ErrT e C (some dx)) e = some (ErrT e C (some dx)) := upd_same
  have xx := x2.trans x3
  generalize upd (upd H1 dx (.xd [("found", v)])) e (ErrT e C (some dx)) = H3 at fd fe xx
  refine ⟨by show 2 ≤ sizeLine; decide, fun l hl => ?_⟩
  have x4 := Ext.new (o := .tup [V.str "other", V.non]) hl
  have fd4 := x4 _ _ fd
  have fe4 := x4 _ _ fe
  have xx4 := xx.trans x4
  generalize upd H3 l (.tup [V.str "other", V.non]) = H4 at fd4 fe4 xx4
  refine ⟨_, rfl, e, C, dx, _, _, _, rfl, fe4, fd4, Z.it, .inl ⟨_, rfl⟩, Z.k1, _, rfl, itT ?_⟩
  refine ⟨_, rfl, by show 2 ≤ sizeLine; decide, fun l2 hl2 => ?_⟩
  have x5 := Ext.new (o := .tup [V.ref CL, V.ref CN]) hl2
  have fd5 := x5 _ _ fd4
  have fe5 := x5 _ _ fe4
  have fl5 : upd H4 l2 (.tup [V.ref CL, V.ref CN]) l2 = some (.tup ([CL, CN].map V.ref)) := upd_same
  have xx5 := xx4.trans x5
  generalize upd H4 l2 (.tup [V.ref CL, V.ref CN]) = H5 at fd5 fe5 fl5 xx5
  refine ⟨e, C, dx, _, l2, [CL, CN], _, rfl, fe5, fd5, Z.it, fl5, Z.k2, _, rfl, itT ?_⟩
  refine ⟨_, rfl, e, C, dx, _, _, _, rfl, fe5, fd5, Z.it, .inr ⟨_, rfl⟩, Z.k3, _, rfl, itT ?_⟩
  refine ⟨_, rfl, e, C, dx, _, _, rfl, fe5, fd5, rfl, Z.it, Z.hd, Z.nf, by show 2 ≤ sizeLine; decide, fun l3 hl3 => ?_⟩
  exact ⟨_, rfl, q l3 _ (xx5.trans (Ext.new hl3)) upd_same⟩
theorem ok_tol {f g D C CN CL : Addr} {fd gd : FuncData} (F : Fun K "_law_told" "_law_told" sTol f fd) (Z : Kit K mg D C CN CL) (G : Df P w K mg base (CXE P w) 4 "_law_called" ["_law_way", "_law_one", "_law_other"] (spCal K C) g gd)
    (mi : mg "isinstance" = none) (mV : mg "ValueError" = none) : FnOk P w K mg base CX0 5 f fd ["_law_way", "_law_one", "_law_other"] (spTol K) := by
  refine F.ok scTol (fun vs H Q E h => ?_) (fun cdv A outer s H vs Q E hr h => ?_)
  · obtain ⟨i, x, y, rfl, _⟩ := h
    rfl
  obtain ⟨i, x, y, rfl, h⟩ := h
  have nd := scTol.nd
  refine ⟨_, pss_cons (ps_set (i := 3) nd rfl (Or.inl rfl) pe_non)
    (pss_cons (ps_try (i := 4) (B := D) (tb := tbTol K C) (th := thTol K C CN CL) rfl rfl rfl nd rfl rfl Z.cat rfl Z.mD
      (fun σ E pn xe hp => pxs_set (i := 3) nd rfl (Or.inl rfl) (px_tup (pxa_cons (px_of pe_str) (pxa_cons (px_call (E := E) G.G hr rfl G.m G.kp G.b .nil hp (pxa_of (pa_cons (pv 0) (pa_cons (pv 1) (pa_cons (pv 2) pa_nil))))) pxa_nil))))
      (fun x => pss_cons (ps_set (i := 3) nd rfl (Or.inl rfl) (pe_tup (pa_cons pe_str (pa_cons pe_non pa_nil))))
        (pss_one (ps_if (PW.pt (pw_and (pt_val (pe_callB (call_isT1 Z.T) rfl mi PyProof.Rows.boot_isinstance (pa_cons (pv 4) (pa_cons (pe_glob (v := .ref C) rfl Z.mC rfl) pa_nil))))
            (pw_and (pt_not (pt_val (pe_callB (call_isTn Z.T) rfl mi PyProof.Rows.boot_isinstance (pa_cons (pv 4) (pa_cons (pe_tup (pa_cons (pe_glob (v := .ref CL) rfl Z.mL rfl) (pa_cons (pe_glob (v := .ref CN) rfl Z.mN rfl) pa_nil))) pa_nil)))))
            (pw_and1 (pt_val (pe_callB (call_isT1 Z.T) rfl mi PyProof.Rows.boot_isinstance (pa_cons (pv 4) (pa_cons (pe_bltn (v := .ty "ValueError") rfl mV boot_VE rfl) pa_nil))))))))
          (pss_one (ps_set (i := 3) nd rfl (Or.inl rfl) (pe_tup (pa_cons pe_str (pa_cons (pe_errFT (pv 4) rfl) pa_nil))))) pss_nil))))
    (pss_one (ps_ret (pv 3)))), ?_⟩
  have shr : ∀ {m1 m2 : Nat} (r : Addr) (H1 : Hp), Sh K H Q m1 m2 → Ext H H1 → SqT K H1 r [.int m1, .int m2] → ∀ p, H1 p = none → Q (.ref p) (upd H1 p (.tup [.str "share", .ref r])) := fun r H1 q x1 h1 p hp =>
    q p r _ (x1.trans (Ext.new hp)) upd_same (My.SqT.ext h1 (Ext.new hp))
  have two : ∀ {p r e dx t : Addr} {H2 : Hp}, No H Q p r → Ext H H2 → H2 t = some (.tup [.ref p, .ref r]) → ∀ l H', Ext H2 H' → H' l = some (.tup [.str "none", .ref t]) → Q (.ref l) H' := fun q x2 h2 l H' x3 h3 => q l _ H' (x2.trans x3) h3 (x3 _ _ h2)
  refine ⟨_, rfl, _, rfl, _, rfl, i, x, y, rfl, ?_⟩
  rcases h with ⟨p, r, a, b, c, d, rfl, rfl, sh, h⟩ | ⟨rfl, p, zs, rfl, L, q1, q2⟩
  · rcases h with ⟨rfl, q1, q2⟩ | ⟨rfl, q1, q2⟩ | ⟨rfl, q⟩
    · refine .inl ⟨rfl, p, r, a, b, c, d, rfl, sh, fun le l hl => ⟨by show 2 ≤ sizeLine; decide, fun t ht => ⟨_, rfl, ?_⟩⟩, fun lt t H2 x2 h2 e dx he hdx ne => ⟨e, C, rfl, rfl, Z.mro, ?_⟩⟩
      · exact shr l _ (q1 le) (Ext.new hl) (SqT.of upd_same) t ht
      · exact tol_rest Z he hdx ne fun l H' x3 h3 => q2 lt l t H' (x2.trans x3) h3 (x3 _ _ h2)
    · refine .inr (.inl ⟨rfl, p, r, a, b, c, d, rfl, sh, fun le l hl => ⟨by show 2 ≤ sizeLine; decide, fun t ht => ⟨_, rfl, ?_⟩⟩, fun lt t H2 x2 h2 e dx he hdx ne => ⟨e, C, rfl, rfl, Z.mro, ?_⟩⟩)
      · exact shr l _ (q1 le) (Ext.new hl) (SqT.of upd_same) t ht
      · exact tol_rest Z he hdx ne fun l H' x3 h3 => q2 lt l t H' (x2.trans x3) h3 (x3 _ _ h2)
    · have te := times_eq (a := a) (b := b) (c := c) (d := d) sh.lo.1 sh.lr.1 sh.lo.2.2 sh.lr.2.2
      refine .inr (.inr (.inl ⟨rfl, p, r, a, b, c, d, rfl, sh.hp, sh.hr, sh.sa, sh.sb, sh.sc, sh.sd, sh.lo.1, sh.lr.1, fun l hl => ⟨by show 2 ≤ sizeLine; decide, fun t ht => ⟨_, rfl, ?_⟩⟩⟩))
      rw [te.1, te.2] at ht ⊢
      exact shr l _ q (Ext.new hl) (SqT.of upd_same) t ht
  · refine .inr (.inr (.inr ⟨rfl, p, zs, rfl, L, fun le l H1 x1 h1 => ⟨by show 2 ≤ sizeLine; decide, fun t ht => ⟨_, rfl, ?_⟩⟩, fun lt e dx H2 x2 he hdx ne => ⟨e, C, rfl, rfl, Z.mro, ?_⟩⟩))
    · exact shr l _ (q1 le) x1 h1 t ht
    · exact tol_rest Z he hdx ne fun l H' x3 h3 => q2 lt l H' (x2.trans x3) h3
end
end My

/-! R9 -/
set_option Elab.async false
set_option linter.all false
set_option maxRecDepth 100000
set_option maxHeartbeats 1000000
set_option exponentiation.threshold 10000
namespace My
open PySem PySem.W L2
theorem eq_same (z : Str) : decide (V.str z = V.str z) = true := decide_eq_true rfl
theorem Shs.ext {K : Frag} {H H' : Hp} {p r : Addr} {a b c d : Nat} (h : Shs K H p r a b c d) (x : Ext H H') : Shs K H' p r a b c d := ⟨My.SqT.ext h.hp x, My.SqT.ext h.hr x, h.lo, h.lr, h.sb, h.sd⟩
section
variable {P : Program} {w : World} {K : Frag} {mg : Str → Option Value} {base : Heap}
abbrev sRgt : Stmt := top 24
def spRgt (K : Frag) : Sp := fun vs H Q _ => ∃ (i T : Int) (p r : Addr) (a b c d : Nat), vs = [.int i, .ref p, .ref r, .int T, .int (b * d : Nat)] ∧ Shs K H p r a b c d ∧ Sz (b * d) ∧
  ((i = 0 ∧ T = (a * d + c * b : Nat)) ∨ (i = 1 ∧ T = ((a * d : Nat) : Int) - ((c * b : Nat) : Int)) ∨ (i = 2 ∧ T = (a * c : Nat))) ∧ ∀ H', Ext H H' → Q (.bl true) H'
abbrev NRg : List Str := ["_law_way", "_law_one", "_law_other", "_law_top", "_law_bottom", "_law_word", "_law_found"]
theorem scRgt : FnScope NRg ["_law_way", "_law_one", "_law_other", "_law_top", "_law_bottom"] (defScope sRgt) := ⟨rfl, rfl, rfl, by decide +kernel, rfl, by decide +kernel, by decide +kernel⟩
/-- behind the call of told -/
def tRgB (K : Frag) : TS := tSeq (tIfS (tTest (tChain (rI0 fun i j => .bl (decide (i ≤ j))) (rI0 fun i j => .bl (decide (i ≤ j))) (tC (.int 0)) (tVar 3) (tVar 4)))
  (tRet (tAndV (tOp rEq (tVar 5) (tC (.str "share"))) (tCall (spIs K) [] E0 (tCons (tVar 6) (tCons (tCall spLow [] E0 (tCons (tVar 3) (tCons (tVar 4) tNil))) tNil))))) tNext)
  (tRet (tAndV (tOp rEq (tVar 5) (tC (.str "none"))) (tAndV (tCB (rIsT K) (tCons (tVar 6) (tCons (tC (.ty "tuple")) tNil))) (tOp (rSameT K) (tVar 6) (tTup (tCons (tVar 1) (tCons (tVar 2) tNil)))))))
theorem rd_rgS {D : Ends} {H : Hp} {w0 w1 w2 : Option V} {n B : Nat} {t : Addr} (h1 : 1 ≤ B) (le : n ≤ B) (sB : Sz B) (ht : SqT K H t [.int ((rdc n B).1 : Nat), .int ((rdc n B).2 : Nat)]) (q : ∀ H', Ext H H' → D.rt (.bl true) H') :
    tRgB K D [w0, w1, w2, some (.int n), some (.int B), some (.str "share"), some (.ref t)] H := by
  refine ⟨_, rfl, _, _, rfl, rfl, _, rfl, ?_⟩
  rw [decide_eq_true (by omega : (0 : Int) ≤ (n : Int))]
  refine itT ⟨_, rfl, _, _, rfl, rfl, _, rfl, ?_⟩
  rw [decide_eq_true (by omega : (n : Int) ≤ (B : Int))]
  refine itT ⟨_, rfl, rfl, _, rfl, ?_⟩
  rw [eq_same]
  refine itT ⟨_, rfl, _, rfl, _, rfl, n, B, rfl, h1, Dv.sz h1 sB, fun l hl => ?_⟩
  exact ⟨t, l, _, _, rfl, My.SqT.ext ht (Ext.new hl), SqT.of upd_same, fun H' x => q H' ((Ext.new hl).trans x)⟩
theorem rd_rgN {D : Ends} {H : Hp} {w0 : Option V} {p r t : Addr} {T : Int} {B : Nat} (lt : T < 0 ∨ (B : Int) < T) (ht : H t = some (.tup [.ref p, .ref r])) (q : ∀ H', Ext H H' → D.rt (.bl true) H') :
    tRgB K D [w0, some (.ref p), some (.ref r), some (.int T), some (.int B), some (.str "none"), some (.ref t)] H := by
  have fin : tRet (tAndV (tOp rEq (tVar 5) (tC (.str "none"))) (tAndV (tCB (rIsT K) (tCons (tVar 6) (tCons (tC (.ty "tuple")) tNil))) (tOp (rSameT K) (tVar 6) (tTup (tCons (tVar 1) (tCons (tVar 2) tNil)))))) D [w0, some (.ref p), some (.ref r), some (.int T), some (.int B), some (.str "none"), some (.ref t)] H := by
    refine ⟨_, rfl, rfl, _, rfl, ?_⟩
    rw [eq_same]
    refine itT ⟨_, rfl, t, _, _, _, rfl, SqT.of ht, k_tt, _, rfl, itT ⟨_, rfl, _, rfl, _, rfl, by show 2 ≤ sizeLine; decide, fun l hl => ?_⟩⟩
    exact ⟨t, l, _, rfl, rfl, SqT.of (Ext.new hl _ _ ht), SqT.of upd_same, rfl, q _ (Ext.new hl)⟩
  refine ⟨_, rfl, _, _, rfl, rfl, _, rfl, ?_⟩
  refine ite2 (fun c => ?_) (fun c => ⟨_, rfl, itF fin⟩)
  have c' : (0 : Int) ≤ T := of_decide_eq_true c
  refine ⟨_, rfl, _, _, rfl, rfl, _, rfl, ?_⟩
  rw [decide_eq_false (by omega : ¬ T ≤ (B : Int))]
  exact itF fin
theorem ok_rgt {f a1 a2 a3 : Addr} {fd d1 d2 d3 : FuncData} (F : Fun K "_law_right" "_law_right" sRgt f fd) (A1 : Df P w K mg base CX0 5 "_law_told" ["_law_way", "_law_one", "_law_other"] (spTol K) a1 d1) (A2 : Df P w K mg base CX0 1 "_law_is" ["_law_found", "_law_due"] (spIs K) a2 d2)
    (A3 : Df P w K mg base CX0 2 "_law_lowest" ["_law_top", "_law_bottom"] spLow a3 d3) (mi : mg "isinstance" = none) (mt : mg "tuple" = none) : FnOk P w K mg base CX0 6 f fd ["_law_way", "_law_one", "_law_other", "_law_top", "_law_bottom"] (spRgt K) := by
  refine F.ok scRgt (fun vs H Q E h => ?_) (fun cdv A outer s H vs Q E hr h => ?_)
  · obtain ⟨i, T, p, r, a, b, c, d, rfl, _⟩ := h
    rfl
  obtain ⟨i, T, p, r, a, b, c, d, rfl, sh, sB, h, q⟩ := h
  have nd := scRgt.nd
  have hr1 := hr.mono (show 1 ≤ 5 by decide)
  have hr2 := hr.mono (show 2 ≤ 5 by decide)
  have hu := hr.units0
  have der : PSs (cxOf CX0 P w K mg base NRg "_law_right" (defScope sRgt) f cdv A outer s H E).nox (defBody sRgt) (tSeq (tAsg (tCall (spTol K) [] E0 (tCons (tVar 0) (tCons (tVar 1) (tCons (tVar 2) tNil)))) (gTup K 2 (gCons (gName 5) (gCons (gName 6) gNil)))) (tRgB K)) :=
    pss_cons (ps_asg (pe_call A1.G hr rfl A1.m A1.kp A1.b .nil pass0 (pa_cons (pv 0) (pa_cons (pv 1) (pa_cons (pv 2) pa_nil)))) (pg_tup rfl (pgs_cons (pg_name (i := 5) nd rfl (Or.inl rfl)) (pgs_cons (pg_name (i := 6) nd rfl (Or.inl rfl)) pgs_nil))))
    (pss_cons (ps_if (pt_chain op_le op_le pe_int (pv 3) (pv 4)) (pss_one (ps_ret (pe_and (pe_cmpR op_eq (pv 5) pe_str (nomark _)) (pe_one (pe_call A2.G hr1 rfl A2.m A2.kp A2.b .nil pass0 (pa_cons (pv 6) (pa_cons (pe_call A3.G hr2 rfl A3.m A3.kp A3.b .nil pass0 (pa_cons (pv 3) (pa_cons (pv 4) pa_nil))) pa_nil))))))) pss_nil)
    (pss_one (ps_ret (pe_and (pe_cmpR op_eq (pv 5) pe_str (nomark _)) (pe_and (pe_callB call_isT rfl mi PyProof.Rows.boot_isinstance (pa_cons (pv 6) (pa_cons (pe_ty rfl mt PyProof.Rows.boot_tuple) pa_nil))) (pe_one (pe_cmpR (op_sameT hu) (pv 6) (pe_tup (pa_cons (pv 1) (pa_cons (pv 2) pa_nil))) (nomark _))))))))
  refine ⟨_, der, ?_⟩
  have B1 : 1 ≤ b * d := Nat.mul_pos sh.lo.1 sh.lr.1
  have shr : ∀ {n : Nat}, T = (n : Nat) → n ≤ b * d → Sh K H (fun v H' => gTup K 2 (gCons (gName 5) (gCons (gName 6) gNil)) v [some (.int i), some (.ref p), some (.ref r), some (.int T), some (.int (b * d : Nat)), none, none] H' fun σ' H'' => tRgB K { nx := fun _ H' => Q .non H', rt := Q } σ' H'') (rdc n (b * d)).1 (rdc n (b * d)).2 := by
    intro n eT le l t H1 x1 hl ht
    subst eT
    refine ⟨l, _, rfl, SqT.of hl, rfl, _, _, rfl, _, _, rfl, rfl, ?_⟩
    exact rd_rgS B1 le sB ht fun H' x => q H' (x1.trans x)
  have nor : (T < 0 ∨ ((b * d : Nat) : Int) < T) → No H (fun v H' => gTup K 2 (gCons (gName 5) (gCons (gName 6) gNil)) v [some (.int i), some (.ref p), some (.ref r), some (.int T), some (.int (b * d : Nat)), none, none] H' fun σ' H'' => tRgB K { nx := fun _ H' => Q .non H', rt := Q } σ' H'') p r := by
    intro lt l t H1 x1 hl ht
    refine ⟨l, _, rfl, SqT.of hl, rfl, _, _, rfl, _, _, rfl, rfl, ?_⟩
    exact rd_rgN lt ht fun H' x => q H' (x1.trans x)
  refine ⟨_, rfl, _, rfl, _, rfl, i, .ref p, .ref r, rfl, .inl ⟨p, r, a, b, c, d, rfl, rfl, sh, ?_⟩⟩
  rcases h with ⟨rfl, eT⟩ | ⟨rfl, eT⟩ | ⟨rfl, eT⟩
  · exact .inl ⟨rfl, fun le => shr eT le, fun lt => nor (by omega)⟩
  · refine .inr (.inl ⟨rfl, fun le => shr (by omega) ?_, fun lt => nor (by omega)⟩)
    exact Nat.le_trans (Nat.sub_le _ _) (Nat.mul_le_mul_right d sh.lo.2.1)
  · exact .inr (.inr ⟨rfl, shr eT (Nat.mul_le_mul sh.lo.2.1 sh.lr.2.1)⟩)
end
end My

/-! R10 -/
set_option Elab.async false
set_option linter.all false
set_option maxRecDepth 100000
set_option maxHeartbeats 1000000
set_option exponentiation.threshold 10000
namespace My
open PySem PySem.W L2
section
variable {P : Program} {w : World} {K : Frag} {mg : Str → Option Value} {base : Heap}
abbrev sTwR : Stmt := top 25
def spTwR (K : Frag) : Sp := fun vs H Q _ => ∃ (p r : Addr) (a b c d : Nat), vs = [.ref p, .ref r] ∧ Shs K H p r a b c d ∧ Sz (b * d) ∧ ∀ H', Ext H H' → Q (.bl true) H'
abbrev NTw : List Str := ["_law_one", "_law_other", "_law_here", "_law_there", "_law_bottom", "_law_found"]
theorem scTwR : FnScope NTw ["_law_one", "_law_other"] (defScope sTwR) := ⟨rfl, rfl, rfl, by decide +kernel, rfl, by decide +kernel, by decide +kernel⟩
theorem itFe {A B : Prop} {c : Bool} (e : c = false) (h : B) : if c = true then A else B := by subst e; exact itF h
theorem itTe {A B : Prop} {c : Bool} (e : c = true) (h : A) : if c = true then A else B := by subst e; exact itT h
theorem neb_same (z : Bool) : (!decide (V.bl z = V.bl z)) = false := by rw [decide_eq_true rfl]; rfl
theorem ok_twr {f a1 a2 : Addr} {fd d1 d2 : FuncData} (F : Fun K "_law_two_right" "_law_two_right" sTwR f fd) (A1 : Df P w K mg base CX0 6 "_law_right" ["_law_way", "_law_one", "_law_other", "_law_top", "_law_bottom"] (spRgt K) a1 d1)
    (A2 : Df P w K mg base CX0 1 "less_share" ["one", "other"] (spLes K) a2 d2) (mi : mg "isinstance" = none) (mb : mg "bool" = none) : FnOk P w K mg base CX0 7 f fd ["_law_one", "_law_other"] (spTwR K) := by
  refine F.ok scTwR (fun vs H Q E h => ?_) (fun cdv A outer s H vs Q E hr h => ?_)
  · obtain ⟨p, r, a, b, c, d, rfl, _⟩ := h
    rfl
  obtain ⟨p, r, a, b, c, d, rfl, sh, sB, q⟩ := h
  have nd := scTwR.nd
  have hr1 := hr.mono (show 1 ≤ 6 by decide)
  refine ⟨_, pss_cons (ps_set (i := 2) nd rfl (Or.inl rfl) (pe_op op_gmul (pe_ix ix_tup (pv 0) pe_int (fun _ _ => rfl)) (pe_ix ix_tup (pv 1) pe_int (fun _ _ => rfl))))
    (pss_cons (ps_set (i := 3) nd rfl (Or.inl rfl) (pe_op op_gmul (pe_ix ix_tup (pv 1) pe_int (fun _ _ => rfl)) (pe_ix ix_tup (pv 0) pe_int (fun _ _ => rfl))))
    (pss_cons (ps_set (i := 4) nd rfl (Or.inl rfl) (pe_op op_gmul (pe_ix ix_tup (pv 0) pe_int (fun _ _ => rfl)) (pe_ix ix_tup (pv 1) pe_int (fun _ _ => rfl))))
    (pss_cons (ps_set (i := 5) nd rfl (Or.inl rfl) (pe_call A2.G hr1 rfl A2.m A2.kp A2.b .nil pass0 (pa_cons (pv 0) (pa_cons (pv 1) pa_nil))))
    (pss_cons (ps_if (PW.pt (pw_or (pt_not (pt_val (pe_callB call_isB rfl mi PyProof.Rows.boot_isinstance (pa_cons (pv 5) (pa_cons (pe_ty rfl mb PyProof.Rows.boot_bool) pa_nil))))) (pw_or1 (pt_cmpR op_ne (pv 5) (pe_cmpR op_lt (pv 2) (pv 3) (nomark _)) (nomark _))))) (pss_one (ps_ret pe_bl)) pss_nil)
    (pss_cons (ps_if (PW.pt (pw_or (pt_not (pt_val (pe_call A1.G hr rfl A1.m A1.kp A1.b .nil pass0 (pa_cons pe_int (pa_cons (pv 0) (pa_cons (pv 1) (pa_cons (pe_op op_add (pv 2) (pv 3)) (pa_cons (pv 4) pa_nil))))))))
      (pw_or1 (pt_not (pt_val (pe_call A1.G hr rfl A1.m A1.kp A1.b .nil pass0 (pa_cons pe_int (pa_cons (pv 0) (pa_cons (pv 1) (pa_cons (pe_op op_sub (pv 2) (pv 3)) (pa_cons (pv 4) pa_nil)))))))))))
        (pss_one (ps_ret pe_bl)) pss_nil)
    (pss_one (ps_ret (pe_call A1.G hr rfl A1.m A1.kp A1.b .nil pass0 (pa_cons pe_int (pa_cons (pv 0) (pa_cons (pv 1) (pa_cons (pe_op op_gmul (pe_ix ix_tup (pv 0) pe_int (fun _ _ => rfl)) (pe_ix ix_tup (pv 1) pe_int (fun _ _ => rfl))) (pa_cons (pv 4) pa_nil))))))))))))), ?_⟩
  have sa := sh.sa
  have sc := sh.sc
  refine ⟨_, rfl, p, _, _, _, rfl, rfl, sh.hp, rfl, _, rfl, r, _, _, _, rfl, rfl, sh.hr, rfl, _, _, rfl, rfl, gm sa sh.sd, ?_⟩
  refine ⟨_, rfl, r, _, _, _, rfl, rfl, sh.hr, rfl, _, rfl, p, _, _, _, rfl, rfl, sh.hp, rfl, _, _, rfl, rfl, gm sc sh.sb, ?_⟩
  refine ⟨_, rfl, p, _, _, _, rfl, rfl, sh.hp, rfl, _, rfl, r, _, _, _, rfl, rfl, sh.hr, rfl, _, _, rfl, rfl, gm sh.sb sh.sd, ?_⟩
  refine ⟨_, rfl, _, rfl, p, r, a, b, c, d, rfl, sh.hp, sh.hr, sa, sh.sb, sc, sh.sd, ?_⟩
  refine ⟨_, rfl, _, _, _, _, rfl, .bl _, k_bb, _, rfl, itF ⟨_, rfl, _, rfl, _, rfl, _, _, rfl, rfl, rfl, _, rfl, ?_⟩⟩
  have e : decide ((a : Int) * (d : Int) < (c : Int) * (b : Int)) = decide (a * d < c * b) := by
    rw [Bool.eq_iff_iff, decide_eq_true_iff, decide_eq_true_iff, ← Int.natCast_mul, ← Int.natCast_mul]
    omega
  have e2 : (!decide (V.bl (decide (a * d < c * b)) = V.bl (decide ((a : Int) * (d : Int) < (c : Int) * (b : Int))))) = false := by rw [e, neb_same]
  refine itFe e2 ⟨_, rfl, _, rfl, _, rfl, _, rfl, _, _, rfl, rfl, _, rfl, 0, _, p, r, a, b, c, d, ?_, sh, sB, .inl ⟨rfl, rfl⟩, fun H1 x1 => ⟨_, rfl, itF ?_⟩⟩
  · show [_, _, _, V.int ((a : Int) * (d : Int) + (c : Int) * (b : Int)), V.int ((b : Int) * (d : Int))] = _
    rw [← Int.natCast_mul, ← Int.natCast_mul, ← Int.natCast_mul, ← Int.natCast_add]
  refine ⟨_, rfl, _, rfl, _, rfl, _, rfl, _, _, rfl, rfl, _, rfl, 1, _, p, r, a, b, c, d, ?_, sh.ext x1, sB, .inr (.inl ⟨rfl, rfl⟩), fun H2 x2 => ⟨_, rfl, itF ?_⟩⟩
  · show [_, _, _, V.int ((a : Int) * (d : Int) - (c : Int) * (b : Int)), V.int ((b : Int) * (d : Int))] = _
    rw [← Int.natCast_mul, ← Int.natCast_mul, ← Int.natCast_mul]
  have xx := x1.trans x2
  refine ⟨_, rfl, _, rfl, _, rfl, p, _, _, _, rfl, rfl, My.SqT.ext sh.hp xx, rfl, _, rfl, r, _, _, _, rfl, rfl, My.SqT.ext sh.hr xx, rfl, _, _, rfl, rfl, gm sa sc, _, rfl, 2, _, p, r, a, b, c, d, ?_, sh.ext xx, sB, .inr (.inr ⟨rfl, rfl⟩), fun H3 x3 => q H3 (xx.trans x3)⟩
  show [_, _, _, V.int ((a : Int) * (c : Int)), V.int ((b : Int) * (d : Int))] = _
  rw [← Int.natCast_mul, ← Int.natCast_mul]
end
end My

/-! R11 -/
set_option Elab.async false
set_option linter.all false
set_option maxRecDepth 100000
set_option maxHeartbeats 1000000
set_option exponentiation.threshold 10000
namespace My
open PySem PySem.W L2
theorem of4 {r : Int} (h0 : 0 ≤ r) (h : r < 4) : r = 0 ∨ r = 1 ∨ r = 2 ∨ r = 3 := by omega
section
variable {P : Program} {w : World} {K : Frag} {mg : Str → Option Value} {base : Heap}
abbrev sLis : Stmt := top 26
/-- shares that lie in a heap as tuples, apart from the purse -/
def Shl (H : Hp) (p : Addr) (zs : List ShZ) : Prop := ∀ z ∈ zs, z.1 ≠ p ∧ H z.1 = some (.tup [.int (z.2.1 : Nat), .int (z.2.2 : Nat)]) ∧ Low z.2.1 z.2.2 ∧ z.2.2 ≤ 10 ^ 162
def spLis (K : Frag) : Sp := fun vs H Q _ => ∃ p, vs = [.ref p] ∧ PurseAt H p ∧ ∀ l zs H', l ≠ p → H l = none → H' l = some (.lst (zs.map fun z => V.ref z.1)) → Shl H' p zs → zs.length ≤ 12 → PurseAt H' p → Kept H H' p → Q (.ref l) H'
abbrev NLi : List Str := ["_law_purse_here", "_law_found", "_law_k", "_law_top", "_law_bottom", "_law_parts"]
theorem scLis : FnScope NLi ["_law_purse_here"] (defScope sLis) := ⟨rfl, rfl, rfl, by decide +kernel, rfl, by decide +kernel, by decide +kernel⟩
def tPts (K : Frag) : TE := tOp (rIxL K) (tLst (tCons (tC (.int 1)) (tCons (tC (.int 2)) (tCons (tC (.int 8)) (tCons (tC (.int 20)) tNil))))) (tkT 4)
theorem rd_pts {σ : St} {H : Hp} {Q : VK} {p : Addr} (h0 : σ[0]? = some (some (.ref p))) (hp : PurseAt H p) (q : ∀ (m : Nat) H', 1 ≤ m → m ≤ 20 → PurseAt H' p → Kept H H' p → Q (.int m) H') : tPts K σ H Q := by
  refine ⟨by show 4 ≤ sizeLine; decide, fun L e4 => ?_⟩
  have n4 := hp.ne e4
  have x4 := Ext.new (o := .lst [V.int 1, V.int 2, V.int 8, V.int 20]) e4
  have f4 : upd H L (.lst [V.int 1, V.int 2, V.int 8, V.int 20]) L = some (.lst [V.int 1, V.int 2, V.int 8, V.int 20]) := upd_same
  have hp4 := hp.ext x4
  generalize upd H L (.lst [V.int 1, V.int 2, V.int 8, V.int 20]) = H4 at x4 f4 hp4
  refine rd_take h0 hp4 (by decide) (by decide) fun r H5 r0 r8 hp5 k5 _ => ?_
  have kk := (Ext.kept x4 p).trans k5
  have el := SqL.of (K := K) (k5 _ _ f4 n4)
  rcases of4 r0 r8 with rfl | rfl | rfl | rfl
  · exact ⟨L, _, _, _, rfl, rfl, el, rfl, q 1 H5 (by decide) (by decide) hp5 kk⟩
  · exact ⟨L, _, _, _, rfl, rfl, el, rfl, q 2 H5 (by decide) (by decide) hp5 kk⟩
  · exact ⟨L, _, _, _, rfl, rfl, el, rfl, q 8 H5 (by decide) (by decide) hp5 kk⟩
  · exact ⟨L, _, _, _, rfl, rfl, el, rfl, q 20 H5 (by decide) (by decide) hp5 kk⟩
theorem le162 {b m : Nat} (hb : b ≤ 10 ^ 160) (hm : m ≤ 20) : b * m ≤ 10 ^ 162 := by
  calc b * m ≤ 10 ^ 160 * 10 ^ 2 := Nat.mul_le_mul hb (Nat.le_trans hm (by decide))
    _ = 10 ^ 162 := by rw [← Nat.pow_add]
theorem sz162 {n : Nat} (h : n ≤ 10 ^ 162) : Sz n := sz_of (Nat.le_trans h (Nat.pow_le_pow_right (by decide) (by decide)))
/-- one turn -/
def tLiT (K : Frag) : TS := tSeq (tAsg (tCall (spSha K) [] E0 (tCons (tVar 0) tNil)) (gTup K 2 (gCons (gName 3) (gCons (gName 4) gNil)))) (tSeq (tAsg (tPts K) (gName 5))
  (tDrop (tBM K "list" rAppend (tVar 1) (tCons (tCall spLow [] E0 (tCons (tVar 3) (tCons (tOp (rI GMul fun i j => .int (i * j)) (tVar 4) (tVar 5)) tNil))) tNil))))
theorem rd_liT {D : Ends} {H0 H : Hp} {p l : Addr} {zs : List ShZ} {o2 o3 o4 o5 : Option V} (nl : l ≠ p) (h0 : H0 l = none) (hl : H l = some (.lst (zs.map fun z => V.ref z.1))) (hz : Shl H p zs) (len : zs.length < 13) (hp : PurseAt H p) (k0 : Kept H0 H p)
    (nx : ∀ z H' o3 o4 o5, H' l = some (.lst ((zs ++ [z]).map fun z => V.ref z.1)) → Shl H' p (zs ++ [z]) → PurseAt H' p → Kept H0 H' p → D.nx [some (.ref p), some (.ref l), o2, o3, o4, o5] H') :
    tLiT K D [some (.ref p), some (.ref l), o2, o3, o4, o5] H := by
  refine ⟨_, rfl, p, rfl, hp, fun r t b H1 hr lo ht hb hp1 k1 nr => ?_⟩
  refine ⟨r, _, rfl, hr, rfl, _, _, rfl, _, _, rfl, rfl, ?_⟩
  refine rd_pts rfl hp1 fun m H2 m1 m20 hp2 k2 => ?_
  have mb : 1 ≤ b * m := Nat.mul_pos lo.1 m1
  have b162 := le162 hb m20
  have kk := k1.trans k2
  have hl2 := kk _ _ hl nl
  refine ⟨_, rfl, .inl ⟨rfl, _, SqL.of hl2⟩, _, rfl, _, rfl, _, rfl, _, _, rfl, rfl, ?_, t, b * m, ?_, mb, Dv.sz mb (sz162 b162), fun q hq => ?_⟩
  · exact gm (sz160 hb) (sz_of (Nat.le_trans m20 (Nat.le_trans (by decide : 20 ≤ 10 ^ 2) (Nat.pow_le_pow_right (by decide) (by decide)))))
  · show [V.int (t : Int), V.int ((b : Int) * (m : Int))] = _
    rw [← Int.natCast_mul]
  have x3 := Ext.new (o := .tup [V.int (t / Nat.gcd t (b * m) : Nat), V.int (b * m / Nat.gcd t (b * m) : Nat)]) hq
  have f3 : upd H2 q (.tup [V.int (t / Nat.gcd t (b * m) : Nat), V.int (b * m / Nat.gcd t (b * m) : Nat)]) q = some (.tup [V.int (t / Nat.gcd t (b * m) : Nat), V.int (b * m / Nat.gcd t (b * m) : Nat)]) := upd_same
  have hp3 := hp2.ext x3
  have nq := hp2.ne hq
  have hl3 := x3 _ _ hl2
  have lw : Low (t / Nat.gcd t (b * m)) (b * m / Nat.gcd t (b * m)) := low_red mb (Nat.le_trans lo.2.1 (Nat.le_mul_of_pos_right b m1))
  have le3 : b * m / Nat.gcd t (b * m) ≤ 10 ^ 162 := Nat.le_trans (Nat.div_le_self _ _) b162
  generalize upd H2 q (.tup [V.int (t / Nat.gcd t (b * m) : Nat), V.int (b * m / Nat.gcd t (b * m) : Nat)]) = H3 at x3 f3 hp3 hl3
  generalize t / Nat.gcd t (b * m) = c at f3 lw
  generalize b * m / Nat.gcd t (b * m) = d at f3 lw le3
  refine ⟨l, _, _, rfl, rfl, hl3, ?_, ?_⟩
  · rw [List.length_map]
    exact Nat.lt_of_lt_of_le len (by show 13 ≤ sizeLine; decide)
  refine nx (q, c, d) _ _ _ _ ?_ ?_ ?_ ?_
  · rw [upd_same, List.map_append]; rfl
  · intro z hz'
    have ne : ∀ {a : Addr} {ys : List V}, H3 a = some (.tup ys) → a ≠ l := fun h e => by rw [e, hl3] at h; cases h
    rw [List.mem_append] at hz'
    rcases hz' with hz' | hz'
    · obtain ⟨n1, e1, l1, s1⟩ := hz z hz'
      have e3 := x3 _ _ (kk _ _ e1 n1)
      exact ⟨n1, by rw [upd_ne (ne e3)]; exact e3, l1, s1⟩
    · rw [List.mem_singleton] at hz'
      subst hz'
      exact ⟨nq, by rw [upd_ne (ne f3)]; exact f3, lw, le3⟩
  · exact hp3.keep fun o e => by rw [upd_ne nl.symm]; exact e
  · intro b' o' e' n'
    have e3 := x3 _ _ (kk _ _ (k0 _ _ e' n') n')
    rw [upd_ne (fun z => by rw [z, h0] at e'; cases e')]
    exact e3
theorem ok_lis {f a1 a2 a3 : Addr} {fd d1 d2 d3 : FuncData} (F : Fun K "_law_list" "_law_list" sLis f fd) (A1 : Df P w K mg base CX0 1 "_law_take" ["_law_purse_here", "_law_many"] spTake a1 d1) (A2 : Df P w K mg base CX0 3 "_law_share" ["_law_purse_here"] (spSha K) a2 d2)
    (A3 : Df P w K mg base CX0 2 "_law_lowest" ["_law_top", "_law_bottom"] spLow a3 d3) (mr : mg "range" = none) : FnOk P w K mg base CX0 4 f fd ["_law_purse_here"] (spLis K) := by
  refine F.ok scLis (fun vs H Q E h => ?_) (fun cdv A outer s H vs Q E hr h => ?_)
  · obtain ⟨p, rfl, _⟩ := h
    rfl
  obtain ⟨p, rfl, hp, q⟩ := h
  have nd := scLis.nd
  have hr1 := hr.mono (show 1 ≤ 3 by decide)
  have hr2 := hr.mono (show 2 ≤ 3 by decide)
  have der : PSs (cxOf CX0 P w K mg base NLi "_law_list" (defScope sLis) f cdv A outer s H E).nox (defBody sLis) (tSeq (tAsg (tLst tNil) (gName 1)) (tSeq (tFor (iRng1 (tCons (tkT 13) tNil)) (gName 2) (tLiT K)) (tRet (tVar 1)))) :=
    pss_cons (ps_set (i := 1) nd rfl (Or.inl rfl) (pe_lst pa_nil))
    (pss_cons (ps_for PassesOwn.never rfl (pi_range1 rfl mr (pa_cons (pe_call A1.G hr1 rfl A1.m A1.kp A1.b .nil pass0 (pa_cons (pv 0) (pa_cons pe_int pa_nil))) pa_nil)) (pg_name (i := 2) nd rfl (Or.inl rfl))
      (pss_cons (ps_asg (pe_call A2.G hr rfl A2.m A2.kp A2.b .nil pass0 (pa_cons (pv 0) pa_nil)) (pg_tup rfl (pgs_cons (pg_name (i := 3) nd rfl (Or.inl rfl)) (pgs_cons (pg_name (i := 4) nd rfl (Or.inl rfl)) pgs_nil))))
      (pss_cons (ps_set (i := 5) nd rfl (Or.inl rfl) (pe_ix ix_list (pe_lst (pa_cons pe_int (pa_cons pe_int (pa_cons pe_int (pa_cons pe_int pa_nil))))) (pe_call A1.G hr1 rfl A1.m A1.kp A1.b .nil pass0 (pa_cons (pv 0) (pa_cons pe_int pa_nil))) (fun _ _ => rfl)))
      (pss_one (ps_expr (pe_bm PySem.F.plainAttrs_list PySem.F.slot_list_append PySem.F.type_list_append mt_append (pv 1) (pa_cons (pe_call A3.G hr2 rfl A3.m A3.kp A3.b .nil pass0 (pa_cons (pv 3) (pa_cons (pe_op op_gmul (pv 4) (pv 5)) pa_nil))) pa_nil)))))))
    (pss_one (ps_ret (pv 1))))
  refine ⟨_, der, ?_⟩
  refine ⟨by show 0 ≤ sizeLine; decide, fun l hl => ?_⟩
  have x1 := Ext.new (o := .lst []) hl
  have f1 : upd H l (.lst []) l = some (.lst []) := upd_same
  have nl := hp.ne hl
  have hp1 := hp.ext x1
  have k1 := Ext.kept x1 p
  generalize upd H l (.lst []) = H1 at x1 f1 hp1 k1
  refine rd_take rfl hp1 (by decide) (by decide) fun r H2 r0 r13 hp2 k2 _ => ?_
  have en : r = (r.toNat : Int) := by omega
  rw [en]
  refine ⟨(r.toNat : Int), rfl, by omega, by omega, ?_⟩
  refine for_range (n := r.toNat) (fun i σ H' => ∃ zs o2 o3 o4 o5, σ = [some (.ref p), some (.ref l), o2, o3, o4, o5] ∧ H' l = some (.lst (zs.map fun z => V.ref z.1)) ∧ zs.length = i ∧ Shl H' p zs ∧ PurseAt H' p ∧ Kept H H' p) ⟨[], _, _, _, _, rfl, k2 _ _ f1 nl, rfl, (fun z h => nomatch h), hp2, k1.trans k2⟩ ?_ ?_
  · rintro i σ H' hi ⟨zs, o2, o3, o4, o5, rfl, hl', len, hz, hp', k'⟩
    refine rd_liT nl hl hl' hz (by omega) hp' k' fun z H'' o3' o4' o5' g1 g2 g3 g4 => ⟨zs ++ [z], _, _, _, _, rfl, g1, by simp [len], g2, g3, g4⟩
  · rintro σ H' ⟨zs, o2, o3, o4, o5, rfl, hl', len, hz, hp', k'⟩
    exact ⟨_, rfl, q l zs H' nl hl hl' hz (by omega) hp' k'⟩
end
end My

/-! R12 -/
set_option Elab.async false
set_option linter.all false
set_option maxRecDepth 100000
set_option maxHeartbeats 1000000
set_option exponentiation.threshold 10000
namespace My
open PySem PySem.W L2
def Bz (n : Nat) : Prop := n < 2 ^ 20000
theorem gmB {m n : Nat} (h : Bz m) (k : Sz n) : GMul ((m : Nat) : Int) ((n : Nat) : Int) := by
  have h1 := bits_le h
  have h2 := bits_le k
  show _ + _ ≤ 1000000
  omega
theorem gmB' {m n : Nat} (h : Bz m) (k : Sz n) : GMul ((n : Nat) : Int) ((m : Nat) : Int) := by
  have h1 := bits_le h
  have h2 := bits_le k
  show _ + _ ≤ 1000000
  omega
theorem Lst.ext {K : Frag} {H H' : Hp} {p : Addr} {zs : List ShZ} (h : Lst K H p zs) (x : Ext H H') : Lst K H' p zs := ⟨My.SqL.ext h.hp x, fun z hz => ⟨My.SqT.ext (h.all z hz).1 x, (h.all z hz).2⟩, h.sz⟩
/-- the sizes of the sums -/
def Big (zs : List ShZ) : Prop := ∀ i, i ≤ zs.length → Bz (tot (zs.take i)).1 ∧ Bz (tot (zs.take i)).2
section
variable {P : Program} {w : World} {K : Frag} {mg : Str → Option Value} {base : Heap}
abbrev sLiR : Stmt := top 27
def spLiR (K : Frag) : Sp := fun vs H Q _ => ∃ (p : Addr) (zs : List ShZ), vs = [.ref p] ∧ Lst K H p zs ∧ Big zs ∧ zs.length ≤ sizeLine ∧ ((tot zs).1 ≤ (tot zs).2 → Dv (tot zs).1 (tot zs).2) ∧ ∀ H', Ext H H' → Q (.bl true) H'
abbrev NLr : List Str := ["_law_several", "_law_handed", "_law_word", "_law_found", "_law_top", "_law_bottom", "_law_share_here"]
theorem scLiR : FnScope NLr ["_law_several"] (defScope sLiR) := ⟨rfl, rfl, rfl, by decide +kernel, rfl, by decide +kernel, by decide +kernel⟩
abbrev rGM : R2 := rI GMul fun i j => .int (i * j)
theorem plain_refs (zs : List ShZ) : (zs.map fun z => V.ref z.1).all plainV = true := by
  rw [List.all_map]
  exact List.all_eq_true.mpr fun z _ => rfl
def tLoB (K : Frag) : TS := tSeq (tAsg (tOp rAdd (tOp rGM (tVar 4) (tOp (rIxT K) (tVar 6) (tC (.int 1)))) (tOp rGM (tOp (rIxT K) (tVar 6) (tC (.int 0))) (tVar 5))) (gName 4)) (tAsg (tOp rGM (tVar 5) (tOp (rIxT K) (tVar 6) (tC (.int 1)))) (gName 5))
theorem rd_turn {D : Ends} {H : Hp} {z : Addr} {N M c d : Nat} {w0 w1 w2 w3 : Option V} (hz : SqT K H z [.int c, .int d]) (b1 : Bz N) (b2 : Bz M) (sc : Sz c) (sd : Sz d) (nx : D.nx [w0, w1, w2, w3, some (.int (N * d + c * M : Nat)), some (.int (M * d : Nat)), some (.ref z)] H) :
    tLoB K D [w0, w1, w2, w3, some (.int N), some (.int M), some (.ref z)] H := by
  refine ⟨_, rfl, _, rfl, z, _, _, _, rfl, rfl, hz, rfl, _, _, rfl, rfl, gmB b1 sd, _, rfl, z, _, _, _, rfl, rfl, hz, rfl, _, rfl, _, _, rfl, rfl, gmB' b2 sc, _, _, rfl, rfl, ?_⟩
  refine ⟨_, rfl, _, rfl, z, _, _, _, rfl, rfl, hz, rfl, _, _, rfl, rfl, gmB b2 sd, ?_⟩
  rw [Int.natCast_add, Int.natCast_mul, Int.natCast_mul, Int.natCast_mul] at nx
  exact nx
def tLoop (K : Frag) : TS := tFor (iList K (tVar 0)) (gName 6) (tLoB K)
theorem rd_loop {D : Ends} {H : Hp} {p : Addr} {zs : List ShZ} {w1 w2 w3 w6 : Option V} (L : Lst K H p zs) (B : Big zs) (nx : ∀ o, D.nx [some (.ref p), w1, w2, w3, some (.int ((tot zs).1 : Nat)), some (.int ((tot zs).2 : Nat)), o] H) :
    tLoop K D [some (.ref p), w1, w2, w3, some (.int 0), some (.int 1), w6] H := by
  refine ⟨_, rfl, p, rfl, ⟨_, L.hp⟩, for_list (xs := zs.map fun z => V.ref z.1) (fun i σ H' => H' = H ∧ ∃ o, σ = [some (.ref p), w1, w2, w3, some (.int ((tot (zs.take i)).1 : Nat)), some (.int ((tot (zs.take i)).2 : Nat)), o]) ⟨rfl, w6, ?_⟩ ?_ ?_ ?_⟩
  · have e : tot (zs.take 0) = (0, 1) := by rw [List.take_zero]; rfl
    rw [e]
    rfl
  · rintro i σ H' _ ⟨rfl, _⟩
    exact L.hp
  · rintro i v σ H' ev ⟨rfl, o, rfl⟩
    rw [List.getElem?_map] at ev
    obtain ⟨z, ez, rfl⟩ : ∃ z, zs[i]? = some z ∧ V.ref z.1 = v := by
      cases h : zs[i]? with
      | none => rw [h] at ev; cases ev
      | some z => rw [h] at ev; exact ⟨z, rfl, Option.some.inj ev⟩
    have mz : z ∈ zs := List.mem_of_getElem? ez
    obtain ⟨hz, lz, sz⟩ := L.all z mz
    have il : i < zs.length := (List.getElem?_eq_some_iff.mp ez).1
    have tk : zs.take (i + 1) = zs.take i ++ [z] := by rw [List.take_succ, ez]; rfl
    have st : tot (zs.take (i + 1)) = stepT (tot (zs.take i)) z := by rw [tk]; exact tot_snoc _ _
    obtain ⟨b1, b2⟩ := B i (Nat.le_of_lt il)
    exact rd_turn hz b1 b2 (sz.mono lz.2.1) sz ⟨rfl, _, by rw [st]; rfl⟩
  · rintro σ H' ⟨rfl, o, rfl⟩
    rw [List.length_map, List.take_length]
    exact nx o
abbrev tHS (K : Frag) : TE := tOp (rSameL K) (tVar 1) (tVar 0)
def tLrE (K : Frag) : TS := tSeq (tIfS (tTest (tOp (rI0 fun i j => .bl (decide (i ≤ j))) (tVar 4) (tVar 5))) (tRet (tAndV (tOp rEq (tVar 2) (tC (.str "share"))) (tAndV (tCall (spIs K) [] E0 (tCons (tVar 3) (tCons (tCall spLow [] E0 (tCons (tVar 4) (tCons (tVar 5) tNil))) tNil))) (tHS K)))) tNext)
  (tRet (tAndV (tOp rEq (tVar 2) (tC (.str "none"))) (tAndV (tOp (rSameL K) (tVar 3) (tVar 0)) (tHS K))))
theorem rd_lrS {D : Ends} {H : Hp} {p l t : Addr} {zs : List ShZ} {N M : Nat} {o : Option V} (h1 : 1 ≤ M) (le : N ≤ M) (dv : Dv N M) (hp : SqL K H p (zs.map fun z => V.ref z.1)) (hl : SqL K H l (zs.map fun z => V.ref z.1)) (ht : SqT K H t [.int (N / Nat.gcd N M : Nat), .int (M / Nat.gcd N M : Nat)]) (q : ∀ H', Ext H H' → D.rt (.bl true) H') :
    tLrE K D [some (.ref p), some (.ref l), some (.str "share"), some (.ref t), some (.int N), some (.int M), o] H := by
  refine ⟨_, rfl, _, rfl, _, _, rfl, rfl, _, rfl, itTe (decide_eq_true (by omega)) ?_⟩
  refine ⟨_, rfl, rfl, _, rfl, itTe (eq_same _) ?_⟩
  refine ⟨_, rfl, _, rfl, _, rfl, N, M, rfl, h1, dv, fun k hk => ?_⟩
  refine ⟨t, k, _, _, rfl, My.SqT.ext ht (Ext.new hk), SqT.of upd_same, fun H' x => ⟨_, rfl, itT ?_⟩⟩
  have xx := (Ext.new hk).trans x
  exact ⟨_, rfl, _, rfl, l, p, _, rfl, rfl, My.SqL.ext hl xx, My.SqL.ext hp xx, plain_refs zs, q H' xx⟩
theorem rd_lrN {D : Ends} {H : Hp} {p l : Addr} {zs : List ShZ} {N M : Nat} {o : Option V} (lt : M < N) (hp : SqL K H p (zs.map fun z => V.ref z.1)) (hl : SqL K H l (zs.map fun z => V.ref z.1)) (q : D.rt (.bl true) H) :
    tLrE K D [some (.ref p), some (.ref l), some (.str "none"), some (.ref l), some (.int N), some (.int M), o] H := by
  refine ⟨_, rfl, _, rfl, _, _, rfl, rfl, _, rfl, itFe (decide_eq_false (by omega)) ?_⟩
  refine ⟨_, rfl, rfl, _, rfl, itTe (eq_same _) ?_⟩
  exact ⟨_, rfl, _, rfl, l, p, _, rfl, rfl, hl, hp, plain_refs zs, _, rfl, itT ⟨_, rfl, _, rfl, l, p, _, rfl, rfl, hl, hp, plain_refs zs, q⟩⟩
theorem ok_lir {f a1 a2 a3 : Addr} {fd d1 d2 d3 : FuncData} (F : Fun K "_law_list_right" "_law_list_right" sLiR f fd) (A1 : Df P w K mg base CX0 5 "_law_told" ["_law_way", "_law_one", "_law_other"] (spTol K) a1 d1) (A2 : Df P w K mg base CX0 1 "_law_is" ["_law_found", "_law_due"] (spIs K) a2 d2)
    (A3 : Df P w K mg base CX0 2 "_law_lowest" ["_law_top", "_law_bottom"] spLow a3 d3) (mli : mg "list" = none) : FnOk P w K mg base CX0 6 f fd ["_law_several"] (spLiR K) := by
  refine F.ok scLiR (fun vs H Q E h => ?_) (fun cdv A outer s H vs Q E hr h => ?_)
  · obtain ⟨p, zs, rfl, _⟩ := h
    rfl
  obtain ⟨p, zs, rfl, L, B, _, dv, q⟩ := h
  have nd := scLiR.nd
  have hr1 := hr.mono (show 1 ≤ 5 by decide)
  have hr2 := hr.mono (show 2 ≤ 5 by decide)
  have hu := hr.units0
  have der : PSs (cxOf CX0 P w K mg base NLr "_law_list_right" (defScope sLiR) f cdv A outer s H E).nox (defBody sLiR) (tSeq (tAsg (tCB (fun xs H Q => ∃ p ys, xs = [.ref p] ∧ (SqL K H p ys ∨ SqT K H p ys) ∧ ∀ l, H l = none → Q (.ref l) (upd H l (.lst ys))) (tCons (tVar 0) tNil)) (gName 1))
      (tSeq (tAsg (tCall (spTol K) [] E0 (tCons (tC (.int 3)) (tCons (tVar 1) (tCons (tC .non) tNil)))) (gTup K 2 (gCons (gName 2) (gCons (gName 3) gNil)))) (tSeq (tAsg (tC (.int 0)) (gName 4)) (tSeq (tAsg (tC (.int 1)) (gName 5)) (tSeq (tLoop K) (tLrE K)))))) :=
    pss_cons (ps_set (i := 1) nd rfl (Or.inl rfl) (pe_callTy call_list_of rfl mli PyProof.Rows.boot_list (pa_cons (pv 0) pa_nil)))
    (pss_cons (ps_asg (pe_call A1.G hr rfl A1.m A1.kp A1.b .nil pass0 (pa_cons pe_int (pa_cons (pv 1) (pa_cons pe_non pa_nil)))) (pg_tup rfl (pgs_cons (pg_name (i := 2) nd rfl (Or.inl rfl)) (pgs_cons (pg_name (i := 3) nd rfl (Or.inl rfl)) pgs_nil))))
    (pss_cons (ps_set (i := 4) nd rfl (Or.inl rfl) pe_int)
    (pss_cons (ps_set (i := 5) nd rfl (Or.inl rfl) pe_int)
    (pss_cons (ps_for PassesOwn.never rfl (pi_list (pv 0)) (pg_name (i := 6) nd rfl (Or.inl rfl))
      (pss_cons (ps_set (i := 4) nd rfl (Or.inl rfl) (pe_op op_add (pe_op op_gmul (pv 4) (pe_ix ix_tup (pv 6) pe_int (fun _ _ => rfl))) (pe_op op_gmul (pe_ix ix_tup (pv 6) pe_int (fun _ _ => rfl)) (pv 5))))
      (pss_one (ps_set (i := 5) nd rfl (Or.inl rfl) (pe_op op_gmul (pv 5) (pe_ix ix_tup (pv 6) pe_int (fun _ _ => rfl)))))))
    (pss_cons (ps_if (pt_cmpR op_le (pv 4) (pv 5) (nomark _)) (pss_one (ps_ret (pe_and (pe_cmpR op_eq (pv 2) pe_str (nomark _)) (pe_and (pe_call A2.G hr1 rfl A2.m A2.kp A2.b .nil pass0 (pa_cons (pv 3) (pa_cons (pe_call A3.G hr2 rfl A3.m A3.kp A3.b .nil pass0 (pa_cons (pv 4) (pa_cons (pv 5) pa_nil))) pa_nil))) (pe_one (pe_cmpR (op_sameL hu) (pv 1) (pv 0) (nomark _))))))) pss_nil)
    (pss_one (ps_ret (pe_and (pe_cmpR op_eq (pv 2) pe_str (nomark _)) (pe_and (pe_cmpR (op_sameL hu) (pv 3) (pv 0) (nomark _)) (pe_one (pe_cmpR (op_sameL hu) (pv 1) (pv 0) (nomark _)))))))))))) 
  refine ⟨_, der, ?_⟩
  refine ⟨_, rfl, p, _, rfl, .inl L.hp, fun l hl => ?_⟩
  have x1 := Ext.new (o := .lst (zs.map fun z => V.ref z.1)) hl
  have f1 : upd H l (.lst (zs.map fun z => V.ref z.1)) l = some (.lst (zs.map fun z => V.ref z.1)) := upd_same
  generalize upd H l (.lst (zs.map fun z => V.ref z.1)) = H1 at x1 f1
  have L1 := L.ext x1
  have Ll : Lst K H1 l zs := ⟨SqL.of f1, L1.all, L1.sz⟩
  have D1 : 1 ≤ (tot zs).2 := tot_pos fun z hz => (L.all z hz).2.1.1
  refine ⟨_, rfl, 3, .ref l, .non, rfl, .inr ⟨rfl, l, zs, rfl, Ll, fun le => ?_, fun lt => ?_⟩⟩
  · intro k t H2 x2 hk ht
    refine ⟨k, _, rfl, SqT.of hk, rfl, _, _, rfl, _, _, rfl, rfl, ?_⟩
    refine rd_loop (L1.ext x2) B fun o => ?_
    exact rd_lrS D1 le (dv le) (L1.ext x2).hp (Ll.ext x2).hp ht fun H' x => q H' ((x1.trans x2).trans x)
  · intro k H2 x2 hk
    refine ⟨k, _, rfl, SqT.of hk, rfl, _, _, rfl, _, _, rfl, rfl, ?_⟩
    refine rd_loop (L1.ext x2) B fun o => ?_
    exact rd_lrN lt (L1.ext x2).hp (Ll.ext x2).hp (q H2 (x1.trans x2))
end
end My

/-! R13 -/
set_option Elab.async false
set_option linter.all false
set_option maxRecDepth 100000
set_option maxHeartbeats 1000000
set_option exponentiation.threshold 20001
namespace My
open PySem PySem.W L2
theorem fold_snd : ∀ {zs : List ShZ} {s : Nat × Nat} {M : Nat}, (∀ z ∈ zs, z.2.2 ≤ M) → (zs.foldl stepT s).2 ≤ s.2 * M ^ zs.length
  | [], s, M, _ => by show s.2 ≤ s.2 * M ^ 0; rw [Nat.pow_zero, Nat.mul_one]; exact Nat.le_refl _
  | z :: zs, s, M, h => by
    have ih := fold_snd (zs := zs) (s := stepT s z) (M := M) (fun y hy => h y (List.mem_cons_of_mem _ hy))
    refine Nat.le_trans ih ?_
    show s.2 * z.2.2 * M ^ zs.length ≤ s.2 * M ^ (zs.length + 1)
    rw [Nat.pow_succ, Nat.mul_assoc, Nat.mul_comm (M ^ zs.length) M]
    exact Nat.mul_le_mul_left _ (Nat.mul_le_mul_right _ (h z (List.mem_cons_self ..)))
theorem fold_fst : ∀ {zs : List ShZ} {s : Nat × Nat} {k : Nat}, (∀ z ∈ zs, z.2.1 ≤ z.2.2) → s.1 ≤ k * s.2 → (zs.foldl stepT s).1 ≤ (k + zs.length) * (zs.foldl stepT s).2
  | [], s, k, _, hs => hs
  | z :: zs, s, k, h, hs => by
    have ih := fold_fst (zs := zs) (s := stepT s z) (k := k + 1) (fun y hy => h y (List.mem_cons_of_mem _ hy)) (by
      show s.1 * z.2.2 + z.2.1 * s.2 ≤ (k + 1) * (s.2 * z.2.2)
      have h1 : s.1 * z.2.2 ≤ k * s.2 * z.2.2 := Nat.mul_le_mul_right _ hs
      have h2 : z.2.1 * s.2 ≤ z.2.2 * s.2 := Nat.mul_le_mul_right _ (h z (List.mem_cons_self ..))
      rw [Nat.add_mul, Nat.one_mul, ← Nat.mul_assoc, Nat.mul_comm s.2 z.2.2]
      exact Nat.add_le_add h1 h2)
    have e : k + 1 + zs.length = k + (z :: zs).length := by simp; omega
    rw [e] at ih
    exact ih
theorem tot_snd {zs : List ShZ} {M : Nat} (h : ∀ z ∈ zs, z.2.2 ≤ M) : (tot zs).2 ≤ M ^ zs.length := by
  have := fold_snd (zs := zs) (s := (0, 1)) h
  rw [Nat.one_mul] at this
  exact this
theorem tot_fst {zs : List ShZ} (h : ∀ z ∈ zs, z.2.1 ≤ z.2.2) : (tot zs).1 ≤ zs.length * (tot zs).2 := by
  have := fold_fst (zs := zs) (s := (0, 1)) (k := 0) h (Nat.zero_le _)
  rw [Nat.zero_add] at this
  exact this
theorem big_of {zs : List ShZ} {M e : Nat} (M1 : 1 ≤ M) (hM : ∀ z ∈ zs, z.2.2 ≤ M) (hl : ∀ z ∈ zs, z.2.1 ≤ z.2.2) (h2 : M ^ zs.length ≤ 2 ^ 15000) (h3 : zs.length ≤ 2 ^ 11) : Big zs := by
  intro i hi
  have hM' : ∀ z ∈ zs.take i, z.2.2 ≤ M := fun z hz => hM z (List.mem_of_mem_take hz)
  have hl' : ∀ z ∈ zs.take i, z.2.1 ≤ z.2.2 := fun z hz => hl z (List.mem_of_mem_take hz)
  have len : (zs.take i).length ≤ zs.length := by rw [List.length_take]; omega
  have s2 : (tot (zs.take i)).2 ≤ 2 ^ 15000 := Nat.le_trans (tot_snd hM') (Nat.le_trans (Nat.pow_le_pow_right M1 len) h2)
  have s1 : (tot (zs.take i)).1 ≤ 2 ^ 11 * 2 ^ 15000 := Nat.le_trans (tot_fst hl') (Nat.mul_le_mul (Nat.le_trans len h3) s2)
  rw [← Nat.pow_add] at s1
  exact ⟨Nat.lt_of_le_of_lt s1 (Nat.pow_lt_pow_right (by decide) (by decide)), Nat.lt_of_le_of_lt s2 (Nat.pow_lt_pow_right (by decide) (by decide))⟩
/-- a list that list_right may be asked of -/
def Good (K : Frag) (H : Hp) (p : Addr) : Prop := ∃ zs, Lst K H p zs ∧ Big zs ∧ zs.length ≤ sizeLine ∧ ((tot zs).1 ≤ (tot zs).2 → Dv (tot zs).1 (tot zs).2)
theorem Good.ext {K : Frag} {H H' : Hp} {p : Addr} (h : Good K H p) (x : Ext H H') : Good K H' p := by
  obtain ⟨zs, L, r⟩ := h
  exact ⟨zs, L.ext x, r⟩
theorem p162 : (10 ^ 162) ^ 14 ≤ 10 ^ 2691 := by
  rw [← Nat.pow_mul]
  exact Nat.pow_le_pow_right (by decide) (by decide)
theorem p2691 : 10 ^ 2691 ≤ 2 ^ 8970 := by
  calc (10 : Nat) ^ 2691 = (10 ^ 3) ^ 897 := by rw [← Nat.pow_mul]
    _ ≤ (2 ^ 10) ^ 897 := Nat.pow_le_pow_left (by decide) 897
    _ = 2 ^ 8970 := by rw [← Nat.pow_mul]
theorem good_small {K : Frag} {H : Hp} {p : Addr} {zs : List ShZ} (hp : SqL K H p (zs.map fun z => V.ref z.1)) (all : ∀ z ∈ zs, SqT K H z.1 [.int (z.2.1 : Nat), .int (z.2.2 : Nat)] ∧ Low z.2.1 z.2.2 ∧ z.2.2 ≤ 10 ^ 162) (len : zs.length ≤ 14) : Good K H p := by
  have M1 : 1 ≤ 10 ^ 162 := Nat.pow_pos (by decide)
  have d1 : ∀ z ∈ zs, 1 ≤ z.2.2 := fun z hz => (all z hz).2.1.1
  have sz : ∀ i, i ≤ zs.length → (tot (zs.take i)).2 ≤ 10 ^ 2691 := fun i hi => by
    have hM' : ∀ z ∈ zs.take i, z.2.2 ≤ 10 ^ 162 := fun z hz => (all z (List.mem_of_mem_take hz)).2.2
    have l' : (zs.take i).length ≤ 14 := by rw [List.length_take]; omega
    exact Nat.le_trans (tot_snd hM') (Nat.le_trans (Nat.pow_le_pow_right M1 l') p162)
  refine ⟨zs, ⟨hp, fun z hz => ⟨(all z hz).1, (all z hz).2.1, sz162 (all z hz).2.2⟩, fun i hi => sz_of (Nat.le_trans (Nat.div_le_self _ _) (sz i hi))⟩, ?_, ?_, fun _ => ?_⟩
  · refine big_of (e := 0) M1 (fun z hz => (all z hz).2.2) (fun z hz => (all z hz).2.1.2.1) ?_ ?_
    · exact Nat.le_trans (Nat.pow_le_pow_right M1 len) (Nat.le_trans p162 (Nat.le_trans p2691 (Nat.pow_le_pow_right (by decide) (by decide))))
    · exact Nat.le_trans len (by decide)
  · exact Nat.le_trans len (by show 14 ≤ sizeLine; decide)
  · have s := sz zs.length (Nat.le_refl _)
    rw [List.take_length] at s
    exact Dv.sz (tot_pos d1) (sz_of s)
/-- sums of parts of 1100 -/
def msum (zs : List ShZ) : Nat := (zs.map fun z => z.2.1 * (1100 / z.2.2)).sum
theorem fold_m : ∀ {zs : List ShZ} {s : Nat × Nat} {m : Nat}, (∀ z ∈ zs, z.2.2 ∣ 1100) → s.1 * 1100 = m * s.2 → (zs.foldl stepT s).1 * 1100 = (m + msum zs) * (zs.foldl stepT s).2
  | [], s, m, _, hs => hs
  | z :: zs, s, m, h, hs => by
    have ih := fold_m (zs := zs) (s := stepT s z) (m := m + z.2.1 * (1100 / z.2.2)) (fun y hy => h y (List.mem_cons_of_mem _ hy)) (by
      show (s.1 * z.2.2 + z.2.1 * s.2) * 1100 = (m + z.2.1 * (1100 / z.2.2)) * (s.2 * z.2.2)
      obtain ⟨k, hk⟩ := h z (List.mem_cons_self ..)
      have d0 : 0 < z.2.2 := Nat.pos_of_ne_zero fun e => by rw [e, Nat.zero_mul] at hk; cases hk
      have e1 : 1100 / z.2.2 = k := by rw [hk]; exact Nat.mul_div_cancel_left _ d0
      rw [e1, Nat.add_mul, Nat.add_mul]
      congr 1
      · rw [Nat.mul_right_comm, hs, Nat.mul_assoc]
      · rw [Nat.mul_assoc z.2.1 k, Nat.mul_assoc]
        congr 1
        rw [hk, ← Nat.mul_assoc, Nat.mul_comm k, Nat.mul_assoc s.2])
    have e : m + z.2.1 * (1100 / z.2.2) + msum zs = m + msum (z :: zs) := by
      unfold msum
      rw [List.map_cons, List.sum_cons, Nat.add_assoc]
    rw [e] at ih
    exact ih
theorem tot_m {zs : List ShZ} (h : ∀ z ∈ zs, z.2.2 ∣ 1100) : (tot zs).1 * 1100 = msum zs * (tot zs).2 := by
  have := fold_m (zs := zs) (s := (0, 1)) (m := 0) h rfl
  rw [Nat.zero_add] at this
  exact this
theorem red_le {N D k m : Nat} (h1 : 1 ≤ D) (k1 : 1 ≤ k) (e : N * k = m * D) : D / Nat.gcd N D ≤ k := by
  have g0 : 0 < Nat.gcd N D := Nat.gcd_pos_of_pos_right N h1
  have hn : Nat.gcd N D * (N / Nat.gcd N D) = N := Nat.mul_div_cancel' (Nat.gcd_dvd_left N D)
  have hd : Nat.gcd N D * (D / Nat.gcd N D) = D := Nat.mul_div_cancel' (Nat.gcd_dvd_right N D)
  have cp : Nat.Coprime (N / Nat.gcd N D) (D / Nat.gcd N D) := Nat.coprime_div_gcd_div_gcd g0
  have e2 : Nat.gcd N D * (N / Nat.gcd N D * k) = Nat.gcd N D * (m * (D / Nat.gcd N D)) := by
    rw [← Nat.mul_assoc, hn, Nat.mul_left_comm, hd, e]
  have e3 := Nat.eq_of_mul_eq_mul_left g0 e2
  have dv : D / Nat.gcd N D ∣ N / Nat.gcd N D * k := by rw [e3]; exact Nat.dvd_mul_left _ _
  exact Nat.le_of_dvd k1 (Nat.Coprime.dvd_of_dvd_mul_left cp.symm dv)
theorem good_1100 {K : Frag} {H : Hp} {p a b : Addr} {d : Nat} (hd : d = 1100 ∨ d = 550) (hp : SqL K H p (List.replicate 1099 (V.ref a) ++ [V.ref b])) (ha : SqT K H a [.int 1, .int 1100]) (hb : SqT K H b [.int 1, .int (d : Nat)]) : Good K H p := by
  have mem : ∀ {z : ShZ}, z ∈ List.replicate 1099 ((a, 1, 1100) : ShZ) ++ [(b, 1, d)] → z = (a, 1, 1100) ∨ z = (b, 1, d) := fun {z} hz => by
    rw [List.mem_append] at hz
    rcases hz with hz | hz
    · exact .inl (List.eq_of_mem_replicate hz)
    · exact .inr (List.mem_singleton.mp hz)
  have len : (List.replicate 1099 ((a, 1, 1100) : ShZ) ++ [(b, 1, d)]).length = 1100 := by rw [List.length_append, List.length_replicate]; rfl
  have mp : (List.replicate 1099 ((a, 1, 1100) : ShZ) ++ [(b, 1, d)]).map (fun z : ShZ => V.ref z.1) = List.replicate 1099 (V.ref a) ++ [V.ref b] := by rw [List.map_append, List.map_replicate]; rfl
  have ms : msum (List.replicate 1099 ((a, 1, 1100) : ShZ) ++ [(b, 1, d)]) = 1099 + 1100 / d := by
    unfold msum
    rw [List.map_append, List.map_replicate, List.sum_append_nat, List.sum_replicate_nat, List.map_cons, List.map_nil, List.sum_cons, List.sum_nil]
    show 1099 * (1 * (1100 / 1100)) + (1 * (1100 / d) + 0) = _
    omega
  generalize List.replicate 1099 ((a, 1, 1100) : ShZ) ++ [(b, 1, d)] = zs at mem len mp ms
  have d1 : ∀ z ∈ zs, 1 ≤ z.2.2 := fun z hz => by
    rcases mem hz with rfl | rfl
    · show 1 ≤ 1100; decide
    · show 1 ≤ d; omega
  have dm : ∀ z ∈ zs, z.2.2 ≤ 1100 := fun z hz => by
    rcases mem hz with rfl | rfl
    · show 1100 ≤ 1100; decide
    · show d ≤ 1100; omega
  have c1 : ∀ z ∈ zs, z.2.1 = 1 := fun z hz => by rcases mem hz with rfl | rfl <;> rfl
  have dv : ∀ z ∈ zs, z.2.2 ∣ 1100 := fun z hz => by
    rcases mem hz with rfl | rfl
    · exact Nat.dvd_refl _
    · rcases hd with rfl | rfl
      · exact Nat.dvd_refl _
      · exact ⟨2, rfl⟩
  have s1100 : Sz 1100 := Nat.lt_of_lt_of_le (by decide : 1100 < 2 ^ 11) (Nat.pow_le_pow_right (by decide) (by decide))
  refine ⟨zs, ⟨by rw [mp]; exact hp, fun z hz => ⟨?_, ⟨d1 z hz, by rw [c1 z hz]; exact d1 z hz, by rw [c1 z hz]; exact Nat.gcd_one_left _⟩, s1100.mono (dm z hz)⟩, fun i hi => ?_⟩, ?_, ?_, fun le => ?_⟩
  · rcases mem hz with rfl | rfl
    · exact ha
    · exact hb
  · exact s1100.mono (red_le (tot_pos fun z hz => d1 z (List.mem_of_mem_take hz)) (by decide) (tot_m fun z hz => dv z (List.mem_of_mem_take hz)))
  · refine big_of (e := 0) (by decide) dm (fun z hz => by rw [c1 z hz]; exact d1 z hz) ?_ (by rw [len]; decide)
    rw [len]
    calc 1100 ^ 1100 ≤ (2 ^ 11) ^ 1100 := Nat.pow_le_pow_left (by decide) _
      _ = 2 ^ 12100 := by rw [← Nat.pow_mul]
      _ ≤ 2 ^ 15000 := Nat.pow_le_pow_right (by decide) (by decide)
  · rw [len]; show 1100 ≤ sizeLine; decide
  · have tm := tot_m dv
    have tp := tot_pos d1
    rw [ms] at tm
    rcases hd with rfl | rfl
    · have e : (tot zs).1 = (tot zs).2 := by omega
      rw [e]
      exact Dv.same
    · exfalso
      omega
end My

/-! R14 -/
set_option Elab.async false
set_option linter.all false
set_option maxRecDepth 100000
set_option maxHeartbeats 1000000
set_option exponentiation.threshold 20001
namespace My
open PySem PySem.W L2
/-! rows of things, made as the heap grows: P is what each of them is -/
def Grows (P : Hp → V → Prop) : Prop := ∀ H H' v, Ext H H' → P H v → P H' v
/-- te tells a thing of P -/
def GrE (P : Hp → V → Prop) (σ : St) (H : Hp) (te : TE) : Prop := ∀ H0, Ext H H0 → ∀ Q : VK, (∀ v H1, Ext H0 H1 → P H1 v → Q v H1) → te σ H0 Q
def GrA (P : Hp → V → Prop) (σ : St) (H : Hp) (t : TA) (n : Nat) : Prop := ∀ H0, Ext H H0 → ∀ Q : List V → Hp → Prop, (∀ xs H1, Ext H0 H1 → xs.length = n → (∀ v ∈ xs, P H1 v) → Q xs H1) → t σ H0 Q
/-- te tells a list of things of P -/
def GrL (P : Hp → V → Prop) (σ : St) (H : Hp) (te : TE) (n : Nat) : Prop := ∀ H0, Ext H H0 → ∀ Q : VK, (∀ l xs H1, Ext H0 H1 → H1 l = some (.lst xs) → xs.length = n → (∀ v ∈ xs, P H1 v) → Q (.ref l) H1) → te σ H0 Q
section
variable {P : Hp → V → Prop} {σ : St} {H : Hp} {te ta tb : TE} {t : TA} {n m : Nat}
theorem gra_nil : GrA P σ H tNil 0 := fun H0 _ Q q => q [] H0 (Ext.refl _) rfl (fun _ h => nomatch h)
theorem gra_cons (g : Grows P) (he : GrE P σ H te) (ht : GrA P σ H t n) : GrA P σ H (tCons te t) (n + 1) := fun H0 x0 Q q =>
  he H0 x0 _ fun v H1 x1 pv => ht H1 (x0.trans x1) _ fun xs H2 x2 len ps => q (v :: xs) H2 (x1.trans x2) (by rw [List.length_cons, len]) fun y hy => by
    rcases List.mem_cons.mp hy with rfl | hy
    · exact g _ _ _ x2 pv
    · exact ps y hy
theorem grl_lst (g : Grows P) (ht : GrA P σ H t n) (hn : n ≤ sizeLine) : GrL P σ H (tLst t) n := fun H0 x0 Q q =>
  ht H0 x0 _ fun xs H1 x1 len ps => ⟨by rw [len]; exact hn, fun p hp => q p xs _ (x1.trans (Ext.new hp)) upd_same len fun v hv => g _ _ _ (Ext.new hp) (ps v hv)⟩
theorem grl_var {i : Nat} {l : Addr} {xs : List V} (g : Grows P) (hi : σ[i]? = some (some (.ref l))) (hl : H l = some (.lst xs)) (hx : ∀ v ∈ xs, P H v) : GrL P σ H (tVar i) xs.length := fun H0 x0 Q q =>
  ⟨_, hi, q l xs H0 (Ext.refl _) (x0 _ _ hl) rfl fun v hv => g _ _ _ x0 (hx v hv)⟩
theorem grl_cat (g : Grows P) (ha : GrL P σ H ta n) (hb : GrL P σ H tb m) (h : n + m ≤ sizeLine) : GrL P σ H (tOp rCat ta tb) (n + m) := fun H0 x0 Q q =>
  ha H0 x0 _ fun l1 xs H1 x1 e1 n1 p1 => hb H1 (x0.trans x1) _ fun l2 ys H2 x2 e2 n2 p2 => ⟨l1, l2, xs, ys, rfl, rfl, x2 _ _ e1, e2, by rw [n1, n2]; exact h, fun p hp =>
    q p (xs ++ ys) _ ((x1.trans x2).trans (Ext.new hp)) upd_same (by rw [List.length_append, n1, n2]) fun v hv => by
      rcases List.mem_append.mp hv with hv | hv
      · exact g _ _ _ (x2.trans (Ext.new hp)) (p1 v hv)
      · exact g _ _ _ (Ext.new hp) (p2 v hv)⟩
end
/-! shares, pairs of shares, lists of shares -/
def ShP (K : Frag) (a b : Nat) (H : Hp) (v : V) : Prop := ∃ r, v = .ref r ∧ SqT K H r [.int a, .int b]
def PrP (K : Frag) (H : Hp) (v : V) : Prop := ∃ k x y a b c d, v = .ref k ∧ H k = some (.tup [.ref x, .ref y]) ∧ Shs K H x y a b c d ∧ Sz (b * d)
def GoP (K : Frag) (H : Hp) (v : V) : Prop := ∃ k, v = .ref k ∧ Good K H k
section
variable {K : Frag} {σ : St} {H : Hp} {te ta tb : TE} {t : TA} {a b c d : Nat}
theorem grows_pr : Grows (PrP K) := fun H H' v x ⟨k, p, q, a, b, c, d, e, h, s, z⟩ => ⟨k, p, q, a, b, c, d, e, x _ _ h, s.ext x, z⟩
theorem grows_go : Grows (GoP K) := fun H H' v x ⟨k, e, h⟩ => ⟨k, e, h.ext x⟩
theorem gre_var {i : Nat} {r : Addr} (hi : σ[i]? = some (some (.ref r))) (h : SqT K H r [.int a, .int b]) : GrE (ShP K a b) σ H (tVar i) := fun H0 x0 Q q => ⟨_, hi, q _ H0 (Ext.refl _) ⟨r, rfl, My.SqT.ext h x0⟩⟩
theorem gre_lit : GrE (ShP K a b) σ H (tTup (tCons (tC (.int a)) (tCons (tC (.int b)) tNil))) := fun H0 x0 Q q => ⟨by show 2 ≤ sizeLine; decide, fun p hp => q _ _ (Ext.new hp) ⟨p, rfl, SqT.of upd_same⟩⟩
theorem gre_pair (ha : GrE (ShP K a b) σ H ta) (hb : GrE (ShP K c d) σ H tb) (la : Low a b) (lc : Low c d) (sb : Sz b) (sd : Sz d) (sz : Sz (b * d)) : GrE (PrP K) σ H (tTup (tCons ta (tCons tb tNil))) := fun H0 x0 Q q =>
  ha H0 x0 _ fun u H1 x1 ⟨r1, e1, s1⟩ => hb H1 (x0.trans x1) _ fun v H2 x2 ⟨r2, e2, s2⟩ => by
    subst e1 e2
    exact ⟨by show 2 ≤ sizeLine; decide, fun p hp => q _ _ ((x1.trans x2).trans (Ext.new hp)) ⟨p, r1, r2, a, b, c, d, rfl, upd_same, ⟨My.SqT.ext s1 (x2.trans (Ext.new hp)), My.SqT.ext s2 (Ext.new hp), la, lc, sb, sd⟩, sz⟩⟩
/-- the law's loop over pairs -/
def tPrs (K : Frag) (te : TE) : TS := tFor (iList K te) (gTup K 2 (gCons (gName 3) (gCons (gName 4) gNil))) (tIfS (tNot (tB (tCall (spTwR K) [] E0 (tCons (tVar 3) (tCons (tVar 4) tNil))))) (tRet (tC (.bl false))) tNext)
theorem rd_prs {D : Ends} {n : Nat} {w0 w1 w2 w3 w4 w5 w6 w7 w8 w9 w10 w11 w12 w13 : Option V} (hl : GrL (PrP K) [w0, w1, w2, w3, w4, w5, w6, w7, w8, w9, w10, w11, w12, w13] H te n) (nx : ∀ H' o3 o4, Ext H H' → D.nx [w0, w1, w2, o3, o4, w5, w6, w7, w8, w9, w10, w11, w12, w13] H') :
    tPrs K te D [w0, w1, w2, w3, w4, w5, w6, w7, w8, w9, w10, w11, w12, w13] H := by
  refine hl H (Ext.refl _) _ fun l xs H1 x1 e1 len ps => ⟨l, rfl, ⟨_, SqL.of e1⟩, for_list (xs := xs) (fun i σ H' => Ext H1 H' ∧ ∃ o3 o4, σ = [w0, w1, w2, o3, o4, w5, w6, w7, w8, w9, w10, w11, w12, w13]) ⟨Ext.refl _, _, _, rfl⟩ ?_ ?_ ?_⟩
  · rintro i σ H' _ ⟨x, _⟩
    exact SqL.of (x _ _ e1)
  · rintro i v σ H' ev ⟨x, o3, o4, rfl⟩
    obtain ⟨k, p, q, a, b, c, d, rfl, h, s, z⟩ := grows_pr _ _ _ x (ps v (List.mem_of_getElem? ev))
    refine ⟨k, _, rfl, SqT.of h, rfl, _, _, rfl, _, _, rfl, rfl, ?_⟩
    exact ⟨_, rfl, _, rfl, p, q, a, b, c, d, rfl, s, z, fun H2 x2 => ⟨_, rfl, itF ⟨x.trans x2, _, _, rfl⟩⟩⟩
  · rintro σ H' ⟨x, o3, o4, rfl⟩
    exact nx H' _ _ (x1.trans x)
/-- the law's loop over lists -/
def tLts (K : Frag) (te : TE) : TS := tFor (iList K te) (gName 13) (tIfS (tNot (tB (tCall (spLiR K) [] E0 (tCons (tVar 13) tNil)))) (tRet (tC (.bl false))) tNext)
theorem rd_lts {D : Ends} {n : Nat} {w0 w1 w2 w3 w4 w5 w6 w7 w8 w9 w10 w11 w12 w13 : Option V} (hl : GrL (GoP K) [w0, w1, w2, w3, w4, w5, w6, w7, w8, w9, w10, w11, w12, w13] H te n) (nx : ∀ H' o, Ext H H' → D.nx [w0, w1, w2, w3, w4, w5, w6, w7, w8, w9, w10, w11, w12, o] H') :
    tLts K te D [w0, w1, w2, w3, w4, w5, w6, w7, w8, w9, w10, w11, w12, w13] H := by
  refine hl H (Ext.refl _) _ fun l xs H1 x1 e1 len ps => ⟨l, rfl, ⟨_, SqL.of e1⟩, for_list (xs := xs) (fun i σ H' => Ext H1 H' ∧ ∃ o, σ = [w0, w1, w2, w3, w4, w5, w6, w7, w8, w9, w10, w11, w12, o]) ⟨Ext.refl _, _, rfl⟩ ?_ ?_ ?_⟩
  · rintro i σ H' _ ⟨x, _⟩
    exact SqL.of (x _ _ e1)
  · rintro i v σ H' ev ⟨x, o, rfl⟩
    obtain ⟨k, rfl, zs, L, B, len', dv⟩ := grows_go _ _ _ x (ps v (List.mem_of_getElem? ev))
    exact ⟨_, rfl, k, zs, rfl, L, B, len', dv, fun H2 x2 => ⟨_, rfl, itF ⟨x.trans x2, _, rfl⟩⟩⟩
  · rintro σ H' ⟨x, o, rfl⟩
    exact nx H' _ (x1.trans x)
end
end My

/-! R15 -/
set_option Elab.async false
set_option linter.all false
set_option maxRecDepth 100000
set_option maxHeartbeats 2000000
set_option exponentiation.threshold 20001
namespace My
open PySem PySem.W L2
abbrev sLaw : Stmt := top 29
def spLaw (K : Frag) : Sp := fun vs H Q _ => ∃ (a : Addr) (ns : List Int), vs = [.ref a] ∧ SqL K H a (ns.map V.int) ∧ ns.length ≤ 63 ∧ H sysModules = none ∧ ∀ H', Q (.bl true) H'
abbrev NLw : List Str := ["_law_script", "_law_great_here", "_law_rest", "_law_here", "_law_there", "_law_parts", "_law_k", "_law_purse_here", "_law_one", "_law_other", "_law_left", "_law_pairs", "_law_several", "_law_handed"]
theorem scLw : FnScope NLw ["_law_script"] (defScope sLaw) := ⟨rfl, rfl, rfl, by decide +kernel, rfl, by decide +kernel, by decide +kernel⟩
structure Dl (P : Program) (w : World) (K : Frag) (mg : Str → Option Value) (base : Heap) (a0 a1 a2 a3 a4 a5 a6 a7 : Addr) (d0 d1 d2 d3 d4 d5 d6 d7 : FuncData) : Prop where
  gre : Df P w K mg base CX0 1 "_law_great" [] spGre a0 d0
  twr : Df P w K mg base CX0 7 "_law_two_right" ["_law_one", "_law_other"] (spTwR K) a1 d1
  lir : Df P w K mg base CX0 6 "_law_list_right" ["_law_several"] (spLiR K) a2 d2
  pur : Df P w K mg base CX0 1 "_law_purse" ["_law_cell_here"] spPurse a3 d3
  cel : Df P w K mg base CX0 1 "_law_cell" ["_law_script", "_law_k"] (spCell K) a4 d4
  sha : Df P w K mg base CX0 3 "_law_share" ["_law_purse_here"] (spSha K) a5 d5
  low : Df P w K mg base CX0 2 "_law_lowest" ["_law_top", "_law_bottom"] spLow a6 d6
  lis : Df P w K mg base CX0 4 "_law_list" ["_law_purse_here"] (spLis K) a7 d7
abbrev tc1 (sp : Sp) (a : TE) : TE := tCall sp [] E0 (tCons a tNil)
abbrev tc2 (sp : Sp) (a b : TE) : TE := tCall sp [] E0 (tCons a (tCons b tNil))
abbrev tRF : TS := tRet (tC (.bl false))
def ixT (K : Frag) (i : Nat) (j : Int) : TE := tOp (rIxT K) (tVar i) (tC (.int j))
abbrev tP2 (a b : TE) : TE := tTup (tCons a (tCons b tNil))
abbrev tPI (a b : Int) : TE := tP2 (tC (.int a)) (tC (.int b))
def tG2 (K : Frag) : TS := tAsg (tP2 (tC (.int 1)) (ixT K 1 1)) (gName 2)
def tG3 : TE := tLst (tCons (tP2 (tVar 1) (tVar 2)) (tCons (tP2 (tVar 2) (tVar 1)) (tCons (tP2 (tVar 1) (tPI 1 2)) (tCons (tP2 (tVar 1) (tVar 1)) tNil))))
def tG4 : TS := tAsg (tOp rRep (tLst (tCons (tPI 1 1100) tNil)) (tC (.int 1099))) (gName 5)
def tG5 (K : Frag) : TS := tIfS (tOr (tNot (tB (tc1 (spLiR K) (tOp rCat (tVar 5) (tLst (tCons (tPI 1 1100) tNil)))))) (tNot (tB (tc1 (spLiR K) (tOp rCat (tVar 5) (tLst (tCons (tPI 1 550) tNil))))))) tRF tNext
def tB1 (K : Frag) : TS := tAsg (tc1 spPurse (tc2 (spCell K) (tVar 0) (tVar 6))) (gName 7)
def tB2 (K : Frag) : TS := tAsg (tc1 (spSha K) (tVar 7)) (gName 8)
def tB3 (K : Frag) : TS := tAsg (tc1 (spSha K) (tVar 7)) (gName 9)
def tB4 (K : Frag) : TS := tAsg (tP2 (tOp (rI0 fun i j => .int (i - j)) (ixT K 8 1) (ixT K 8 0)) (ixT K 8 1)) (gName 10)
def tB5 (K : Frag) : TS := tAsg (tc2 spLow (ixT K 10 0) (ixT K 10 1)) (gName 2)
def tB6 : TS := tAsg (tLst (tCons (tP2 (tVar 8) (tVar 9)) (tCons (tP2 (tVar 9) (tVar 8)) (tCons (tP2 (tVar 8) (tVar 8)) (tCons (tP2 (tVar 8) (tVar 2)) (tCons (tP2 (tVar 2) (tVar 8)) tNil)))))) (gName 11)
def tB7 : TE := tOp rCat (tVar 11) (tLst (tCons (tP2 (tVar 8) (tPI 0 1)) (tCons (tP2 (tPI 1 1) (tVar 8)) tNil)))
def tB8 (K : Frag) : TS := tAsg (tc1 (spLis K) (tVar 7)) (gName 12)
def tB9 : TE := tLst (tCons (tVar 12) (tCons (tLst tNil) (tCons (tLst (tCons (tVar 8) (tCons (tVar 2) tNil))) (tCons (tOp rCat (tVar 12) (tLst (tCons (tVar 2) (tCons (tVar 8) tNil)))) tNil))))
def tBd (K : Frag) : TS := tSeq (tB1 K) (tSeq (tB2 K) (tSeq (tB3 K) (tSeq (tB4 K) (tSeq (tB5 K) (tSeq tB6 (tSeq (tPrs K tB7) (tSeq (tB8 K) (tLts K tB9))))))))
def rMax2 : List V → Hp → VK → Prop := fun xs H Q => ∃ i j, xs = [.int i, .int j] ∧ Q (.int (if j > i then j else i)) H
def rLenL (K : Frag) : List V → Hp → VK → Prop := fun xs H Q => ∃ p ys, xs = [.ref p] ∧ (SqL K H p ys ∨ SqT K H p ys) ∧ Q (.int ys.length) H
def tLw (K : Frag) : TS := tSeq (tAsg (tCall spGre [] E0 tNil) (gName 1)) (tSeq (tG2 K) (tSeq (tPrs K tG3) (tSeq tG4 (tSeq (tG5 K)
  (tSeq (tFor (iRng1 (tCons (tCB rMax2 (tCons (tC (.int 1)) (tCons (tCB rMin2 (tCons (tCB (rLenL K) (tCons (tVar 0) tNil)) (tCons (tC (.int 5)) tNil))) tNil))) tNil)) (gName 6) (tBd K)) (tRet (tC (.bl true))))))))
section
variable {P : Program} {w : World} {K : Frag} {mg : Str → Option Value} {base : Heap} {a0 a1 a2 a3 a4 a5 a6 a7 : Addr} {d0 d1 d2 d3 d4 d5 d6 d7 : FuncData}
theorem law_der {f : Addr} {cdv : Value} {A : Around} {outer : List Env} {s : Shared} {H : Hp} {E : XK} (T : Dl P w K mg base a0 a1 a2 a3 a4 a5 a6 a7 d0 d1 d2 d3 d4 d5 d6 d7)
    (mr : mg "range" = none) (mm : mg "min" = none) (mx : mg "max" = none) (ml : mg "len" = none)
    (hr : Room 7 (A.deeper (PyProof.Rows.envOfC "law" (defScope sLaw) s.heap.objs.size f cdv))) : PSs (cxOf CX0 P w K mg base NLw "law" (defScope sLaw) f cdv A outer s H E).nox (defBody sLaw) (tLw K) := by
  have nd := scLw.nd
  have hr1 : Room 1 _ := hr.mono (by decide)
  have hr2 : Room 2 _ := hr.mono (by decide)
  have hr3 : Room 3 _ := hr.mono (by decide)
  have hr4 : Room 4 _ := hr.mono (by decide)
  have hr6 : Room 6 _ := hr.mono (by decide)
  exact pss_cons (ps_set (i := 1) nd rfl (Or.inl rfl) (pe_call0 T.gre.G hr1 rfl T.gre.m T.gre.kp T.gre.b .nil pass0))
    (pss_cons (ps_set (i := 2) nd rfl (Or.inl rfl) (pe_tup (pa_cons pe_int (pa_cons (pe_ix ix_tup (pv 1) pe_int (fun _ _ => rfl)) pa_nil))))
    (pss_cons (ps_for PassesOwn.never rfl (pi_list (pe_lst (pa_cons (pe_tup (pa_cons (pv 1) (pa_cons (pv 2) pa_nil))) (pa_cons (pe_tup (pa_cons (pv 2) (pa_cons (pv 1) pa_nil))) (pa_cons (pe_tup (pa_cons (pv 1) (pa_cons (pe_tup (pa_cons pe_int (pa_cons pe_int pa_nil))) pa_nil))) (pa_cons (pe_tup (pa_cons (pv 1) (pa_cons (pv 1) pa_nil))) pa_nil))))))
        (pg_tup rfl (pgs_cons (pg_name (i := 3) nd rfl (Or.inl rfl)) (pgs_cons (pg_name (i := 4) nd rfl (Or.inl rfl)) pgs_nil)))
      (pss_one (ps_if (pt_not (pt_val (pe_call T.twr.G hr rfl T.twr.m T.twr.kp T.twr.b .nil pass0 (pa_cons (pv 3) (pa_cons (pv 4) pa_nil))))) (pss_one (ps_ret pe_bl)) pss_nil)))
    (pss_cons (ps_set (i := 5) nd rfl (Or.inl rfl) (pe_op op_rep (pe_lst (pa_cons (pe_tup (pa_cons pe_int (pa_cons pe_int pa_nil))) pa_nil)) pe_int))
    (pss_cons (ps_if (PW.pt (pw_or (pt_not (pt_val (pe_call T.lir.G hr6 rfl T.lir.m T.lir.kp T.lir.b .nil pass0 (pa_cons (pe_op op_cat (pv 5) (pe_lst (pa_cons (pe_tup (pa_cons pe_int (pa_cons pe_int pa_nil))) pa_nil))) pa_nil))))
        (pw_or1 (pt_not (pt_val (pe_call T.lir.G hr6 rfl T.lir.m T.lir.kp T.lir.b .nil pass0 (pa_cons (pe_op op_cat (pv 5) (pe_lst (pa_cons (pe_tup (pa_cons pe_int (pa_cons pe_int pa_nil))) pa_nil))) pa_nil))))))) (pss_one (ps_ret pe_bl)) pss_nil)
    (pss_cons (ps_for PassesOwn.never rfl (pi_range1 rfl mr (pa_cons (pe_callB (call_max2 rfl) rfl mx PyProof.Rows.boot_max (pa_cons pe_int (pa_cons (pe_callB (call_min2 rfl) rfl mm PyProof.Rows.boot_min (pa_cons (pe_callB call_len_seq rfl ml PySem.boot_len (pa_cons (pv 0) pa_nil)) (pa_cons pe_int pa_nil))) pa_nil))) pa_nil)) (pg_name (i := 6) nd rfl (Or.inl rfl))
      (pss_cons (ps_set (i := 7) nd rfl (Or.inl rfl) (pe_call T.pur.G hr1 rfl T.pur.m T.pur.kp T.pur.b .nil pass0 (pa_cons (pe_call T.cel.G hr1 rfl T.cel.m T.cel.kp T.cel.b .nil pass0 (pa_cons (pv 0) (pa_cons (pv 6) pa_nil))) pa_nil)))
      (pss_cons (ps_set (i := 8) nd rfl (Or.inl rfl) (pe_call T.sha.G hr3 rfl T.sha.m T.sha.kp T.sha.b .nil pass0 (pa_cons (pv 7) pa_nil)))
      (pss_cons (ps_set (i := 9) nd rfl (Or.inl rfl) (pe_call T.sha.G hr3 rfl T.sha.m T.sha.kp T.sha.b .nil pass0 (pa_cons (pv 7) pa_nil)))
      (pss_cons (ps_set (i := 10) nd rfl (Or.inl rfl) (pe_tup (pa_cons (pe_op op_sub (pe_ix ix_tup (pv 8) pe_int (fun _ _ => rfl)) (pe_ix ix_tup (pv 8) pe_int (fun _ _ => rfl))) (pa_cons (pe_ix ix_tup (pv 8) pe_int (fun _ _ => rfl)) pa_nil))))
      (pss_cons (ps_set (i := 2) nd rfl (Or.inl rfl) (pe_call T.low.G hr2 rfl T.low.m T.low.kp T.low.b .nil pass0 (pa_cons (pe_ix ix_tup (pv 10) pe_int (fun _ _ => rfl)) (pa_cons (pe_ix ix_tup (pv 10) pe_int (fun _ _ => rfl)) pa_nil))))
      (pss_cons (ps_set (i := 11) nd rfl (Or.inl rfl) (pe_lst (pa_cons (pe_tup (pa_cons (pv 8) (pa_cons (pv 9) pa_nil))) (pa_cons (pe_tup (pa_cons (pv 9) (pa_cons (pv 8) pa_nil))) (pa_cons (pe_tup (pa_cons (pv 8) (pa_cons (pv 8) pa_nil))) (pa_cons (pe_tup (pa_cons (pv 8) (pa_cons (pv 2) pa_nil))) (pa_cons (pe_tup (pa_cons (pv 2) (pa_cons (pv 8) pa_nil))) pa_nil)))))))
      (pss_cons (ps_for PassesOwn.never rfl (pi_list (pe_op op_cat (pv 11) (pe_lst (pa_cons (pe_tup (pa_cons (pv 8) (pa_cons (pe_tup (pa_cons pe_int (pa_cons pe_int pa_nil))) pa_nil))) (pa_cons (pe_tup (pa_cons (pe_tup (pa_cons pe_int (pa_cons pe_int pa_nil))) (pa_cons (pv 8) pa_nil))) pa_nil)))))
          (pg_tup rfl (pgs_cons (pg_name (i := 3) nd rfl (Or.inl rfl)) (pgs_cons (pg_name (i := 4) nd rfl (Or.inl rfl)) pgs_nil)))
        (pss_one (ps_if (pt_not (pt_val (pe_call T.twr.G hr rfl T.twr.m T.twr.kp T.twr.b .nil pass0 (pa_cons (pv 3) (pa_cons (pv 4) pa_nil))))) (pss_one (ps_ret pe_bl)) pss_nil)))
      (pss_cons (ps_set (i := 12) nd rfl (Or.inl rfl) (pe_call T.lis.G hr4 rfl T.lis.m T.lis.kp T.lis.b .nil pass0 (pa_cons (pv 7) pa_nil)))
      (pss_one (ps_for PassesOwn.never rfl (pi_list (pe_lst (pa_cons (pv 12) (pa_cons (pe_lst pa_nil) (pa_cons (pe_lst (pa_cons (pv 8) (pa_cons (pv 2) pa_nil))) (pa_cons (pe_op op_cat (pv 12) (pe_lst (pa_cons (pv 2) (pa_cons (pv 8) pa_nil)))) pa_nil)))))) (pg_name (i := 13) nd rfl (Or.inl rfl))
        (pss_one (ps_if (pt_not (pt_val (pe_call T.lir.G hr6 rfl T.lir.m T.lir.kp T.lir.b .nil pass0 (pa_cons (pv 13) pa_nil)))) (pss_one (ps_ret pe_bl)) pss_nil)))))))))))))
    (pss_one (ps_ret pe_bl)))))))
end
end My

/-! R16 -/
set_option Elab.async false
set_option linter.all false
set_option maxRecDepth 100000
set_option maxHeartbeats 1000000
set_option exponentiation.threshold 20001
namespace My
open PySem PySem.W L2
theorem fresh_ext {H H' : Hp} {p : Addr} (h : H p = none) (k : Kept H H' p) : Ext H H' := fun b o e => k b o e (fun z => by rw [z, h] at e; cases e)
theorem SqT.kept {K : Frag} {H H' : Hp} {p r : Addr} {xs : List V} (h : SqT K H r xs) (k : Kept H H' p) (n : r ≠ p) : SqT K H' r xs := by
  rcases h with h | h
  · left
    rcases h with h | ⟨o, h⟩
    · exact .inl (k _ _ h n)
    · exact .inr ⟨o, k _ _ h n⟩
  · exact .inr h
theorem gcd_next (n : Nat) : Nat.gcd n (n + 1) = 1 := by
  have h1 := Nat.gcd_dvd_left n (n + 1)
  have h2 := Nat.gcd_dvd_right n (n + 1)
  exact Nat.dvd_one.mp ((Nat.dvd_add_right h1).mp h2)
theorem flat_rep {v : V} : ∀ n, (List.replicate n [v]).flatten = List.replicate n v
  | 0 => rfl
  | n + 1 => by rw [List.replicate_succ, List.flatten_cons, flat_rep n, List.replicate_succ]; rfl
theorem sz1000 {n : Nat} (h : n ≤ 10 ^ 1000) : Sz n := sz_of (Nat.le_trans h (Nat.pow_le_pow_right (by decide) (by decide)))
theorem szm {m n : Nat} (h : m ≤ 10 ^ 1000) (h' : n ≤ 10 ^ 1000) : Sz (m * n) := sz_of (by
  calc m * n ≤ 10 ^ 1000 * 10 ^ 1000 := Nat.mul_le_mul h h'
    _ = 10 ^ 2000 := by rw [← Nat.pow_add]
    _ ≤ 10 ^ 2691 := Nat.pow_le_pow_right (by decide) (by decide))
theorem to1000 {n : Nat} (h : n ≤ 10 ^ 160) : n ≤ 10 ^ 1000 := Nat.le_trans h (Nat.pow_le_pow_right (by decide) (by decide))
theorem two1000 : 2 ≤ 10 ^ 1000 := Nat.le_trans (by decide : 2 ≤ 10 ^ 1) (Nat.pow_le_pow_right (by decide) (by decide))
theorem one1000 : 1 ≤ 10 ^ 1000 := Nat.le_trans (by decide) two1000
structure Gr (n : Nat) : Prop where
  lim : n + 7 ≤ 10 ^ 1000
theorem gr999 : Gr (10 ^ 999) := ⟨by
  have h : 10 ^ 1 ≤ 10 ^ 999 := Nat.pow_le_pow_right (by decide) (by decide)
  have e : (10 : Nat) ^ 1000 = 10 ^ 999 * 10 := Nat.pow_succ 10 999
  rw [e]
  generalize (10 : Nat) ^ 999 = m at h
  omega⟩
theorem lowG (n : Nat) : Low (n + 6) (n + 7) := ⟨by omega, by omega, gcd_next (n + 6)⟩
theorem lowR (n : Nat) : Low 1 (n + 7) := ⟨by omega, by omega, Nat.gcd_one_left _⟩
theorem low12 : Low 1 2 := ⟨by decide, by decide, by decide⟩
theorem low01 : Low 0 1 := ⟨by decide, by decide, by decide⟩
theorem low11 : Low 1 1 := ⟨by decide, by decide, by decide⟩
section
variable {K : Frag} {H : Hp} {D : Ends} {g : Addr} {n : Nat} {w0 w1 w2 w3 w4 w5 w6 w7 w8 w9 w10 w11 w12 w13 : Option V}
theorem gre_12 {σ : St} : GrE (ShP K 1 2) σ H (tPI 1 2) := gre_lit
theorem gre_01 {σ : St} : GrE (ShP K 0 1) σ H (tPI 0 1) := gre_lit
theorem gre_11 {σ : St} : GrE (ShP K 1 1) σ H (tPI 1 1) := gre_lit
theorem rd_G23 (gr : Gr n) (hg : SqT K H g [.int ((n + 6 : Nat) : Int), .int ((n + 7 : Nat) : Int)]) (nx : ∀ H' o2 o3 o4, Ext H H' → D.nx [w0, some (.ref g), o2, o3, o4, w5, w6, w7, w8, w9, w10, w11, w12, w13] H') :
    tSeq (tG2 K) (tPrs K tG3) D [w0, some (.ref g), w2, w3, w4, w5, w6, w7, w8, w9, w10, w11, w12, w13] H := by
  refine ⟨_, rfl, g, _, _, _, rfl, rfl, hg, rfl, by show 2 ≤ sizeLine; decide, fun r hr => ?_⟩
  have x1 := Ext.new (o := .tup [V.int ((1 : Nat) : Int), V.int ((n + 7 : Nat) : Int)]) hr
  have f1 : upd H r (.tup [V.int ((1 : Nat) : Int), V.int ((n + 7 : Nat) : Int)]) r = some (.tup [V.int ((1 : Nat) : Int), V.int ((n + 7 : Nat) : Int)]) := upd_same
  show tPrs K tG3 D [w0, some (.ref g), some (.ref r), w3, w4, w5, w6, w7, w8, w9, w10, w11, w12, w13] (upd H r (.tup [V.int ((1 : Nat) : Int), V.int ((n + 7 : Nat) : Int)]))
  generalize upd H r (.tup [V.int ((1 : Nat) : Int), V.int ((n + 7 : Nat) : Int)]) = H1 at x1 f1
  have g1 := My.SqT.ext hg x1
  have sz := sz1000 gr.lim
  have szz := szm gr.lim gr.lim
  have e1 : GrE (ShP K (n + 6) (n + 7)) [w0, some (.ref g), some (.ref r), w3, w4, w5, w6, w7, w8, w9, w10, w11, w12, w13] H1 (tVar 1) := gre_var rfl g1
  have e2 : GrE (ShP K 1 (n + 7)) [w0, some (.ref g), some (.ref r), w3, w4, w5, w6, w7, w8, w9, w10, w11, w12, w13] H1 (tVar 2) := gre_var rfl (SqT.of f1)
  have l : GrL (PrP K) [w0, some (.ref g), some (.ref r), w3, w4, w5, w6, w7, w8, w9, w10, w11, w12, w13] H1 tG3 4 :=
    grl_lst grows_pr (gra_cons grows_pr (gre_pair e1 e2 (lowG n) (lowR n) sz sz szz) (gra_cons grows_pr (gre_pair e2 e1 (lowR n) (lowG n) sz sz szz) (gra_cons grows_pr (gre_pair e1 gre_12 (lowG n) low12 sz (sz1000 two1000) (szm gr.lim two1000)) (gra_cons grows_pr (gre_pair e1 e1 (lowG n) (lowG n) sz sz szz) gra_nil)))) (by decide)
  exact rd_prs (D := D) l fun H' o3 o4 x => nx H' _ _ _ (x1.trans x)
end
end My

/-! R17 -/
set_option Elab.async false
set_option linter.all false
set_option maxRecDepth 100000
set_option maxHeartbeats 1000000
set_option exponentiation.threshold 20001
namespace My
open PySem PySem.W L2
section
variable {K : Frag} {H : Hp} {D : Ends} {g : Addr} {n : Nat} {w0 w1 w2 w3 w4 w5 w6 w7 w8 w9 w10 w11 w12 w13 : Option V}
theorem rd_cat1 {σ : St} {Q : VK} {q p : Addr} {d : Nat} {d' : Int} {xs : List V} (hd : d = 1100 ∨ d = 550) (ed : d' = (d : Int)) (h5 : σ[5]? = some (some (.ref q))) (hxs : xs = List.replicate 1099 (V.ref p)) (hq : H q = some (.lst xs)) (hp : SqT K H p [.int 1, .int 1100])
    (k : ∀ H', Ext H H' → Q (.bl true) H') : tc1 (spLiR K) (tOp rCat (tVar 5) (tLst (tCons (tPI 1 d') tNil))) σ H Q := by
  subst ed
  refine ⟨_, h5, by show 2 ≤ sizeLine; decide, fun a ha => ⟨by show 1 ≤ sizeLine; decide, fun l hl => ?_⟩⟩
  have x1 := Ext.new (o := .tup [V.int 1, V.int (d : Int)]) ha
  have f1 : upd H a (.tup [V.int 1, V.int (d : Int)]) a = some (.tup [V.int 1, V.int (d : Int)]) := upd_same
  generalize upd H a (.tup [V.int 1, V.int (d : Int)]) = H1 at x1 f1 hl ⊢
  have x2 := Ext.new (o := .lst [V.ref a]) hl
  have f2 : upd H1 l (.lst [V.ref a]) l = some (.lst [V.ref a]) := upd_same
  generalize upd H1 l (.lst [V.ref a]) = H2 at x2 f2 ⊢
  have len : xs.length + [V.ref a].length ≤ sizeLine := by rw [hxs, List.length_replicate]; show 1100 ≤ sizeLine; decide
  refine ⟨q, l, xs, [V.ref a], rfl, rfl, x2 _ _ (x1 _ _ hq), f2, len, fun m hm => ?_⟩
  have x3 := Ext.new (o := .lst (xs ++ [V.ref a])) hm
  have f3 : upd H2 m (.lst (xs ++ [V.ref a])) m = some (.lst (xs ++ [V.ref a])) := upd_same
  generalize upd H2 m (.lst (xs ++ [V.ref a])) = H3 at x3 f3 ⊢
  have x := (x1.trans x2).trans x3
  rw [hxs] at f3
  obtain ⟨zs, L, B, len', dv⟩ := good_1100 (K := K) hd (SqL.of f3) (My.SqT.ext hp x) (SqT.of ((x2.trans x3) _ _ f1))
  exact ⟨m, zs, rfl, L, B, len', dv, fun H' x' => k H' (x.trans x')⟩
theorem rd_G45 (nx : ∀ H' o5, Ext H H' → D.nx [w0, w1, w2, w3, w4, o5, w6, w7, w8, w9, w10, w11, w12, w13] H') :
    tSeq tG4 (tG5 K) D [w0, w1, w2, w3, w4, w5, w6, w7, w8, w9, w10, w11, w12, w13] H := by
  refine ⟨by show 2 ≤ sizeLine; decide, fun p hp => ⟨by show 1 ≤ sizeLine; decide, fun l hl => ?_⟩⟩
  have x1 := Ext.new (o := .tup [V.int 1, V.int 1100]) hp
  have f1 : upd H p (.tup [V.int 1, V.int 1100]) p = some (.tup [V.int 1, V.int 1100]) := upd_same
  generalize upd H p (.tup [V.int 1, V.int 1100]) = H1 at x1 f1 hl ⊢
  have x2 := Ext.new (o := .lst [V.ref p]) hl
  have f2 : upd H1 l (.lst [V.ref p]) l = some (.lst [V.ref p]) := upd_same
  generalize upd H1 l (.lst [V.ref p]) = H2 at x2 f2 ⊢
  refine ⟨l, 1099, [V.ref p], rfl, rfl, f2, by decide, by decide, by show 1 * 1099 ≤ sizeLine; decide, fun q hq => ?_⟩
  have hxs : (List.replicate (1099 : Int).toNat [V.ref p]).flatten = List.replicate 1099 (V.ref p) := flat_rep 1099
  generalize (List.replicate (1099 : Int).toNat [V.ref p]).flatten = xs at hxs ⊢
  have x3 := Ext.new (o := .lst xs) hq
  have f3 : upd H2 q (.lst xs) q = some (.lst xs) := upd_same
  show tG5 K D [w0, w1, w2, w3, w4, some (.ref q), w6, w7, w8, w9, w10, w11, w12, w13] (upd H2 q (.lst xs))
  generalize upd H2 q (.lst xs) = H3 at x3 f3
  have x := (x1.trans x2).trans x3
  have sp : SqT K H3 p [.int 1, .int 1100] := SqT.of ((x2.trans x3) _ _ f1)
  refine rd_cat1 (d := 1100) (.inl rfl) rfl rfl hxs f3 sp fun H4 x4 => ⟨_, rfl, itF ?_⟩
  refine rd_cat1 (d := 550) (.inr rfl) rfl rfl hxs (x4 _ _ f3) (My.SqT.ext sp x4) fun H5 x5 => ⟨_, rfl, itF ?_⟩
  exact nx H5 _ ((x.trans x4).trans x5)
end
end My

/-! R18 -/
set_option Elab.async false
set_option linter.all false
set_option maxRecDepth 100000
set_option maxHeartbeats 1000000
set_option exponentiation.threshold 20001
namespace My
open PySem PySem.W L2
/-- a small share, apart from the purse p -/
structure Sm (K : Frag) (H : Hp) (p r : Addr) (a b : Nat) : Prop where
  at_ : SqT K H r [.int a, .int b]
  low : Low a b
  le : b ≤ 10 ^ 160
  ne : r ≠ p
section
variable {K : Frag} {H : Hp} {D : Ends} {w0 w1 w2 w3 w4 w5 w6 w7 w8 w9 w10 w11 w12 w13 : Option V}
theorem Sm.ext {H' : Hp} {p r : Addr} {a b : Nat} (h : Sm K H p r a b) (x : Ext H H') : Sm K H' p r a b := ⟨My.SqT.ext h.at_ x, h.low, h.le, h.ne⟩
theorem Sm.kept {H' : Hp} {p r : Addr} {a b : Nat} (h : Sm K H p r a b) (x : Kept H H' p) : Sm K H' p r a b := ⟨My.SqT.kept h.at_ x h.ne, h.low, h.le, h.ne⟩
theorem Sm.sz {p r : Addr} {a b : Nat} (h : Sm K H p r a b) : Sz b := sz160 h.le
theorem gre_sm {σ : St} {i : Nat} {p r : Addr} {a b : Nat} (hi : σ[i]? = some (some (.ref r))) (h : Sm K H p r a b) : GrE (ShP K a b) σ H (tVar i) := gre_var hi h.at_
theorem s1 : Sz 1 := sz1000 one1000
/-- the first three -/
theorem rd_B123 {R : TS} {a : Addr} {ns : List Int} {k : Int} (ha : SqL K H a (ns.map V.int)) (hk : 0 ≤ k)
    (nx : ∀ p r8 r9 a8 b8 a9 b9 H', Ext H H' → PurseAt H' p → Sm K H' p r8 a8 b8 → Sm K H' p r9 a9 b9 → H p = none → R D [some (.ref a), w1, w2, w3, w4, w5, some (.int k), some (.ref p), some (.ref r8), some (.ref r9), w10, w11, w12, w13] H') :
    tSeq (tB1 K) (tSeq (tB2 K) (tSeq (tB3 K) R)) D [some (.ref a), w1, w2, w3, w4, w5, some (.int k), w7, w8, w9, w10, w11, w12, w13] H := by
  refine ⟨_, rfl, _, rfl, a, ns, k, rfl, ha, hk, fun c => ⟨c, rfl, fun p H1 hp0 hp1 k1 => ?_⟩⟩
  refine ⟨_, rfl, p, rfl, hp1, fun r8 a8 b8 H2 s8 l8 t8 u8 hp2 k2 n8 => ?_⟩
  refine ⟨_, rfl, p, rfl, hp2, fun r9 a9 b9 H3 s9 l9 t9 u9 hp3 k3 n9 => ?_⟩
  exact nx p r8 r9 a8 b8 a9 b9 H3 (fresh_ext hp0 ((k1.trans k2).trans k3)) hp3 (Sm.kept ⟨s8, l8, u8, n8⟩ k3) ⟨s9, l9, u9, n9⟩ hp0
theorem low_left {a b : Nat} (h : Low a b) : (b - a) / Nat.gcd (b - a) b = b - a ∧ b / Nat.gcd (b - a) b = b ∧ Low (b - a) b := by
  have e : Nat.gcd (b - a) b = 1 := by
    have h1 := h.2.2
    have h2 := h.2.1
    obtain ⟨c, rfl⟩ : ∃ c, b = c + a := ⟨b - a, by omega⟩
    rw [Nat.add_sub_cancel, Nat.gcd_self_add_right, Nat.gcd_comm]
    rw [Nat.gcd_add_self_right] at h1
    exact h1
  rw [e, Nat.div_one, Nat.div_one]
  exact ⟨rfl, rfl, h.1, Nat.sub_le _ _, e⟩
theorem rd_B45 {R : TS} {p r8 : Addr} {a b : Nat} (hp : PurseAt H p) (h8 : Sm K H p r8 a b)
    (nx : ∀ r2 o10 H', Ext H H' → Sm K H' p r2 (b - a) b → R D [w0, w1, some (.ref r2), w3, w4, w5, w6, w7, some (.ref r8), w9, o10, w11, w12, w13] H') :
    tSeq (tB4 K) (tSeq (tB5 K) R) D [w0, w1, w2, w3, w4, w5, w6, w7, some (.ref r8), w9, w10, w11, w12, w13] H := by
  have ec : (b : Int) - (a : Int) = ((b - a : Nat) : Int) := by have := h8.low.2.1; omega
  refine ⟨_, rfl, r8, _, _, _, rfl, rfl, h8.at_, rfl, _, rfl, r8, _, _, _, rfl, rfl, h8.at_, rfl, _, _, rfl, rfl, _, rfl, r8, _, _, _, rfl, rfl, h8.at_, rfl, by show 2 ≤ sizeLine; decide, fun t ht => ?_⟩
  show tSeq (tB5 K) R D [w0, w1, w2, w3, w4, w5, w6, w7, some (.ref r8), w9, some (.ref t), w11, w12, w13] (upd H t (.tup [V.int ((b : Int) - (a : Int)), V.int (b : Int)]))
  rw [ec]
  have x1 := Ext.new (o := .tup [V.int ((b - a : Nat) : Int), V.int (b : Int)]) ht
  have f1 := SqT.of (K := K) (show upd H t (.tup [V.int ((b - a : Nat) : Int), V.int (b : Int)]) t = some (.tup [V.int ((b - a : Nat) : Int), V.int (b : Int)]) from upd_same)
  have hp1 := hp.ext x1
  generalize upd H t (.tup [V.int ((b - a : Nat) : Int), V.int (b : Int)]) = H1 at x1 f1 hp1
  refine ⟨_, rfl, t, _, _, _, rfl, rfl, f1, rfl, _, rfl, t, _, _, _, rfl, rfl, f1, rfl, b - a, b, rfl, h8.low.1, Dv.sz h8.low.1 h8.sz, fun q hq => ?_⟩
  have ll := low_left h8.low
  rw [ll.1, ll.2.1]
  have nq := hp1.ne hq
  have x2 := Ext.new (o := .tup [V.int ((b - a : Nat) : Int), V.int (b : Int)]) hq
  exact nx q _ _ (x1.trans x2) ⟨SqT.of upd_same, ll.2.2, h8.le, nq⟩
end
end My

/-! R19 -/
set_option Elab.async false
set_option linter.all false
set_option maxRecDepth 100000
set_option maxHeartbeats 1000000
set_option exponentiation.threshold 20001
namespace My
open PySem PySem.W L2
section
variable {K : Frag} {H : Hp} {D : Ends} {w0 w1 w2 w3 w4 w5 w6 w7 w8 w9 w10 w11 w12 w13 : Option V} {σ : St}
theorem gre_p2 {i j : Nat} {p r q : Addr} {a b c d : Nat} (hi : σ[i]? = some (some (.ref r))) (hj : σ[j]? = some (some (.ref q))) (h : Sm K H p r a b) (h' : Sm K H p q c d) : GrE (PrP K) σ H (tP2 (tVar i) (tVar j)) :=
  gre_pair (gre_sm hi h) (gre_sm hj h') h.low h'.low h.sz h'.sz (szm (to1000 h.le) (to1000 h'.le))
def tB6e : TE := tLst (tCons (tP2 (tVar 8) (tVar 9)) (tCons (tP2 (tVar 9) (tVar 8)) (tCons (tP2 (tVar 8) (tVar 8)) (tCons (tP2 (tVar 8) (tVar 2)) (tCons (tP2 (tVar 2) (tVar 8)) tNil)))))
theorem gr_B6 {p r2 r8 r9 : Addr} {a2 b2 a8 b8 a9 b9 : Nat} (e2 : σ[2]? = some (some (.ref r2))) (e8 : σ[8]? = some (some (.ref r8))) (e9 : σ[9]? = some (some (.ref r9))) (h2 : Sm K H p r2 a2 b2) (h8 : Sm K H p r8 a8 b8) (h9 : Sm K H p r9 a9 b9) : GrL (PrP K) σ H tB6e 5 :=
  grl_lst grows_pr (gra_cons grows_pr (gre_p2 e8 e9 h8 h9) (gra_cons grows_pr (gre_p2 e9 e8 h9 h8) (gra_cons grows_pr (gre_p2 e8 e8 h8 h8) (gra_cons grows_pr (gre_p2 e8 e2 h8 h2) (gra_cons grows_pr (gre_p2 e2 e8 h2 h8) gra_nil))))) (by decide)
def tB7e : TE := tLst (tCons (tP2 (tVar 8) (tPI 0 1)) (tCons (tP2 (tPI 1 1) (tVar 8)) tNil))
theorem gr_B7e {p r8 : Addr} {a8 b8 : Nat} (e8 : σ[8]? = some (some (.ref r8))) (h8 : Sm K H p r8 a8 b8) : GrL (PrP K) σ H tB7e 2 :=
  grl_lst grows_pr (gra_cons grows_pr (gre_pair (gre_sm e8 h8) gre_01 h8.low low01 h8.sz s1 (szm (to1000 h8.le) one1000)) (gra_cons grows_pr (gre_pair gre_11 (gre_sm e8 h8) low11 h8.low s1 h8.sz (szm one1000 (to1000 h8.le))) gra_nil)) (by decide)
theorem gr_B7 {p r8 l : Addr} {a8 b8 : Nat} {xs : List V} (e11 : σ[11]? = some (some (.ref l))) (e8 : σ[8]? = some (some (.ref r8))) (h8 : Sm K H p r8 a8 b8) (hl : H l = some (.lst xs)) (len : xs.length = 5) (hx : ∀ v ∈ xs, PrP K H v) : GrL (PrP K) σ H tB7 (xs.length + 2) :=
  grl_cat (ta := tVar 11) (tb := tB7e) grows_pr (grl_var grows_pr e11 hl hx) (gr_B7e e8 h8) (by rw [len]; decide)
theorem rd_B67 {R : TS} {p r2 r8 r9 : Addr} {a2 b2 a8 b8 a9 b9 : Nat} (h2 : Sm K H p r2 a2 b2) (h8 : Sm K H p r8 a8 b8) (h9 : Sm K H p r9 a9 b9)
    (nx : ∀ H' o3 o4 o11, Ext H H' → R D [w0, w1, some (.ref r2), o3, o4, w5, w6, w7, some (.ref r8), some (.ref r9), w10, o11, w12, w13] H') :
    tSeq tB6 (tSeq (tPrs K tB7) R) D [w0, w1, some (.ref r2), w3, w4, w5, w6, w7, some (.ref r8), some (.ref r9), w10, w11, w12, w13] H := by
  have g : GrL (PrP K) [w0, w1, some (.ref r2), w3, w4, w5, w6, w7, some (.ref r8), some (.ref r9), w10, w11, w12, w13] H tB6e 5 := gr_B6 rfl rfl rfl h2 h8 h9
  show tB6e [w0, w1, some (.ref r2), w3, w4, w5, w6, w7, some (.ref r8), some (.ref r9), w10, w11, w12, w13] H (fun x H1 => gName 11 x [w0, w1, some (.ref r2), w3, w4, w5, w6, w7, some (.ref r8), some (.ref r9), w10, w11, w12, w13] H1 (tSeq (tPrs K tB7) R D))
  generalize hte : tB6e = te at g ⊢
  refine g H (Ext.refl _) _ fun l xs H6 x6 e6 len6 ps6 => ?_
  have g2 : GrL (PrP K) [w0, w1, some (.ref r2), w3, w4, w5, w6, w7, some (.ref r8), some (.ref r9), w10, some (.ref l), w12, w13] H6 tB7 (xs.length + 2) := gr_B7 rfl rfl (h8.ext x6) e6 len6 ps6
  show tSeq (tPrs K tB7) R D [w0, w1, some (.ref r2), w3, w4, w5, w6, w7, some (.ref r8), some (.ref r9), w10, some (.ref l), w12, w13] H6
  exact rd_prs (D := { D with nx := R D }) g2 fun H' o3 o4 x => nx H' _ _ _ (x6.trans x)
end
end My

/-! R20 -/
set_option Elab.async false
set_option linter.all false
set_option maxRecDepth 100000
set_option maxHeartbeats 1000000
set_option exponentiation.threshold 20001
namespace My
open PySem PySem.W L2
theorem to162 {n : Nat} (h : n ≤ 10 ^ 160) : n ≤ 10 ^ 162 := Nat.le_trans h (Nat.pow_le_pow_right (by decide) (by decide))
section
variable {K : Frag} {H : Hp} {D : Ends} {w0 w1 w2 w3 w4 w5 w6 w7 w8 w9 w10 w11 w12 w13 : Option V} {σ : St}
theorem gre_go {i : Nat} {l : Addr} (hi : σ[i]? = some (some (.ref l))) (h : Good K H l) : GrE (GoP K) σ H (tVar i) := fun H0 x0 Q q => ⟨_, hi, q _ H0 (Ext.refl _) ⟨l, rfl, h.ext x0⟩⟩
theorem gre_nil : GrE (GoP K) σ H (tLst tNil) := fun H0 x0 Q q => ⟨by show 0 ≤ sizeLine; decide, fun p hp => q _ _ (Ext.new hp) ⟨p, rfl, good_small (zs := []) (SqL.of upd_same) (fun z hz => nomatch hz) (by decide)⟩⟩
theorem gre_two {i j : Nat} {p r q : Addr} {a b c d : Nat} (hi : σ[i]? = some (some (.ref r))) (hj : σ[j]? = some (some (.ref q))) (h : Sm K H p r a b) (h' : Sm K H p q c d) : GrE (GoP K) σ H (tLst (tCons (tVar i) (tCons (tVar j) tNil))) := fun H0 x0 Q k =>
  ⟨_, hi, _, hj, by show 2 ≤ sizeLine; decide, fun l hl => k _ _ (Ext.new hl) ⟨l, rfl, good_small (zs := [(r, a, b), (q, c, d)]) (SqL.of upd_same) (fun z hz => by
    rcases List.mem_cons.mp hz with rfl | hz
    · exact ⟨My.SqT.ext h.at_ (x0.trans (Ext.new hl)), h.low, to162 h.le⟩
    · rw [List.mem_singleton] at hz
      subst hz
      exact ⟨My.SqT.ext h'.at_ (x0.trans (Ext.new hl)), h'.low, to162 h'.le⟩) (by show 2 ≤ 14; decide)⟩⟩
theorem gre_cat {i j m : Nat} {p r q l : Addr} {a b c d : Nat} {zs : List ShZ} (hm : σ[m]? = some (some (.ref l))) (hl : H l = some (.lst (zs.map fun z => V.ref z.1))) (hz : Shl H p zs) (len : zs.length ≤ 12) (hi : σ[i]? = some (some (.ref r))) (hj : σ[j]? = some (some (.ref q))) (h : Sm K H p r a b) (h' : Sm K H p q c d) :
    GrE (GoP K) σ H (tOp rCat (tVar m) (tLst (tCons (tVar i) (tCons (tVar j) tNil)))) := fun H0 x0 Q k => by
  refine ⟨_, hm, _, hi, _, hj, by show 2 ≤ sizeLine; decide, fun l2 e2 => ?_⟩
  have x1 := Ext.new (o := .lst [V.ref r, V.ref q]) e2
  have f1 : upd H0 l2 (.lst [V.ref r, V.ref q]) l2 = some (.lst [V.ref r, V.ref q]) := upd_same
  generalize upd H0 l2 (.lst [V.ref r, V.ref q]) = H1 at x1 f1 ⊢
  refine ⟨l, l2, _, _, rfl, rfl, x1 _ _ (x0 _ _ hl), f1, ?_, fun m' hm' => ?_⟩
  · rw [List.length_map]; show zs.length + 2 ≤ sizeLine; exact Nat.le_trans (Nat.add_le_add_right len 2) (by decide)
  · have x2 := Ext.new (o := .lst (zs.map (fun z => V.ref z.1) ++ [V.ref r, V.ref q])) hm'
    have f2 : upd H1 m' (.lst (zs.map (fun z => V.ref z.1) ++ [V.ref r, V.ref q])) m' = some (.lst ((zs ++ [(r, a, b), (q, c, d)]).map fun z => V.ref z.1)) := by rw [upd_same, List.map_append]; rfl
    generalize upd H1 m' (.lst (zs.map (fun z => V.ref z.1) ++ [V.ref r, V.ref q])) = H2 at x2 f2 ⊢
    have x := (x0.trans x1).trans x2
    refine k _ _ (x1.trans x2) ⟨m', rfl, good_small (SqL.of f2) (fun z hz' => ?_) ?_⟩
    · rcases List.mem_append.mp hz' with hz' | hz'
      · obtain ⟨_, e, lo, le⟩ := hz z hz'
        exact ⟨SqT.of (x _ _ e), lo, le⟩
      · rcases List.mem_cons.mp hz' with rfl | hz'
        · exact ⟨My.SqT.ext h.at_ x, h.low, to162 h.le⟩
        · rw [List.mem_singleton] at hz'
          subst hz'
          exact ⟨My.SqT.ext h'.at_ x, h'.low, to162 h'.le⟩
    · rw [List.length_append]; show zs.length + 2 ≤ 14; omega
theorem good_shl {p l : Addr} {zs : List ShZ} (hl : H l = some (.lst (zs.map fun z => V.ref z.1))) (hz : Shl H p zs) (len : zs.length ≤ 12) : Good K H l :=
  good_small (SqL.of hl) (fun z hz' => ⟨SqT.of (hz z hz').2.1, (hz z hz').2.2⟩) (Nat.le_trans len (by decide))
theorem gr_B9 {p r2 r8 l : Addr} {a2 b2 a8 b8 : Nat} {zs : List ShZ} (e12 : σ[12]? = some (some (.ref l))) (e2 : σ[2]? = some (some (.ref r2))) (e8 : σ[8]? = some (some (.ref r8))) (hl : H l = some (.lst (zs.map fun z => V.ref z.1))) (hz : Shl H p zs) (len : zs.length ≤ 12) (h2 : Sm K H p r2 a2 b2) (h8 : Sm K H p r8 a8 b8) : GrL (GoP K) σ H tB9 4 :=
  grl_lst grows_go (gra_cons grows_go (gre_go e12 (good_shl hl hz len)) (gra_cons grows_go gre_nil (gra_cons grows_go (gre_two e8 e2 h8 h2) (gra_cons grows_go (gre_cat e12 hl hz len e2 e8 h2 h8) gra_nil)))) (by decide)
theorem rd_B89 {p r2 r8 : Addr} {a2 b2 a8 b8 : Nat} (hp : PurseAt H p) (h2 : Sm K H p r2 a2 b2) (h8 : Sm K H p r8 a8 b8)
    (nx : ∀ H' o12 o13, Kept H H' p → D.nx [w0, w1, some (.ref r2), w3, w4, w5, w6, some (.ref p), some (.ref r8), w9, w10, w11, o12, o13] H') :
    tSeq (tB8 K) (tLts K tB9) D [w0, w1, some (.ref r2), w3, w4, w5, w6, some (.ref p), some (.ref r8), w9, w10, w11, w12, w13] H := by
  refine ⟨_, rfl, p, rfl, hp, fun l zs H1 nl h0 hl hz len hp1 k1 => ?_⟩
  show tLts K tB9 D [w0, w1, some (.ref r2), w3, w4, w5, w6, some (.ref p), some (.ref r8), w9, w10, w11, some (.ref l), w13] H1
  have g : GrL (GoP K) [w0, w1, some (.ref r2), w3, w4, w5, w6, some (.ref p), some (.ref r8), w9, w10, w11, some (.ref l), w13] H1 tB9 4 := gr_B9 rfl rfl rfl hl hz len (h2.kept k1) (h8.kept k1)
  exact rd_lts (D := D) g fun H' o x => nx H' _ _ (k1.trans (Ext.kept x p))
theorem rd_Bd {a : Addr} {ns : List Int} {k : Int} (ha : SqL K H a (ns.map V.int)) (hk : 0 ≤ k)
    (nx : ∀ H' o2 o3 o4 o7 o8 o9 o10 o11 o12 o13, Ext H H' → D.nx [some (.ref a), w1, o2, o3, o4, w5, some (.int k), o7, o8, o9, o10, o11, o12, o13] H') :
    tBd K D [some (.ref a), w1, w2, w3, w4, w5, some (.int k), w7, w8, w9, w10, w11, w12, w13] H := by
  refine rd_B123 (D := D) ha hk fun p r8 r9 a8 b8 a9 b9 H1 x1 hp1 s8 s9 hp0 => ?_
  refine rd_B45 (D := D) hp1 s8 fun r2 o10 H2 x2 s2 => ?_
  refine rd_B67 (D := D) s2 (s8.ext x2) (s9.ext x2) fun H3 o3 o4 o11 x3 => ?_
  refine rd_B89 (D := D) ((hp1.ext x2).ext x3) (s2.ext x3) ((s8.ext x2).ext x3) fun H4 o12 o13 k4 => ?_
  exact nx H4 _ _ _ _ _ _ _ _ _ _ (fresh_ext hp0 ((Ext.kept ((x1.trans x2).trans x3) p).trans k4))
theorem rd_law {a : Addr} {ns : List Int} {Q : VK} {bk ct nx : St → Hp → Prop} (ha : SqL K H a (ns.map V.int)) (q : ∀ H', Q (.bl true) H') :
    tLw K ⟨nx, Q, bk, ct⟩ [some (.ref a), none, none, none, none, none, none, none, none, none, none, none, none, none] H := by
  refine ⟨rfl, fun g hg => ?_⟩
  have gr := gr999
  generalize (10 : Nat) ^ 999 = n at gr ⊢
  have x0 := Ext.new (o := .tup [.int ((n + 6 : Nat) : Int), .int ((n + 7 : Nat) : Int)]) hg
  have eg := SqT.of (K := K) (H := upd H g (.tup [.int ((n + 6 : Nat) : Int), .int ((n + 7 : Nat) : Int)])) (a := g) upd_same
  generalize upd H g (.tup [.int ((n + 6 : Nat) : Int), .int ((n + 7 : Nat) : Int)]) = H0 at x0 eg
  have ha0 := My.SqL.ext ha x0
  refine rd_G23 (D := ⟨_, Q, bk, ct⟩) gr eg fun H1 o2 o3 o4 x1 => ?_
  refine rd_G45 (D := ⟨_, Q, bk, ct⟩) fun H2 o5 x2 => ?_
  have ha2 := My.SqL.ext ha0 (x1.trans x2)
  refine ⟨_, rfl, a, _, rfl, .inl ha2, _, _, rfl, _, _, rfl, ?_⟩
  generalize hm : (if (if (5 : Int) < ((ns.map V.int).length : Nat) then (5 : Int) else ((ns.map V.int).length : Nat)) > 1 then (if (5 : Int) < ((ns.map V.int).length : Nat) then (5 : Int) else ((ns.map V.int).length : Nat)) else 1) = m
  have m1 : m ≤ 5 := by rw [← hm]; split <;> (try split) <;> omega
  have m0 : 1 ≤ m := by rw [← hm]; split <;> (try split) <;> omega
  refine ⟨m, rfl, by omega, by omega, ?_⟩
  refine for_range (n := m.toNat) (fun i σ H' => Ext H2 H' ∧ ∃ w2 w3 w4 w5 w6 w7 w8 w9 w10 w11 w12 w13, σ = [some (.ref a), some (.ref g), w2, w3, w4, w5, w6, w7, w8, w9, w10, w11, w12, w13]) ⟨Ext.refl _, _, _, _, _, _, _, _, _, _, _, _, _, rfl⟩ ?_ ?_
  · rintro i σ H' hi ⟨x, w2, w3, w4, w5, w6, w7, w8, w9, w10, w11, w12, w13, rfl⟩
    exact rd_Bd (k := 0 + (i : Int)) (My.SqL.ext ha2 x) (by omega) fun H3 o2 o3 o4 o7 o8 o9 o10 o11 o12 o13 x3 => ⟨x.trans x3, _, _, _, _, _, _, _, _, _, _, _, _, rfl⟩
  · rintro σ H' ⟨x, w2, w3, w4, w5, w6, w7, w8, w9, w10, w11, w12, w13, rfl⟩
    exact q H'
end
section
variable {P : Program} {w : World} {K : Frag} {mg : Str → Option Value} {base : Heap} {a0 a1 a2 a3 a4 a5 a6 a7 : Addr} {d0 d1 d2 d3 d4 d5 d6 d7 : FuncData}
theorem ok_law {f : Addr} {fd : FuncData} (F : Fun K "law" "law" sLaw f fd) (T : Dl P w K mg base a0 a1 a2 a3 a4 a5 a6 a7 d0 d1 d2 d3 d4 d5 d6 d7)
    (mr : mg "range" = none) (mm : mg "min" = none) (mx : mg "max" = none) (ml : mg "len" = none) : FnOk P w K mg base CX0 8 f fd ["_law_script"] (spLaw K) := by
  refine F.ok scLw (fun vs H Q E h => ?_) (fun cdv A outer s H vs Q E hr h => ?_)
  · obtain ⟨a, ns, rfl, _⟩ := h
    rfl
  obtain ⟨a, ns, rfl, ha, _, hz, q⟩ := h
  exact ⟨_, law_der T mr mm mx ml hr, rd_law ha q⟩
end
end My

/-! Q13 -/
set_option Elab.async false
set_option linter.all false
set_option maxRecDepth 100000
set_option maxHeartbeats 4000000
set_option exponentiation.threshold 20001
namespace My
open PySem PySem.W L2
theorem mroC {K : Frag} {D C f : Addr} {nm : Str} (T : ErrC K D nm C f) (b : Value) : mroIn K C b = some ((Value.ref C :: .ref D :: bmV).contains b) := by
  obtain ⟨cd, h1, _, h3⟩ := T.clsIn
  unfold mroIn
  rw [h1, Option.bind_some, h3]
  rfl
theorem kit_ty {K : Frag} {D C f : Addr} {nm : Str} (T : ErrC K D nm C f) {n : String} {b : Bool} (hm : kitMeta n = true) (hb : bmV.contains (.type n) = b) : kitOne K (.ref C) (.type n) = some b := by
  unfold kitOne
  rw [if_neg (by intro e; cases beq_iff_eq.mp e)]
  show (if kitMeta n = true then subIn K (.ref C) (.type n) else none) = _
  rw [if_pos hm]
  show mroIn K C _ = _
  rw [mroC T, List.contains_cons, List.contains_cons, hb]
  rfl
theorem kit_cc {K : Frag} {D C f C' f' : Addr} {nm nm' : Str} (T : ErrC K D nm C f) (T' : ErrC K D nm' C' f') (ne : C' ≠ C) (nd : C' ≠ D) : kitOne K (.ref C) (.ref C') = some false := by
  unfold kitOne
  rw [if_neg (by intro e; exact ne (Value.ref.inj (beq_iff_eq.mp e)).symm)]
  show (if ((clsIn K C').isSome && typeIn K (.ref C') == some (.type "type")) = true then subIn K (.ref C) (.ref C') else none) = _
  obtain ⟨cd, h1, _⟩ := T'.clsIn
  rw [h1, T'.type]
  simp only [Option.isSome_some, beq_self_eq_true, Bool.and_self, if_true]
  show mroIn K C _ = _
  rw [mroC T, List.contains_cons, List.contains_cons]
  have n1 : (Value.ref C' == Value.ref C) = false := beq_eq_false_iff_ne.mpr fun z => ne (Value.ref.inj z)
  have n2 : (Value.ref C' == Value.ref D) = false := beq_eq_false_iff_ne.mpr fun z => nd (Value.ref.inj z)
  rw [n1, n2]
  rfl
theorem kit_same {K : Frag} {C : Addr} : kitOne K (.ref C) (.ref C) = some true := by
  unfold kitOne
  rw [if_pos (beq_self_eq_true _)]
theorem kit_any2 {K : Frag} {t a b : Value} (h1 : kitOne K t a = some false) (h2 : kitOne K t b = some false) : kitAny K t [a, b] = some false := by
  simp [kitAny, h1, h2]
theorem neD_of {K : Frag} {D C f : Addr} {nm : Str} (T : ErrC K D nm C f) (B : BaseC K D) : C ≠ D := by
  intro e
  obtain ⟨q, N, bs, sn, sub, ab, col, dd, k0, k1, k2, k3, k5, l⟩ := T.cls
  obtain ⟨nm', q', N', bs', sn', sub', ab', col', dd', k0', k1', k2', k3', k5', l', _⟩ := B.cls
  rw [e, l'] at l
  have z := Option.some.inj l
  injection z with _ _ z _
  injection z with z
  injection z with _ _ z
  cases z
theorem ne_names {K : Frag} {D C f C' f' : Addr} {nm nm' : Str} (T : ErrC K D nm C f) (T' : ErrC K D nm' C' f') (h : nm ≠ nm') : C' ≠ C := by
  intro e
  obtain ⟨q, N, bs, sn, sub, ab, col, dd, k0, k1, k2, k3, k5, l⟩ := T.cls
  obtain ⟨q', N', bs', sn', sub', ab', col', dd', k0', k1', k2', k3', k5', l'⟩ := T'.cls
  rw [e, l] at l'
  have z := Option.some.inj l'
  injection z with _ _ z _
  injection z with z
  injection z with z
  exact h z
theorem baseType {K : Frag} {D : Addr} (B : BaseC K D) : typeIn K (.ref D) = some (.type "type") := by
  obtain ⟨nm', q', N', bs', sn', sub', ab', col', dd', k0', k1', k2', k3', k5', l', _⟩ := B.cls
  show (List.lookup D K).map (·.cls) = _
  rw [l']
  rfl
theorem baseCls {K : Frag} {D : Addr} (B : BaseC K D) : ∃ cd, clsIn K D = some cd := by
  obtain ⟨nm', q', N', bs', sn', sub', ab', col', dd', k0', k1', k2', k3', k5', l', _⟩ := B.cls
  unfold clsIn
  rw [l']
  exact ⟨_, rfl⟩
abbrev sIni2 : Stmt := inClass (top 2) 0
theorem scIni2 : FnScope ["self", "found"] ["self", "found"] (defScope sIni2) := ⟨rfl, rfl, rfl, by decide +kernel, rfl, by decide +kernel, by decide +kernel⟩
theorem one2 {K : Frag} {mg : Str → Option Value} {D C f : Addr} {fd : FuncData} (B : BaseC K D) (T : ErrC K D "NoShare" C f) (mD : mg "DealError" = some (.ref D)) (mC : mg "NoShare" = some (.ref C)) (F : Fun K "__init__" "NoShare.__init__" sIni2 f fd) (tk : takerIn K C "found" = some none) : One K mg D "NoShare" sIni2 C f fd := by
  refine ⟨T, mC, fun P w base => ?_, F.binds fun _ _ _ _ _ _ us hl => match us, hl with | [_, _], _ => rfl⟩
  refine F.ok scIni2 (fun vs H Q E h => ?_) (fun cdv A outer s H vs Q E hr h => ?_)
  · obtain ⟨x, v, rfl, _⟩ := h
    rfl
  obtain ⟨x, v, rfl, hx, q⟩ := h
  refine ⟨_, pss_cons (ps_expr (pe_baseInit B T rfl mD (pv 0) pe_str)) (pss_one (ps_err T (pv 0) (pv 1) rfl)), ?_⟩
  exact ⟨_, rfl, x, rfl, hx, _, rfl, _, rfl, x, rfl, hx, tk, q⟩
end My

/-! Hd -/
set_option Elab.async false
set_option linter.all false
set_option maxRecDepth 100000
set_option maxHeartbeats 4000000
namespace Att
open PySem PySem.W PySem.Calls PyProof.Rows
theorem script_low {R : WRecords} {cl : Str → Option Addr} {h : Heap} {a : Addr} {ds : List WData} {as : List Addr} (r : ReadsAllW R cl h [.ref a] [.list ds] as) : a ∈ as := by
  cases r with
  | cons r1 r2 =>
    cases r1 with
    | list => simp
theorem attach_callS {l : OpenLaw} {n : Nat} {q : Program} {loose : List Str} {XP : (Str → Option Value) → Heap → Prop} {YP : World → Heap → Prop} {d : DefRec}
    (hn : l.most = some n) (hdf : d.params.defaults = [])
    (call : ∀ (w : World) (s₀ s₁ : Shared) (mg mb : Str → Option Value) (fa : Addr) (o : Obj) (pm cd doc : Value) (a : Addr) (vs : List Value) (ns : List Int),
      Ground q loose [] XP w s₀ mg mb s₁.heap → YP w s₁.heap →
      s₁.heap.get? fa = some o → o.data = .func (docDef d.name d.params d.body d.scope pm cd doc) → s₁.heap.CodeRec cd d.name → mg d.name = some (.ref fa) →
      s₁.heap.get? a = some { cls := .type "list", data := .seq vs.toArray } → IntsAre vs ns → ns.length ≤ n → s₁.gens = #[] → a ≠ sysModules →
      codeAny (model l.prog w) callerA (.call (.ref fa) ⟨[.ref a], []⟩) (fun r s' => r = .ok (.ret (.bool true)) ∧ OldK s₁.heap s'.heap ∧ s'.os = s₁.os ∧ AllBare s'.gens) s₁) :
    WalkO q loose XP YP l.row.toRowW d [] (fun f vs => PySem.call f vs) := by
  intro w s₀ s₁ mg mb G Y fa o pm cd doc dV kV ho hd hcd hD hmg hg args vals as hpre hlay hrd hwl hlo
  obtain rfl : dV = .none := Dflts.none hD hdf
  obtain rfl : kV = .none := Dflts.noKw hD
  obtain ⟨a, vs, ns, rfl, rfl, hobj, hints, hlen⟩ := script_of hn hpre hwl
  have low : a ≠ sysModules := beq_eq_false_iff_ne.mp (hlo a (script_low hrd))
  refine enter_call (codeAny_mono (call w s₀ s₁ mg mb fa o pm cd doc a vs ns G Y ho (fd_plain hd) hcd hmg hobj hints hlen hg low) fun r s' hq => ?_)
  obtain ⟨rfl, h2, h3, h4⟩ := hq
  exact ⟨.inl ⟨.bool true, .bool true, [], rfl, fun _ => rfl, .bool true, post_true l _, fun _ => ⟨List.Pairwise.nil, fun _ hm => (nomatch hm)⟩⟩, h2, h3, h4⟩
end Att
namespace L2
open PySem PySem.Spec PyProof.Rows
theorem law_callS {P : Program} {w : World} {K : PySem.W.Frag} {mg mb : Str → Option Value} {CX : CXT} {k : Nat} {fa a : Addr} {fd : FuncData} {x : Str} {sp : Sp} {s₁ : Shared} {vs : List Value} {ns : List Int}
    (KX : K.In s₁.heap) (hns : s₁.heap.Ns mainGlobals mg) (hb : s₁.heap.Ns builtinsNs mb) (hbb : ∀ x : Str, x ≠ "__name__" → mb x = bootBuiltins x) (hlim : s₁.heap.NoLimit) (hg : s₁.gens = #[])
    (ha : s₁.heap.get? a = some { cls := .type "list", data := .seq vs.toArray }) (hi : IntsAre vs ns) (hl : ns.length ≤ sizeLine) (hr : Room k callerA) (low : a ≠ sysModules)
    (F : ∀ base : Heap, K.In base → base.Ns mainGlobals mg → FnOk P w K mg base CX k fa fd [x] sp) (hbind : ∀ (s : Shared) (u : Value), BindsTo s fd ⟨[u], []⟩ [(x, u)])
    (hsp : ∀ H : Hp, Only H → SqL K H a (ns.map V.int) → H sysModules = none → sp [.ref a] H (fun v _ => v = .bl true) fun _ _ _ => False)
    (hCX : ∀ H e s', CX [] H s₁ (fun _ _ _ => False) e s' → False) :
    codeAny (model P w) callerA (.call (.ref fa) ⟨[.ref a], []⟩) (fun r s' => r = .ok (.ret (.bool true)) ∧ OldK s₁.heap s'.heap ∧ s'.os = s₁.os ∧ AllBare s'.gens) s₁ := by
  have rv := vals_ints hi
  have lenV := hi.length
  -- from an abstract heap in which nothing but the script may be tracked
  have core : ∀ H : Hp, Only H → SqL K H a (ns.map V.int) → HOk P w H s₁.heap → (∀ b, H b ≠ none → b = a) → (H a ≠ none → K.lookup a = none) →
      codeAny (model P w) callerA (.call (.ref fa) ⟨[.ref a], []⟩) (fun r s' => r = .ok (.ret (.bool true)) ∧ OldK s₁.heap s'.heap ∧ s'.os = s₁.os ∧ AllBare s'.gens) s₁ := by
    intro H hO hS hok hA hK
    have hz : H sysModules = none := by
      cases q : H sysModules with
      | none => rfl
      | some u => exact absurd (hA _ (by rw [q]; simp)).symm low
    have base_of : ∀ {b : Addr} {o : Obj}, s₁.heap.get? b = some o → H b = none → (hidT s₁.heap H).get? b = some o := fun e n => hidT_get e n
    have noA : ∀ {b : Addr} {o : Obj} {es : Array DictEntry} {ep : Nat}, s₁.heap.get? b = some o → o.data = .dict es ep → H b = none := fun {b o es ep} e d => by
      cases q : H b with
      | none => rfl
      | some u =>
        have e' : b = a := hA b (by rw [q]; simp)
        subst e'
        rw [ha] at e; cases e
        have d' : Data.seq vs.toArray _ = Data.dict es ep := d
        cases d'
    have nsK : ∀ {b : Addr} {m : Str → Option Value}, s₁.heap.Ns b m → (hidT s₁.heap H).Ns b m := fun {b m} ⟨o, es, ep, e, d, r⟩ => ⟨o, es, ep, base_of e (noA e d), d, r⟩
    have hKb : K.In (hidT s₁.heap H) := fun b o e => base_of (KX b o e) (by
      cases q : H b with
      | none => rfl
      | some u =>
        have e' : b = a := hA b (by rw [q]; simp)
        subst e'
        rw [hK (by rw [q]; simp)] at e; cases e)
    have hM : Mod K mg (hidT s₁.heap H) := ⟨hKb, nsK hns, ⟨mb, nsK hb, hbb⟩, let ⟨mc, h1, h2⟩ := hlim; ⟨mc, nsK h1, h2⟩⟩
    have e0 : Env0 P w K mg (hidT s₁.heap H) callerA [] s₁ H := ⟨rfl, hM, fun b o e => of_hidT e, Nat.le_of_eq (hidT_size _ _), trivial, fun b hb => absurd (show b ∈ ([] : List Addr) from hb) (by simp), hok, .of_eq hg⟩
    refine codeAny_mono ((F _ hKb (nsK hns)).run callerA [] s₁ H ⟨[.ref a], []⟩ [.ref a] [.ref a] _ _ hr e0 (hbind s₁ (.ref a)) (.cons rfl .nil) (hsp H hO hS hz)) fun r s' h => ?_
    cases r with
    | error e => exact (hCX H e s' h).elim
    | ok fl =>
      cases fl with
      | next => exact False.elim h
      | brk => exact False.elim h
      | cont => exact False.elim h
      | ret u =>
        obtain ⟨v, H', os, bare, un, hok', r', q⟩ := h
        have q' : v = .bl true := q
        subst q'
        obtain rfl : u = Value.bool true := r'
        refine ⟨rfl, OldK.of_keep fun b o e => ?_, os, bare⟩
        cases q : H b with
        | none => exact un.keep b o e q (by intro z; exact absurd (show b ∈ ([] : List Addr) from z) (by simp)) (by simp)
        | some u =>
          rcases hO b with z | ⟨ob, xs, z⟩
          · rw [q] at z; cases z
          · have z2 := un.frzs b ob _ z
            obtain ⟨e1, _⟩ := hok b _ z
            obtain ⟨e2, _⟩ := hok' b _ z2
            rw [e] at e1; cases e1
            exact e2
  cases hk : K.lookup a with
  | some o =>
    -- the script is one of the module's own objects
    have e := KX a o hk
    rw [ha] at e
    cases e
    refine core (fun _ => none) (fun _ => .inl rfl) (.inr ⟨_, vs.toArray, _, hk, rfl, rfl, rfl, by rw [List.size_toArray, lenV]; exact hl, by simpa using rv⟩) (fun b u z => by have z' : (none : Option HO) = some u := z; cases z') (fun b z => absurd rfl z) fun z => absurd rfl z
  | none =>
    refine core (fun b => if b = a then some (.frz { cls := .type "list", data := .seq vs.toArray } (.lst (ns.map V.int))) else none) (fun b => ?_) (.inl (.inr ⟨{ cls := .type "list", data := .seq vs.toArray }, if_pos rfl⟩)) (fun b u z => ?_) (fun b z => ?_) fun _ => hk
    · by_cases hb : b = a
      · exact .inr ⟨_, _, if_pos hb⟩
      · exact .inl (if_neg hb)
    · by_cases hb : b = a
      · have z' := (if_pos hb).symm.trans z
        cases z'
        subst hb
        exact ⟨ha, by rw [List.length_map]; exact hl, vs, _, rv, ha⟩
      · have z' := (if_neg hb).symm.trans z
        cases z'
    · by_cases hb : b = a
      · exact hb
      · exact absurd (if_neg hb) z

theorem walk_ofS {l : PySem.W.OpenLaw} {n k : Nat} {q : Program} {loose : List Str} {XP : (Str → Option Value) → Heap → Prop} {YP : World → Heap → Prop} {d : DefRec} {K : Params → PySem.W.Frag} {CX : World → CXT} {sp : World → Sp} {x : Str}
    (hn : l.most = some n) (hn2 : n ≤ sizeLine) (hdf : d.params.defaults = []) (hr : Room k callerA)
    (hY : ∀ (w : World) (h : Heap), YP w h → (K w.params).In h)
    (F : ∀ (w : World) (mg : Str → Option Value) (fa : Addr) (h : Heap), (K w.params).In h → h.Ns mainGlobals mg → mg d.name = some (.ref fa) →
      ∃ fd : FuncData, (∀ (s : Shared) (u : Value), BindsTo s fd ⟨[u], []⟩ [(x, u)]) ∧
        ∀ base : Heap, (K w.params).In base → base.Ns mainGlobals mg → FnOk l.prog w (K w.params) mg base (CX w) k fa fd [x] (sp w))
    (hsp : ∀ (w : World) (H : Hp) (a : Addr) (ns : List Int), ns.length ≤ n → Only H → SqL (K w.params) H a (ns.map V.int) → H sysModules = none → sp w [.ref a] H (fun v _ => v = .bl true) fun _ _ _ => False)
    (hCX : ∀ (w : World) (H : Hp) (s : Shared) (e : Value) (s' : Shared), CX w [] H s (fun _ _ _ => False) e s' → False) :
    PySem.W.WalkO q loose XP YP l.row.toRowW d [] (fun f vs => PySem.call f vs) := by
  refine Att.attach_callS hn hdf fun w s₀ s₁ mg mb fa o pm cd doc a vs ns G Y ho hd hcd hmg hobj hints hlen hg low => ?_
  have KX := hY w _ Y
  obtain ⟨fd, hb, hF⟩ := F w mg fa _ KX G.T.g hmg
  exact law_callS KX G.T.g G.T.b G.T.builtins G.T.nolimit hg hobj hints (Nat.le_trans hlen hn2) hr low hF hb (fun H hO hS hz => hsp w H a ns hlen hO hS hz) fun H e s' => hCX w H s₁ e s'
end L2

/-! Am3 -/
set_option Elab.async false
set_option linter.all false
set_option maxRecDepth 100000
set_option maxHeartbeats 4000000
set_option exponentiation.threshold 20001
namespace My
open PySem PySem.W L2
def keyStr : Value → Bool
  | .str _ _ => true
  | _ => false
theorem strKeys_of {es : Array DictEntry} (h : (es.toList.all fun e => keyStr e.key) = true) : StrKeys es := fun e he => by
  have z := List.all_eq_true.mp h e (by simpa using he)
  cases k : e.key with
  | str n t => exact ⟨n, t, rfl⟩
  | _ => rw [k] at z; cases z
theorem mro_of {K : Frag} {C : Addr} {cd : ClassData} {b : Value} (h : clsIn K C = some cd) (hb : cd.mro.isEmpty = false) (hc : cd.mro.contains b = true) : mroIn K C b = some true := by
  unfold mroIn
  rw [h, Option.bind_some, hb, hc]
  rfl
theorem base_mk {K : Frag} {D N : Addr} {nm q : Str} {bs : List Value} {sn : List Str} {sub : List Value} {ab : Bool} {col : Option Bool} {dd : Option Addr} {k0 k1 k2 k3 k5 : Option Value}
    {cN : Value} {dN : Option Addr} {es : Array DictEntry} {ep : Nat} {sN : Array (Option Value)}
    (lD : K.lookup D = some (excClassObj nm q D N bs bmV true sn sub ab col dd k0 k1 k2 k3 k5 "ValueError.__new__"))
    (lN : K.lookup N = some ⟨cN, dN, .dict es ep, sN⟩) (sk : StrKeys es) (ni : nsFind es "__init__" = none)
    (ga : specialIn K (.ref D) "__getattribute__" = some (some (.builtin "type.__getattribute__"))) (rd : readsIn K D (.type "type") = true)
    (ini : findCls K (.ref D) (.type "type") "__init__" = some (.val (.builtin "ValueError.__init__"))) (fi : findIn K (.ref D) "__init__" = some (some (.builtin "ValueError.__init__"))) (kp : keepIn K (.ref D) = true)
    (gb : findIn K (.ref D) "__getattribute__" = some (some (.builtin bga))) (hk : findIn K (.ref D) "__getattr__" = some none) (ca : findIn K (.ref D) "__class__" = some (some (.builtin "object.__class__"))) : BaseC K D := by
  have hc : clsIn K D = some { name := nm, bases := bs, mro := .ref D :: bmV, ns := N, qualname := q, hasDict := true, slotNames := sn, subclasses := sub, abstract := ab, collection := col, hasDel := false } := by
    unfold clsIn
    rw [lD]
  refine ⟨⟨nm, q, N, bs, sn, sub, ab, col, dd, k0, k1, k2, k3, k5, lD, _, es, ep, lN, rfl, sk, ni⟩, ga, rd, ini, fi, kp, ⟨by rw [hc]; rfl, gb, hk, mro_of hc rfl ?_, mro_of hc rfl ?_, ca⟩⟩
  · show (Value.ref D :: bmV).contains (.type "BaseException") = true
    rw [List.contains_cons]
    rfl
  · show (Value.ref D :: bmV).contains (.type "object") = true
    rw [List.contains_cons]
    rfl
theorem err_mk {K : Frag} {D C N f : Addr} (nm : Str)
    {q : Str} {bs : List Value} {sn : List Str} {sub : List Value} {ab : Bool} {col : Option Bool} {dd : Option Addr} {k0 k1 k2 k3 k5 : Option Value}
    (lC : K.lookup C = some (excClassObj nm q C N bs (.ref D :: bmV) true sn sub ab col dd k0 k1 k2 k3 k5 "ValueError.__new__"))
    (ini : findIn K (.ref C) "__init__" = some (some (.ref f))) (fn : typeIn K (.ref f) = some (.type "function")) (kp : keepIn K (.ref C) = true)
    (sa : findIn K (.ref C) "__setattr__" = some (some (.builtin "object.__setattr__"))) (ga : findIn K (.ref C) "__getattribute__" = some (some (.builtin bga))) (hk : findIn K (.ref C) "__getattr__" = some none)
    (ca : findIn K (.ref C) "__class__" = some (some (.builtin "object.__class__"))) : ErrC K D nm C f := by
  have hc : clsIn K C = some { name := nm, bases := bs, mro := .ref C :: .ref D :: bmV, ns := N, qualname := q, hasDict := true, slotNames := sn, subclasses := sub, abstract := ab, collection := col, hasDel := false } := by
    unfold clsIn
    rw [lC]
  refine ⟨⟨q, N, bs, sn, sub, ab, col, dd, k0, k1, k2, k3, k5, lC⟩, ini, fn, kp, sa, ⟨by rw [hc]; rfl, ga, hk, mro_of hc rfl ?_, mro_of hc rfl ?_, ca⟩⟩
  · show (Value.ref C :: .ref D :: bmV).contains (.type "BaseException") = true
    rw [List.contains_cons, List.contains_cons]
    rfl
  · show (Value.ref C :: .ref D :: bmV).contains (.type "object") = true
    rw [List.contains_cons, List.contains_cons]
    rfl
/-- a def as the top has written it -/
structure Dn (K : Frag) (mg : Str → Option Value) (nm : Str) (st : Stmt) (ps : List Str) (f : Addr) (fd : FuncData) : Prop where
  fn : Fun K nm nm st f fd
  bi : Binds K fd ps []
  kp : keepIn K (.ref f) = true
  mg : mg nm = some (.ref f)
section
variable {P : Program} {w : World} {K : Frag} {mg : Str → Option Value} {base : Heap}
theorem Dn.df {nm : Str} {st : Stmt} {ps : List Str} {f : Addr} {fd : FuncData} (d : Dn K mg nm st ps f fd) {cx : CXT} {k : Nat} {sp : Sp} (h : FnOk P w K mg base cx k f fd ps sp) : Df P w K mg base cx k nm ps sp f fd := ⟨h, d.bi, d.kp, d.mg⟩
theorem top_two {p : Addr} {i j : Int} {od : Option Addr} {t u : Tok} {n : Nat} {sl : Array (Option Value)} (l : K.lookup p = some ⟨.type "tuple", od, .seq #[.int i t, .int j u] n, sl⟩) (H : Hp) : SqT K H p [.int i, .int j] :=
  .inr ⟨_, _, _, l, rfl, rfl, by show 2 ≤ sizeLine; decide, .cons ⟨_, rfl⟩ (.cons ⟨_, rfl⟩ .nil)⟩
end
theorem dn_0 {K : Frag} {h : Heap} {mg : Str → Option Value} {g : Addr} {oc kV dc pm cd ct : Value} {od an : Option Addr} {sl : Array (Option Value)} (X : K.In h) (G : h.Ns mainGlobals mg)
    (a : nsIn K mainGlobals "greatest_common" = some (some (.ref g))) (l : K.lookup g = some ⟨oc, od, .func (fnOf "greatest_common" "greatest_common" (defArgs sGcd) (defBody sGcd) (defScope sGcd) .none kV dc pm an cd ct), sl⟩) (c : codeIn K cd "greatest_common" = true) (k : keepIn K (.ref g) = true) :
    Dn K mg "greatest_common" sGcd ["one", "other"] g (fnOf "greatest_common" "greatest_common" (defArgs sGcd) (defBody sGcd) (defScope sGcd) .none kV dc pm an cd ct) := by
  have F := fun_mk (st := sGcd) l c k
  exact ⟨F, F.binds fun _ _ _ _ _ _ us hl => match us, hl with | [_, _], _ => rfl, k, mg_of X G a⟩
theorem dn_1 {K : Frag} {h : Heap} {mg : Str → Option Value} {g : Addr} {oc kV dc pm cd ct : Value} {od an : Option Addr} {sl : Array (Option Value)} (X : K.In h) (G : h.Ns mainGlobals mg)
    (a : nsIn K mainGlobals "added" = some (some (.ref g))) (l : K.lookup g = some ⟨oc, od, .func (fnOf "added" "added" (defArgs sAdd) (defBody sAdd) (defScope sAdd) .none kV dc pm an cd ct), sl⟩) (c : codeIn K cd "added" = true) (k : keepIn K (.ref g) = true) :
    Dn K mg "added" sAdd ["one", "top", "bottom"] g (fnOf "added" "added" (defArgs sAdd) (defBody sAdd) (defScope sAdd) .none kV dc pm an cd ct) := by
  have F := fun_mk (st := sAdd) l c k
  exact ⟨F, F.binds fun _ _ _ _ _ _ us hl => match us, hl with | [_, _, _], _ => rfl, k, mg_of X G a⟩
theorem dn_2 {K : Frag} {h : Heap} {mg : Str → Option Value} {g : Addr} {oc kV dc pm cd ct : Value} {od an : Option Addr} {sl : Array (Option Value)} (X : K.In h) (G : h.Ns mainGlobals mg)
    (a : nsIn K mainGlobals "plus_share" = some (some (.ref g))) (l : K.lookup g = some ⟨oc, od, .func (fnOf "plus_share" "plus_share" (defArgs sPlu) (defBody sPlu) (defScope sPlu) .none kV dc pm an cd ct), sl⟩) (c : codeIn K cd "plus_share" = true) (k : keepIn K (.ref g) = true) :
    Dn K mg "plus_share" sPlu ["one", "other"] g (fnOf "plus_share" "plus_share" (defArgs sPlu) (defBody sPlu) (defScope sPlu) .none kV dc pm an cd ct) := by
  have F := fun_mk (st := sPlu) l c k
  exact ⟨F, F.binds fun _ _ _ _ _ _ us hl => match us, hl with | [_, _], _ => rfl, k, mg_of X G a⟩
theorem dn_3 {K : Frag} {h : Heap} {mg : Str → Option Value} {g : Addr} {oc kV dc pm cd ct : Value} {od an : Option Addr} {sl : Array (Option Value)} (X : K.In h) (G : h.Ns mainGlobals mg)
    (a : nsIn K mainGlobals "minus_share" = some (some (.ref g))) (l : K.lookup g = some ⟨oc, od, .func (fnOf "minus_share" "minus_share" (defArgs sMin) (defBody sMin) (defScope sMin) .none kV dc pm an cd ct), sl⟩) (c : codeIn K cd "minus_share" = true) (k : keepIn K (.ref g) = true) :
    Dn K mg "minus_share" sMin ["one", "other"] g (fnOf "minus_share" "minus_share" (defArgs sMin) (defBody sMin) (defScope sMin) .none kV dc pm an cd ct) := by
  have F := fun_mk (st := sMin) l c k
  exact ⟨F, F.binds fun _ _ _ _ _ _ us hl => match us, hl with | [_, _], _ => rfl, k, mg_of X G a⟩
theorem dn_4 {K : Frag} {h : Heap} {mg : Str → Option Value} {g : Addr} {oc kV dc pm cd ct : Value} {od an : Option Addr} {sl : Array (Option Value)} (X : K.In h) (G : h.Ns mainGlobals mg)
    (a : nsIn K mainGlobals "times_share" = some (some (.ref g))) (l : K.lookup g = some ⟨oc, od, .func (fnOf "times_share" "times_share" (defArgs sTim) (defBody sTim) (defScope sTim) .none kV dc pm an cd ct), sl⟩) (c : codeIn K cd "times_share" = true) (k : keepIn K (.ref g) = true) :
    Dn K mg "times_share" sTim ["one", "other"] g (fnOf "times_share" "times_share" (defArgs sTim) (defBody sTim) (defScope sTim) .none kV dc pm an cd ct) := by
  have F := fun_mk (st := sTim) l c k
  exact ⟨F, F.binds fun _ _ _ _ _ _ us hl => match us, hl with | [_, _], _ => rfl, k, mg_of X G a⟩
theorem dn_5 {K : Frag} {h : Heap} {mg : Str → Option Value} {g : Addr} {oc kV dc pm cd ct : Value} {od an : Option Addr} {sl : Array (Option Value)} (X : K.In h) (G : h.Ns mainGlobals mg)
    (a : nsIn K mainGlobals "less_share" = some (some (.ref g))) (l : K.lookup g = some ⟨oc, od, .func (fnOf "less_share" "less_share" (defArgs sLes) (defBody sLes) (defScope sLes) .none kV dc pm an cd ct), sl⟩) (c : codeIn K cd "less_share" = true) (k : keepIn K (.ref g) = true) :
    Dn K mg "less_share" sLes ["one", "other"] g (fnOf "less_share" "less_share" (defArgs sLes) (defBody sLes) (defScope sLes) .none kV dc pm an cd ct) := by
  have F := fun_mk (st := sLes) l c k
  exact ⟨F, F.binds fun _ _ _ _ _ _ us hl => match us, hl with | [_, _], _ => rfl, k, mg_of X G a⟩
theorem dn_6 {K : Frag} {h : Heap} {mg : Str → Option Value} {g : Addr} {oc kV dc pm cd ct : Value} {od an : Option Addr} {sl : Array (Option Value)} (X : K.In h) (G : h.Ns mainGlobals mg)
    (a : nsIn K mainGlobals "sum_shares" = some (some (.ref g))) (l : K.lookup g = some ⟨oc, od, .func (fnOf "sum_shares" "sum_shares" (defArgs sSum) (defBody sSum) (defScope sSum) .none kV dc pm an cd ct), sl⟩) (c : codeIn K cd "sum_shares" = true) (k : keepIn K (.ref g) = true) :
    Dn K mg "sum_shares" sSum ["several"] g (fnOf "sum_shares" "sum_shares" (defArgs sSum) (defBody sSum) (defScope sSum) .none kV dc pm an cd ct) := by
  have F := fun_mk (st := sSum) l c k
  exact ⟨F, F.binds fun _ _ _ _ _ _ us hl => match us, hl with | [_], _ => rfl, k, mg_of X G a⟩
theorem dn_7 {K : Frag} {h : Heap} {mg : Str → Option Value} {g : Addr} {oc kV dc pm cd ct : Value} {od an : Option Addr} {sl : Array (Option Value)} (X : K.In h) (G : h.Ns mainGlobals mg)
    (a : nsIn K mainGlobals "_law_cell" = some (some (.ref g))) (l : K.lookup g = some ⟨oc, od, .func (fnOf "_law_cell" "_law_cell" (defArgs sCell) (defBody sCell) (defScope sCell) .none kV dc pm an cd ct), sl⟩) (c : codeIn K cd "_law_cell" = true) (k : keepIn K (.ref g) = true) :
    Dn K mg "_law_cell" sCell ["_law_script", "_law_k"] g (fnOf "_law_cell" "_law_cell" (defArgs sCell) (defBody sCell) (defScope sCell) .none kV dc pm an cd ct) := by
  have F := fun_mk (st := sCell) l c k
  exact ⟨F, F.binds fun _ _ _ _ _ _ us hl => match us, hl with | [_, _], _ => rfl, k, mg_of X G a⟩
theorem dn_8 {K : Frag} {h : Heap} {mg : Str → Option Value} {g : Addr} {oc kV dc pm cd ct : Value} {od an : Option Addr} {sl : Array (Option Value)} (X : K.In h) (G : h.Ns mainGlobals mg)
    (a : nsIn K mainGlobals "_law_purse" = some (some (.ref g))) (l : K.lookup g = some ⟨oc, od, .func (fnOf "_law_purse" "_law_purse" (defArgs sPurse) (defBody sPurse) (defScope sPurse) .none kV dc pm an cd ct), sl⟩) (c : codeIn K cd "_law_purse" = true) (k : keepIn K (.ref g) = true) :
    Dn K mg "_law_purse" sPurse ["_law_cell_here"] g (fnOf "_law_purse" "_law_purse" (defArgs sPurse) (defBody sPurse) (defScope sPurse) .none kV dc pm an cd ct) := by
  have F := fun_mk (st := sPurse) l c k
  exact ⟨F, F.binds fun _ _ _ _ _ _ us hl => match us, hl with | [_], _ => rfl, k, mg_of X G a⟩
theorem dn_9 {K : Frag} {h : Heap} {mg : Str → Option Value} {g : Addr} {oc kV dc pm cd ct : Value} {od an : Option Addr} {sl : Array (Option Value)} (X : K.In h) (G : h.Ns mainGlobals mg)
    (a : nsIn K mainGlobals "_law_take" = some (some (.ref g))) (l : K.lookup g = some ⟨oc, od, .func (fnOf "_law_take" "_law_take" (defArgs sTake) (defBody sTake) (defScope sTake) .none kV dc pm an cd ct), sl⟩) (c : codeIn K cd "_law_take" = true) (k : keepIn K (.ref g) = true) :
    Dn K mg "_law_take" sTake ["_law_purse_here", "_law_many"] g (fnOf "_law_take" "_law_take" (defArgs sTake) (defBody sTake) (defScope sTake) .none kV dc pm an cd ct) := by
  have F := fun_mk (st := sTake) l c k
  exact ⟨F, F.binds fun _ _ _ _ _ _ us hl => match us, hl with | [_, _], _ => rfl, k, mg_of X G a⟩
theorem dn_10 {K : Frag} {h : Heap} {mg : Str → Option Value} {g : Addr} {oc kV dc pm cd ct : Value} {od an : Option Addr} {sl : Array (Option Value)} (X : K.In h) (G : h.Ns mainGlobals mg)
    (a : nsIn K mainGlobals "_law_common" = some (some (.ref g))) (l : K.lookup g = some ⟨oc, od, .func (fnOf "_law_common" "_law_common" (defArgs sCom) (defBody sCom) (defScope sCom) .none kV dc pm an cd ct), sl⟩) (c : codeIn K cd "_law_common" = true) (k : keepIn K (.ref g) = true) :
    Dn K mg "_law_common" sCom ["_law_one", "_law_other"] g (fnOf "_law_common" "_law_common" (defArgs sCom) (defBody sCom) (defScope sCom) .none kV dc pm an cd ct) := by
  have F := fun_mk (st := sCom) l c k
  exact ⟨F, F.binds fun _ _ _ _ _ _ us hl => match us, hl with | [_, _], _ => rfl, k, mg_of X G a⟩
theorem dn_11 {K : Frag} {h : Heap} {mg : Str → Option Value} {g : Addr} {oc kV dc pm cd ct : Value} {od an : Option Addr} {sl : Array (Option Value)} (X : K.In h) (G : h.Ns mainGlobals mg)
    (a : nsIn K mainGlobals "_law_lowest" = some (some (.ref g))) (l : K.lookup g = some ⟨oc, od, .func (fnOf "_law_lowest" "_law_lowest" (defArgs sLow) (defBody sLow) (defScope sLow) .none kV dc pm an cd ct), sl⟩) (c : codeIn K cd "_law_lowest" = true) (k : keepIn K (.ref g) = true) :
    Dn K mg "_law_lowest" sLow ["_law_top", "_law_bottom"] g (fnOf "_law_lowest" "_law_lowest" (defArgs sLow) (defBody sLow) (defScope sLow) .none kV dc pm an cd ct) := by
  have F := fun_mk (st := sLow) l c k
  exact ⟨F, F.binds fun _ _ _ _ _ _ us hl => match us, hl with | [_, _], _ => rfl, k, mg_of X G a⟩
theorem dn_12 {K : Frag} {h : Heap} {mg : Str → Option Value} {g : Addr} {oc kV dc pm cd ct : Value} {od an : Option Addr} {sl : Array (Option Value)} (X : K.In h) (G : h.Ns mainGlobals mg)
    (a : nsIn K mainGlobals "_law_share" = some (some (.ref g))) (l : K.lookup g = some ⟨oc, od, .func (fnOf "_law_share" "_law_share" (defArgs sSha) (defBody sSha) (defScope sSha) .none kV dc pm an cd ct), sl⟩) (c : codeIn K cd "_law_share" = true) (k : keepIn K (.ref g) = true) :
    Dn K mg "_law_share" sSha ["_law_purse_here"] g (fnOf "_law_share" "_law_share" (defArgs sSha) (defBody sSha) (defScope sSha) .none kV dc pm an cd ct) := by
  have F := fun_mk (st := sSha) l c k
  exact ⟨F, F.binds fun _ _ _ _ _ _ us hl => match us, hl with | [_], _ => rfl, k, mg_of X G a⟩
theorem dn_13 {K : Frag} {h : Heap} {mg : Str → Option Value} {g : Addr} {oc kV dc pm cd ct : Value} {od an : Option Addr} {sl : Array (Option Value)} (X : K.In h) (G : h.Ns mainGlobals mg)
    (a : nsIn K mainGlobals "_law_is" = some (some (.ref g))) (l : K.lookup g = some ⟨oc, od, .func (fnOf "_law_is" "_law_is" (defArgs sIs) (defBody sIs) (defScope sIs) .none kV dc pm an cd ct), sl⟩) (c : codeIn K cd "_law_is" = true) (k : keepIn K (.ref g) = true) :
    Dn K mg "_law_is" sIs ["_law_found", "_law_due"] g (fnOf "_law_is" "_law_is" (defArgs sIs) (defBody sIs) (defScope sIs) .none kV dc pm an cd ct) := by
  have F := fun_mk (st := sIs) l c k
  exact ⟨F, F.binds fun _ _ _ _ _ _ us hl => match us, hl with | [_, _], _ => rfl, k, mg_of X G a⟩
theorem dn_14 {K : Frag} {h : Heap} {mg : Str → Option Value} {g : Addr} {oc kV dc pm cd ct : Value} {od an : Option Addr} {sl : Array (Option Value)} (X : K.In h) (G : h.Ns mainGlobals mg)
    (a : nsIn K mainGlobals "_law_called" = some (some (.ref g))) (l : K.lookup g = some ⟨oc, od, .func (fnOf "_law_called" "_law_called" (defArgs sCal) (defBody sCal) (defScope sCal) .none kV dc pm an cd ct), sl⟩) (c : codeIn K cd "_law_called" = true) (k : keepIn K (.ref g) = true) :
    Dn K mg "_law_called" sCal ["_law_way", "_law_one", "_law_other"] g (fnOf "_law_called" "_law_called" (defArgs sCal) (defBody sCal) (defScope sCal) .none kV dc pm an cd ct) := by
  have F := fun_mk (st := sCal) l c k
  exact ⟨F, F.binds fun _ _ _ _ _ _ us hl => match us, hl with | [_, _, _], _ => rfl, k, mg_of X G a⟩
theorem dn_15 {K : Frag} {h : Heap} {mg : Str → Option Value} {g : Addr} {oc kV dc pm cd ct : Value} {od an : Option Addr} {sl : Array (Option Value)} (X : K.In h) (G : h.Ns mainGlobals mg)
    (a : nsIn K mainGlobals "_law_told" = some (some (.ref g))) (l : K.lookup g = some ⟨oc, od, .func (fnOf "_law_told" "_law_told" (defArgs sTol) (defBody sTol) (defScope sTol) .none kV dc pm an cd ct), sl⟩) (c : codeIn K cd "_law_told" = true) (k : keepIn K (.ref g) = true) :
    Dn K mg "_law_told" sTol ["_law_way", "_law_one", "_law_other"] g (fnOf "_law_told" "_law_told" (defArgs sTol) (defBody sTol) (defScope sTol) .none kV dc pm an cd ct) := by
  have F := fun_mk (st := sTol) l c k
  exact ⟨F, F.binds fun _ _ _ _ _ _ us hl => match us, hl with | [_, _, _], _ => rfl, k, mg_of X G a⟩
theorem dn_16 {K : Frag} {h : Heap} {mg : Str → Option Value} {g : Addr} {oc kV dc pm cd ct : Value} {od an : Option Addr} {sl : Array (Option Value)} (X : K.In h) (G : h.Ns mainGlobals mg)
    (a : nsIn K mainGlobals "_law_right" = some (some (.ref g))) (l : K.lookup g = some ⟨oc, od, .func (fnOf "_law_right" "_law_right" (defArgs sRgt) (defBody sRgt) (defScope sRgt) .none kV dc pm an cd ct), sl⟩) (c : codeIn K cd "_law_right" = true) (k : keepIn K (.ref g) = true) :
    Dn K mg "_law_right" sRgt ["_law_way", "_law_one", "_law_other", "_law_top", "_law_bottom"] g (fnOf "_law_right" "_law_right" (defArgs sRgt) (defBody sRgt) (defScope sRgt) .none kV dc pm an cd ct) := by
  have F := fun_mk (st := sRgt) l c k
  exact ⟨F, F.binds fun _ _ _ _ _ _ us hl => match us, hl with | [_, _, _, _, _], _ => rfl, k, mg_of X G a⟩
theorem dn_17 {K : Frag} {h : Heap} {mg : Str → Option Value} {g : Addr} {oc kV dc pm cd ct : Value} {od an : Option Addr} {sl : Array (Option Value)} (X : K.In h) (G : h.Ns mainGlobals mg)
    (a : nsIn K mainGlobals "_law_two_right" = some (some (.ref g))) (l : K.lookup g = some ⟨oc, od, .func (fnOf "_law_two_right" "_law_two_right" (defArgs sTwR) (defBody sTwR) (defScope sTwR) .none kV dc pm an cd ct), sl⟩) (c : codeIn K cd "_law_two_right" = true) (k : keepIn K (.ref g) = true) :
    Dn K mg "_law_two_right" sTwR ["_law_one", "_law_other"] g (fnOf "_law_two_right" "_law_two_right" (defArgs sTwR) (defBody sTwR) (defScope sTwR) .none kV dc pm an cd ct) := by
  have F := fun_mk (st := sTwR) l c k
  exact ⟨F, F.binds fun _ _ _ _ _ _ us hl => match us, hl with | [_, _], _ => rfl, k, mg_of X G a⟩
theorem dn_18 {K : Frag} {h : Heap} {mg : Str → Option Value} {g : Addr} {oc kV dc pm cd ct : Value} {od an : Option Addr} {sl : Array (Option Value)} (X : K.In h) (G : h.Ns mainGlobals mg)
    (a : nsIn K mainGlobals "_law_list" = some (some (.ref g))) (l : K.lookup g = some ⟨oc, od, .func (fnOf "_law_list" "_law_list" (defArgs sLis) (defBody sLis) (defScope sLis) .none kV dc pm an cd ct), sl⟩) (c : codeIn K cd "_law_list" = true) (k : keepIn K (.ref g) = true) :
    Dn K mg "_law_list" sLis ["_law_purse_here"] g (fnOf "_law_list" "_law_list" (defArgs sLis) (defBody sLis) (defScope sLis) .none kV dc pm an cd ct) := by
  have F := fun_mk (st := sLis) l c k
  exact ⟨F, F.binds fun _ _ _ _ _ _ us hl => match us, hl with | [_], _ => rfl, k, mg_of X G a⟩
theorem dn_19 {K : Frag} {h : Heap} {mg : Str → Option Value} {g : Addr} {oc kV dc pm cd ct : Value} {od an : Option Addr} {sl : Array (Option Value)} (X : K.In h) (G : h.Ns mainGlobals mg)
    (a : nsIn K mainGlobals "_law_list_right" = some (some (.ref g))) (l : K.lookup g = some ⟨oc, od, .func (fnOf "_law_list_right" "_law_list_right" (defArgs sLiR) (defBody sLiR) (defScope sLiR) .none kV dc pm an cd ct), sl⟩) (c : codeIn K cd "_law_list_right" = true) (k : keepIn K (.ref g) = true) :
    Dn K mg "_law_list_right" sLiR ["_law_several"] g (fnOf "_law_list_right" "_law_list_right" (defArgs sLiR) (defBody sLiR) (defScope sLiR) .none kV dc pm an cd ct) := by
  have F := fun_mk (st := sLiR) l c k
  exact ⟨F, F.binds fun _ _ _ _ _ _ us hl => match us, hl with | [_], _ => rfl, k, mg_of X G a⟩
theorem dn_20 {K : Frag} {h : Heap} {mg : Str → Option Value} {g : Addr} {oc kV dc pm cd ct : Value} {od an : Option Addr} {sl : Array (Option Value)} (X : K.In h) (G : h.Ns mainGlobals mg)
    (a : nsIn K mainGlobals "_law_great" = some (some (.ref g))) (l : K.lookup g = some ⟨oc, od, .func (fnOf "_law_great" "_law_great" (defArgs sGre) (defBody sGre) (defScope sGre) .none kV dc pm an cd ct), sl⟩) (c : codeIn K cd "_law_great" = true) (k : keepIn K (.ref g) = true) :
    Dn K mg "_law_great" sGre [] g (fnOf "_law_great" "_law_great" (defArgs sGre) (defBody sGre) (defScope sGre) .none kV dc pm an cd ct) := by
  have F := fun_mk (st := sGre) l c k
  exact ⟨F, F.binds fun _ _ _ _ _ _ us hl => match us, hl with | [], _ => rfl, k, mg_of X G a⟩
theorem dn_21 {K : Frag} {h : Heap} {mg : Str → Option Value} {g : Addr} {oc kV dc pm cd ct : Value} {od an : Option Addr} {sl : Array (Option Value)} (X : K.In h) (G : h.Ns mainGlobals mg)
    (a : nsIn K mainGlobals "law" = some (some (.ref g))) (l : K.lookup g = some ⟨oc, od, .func (fnOf "law" "law" (defArgs sLaw) (defBody sLaw) (defScope sLaw) .none kV dc pm an cd ct), sl⟩) (c : codeIn K cd "law" = true) (k : keepIn K (.ref g) = true) :
    Dn K mg "law" sLaw ["_law_script"] g (fnOf "law" "law" (defArgs sLaw) (defBody sLaw) (defScope sLaw) .none kV dc pm an cd ct) := by
  have F := fun_mk (st := sLaw) l c k
  exact ⟨F, F.binds fun _ _ _ _ _ _ us hl => match us, hl with | [_], _ => rfl, k, mg_of X G a⟩
theorem all_mk {l : OpenLaw} {w : World} {K : Frag} {h : Heap} {mg : Str → Option Value} {fa D CS CN CL fS fN fL n0 : Addr} {g0 g1 g2 g3 g4 g5 g6 g7 g8 g9 g10 g11 g12 g13 g14 g15 g16 g17 g18 g19 g20 g21 : Addr} {d0 d1 d2 d3 d4 d5 d6 d7 d8 d9 d10 d11 d12 d13 d14 d15 d16 d17 d18 d19 d20 d21 : FuncData} (X : K.In h) (G : h.Ns mainGlobals mg) (hfa : mg "law" = some (.ref fa))
    {ocS kVS dcS pmS cdS ctS : Value} {odS anS : Option Addr} {slS : Array (Option Value)} {od0 : Option Addr} {t0 u0 : Tok} {m0 : Nat} {sl0 : Array (Option Value)}
    (B : BaseC K D) (eS : ErrC K D "NoShare" CS fS) (eN : ErrC K D "NoNumber" CN fN) (eL : ErrC K D "NoLevel" CL fL)
    (aD : nsIn K mainGlobals "DealError" = some (some (.ref D))) (aS : nsIn K mainGlobals "NoShare" = some (some (.ref CS))) (aN : nsIn K mainGlobals "NoNumber" = some (some (.ref CN))) (aL : nsIn K mainGlobals "NoLevel" = some (some (.ref CL)))
    (tkS : takerIn K CS "found" = some none) (nfS : findIn K (.ref CS) "found" = some none)
    (lfS : K.lookup fS = some ⟨ocS, odS, .func (fnOf "__init__" "NoShare.__init__" (defArgs sIni2) (defBody sIni2) (defScope sIni2) .none kVS dcS pmS anS cdS ctS), slS⟩) (cfS : codeIn K cdS "NoShare.__init__" = true) (kfS : keepIn K (.ref fS) = true)
    (gt : specialIn K (.builtin "object.__class__") "__get__" = some (some (.builtin "getset_descriptor.__get__"))) (tk : takesIn K (.builtin "object.__class__") = some true)
    (a0 : nsIn K mainGlobals "NONE" = some (some (.ref n0))) (l0 : K.lookup n0 = some ⟨.type "tuple", od0, .seq #[.int 0 t0, .int 1 u0] m0, sl0⟩)
    (z_isinstance : nsIn K mainGlobals "isinstance" = some none)
    (z_int : nsIn K mainGlobals "int" = some none)
    (z_bool : nsIn K mainGlobals "bool" = some none)
    (z_len : nsIn K mainGlobals "len" = some none)
    (z_range : nsIn K mainGlobals "range" = some none)
    (z_min : nsIn K mainGlobals "min" = some none)
    (z_max : nsIn K mainGlobals "max" = some none)
    (z_tuple : nsIn K mainGlobals "tuple" = some none)
    (z_list : nsIn K mainGlobals "list" = some none)
    (z_ValueError : nsIn K mainGlobals "ValueError" = some none)
    (e0 : Dn K mg "greatest_common" sGcd ["one", "other"] g0 d0)
    (e1 : Dn K mg "added" sAdd ["one", "top", "bottom"] g1 d1)
    (e2 : Dn K mg "plus_share" sPlu ["one", "other"] g2 d2)
    (e3 : Dn K mg "minus_share" sMin ["one", "other"] g3 d3)
    (e4 : Dn K mg "times_share" sTim ["one", "other"] g4 d4)
    (e5 : Dn K mg "less_share" sLes ["one", "other"] g5 d5)
    (e6 : Dn K mg "sum_shares" sSum ["several"] g6 d6)
    (e7 : Dn K mg "_law_cell" sCell ["_law_script", "_law_k"] g7 d7)
    (e8 : Dn K mg "_law_purse" sPurse ["_law_cell_here"] g8 d8)
    (e9 : Dn K mg "_law_take" sTake ["_law_purse_here", "_law_many"] g9 d9)
    (e10 : Dn K mg "_law_common" sCom ["_law_one", "_law_other"] g10 d10)
    (e11 : Dn K mg "_law_lowest" sLow ["_law_top", "_law_bottom"] g11 d11)
    (e12 : Dn K mg "_law_share" sSha ["_law_purse_here"] g12 d12)
    (e13 : Dn K mg "_law_is" sIs ["_law_found", "_law_due"] g13 d13)
    (e14 : Dn K mg "_law_called" sCal ["_law_way", "_law_one", "_law_other"] g14 d14)
    (e15 : Dn K mg "_law_told" sTol ["_law_way", "_law_one", "_law_other"] g15 d15)
    (e16 : Dn K mg "_law_right" sRgt ["_law_way", "_law_one", "_law_other", "_law_top", "_law_bottom"] g16 d16)
    (e17 : Dn K mg "_law_two_right" sTwR ["_law_one", "_law_other"] g17 d17)
    (e18 : Dn K mg "_law_list" sLis ["_law_purse_here"] g18 d18)
    (e19 : Dn K mg "_law_list_right" sLiR ["_law_several"] g19 d19)
    (e20 : Dn K mg "_law_great" sGre [] g20 d20)
    (e21 : Dn K mg "law" sLaw ["_law_script"] g21 d21)
    (hb : ∀ (s : Shared) (v : Value), BindsTo s d21 ⟨[v], []⟩ [("_law_script", v)])
    : ∃ fd : FuncData, (∀ (s : Shared) (v : Value), BindsTo s fd ⟨[v], []⟩ [("_law_script", v)]) ∧ ∀ base : Heap, K.In base → base.Ns mainGlobals mg → FnOk l.prog w K mg base CX0 8 fa fd ["_law_script"] (spLaw K) := by
  have e := hfa.symm.trans e21.mg
  cases e
  refine ⟨_, hb, fun base _ _ => ?_⟩
  have m_isinstance := mg_none_of X G z_isinstance
  have m_int := mg_none_of X G z_int
  have m_bool := mg_none_of X G z_bool
  have m_len := mg_none_of X G z_len
  have m_range := mg_none_of X G z_range
  have m_min := mg_none_of X G z_min
  have m_max := mg_none_of X G z_max
  have m_tuple := mg_none_of X G z_tuple
  have m_list := mg_none_of X G z_list
  have m_ValueError := mg_none_of X G z_ValueError
  have T : IsT K := ⟨gt, tk⟩
  have mD := mg_of X G aD
  have oS := one2 B eS mD (mg_of X G aS) (fun_mk (st := sIni2) lfS cfS kfS) tkS
  have hdS : hasDictIn K CS = true := by
    obtain ⟨cd, h1, h2, _⟩ := eS.clsIn
    unfold hasDictIn
    rw [h1]
    exact h2
  have Z : Kit K mg D CS CN CL := ⟨T, eS.it, hdS, nfS, ⟨baseCls B, baseType B, B.it.mb⟩, by rw [mroC eS, List.contains_cons, List.contains_cons]; simp, kit_same, kit_any2 (kit_cc eS eL (ne_names eS eL (by decide +kernel)) (neD_of eL B)) (kit_cc eS eN (ne_names eS eN (by decide +kernel)) (neD_of eN B)), kit_ty eS (by decide +kernel) (by decide +kernel), mD, mg_of X G aS, mg_of X G aN, mg_of X G aL⟩
  have GG := ok_gcd (P := l.prog) (w := w) (mg := mg) (base := base) e0.fn
  have GA := ok_add e1.fn GG e0.bi e0.kp e0.mg
  have GL := ok_les (P := l.prog) (w := w) (mg := mg) (base := base) e5.fn
  have GT := ok_tim e4.fn GG e0.bi e0.kp e0.mg
  have GP := ok_plu e2.fn B oS GA e1.bi e1.kp e1.mg
  have GM := ok_min e3.fn B oS GA e1.bi e1.kp e1.mg GL e5.bi e5.kp e5.mg
  have GS := ok_sum e6.fn B oS (mg_of X G a0) (top_two l0) GA e1.bi e1.kp e1.mg
  have Lc := ok_cell (P := l.prog) (w := w) (mg := mg) (base := base) e7.fn m_len
  have Lp := ok_purse (P := l.prog) (w := w) (mg := mg) (base := base) e8.fn m_max
  have Lt := ok_take (P := l.prog) (w := w) (mg := mg) (base := base) e9.fn
  have Lm := ok_com (P := l.prog) (w := w) (mg := mg) (base := base) e10.fn
  have Ll := ok_low e11.fn Lm e10.bi e10.kp e10.mg
  have Ls := ok_sha e12.fn Lt e9.bi e9.kp e9.mg Ll e11.bi e11.kp e11.mg m_range m_int m_min
  have Li := ok_is (P := l.prog) (w := w) (mg := mg) (base := base) e13.fn m_isinstance m_tuple m_len m_int m_bool
  have Lk := ok_cal e14.fn (e2.df GP) (e3.df GM) (e4.df GT) (e6.df GS)
  have Lo := ok_tol e15.fn Z (e14.df Lk) m_isinstance m_ValueError
  have Lr := ok_rgt e16.fn (e15.df Lo) (e13.df Li) (e11.df Ll) m_isinstance m_tuple
  have L2 := ok_twr e17.fn (e16.df Lr) (e5.df GL) m_isinstance m_bool
  have L3 := ok_lis e18.fn (e9.df Lt) (e12.df Ls) (e11.df Ll) m_range
  have L4 := ok_lir e19.fn (e15.df Lo) (e13.df Li) (e11.df Ll) m_list
  have Le := ok_gre (P := l.prog) (w := w) (mg := mg) (base := base) e20.fn m_range
  exact ok_law e21.fn ⟨(e20.df Le), (e17.df L2), (e19.df L4), (e8.df Lp), (e7.df Lc), (e12.df Ls), (e11.df Ll), (e18.df L3)⟩ m_range m_min m_max m_len
theorem walk {l : OpenLaw} {q : Program} {loose : List Str} {XP : (Str → Option Value) → Heap → Prop} {YP : World → Heap → Prop} {d : DefRec} {K : Params → Frag} (hn : l.most = some 63) (hdf : d.params.defaults = [])
    (hY : ∀ (w : World) (h : Heap), YP w h → (K w.params).In h)
    (F : ∀ (w : World) (mg : Str → Option Value) (fa : Addr) (h : Heap), (K w.params).In h → h.Ns mainGlobals mg → mg d.name = some (.ref fa) →
      ∃ fd : FuncData, (∀ (s : Shared) (u : Value), BindsTo s fd ⟨[u], []⟩ [("_law_script", u)]) ∧ ∀ base : Heap, (K w.params).In base → base.Ns mainGlobals mg → FnOk l.prog w (K w.params) mg base CX0 8 fa fd ["_law_script"] (spLaw (K w.params))) :
    WalkO q loose XP YP l.row.toRowW d [] (fun f vs => PySem.call f vs) :=
  L2.walk_ofS (n := 63) (k := 8) (x := "_law_script") (CX := fun _ => CX0) (sp := fun w => spLaw (K w.params)) hn (by decide) hdf ⟨rfl, by decide, by decide, rfl⟩ hY F (fun _ _ a ns hl _ hS hz => ⟨a, ns, rfl, hS, hl, hz, fun _ => rfl⟩) fun _ _ _ _ _ z => z
end My

/-! Fin3 -/
open PySem PySem.W PyProof.Rows
set_option Elab.async false
set_option maxRecDepth 100000 in
set_option maxHeartbeats 0 in
theorem PySem.Challenge.cw_trialdeal_k03_shares_reckoned_with_holds : PySem.Challenge.rw_trialdeal_k03_shares_reckoned_with.Holds := by
  w_on; o_law; k_head; (case hw => w_witness2)
  k_fill
  refine My.walk (l := PySem.Challenge.rw_trialdeal_k03_shares_reckoned_with) rfl rfl (fun w h Y => PySem.W.kIn_of Y) ?F
  case F =>
    intro w mg fa h KX G hmg
    refine' My.all_mk KX G hmg (My.base_mk ?my_lD ?my_lN ?my_sk ?my_ni ?my_gaD ?my_rdD ?my_inD ?my_fiD ?my_kpD ?my_gbD ?my_hkD ?my_caD)
      (My.err_mk "NoShare" ?my_l2 ?my_i2 ?my_t2 ?my_k2 ?my_s2 ?my_g2 ?my_h2 ?my_c2)
      (My.err_mk "NoNumber" ?my_l3 ?my_i3 ?my_t3 ?my_k3 ?my_s3 ?my_g3 ?my_h3 ?my_c3)
      (My.err_mk "NoLevel" ?my_l4 ?my_i4 ?my_t4 ?my_k4 ?my_s4 ?my_g4 ?my_h4 ?my_c4)
      ?my_aD ?my_aS ?my_aN ?my_aL ?my_tkS ?my_nfS ?my_lfS ?my_cfS ?my_kfS ?my_gt ?my_tkT ?my_a0 ?my_l0
      ?my_z0 ?my_z1 ?my_z2 ?my_z3 ?my_z4 ?my_z5 ?my_z6 ?my_z7 ?my_z8 ?my_z9
      (My.dn_0 KX G ?my_A0 ?my_L0 ?my_C0 ?my_K0)
      (My.dn_1 KX G ?my_A1 ?my_L1 ?my_C1 ?my_K1)
      (My.dn_2 KX G ?my_A2 ?my_L2 ?my_C2 ?my_K2)
      (My.dn_3 KX G ?my_A3 ?my_L3 ?my_C3 ?my_K3)
      (My.dn_4 KX G ?my_A4 ?my_L4 ?my_C4 ?my_K4)
      (My.dn_5 KX G ?my_A5 ?my_L5 ?my_C5 ?my_K5)
      (My.dn_6 KX G ?my_A6 ?my_L6 ?my_C6 ?my_K6)
      (My.dn_7 KX G ?my_A7 ?my_L7 ?my_C7 ?my_K7)
      (My.dn_8 KX G ?my_A8 ?my_L8 ?my_C8 ?my_K8)
      (My.dn_9 KX G ?my_A9 ?my_L9 ?my_C9 ?my_K9)
      (My.dn_10 KX G ?my_A10 ?my_L10 ?my_C10 ?my_K10)
      (My.dn_11 KX G ?my_A11 ?my_L11 ?my_C11 ?my_K11)
      (My.dn_12 KX G ?my_A12 ?my_L12 ?my_C12 ?my_K12)
      (My.dn_13 KX G ?my_A13 ?my_L13 ?my_C13 ?my_K13)
      (My.dn_14 KX G ?my_A14 ?my_L14 ?my_C14 ?my_K14)
      (My.dn_15 KX G ?my_A15 ?my_L15 ?my_C15 ?my_K15)
      (My.dn_16 KX G ?my_A16 ?my_L16 ?my_C16 ?my_K16)
      (My.dn_17 KX G ?my_A17 ?my_L17 ?my_C17 ?my_K17)
      (My.dn_18 KX G ?my_A18 ?my_L18 ?my_C18 ?my_K18)
      (My.dn_19 KX G ?my_A19 ?my_L19 ?my_C19 ?my_K19)
      (My.dn_20 KX G ?my_A20 ?my_L20 ?my_C20 ?my_K20)
      (My.dn_21 KX G ?my_A21 ?my_L21 ?my_C21 ?my_K21)
      (fun s v => .of_eq rfl)
    (case my_aD => k_is); (case my_aS => k_is); (case my_aN => k_is); (case my_aL => k_is); (case my_lD => k_is); (case my_lN => k_is)
    (case my_sk => exact My.strKeys_of rfl)
    (case my_ni => first | rfl | decide +kernel)
    (case my_gaD => k_is); (case my_rdD => k_is); (case my_inD => k_is); (case my_fiD => k_is); (case my_kpD => k_is); (case my_gbD => k_is); (case my_hkD => k_is); (case my_caD => k_is)
    (case my_l2 => k_is); (case my_i2 => k_is); (case my_t2 => k_is); (case my_k2 => k_is); (case my_s2 => k_is); (case my_g2 => k_is); (case my_h2 => k_is); (case my_c2 => k_is)
    (case my_l3 => k_is); (case my_i3 => k_is); (case my_t3 => k_is); (case my_k3 => k_is); (case my_s3 => k_is); (case my_g3 => k_is); (case my_h3 => k_is); (case my_c3 => k_is)
    (case my_l4 => k_is); (case my_i4 => k_is); (case my_t4 => k_is); (case my_k4 => k_is); (case my_s4 => k_is); (case my_g4 => k_is); (case my_h4 => k_is); (case my_c4 => k_is)
    (case my_tkS => k_is); (case my_nfS => k_is); (case my_lfS => k_is); (case my_cfS => k_is); (case my_kfS => k_is); (case my_gt => k_is); (case my_tkT => k_is); (case my_a0 => k_is); (case my_l0 => k_is)
    (case my_z0 => k_is); (case my_z1 => k_is); (case my_z2 => k_is); (case my_z3 => k_is); (case my_z4 => k_is); (case my_z5 => k_is); (case my_z6 => k_is); (case my_z7 => k_is); (case my_z8 => k_is); (case my_z9 => k_is)
    (case my_A0 => k_is); (case my_L0 => k_is); (case my_C0 => k_is); (case my_K0 => k_is)
    (case my_A1 => k_is); (case my_L1 => k_is); (case my_C1 => k_is); (case my_K1 => k_is)
    (case my_A2 => k_is); (case my_L2 => k_is); (case my_C2 => k_is); (case my_K2 => k_is)
    (case my_A3 => k_is); (case my_L3 => k_is); (case my_C3 => k_is); (case my_K3 => k_is)
    (case my_A4 => k_is); (case my_L4 => k_is); (case my_C4 => k_is); (case my_K4 => k_is)
    (case my_A5 => k_is); (case my_L5 => k_is); (case my_C5 => k_is); (case my_K5 => k_is)
    (case my_A6 => k_is); (case my_L6 => k_is); (case my_C6 => k_is); (case my_K6 => k_is)
    (case my_A7 => k_is); (case my_L7 => k_is); (case my_C7 => k_is); (case my_K7 => k_is)
    (case my_A8 => k_is); (case my_L8 => k_is); (case my_C8 => k_is); (case my_K8 => k_is)
    (case my_A9 => k_is); (case my_L9 => k_is); (case my_C9 => k_is); (case my_K9 => k_is)
    (case my_A10 => k_is); (case my_L10 => k_is); (case my_C10 => k_is); (case my_K10 => k_is)
    (case my_A11 => k_is); (case my_L11 => k_is); (case my_C11 => k_is); (case my_K11 => k_is)
    (case my_A12 => k_is); (case my_L12 => k_is); (case my_C12 => k_is); (case my_K12 => k_is)
    (case my_A13 => k_is); (case my_L13 => k_is); (case my_C13 => k_is); (case my_K13 => k_is)
    (case my_A14 => k_is); (case my_L14 => k_is); (case my_C14 => k_is); (case my_K14 => k_is)
    (case my_A15 => k_is); (case my_L15 => k_is); (case my_C15 => k_is); (case my_K15 => k_is)
    (case my_A16 => k_is); (case my_L16 => k_is); (case my_C16 => k_is); (case my_K16 => k_is)
    (case my_A17 => k_is); (case my_L17 => k_is); (case my_C17 => k_is); (case my_K17 => k_is)
    (case my_A18 => k_is); (case my_L18 => k_is); (case my_C18 => k_is); (case my_K18 => k_is)
    (case my_A19 => k_is); (case my_L19 => k_is); (case my_C19 => k_is); (case my_K19 => k_is)
    (case my_A20 => k_is); (case my_L20 => k_is); (case my_C20 => k_is); (case my_K20 => k_is)
    (case my_A21 => k_is); (case my_L21 => k_is); (case my_C21 => k_is); (case my_K21 => k_is)
