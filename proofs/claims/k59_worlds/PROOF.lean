import PyProof.Rows.All
import Wide.All
import OpenK.AllK
import Wide.FinOn
import Lean
import PyProof.EqAt
import PyProof.EqKinds
import PyProof.TupleCall
import PyProof.ExcClass2
import PyProof.InstStoreFacts
import PyProof.ExcArgs
import PyProof.ExcInit
import PyProof.ExcBaseAll.ValueError
import KE.KIsAll
import PyProof.RulesRaise
import PyProof.RulesAs
import PyProof.RaisesMany
import PyProof.NeKinds
import PyProof.EnumFor
import PyProof.EnumStmt
import PyProof.EnumMake
import PyProof.Rows.EnumRows
import PyProof.CompFree
import KE.KIntText
import PyProof.StrBlockG
import PyProof.StrBlockH
import PyProof.StrWalks
import PyProof.Rows.StrNews2
import PyProof.Rows.StrOr
import PyProof.Rows.Digits
import PyProof.StrBlockL
import PyProof.MeetsStr2
import PyProof.CompMap
import KE.IntTextLaws
import PyProof.Rows.StrPartPair
import PyProof.StrLawsTight
import PyProof.StrLawsChain
import PyProof.Rows.StrIntSpec
import PyProof.Rows.StrItems
import KE.KNest
import KE.KLam
import PyProof.ReprRoads
import PyProof.ReprBulk
import PyProof.FitsInt
import PyProof.CallFns
import PyProof.Rows.FactsT3
import PyProof.ListRange
import PyProof.TupleOfSeq
import PyProof.TupleOfGen
import PyProof.ConsumeWalk
import PyProof.Rows.SeqGen
import PyProof.CompUse
import KE.KUnpack
import PyProof.Draws
import PyProof.Rows.RuleB_bool
import PyProof.WalkInts
import PyProof.SeqI3
import KE.KRevSl
import KE.BitLaws
import PyProof.Rows.SumAny
import PySem.Challenge.RW_trialdeal_k59_worlds
set_option Elab.async false
set_option linter.all false
set_option maxRecDepth 100000
namespace L2
open PySem PySem.Spec PyProof.Rows
abbrev Key := Sum Int Str
def keyIs : Key → Value → Bool
  | .inl k, v => Value.isInt k v
  | .inr x, v => Value.isStrOf x v
def keyH (w : World) : Key → Int
  | .inl k => hashInt k
  | .inr x => hashStr w x
theorem keyIs_shape : ∀ {k : Key} {v : Value}, keyIs k v = true → (∃ i t, k = Sum.inl i ∧ v = Value.int i t) ∨ (∃ x t, k = Sum.inr x ∧ v = Value.str x t)
  | .inl i, v, h => by
    obtain ⟨t, e⟩ := Value.isInt_shape (k := i) (v := v) h
    exact .inl ⟨i, t, rfl, e⟩
  | .inr x, v, h => by
    obtain ⟨t, e⟩ := Value.isStrOf_shape (x := x) (v := v) h
    exact .inr ⟨x, t, rfl, e⟩
theorem key_ll (a b : Int) : decide ((Sum.inl a : Key) = Sum.inl b) = (a == b) := by
  by_cases e : a = b
  · subst e; simp
  · have h : ¬ (Sum.inl a : Key) = Sum.inl b := fun q => e (Sum.inl.inj q)
    rw [decide_eq_false h]
    exact (beq_eq_false_iff_ne.mpr e).symm
theorem key_rr (a b : Str) : decide ((Sum.inr a : Key) = Sum.inr b) = decide (a = b) := by
  by_cases e : a = b
  · subst e; simp
  · have h : ¬ (Sum.inr a : Key) = Sum.inr b := fun q => e (Sum.inr.inj q)
    rw [decide_eq_false h, decide_eq_false e]
theorem key_lr (a : Int) (b : Str) : decide ((Sum.inl a : Key) = Sum.inr b) = false := decide_eq_false (fun q => nomatch q)
theorem key_rl (a : Str) (b : Int) : decide ((Sum.inr a : Key) = Sum.inl b) = false := decide_eq_false (fun q => nomatch q)
def mixKind (prog : Program) (w : World) : PySem.KeyKind prog w Key where
  is := keyIs
  hash := keyH w
  inj := fun v a b ha hb => by
    rcases keyIs_shape ha with ⟨i, t, rfl, rfl⟩ | ⟨x, t, rfl, rfl⟩
    · rcases keyIs_shape hb with ⟨j, u, rfl, e⟩ | ⟨y, u, rfl, e⟩
      · injection e with e1 _; rw [e1]
      · exact nomatch e
    · rcases keyIs_shape hb with ⟨j, u, rfl, e⟩ | ⟨y, u, rfl, e⟩
      · exact nomatch e
      · injection e with e1 _; rw [e1]
  byValue := fun k v h => by
    rcases keyIs_shape h with ⟨i, t, rfl, rfl⟩ | ⟨x, t, rfl, rfl⟩ <;> rfl
  pyHash := fun hv h => by
    rcases keyIs_shape hv with ⟨i, t, rfl, rfl⟩ | ⟨x, t, rfl, rfl⟩
    · exact wpAny_pyHash_int h
    · exact wpAny_pyHash_str h
  eqBool := fun hu hv h => by
    rcases keyIs_shape hu with ⟨i, t, rfl, rfl⟩ | ⟨x, t, rfl, rfl⟩
    · rcases keyIs_shape hv with ⟨j, u, rfl, rfl⟩ | ⟨y, u, rfl, rfl⟩
      · rw [key_ll] at h; exact wpAny_eqBool_int h
      · rw [key_lr] at h; exact SeqAt.EqAt.int_str i t y u _ _ _ _ h
    · rcases keyIs_shape hv with ⟨j, u, rfl, rfl⟩ | ⟨y, u, rfl, rfl⟩
      · rw [key_rl] at h; exact SeqAt.EqAt.str_int x t j u _ _ _ _ h
      · rw [key_rr] at h; exact wpAny_eqBool_str h
  «strs» := fun k x t v h => by
    rcases keyIs_shape h with ⟨i, u, rfl, e⟩ | ⟨y, u, rfl, e⟩
    · exact nomatch e
    · injection e with e1 _
      subst e1
      cases v <;> rfl
theorem mixKind_is (prog : Program) (w : World) (k : Key) (v : Value) : (mixKind prog w).is k v = keyIs k v := rfl
end L2
namespace L2
open PySem PySem.Spec PyProof.Rows
inductive V where
  | non | bl (b : Bool) | int (i : Int) | str (x : Str) | byt (b : Array UInt8) | flt (b : UInt64) | ref (a : Addr) | ty (n : String)
  deriving DecidableEq
def RelV : V → Value → Prop
  | .non, u => u = Value.none
  | .bl b, u => u = Value.bool b
  | .int i, u => ∃ t, u = Value.int i t
  | .str x, u => ∃ t, u = Value.str x t
  | .byt b, u => ∃ t, u = Value.bytes b t
  | .flt b, u => ∃ t, u = Value.float b t
  | .ref a, u => u = Value.ref a
  | .ty n, u => u = Value.type n
abbrev Vals : List V → List Value → Prop := Paired RelV
theorem Vals.length {xs : List V} {us : List Value} (r : Vals xs us) : xs.length = us.length := Paired.length r
theorem Vals.get : ∀ {xs : List V} {us : List Value} {i : Nat} {x : V}, Vals xs us → xs[i]? = some x → ∃ u, us[i]? = some u ∧ RelV x u
  | _, _, _, _, .nil, e => by simp at e
  | _, _, 0, _, .cons r _, e => by simp at e; subst e; exact ⟨_, rfl, r⟩
  | _, _, i + 1, x, .cons _ t, e => by
    obtain ⟨u, h1, h2⟩ := Vals.get (i := i) (x := x) t (by simpa using e)
    exact ⟨u, by simpa using h1, h2⟩
theorem Vals.set {x : V} {u : Value} (r : RelV x u) : ∀ {xs : List V} {us : List Value} (i : Nat), Vals xs us → Vals (xs.set i x) (us.set i u)
  | _, _, _, .nil => .nil
  | _, _, 0, .cons _ t => .cons r t
  | _, _, i + 1, .cons q t => .cons q (Vals.set r i t)
theorem Vals.append : ∀ {xs ys : List V} {us ws : List Value}, Vals xs us → Vals ys ws → Vals (xs ++ ys) (us ++ ws)
  | _, _, _, _, .nil, s => s
  | _, _, _, _, .cons r t, s => .cons r (Vals.append t s)
theorem Vals.take : ∀ {xs : List V} {us : List Value} (n : Nat), Vals xs us → Vals (xs.take n) (us.take n)
  | _, _, 0, _ => .nil
  | _, _, _ + 1, .nil => .nil
  | _, _, n + 1, .cons r t => .cons r (Vals.take n t)
theorem Vals.drop : ∀ {xs : List V} {us : List Value} (n : Nat), Vals xs us → Vals (xs.drop n) (us.drop n)
  | _, _, 0, r => r
  | _, _, _ + 1, .nil => .nil
  | _, _, n + 1, .cons _ t => Vals.drop n t
def RelO : Option V → Option Value → Prop
  | some v, some u => RelV v u
  | none, none => True
  | _, _ => False
def KV {κ : Type} : List (κ × V) → List (κ × Value) → Prop := Paired fun (p : κ × V) (q : κ × Value) => p.1 = q.1 ∧ RelV p.2 q.2
def kV : Key → V
  | .inl i => .int i
  | .inr x => .str x
inductive HO where
  | lst (xs : List V)
  | tup (xs : List V)
  | dK (kvs : List (Key × V)) | dT (kvs : List (List Key × V))
  | set (S : Int → Bool) (n : Nat)
  | ins (C dx : Addr) (fs : List (Str × V))
  | own (x : Addr)
  | xd (fs : List (Str × V))
  | met (f x : Addr)
  | rng (lo hi : Int)
  | frz (o : Obj) (u : HO)
  | tbl (ps : Array Value)
  | ext (φ : Heap → Prop)
abbrev Hp := Addr → Option HO
def upd (H : Hp) (a : Addr) (o : HO) : Hp := fun b => if b = a then some o else H b
theorem upd_same {H : Hp} {a : Addr} {o : HO} : upd H a o a = some o := by unfold upd; rw [if_pos rfl]
theorem upd_ne {H : Hp} {a b : Addr} {o : HO} (h : b ≠ a) : upd H a o b = H b := by unfold upd; rw [if_neg h]
theorem ne_of_none {H : Hp} {a b : Addr} {o : HO} (h : H a = some o) (h' : H b = none) : a ≠ b := by
  intro e; subst e; rw [h] at h'; cases h'
section
variable (P : Program) (w : World)
def ObjOk (H : Hp) (h : Heap) (a : Addr) : HO → Prop
  | .lst xs => xs.length ≤ sizeLine ∧ ∃ (its : List Value) (n : Nat), Vals xs its ∧ h.get? a = some { cls := .type "list", data := .seq its.toArray n }
  | .tup xs => xs.length ≤ sizeLine ∧ ∃ its : List Value, Vals xs its ∧ IsTup h a its.toArray
  | .dK kvs => kvs.length ≤ sizeLine ∧ (a == sysModules) = false ∧ ∃ vs, KV kvs vs ∧ h.DictOf (mixKind P w) a vs
  | .dT kvs => kvs.length ≤ sizeLine ∧ (a == sysModules) = false ∧ ∃ xs : List (List Key × Addr × Value),
      Paired (fun (p : List Key × V) (q : List Key × Addr × Value) => p.1 = q.1 ∧ H q.2.1 = some (.tup (p.1.map kV)) ∧ RelV p.2 q.2.2) kvs xs ∧
      ∃ o es ep, h.get? a = some o ∧ o.ExactDict ∧ o.data = .dict es ep ∧ es.toList = xs.map (entryOfKey (tupleKind (mixKind P w))) ∧ (xs.map (·.1)).Nodup
  | .set S n => h.SetOf (intKind P w) a S n
  | .ins C dx fs => H dx = some (.own a) ∧ fs.length ≤ 1000 ∧ dx ≠ a ∧ h.get? a = some (PySem.W.instObj C dx) ∧
      ∃ mA, h.Ns1 dx mA ∧ (∀ f, RelO (fs.lookup f) (mA f)) ∧ PySem.Within mA (fs.map (·.1))
  | .own _ => ∃ o, h.get? a = some o
  | .xd fs => ∃ mA, h.Ns1 a mA ∧ ∀ f, RelO (fs.lookup f) (mA f)
  | .rng lo hi => ∃ t u v, h.get? a = some { cls := .type "range", data := .fields #[.int lo t, .int hi u, .int 1 v] }
  | .frz o u => h.get? a = some o ∧ ObjOk H h a u
  | .tbl ps => h.get? a = some { cls := .none, data := .fields ps }
  | .met f x => h.get? a = some (PySem.W.methodObj (.ref f) (.ref x))
  | .ext φ => φ h ∧ (∃ o, h.get? a = some o) ∧ ∀ h1 h2 : Heap, φ h1 → (∀ o, h1.get? a = some o → h2.get? a = some o) → φ h2
def HOk (H : Hp) (h : Heap) : Prop := ∀ a o, H a = some o → ObjOk P w H h a o
end
section
variable {P : Program} {w : World} {H H' : Hp} {h h' : Heap} {a : Addr} {o : HO}
theorem ObjOk.lt (x : ObjOk P w H h a o) : a < h.objs.size := by
  cases o with
  | lst xs => obtain ⟨_, _, _, _, e⟩ := x; exact Heap.lt_size e
  | tup xs => obtain ⟨_, _, _, p⟩ := x; exact p.lt
  | dK kvs => obtain ⟨_, _, _, _, o, _, _, e, _⟩ := x; exact Heap.lt_size e
  | dT kvs => obtain ⟨_, _, _, _, o, _, _, e, _⟩ := x; exact Heap.lt_size e
  | set S n => obtain ⟨o, _, _, _, e, _⟩ := x; exact Heap.lt_size e
  | ins C dx fs => obtain ⟨_, _, _, e, _⟩ := x; exact Heap.lt_size e
  | own y => obtain ⟨_, e⟩ := x; exact Heap.lt_size e
  | xd fs => obtain ⟨_, ⟨_, _, _, e, _⟩, _⟩ := x; exact Heap.lt_size e
  | rng lo hi => obtain ⟨_, _, _, e⟩ := x; exact Heap.lt_size e
  | frz ob u => obtain ⟨e, _⟩ := x; exact Heap.lt_size e
  | tbl ps => exact Heap.lt_size (show h.get? a = some _ from x)
  | met f y => exact Heap.lt_size (show h.get? a = some _ from x)
  | ext φ => obtain ⟨_, ⟨_, e⟩, _⟩ := x; exact Heap.lt_size e
theorem Paired.mapP {α β : Type} {F G : α → β → Prop} : ∀ {l₁ : List α} {l₂ : List β}, Paired F l₁ l₂ → (∀ a b, F a b → G a b) → Paired G l₁ l₂
  | _, _, .nil, _ => .nil
  | _, _, .cons r t, f => .cons (f _ _ r) (Paired.mapP t f)
theorem ObjOk.stay (x : ObjOk P w H h a o) (k : ∀ b u, (b = a ∨ H b = some (.own a)) → h.get? b = some u → h'.get? b = some u)
    (ho : ∀ b, H b = some (.own a) → H' b = some (.own a)) (ht : ∀ b xs, H b = some (.tup xs) → H' b = some (.tup xs)) : ObjOk P w H' h' a o := by
  induction o with
  | lst xs => obtain ⟨z, its, n, r, e⟩ := x; exact ⟨z, its, n, r, k _ _ (.inl rfl) e⟩
  | tup xs => obtain ⟨z, its, r, ob, e, c⟩ := x; exact ⟨z, its, r, ob, k _ _ (.inl rfl) e, c⟩
  | dK kvs => obtain ⟨z, y, vs, r, ob, es, ep, e, c⟩ := x; exact ⟨z, y, vs, r, ob, es, ep, k _ _ (.inl rfl) e, c⟩
  | dT kvs =>
    obtain ⟨z, y, xs, r, ob, es, ep, e, c⟩ := x
    exact ⟨z, y, xs, Paired.mapP r fun p q z => ⟨z.1, ht _ _ z.2.1, z.2.2⟩, ob, es, ep, k _ _ (.inl rfl) e, c⟩
  | set S n => obtain ⟨ob, es, ep, t, e, c⟩ := x; exact ⟨ob, es, ep, t, k _ _ (.inl rfl) e, c⟩
  | ins C dx fs =>
    obtain ⟨d, z, ne, e, mA, ⟨od, es, ep, e2, c⟩, r⟩ := x
    exact ⟨ho _ d, z, ne, k _ _ (.inl rfl) e, mA, ⟨od, es, ep, k _ _ (.inr d) e2, c⟩, r⟩
  | own y => obtain ⟨ob, e⟩ := x; exact ⟨ob, k _ _ (.inl rfl) e⟩
  | xd fs => obtain ⟨mA, ⟨od, es, ep, e, c⟩, r⟩ := x; exact ⟨mA, ⟨od, es, ep, k _ _ (.inl rfl) e, c⟩, r⟩
  | rng lo hi => obtain ⟨t, u, v, e⟩ := x; exact ⟨t, u, v, k _ _ (.inl rfl) e⟩
  | frz ob u ih => obtain ⟨e, q⟩ := x; exact ⟨k _ _ (.inl rfl) e, ih q⟩
  | tbl ps =>
    have e : h.get? a = some { cls := .none, data := .fields ps } := x
    show h'.get? a = some { cls := .none, data := .fields ps }
    exact k a _ (.inl rfl) e
  | met f y =>
    have e : h.get? a = some (PySem.W.methodObj (.ref f) (.ref y)) := x
    show h'.get? a = some (PySem.W.methodObj (.ref f) (.ref y))
    exact k a _ (.inl rfl) e
  | ext φ => obtain ⟨p, ⟨o, e⟩, st⟩ := x; exact ⟨st _ _ p fun o q => k _ _ (.inl rfl) q, ⟨o, k _ _ (.inl rfl) e⟩, st⟩
theorem HOk.lt (x : HOk P w H h) (e : H a = some o) : a < h.objs.size := (x a o e).lt
theorem HOk.fresh (x : HOk P w H h) (e : h.objs.size ≤ a) : H a = none := by
  cases q : H a with
  | none => rfl
  | some u => exact absurd (Nat.lt_of_lt_of_le (x.lt q) e) (Nat.lt_irrefl _)
theorem HOk.kept (x : HOk P w H h) (k : ∀ b u, h.get? b = some u → h'.get? b = some u) : HOk P w H h' := fun a o e =>
  (x a o e).stay (fun b u _ q => k b u q) (fun _ q => q) fun _ _ q => q
theorem HOk.laid (x : HOk P w H h) (k : ∀ b u, h.get? b = some u → h'.get? b = some u) (hp : h.objs.size ≤ a) (new : ObjOk P w (upd H a o) h' a o) : HOk P w (upd H a o) h' := fun b u e => by
  have hn := x.fresh hp
  by_cases hb : b = a
  · subst hb; rw [upd_same] at e; cases e; exact new
  · rw [upd_ne hb] at e
    exact (x b u e).stay (fun c v _ q => k c v q) (fun c q => by rw [upd_ne (ne_of_none q hn)]; exact q) fun c xs q => by rw [upd_ne (ne_of_none q hn)]; exact q
end
def Rd (H : Hp) (a : Addr) (u : HO) : Prop := H a = some u ∨ ∃ o, H a = some (.frz o u)
theorem Rd.ok {P : Program} {w : World} {H : Hp} {h : Heap} {a : Addr} {u : HO} (r : Rd H a u) (x : HOk P w H h) : ObjOk P w H h a u := by
  rcases r with r | ⟨o, r⟩
  · exact x a u r
  · obtain ⟨_, q⟩ := x a _ r
    exact q
def Mut : Option HO → Prop
  | some (.lst _) => True
  | some (.dK _) => True
  | some (.dT _) => True
  | some (.set _ _) => True
  | some (.ins _ _ _) => True
  | some (.ext _) => True
  | _ => False
section
variable {P : Program} {w : World} {H : Hp} {h h' : Heap} {x e : Addr} {o' : HO}
theorem HOk.write (ok : HOk P w H h) (mu : Mut (H x)) (he : e = x ∨ H e = some (.own x)) (k : ∀ b u, b ≠ e → h.get? b = some u → h'.get? b = some u) (heo : ∃ u, h'.get? e = some u)
    (new : ObjOk P w (upd H x o') h' x o') : HOk P w (upd H x o') h' := fun b u q => by
  have nown : ∀ c y, H c = some (.own y) → c ≠ x := fun c y r z => by subst z; rw [r] at mu; exact mu
  have ntup : ∀ c xs, H c = some (.tup xs) → c ≠ x := fun c xs r z => by subst z; rw [r] at mu; exact mu
  by_cases hb : b = x
  · subst hb; rw [upd_same] at q; cases q; exact new
  · rw [upd_ne hb] at q
    by_cases hbe : b = e
    · have q' : H b = some (.own x) := by
        rcases he with z | z
        · exact absurd (hbe.trans z) hb
        · rw [hbe]; exact z
      rw [q] at q'; cases q'
      obtain ⟨v, hv⟩ := heo
      exact ⟨v, by rw [hbe]; exact hv⟩
    · refine (ok b u q).stay (fun c v hc r => k c v ?_ r) (fun c r => by rw [upd_ne (nown c b r)]; exact r) fun c xs r => by rw [upd_ne (ntup c xs r)]; exact r
      rcases hc with rfl | hc
      · exact hbe
      · rintro rfl
        rcases he with z | z
        · exact nown c b hc z
        · rw [hc] at z; cases z; exact hb rfl
end
structure Un (fs ex : List Addr) (H H' : Hp) (h h' : Heap) : Prop where
  keep : ∀ b o, h.get? b = some o → H b = none → b ∉ fs → b ∉ ex → h'.get? b = some o
  slot : ∀ b o, h.get? b = some o → H b = none → b ∈ fs → b ∉ ex → ∃ sl, h'.get? b = some { o with slots := sl }
  free : ∀ b o, h.get? b = some o → H b = none → b ∉ ex → H' b = none
  there : ∀ b o, h.get? b = some o → b ∉ ex → ∃ o', h'.get? b = some o'
  tups : ∀ b xs, H b = some (.tup xs) → H' b = some (.tup xs)
  frzs : ∀ b o u, H b = some (.frz o u) → H' b = some (.frz o u)
  tbls : ∀ b ps, H b = some (.tbl ps) → ∃ more, H' b = some (.tbl (ps ++ more))
  sys : H sysModules = none → H' sysModules = none
section
variable {fs fs' ex ex' : List Addr} {H H1 H2 : Hp} {h h1 h2 h' : Heap} {a x e : Addr} {o : HO}
theorem Un.any (u : Un fs ex H H1 h h1) {b : Addr} {ob : Obj} (q : h.get? b = some ob) (n : H b = none) (hx : b ∉ ex) : ∃ sl, h1.get? b = some { ob with slots := sl } := by
  by_cases hb : b ∈ fs
  · exact u.slot b ob q n hb hx
  · exact ⟨ob.slots, u.keep b ob q n hb hx⟩
theorem Un.kept (k : ∀ b u, h.get? b = some u → h'.get? b = some u) : Un fs ex H H h h' :=
  ⟨fun b ob q _ _ _ => k b ob q, fun b ob q _ _ _ => ⟨ob.slots, k b ob q⟩, fun _ _ _ n _ => n, fun b ob q _ => ⟨ob, k b ob q⟩, fun _ _ q => q, fun _ _ _ q => q, fun _ ps q => ⟨#[], by rw [q]; simp⟩, fun q => q⟩
theorem Un.refl : Un fs ex H H h h := Un.kept fun _ _ q => q
theorem Un.laid (k : ∀ b u, h.get? b = some u → h'.get? b = some u) (hp : h.objs.size ≤ a) (hn : H a = none) (hz : sysModules < h.objs.size) : Un fs ex H (upd H a o) h h' where
  sys := fun q => by rw [upd_ne (Nat.ne_of_lt (Nat.lt_of_lt_of_le hz hp))]; exact q
  keep := fun b u q _ _ _ => k b u q
  slot := fun b u q _ _ _ => ⟨u.slots, k b u q⟩
  free := fun b u q n _ => by rw [upd_ne (Nat.ne_of_lt (Nat.lt_of_lt_of_le (Heap.lt_size q) hp))]; exact n
  there := fun b u q _ => ⟨u, k b u q⟩
  tups := fun b xs q => by rw [upd_ne (ne_of_none q hn)]; exact q
  frzs := fun b u xs q => by rw [upd_ne (ne_of_none q hn)]; exact q
  tbls := fun b ps q => ⟨#[], by rw [upd_ne (ne_of_none q hn), q]; simp⟩
theorem Un.write (mu : Mut (H x)) (he : e = x ∨ H e = some (.own x)) (k : ∀ b u, b ≠ e → h.get? b = some u → h'.get? b = some u) (heo : ∃ u, h'.get? e = some u) : Un fs ex H (upd H x o) h h' := by
  have hx : ∀ b, H b = none → b ≠ x := fun b n z => by subst z; rw [n] at mu; exact mu
  have hb : ∀ b, H b = none → b ≠ e := fun b n z => by
    subst z
    rcases he with r | r
    · exact hx b n r
    · rw [n] at r; cases r
  have hm : ∀ b u, H b = some u → ¬ Mut (some u) → b ≠ x := fun b u q nm z => by subst z; rw [q] at mu; exact nm mu
  refine ⟨fun b u q n _ _ => k b u (hb b n) q, fun b u q n _ _ => ⟨u.slots, k b u (hb b n) q⟩, fun b u q n _ => by rw [upd_ne (hx b n)]; exact n, fun b u q _ => ?_,
    fun b xs q => by rw [upd_ne (hm b _ q fun z => z)]; exact q, fun b u xs q => by rw [upd_ne (hm b _ q fun z => z)]; exact q, fun b ps q => ⟨#[], by rw [upd_ne (hm b _ q fun z => z), q]; simp⟩, fun q => by rw [upd_ne (hx _ q)]; exact q⟩
  by_cases hbe : b = e
  · subst hbe; exact heo
  · exact ⟨u, k b u hbe q⟩
end
def trk (h : Heap) (H : Hp) : List Addr := (List.range h.objs.size).filter fun a => (H a).isSome
def hidT (h : Heap) (H : Hp) : Heap := PySem.W.hideAll h (trk h H)
theorem hidT_size (h : Heap) (H : Hp) : (hidT h H).objs.size = h.objs.size := PySem.W.hideAll_size _ _
theorem hidT_get {h : Heap} {H : Hp} {b : Addr} {o : Obj} (e : h.get? b = some o) (n : H b = none) : (hidT h H).get? b = some o :=
  PySem.W.hideAll_get _ e fun hm => by
    have q : (H b).isSome = true := (List.mem_filter.mp hm).2
    rw [n] at q; simp at q
theorem of_hidT {h : Heap} {H : Hp} {b : Addr} {o : Obj} (e : (hidT h H).get? b = some o) : h.get? b = some o ∧ H b = none := by
  have e' : h.get? b = some o := PySem.W.of_hideAll (trk h H) e
  refine ⟨e', ?_⟩
  cases q : H b with
  | none => rfl
  | some x =>
    have hm : b ∈ trk h H := List.mem_filter.mpr ⟨List.mem_range.mpr (Heap.lt_size e'), by simp [q]⟩
    have z : (hidT h H).get? b = none := PySem.W.hideAll_none (trk h H) hm
    rw [z] at e; cases e
def allNews (g h : Heap) (L : Addr) : List (Addr × Obj) := (List.range h.objs.size).filterMap fun a => if a = L ∨ (g.get? a).isSome = true then none else (h.get? a).map fun o => (a, o)
def rest (g h : Heap) (L d : Addr) : List (Addr × Obj) := (allNews g h L).filter fun p => decide (p.1 ≠ d)
end L2
namespace L2
open PySem PySem.Spec PyProof.Rows
structure Mod (K : PySem.W.Frag) (mg : Str → Option Value) (base : Heap) : Prop where
  kin : K.In base
  glob : base.Ns mainGlobals mg
  blt : ∃ mb, base.Ns builtinsNs mb ∧ ∀ x : Str, x ≠ "__name__" → mb x = bootBuiltins x
  nolimit : base.NoLimit
structure Cx where
  prog : Program
  w : World
  K : PySem.W.Frag
  mg : Str → Option Value
  base : Heap
  A : Around
  N : List Str
  s₀ : Shared
  H₀ : Hp
  env : Env
  outer : List Env
  stack : List Env
  ex : List Addr
  fn : Str → Bool
  calm : Bool
  pn : List (Addr × Obj)
  xe : Value → Shared → Prop
def frs (l : List Env) : List Addr := l.filterMap (·.frame)
abbrev Cx.fs (X : Cx) : List Addr := frs X.outer
def Vis (sc : Scope) (x : Str) : Prop := sc.names.lookup x = some .local ∨ sc.names.lookup x = some .cell ∨ sc.names.lookup x = some .free
def Loc (sc : Scope) (x : Str) : Prop := sc.names.lookup x = some .local ∨ sc.names.lookup x = some .cell
def Look (env : Env) (h : Heap) (m : Str → Option Value) (x : Str) (u : Value) : Prop :=
  (env.kindOf x = some .local ∧ m x = some u) ∨ ((env.kindOf x = some .cell ∨ env.kindOf x = some .free) ∧ ∃ c, env.cells.lookup x = some c ∧ h.IsCell c (some u))
structure Cx.Ok (X : Cx) : Prop where
  mod : Mod X.K X.mg X.base
  kind : X.env.scope.kind = .function
  glob : X.env.globals = mainGlobals
  blt : X.env.builtins = builtinsNs
  above : X.s₀.heap.objs.size ≤ X.env.locals
  inj : ∀ x y c, X.env.cells.lookup x = some c → X.env.cells.lookup y = some c → x = y
  has : ∀ x, (X.env.kindOf x = some .cell ∨ X.env.kindOf x = some .free) → ∃ c, X.env.cells.lookup x = some c
  cab : ∀ x c, X.fn x = true → X.env.cells.lookup x = some c → X.s₀.heap.objs.size ≤ c
  hd : X.calm = true → X.A.handled = none
  frames : X.A.frames = some X.stack
  stk : X.stack = X.outer ∨ (X.stack = X.env :: X.outer ∧ X.env.frame = some X.env.locals)
  exf : ∀ b ∈ X.ex, b ≠ X.env.locals ∧ ∀ x c, X.env.cells.lookup x = some c → c ≠ b
  bs : ∀ b o, X.base.get? b = some o → X.s₀.heap.get? b = some o ∧ X.H₀ b = none
  bsz : X.base.objs.size ≤ X.s₀.heap.objs.size
  noex : ∀ b o, X.base.get? b = some o → b ∉ X.ex
  exfs : ∀ b ∈ X.ex, b ∉ X.fs
  funs : X.s₀.heap.FunFrames X.base X.outer
  frf : ∀ b ∈ X.fs, X.H₀ b = none
structure Inv (X : Cx) (pins : List (Addr × Obj)) (σ : List (Option V)) (H : Hp) (s : Shared) : Prop where
  ok : X.Ok
  os : s.os = X.s₀.os
  bare : AllBare s.gens
  base : Un X.fs X.ex X.H₀ H X.s₀.heap s.heap
  loc : ∃ m, s.heap.Ns X.env.locals m ∧ ∀ (i : Nat) (x : Str) (v : V), X.N[i]? = some x → σ[i]? = some (some v) → Vis X.env.scope x → ∃ u, RelV v u ∧ Look X.env s.heap m x u
  cell : ∀ x c, X.env.cells.lookup x = some c → ∃ v, s.heap.IsCell c v
  free : H X.env.locals = none
  freeC : ∀ x c, X.env.cells.lookup x = some c → H c = none
  pin : ∀ p ∈ X.pn ++ pins, s.heap.get? p.1 = some p.2 ∧ H p.1 = none ∧ p.1 ≠ X.env.locals ∧ p.1 ∉ X.fs ∧ ∀ v, p.2.data ≠ .cell v
  hok : HOk X.prog X.w H s.heap
  len : σ.length = X.N.length
section
variable {X : Cx} {pins : List (Addr × Obj)} {σ : List (Option V)} {H H' : Hp} {s : Shared} {h' : Heap}
theorem Cx.Ok.nofr (ok : X.Ok) {b : Addr} {o : Obj} (e : X.base.get? b = some o) : b ∉ X.fs := fun hb => by
  have := (ok.funs.mem hb).1
  rw [e] at this; cases this
theorem Inv.bs (I : Inv X pins σ H s) : ∀ b o, X.base.get? b = some o → s.heap.get? b = some o ∧ H b = none := fun b o e =>
  ⟨I.base.keep b o (I.ok.bs b o e).1 (I.ok.bs b o e).2 (I.ok.nofr e) (I.ok.noex b o e), I.base.free b o (I.ok.bs b o e).1 (I.ok.bs b o e).2 (I.ok.noex b o e)⟩
theorem Inv.bk (I : Inv X pins σ H s) : ∀ b o, X.base.get? b = some o → s.heap.get? b = some o := fun b o e => (I.bs b o e).1
theorem Inv.mod (I : Inv X pins σ H s) : Mod X.K X.mg X.base := I.ok.mod
theorem Inv.kIn (I : Inv X pins σ H s) : X.K.In s.heap := I.ok.mod.kin.keeps I.bk
theorem Inv.lt (I : Inv X pins σ H s) : X.env.locals < s.heap.objs.size := let ⟨_, hn, _⟩ := I.loc; hn.lt
theorem Inv.sz (I : Inv X pins σ H s) : X.s₀.heap.objs.size ≤ s.heap.objs.size := Nat.le_trans I.ok.above (Nat.le_of_lt I.lt)
theorem Inv.nofs (I : Inv X pins σ H s) {a : Addr} (h : s.heap.objs.size ≤ a) : a ∉ X.fs := fun hb => by
  obtain ⟨_, o, ho, _⟩ := I.ok.funs.mem hb
  exact absurd (Nat.lt_of_lt_of_le (Heap.lt_size ho) (Nat.le_trans I.sz h)) (Nat.lt_irrefl _)
theorem Inv.cne (I : Inv X pins σ H s) : ∀ x c, X.env.cells.lookup x = some c → c ≠ X.env.locals := fun x c e z => by
  obtain ⟨v, o, ho, hd⟩ := I.cell x c e
  obtain ⟨m, ⟨o', es, ep, ho', hd', _⟩, _⟩ := I.loc
  rw [z, ho'] at ho; cases ho; rw [hd'] at hd; cases hd
theorem Inv.funs (I : Inv X pins σ H s) : s.heap.FunFrames X.base X.outer := by
  have all : ∀ (l : List Env), (∀ b ∈ frs l, b ∈ X.fs) → X.s₀.heap.FunFrames X.base l → s.heap.FunFrames X.base l := by
    intro l
    induction l with
    | nil => intro _ _; trivial
    | cons env r ih =>
      intro hs hl
      obtain ⟨hk, ⟨L, o, hf, hn, ho, hd⟩, hr⟩ := hl
      have hL : L ∈ X.fs := hs L (by unfold frs; rw [List.filterMap_cons, hf]; exact List.mem_cons_self)
      obtain ⟨sl, e⟩ := I.base.slot L o ho (I.ok.frf L hL) hL fun z => I.ok.exfs L z hL
      exact ⟨hk, ⟨L, _, hf, hn, e, hd⟩, ih (fun b hb => hs b (by unfold frs; rw [List.filterMap_cons, hf]; exact List.mem_cons_of_mem _ hb)) hr⟩
  exact all X.outer (fun _ hb => hb) I.ok.funs
theorem Inv.stack (I : Inv X pins σ H s) : s.heap.FunFrames X.base X.stack := by
  rcases I.ok.stk with e | ⟨e, hf⟩
  · rw [e]; exact I.funs
  · rw [e]
    obtain ⟨m, hn, _⟩ := I.loc
    refine .cons (by rw [I.ok.kind]; decide) hf hn ?_ I.funs
    exact Heap.get?_none_of_le (Nat.le_trans I.ok.bsz I.ok.above)
theorem Inv.stkSub (I : Inv X pins σ H s) : ∀ b ∈ frs X.stack, b ∈ X.env.locals :: X.fs := fun b hb => by
  rcases I.ok.stk with e | ⟨e, hf⟩
  · rw [e] at hb; exact List.mem_cons_of_mem _ hb
  · rw [e] at hb
    unfold frs at hb
    rw [List.filterMap_cons, hf] at hb
    exact hb
theorem Inv.stkFree (I : Inv X pins σ H s) : ∀ b ∈ frs X.stack, H b = none := fun b hb => by
  rcases List.mem_cons.mp (I.stkSub b hb) with e | hb
  · rw [e]; exact I.free
  · obtain ⟨_, o, ho, _⟩ := I.ok.funs.mem hb
    exact I.base.free b o ho (I.ok.frf b hb) fun z => I.ok.exfs b z hb
theorem Inv.step {g' : Array GenState} {t' : Nat} {d' : Drawn} {ch : List Addr} (I : Inv X pins σ H s)
    (hch : ∀ b ∈ ch, (b ∈ X.ex ∨ X.s₀.heap.objs.size ≤ b) ∧ b ≠ X.env.locals ∧ (∀ x c, X.env.cells.lookup x = some c → c ≠ b) ∧ ∀ p ∈ X.pn ++ pins, p.1 ≠ b)
    (keep : ∀ b o, b ≠ X.env.locals → b ∉ X.fs → b ∉ ch → s.heap.get? b = some o → H b = none → h'.get? b = some o)
    (slot : ∀ b o, b ≠ X.env.locals → b ∈ X.fs → b ∉ ch → s.heap.get? b = some o → H b = none → ∃ sl, h'.get? b = some { o with slots := sl }) (free : ∀ b o, b ∉ ch → s.heap.get? b = some o → H b = none → H' b = none)
    (there : ∀ b o, b ∉ ch → s.heap.get? b = some o → ∃ o', h'.get? b = some o')
    (tups : ∀ b xs, H b = some (.tup xs) → H' b = some (.tup xs)) (frzs : ∀ b o u, H b = some (.frz o u) → H' b = some (.frz o u)) (tbls : ∀ b ps, H b = some (.tbl ps) → ∃ more, H' b = some (.tbl (ps ++ more))) (sys : H sysModules = none → H' sysModules = none)
    (ns : ∀ m, s.heap.Ns X.env.locals m → h'.Ns X.env.locals m) (hok : HOk X.prog X.w H' h') (hg : AllBare g') :
    Inv X pins σ H' { s with heap := h', gens := g', drawn := d', toks := t' } := by
  have neL : ∀ b o, X.s₀.heap.get? b = some o → b ≠ X.env.locals := fun b o e => Nat.ne_of_lt (Nat.lt_of_lt_of_le (Heap.lt_size e) I.ok.above)
  have neC : ∀ b o, X.s₀.heap.get? b = some o → b ∉ X.ex → b ∉ ch := fun b o e hx hb => by
    rcases (hch b hb).1 with z | z
    · exact hx z
    · exact absurd (Nat.lt_of_lt_of_le (Heap.lt_size e) z) (Nat.lt_irrefl _)
  have cellK : ∀ x c, X.env.cells.lookup x = some c → ∀ v, s.heap.IsCell c v → h'.IsCell c v := fun x c e v ⟨o, ho, hd⟩ => by
    have nch : c ∉ ch := fun z => (hch c z).2.2.1 x c e rfl
    by_cases hc : c ∈ X.fs
    · obtain ⟨sl, q⟩ := slot c o (I.cne x c e) hc nch ho (I.freeC x c e)
      exact ⟨_, q, hd⟩
    · exact ⟨o, keep c o (I.cne x c e) hc nch ho (I.freeC x c e), hd⟩
  refine ⟨I.ok, I.os, hg, ⟨fun b o e n hb hx => ?_, fun b o e n hb hx => ?_, fun b o e n hx => ?_, fun b o e hx => ?_, fun b xs e => tups b xs (I.base.tups b xs e), fun b o xs e => frzs b o xs (I.base.frzs b o xs e), fun b ps e => ?_, fun q => sys (I.base.sys q)⟩, ?_, fun x c e => ?_, ?_, fun x c e => ?_, fun p hp => ?_, hok, I.len⟩
  · exact keep b o (neL b o e) hb (neC b o e hx) (I.base.keep b o e n hb hx) (I.base.free b o e n hx)
  · obtain ⟨sl, e1⟩ := I.base.slot b o e n hb hx
    obtain ⟨sl', e2⟩ := slot b _ (neL b o e) hb (neC b o e hx) e1 (I.base.free b o e n hx)
    exact ⟨sl', e2⟩
  · obtain ⟨o', e1⟩ := I.base.there b o e hx
    exact free b o' (neC b o e hx) e1 (I.base.free b o e n hx)
  · obtain ⟨o', e1⟩ := I.base.there b o e hx
    exact there b o' (neC b o e hx) e1
  · obtain ⟨m1, e1⟩ := I.base.tbls b ps e
    obtain ⟨m2, e2⟩ := tbls b _ e1
    exact ⟨m1 ++ m2, by rw [e2, Array.append_assoc]⟩
  · obtain ⟨m, hn, hl⟩ := I.loc
    refine ⟨m, ns m hn, fun i x v e1 e2 e3 => ?_⟩
    obtain ⟨u, r, l⟩ := hl i x v e1 e2 e3
    refine ⟨u, r, ?_⟩
    rcases l with l | ⟨k, c, e, z⟩
    · exact .inl l
    · exact .inr ⟨k, c, e, cellK x c e _ z⟩
  · obtain ⟨v, z⟩ := I.cell x c e
    exact ⟨v, cellK x c e v z⟩
  · obtain ⟨m, ⟨o, _, _, ho, _⟩, _⟩ := I.loc
    exact free _ o (fun z => (hch _ z).2.1 rfl) ho I.free
  · obtain ⟨v, o, ho, hd⟩ := I.cell x c e
    exact free c o (fun z => (hch c z).2.2.1 x c e rfl) ho (I.freeC x c e)
  · obtain ⟨e, n, ne, nf, d⟩ := I.pin p hp
    have nch : p.1 ∉ ch := fun z => (hch p.1 z).2.2.2 p hp rfl
    exact ⟨keep p.1 p.2 ne nf nch e n, free p.1 p.2 nch e n, ne, nf, d⟩
theorem Inv.un {t' : Nat} (I : Inv X pins σ H s) (u : Un X.fs [] H H' s.heap h') (hok : HOk X.prog X.w H' h') : Inv X pins σ H' { s with heap := h', toks := t' } := by
  obtain ⟨m, ⟨o, es, ep, ho, r⟩, _⟩ := id I.loc
  obtain ⟨sl, hL⟩ := u.any ho I.free (by simp)
  exact I.step (g' := s.gens) (d' := s.drawn) (ch := []) (fun _ z => nomatch z) (fun b o _ hb _ e n => u.keep b o e n hb (by simp)) (fun b o _ hb _ e n => u.slot b o e n hb (by simp)) (fun b o _ e n => u.free b o e n (by simp)) (fun b o _ e => u.there b o e (by simp)) u.tups u.frzs u.tbls u.sys (fun m' hm => by
    obtain ⟨o', es', ep', ho', r'⟩ := hm
    rw [ho] at ho'; cases ho'
    exact ⟨_, es', ep', hL, r'⟩) hok I.bare
theorem Inv.call {g' : Array GenState} {t' : Nat} {d' : Drawn} {ch : List Addr} (I : Inv X pins σ H s) (u : Un (frs X.stack) ch H H' s.heap h') (hok : HOk X.prog X.w H' h') (hg : AllBare g')
    (hch : ∀ b ∈ ch, (b ∈ X.ex ∨ X.s₀.heap.objs.size ≤ b) ∧ b ≠ X.env.locals ∧ (∀ x c, X.env.cells.lookup x = some c → c ≠ b) ∧ ∀ p ∈ X.pn ++ pins, p.1 ≠ b) :
    Inv X pins σ H' { s with heap := h', gens := g', drawn := d', toks := t' } := by
  obtain ⟨m, ⟨o, es, ep, ho, r⟩, _⟩ := id I.loc
  obtain ⟨sl, hL⟩ := u.any ho I.free fun z => (hch _ z).2.1 rfl
  exact I.step (ch := ch) hch (fun b o hL hb hc e n => u.keep b o e n (fun z => (List.mem_cons.mp (I.stkSub b z)).elim hL hb) hc) (fun b o _ _ hc e n => u.any e n hc) (fun b o hc e n => u.free b o e n hc) (fun b o hc e => u.there b o e hc) u.tups u.frzs u.tbls u.sys (fun m' hm => by
    obtain ⟨o', es', ep', ho', r'⟩ := hm
    rw [ho] at ho'; cases ho'
    exact ⟨_, es', ep', hL, r'⟩) hok hg
theorem Inv.turned {t' : Nat} {it : Addr} (I : Inv X pins σ H s) (k : ∀ b o, b ≠ it → s.heap.get? b = some o → h'.get? b = some o) (hn : H it = none) (hL : it ≠ X.env.locals)
    (h1 : it ∈ X.ex ∨ X.s₀.heap.objs.size ≤ it) (h2 : ∀ x c, X.env.cells.lookup x = some c → c ≠ it) (h3 : ∀ p ∈ X.pn ++ pins, p.1 ≠ it) : Inv X pins σ H { s with heap := h', toks := t' } := by
  have nit : ∀ b u, H b = some u → b ≠ it := fun b u e z => by rw [z, hn] at e; cases e
  refine I.step (g' := s.gens) (d' := s.drawn) (ch := [it]) (fun b hb => ?_) (fun b o _ _ hc e _ => k b o (fun z => hc (by simp [z])) e) (fun b o _ _ hc e _ => ⟨o.slots, k b o (fun z => hc (by simp [z])) e⟩) (fun _ _ _ _ n => n)
    (fun b o hc e => ⟨o, k b o (fun z => hc (by simp [z])) e⟩) (fun _ _ e => e) (fun _ _ _ e => e) (fun b ps e => ⟨#[], by rw [e]; simp⟩) (fun q => q) (fun m hm => ?_) (fun b u e => ?_) I.bare
  · have e : b = it := by simpa using hb
    subst e
    exact ⟨h1, hL, h2, h3⟩
  · obtain ⟨o, es, ep, ho, r⟩ := hm
    exact ⟨o, es, ep, k _ o (Ne.symm hL) ho, r⟩
  · refine (I.hok b u e).stay (fun c v hc q => k c v ?_ q) (fun _ q => q) fun _ _ q => q
    rcases hc with z | z
    · rw [z]; exact nit b u e
    · exact nit c _ z
theorem Inv.tok (I : Inv X pins σ H s) (t : Nat) : Inv X pins σ H { s with toks := t } := I.un (h' := s.heap) (t' := t) Un.refl I.hok
theorem Inv.kept {t' : Nat} (I : Inv X pins σ H s) (k : ∀ b u, s.heap.get? b = some u → h'.get? b = some u) : Inv X pins σ H { s with heap := h', toks := t' } := I.un (Un.kept k) (I.hok.kept k)
theorem Inv.laid {a : Addr} {o : HO} {t' : Nat} (I : Inv X pins σ H s) (k : ∀ b u, s.heap.get? b = some u → h'.get? b = some u) (hp : s.heap.objs.size ≤ a) (new : ObjOk X.prog X.w (upd H a o) h' a o) :
    Inv X pins σ (upd H a o) { s with heap := h', toks := t' } := I.un (Un.laid k hp (I.hok.fresh hp) (Nat.lt_trans (by decide : sysModules < mainGlobals) (I.mod.glob.keeps I.bk).lt)) (I.hok.laid k hp new)
theorem Inv.write {x e : Addr} {o : HO} {t' : Nat} (I : Inv X pins σ H s) (mu : Mut (H x)) (he : e = x ∨ H e = some (.own x)) (k : ∀ b u, b ≠ e → s.heap.get? b = some u → h'.get? b = some u) (heo : ∃ u, h'.get? e = some u)
    (new : ObjOk X.prog X.w (upd H x o) h' x o) : Inv X pins σ (upd H x o) { s with heap := h', toks := t' } := I.un (Un.write mu he k heo) (I.hok.write mu he k heo new)
theorem Inv.pins_of {pins' : List (Addr × Obj)} (I : Inv X pins σ H s) (h : ∀ p ∈ pins', s.heap.get? p.1 = some p.2 ∧ H p.1 = none ∧ p.1 ≠ X.env.locals ∧ p.1 ∉ X.fs ∧ ∀ v, p.2.data ≠ .cell v) : Inv X pins' σ H s :=
  ⟨I.ok, I.os, I.bare, I.base, I.loc, I.cell, I.free, I.freeC, fun p hp => (List.mem_append.mp hp).elim (fun z => I.pin p (List.mem_append_left _ z)) (h p), I.hok, I.len⟩
theorem nodup_ix {N : List Str} (hN : N.Nodup) {i j : Nat} {x : Str} (a : N[i]? = some x) (b : N[j]? = some x) : i = j := by
  obtain ⟨h1, e1⟩ := List.getElem?_eq_some_iff.mp a
  obtain ⟨h2, e2⟩ := List.getElem?_eq_some_iff.mp b
  exact (List.getElem_inj hN).mp (e1.trans e2.symm)
theorem store_ok2 {M : Model} {A : Around} {E : Value → Shared → Prop} {i : Nat} {x : Str} {v : V} {u : Value} {Q : Unit → Shared → Prop} (I : Inv X pins σ H s) (hN : X.N.Nodup) (hi : X.N[i]? = some x) (hx : Loc X.env.scope x) (r : RelV v u)
    (h : ∀ s', Inv X pins (σ.set i (some v)) H s' → (∃ a, Heap.SameBut a s.heap s'.heap ∧ (a = X.env.locals ∨ X.env.cells.lookup x = some a)) → Q () s') (hf : X.fn x = true ∨ X.env.scope.names.lookup x = some .local := by first | exact .inl rfl | exact .inr rfl | assumption) : wpAny M A (storeName X.env x u) Q E s := by
  obtain ⟨m, hn, hl⟩ := id I.loc
  have hcls : (X.env.scope.kind == .class || (X.env.scope.kind == .module && X.env.locals != X.env.globals)) = false := by rw [I.ok.kind]; rfl
  have hiσ : i < σ.length := by rw [I.len]; exact (List.getElem?_eq_some_iff.mp hi).1
  have cne := I.cne
  have tracked : ∀ {a : Addr} {h' : Heap}, (∃ o, s.heap.get? a = some o ∧ H a = none) → Heap.SameBut a s.heap h' → HOk X.prog X.w H h' := fun {a h'} ha hs b ob e => by
    obtain ⟨_, _, hfree⟩ := ha
    refine (I.hok b ob e).stay (fun c w' hc q => (hs.2 c ?_).trans q) (fun _ q => q) fun _ _ q => q
    rintro rfl
    rcases hc with rfl | hc
    · rw [hfree] at e; cases e
    · rw [hfree] at hc; cases hc
  rcases hx with hk | hk
  · refine wpAny_storeName_local hk hn (fun h' hn' hs => ?_) hcls
    obtain ⟨oL, _, _, hoL, _⟩ := id hn
    refine h _ ⟨I.ok, I.os, I.bare, ⟨fun b o e n hb hx => ?_, fun b o e n hb hx => ?_, I.base.free, fun b o e hx => ?_, I.base.tups, I.base.frzs, I.base.tbls, I.base.sys⟩, ⟨_, hn', fun j y v' e1 e2 e3 => ?_⟩, fun y c e => ?_, I.free, I.freeC, fun p hp => ?_, tracked ⟨oL, hoL, I.free⟩ hs, by simpa using I.len⟩ ⟨_, hs, .inl rfl⟩
    · exact (hs.2 b (Nat.ne_of_lt (Nat.lt_of_lt_of_le (Heap.lt_size e) I.ok.above))).trans (I.base.keep b o e n hb hx)
    · obtain ⟨sl, e1⟩ := I.base.slot b o e n hb hx
      exact ⟨sl, (hs.2 b (Nat.ne_of_lt (Nat.lt_of_lt_of_le (Heap.lt_size e) I.ok.above))).trans e1⟩
    · obtain ⟨o', e1⟩ := I.base.there b o e hx
      exact ⟨o', (hs.2 b (Nat.ne_of_lt (Nat.lt_of_lt_of_le (Heap.lt_size e) I.ok.above))).trans e1⟩
    · by_cases hj : j = i
      · subst hj
        rw [hi] at e1; cases e1
        rw [List.getElem?_set_self hiσ] at e2
        cases e2
        exact ⟨u, r, .inl ⟨hk, by simp⟩⟩
      · rw [List.getElem?_set_ne (Ne.symm hj)] at e2
        obtain ⟨u', r', q⟩ := hl j y v' e1 e2 e3
        refine ⟨u', r', ?_⟩
        rcases q with ⟨k, e⟩ | ⟨k, c, e, z⟩
        · refine .inl ⟨k, ?_⟩
          have : y ≠ x := fun e => hj (nodup_ix hN e1 (e ▸ hi))
          simp [this, e]
        · exact .inr ⟨k, c, e, z.sameBut hs (cne y c e)⟩
    · obtain ⟨w', z⟩ := I.cell y c e
      exact ⟨w', z.sameBut hs (cne y c e)⟩
    · obtain ⟨e, n, ne, nf, d⟩ := I.pin p hp
      exact ⟨(hs.2 p.1 ne).trans e, n, ne, nf, d⟩
  · have hfn : X.fn x = true := by
      rcases hf with z | z
      · exact z
      · rw [z] at hk; cases hk
    obtain ⟨c, hc⟩ := I.ok.has x (.inl hk)
    obtain ⟨w', z⟩ := I.cell x c hc
    refine wpAny_storeName_cell I.ok.kind hk hc z (fun h' hc' hs => ?_)
    obtain ⟨oc, hoc, hocd⟩ := id z
    refine h { s with heap := h' } ⟨I.ok, I.os, I.bare, ⟨fun b o e n hb hx => ?_, fun b o e n hb hx => ?_, I.base.free, fun b o e hx => ?_, I.base.tups, I.base.frzs, I.base.tbls, I.base.sys⟩, ⟨m, hn.sameBut hs (Ne.symm (cne x c hc)), fun j y v' e1 e2 e3 => ?_⟩, fun y c' e => ?_, I.free, I.freeC, fun p hp => ?_, tracked ⟨oc, hoc, I.freeC x c hc⟩ hs, by simpa using I.len⟩ ⟨c, hs, .inr hc⟩
    · exact (hs.2 b (Nat.ne_of_lt (Nat.lt_of_lt_of_le (Heap.lt_size e) (I.ok.cab x c hfn hc)))).trans (I.base.keep b o e n hb hx)
    · obtain ⟨sl, e1⟩ := I.base.slot b o e n hb hx
      exact ⟨sl, (hs.2 b (Nat.ne_of_lt (Nat.lt_of_lt_of_le (Heap.lt_size e) (I.ok.cab x c hfn hc)))).trans e1⟩
    · obtain ⟨o', e1⟩ := I.base.there b o e hx
      exact ⟨o', (hs.2 b (Nat.ne_of_lt (Nat.lt_of_lt_of_le (Heap.lt_size e) (I.ok.cab x c hfn hc)))).trans e1⟩
    · by_cases hj : j = i
      · subst hj
        rw [hi] at e1; cases e1
        rw [List.getElem?_set_self hiσ] at e2
        cases e2
        exact ⟨u, r, .inr ⟨.inl hk, c, hc, hc'⟩⟩
      · rw [List.getElem?_set_ne (Ne.symm hj)] at e2
        obtain ⟨u', r', q⟩ := hl j y v' e1 e2 e3
        refine ⟨u', r', ?_⟩
        rcases q with q | ⟨k, c', e, z'⟩
        · exact .inl q
        · refine .inr ⟨k, c', e, z'.sameBut hs ?_⟩
          rintro rfl
          exact hj (nodup_ix hN e1 (I.ok.inj _ _ _ e hc ▸ hi))
    · by_cases hcc : c' = c
      · subst hcc; exact ⟨_, hc'⟩
      · obtain ⟨w2, z2⟩ := I.cell y c' e
        exact ⟨w2, z2.sameBut hs hcc⟩
    · obtain ⟨e, n, ne, nf, d⟩ := I.pin p hp
      refine ⟨(hs.2 p.1 ?_).trans e, n, ne, nf, d⟩
      intro q
      rw [q, hoc] at e
      have q' : oc = p.2 := Option.some.inj e
      exact d w' (by rw [← q']; exact hocd)
theorem store_ok {M : Model} {A : Around} {E : Value → Shared → Prop} {i : Nat} {x : Str} {v : V} {u : Value} {Q : Unit → Shared → Prop} (I : Inv X pins σ H s) (hN : X.N.Nodup) (hi : X.N[i]? = some x) (hx : Loc X.env.scope x) (r : RelV v u)
    (h : ∀ s', Inv X pins (σ.set i (some v)) H s' → Q () s') (hf : X.fn x = true ∨ X.env.scope.names.lookup x = some .local := by first | exact .inl rfl | exact .inr rfl | assumption) : wpAny M A (storeName X.env x u) Q E s :=
  store_ok2 I hN hi hx r (fun s' I' _ => h s' I') hf
theorem Inv.call' {s' : Shared} {ch : List Addr} (I : Inv X pins σ H s) (ho : s'.os = s.os) (u : Un (frs X.stack) ch H H' s.heap s'.heap) (hok : HOk X.prog X.w H' s'.heap) (hg : AllBare s'.gens)
    (hch : ∀ b ∈ ch, (b ∈ X.ex ∨ X.s₀.heap.objs.size ≤ b) ∧ b ≠ X.env.locals ∧ (∀ x c, X.env.cells.lookup x = some c → c ≠ b) ∧ ∀ p ∈ X.pn ++ pins, p.1 ≠ b) : Inv X pins σ H' s' := by
  obtain ⟨h', g', d', t', o'⟩ := s'
  have e : o' = s.os := ho
  subst e
  exact I.call (g' := g') (t' := t') (d' := d') u hok hg hch
end
abbrev XK := Value → Option Addr → Hp → Prop
abbrev St := List (Option V)
abbrev VK := V → Hp → Prop
abbrev TE := St → Hp → VK → Prop
abbrev TT := St → Hp → (Bool → Hp → Prop) → Prop
abbrev TA := St → Hp → (List V → Hp → Prop) → Prop
structure Ends where
  nx : St → Hp → Prop
  rt : VK
  bk : St → Hp → Prop := fun _ _ => False
  ct : St → Hp → Prop := fun _ _ => False
abbrev TS := Ends → St → Hp → Prop
def EP (X : Cx) (pins : List (Addr × Obj)) (σ : St) (Q : VK) (u : Value) (s' : Shared) : Prop := ∃ v H', Inv X pins σ H' s' ∧ RelV v u ∧ Q v H'
def TP (X : Cx) (pins : List (Addr × Obj)) (σ : St) (Q : Bool → Hp → Prop) (b : Bool) (s' : Shared) : Prop := ∃ H', Inv X pins σ H' s' ∧ Q b H'
def AP (X : Cx) (pins : List (Addr × Obj)) (σ : St) (Q : List V → Hp → Prop) (us : List Value) (s' : Shared) : Prop := ∃ vs H', Inv X pins σ H' s' ∧ Vals vs us ∧ Q vs H'
def SP (X : Cx) (pins : List (Addr × Obj)) (D : Ends) (f : Flow) (s' : Shared) : Prop :=
  match f with
  | .next => ∃ σ' H', Inv X pins σ' H' s' ∧ D.nx σ' H'
  | .brk => ∃ σ' H', Inv X pins σ' H' s' ∧ D.bk σ' H'
  | .cont => ∃ σ' H', Inv X pins σ' H' s' ∧ D.ct σ' H'
  | .ret u => ∃ v σ' H', Inv X pins σ' H' s' ∧ RelV v u ∧ D.rt v H'
def PE (X : Cx) (e : Expr) (t : TE) : Prop :=
  ∀ (pins : List (Addr × Obj)) (s : Shared) (σ : St) (H : Hp) (Q : VK), Inv X pins σ H s → t σ H Q → wpAny (model X.prog X.w) X.A (eval e X.env) (EP X pins σ Q) X.xe s
def PT (X : Cx) (e : Expr) (t : TT) : Prop :=
  ∀ (pins : List (Addr × Obj)) (s : Shared) (σ : St) (H : Hp) (Q : Bool → Hp → Prop), Inv X pins σ H s → t σ H Q → wpAny (model X.prog X.w) X.A (isTrue e X.env (eval e X.env)) (TP X pins σ Q) X.xe s
def PW (X : Cx) (e : Expr) (t : TT) : Prop :=
  ∀ (whole : Sem Value) (pins : List (Addr × Obj)) (s : Shared) (σ : St) (H : Hp) (Q : Bool → Hp → Prop), Inv X pins σ H s → t σ H Q → wpAny (model X.prog X.w) X.A (isTrue e X.env whole) (TP X pins σ Q) X.xe s
theorem PW.pt {X : Cx} {e : Expr} {t : TT} (h : PW X e t) : PT X e t := h _
def PA (X : Cx) (es : List Expr) (t : TA) : Prop :=
  ∀ (pos : Pos) (pins : List (Addr × Obj)) (s : Shared) (σ : St) (H : Hp) (Q : List V → Hp → Prop), Inv X pins σ H s → t σ H Q → wpAny (model X.prog X.w) X.A (spliced (backTo pos (starEach es X.env))) (AP X pins σ Q) X.xe s
def PS (X : Cx) (st : Stmt) (t : TS) : Prop :=
  ∀ (pins : List (Addr × Obj)) (s : Shared) (σ : St) (H : Hp) (D : Ends), Inv X pins σ H s → t D σ H → wpAny (model X.prog X.w) X.A (exec st X.env) (SP X pins D) X.xe s
def PSs (X : Cx) (st : List Stmt) (t : TS) : Prop :=
  ∀ (pins : List (Addr × Obj)) (s : Shared) (σ : St) (H : Hp) (D : Ends), Inv X pins σ H s → t D σ H → wpAny (model X.prog X.w) X.A (execs st X.env) (SP X pins D) X.xe s
theorem thn {α : Type} {t : Sem α} {Q Q' : α → Shared → Prop} {M : Model} {A : Around} {E : Value → Shared → Prop} {s : Shared} (h : wpAny M A t Q E s) (hQ : ∀ a s, Q a s → Q' a s) : wpAny M A t Q' E s := wpAny_mono h hQ fun _ _ x => x
end L2
namespace L2
open PySem PySem.Spec PyProof.Rows
section
variable {X : Cx}
theorem bin {a b : Expr} {ta tb : TE} (ha : PE X a ta) (hb : PE X b tb) {pins : List (Addr × Obj)} {s : Shared} {σ : St} {H : Hp} {R : V → V → Hp → Prop} (I : Inv X pins σ H s) (h : ta σ H fun x H1 => tb σ H1 fun y H2 => R x y H2)
    {α : Type} {Q : α → Shared → Prop} {f : Value → Value → Sem α}
    (hf : ∀ v u s2 x y H2, Inv X pins σ H2 s2 → RelV x v → RelV y u → R x y H2 → wpAny (model X.prog X.w) X.A (f v u) Q X.xe s2) :
    wpAny (model X.prog X.w) X.A (eval a X.env) (fun v s₁ => wpAny (model X.prog X.w) X.A (eval b X.env) (fun u s₂ => wpAny (model X.prog X.w) X.A (f v u) Q X.xe s₂) X.xe s₁) X.xe s := by
  refine thn (ha pins s σ H _ I h) fun v s1 ⟨x, H1, I1, r1, q1⟩ => ?_
  refine thn (hb pins s1 σ H1 _ I1 q1) fun u s2 ⟨y, H2, I2, r2, q2⟩ => ?_
  exact hf v u s2 x y H2 I2 r1 r2 q2
def tVar (i : Nat) : TE := fun σ H Q => ∃ v, σ[i]? = some (some v) ∧ Q v H
def tC (v : V) : TE := fun _ H Q => Q v H
theorem pe_var {i : Nat} {x : Str} {pos : Pos} (hN : X.N[i]? = some x) (hv : Vis X.env.scope x) (hd : (x == ("__debug__" : Str)) = false := by decide) (hcd : (x == ("__classdict__" : Str)) = false := by decide) : PE X (.Name x pos) (tVar i) := by
  intro pins s σ H Q I h
  obtain ⟨v, e, h⟩ := h
  obtain ⟨m, hn, hl⟩ := I.loc
  obtain ⟨u, r, l⟩ := hl i x v hN e hv
  have fin : EP X pins σ Q u s := ⟨v, H, I, r, h⟩
  rcases l with ⟨hk, hm⟩ | ⟨hk, c, hc, hcell⟩
  · exact wpAny_Name (wpAny_loadName_local I.ok.kind hk hn hm fin) hd
  · rcases hk with hk | hk
    · exact wpAny_Name (wpAny_loadName_cell I.ok.kind hk hc hcell fin) hd
    · exact wpAny_Name (wpAny_loadName_free I.ok.kind hk hc hcell fin hcd) hd
theorem pe_int {i j pos} : PE X (.Constant (.int i) j pos) (tC (.int i)) := fun _ _ _ H _ I h => wpAny_Constant_int ⟨.int i, H, I.tok _, ⟨_, rfl⟩, h⟩
theorem pe_bl {b j pos} : PE X (.Constant (.bool b) j pos) (tC (.bl b)) := fun _ _ _ H _ I h => Constant_bool ⟨.bl b, H, I, rfl, h⟩
theorem pe_non {j pos} : PE X (.Constant .none j pos) (tC .non) := fun _ _ _ H _ I h => Constant_none ⟨.non, H, I, rfl, h⟩
def Gl (X : Cx) (x : Str) : Prop := X.env.kindOf x = some .globalImplicit
theorem ld_glob {E : Value → Shared → Prop} {pins : List (Addr × Obj)} {s : Shared} {σ : St} {H : Hp} {x : Str} {u : Value} {pos : Pos} {Q : Value → Shared → Prop} (I : Inv X pins σ H s) (hg : Gl X x) (hm : X.mg x = some u) (h : Q u s)
    (hd : (x == ("__debug__" : Str)) = false := by decide) : wpAny (model X.prog X.w) X.A (eval (.Name x pos) X.env) Q E s :=
  Calls.Name_function_global I.ok.kind hg (Calls.loadGlobal_global (by rw [I.ok.glob]; exact I.mod.glob.keeps I.bk) hm h) hd
theorem ld_blt {E : Value → Shared → Prop} {pins : List (Addr × Obj)} {s : Shared} {σ : St} {H : Hp} {x : Str} {u : Value} {pos : Pos} {Q : Value → Shared → Prop} (I : Inv X pins σ H s) (hg : Gl X x) (hm : X.mg x = none) (hv : bootBuiltins x = some u) (h : Q u s)
    (hn : x ≠ "__name__" := by decide) (hd : (x == ("__debug__" : Str)) = false := by decide) : wpAny (model X.prog X.w) X.A (eval (.Name x pos) X.env) Q E s := by
  obtain ⟨mb, h1, h2⟩ := I.mod.blt
  exact Calls.Name_function_global I.ok.kind hg (Calls.loadGlobal_builtin (by rw [I.ok.glob]; exact I.mod.glob.keeps I.bk) hm (by rw [I.ok.blt]; exact h1.keeps I.bk) ((h2 x hn).trans hv) h) hd
theorem pe_bltn {x : Str} {v : V} {u : Value} {pos : Pos} (hg : Gl X x) (hm : X.mg x = none) (hv : bootBuiltins x = some u) (r : RelV v u) (hn : x ≠ "__name__" := by decide) (hd : (x == ("__debug__" : Str)) = false := by decide) : PE X (.Name x pos) (tC v) :=
  fun _ _ _ H _ I h => ld_blt I hg hm hv ⟨v, H, I, r, h⟩ hn hd
variable {a b : Expr} {ta tb : TE} {pos : Pos}
def PC (X : Cx) (op : CmpOp) (a b : Expr) (t : TE) : Prop :=
  ∀ (pins : List (Addr × Obj)) (s : Shared) (σ : St) (H : Hp) (Q : VK), Inv X pins σ H s → t σ H Q →
    wpAny (model X.prog X.w) X.A (eval a X.env) (fun v s₁ => wpAny (model X.prog X.w) X.A (eval b X.env) (fun u s₂ => wpAny (model X.prog X.w) X.A (compareOp op v u) (EP X pins σ Q) X.xe s₂) X.xe s₁) X.xe s
theorem nobehind (b : Expr) {op : CmpOp} (h : op ≠ .In) (h2 : op ≠ .NotIn) : behindInMarks op b = false := by
  have e1 : (op == CmpOp.In) = false := by cases op <;> first | rfl | exact absurd rfl h
  have e2 : (op == CmpOp.NotIn) = false := by cases op <;> first | rfl | exact absurd rfl h2
  cases b <;> simp [behindInMarks, e1, e2]
def tB (t : TE) : TT := fun σ H Q => t σ H fun x H1 => ∃ c, x = .bl c ∧ Q c H1
theorem pt_cmp {op : CmpOp} {t : TE} (h : PC X op a b t) (h1 : behindInMarks op b = false := by first | exact nobehind _ (by decide) (by decide) | rfl) : PT X (.Compare a [op] [b] pos) (tB t) := by
  intro pins s σ H Q I hw
  refine wpAny_isTrue_Compare1 (thn (h pins s σ H _ I hw) fun v s1 h1 => thn h1 fun u s2 h2 => thn h2 fun c s3 ⟨x, H1, I1, r1, q1⟩ => ?_) h1
  obtain ⟨d, rfl, q⟩ := q1
  cases r1
  exact wpAny_truthy_bool ⟨H1, I1, q⟩
theorem pt_val {e : Expr} {t : TE} (h : PE X e t) (he : ∀ whole, isTrue e X.env whole = (do let v ← whole; standAt e.pos; holding [v] (truthy v)) := by intro _; rfl) : PT X e (tB t) := by
  intro pins s σ H Q I hw
  refine isTrue_plain (thn (h pins s σ H _ I hw) fun v s1 ⟨x, H1, I1, r1, q1⟩ => ?_) (he _)
  obtain ⟨d, rfl, q⟩ := q1
  cases r1
  exact wpAny_truthy_bool ⟨H1, I1, q⟩
variable {tA tB' : TT} {rest : List Expr}
def tAnd (t u : TT) : TT := fun σ H Q => t σ H fun c H1 => if c = true then u σ H1 Q else Q false H1
def tOr (t u : TT) : TT := fun σ H Q => t σ H fun c H1 => if c = true then Q true H1 else u σ H1 Q
def tNot (t : TT) : TT := fun σ H Q => t σ H fun c H1 => Q (!c) H1
theorem pw_and1 (ha : PT X a tA) : PW X (.BoolOp .And [a] pos) tA := by
  intro wh pins s σ H Q I h
  refine isTrue_and (thn (ha pins s σ H Q I h) fun c s1 e => ?_)
  cases c with
  | true => exact isTrue_and_nil e
  | false => exact e
theorem pw_or1 (ha : PT X a tA) : PW X (.BoolOp .Or [a] pos) tA := by
  intro wh pins s σ H Q I h
  refine isTrue_or (thn (ha pins s σ H Q I h) fun c s1 e => ?_)
  cases c with
  | false => exact isTrue_or_nil e
  | true => exact e
theorem pw_and (ha : PT X a tA) (hb : PW X (.BoolOp .And (b :: rest) pos) tB') : PW X (.BoolOp .And (a :: b :: rest) pos) (tAnd tA tB') := by
  intro wh pins s σ H Q I h
  refine isTrue_and (thn (ha pins s σ H _ I h) fun c s1 ⟨H1, I1, q1⟩ => ?_)
  cases c with
  | true => exact hb wh pins s1 σ H1 Q I1 q1
  | false => exact ⟨H1, I1, q1⟩
theorem pw_or (ha : PT X a tA) (hb : PW X (.BoolOp .Or (b :: rest) pos) tB') : PW X (.BoolOp .Or (a :: b :: rest) pos) (tOr tA tB') := by
  intro wh pins s σ H Q I h
  refine isTrue_or (thn (ha pins s σ H _ I h) fun c s1 ⟨H1, I1, q1⟩ => ?_)
  cases c with
  | true => exact ⟨H1, I1, q1⟩
  | false => exact hb wh pins s1 σ H1 Q I1 q1
theorem pt_not (ha : PT X a tA) : PT X (.UnaryOp .Not a pos) (tNot tA) := by
  intro pins s σ H Q I h
  exact isTrue_not (ha pins s σ H (fun c H1 => Q (!c) H1) I h)
def tAndV (ta tb : TE) : TE := fun σ H Q => ta σ H fun x H1 => ∃ c, x = .bl c ∧ if c = true then tb σ H1 Q else Q (.bl false) H1
def tNotV (ta : TE) : TE := fun σ H Q => ta σ H fun x H1 => ∃ c, x = .bl c ∧ Q (.bl (!c)) H1
theorem pe_one {op} {t : TE} (h : PE X a t) : PE X (.BoolOp op [a] pos) t := fun pins s σ H Q I hw => BoolOp_one (h pins s σ H Q I hw)
theorem pe_and (ha : PE X a ta) (hb : PE X (.BoolOp .And (b :: rest) pos) tb) : PE X (.BoolOp .And (a :: b :: rest) pos) (tAndV ta tb) := by
  intro pins s σ H Q I h
  refine BoolOp_and (thn (ha pins s σ H _ I h) fun v s1 ⟨x, H1, I1, r1, q1⟩ => ?_)
  obtain ⟨c, rfl, q1⟩ := q1
  cases r1
  refine wpAny_truthy_bool ?_
  cases c with
  | true => exact hb pins s1 σ H1 Q I1 q1
  | false => exact ⟨.bl false, H1, I1, rfl, q1⟩
theorem pe_not (ha : PE X a ta) : PE X (.UnaryOp .Not a pos) (tNotV ta) := by
  intro pins s σ H Q I h
  refine UnaryOp_ (thn (ha pins s σ H _ I h) fun v s1 ⟨x, H1, I1, r1, q1⟩ => ?_)
  obtain ⟨c, rfl, q1⟩ := q1
  cases r1
  exact not_of (wpAny_truthy_bool ⟨.bl (!c), H1, I1, rfl, q1⟩)
def tIf (t : TT) (ta tb : TE) : TE := fun σ H Q => t σ H fun c H1 => if c = true then ta σ H1 Q else tb σ H1 Q
theorem pe_ifExp {c : Expr} (hc : PT X c tA) (ha : PE X a ta) (hb : PE X b tb) : PE X (.IfExp c a b pos) (tIf tA ta tb) := by
  intro pins s σ H Q I h
  refine wpAny_IfExp (thn (hc pins s σ H _ I h) fun d s1 ⟨H1, I1, q1⟩ => ?_)
  cases d with
  | true => exact ha pins s1 σ H1 Q I1 q1
  | false => exact hb pins s1 σ H1 Q I1 q1
end
end L2
namespace L2
open PySem PySem.Spec PyProof.Rows
def SqL (K : PySem.W.Frag) (H : Hp) (a : Addr) (xs : List V) : Prop :=
  Rd H a (.lst xs) ∨
    ∃ (o : Obj) (its : Array Value) (n : Nat), K.lookup a = some o ∧ o.cls = .type "list" ∧ o.dict = none ∧ o.data = .seq its n ∧ its.size ≤ sizeLine ∧ Vals xs its.toList
def SqT (K : PySem.W.Frag) (H : Hp) (a : Addr) (xs : List V) : Prop :=
  Rd H a (.tup xs) ∨
    ∃ (o : Obj) (its : Array Value) (n : Nat), K.lookup a = some o ∧ o.cls = .type "tuple" ∧ o.data = .seq its n ∧ its.size ≤ sizeLine ∧ Vals xs its.toList
def absV : Value → Option V
  | .none => some .non
  | .bool b => some (.bl b)
  | .int i _ => some (.int i)
  | .str x _ => some (.str x)
  | .bytes b _ => some (.byt b)
  | .float b _ => some (.flt b)
  | .ref a => some (.ref a)
  | .type n => some (.ty n)
  | _ => none
theorem RelV.abs {x : V} {u : Value} (r : RelV x u) : absV u = some x := by
  cases x with
  | non => cases r; rfl
  | bl _ => cases r; rfl
  | int _ => obtain ⟨t, rfl⟩ := r; rfl
  | str _ => obtain ⟨t, rfl⟩ := r; rfl
  | byt _ => obtain ⟨t, rfl⟩ := r; rfl
  | flt _ => obtain ⟨t, rfl⟩ := r; rfl
  | ref _ => cases r; rfl
  | ty _ => cases r; rfl
theorem RelV.inj {x y : V} {u : Value} (r : RelV x u) (q : RelV y u) : x = y := Option.some.inj (r.abs.symm.trans q.abs)
theorem Vals.inj : ∀ {xs ys : List V} {us : List Value}, Vals xs us → Vals ys us → xs = ys
  | _, _, _, .nil, .nil => rfl
  | _, _, _, .cons r t, .cons r' t' => by rw [r.inj r', Vals.inj t t']
section
variable {X : Cx} {pins : List (Addr × Obj)} {σ : St} {H : Hp} {s : Shared} {a : Addr} {xs ys : List V}
theorem SqL.of {K : PySem.W.Frag} (h : H a = some (.lst xs)) : SqL K H a xs := .inl (.inl h)
theorem SqT.of {K : PySem.W.Frag} (h : H a = some (.tup xs)) : SqT K H a xs := .inl (.inl h)
theorem Inv.list (I : Inv X pins σ H s) (h : SqL X.K H a xs) : ∃ its : List Value, Vals xs its ∧ PlainL s.heap a its.toArray ∧ xs.length ≤ sizeLine := by
  rcases h with h | ⟨o, its, n, hk, hc, hd, hs, hz, r⟩
  · obtain ⟨z, its, n, r, e⟩ := h.ok I.hok
    exact ⟨its, r, ⟨_, n, e, rfl, rfl, rfl⟩, z⟩
  · refine ⟨its.toList, r, ⟨o, n, I.kIn a o hk, hc, hd, by simpa using hs⟩, ?_⟩
    have e := r.length
    simp only [Array.length_toList] at e
    omega
theorem Inv.tuple (I : Inv X pins σ H s) (h : SqT X.K H a xs) : ∃ its : List Value, Vals xs its ∧ IsTup s.heap a its.toArray ∧ xs.length ≤ sizeLine := by
  rcases h with h | ⟨o, its, n, hk, hc, hs, hz, r⟩
  · obtain ⟨z, its, r, p⟩ := h.ok I.hok
    exact ⟨its, r, p, z⟩
  · refine ⟨its.toList, r, ⟨o, I.kIn a o hk, hc, n, by simpa using hs⟩, ?_⟩
    have e := r.length
    simp only [Array.length_toList] at e
    omega
theorem Inv.list_inj (I : Inv X pins σ H s) (h : SqL X.K H a xs) (h' : SqL X.K H a ys) : xs = ys := by
  obtain ⟨its, r, ⟨o, n, e, _, _, d⟩, _⟩ := I.list h
  obtain ⟨its', r', ⟨o', n', e', _, _, d'⟩, _⟩ := I.list h'
  rw [e] at e'; cases e'
  rw [d] at d'
  injection d' with d1 _
  have : its = its' := by simpa using congrArg Array.toList d1
  subst this
  exact r.inj r'
end
abbrev Cx.wish (X : Cx) (E : Value → Shared → Prop) : Cx := { X with xe := E }
abbrev Cx.nox (X : Cx) : Cx := X.wish fun _ _ => False
theorem Cx.Ok.wish {X : Cx} (ok : X.Ok) (E : Value → Shared → Prop) : (X.wish E).Ok :=
  ⟨ok.mod, ok.kind, ok.glob, ok.blt, ok.above, ok.inj, ok.has, ok.cab, ok.hd, ok.frames, ok.stk, ok.exf, ok.bs, ok.bsz, ok.noex, ok.exfs, ok.funs, ok.frf⟩
theorem Cx.Ok.unwish {X : Cx} {E : Value → Shared → Prop} (ok : (X.wish E).Ok) : X.Ok :=
  ⟨ok.mod, ok.kind, ok.glob, ok.blt, ok.above, ok.inj, ok.has, ok.cab, ok.hd, ok.frames, ok.stk, ok.exf, ok.bs, ok.bsz, ok.noex, ok.exfs, ok.funs, ok.frf⟩
section
variable {X : Cx} {pins : List (Addr × Obj)} {σ : St} {H : Hp} {s : Shared} {E : Value → Shared → Prop}
theorem Inv.wish (I : Inv X pins σ H s) (E : Value → Shared → Prop) : Inv (X.wish E) pins σ H s := ⟨I.ok.wish E, I.os, I.bare, I.base, I.loc, I.cell, I.free, I.freeC, I.pin, I.hok, I.len⟩
theorem Inv.unwish (I : Inv (X.wish E) pins σ H s) : Inv X pins σ H s := ⟨I.ok.unwish, I.os, I.bare, I.base, I.loc, I.cell, I.free, I.freeC, I.pin, I.hok, I.len⟩
theorem SP.unwish {D : Ends} {f : Flow} {s' : Shared} (h : SP (X.wish E) pins D f s') : SP X pins D f s' := by
  cases f with
  | next => obtain ⟨σ', H', I, q⟩ := h; exact ⟨σ', H', I.unwish, q⟩
  | brk => obtain ⟨σ', H', I, q⟩ := h; exact ⟨σ', H', I.unwish, q⟩
  | cont => obtain ⟨σ', H', I, q⟩ := h; exact ⟨σ', H', I.unwish, q⟩
  | ret u => obtain ⟨v, σ', H', I, r, q⟩ := h; exact ⟨v, σ', H', I.unwish, r, q⟩
theorem PSs.nox {st : List Stmt} {t : TS} (h : PSs X.nox st t) : PSs X st t := fun pins s σ H D I hw =>
  wpAny_mono (h pins s σ H D (I.wish _) hw) (fun _ _ q => q.unwish) fun _ _ z => False.elim z
end
section
variable {X : Cx} {st : Stmt} {rest : List Stmt} {t u : TS} {e : Expr} {te : TE} {pos : Pos}
def tNext : TS := fun D σ H => D.nx σ H
def tSeq (t u : TS) : TS := fun D σ H => t { D with nx := u D } σ H
theorem pss_nil : PSs X [] tNext := fun _ _ σ H _ I h => wpAny_execs_nil ⟨σ, H, I, h⟩
theorem pss_cons (h1 : PS X st t) (h2 : PSs X rest u) : PSs X (st :: rest) (tSeq t u) := by
  intro pins s σ H D I h
  refine wpAny_execs_cons (thn (h1 pins s σ H { D with nx := u D } I h) fun f s1 q => ?_)
  cases f with
  | next =>
    obtain ⟨σ', H', I', q⟩ := q
    exact h2 pins s1 σ' H' D I' q
  | ret v => exact q
  | brk => exact q
  | cont => exact q
theorem pss_one (h1 : PS X st t) : PSs X [st] t := by
  intro pins s σ H D I h
  refine wpAny_execs_cons (thn (h1 pins s σ H D I h) fun f s1 q => ?_)
  cases f with
  | next => exact wpAny_execs_nil q
  | ret v => exact q
  | brk => exact q
  | cont => exact q
theorem Inv.quiet {pins : List (Addr × Obj)} {σ : St} {H : Hp} {s : Shared} (I : Inv X pins σ H s) : interactive X.env = false := by simp [interactive, I.ok.kind]
def tDrop (te : TE) : TS := fun D σ H => te σ H fun _ H1 => D.nx σ H1
theorem ps_expr (he : PE X e te) (hs : swapsWith e none pos.line X.env = pure false := by rfl) : PS X (.Expr e pos) (tDrop te) := by
  intro pins s σ H D I h
  exact wpAny_Expr_any (thn (he pins s σ H _ I h) fun v s1 ⟨x, H1, I1, r1, q1⟩ => ⟨σ, H1, I1, q1⟩) I.quiet hs
def tRet (te : TE) : TS := fun D σ H => te σ H D.rt
theorem ps_ret (he : PE X e te) : PS X (.Return (some e) pos) (tRet te) := by
  intro pins s σ H D I h
  exact wpAny_Return_some (thn (he pins s σ H _ I h) fun v s1 ⟨x, H1, I1, r1, q1⟩ => ⟨x, σ, H1, I1, r1, q1⟩)
def tIfS (c : TT) (t u : TS) : TS := fun D σ H => c σ H fun b H1 => if b = true then t D σ H1 else u D σ H1
theorem ps_if {c : Expr} {a b : List Stmt} {tc : TT} (hc : PT X c tc) (ha : PSs X a t) (hb : PSs X b u) : PS X (.If c a b pos) (tIfS tc t u) := by
  intro pins s σ H D I h
  refine wpAny_If (thn (hc pins s σ H _ I h) fun d s1 ⟨H1, I1, q1⟩ => ?_)
  cases d with
  | true => exact ha pins s1 σ H1 D I1 q1
  | false => exact hb pins s1 σ H1 D I1 q1
end
abbrev TG := V → St → Hp → (St → Hp → Prop) → Prop
abbrev TGs := List V → St → Hp → (St → Hp → Prop) → Prop
def PG (X : Cx) (target : Expr) (t : TG) : Prop :=
  ∀ (pins : List (Addr × Obj)) (s : Shared) (σ : St) (H : Hp) (v : V) (u : Value) (Q : St → Hp → Prop), Inv X pins σ H s → RelV v u → t v σ H Q →
    wpAny (model X.prog X.w) X.A (assign target X.env u) (fun _ s' => ∃ σ' H', Inv X pins σ' H' s' ∧ Q σ' H') X.xe s
def PGs (X : Cx) (ts : List Expr) (t : TGs) : Prop :=
  ∀ (pins : List (Addr × Obj)) (s : Shared) (σ : St) (H : Hp) (vs : List V) (us : List Value) (Q : St → Hp → Prop), Inv X pins σ H s → Vals vs us → t vs σ H Q →
    wpAny (model X.prog X.w) X.A (assignInOrder ((assignEach ts X.env).map (·.2)) us) (fun _ s' => ∃ σ' H', Inv X pins σ' H' s' ∧ Q σ' H') X.xe s
abbrev TSet := V → V → V → Hp → (Hp → Prop) → Prop
def PSet (X : Cx) (t : TSet) : Prop :=
  ∀ (pins : List (Addr × Obj)) (s : Shared) (σ : St) (H : Hp) (o i v : V) (ov iv u : Value) (Q : Hp → Prop), Inv X pins σ H s → RelV o ov → RelV i iv → RelV v u → t o i v H Q →
    wpAny (model X.prog X.w) X.A (setItem ov iv u) (fun _ s' => ∃ H', Inv X pins σ H' s' ∧ Q H') X.xe s
section
variable {X : Cx} {pos : Pos}
def gName (i : Nat) : TG := fun v σ H Q => Q (σ.set i (some v)) H
theorem pg_name {i : Nat} {x : Str} (hN : X.N.Nodup) (hi : X.N[i]? = some x) (hx : Loc X.env.scope x) (hf : X.fn x = true ∨ X.env.scope.names.lookup x = some .local := by first | exact .inl rfl | exact .inr rfl | assumption) : PG X (.Name x pos) (gName i) := by
  intro pins s σ H v u Q I r h
  exact wpAny_assign_Name (store_ok I hN hi hx r (fun s' I' => ⟨_, H, I', h⟩) hf)
def gNil : TGs := fun vs σ H Q => vs = [] ∧ Q σ H
def gCons (t : TG) (u : TGs) : TGs := fun vs σ H Q => ∃ v r, vs = v :: r ∧ t v σ H fun σ' H' => u r σ' H' Q
theorem pgs_nil : PGs X [] gNil := by
  intro pins s σ H vs us Q I r h
  obtain ⟨e, h⟩ := h
  subst e
  cases r
  exact assignInOrder_nil ⟨σ, H, I, h⟩
theorem pgs_cons {e : Expr} {es : List Expr} {t : TG} {u : TGs} (h1 : PG X e t) (h2 : PGs X es u)
    (hs : (assignEach (e :: es) X.env).map (·.2) = assign e X.env :: (assignEach es X.env).map (·.2) := by rfl) : PGs X (e :: es) (gCons t u) := by
  intro pins s σ H vs us Q I r h
  obtain ⟨v, vr, e1, h⟩ := h
  subst e1
  cases r with
  | cons r rr =>
    rw [hs]
    refine assignInOrder_cons (thn (h1 pins s σ H _ _ _ I r h) fun _ s1 ⟨σ1, H1, I1, q1⟩ => ?_)
    exact h2 pins s1 σ1 H1 _ _ Q I1 rr q1
def gTup (K : PySem.W.Frag) (n : Nat) (t : TGs) : TG := fun v σ H Q => ∃ a xs, v = .ref a ∧ SqT K H a xs ∧ xs.length = n ∧ t xs σ H Q
theorem pg_tup {es : List Expr} {k : Nat} {t : TGs} {n : Nat} (hc : X.calm = true) (h : PGs X es t)
    (hn : (assignEach es X.env).length = n := by rfl) (hst : (assignEach es X.env).findIdx? (·.1) = none := by rfl) : PG X (.Tuple es k pos) (gTup X.K n t) := by
  intro pins s σ H v u Q I r hw
  obtain ⟨a, xs, e1, hq, hl, hw⟩ := hw
  subst e1
  cases r
  obtain ⟨its, rv, ht, hz⟩ := I.tuple hq
  refine assign_Tuple_tuple (I.ok.hd hc) ht (by simp [hn, ← hl, rv.length]) hst fun h' hx => ?_
  have I1 : Inv X pins σ H { s with heap := h' } := I.kept (t' := s.toks) fun b o e => hx b o (Nat.ne_of_lt (Heap.lt_size e)) e
  exact h pins _ σ H xs _ Q I1 (by simpa using rv) hw
def gSub (to ti : TE) (t : TSet) : TG := fun v σ H Q => to σ H fun o H1 => ti σ H1 fun i H2 => t o i v H2 fun H3 => Q σ H3
theorem pg_sub {o i : Expr} {to ti : TE} {t : TSet} (ho : PE X o to) (hi : PE X i ti) (hs : PSet X t)
    (ha : ∀ v, assign (.Subscript o i pos) X.env v = (do
      let ov ← holding [v] (eval o X.env)
      let iv ← holding [v, ov] (eval i X.env)
      standAt pos
      holding [v, ov, iv] (setItem ov iv v)
      release [v, ov, iv] []) := by intro _; rfl) : PG X (.Subscript o i pos) (gSub to ti t) := by
  intro pins s σ H v u Q I r h
  rw [ha]
  refine wpAny_bind (wpAny_holding (thn (ho pins s σ H _ I h) fun ov s1 ⟨x, H1, I1, r1, q1⟩ => ?_))
  refine wpAny_bind (wpAny_holding (thn (hi pins s1 σ H1 _ I1 q1) fun iv s2 ⟨y, H2, I2, r2, q2⟩ => ?_))
  refine wpAny_bind (wpAny_standAt (wpAny_bind (wpAny_holding (thn (hs pins s2 σ H2 x y v ov iv u _ I2 r1 r2 r q2) fun _ s3 ⟨H3, I3, q3⟩ => ?_))))
  exact wpAny_release ⟨σ, H3, I3, q3⟩
def tAsg (te : TE) (g : TG) : TS := fun D σ H => te σ H fun x H1 => g x σ H1 D.nx
theorem ps_asg {tg e : Expr} {te : TE} {g : TG} (he : PE X e te) (hg : PG X tg g) (hs : swapsWithSole [tg] e pos.line X.env = pure false := by rfl) (hw : swappedStores [tg] e X.env = pure none := by rfl)
    (h1 : (assignEach [tg] X.env).map (·.2) = [assign tg X.env] := by rfl) : PS X (.Assign [tg] e pos) (tAsg te g) := by
  intro pins s σ H D I h
  refine wpAny_Assign_stores (thn (he pins s σ H _ I h) fun v s1 ⟨x, H1, I1, r1, q1⟩ => ?_) hs hw
  rw [h1]
  exact thn (hg pins s1 σ H1 x v _ I1 r1 q1) fun _ s2 q => q
theorem ps_set {i : Nat} {x : Str} {e : Expr} {te : TE} {pos' : Pos} (hN : X.N.Nodup) (hi : X.N[i]? = some x) (hx : Loc X.env.scope x) (he : PE X e te) (hs : swapsWith e (some (.Name x pos')) pos.line X.env = pure false := by rfl) (hf : X.fn x = true ∨ X.env.scope.names.lookup x = some .local := by first | exact .inl rfl | exact .inr rfl | assumption) :
    PS X (.Assign [.Name x pos'] e pos) (tAsg te (gName i)) := by
  intro pins s σ H D I h
  refine wpAny_Assign_Name (thn (he pins s σ H _ I h) fun v s1 ⟨y, H1, I1, r1, q1⟩ => ?_) hs
  exact store_ok I1 hN hi hx r1 (fun s2 I2 => ⟨_, H1, I2, q1⟩) hf
end
section
variable {X : Cx} {pos : Pos}
end
structure It where
  go : Nat → Hp → Prop
  yld : Nat → Hp → V → Hp → Prop
  stop : Nat → Hp → Prop
def FpOk (X : Cx) (pins : List (Addr × Obj)) (H : Hp) (b : Addr) : Prop :=
  H b = none ∧ b ≠ X.env.locals ∧ b ∉ X.fs ∧ (b ∈ X.ex ∨ X.s₀.heap.objs.size ≤ b) ∧ (∀ x c, X.env.cells.lookup x = some c → c ≠ b) ∧ ∀ p ∈ X.pn ++ pins, p.1 ≠ b
theorem Inv.fpOk {X : Cx} {pins : List (Addr × Obj)} {σ : St} {H H' : Hp} {s : Shared} {b : Addr} (I : Inv X pins σ H s) (hb : s.heap.objs.size ≤ b) (hn : H' b = none) : FpOk X pins H' b := by
  refine ⟨hn, Nat.ne_of_gt (Nat.lt_of_lt_of_le I.lt hb), I.nofs hb, .inr (Nat.le_trans I.sz hb), fun x c e z => ?_, fun p hp z => ?_⟩
  · obtain ⟨v, q⟩ := I.cell x c e
    exact absurd (Nat.lt_of_lt_of_le q.lt (by rw [z]; exact hb)) (Nat.lt_irrefl _)
  · exact absurd (Nat.lt_of_lt_of_le (Heap.lt_size (I.pin p hp).1) (by rw [z]; exact hb)) (Nat.lt_irrefl _)
structure Turn (P : Program) (w : World) (K : PySem.W.Frag) (tg : Expr) (J : It) (fp : List Addr) (it : Addr) (tn : Nat → Heap → Prop) : Prop where
  mem : it ∈ fp
  obj : ∀ i h, tn i h → ∀ b ∈ fp, ∃ o, h.get? b = some o ∧ ∀ v, o.data ≠ .cell v
  keep : ∀ i h h', tn i h → (∀ b ∈ fp, ∀ o, h.get? b = some o → h'.get? b = some o) → tn i h'
  item : ∀ (X : Cx), X.prog = P → X.w = w → X.K = K → X.calm = true → ∀ (i : Nat) (pins : List (Addr × Obj)) (s : Shared) (σ : St) (H : Hp) (E : Value → Shared → Prop), Inv X pins σ H s → (∀ b ∈ fp, FpOk X pins H b) → tn i s.heap → J.go i H →
    wpAny (model P w) X.A (pyNext (.ref it)) (fun r s1 => ∃ u, r = some u ∧
      wpAny (model P w) X.A (letOwnedTupleGo tg (.ref it) u) (fun _ s2 => ∃ x H', Inv X pins σ H' s2 ∧ RelV x u ∧ J.yld i H x H' ∧ tn (i + 1) s2.heap ∧ ∀ b ∈ fp, H' b = none) E s1) E s
  done : ∀ (X : Cx), X.prog = P → X.w = w → X.K = K → X.calm = true → ∀ (i : Nat) (pins : List (Addr × Obj)) (s : Shared) (σ : St) (H : Hp) (E : Value → Shared → Prop), Inv X pins σ H s → (∀ b ∈ fp, FpOk X pins H b) → tn i s.heap → J.stop i H →
    wpAny (model P w) X.A (pyNext (.ref it)) (fun r s1 => r = none ∧ Inv X pins σ H s1) E s
  self : ∀ (A : Around) (i : Nat) (s : Shared) (Q : Value → Shared → Prop) (E : Value → Shared → Prop), tn i s.heap → Q (.ref it) s → wpAny (model P w) A (pyIter (.ref it)) Q E s
abbrev TI := St → Hp → (It → Hp → Prop) → Prop
def PIE (X : Cx) (pins : List (Addr × Obj)) (σ : St) (tg : Expr) (R : It → Hp → Prop) (itv : Value) (s2 : Shared) : Prop :=
  ∃ (it : Addr) (fp : List Addr) (tn : Nat → Heap → Prop) (J : It) (H' : Hp), itv = .ref it ∧ Inv X pins σ H' s2 ∧ Turn X.prog X.w X.K tg J fp it tn ∧ tn 0 s2.heap ∧ (∀ b ∈ fp, FpOk X pins H' b) ∧ R J H'
def PI (X : Cx) (tg iter : Expr) (wi : TI) : Prop :=
  ∀ (pins : List (Addr × Obj)) (s : Shared) (σ : St) (H : Hp) (R : It → Hp → Prop), Inv X pins σ H s → wi σ H R →
    wpAny (model X.prog X.w) X.A (eval iter X.env) (fun v s1 => wpAny (model X.prog X.w) X.A (pyIter v) (PIE X pins σ tg R) X.xe s1) X.xe s
theorem go_of {M : Model} {A : Around} {E : Value → Shared → Prop} {s : Shared} {tg : Expr} {it : Addr} {u : Value} {o : Obj} {n : String} {vs : Array Value} {Q : Unit → Shared → Prop} (ho : s.heap.get? it = some o) (hc : o.cls = .type n) (hd : o.data = .fields vs)
    (hn : ["enumerate", "zip", "dict_itemiterator", "dict_reverseitemiterator", "odict_iterator", "itertools.zip_longest", "itertools.pairwise"].contains n = false) (hQ : Q () s) : wpAny M A (letOwnedTupleGo tg (.ref it) u) Q E s := by
  unfold letOwnedTupleGo
  cases tg <;> first
    | exact wpAny_pure hQ
    | (cases u <;> first
        | exact wpAny_pure hQ
        | (refine wpAny_bind (wpAny_load ho ?_)
           rw [hc, hd]
           show wpAny M A (if (["enumerate", "zip", "dict_itemiterator", "dict_reverseitemiterator", "odict_iterator", "itertools.zip_longest", "itertools.pairwise"].contains n && vs[0]? == some (rawInt _)) = true then _ else _) Q E s
           rw [if_neg (by intro h; rw [hn, Bool.false_and] at h; cases h)]
           exact wpAny_pure hQ))
def Itl (K : PySem.W.Frag) (a : Addr) : It :=
  ⟨fun i H => ∃ xs x, SqL K H a xs ∧ xs[i]? = some x, fun i H x H' => H' = H ∧ ∀ xs, SqL K H a xs → xs[i]? = some x, fun i H => ∃ xs, SqL K H a xs ∧ xs.length ≤ i⟩
def Itr (lo : Int) (n : Nat) : It := ⟨fun i _ => i < n, fun i H x H' => H' = H ∧ x = .int (lo + i), fun i _ => n ≤ i⟩
theorem turn_list {P : Program} {w : World} {K : PySem.W.Frag} {tg : Expr} (a it : Addr) : Turn P w K tg (Itl K a) [it] it (fun i h => h.IsListIter it a i) where
  mem := by simp
  obj := fun i h st b hb => by
    have e : b = it := by simpa using hb
    subst e
    obtain ⟨o, e, c, d⟩ := st
    exact ⟨o, e, fun v z => by rw [d] at z; cases z⟩
  keep := fun i h h' st k => st.at fun o e => k it (by simp) o e
  item := by
    intro X hP hw hK hc i pins s σ H E I hf st hg
    subst hP hw hK
    obtain ⟨xs, x, hq, hx⟩ := hg
    obtain ⟨its, rv, p, hz⟩ := I.list hq
    obtain ⟨u, hu, ru⟩ := rv.get hx
    obtain ⟨f0, f1, f2, f3, f4, f5⟩ := hf it (by simp)
    refine wpAny_pyNext_list_item st p.isList (x := u) (by simpa using hu) fun h' st' sb => ?_
    have I1 : Inv X pins σ H { s with heap := h' } := I.turned (t' := s.toks) (fun b o hb e => (sb.2 b hb).trans e) f0 f1 f3 f4 f5
    obtain ⟨o, e, c, d⟩ := id st'
    exact ⟨u, rfl, go_of (s := { s with heap := h' }) e c d (by decide) ⟨x, H, I1, ru, ⟨rfl, fun ys hy => by rw [I.list_inj hy hq]; exact hx⟩, st', fun b hb => (hf b hb).1⟩⟩
  done := by
    intro X hP hw hK hc i pins s σ H E I hf st hg
    subst hP hw hK
    obtain ⟨xs, hq, hx⟩ := hg
    obtain ⟨its, rv, p, hz⟩ := I.list hq
    obtain ⟨f0, f1, f2, f3, f4, f5⟩ := hf it (by simp)
    have hl := rv.length
    exact wpAny_pyNext_list_end (I.ok.hd hc) st p.isList (by simp; omega) fun h' eb => ⟨rfl, I.turned (t' := s.toks) (fun b o hb e => eb b o hb e) f0 f1 f3 f4 f5⟩
  self := fun _ _ _ _ _ st h => wpAny_pyIter_listiter st h
theorem turn_range {P : Program} {w : World} {K : PySem.W.Frag} {tg : Expr} (it : Addr) (lo : Int) (n : Nat) : Turn P w K tg (Itr lo n) [it] it (fun i h => IsRangeIter h it (lo + (i : Nat) * 1) ((n : Int) - (i : Nat)) 1) where
  mem := by simp
  obj := fun i h st b hb => by
    have e : b = it := by simpa using hb
    subst e
    exact ⟨_, st, fun v z => by
      have z' : Data.fields _ = Data.cell v := z
      cases z'⟩
  keep := fun i h h' st k => k it (by simp) _ st
  item := by
    intro X hP hw hK hc i pins s σ H E I hf st hg
    subst hP hw hK
    obtain ⟨f0, f1, f2, f3, f4, f5⟩ := hf it (by simp)
    have W := Walks.range (prog := X.prog) (w := X.w) (I.ok.hd hc) it lo 1 n
    refine W.item i s _ _ hg st fun v h' tk hv st' kk => ?_
    obtain ⟨t, rfl⟩ := hv
    have I1 : Inv X pins σ H { s with heap := h', toks := tk } := I.turned (fun b o hb e => kk b o (by simpa using hb) e) f0 f1 f3 f4 f5
    refine ⟨_, rfl, go_of (s := { s with heap := h', toks := tk }) (n := "range_iterator") st' rfl rfl (by decide) ⟨.int (lo + i), H, I1, ⟨t, ?_⟩, ⟨rfl, rfl⟩, st', fun b hb => (hf b hb).1⟩⟩
    rw [Int.mul_one]
  done := by
    intro X hP hw hK hc i pins s σ H E I hf st hg
    subst hP hw hK
    obtain ⟨f0, f1, f2, f3, f4, f5⟩ := hf it (by simp)
    exact wpAny_pyNext_range_end (I.ok.hd hc) st (by have : n ≤ i := hg; omega) fun h' eb => ⟨rfl, I.turned (t' := s.toks) (fun b o hb e => eb b o hb e) f0 f1 f3 f4 f5⟩
  self := fun _ _ _ _ _ st h => wpAny_pyIter_rangeiter st h
end L2
namespace L2
open PySem PySem.Spec PyProof.Rows
section
variable {X : Cx} {tg : Expr}
def iList (K : PySem.W.Frag) (tl : TE) : TI := fun σ H R => tl σ H fun x H1 => ∃ a, x = .ref a ∧ (∃ xs, SqL K H1 a xs) ∧ R (Itl K a) H1
theorem pi_list {l : Expr} {tl : TE} (hl : PE X l tl) : PI X tg l (iList X.K tl) := by
  intro pins s σ H R I h
  refine thn (hl pins s σ H _ I h) fun v s1 ⟨x, H1, I1, r1, q1⟩ => ?_
  obtain ⟨a, e, ⟨xs, hq⟩, q⟩ := q1
  subst e
  cases r1
  obtain ⟨its, rv, p, hz⟩ := I1.list hq
  refine wpAny_pyIter_list p.isList ?_
  refine ⟨s1.heap.objs.size, [s1.heap.objs.size], _, _, H1, rfl, I1.kept (t' := s1.toks) fun b o e => Heap.get?_push_of_some _ e, turn_list a _, ⟨_, Heap.get?_push_size _ rfl, rfl, rfl⟩, fun b hb => ?_, q⟩
  have e : b = s1.heap.objs.size := by simpa using hb
  subst e
  exact I1.fpOk (Nat.le_refl _) (I1.hok.fresh (Nat.le_refl _))
theorem range_it {pins : List (Addr × Obj)} {σ : St} {H : Hp} {s : Shared} {R : It → Hp → Prop} {E : Value → Shared → Prop} {lo hi : Int} {t u v : Tok} {tk : Nat} (I : Inv X pins σ H s) (h1 : -(2 ^ 62) ≤ lo) (h2 : lo < 2 ^ 62) (h3 : -(2 ^ 62) ≤ hi) (h4 : hi < 2 ^ 62)
    (q : R (Itr lo (hi - lo).toNat) H) : wpAny (model X.prog X.w) X.A (pyIter (.ref s.heap.objs.size)) (PIE X pins σ tg R) E { s with heap := s.heap.push { cls := .type "range", data := .fields #[.int lo t, .int hi u, .int 1 v] }, toks := tk } := by
  refine wpAny_pyIter_range (IsRange.new ..) (small_one h1 h2 h3 h4) ?_
  have I1 : Inv X pins σ H { s with heap := s.heap.push { cls := .type "range", data := .fields #[.int lo t, .int hi u, .int 1 v] }, toks := tk } := I.kept fun b o e => Heap.get?_push_of_some _ e
  refine ⟨(s.heap.push { cls := .type "range", data := .fields #[.int lo t, .int hi u, .int 1 v] }).objs.size, [(s.heap.push { cls := .type "range", data := .fields #[.int lo t, .int hi u, .int 1 v] }).objs.size], _, _, H, rfl,
    I1.kept (t' := tk) fun b o e => Heap.get?_push_of_some _ e, turn_range _ lo (hi - lo).toNat, ?_, fun b hb => ?_, q⟩
  · have e1 : lo + ((0 : Nat) : Int) * 1 = lo := by simp
    have e2 : (((hi - lo).toNat : Nat) : Int) - ((0 : Nat) : Int) = Builtin.Range.rangeSize lo hi 1 := by rw [rangeSize_one]; split <;> omega
    show IsRangeIter _ _ (lo + ((0 : Nat) : Int) * 1) ((((hi - lo).toNat : Nat) : Int) - ((0 : Nat) : Int)) 1
    rw [e1, e2]
    exact Heap.get?_push_size _ rfl
  · have e : b = (s.heap.push { cls := .type "range", data := .fields #[.int lo t, .int hi u, .int 1 v] }).objs.size := by simpa using hb
    subst e
    exact I1.fpOk (Nat.le_refl _) (I1.hok.fresh (Nat.le_refl _))
def iRng1 (ta : TA) : TI := fun σ H R => ta σ H fun vs H1 => ∃ j : Int, vs = [.int j] ∧ -(2 ^ 62) ≤ j ∧ j < 2 ^ 62 ∧ R (Itr 0 j.toNat) H1
theorem pi_range1 {a : Expr} {ta : TA} {p pos : Pos} (hg : Gl X "range") (hm : X.mg "range" = none) (ha : PA X [a] ta) (hs : starEach [a] X.env = [(false, eval a X.env)] := by rfl) : PI X tg (.Call (.Name "range" p) [a] [] pos) (iRng1 ta) := by
  intro pins s σ H R I h
  refine Call_ (ld_blt I hg hm boot_range (PyProof.Rows.callWith_type1 (thn (ha pos pins s σ H _ I h) fun us s1 ⟨vs, H1, I1, r1, q1⟩ => ?_) hs rfl))
  obtain ⟨j, e, q1, q2, q⟩ := q1
  subst e
  cases r1 with
  | cons r rr =>
    cases rr
    obtain ⟨t, rfl⟩ := r
    exact call_range_1 (range_it I1 (by omega) (by omega) q1 q2 (by simpa using q))
def tFor (wi : TI) (g : TG) (tb : TS) : TS := fun D σ H => wi σ H fun J H1 => ∃ W : Nat → Nat → St → Hp → Prop, (∃ m, W 0 m σ H1) ∧ ∀ i m σ H, W i m σ H →
  (J.stop i H ∧ D.nx σ H) ∨ (J.go i H ∧ ∃ N : St → Hp → Prop, (∀ σ' H', N σ' H' → ∃ m', m' < m ∧ W (i + 1) m' σ' H') ∧ ∀ x H', J.yld i H x H' → g x σ H' fun σ2 H2 => tb { D with nx := N, ct := N, bk := D.nx } σ2 H2)
def pinsAt (fp : List Addr) (h : Heap) : List (Addr × Obj) := fp.filterMap fun b => (h.get? b).map fun o => (b, o)
theorem mem_pinsAt {fp : List Addr} {h : Heap} {b : Addr} {o : Obj} (hb : b ∈ fp) (e : h.get? b = some o) : (b, o) ∈ pinsAt fp h := List.mem_filterMap.mpr ⟨b, hb, by rw [e]; rfl⟩
theorem of_pinsAt {fp : List Addr} {h : Heap} {p : Addr × Obj} (hp : p ∈ pinsAt fp h) : p.1 ∈ fp ∧ h.get? p.1 = some p.2 := by
  obtain ⟨b, hb, e⟩ := List.mem_filterMap.mp hp
  cases q : h.get? b with
  | none => rw [q] at e; cases e
  | some o =>
    rw [q] at e
    have e' : (b, o) = p := Option.some.inj e
    subst e'
    exact ⟨hb, q⟩
theorem Inv.pinned {pins : List (Addr × Obj)} {σ : St} {H : Hp} {s : Shared} {fp : List Addr} (I : Inv X pins σ H s) (hf : ∀ b ∈ fp, FpOk X pins H b) (ho : ∀ b ∈ fp, ∃ o, s.heap.get? b = some o ∧ ∀ v, o.data ≠ .cell v) : Inv X (pins ++ pinsAt fp s.heap) σ H s :=
  I.pins_of fun p hp => (List.mem_append.mp hp).elim (fun z => I.pin p (List.mem_append_right _ z)) fun z => by
    obtain ⟨hb, e⟩ := of_pinsAt z
    obtain ⟨f0, f1, f2, _⟩ := hf p.1 hb
    obtain ⟨o, e', d⟩ := ho p.1 hb
    rw [e] at e'; cases e'
    exact ⟨e, f0, f1, f2, d⟩
theorem Inv.unpinned {pins pl : List (Addr × Obj)} {σ : St} {H : Hp} {s : Shared} (I : Inv X (pins ++ pl) σ H s) : Inv X pins σ H s := I.pins_of fun p hp => I.pin p (List.mem_append_right _ (List.mem_append_left _ hp))
theorem ps_for {iter : Expr} {body : List Stmt} {wi : TI} {g : TG} {tb : TS} {pos : Pos} (hp : PassesOwn (model X.prog X.w) X.A X.env X.xe) (hc : X.calm = true) (hi : PI X tg iter wi) (hg : PG X tg g) (hb : PSs X body tb)
    (hs : ∀ x, foldedSetIterable iter X.env x = pure x := by intro _; rfl) : PS X (.For tg iter body [] pos) (tFor wi g tb) := by
  intro pins s σ H D I h
  refine wpAny_For (thn (hi pins s σ H _ I h) fun v s1 h1 => thn h1 fun itv s2 h2 => ?_) hs
  obtain ⟨it, fp, tn, J, H2, e, I2, T, st2, f2, W, ⟨m0, w0⟩, turn⟩ := h2
  subst e
  have stat : ∀ {H' : Hp}, (∀ b ∈ fp, H' b = none) → ∀ b ∈ fp, FpOk X pins H' b := fun hn b hb => ⟨hn b hb, (f2 b hb).2⟩
  refine codeAny_forLoop_any (fun n s' => ∃ i σ' H', Inv X pins σ' H' s' ∧ tn i s'.heap ∧ (∀ b ∈ fp, H' b = none) ∧ W i n σ' H') ?_ m0 ⟨0, σ, H2, I2, st2, fun b hb => (f2 b hb).1, w0⟩
  rintro n s3 ⟨i, σ3, H3, I3, st3, fr3, w3⟩
  rcases turn i n σ3 H3 w3 with ⟨stop, qn⟩ | ⟨go, N, hN, step⟩
  · refine wpAny_passesOwn hp (thn (T.done X rfl rfl rfl hc i pins s3 σ3 H3 X.xe I3 (stat fr3) st3 stop) fun r s4 ⟨hr, I4⟩ => ?_)
    subst hr
    exact wpAny_execs_nil ⟨σ3, H3, I4, qn⟩
  · refine wpAny_passesOwn hp (thn (T.item X rfl rfl rfl hc i pins s3 σ3 H3 X.xe I3 (stat fr3) st3 go) fun r s4 ⟨u, hr, h4⟩ => ?_)
    subst hr
    refine wpAny_passesOwn hp (thn h4 fun _ s5 ⟨x, H5, I5, r5, y5, st5, fr5⟩ => ?_)
    have I5' := I5.pinned (stat fr5) (T.obj _ _ st5)
    refine wpAny_passesOwn hp (thn (hg _ s5 σ3 H5 x u _ I5' r5 (step x H5 y5)) fun _ s6 ⟨σ6, H6, I6, q6⟩ => ?_)
    refine wpAny_passesOwn hp (thn (hb _ s6 σ6 H6 _ I6 q6) fun f s7 q7 => ?_)
    have again : ∀ {σ7 : St} {H7 : Hp}, Inv X (pins ++ pinsAt fp s5.heap) σ7 H7 s7 → N σ7 H7 → ∃ m, m < n ∧ ∃ i σ' H', Inv X pins σ' H' s7 ∧ tn i s7.heap ∧ (∀ b ∈ fp, H' b = none) ∧ W i m σ' H' := fun {σ7 H7} I7 n7 => by
      obtain ⟨m', hm, w7⟩ := hN σ7 H7 n7
      refine ⟨m', hm, i + 1, σ7, H7, I7.unpinned, T.keep _ _ _ st5 fun b hb o e => (I7.pin (b, o) (List.mem_append_right _ (List.mem_append_right _ (mem_pinsAt hb e)))).1, fun b hb => ?_, w7⟩
      obtain ⟨o, e, d⟩ := T.obj _ _ st5 b hb
      exact (I7.pin (b, o) (List.mem_append_right _ (List.mem_append_right _ (mem_pinsAt hb e)))).2.1
    cases f with
    | next => obtain ⟨σ7, H7, I7, n7⟩ := q7; exact again I7 n7
    | cont => obtain ⟨σ7, H7, I7, n7⟩ := q7; exact again I7 n7
    | brk => obtain ⟨σ7, H7, I7, q7⟩ := q7; exact ⟨σ7, H7, I7.unpinned, q7⟩
    | ret v => obtain ⟨x7, σ7, H7, I7, r7, q7⟩ := q7; exact ⟨x7, σ7, H7, I7.unpinned, r7, q7⟩
end
theorem for_range {lo : Int} {n : Nat} {g : TG} {tb : TS} {D : Ends} {σ : St} {H : Hp} (Pv : Nat → St → Hp → Prop) (h0 : Pv 0 σ H)
    (hs : ∀ i σ H, i < n → Pv i σ H → g (.int (lo + i)) σ H fun σ2 H2 => tb { D with nx := Pv (i + 1), ct := Pv (i + 1), bk := D.nx } σ2 H2) (hd : ∀ σ H, Pv n σ H → D.nx σ H) :
    ∃ W : Nat → Nat → St → Hp → Prop, (∃ m, W 0 m σ H) ∧ ∀ i m σ H, W i m σ H →
      ((Itr lo n).stop i H ∧ D.nx σ H) ∨ ((Itr lo n).go i H ∧ ∃ N : St → Hp → Prop, (∀ σ' H', N σ' H' → ∃ m', m' < m ∧ W (i + 1) m' σ' H') ∧ ∀ x H', (Itr lo n).yld i H x H' → g x σ H' fun σ2 H2 => tb { D with nx := N, ct := N, bk := D.nx } σ2 H2) := by
  refine ⟨fun i m σ H => m = n - i ∧ i ≤ n ∧ Pv i σ H, ⟨n, by simp, Nat.zero_le _, h0⟩, ?_⟩
  rintro i m σ H ⟨rfl, hi, p⟩
  by_cases hlt : i < n
  · refine .inr ⟨hlt, Pv (i + 1), fun σ' H' p' => ⟨n - (i + 1), by omega, rfl, hlt, p'⟩, fun x H' y => ?_⟩
    obtain ⟨e, y⟩ := y
    subst e y
    exact hs i σ _ hlt p
  · have e : i = n := by omega
    subst e
    exact .inl ⟨Nat.le_refl _, hd σ H p⟩
end L2
namespace L2
open PySem PySem.Spec PyProof.Rows
abbrev R2 := V → V → Hp → VK → Prop
def OpR (X : Cx) (f : Value → Value → Sem Value) (r : R2) : Prop :=
  ∀ (pins : List (Addr × Obj)) (s : Shared) (σ : St) (H : Hp) (x y : V) (v u : Value) (Q : VK), Inv X pins σ H s → RelV x v → RelV y u → r x y H Q →
    wpAny (model X.prog X.w) X.A (f v u) (EP X pins σ Q) X.xe s
def CallR (X : Cx) (f : Value) (r : List V → Hp → VK → Prop) : Prop :=
  ∀ (pins : List (Addr × Obj)) (s : Shared) (σ : St) (H : Hp) (xs : List V) (us : List Value) (Q : VK), Inv X pins σ H s → Vals xs us → r xs H Q →
    wpAny (model X.prog X.w) X.A (call f us) (EP X pins σ Q) X.xe s
def tOp (r : R2) (ta tb : TE) : TE := fun σ H Q => ta σ H fun x H1 => tb σ H1 fun y H2 => r x y H2 Q
def rI (C : Int → Int → Prop) (g : Int → Int → V) : R2 := fun x y H Q => ∃ i j, x = .int i ∧ y = .int j ∧ C i j ∧ Q (g i j) H
def rI0 (g : Int → Int → V) : R2 := fun x y H Q => ∃ i j, x = .int i ∧ y = .int j ∧ Q (g i j) H
section
variable {X : Cx} {a b c : Expr} {ta tb tc : TE} {pos : Pos}
theorem binT (ha : PE X a ta) (hb : PE X b tb) {pins : List (Addr × Obj)} {s : Shared} {σ : St} {H : Hp} {R : V → V → Hp → Prop} (I : Inv X pins σ H s)
    (h : ta σ H fun x H1 => tb σ H1 fun y H2 => R x y H2) {Q : Value → Shared → Prop} {f : Value → Value → Sem Value}
    (hf : ∀ v u s2 x y H2, Inv X pins σ H2 s2 → RelV x v → RelV y u → R x y H2 → wpAny (model X.prog X.w) X.A (f v u) Q X.xe s2) :
    wpAny (model X.prog X.w) X.A (eval a X.env) (fun v s₁ => wpAny (model X.prog X.w) X.A (eval b X.env) (fun u s₂ => wpAny (model X.prog X.w) X.A (f v u) Q X.xe s₂) X.xe s₁) X.xe s := by
  refine thn (ha pins s σ H _ I h) fun v s1 ⟨x, H1, I1, r1, q1⟩ => ?_
  refine thn (hb pins s1 σ H1 _ I1 q1) fun u s2 ⟨y, H2, I2, r2, q2⟩ => ?_
  exact hf v u s2 x y H2 I2 r1 r2 q2
theorem pe_op {op : Operator} {r : R2} (ho : OpR X (binaryOp op) r) (ha : PE X a ta) (hb : PE X b tb) : PE X (.BinOp a op b pos) (tOp r ta tb) := by
  intro pins s σ H Q I h
  exact wpAny_BinOp (binT ha hb I h fun v u s2 x y H2 I2 rx ry q => ho pins s2 σ H2 x y v u Q I2 rx ry q)
theorem opI {f : Value → Value → Sem Value} {C : Int → Int → Prop} {g : Int → Int → Int}
    (rule : ∀ (i j : Int) (t u : Tok) (s : Shared) (Q : Value → Shared → Prop) (E : Value → Shared → Prop), C i j → Q (.int (g i j) s.toks) { s with toks := s.toks + 1 } → wpAny (model X.prog X.w) X.A (f (.int i t) (.int j u)) Q E s) :
    OpR X f (rI C fun i j => .int (g i j)) := by
  intro pins s σ H x y v u Q I rx ry h
  obtain ⟨i, j, rfl, rfl, hc, q⟩ := h
  obtain ⟨t, rfl⟩ := rx
  obtain ⟨t', rfl⟩ := ry
  exact rule i j t t' s _ _ hc ⟨.int (g i j), H, I.tok _, ⟨_, rfl⟩, q⟩
theorem opI0 {f : Value → Value → Sem Value} {g : Int → Int → Int}
    (rule : ∀ (i j : Int) (t u : Tok) (s : Shared) (Q : Value → Shared → Prop) (E : Value → Shared → Prop), Q (.int (g i j) s.toks) { s with toks := s.toks + 1 } → wpAny (model X.prog X.w) X.A (f (.int i t) (.int j u)) Q E s) :
    OpR X f (rI0 fun i j => .int (g i j)) := by
  intro pins s σ H x y v u Q I rx ry h
  obtain ⟨i, j, rfl, rfl, q⟩ := h
  obtain ⟨t, rfl⟩ := rx
  obtain ⟨t', rfl⟩ := ry
  exact rule i j t t' s _ _ ⟨.int (g i j), H, I.tok _, ⟨_, rfl⟩, q⟩
theorem opB0 {f : Value → Value → Sem Value} {g : Int → Int → Bool}
    (rule : ∀ (i j : Int) (t u : Tok) (s : Shared) (Q : Value → Shared → Prop) (E : Value → Shared → Prop), Q (.bool (g i j)) s → wpAny (model X.prog X.w) X.A (f (.int i t) (.int j u)) Q E s) :
    OpR X f (rI0 fun i j => .bl (g i j)) := by
  intro pins s σ H x y v u Q I rx ry h
  obtain ⟨i, j, rfl, rfl, q⟩ := h
  obtain ⟨t, rfl⟩ := rx
  obtain ⟨t', rfl⟩ := ry
  exact rule i j t t' s _ _ ⟨.bl (g i j), H, I, rfl, q⟩
def CDiv (i j : Int) : Prop := 0 < j ∧ j < 1073741824
def CPow (i j : Int) : Prop := 0 ≤ j ∧ j ≤ 1000000 ∧ i.natAbs < 2 ^ 64
def CMul (i j : Int) : Prop := (-(2 ^ 64) < i ∧ i < 2 ^ 64) ∨ (-(2 ^ 64) < j ∧ j < 2 ^ 64)
theorem CMul.ok {i j : Int} (h : CMul i j) : IntMulOk i j := by
  rcases h with ⟨h1, h2⟩ | ⟨h1, h2⟩
  · exact .of_left (intBits_le_64 h1 h2)
  · exact .of_right (intBits_le_64 h1 h2)
theorem op_add : OpR X (binaryOp .Add) (rI0 fun i j => .int (i + j)) := opI0 fun _ _ _ _ _ _ _ q => add_int q
theorem op_sub : OpR X (binaryOp .Sub) (rI0 fun i j => .int (i - j)) := opI0 fun _ _ _ _ _ _ _ q => sub_int q
theorem op_mul : OpR X (binaryOp .Mult) (rI CMul fun i j => .int (i * j)) := opI fun _ _ _ _ _ _ _ hc q => mul_int q hc.ok
theorem op_fdiv : OpR X (binaryOp .FloorDiv) (rI CDiv fun i j => .int (i / j)) := opI fun i j _ _ _ _ _ hc q => by
  have h1 : (0 : Int) < j := hc.1
  have h2 : j < 1073741824 := hc.2
  exact floordiv_int (by omega) (by rw [Int.fdiv_eq_ediv_of_nonneg i (by omega)]; exact q) (.inl (PyProof.noPylong_small (by omega)))
theorem op_mod : OpR X (binaryOp .Mod) (rI (fun _ j => 0 < j) fun i j => .int (i % j)) := opI fun i j _ _ _ _ _ hc q => by
  have h1 : (0 : Int) < j := hc
  exact mod_int' (by omega) (by rw [Int.fmod_eq_emod_of_nonneg i (by omega)]; exact q)
theorem op_pow : OpR X (binaryOp .Pow) (rI CPow fun i j => .int (i ^ j.toNat)) := opI fun _ _ _ _ _ _ _ hc q => pow_int_small hc.1 hc.2.1 hc.2.2 q
end
def scal : V → V → Bool
  | .non, .non => true | .non, .int _ => true | .int _, .non => true | .non, .bl _ => true | .bl _, .non => true | .non, .str _ => true | .str _, .non => true
  | .int _, .int _ => true | .bl _, .bl _ => true | .str _, .str _ => true | .byt _, .byt _ => true
  | .int _, .str _ => true | .str _, .int _ => true | .bl _, .str _ => true | .str _, .bl _ => true
  | _, _ => false
def rEq : R2 := fun x y H Q => scal x y = true ∧ Q (.bl (decide (x = y))) H
theorem dec_int {i j : Int} : decide (V.int i = V.int j) = (i == j) := by
  rw [Bool.eq_iff_iff]
  simp
theorem dec_bl {i j : Bool} : decide (V.bl i = V.bl j) = (i == j) := by
  rw [Bool.eq_iff_iff]
  simp
theorem dec_str {i j : Str} : decide (V.str i = V.str j) = (i == j) := by
  rw [Bool.eq_iff_iff]
  simp
theorem dec_byt {i j : Array UInt8} : decide (V.byt i = V.byt j) = (i.toList == j.toList) := by
  rw [Bool.eq_iff_iff]
  cases i
  cases j
  simp
section
variable {X : Cx} {a b c : Expr} {ta tb tc : TE} {pos : Pos}
theorem fin_bl {pins : List (Addr × Obj)} {σ : St} {H : Hp} {s : Shared} {Q : VK} {k k' : Bool} (I : Inv X pins σ H s) (q : Q (.bl k) H) (e : k = k') : EP X pins σ Q (.bool k') s := by
  subst e
  exact ⟨.bl k, H, I, rfl, q⟩
theorem op_eq : OpR X (compareOp .Eq) rEq := by
  intro pins s σ H x y v u Q I rx ry h
  obtain ⟨hs, q⟩ := h
  cases x with
  | non =>
    cases rx
    cases y with
    | non => cases ry; exact PySem.EqNone.eq_none_none (fin_bl I q (by simp))
    | bl j => cases ry; exact PySem.EqNone.eq_none_bool (fin_bl I q (by simp))
    | int j => obtain ⟨t', rfl⟩ := ry; exact PySem.EqNone.eq_none_int (fin_bl I q (by simp))
    | str j => obtain ⟨t', rfl⟩ := ry; exact PySem.EqNone.eq_none_str (fin_bl I q (by simp))
    | _ => exact absurd (show false = true from hs) Bool.false_ne_true
  | bl i =>
    cases rx
    cases y with
    | non => cases ry; exact PySem.EqNone.eq_bool_none (fin_bl I q (by simp))
    | bl j => cases ry; exact eq_bool (fin_bl I q dec_bl)
    | str j => obtain ⟨t', rfl⟩ := ry; exact PySem.EqMixed.eq_bool_str (fin_bl I q (by simp))
    | _ => exact absurd (show false = true from hs) Bool.false_ne_true
  | int i =>
    obtain ⟨t, rfl⟩ := rx
    cases y with
    | non => cases ry; exact PySem.EqNone.eq_int_none (fin_bl I q (by simp))
    | int j => obtain ⟨t', rfl⟩ := ry; exact eq_int (fin_bl I q dec_int)
    | str j => obtain ⟨t', rfl⟩ := ry; exact PySem.EqMixed.eq_int_str (fin_bl I q (by simp))
    | _ => exact absurd (show false = true from hs) Bool.false_ne_true
  | str i =>
    obtain ⟨t, rfl⟩ := rx
    cases y with
    | non => cases ry; exact PySem.EqNone.eq_str_none (fin_bl I q (by simp))
    | bl j => cases ry; exact PySem.EqMixed.eq_str_bool (fin_bl I q (by simp))
    | int j => obtain ⟨t', rfl⟩ := ry; exact PySem.EqMixed.eq_str_int (fin_bl I q (by simp))
    | str j => obtain ⟨t', rfl⟩ := ry; exact eq_str (fin_bl I q dec_str)
    | _ => exact absurd (show false = true from hs) Bool.false_ne_true
  | byt i =>
    obtain ⟨t, rfl⟩ := rx
    cases y with
    | byt j => obtain ⟨t', rfl⟩ := ry; exact PySem.W.eq_bytes (fin_bl I q dec_byt)
    | _ => exact absurd (show false = true from hs) Bool.false_ne_true
  | _ => cases y <;> exact absurd (show false = true from hs) Bool.false_ne_true
theorem op_lt : OpR X (compareOp .Lt) (rI0 fun i j => .bl (decide (i < j))) := opB0 fun _ _ _ _ _ _ _ q => lt_int q
theorem op_le : OpR X (compareOp .LtE) (rI0 fun i j => .bl (decide (i ≤ j))) := opB0 fun _ _ _ _ _ _ _ q => le_int q
theorem op_gt : OpR X (compareOp .Gt) (rI0 fun i j => .bl (decide (j < i))) := opB0 fun _ _ _ _ _ _ _ q => gt_int q
theorem op_isN : OpR X (compareOp .Is) (fun x y H Q => y = .non ∧ Q (.bl (decide (x = .non))) H) := by
  intro pins s σ H x y v u Q I rx ry h
  obtain ⟨rfl, q⟩ := h
  cases ry
  refine is_none_gen (fin_bl I q ?_)
  cases x <;> first
    | (cases rx; rfl)
    | (obtain ⟨t, rfl⟩ := rx; rfl)
theorem nomark (b : Expr) {op : CmpOp} (h : op ≠ .In := by decide) (h2 : op ≠ .NotIn := by decide) : behindInMarks op b = false := by
  have e1 : (op == CmpOp.In) = false := by cases op <;> first | rfl | exact absurd rfl h
  have e2 : (op == CmpOp.NotIn) = false := by cases op <;> first | rfl | exact absurd rfl h2
  cases b <;> simp [behindInMarks, e1, e2]
theorem pe_cmpR {op : CmpOp} {r : R2} (ho : OpR X (compareOp op) r) (ha : PE X a ta) (hb : PE X b tb) (hm : behindInMarks op b = false) : PE X (.Compare a [op] [b] pos) (tOp r ta tb) := by
  intro pins s σ H Q I h
  exact wpAny_Compare1 (binT ha hb I h fun v u s2 x y H2 I2 rx ry q => ho pins s2 σ H2 x y v u Q I2 rx ry q) hm
def tTest (t : TE) : TT := fun σ H Q => t σ H fun x H' => ∃ k, x = .bl k ∧ Q k H'
theorem pt_cmpR {op : CmpOp} {r : R2} (ho : OpR X (compareOp op) r) (ha : PE X a ta) (hb : PE X b tb) (hm : behindInMarks op b = false) : PT X (.Compare a [op] [b] pos) (tTest (tOp r ta tb)) := by
  intro pins s σ H Q I h
  refine wpAny_isTrue_Compare1 (thn (ha pins s σ H _ I h) fun v s1 ⟨x, H1, I1, r1, q1⟩ => thn (hb pins s1 σ H1 _ I1 q1) fun u s2 ⟨y, H2, I2, r2, q2⟩ =>
    thn (ho pins s2 σ H2 x y v u _ I2 r1 r2 q2) fun c s3 ⟨z, H3, I3, r3, k, e, q3⟩ => ?_) hm
  subst e
  cases r3
  exact wpAny_truthy_bool ⟨H3, I3, q3⟩
theorem line63 : (sizeLine : Nat) < 2 ^ 63 := by rw [sizeLine_eq]; decide
theorem vals1 {x : V} {us : List Value} (r : Vals [x] us) : ∃ u, us = [u] ∧ RelV x u := by
  cases r with
  | cons r1 r2 => cases r2; exact ⟨_, rfl, r1⟩
theorem vals2 {x y : V} {us : List Value} (r : Vals [x, y] us) : ∃ u w', us = [u, w'] ∧ RelV x u ∧ RelV y w' := by
  cases r with
  | cons r1 r2 =>
    cases r2 with
    | cons r3 r4 => cases r4; exact ⟨_, _, rfl, r1, r3⟩
theorem call_max2 (hc : X.calm = true) : CallR X (.builtin "max") (fun xs H Q => ∃ i j, xs = [.int i, .int j] ∧ Q (.int (if j > i then j else i)) H) := by
  intro pins s σ H xs us Q I r h
  obtain ⟨i, j, rfl, q⟩ := h
  obtain ⟨u, w', rfl, ⟨t, rfl⟩, ⟨t', rfl⟩⟩ := vals2 r
  refine max_two_ints (I.ok.hd hc) fun h' tk k => ⟨_, H, I.kept k, ?_, q⟩
  by_cases hj : j > i
  · rw [if_pos hj, if_pos hj]; exact ⟨_, rfl⟩
  · rw [if_neg hj, if_neg hj]; exact ⟨_, rfl⟩
theorem call_min2 (hc : X.calm = true) : CallR X (.builtin "min") (fun xs H Q => ∃ i j, xs = [.int i, .int j] ∧ Q (.int (if j < i then j else i)) H) := by
  intro pins s σ H xs us Q I r h
  obtain ⟨i, j, rfl, q⟩ := h
  obtain ⟨u, w', rfl, ⟨t, rfl⟩, ⟨t', rfl⟩⟩ := vals2 r
  refine min_two_ints (I.ok.hd hc) fun h' tk k => ⟨_, H, I.kept k, ?_, q⟩
  by_cases hj : j < i
  · rw [if_pos hj, if_pos hj]; exact ⟨_, rfl⟩
  · rw [if_neg hj, if_neg hj]; exact ⟨_, rfl⟩
theorem call_int1 : CallR X (.type "int") (fun xs H Q => (∃ i, xs = [.int i] ∧ Q (.int i) H) ∨ ∃ k, xs = [.bl k] ∧ Q (.int (if k then 1 else 0)) H) := by
  intro pins s σ H xs us Q I r h
  rcases h with ⟨i, rfl, q⟩ | ⟨k, rfl, q⟩
  · obtain ⟨u, rfl, t, rfl⟩ := vals1 r
    exact call_int_int ⟨.int i, H, I, ⟨_, rfl⟩, q⟩
  · obtain ⟨u, rfl, r1⟩ := vals1 r
    cases r1
    exact call_int_bool ⟨.int (if k then 1 else 0), H, I.tok _, ⟨_, rfl⟩, q⟩
end
end L2
namespace L2
open PySem PySem.Spec PyProof.Rows
structure ObjM (h : Heap) (x dx C : Addr) (mA : Str → Option Value) : Prop where
  obj : h.get? x = some (PySem.W.instObj C dx)
  ns : h.Ns1 dx mA
  ne : dx ≠ x
theorem lookIn_ns {h : Heap} {dx : Addr} {mA : Str → Option Value} (n : h.Ns1 dx mA) : ∃ od, h.get? dx = some od ∧ ∀ name, PySem.W.lookIn name od = some (mA name) := by
  obtain ⟨o, es, ep, ho, hd, hk, _, hm⟩ := n
  refine ⟨o, ho, fun name => ?_⟩
  have e := hm name
  unfold nsFind findBy at e
  rw [← Array.find?_toList] at e
  unfold PySem.W.lookIn
  rw [hd]
  dsimp only
  split
  · rename_i y q
    rw [q] at e
    exact congrArg some e
  · rename_i q
    rw [q] at e
    have a : es.toList.any (·.refKey) = false := by
      rw [List.any_eq_false]
      intro y hy
      obtain ⟨z, t, hkey⟩ := hk y (Array.mem_toList_iff.mp hy)
      simp [DictEntry.refKey, hkey]
    have a' : ¬ es.toList.any (·.refKey) = true := by rw [a]; exact Bool.false_ne_true
    rw [if_neg a']
    exact congrArg some e
theorem ObjM.look {h : Heap} {x dx C : Addr} {mA : Str → Option Value} (I : ObjM h x dx C mA) : ∃ od, PySem.W.InstAt h x (PySem.W.instObj C dx) C (some od) ∧ ∀ name, PySem.W.lookIn name od = some (mA name) :=
  let ⟨od, ho, hl⟩ := lookIn_ns I.ns
  ⟨od, ⟨I.obj, rfl, rfl, ho⟩, hl⟩
section
variable {prog : Program} {w : World} {A : Around} {E : Value → Shared → Prop} {s : Shared} {K : PySem.W.Frag} {x dx C f : Addr} {mA : Str → Option Value} {name : Str} {v : Value}
end
section
variable {P : Program} {w : World} {H H' : Hp} {h h' : Heap} {a C dx : Addr} {fs fs' : List (Str × V)}
theorem ins_get (hok : HOk P w H h) (e : H a = some (.ins C dx fs)) : ∃ mA, ObjM h a dx C mA ∧ (∀ f, RelO (fs.lookup f) (mA f)) ∧ PySem.Within mA (fs.map (·.1)) ∧ fs.length ≤ 1000 ∧ H dx = some (.own a) := by
  obtain ⟨d, z, ne, ob, mA, n, r, q⟩ := (show ObjOk P w H h a (.ins C dx fs) from hok a _ e)
  exact ⟨mA, ⟨ob, n, ne⟩, r, q, z, d⟩
end
structure Cls (K : PySem.W.Frag) (C : Addr) : Prop where
  pg : PySem.W.plainGet K C Str.empty = true
  hd : PySem.W.hasDictIn K C = true
  po : PySem.W.plainOver K C = true
  sa : PySem.W.findIn K (.ref C) "__setattr__" = some (some (.builtin "object.__setattr__"))
theorem Cls.get {K : PySem.W.Frag} {C : Addr} (c : Cls K C) (f : Str) : PySem.W.plainGet K C f = true := c.pg
section
variable {X : Cx} {pins : List (Addr × Obj)} {σ : St} {H : Hp} {s : Shared} {a C dx : Addr} {fs : List (Str × V)} {f : Str} {v : V} {A : Around} {E : Value → Shared → Prop}
end
section
variable {X : Cx} {o e value : Expr} {f : Str} {pos pos' tpos : Pos} {ta tv : TE}
end
section
variable {X : Cx} {pins : List (Addr × Obj)} {σ : St} {H : Hp} {s : Shared} {A : Around} {E : Value → Shared → Prop} {Q : Value → Shared → Prop} {c : Value} {b : Bool}
inductive TyOf (K : PySem.W.Frag) (H : Hp) : V → Value → Prop where
  | non : TyOf K H .non (.type "NoneType")
  | bl (x : Bool) : TyOf K H (.bl x) (.type "bool")
  | int (i : Int) : TyOf K H (.int i) (.type "int")
  | str (x : Str) : TyOf K H (.str x) (.type "str")
  | flt (x : UInt64) : TyOf K H (.flt x) (.type "float")
  | lst {a : Addr} {xs : List V} (e : H a = some (.lst xs)) : TyOf K H (.ref a) (.type "list")
  | frz {a : Addr} {o : Obj} {xs : List V} (e : H a = some (.frz o (.lst xs))) : TyOf K H (.ref a) (.type "list")
  | tup {a : Addr} {xs : List V} (e : H a = some (.tup xs)) : TyOf K H (.ref a) (.type "tuple")
  | dK {a : Addr} {kvs : List (Key × V)} (e : H a = some (.dK kvs)) : TyOf K H (.ref a) (.type "dict")
  | dT {a : Addr} {kvs : List (List Key × V)} (e : H a = some (.dT kvs)) : TyOf K H (.ref a) (.type "dict")
  | ins {a C dx : Addr} {fs : List (Str × V)} (e : H a = some (.ins C dx fs)) (cl : Cls K C) (ha : PySem.W.findIn K (.ref C) "__class__" = some (some (.builtin "object.__class__")))
      (hn : PySem.W.specialIn K (.builtin "object.__class__") "__get__" = some (some (.builtin "getset_descriptor.__get__"))) (htk : PySem.W.takesIn K (.builtin "object.__class__") = some true)
      (hm : PySem.W.mroIn K C (.type "object") = some true) : TyOf K H (.ref a) (.ref C)
theorem isinst_ok {x : V} {u t : Value} (I : Inv X pins σ H s) (rx : RelV x u) (ty : TyOf X.K H x t) (e : PySem.W.kitOne X.K t c = some b) (h : ∀ tk, Q (.bool b) { s with toks := tk }) :
    wpAny (model X.prog X.w) A (call (.builtin "isinstance") [u, c]) Q E s := by
  cases ty with
  | non => cases (show u = Value.none from rx); exact PySem.W.kia_one PySem.W.kitx_none I.kIn True.intro e (fun z => nomatch z) h
  | bl y => cases (show u = Value.bool y from rx); exact PySem.W.kia_one PySem.W.kitx_bool I.kIn True.intro e (fun z => nomatch z) h
  | int i => obtain ⟨t, q⟩ := (show ∃ t, u = Value.int i t from rx); cases q; exact PySem.W.kia_one PySem.W.kitx_int I.kIn True.intro e (fun z => nomatch z) h
  | str y => obtain ⟨t, q⟩ := (show ∃ t, u = Value.str y t from rx); cases q; exact PySem.W.kia_one PySem.W.kitx_str I.kIn True.intro e (fun z => nomatch z) h
  | flt y => obtain ⟨t, q⟩ := (show ∃ t, u = Value.float y t from rx); cases q; exact PySem.W.kia_one PySem.W.kitx_float I.kIn True.intro e (fun z => nomatch z) h
  | @lst a xs ea =>
    cases (show u = Value.ref a from rx)
    obtain ⟨_, _, n, _, h1⟩ := (show ObjOk X.prog X.w H s.heap a (.lst xs) from I.hok a _ ea)
    exact PySem.W.kia_one PySem.W.kitx_list I.kIn ⟨_, h1, rfl⟩ e (fun z => nomatch z) h
  | @frz a ob xs ea =>
    cases (show u = Value.ref a from rx)
    obtain ⟨_, _, _, n, _, h1⟩ := (show ObjOk X.prog X.w H s.heap a (.frz ob (.lst xs)) from I.hok a _ ea)
    exact PySem.W.kia_one PySem.W.kitx_list I.kIn ⟨_, h1, rfl⟩ e (fun z => nomatch z) h
  | @tup a xs ea =>
    cases (show u = Value.ref a from rx)
    obtain ⟨_, _, _, p⟩ := (show ObjOk X.prog X.w H s.heap a (.tup xs) from I.hok a _ ea)
    obtain ⟨o, h1, h2, _⟩ := p
    exact PySem.W.kia_one PySem.W.kitx_tuple I.kIn ⟨o, h1, h2⟩ e (fun z => nomatch z) h
  | @dK a kvs ea =>
    cases (show u = Value.ref a from rx)
    obtain ⟨_, _, vs, _, p⟩ := (show ObjOk X.prog X.w H s.heap a (.dK kvs) from I.hok a _ ea)
    obtain ⟨o, es, ep, h1, h2, _⟩ := p
    exact PySem.W.kia_one PySem.W.kitx_dict I.kIn ⟨o, h1, h2.1⟩ e (fun z => nomatch z) h
  | @dT a kvs ea =>
    cases (show u = Value.ref a from rx)
    obtain ⟨_, _, xs, _, o, es, ep, h1, h2, _⟩ := (show ObjOk X.prog X.w H s.heap a (.dT kvs) from I.hok a _ ea)
    exact PySem.W.kia_one PySem.W.kitx_dict I.kIn ⟨o, h1, h2.1⟩ e (fun z => nomatch z) h
  | @ins a C dx fs ea cl ha hn htk hm =>
    cases (show u = Value.ref a from rx)
    obtain ⟨mA, O, _⟩ := ins_get I.hok ea
    obtain ⟨od, J, _⟩ := O.look
    exact PySem.W.kia_one (PySem.W.kitx_own (cl.get _) cl.hd ha hn htk hm) I.kIn J e (fun z => nomatch z) h
end
end L2
namespace L2
open PySem PySem.Spec PyProof.Rows
structure Room (k : Nat) (A : Around) : Prop where
  hd : A.handled = none
  dp : A.depth + 3 * k + 5 < recursionLimit
  un : A.units + 16 * k + 200 < cLine
  gd : A.guards = some []
theorem Room.mono {j k : Nat} {A : Around} (r : Room k A) (h : j ≤ k) : Room j A := ⟨r.hd, by have := r.dp; omega, by have := r.un; omega, r.gd⟩
theorem Room.deeper {k : Nat} {A : Around} (r : Room (k + 1) A) (env : Env) : Room k (A.deeper env) :=
  ⟨r.hd, by have := r.dp; show A.depth + 1 + 3 * k + 5 < _; omega, by have := r.un; show A.units + 3 + 16 * k + 200 < _; omega, r.gd⟩
theorem Room.depth {k : Nat} {A : Around} (r : Room k A) : A.depth < recursionLimit := by have := r.dp; omega
theorem Room.units {k : Nat} {A : Around} (r : Room k A) : A.units + 64 < cLine := by have := r.un; omega
def tNil : TA := fun _ H Q => Q [] H
def tCons (ta : TE) (tr : TA) : TA := fun σ H Q => ta σ H fun x H1 => tr σ H1 fun xs H2 => Q (x :: xs) H2
section
variable {X : Cx} {e : Expr} {es : List Expr} {te : TE} {t : TA} {pos : Pos}
theorem pa_nil : PA X [] tNil := fun _ _ _ _ H Q I h => Calls.spliced_nil ⟨[], H, I, .nil, h⟩
theorem pa_cons (ha : PE X e te) (hr : PA X es t) (hs : starEach (e :: es) X.env = (false, eval e X.env) :: starEach es X.env := by rfl) : PA X (e :: es) (tCons te t) := by
  intro pos pins s σ H Q I h
  rw [hs]
  show wpAny _ _ (spliced ((false, eval e X.env) :: backTo pos (starEach es X.env))) _ _ s
  refine Calls.spliced_cons (thn (ha pins s σ H _ I h) fun u s1 ⟨x, H1, I1, r1, q1⟩ => ?_)
  exact thn (hr pos pins s1 σ H1 _ I1 q1) fun us s2 ⟨xs, H2, I2, r2, q2⟩ => ⟨x :: xs, H2, I2, .cons r1 r2, q2⟩
def tTup (t : TA) : TE := fun σ H Q => t σ H fun xs H1 => xs.length ≤ sizeLine ∧ ∀ p, H1 p = none → Q (.ref p) (upd H1 p (.tup xs))
def tLst (t : TA) : TE := fun σ H Q => t σ H fun xs H1 => xs.length ≤ sizeLine ∧ ∀ p, H1 p = none → Q (.ref p) (upd H1 p (.lst xs))
theorem pe_tup {x1} (h : PA X es t) : PE X (.Tuple es x1 pos) (tTup t) := by
  intro pins s σ H Q I hq
  refine wpAny_Tuple_spliced (thn (h pos pins s σ H _ I hq) fun us s1 ⟨xs, H1, I1, r, z, q⟩ => ⟨by rw [← r.length]; exact z, ?_⟩)
  have hf : H1 s1.heap.objs.size = none := I1.hok.fresh (Nat.le_refl _)
  refine ⟨.ref s1.heap.objs.size, upd H1 s1.heap.objs.size (.tup xs), I1.laid (t' := s1.toks) (fun b u e => Heap.get?_push_of_some _ e) (Nat.le_refl _) ?_, rfl, q _ hf⟩
  exact ⟨z, us, r, ⟨_, Heap.get?_push_size _ rfl, rfl, _, rfl⟩⟩
theorem pe_lst (h : PA X es t) : PE X (.List es pos) (tLst t) := by
  intro pins s σ H Q I hq
  refine wpAny_List_spliced (thn (h pos pins s σ H _ I hq) fun us s1 ⟨xs, H1, I1, r, z, q⟩ => ⟨by rw [← r.length]; exact z, ?_⟩)
  have hf : H1 s1.heap.objs.size = none := I1.hok.fresh (Nat.le_refl _)
  refine ⟨.ref s1.heap.objs.size, upd H1 s1.heap.objs.size (.lst xs), I1.laid (t' := s1.toks) (fun b u e => Heap.get?_push_of_some _ e) (Nat.le_refl _) ?_, rfl, q _ hf⟩
  exact ⟨z, us, 0, r, Heap.get?_push_size _ rfl⟩
end
abbrev Sp := List V → Hp → VK → XK → Prop
abbrev CXT := List Env → Hp → Shared → XK → Value → Shared → Prop
structure Env0 (P : Program) (w : World) (K : PySem.W.Frag) (mg : Str → Option Value) (base : Heap) (A : Around) (outer : List Env) (s : Shared) (H : Hp) : Prop where
  frames : A.frames = some outer
  mod : Mod K mg base
  bs : ∀ b o, base.get? b = some o → s.heap.get? b = some o ∧ H b = none
  bsz : base.objs.size ≤ s.heap.objs.size
  funs : s.heap.FunFrames base outer
  frf : ∀ b ∈ frs outer, H b = none
  hok : HOk P w H s.heap
  bare : AllBare s.gens
def CE (outer : List Env) (P : Program) (w : World) (H : Hp) (s : Shared) (Q : VK) (u : Value) (s' : Shared) : Prop :=
  ∃ v H', s'.os = s.os ∧ AllBare s'.gens ∧ Un (frs outer) [] H H' s.heap s'.heap ∧ HOk P w H' s'.heap ∧ RelV v u ∧ Q v H'
def CR (CX : CXT) (outer : List Env) (P : Program) (w : World) (H : Hp) (s : Shared) (Q : VK) (E : XK) (r : Result) (s' : Shared) : Prop :=
  match r with
  | .ok (.ret u) => CE outer P w H s Q u s'
  | .ok _ => False
  | .error e => CX outer H s E e s'
structure FnOk (P : Program) (w : World) (K : PySem.W.Frag) (mg : Str → Option Value) (base : Heap) (CX : CXT) (k : Nat) (f : Addr) (fd : FuncData) (ps : List Str) (sp : Sp) : Prop where
  len : ∀ vs H Q E, sp vs H Q E → vs.length = ps.length
  run : ∀ (A : Around) (outer : List Env) (s : Shared) (H : Hp) (args : Args) (us : List Value) (vs : List V) (Q : VK) (E : XK), Room k A → Env0 P w K mg base A outer s H → BindsTo s fd args (ps.zip us) → Vals vs us → sp vs H Q E →
    codeAny (model P w) A (.call (.ref f) args) (CR CX outer P w H s Q E) s
section
variable {X : Cx} {pins : List (Addr × Obj)} {σ : St} {H : Hp} {s s' : Shared}
theorem Inv.env0 (I : Inv X pins σ H s) : Env0 X.prog X.w X.K X.mg X.base X.A X.stack s H :=
  ⟨I.ok.frames, I.ok.mod, I.bs, Nat.le_trans I.ok.bsz I.sz, I.stack, I.stkFree, I.hok, I.bare⟩
theorem Inv.after {Q : VK} {u : Value} (I : Inv X pins σ H s) (h : CE X.stack X.prog X.w H s Q u s') : EP X pins σ Q u s' := by
  obtain ⟨v, H', os, bare, un, hok, r, q⟩ := h
  obtain ⟨hh, g, d, t, os'⟩ := s'
  obtain rfl : os' = s.os := os
  exact ⟨v, H', I.call (h' := hh) (g' := g) (d' := d) (t' := t) (ch := []) un hok bare (fun b z => absurd z (by simp)), r, q⟩
end
def tCall (sp : Sp) (dvs : List V) (E : XK) (t : TA) : TE := fun σ H Q => t σ H fun vs H1 => sp (vs ++ dvs) H1 Q E
def Binds (K : PySem.W.Frag) (fd : FuncData) (ps : List Str) (ds : List Value) : Prop :=
  ∀ (s : Shared) (us : List Value), K.In s.heap → (us ++ ds).length = ps.length → BindsTo s fd ⟨us, []⟩ (ps.zip (us ++ ds))
theorem Binds.all {K : PySem.W.Frag} {fd : FuncData} {ps : List Str} (h : ∀ us : List Value, us.length = ps.length → bindArgs fd ⟨us, []⟩ = pure (ps.zip us)) : Binds K fd ps [] := fun s us _ hl => by
  rw [List.append_nil] at hl ⊢
  exact .of_eq (h us hl)
def Passes (CX : CXT) (X : Cx) (E : XK) : Prop := ∀ (pins : List (Addr × Obj)) (σ : St) (H : Hp) (s : Shared) (e : Value) (s' : Shared), Inv X pins σ H s → CX X.stack H s E e s' → X.xe e s'
section
variable {X : Cx} {CX : CXT} {k : Nat} {f C : Addr} {fd : FuncData} {ps : List Str} {sp : Sp} {dvs : List V} {ds : List Value} {E : XK} {x m : Str} {p pos apos : Pos} {e o : Expr} {es : List Expr} {ta : TE} {t : TA}
theorem run_fn {pins : List (Addr × Obj)} {σ : St} {H : Hp} {s : Shared} {Q : VK} {us : List Value} {vs : List V} (F : FnOk X.prog X.w X.K X.mg X.base CX k f fd ps sp) (hr : Room k X.A) (hb : Binds X.K fd ps ds) (hd : Vals dvs ds) (hx : Passes CX X E)
    (I : Inv X pins σ H s) (r : Vals vs us) (h : sp (vs ++ dvs) H Q E) : wpAny (model X.prog X.w) X.A (call (.ref f) us) (EP X pins σ Q) X.xe s := by
  have r2 : Vals (vs ++ dvs) (us ++ ds) := r.append hd
  have hl : (us ++ ds).length = ps.length := by rw [← r2.length]; exact F.len _ _ _ _ h
  refine wpAny_call (codeAny_mono (F.run X.A X.stack s H ⟨us, []⟩ (us ++ ds) (vs ++ dvs) Q E hr I.env0 (hb s us I.kIn hl) r2 h) fun r s' hq => ?_)
  cases r with
  | error e => exact hx pins σ H s e s' I hq
  | ok fl =>
    cases fl with
    | ret u => exact I.after hq
    | next => exact False.elim hq
    | brk => exact False.elim hq
    | cont => exact False.elim hq
theorem pe_call (F : FnOk X.prog X.w X.K X.mg X.base CX k f fd ps sp) (hr : Room k X.A) (hg : Gl X x) (hm : X.mg x = some (.ref f)) (hk : PySem.W.keepIn X.K (.ref f) = true) (hb : Binds X.K fd ps ds) (hd : Vals dvs ds) (hx : Passes CX X E)
    (ha : PA X (e :: es) t) (hdb : (x == ("__debug__" : Str)) = false := by decide) (he : starEach (e :: es) X.env = (false, eval e X.env) :: starEach es X.env := by rfl) (hpl : (backTo pos (starEach es X.env)).any (·.1) = false := by rfl) :
    PE X (.Call (.Name x p) (e :: es) [] pos) (tCall sp dvs E t) := by
  intro pins s σ H Q I h
  refine wpAny_Call_Name_kw (ld_glob I hg hm ?_ hdb)
  refine PySem.W.callWith_K (h₀ := X.base) I.ok.mod.kin hk (thn (ha pos pins s σ H _ I h) fun us s1 ⟨vs, H1, I1, r, q⟩ => ⟨I1.kIn, ?_⟩) he hpl
  exact run_fn F hr hb hd hx I1 r q
end
section
variable {X : Cx} {CX : CXT} {k : Nat} {f C : Addr} {fd : FuncData} {ps ks : List Str} {sp : Sp} {E : XK} {x m : Str} {p pos apos kpos : Pos} {e o : Expr} {es : List Expr} {kws : List Keyword} {te ta : TE} {t tk : TA} {nm : Option Str}
variable {g : List Value → List Value → List Value} {gV : List V → List V → List V}
end
structure FnScope (N P : List Str) (sc : Scope) : Prop where
  kind : sc.kind = .function
  co : sc.isCoroutine = false
  gen : sc.isGenerator = false
  nd : N.Nodup
  pre : N.take P.length = P
  par : ∀ x ∈ P, sc.names.lookup x = some .local ∨ sc.names.lookup x = some .cell
  nofree : ∀ y ∈ sc.names, y.2 ≠ .free
theorem bindL_out {kindOf : Str → Option NameKind} {x : Str} : ∀ {binds : List (Str × Value)} {m : Str → Option Value}, (∀ v, (x, v) ∉ binds) → bindL kindOf binds m x = m x
  | [], _, _ => rfl
  | (n, v) :: r, m, h => by
    unfold bindL
    rw [bindL_out fun w hw => h w (List.mem_cons_of_mem _ hw)]
    split
    · have : x ≠ n := by rintro rfl; exact h v List.mem_cons_self
      simp [this]
    · rfl
theorem bindC_out {kindOf : Str → Option NameKind} {x : Str} : ∀ {binds : List (Str × Value)} {m : Str → Option Value}, (∀ v, (x, v) ∉ binds) → bindC kindOf binds m x = m x
  | [], _, _ => rfl
  | (n, v) :: r, m, h => by
    unfold bindC
    rw [bindC_out fun w hw => h w (List.mem_cons_of_mem _ hw)]
    split
    · rfl
    · have : x ≠ n := by rintro rfl; exact h v List.mem_cons_self
      simp [this]
theorem bindL_get {kindOf : Str → Option NameKind} {x : Str} {v : Value} : ∀ {P : List Str} {vs : List Value} {i : Nat} {m : Str → Option Value}, P.Nodup → P[i]? = some x → vs[i]? = some v → kindOf x = some .local →
    bindL kindOf (P.zip vs) m x = some v
  | [], _, _, _, _, h, _, _ => by simp at h
  | _ :: _, [], _, _, _, _, h, _ => by simp at h
  | p :: P, w :: vs, 0, m, nd, h1, h2, hk => by
    simp at h1 h2; subst h1; subst h2
    show bindL kindOf ((p, w) :: P.zip vs) m p = _
    unfold bindL
    rw [bindL_out fun v hv => (List.nodup_cons.mp nd).1 (List.of_mem_zip hv).1, if_pos hk]
    simp
  | p :: P, w :: vs, i + 1, m, nd, h1, h2, hk => by
    show bindL kindOf ((p, w) :: P.zip vs) m x = _
    unfold bindL
    exact bindL_get (i := i) (List.nodup_cons.mp nd).2 (by simpa using h1) (by simpa using h2) hk
theorem bindC_get {kindOf : Str → Option NameKind} {x : Str} {v : Value} : ∀ {P : List Str} {vs : List Value} {i : Nat} {m : Str → Option Value}, P.Nodup → P[i]? = some x → vs[i]? = some v → kindOf x ≠ some .local →
    bindC kindOf (P.zip vs) m x = some v
  | [], _, _, _, _, h, _, _ => by simp at h
  | _ :: _, [], _, _, _, _, h, _ => by simp at h
  | p :: P, w :: vs, 0, m, nd, h1, h2, hk => by
    simp at h1 h2; subst h1; subst h2
    show bindC kindOf ((p, w) :: P.zip vs) m p = _
    unfold bindC
    rw [bindC_out fun v hv => (List.nodup_cons.mp nd).1 (List.of_mem_zip hv).1, if_neg hk]
    simp
  | p :: P, w :: vs, i + 1, m, nd, h1, h2, hk => by
    show bindC kindOf ((p, w) :: P.zip vs) m x = _
    unfold bindC
    exact bindC_get (i := i) (List.nodup_cons.mp nd).2 (by simpa using h1) (by simpa using h2) hk
def start (N : List Str) (vs : List V) : St := vs.map some ++ List.replicate (N.length - vs.length) none
def cxOf (CX : CXT) (P : Program) (w : World) (K : PySem.W.Frag) (mg : Str → Option Value) (base : Heap) (N : List Str) (qual : Str) (scope : Scope) (f : Addr) (cd : Value) (A : Around) (outer : List Env) (s : Shared) (H : Hp) (E : XK) : Cx where
  prog := P
  w := w
  K := K
  mg := mg
  base := base
  A := A.deeper (envOfC qual scope s.heap.objs.size f cd)
  N := N
  s₀ := s
  H₀ := H
  env := envOfC qual scope s.heap.objs.size f cd
  outer := outer
  stack := envOfC qual scope s.heap.objs.size f cd :: outer
  ex := []
  calm := true
  fn := fun _ => true
  pn := []
  xe := fun e s' => wpAny (model P w) (A.deeper (envOfC qual scope s.heap.objs.size f cd)) (leaving (envOfC qual scope s.heap.objs.size f cd) e) (fun _ s'' => CX outer H s E e s'') (fun e' s'' => CX outer H s E e' s'') s'
theorem cell_has {sc : Scope} {n : Nat} {x : Str} (h : sc.names.lookup x = some .cell) : ∃ c, (cellsFrom n sc.names []).lookup x = some c := by
  have q := PySem.W.cellsFrom_some sc.names n [] (.inl h)
  exact Option.isSome_iff_exists.mp q
theorem inv_start {CX : CXT} {P : Program} {w : World} {K : PySem.W.Frag} {mg : Str → Option Value} {base : Heap} {N ps : List Str} {qual : Str} {scope : Scope} {f : Addr} {cd : Value} {A : Around} {outer : List Env} {s s1 : Shared} {H : Hp} {E : XK} {us : List Value} {vs : List V}
    (S : FnScope N ps scope) (hd : A.handled = none) (e0 : Env0 P w K mg base A outer s H) (hl : vs.length = ps.length) (r : Vals vs us)
    (x : InCallC s s.heap.objs.size (bindL (envOfC qual scope s.heap.objs.size f cd).kindOf (ps.zip us) fun _ => none) (cellsFrom (s.heap.objs.size + 1) scope.names []) (bindC (envOfC qual scope s.heap.objs.size f cd).kindOf (ps.zip us) fun _ => none) s1) :
    Inv (cxOf CX P w K mg base N qual scope f cd A outer s H E) [] (start N vs) H s1 := by
  have hpl : ps.length ≤ N.length := by have := congrArg List.length S.pre; rw [List.length_take] at this; omega
  obtain ⟨h1, tk, rfl, hk⟩ := x.done
  have noA : ∀ b : Addr, b ∉ (cxOf CX P w K mg base N qual scope f cd A outer s H E).ex := fun b z => absurd (show b ∈ ([] : List Addr) from z) (by simp)
  refine ⟨⟨e0.mod, S.kind, rfl, rfl, Nat.le_refl _, fun y z c h1 h2 => ?_, fun y hy => ?_, fun y c _ h => ?_, fun _ => hd, Around.frames_deeper e0.frames, .inr ⟨rfl, rfl⟩, fun b z => absurd z (noA b), e0.bs, e0.bsz, fun b _ _ => noA b, fun b z => absurd z (noA b), e0.funs, e0.frf⟩,
    rfl, e0.bare, Un.kept hk, ⟨_, x.toInCall.ns, fun i y v h1 h2 h3 => ?_⟩, fun y c h => ⟨_, x.cell y c h⟩, e0.hok.fresh (Nat.le_refl _), fun y c h => ?_, fun p hp => absurd (show p ∈ ([] : List (Addr × Obj)) from hp) (by simp), e0.hok.kept hk, ?_⟩
  · exact name_of_addr x.apart (PySem.mem_of_lookup h1) (PySem.mem_of_lookup h2)
  · have hy : scope.names.lookup y = some .cell ∨ scope.names.lookup y = some .free := hy
    rcases hy with hy | hy
    · exact cell_has hy
    · exact absurd rfl (S.nofree _ (PySem.mem_of_lookup hy))
  · exact Nat.le_of_lt (x.above y c (PySem.mem_of_lookup h))
  · have hi : i < vs.length := by
      unfold start at h2
      by_cases hi : i < vs.length
      · exact hi
      · rw [List.getElem?_append_right (by simpa using hi)] at h2
        rw [List.getElem?_replicate] at h2
        split at h2 <;> cases h2
    have ha : vs[i]? = some v := by
      unfold start at h2
      rw [List.getElem?_append_left (by simpa using hi), List.getElem?_map] at h2
      cases e : vs[i]? with
      | none => rw [e] at h2; cases h2
      | some a => rw [e] at h2; cases h2; rfl
    obtain ⟨u, hu, rv⟩ := r.get ha
    have hp : ps[i]? = some y := by
      rw [← S.pre, List.getElem?_take_of_lt (by omega)]; exact h1
    have ndP : ps.Nodup := by rw [← S.pre]; exact S.nd.sublist (List.take_sublist _ _)
    refine ⟨u, rv, ?_⟩
    rcases S.par y (List.mem_of_getElem? hp) with k | k
    · exact .inl ⟨k, bindL_get ndP hp hu k⟩
    · obtain ⟨c, e⟩ := cell_has (n := s.heap.objs.size + 1) k
      refine .inr ⟨.inl k, c, e, ?_⟩
      have q := x.cell y c e
      rw [bindC_get ndP hp hu (by show scope.names.lookup y ≠ _; rw [k]; decide)] at q
      exact q
  · exact e0.hok.fresh (Nat.le_of_lt (x.above y c (PySem.mem_of_lookup h)))
  · unfold start
    show _ = N.length
    rw [List.length_append, List.length_map, List.length_replicate]
    omega
theorem fn_of {CX : CXT} {P : Program} {w : World} {K : PySem.W.Frag} {mg : Str → Option Value} {base : Heap} {k : Nat} {f : Addr} {name qual : Str} {params : Arguments} {body : List Stmt} {scope : Scope} {dV kV doc pm cdv ct oc : Value} {an od : Option Addr}
    {osl : Array (Option Value)} {N ps : List Str} {sp : Sp} (lk : K.lookup f = some ⟨oc, od, .func (PySem.W.fnOf name qual params body scope dV kV doc pm an cdv ct), osl⟩) (hcd : PySem.W.codeIn K cdv qual = true) (S : FnScope N ps scope)
    (len : ∀ vs H Q E, sp vs H Q E → vs.length = ps.length)
    (hbody : ∀ (A : Around) (outer : List Env) (s : Shared) (H : Hp) (vs : List V) (Q : VK) (E : XK), Room k (A.deeper (envOfC qual scope s.heap.objs.size f cdv)) → sp vs H Q E →
      ∃ t, PSs (cxOf CX P w K mg base N qual scope f cdv A outer s H E) body t ∧ t { nx := fun _ H' => Q .non H', rt := Q } (start N vs) H) :
    FnOk P w K mg base CX (k + 1) f (PySem.W.fnOf name qual params body scope dV kV doc pm an cdv ct) ps sp := by
  refine ⟨len, fun A outer s H args us vs Q E hr e0 hb r hsp => ?_⟩
  have hl := len _ _ _ _ hsp
  have KX : K.In s.heap := e0.mod.kin.keeps fun b o e => (e0.bs b o e).1
  have lim : s.heap.NoLimit := e0.mod.nolimit.keeps fun b o e => (e0.bs b o e).1
  have hkind : ∀ y ∈ ps.zip us, scope.names.lookup y.1 = some .local ∨ (scope.names.lookup y.1 = some .cell ∧ ((cellsFrom (s.heap.objs.size + 1) scope.names []).lookup y.1).isSome = true) := fun ⟨n, v⟩ hy => by
    rcases S.par n (List.of_mem_zip hy).1 with q | q
    · exact .inl q
    · exact .inr ⟨q, PySem.W.cellsFrom_some _ _ _ (.inl q)⟩
  refine codeAny_call_function hr.depth (KX _ _ lk) rfl S.co S.gen rfl (PySem.W.codeRec_of KX hcd) (hb _ _ _ _ ?_)
  refine wpAny_newFunctionEnv_cells S.kind hkind fun env he s1 x => ?_
  subst he
  refine ⟨lim.keeps x.toInCall.keep, codeAny_func ?_⟩
  obtain ⟨t, ht, hq⟩ := hbody A outer s H vs Q E (hr.deeper _) hsp
  have I : Inv (cxOf CX P w K mg base N qual scope f cdv A outer s H E) [] (start N vs) H s1 := inv_start S hr.hd e0 hl r x
  refine wpAny_mono (ht [] s1 (start N vs) H _ I hq) (fun fl s' hs => ?_) fun e s' hs => hs
  have fin : ∀ {σ' : St} {H' : Hp} {v : V} {u : Value}, Inv (cxOf CX P w K mg base N qual scope f cdv A outer s H E) [] σ' H' s' → RelV v u → Q v H' → CE outer P w H s Q u s' :=
    fun {σ' H' v u} J rv q => ⟨v, H', J.os, J.bare, J.base, J.hok, rv, q⟩
  cases fl with
  | ret u =>
    obtain ⟨v, σ', H', J, rv, q⟩ := hs
    exact fin J rv q
  | next =>
    obtain ⟨σ', H', J, q⟩ := hs
    exact fin (v := V.non) (u := Value.none) J rfl q
  | brk =>
    obtain ⟨_, _, _, q⟩ := hs
    exact False.elim q
  | cont =>
    obtain ⟨_, _, _, q⟩ := hs
    exact False.elim q
end L2
namespace L2
open PySem PySem.Spec PyProof.Rows
section
variable {X : Cx} {x : Str} {p pos : Pos} {e : Expr} {es : List Expr} {t : TA} {id T : String} {r : List V → Hp → VK → Prop}
def tCB (r : List V → Hp → VK → Prop) (t : TA) : TE := fun σ H Q => t σ H fun vs H1 => r vs H1 Q
theorem pe_callB (hc : CallR X (.builtin id) r) (hg : Gl X x) (hm : X.mg x = none) (hv : bootBuiltins x = some (.builtin id)) (ha : PA X (e :: es) t) (hn : x ≠ "__name__" := by decide) (hdb : (x == ("__debug__" : Str)) = false := by decide)
    (he : starEach (e :: es) X.env = (false, eval e X.env) :: starEach es X.env := by rfl) (hpl : (backTo pos (starEach es X.env)).any (·.1) = false := by rfl) : PE X (.Call (.Name x p) (e :: es) [] pos) (tCB r t) := by
  intro pins s σ H Q I h
  refine wpAny_Call_Name_kw (ld_blt I hg hm hv ?_ hn hdb)
  exact PyProof.Rows.callWith_builtin1 (thn (ha pos pins s σ H _ I h) fun us s1 ⟨vs, H1, I1, r1, q1⟩ => hc pins s1 σ H1 vs us Q I1 r1 q1) he hpl
theorem pe_callTy (hc : CallR X (.type T) r) (hg : Gl X x) (hm : X.mg x = none) (hv : bootBuiltins x = some (.type T)) (ha : PA X (e :: es) t) (hn : x ≠ "__name__" := by decide) (hdb : (x == ("__debug__" : Str)) = false := by decide)
    (he : starEach (e :: es) X.env = (false, eval e X.env) :: starEach es X.env := by rfl) (hpl : (backTo pos (starEach es X.env)).any (·.1) = false := by rfl) : PE X (.Call (.Name x p) (e :: es) [] pos) (tCB r t) := by
  intro pins s σ H Q I h
  refine wpAny_Call_Name_kw (ld_blt I hg hm hv ?_ hn hdb)
  exact PyProof.Rows.callWith_type1 (thn (ha pos pins s σ H _ I h) fun us s1 ⟨vs, H1, I1, r1, q1⟩ => hc pins s1 σ H1 vs us Q I1 r1 q1) he hpl
end
end L2
namespace HT
open PySem PyProof.Rows
section
open PySem.SeqAt
open PySem.AutoSeq1 (wpAny_loadPart')
open PySem.MeetsSeq PySem.MeetsSeq2 PySem.MeetsSeq3
end
section
variable {prog : Program} {w : World} {A : Around} {E : Value → Shared → Prop} {s : Shared}
def sIx (n d : Nat) : Option Int → Nat
  | none => d
  | some v => if v < 0 then (v + (n : Int)).toNat else min v.toNat n
theorem sIx_none (n d : Nat) : sIx n d none = d := rfl
theorem sIx_nat (n d k : Nat) : sIx n d (some (k : Int)) = min k n := by
  show (if (k : Int) < 0 then ((k : Int) + (n : Int)).toNat else min (k : Int).toNat n) = min k n
  rw [if_neg (by omega), Int.toNat_natCast]
end
end HT
namespace L2
open PySem PySem.Spec PyProof.Rows
abbrev TO := St → Hp → (Option Int → Hp → Prop) → Prop
def PO (X : Cx) (e : Option Expr) (t : TO) : Prop :=
  ∀ (pins : List (Addr × Obj)) (s : Shared) (σ : St) (H : Hp) (Q : Option Int → Hp → Prop), Inv X pins σ H s → t σ H Q →
    wpAny (model X.prog X.w) X.A (evalPart e X.env) (fun u s' => ∃ o H', Inv X pins σ H' s' ∧ IsPart u o ∧ Q o H') X.xe s
def tNoPart : TO := fun _ H Q => Q none H
def tPart (t : TE) : TO := fun σ H Q => t σ H fun x H1 => ∃ i, x = .int i ∧ Q (some i) H1
section
variable {X : Cx} {e : Expr} {te : TE} {lo hi : Option Expr} {tl th : TO} {pos p2 : Pos}
theorem po_none : PO X none tNoPart := by
  intro pins s σ H Q I h
  rw [evalPart_none]
  exact wpAny_pure ⟨none, H, I, .none, h⟩
theorem po_some (h : PE X e te) : PO X (some e) (tPart te) := by
  intro pins s σ H Q I hw
  rw [evalPart_some]
  refine thn (h pins s σ H _ I hw) fun u s1 ⟨x, H1, I1, r1, q1⟩ => ?_
  obtain ⟨i, rfl, q⟩ := q1
  obtain ⟨t, rfl⟩ := r1
  exact ⟨some i, H1, I1, .int i t, q⟩
def SlR (X : Cx) (r : V → Option Int → Option Int → Hp → VK → Prop) : Prop :=
  ∀ (pins : List (Addr × Obj)) (s : Shared) (σ : St) (H : Hp) (x : V) (v vl vu : Value) (lo hi : Option Int) (sl : Addr) (Q : VK), Inv X pins σ H s → RelV x v → s.heap.IsSliceOf sl vl vu .none → IsPart vl lo → IsPart vu hi → r x lo hi H Q →
    ∃ T id, typeLookup (.type T) "__getitem__" = pure (some (.builtin id)) ∧ s.TypeIs v T ∧ wpAny (model X.prog X.w) X.A (getItem v (.ref sl)) (EP X pins σ Q) X.xe s
def tSl (r : V → Option Int → Option Int → Hp → VK → Prop) (te : TE) (tl th : TO) : TE := fun σ H Q => te σ H fun x H1 => tl σ H1 fun l H2 => th σ H2 fun u H3 => r x l u H3 Q
theorem pe_slice {r : V → Option Int → Option Int → Hp → VK → Prop} (hr : SlR X r) (he : PE X e te) (hl : PO X lo tl) (hu : PO X hi th) : PE X (.Subscript e (.Slice lo hi none p2) pos) (tSl r te tl th) := by
  intro pins s σ H Q I h
  refine Subscript_ (thn (he pins s σ H _ I h) fun v s1 ⟨x, H1, I1, r1, q1⟩ => ?_)
  refine wpAny_Slice (thn (hl pins s1 σ H1 _ I1 q1) fun vl s2 ⟨l, H2, I2, pl, q2⟩ => thn (hu pins s2 σ H2 _ I2 q2) fun vu s3 ⟨u, H3, I3, pu, q3⟩ => ?_)
  rw [evalPart_none]
  refine wpAny_pure ?_
  have I4 : Inv X pins σ H3 { s3 with heap := s3.heap.push { cls := .type "slice", data := .fields #[vl, vu, .none] } } := I3.kept (t' := s3.toks) fun b ob q => Heap.get?_push_of_some _ q
  obtain ⟨T, id, hT, ht, hg⟩ := hr pins { s3 with heap := s3.heap.push { cls := .type "slice", data := .fields #[vl, vu, .none] } } σ H3 x v vl vu l u s3.heap.objs.size Q I4 r1 (Heap.IsSliceOf.new ..) pl pu q3
  show wpAny (model X.prog X.w) X.A (subscriptTail e (.Slice lo hi none p2) v (.ref s3.heap.objs.size)) (EP X pins σ Q) X.xe { s3 with heap := s3.heap.push { cls := .type "slice", data := .fields #[vl, vu, .none] } }
  exact tail_any (ops := [.ref s3.heap.objs.size, v]) ht hT hg (by with_unfolding_all rfl)
def cutV (xs : List V) (lo hi : Option Int) : List V := (xs.drop (HT.sIx xs.length 0 lo)).take (HT.sIx xs.length xs.length hi - HT.sIx xs.length 0 lo)
theorem cutV_length (xs : List V) (lo hi : Option Int) : (cutV xs lo hi).length ≤ xs.length := by
  unfold cutV
  rw [List.length_take, List.length_drop]
  omega
end
end L2
namespace L2
open PySem PySem.Spec PyProof.Rows
def ixN (n : Nat) (i : Int) : Option Nat := if 0 ≤ i then (if i < n then some i.toNat else none) else if -(n : Int) ≤ i then some (i + n).toNat else none
def atI {α : Type} (xs : List α) (i : Int) : Option α := (ixN xs.length i).bind fun j => xs[j]?
theorem ixN_seq {n : Nat} {i : Int} {j : Nat} (h : ixN n i = some j) : seqIndex? i n = some j ∧ j < n ∧ -(n : Int) ≤ i ∧ i < n := by
  unfold ixN at h
  by_cases h0 : 0 ≤ i
  · rw [if_pos h0] at h
    by_cases h1 : i < n
    · rw [if_pos h1] at h
      have e : i.toNat = j := Option.some.inj h
      exact ⟨by rw [seqIndex_of h0 h1, e], by omega, by omega, h1⟩
    · rw [if_neg h1] at h; cases h
  · rw [if_neg h0] at h
    by_cases h1 : -(n : Int) ≤ i
    · rw [if_pos h1] at h
      have e : (i + n).toNat = j := Option.some.inj h
      exact ⟨by rw [seqIndex_neg (by omega) h1, e], by omega, h1, by omega⟩
    · rw [if_neg h1] at h; cases h
theorem atI_get {α : Type} {xs : List α} {i : Int} {v : α} (h : atI xs i = some v) : ∃ j, seqIndex? i xs.length = some j ∧ xs[j]? = some v ∧ j < xs.length ∧ -(xs.length : Int) ≤ i ∧ i < xs.length := by
  unfold atI at h
  cases e : ixN xs.length i with
  | none => rw [e] at h; cases h
  | some j =>
    rw [e] at h
    obtain ⟨h1, h2, h3, h4⟩ := ixN_seq e
    exact ⟨j, h1, h, h2, h3, h4⟩
theorem atI_nat {α : Type} {xs : List α} {j : Nat} {v : α} (h : xs[j]? = some v) : atI xs (j : Int) = some v := by
  have hj : j < xs.length := (List.getElem?_eq_some_iff.mp h).1
  have e : ixN xs.length (j : Int) = some j := by
    unfold ixN
    rw [if_pos (by omega), if_pos (by omega)]; simp
  unfold atI; rw [e]; exact h
def PlainIx (b : Expr) : Prop := ∀ o i, subscripted b false o i = operate [o, i] (getItem o i)
def IxR (X : Cx) (r : R2) : Prop :=
  ∀ (value slice : Expr) (pins : List (Addr × Obj)) (s : Shared) (σ : St) (H : Hp) (x y : V) (v u : Value) (Q : VK), Inv X pins σ H s → RelV x v → RelV y u → r x y H Q →
    subscripted slice false v u = operate [v, u] (getItem v u) → wpAny (model X.prog X.w) X.A (subscriptTail value slice v u) (EP X pins σ Q) X.xe s
def MtR (X : Cx) (id : String) (r : V → List V → Hp → VK → Prop) : Prop :=
  ∀ (pins : List (Addr × Obj)) (s : Shared) (σ : St) (H : Hp) (x : V) (xs : List V) (v : Value) (us : List Value) (Q : VK), Inv X pins σ H s → RelV x v → Vals xs us → r x xs H Q →
    wpAny (model X.prog X.w) X.A (call (.builtin id) (v :: us)) (EP X pins σ Q) X.xe s
section
variable {X : Cx} {a b : Expr} {ta tb : TE} {pos : Pos}
theorem pe_ix {r : R2} (hr : IxR X r) (ha : PE X a ta) (hb : PE X b tb) (hs : PlainIx b) : PE X (.Subscript a b pos) (tOp r ta tb) := by
  intro pins s σ H Q I h
  exact Subscript_ (binT ha hb I h fun v u s2 x y H2 I2 rx ry q => hr a b pins s2 σ H2 x y v u Q I2 rx ry q (hs _ _))
def rIxL (K : PySem.W.Frag) : R2 := fun x y H Q => ∃ p xs i v, x = .ref p ∧ y = .int i ∧ SqL K H p xs ∧ atI xs i = some v ∧ Q v H
def rIxT (K : PySem.W.Frag) : R2 := fun x y H Q => ∃ p xs i v, x = .ref p ∧ y = .int i ∧ SqT K H p xs ∧ atI xs i = some v ∧ Q v H
theorem ix_list : IxR X (rIxL X.K) := by
  intro value slice pins s σ H x y v u Q I rx ry h hs
  obtain ⟨p, xs, i, z, rfl, rfl, hq, he, q⟩ := h
  cases rx
  obtain ⟨t, rfl⟩ := ry
  obtain ⟨its, r, pl, hz⟩ := I.list hq
  obtain ⟨j, h1, h2, h3, h4, h5⟩ := atI_get he
  obtain ⟨w, ew, rw'⟩ := r.get h2
  have hl := r.length
  have hn := line63
  have fin : EP X pins σ Q w s := ⟨z, H, I, rw', q⟩
  by_cases h0 : 0 ≤ i
  · have hj : i.toNat = j := by
      rw [seqIndex_of h0 h5] at h1
      exact Option.some.inj h1
    exact item_listR pl.isList h0 (by omega) (by rw [hj]; simpa using ew) fin hs
  · have hj : (i + (its.toArray.size : Int)).toNat = j := by
      rw [seqIndex_neg (by omega) h4] at h1
      rw [List.size_toArray, ← hl]
      exact Option.some.inj h1
    exact subscriptTail_builtinR (x := w) pl.isList.typeIs slot_list_getitem.lookup
      (wpAny_getItem_list_neg (Q := fun r s' => r = w ∧ EP X pins σ Q r s') pl.isList (by omega) (by rw [List.size_toArray] <;> omega) (by omega) (by rw [hj]; simpa using ew) ⟨rfl, fin⟩) hs
theorem ix_tup : IxR X (rIxT X.K) := by
  intro value slice pins s σ H x y v u Q I rx ry h hs
  obtain ⟨p, xs, i, z, rfl, rfl, hq, he, q⟩ := h
  cases rx
  obtain ⟨t, rfl⟩ := ry
  obtain ⟨its, r, pl, hz⟩ := I.tuple hq
  obtain ⟨j, h1, h2, h3, h4, h5⟩ := atI_get he
  obtain ⟨w, ew, rw'⟩ := r.get h2
  have hl := r.length
  have hn := line63
  have fin : EP X pins σ Q w s := ⟨z, H, I, rw', q⟩
  exact subscriptTail_builtinR (x := w) pl.typeIs slot_tuple_getitem.lookup
    (getItem_tuple (j := j) (Q := fun r s' => r = w ∧ EP X pins σ Q r s') pl (by omega) (by omega) (by rw [List.size_toArray, ← hl]; exact h1) (by simpa using ew) ⟨rfl, fin⟩) hs
theorem mapSeq_set (its : List Value) (n j : Nat) (u : Value) : Obj.mapSeq (·.setIfInBounds j u) { cls := .type "list", data := .seq its.toArray n } = { cls := .type "list", data := .seq (its.set j u).toArray n } := by
  simp [Obj.mapSeq]
theorem Inv.lst {pins : List (Addr × Obj)} {σ : St} {H : Hp} {s : Shared} {p : Addr} {xs : List V} (I : Inv X pins σ H s) (h : H p = some (.lst xs)) :
    ∃ (its : List Value) (n : Nat), Vals xs its ∧ s.heap.get? p = some { cls := .type "list", data := .seq its.toArray n } ∧ xs.length ≤ sizeLine := by
  obtain ⟨z, its, n, r, e⟩ := I.hok p _ h
  exact ⟨its, n, r, e, z⟩
theorem Inv.lstUpd {pins : List (Addr × Obj)} {σ : St} {H : Hp} {s : Shared} {p : Addr} {xs ys : List V} {its its' : List Value} {n n' : Nat} {f : Obj → Obj} (I : Inv X pins σ H s) (h : H p = some (.lst xs))
    (ho : s.heap.get? p = some { cls := .type "list", data := .seq its.toArray n }) (hf : f { cls := .type "list", data := .seq its.toArray n } = { cls := .type "list", data := .seq its'.toArray n' }) (r : Vals ys its') (hz : ys.length ≤ sizeLine) (t : Nat) :
    Inv X pins σ (upd H p (.lst ys)) { s with heap := s.heap.update p f, toks := t } := by
  have e : (s.heap.update p f).get? p = some { cls := .type "list", data := .seq its'.toArray n' } := by
    rw [Heap.get?_update_self f ho (by rw [hf] <;> rfl), hf]
  refine I.write (x := p) (e := p) (by rw [h]; trivial) (.inl rfl) (fun b u hb q => (Heap.get?_update_other _ _ (Ne.symm hb)).trans q) ⟨_, e⟩ ?_
  exact ⟨hz, its', n', r, e⟩
def rSetL : V → V → V → Hp → (Hp → Prop) → Prop := fun o i v H Q => ∃ p xs k j, o = .ref p ∧ i = .int k ∧ H p = some (.lst xs) ∧ ixN xs.length k = some j ∧ Q (upd H p (.lst (xs.set j v)))
theorem set_list : PSet X rSetL := by
  intro pins s σ H o i v ov iv u Q I ro ri rv h
  obtain ⟨p, xs, k, j, rfl, rfl, hp, hj, q⟩ := h
  cases ro
  obtain ⟨t, rfl⟩ := ri
  obtain ⟨its, n, r, ho, hz⟩ := I.lst hp
  obtain ⟨h1, h2, h3, h4⟩ := ixN_seq hj
  have hl := r.length
  have hn := line63
  have I' : Inv X pins σ (upd H p (.lst (xs.set j v))) { s with heap := s.heap.update p (Obj.mapSeq (·.setIfInBounds j u)) } :=
    I.lstUpd hp ho (mapSeq_set its n j u) (r.set rv j) (by rw [List.length_set]; exact hz) s.toks
  by_cases h0 : 0 ≤ k
  · have hk : k.toNat = j := by
      rw [seqIndex_of h0 h4] at h1
      exact Option.some.inj h1
    exact PySem.W.ki_setAt ho h0 (by omega) (by rw [List.size_toArray, ← hl]; exact h4) (by rw [hk]; exact ⟨_, I', q⟩)
  · have hk : (k + (its.toArray.size : Int)).toNat = j := by
      rw [seqIndex_neg (by omega) h3] at h1
      rw [List.size_toArray, ← hl]
      exact Option.some.inj h1
    exact PySem.W.ki_setBack ho (by omega) (by rw [List.size_toArray, ← hl]; exact h3) (by omega) (by rw [hk]; exact ⟨_, I', q⟩)
theorem slice_bounds (lo hi : Option Int) (n : Nat) : (sliceBounds lo hi none n).1 = ((HT.sIx n 0 lo : Nat) : Int) ∧ (sliceBounds lo hi none n).2.1 = ((HT.sIx n n hi : Nat) : Int) ∧ (sliceBounds lo hi none n).2.2 = 1 := by
  refine ⟨?_, ?_, rfl⟩
  · cases lo with
    | none => simp [sliceBounds, HT.sIx]
    | some i =>
      simp only [sliceBounds, HT.sIx, Option.getD_none, show (1 : Int) > 0 by decide, if_true]
      by_cases h : i < 0
      · simp only [h, if_true] <;> omega
      · simp only [h, if_false] <;> omega
  · cases hi with
    | none => simp [sliceBounds, HT.sIx]
    | some i =>
      simp only [sliceBounds, HT.sIx, Option.getD_none, show (1 : Int) > 0 by decide, if_true]
      by_cases h : i < 0
      · simp only [h, if_true] <;> omega
      · simp only [h, if_false] <;> omega
theorem slicePick_cut (its : List Value) (lo hi : Option Int) : slicePick its.toArray lo hi none = ((its.drop (HT.sIx its.length 0 lo)).take (HT.sIx its.length its.length hi - HT.sIx its.length 0 lo)).toArray := by
  obtain ⟨h1, h2, h3⟩ := slice_bounds lo hi its.toArray.size
  unfold slicePick
  rw [h1, h2, h3]
  simp only [sliceRange_one, pick_run, List.size_toArray] <;> rfl
def rSlL (K : PySem.W.Frag) : V → Option Int → Option Int → Hp → VK → Prop := fun x lo hi H Q => ∃ a xs, x = .ref a ∧ SqL K H a xs ∧ ∀ p, H p = none → Q (.ref p) (upd H p (.lst (cutV xs lo hi)))
theorem sl_list : SlR X (rSlL X.K) := by
  intro pins s σ H x v vl vu lo hi sl Q I rx hs pl pu h
  obtain ⟨a, xs, rfl, hx, q⟩ := h
  cases rx
  obtain ⟨its, r, ht, hz⟩ := I.list hx
  have hlen := r.length
  refine ⟨"list", _, slot_list_getitem.lookup, ht.isList.typeIs, ?_⟩
  refine wpAny_getItem_list_slice ht.isList hs pl pu .none (by simp) ?_ (by rw [List.size_toArray] <;> omega)
  rw [slicePick_cut, ← hlen]
  refine ⟨.ref s.heap.objs.size, _, I.laid (t' := s.toks) (o := .lst (cutV xs lo hi)) (fun b ob q => Heap.get?_push_of_some _ q) (Nat.le_refl _) ?_, rfl, q _ (I.hok.fresh (Nat.le_refl _))⟩
  exact ⟨Nat.le_trans (cutV_length xs lo hi) hz, _, 0, (r.drop (HT.sIx xs.length 0 lo)).take (HT.sIx xs.length xs.length hi - HT.sIx xs.length 0 lo), Heap.get?_push_size _ rfl⟩
def flatV : V → Bool
  | .non => true
  | .bl _ => true
  | .int _ => true
  | .str _ => true
  | _ => false
def eqV : V → V → Bool
  | .non, .non => true
  | .bl a, .bl b => a == b
  | .bl a, .int b => (if a then 1 else 0) == b
  | .int a, .bl b => a == (if b then 1 else 0)
  | .int a, .int b => a == b
  | .str a, .str b => a == b
  | _, _ => false
theorem eqAt_V {A : Around} {s : Shared} {y x : V} {u v : Value} (ry : RelV y u) (rx : RelV x v) (fy : flatV y = true) (fx : flatV x = true) : SeqAt.EqAt A s u v (eqV y x) := by
  cases y with
  | non =>
    cases ry
    cases x with
    | non => cases rx; exact SeqAt.EqAt.same _
    | bl b => cases rx; exact SeqAt.EqAt.none_bool b
    | int b => obtain ⟨t, rfl⟩ := rx; exact SeqAt.EqAt.none_int b t
    | str b => obtain ⟨t, rfl⟩ := rx; exact SeqAt.EqAt.none_str b t
    | _ => exact absurd (show false = true from fx) Bool.false_ne_true
  | bl a =>
    cases ry
    cases x with
    | non => cases rx; exact SeqAt.EqAt.bool_none a
    | bl b => cases rx; exact SeqAt.EqAt.bool_bool a b
    | int b => obtain ⟨t, rfl⟩ := rx; exact SeqAt.EqAt.bool_int a b t
    | str b => obtain ⟨t, rfl⟩ := rx; exact SeqAt.EqAt.bool_str a b t
    | _ => exact absurd (show false = true from fx) Bool.false_ne_true
  | int a =>
    obtain ⟨t', rfl⟩ := ry
    cases x with
    | non => cases rx; exact SeqAt.EqAt.int_none a t'
    | bl b => cases rx; exact SeqAt.EqAt.int_bool a t' b
    | int b => obtain ⟨t, rfl⟩ := rx; exact SeqAt.EqAt.int_int a t' b t
    | str b => obtain ⟨t, rfl⟩ := rx; exact SeqAt.EqAt.int_str a t' b t
    | _ => exact absurd (show false = true from fx) Bool.false_ne_true
  | str a =>
    obtain ⟨t', rfl⟩ := ry
    cases x with
    | non => cases rx; exact SeqAt.EqAt.str_none a t'
    | bl b => cases rx; exact SeqAt.EqAt.str_bool a t' b
    | int b => obtain ⟨t, rfl⟩ := rx; exact SeqAt.EqAt.str_int a t' b t
    | str b => obtain ⟨t, rfl⟩ := rx; exact SeqAt.EqAt.str_str a t' b t
    | _ => exact absurd (show false = true from fx) Bool.false_ne_true
  | _ => exact absurd (show false = true from fy) Bool.false_ne_true
def eqU (x : V) (u : Value) : Bool := match u with
  | .none => eqV .non x
  | .bool b => eqV (.bl b) x
  | .int i _ => eqV (.int i) x
  | .str z _ => eqV (.str z) x
  | _ => false
theorem eqU_of {x y : V} {u : Value} (r : RelV y u) (f : flatV y = true) : eqU x u = eqV y x := by
  cases y with
  | non => cases r; rfl
  | bl b => cases r; rfl
  | int i => obtain ⟨t, rfl⟩ := r; rfl
  | str z => obtain ⟨t, rfl⟩ := r; rfl
  | _ => exact absurd (show false = true from f) Bool.false_ne_true
theorem any_eqU {x : V} : ∀ {xs : List V} {us : List Value}, Vals xs us → xs.all flatV = true → us.any (eqU x) = xs.any fun y => eqV y x
  | _, _, .nil, _ => rfl
  | y :: xs, u :: us, .cons r t, f => by
    rw [List.all_cons, Bool.and_eq_true] at f
    rw [List.any_cons, List.any_cons, eqU_of r f.1, any_eqU t f.2]
theorem mem_eqAt {A : Around} {s : Shared} {x : V} {v : Value} (rx : RelV x v) (fx : flatV x = true) : ∀ {xs : List V} {us : List Value}, Vals xs us → xs.all flatV = true → ∀ u ∈ us, SeqAt.EqAt A s u v (eqU x u)
  | _, _, .nil, _ => fun u hu => by cases hu
  | y :: xs, u :: us, .cons r t, f => fun u' hu => by
    rw [List.all_cons, Bool.and_eq_true] at f
    rcases List.mem_cons.mp hu with rfl | hu
    · rw [eqU_of r f.1]; exact eqAt_V r rx f.1 fx
    · exact mem_eqAt rx fx t f.2 u' hu
def inV (x : V) (xs : List V) : Bool := xs.any fun y => eqV y x
def rIn (K : PySem.W.Frag) (neg : Bool) : R2 := fun x y H Q => ∃ p xs, y = .ref p ∧ (SqL K H p xs ∨ SqT K H p xs) ∧ flatV x = true ∧ xs.all flatV = true ∧ Q (.bl (if neg then !inV x xs else inV x xs)) H
theorem op_in_seq : OpR X (compareOp .In) (rIn X.K false) := by
  intro pins s σ H x y v u Q I rx ry h
  obtain ⟨p, xs, rfl, hq, fx, fs, q⟩ := h
  cases ry
  rcases hq with hq | hq
  · obtain ⟨its, r, pl, hz⟩ := I.list hq
    refine SeqAt.in_listAt (eqU x) pl.isList (fun w hw => mem_eqAt rx fx r fs w (by simpa using hw)) ⟨.bl _, H, I, rfl, ?_⟩
    rw [show its.toArray.any (eqU x) = its.any (eqU x) by simp, any_eqU r fs]
    exact q
  · obtain ⟨its, r, pl, hz⟩ := I.tuple hq
    refine SeqAt.in_tupleAt (eqU x) pl (fun w hw => mem_eqAt rx fx r fs w (by simpa using hw)) ⟨.bl _, H, I, rfl, ?_⟩
    rw [show its.toArray.any (eqU x) = its.any (eqU x) by simp, any_eqU r fs]
    exact q
theorem call_len_seq : CallR X (.builtin "len") (fun xs H Q => ∃ p ys, xs = [.ref p] ∧ (SqL X.K H p ys ∨ SqT X.K H p ys) ∧ Q (.int ys.length) H) := by
  intro pins s σ H xs us Q I r h
  obtain ⟨p, ys, rfl, hq, q⟩ := h
  obtain ⟨u, rfl, rx⟩ := vals1 r
  cases rx
  have hn := line63
  rcases hq with hq | hq
  · obtain ⟨its, r', pl, hz⟩ := I.list hq
    have hlen := r'.length
    exact Calls.call_len_list pl.isList (by simp only [List.size_toArray] <;> omega) ⟨.int ys.length, H, I.tok _, ⟨s.toks + 1, by rw [List.size_toArray, hlen]⟩, q⟩
  · obtain ⟨its, r', pl, hz⟩ := I.tuple hq
    have hlen := r'.length
    exact len_tuple pl (by simp only [List.size_toArray] <;> omega) ⟨.int ys.length, H, I.tok _, ⟨s.toks + 1, by rw [List.size_toArray, hlen]⟩, q⟩
theorem call_list_of : CallR X (.type "list") (fun xs H Q => ∃ p ys, xs = [.ref p] ∧ (SqL X.K H p ys ∨ SqT X.K H p ys) ∧ ∀ l, H l = none → Q (.ref l) (upd H l (.lst ys))) := by
  intro pins s σ H xs us Q I r h
  obtain ⟨p, ys, rfl, hq, q⟩ := h
  obtain ⟨u, rfl, rx⟩ := vals1 r
  cases rx
  have fin : ∀ (its : List Value), Vals ys its → ys.length ≤ sizeLine → ∀ (h' : Heap) (c' : Nat), (∀ b o', s.heap.get? b = some o' → h'.get? b = some o') →
      h'.get? s.heap.objs.size = some { cls := .type "list", dict := none, data := .seq its.toArray c', slots := #[] } → EP X pins σ Q (.ref s.heap.objs.size) { s with heap := h' } := fun its r' hz h' c' kp e =>
    ⟨.ref s.heap.objs.size, _, I.laid (t' := s.toks) kp (Nat.le_refl _) (show ObjOk X.prog X.w _ h' _ (.lst ys) from ⟨hz, its, c', r', e⟩), rfl, q _ (I.hok.fresh (Nat.le_refl _))⟩
  rcases hq with hq | hq
  · obtain ⟨its, r', pl, hz⟩ := I.list hq
    have hlen := r'.length
    obtain ⟨o, ho, hc, n, hd⟩ := pl.isList
    exact call_list_seq p (.inl rfl) ho hc hd (fun h' c' kp e => fin its r' hz h' c' kp e) (by simp only [List.size_toArray] <;> omega)
  · obtain ⟨its, r', pl, hz⟩ := I.tuple hq
    have hlen := r'.length
    obtain ⟨o, ho, hc, n, hd⟩ := pl
    exact call_list_seq p (.inr rfl) ho hc hd (fun h' c' kp e => fin its r' hz h' c' kp e) (by simp only [List.size_toArray] <;> omega)
theorem call_tuple_of : CallR X (.type "tuple") (fun xs H Q => ∃ p ys, xs = [.ref p] ∧ ((SqL X.K H p ys ∧ ∀ l, H l = none → Q (.ref l) (upd H l (.tup ys))) ∨ (SqT X.K H p ys ∧ Q (.ref p) H))) := by
  intro pins s σ H xs us Q I r h
  obtain ⟨p, ys, rfl, h⟩ := h
  obtain ⟨u, rfl, rx⟩ := vals1 r
  cases rx
  rcases h with ⟨hq, q⟩ | ⟨hq, q⟩
  · obtain ⟨its, r', pl, hz⟩ := I.list hq
    have hlen := r'.length
    refine call_tuple_list pl.isList (fun h' kp => ?_) (by simp only [List.size_toArray] <;> omega)
    have I1 : Inv X pins σ H { s with heap := h' } := I.kept (t' := s.toks) kp
    have I2 : Inv X pins σ (upd H h'.objs.size (.tup ys)) { s with heap := h'.push { cls := .type "tuple", data := .seq its.toArray } } :=
      I1.laid (t' := s.toks) (fun b o e => Heap.get?_push_of_some _ e) (Nat.le_refl _) (show ObjOk X.prog X.w _ _ _ (.tup ys) from ⟨hz, its, r', IsTup.new _ _⟩)
    exact ⟨.ref h'.objs.size, _, I2, rfl, q _ (I1.hok.fresh (Nat.le_refl _))⟩
  · obtain ⟨its, r', pl, hz⟩ := I.tuple hq
    exact call_tuple_same pl ⟨.ref p, H, I, rfl, q⟩
def tyV (K : PySem.W.Frag) (T : String) (x : V) (H : Hp) : Prop := match x with
  | .str _ => T = "str"
  | .int _ => T = "int"
  | .ref p => (T = "list" ∧ ∃ xs, SqL K H p xs) ∨ (T = "tuple" ∧ ∃ o, K.lookup p = some o ∧ o.cls = .type "tuple" ∧ o.dict = none) ∨
      (T = "dict" ∧ ((∃ kvs, H p = some (.dK kvs)) ∨ ∃ kvs, H p = some (.dT kvs))) ∨ (T = "set" ∧ ∃ S n, H p = some (.set S n))
  | _ => False
theorem tyV_is {pins : List (Addr × Obj)} {σ : St} {H : Hp} {s : Shared} {T : String} {x : V} {v : Value} (I : Inv X pins σ H s) (r : RelV x v) (ty : tyV X.K T x H) :
    s.TypeIs v T ∧ ∀ a, v = .ref a → ∃ ob, s.heap.get? a = some ob ∧ ob.dict = none := by
  cases x with
  | str z =>
    obtain ⟨t, rfl⟩ := r
    cases (show T = "str" from ty)
    exact ⟨typeIs_str s z t, fun _ e => nomatch e⟩
  | int i =>
    obtain ⟨t, rfl⟩ := r
    cases (show T = "int" from ty)
    exact ⟨typeIs_int s i t, fun _ e => nomatch e⟩
  | ref p =>
    cases r
    rcases ty with ⟨rfl, xs, hq⟩ | ⟨rfl, o, hk, hc, hd⟩ | ⟨rfl, hk⟩ | ⟨rfl, S, n, hk⟩
    · obtain ⟨its, _, pl, _⟩ := I.list hq
      refine ⟨pl.isList.typeIs, fun a e => ?_⟩
      cases e
      obtain ⟨o, n, e, c, hd, _⟩ := pl
      exact ⟨o, e, hd⟩
    · refine ⟨⟨o, I.kIn p o hk, hc⟩, fun a e => ?_⟩
      cases e
      exact ⟨o, I.kIn _ o hk, hd⟩
    · have z : ∃ o, s.heap.get? p = some o ∧ o.ExactDict := by
        rcases hk with ⟨kvs, hk⟩ | ⟨kvs, hk⟩
        · obtain ⟨_, _, _, _, o, _, _, e, ex, _⟩ := I.hok p _ hk
          exact ⟨o, e, ex⟩
        · obtain ⟨_, _, _, _, o, _, _, e, ex, _⟩ := I.hok p _ hk
          exact ⟨o, e, ex⟩
      obtain ⟨o, e, ex⟩ := z
      refine ⟨⟨o, e, ex.1⟩, fun a e2 => ?_⟩
      cases e2
      exact ⟨o, e, ex.2.1⟩
    · obtain ⟨o, _, _, _, e, ex, _⟩ := I.hok p _ hk
      refine ⟨⟨o, e, ex.1⟩, fun a e2 => ?_⟩
      cases e2
      exact ⟨o, e, ex.2.1⟩
  | _ => exact False.elim ty
def tBM (K : PySem.W.Frag) (T : String) (r : V → List V → Hp → VK → Prop) (to : TE) (t : TA) : TE := fun σ H Q => to σ H fun x H1 => tyV K T x H1 ∧ t σ H1 fun xs H2 => r x xs H2 Q
variable {o e : Expr} {es : List Expr} {to : TE} {t : TA} {name : Str} {apos cpos : Pos} {T id : String} {r : V → List V → Hp → VK → Prop}
theorem pe_bm (pa : PlainAttrs T) (slot : Slot T name id) (hty : typeOf (.builtin id) = pure (.type "method_descriptor")) (hm : MtR X id r) (ho : PE X o to) (ha : PA X (e :: es) t)
    (hbase : attributeBase o name X.env (eval o X.env) = eval o X.env := by rfl)
    (hfew : ((backTo cpos (starEach (e :: es) X.env)).all (fun x => !x.1) && (backToKw cpos (keywordEach [] X.env)).all (fun x => x.1.isSome)
      && decide ((e :: es).length + ([] : List Keyword).length + (if ([] : List Keyword).isEmpty then 0 else 1) < 30)) = true := by rfl)
    (hline : (apos.endLine == cpos.line) = true := by rfl) (hs : starEach (e :: es) X.env = (false, eval e X.env) :: starEach es X.env := by rfl) (hplain : (backTo cpos (starEach es X.env)).any (·.1) = false := by rfl) :
    PE X (.Call (.Attribute o name apos) (e :: es) [] cpos) (tBM X.K T r to t) := by
  intro pins s σ H Q I h
  refine wpAny_Call_method_late hbase hfew hline rfl (thn (ho pins s σ H _ I h) fun v s1 ⟨x, H1, I1, r1, ty, q1⟩ => ?_)
  obtain ⟨h1, h2⟩ := tyV_is I1 r1 ty
  refine ⟨T, id, pa, slot, hty, h1, h2, ?_⟩
  have hA := ha cpos pins s1 σ H1 _ I1 q1
  rw [hs] at hA ⊢
  refine Calls.callWith_builtin (by show (false || (backTo cpos (starEach es X.env)).any (·.1)) = false; rw [hplain] <;> rfl) (Calls.evalArgs_plain ?_)
  exact thn hA fun us s2 ⟨vs, H2, I2, r2, q2⟩ => hm pins s2 σ H2 x vs v us Q I2 r1 r2 q2
end
end L2
namespace L2
open PySem PySem.Spec PyProof.Rows
def MtM (X : Cx) (id : String) (r : V → List V → Hp → VK → Prop) : Prop :=
  ∀ (pins : List (Addr × Obj)) (s : Shared) (σ : St) (H : Hp) (x : V) (xs : List V) (v : Value) (us : List Value) (Q : VK), Inv X pins σ H s → RelV x v → Vals xs us → r x xs H Q →
    wpAny (model X.prog X.w) X.A (call (.builtin id) (v :: us)) (EP X pins σ Q) X.xe s
theorem Vals.one : ∀ {x : V} {us : List Value}, Vals [x] us → ∃ u, us = [u] ∧ RelV x u
  | _, _, .cons r .nil => ⟨_, rfl, r⟩
theorem Vals.rep {xs : List V} {us : List Value} (h : Vals xs us) : ∀ k : Nat, Vals (List.replicate k xs).flatten (List.replicate k us).flatten
  | 0 => .nil
  | k + 1 => by
    rw [List.replicate_succ, List.replicate_succ, List.flatten_cons, List.flatten_cons]
    exact Vals.append h (Vals.rep h k)
theorem foldl_rep (its : List Value) : ∀ (k : Nat) (acc : List Value),
    List.foldl (fun x1 x2 => x1 ++ x2) acc.toArray (List.replicate k its.toArray) = (acc ++ (List.replicate k its).flatten).toArray
  | 0, acc => by simp
  | k + 1, acc => by
    have e : acc.toArray ++ its.toArray = (acc ++ its).toArray := by simp
    have e2 : (acc ++ its) ++ (List.replicate k its).flatten = acc ++ (List.replicate (k + 1) its).flatten := by
      rw [List.replicate_succ, List.flatten_cons, List.append_assoc]
    rw [← e2, ← foldl_rep its k (acc ++ its), ← e, List.replicate_succ, List.foldl_cons]
section
variable {X : Cx} {pins : List (Addr × Obj)} {σ : St} {H : Hp} {s : Shared} {l b : Addr} {xs ys zs : List V}
theorem Inv.lset {its its' : List Value} {n : Nat} {f : Array Value → Array Value} {t' : Nat} (I : Inv X pins σ H s) (hH : H l = some (.lst xs))
    (e : s.heap.get? l = some { cls := .type "list", data := .seq its.toArray n }) (hf : f its.toArray = its'.toArray) (hv : Vals ys its') (hz : ys.length ≤ sizeLine) :
    Inv X pins σ (upd H l (.lst ys)) { s with heap := s.heap.update l (Obj.mapSeq f), toks := t' } := by
  have q := PySem.IsL.update e f
  rw [hf] at q
  refine I.write (x := l) (e := l) (by rw [hH]; exact trivial) (.inl rfl) (fun b' u hb hu => (Heap.get?_update_other s.heap (Obj.mapSeq f) (Ne.symm hb)).trans hu) ⟨_, q⟩ ?_
  exact ⟨hz, its', _, hv, q⟩
theorem Inv.lnew {its : List Value} {t' : Nat} (I : Inv X pins σ H s) (hv : Vals ys its) (hz : ys.length ≤ sizeLine) :
    Inv X pins σ (upd H s.heap.objs.size (.lst ys)) { s with heap := s.heap.push { cls := .type "list", data := .seq its.toArray }, toks := t' } :=
  I.laid (fun _ _ q => Heap.get?_push_of_some _ q) (Nat.le_refl _) ⟨hz, its, 0, hv, Heap.get?_push_size _ rfl⟩
theorem Inv.fresh (I : Inv X pins σ H s) : H s.heap.objs.size = none := I.hok.fresh (Nat.le_refl _)
theorem Inv.lstM (I : Inv X pins σ H s) (hH : H l = some (.lst xs)) : xs.length ≤ sizeLine ∧ ∃ (its : List Value) (n : Nat), Vals xs its ∧ xs.length = its.length ∧ s.heap.get? l = some { cls := .type "list", data := .seq its.toArray n } := by
  obtain ⟨z, its, n, r, e⟩ := I.hok l _ hH
  exact ⟨z, its, n, r, r.length, e⟩
theorem notLongL {n : Nat} (h : n ≤ sizeLine) : Builtin.List.listTooLong n = false := by
  unfold Builtin.List.listTooLong
  exact decide_eq_false (by omega)
end
section
variable {X : Cx}
def rAppend : V → List V → Hp → VK → Prop := fun x vs H Q => ∃ l xs y, x = .ref l ∧ vs = [y] ∧ H l = some (.lst xs) ∧ xs.length < sizeLine ∧ Q .non (upd H l (.lst (xs ++ [y])))
theorem mt_append : MtM X "list.append" rAppend := by
  intro pins s σ H x vs v us Q I rx rv h
  obtain ⟨l, xs, y, rfl, rfl, hH, hz, q⟩ := h
  cases rx
  obtain ⟨u, rfl, ru⟩ := rv.one
  obtain ⟨z, its, n, r, hl, e⟩ := I.lstM hH
  refine call_meets F.slot_list_append ⟨_, e, rfl⟩ F.entry_list_append (F.args_list_append_2 _ _) (PySem.list_append l its.toArray n u (by rw [List.size_toArray]; omega)) ⟨e, ?_⟩
  refine ⟨.non, _, I.lset (its' := its ++ [u]) hH e (by simp) (r.append (.cons ru .nil)) ?_, rfl, q⟩
  rw [List.length_append, List.length_singleton]
  omega
def rExtend : V → List V → Hp → VK → Prop := fun x vs H Q => ∃ l b xs zs, x = .ref l ∧ vs = [.ref b] ∧ H l = some (.lst xs) ∧ H b = some (.lst zs) ∧ xs.length + zs.length ≤ sizeLine ∧ Q .non (upd H l (.lst (xs ++ zs)))
theorem mt_extend : MtM X "list.extend" rExtend := by
  intro pins s σ H x vs v us Q I rx rv h
  obtain ⟨l, b, xs, zs, rfl, rfl, hH, hB, hz, q⟩ := h
  cases rx
  obtain ⟨u, rfl, ru⟩ := rv.one
  cases ru
  obtain ⟨z, its, n, r, hl, e⟩ := I.lstM hH
  obtain ⟨z2, its2, n2, r2, hl2, e2⟩ := I.lstM hB
  have hsz : its.toArray.size + its2.toArray.size ≤ sizeLine := by rw [List.size_toArray, List.size_toArray]; omega
  have hlong : ¬ (!its.toArray.isEmpty && Builtin.List.listTooLong (its.toArray.size + its2.toArray.size)) = true := by
    rw [notLongL hsz, Bool.and_false]
    exact Bool.false_ne_true
  refine call_meets F.slot_list_extend ⟨_, e, rfl⟩ F.entry_list_extend (F.args_list_extend_2 _ _)
    (AutoSeq1.list_extend_list_list_0 l its.toArray n b its2.toArray n2 hlong (by rw [List.size_toArray]; omega) (by omega)) ⟨e, e2, ?_⟩
  refine ⟨.non, _, I.lset (its' := its ++ its2) hH e (by simp) (r.append r2) ?_, rfl, q⟩
  rw [List.length_append]
  omega
def rCat : R2 := fun x y H Q => ∃ l b xs zs, x = .ref l ∧ y = .ref b ∧ H l = some (.lst xs) ∧ H b = some (.lst zs) ∧ xs.length + zs.length ≤ sizeLine ∧ ∀ p, H p = none → Q (.ref p) (upd H p (.lst (xs ++ zs)))
theorem op_cat : OpR X (binaryOp .Add) rCat := by
  intro pins s σ H x y v u Q I rx ry h
  obtain ⟨l, b, xs, zs, rfl, rfl, hH, hB, hz, q⟩ := h
  cases rx
  cases ry
  obtain ⟨z, its, n, r, hl, e⟩ := I.lstM hH
  obtain ⟨z2, its2, n2, r2, hl2, e2⟩ := I.lstM hB
  refine PySem.P.add_list e e2 ?_ (by rw [List.size_toArray, List.size_toArray]; omega)
  have ea : its.toArray ++ its2.toArray = (its ++ its2).toArray := by simp
  rw [ea]
  exact ⟨.ref _, _, I.lnew (t' := s.toks) (r.append r2) (by rw [List.length_append]; omega), rfl, q _ I.fresh⟩
def rRep : R2 := fun x y H Q => ∃ l k xs, x = .ref l ∧ y = .int k ∧ H l = some (.lst xs) ∧ -(2 ^ 63) ≤ k ∧ k < 2 ^ 63 ∧ xs.length * k.toNat ≤ sizeLine ∧
  ∀ p, H p = none → Q (.ref p) (upd H p (.lst (List.replicate k.toNat xs).flatten))
theorem len_rep {α : Type} (xs : List α) (k : Nat) : (List.replicate k xs).flatten.length = k * xs.length := by
  induction k with
  | zero => simp
  | succ k ih => rw [List.replicate_succ, List.flatten_cons, List.length_append, ih, Nat.succ_mul, Nat.add_comm]
theorem op_rep : OpR X (binaryOp .Mult) rRep := by
  intro pins s σ H x y v u Q I rx ry h
  obtain ⟨l, k, xs, rfl, rfl, hH, h1, h2, hz, q⟩ := h
  cases rx
  obtain ⟨t, rfl⟩ := ry
  obtain ⟨z, its, n, r, hl, e⟩ := I.lstM hH
  have hlen : its.toArray.size * k.toNat ≤ sizeLine := by rw [List.size_toArray, ← hl]; exact hz
  have hcap : ¬ its.toArray.size * k.toNat > (2 ^ 63 - 1) / 8 := by
    have : (sizeLine : Nat) ≤ (2 ^ 63 - 1) / 8 := by decide
    omega
  have hfit : ¬ (!Builtin.List.listFitsIndex k) = true := by
    rw [fitsIndex_both h1 h2]
    exact Bool.false_ne_true
  have hlong : ¬ Builtin.List.listTooLong (its.toArray.size * k.toNat) = true := by
    rw [notLongL hlen]
    exact Bool.false_ne_true
  have hnew : List.foldl (fun x1 x2 => x1 ++ x2) #[] (List.replicate (if its.toArray.isEmpty = true then 0 else k.toNat) its.toArray) = (List.replicate k.toNat its).flatten.toArray := by
    have f0 : ∀ m : Nat, List.foldl (fun x1 x2 => x1 ++ x2) #[] (List.replicate m its.toArray) = (List.replicate m its).flatten.toArray := fun m => by
      have := foldl_rep its m []
      rw [List.nil_append] at this
      exact this
    rw [f0]
    cases its with
    | nil => simp
    | cons a r' => rw [if_neg (by simp)]
  refine wpAny_binaryOp_repeat_ref (T := "list") (U := "int") (by decide) ⟨_, e, rfl⟩ (fun s' => typeIs_int s' k t) noFill_list_mul F.fills_int_mul F.slot_int_rmul repeat_list F.slot_int_index.lookup
    (call_meets F.slot_int_rmul (typeIs_int s k t) F.entry_int_rmul (F.args_int_rmul_2 _ _) (int___rmul___int_list k t l its.toArray n)
      ⟨e, rfl, ⟨_, e, rfl⟩, call_meets F.slot_list_mul ⟨_, e, rfl⟩ F.entry_list_mul (F.args_list_mul_2 _ _) (AutoListH.list___mul___list_int_3 l its.toArray n k t hfit hcap hlong) ⟨e, ?_⟩⟩)
  rw [hnew]
  exact ⟨.ref _, _, I.lnew (t' := s.toks) (r.rep k.toNat) (by rw [len_rep, Nat.mul_comm]; exact hz), rfl, q _ I.fresh⟩
end
section
variable {prog : Program} {w : World} {A : Around} {E : Value → Shared → Prop} {s : Shared}
end
section
variable {X : Cx}
end
end L2
namespace L2
open PySem PySem.Spec PyProof.Rows
section
variable {κ : Type} [DecidableEq κ]
end
abbrev KT (H : Hp) : List (List Key × V) → List (List Key × Addr × Value) → Prop := Paired fun p q => p.1 = q.1 ∧ H q.2.1 = some (.tup (p.1.map kV)) ∧ RelV p.2 q.2.2
section
variable {P : Program} {w : World} {H : Hp} {h : Heap} {a : Addr}
end
section
variable {X : Cx} {pins : List (Addr × Obj)} {σ : St} {H : Hp} {s : Shared} {a : Addr} {y v : V} {u r : Value} {o : Option V} {A : Around} {E : Value → Shared → Prop}
theorem Inv.big (I : Inv X pins σ H s) : sysModules < s.heap.objs.size := by
  have h : mainGlobals < s.heap.objs.size := (I.mod.glob.keeps I.bk).lt
  exact Nat.lt_trans (by decide) h
end
section
variable {X : Cx} {pins : List (Addr × Obj)} {σ : St} {H : Hp} {s : Shared} {a : Addr} {kvs : List (Key × V)} {k : Key} {u : Value} {A : Around} {E : Value → Shared → Prop}
end
section
variable {X : Cx} {o i e value : Expr} {pos pos' tpos : Pos} {td ty tv : TE}
end
section
variable {X : Cx} {pos : Pos}
end
section
variable {X : Cx} {pins : List (Addr × Obj)} {σ : St} {H : Hp} {s : Shared} {a : Addr} {y d : V} {u r : Value} {o : Option V} {A : Around} {E : Value → Shared → Prop}
end
section
variable {X : Cx} {o e f : Expr} {apos cpos : Pos} {td ty tx : TE}
end
section
variable {X : Cx} {pins : List (Addr × Obj)} {σ : St} {H : Hp} {s : Shared} {a : Addr} {kvs : List (Key × V)} {A : Around} {E : Value → Shared → Prop}
end
section
variable {X : Cx} {pins : List (Addr × Obj)} {σ : St} {H : Hp} {s : Shared} {a : Addr} {y : V} {u : Value} {A : Around} {E : Value → Shared → Prop}
end
end L2
namespace Att
open PySem PySem.W PySem.Calls PyProof.Rows
theorem ints_of_wellAll {P : Params} {h : Heap} : ∀ (ns : List Int) (vs : List Value), WellAll P h vs (ns.map WData.int) → IntsAre vs ns := by
  intro ns
  induction ns with
  | nil =>
    intro vs w
    rw [List.map_nil] at w
    cases w
    exact .nil
  | cons n ns ih =>
    intro vs w
    rw [List.map_cons] at w
    cases w with
    | cons a b =>
      cases a
      exact .cons _ _ (ih _ b)
theorem script_of {l : OpenLaw} {n : Nat} (hn : l.most = some n) {P : Params} {h : Heap} {args : List WData} {vals : List Value}
    (hpre : l.row.toRowW.claim.pre args = true) (hwl : WellAll P h vals args) :
    ∃ a vs ns, vals = [Value.ref a] ∧ args = [WData.list (ns.map WData.int)] ∧ h.get? a = some { cls := .type "list", data := .seq vs.toArray } ∧ IntsAre vs ns ∧ ns.length ≤ n := by
  have hsh : WShape.hasAll [] args [.list .int] = true := (pre_splitW hpre).1
  have hc : l.pre.holds [] { args := args } = true := (pre_splitW hpre).2
  obtain ⟨d, r, rfl, h1, h2⟩ := hasAllW_cons hsh
  obtain rfl := hasAllW_nil h2
  obtain ⟨xs, rfl, h3⟩ := hasW_list h1
  obtain ⟨ns, rfl⟩ := items_int h3
  have hlen : ns.length ≤ n := by
    unfold OpenLaw.pre at hc
    have h4 : (WTm.not (.lt (.lit (.int (n : Int))) (.len (.arg 0)))).holds [] { args := [.list (ns.map .int)] } = true := by
      have h4 := (holds_andW hc).1
      rw [hn] at h4
      exact h4
    have h5 := condW_of h4 (w_not (w_lt w_lit (w_len_list (w_arg rfl))))
    rw [List.length_map] at h5
    refine Nat.le_of_not_lt fun q => ?_
    have q' : (n : Int) < ((ns.length : Nat) : Int) := by omega
    first
      | (rw [decide_eq_true q'] at h5; exact absurd h5 (by decide))
      | (simp at h5; omega)
  cases hwl with
  | cons w1 w2 =>
    cases w2
    cases w1 with
    | list ho hall => exact ⟨_, _, ns, rfl, rfl, ho, ints_of_wellAll ns _ hall, hlen⟩
theorem post_true (l : OpenLaw) (args : List WData) : l.row.toRowW.claim.post args (.bool true) args = true :=
  postW_of (r := l.row.toRowW) (X := (true == true))
    (show WShape.has [] (.bool true) .bool = true by first | rfl | decide | simp [WShape.has, WShape.arms, WShape.armsAll])
    (show (WTm.eq .res (.lit (.bool true))).value [] { args := args, res := some (.bool true), after := args } = some (.bool (true == true)) from w_eq_bool (w_res rfl) w_lit) rfl
section
variable {prog : Program} {w : World} {A : Around} {E : Value → Shared → Prop} {s : Shared} {K : Frag}
end
end Att
namespace L2
open PySem PySem.Spec PyProof.Rows
theorem vals_ints : ∀ {vs : List Value} {ns : List Int}, IntsAre vs ns → Vals (ns.map V.int) vs
  | _, _, .nil => .nil
  | _, _, .cons n t h => .cons ⟨t, rfl⟩ (vals_ints h)
end L2
namespace L2
open PySem PySem.Spec PyProof.Rows
end L2
namespace L2
open PySem PySem.Spec PyProof.Rows
def defArgs (s : Stmt) : Arguments := match s with
  | .FunctionDef _ a _ _ _ _ _ _ _ _ => a
  | _ => { posonlyargs := [], args := [], vararg := none, kwonlyargs := [], kw_defaults := [], kwarg := none, defaults := [] }
def defBody (s : Stmt) : List Stmt := match s with
  | .FunctionDef _ _ b _ _ _ _ _ _ _ => b
  | _ => []
def defScope (s : Stmt) : Scope := match s with
  | .FunctionDef _ _ _ _ _ _ sc _ _ _ => sc
  | _ => { kind := .function, names := [], isGenerator := false, isCoroutine := false }
abbrev CX0 : CXT := fun _ _ _ _ _ _ => False
abbrev E0 : XK := fun _ _ _ => False
theorem pass0 {X : Cx} : Passes CX0 X E0 := fun _ _ _ _ _ _ _ h => h.elim
structure Fun (K : PySem.W.Frag) (x qual : Str) (st : Stmt) (f : Addr) (fd : FuncData) : Prop where
  ex : ∃ (oc : Value) (od : Option Addr) (kV doc pm : Value) (an : Option Addr) (cdv ct : Value) (osl : Array (Option Value)),
    fd = PySem.W.fnOf x qual (defArgs st) (defBody st) (defScope st) .none kV doc pm an cdv ct ∧ K.lookup f = some ⟨oc, od, .func fd, osl⟩ ∧ PySem.W.codeIn K cdv qual = true
  kp : PySem.W.keepIn K (.ref f) = true
section
variable {P : Program} {w : World} {K : PySem.W.Frag} {mg : Str → Option Value} {base : Heap}
theorem Fun.ok {x qual : Str} {st : Stmt} {f : Addr} {fd : FuncData} {N ps : List Str} {k : Nat} {sp : Sp} (F : Fun K x qual st f fd) (S : FnScope N ps (defScope st)) (len : ∀ vs H Q E, sp vs H Q E → vs.length = ps.length)
    (hbody : ∀ (cdv : Value) (A : Around) (outer : List Env) (s : Shared) (H : Hp) (vs : List V) (Q : VK) (E : XK), Room k (A.deeper (envOfC qual (defScope st) s.heap.objs.size f cdv)) → sp vs H Q E →
      ∃ t, PSs (cxOf CX0 P w K mg base N qual (defScope st) f cdv A outer s H E).nox (defBody st) t ∧ t { nx := fun _ H' => Q .non H', rt := Q } (start N vs) H) : FnOk P w K mg base CX0 (k + 1) f fd ps sp := by
  obtain ⟨oc, od, kV, doc, pm, an, cdv, ct, osl, rfl, lk, hcd⟩ := F.ex
  refine fn_of lk hcd S len fun A outer s H vs Q E hr hsp => ?_
  obtain ⟨t, h, q⟩ := hbody cdv A outer s H vs Q E hr hsp
  exact ⟨t, h.nox, q⟩
theorem Fun.binds {x qual : Str} {st : Stmt} {f : Addr} {fd : FuncData} {ps : List Str} (F : Fun K x qual st f fd)
    (h : ∀ (kV doc pm : Value) (an : Option Addr) (cdv ct : Value) (us : List Value), us.length = ps.length → bindArgs (PySem.W.fnOf x qual (defArgs st) (defBody st) (defScope st) .none kV doc pm an cdv ct) ⟨us, []⟩ = pure (ps.zip us)) : Binds K fd ps [] := by
  obtain ⟨oc, od, kV, doc, pm, an, cdv, ct, osl, rfl, lk, hcd⟩ := F.ex
  exact .all (h kV doc pm an cdv ct)
theorem fun_mk {x qual : Str} {st : Stmt} {f : Addr} {oc : Value} {od an : Option Addr} {osl : Array (Option Value)} {kV doc pm cdv ct : Value} (l : K.lookup f = some ⟨oc, od, .func (PySem.W.fnOf x qual (defArgs st) (defBody st) (defScope st) .none kV doc pm an cdv ct), osl⟩)
    (c : PySem.W.codeIn K cdv qual = true) (k : PySem.W.keepIn K (.ref f) = true) : Fun K x qual st f (PySem.W.fnOf x qual (defArgs st) (defBody st) (defScope st) .none kV doc pm an cdv ct) := ⟨⟨oc, od, kV, doc, pm, an, cdv, ct, osl, rfl, l, c⟩, k⟩
end
section
variable {X : Cx}
theorem pv (i : Nat) {x : Str} {pos : Pos} (hN : X.N[i]? = some x := by rfl) (hv : Vis X.env.scope x := by first | exact Or.inl rfl | exact Or.inr (Or.inl rfl) | exact Or.inr (Or.inr rfl)) (hd : (x == ("__debug__" : Str)) = false := by decide)
    (hcd : (x == ("__classdict__" : Str)) = false := by decide) : PE X (.Name x pos) (tVar i) := pe_var hN hv hd hcd
end
theorem ite2 {c A B : Prop} [Decidable c] (h1 : c → A) (h2 : ¬ c → B) : if c then A else B := by
  by_cases h : c
  · rw [if_pos h]
    exact h1 h
  · rw [if_neg h]
    exact h2 h
section
variable {X : Cx}
end
section
variable {κ : Type} [DecidableEq κ]
end
end L2
set_option Elab.async false
set_option linter.all false
set_option maxRecDepth 100000
set_option maxHeartbeats 4000000
namespace My
open PySem
section
variable {prog : Program} {w : World} {A : Around} {h : Heap} {g : Array GenState} {d : Drawn} {tk : Nat} {os : OsState} {C N e t0 : Addr}
variable {nm q : Str} {bs bm bmB : List Value} {hdct ab : Bool} {sn : List Str} {sub : List Value} {col : Option Bool} {dd : Option Addr}
variable {k0 k1 k2 k3 k5 : Option Value} {B newId initId : String}
end
end My
set_option Elab.async false
set_option linter.all false
set_option maxRecDepth 100000
set_option maxHeartbeats 4000000
namespace My
open PySem PySem.W Builtin Builtin.ObjectAttr
section
variable {prog : Program} {w : World} {A : Around} {s : Shared} {K : Frag} {C x : Addr}
end
end My
set_option Elab.async false
set_option linter.all false
set_option maxRecDepth 100000
set_option maxHeartbeats 4000000
namespace My
open PySem PySem.W Builtin Builtin.ObjectAttr
section
variable {prog : Program} {w : World} {A : Around} {E : Value → Shared → Prop} {s : Shared} {K : Frag} {C x : Addr}
end
end My
set_option Elab.async false
set_option linter.all false
set_option maxRecDepth 100000
set_option maxHeartbeats 4000000
namespace My
open PySem PySem.W Builtin Builtin.ObjectAttr
section
variable {prog : Program} {w : World} {A : Around} {E : Value → Shared → Prop} {s : Shared} {K : Frag} {C x dx : Addr}
abbrev bga : String := "BaseException.__getattribute__"
end
end My
set_option Elab.async false
set_option linter.all false
set_option maxRecDepth 100000
set_option maxHeartbeats 4000000
namespace My
open PySem PySem.W
section
variable {prog : Program} {w : World} {A : Around} {E : Value → Shared → Prop} {h : Heap} {g : Array GenState}
variable {d : Drawn} {t : Nat} {os : OsState} {nm q : Str} {C N : Addr} {bs bm bmB : List Value} {hdct ab : Bool}
variable {sn : List Str} {sub : List Value} {col : Option Bool} {dd : Option Addr}
variable {k0 k1 k2 k3 k5 : Option Value} {B newId initId : String} {K : Frag}
end
section
variable {prog : Program} {w : World} {A : Around} {E : Value → Shared → Prop} {s : Shared} {K : Frag} {x C : Addr} {ox : Obj} {od : Option Obj}
theorem findData {a g : Value} {name : Str} (hc : (clsIn K C).isSome = true) (ha : findIn K (.ref C) name = some (some a)) (hg : specialIn K a "__get__" = some (some g)) (ht : takesIn K a = some true) : findObj K C od name = some (.bind g a) := by
  obtain ⟨cd, hc⟩ := Option.isSome_iff_exists.mp hc
  unfold findObj
  rw [hc, Option.bind_some, ha, Option.bind_some]
  simp [hg, ht]
theorem bgaBind {R : Result → Shared → Prop} {name : Str} {tk : Tok} {a g : Value} (X : K.In s.heap) (I : InstAt s.heap x ox C od)
    (hm0 : mroIn K C (.type "BaseException") = some true) (hf : findObj K C od name = some (.bind g a))
    (h : wpAny (model prog w) A.in1 (call g [a, .ref x, .ref C]) (fun v s' => R (.ok (.ret v)) s') (fun e s' => R (.error e) s') s) :
    codeAny (model prog w) A (.call (.builtin bga) ⟨[.ref x, .str name tk], []⟩) R s := by
  have sub : Looks (model prog w) s.heap (isInstance (.ref x) (.type "BaseException")) true := I.type.andThen (looks_mroIn X hm0)
  have L1 := looks_find (M := model prog w) X I hf
  refine codeAny_call_builtin PySem.F.excAttr_ValueError.ga.plain PySem.F.entry_bexc_ga (@check_slot (model prog w) _ _ s bga "BaseException" "__getattribute__" (.ref x) [.str name tk] [] _ (by decide +kernel) (by decide +kernel) sub (PySem.F.args_bexc_ga _ _) ?_)
  refine wpAny_bind (wpAny_pure (wpAny_bind (wpAny_pure (wpAny_bind (I.type.here (wpAny_bind (L1.here ?_)))))))
  show wpAny _ _ (holding [a] (call g [a, .ref x, .ref C]) >>= ret) _ _ _
  exact wpAny_bind (wpAny_holding (wpAny_mono h (fun v s' z => wpAny_pure z) fun _ _ z => z))
structure ErrI (K : Frag) (C : Addr) : Prop where
  cls : (clsIn K C).isSome = true
  ga : findIn K (.ref C) "__getattribute__" = some (some (.builtin bga))
  hk : findIn K (.ref C) "__getattr__" = some none
  mb : mroIn K C (.type "BaseException") = some true
  mo : mroIn K C (.type "object") = some true
  ca : findIn K (.ref C) "__class__" = some (some (.builtin "object.__class__"))
theorem errClass {Q : Option Value → Shared → Prop} (T : ErrI K C) (hn : specialIn K (.builtin "object.__class__") "__get__" = some (some (.builtin "getset_descriptor.__get__"))) (htk : takesIn K (.builtin "object.__class__") = some true)
    (X : K.In s.heap) (I : InstAt s.heap x ox C od) (h : Q (some (.ref C)) { s with toks := s.toks + 1 }) : wpAny (model prog w) A (getAttr? (.ref x) "__class__") Q E s := by
  have hf : findObj K C od "__class__" = some (.bind (.builtin "getset_descriptor.__get__") (.builtin "object.__class__")) := findData T.cls T.ca hn htk
  have L0 := I.type (M := model prog w)
  have L1 := looks_findIn (M := model prog w) X T.ga
  have L2 := looks_findIn (M := model prog w) X T.hk
  have f3 := PySem.F.excAttr_ValueError.ga.bind (.ref x)
  unfold getAttr? getAttrBy? getAttrBy
  refine wpAny_bind (wpAny_mkText (wpAny_bind (wpAny_attempt (wpAny_holding (wpAny_bind (Looks.here (s := { s with toks := s.toks + 1 }) L0 (wpAny_bind (Looks.here (s := { s with toks := s.toks + 1 }) L1 ?_))))))))
  have hx1 : (onTheHeap (Value.ref C) && Value.builtin bga == Value.builtin "object.__getattribute__") = false := by
    rw [show (Value.builtin bga == Value.builtin "object.__getattribute__") = false from by decide +kernel]
    rfl
  show wpAny _ _ (if (onTheHeap (Value.ref C) && Value.builtin bga == Value.builtin "object.__getattribute__") = true then _ else _) _ _ _
  rw [if_neg (by rw [hx1]; decide)]
  unfold getAttrByItsOwn
  refine wpAny_bind ?_
  show wpAny _ _ (typeLookup (.ref C) "__getattr__") _ _ _
  refine Looks.here (s := { s with toks := s.toks + 1 }) L2 ?_
  refine wpAny_bind (wpAny_attempt (wpAny_holding ?_))
  unfold callGetattribute
  rw [if_neg (by decide)]
  unfold boundAndCalled
  rw [f3]
  refine wpAny_bind (wpAny_pure ?_)
  refine wpAny_call (bgaBind (s := { s with toks := s.toks + 1 }) X I T.mb hf ?_)
  refine wpAny_call (class_get (s := { s with toks := s.toks + 1 }) (ox := ox) (od := od) X I T.mo ?_)
  show wpAny _ _ (handedOut (.ref C)) _ _ _
  rw [handedOut_of rfl]
  exact wpAny_pure (wpAny_pure h)
theorem kitErr (T : ErrI K C) (hn : specialIn K (.builtin "object.__class__") "__get__" = some (some (.builtin "getset_descriptor.__get__"))) (htk : takesIn K (.builtin "object.__class__") = some true) :
    KitX K (.ref x) (.ref C) (fun h => ∃ ox od, InstAt h x ox C od) where
  ty := fun _ _ _ ⟨_, _, I⟩ => I.type
  it := fun _ _ X _ => by
    obtain ⟨cdD, hcD⟩ := Option.isSome_iff_exists.mp T.cls
    unfold clsIn at hcD
    split at hcD
    · rename_i c' d' cd' sl' ho
      intro A' Q' E' s' k q
      unfold isType loadHead
      exact wpAny_bind (wpAny_loadPart (k _ _ (X _ _ ho)) (wpAny_pure q))
    · cases hcD
  ne := fun h tp dd its n sl X htp => by
    obtain ⟨cdD, hcD⟩ := Option.isSome_iff_exists.mp T.cls
    refine Bool.eq_false_iff.mpr fun q => ?_
    have e : C = tp := Value.ref.inj (beq_iff_eq.mp q)
    subst e
    unfold clsIn at hcD
    split at hcD
    · rename_i c' d' cd' sl' ho
      have z := (X _ _ ho).symm.trans htp
      cases z
    · cases hcD
  ca := fun X ⟨_, _, I⟩ k => errClass T hn htk X I k
end
end My
set_option Elab.async false
set_option linter.all false
set_option maxRecDepth 100000
set_option maxHeartbeats 4000000
namespace My
open PySem PySem.W L2
abbrev errAt (C : Addr) (d : Option Addr) (t : Addr) : Obj := { cls := .ref C, dict := d, data := .fields #[.ref t, .none, .none, .none, .bool false, .none] }
def ErrO (x C : Addr) (d : Option Addr) : HO := .ext fun h => ∃ t, h.get? x = some (errAt C d t)
theorem errO_at {P : Program} {w : World} {H : Hp} {h : Heap} {x C : Addr} {d : Option Addr} (ok : HOk P w H h) (e : H x = some (ErrO x C d)) : ∃ t, h.get? x = some (errAt C d t) := (ok x _ e).1
section
variable {X : Cx} {pins : List (Addr × Obj)} {σ : St} {H : Hp} {s : Shared}
end
end My
set_option Elab.async false
set_option linter.all false
set_option maxRecDepth 100000
set_option maxHeartbeats 1000000
namespace My
open PySem PySem.W L2
section
variable {M : Model} {A : Around} {E : Value → Shared → Prop} {s : Shared} {base : Heap} {env : Env} {outer : List Env} {L e : Addr} {oe : Obj} {vs : Array Value} {Q : Unit → Shared → Prop}
end
end My
set_option Elab.async false
set_option linter.all false
set_option maxRecDepth 100000
set_option maxHeartbeats 4000000
namespace My
open PySem PySem.W L2
def one (P : V → Hp → Prop) (vs : List V) (H : Hp) : Prop := match vs with
  | [v] => P v H
  | _ => False
section
variable {X : Cx} {pins : List (Addr × Obj)} {σ : St} {H : Hp} {s : Shared}
end
end My
set_option Elab.async false
set_option linter.all false
set_option maxRecDepth 100000
set_option maxHeartbeats 4000000
namespace My
open PySem PySem.W L2
section
variable {prog : Program} {w : World} {A : Around} {E : Value → Shared → Prop} {h : Heap} {g : Array GenState}
variable {d : Drawn} {t : Nat} {os : OsState} {nm q : Str} {C N : Addr} {bs bm bmB : List Value} {hdct ab : Bool}
variable {sn : List Str} {sub : List Value} {col : Option Bool} {dd : Option Addr}
variable {k0 k1 k2 k3 k5 : Option Value} {B newId initId : String} {K : Frag}
end
section
variable {X : Cx} {pins : List (Addr × Obj)} {σ : St} {H : Hp} {s : Shared}
theorem err_inst {P : Program} {w : World} {H : Hp} {h : Heap} {a C dx : Addr} {fs : List (Str × V)} (ok : HOk P w H h) (ea : H a = some (ErrO a C (some dx))) (ed : H dx = some (.xd fs)) :
    ∃ (ox od : Obj), InstAt h a ox C (some od) ∧ ∃ mA : Str → Option Value, (∀ f, RelO (fs.lookup f) (mA f)) ∧ ∀ name, lookIn name od = some (mA name) := by
  obtain ⟨t, hx⟩ := errO_at ok ea
  obtain ⟨mA, hn, hr⟩ := (show ObjOk P w H h dx (.xd fs) from ok dx _ ed)
  obtain ⟨od, hod, hl⟩ := lookIn_ns hn
  exact ⟨_, od, ⟨hx, rfl, rfl, hod⟩, mA, hr, hl⟩
structure IsT (K : Frag) : Prop where
  gt : specialIn K (.builtin "object.__class__") "__get__" = some (some (.builtin "getset_descriptor.__get__"))
  tk : takesIn K (.builtin "object.__class__") = some true
def ErrAt (H : Hp) (a C : Addr) : Prop := H a = some (ErrO a C none) ∨ ∃ dx fs, H a = some (ErrO a C (some dx)) ∧ H dx = some (.xd fs)
theorem ErrAt.inst {P : Program} {w : World} {H : Hp} {h : Heap} {a C : Addr} (E : ErrAt H a C) (ok : HOk P w H h) : ∃ ox od, InstAt h a ox C od := by
  rcases E with e | ⟨dx, fs, ea, ed⟩
  · obtain ⟨t, hx⟩ := errO_at ok e
    exact ⟨_, none, ⟨hx, rfl, rfl, True.intro⟩⟩
  · obtain ⟨ox, od, J, _⟩ := err_inst ok ea ed
    exact ⟨ox, some od, J⟩
end
end My
set_option Elab.async false
set_option linter.all false
set_option maxRecDepth 100000
set_option maxHeartbeats 1000000
namespace My
open PySem PySem.W L2
open PyProof.Rows (AllBare)
section
variable {X : Cx} {pins : List (Addr × Obj)} {σ : St} {H : Hp} {s : Shared}
end
section
variable {P : Program} {w : World} {K : Frag} {mg : Str → Option Value} {base : Heap} {N : List Str} {qual : Str} {scope : Scope} {f : Addr} {cd : Value} {A : Around} {outer : List Env} {s0 : Shared} {H0 : Hp} {E : XK} {pins : List (Addr × Obj)} {σ : St} {H : Hp} {s : Shared}
end
end My
set_option Elab.async false
set_option linter.all false
set_option maxRecDepth 100000
set_option maxHeartbeats 1000000
namespace My
open PySem PySem.W L2
open PyProof.Rows (AllBare)
section
variable {prog : Program} {w : World} {A : Around} {E : Value → Shared → Prop} {s : Shared} {env : Env} {x : Sem Value} {Q : Flow → Shared → Prop} {K : Frag} {C : Addr}
end
section
variable {P : Program} {w : World} {K : Frag} {mg : Str → Option Value} {base : Heap} {N : List Str} {qual : Str} {scope : Scope} {f : Addr} {cd : Value} {A : Around} {outer : List Env} {s0 : Shared} {H0 : Hp} {E : XK}
end
end My
set_option Elab.async false
set_option linter.all false
set_option maxRecDepth 100000
set_option maxHeartbeats 1000000
namespace My
open PySem PySem.W L2
open PyProof.Rows (AllBare)
section
variable {X : Cx} {σ : St} {e : Expr} {es : List Expr} {te : TE} {t : TA} {pos : Pos}
variable {CX : CXT} {k : Nat} {f C : Addr} {fd : FuncData} {ps : List Str} {sp : Sp} {dvs : List V} {ds : List Value} {E : XK} {x : Str} {p : Pos}
end
section
variable {prog : Program} {w : World} {A : Around} {E : Value → Shared → Prop} {s : Shared} {K : Frag} {C D e : Addr} {Q : Bool → Shared → Prop} {ox : Obj} {od : Option Obj} {b : Bool}
end
end My
set_option Elab.async false
set_option linter.all false
set_option maxRecDepth 100000
set_option maxHeartbeats 1000000
namespace My
open PySem PySem.W L2
open PyProof.Rows (AllBare)
section
variable {X : Cx} {σ : St} {e : Expr} {te : TE} {pos : Pos}
end
section
variable {X : Cx} {pins pins' pn : List (Addr × Obj)} {σ : St} {H : Hp} {s : Shared} {xe : Value → Shared → Prop} {x : Addr}
end
end My
set_option Elab.async false
set_option linter.all false
set_option maxRecDepth 100000
set_option maxHeartbeats 1000000
namespace My
open PySem PySem.W L2
open PyProof.Rows (AllBare)
section
variable {X : Cx} {pins : List (Addr × Obj)} {σ : St} {H : Hp} {s : Shared}
end
section
variable {X : Cx} {pins : List (Addr × Obj)} {σ : St} {H : Hp} {s : Shared}
end
end My
set_option Elab.async false
set_option linter.all false
set_option maxRecDepth 100000
set_option maxHeartbeats 1000000
namespace My
open PySem PySem.W L2
open PyProof.Rows (AllBare)
abbrev TH := Addr → Addr → TS
section
variable {X : Cx} {hs : List ExceptHandler} {rest : TH}
end
section
variable {X : Cx} {σ : St} {e : Expr} {te : TE} {pos : Pos}
end
end My
set_option Elab.async false
set_option linter.all false
set_option maxRecDepth 100000
set_option maxHeartbeats 4000000
namespace My
open PySem L2
section
variable {X : Cx}
end
end My
set_option Elab.async false
set_option linter.all false
set_option maxRecDepth 100000
set_option maxHeartbeats 1000000
namespace My
open PySem L2
section
variable {X : Cx}
end
end My
set_option Elab.async false
set_option linter.all false
set_option maxRecDepth 100000
set_option maxHeartbeats 1000000
namespace My
open PySem L2
section
variable {X : Cx}
theorem in1_units {A : Around} : A.in1.units = A.units + 1 := rfl
end
end My
set_option Elab.async false
set_option linter.all false
set_option maxRecDepth 100000
set_option maxHeartbeats 1000000
namespace My
open PySem PySem.W L2
open PyProof.Rows (Call_ boot_enumerate)
section
variable {X : Cx} {pins : List (Addr × Obj)} {σ : St} {H : Hp} {s : Shared} {h' : Heap}
theorem turned2 {t' : Nat} {i1 i2 : Addr} (I : Inv X pins σ H s) (k : ∀ b o, b ≠ i1 → b ≠ i2 → s.heap.get? b = some o → h'.get? b = some o) (F1 : FpOk X pins H i1) (F2 : FpOk X pins H i2) : Inv X pins σ H { s with heap := h', toks := t' } := by
  obtain ⟨n1, L1, _, a1, b1, c1⟩ := F1
  obtain ⟨n2, L2, _, a2, b2, c2⟩ := F2
  have ni1 : ∀ b u, H b = some u → b ≠ i1 := fun b u e z => by rw [z, n1] at e; cases e
  have ni2 : ∀ b u, H b = some u → b ≠ i2 := fun b u e z => by rw [z, n2] at e; cases e
  refine I.step (g' := s.gens) (d' := s.drawn) (ch := [i1, i2]) (fun b hb => ?_) (fun b o _ _ hc e _ => k b o (fun z => hc (by simp [z])) (fun z => hc (by simp [z])) e) (fun b o _ _ hc e _ => ⟨o.slots, k b o (fun z => hc (by simp [z])) (fun z => hc (by simp [z])) e⟩) (fun _ _ _ _ n => n)
    (fun b o hc e => ⟨o, k b o (fun z => hc (by simp [z])) (fun z => hc (by simp [z])) e⟩) (fun _ _ e => e) (fun _ _ _ e => e) (fun b ps e => ⟨#[], by rw [e]; simp⟩) (fun q => q) (fun m hm => ?_) (fun b u e => ?_) I.bare
  · have e : b = i1 ∨ b = i2 := by simpa using hb
    rcases e with rfl | rfl
    · exact ⟨a1, L1, b1, c1⟩
    · exact ⟨a2, L2, b2, c2⟩
  · obtain ⟨o, es, ep, ho, r⟩ := hm
    exact ⟨o, es, ep, k _ o (Ne.symm L1) (Ne.symm L2) ho, r⟩
  · refine (I.hok b u e).stay (fun c v hc q => k c v ?_ ?_ q) (fun _ q => q) fun _ _ q => q
    · rcases hc with z | z
      · rw [z]; exact ni1 b u e
      · exact ni1 c _ z
    · rcases hc with z | z
      · rw [z]; exact ni2 b u e
      · exact ni2 c _ z
end
theorem nofree {o : Obj} {vs : Array Value} (d : o.data = .fields vs) : o.isFreed = false := by
  obtain ⟨c, dd, dt, sl⟩ := o
  cases d
  rfl
def Ite (K : Frag) (a : Addr) : It :=
  ⟨fun i H => ∃ xs x, SqL K H a xs ∧ xs[i]? = some x, fun i H x H' => ∃ p y, x = .ref p ∧ H p = none ∧ H' = upd H p (.tup [.int i, y]) ∧ ∀ xs, SqL K H a xs → xs[i]? = some y, fun i H => ∃ xs, SqL K H a xs ∧ xs.length ≤ i⟩
theorem turn_enum {P : Program} {w : World} {K : Frag} {elts : List Expr} {x1} {pos : Pos} (a e it : Addr) (ne : e ≠ it) : Turn P w K (.Tuple elts x1 pos) (Ite K a) [e, it] e (fun i h => (∃ old, IsEnum h e it i old) ∧ h.IsListIter it a i) where
  mem := by simp
  obj := fun i h st b hb => by
    obtain ⟨⟨old, h1⟩, o, h2, c, d⟩ := st
    have e : b = e ∨ b = it := by simpa using hb
    rcases e with rfl | rfl
    · exact ⟨_, h1, fun v z => by cases z⟩
    · exact ⟨o, h2, fun v z => by rw [d] at z; cases z⟩
  keep := fun i h h' st k => ⟨⟨_, k e (by simp) _ st.1.choose_spec⟩, st.2.at fun o z => k it (by simp) o z⟩
  item := by
    intro X hP hw hK hc i pins s σ H E I hf st hg
    subst hP hw hK
    obtain ⟨xs, x, hq, hx⟩ := hg
    obtain ⟨its, rv, p, hz⟩ := I.list hq
    obtain ⟨u, hu, ru⟩ := rv.get hx
    obtain ⟨⟨old, he⟩, hi⟩ := st
    have Fe := hf e (by simp)
    have Fi := hf it (by simp)
    refine wpAny_pyNext_enum_item he hi p.isList (x := u) (by simpa using hu) ne fun h1 eo hi1 ht hs1 kk => ?_
    refine ⟨_, rfl, wpAny_letOwnedTupleGo_enum (s := { s with heap := h1, toks := s.toks + 1 }) eo fun h2 he2 sb => ?_⟩
    have sb' : Heap.SameBut e h1 h2 := sb
    have ne2 : s.heap.objs.size ≠ e := Nat.ne_of_gt (Heap.lt_size he)
    have ht2 : h2.get? s.heap.objs.size = some { cls := .type "tuple", data := .seq #[.int i s.toks, u] } := (sb'.2 _ ne2).trans ht
    obtain ⟨oi, hoi, ci, di⟩ := hi
    obtain ⟨oi1, hoi1, ci1, di1⟩ := id hi1
    have hoi2 : h2.get? it = some oi1 := (sb'.2 _ (Ne.symm ne)).trans hoi1
    let hA : Heap := (s.heap.update e fun _ => { cls := .type "enumerate", dict := none, data := .fields #[.none, .bool false, .ref it, rawInt ((i : Int) + 1), .none, u], slots := #[] }).update it fun _ => oi1
    have IA : Inv X pins σ H { s with heap := hA, toks := s.toks } := turned2 I (fun b o z1 z2 q => by
      show hA.get? b = some o
      rw [Heap.get?_update_ne _ _ _ _ z2, Heap.get?_update_ne _ _ _ _ z1]
      exact q) Fe Fi
    have szA : hA.objs.size = s.heap.objs.size := by
      show ((s.heap.update e _).update it _).objs.size = _
      rw [Heap.size_update, Heap.size_update]
    refine ⟨.ref s.heap.objs.size, upd H s.heap.objs.size (.tup [.int i, x]), ?_, rfl, ⟨_, x, rfl, I.hok.fresh (Nat.le_refl _), rfl, fun ys hy => by rw [I.list_inj hy hq]; exact hx⟩, ⟨⟨u, he2⟩, oi1, hoi2, ci1, di1⟩, fun b hb => ?_⟩
    · refine IA.laid (t' := s.toks + 1) (fun b v q => ?_) (Nat.le_of_eq szA) ?_
      · have q' : hA.get? b = some v := q
        by_cases z2 : b = it
        · subst z2
          have hg : (s.heap.update e fun _ => { cls := .type "enumerate", dict := none, data := .fields #[.none, .bool false, .ref b, rawInt ((i : Int) + 1), .none, u], slots := #[] }).get? b = some oi := by
            rw [Heap.get?_update_ne _ _ _ _ (Ne.symm ne)]; exact hoi
          rw [Heap.get?_update_self _ hg (nofree di1)] at q'
          cases q'
          exact hoi2
        · rw [Heap.get?_update_ne _ _ _ _ z2] at q'
          by_cases z1 : b = e
          · subst z1
            rw [Heap.get?_update_self _ he rfl] at q'
            cases q'
            exact he2
          · rw [Heap.get?_update_ne _ _ _ _ z1] at q'
            exact (sb'.2 b z1).trans (kk b v z1 z2 q')
      · exact ⟨by show 2 ≤ sizeLine; decide, [.int i s.toks, u], .cons ⟨_, rfl⟩ (.cons ru .nil), ⟨_, ht2, rfl, _, rfl⟩⟩
    · have nb : b ≠ s.heap.objs.size := by
        have e' : b = e ∨ b = it := by simpa using hb
        rcases e' with rfl | rfl
        · exact Nat.ne_of_lt (Heap.lt_size he)
        · exact Nat.ne_of_lt (Heap.lt_size hoi)
      rw [upd_ne nb]
      exact (hf b hb).1
  done := by
    intro X hP hw hK hc i pins s σ H E I hf st hg
    subst hP hw hK
    obtain ⟨xs, hq, hx⟩ := hg
    obtain ⟨its, rv, p, hz⟩ := I.list hq
    obtain ⟨⟨old, he⟩, hi⟩ := st
    obtain ⟨f0, f1, f2, f3, f4, f5⟩ := hf it (by simp)
    have hl := rv.length
    exact wpAny_pyNext_enum_end (I.ok.hd hc) he hi p.isList (by simp; omega) fun h' eb => ⟨rfl, I.turned (t' := s.toks) (fun b o hb e => eb b o hb e) f0 f1 f3 f4 f5⟩
  self := fun _ _ _ _ _ st h => wpAny_pyIter_enum st.1.choose_spec h
section
variable {X : Cx}
def iEnum (K : Frag) (ta : TA) : TI := fun σ H R => ta σ H fun vs H1 => ∃ a, vs = [.ref a] ∧ (∃ xs, SqL K H1 a xs) ∧ R (Ite K a) H1
theorem pi_enum {elts : List Expr} {x1} {pt : Pos} {a : Expr} {ta : TA} {p pos : Pos} (hg : Gl X "enumerate") (hm : X.mg "enumerate" = none) (ha : PA X [a] ta) (hs : starEach [a] X.env = [(false, eval a X.env)] := by rfl) : PI X (.Tuple elts x1 pt) (.Call (.Name "enumerate" p) [a] [] pos) (iEnum X.K ta) := by
  intro pins s σ H R I h
  refine Call_ (ld_blt I hg hm boot_enumerate (PyProof.Rows.callWith_type1 (thn (ha pos pins s σ H _ I h) fun us s1 ⟨vs, H1, I1, r1, q1⟩ => ?_) hs rfl))
  obtain ⟨l, rfl, ⟨xs, hq⟩, q⟩ := q1
  cases r1 with
  | cons r rr =>
    cases rr
    cases r
    obtain ⟨its, rv, p', hz⟩ := I1.list hq
    refine call_enumerate_list p'.isList fun h' he hi hsz kk => ?_
    refine wpAny_pyIter_enum he ?_
    refine ⟨s1.heap.objs.size + 1, [s1.heap.objs.size + 1, s1.heap.objs.size], _, _, H1, rfl, I1.kept (t' := s1.toks) kk, turn_enum l _ _ (Nat.succ_ne_self _), ⟨⟨_, he⟩, hi⟩, fun b hb => ?_, q⟩
    have e : b = s1.heap.objs.size + 1 ∨ b = s1.heap.objs.size := by simpa using hb
    have le : s1.heap.objs.size ≤ b := by
      rcases e with rfl | rfl
      · exact Nat.le_succ _
      · exact Nat.le_refl _
    exact I1.fpOk le (I1.hok.fresh le)
end
theorem for_enum {K : Frag} {a : Addr} {xs : List V} {g : TG} {tb : TS} {D : Ends} {σ : St} {H : Hp} (Pv : Nat → St → Hp → Prop) (h0 : Pv 0 σ H) (hl : ∀ i σ H, i ≤ xs.length → Pv i σ H → SqL K H a xs)
    (hs : ∀ i x σ H p, xs[i]? = some x → Pv i σ H → H p = none → g (.ref p) σ (upd H p (.tup [.int i, x])) fun σ2 H2 => tb { D with nx := Pv (i + 1), ct := Pv (i + 1), bk := D.nx } σ2 H2) (hd : ∀ σ H, Pv xs.length σ H → D.nx σ H) :
    ∃ W : Nat → Nat → St → Hp → Prop, (∃ m, W 0 m σ H) ∧ ∀ i m σ H, W i m σ H →
      ((Ite K a).stop i H ∧ D.nx σ H) ∨ ((Ite K a).go i H ∧ ∃ N : St → Hp → Prop, (∀ σ' H', N σ' H' → ∃ m', m' < m ∧ W (i + 1) m' σ' H') ∧ ∀ x H', (Ite K a).yld i H x H' → g x σ H' fun σ2 H2 => tb { D with nx := N, ct := N, bk := D.nx } σ2 H2) := by
  refine ⟨fun i m σ H => m = xs.length - i ∧ i ≤ xs.length ∧ Pv i σ H, ⟨xs.length, by simp, Nat.zero_le _, h0⟩, ?_⟩
  rintro i m σ H ⟨rfl, hi, p⟩
  have q := hl i σ H hi p
  by_cases hlt : i < xs.length
  · refine .inr ⟨⟨xs, xs[i], q, List.getElem?_eq_getElem hlt⟩, Pv (i + 1), fun σ' H' n => ⟨xs.length - (i + 1), by omega, rfl, hlt, n⟩, ?_⟩
    rintro x H' ⟨p', y, rfl, hp, rfl, hy⟩
    exact hs i y σ H p' (hy xs q) p hp
  · have e : i = xs.length := by omega
    subst e
    exact .inl ⟨⟨xs, q, Nat.le_refl _⟩, hd σ H p⟩
end My
set_option Elab.async false
set_option linter.all false
set_option maxRecDepth 100000
set_option maxHeartbeats 4000000
namespace My
open PySem L2
section
variable {prog : Program} {w : World} {A : Around} {R : Result → Shared → Prop} {s : Shared}
theorem compLoopT {elt target iter : Expr} {scope : Scope} {pos : Pos} {it acc : Value} {env : Env} (J : Nat → Shared → Prop)
    (turn : ∀ n s, J n s → wpAny (model prog w) A (pyNext it) (fun r s₁ => match r with
      | none => R (.ok .next) s₁
      | some v => wpAny (model prog w) A (letOwnedTupleGo target it v) (fun _ s₂ => wpAny (model prog w) A (assign target env v) (fun _ s₃ => wpAny (model prog w) A (eval elt env)
          (fun x s₄ => wpAny (model prog w) A (call (.builtin "list.append") [acc, x]) (fun _ s₅ => ∃ m, m < n ∧ J m s₅) (fun _ _ => False) s₄) (fun _ _ => False) s₃) (fun _ _ => False) s₂) (fun _ _ => False) s₁) (fun _ _ => False) s)
    (n : Nat) (h : J n s) : codeAny (model prog w) A (.compLoop (.ListComp elt [⟨target, iter, [], 0⟩] scope pos) 0 it acc env) R s := by
  refine codeAny_loop rfl J (fun n s hJ => ?_) n h
  show wpAny _ _ (Sem.onRaise (compTurn (.ListComp elt [⟨target, iter, [], 0⟩] scope pos) 0 it acc env) (fun x => do noteFrame x env; theTreesLotGoes x)) _ _ s
  refine wpAny_noted ?_
  rw [compTurn_list1]
  refine wpAny_bind (wpAny_standAt (wpAny_bind (wpAny_mono (turn n s hJ) (fun r s₁ h₁ => ?_) fun _ _ z => z.elim)))
  cases r with
  | none => exact wpAny_pure h₁
  | some v =>
    refine wpAny_bind (wpAny_mono h₁ (fun _ s₂ h₂ => ?_) fun _ _ z => z.elim)
    refine wpAny_bind (wpAny_mono h₂ (fun _ s₃ h₃ => ?_) fun _ _ z => z.elim)
    refine wpAny_bind (wpAny_bind (wpAny_mono h₃ (fun x s₄ h₄ => ?_) fun _ _ z => z.elim))
    refine wpAny_bind (wpAny_mono h₄ (fun _ s₅ h₅ => wpAny_pure (wpAny_pure ⟨rfl, h₅⟩)) fun _ _ z => z.elim)
end
def compCx (X : Cx) (sc : Scope) (cl : List (Str × Addr)) (N : List Str) (s : Shared) (H : Hp) (C : Addr) (fp : List Addr) : Cx where
  prog := X.prog
  w := X.w
  K := X.K
  mg := X.mg
  base := X.base
  A := X.A
  N := N
  s₀ := s
  H₀ := H
  env := compEnvC sc cl C X.env
  outer := X.stack
  stack := X.stack
  ex := fp
  fn := fun _ => false
  calm := X.calm
  pn := []
  xe := fun _ _ => False
def capS (js : List Nat) (σ : St) : St := js.map fun j => (σ[j]?).join
section
variable {X : Cx} {pins : List (Addr × Obj)} {σ : St} {H : Hp} {s : Shared} {sc : Scope} {cl : List (Str × Addr)} {x : Str} {zs : List Str} {js : List Nat} {C : Addr} {fp : List Addr}
end
section
variable {X : Cx} {sc : Scope} {cl : List (Str × Addr)} {x : Str} {zs : List Str} {js : List Nat} {elt iter : Expr} {px pos : Pos} {wi : TI} {te : TE}
end
end My
set_option Elab.async false
set_option linter.all false
set_option maxRecDepth 100000
set_option maxHeartbeats 1000000
namespace My
open PySem PySem.W L2
section
variable {K : Frag} {te : TE} {cap : St} {D : Addr} {H1 : Hp} {Q : Hp → Prop}
end
end My
set_option Elab.async false
set_option linter.all false
set_option maxRecDepth 100000
set_option maxHeartbeats 4000000
namespace My
open PySem L2 PySem.Calls PyProof.Rows
open PySem.Builtin.Str (occurrences partsBetween strSub)
section
variable {X : Cx}
section
variable {P : Program} {w : World} {K : PySem.W.Frag} {tg : Expr}
end
end
end My
set_option Elab.async false
set_option linter.all false
set_option maxRecDepth 100000
set_option maxHeartbeats 4000000
namespace My
open PySem L2
section
variable {prog : Program} {w : World} {A : Around} {R : Result → Shared → Prop} {s : Shared}
end
section
variable {X : Cx} {sc : Scope} {cl : List (Str × Addr)} {x : Str} {zs : List Str} {js : List Nat} {elt iter c : Expr} {px pos : Pos} {wi : TI} {te : TE} {tt : TT}
end
end My
set_option Elab.async false
set_option linter.all false
set_option maxRecDepth 100000
set_option maxHeartbeats 4000000
namespace My
open PySem L2
structure CompG (X : Cx) (sc : Scope) (cl : List (Str × Addr)) (ts zs : List Str) (js : List Nat) : Prop where
  clos : closureFor sc X.env = pure cl
  kind : sc.kind = .function
  noCell : ∀ y ∈ sc.names, y.2 ≠ .cell
  names : ∀ y ∈ sc.names, y.2 = .local → sc.names.lookup y.1 = some .local
  var : ∀ x ∈ ts, sc.names.lookup x = some .local
  sub : ∀ z c, cl.lookup z = some c → X.env.cells.lookup z = some c
  has : ∀ z, ((relabel sc X.env).names.lookup z = some .cell ∨ (relabel sc X.env).names.lookup z = some .free) → ∃ c, cl.lookup z = some c
  nd : (ts ++ zs).Nodup
  cap : ∀ (k : Nat) (z : Str), zs[k]? = some z → ∃ j : Nat, js[k]? = some j ∧ X.N[j]? = some z ∧ Vis X.env.scope z ∧ X.env.kindOf z ≠ some .local ∧
    ((relabel sc X.env).names.lookup z = some .cell ∨ (relabel sc X.env).names.lookup z = some .free)
  len : js.length = zs.length
def tLCG (wi : TI) (k : Nat) (js : List Nat) (g : TG) (te : TE) : TE := fun σ H Q => wi σ H fun J H1 => ∀ D, H1 D = none → ∃ W : Nat → Nat → List V → Hp → Prop, (∃ m, W 0 m [] (upd H1 D (.lst []))) ∧
  ∀ i m ys H2, W i m ys H2 → H2 D = some (.lst ys) ∧ ((J.stop i H2 ∧ Q (.ref D) H2) ∨ (J.go i H2 ∧ ys.length < sizeLine ∧
    ∀ x H3, J.yld i H2 x H3 → ∀ os : St, os.length = k → g x (os ++ capS js σ) H3 fun σ2 H0 => (∃ os' : St, os'.length = k ∧ σ2 = os' ++ capS js σ) ∧ te σ2 H0 fun y H4 => H4 D = some (.lst ys) ∧ ∃ m', m' < m ∧ W (i + 1) m' (ys ++ [y]) (upd H4 D (.lst (ys ++ [y])))))
section
variable {X : Cx} {pins : List (Addr × Obj)} {σ : St} {H : Hp} {s : Shared} {sc : Scope} {cl : List (Str × Addr)} {ts zs : List Str} {js : List Nat} {C : Addr} {fp : List Addr}
theorem compG_ok (I : Inv X pins σ H s) (S : CompG X sc cl ts zs js) (hf : ∀ b ∈ fp, FpOk X pins H b ∧ b < s.heap.objs.size) (hC : s.heap.objs.size ≤ C) : (compCx X sc cl (ts ++ zs) s H C fp).Ok := by
  refine ⟨I.ok.mod, S.kind, I.ok.glob, I.ok.blt, hC, fun y z c h1 h2 => I.ok.inj y z c (S.sub _ _ h1) (S.sub _ _ h2), fun z h => S.has z h, (fun _ _ h => nomatch h), I.ok.hd, I.ok.frames, .inl rfl, fun b hb => ?_, I.bs, ?_, fun b o e hb => ?_, fun b hb hs => ?_, I.stack, I.stkFree⟩
  · obtain ⟨⟨_, h1, _, _, h4, _⟩, h6⟩ := hf b hb
    exact ⟨fun e => absurd h6 (Nat.not_lt.mpr (by rw [show b = C from e]; exact hC)), fun z c e => h4 z c (S.sub _ _ e)⟩
  · exact Nat.le_trans I.ok.bsz I.sz
  · obtain ⟨⟨_, _, _, h3, _⟩, _⟩ := hf b hb
    rcases h3 with h | h
    · exact I.ok.noex b o e h
    · exact absurd (Heap.lt_size e) (Nat.not_lt.mpr (Nat.le_trans I.ok.bsz h))
  · obtain ⟨⟨_, h1, h2, _⟩, _⟩ := hf b hb
    rcases List.mem_cons.mp (I.stkSub b hs) with e | e
    · exact h1 e
    · exact h2 e
theorem compG_start {s1 : Shared} (I : Inv X pins σ H s) (S : CompG X sc cl ts zs js) (hf : ∀ b ∈ fp, FpOk X pins H b ∧ b < s.heap.objs.size) (hC : s.heap.objs.size ≤ C) (ho : s1.os = s.os) (hg : s1.gens = s.gens)
    (hk : ∀ b o, s.heap.get? b = some o → s1.heap.get? b = some o) {m : Str → Option Value} (hn : s1.heap.Ns C m) : Inv (compCx X sc cl (ts ++ zs) s H C fp) [] (List.replicate ts.length none ++ capS js σ) H s1 := by
  refine ⟨compG_ok I S hf hC, ho, by rw [hg]; exact I.bare, Un.kept hk, ⟨m, hn, fun i y v h1 h2 h3 => ?_⟩, fun z c e => ?_, I.hok.fresh hC, fun z c e => I.freeC z c (S.sub _ _ e), fun p hp => absurd (show p ∈ ([] : List (Addr × Obj)) from hp) (by simp), I.hok.kept hk, ?_⟩
  · rcases Nat.lt_or_ge i ts.length with lt | ge
    · rw [List.getElem?_append_left (by rw [List.length_replicate]; exact lt), List.getElem?_replicate, if_pos lt] at h2
      cases h2
    · have h1' : zs[i - ts.length]? = some y := by
        have h1'' : (ts ++ zs)[i]? = some y := h1
        rw [List.getElem?_append_right ge] at h1''
        exact h1''
      obtain ⟨j, hj, hN, hv, nl, k'⟩ := S.cap _ y h1'
      have h2' : (capS js σ)[i - ts.length]? = some (some v) := by
        rw [List.getElem?_append_right (by rw [List.length_replicate]; exact ge), List.length_replicate] at h2
        exact h2
      have h5 : σ[j]? = some (some v) := by
        unfold capS at h2'
        rw [List.getElem?_map, hj] at h2'
        have h6 : (σ[j]?).join = some v := Option.some.inj h2'
        cases e : σ[j]? with
        | none => rw [e] at h6; cases h6
        | some o => rw [e] at h6; exact congrArg some h6
      obtain ⟨m0, hn0, hl⟩ := I.loc
      obtain ⟨u, ru, lk⟩ := hl j y v hN h5 hv
      refine ⟨u, ru, ?_⟩
      rcases lk with ⟨k1, _⟩ | ⟨_, c, ec, hc⟩
      · exact absurd k1 nl
      · obtain ⟨c', ec'⟩ := S.has y k'
        have e2 := S.sub _ _ ec'
        rw [ec] at e2
        cases e2
        exact .inr ⟨k', c, ec', hc.keeps hk⟩
  · obtain ⟨v, hv⟩ := I.cell z c (S.sub _ _ e)
    exact ⟨v, hv.keeps hk⟩
  · show (List.replicate ts.length none ++ capS js σ : St).length = (ts ++ zs).length
    unfold capS
    rw [List.length_append, List.length_append, List.length_map, List.length_replicate, S.len]
theorem compG_end {s1 : Shared} {σ' : St} {H' : Hp} {h' : Heap} (I : Inv X pins σ H s) (hf : ∀ b ∈ fp, FpOk X pins H b ∧ b < s.heap.objs.size) (hC : s.heap.objs.size ≤ C) (J : Inv (compCx X sc cl (ts ++ zs) s H C fp) [] σ' H' s1)
    (hs : Heap.SameBut C s1.heap h') : Inv X pins σ H' { s1 with heap := h' } := by
  have old : ∀ b o, s1.heap.get? b = some o → b ≠ C → h'.get? b = some o := fun b o e n => (hs.2 b n).trans e
  have lt : ∀ {b o}, s.heap.get? b = some o → b ≠ C := fun {b o} e z => by
    have q := Heap.lt_size e
    rw [z] at q
    exact absurd q (Nat.not_lt.mpr hC)
  have B := J.base
  refine I.call' (s' := { s1 with heap := h' }) (ch := fp) J.os ⟨fun b o e n hb hx => old b o (B.keep b o e n hb hx) (lt e), fun b o e n hb hx => ?_, B.free, fun b o e hx => ?_, B.tups, B.frzs, B.tbls, B.sys⟩ (fun b o e => ?_) J.bare fun b hb => ?_
  · obtain ⟨sl, q⟩ := B.slot b o e n hb hx
    exact ⟨sl, old _ _ q (lt e)⟩
  · obtain ⟨o', q⟩ := B.there b o e hx
    exact ⟨o', old _ _ q (lt e)⟩
  · have nC : ∀ c u, H' c = some u → c ≠ C := fun c u q z => by
      have f : H' C = none := J.free
      rw [z, f] at q; cases q
    refine (J.hok b o e).stay (fun c v hc q => old c v q ?_) (fun _ q => q) fun _ _ q => q
    rcases hc with rfl | hc
    · exact nC _ _ e
    · exact nC _ _ hc
  · obtain ⟨⟨_, h1, _, h3, h4, h5⟩, _⟩ := hf b hb
    exact ⟨h3, h1, h4, h5⟩
end
section
variable {X : Cx} {sc : Scope} {cl : List (Str × Addr)} {ts zs : List Str} {js : List Nat} {elt iter : Expr} {pos : Pos} {tg : Expr} {g : TG} {wi : TI} {te : TE}
theorem pe_lcG (hc : X.calm = true) (S : CompG X sc cl ts zs js) (hi : PI X tg iter wi) (hg : ∀ s H C fp, PG (compCx X sc cl (ts ++ zs) s H C fp) tg g) (he : ∀ s H C fp, PE (compCx X sc cl (ts ++ zs) s H C fp) elt te)
    (hs : ∀ v, foldedSetIterable iter X.env v = pure v := by intro _; rfl) : PE X (.ListComp elt [⟨tg, iter, [], 0⟩] sc pos) (tLCG wi ts.length js g te) := by
  intro pins s σ H Q I h
  rw [eval_ListComp]
  refine wpAny_comprehension_free (use := none) rfl hs S.clos S.kind S.names (thn (hi pins s σ H _ I h) fun v s1 h1 => thn h1 fun itv s2 h2 => ?_)
  obtain ⟨it, fp, tn, J, H2, e, I2, T, st2, f2, body⟩ := h2
  subst e
  have fr2 : H2 s2.heap.objs.size = none := I2.fresh
  obtain ⟨W, ⟨m0, w0⟩, turn⟩ := body _ fr2
  refine wpAny_newObj_type ?_
  have I3 : Inv X pins σ (upd H2 s2.heap.objs.size (.lst [])) { s2 with heap := s2.heap.push { cls := .type "list", data := .seq ([] : List Value).toArray } } := I2.lnew (t' := s2.toks) (ys := []) (its := []) .nil (Nat.zero_le _)
  refine wpAny_newFunctionEnv S.noCell (by intro y hy; simp at hy) (fun h₁ hn hsb => ?_) S.kind
  generalize hs3 : ({ s2 with heap := s2.heap.push { cls := .type "list", data := .seq ([] : List Value).toArray } } : Shared) = s3 at I3 hn hsb ⊢
  have fpl : ∀ b ∈ fp, FpOk X pins (upd H2 s2.heap.objs.size (.lst [])) b ∧ b < s3.heap.objs.size := fun b hb => by
    obtain ⟨o, ho, _⟩ := T.obj _ _ st2 b hb
    have hl := Heap.lt_size ho
    have hne : b ≠ s2.heap.objs.size := Nat.ne_of_lt hl
    obtain ⟨z1, z2⟩ := f2 b hb
    refine ⟨⟨by rw [upd_ne hne]; exact z1, z2⟩, ?_⟩
    rw [← hs3]
    show b < (s2.heap.push _).objs.size
    rw [Heap.size_push]
    exact Nat.lt_succ_of_lt hl
  have old : ∀ b o, s3.heap.get? b = some o → h₁.get? b = some o := fun b o e => hsb.extBut b o (Nat.ne_of_lt (Heap.lt_size e)) (Heap.get?_push_of_some _ e)
  have loop : ∀ sS : Shared, sS.heap = h₁ → sS.os = s3.os → sS.gens = s3.gens → codeAny (model X.prog X.w) X.A (.compLoop (.ListComp elt [⟨tg, iter, [], 0⟩] sc pos) 0 (.ref it) (.ref s2.heap.objs.size) (compEnvC sc cl s3.heap.objs.size X.env))
      (compPost (model X.prog X.w) X.A X.xe none (EP X pins σ Q) (.ref s2.heap.objs.size) s3.heap.objs.size) sS := by
    intro sS eh eo eg
    subst eh
    have J0 : Inv (compCx X sc cl (ts ++ zs) s3 (upd H2 s2.heap.objs.size (.lst [])) s3.heap.objs.size fp) [] (List.replicate ts.length none ++ capS js σ) (upd H2 s2.heap.objs.size (.lst [])) sS := compG_start I3 S fpl (Nat.le_refl _) eo eg old hn
    generalize hX : compCx X sc cl (ts ++ zs) s3 (upd H2 s2.heap.objs.size (.lst [])) s3.heap.objs.size fp = X' at J0
    have stat : ∀ {H' : Hp}, (∀ b ∈ fp, H' b = none) → ∀ b ∈ fp, FpOk X' [] H' b := fun {H'} hn b hb => by
      subst hX
      obtain ⟨⟨_, z1, z2, z3, z4, z5⟩, z6⟩ := fpl b hb
      refine ⟨hn b hb, Nat.ne_of_lt z6, fun q => ?_, .inl hb, fun y c e => z4 y c (S.sub _ _ e), fun p hp => absurd (show p ∈ ([] : List (Addr × Obj)) from hp) (by simp)⟩
      rcases List.mem_cons.mp (I3.stkSub b q) with e | e
      · exact z1 e
      · exact z2 e
    have st3 : tn 0 sS.heap := T.keep _ _ _ st2 fun b hb o e => old b o (by rw [← hs3]; exact Heap.get?_push_of_some _ e)
    refine compLoopT (fun n s' => ∃ i ys os H', os.length = ts.length ∧ Inv X' [] (os ++ capS js σ) H' s' ∧ tn i s'.heap ∧ (∀ b ∈ fp, H' b = none) ∧ W i n ys H') ?_ m0 ⟨0, [], _, _, List.length_replicate, J0, st3, fun b hb => (fpl b hb).1.1, w0⟩
    rintro n s' ⟨i, ys, os, H', los, Iv, st, fr, w⟩
    obtain ⟨hD, alt⟩ := turn i n ys H' w
    have eP : X'.prog = X.prog := by subst hX; rfl
    have eW : X'.w = X.w := by subst hX; rfl
    have eK : X'.K = X.K := by subst hX; rfl
    have eC : X'.calm = true := by subst hX; exact hc
    have eA : X'.A = X.A := by subst hX; rfl
    have eE : X'.env = compEnvC sc cl s3.heap.objs.size X.env := by subst hX; rfl
    have eX : X'.xe = fun _ _ => False := by subst hX; rfl
    rcases alt with ⟨stop, q⟩ | ⟨go, hlen, step⟩
    · have d := T.done X' eP eW eK eC i [] s' _ H' (fun _ _ => False) Iv (stat fr) st stop
      rw [eA] at d
      refine thn d fun r s4 ⟨hr, I4⟩ => ?_
      subst hr
      obtain ⟨m, hm, _⟩ := id I4.loc
      rw [eE] at hm
      subst hX
      exact ⟨m, hm, fun h' hs' => ⟨.ref s2.heap.objs.size, H', compG_end I3 fpl (Nat.le_refl _) I4 hs', rfl, q⟩⟩
    · have d := T.item X' eP eW eK eC i [] s' _ H' (fun _ _ => False) Iv (stat fr) st go
      rw [eA] at d
      refine thn d fun r s4 ⟨u, hr, h4⟩ => ?_
      subst hr
      refine thn h4 fun _ s5 ⟨y, H5, I5, r5, y5, st5, fr5⟩ => ?_
      have I5' := I5.pinned (stat fr5) (T.obj _ _ st5)
      have hg' : PG X' tg g := by subst hX; exact hg _ _ _ _
      have g6 := hg' _ s5 _ H5 y u _ I5' r5 (step y H5 y5 os los)
      rw [eP, eW, eA, eE, eX] at g6
      refine thn g6 fun _ s6 ⟨σ6, H6, I6, ⟨os', los', e6⟩, st6⟩ => ?_
      subst e6
      have he' : PE X' elt te := by subst hX; exact he _ _ _ _
      have g7 := he' _ s6 _ H6 _ I6 st6
      rw [eP, eW, eA, eE, eX] at g7
      refine thn g7 fun uv s7 ⟨v7, H7, I7, r7, hD7, m', hm', w7⟩ => ?_
      have g8 := (mt_append (X := X')) _ s7 _ H7 (.ref s2.heap.objs.size) [v7] (.ref s2.heap.objs.size) [uv] (fun _ H8 => H8 = upd H7 s2.heap.objs.size (.lst (ys ++ [v7]))) I7 rfl (.cons r7 .nil) ⟨_, ys, v7, rfl, rfl, hD7, hlen, rfl⟩
      rw [eP, eW, eA, eX] at g8
      refine thn g8 fun _ s8 ⟨_, H8, I8, _, e8⟩ => ?_
      subst e8
      refine ⟨m', hm', i + 1, ys ++ [v7], os', _, los', I8.unpinned, T.keep _ _ _ st5 fun b hb o e => (I8.pin (b, o) (List.mem_append_right _ (List.mem_append_right _ (mem_pinsAt hb e)))).1, fun b hb => ?_, w7⟩
      obtain ⟨o', e', _⟩ := T.obj _ _ st5 b hb
      exact (I8.pin (b, o') (List.mem_append_right _ (List.mem_append_right _ (mem_pinsAt hb e')))).2.1
  have st1 : tn 0 h₁ := T.keep _ _ _ st2 fun b hb o e => old b o (by rw [← hs3]; exact Heap.get?_push_of_some _ e)
  exact codeAny_compStart_list (loop _ rfl rfl rfl) (T.self _ 0 _ _ _ st1 (loop _ rfl rfl rfl))
end
section
variable {X : Cx} {sc : Scope} {cl : List (Str × Addr)} {ts zs : List Str} {js : List Nat} {elt iter c : Expr} {pos : Pos} {tg : Expr} {g : TG} {wi : TI} {te : TE} {tt : TT}
end
end My
set_option Elab.async false
set_option linter.all false
set_option maxRecDepth 100000
set_option maxHeartbeats 1000000
namespace My
open PySem PySem.W L2
section
variable {X : Cx} {CX : CXT} {k : Nat} {f D : Addr} {fd : FuncData} {ps : List Str} {sp : Sp} {E : XK} {x m : Str} {p pos apos : Pos} {e : Expr} {es : List Expr} {t : TA} {dvs : List V} {ds : List Value}
end
end My
set_option Elab.async false
set_option linter.all false
set_option maxRecDepth 100000
set_option maxHeartbeats 4000000
namespace My
open PySem L2
open PySem.Builtin.Str (occurrences partsBetween strSub)
abbrev cs (z : Str) : List Nat := z.cps.toList
abbrev val (L : List Nat) : Nat := NumText.digitsVal L
abbrev tx (n : Nat) : Str := Str.ofString (toString ((n : Nat) : Int))
end My
set_option Elab.async false
set_option linter.all false
set_option maxRecDepth 100000
set_option maxHeartbeats 1000000
namespace My
open PySem PySem.W L2
theorem itT {A B : Prop} (h : A) : if true = true then A else B := by rw [if_pos rfl]; exact h
theorem itF {A B : Prop} (h : B) : if false = true then A else B := by rw [if_neg (by decide)]; exact h
def Ext (H H' : Hp) : Prop := ∀ b o, H b = some o → H' b = some o
theorem Ext.refl (H : Hp) : Ext H H := fun _ _ h => h
theorem Ext.trans {H H1 H2 : Hp} (a : Ext H H1) (b : Ext H1 H2) : Ext H H2 := fun x o h => b x o (a x o h)
theorem Ext.new {H : Hp} {p : Addr} {o : HO} (h : H p = none) : Ext H (upd H p o) := fun b u e => by rw [upd_ne (ne_of_none e h)]; exact e
theorem SqT.ext {K : Frag} {H H' : Hp} {p : Addr} {xs : List V} (h : SqT K H p xs) (e : Ext H H') : SqT K H' p xs := by
  rcases h with h | h
  · left
    rcases h with h | ⟨o, h⟩
    · exact .inl (e _ _ h)
    · exact .inr ⟨o, e _ _ h⟩
  · exact .inr h
theorem pe_ty {X : Cx} {x : Str} {n : String} {pos : Pos} (hg : Gl X x) (hm : X.mg x = none) (hv : bootBuiltins x = some (.type n)) (hn : x ≠ "__name__" := by decide +kernel) (hd : (x == ("__debug__" : Str)) = false := by decide) : PE X (.Name x pos) (tC (.ty n)) :=
  pe_bltn hg hm hv (show RelV (.ty n) (.type n) from rfl) hn hd
def Kd (K : Frag) (H : Hp) (x : V) (t : Value) : Prop := TyOf K H x t ∨ (∃ p xs, x = .ref p ∧ SqT K H p xs ∧ t = .type "tuple") ∨ (∃ a C, x = .ref a ∧ ErrAt H a C ∧ ErrI K C ∧ t = .ref C)
def rIsK (K : Frag) : List V → Hp → VK → Prop := fun vs H Q => ∃ x n t b, vs = [x, .ty n] ∧ Kd K H x t ∧ kitOne K t (.type n) = some b ∧ Q (.bl b) H
theorem call_isK {X : Cx} (N : IsT X.K) : CallR X (.builtin "isinstance") (rIsK X.K) := by
  intro pins s σ H xs us Q I r h
  obtain ⟨x, n, t, b, rfl, kd, e, q⟩ := h
  obtain ⟨u, u', rfl, ru, ru'⟩ := vals2 r
  cases (show u' = Value.type n from ru')
  rcases kd with ty | ⟨p, ys, rfl, hq, rfl⟩ | ⟨a, C, rfl, ea, T, rfl⟩
  · exact isinst_ok I ru ty e fun tk => ⟨.bl b, H, I.tok _, rfl, q⟩
  · cases (show u = Value.ref p from ru)
    obtain ⟨its, _, ⟨o, h1, h2, _⟩, _⟩ := I.tuple hq
    exact kia_one kitx_tuple I.kIn ⟨o, h1, h2⟩ e (fun z => nomatch z) fun tk => ⟨.bl b, H, I.tok _, rfl, q⟩
  · cases (show u = Value.ref a from ru)
    exact kia_one (kitErr T N.gt N.tk) I.kIn (ea.inst I.hok) e (fun z => nomatch z) fun tk => ⟨.bl b, H, I.tok _, rfl, q⟩
section
variable {P : Program} {w : World} {K : Frag} {mg : Str → Option Value} {base : Heap}
theorem k_ii : kitOne K (.type "int") (.type "int") = some true := rfl
theorem k_ib : kitOne K (.type "int") (.type "bool") = some false := rfl
end
end My
set_option Elab.async false
set_option linter.all false
set_option maxRecDepth 100000
set_option maxHeartbeats 1000000
namespace My
open PySem PySem.W L2
def FncO (f : Addr) (fd : FuncData) : HO := .ext fun h => h.get? f = some { cls := .type "function", data := .func fd }
def CodO (c : Addr) (q : Str) : HO := .ext fun h => h.CodeRec (.ref c) q
def CelO (c : Addr) (v : V) : HO := .ext fun h => ∃ u, RelV v u ∧ h.IsCell c (some u)
section
variable {P : Program} {w : World} {H : Hp} {h : Heap} {f c : Addr} {fd : FuncData} {q : Str} {v : V} {u : Value}
theorem fncO_ok (e : h.get? f = some { cls := .type "function", data := .func fd }) : ObjOk P w H h f (FncO f fd) := ⟨e, ⟨_, e⟩, fun h1 h2 p k => k _ p⟩
theorem codO_ok (e : h.CodeRec (.ref c) q) : ObjOk P w H h c (CodO c q) := by
  obtain ⟨c', o, vs, t, e0, e1, e2, e3⟩ := id e
  cases e0
  exact ⟨e, ⟨o, e1⟩, fun h1 h2 p k => by
    obtain ⟨c', o, vs, t, e0, e1, e2, e3⟩ := p
    cases e0
    exact ⟨_, o, vs, t, rfl, k _ e1, e2, e3⟩⟩
theorem celO_ok (r : RelV v u) (e : h.IsCell c (some u)) : ObjOk P w H h c (CelO c v) := by
  obtain ⟨o, e1, e2⟩ := id e
  exact ⟨⟨u, r, e⟩, ⟨o, e1⟩, fun h1 h2 p k => by
    obtain ⟨u, r, o, e1, e2⟩ := p
    exact ⟨u, r, o, k _ e1, e2⟩⟩
end
def ExtP (pl : Addr) (H H' : Hp) : Prop := ∀ b o, H b = some o → b ≠ pl → H' b = some o
def TblAt (H : Hp) (pl : Addr) (pos : Pos) (qual : Str) : Prop := H pl = some (.tbl #[]) ∨ ∃ c', H pl = some (.tbl #[rawInt pos.line, rawInt pos.col, .ref c']) ∧ H c' = some (CodO c' qual)
structure MkK (K : Frag) (mg : Str → Option Value) (c pl : Addr) : Prop where
  ch : ∀ h : Heap, K.In h → CodeHd h c pl
  ba : ∀ h : Heap, K.In h → h.BuiltinsAt mg pl
theorem among_one (pos : Pos) (c' : Addr) : codeAmong pos [rawInt pos.line, rawInt pos.col, .ref c'] = some (.ref c') := by
  simp [codeAmong, rawInt]
theorem triples_one (pos : Pos) (c' : Addr) : TriplesOk [rawInt pos.line, rawInt pos.col, .ref c'] := by
  simp [TriplesOk, rawInt]
theorem triples_nil : TriplesOk [] := by simp [TriplesOk]
theorem among_nil (pos : Pos) : codeAmong pos [] = none := by simp [codeAmong]
structure Made (H H' : Hp) (pl : Addr) (pos : Pos) (qual : Str) (f : Addr) (fd : FuncData) (c' : Addr) : Prop where
  ext : ExtP pl H H'
  new : H f = none
  fn : H' f = some (FncO f fd)
  cd : H' c' = some (CodO c' qual)
  tb : TblAt H' pl pos qual
section
variable {X : Cx} {pins : List (Addr × Obj)} {σ : St} {H : Hp} {s : Shared}
theorem mk_new {h1 : Heap} {pl c' : Addr} {pos : Pos} {qual : Str} {fd : FuncData} {tk : Nat} (I : Inv X pins σ H s) (e : H pl = some (.tbl #[])) (eb : Heap.ExtBut pl s.heap h1) (lc : s.heap.objs.size ≤ c') (cl : c' < h1.objs.size) (cr : h1.CodeRec (.ref c') qual) (et : h1.get? pl = some (tabObj #[rawInt pos.line, rawInt pos.col, .ref c'])) :
    ∃ H', Inv X pins σ H' { s with heap := h1.push { cls := .type "function", data := .func fd }, toks := tk } ∧ Made H H' pl pos qual h1.objs.size fd c' := by
  have lf : s.heap.objs.size ≤ h1.objs.size := Nat.le_trans lc (Nat.le_of_lt cl)
  have old : ∀ b o, b ≠ pl → s.heap.get? b = some o → (h1.push { cls := .type "function", data := .func fd }).get? b = some o := fun b o n q => Heap.get?_push_of_some _ (eb b o n q)
  have lt : ∀ b u, H b = some u → b < s.heap.objs.size := fun b u q => I.hok.lt q
  have ncf : c' ≠ h1.objs.size := Nat.ne_of_lt cl
  have plt := lt _ _ e
  have ncp : c' ≠ pl := Nat.ne_of_gt (Nat.lt_of_lt_of_le plt lc)
  have nfp : h1.objs.size ≠ pl := Nat.ne_of_gt (Nat.lt_of_lt_of_le plt lf)
  let H' : Hp := fun b => if b = h1.objs.size then some (FncO h1.objs.size fd) else if b = c' then some (CodO c' qual) else if b = pl then some (.tbl #[rawInt pos.line, rawInt pos.col, .ref c']) else H b
  have hf : H' h1.objs.size = some (FncO h1.objs.size fd) := if_pos rfl
  have hc : H' c' = some (CodO c' qual) := by show (if _ then _ else _) = _; rw [if_neg ncf, if_pos rfl]
  have hp : H' pl = some (.tbl #[rawInt pos.line, rawInt pos.col, .ref c']) := by show (if _ then _ else _) = _; rw [if_neg (Ne.symm nfp), if_neg (Ne.symm ncp), if_pos rfl]
  have ho : ∀ b, b < s.heap.objs.size → b ≠ pl → H' b = H b := fun b l n => by
    show (if _ then _ else _) = _
    rw [if_neg (Nat.ne_of_lt (Nat.lt_of_lt_of_le l lf)), if_neg (Nat.ne_of_lt (Nat.lt_of_lt_of_le l lc)), if_neg n]
  have np : ∀ b u, H b = some u → u ≠ .tbl #[] → b ≠ pl := fun b u q n z => by
    rw [z, e] at q
    exact n (Option.some.inj q).symm
  have keepH : ∀ b u, H b = some u → u ≠ .tbl #[] → H' b = some u := fun b u q n => by rw [ho b (lt b u q) (np b u q n)]; exact q
  have un : Un X.fs [] H H' s.heap (h1.push { cls := .type "function", data := .func fd }) := by
    have nn : ∀ b, H b = none → b ≠ pl := fun b q z => by rw [z, e] at q; cases q
    refine ⟨fun b o q n _ _ => old b o (nn b n) q, fun b o q n _ _ => ⟨o.slots, old b o (nn b n) q⟩, fun b o q n _ => ?_, fun b o q _ => ?_, fun b xs q => keepH b _ q (fun z => by cases z), fun b o u q => keepH b _ q (fun z => by cases z), fun b ps q => ?_, fun q => ?_⟩
    · rw [ho b (Heap.lt_size q) (nn b n)]; exact n
    · by_cases z : b = pl
      · subst z; exact ⟨_, Heap.get?_push_of_some _ et⟩
      · exact ⟨o, old b o z q⟩
    · by_cases z : b = pl
      · subst z
        rw [e] at q
        cases q
        exact ⟨#[rawInt pos.line, rawInt pos.col, .ref c'], by rw [hp]; simp⟩
      · exact ⟨#[], by rw [ho b (lt b _ q) z, q]; simp⟩
    · rw [ho _ I.big (nn _ q)]; exact q
  have hok : HOk X.prog X.w H' (h1.push { cls := .type "function", data := .func fd }) := fun b u q => by
    by_cases z1 : b = h1.objs.size
    · subst z1
      rw [hf] at q
      cases q
      exact fncO_ok (Heap.get?_push_size _ rfl)
    by_cases z2 : b = c'
    · subst z2
      rw [hc] at q
      cases q
      obtain ⟨c0, o, vs, t, e0, e1, e2, e3⟩ := cr
      cases e0
      exact codO_ok ⟨_, o, vs, t, rfl, Heap.get?_push_of_some _ e1, e2, e3⟩
    by_cases z3 : b = pl
    · subst z3
      rw [hp] at q
      cases q
      exact Heap.get?_push_of_some _ et
    have q' : H b = some u := by
      have : H' b = H b := by show (if _ then _ else _) = _; rw [if_neg z1, if_neg z2, if_neg z3]
      rw [← this]; exact q
    refine (I.hok b u q').stay (fun d v hd g => old d v ?_ g) (fun d g => keepH d _ g (fun z => by cases z)) fun d xs g => keepH d _ g (fun z => by cases z)
    rcases hd with rfl | hd
    · exact z3
    · exact np d _ hd (fun z => by cases z)
  refine ⟨H', I.un un hok, ⟨fun b o q n => by rw [ho b (lt b o q) n]; exact q, I.hok.fresh lf, hf, hc, .inr ⟨c', hp, hc⟩⟩⟩
theorem mk_hit {h1 : Heap} {pl c' : Addr} {pos : Pos} {qual : Str} {fd : FuncData} {tk : Nat} (I : Inv X pins σ H s) (e : H pl = some (.tbl #[rawInt pos.line, rawInt pos.col, .ref c'])) (ec : H c' = some (CodO c' qual)) (k : ∀ b o, s.heap.get? b = some o → h1.get? b = some o) (le : s.heap.objs.size ≤ h1.objs.size) :
    ∃ H', Inv X pins σ H' { s with heap := h1.push { cls := .type "function", data := .func fd }, toks := tk } ∧ Made H H' pl pos qual h1.objs.size fd c' := by
  have fr : H h1.objs.size = none := I.hok.fresh le
  have I1 : Inv X pins σ (upd H h1.objs.size (FncO h1.objs.size fd)) { s with heap := h1.push { cls := .type "function", data := .func fd }, toks := tk } := I.laid (fun b u q => Heap.get?_push_of_some _ (k b u q)) le (fncO_ok (Heap.get?_push_size _ rfl))
  have x : Ext H (upd H h1.objs.size (FncO h1.objs.size fd)) := Ext.new fr
  exact ⟨_, I1, ⟨fun b o q _ => x b o q, fr, upd_same, x _ _ ec, .inr ⟨c', x _ _ e, x _ _ ec⟩⟩⟩
theorem wp_mkDef {M : Model} {A : Around} {E : Value → Shared → Prop} {name qual : Str} {params : Arguments} {body : List Stmt} {scope : Scope} {c pl : Addr} {pos : Pos} {fl : Nat} {clos : List (Str × Addr)} {Q : Value → Shared → Prop} (I : Inv X pins σ H s) (hcd : X.env.code = .ref c) (Z : MkK X.K X.mg c pl) (tb : TblAt H pl pos qual) (hcl : closureFor scope X.env = pure clos)
    (h : ∀ f c' ctv doc pm H' s', Inv X pins σ H' s' → Made H H' pl pos qual f (fnX name qual params body scope clos .none .none doc pm none (.ref c') ctv) c' → Q (.ref f) s') : wpAny M A (makeFunction name qual params (.stmts body) scope X.env [] [] [] pos fl) Q E s := by
  have kin := I.kIn
  have ns := I.mod.glob.keeps I.bk
  rcases tb with e | ⟨c', e, ec⟩
  · have et : s.heap.get? pl = some (tabObj #[]) := I.hok pl _ e
    have nm : mainGlobals ≠ pl := fun z => by
      obtain ⟨o, _, _, ho, _⟩ := I.mod.glob
      have := (I.bs _ _ ho).2
      rw [z, e] at this
      cases this
    refine makeFunction_K hcl I.ok.glob ns hcd (Z.ch _ kin) et triples_nil (among_nil pos) nm (Z.ba _ kin) fun c' ctv doc h1 tk eb lc cl cr ht => ?_
    obtain ⟨H', I', m⟩ := mk_new (fd := fnX name qual params body scope clos .none .none doc ((X.mg (Str.ofString "__name__")).getD .none) none (.ref c') ctv) (tk := tk) I e eb lc cl cr (by simpa using ht)
    exact h _ c' ctv doc _ H' _ I' m
  · have et : s.heap.get? pl = some (tabObj #[rawInt pos.line, rawInt pos.col, .ref c']) := I.hok pl _ e
    refine makeFunction_hit hcl I.ok.glob ns hcd (Z.ch _ kin) et (triples_one pos c') (among_one pos c') (Z.ba _ kin) fun ctv doc h1 tk k le => ?_
    obtain ⟨H', I', m⟩ := mk_hit (fd := fnX name qual params body scope clos .none .none doc ((X.mg (Str.ofString "__name__")).getD .none) none (.ref c') ctv) (tk := tk) I e ec k le
    exact h _ c' ctv doc _ H' _ I' m
theorem wp_mkLam {M : Model} {A : Around} {E : Value → Shared → Prop} {name qual : Str} {params : Arguments} {body : Expr} {scope : Scope} {c pl : Addr} {pos : Pos} {fl : Nat} {clos : List (Str × Addr)} {Q : Value → Shared → Prop} (I : Inv X pins σ H s) (hcd : X.env.code = .ref c) (Z : MkK X.K X.mg c pl) (tb : TblAt H pl pos qual) (hcl : closureFor scope X.env = pure clos)
    (h : ∀ f c' ctv pm H' s', Inv X pins σ H' s' → Made H H' pl pos qual f (kla_fn name qual params body scope clos pm (.ref c') ctv) c' → Q (.ref f) s') : wpAny M A (makeFunction name qual params (.expr body) scope X.env [] [] [] pos fl) Q E s := by
  have kin := I.kIn
  have ns := I.mod.glob.keeps I.bk
  rcases tb with e | ⟨c', e, ec⟩
  · have et : s.heap.get? pl = some (tabObj #[]) := I.hok pl _ e
    have nm : mainGlobals ≠ pl := fun z => by
      obtain ⟨o, _, _, ho, _⟩ := I.mod.glob
      have := (I.bs _ _ ho).2
      rw [z, e] at this
      cases this
    refine kla_makeFunction hcl I.ok.glob ns hcd (Z.ch _ kin) et triples_nil (among_nil pos) nm (Z.ba _ kin) fun c' ctv h1 tk eb lc cl cr ht => ?_
    obtain ⟨H', I', m⟩ := mk_new (fd := kla_fn name qual params body scope clos ((X.mg (Str.ofString "__name__")).getD .none) (.ref c') ctv) (tk := tk) I e eb lc cl cr (by simpa using ht)
    exact h _ c' ctv _ H' _ I' m
  · have et : s.heap.get? pl = some (tabObj #[rawInt pos.line, rawInt pos.col, .ref c']) := I.hok pl _ e
    refine kla_makeFunctionHit hcl I.ok.glob ns hcd (Z.ch _ kin) et (triples_one pos c') (among_one pos c') (Z.ba _ kin) fun ctv h1 tk k le => ?_
    obtain ⟨H', I', m⟩ := mk_hit (fd := kla_fn name qual params body scope clos ((X.mg (Str.ofString "__name__")).getD .none) (.ref c') ctv) (tk := tk) I e ec k le
    exact h _ c' ctv _ H' _ I' m
end
end My
set_option Elab.async false
set_option linter.all false
set_option maxRecDepth 100000
set_option maxHeartbeats 1000000
namespace My
open PySem PySem.W L2
def hidC (H : Hp) (cs : List Addr) : Hp := fun b => if b ∈ cs then none else H b
def unhid (H : Hp) (cs : List Addr) (H' : Hp) : Hp := fun b => if b ∈ cs then H b else H' b
theorem hidC_in {H : Hp} {cs : List Addr} {b : Addr} (h : b ∈ cs) : hidC H cs b = none := if_pos h
theorem hidC_out {H : Hp} {cs : List Addr} {b : Addr} (h : b ∉ cs) : hidC H cs b = H b := if_neg h
theorem hidC_some {H : Hp} {cs : List Addr} {b : Addr} {o : HO} (h : hidC H cs b = some o) : b ∉ cs ∧ H b = some o := by
  unfold hidC at h
  split at h
  · cases h
  · rename_i n; exact ⟨n, h⟩
theorem hidC_ext {H H' : Hp} (cs : List Addr) (x : Ext H H') : Ext (hidC H cs) (hidC H' cs) := fun b o e => by
  obtain ⟨n, e⟩ := hidC_some e
  rw [hidC_out n]
  exact x b o e
theorem unhid_ext {H H' : Hp} {cs : List Addr} (x : Ext (hidC H cs) H') : Ext H (unhid H cs H') := fun b o e => by
  unfold unhid
  by_cases z : b ∈ cs
  · rw [if_pos z]; exact e
  · rw [if_neg z]; exact x b o (by rw [hidC_out z]; exact e)
def Cells (H : Hp) (cl : List (Str × Addr)) (cv : List (Str × V)) : Prop := cl.map (·.1) = cv.map (·.1) ∧ (∀ (i : Nat) x a y v, cl[i]? = some (x, a) → cv[i]? = some (y, v) → H a = some (CelO a v)) ∧ (cl.map (·.2)).Nodup ∧ (cl.map (·.1)).Nodup
theorem mem_ix {α : Type} {l : List α} {x : α} (h : x ∈ l) : ∃ i : Nat, l[i]? = some x := by
  obtain ⟨i, hi, e⟩ := List.getElem_of_mem h
  exact ⟨i, by rw [List.getElem?_eq_getElem hi, e]⟩
theorem lookup_ex {α : Type} {x : Str} {a : α} : ∀ {l : List (Str × α)}, (x, a) ∈ l → ∃ b, l.lookup x = some b
  | [], h => nomatch h
  | (y, b) :: l, h => by
    rw [List.lookup_cons]
    cases e : x == y with
    | true => exact ⟨b, rfl⟩
    | false =>
      rcases List.mem_cons.mp h with z | z
      · injection z with z1 z2
        rw [z1, beq_self_eq_true] at e
        cases e
      · exact lookup_ex z
section
variable {H : Hp} {cl : List (Str × Addr)} {cv : List (Str × V)}
theorem Cells.at (C : Cells H cl cv) {x : Str} {a : Addr} (h : cl.lookup x = some a) : ∃ v, (x, v) ∈ cv ∧ H a = some (CelO a v) := by
  obtain ⟨i, hi⟩ := mem_ix (PySem.mem_of_lookup h)
  have l : cl.length = cv.length := by have := congrArg List.length C.1; rwa [List.length_map, List.length_map] at this
  have li : i < cv.length := by have := (List.getElem?_eq_some_iff.mp hi).1; omega
  have e1 : (cl.map (·.1))[i]? = some x := by rw [List.getElem?_map, hi]; rfl
  rw [C.1, List.getElem?_map, List.getElem?_eq_getElem li] at e1
  have e2 : (cv[i]).1 = x := Option.some.inj e1
  have e3 := C.2.1 i x a (cv[i]).1 (cv[i]).2 hi (List.getElem?_eq_getElem li)
  exact ⟨(cv[i]).2, by rw [← e2]; exact List.getElem_mem li, e3⟩
theorem Cells.cel (C : Cells H cl cv) {a : Addr} (h : a ∈ cl.map (·.2)) : ∃ v, H a = some (CelO a v) := by
  obtain ⟨⟨x, a'⟩, hm, rfl⟩ := List.mem_map.mp h
  obtain ⟨i, hi⟩ := mem_ix hm
  have l : cl.length = cv.length := by have := congrArg List.length C.1; rwa [List.length_map, List.length_map] at this
  have li : i < cv.length := by have := (List.getElem?_eq_some_iff.mp hi).1; omega
  exact ⟨_, C.2.1 i x a' (cv[i]).1 (cv[i]).2 hi (List.getElem?_eq_getElem li)⟩
end
def cxC (P : Program) (w : World) (K : Frag) (mg : Str → Option Value) (base : Heap) (N : List Str) (qual : Str) (scope : Scope) (f : Addr) (cd : Value) (cl : List (Str × Addr)) (A : Around) (outer : List Env) (s : Shared) (H : Hp) : Cx where
  prog := P
  w := w
  K := K
  mg := mg
  base := base
  A := A.deeper (envX qual scope s.heap.objs.size f cd cl)
  N := N
  s₀ := s
  H₀ := H
  env := envX qual scope s.heap.objs.size f cd cl
  outer := outer
  stack := envX qual scope s.heap.objs.size f cd cl :: outer
  ex := []
  calm := true
  fn := fun _ => false
  pn := []
  xe := fun _ _ => False
structure ClScope (N : List Str) (p : Str) (zs : List Str) (sc : Scope) : Prop where
  kind : sc.kind = .function
  co : sc.isCoroutine = false
  gen : sc.isGenerator = false
  nd : N.Nodup
  pre : N[0]? = some p
  par : sc.names.lookup p = some .local
  nocell : ∀ y ∈ sc.names, y.2 ≠ .cell
  frees : ∀ x, sc.names.lookup x = some .free → x ∈ zs
  vis : ∀ z ∈ zs, sc.names.lookup z = some .free
section
variable {P : Program} {w : World} {K : Frag} {mg : Str → Option Value} {base : Heap} {N zs : List Str} {p qual : Str} {scope : Scope} {f c : Addr} {cl : List (Str × Addr)} {cv : List (Str × V)} {A : Around} {outer : List Env} {s : Shared} {H : Hp}
theorem env0_hid (e0 : Env0 P w K mg base A outer s H) (C : Cells H cl cv) : Env0 P w K mg base A outer s (hidC H (cl.map (·.2))) := by
  refine ⟨e0.frames, e0.mod, fun b o e => ⟨(e0.bs b o e).1, ?_⟩, e0.bsz, e0.funs, fun b hb => ?_, fun b o e => ?_, e0.bare⟩
  · unfold hidC; split
    · rfl
    · exact (e0.bs b o e).2
  · unfold hidC; split
    · rfl
    · exact e0.frf b hb
  · obtain ⟨n, e⟩ := hidC_some e
    refine (e0.hok b o e).stay (fun _ _ _ q => q) (fun d g => ?_) fun d xs g => ?_
    · rw [hidC_out (fun z => by obtain ⟨v, q⟩ := C.cel z; rw [g] at q; cases q)]; exact g
    · rw [hidC_out (fun z => by obtain ⟨v, q⟩ := C.cel z; rw [g] at q; cases q)]; exact g
theorem inv_clo {h1 : Heap} {tk : Nat} {vp : V} {up : Value} {σ : St} (S : ClScope N p zs scope) (hd : A.handled = none) (e0 : Env0 P w K mg base A outer s H) (C : Cells H cl cv) (hz : cl.map (·.1) = zs) (hv : RelV vp up) (hl : σ.length = N.length)
    (hσ : ∀ (i : Nat) x v, N[i]? = some x → σ[i]? = some (some v) → (x = p ∧ v = vp) ∨ (x, v) ∈ cv)
    (hn : h1.Ns s.heap.objs.size fun x => List.lookup x [(p, up)]) (sb : Heap.SameBut s.heap.objs.size (s.heap.push { cls := .type "frame", data := .dict #[] }) h1) :
    Inv (cxC P w K mg base N qual scope f (.ref c) cl A outer s (hidC H (cl.map (·.2)))) [] σ (hidC H (cl.map (·.2))) { s with heap := h1, toks := tk } := by
  have E := env0_hid e0 C
  have hk : ∀ b o, s.heap.get? b = some o → h1.get? b = some o := fun b o e => (sb.2 b (Nat.ne_of_lt (Heap.lt_size e))).trans (Heap.get?_push_of_some _ e)
  have noA : ∀ b : Addr, b ∉ (cxC P w K mg base N qual scope f (.ref c) cl A outer s (hidC H (cl.map (·.2)))).ex := fun b z => absurd (show b ∈ ([] : List Addr) from z) (by simp)
  have kin : ∀ {x : Str} {a : Addr}, cl.lookup x = some a → ∃ v u, (x, v) ∈ cv ∧ RelV v u ∧ s.heap.IsCell a (some u) := fun {x a} e => by
    obtain ⟨v, hm, q⟩ := C.at e
    obtain ⟨⟨u, r, z⟩, _⟩ := (show ObjOk P w H s.heap a (CelO a v) from e0.hok a _ q)
    exact ⟨v, u, hm, r, z⟩
  have uniq : ∀ {x : Str} {v v' : V}, (x, v) ∈ cv → (x, v') ∈ cv → v = v' := fun {x v v'} h1 h2 => by
    obtain ⟨i, hi⟩ := mem_ix h1
    obtain ⟨j, hj⟩ := mem_ix h2
    have nd : (cv.map (·.1)).Nodup := by rw [← C.1]; exact C.2.2.2
    have ei : (cv.map (·.1))[i]? = some x := by rw [List.getElem?_map, hi]; rfl
    have ej : (cv.map (·.1))[j]? = some x := by rw [List.getElem?_map, hj]; rfl
    have := nodup_ix nd ei ej
    subst this
    rw [hi] at hj
    injection hj with hj
    injection hj
  refine ⟨⟨E.mod, S.kind, rfl, rfl, Nat.le_refl _, fun y z a h1 h2 => ?_, fun y hy => ?_, (fun y a h _ => nomatch h), fun _ => hd, Around.frames_deeper E.frames, .inr ⟨rfl, rfl⟩, fun b z => absurd z (noA b), E.bs, E.bsz, fun b _ _ => noA b, fun b z => absurd z (noA b), E.funs, E.frf⟩,
    rfl, E.bare, Un.kept hk, ⟨_, hn, fun i y v h1 h2 h3 => ?_⟩, fun y a h => ?_, E.hok.fresh (Nat.le_refl _), fun y a h => ?_, fun p hp => absurd (show p ∈ ([] : List (Addr × Obj)) from hp) (by simp), E.hok.kept hk, hl⟩
  · have m1 : (y, a) ∈ cl := PySem.mem_of_lookup h1
    have m2 : (z, a) ∈ cl := PySem.mem_of_lookup h2
    obtain ⟨i, hi⟩ := mem_ix m1
    obtain ⟨j, hj⟩ := mem_ix m2
    have ei : (cl.map (·.2))[i]? = some a := by rw [List.getElem?_map, hi]; rfl
    have ej : (cl.map (·.2))[j]? = some a := by rw [List.getElem?_map, hj]; rfl
    have hij : i = j := by
      obtain ⟨k1, e1⟩ := List.getElem?_eq_some_iff.mp ei
      obtain ⟨k2, e2⟩ := List.getElem?_eq_some_iff.mp ej
      exact (List.getElem_inj C.2.2.1).mp (e1.trans e2.symm)
    subst hij
    rw [hi] at hj
    injection hj with hj
    injection hj
  · have hy : scope.names.lookup y = some .cell ∨ scope.names.lookup y = some .free := hy
    rcases hy with hy | hy
    · exact absurd rfl (S.nocell _ (PySem.mem_of_lookup hy))
    · have := S.frees y hy
      rw [← hz] at this
      obtain ⟨⟨y', a⟩, hm, rfl⟩ := List.mem_map.mp this
      exact lookup_ex hm
  · rcases hσ i y v h1 h2 with ⟨rfl, rfl⟩ | hm
    · exact ⟨up, hv, .inl ⟨S.par, by simp [List.lookup]⟩⟩
    · have hy : y ∈ cl.map (·.1) := by rw [C.1]; exact List.mem_map.mpr ⟨_, hm, rfl⟩
      obtain ⟨⟨y', a0⟩, hm0, e0'⟩ := List.mem_map.mp hy
      have e0' : y' = y := e0'
      subst e0'
      obtain ⟨a, ha⟩ := lookup_ex hm0
      obtain ⟨v', u, hm', r, z⟩ := kin ha
      have := uniq hm hm'
      subst this
      obtain ⟨o, ho, hd'⟩ := z
      exact ⟨u, r, .inr ⟨.inr (S.vis y' (by rw [← hz]; exact hy)), a, ha, ⟨o, hk a o ho, hd'⟩⟩⟩
  · obtain ⟨v, u, _, _, o, ho, hd'⟩ := kin h
    exact ⟨_, o, hk a o ho, hd'⟩
  · exact hidC_in (List.mem_map.mpr ⟨_, PySem.mem_of_lookup h, rfl⟩)
end
end My
set_option Elab.async false
set_option linter.all false
set_option maxRecDepth 100000
set_option maxHeartbeats 1000000
namespace My
open PySem PySem.W L2
section
variable {P : Program} {w : World} {K : Frag} {mg : Str → Option Value} {base : Heap} {N zs : List Str} {p qual name : Str} {scope : Scope} {f c : Addr} {cl : List (Str × Addr)} {cv : List (Str × V)} {A : Around} {outer : List Env} {s s' : Shared} {H : Hp}
theorem ce_unhid {u : Value} {Q : VK} (e0 : Env0 P w K mg base A outer s H) (C : Cells H cl cv) (h : CE outer P w (hidC H (cl.map (·.2))) s (fun v H' => (∀ b ∈ cl.map (·.2), H' b = none) → Q v (unhid H (cl.map (·.2)) H')) u s') : CE outer P w H s Q u s' := by
  obtain ⟨v, H', os, bare, un, hok, r, q⟩ := h
  have q := q fun b y => by
    obtain ⟨v, q⟩ := C.cel y
    obtain ⟨_, ⟨ob, h1⟩, _⟩ := (show ObjOk P w H s.heap b (CelO b v) from e0.hok b _ q)
    exact un.free b ob h1 (hidC_in y) (by simp)
  have nc : ∀ {b : Addr} {o : HO}, H b = some o → (∀ v, o ≠ CelO b v) → b ∉ cl.map (·.2) := fun {b o} e n z => by
    obtain ⟨v, q⟩ := C.cel z
    rw [e] at q
    exact n v (Option.some.inj q)
  have nn : ∀ {b : Addr}, H b = none → hidC H (cl.map (·.2)) b = none := fun {b} e => by unfold hidC; split <;> first | rfl | exact e
  have out : ∀ {b : Addr}, b ∉ cl.map (·.2) → unhid H (cl.map (·.2)) H' b = H' b := fun n => if_neg n
  have kept : ∀ {b : Addr}, b ∈ cl.map (·.2) → ∀ o, s.heap.get? b = some o → s'.heap.get? b = some o := fun {b} hb o e => by
    refine un.keep b o e (hidC_in hb) (fun z => ?_) (by simp)
    obtain ⟨v, q⟩ := C.cel hb
    rw [e0.frf b z] at q
    cases q
  refine ⟨v, unhid H (cl.map (·.2)) H', os, bare, ⟨fun b o e n nf nx => un.keep b o e (nn n) nf nx, fun b o e n nf nx => un.slot b o e (nn n) nf nx, fun b o e n nx => ?_, un.there, fun b xs e => ?_, fun b o x e => ?_, fun b ps e => ?_, fun e => ?_⟩, fun b o e => ?_, r, q⟩
  · rw [out (fun z => by obtain ⟨v, q⟩ := C.cel z; rw [n] at q; cases q)]
    exact un.free b o e (nn n) nx
  · have n := nc e (fun v z => by cases z)
    rw [out n]
    exact un.tups b xs (by rw [hidC_out n]; exact e)
  · have n := nc e (fun v z => by cases z)
    rw [out n]
    exact un.frzs b o x (by rw [hidC_out n]; exact e)
  · have n := nc e (fun v z => by cases z)
    rw [out n]
    exact un.tbls b ps (by rw [hidC_out n]; exact e)
  · unfold unhid
    split
    · exact e
    · exact un.sys (nn e)
  · by_cases z : b ∈ cl.map (·.2)
    · have e' : H b = some o := by
        have : unhid H (cl.map (·.2)) H' b = H b := if_pos z
        rw [← this]; exact e
      obtain ⟨v, q⟩ := C.cel z
      rw [e'] at q
      cases q
      obtain ⟨⟨u, ru, ob, h1, h2⟩, _⟩ := (show ObjOk P w H s.heap b (CelO b v) from e0.hok b _ e')
      exact celO_ok ru ⟨ob, kept z ob h1, h2⟩
    · rw [out z] at e
      have nd : ∀ d o, H' d = some o → d ∉ cl.map (·.2) := fun d o g y => by
        obtain ⟨v, q⟩ := C.cel y
        obtain ⟨_, ⟨ob, h1⟩, _⟩ := (show ObjOk P w H s.heap d (CelO d v) from e0.hok d _ q)
        rw [un.free d ob h1 (hidC_in y) (by simp)] at g
        cases g
      exact (hok b o e).stay (fun _ _ _ q => q) (fun d g => by rw [out (nd d _ g)]; exact g) fun d xs g => by rw [out (nd d _ g)]; exact g
theorem clo_run {k : Nat} {params : Arguments} {body : List Stmt} {doc pm ctv : Value} {vp : V} {up : Value} {σ : St} {Q : VK} {E : XK} (hr : Room (k + 1) A) (e0 : Env0 P w K mg base A outer s H) (hf : H f = some (FncO f (fnX name qual params body scope cl .none .none doc pm none (.ref c) ctv))) (hc : H c = some (CodO c qual)) (C : Cells H cl cv) (S : ClScope N p zs scope) (hz : cl.map (·.1) = zs)
    (hb : ∀ (s : Shared) (u : Value), BindsTo s (fnX name qual params body scope cl .none .none doc pm none (.ref c) ctv) ⟨[u], []⟩ [(p, u)]) (rv : RelV vp up) (hl : σ.length = N.length) (hσ : ∀ (i : Nat) x v, N[i]? = some x → σ[i]? = some (some v) → (x = p ∧ v = vp) ∨ (x, v) ∈ cv)
    (hbody : Room k (A.deeper (envX qual scope s.heap.objs.size f (.ref c) cl)) → ∃ t, PSs (cxC P w K mg base N qual scope f (.ref c) cl A outer s (hidC H (cl.map (·.2)))) body t ∧ t { nx := fun _ H' => (∀ b ∈ cl.map (·.2), H' b = none) → Q .non (unhid H (cl.map (·.2)) H'), rt := fun v H' => (∀ b ∈ cl.map (·.2), H' b = none) → Q v (unhid H (cl.map (·.2)) H') } σ (hidC H (cl.map (·.2)))) :
    codeAny (model P w) A (.call (.ref f) ⟨[up], []⟩) (CR CX0 outer P w H s Q E) s := by
  have ef : s.heap.get? f = some { cls := .type "function", data := .func (fnX name qual params body scope cl .none .none doc pm none (.ref c) ctv) } := (e0.hok f _ hf).1
  have ec : s.heap.CodeRec (.ref c) qual := (e0.hok c _ hc).1
  have lim : s.heap.NoLimit := e0.mod.nolimit.keeps fun b o e => (e0.bs b o e).1
  refine codeAny_call_function hr.depth ef rfl S.co S.gen rfl ec (hb _ _ _ _ _ _ ?_)
  refine wpAny_newFunctionEnv S.nocell (fun x hx => ?_) (fun h1 hn sb => ?_) S.kind
  · have e : x = (p, up) := by simpa using hx
    rw [e]; exact S.par
  have hk : ∀ b o, s.heap.get? b = some o → h1.get? b = some o := fun b o e => (sb.2 b (Nat.ne_of_lt (Heap.lt_size e))).trans (Heap.get?_push_of_some _ e)
  refine ⟨lim.keeps hk, codeAny_func ?_⟩
  obtain ⟨t, ht, hq⟩ := hbody (hr.deeper _)
  have I := inv_clo (qual := qual) (f := f) (c := c) (tk := s.toks + 1) S hr.hd e0 C hz rv hl hσ (by simpa using hn) sb
  refine wpAny_mono (ht [] _ σ _ _ I hq) (fun fl s' hs => ?_) fun e s' hs => hs.elim
  have fin : ∀ {σ' : St} {H' : Hp} {v : V} {u : Value}, Inv (cxC P w K mg base N qual scope f (.ref c) cl A outer s (hidC H (cl.map (·.2)))) [] σ' H' s' → RelV v u → ((∀ b ∈ cl.map (·.2), H' b = none) → Q v (unhid H (cl.map (·.2)) H')) → CE outer P w H s Q u s' :=
    fun {σ' H' v u} J rv q => ce_unhid e0 C ⟨v, H', J.os, J.bare, J.base, J.hok, rv, q⟩
  cases fl with
  | ret u =>
    obtain ⟨v, σ', H', J, rv, q⟩ := hs
    exact fin J rv q
  | next =>
    obtain ⟨σ', H', J, q⟩ := hs
    exact fin (v := V.non) (u := Value.none) J rfl q
  | brk =>
    obtain ⟨_, _, _, q⟩ := hs
    exact False.elim q
  | cont =>
    obtain ⟨_, _, _, q⟩ := hs
    exact False.elim q
theorem lam_run {k : Nat} {params : Arguments} {body : Expr} {pm ctv : Value} {vp : V} {up : Value} {σ : St} {Q : VK} {E : XK} (hr : Room (k + 1) A) (e0 : Env0 P w K mg base A outer s H) (hf : H f = some (FncO f (kla_fn name qual params body scope cl pm (.ref c) ctv))) (hc : H c = some (CodO c qual)) (C : Cells H cl cv) (S : ClScope N p zs scope) (hz : cl.map (·.1) = zs)
    (hb : ∀ (s : Shared) (u : Value), BindsTo s (kla_fn name qual params body scope cl pm (.ref c) ctv) ⟨[u], []⟩ [(p, u)]) (rv : RelV vp up) (hl : σ.length = N.length) (hσ : ∀ (i : Nat) x v, N[i]? = some x → σ[i]? = some (some v) → (x = p ∧ v = vp) ∨ (x, v) ∈ cv)
    (hbody : Room k (A.deeper (envX qual scope s.heap.objs.size f (.ref c) cl)) → ∃ t, PE (cxC P w K mg base N qual scope f (.ref c) cl A outer s (hidC H (cl.map (·.2)))) body t ∧ t σ (hidC H (cl.map (·.2))) fun v H' => (∀ b ∈ cl.map (·.2), H' b = none) → Q v (unhid H (cl.map (·.2)) H')) :
    codeAny (model P w) A (.call (.ref f) ⟨[up], []⟩) (CR CX0 outer P w H s Q E) s := by
  have ef : s.heap.get? f = some { cls := .type "function", data := .func (kla_fn name qual params body scope cl pm (.ref c) ctv) } := (e0.hok f _ hf).1
  have ec : s.heap.CodeRec (.ref c) qual := (e0.hok c _ hc).1
  have lim : s.heap.NoLimit := e0.mod.nolimit.keeps fun b o e => (e0.bs b o e).1
  refine kla_callFunE hr.depth ef rfl S.co S.gen rfl ec (hb _ _ _ _ _ _ ?_)
  refine wpAny_newFunctionEnv S.nocell (fun x hx => ?_) (fun h1 hn sb => ?_) S.kind
  · have e : x = (p, up) := by simpa using hx
    rw [e]; exact S.par
  have hk : ∀ b o, s.heap.get? b = some o → h1.get? b = some o := fun b o e => (sb.2 b (Nat.ne_of_lt (Heap.lt_size e))).trans (Heap.get?_push_of_some _ e)
  refine ⟨lim.keeps hk, kla_codeExpr ?_⟩
  obtain ⟨t, ht, hq⟩ := hbody (hr.deeper _)
  have I := inv_clo (qual := qual) (f := f) (c := c) (tk := s.toks + 1) S hr.hd e0 C hz rv hl hσ (by simpa using hn) sb
  refine wpAny_mono (ht [] _ σ _ _ I hq) (fun u s' hs => ?_) fun e s' hs => hs.elim
  obtain ⟨v, H', J, rv, q⟩ := hs
  exact ce_unhid e0 C ⟨v, H', J.os, J.bare, J.base, J.hok, rv, q⟩
end
structure ClOk (P : Program) (w : World) (K : Frag) (mg : Str → Option Value) (base : Heap) (k : Nat) (W : Addr → V → Hp → VK → Prop) : Prop where
  run : ∀ (A : Around) (outer : List Env) (s : Shared) (H : Hp) (f : Addr) (u : Value) (v : V) (Q : VK), Room k A → Env0 P w K mg base A outer s H → RelV v u → W f v H Q → codeAny (model P w) A (.call (.ref f) ⟨[u], []⟩) (CR CX0 outer P w H s Q E0) s
def tCallF (W : Addr → V → Hp → VK → Prop) (ta te : TE) : TE := fun σ H Q => ta σ H fun x H1 => ∃ f fd, x = .ref f ∧ H1 f = some (FncO f fd) ∧ te σ H1 fun y H2 => H2 f = some (FncO f fd) ∧ W f y H2 Q
section
variable {X : Cx} {k : Nat} {W : Addr → V → Hp → VK → Prop} {x : Str} {p pos : Pos} {e : Expr} {ta te : TE}
theorem pe_callF (hv : PE X (.Name x p) ta) (M : ClOk X.prog X.w X.K X.mg X.base k W) (hr : Room k X.A) (ha : PE X e te)
    (he : starEach [e] X.env = (false, eval e X.env) :: starEach [] X.env := by rfl) (hpl : (backTo pos (starEach [] X.env)).any (·.1) = false := by rfl) : PE X (.Call (.Name x p) [e] [] pos) (tCallF W ta te) := by
  intro pins s σ H Q I h
  refine wpAny_Call_Name_kw (thn (hv pins s σ H _ I h) fun u s1 ⟨x, H1, I1, rx, f, fd, ex, ef, q⟩ => ?_)
  subst ex
  obtain rfl : u = Value.ref f := rx
  have kin : ∀ {H2 : Hp} {s2 : Shared}, Inv X pins σ H2 s2 → H2 f = some (FncO f fd) → Frag.In [(f, { cls := .type "function", data := .func fd })] s2.heap := fun {H2 s2} J g a o l => by
    have eo : s2.heap.get? f = some { cls := .type "function", data := .func fd } := (J.hok f _ g).1
    rw [List.lookup_cons] at l
    cases z : a == f with
    | true => rw [z] at l; cases l; rw [beq_iff_eq.mp z]; exact eo
    | false => rw [z] at l; cases l
  refine PySem.W.callWith_K (K := [(f, { cls := .type "function", data := .func fd })]) (h₀ := s1.heap) (kin I1 ef) (by simp [keepIn, List.lookup]) (thn ((pa_cons ha pa_nil he) pos pins s1 σ H1 (fun vs H2 => match vs with | [y] => H2 f = some (FncO f fd) ∧ W f y H2 Q | _ => False) I1 q) fun us s2 ⟨vs, H2, I2, r, q2⟩ => ?_) he hpl
  match vs, r, q2 with
  | [y], r, ⟨g, q2⟩ =>
    obtain ⟨u, rfl, ru⟩ := vals1 r
    refine ⟨kin I2 g, ?_⟩
    refine wpAny_call (codeAny_mono (M.run X.A X.stack s2 H2 f u y Q hr I2.env0 ru q2) fun r s' hq => ?_)
    cases r with
    | error e => exact False.elim hq
    | ok fl =>
      cases fl with
      | ret u => exact I2.after hq
      | next => exact False.elim hq
      | brk => exact False.elim hq
      | cont => exact False.elim hq
end
end My
set_option Elab.async false
set_option linter.all false
set_option maxRecDepth 100000
set_option maxHeartbeats 1000000
namespace My
open PySem PySem.W L2
open PyProof.Rows (envOfC)
theorem un_cell {P : Program} {w : World} {fs : List Addr} {H₀ H : Hp} {h₀ h : Heap} {a : Addr} {v : V} {u : Value} (un : Un fs [] H₀ H h₀ h) (hok : HOk P w H h) (big : sysModules < h₀.objs.size) (la : h₀.objs.size ≤ a) (n : H a = none) (r : RelV v u) (c : h.IsCell a (some u)) : Un fs [] H₀ (upd H a (CelO a v)) h₀ h ∧ HOk P w (upd H a (CelO a v)) h := by
  have ne : ∀ b o, H b = some o → b ≠ a := fun b o e => ne_of_none e n
  refine ⟨⟨un.keep, un.slot, fun b o e m x => ?_, un.there, fun b xs e => ?_, fun b o x e => ?_, fun b ps e => ?_, fun e => ?_⟩, fun b o e => ?_⟩
  · rw [upd_ne (Nat.ne_of_lt (Nat.lt_of_lt_of_le (Heap.lt_size e) la))]; exact un.free b o e m x
  · have q := un.tups b xs e
    rw [upd_ne (ne _ _ q)]; exact q
  · have q := un.frzs b o x e
    rw [upd_ne (ne _ _ q)]; exact q
  · obtain ⟨m, q⟩ := un.tbls b ps e
    exact ⟨m, by rw [upd_ne (ne _ _ q)]; exact q⟩
  · rw [upd_ne (Nat.ne_of_lt (Nat.lt_of_lt_of_le big la))]; exact un.sys e
  · by_cases z : b = a
    · subst z
      rw [upd_same] at e
      cases e
      exact celO_ok r c
    · rw [upd_ne z] at e
      exact (hok b o e).stay (fun _ _ _ q => q) (fun d g => by rw [upd_ne (ne _ _ g)]; exact g) fun d xs g => by rw [upd_ne (ne _ _ g)]; exact g
def addC (H : Hp) : List (Str × Addr) → List (Str × V) → Hp
  | (_, a) :: cl, (_, v) :: cv => upd (addC H cl cv) a (CelO a v)
  | _, _ => H
theorem addC_out {H : Hp} {b : Addr} : ∀ {cl : List (Str × Addr)} {cv : List (Str × V)}, b ∉ cl.map (·.2) → addC H cl cv b = H b
  | [], _, _ => by simp [addC]
  | (x, a) :: cl, [], _ => by simp [addC]
  | (x, a) :: cl, (y, v) :: cv, h => by
    simp only [List.map_cons, List.mem_cons, not_or] at h
    show upd (addC H cl cv) a (CelO a v) b = H b
    rw [upd_ne h.1]
    exact addC_out h.2
theorem addC_ext {H : Hp} {cl : List (Str × Addr)} {cv : List (Str × V)} (h : ∀ a ∈ cl.map (·.2), H a = none) : Ext H (addC H cl cv) := fun b o e => by
  rw [addC_out (fun z => by rw [h b z] at e; cases e)]
  exact e
theorem addC_cells {H : Hp} : ∀ {cl : List (Str × Addr)} {cv : List (Str × V)}, (cl.map (·.2)).Nodup → ∀ (i : Nat) x a y v, cl[i]? = some (x, a) → cv[i]? = some (y, v) → addC H cl cv a = some (CelO a v)
  | [], _, _, i, x, a, y, v, h, _ => by simp at h
  | (x0, a0) :: cl, [], _, i, x, a, y, v, _, h => by simp at h
  | (x0, a0) :: cl, (y0, v0) :: cv, nd, 0, x, a, y, v, h1, h2 => by
    cases h1
    cases h2
    exact upd_same
  | (x0, a0) :: cl, (y0, v0) :: cv, nd, i + 1, x, a, y, v, h1, h2 => by
    simp only [List.map_cons, List.nodup_cons] at nd
    have h1' : cl[i]? = some (x, a) := by simpa using h1
    have ma : a ∈ cl.map (·.2) := List.mem_map.mpr ⟨_, List.mem_of_getElem? h1', rfl⟩
    show upd (addC H cl cv) a0 (CelO a0 v0) a = _
    rw [upd_ne (fun z => nd.1 (by rw [← z]; exact ma))]
    exact addC_cells nd.2 i x a y v h1' (by simpa using h2)
theorem addC_ok {P : Program} {w : World} {fs : List Addr} {H₀ H : Hp} {h₀ h : Heap} (un : Un fs [] H₀ H h₀ h) (hok : HOk P w H h) (big : sysModules < h₀.objs.size) : ∀ {cl : List (Str × Addr)} {cv : List (Str × V)}, (cl.map (·.2)).Nodup → (∀ a ∈ cl.map (·.2), h₀.objs.size ≤ a ∧ H a = none) → (∀ (i : Nat) x a y v, cl[i]? = some (x, a) → cv[i]? = some (y, v) → ∃ u, RelV v u ∧ h.IsCell a (some u)) → Un fs [] H₀ (addC H cl cv) h₀ h ∧ HOk P w (addC H cl cv) h
  | [], _, _, _, _ => by simp only [addC]; exact ⟨un, hok⟩
  | (x, a) :: cl, [], _, _, _ => by simp only [addC]; exact ⟨un, hok⟩
  | (x, a) :: cl, (y, v) :: cv, nd, ha, hc => by
    simp only [List.map_cons, List.nodup_cons] at nd
    obtain ⟨u1, k1⟩ := addC_ok un hok big (cl := cl) (cv := cv) nd.2 (fun b hb => ha b (by simp only [List.map_cons, List.mem_cons]; exact .inr hb)) fun i x a y v h1 h2 => hc (i + 1) x a y v (by simpa using h1) (by simpa using h2)
    obtain ⟨la, na⟩ := ha a (by simp)
    obtain ⟨u, r, c⟩ := hc 0 x a y v rfl rfl
    exact un_cell u1 k1 big la (by rw [addC_out nd.1]; exact na) r c
def MkQ (H : Hp) (pl : Addr) (pos : Pos) (qn : Str) (zs : List Str) (cv : List (Str × V)) (fd : List (Str × Addr) → Value → Value → Value → Addr → FuncData) (Q : VK) : Prop :=
  TblAt H pl pos qn ∧ ∀ f c' cl a b d H', ExtP pl H H' → H f = none → H' f = some (FncO f (fd cl a b d c')) → H' c' = some (CodO c' qn) → Cells H' cl cv → cl.map (·.1) = zs → (∀ x ∈ cl.map (·.2), H x = none ∧ x ≠ f ∧ x ≠ c') → TblAt H' pl pos qn → Q (.ref f) H'
section
variable {CX : CXT} {P : Program} {w : World} {K : Frag} {mg : Str → Option Value} {base : Heap} {N ps zs : List Str} {qual : Str} {scope : Scope} {g c pl : Addr} {A : Around} {outer : List Env} {s s1 : Shared} {H H1 : Hp} {E : XK} {σ : St} {cv : List (Str × V)} {Q : VK}
theorem ce_cells {cl : List (Str × Addr)} {v : V} {u : Value} (J : Inv (cxOf CX P w K mg base N qual scope g (.ref c) A outer s H E) [] σ H1 s1) (hc : ∀ x a, (x, a) ∈ cl → (cellsFrom (s.heap.objs.size + 1) scope.names []).lookup x = some a) (nd : (cl.map (·.2)).Nodup) (hz : cl.map (·.1) = cv.map (·.1))
    (hv : ∀ x v, (x, v) ∈ cv → scope.names.lookup x = some .cell ∧ ∃ j : Nat, N[j]? = some x ∧ σ[j]? = some (some v)) (r : RelV v u) (q : Q v (addC H1 cl cv)) : CE outer P w H s Q u s1 := by
  obtain ⟨m, hn, hl⟩ := J.loc
  have big : sysModules < s.heap.objs.size := by
    obtain ⟨o, _, _, ho, _⟩ := J.mod.glob
    exact Nat.lt_trans (by decide : sysModules < mainGlobals) (Heap.lt_size (J.ok.bs _ _ ho).1)
  have h1 : ∀ a ∈ cl.map (·.2), s.heap.objs.size ≤ a ∧ H1 a = none := fun a ha => by
    obtain ⟨⟨x, a'⟩, hm, rfl⟩ := List.mem_map.mp ha
    have e := hc x a' hm
    exact ⟨J.ok.cab x a' rfl e, J.freeC x a' e⟩
  have h2 : ∀ (i : Nat) x a y v, cl[i]? = some (x, a) → cv[i]? = some (y, v) → ∃ u, RelV v u ∧ s1.heap.IsCell a (some u) := fun i x a y v h1 h2 => by
    have e := hc x a (List.mem_of_getElem? h1)
    have ex : (cl.map (·.1))[i]? = some x := by rw [List.getElem?_map, h1]; rfl
    rw [hz, List.getElem?_map, h2] at ex
    have ex : y = x := Option.some.inj ex
    subst ex
    obtain ⟨k, j, hj, hs⟩ := hv y v (List.mem_of_getElem? h2)
    obtain ⟨u, ru, l⟩ := hl j y v hj hs (.inr (.inl k))
    rcases l with ⟨k', _⟩ | ⟨_, a', e', z⟩
    · have k' : scope.names.lookup y = some .local := k'
      rw [k] at k'
      cases k'
    · have e' : (cellsFrom (s.heap.objs.size + 1) scope.names []).lookup y = some a' := e'
      rw [e] at e'
      cases e'
      exact ⟨u, ru, z⟩
  obtain ⟨un, hok⟩ := addC_ok (cl := cl) (cv := cv) J.base J.hok big nd h1 h2
  exact ⟨v, addC H1 cl cv, J.os, J.bare, un, hok, r, q⟩
theorem mk_tail {nm : Str} {args : Arguments} {b : List Stmt} {sc : Scope} {pos pn pr : Pos} {cl : List (Str × Addr)} {i : Nat} {qn : Str} (J : Inv (cxOf CX P w K mg base N qual scope g (.ref c) A outer s H E) [] σ H1 s1) (Z : MkK K mg c pl) (nd : N.Nodup) (hi : N[i]? = some nm) (hk : scope.names.lookup nm = some .local) (hd : args.defaults = []) (hkd : args.kw_defaults = []) (han : annTrees args none (envOfC qual scope s.heap.objs.size g (.ref c)) = [])
    (hq : qualnameIn (envOfC qual scope s.heap.objs.size g (.ref c)) nm nm = qn) (hcl : closureFor sc (envOfC qual scope s.heap.objs.size g (.ref c)) = pure cl) (hc : ∀ x a, (x, a) ∈ cl → (cellsFrom (s.heap.objs.size + 1) scope.names []).lookup x = some a) (ndA : (cl.map (·.2)).Nodup) (ndX : (cl.map (·.1)).Nodup) (hz : cl.map (·.1) = zs) (hzv : zs = cv.map (·.1))
    (hv : ∀ x v, (x, v) ∈ cv → scope.names.lookup x = some .cell ∧ ∃ j : Nat, N[j]? = some x ∧ σ[j]? = some (some v)) (q : MkQ H1 pl pos qn zs cv (fun cl doc pm ctv c' => fnX nm qn args b sc cl .none .none doc pm none (.ref c') ctv) Q) (hdb : (nm == ("__debug__" : Str)) = false := by decide) (hcd : (nm == ("__classdict__" : Str)) = false := by decide) :
    wpAny (model P w) (A.deeper (envOfC qual scope s.heap.objs.size g (.ref c))) (execs [.FunctionDef nm args b [] none [] sc none nm pos, .Return (some (.Name nm pn)) pr] (envOfC qual scope s.heap.objs.size g (.ref c))) (fun fl s' => CE outer P w H s Q (match fl with | .ret v => v | _ => .none) s') (cxOf CX P w K mg base N qual scope g (.ref c) A outer s H E).xe s1 := by
  refine wpAny_execs_cons (nestDef_K hd hkd han ?_)
  rw [hq]
  refine wp_mkDef (X := cxOf CX P w K mg base N qual scope g (.ref c) A outer s H E) J rfl Z q.1 hcl fun f c' ctv doc pm H2 s2 I2 M => ?_
  refine store_ok (X := cxOf CX P w K mg base N qual scope g (.ref c) A outer s H E) (v := .ref f) I2 nd hi (.inl hk) rfl (fun s3 I3 => ?_) (.inr hk)
  refine wpAny_execs_cons (wpAny_Return_some ?_)
  have pv := pe_var (X := cxOf CX P w K mg base N qual scope g (.ref c) A outer s H E) (pos := pn) hi (.inl hk) hdb hcd
  have hs : (σ.set i (some (V.ref f)))[i]? = some (some (V.ref f)) := List.getElem?_set_self (by rw [J.len]; exact (List.getElem?_eq_some_iff.mp hi).1)
  refine thn (pv [] s3 _ H2 (fun v H' => v = .ref f ∧ H' = H2) I3 ⟨_, hs, rfl, rfl⟩) fun u s4 ⟨v, H', I4, r, e1, e2⟩ => ?_
  subst e1
  subst e2
  have fresh : ∀ x ∈ cl.map (·.2), H' x = none := fun x hx => by
    obtain ⟨⟨y, a⟩, hm, rfl⟩ := List.mem_map.mp hx
    exact I4.freeC y a (hc y a hm)
  refine ce_cells (cv := cv) I4 hc ndA (by rw [hz, hzv]) (fun x v hm => ?_) r ?_
  · obtain ⟨k, j, hj, hs'⟩ := hv x v hm
    refine ⟨k, j, hj, ?_⟩
    have nij : i ≠ j := fun e => by
      subst e
      rw [hi] at hj
      cases hj
      rw [hk] at k
      cases k
    rw [List.getElem?_set_ne nij]
    exact hs'
  · have x := addC_ext (cv := cv) fresh
    refine q.2 f c' cl doc pm ctv _ (fun b o e n => x b o (M.ext b o e n)) M.new (x _ _ M.fn) (x _ _ M.cd) ⟨by rw [hz, hzv], addC_cells ndA, ndA, ndX⟩ hz (fun y hy => ⟨?_, fun e => ?_, fun e => ?_⟩) ?_
    · have n := fresh y hy
      cases e : H1 y with
      | none => rfl
      | some o =>
        by_cases z : y = pl
        · subst z
          rcases M.tb with t | ⟨_, t, _⟩ <;> (rw [t] at n; cases n)
        · rw [M.ext y o e z] at n; cases n
    · exact absurd M.fn (by rw [← e, fresh y hy]; simp)
    · exact absurd M.cd (by rw [← e, fresh y hy]; simp)
    · rcases M.tb with t | ⟨d, t, td⟩
      · exact .inl (x _ _ t)
      · exact .inr ⟨d, x _ _ t, x _ _ td⟩
end
end My
set_option Elab.async false
set_option linter.all false
set_option maxRecDepth 100000
set_option maxHeartbeats 1000000
namespace My
open PySem PySem.W L2
open PyProof.Rows (envOfC)
section
variable {CX : CXT} {P : Program} {w : World} {K : Frag} {mg : Str → Option Value} {base : Heap} {k : Nat} {N ps zs : List Str} {name qual nm qn : Str} {params args : Arguments} {scope sc : Scope} {g c pl : Addr} {dV kV doc pm ct oc : Value} {an od : Option Addr} {osl : Array (Option Value)} {sp : Sp} {body b : List Stmt} {i : Nat} {pos pn pr : Pos} {cl : Nat → List (Str × Addr)}
theorem fn_start (lk : K.lookup g = some ⟨oc, od, .func (fnOf name qual params body scope dV kV doc pm an (.ref c) ct), osl⟩) (hcd : codeIn K (.ref c) qual = true) (S : FnScope N ps scope) (len : ∀ vs H Q E, sp vs H Q E → vs.length = ps.length)
    (hbody : ∀ (A : Around) (outer : List Env) (s s1 : Shared) (H : Hp) (vs : List V) (Q : VK) (E : XK), Room k (A.deeper (envOfC qual scope s.heap.objs.size g (.ref c))) → sp vs H Q E → Inv (cxOf CX P w K mg base N qual scope g (.ref c) A outer s H E) [] (start N vs) H s1 →
      wpAny (model P w) (A.deeper (envOfC qual scope s.heap.objs.size g (.ref c))) (execs body (envOfC qual scope s.heap.objs.size g (.ref c))) (fun fl s' => CE outer P w H s Q (match fl with | .ret v => v | _ => .none) s') (cxOf CX P w K mg base N qual scope g (.ref c) A outer s H E).xe s1) :
    FnOk P w K mg base CX (k + 1) g (fnOf name qual params body scope dV kV doc pm an (.ref c) ct) ps sp := by
  refine ⟨len, fun A outer s H args us vs Q E hr e0 hb r hsp => ?_⟩
  have hl := len _ _ _ _ hsp
  have KX : K.In s.heap := e0.mod.kin.keeps fun b o e => (e0.bs b o e).1
  have lim : s.heap.NoLimit := e0.mod.nolimit.keeps fun b o e => (e0.bs b o e).1
  have hkind : ∀ y ∈ ps.zip us, scope.names.lookup y.1 = some .local ∨ (scope.names.lookup y.1 = some .cell ∧ ((cellsFrom (s.heap.objs.size + 1) scope.names []).lookup y.1).isSome = true) := fun ⟨n, v⟩ hy => by
    rcases S.par n (List.of_mem_zip hy).1 with q | q
    · exact .inl q
    · exact .inr ⟨q, PySem.W.cellsFrom_some _ _ _ (.inl q)⟩
  refine codeAny_call_function hr.depth (KX _ _ lk) rfl S.co S.gen rfl (PySem.W.codeRec_of KX hcd) (hb _ _ _ _ ?_)
  refine wpAny_newFunctionEnv_cells S.kind hkind fun env he s1 x => ?_
  subst he
  refine ⟨lim.keeps x.toInCall.keep, codeAny_func ?_⟩
  have I : Inv (cxOf CX P w K mg base N qual scope g (.ref c) A outer s H E) [] (start N vs) H s1 := inv_start S hr.hd e0 hl r x
  exact wpAny_mono (hbody A outer s s1 H vs Q E (hr.deeper _) hsp I) (fun fl s' h => h) fun e s' h => h
structure NestT (scope sc : Scope) (args : Arguments) (g c : Addr) (qual nm qn : Str) (N zs : List Str) (i : Nat) (cl : Nat → List (Str × Addr)) : Prop where
  hi : N[i]? = some nm
  hk : scope.names.lookup nm = some .local
  hd : args.defaults = []
  hkd : args.kw_defaults = []
  han : ∀ L, annTrees args none (envOfC qual scope L g (.ref c)) = []
  hq : ∀ L, qualnameIn (envOfC qual scope L g (.ref c)) nm nm = qn
  hcl : ∀ L, closureFor sc (envOfC qual scope L g (.ref c)) = pure (cl L)
  hc : ∀ L x a, (x, a) ∈ cl L → (cellsFrom (L + 1) scope.names []).lookup x = some a
  ndA : ∀ L, ((cl L).map (·.2)).Nodup
  ndX : ∀ L, ((cl L).map (·.1)).Nodup
  hz : ∀ L, (cl L).map (·.1) = zs
def Kpt (scope : Scope) (N zs : List Str) (σ : St) (cv : List (Str × V)) : Prop := zs = cv.map (·.1) ∧ ∀ x v, (x, v) ∈ cv → scope.names.lookup x = some .cell ∧ ∃ j : Nat, N[j]? = some x ∧ σ[j]? = some (some v)
abbrev fdN (nm qn : Str) (args : Arguments) (b : List Stmt) (sc : Scope) : List (Str × Addr) → Value → Value → Value → Addr → FuncData := fun cl doc pm ctv c' => fnX nm qn args b sc cl .none .none doc pm none (.ref c') ctv
theorem fn_mk0 (lk : K.lookup g = some ⟨oc, od, .func (fnOf name qual params [.FunctionDef nm args b [] none [] sc none nm pos, .Return (some (.Name nm pn)) pr] scope dV kV doc pm an (.ref c) ct), osl⟩) (hcd : codeIn K (.ref c) qual = true) (S : FnScope N ps scope) (len : ∀ vs H Q E, sp vs H Q E → vs.length = ps.length) (Z : MkK K mg c pl) (T : NestT scope sc args g c qual nm qn N zs i cl)
    (hsp : ∀ vs H Q E, sp vs H Q E → ∃ cv, Kpt scope N zs (start N vs) cv ∧ MkQ H pl pos qn zs cv (fdN nm qn args b sc) Q) (hdb : (nm == ("__debug__" : Str)) = false := by decide) (hcl : (nm == ("__classdict__" : Str)) = false := by decide) :
    FnOk P w K mg base CX (k + 1) g (fnOf name qual params [.FunctionDef nm args b [] none [] sc none nm pos, .Return (some (.Name nm pn)) pr] scope dV kV doc pm an (.ref c) ct) ps sp := by
  refine fn_start lk hcd S len fun A outer s s1 H vs Q E hr h I => ?_
  obtain ⟨cv, ⟨k1, k2⟩, q⟩ := hsp vs H Q E h
  exact mk_tail I Z S.nd T.hi T.hk T.hd T.hkd (T.han _) (T.hq _) (T.hcl _) (T.hc _) (T.ndA _) (T.ndX _) (T.hz _) k1 k2 q hdb hcl
theorem fn_mk1 {st : Stmt} (lk : K.lookup g = some ⟨oc, od, .func (fnOf name qual params [st, .FunctionDef nm args b [] none [] sc none nm pos, .Return (some (.Name nm pn)) pr] scope dV kV doc pm an (.ref c) ct), osl⟩) (hcd : codeIn K (.ref c) qual = true) (S : FnScope N ps scope) (len : ∀ vs H Q E, sp vs H Q E → vs.length = ps.length) (Z : MkK K mg c pl) (T : NestT scope sc args g c qual nm qn N zs i cl)
    (hsp : ∀ (A : Around) (outer : List Env) (s : Shared) (vs : List V) (H : Hp) (Q : VK) (E : XK), Room k (A.deeper (envOfC qual scope s.heap.objs.size g (.ref c))) → sp vs H Q E → ∃ t, PS (cxOf CX P w K mg base N qual scope g (.ref c) A outer s H E) st t ∧ t ⟨fun σ H' => ∃ cv, Kpt scope N zs σ cv ∧ MkQ H' pl pos qn zs cv (fdN nm qn args b sc) Q, fun _ _ => False, fun _ _ => False, fun _ _ => False⟩ (start N vs) H) (hdb : (nm == ("__debug__" : Str)) = false := by decide) (hcl : (nm == ("__classdict__" : Str)) = false := by decide) :
    FnOk P w K mg base CX (k + 1) g (fnOf name qual params [st, .FunctionDef nm args b [] none [] sc none nm pos, .Return (some (.Name nm pn)) pr] scope dV kV doc pm an (.ref c) ct) ps sp := by
  refine fn_start lk hcd S len fun A outer s s1 H vs Q E hr h I => ?_
  obtain ⟨t, ht, hq⟩ := hsp A outer s vs H Q E hr h
  refine wpAny_execs_cons (wpAny_mono (ht [] s1 _ H _ I hq) (fun fl s2 h2 => ?_) fun _ _ z => z)
  cases fl with
  | next =>
    obtain ⟨σ, H2, I2, cv, ⟨k1, k2⟩, q⟩ := h2
    exact mk_tail I2 Z S.nd T.hi T.hk T.hd T.hkd (T.han _) (T.hq _) (T.hcl _) (T.hc _) (T.ndA _) (T.ndX _) (T.hz _) k1 k2 q hdb hcl
  | brk => obtain ⟨_, _, _, z⟩ := h2; exact z.elim
  | cont => obtain ⟨_, _, _, z⟩ := h2; exact z.elim
  | ret u => obtain ⟨_, _, _, _, _, z⟩ := h2; exact z.elim
theorem fn_lam {e : Expr} (lk : K.lookup g = some ⟨oc, od, .func (fnOf name qual params [.Return (some (.Lambda args e sc pos)) pr] scope dV kV doc pm an (.ref c) ct), osl⟩) (hcd : codeIn K (.ref c) qual = true) (S : FnScope N ps scope) (len : ∀ vs H Q E, sp vs H Q E → vs.length = ps.length) (Z : MkK K mg c pl)
    (hd : ∀ L, defaultsOf args (envOfC qual scope L g (.ref c)) = ([], [])) (hqn : ∀ L, (envOfC qual scope L g (.ref c)).qual ++ Str.ofString "<lambda>" = qn) (hcl : ∀ L, closureFor sc (envOfC qual scope L g (.ref c)) = pure (cl L)) (hc : ∀ L x a, (x, a) ∈ cl L → (cellsFrom (L + 1) scope.names []).lookup x = some a) (ndA : ∀ L, ((cl L).map (·.2)).Nodup) (ndX : ∀ L, ((cl L).map (·.1)).Nodup) (hz : ∀ L, (cl L).map (·.1) = zs)
    (hsp : ∀ vs H Q E, sp vs H Q E → ∃ cv, Kpt scope N zs (start N vs) cv ∧ MkQ H pl pos qn zs cv (fun cl _ pm ctv c' => kla_fn (Str.ofString "<lambda>") qn args e sc cl pm (.ref c') ctv) Q) :
    FnOk P w K mg base CX (k + 1) g (fnOf name qual params [.Return (some (.Lambda args e sc pos)) pr] scope dV kV doc pm an (.ref c) ct) ps sp := by
  refine fn_start lk hcd S len fun A outer s s1 H vs Q E hr h I => ?_
  obtain ⟨cv, ⟨k1, k2⟩, q⟩ := hsp vs H Q E h
  refine wpAny_execs_cons (wpAny_Return_some (kla_eval (hd _) ?_))
  rw [hqn]
  refine wp_mkLam (X := cxOf CX P w K mg base N qual scope g (.ref c) A outer s H E) I rfl Z q.1 (hcl _) fun f c' ctv pm H2 s2 I2 M => ?_
  have fresh : ∀ x ∈ (cl s.heap.objs.size).map (·.2), H2 x = none := fun x hx => by
    obtain ⟨⟨y, a⟩, hm, rfl⟩ := List.mem_map.mp hx
    exact I2.freeC y a (hc _ y a hm)
  refine ce_cells (v := .ref f) (cv := cv) I2 (hc _) (ndA _) (by rw [hz, k1]) k2 rfl ?_
  have x := addC_ext (cv := cv) fresh
  refine q.2 f c' _ .none pm ctv _ (fun b o e n => x b o (M.ext b o e n)) M.new (x _ _ M.fn) (x _ _ M.cd) ⟨by rw [hz, k1], addC_cells (ndA _), ndA _, ndX _⟩ (hz _) (fun y hy => ⟨?_, fun e => ?_, fun e => ?_⟩) ?_
  · have n := fresh y hy
    cases e : H y with
    | none => rfl
    | some o =>
      by_cases z : y = pl
      · subst z
        rcases M.tb with t | ⟨_, t, _⟩ <;> (rw [t] at n; cases n)
      · rw [M.ext y o e z] at n; cases n
  · exact absurd M.fn (by rw [← e, fresh y hy]; simp)
  · exact absurd M.cd (by rw [← e, fresh y hy]; simp)
  · rcases M.tb with t | ⟨d, t, td⟩
    · exact .inl (x _ _ t)
    · exact .inr ⟨d, x _ _ t, x _ _ td⟩
end
end My
set_option Elab.async false
set_option linter.all false
set_option maxRecDepth 100000
set_option maxHeartbeats 4000000
set_option exponentiation.threshold 5000
namespace My
open PySem PySem.W L2
def keyD : Key → PyData
  | .inl i => .int i
  | .inr x => .str x
mutual
inductive Rds (G : Hp) : V → PyData → Prop
  | non : Rds G .non .none
  | bl (b : Bool) : Rds G (.bl b) (.bool b)
  | int (i : Int) : Rds G (.int i) (.int i)
  | str (x : Str) : Rds G (.str x) (.str x)
  | lst {a : Addr} {xs : List V} {ds : List PyData} : G a = some (.lst xs) → RdsAll G xs ds → Rds G (.ref a) (.list ds)
  | tup {a : Addr} {xs : List V} {ds : List PyData} : G a = some (.tup xs) → RdsAll G xs ds → Rds G (.ref a) (.tuple ds)
  | dic0 {a : Addr} : G a = some (.dK []) → Rds G (.ref a) (.dict [])
  | dic {a : Addr} {k : Key} {v : V} {d : PyData} : G a = some (.dK [(k, v)]) → Rds G v d → Rds G (.ref a) (.dict [(keyD k, d)])
inductive RdsAll (G : Hp) : List V → List PyData → Prop
  | nil : RdsAll G [] []
  | cons {v : V} {vs : List V} {d : PyData} {ds : List PyData} : Rds G v d → RdsAll G vs ds → RdsAll G (v :: vs) (d :: ds)
end
mutual
theorem Rds.mono {G G' : Hp} (s : Ext G G') : ∀ {v : V} {d : PyData}, Rds G v d → Rds G' v d
  | _, _, .non => .non
  | _, _, .bl b => .bl b
  | _, _, .int i => .int i
  | _, _, .str x => .str x
  | _, _, .lst e r => .lst (s _ _ e) (RdsAll.mono s r)
  | _, _, .tup e r => .tup (s _ _ e) (RdsAll.mono s r)
  | _, _, .dic0 e => .dic0 (s _ _ e)
  | _, _, .dic e r => .dic (s _ _ e) (Rds.mono s r)
theorem RdsAll.mono {G G' : Hp} (s : Ext G G') : ∀ {vs : List V} {ds : List PyData}, RdsAll G vs ds → RdsAll G' vs ds
  | _, _, .nil => .nil
  | _, _, .cons r t => .cons (Rds.mono s r) (RdsAll.mono s t)
end
theorem RdsAll.length {G : Hp} : ∀ {vs : List V} {ds : List PyData}, RdsAll G vs ds → vs.length = ds.length
  | _, _, .nil => rfl
  | _, _, .cons _ t => by rw [List.length_cons, List.length_cons, t.length]
section
variable {P : Program} {w : World} {H : Hp} {h : Heap}
theorem key_reads {k : Key} {u : Value} (r : (mixKind P w).is k u = true) : Reads h u (keyD k) [] := by
  rw [mixKind_is] at r
  rcases keyIs_shape r with ⟨i, t, rfl, rfl⟩ | ⟨x, t, rfl, rfl⟩
  · exact .int i t
  · exact .str x t
theorem pairs0 {es : List DictEntry} (ps : Pairs (mixKind P w) es ([] : List (Key × Value))) : es = [] := by
  cases ps
  rfl
theorem pairs1 {es : List DictEntry} {k : Key} {u : Value} (ps : Pairs (mixKind P w) es [(k, u)]) : ∃ e, es = [e] ∧ (mixKind P w).is k e.key = true ∧ e.val = u := by
  cases ps with
  | cons h1 h2 h3 =>
    cases h3
    exact ⟨_, rfl, h1, h2⟩
mutual
theorem reads_of (ok : HOk P w H h) (z : H sysModules = none) : ∀ {v : V} {d : PyData} {u : Value}, Rds H v d → RelV v u → ∃ as, Reads h u d as ∧ sysModules ∉ as
  | _, _, _, .non, r => by cases r; exact ⟨[], .none, by simp⟩
  | _, _, _, .bl b, r => by cases r; exact ⟨[], .bool b, by simp⟩
  | _, _, _, .int i, r => by obtain ⟨t, rfl⟩ := r; exact ⟨[], .int i t, by simp⟩
  | _, _, _, .str x, r => by obtain ⟨t, rfl⟩ := r; exact ⟨[], .str x t, by simp⟩
  | _, _, _, .lst (a := a) e t, r => by
    cases r
    obtain ⟨_, its, n, rv, ho⟩ := (show ObjOk P w H h _ (.lst _) from ok _ _ e)
    obtain ⟨as, ra, na⟩ := readsAll_of ok z t rv
    refine ⟨a :: as, .list ho rfl rfl (by simpa using ra), ?_⟩
    intro m
    rcases List.mem_cons.mp m with m | m
    · rw [← m, z] at e; cases e
    · exact na m
  | _, _, _, .tup (a := a) e t, r => by
    cases r
    obtain ⟨_, its, rv, o, ho, hc, n, hd⟩ := (show ObjOk P w H h _ (.tup _) from ok _ _ e)
    obtain ⟨as, ra, na⟩ := readsAll_of ok z t rv
    exact ⟨as, .tuple ho hc hd (by simpa using ra), na⟩
  | _, _, _, .dic0 (a := a) e, r => by
    cases r
    obtain ⟨_, hs, vs, kv, o, es, ep, ho, hx, hd, hks, hps, hnd⟩ := (show ObjOk P w H h _ (.dK _) from ok _ _ e)
    cases kv
    have ee : es.toList = [] := pairs0 hps
    refine ⟨a :: [] ++ [], .dict (kvs := []) ho hx.1 hd (by rw [ee]; exact .nil) (by rw [ee]; exact .nil), ?_⟩
    intro m
    have m' : sysModules = a := by simpa using m
    rw [← m', z] at e; cases e
  | _, _, _, .dic (a := a) (k := k) e t, r => by
    cases r
    obtain ⟨_, hs, vs, kv, o, es, ep, ho, hx, hd, hks, hps, hnd⟩ := (show ObjOk P w H h _ (.dK _) from ok _ _ e)
    cases kv with
    | cons q q' =>
      cases q'
      obtain ⟨hq1, hq2⟩ := q
      obtain ⟨e0, ee, ek, ev⟩ := pairs1 hps
      rw [← ev] at hq2
      rw [← hq1] at ek
      obtain ⟨as, ra, na⟩ := reads_of ok z t hq2
      have rk : ReadsAll h [e0.key] [keyD k] ([] ++ []) := .cons (key_reads ek) .nil
      have rv : ReadsAll h [e0.val] [_] (as ++ []) := .cons ra .nil
      refine ⟨a :: ([] ++ []) ++ (as ++ []), .dict (kvs := [(keyD k, _)]) ho hx.1 hd (by rw [ee]; exact rk) (by rw [ee]; exact rv), ?_⟩
      intro m
      rw [List.append_nil, List.append_nil] at m
      rcases List.mem_cons.mp m with m | m
      · rw [← m, z] at e; cases e
      · exact na (by simpa using m)
theorem readsAll_of (ok : HOk P w H h) (z : H sysModules = none) : ∀ {vs : List V} {ds : List PyData} {us : List Value}, RdsAll H vs ds → Vals vs us → ∃ as, ReadsAll h us ds as ∧ sysModules ∉ as
  | _, _, _, .nil, r => by cases r; exact ⟨[], .nil, by simp⟩
  | _, _, _, .cons r t, rv => by
    cases rv with
    | cons q qs =>
      obtain ⟨as, ra, na⟩ := reads_of ok z r q
      obtain ⟨bs, rb, nb⟩ := readsAll_of ok z t qs
      refine ⟨as ++ bs, .cons ra rb, fun m => ?_⟩
      rcases List.mem_append.mp m with m | m
      · exact na m
      · exact nb m
end
end
section
variable {X : Cx}
end
section
variable {K : Frag} {H : Hp} {v : V} {d : PyData}
end
end My
set_option Elab.async false
set_option linter.all false
set_option maxRecDepth 100000
set_option maxHeartbeats 1000000
namespace My
open PySem L2
section
variable {X : Cx} {e a b : Expr} {es : List Expr} {te ta tb : TE} {t : TA} {pos : Pos} {st : Stmt} {rest : List Stmt} {ts u v : TS}
end
end My
set_option Elab.async false
set_option linter.all false
set_option maxRecDepth 100000
set_option maxHeartbeats 1000000
namespace My
open PySem PySem.W L2
open AutoSeq1 (wpAny_loadPart')
section
variable {prog : Program} {w : World} {A : Around} {E : Value → Shared → Prop} {s : Shared} {r : Addr} {a b c : Int} {t u v : Tok} {n : Nat}
end
section
variable {X : Cx}
end
end My
set_option Elab.async false
set_option linter.all false
set_option maxRecDepth 100000
set_option maxHeartbeats 1000000
namespace My
open PySem L2
section
variable {X : Cx}
end
section
variable {X : Cx} {σ : St}
end
end My
set_option Elab.async false
set_option linter.all false
set_option maxRecDepth 100000
set_option maxHeartbeats 1000000
namespace My
open PySem PySem.W L2
section
variable {K : Frag} {te : TE} {tt : TT} {g : TG} {k : Nat} {cap : St} {D : Addr} {H1 : Hp} {Q : Hp → Prop} {a : Addr} {xs : List V}
theorem lcG_list (Pv : Nat → List V → Hp → Prop) (hz : xs.length < sizeLine) (h0 : Pv 0 [] (upd H1 D (.lst [])))
    (hl : ∀ i ys H, Pv i ys H → SqL K H a xs)
    (hs : ∀ i x ys H, xs[i]? = some x → ys.length = i → H D = some (.lst ys) → Pv i ys H → ∀ os : St, os.length = k → ∀ R : VK, (∀ y H4, H4 D = some (.lst ys) → Pv (i + 1) (ys ++ [y]) (upd H4 D (.lst (ys ++ [y]))) → R y H4) → g x (os ++ cap) H fun σ2 H0 => (∃ os' : St, os'.length = k ∧ σ2 = os' ++ cap) ∧ te σ2 H0 R)
    (hd : ∀ ys H, ys.length = xs.length → H D = some (.lst ys) → Pv xs.length ys H → Q H) :
    ∃ W : Nat → Nat → List V → Hp → Prop, (∃ m, W 0 m [] (upd H1 D (.lst []))) ∧
      ∀ i m ys H2, W i m ys H2 → H2 D = some (.lst ys) ∧ (((Itl K a).stop i H2 ∧ Q H2) ∨ ((Itl K a).go i H2 ∧ ys.length < sizeLine ∧
        ∀ x H3, (Itl K a).yld i H2 x H3 → ∀ os : St, os.length = k → g x (os ++ cap) H3 fun σ2 H0 => (∃ os' : St, os'.length = k ∧ σ2 = os' ++ cap) ∧ te σ2 H0 fun y H4 => H4 D = some (.lst ys) ∧ ∃ m', m' < m ∧ W (i + 1) m' (ys ++ [y]) (upd H4 D (.lst (ys ++ [y]))))) := by
  refine ⟨fun i m ys H => m = xs.length - i ∧ i ≤ xs.length ∧ ys.length = i ∧ H D = some (.lst ys) ∧ Pv i ys H, ⟨xs.length, by simp, Nat.zero_le _, rfl, upd_same, h0⟩, ?_⟩
  rintro i m ys H ⟨rfl, hi, hy, hD, p⟩
  refine ⟨hD, ?_⟩
  have q := hl i ys H p
  by_cases hlt : i < xs.length
  · refine .inr ⟨⟨xs, xs[i], q, by simp [hlt]⟩, by omega, fun x H' y => ?_⟩
    obtain ⟨e, y⟩ := y
    subst e
    exact fun os los => hs i x ys _ (y xs q) hy hD p os los _ fun z H4 hD4 p4 => ⟨hD4, xs.length - (i + 1), by omega, rfl, hlt, by rw [List.length_append, hy]; rfl, upd_same, p4⟩
  · have e : i = xs.length := by omega
    subst e
    exact .inl ⟨⟨xs, q, Nat.le_refl _⟩, hd ys H hy hD p⟩
end
end My
set_option Elab.async false
set_option linter.all false
set_option maxRecDepth 100000
set_option maxHeartbeats 4000000
namespace My
open PySem L2
section
variable {X : Cx} {sc : Scope} {cl : List (Str × Addr)} {ts zs : List Str} {js : List Nat} {elt iter c : Expr} {pos : Pos} {tg : Expr} {g : TG} {wi : TI} {te : TE} {tt : TT}
theorem ps_lcG {y : Str} {py spos : Pos} {iy : Nat} (hc : X.calm = true) (S : CompG X sc cl ts zs js) (hi : PI X tg iter wi) (hg : ∀ s H C fp, PG (compCx X sc cl (ts ++ zs) s H C fp) tg g) (he : ∀ s H C fp, PE (compCx X sc cl (ts ++ zs) s H C fp) elt te)
    (hN : X.N.Nodup) (hiy : X.N[iy]? = some y) (hy : Loc X.env.scope y) (hsw : swapsWith (.ListComp elt [⟨tg, iter, [], 0⟩] sc pos) (some (.Name y py)) spos.line X.env = pure true)
    (hf : X.fn y = true ∨ X.env.scope.names.lookup y = some .local := by first | exact .inl rfl | exact .inr rfl | assumption)
    (hs : ∀ v, foldedSetIterable iter X.env v = pure v := by intro _; rfl) : PS X (.Assign [.Name y py] (.ListComp elt [⟨tg, iter, [], 0⟩] sc pos) spos) (tAsg (tLCG wi ts.length js g te) (gName iy)) := by
  intro pins s σ H De I h
  rw [exec_Assign_Name_used _ _ _ _ hsw]
  refine wpAny_bind (wpAny_standAt (wpAny_bind ?_))
  show wpAny _ _ (do let _ ← comprehension (.ListComp elt [⟨tg, iter, [], 0⟩] sc pos) sc X.env _ (newList []) false (eval iter X.env) (some (assign (.Name y py) X.env))) _ _ s
  refine wpAny_bind (wpAny_mono (wpAny_comprehension_free (use := some (assign (.Name y py) X.env)) (Q := fun _ s' => SP X pins De .next s') rfl hs S.clos S.kind S.names ?_) (fun _ s' hq => wpAny_pure (wpAny_pure hq)) fun _ _ e => e)
  refine (thn (hi pins s σ H _ I h) fun v s1 h1 => thn h1 fun itv s2 h2 => ?_)
  obtain ⟨it, fp, tn, J, H2, e, I2, T, st2, f2, body⟩ := h2
  subst e
  have fr2 : H2 s2.heap.objs.size = none := I2.fresh
  obtain ⟨W, ⟨m0, w0⟩, turn⟩ := body _ fr2
  refine wpAny_newObj_type ?_
  have I3 : Inv X pins σ (upd H2 s2.heap.objs.size (.lst [])) { s2 with heap := s2.heap.push { cls := .type "list", data := .seq ([] : List Value).toArray } } := I2.lnew (t' := s2.toks) (ys := []) (its := []) .nil (Nat.zero_le _)
  refine wpAny_newFunctionEnv S.noCell (by intro y hy; simp at hy) (fun h₁ hn hsb => ?_) S.kind
  generalize hs3 : ({ s2 with heap := s2.heap.push { cls := .type "list", data := .seq ([] : List Value).toArray } } : Shared) = s3 at I3 hn hsb ⊢
  have fpl : ∀ b ∈ fp, FpOk X pins (upd H2 s2.heap.objs.size (.lst [])) b ∧ b < s3.heap.objs.size := fun b hb => by
    obtain ⟨o, ho, _⟩ := T.obj _ _ st2 b hb
    have hl := Heap.lt_size ho
    have hne : b ≠ s2.heap.objs.size := Nat.ne_of_lt hl
    obtain ⟨z1, z2⟩ := f2 b hb
    refine ⟨⟨by rw [upd_ne hne]; exact z1, z2⟩, ?_⟩
    rw [← hs3]
    show b < (s2.heap.push _).objs.size
    rw [Heap.size_push]
    exact Nat.lt_succ_of_lt hl
  have old : ∀ b o, s3.heap.get? b = some o → h₁.get? b = some o := fun b o e => hsb.extBut b o (Nat.ne_of_lt (Heap.lt_size e)) (Heap.get?_push_of_some _ e)
  have loop : ∀ sS : Shared, sS.heap = h₁ → sS.os = s3.os → sS.gens = s3.gens → codeAny (model X.prog X.w) X.A (.compLoop (.ListComp elt [⟨tg, iter, [], 0⟩] sc pos) 0 (.ref it) (.ref s2.heap.objs.size) (compEnvC sc cl s3.heap.objs.size X.env))
      (compPost (model X.prog X.w) X.A X.xe (some (assign (.Name y py) X.env)) (fun _ s' => SP X pins De .next s') (.ref s2.heap.objs.size) s3.heap.objs.size) sS := by
    intro sS eh eo eg
    subst eh
    have J0 : Inv (compCx X sc cl (ts ++ zs) s3 (upd H2 s2.heap.objs.size (.lst [])) s3.heap.objs.size fp) [] (List.replicate ts.length none ++ capS js σ) (upd H2 s2.heap.objs.size (.lst [])) sS := compG_start I3 S fpl (Nat.le_refl _) eo eg old hn
    generalize hX : compCx X sc cl (ts ++ zs) s3 (upd H2 s2.heap.objs.size (.lst [])) s3.heap.objs.size fp = X' at J0
    have stat : ∀ {H' : Hp}, (∀ b ∈ fp, H' b = none) → ∀ b ∈ fp, FpOk X' [] H' b := fun {H'} hn b hb => by
      subst hX
      obtain ⟨⟨_, z1, z2, z3, z4, z5⟩, z6⟩ := fpl b hb
      refine ⟨hn b hb, Nat.ne_of_lt z6, fun q => ?_, .inl hb, fun y c e => z4 y c (S.sub _ _ e), fun p hp => absurd (show p ∈ ([] : List (Addr × Obj)) from hp) (by simp)⟩
      rcases List.mem_cons.mp (I3.stkSub b q) with e | e
      · exact z1 e
      · exact z2 e
    have st3 : tn 0 sS.heap := T.keep _ _ _ st2 fun b hb o e => old b o (by rw [← hs3]; exact Heap.get?_push_of_some _ e)
    refine compLoopT (fun n s' => ∃ i ys os H', os.length = ts.length ∧ Inv X' [] (os ++ capS js σ) H' s' ∧ tn i s'.heap ∧ (∀ b ∈ fp, H' b = none) ∧ W i n ys H') ?_ m0 ⟨0, [], _, _, List.length_replicate, J0, st3, fun b hb => (fpl b hb).1.1, w0⟩
    rintro n s' ⟨i, ys, os, H', los, Iv, st, fr, w⟩
    obtain ⟨hD, alt⟩ := turn i n ys H' w
    have eP : X'.prog = X.prog := by subst hX; rfl
    have eW : X'.w = X.w := by subst hX; rfl
    have eK : X'.K = X.K := by subst hX; rfl
    have eC : X'.calm = true := by subst hX; exact hc
    have eA : X'.A = X.A := by subst hX; rfl
    have eE : X'.env = compEnvC sc cl s3.heap.objs.size X.env := by subst hX; rfl
    have eX : X'.xe = fun _ _ => False := by subst hX; rfl
    rcases alt with ⟨stop, q⟩ | ⟨go, hlen, step⟩
    · have d := T.done X' eP eW eK eC i [] s' _ H' (fun _ _ => False) Iv (stat fr) st stop
      rw [eA] at d
      refine thn d fun r s4 ⟨hr, I4⟩ => ?_
      subst hr
      obtain ⟨m, hm, _⟩ := id I4.loc
      have fC : H' s3.heap.objs.size = none := by
        have z := I4.free
        rw [eE] at z
        exact z
      rw [eE] at hm
      subst hX
      have I5 : Inv X pins σ H' s4 := compG_end (h' := s4.heap) I3 fpl (Nat.le_refl _) I4 ⟨rfl, fun _ _ => rfl⟩
      show wpAny _ _ (assign (.Name y py) X.env (.ref s2.heap.objs.size)) _ _ s4
      have nC : ∀ b, b < s3.heap.objs.size → b ≠ s3.heap.objs.size := fun b hb => Nat.ne_of_lt hb
      have nL : X.env.locals ≠ s3.heap.objs.size := nC _ I3.lt
      have cl3 : ∀ z c, X.env.cells.lookup z = some c → c ≠ s3.heap.objs.size := fun z c e => by
        obtain ⟨v, o, ho, _⟩ := I3.cell z c e
        exact nC _ (Heap.lt_size ho)
      refine wpAny_assign_Name (store_ok2 I5 hN hiy hy (v := .ref s2.heap.objs.size) rfl (fun s5 I6 hb => ?_) hf)
      obtain ⟨a5, sb5, ha5⟩ := hb
      have na5 : s3.heap.objs.size ≠ a5 := by
        rcases ha5 with e | e
        · rw [e]; exact nL.symm
        · exact (cl3 _ _ e).symm
      refine ⟨m, hm.sameBut sb5 na5, fun h' hs' => ?_⟩
      have I7 : Inv X pins (σ.set iy (some (.ref s2.heap.objs.size))) H' { s5 with heap := h', toks := s5.toks } :=
        I6.turned (h' := h') (t' := s5.toks) (it := s3.heap.objs.size) (fun b o hb e => (hs'.2 b hb).trans e) fC nL.symm (.inr I3.sz) cl3 fun p hp => by
          obtain ⟨e1, _⟩ := I3.pin p hp
          exact nC _ (Heap.lt_size e1)
      exact ⟨_, H', I7, q⟩
    · have d := T.item X' eP eW eK eC i [] s' _ H' (fun _ _ => False) Iv (stat fr) st go
      rw [eA] at d
      refine thn d fun r s4 ⟨u, hr, h4⟩ => ?_
      subst hr
      refine thn h4 fun _ s5 ⟨y, H5, I5, r5, y5, st5, fr5⟩ => ?_
      have I5' := I5.pinned (stat fr5) (T.obj _ _ st5)
      have hg' : PG X' tg g := by subst hX; exact hg _ _ _ _
      have g6 := hg' _ s5 _ H5 y u _ I5' r5 (step y H5 y5 os los)
      rw [eP, eW, eA, eE, eX] at g6
      refine thn g6 fun _ s6 ⟨σ6, H6, I6, ⟨os', los', e6⟩, st6⟩ => ?_
      subst e6
      have he' : PE X' elt te := by subst hX; exact he _ _ _ _
      have g7 := he' _ s6 _ H6 _ I6 st6
      rw [eP, eW, eA, eE, eX] at g7
      refine thn g7 fun uv s7 ⟨v7, H7, I7, r7, hD7, m', hm', w7⟩ => ?_
      have g8 := (mt_append (X := X')) _ s7 _ H7 (.ref s2.heap.objs.size) [v7] (.ref s2.heap.objs.size) [uv] (fun _ H8 => H8 = upd H7 s2.heap.objs.size (.lst (ys ++ [v7]))) I7 rfl (.cons r7 .nil) ⟨_, ys, v7, rfl, rfl, hD7, hlen, rfl⟩
      rw [eP, eW, eA, eX] at g8
      refine thn g8 fun _ s8 ⟨_, H8, I8, _, e8⟩ => ?_
      subst e8
      refine ⟨m', hm', i + 1, ys ++ [v7], os', _, los', I8.unpinned, T.keep _ _ _ st5 fun b hb o e => (I8.pin (b, o) (List.mem_append_right _ (List.mem_append_right _ (mem_pinsAt hb e)))).1, fun b hb => ?_, w7⟩
      obtain ⟨o', e', _⟩ := T.obj _ _ st5 b hb
      exact (I8.pin (b, o') (List.mem_append_right _ (List.mem_append_right _ (mem_pinsAt hb e')))).2.1
  have st1 : tn 0 h₁ := T.keep _ _ _ st2 fun b hb o e => old b o (by rw [← hs3]; exact Heap.get?_push_of_some _ e)
  exact codeAny_compStart_list (loop _ rfl rfl rfl) (T.self _ 0 _ _ _ st1 (loop _ rfl rfl rfl))
end
section
variable {X : Cx} {sc : Scope} {cl : List (Str × Addr)} {ts zs : List Str} {js : List Nat} {elt iter c : Expr} {pos : Pos} {tg : Expr} {g : TG} {wi : TI} {te : TE} {tt : TT}
end
end My
set_option Elab.async false
set_option linter.all false
set_option maxRecDepth 100000
set_option maxHeartbeats 1000000
namespace My
open PySem PySem.W L2
section
variable {X : Cx} {pos : Pos}
end
section
variable {K : Frag} {te : TE} {g : TG} {k : Nat} {cap : St} {D : Addr} {H1 : Hp} {Q : Hp → Prop}
theorem lcG_range {lo : Int} {n : Nat} (Pv : Nat → List V → Hp → Prop) (hz : n < sizeLine) (h0 : Pv 0 [] (upd H1 D (.lst [])))
    (hs : ∀ i ys H, i < n → ys.length = i → H D = some (.lst ys) → Pv i ys H → ∀ os : St, os.length = k → ∀ R : VK, (∀ y H4, H4 D = some (.lst ys) → Pv (i + 1) (ys ++ [y]) (upd H4 D (.lst (ys ++ [y]))) → R y H4) → g (.int (lo + i)) (os ++ cap) H fun σ2 H0 => (∃ os' : St, os'.length = k ∧ σ2 = os' ++ cap) ∧ te σ2 H0 R)
    (hd : ∀ ys H, ys.length = n → H D = some (.lst ys) → Pv n ys H → Q H) :
    ∃ W : Nat → Nat → List V → Hp → Prop, (∃ m, W 0 m [] (upd H1 D (.lst []))) ∧
      ∀ i m ys H2, W i m ys H2 → H2 D = some (.lst ys) ∧ (((Itr lo n).stop i H2 ∧ Q H2) ∨ ((Itr lo n).go i H2 ∧ ys.length < sizeLine ∧
        ∀ x H3, (Itr lo n).yld i H2 x H3 → ∀ os : St, os.length = k → g x (os ++ cap) H3 fun σ2 H0 => (∃ os' : St, os'.length = k ∧ σ2 = os' ++ cap) ∧ te σ2 H0 fun y H4 => H4 D = some (.lst ys) ∧ ∃ m', m' < m ∧ W (i + 1) m' (ys ++ [y]) (upd H4 D (.lst (ys ++ [y]))))) := by
  refine ⟨fun i m ys H => m = n - i ∧ i ≤ n ∧ ys.length = i ∧ H D = some (.lst ys) ∧ Pv i ys H, ⟨n, by simp, Nat.zero_le _, rfl, upd_same, h0⟩, ?_⟩
  rintro i m ys H ⟨rfl, hi, hy, hD, p⟩
  refine ⟨hD, ?_⟩
  by_cases hlt : i < n
  · refine .inr ⟨hlt, by omega, fun x H' y => ?_⟩
    obtain ⟨e, y⟩ := y
    subst e y
    exact fun os los => hs i ys _ hlt hy hD p os los _ fun z H4 hD4 p4 => ⟨hD4, n - (i + 1), by omega, rfl, hlt, by rw [List.length_append, hy]; rfl, upd_same, p4⟩
  · have e : i = n := by omega
    subst e
    exact .inl ⟨Nat.le_refl _, hd ys H hy hD p⟩
end
end My
set_option Elab.async false
set_option linter.all false
set_option maxRecDepth 100000
set_option maxHeartbeats 1000000
namespace My
open PySem PySem.W L2
section
variable {X : Cx}
end
end My
set_option Elab.async false
set_option linter.all false
set_option maxRecDepth 100000
set_option maxHeartbeats 1000000
namespace My
open PySem PySem.W L2
open Sem (wp)
open AutoSeq1 (wpAny_loadPart')
open PyProof.Rows (Call_ boot_enumerate)
section
variable {prog : Program} {w : World} {A : Around} {E : Value → Shared → Prop} {s : Shared}
end
section
variable {X : Cx}
end
end My
set_option Elab.async false
set_option linter.all false
set_option maxRecDepth 100000
set_option maxHeartbeats 1000000
namespace My
open PySem PySem.W L2 PyProof.Rows
section
variable {X : Cx} {e : Expr} {te : TE} {pos p1 p2 p3 : Pos}
end
end My
set_option Elab.async false
set_option linter.all false
set_option maxRecDepth 100000
set_option maxHeartbeats 1000000
namespace My
open PySem PySem.W L2
structure Df (P : Program) (w : World) (K : Frag) (mg : Str → Option Value) (base : Heap) (cx : CXT) (k : Nat) (nm : Str) (ps : List Str) (sp : Sp) (g : Addr) (gd : FuncData) : Prop where
  G : FnOk P w K mg base cx k g gd ps sp
  b : Binds K gd ps []
  kp : keepIn K (.ref g) = true
  m : mg nm = some (.ref g)
section
variable {P : Program} {w : World} {K : Frag} {mg : Str → Option Value} {base : Heap}
end
def Kept (H H' : Hp) (p : Addr) : Prop := ∀ b o, H b = some o → b ≠ p → H' b = some o
section
variable {X : Cx} {CX : CXT} {k : Nat} {f : Addr} {fd : FuncData} {ps : List Str} {sp : Sp} {E : XK} {x : Str} {p pos : Pos} {e : Expr} {es : List Expr} {t : TA} {σ : St}
end
structure Fi (k n : Nat) (d : PyData) : Prop where
  sh : d.showable = true
  dp : d.depth ≤ k
  lv : d.leavesShort 64 = true
  bk : d.bulk ≤ n
section
variable {X : Cx} {σ : St} {e : Expr} {es : List Expr} {t : TA} {p pos : Pos} {x : Str} {r : List V → Hp → VK → Prop}
end
section
variable {K : Frag} {H : Hp} {D : Ends} {σ : St} {p : Addr}
end
section
variable {G G' : Hp} {xs ys : List V} {n m : Nat}
end
section
variable {p : Addr} {k m k' m' n : Nat} {te ta tb : TE} {t : TA}
end
section
variable {X : Cx}
end
section
variable {G : Hp → Hp} {σ : St} {H0 : Hp} {k m k' m' n : Nat} {te ta tb : TE} {t : TA}
end
section
variable {H : Hp}
end
section
variable {K : Frag} {H : Hp}
end
section
variable {H : Hp} {De : Ends}
end
end My
set_option Elab.async false
set_option linter.all false
set_option maxRecDepth 100000
set_option maxHeartbeats 1000000
namespace My
open PySem PySem.W L2
section
variable {X : Cx}
end
section
variable {X : Cx}
end
mutual
def eqD : PyData → PyData → Bool
  | .list xs, .list ys => eqDs xs ys
  | .tuple xs, .tuple ys => eqDs xs ys
  | .none, .none => true
  | .bool a, .bool b => a == b
  | .bool a, .int j => (if a then (1 : Int) else 0) == j
  | .int i, .bool b => i == (if b then (1 : Int) else 0)
  | .int i, .int j => i == j
  | .str x, .str y => x == y
  | _, _ => false
def eqDs : List PyData → List PyData → Bool
  | [], [] => true
  | x :: xs, y :: ys => eqD x y && eqDs xs ys
  | _, _ => false
end
mutual
def plainD : PyData → Bool
  | .list xs => plainDs xs
  | .tuple xs => plainDs xs
  | .dict _ => false
  | _ => true
def plainDs : List PyData → Bool
  | [] => true
  | x :: xs => plainD x && plainDs xs
end
mutual
theorem eqD_refl : ∀ {d : PyData}, plainD d = true → eqD d d = true
  | .none, _ => by simp [eqD]
  | .bool b, _ => by simp [eqD]
  | .int i, _ => by simp [eqD]
  | .str x, _ => by simp [eqD]
  | .list xs, h => by simp only [eqD]; exact eqDs_refl (by simpa only [plainD] using h)
  | .tuple xs, h => by simp only [eqD]; exact eqDs_refl (by simpa only [plainD] using h)
  | .dict _, h => by simp [plainD] at h
theorem eqDs_refl : ∀ {ds : List PyData}, plainDs ds = true → eqDs ds ds = true
  | [], _ => by simp [eqDs]
  | d :: ds, h => by
    simp only [plainDs, Bool.and_eq_true] at h
    simp only [eqDs, eqD_refl h.1, eqDs_refl h.2, Bool.and_self]
end
mutual
theorem Rds.det {G : Hp} : ∀ {v : V} {d e : PyData}, Rds G v d → Rds G v e → d = e
  | _, _, _, .non, r => by cases r; rfl
  | _, _, _, .bl b, r => by cases r; rfl
  | _, _, _, .int i, r => by cases r; rfl
  | _, _, _, .str x, r => by cases r; rfl
  | _, _, _, .lst h t, r => by
    cases r with
    | lst h' t' => rw [h] at h'; cases h'; rw [RdsAll.det t t']
    | tup h' _ => rw [h] at h'; cases h'
    | dic0 h' => rw [h] at h'; cases h'
    | dic h' _ => rw [h] at h'; cases h'
  | _, _, _, .tup h t, r => by
    cases r with
    | lst h' _ => rw [h] at h'; cases h'
    | tup h' t' => rw [h] at h'; cases h'; rw [RdsAll.det t t']
    | dic0 h' => rw [h] at h'; cases h'
    | dic h' _ => rw [h] at h'; cases h'
  | _, _, _, .dic0 h, r => by
    cases r with
    | lst h' _ => rw [h] at h'; cases h'
    | tup h' _ => rw [h] at h'; cases h'
    | dic0 h' => rfl
    | dic h' _ => rw [h] at h'; cases h'
  | _, _, _, .dic h t, r => by
    cases r with
    | lst h' _ => rw [h] at h'; cases h'
    | tup h' _ => rw [h] at h'; cases h'
    | dic0 h' => rw [h] at h'; cases h'
    | dic h' t' => rw [h] at h'; cases h'; rw [Rds.det t t']
theorem RdsAll.det {G : Hp} : ∀ {vs : List V} {ds es : List PyData}, RdsAll G vs ds → RdsAll G vs es → ds = es
  | _, _, _, .nil, r => by cases r; rfl
  | _, _, _, .cons h t, r => by
    cases r with
    | cons h' t' => rw [Rds.det h h', RdsAll.det t t']
end
theorem eqDs_all : ∀ (xs ys : List PyData), ((List.range (min xs.length ys.length)).all (fun j => eqD (xs.getD j .none) (ys.getD j .none)) && xs.length == ys.length) = eqDs xs ys
  | [], [] => by simp [eqDs]
  | [], y :: ys => by simp [eqDs]
  | x :: xs, [] => by simp [eqDs]
  | x :: xs, y :: ys => by
    have ih := eqDs_all xs ys
    simp only [eqDs]
    rw [← ih, List.length_cons, List.length_cons, Nat.succ_min_succ, List.range_succ_eq_map, List.all_cons, List.all_map, Bool.and_assoc]
    congr 1
    rw [show (xs.length + 1 == ys.length + 1) = (xs.length == ys.length) from by simp]
    rfl
section
variable {X : Cx}
structure Rc2 (A : Around) (s : Shared) (u v : Value) (b : Bool) : Prop where
  eq : SeqAt.RcAt A s u v b
  ne : SeqAt.RcNeAt A s u v (!b)
structure Rc3 (A : Around) (s : Shared) (u v : Value) (b : Bool) : Prop where
  eq : SeqAt.RcAt A s u v b
  ne : SeqAt.RcNeAt A s u v (!b)
  at_ : SeqAt.EqAt A s u v b
theorem tups_rc {A : Around} {s : Shared} {p q : Addr} {its jts : List Value} (hu : A.units < cLine) (t1 : s.heap.IsTuple p its.toArray) (t2 : s.heap.IsTuple q jts.toArray) (e : Nat → Bool) (he : ∀ j (h1 : j < its.length) (h2 : j < jts.length), SeqAt.EqAt A.in1 s its[j] jts[j] (e j)) :
    Rc2 A s (.ref p) (.ref q) ((List.range (min its.length jts.length)).all e && its.length == jts.length) := by
  have h' : ∀ j (h1 : j < its.toArray.size) (h2 : j < jts.toArray.size), SeqAt.EqAt A.in1 s its.toArray[j] jts.toArray[j] (e j) := fun j h1 h2 => by
    simpa using he j (by simpa using h1) (by simpa using h2)
  have a := SeqAt.RcAt.tuples (e := e) t1 t2 hu h'
  have b := SeqAt.RcNeAt.tuples (e := e) t1 t2 hu h'
  rw [List.size_toArray, List.size_toArray] at a b
  exact ⟨a, b⟩
theorem lsts_rc {A : Around} {s : Shared} {p q : Addr} {its jts : List Value} (hu : A.units < cLine) (t1 : s.heap.IsList p its.toArray) (t2 : s.heap.IsList q jts.toArray) (e : Nat → Bool) (he : ∀ j (h1 : j < its.length) (h2 : j < jts.length), SeqAt.EqAt A.in1 s its[j] jts[j] (e j)) :
    Rc2 A s (.ref p) (.ref q) ((List.range (min its.length jts.length)).all e && its.length == jts.length) := by
  have h' : ∀ j (h1 : j < its.toArray.size) (h2 : j < jts.toArray.size), SeqAt.EqAt A.in1 s its.toArray[j] jts.toArray[j] (e j) := fun j h1 h2 => by
    simpa using he j (by simpa using h1) (by simpa using h2)
  by_cases sz : its.length = jts.length
  · have a := SeqAt.RcAt.lists (e := e) t1 t2 (by simpa using sz) hu h'
    have b := SeqAt.RcNeAt.lists (e := e) t1 t2 (by simpa using sz) hu h'
    rw [List.size_toArray] at a b
    have z : ((List.range (min its.length jts.length)).all e && its.length == jts.length) = (List.range its.length).all e := by
      rw [sz, Nat.min_self]
      simp
    rw [z]
    exact ⟨a, b⟩
  · have z : ((List.range (min its.length jts.length)).all e && its.length == jts.length) = false := by
      rw [show (its.length == jts.length) = false from by simpa using sz]
      simp
    rw [z]
    exact ⟨SeqAt.RcAt.lists_lengths t1 t2 (by simpa using sz) hu, SeqAt.RcNeAt.lists_lengths t1 t2 (by simpa using sz) hu⟩
mutual
theorem eqD_rc {pins : List (Addr × Obj)} {σ : St} {H : Hp} {s : Shared} (I : Inv X pins σ H s) : ∀ {x : V} {d : PyData}, Rds H x d → ∀ {A : Around} {y : V} {e : PyData} {u v : Value}, Rds H y e → plainD d = true → plainD e = true → A.units + d.depth < cLine → RelV x u → RelV y v → Rc3 A s u v (eqD d e)
  | _, _, .non, A, y, e, u, v, ry, pd, pe, hu, ru, rv => by
    have h0 : A.units < cLine := by omega
    cases ru
    cases ry with
    | non => cases rv; simp only [eqD]; exact ⟨.none_none, .none_none, .same _⟩
    | bl b => cases rv; simp only [eqD]; exact ⟨.none_bool _, .none_bool _, .none_bool _⟩
    | int j => obtain ⟨t, rfl⟩ := rv; simp only [eqD]; exact ⟨.none_int _ _, .none_int _ _, .none_int _ _⟩
    | str z => obtain ⟨t, rfl⟩ := rv; simp only [eqD]; exact ⟨.none_str _ _, .none_str _ _, .none_str _ _⟩
    | lst h _ => cases rv; obtain ⟨its, _, t, _⟩ := I.list (SqL.of (K := X.K) h); simp only [eqD]; exact ⟨.none_list t.isList h0, .none_list t.isList h0, .none_list t.isList h0⟩
    | tup h _ => cases rv; obtain ⟨its, _, t, _⟩ := I.tuple (SqT.of (K := X.K) h); simp only [eqD]; exact ⟨.none_tuple t h0, .none_tuple t h0, .none_tuple t h0⟩
    | dic0 _ => simp [plainD] at pe
    | dic _ _ => simp [plainD] at pe
  | _, _, .bl a, A, y, e, u, v, ry, pd, pe, hu, ru, rv => by
    have h0 : A.units < cLine := by omega
    cases ru
    cases ry with
    | non => cases rv; simp only [eqD]; exact ⟨.bool_none _, .bool_none _, .bool_none _⟩
    | bl b => cases rv; simp only [eqD]; exact ⟨.bool_bool _ _, .bool_bool _ _, .bool_bool _ _⟩
    | int j => obtain ⟨t, rfl⟩ := rv; simp only [eqD]; exact ⟨.bool_int _ _ _, .bool_int _ _ _, .bool_int _ _ _⟩
    | str z => obtain ⟨t, rfl⟩ := rv; simp only [eqD]; exact ⟨.bool_str _ _ _, .bool_str _ _ _, .bool_str _ _ _⟩
    | lst h _ => cases rv; obtain ⟨its, _, t, _⟩ := I.list (SqL.of (K := X.K) h); simp only [eqD]; exact ⟨.bool_list _ t.isList h0, .bool_list _ t.isList h0, .bool_list _ t.isList h0⟩
    | tup h _ => cases rv; obtain ⟨its, _, t, _⟩ := I.tuple (SqT.of (K := X.K) h); simp only [eqD]; exact ⟨.bool_tuple _ t h0, .bool_tuple _ t h0, .bool_tuple _ t h0⟩
    | dic0 _ => simp [plainD] at pe
    | dic _ _ => simp [plainD] at pe
  | _, _, .int i, A, y, e, u, v, ry, pd, pe, hu, ru, rv => by
    have h0 : A.units < cLine := by omega
    obtain ⟨tu, rfl⟩ := ru
    cases ry with
    | non => cases rv; simp only [eqD]; exact ⟨.int_none _ _, .int_none _ _, .int_none _ _⟩
    | bl b => cases rv; simp only [eqD]; exact ⟨.int_bool _ _ _, .int_bool _ _ _, .int_bool _ _ _⟩
    | int j => obtain ⟨t, rfl⟩ := rv; simp only [eqD]; exact ⟨.int_int _ _ _ _, .int_int _ _ _ _, .int_int _ _ _ _⟩
    | str z => obtain ⟨t, rfl⟩ := rv; simp only [eqD]; exact ⟨.int_str _ _ _ _, .int_str _ _ _ _, .int_str _ _ _ _⟩
    | lst h _ => cases rv; obtain ⟨its, _, t, _⟩ := I.list (SqL.of (K := X.K) h); simp only [eqD]; exact ⟨.int_list _ _ t.isList h0, .int_list _ _ t.isList h0, .int_list _ _ t.isList h0⟩
    | tup h _ => cases rv; obtain ⟨its, _, t, _⟩ := I.tuple (SqT.of (K := X.K) h); simp only [eqD]; exact ⟨.int_tuple _ _ t h0, .int_tuple _ _ t h0, .int_tuple _ _ t h0⟩
    | dic0 _ => simp [plainD] at pe
    | dic _ _ => simp [plainD] at pe
  | _, _, .str x, A, y, e, u, v, ry, pd, pe, hu, ru, rv => by
    have h0 : A.units < cLine := by omega
    obtain ⟨tu, rfl⟩ := ru
    cases ry with
    | non => cases rv; simp only [eqD]; exact ⟨.str_none _ _, .str_none _ _, .str_none _ _⟩
    | bl b => cases rv; simp only [eqD]; exact ⟨.str_bool _ _ _, .str_bool _ _ _, .str_bool _ _ _⟩
    | int j => obtain ⟨t, rfl⟩ := rv; simp only [eqD]; exact ⟨.str_int _ _ _ _, .str_int _ _ _ _, .str_int _ _ _ _⟩
    | str z => obtain ⟨t, rfl⟩ := rv; simp only [eqD]; exact ⟨.str_str _ _ _ _, .str_str _ _ _ _, .str_str _ _ _ _⟩
    | lst h _ => cases rv; obtain ⟨its, _, t, _⟩ := I.list (SqL.of (K := X.K) h); simp only [eqD]; exact ⟨.str_list _ _ t.isList h0, .str_list _ _ t.isList h0, .str_list _ _ t.isList h0⟩
    | tup h _ => cases rv; obtain ⟨its, _, t, _⟩ := I.tuple (SqT.of (K := X.K) h); simp only [eqD]; exact ⟨.str_tuple _ _ t h0, .str_tuple _ _ t h0, .str_tuple _ _ t h0⟩
    | dic0 _ => simp [plainD] at pe
    | dic _ _ => simp [plainD] at pe
  | _, _, .lst (a := a') (xs := xs) (ds := ds) h rs, A, y, e, u, v, ry, pd, pe, hu, ru, rv => by
    have h0 : A.units < cLine := by omega
    cases ru
    obtain ⟨its, r1, t1, _⟩ := I.list (SqL.of (K := X.K) h)
    cases ry with
    | non => cases rv; simp only [eqD]; exact ⟨.list_none t1.isList h0, .list_none t1.isList h0, .list_none t1.isList h0⟩
    | bl b => cases rv; simp only [eqD]; exact ⟨.list_bool _ t1.isList h0, .list_bool _ t1.isList h0, .list_bool _ t1.isList h0⟩
    | int j => obtain ⟨t, rfl⟩ := rv; simp only [eqD]; exact ⟨.list_int _ _ t1.isList h0, .list_int _ _ t1.isList h0, .list_int _ _ t1.isList h0⟩
    | str z => obtain ⟨t, rfl⟩ := rv; simp only [eqD]; exact ⟨.list_str _ _ t1.isList h0, .list_str _ _ t1.isList h0, .list_str _ _ t1.isList h0⟩
    | @lst b' ys es h' ts =>
      cases rv
      obtain ⟨jts, r2, t2, _⟩ := I.list (SqL.of (K := X.K) h')
      have pds : plainDs ds = true := by simpa only [plainD] using pd
      have pes : plainDs es = true := by simpa only [plainD] using pe
      have dd : A.in1.units + PyData.depthAll ds < cLine := by rw [in1_units]; simp only [PyData.depth] at hu; omega
      have k := lsts_rc h0 t1.isList t2.isList (fun j => eqD (ds.getD j .none) (es.getD j .none)) (fun j h1 h2 => eqDs_at I rs ts pds pes dd r1 r2 h1 h2)
      rw [← r1.length, ← r2.length, rs.length, ts.length, eqDs_all] at k
      simp only [eqD]
      refine ⟨k.eq, k.ne, ?_⟩
      by_cases e : a' = b'
      · subst e
        rw [h] at h'
        cases h'
        have := RdsAll.det rs ts
        subst this
        rw [eqDs_refl pds]
        exact SeqAt.EqAt.same _
      · exact .of_refs e k.eq
    | tup h' _ => cases rv; obtain ⟨jts, _, t, _⟩ := I.tuple (SqT.of (K := X.K) h'); simp only [eqD]; exact ⟨.list_tuple t1.isList t h0, .list_tuple t1.isList t h0, .list_tuple t1.isList t h0⟩
    | dic0 _ => simp [plainD] at pe
    | dic _ _ => simp [plainD] at pe
  | _, _, .tup (a := a') (xs := xs) (ds := ds) h rs, A, y, e, u, v, ry, pd, pe, hu, ru, rv => by
    have h0 : A.units < cLine := by omega
    cases ru
    obtain ⟨its, r1, t1, _⟩ := I.tuple (SqT.of (K := X.K) h)
    cases ry with
    | non => cases rv; simp only [eqD]; exact ⟨.tuple_none t1 h0, .tuple_none t1 h0, .tuple_none t1 h0⟩
    | bl b => cases rv; simp only [eqD]; exact ⟨.tuple_bool _ t1 h0, .tuple_bool _ t1 h0, .tuple_bool _ t1 h0⟩
    | int j => obtain ⟨t, rfl⟩ := rv; simp only [eqD]; exact ⟨.tuple_int _ _ t1 h0, .tuple_int _ _ t1 h0, .tuple_int _ _ t1 h0⟩
    | str z => obtain ⟨t, rfl⟩ := rv; simp only [eqD]; exact ⟨.tuple_str _ _ t1 h0, .tuple_str _ _ t1 h0, .tuple_str _ _ t1 h0⟩
    | @tup b' ys es h' ts =>
      cases rv
      obtain ⟨jts, r2, t2, _⟩ := I.tuple (SqT.of (K := X.K) h')
      have pds : plainDs ds = true := by simpa only [plainD] using pd
      have pes : plainDs es = true := by simpa only [plainD] using pe
      have dd : A.in1.units + PyData.depthAll ds < cLine := by rw [in1_units]; simp only [PyData.depth] at hu; omega
      have k := tups_rc h0 t1 t2 (fun j => eqD (ds.getD j .none) (es.getD j .none)) (fun j h1 h2 => eqDs_at I rs ts pds pes dd r1 r2 h1 h2)
      rw [← r1.length, ← r2.length, rs.length, ts.length, eqDs_all] at k
      simp only [eqD]
      refine ⟨k.eq, k.ne, ?_⟩
      by_cases e : a' = b'
      · subst e
        rw [h] at h'
        cases h'
        have := RdsAll.det rs ts
        subst this
        rw [eqDs_refl pds]
        exact SeqAt.EqAt.same _
      · exact .of_refs e k.eq
    | lst h' _ => cases rv; obtain ⟨jts, _, t, _⟩ := I.list (SqL.of (K := X.K) h'); simp only [eqD]; exact ⟨.tuple_list t1 t.isList h0, .tuple_list t1 t.isList h0, .tuple_list t1 t.isList h0⟩
    | dic0 _ => simp [plainD] at pe
    | dic _ _ => simp [plainD] at pe
  | _, _, .dic0 _, _, _, _, _, _, _, pd, _, _, _, _ => by simp [plainD] at pd
  | _, _, .dic _ _, _, _, _, _, _, _, pd, _, _, _, _ => by simp [plainD] at pd
theorem eqDs_at {pins : List (Addr × Obj)} {σ : St} {H : Hp} {s : Shared} (I : Inv X pins σ H s) : ∀ {xs : List V} {ds : List PyData}, RdsAll H xs ds → ∀ {A : Around} {ys : List V} {es : List PyData} {its jts : List Value}, RdsAll H ys es → plainDs ds = true → plainDs es = true → A.units + PyData.depthAll ds < cLine → Vals xs its → Vals ys jts →
    ∀ {j : Nat} (h1 : j < its.length) (h2 : j < jts.length), SeqAt.EqAt A s its[j] jts[j] (eqD (ds.getD j .none) (es.getD j .none))
  | _, _, .nil, A, ys, es, its, jts, ts, pd, pe, hu, r1, r2, j, h1, h2 => by cases r1; exact absurd h1 (Nat.not_lt_zero _)
  | _, _, .cons (v := x) (d := d) r rs, A, ys, es, its, jts, ts, pd, pe, hu, r1, r2, j, h1, h2 => by
    cases ts with
    | nil => cases r2; exact absurd h2 (Nat.not_lt_zero _)
    | cons r' ts =>
      cases r1 with
      | cons q1 r1 =>
        cases r2 with
        | cons q2 r2 =>
          simp only [plainDs, Bool.and_eq_true] at pd pe
          simp only [PyData.depthAll] at hu
          cases j with
          | zero =>
            exact (eqD_rc I r (A := A) r' pd.1 pe.1 (by omega) q1 q2).at_
          | succ j => exact eqDs_at I rs (A := A) ts pd.2 pe.2 (by omega) r1 r2 (by simpa using h1) (by simpa using h2)
end
def rEqD (g : Bool → Bool) : R2 := fun x y H Q => ∃ d e, Rds H x d ∧ Rds H y e ∧ plainD d = true ∧ plainD e = true ∧ d.depth ≤ 20 ∧ Q (.bl (g (eqD d e))) H
theorem op_eqD (hu : X.A.units + 64 < cLine) : OpR X (compareOp .Eq) (rEqD id) := by
  intro pins s σ H x y v u Q I rx ry h
  obtain ⟨d, e, r1, r2, p1, p2, dd, k⟩ := h
  exact (eqD_rc I r1 r2 p1 p2 (by omega) rx ry).eq X.prog X.w X.xe _ ⟨.bl _, H, I, rfl, k⟩
theorem op_neD (hu : X.A.units + 64 < cLine) : OpR X (compareOp .NotEq) (rEqD not) := by
  intro pins s σ H x y v u Q I rx ry h
  obtain ⟨d, e, r1, r2, p1, p2, dd, k⟩ := h
  exact (eqD_rc I r1 r2 p1 p2 (by omega) rx ry).ne X.prog X.w X.xe _ ⟨.bl _, H, I, rfl, k⟩
end
end My
set_option Elab.async false
set_option linter.all false
set_option maxRecDepth 100000
set_option maxHeartbeats 1000000
namespace My
open PySem PySem.W L2
def nt (H : Hp) (ps : List Addr) : Hp := fun b => if b ∈ ps then none else match H b with
  | some (.tbl _) => none
  | o => o
def Gr (p : Addr) (H H' : Hp) : Prop := ∀ b o, H b = some o → b ≠ p → (∀ t, o ≠ .tbl t) → H' b = some o
section
variable {H H' H1 H2 : Hp} {ps : List Addr} {b p : Addr} {o : HO}
theorem nt_in (n : b ∉ ps) (e : H b = some o) (t : ∀ t, o ≠ .tbl t) : nt H ps b = some o := by
  unfold nt
  rw [if_neg n, e]
  cases o with
  | tbl t' => exact absurd rfl (t t')
  | _ => rfl
theorem nt_of (e : nt H ps b = some o) : b ∉ ps ∧ H b = some o ∧ ∀ t, o ≠ .tbl t := by
  unfold nt at e
  split at e
  · cases e
  · rename_i n
    cases h : H b with
    | none => rw [h] at e; cases e
    | some u =>
      rw [h] at e
      cases u with
      | tbl t => cases e
      | _ => cases e; exact ⟨n, rfl, fun t z => nomatch z⟩
theorem nt_ext (H : Hp) (ps : List Addr) : Ext (nt H ps) H := fun b o e => (nt_of e).2.1
theorem nt_sub {qs : List Addr} (h : ∀ x ∈ qs, x ∈ ps) : Ext (nt H ps) (nt H qs) := fun b o e => by
  obtain ⟨n, e, t⟩ := nt_of e
  exact nt_in (fun z => n (h b z)) e t
theorem Gr.refl (p : Addr) (H : Hp) : Gr p H H := fun _ _ e _ _ => e
theorem Gr.trans (a : Gr p H H1) (c : Gr p H1 H2) : Gr p H H2 := fun b o e n t => c b o (a b o e n t) n t
theorem Ext.gr (x : Ext H H') (p : Addr) : Gr p H H' := fun b o e _ _ => x b o e
theorem Kept.gr (x : Kept H H' p) : Gr p H H' := fun b o e n _ => x b o e n
theorem Gr.nt (g : Gr p H H') (h : p ∈ ps) : Ext (nt H ps) (nt H' ps) := fun b o e => by
  obtain ⟨n, e, t⟩ := nt_of e
  exact nt_in n (g b o e (fun z => n (by rw [z]; exact h)) t) t
theorem Gr.upd {l : Addr} {u : HO} (g : Gr p H H') (n : H l = none) : Gr p H (upd H' l u) := fun b o e m t => by
  rw [upd_ne (ne_of_none e n)]
  exact g b o e m t
theorem nt_upd {l : Addr} {u : HO} (h : l ∈ ps) : nt (upd H l u) ps = nt H ps := by
  funext b
  unfold nt
  by_cases z : b ∈ ps
  · rw [if_pos z, if_pos z]
  · rw [if_neg z, if_neg z, upd_ne (fun e => z (by rw [e]; exact h))]
end
abbrev Tbs := List (Addr × Pos × Str)
structure TI (T : Tbs) (H : Hp) : Prop where
  it : ∀ e ∈ T, TblAt H e.1 e.2.1 e.2.2
  nd : (T.map (·.1)).Nodup
section
variable {T : Tbs} {H H' : Hp} {p pl : Addr} {pos : Pos} {q : Str}
theorem TblAt.tb (t : TblAt H pl pos q) : ∃ ps, H pl = some (.tbl ps) := by
  rcases t with t | ⟨c, t, _⟩
  · exact ⟨_, t⟩
  · exact ⟨_, t⟩
theorem TI.ext (t : TI T H) (x : Ext H H') : TI T H' := ⟨fun e he => by
  rcases t.it e he with z | ⟨c, z, zc⟩
  · exact .inl (x _ _ z)
  · exact .inr ⟨c, x _ _ z, x _ _ zc⟩, t.nd⟩
theorem TI.kept {xs : List V} (t : TI T H) (k : Kept H H' p) (hp : H p = some (.lst xs)) : TI T H' := ⟨fun e he => by
  have n : ∀ {b : Addr} {o : HO}, H b = some o → (∀ ys, o ≠ .lst ys) → b ≠ p := fun {b o} g n z => by
    rw [z, hp] at g
    exact n xs (Option.some.inj g).symm
  rcases t.it e he with z | ⟨c, z, zc⟩
  · exact .inl (k _ _ z (n z fun _ y => nomatch y))
  · exact .inr ⟨c, k _ _ z (n z fun _ y => nomatch y), k _ _ zc (n zc fun _ y => nomatch y)⟩, t.nd⟩
theorem nd_fst {T : Tbs} (nd : (T.map (·.1)).Nodup) {a b : Addr × Pos × Str} (ha : a ∈ T) (hb : b ∈ T) (e : a.1 = b.1) : a = b := by
  obtain ⟨i, hi⟩ := mem_ix ha
  obtain ⟨j, hj⟩ := mem_ix hb
  have ei : (T.map (·.1))[i]? = some a.1 := by rw [List.getElem?_map, hi]; rfl
  have ej : (T.map (·.1))[j]? = some a.1 := by rw [List.getElem?_map, hj, e]; rfl
  obtain ⟨k1, e1⟩ := List.getElem?_eq_some_iff.mp ei
  obtain ⟨k2, e2⟩ := List.getElem?_eq_some_iff.mp ej
  have hij : i = j := (List.getElem_inj nd).mp (e1.trans e2.symm)
  subst hij
  rw [hi] at hj
  exact Option.some.inj hj
theorem TI.made (t : TI T H) (x : ExtP pl H H') (m : (pl, pos, q) ∈ T) (n : TblAt H' pl pos q) : TI T H' := ⟨fun e he => by
  by_cases z : e.1 = pl
  · have := nd_fst t.nd he m z
    rw [this]; exact n
  · obtain ⟨ps, tp⟩ := (t.it _ m).tb
    rcases t.it e he with y | ⟨c, y, yc⟩
    · exact .inl (x _ _ y z)
    · exact .inr ⟨c, x _ _ y z, x _ _ yc (fun w => by rw [w] at yc; rw [yc] at tp; cases tp)⟩, t.nd⟩
theorem ExtP.gr (x : ExtP pl H H') (t : TblAt H pl pos q) : Gr p H H' := fun b o e _ n => x b o e fun z => by
  obtain ⟨ps, tp⟩ := t.tb
  rw [z, tp] at e
  exact n ps (Option.some.inj e).symm
theorem ExtP.kept (x : ExtP pl H H') (t : TblAt H pl pos q) {o : HO} {b : Addr} (e : H b = some o) (n : ∀ t, o ≠ .tbl t) : H' b = some o := x b o e fun z => by
  obtain ⟨ps, tp⟩ := t.tb
  rw [z, tp] at e
  exact n ps (Option.some.inj e).symm
end
structure BoxW (H : Hp) (p : Addr) : Prop where
  ex : ∃ a b c : Int, H p = some (.lst [.int a, .int b, .int c]) ∧ 0 ≤ a ∧ 0 ≤ b ∧ b < 2147483629
theorem BoxW.ext {H H' : Hp} {p : Addr} (h : BoxW H p) (x : Ext H H') : BoxW H' p := by
  obtain ⟨a, b, c, e, r⟩ := h.ex
  exact ⟨a, b, c, x _ _ e, r⟩
theorem BoxW.up {H : Hp} {p l : Addr} {o : HO} (h : BoxW H p) (n : l ≠ p) : BoxW (upd H l o) p := by
  obtain ⟨a, b, c, e, r⟩ := h.ex
  exact ⟨a, b, c, by rw [upd_ne (Ne.symm n)]; exact e, r⟩
structure OkS (T : Tbs) (ps : List Addr) (p : Addr) (H : Hp) : Prop where
  bx : BoxW H p
  ti : TI T H
  mem : p ∈ ps
  ex : ∀ x ∈ ps, ∃ xs, H x = some (.lst xs)
section
variable {T : Tbs} {ps : List Addr} {H H' : Hp} {p pl : Addr} {pos : Pos} {q : Str}
theorem OkS.ext (k : OkS T ps p H) (x : Ext H H') : OkS T ps p H' := ⟨k.bx.ext x, k.ti.ext x, k.mem, fun y h => by obtain ⟨o, e⟩ := k.ex y h; exact ⟨o, x _ _ e⟩⟩
theorem OkS.kept (k : OkS T ps p H) (x : Kept H H' p) (b : BoxW H' p) : OkS T ps p H' := by
  obtain ⟨a0, b0, c0, hp, _⟩ := k.bx.ex
  refine ⟨b, k.ti.kept x hp, k.mem, fun y h => ?_⟩
  by_cases z : y = p
  · obtain ⟨a, b, c, e, _⟩ := b.ex
    exact ⟨_, by rw [z]; exact e⟩
  · obtain ⟨o, e⟩ := k.ex y h
    exact ⟨o, x _ _ e z⟩
theorem OkS.upd {l : Addr} {xs ys : List V} (k : OkS T ps p H) (e : H l = some (.lst xs)) (n : l ≠ p) : OkS T ps p (upd H l (.lst ys)) := by
  refine ⟨k.bx.up n, k.ti.kept (p := l) (fun b o e n => by rw [upd_ne n]; exact e) e, k.mem, fun y h => ?_⟩
  by_cases z : y = l
  · rw [z, upd_same]; exact ⟨ys, rfl⟩
  · rw [upd_ne z]; exact k.ex y h
theorem OkS.made (k : OkS T ps p H) (x : ExtP pl H H') (m : (pl, pos, q) ∈ T) (n : TblAt H' pl pos q) : OkS T ps p H' := by
  have t := k.ti.it _ m
  obtain ⟨a, b, c, e, r⟩ := k.bx.ex
  refine ⟨⟨a, b, c, ExtP.kept x t e (fun _ z => nomatch z), r⟩, k.ti.made x m n, k.mem, fun y h => ?_⟩
  obtain ⟨o, e⟩ := k.ex y h
  exact ⟨o, ExtP.kept x t e (fun _ z => nomatch z)⟩
theorem OkS.nin {b : Addr} {o : HO} (k : OkS T ps p H) (e : H b = some o) (n : ∀ xs, o ≠ .lst xs) : b ∉ ps := fun z => by
  obtain ⟨xs, f⟩ := k.ex b z
  rw [e] at f
  exact n xs (Option.some.inj f)
theorem OkS.new {l : Addr} (k : OkS T ps p H) (e : H l = none) : l ∉ ps := fun h => by
  obtain ⟨o, z⟩ := k.ex l h
  rw [e] at z
  cases z
end
abbrev Oc := Int × Bool
abbrev Rw := Oc × Oc
def TK (G G' : Hp) : Prop := ∀ b xs, G b = some (.tup xs) → G' b = some (.tup xs)
theorem Ext.tk {G G' : Hp} (x : Ext G G') : TK G G' := fun b xs e => x b _ e
def OcV (G : Hp) (v : V) (o : Oc) : Prop := ∃ a, v = .ref a ∧ G a = some (.tup [.int o.1, .bl o.2])
def RwV (G : Hp) (v : V) (r : Rw) : Prop := ∃ a x y, v = .ref a ∧ G a = some (.tup [x, y]) ∧ OcV G x r.1 ∧ OcV G y r.2
def RwsV (G : Hp) (vs : List V) (rs : List Rw) : Prop := vs.length = rs.length ∧ ∀ (i : Nat) v r, vs[i]? = some v → rs[i]? = some r → RwV G v r
def RoV (G : Hp) (v : V) : Option Rw → Prop
  | none => v = .non
  | some r => RwV G v r
section
variable {G G' : Hp} {v : V} {vs : List V} {o : Oc} {r : Rw} {rs : List Rw}
theorem OcV.tk (h : OcV G v o) (t : TK G G') : OcV G' v o := by
  obtain ⟨a, e, f⟩ := h
  exact ⟨a, e, t _ _ f⟩
theorem RwV.tk (h : RwV G v r) (t : TK G G') : RwV G' v r := by
  obtain ⟨a, x, y, e, f, h1, h2⟩ := h
  exact ⟨a, x, y, e, t _ _ f, h1.tk t, h2.tk t⟩
theorem RwsV.tk (h : RwsV G vs rs) (t : TK G G') : RwsV G' vs rs := ⟨h.1, fun i v r h1 h2 => (h.2 i v r h1 h2).tk t⟩
def rwD (r : Rw) : PyData := .tuple [.tuple [.int r.1.1, .bool r.1.2], .tuple [.int r.2.1, .bool r.2.2]]
theorem OcV.rds (h : OcV G v o) : Rds G v (.tuple [.int o.1, .bool o.2]) := by
  obtain ⟨a, rfl, f⟩ := h
  exact .tup f (.cons (.int _) (.cons (.bl _) .nil))
theorem RwV.rds (h : RwV G v r) : Rds G v (rwD r) := by
  obtain ⟨a, x, y, rfl, f, h1, h2⟩ := h
  exact .tup f (.cons h1.rds (.cons h2.rds .nil))
theorem RwsV.nil : RwsV G [] [] := ⟨rfl, fun i v r h => by simp at h⟩
theorem RwsV.snoc (h : RwsV G vs rs) (hv : RwV G v r) : RwsV G (vs ++ [v]) (rs ++ [r]) := by
  refine ⟨by simp [h.1], fun i v' r' h1 h2 => ?_⟩
  rcases Nat.lt_trichotomy i vs.length with z | z | z
  · rw [List.getElem?_append_left z] at h1
    rw [List.getElem?_append_left (by rw [← h.1]; exact z)] at h2
    exact h.2 i v' r' h1 h2
  · subst z
    rw [List.getElem?_append_right (Nat.le_refl _)] at h1
    rw [h.1, List.getElem?_append_right (Nat.le_refl _)] at h2
    simp at h1 h2
    subst h1 h2
    exact hv
  · rw [List.getElem?_eq_none (by simp; omega)] at h1
    cases h1
theorem RwsV.get' (h : RwsV G vs rs) {i : Nat} (hi : vs[i]? = some v) : ∃ r, rs[i]? = some r ∧ RwV G v r := by
  have l : i < rs.length := by rw [← h.1]; exact (List.getElem?_eq_some_iff.mp hi).1
  exact ⟨rs[i], List.getElem?_eq_getElem l, h.2 i v _ hi (List.getElem?_eq_getElem l)⟩
end
def CloA (H : Hp) (f : Addr) (fd : List (Str × Addr) → Value → Value → Value → Addr → FuncData) (qn : Str) (zs : List Str) (cl : List (Str × Addr)) (cv : List (Str × V)) : Prop := ∃ a b d c', H f = some (FncO f (fd cl a b d c')) ∧ H c' = some (CodO c' qn) ∧ Cells H cl cv ∧ cl.map (·.1) = zs
def NL (H H' : Hp) : Prop := ∀ b o, H b = some o → (∀ xs, o ≠ .lst xs) → (∀ t, o ≠ .tbl t) → H' b = some o
theorem Ext.nl {H H' : Hp} (x : Ext H H') : NL H H' := fun b o e _ _ => x b o e
theorem NL.tk {H H' : Hp} (x : NL H H') : TK H H' := fun b xs e => x b _ e (fun _ z => nomatch z) fun _ z => nomatch z
theorem CloA.nl {H H' : Hp} {f : Addr} {fd : List (Str × Addr) → Value → Value → Value → Addr → FuncData} {qn : Str} {zs : List Str} {cl : List (Str × Addr)} {cv : List (Str × V)} (h : CloA H f fd qn zs cl cv) (x : NL H H') : CloA H' f fd qn zs cl cv := by
  obtain ⟨a, b, d, c', h1, h2, h3, h4⟩ := h
  have k : ∀ b o, H b = some (HO.ext o) → H' b = some (HO.ext o) := fun b o e => x b _ e (fun _ z => nomatch z) fun _ z => nomatch z
  exact ⟨a, b, d, c', k _ _ h1, k _ _ h2, ⟨h3.1, fun i x a y v e1 e2 => k _ _ (h3.2.1 i x a y v e1 e2), h3.2.2⟩, h4⟩
theorem NL.nt {H H' : Hp} {ps : List Addr} (x : NL H H') : NL (nt H ps) (nt H' ps) := fun b o e l t => by
  obtain ⟨n, e, _⟩ := nt_of e
  exact nt_in n (x b o e l t) t
theorem nl_upd {H : Hp} {l : Addr} {xs ys : List V} (e : H l = some (.lst xs)) : NL H (upd H l (.lst ys)) := fun b o g n _ => by
  rw [upd_ne (fun z => by rw [z, e] at g; exact n xs (Option.some.inj g).symm)]
  exact g
theorem CloA.out {T : Tbs} {ps : List Addr} {p : Addr} {H : Hp} {f : Addr} {fd : List (Str × Addr) → Value → Value → Value → Addr → FuncData} {qn : Str} {zs : List Str} {cl : List (Str × Addr)} {cv : List (Str × V)} (h : CloA H f fd qn zs cl cv) (k : OkS T ps p H) : CloA (nt H ps) f fd qn zs cl cv := by
  obtain ⟨a, b, d, c', h1, h2, h3, h4⟩ := h
  have k : ∀ b o, H b = some (HO.ext o) → nt H ps b = some (HO.ext o) := fun b o e => nt_in (k.nin e fun _ z => nomatch z) e fun _ z => nomatch z
  exact ⟨a, b, d, c', k _ _ h1, k _ _ h2, ⟨h3.1, fun i x a y v e1 e2 => k _ _ (h3.2.1 i x a y v e1 e2), h3.2.2⟩, h4⟩
theorem ext_hid {H H' : Hp} {cs : List Addr} (x : Ext H H') (n : ∀ b ∈ cs, H b = none) : Ext H (hidC H' cs) := fun b o e => by
  rw [hidC_out (fun z => by rw [n b z] at e; cases e)]
  exact x b o e
theorem hidC_tk {H : Hp} {cl : List (Str × Addr)} {cv : List (Str × V)} (C : Cells H cl cv) : TK H (hidC H (cl.map (·.2))) := fun b xs e => by
  rw [hidC_out (fun z => by obtain ⟨v, q⟩ := C.cel z; rw [e] at q; cases q)]
  exact e
theorem unhid_tk {H H' : Hp} {cs : List Addr} (n : ∀ b ∈ cs, H' b = none) : TK H' (unhid H cs H') := fun b xs e => by
  unfold unhid
  rw [if_neg (fun z => by rw [n b z] at e; cases e)]
  exact e
end My
set_option Elab.async false
set_option linter.all false
set_option maxRecDepth 100000
set_option maxHeartbeats 4000000
namespace Att
open PySem PySem.W PySem.Calls PyProof.Rows
theorem script_low {R : WRecords} {cl : Str → Option Addr} {h : Heap} {a : Addr} {ds : List WData} {as : List Addr} (r : ReadsAllW R cl h [.ref a] [.list ds] as) : a ∈ as := by
  cases r with
  | cons r1 r2 =>
    cases r1 with
    | list => simp
theorem attach_callS {l : OpenLaw} {n : Nat} {q : Program} {loose : List Str} {XP : (Str → Option Value) → Heap → Prop} {YP : World → Heap → Prop} {d : DefRec}
    (hn : l.most = some n) (hdf : d.params.defaults = [])
    (call : ∀ (w : World) (s₀ s₁ : Shared) (mg mb : Str → Option Value) (fa : Addr) (o : Obj) (pm cd doc : Value) (a : Addr) (vs : List Value) (ns : List Int),
      Ground q loose [] XP w s₀ mg mb s₁.heap → YP w s₁.heap →
      s₁.heap.get? fa = some o → o.data = .func (docDef d.name d.params d.body d.scope pm cd doc) → s₁.heap.CodeRec cd d.name → mg d.name = some (.ref fa) →
      s₁.heap.get? a = some { cls := .type "list", data := .seq vs.toArray } → IntsAre vs ns → ns.length ≤ n → s₁.gens = #[] → a ≠ sysModules →
      codeAny (model l.prog w) callerA (.call (.ref fa) ⟨[.ref a], []⟩) (fun r s' => r = .ok (.ret (.bool true)) ∧ OldK s₁.heap s'.heap ∧ s'.os = s₁.os ∧ AllBare s'.gens) s₁) :
    WalkO q loose XP YP l.row.toRowW d [] (fun f vs => PySem.call f vs) := by
  intro w s₀ s₁ mg mb G Y fa o pm cd doc dV kV ho hd hcd hD hmg hg args vals as hpre hlay hrd hwl hlo
  obtain rfl : dV = .none := Dflts.none hD hdf
  obtain rfl : kV = .none := Dflts.noKw hD
  obtain ⟨a, vs, ns, rfl, rfl, hobj, hints, hlen⟩ := script_of hn hpre hwl
  have low : a ≠ sysModules := beq_eq_false_iff_ne.mp (hlo a (script_low hrd))
  refine enter_call (codeAny_mono (call w s₀ s₁ mg mb fa o pm cd doc a vs ns G Y ho (fd_plain hd) hcd hmg hobj hints hlen hg low) fun r s' hq => ?_)
  obtain ⟨rfl, h2, h3, h4⟩ := hq
  exact ⟨.inl ⟨.bool true, .bool true, [], rfl, fun _ => rfl, .bool true, post_true l _, fun _ => ⟨List.Pairwise.nil, fun _ hm => (nomatch hm)⟩⟩, h2, h3, h4⟩
end Att
namespace L2
open PySem PySem.Spec PyProof.Rows
end L2
set_option Elab.async false
set_option linter.all false
set_option maxRecDepth 100000
set_option maxHeartbeats 4000000
namespace My
open PySem PySem.W L2
def pls (T : Tbs) : List Addr := T.map (·.1)
def cutK (K : Frag) (T : Tbs) : Frag := K.filter fun e => !(pls T).contains e.1
theorem cutK_out {K : Frag} {T : Tbs} {x : Addr} (h : x ∉ pls T) : (cutK K T).lookup x = K.lookup x := by
  unfold cutK
  induction K with
  | nil => rfl
  | cons e K ih =>
    rw [List.filter_cons]
    cases c : (pls T).contains e.1 with
    | true =>
      have m : e.1 ∈ pls T := by simpa using c
      rw [if_neg (by simp), ih, List.lookup_cons]
      rw [beq_false_of_ne (fun z => h (by rw [z]; exact m))]
    | false =>
      rw [if_pos (by simp), List.lookup_cons, List.lookup_cons, ih]
theorem cutK_in {K : Frag} {T : Tbs} {x : Addr} (h : x ∈ pls T) : (cutK K T).lookup x = none := by
  unfold cutK
  induction K with
  | nil => rfl
  | cons e K ih =>
    rw [List.filter_cons]
    cases c : (pls T).contains e.1 with
    | true => rw [if_neg (by simp), ih]
    | false =>
      have m : e.1 ∉ pls T := by simpa using c
      rw [if_pos (by simp), List.lookup_cons, ih]
      rw [beq_false_of_ne (fun z => m (by rw [← z]; exact h))]
theorem cutK_kp {K : Frag} {T : Tbs} {x : Addr} {o : Obj} (h : (cutK K T).lookup x = some o) : x ∉ pls T ∧ K.lookup x = some o := by
  by_cases z : x ∈ pls T
  · rw [cutK_in z] at h; cases h
  · exact ⟨z, by rw [← cutK_out z]; exact h⟩
structure TbH (T : Tbs) (h : Heap) : Prop where
  tab : ∀ e ∈ T, h.get? e.1 = some (tabObj #[])
  cod : ∀ e ∈ T, isCodeTable h e.1
  nd : (T.map (·.1)).Nodup
theorem mem_pls {T : Tbs} {b : Addr} (h : b ∈ pls T) : ∃ e ∈ T, e.1 = b := by
  obtain ⟨e, he, rfl⟩ := List.mem_map.mp h
  exact ⟨e, he, rfl⟩
end My
namespace L2
open PySem PySem.Spec PyProof.Rows My
theorem law_callT {P : Program} {w : World} {K : PySem.W.Frag} {T : Tbs} {mg mb : Str → Option Value} {k : Nat} {fa a : Addr} {fd : FuncData} {x : Str} {sp : Sp} {s₁ : Shared} {vs : List Value} {ns : List Int}
    (KX : K.In s₁.heap) (KT : ∀ b ∈ pls T, K.lookup b = none) (B : TbH T s₁.heap) (hns : s₁.heap.Ns mainGlobals mg) (hb : s₁.heap.Ns builtinsNs mb) (hbb : ∀ x : Str, x ≠ "__name__" → mb x = bootBuiltins x) (hlim : s₁.heap.NoLimit) (hg : s₁.gens = #[])
    (ha : s₁.heap.get? a = some { cls := .type "list", data := .seq vs.toArray }) (hi : IntsAre vs ns) (hl : ns.length ≤ sizeLine) (hr : Room k callerA)
    (F : ∀ base : Heap, K.In base → base.Ns mainGlobals mg → FnOk P w K mg base CX0 k fa fd [x] sp) (hbind : ∀ (s : Shared) (u : Value), BindsTo s fd ⟨[u], []⟩ [(x, u)])
    (hsp : ∀ H : Hp, SqL K H a (ns.map V.int) → My.TI T H → sp [.ref a] H (fun v _ => v = .bl true) fun _ _ _ => False) :
    codeAny (model P w) callerA (.call (.ref fa) ⟨[.ref a], []⟩) (fun r s' => r = .ok (.ret (.bool true)) ∧ OldK s₁.heap s'.heap ∧ s'.os = s₁.os ∧ AllBare s'.gens) s₁ := by
  have rv := vals_ints hi
  have lenV := hi.length
  have tab : ∀ {b : Addr}, b ∈ pls T → s₁.heap.get? b = some (PySem.W.tabObj #[]) := fun {b} h => by
    obtain ⟨e, he, rfl⟩ := mem_pls h
    exact B.tab e he
  have na : a ∉ pls T := fun h => by
    have := tab h
    rw [ha] at this
    cases this
  have core : ∀ H : Hp, (∀ b, b ∈ pls T → H b = some (.tbl #[])) → (∀ b, b ∉ pls T → H b = none ∨ ∃ ob xs, H b = some (.frz ob (.lst xs))) → SqL K H a (ns.map V.int) → HOk P w H s₁.heap → (∀ b, H b ≠ none → b = a ∨ b ∈ pls T) → (H a ≠ none → K.lookup a = none) →
      codeAny (model P w) callerA (.call (.ref fa) ⟨[.ref a], []⟩) (fun r s' => r = .ok (.ret (.bool true)) ∧ OldK s₁.heap s'.heap ∧ s'.os = s₁.os ∧ AllBare s'.gens) s₁ := by
    intro H hT hO hS hok hA hK
    have base_of : ∀ {b : Addr} {o : Obj}, s₁.heap.get? b = some o → H b = none → (hidT s₁.heap H).get? b = some o := fun e n => hidT_get e n
    have noA : ∀ {b : Addr} {o : Obj} {es : Array DictEntry} {ep : Nat}, s₁.heap.get? b = some o → o.data = .dict es ep → H b = none := fun {b o es ep} e d => by
      cases q : H b with
      | none => rfl
      | some u =>
        rcases hA b (by rw [q]; simp) with e' | e'
        · subst e'
          rw [ha] at e; cases e
          have d' : Data.seq vs.toArray _ = Data.dict es ep := d
          cases d'
        · rw [tab e'] at e; cases e
          have d' : Data.fields #[] = Data.dict es ep := d
          cases d'
    have nsK : ∀ {b : Addr} {m : Str → Option Value}, s₁.heap.Ns b m → (hidT s₁.heap H).Ns b m := fun {b m} ⟨o, es, ep, e, d, r⟩ => ⟨o, es, ep, base_of e (noA e d), d, r⟩
    have hKb : K.In (hidT s₁.heap H) := fun b o e => by
      have nb : b ∉ pls T := fun z => by rw [KT b z] at e; cases e
      refine base_of (KX b o e) ?_
      cases q : H b with
      | none => rfl
      | some u =>
        rcases hA b (by rw [q]; simp) with e' | e'
        · subst e'
          rw [hK (by rw [q]; simp)] at e; cases e
        · exact absurd e' nb
    have hM : Mod K mg (hidT s₁.heap H) := ⟨hKb, nsK hns, ⟨mb, nsK hb, hbb⟩, let ⟨mc, h1, h2⟩ := hlim; ⟨mc, nsK h1, h2⟩⟩
    have e0 : Env0 P w K mg (hidT s₁.heap H) callerA [] s₁ H := ⟨rfl, hM, fun b o e => of_hidT e, Nat.le_of_eq (hidT_size _ _), trivial, fun b hb => absurd (show b ∈ ([] : List Addr) from hb) (by simp), hok, .of_eq hg⟩
    have ti : My.TI T H := ⟨fun e he => .inl (hT _ (List.mem_map.mpr ⟨e, he, rfl⟩)), B.nd⟩
    refine codeAny_mono ((F _ hKb (nsK hns)).run callerA [] s₁ H ⟨[.ref a], []⟩ [.ref a] [.ref a] _ _ hr e0 (hbind s₁ (.ref a)) (.cons rfl .nil) (hsp H hS ti)) fun r s' h => ?_
    cases r with
    | error e => exact False.elim h
    | ok fl =>
      cases fl with
      | next => exact False.elim h
      | brk => exact False.elim h
      | cont => exact False.elim h
      | ret u =>
        obtain ⟨v, H', os, bare, un, hok', r', q⟩ := h
        have q' : v = .bl true := q
        subst q'
        obtain rfl : u = Value.bool true := r'
        have kept : ∀ b o, s₁.heap.get? b = some o → b ∉ pls T → s'.heap.get? b = some o := fun b o e nb => by
          rcases hO b nb with z | ⟨ob, xs, z⟩
          · exact un.keep b o e z (by intro z; exact absurd (show b ∈ ([] : List Addr) from z) (by simp)) (by simp)
          · have z2 := un.frzs b ob _ z
            obtain ⟨e1, _⟩ := hok b _ z
            obtain ⟨e2, _⟩ := hok' b _ z2
            rw [e] at e1; cases e1
            exact e2
        have grown : ∀ b, b ∈ pls T → ∃ more, s'.heap.get? b = some (PySem.W.tabObj (#[] ++ more)) := fun b hb => by
          obtain ⟨m, z⟩ := un.tbls b _ (hT b hb)
          exact ⟨m, hok' b _ z⟩
        refine ⟨rfl, ⟨fun b o e => ?_, fun b o e => ?_⟩, os, bare⟩
        · by_cases hb : b ∈ pls T
          · obtain ⟨m, z⟩ := grown b hb
            have t := tab hb
            rw [t] at e; cases e
            obtain ⟨en, he, rfl⟩ := mem_pls hb
            exact .inr (.inl ⟨B.cod en he, rfl, _, m, rfl, z⟩)
          · exact .inl (kept b o e hb)
        · by_cases hb : b ∈ pls T
          · obtain ⟨m, z⟩ := grown b hb
            exact ⟨_, z⟩
          · exact ⟨_, kept b o e hb⟩
  cases hk : K.lookup a with
  | some o =>
    have e := KX a o hk
    rw [ha] at e
    cases e
    refine core (fun b => if b ∈ pls T then some (.tbl #[]) else none) (fun b hb => if_pos hb) (fun b hb => .inl (if_neg hb)) (.inr ⟨_, vs.toArray, _, hk, rfl, rfl, rfl, by rw [List.size_toArray, lenV]; exact hl, by simpa using rv⟩) (fun b u z => ?_) (fun b z => ?_) fun z => absurd (if_neg na) z
    · by_cases hb : b ∈ pls T
      · have z' := (if_pos hb).symm.trans z
        cases z'
        exact tab hb
      · have z' := (if_neg hb).symm.trans z
        cases z'
    · by_cases hb : b ∈ pls T
      · exact .inr hb
      · exact absurd (if_neg hb) z
  | none =>
    have e1 : ∀ {b : Addr}, b ∈ pls T → (fun b => if b ∈ pls T then some (HO.tbl #[]) else if b = a then some (.frz { cls := .type "list", data := .seq vs.toArray } (.lst (ns.map V.int))) else none : Hp) b = some (.tbl #[]) := fun hb => if_pos hb
    have e2 : (fun b => if b ∈ pls T then some (HO.tbl #[]) else if b = a then some (.frz { cls := .type "list", data := .seq vs.toArray } (.lst (ns.map V.int))) else none : Hp) a = some (.frz { cls := .type "list", data := .seq vs.toArray } (.lst (ns.map V.int))) := (if_neg na).trans (if_pos rfl)
    have e3 : ∀ {b : Addr}, b ∉ pls T → b ≠ a → (fun b => if b ∈ pls T then some (HO.tbl #[]) else if b = a then some (.frz { cls := .type "list", data := .seq vs.toArray } (.lst (ns.map V.int))) else none : Hp) b = none := fun hb n => (if_neg hb).trans (if_neg n)
    refine core _ (fun b hb => e1 hb) (fun b hb => ?_) (.inl (.inr ⟨_, e2⟩)) (fun b u z => ?_) (fun b z => ?_) fun _ => hk
    · by_cases n : b = a
      · subst n; exact .inr ⟨_, _, e2⟩
      · exact .inl (e3 hb n)
    · by_cases hb : b ∈ pls T
      · rw [e1 hb] at z
        cases z
        exact tab hb
      · by_cases n : b = a
        · subst n
          rw [e2] at z
          cases z
          exact ⟨ha, by rw [List.length_map]; exact hl, vs, _, rv, ha⟩
        · rw [e3 hb n] at z
          cases z
    · by_cases hb : b ∈ pls T
      · exact .inr hb
      · by_cases n : b = a
        · exact .inl n
        · exact absurd (e3 hb n) z
theorem walk_ofT {l : PySem.W.OpenLaw} {n k : Nat} {q : Program} {loose : List Str} {XP : (Str → Option Value) → Heap → Prop} {YP : World → Heap → Prop} {d : DefRec} {K : Params → PySem.W.Frag} {sp : PySem.W.Frag → Tbs → Sp} {x : Str}
    (hn : l.most = some n) (hn2 : n ≤ sizeLine) (hdf : d.params.defaults = []) (hr : Room k callerA)
    {ts : List Addr} (hY : ∀ (w : World) (h : Heap), YP w h → (K w.params).In h ∧ ∀ b ∈ ts, h.get? b = some (PySem.W.tabObj #[]))
    (F : ∀ (w : World) (mg : Str → Option Value) (fa : Addr) (h : Heap), (K w.params).In h → (∀ b ∈ ts, h.get? b = some (PySem.W.tabObj #[])) → h.Ns mainGlobals mg → (∃ bm ob, mg "__builtins__" = some (.ref bm) ∧ bm ≠ builtinsNs ∧ h.get? bm = some ob ∧ ob.cls = .type "module" ∧ ob.dict = some builtinsNs ∧ ob.data = .plain) → mg d.name = some (.ref fa) →
      ∃ (fd : FuncData) (T : Tbs) (K2 : PySem.W.Frag), (∀ (s : Shared) (u : Value), BindsTo s fd ⟨[u], []⟩ [(x, u)]) ∧ K2.In h ∧ (∀ b ∈ pls T, K2.lookup b = none) ∧ TbH T h ∧
        ∀ base : Heap, K2.In base → base.Ns mainGlobals mg → FnOk l.prog w K2 mg base CX0 k fa fd [x] (sp K2 T))
    (hsp : ∀ (K2 : PySem.W.Frag) (T : Tbs) (H : Hp) (a : Addr) (ns : List Int), ns.length ≤ n → SqL K2 H a (ns.map V.int) → My.TI T H → sp K2 T [.ref a] H (fun v _ => v = .bl true) fun _ _ _ => False) :
    PySem.W.WalkO q loose XP YP l.row.toRowW d [] (fun f vs => PySem.call f vs) := by
  refine Att.attach_callS hn hdf fun w s₀ s₁ mg mb fa o pm cd doc a vs ns G Y ho hd hcd hmg hobj hints hlen hg low => ?_
  obtain ⟨KX, tabs⟩ := hY w _ Y
  obtain ⟨fd, T, K2, hb, X2, KT, B, hF⟩ := F w mg fa _ KX tabs G.T.g G.T.bmain hmg
  exact law_callT X2 KT B G.T.g G.T.b G.T.builtins G.T.nolimit hg hobj hints (Nat.le_trans hlen hn2) hr hF hb fun H hS ti => hsp K2 T H a ns hlen hS ti
end L2
set_option Elab.async false
set_option linter.all false
set_option maxRecDepth 100000
set_option maxHeartbeats 4000000
namespace My
open PySem L2
def top (i : Nat) : Stmt := PySem.Challenge.pw_trialdeal_k59_worlds.main.body.getD i (.Pass ⟨0, 0, 0, 0⟩)
end My
set_option Elab.async false
set_option linter.all false
set_option maxRecDepth 100000
set_option maxHeartbeats 1000000
namespace My
open PySem PySem.W L2
def nstF (s : Stmt) (i : Nat) : Stmt := (defBody s).getD i (.Pass ⟨0, 0, 0, 0⟩)
def lamA (s : Stmt) : Arguments := match s with
  | .Return (some (.Lambda a _ _ _)) _ => a
  | _ => ⟨[], [], none, [], [], none, []⟩
def lamE (s : Stmt) : Expr := match s with
  | .Return (some (.Lambda _ e _ _)) _ => e
  | _ => .Constant .none 0 ⟨0, 0, 0, 0⟩
def lamS (s : Stmt) : Scope := match s with
  | .Return (some (.Lambda _ _ sc _)) _ => sc
  | _ => { kind := .function, names := [], isGenerator := false, isCoroutine := false }
abbrev nW : Stmt := nstF (top 5) 1
abbrev nS : Stmt := nstF (top 7) 1
abbrev nU : Stmt := nstF (top 8) 0
abbrev nL : Stmt := nstF (top 17) 0
abbrev qW : Str := "world_of.<locals>.world"
abbrev qS : Str := "spared_world.<locals>.spared"
abbrev qU : Str := "turned_world.<locals>.turned"
abbrev qL : Str := "_law_own.<locals>.<lambda>"
abbrev fdW := fdN "world" qW (defArgs nW) (defBody nW) (defScope nW)
abbrev fdS := fdN "spared" qS (defArgs nS) (defBody nS) (defScope nS)
abbrev fdU := fdN "turned" qU (defArgs nU) (defBody nU) (defScope nU)
abbrev fdL : List (Str × Addr) → Value → Value → Value → Addr → FuncData := fun cl _ pm ctv c' => kla_fn (Str.ofString "<lambda>") qL (lamA nL) (lamE nL) (lamS nL) cl pm (.ref c') ctv
def swR (r : Rw) : Rw := (r.2, r.1)
def spR (few : List Int) (k : Nat) (r : Rw) : Rw := if (k : Int) ∈ few then (r.2, r.2) else r
def Wd : Nat → Hp → Addr → List Rw → Prop
  | 0, H, f, rs => (∃ cl t vs, CloA H f fdW qW ["kept"] cl [("kept", .ref t)] ∧ H t = some (.tup vs) ∧ RwsV H vs rs) ∨ (∃ cl t vs, CloA H f fdL qL ["_law_listing_here"] cl [("_law_listing_here", .ref t)] ∧ H t = some (.lst vs) ∧ RwsV H vs rs)
  | n + 1, H, f, rs => ∃ g rs0, (∃ cl, CloA H f fdU qU ["world"] cl [("world", .ref g)] ∧ Wd n (hidC H (cl.map (·.2))) g rs0 ∧ rs = rs0.map swR) ∨
      (∃ cl t few, CloA H f fdS qS ["world", "kept"] cl [("world", .ref g), ("kept", .ref t)] ∧ H t = some (.tup (few.map V.int)) ∧ Wd n (hidC H (cl.map (·.2))) g rs0 ∧ rs = rs0.mapIdx (spR few))
theorem Wd.ext : ∀ {n : Nat} {H H' : Hp} {f : Addr} {rs : List Rw}, Wd n H f rs → Ext H H' → Wd n H' f rs
  | 0, H, H', f, rs, h, x => by
    rcases h with ⟨cl, t, vs, c, e, r⟩ | ⟨cl, t, vs, c, e, r⟩
    · exact .inl ⟨cl, t, vs, c.nl x.nl, x _ _ e, r.tk x.tk⟩
    · exact .inr ⟨cl, t, vs, c.nl x.nl, x _ _ e, r.tk x.tk⟩
  | n + 1, H, H', f, rs, h, x => by
    obtain ⟨g, rs0, ⟨cl, c, w, e⟩ | ⟨cl, t, few, c, k, w, e⟩⟩ := h
    · exact ⟨g, rs0, .inl ⟨cl, c.nl x.nl, Wd.ext w (hidC_ext _ x), e⟩⟩
    · exact ⟨g, rs0, .inr ⟨cl, t, few, c.nl x.nl, x _ _ k, Wd.ext w (hidC_ext _ x), e⟩⟩
theorem Wd.fn {n : Nat} {H : Hp} {f : Addr} {rs : List Rw} (h : Wd n H f rs) : ∃ fd, H f = some (FncO f fd) := by
  cases n with
  | zero =>
    rcases h with ⟨cl, t, vs, ⟨_, _, _, _, c, _⟩, e, r⟩ | ⟨cl, t, vs, ⟨_, _, _, _, c, _⟩, e, r⟩
    · exact ⟨_, c⟩
    · exact ⟨_, c⟩
  | succ n =>
    obtain ⟨g, rs0, ⟨cl, ⟨_, _, _, _, c, _⟩, w, e⟩ | ⟨cl, t, few, ⟨_, _, _, _, c, _⟩, k, w, e⟩⟩ := h
    · exact ⟨_, c⟩
    · exact ⟨_, c⟩
def Wsp (n : Nat) (f : Addr) (v : V) (H : Hp) (Q : VK) : Prop := ∃ rs i, Wd n H f rs ∧ rs.length ≤ 20 ∧ v = .int ((i : Nat) : Int) ∧ i ≤ rs.length + 8 ∧ ∀ u H', Ext H H' → RoV H' u rs[i]? → Q u H'
section
variable {P : Program} {w : World} {K : Frag} {mg : Str → Option Value} {base : Heap}
abbrev sIsNum : Stmt := top 1
def spIsNum (K : Frag) : Sp := fun vs H Q _ => ∃ i, vs = [.int i] ∧ Q (.bl true) H
theorem scIN : FnScope ["thing"] ["thing"] (defScope sIsNum) := ⟨rfl, rfl, rfl, by decide +kernel, rfl, by decide +kernel, by decide +kernel⟩
theorem ok_isnum {f : Addr} {fd : FuncData} (N : IsT K) (F : Fun K "is_number" "is_number" sIsNum f fd) (mi : mg "isinstance" = none) (m1 : mg "int" = none) (m2 : mg "bool" = none) : FnOk P w K mg base CX0 1 f fd ["thing"] (spIsNum K) := by
  refine F.ok scIN (fun vs H Q E h => ?_) (fun cdv A outer s H vs Q E hr h => ?_)
  · obtain ⟨c, rfl, _⟩ := h
    rfl
  obtain ⟨i, rfl, q⟩ := h
  refine ⟨_, pss_one (ps_ret (pe_and (pe_callB (call_isK N) rfl mi PyProof.Rows.boot_isinstance (pa_cons (pv 0) (pa_cons (pe_ty rfl m1 PyProof.Rows.boot_int) pa_nil)))
    (pe_one (pe_not (pe_callB (call_isK N) rfl mi PyProof.Rows.boot_isinstance (pa_cons (pv 0) (pa_cons (pe_ty rfl m2 PyProof.Rows.boot_bool) pa_nil))))))), ?_⟩
  exact ⟨_, rfl, _, _, _, _, rfl, .inl (.int i), k_ii, _, rfl, ⟨_, rfl, _, _, _, _, rfl, .inl (.int i), k_ib, _, rfl, q⟩⟩
abbrev sIsWh : Stmt := top 2
def spIsWh (K : Frag) : Sp := fun vs H Q _ => ∃ x lo hi, vs = [.int x, .int lo, .int hi] ∧ Q (.bl (decide (lo ≤ x) && decide (x ≤ hi))) H
theorem scIW : FnScope ["thing", "low", "high"] ["thing", "low", "high"] (defScope sIsWh) := ⟨rfl, rfl, rfl, by decide +kernel, rfl, by decide +kernel, by decide +kernel⟩
theorem ok_iswh {f g : Addr} {fd gd : FuncData} (F : Fun K "is_whole" "is_whole" sIsWh f fd) (G : FnOk P w K mg base CX0 1 g gd ["thing"] (spIsNum K)) (bG : Binds K gd ["thing"] []) (kG : keepIn K (.ref g) = true) (mG : mg "is_number" = some (.ref g)) :
    FnOk P w K mg base CX0 2 f fd ["thing", "low", "high"] (spIsWh K) := by
  refine F.ok scIW (fun vs H Q E h => ?_) (fun cdv A outer s H vs Q E hr h => ?_)
  · obtain ⟨c, lo, hi, rfl, _⟩ := h
    rfl
  obtain ⟨i, lo, hi, rfl, q⟩ := h
  refine ⟨_, pss_one (ps_ret (pe_and (pe_call G hr rfl mG kG bG .nil pass0 (pa_cons (pv 0) pa_nil)) (pe_and (pe_cmpR op_le (pv 1) (pv 0) (nomark _)) (pe_one (pe_cmpR op_le (pv 0) (pv 2) (nomark _)))))), ?_⟩
  refine ⟨_, rfl, _, rfl, _, rfl, ?_⟩
  refine itT ⟨_, rfl, _, rfl, _, _, rfl, rfl, _, rfl, ?_⟩
  refine ite2 (fun c => ?_) (fun c => ?_)
  · refine ⟨_, rfl, _, rfl, _, _, rfl, rfl, ?_⟩
    rw [decide_eq_true (of_decide_eq_true c), Bool.true_and] at q
    exact q
  · rw [decide_eq_false (fun z => c (decide_eq_true z)), Bool.false_and] at q
    exact q
abbrev sIs2 : Stmt := top 4
def spIs2 : Sp := fun vs H Q _ => (vs = [.non] ∧ Q (.bl false) H) ∨ ∃ a x y, vs = [.ref a] ∧ H a = some (.tup [x, y]) ∧ Q (.bl true) H
theorem scI2 : FnScope ["thing"] ["thing"] (defScope sIs2) := ⟨rfl, rfl, rfl, by decide +kernel, rfl, by decide +kernel, by decide +kernel⟩
theorem ok_is2 {f : Addr} {fd : FuncData} (N : IsT K) (F : Fun K "is_two" "is_two" sIs2 f fd) (mi : mg "isinstance" = none) (m1 : mg "tuple" = none) (m2 : mg "len" = none) : FnOk P w K mg base CX0 1 f fd ["thing"] spIs2 := by
  refine F.ok scI2 (fun vs H Q E h => ?_) (fun cdv A outer s H vs Q E hr h => ?_)
  · rcases h with ⟨rfl, _⟩ | ⟨a, x, y, rfl, _⟩ <;> rfl
  refine ⟨_, pss_one (ps_ret (pe_and (pe_callB (call_isK N) rfl mi PyProof.Rows.boot_isinstance (pa_cons (pv 0) (pa_cons (pe_ty rfl m1 PyProof.Rows.boot_tuple) pa_nil)))
    (pe_one (pe_cmpR op_eq (pe_callB call_len_seq rfl m2 PySem.boot_len (pa_cons (pv 0) pa_nil)) pe_int (nomark _))))), ?_⟩
  rcases h with ⟨rfl, q⟩ | ⟨a, x, y, rfl, e, q⟩
  · exact ⟨_, rfl, _, _, _, _, rfl, .inl .non, rfl, _, rfl, itF q⟩
  · refine ⟨_, rfl, _, _, _, _, rfl, .inl (.tup e), rfl, _, rfl, itT ⟨_, rfl, a, _, rfl, .inr (SqT.of e), ?_⟩⟩
    exact ⟨rfl, by rw [decide_eq_true (show V.int ((([x, y] : List V).length : Nat) : Int) = V.int 2 from rfl)]; exact q⟩
end
end My
set_option Elab.async false
set_option linter.all false
set_option maxRecDepth 100000
set_option maxHeartbeats 1000000
namespace My
open PySem PySem.W L2
theorem scW : ClScope ["at", "kept"] "at" ["kept"] (defScope nW) := ⟨rfl, rfl, rfl, by decide +kernel, rfl, by decide +kernel, by decide +kernel, fun x h => by
  have m := PySem.mem_of_lookup h
  have : ∀ y ∈ (defScope nW).names, y.2 = .free → y.1 ∈ (["kept"] : List Str) := by decide +kernel
  exact this _ m rfl, by decide +kernel⟩
theorem scS : ClScope ["at", "told", "world", "kept"] "at" ["world", "kept"] (defScope nS) := ⟨rfl, rfl, rfl, by decide +kernel, rfl, by decide +kernel, by decide +kernel, fun x h => by
  have m := PySem.mem_of_lookup h
  have : ∀ y ∈ (defScope nS).names, y.2 = .free → y.1 ∈ (["world", "kept"] : List Str) := by decide +kernel
  exact this _ m rfl, by decide +kernel⟩
theorem scU : ClScope ["at", "told", "world"] "at" ["world"] (defScope nU) := ⟨rfl, rfl, rfl, by decide +kernel, rfl, by decide +kernel, by decide +kernel, fun x h => by
  have m := PySem.mem_of_lookup h
  have : ∀ y ∈ (defScope nU).names, y.2 = .free → y.1 ∈ (["world"] : List Str) := by decide +kernel
  exact this _ m rfl, by decide +kernel⟩
theorem scL : ClScope ["_law_folk", "_law_listing_here"] "_law_folk" ["_law_listing_here"] (lamS nL) := ⟨rfl, rfl, rfl, by decide +kernel, rfl, by decide +kernel, by decide +kernel, fun x h => by
  have m := PySem.mem_of_lookup h
  have : ∀ y ∈ (lamS nL).names, y.2 = .free → y.1 ∈ (["_law_listing_here"] : List Str) := by decide +kernel
  exact this _ m rfl, by decide +kernel⟩
section
variable {P : Program} {w : World} {K : Frag} {mg : Str → Option Value} {base : Heap}
structure WK (P : Program) (w : World) (K : Frag) (mg : Str → Option Value) (base : Heap) (g t : Addr) (gd td : FuncData) : Prop where
  G : FnOk P w K mg base CX0 2 g gd ["thing", "low", "high"] (spIsWh K)
  bG : Binds K gd ["thing", "low", "high"] []
  kG : keepIn K (.ref g) = true
  mG : mg "is_whole" = some (.ref g)
  T : FnOk P w K mg base CX0 1 t td ["thing"] spIs2
  bT : Binds K td ["thing"] []
  kT : keepIn K (.ref t) = true
  mT : mg "is_two" = some (.ref t)
  ml : mg "len" = none
theorem two_at {α : Type} {a b x : α} {i : Nat} (h : [a, b][i]? = some x) : (i = 0 ∧ x = a) ∨ (i = 1 ∧ x = b) := by
  match i, h with
  | 0, h => exact .inl ⟨rfl, (Option.some.inj h).symm⟩
  | 1, h => exact .inr ⟨rfl, (Option.some.inj h).symm⟩
  | i + 2, h => simp at h
variable {g t : Addr} {gd td : FuncData}
theorem ok_wd0 (Z : WK P w K mg base g t gd td) : ClOk P w K mg base 3 (Wsp 0) := by
  refine ⟨fun A outer s H f u v Q hr e0 rv h => ?_⟩
  obtain ⟨rs, i, wd, hl, rfl, hi, q⟩ := h
  rcases wd with ⟨cl, t, vs, ⟨a, b, d, c', hf, hc, C, hz⟩, ht, hrs⟩ | ⟨cl, t, vs, ⟨a, b, d, c', hf, hc, C, hz⟩, ht, hrs⟩
  · refine clo_run (N := ["at", "kept"]) (p := "at") (zs := ["kept"]) (cv := [("kept", .ref t)]) (σ := [some (.int (i : Int)), some (.ref t)]) hr e0 hf hc C scW hz (fun s u => .of_eq rfl) rv rfl (fun j x v h1 h2 => ?_) fun hr2 => ?_
    · rcases two_at h1 with ⟨rfl, rfl⟩ | ⟨rfl, rfl⟩
      · cases h2; exact .inl ⟨rfl, rfl⟩
      · cases h2; exact .inr (by simp)
    refine ⟨_, pss_one (ps_ret (pe_ifExp (pt_val (pe_call Z.G hr2 rfl Z.mG Z.kG Z.bG .nil pass0 (pa_cons (pv 0) (pa_cons pe_int (pa_cons (pe_op op_sub (pe_callB call_len_seq rfl Z.ml PySem.boot_len (pa_cons (pv 1) pa_nil)) pe_int) pa_nil))))) (pe_ix ix_tup (pv 1) (pv 0) (fun _ _ => rfl)) pe_non)), ?_⟩
    have ht' := hidC_tk C t vs ht
    have x : Ext H (unhid H (cl.map (·.2)) (hidC H (cl.map (·.2)))) := unhid_ext (Ext.refl _)
    refine ⟨_, rfl, _, rfl, t, vs, rfl, .inr (SqT.of ht'), _, _, rfl, rfl, _, _, _, rfl, _, rfl, ?_⟩
    refine ite2 (fun c => ?_) (fun c => ?_)
    · rw [Bool.and_eq_true, decide_eq_true_iff, decide_eq_true_iff] at c
      have li : i < vs.length := by omega
      refine ⟨_, rfl, _, rfl, t, vs, _, _, rfl, rfl, SqT.of ht', atI_nat (List.getElem?_eq_getElem li), fun _ => q _ _ x ?_⟩
      obtain ⟨r, er, rv⟩ := hrs.get' (List.getElem?_eq_getElem li)
      rw [er]
      exact RwV.tk rv x.tk
    · rw [Bool.and_eq_true, decide_eq_true_iff, decide_eq_true_iff] at c
      have li : rs.length ≤ i := by have := hrs.1; omega
      refine fun _ => q _ _ x ?_
      rw [List.getElem?_eq_none li]
      rfl
  · refine lam_run (N := ["_law_folk", "_law_listing_here"]) (p := "_law_folk") (zs := ["_law_listing_here"]) (cv := [("_law_listing_here", .ref t)]) (σ := [some (.int (i : Int)), some (.ref t)]) hr e0 hf hc C scL hz (fun s u => .of_eq rfl) rv rfl (fun j x v h1 h2 => ?_) fun hr2 => ?_
    · rcases two_at h1 with ⟨rfl, rfl⟩ | ⟨rfl, rfl⟩
      · cases h2; exact .inl ⟨rfl, rfl⟩
      · cases h2; exact .inr (by simp)
    refine ⟨_, pe_ix ix_list (pe_op op_cat (pv 1) (pe_op op_rep (pe_lst (pa_cons pe_non pa_nil)) pe_int)) (pv 0) (fun _ _ => rfl), ?_⟩
    have ht' : hidC H (cl.map (·.2)) t = some (.lst vs) := by
      rw [hidC_out (fun z => by obtain ⟨v, q⟩ := C.cel z; rw [ht] at q; cases q)]
      exact ht
    have hv : vs.length ≤ 20 := by rw [hrs.1]; exact hl
    refine ⟨_, rfl, (by show 1 ≤ sizeLine; decide), fun l1 n1 => ⟨l1, _, _, rfl, rfl, upd_same, by decide, by decide, by decide, fun l2 n2 => ?_⟩⟩
    have x1 : Ext (hidC H (cl.map (·.2))) (upd (upd (hidC H (cl.map (·.2))) l1 (.lst [V.non])) l2 (.lst (List.replicate (40 : Int).toNat [V.non]).flatten)) := (Ext.new n1).trans (Ext.new n2)
    have e40 : (List.replicate (40 : Int).toNat [V.non]).flatten = List.replicate 40 V.non := by decide
    rw [e40] at x1 ⊢
    refine ⟨t, l2, vs, List.replicate 40 V.non, rfl, rfl, x1 _ _ ht', upd_same, Nat.le_trans (m := 60) (by rw [List.length_replicate]; omega) (by decide), fun l3 n3 => ?_⟩
    have x2 := x1.trans (Ext.new (o := .lst (vs ++ List.replicate 40 V.non)) n3)
    have x := unhid_ext x2
    have li : i < (vs ++ List.replicate 40 V.non).length := by rw [List.length_append, List.length_replicate]; have := hrs.1; omega
    refine ⟨_, rfl, l3, _, _, _, rfl, rfl, SqL.of upd_same, atI_nat (List.getElem?_eq_getElem li), fun _ => q _ _ x ?_⟩
    by_cases z : i < vs.length
    · rw [List.getElem_append_left z]
      obtain ⟨r, er, rv⟩ := hrs.get' (List.getElem?_eq_getElem z)
      rw [er]
      exact RwV.tk rv x.tk
    · rw [List.getElem_append_right (by omega), List.getElem_replicate, List.getElem?_eq_none (by have := hrs.1; omega)]
      rfl
end
end My
set_option Elab.async false
set_option linter.all false
set_option maxRecDepth 100000
set_option maxHeartbeats 1000000
namespace My
open PySem PySem.W L2
theorem three_at {α : Type} {a b c x : α} {i : Nat} (h : [a, b, c][i]? = some x) : (i = 0 ∧ x = a) ∨ (i = 1 ∧ x = b) ∨ (i = 2 ∧ x = c) := by
  match i, h with
  | 0, h => exact .inl ⟨rfl, (Option.some.inj h).symm⟩
  | 1, h => exact .inr (.inl ⟨rfl, (Option.some.inj h).symm⟩)
  | 2, h => exact .inr (.inr ⟨rfl, (Option.some.inj h).symm⟩)
  | i + 3, h => simp at h
theorem four_at {α : Type} {a b c d x : α} {i : Nat} (h : [a, b, c, d][i]? = some x) : (i = 0 ∧ x = a) ∨ (i = 1 ∧ x = b) ∨ (i = 2 ∧ x = c) ∨ (i = 3 ∧ x = d) := by
  match i, h with
  | 0, h => exact .inl ⟨rfl, (Option.some.inj h).symm⟩
  | 1, h => exact .inr (.inl ⟨rfl, (Option.some.inj h).symm⟩)
  | 2, h => exact .inr (.inr (.inl ⟨rfl, (Option.some.inj h).symm⟩))
  | 3, h => exact .inr (.inr (.inr ⟨rfl, (Option.some.inj h).symm⟩))
  | i + 4, h => simp at h
theorem in_ints {i : Int} {few : List Int} : inV (.int i) (few.map V.int) = decide (i ∈ few) := by
  unfold inV
  rw [List.any_map]
  induction few with
  | nil => rfl
  | cons a l ih =>
    rw [List.any_cons, ih]
    have : ((fun y => eqV y (V.int i)) ∘ V.int) a = (a == i) := rfl
    rw [this]
    by_cases z : a = i
    · subst z; simp
    · have z' : ¬ i = a := fun e => z e.symm
      simp [z, z']
theorem flat_ints (few : List Int) : (few.map V.int).all flatV = true := by
  rw [List.all_eq_true]
  intro x hx
  obtain ⟨i, _, rfl⟩ := List.mem_map.mp hx
  rfl
section
variable {P : Program} {w : World} {K : Frag} {mg : Str → Option Value} {base : Heap}
variable {g t : Addr} {gd td : FuncData}
theorem ok_wdS (Z : WK P w K mg base g t gd td) {n : Nat} (M : ClOk P w K mg base (n + 3) (Wsp n)) : ClOk P w K mg base (n + 4) (Wsp (n + 1)) := by
  refine ⟨fun A outer s H f u v Q hr e0 rv h => ?_⟩
  obtain ⟨rs, i, wd, hl, rfl, hi, q⟩ := h
  obtain ⟨g0, rs0, ⟨cl, ⟨a, b, d, c', hf, hc, C, hz⟩, wd0, rfl⟩ | ⟨cl, t0, few, ⟨a, b, d, c', hf, hc, C, hz⟩, ht, wd0, rfl⟩⟩ := wd
  · obtain ⟨fdg, hg⟩ := wd0.fn
    rw [List.length_map] at hl hi
    refine clo_run (N := ["at", "told", "world"]) (p := "at") (zs := ["world"]) (cv := [("world", .ref g0)]) (σ := [some (.int (i : Int)), none, some (.ref g0)]) hr e0 hf hc C scU hz (fun s u => .of_eq rfl) rv rfl (fun j x v h1 h2 => ?_) fun hr2 => ?_
    · rcases three_at h1 with ⟨rfl, rfl⟩ | ⟨rfl, rfl⟩ | ⟨rfl, rfl⟩
      · cases h2; exact .inl ⟨rfl, rfl⟩
      · cases h2
      · cases h2; exact .inr (by simp)
    have hr1 := hr2.mono (show 1 ≤ n + 3 by omega)
    refine ⟨_, pss_cons (ps_set (i := 1) scU.nd rfl (Or.inl rfl) (pe_callF (pv 2) M hr2 (pv 0))) (pss_one (ps_ret (pe_ifExp (pt_val (pe_call Z.T hr1 rfl Z.mT Z.kT Z.bT .nil pass0 (pa_cons (pv 1) pa_nil)))
      (pe_tup (pa_cons (pe_ix ix_tup (pv 1) pe_int (fun _ _ => rfl)) (pa_cons (pe_ix ix_tup (pv 1) pe_int (fun _ _ => rfl)) pa_nil))) (pv 1)))), ?_⟩
    refine ⟨_, rfl, g0, fdg, rfl, hg, _, rfl, hg, rs0, i, wd0, hl, rfl, hi, fun u1 H1 x1 r1 => ?_⟩
    cases er : rs0[i]? with
    | none =>
      rw [er] at r1
      obtain rfl : u1 = .non := r1
      refine ⟨_, rfl, .inl ⟨rfl, _, rfl, itF ⟨_, rfl, fun nn => q _ _ (unhid_ext x1) ?_⟩⟩⟩
      rw [List.getElem?_map, er]
      rfl
    | some r =>
      rw [er] at r1
      obtain ⟨a1, x, y, rfl, e1, ox, oy⟩ := r1
      refine ⟨_, rfl, .inr ⟨a1, x, y, rfl, e1, _, rfl, itT ⟨_, rfl, a1, _, _, _, rfl, rfl, SqT.of e1, rfl, _, rfl, a1, _, _, _, rfl, rfl, SqT.of e1, rfl, (by show 2 ≤ sizeLine; decide), fun l nl nn => ?_⟩⟩⟩
      have x2 := Ext.new (o := .tup [y, x]) nl
      refine q _ _ (unhid_ext (x1.trans x2)) ?_
      rw [List.getElem?_map, er]
      have k := unhid_tk (H := H) nn
      exact ⟨l, y, x, rfl, k _ _ upd_same, (oy.tk x2.tk).tk k, (ox.tk x2.tk).tk k⟩
  · obtain ⟨fdg, hg⟩ := wd0.fn
    rw [List.length_mapIdx] at hl hi
    refine clo_run (N := ["at", "told", "world", "kept"]) (p := "at") (zs := ["world", "kept"]) (cv := [("world", .ref g0), ("kept", .ref t0)]) (σ := [some (.int (i : Int)), none, some (.ref g0), some (.ref t0)]) hr e0 hf hc C scS hz (fun s u => .of_eq rfl) rv rfl (fun j x v h1 h2 => ?_) fun hr2 => ?_
    · rcases four_at h1 with ⟨rfl, rfl⟩ | ⟨rfl, rfl⟩ | ⟨rfl, rfl⟩ | ⟨rfl, rfl⟩
      · cases h2; exact .inl ⟨rfl, rfl⟩
      · cases h2
      · cases h2; exact .inr (by simp)
      · cases h2; exact .inr (by simp)
    have hr1 := hr2.mono (show 1 ≤ n + 3 by omega)
    refine ⟨_, pss_cons (ps_set (i := 1) scS.nd rfl (Or.inl rfl) (pe_callF (pv 2) M hr2 (pv 0))) (pss_one (ps_ret (pe_ifExp (PW.pt (pw_and (pt_cmpR op_in_seq (pv 0) (pv 3) rfl) (pw_and1 (pt_val (pe_call Z.T hr1 rfl Z.mT Z.kT Z.bT .nil pass0 (pa_cons (pv 1) pa_nil))))))
      (pe_tup (pa_cons (pe_ix ix_tup (pv 1) pe_int (fun _ _ => rfl)) (pa_cons (pe_ix ix_tup (pv 1) pe_int (fun _ _ => rfl)) pa_nil))) (pv 1)))), ?_⟩
    have ht' := hidC_tk C t0 _ ht
    refine ⟨_, rfl, g0, fdg, rfl, hg, _, rfl, hg, rs0, i, wd0, hl, rfl, hi, fun u1 H1 x1 r1 => ?_⟩
    refine ⟨_, rfl, _, rfl, t0, _, rfl, .inr (SqT.of (x1 _ _ ht')), rfl, flat_ints few, _, rfl, ?_⟩
    have eb : (if false = true then !inV (V.int (i : Int)) (few.map V.int) else inV (V.int (i : Int)) (few.map V.int)) = decide ((i : Int) ∈ few) := in_ints
    rw [eb]
    refine ite2 (fun c => ?_) (fun c => ?_)
    · have c' : (i : Int) ∈ few := of_decide_eq_true c
      cases er : rs0[i]? with
      | none =>
        rw [er] at r1
        obtain rfl : u1 = .non := r1
        refine ⟨_, rfl, .inl ⟨rfl, _, rfl, itF ⟨_, rfl, fun nn => q _ _ (unhid_ext x1) ?_⟩⟩⟩
        rw [List.getElem?_mapIdx, er]
        rfl
      | some r =>
        rw [er] at r1
        obtain ⟨a1, x, y, rfl, e1, ox, oy⟩ := r1
        refine ⟨_, rfl, .inr ⟨a1, x, y, rfl, e1, _, rfl, itT ⟨_, rfl, a1, _, _, _, rfl, rfl, SqT.of e1, rfl, _, rfl, a1, _, _, _, rfl, rfl, SqT.of e1, rfl, (by show 2 ≤ sizeLine; decide), fun l nl nn => ?_⟩⟩⟩
        have x2 := Ext.new (o := .tup [y, y]) nl
        refine q _ _ (unhid_ext (x1.trans x2)) ?_
        rw [List.getElem?_mapIdx, er]
        have k := unhid_tk (H := H) nn
        have es : spR few i r = (r.2, r.2) := if_pos c'
        show RwV _ _ (spR few i r)
        rw [es]
        exact ⟨l, y, y, rfl, k _ _ upd_same, (oy.tk x2.tk).tk k, (oy.tk x2.tk).tk k⟩
    · have c' : ¬ (i : Int) ∈ few := fun z => c (decide_eq_true z)
      refine itF ⟨_, rfl, fun nn => q _ _ (unhid_ext x1) ?_⟩
      have k := unhid_tk (H := H) nn
      rw [List.getElem?_mapIdx]
      cases er : rs0[i]? with
      | none =>
        rw [er] at r1
        exact r1
      | some r =>
        rw [er] at r1
        have es : spR few i r = r := if_neg c'
        show RwV _ _ (spR few i r)
        rw [es]
        exact RwV.tk r1 k
theorem ok_wd (Z : WK P w K mg base g t gd td) : ∀ n : Nat, ClOk P w K mg base (n + 3) (Wsp n)
  | 0 => ok_wd0 Z
  | n + 1 => ok_wdS Z (ok_wd Z n)
def WspN (f : Addr) (v : V) (H : Hp) (Q : VK) : Prop := ∃ n, n ≤ 4 ∧ Wsp n f v H Q
theorem ok_wdN (Z : WK P w K mg base g t gd td) : ClOk P w K mg base 7 WspN := ⟨fun A outer s H f u v Q hr e0 rv ⟨n, hn, h⟩ => (ok_wd Z n).run A outer s H f u v Q (hr.mono (by omega)) e0 rv h⟩
end
end My
set_option Elab.async false
set_option linter.all false
set_option maxRecDepth 100000
set_option maxHeartbeats 1000000
namespace My
open PySem PySem.W L2
open PyProof.Rows (envOfC)
def posD (s : Stmt) : Pos := match s with
  | .FunctionDef _ _ _ _ _ _ _ _ _ p => p
  | .Return (some (.Lambda _ _ _ p)) _ => p
  | _ => ⟨0, 0, 0, 0⟩
structure FunM (K : Frag) (mg : Str → Option Value) (x qual : Str) (st : Stmt) (f : Addr) (fd : FuncData) (c pl : Addr) : Prop where
  ex : ∃ (oc : Value) (od : Option Addr) (kV doc pm : Value) (an : Option Addr) (ct : Value) (osl : Array (Option Value)),
    fd = fnOf x qual (defArgs st) (defBody st) (defScope st) .none kV doc pm an (.ref c) ct ∧ K.lookup f = some ⟨oc, od, .func fd, osl⟩ ∧ codeIn K (.ref c) qual = true
  mkk : MkK K mg c pl
section
variable {P : Program} {w : World} {K : Frag} {mg : Str → Option Value} {base : Heap} {T : Tbs}
abbrev sWO : Stmt := top 5
def W0C (H : Hp) (f : Addr) (rs : List Rw) : Prop := ∃ cl t vs, CloA H f fdW qW ["kept"] cl [("kept", .ref t)] ∧ H t = some (.tup vs) ∧ RwsV H vs rs
theorem W0C.nl {H H' : Hp} {f : Addr} {rs : List Rw} (h : W0C H f rs) (x : NL H H') : W0C H' f rs := by
  obtain ⟨cl, t, vs, c, e, r⟩ := h
  exact ⟨cl, t, vs, c.nl x, x.tk _ _ e, r.tk x.tk⟩
theorem W0C.wd {H : Hp} {f : Addr} {rs : List Rw} (h : W0C H f rs) : Wd 0 H f rs := .inl h
def spWO (T : Tbs) : Sp := fun vs H Q _ => ∃ ps p l xs rs, vs = [.ref l] ∧ OkS T ps p H ∧ H l = some (.lst xs) ∧ RwsV (nt H ps) xs rs ∧ ∀ f H', OkS T ps p H' → Gr p H H' → W0C (nt H' ps) f rs → Q (.ref f) H'
theorem scWO : FnScope ["listing", "world", "kept"] ["listing"] (defScope sWO) := ⟨rfl, rfl, rfl, by decide +kernel, rfl, by decide +kernel, by decide +kernel⟩
theorem ntWO {g c : Addr} : NestT (defScope sWO) (defScope nW) (defArgs nW) g c "world_of" "world" qW ["listing", "world", "kept"] ["kept"] 1 (fun L => [("kept", L + 1)]) := by
  refine ⟨rfl, rfl, rfl, rfl, fun L => rfl, fun L => rfl, fun L => rfl, fun L x a h => ?_, fun L => by simp, fun L => by simp, fun L => rfl⟩
  simp only [List.mem_singleton] at h
  cases h
  rfl
theorem ok_WO {f c pl : Addr} {fd : FuncData} (F : FunM K mg "world_of" "world_of" sWO f fd c pl) (hm : (pl, posD nW, qW) ∈ T) (mt : mg "tuple" = none) : FnOk P w K mg base CX0 1 f fd ["listing"] (spWO T) := by
  obtain ⟨oc, od, kV, doc, pm, an, ct, osl, rfl, lk, hcd⟩ := F.ex
  refine fn_mk1 lk hcd scWO (fun vs H Q E h => ?_) F.mkk ntWO (fun A outer s vs H Q E hr h => ?_)
  · obtain ⟨_, _, _, _, _, rfl, _⟩ := h
    rfl
  obtain ⟨ps, p, l, xs, rs, rfl, ok, hl, hrs, q⟩ := h
  refine ⟨_, ps_set (i := 2) scWO.nd rfl (Or.inr rfl) (pe_callTy call_tuple_of rfl mt PyProof.Rows.boot_tuple (pa_cons (pv 0) pa_nil)), ?_⟩
  refine ⟨_, rfl, l, xs, rfl, .inl ⟨SqL.of hl, fun t nt' => ?_⟩⟩
  refine ⟨[("kept", .ref t)], ⟨rfl, fun x v h => ?_⟩, ?_⟩
  · simp only [List.mem_singleton] at h
    cases h
    exact ⟨rfl, 2, rfl, rfl⟩
  have x1 := Ext.new (o := .tup xs) nt'
  have ok1 := ok.ext x1
  refine ⟨ok1.ti.it _ hm, fun f c' cl a b d H' xp nf hf hc C hz hn tb => ?_⟩
  have ok2 := ok1.made xp hm tb
  have t1 := ok1.ti.it _ hm
  have gr := (x1.gr p).trans (ExtP.gr xp t1)
  have ht := ExtP.kept xp t1 (upd_same (H := H) (a := t) (o := .tup xs)) (fun _ z => nomatch z)
  exact q f H' ok2 gr ⟨cl, t, xs, CloA.out ⟨a, b, d, c', hf, hc, C, hz⟩ ok2, nt_in (ok2.nin ht fun _ z => nomatch z) ht (fun _ z => nomatch z), hrs.tk (gr.nt ok.mem).tk⟩
abbrev sTU : Stmt := top 8
def spTU (T : Tbs) : Sp := fun vs H Q _ => ∃ ps p n g rs, vs = [.ref g] ∧ OkS T ps p H ∧ Wd n (nt H ps) g rs ∧ ∀ f H', OkS T ps p H' → Gr p H H' → Wd (n + 1) (nt H' ps) f (rs.map swR) → Q (.ref f) H'
theorem scTU : FnScope ["world", "turned"] ["world"] (defScope sTU) := ⟨rfl, rfl, rfl, by decide +kernel, rfl, by decide +kernel, by decide +kernel⟩
theorem ntTU {g c : Addr} : NestT (defScope sTU) (defScope nU) (defArgs nU) g c "turned_world" "turned" qU ["world", "turned"] ["world"] 1 (fun L => [("world", L + 1)]) := by
  refine ⟨rfl, rfl, rfl, rfl, fun L => rfl, fun L => rfl, fun L => rfl, fun L x a h => ?_, fun L => by simp, fun L => by simp, fun L => rfl⟩
  simp only [List.mem_singleton] at h
  cases h
  rfl
theorem ok_TU {f c pl : Addr} {fd : FuncData} (F : FunM K mg "turned_world" "turned_world" sTU f fd c pl) (hm : (pl, posD nU, qU) ∈ T) : FnOk P w K mg base CX0 1 f fd ["world"] (spTU T) := by
  obtain ⟨oc, od, kV, doc, pm, an, ct, osl, rfl, lk, hcd⟩ := F.ex
  refine fn_mk0 lk hcd scTU (fun vs H Q E h => ?_) F.mkk ntTU (fun vs H Q E h => ?_)
  · obtain ⟨_, _, _, _, _, rfl, _⟩ := h
    rfl
  obtain ⟨ps, p, n, g, rs, rfl, ok, wd, q⟩ := h
  refine ⟨[("world", .ref g)], ⟨rfl, fun x v h => ?_⟩, ?_⟩
  · simp only [List.mem_singleton] at h
    cases h
    exact ⟨rfl, 0, rfl, rfl⟩
  refine ⟨ok.ti.it _ hm, fun f c' cl a b d H' xp nf hf hc C hz hn tb => ?_⟩
  have ok2 := ok.made xp hm tb
  have gr : Gr p H H' := ExtP.gr xp (ok.ti.it _ hm)
  refine q f H' ok2 gr ⟨g, rs, .inl ⟨cl, CloA.out ⟨a, b, d, c', hf, hc, C, hz⟩ ok2, wd.ext (ext_hid (gr.nt ok.mem) fun b hb => ?_), rfl⟩⟩
  cases e : nt H ps b with
  | none => rfl
  | some o =>
    have := (nt_of e).2.1
    rw [(hn b hb).1] at this
    cases this
abbrev sSW : Stmt := top 7
def spSW (T : Tbs) : Sp := fun vs H Q _ => ∃ ps p g l, ∃ few : List Int, vs = [.ref g, .ref l] ∧ OkS T ps p H ∧ H l = some (.lst (few.map V.int)) ∧ ∀ f cl t H', OkS T ps p H' → Gr p H H' → CloA (nt H' ps) f fdS qS ["world", "kept"] cl [("world", .ref g), ("kept", .ref t)] → nt H' ps t = some (.tup (few.map V.int)) → (∀ x ∈ cl.map (·.2), H x = none) → Q (.ref f) H'
theorem scSW : FnScope ["world", "few", "spared", "kept"] ["world", "few"] (defScope sSW) := ⟨rfl, rfl, rfl, by decide +kernel, rfl, by decide +kernel, by decide +kernel⟩
theorem ntSW {g c : Addr} : NestT (defScope sSW) (defScope nS) (defArgs nS) g c "spared_world" "spared" qS ["world", "few", "spared", "kept"] ["world", "kept"] 2 (fun L => [("world", L + 1), ("kept", L + 2)]) := by
  refine ⟨rfl, rfl, rfl, rfl, fun L => rfl, fun L => rfl, fun L => rfl, fun L x a h => ?_, fun L => by simp, fun L => (by decide +kernel : (["world", "kept"] : List Str).Nodup), fun L => rfl⟩
  simp only [List.mem_cons, List.not_mem_nil, or_false] at h
  rcases h with h | h <;> (cases h; rfl)
theorem ok_SW {f c pl : Addr} {fd : FuncData} (F : FunM K mg "spared_world" "spared_world" sSW f fd c pl) (hm : (pl, posD nS, qS) ∈ T) (mt : mg "tuple" = none) : FnOk P w K mg base CX0 1 f fd ["world", "few"] (spSW T) := by
  obtain ⟨oc, od, kV, doc, pm, an, ct, osl, rfl, lk, hcd⟩ := F.ex
  refine fn_mk1 lk hcd scSW (fun vs H Q E h => ?_) F.mkk ntSW (fun A outer s vs H Q E hr h => ?_)
  · obtain ⟨_, _, _, _, _, rfl, _⟩ := h
    rfl
  obtain ⟨ps, p, g, l, few, rfl, ok, hl, q⟩ := h
  refine ⟨_, ps_set (i := 3) scSW.nd rfl (Or.inr rfl) (pe_callTy call_tuple_of rfl mt PyProof.Rows.boot_tuple (pa_cons (pv 1) pa_nil)), ?_⟩
  refine ⟨_, rfl, l, _, rfl, .inl ⟨SqL.of hl, fun t nt' => ?_⟩⟩
  refine ⟨[("world", .ref g), ("kept", .ref t)], ⟨rfl, fun x v h => ?_⟩, ?_⟩
  · simp only [List.mem_cons, List.not_mem_nil, or_false] at h
    rcases h with h | h
    · cases h
      exact ⟨rfl, 0, rfl, rfl⟩
    · cases h
      exact ⟨rfl, 3, rfl, rfl⟩
  have x1 := Ext.new (o := .tup (few.map V.int)) nt'
  have ok1 := ok.ext x1
  refine ⟨ok1.ti.it _ hm, fun f c' cl a b d H' xp nf hf hc C hz hn tb => ?_⟩
  have ok2 := ok1.made xp hm tb
  have t1 := ok1.ti.it _ hm
  have gr := (x1.gr p).trans (ExtP.gr xp t1)
  have ht := ExtP.kept xp t1 (upd_same (H := H) (a := t) (o := .tup (few.map V.int))) (fun _ z => nomatch z)
  refine q f cl t H' ok2 gr (CloA.out ⟨a, b, d, c', hf, hc, C, hz⟩ ok2) (nt_in (ok2.nin ht fun _ z => nomatch z) ht (fun _ z => nomatch z)) fun x hx => ?_
  cases e : H x with
  | none => rfl
  | some o =>
    have := x1 _ _ e
    rw [(hn x hx).1] at this
    cases this
abbrev sOW : Stmt := top 17
def spOW (T : Tbs) : Sp := fun vs H Q _ => ∃ ps p l xs rs, vs = [.ref l] ∧ OkS T ps p H ∧ nt H ps l = some (.lst xs) ∧ RwsV (nt H ps) xs rs ∧ ∀ f H', OkS T ps p H' → Gr p H H' → Wd 0 (nt H' ps) f rs → Q (.ref f) H'
theorem scOW : FnScope ["_law_listing_here"] ["_law_listing_here"] (defScope sOW) := ⟨rfl, rfl, rfl, by decide +kernel, rfl, by decide +kernel, by decide +kernel⟩
theorem ok_OW {f c pl : Addr} {fd : FuncData} (F : FunM K mg "_law_own" "_law_own" sOW f fd c pl) (hm : (pl, posD nL, qL) ∈ T) : FnOk P w K mg base CX0 1 f fd ["_law_listing_here"] (spOW T) := by
  obtain ⟨oc, od, kV, doc, pm, an, ct, osl, rfl, lk, hcd⟩ := F.ex
  refine fn_lam (qn := qL) (cl := fun L => [("_law_listing_here", L + 1)]) (zs := ["_law_listing_here"]) lk hcd scOW (fun vs H Q E h => ?_) F.mkk (fun L => rfl) (fun L => rfl) (fun L => rfl) (fun L x a h => ?_) (fun L => by simp) (fun L => by simp) (fun L => rfl) (fun vs H Q E h => ?_)
  · obtain ⟨_, _, _, _, _, rfl, _⟩ := h
    rfl
  · simp only [List.mem_singleton] at h
    cases h
    rfl
  obtain ⟨ps, p, l, xs, rs, rfl, ok, hl, hrs, q⟩ := h
  refine ⟨[("_law_listing_here", .ref l)], ⟨rfl, fun x v h => ?_⟩, ?_⟩
  · simp only [List.mem_singleton] at h
    cases h
    exact ⟨rfl, 0, rfl, rfl⟩
  refine ⟨ok.ti.it _ hm, fun f c' cl a b d H' xp nf hf hc C hz hn tb => ?_⟩
  have ok2 := ok.made xp hm tb
  have gr : Gr p H H' := ExtP.gr xp (ok.ti.it _ hm)
  have x := gr.nt ok.mem
  exact q f H' ok2 gr (.inr ⟨cl, l, xs, CloA.out ⟨a, b, d, c', hf, hc, C, hz⟩ ok2, x _ _ hl, hrs.tk x.tk⟩)
end
end My
set_option Elab.async false
set_option linter.all false
set_option maxRecDepth 100000
set_option maxHeartbeats 1000000
namespace My
open PySem PySem.W L2
section
variable {P : Program} {w : World} {K : Frag} {mg : Str → Option Value} {base : Heap} {T : Tbs}
abbrev sCell : Stmt := top 10
def spCell (K : Frag) : Sp := fun vs H Q _ => ∃ (a : Addr) (ns : List Int) (k : Int), vs = [.ref a, .int k] ∧ SqL K H a (ns.map V.int) ∧ 0 ≤ k ∧ k < 100 ∧ ∀ c : Int, Q (.int c) H
theorem scC : FnScope ["_law_script", "_law_k"] ["_law_script", "_law_k"] (defScope sCell) := ⟨rfl, rfl, rfl, by decide +kernel, rfl, by decide +kernel, by decide +kernel⟩
theorem ok_cell {f : Addr} {fd : FuncData} (F : Fun K "_law_cell" "_law_cell" sCell f fd) (ml : mg "len" = none) : FnOk P w K mg base CX0 1 f fd ["_law_script", "_law_k"] (spCell K) := by
  refine F.ok scC (fun vs H Q E h => ?_) (fun cdv A outer s H vs Q E hr h => ?_)
  · obtain ⟨a, ns, k, rfl, _⟩ := h
    rfl
  obtain ⟨a, ns, k, rfl, hS, h0, h1, q⟩ := h
  refine ⟨_, pss_cons (ps_if (pt_cmpR op_lt (pv 1) (pe_callB call_len_seq rfl ml PySem.boot_len (pa_cons (pv 0) pa_nil)) (nomark _)) (pss_one (ps_ret (pe_ix ix_list (pv 0) (pv 1) (fun _ _ => rfl)))) pss_nil)
    (pss_one (ps_ret (pe_op op_add (pe_op op_mul pe_int (pv 1)) pe_int))), ?_⟩
  refine ⟨_, rfl, _, rfl, a, _, rfl, .inl hS, _, _, rfl, rfl, _, rfl, ?_⟩
  refine ite2 (fun c => ?_) (fun c => ?_)
  · have c' : k < (((ns.map V.int).length : Nat) : Int) := of_decide_eq_true c
    rw [List.length_map] at c'
    have hk : k.toNat < ns.length := by omega
    have ek : k = ((k.toNat : Nat) : Int) := by omega
    have z : atI (ns.map V.int) ((k.toNat : Nat) : Int) = some (.int ns[k.toNat]) := atI_nat (by rw [List.getElem?_map, List.getElem?_eq_getElem hk] <;> rfl)
    rw [← ek] at z
    exact ⟨_, rfl, _, rfl, a, _, _, _, rfl, rfl, hS, z, q _⟩
  · exact ⟨_, rfl, _, _, rfl, rfl, .inl ⟨by decide, by decide⟩, _, _, rfl, rfl, q _⟩
abbrev sMix : Stmt := top 11
def spMix : Sp := fun vs H Q _ => ∃ c k : Int, vs = [.int c, .int k] ∧ ∀ r : Int, 0 ≤ r → r < 268435456 → Q (.int r) H
theorem scMx : FnScope ["_law_cell_here", "_law_k", "_law_number"] ["_law_cell_here", "_law_k"] (defScope sMix) := ⟨rfl, rfl, rfl, by decide +kernel, rfl, by decide +kernel, by decide +kernel⟩
theorem ok_mix {f : Addr} {fd : FuncData} (F : Fun K "_law_mix" "_law_mix" sMix f fd) : FnOk P w K mg base CX0 1 f fd ["_law_cell_here", "_law_k"] spMix := by
  refine F.ok scMx (fun vs H Q E h => ?_) (fun cdv A outer s H vs Q E hr h => ?_)
  · obtain ⟨c, k, rfl, _⟩ := h
    rfl
  obtain ⟨c, k, rfl, q⟩ := h
  have nd := scMx.nd
  refine ⟨_, pss_cons (ps_set (i := 2) nd rfl (Or.inl rfl) (pe_op op_mod (pe_op op_add (pe_op op_add (pv 0) (pe_op op_mul pe_int (pv 1))) pe_int) pe_int))
    (pss_cons (ps_set (i := 2) nd rfl (Or.inl rfl) (pe_op op_mod (pe_op op_mul (pe_op op_mod (pe_op op_mul (pv 2) (pv 2)) pe_int) pe_int) pe_int))
    (pss_one (ps_ret (pe_op op_fdiv (pe_op op_mod (pe_op op_mul (pv 2) (pe_op op_add (pv 2) pe_int)) pe_int) pe_int)))), ?_⟩
  refine ⟨_, rfl, _, rfl, _, _, rfl, rfl, .inl ⟨by decide, by decide⟩, _, _, rfl, rfl, _, _, rfl, rfl, _, _, rfl, rfl, (by show (0 : Int) < 2147483629; decide), ?_⟩
  generalize hn : (c + 7919 * k + 12345) % 2147483629 = n1
  have a0 : 0 ≤ n1 := by rw [← hn]; exact Int.emod_nonneg _ (by decide)
  have a1 : n1 < 2147483629 := by rw [← hn]; exact Int.emod_lt_of_pos _ (by decide)
  have cm : CMul n1 n1 := .inl ⟨Int.lt_of_lt_of_le (by decide) a0, Int.lt_trans a1 (by decide)⟩
  subst hn
  refine ⟨_, rfl, _, rfl, _, _, rfl, rfl, cm, _, _, rfl, rfl, (by show (0 : Int) < 2147483587; decide), _, _, rfl, rfl, .inr ⟨by decide, by decide⟩, _, _, rfl, rfl, (by show (0 : Int) < 2147483549; decide), ?_⟩
  generalize hn : ((c + 7919 * k + 12345) % 2147483629 * ((c + 7919 * k + 12345) % 2147483629)) % 2147483587 * 48271 % 2147483549 = n2
  have b0 : 0 ≤ n2 := by rw [← hn]; exact Int.emod_nonneg _ (by decide)
  have b1 : n2 < 2147483549 := by rw [← hn]; exact Int.emod_lt_of_pos _ (by decide)
  have cm2 : ∀ y, CMul n2 y := fun y => .inl ⟨Int.lt_of_lt_of_le (by decide) b0, Int.lt_trans b1 (by decide)⟩
  subst hn
  refine ⟨_, rfl, _, rfl, _, _, rfl, rfl, _, _, rfl, rfl, cm2 _, _, _, rfl, rfl, (by show (0 : Int) < 2147483543; decide), _, _, rfl, rfl, ⟨(by show (0 : Int) < 8; decide), (by show (8 : Int) < 1073741824; decide)⟩, q _ ?_ ?_⟩
  · exact Int.ediv_nonneg (Int.emod_nonneg _ (by decide)) (by decide)
  · generalize hz : ((c + 7919 * k + 12345) % 2147483629 * ((c + 7919 * k + 12345) % 2147483629)) % 2147483587 * 48271 % 2147483549 = z
    have := Int.emod_lt_of_pos (z * (z + 31)) (show (0 : Int) < 2147483543 by decide)
    omega
abbrev sBeg : Stmt := top 12
def spBeg : Sp := fun vs H Q _ => ∃ c : Int, vs = [.int c] ∧ ∀ p H', H p = none → Ext H H' → BoxW H' p → Q (.ref p) H'
theorem scBg : FnScope ["_law_cell_here"] ["_law_cell_here"] (defScope sBeg) := ⟨rfl, rfl, rfl, by decide +kernel, rfl, by decide +kernel, by decide +kernel⟩
theorem ok_beg {f : Addr} {fd : FuncData} (F : Fun K "_law_begun" "_law_begun" sBeg f fd) (mx : mg "max" = none) : FnOk P w K mg base CX0 1 f fd ["_law_cell_here"] spBeg := by
  refine F.ok scBg (fun vs H Q E h => ?_) (fun cdv A outer s H vs Q E hr h => ?_)
  · obtain ⟨c, rfl, _⟩ := h
    rfl
  obtain ⟨c, rfl, q⟩ := h
  refine ⟨_, pss_one (ps_ret (pe_lst (pa_cons (pe_callB (call_max2 rfl) rfl mx PyProof.Rows.boot_max (pa_cons pe_int (pa_cons (pe_op op_sub (pv 0) (pe_op op_pow pe_int pe_int)) pa_nil))) (pa_cons (pe_op op_mod (pv 0) pe_int) (pa_cons pe_int pa_nil))))), ?_⟩
  refine ⟨_, rfl, 10, 18, rfl, rfl, ⟨by decide, by decide, by decide⟩, _, _, rfl, rfl, _, _, rfl, _, rfl, _, _, rfl, rfl, (by show (0 : Int) < 2147483629; decide), by show 3 ≤ sizeLine; decide, fun p hp => ?_⟩
  refine q p _ hp (Ext.new hp) ⟨_, _, _, upd_same, ?_, Int.emod_nonneg _ (by decide), Int.emod_lt_of_pos _ (by decide)⟩
  show 0 ≤ (if c - (10 : Int) ^ (18 : Int).toNat > 0 then c - (10 : Int) ^ (18 : Int).toNat else 0)
  split <;> omega
abbrev sPull : Stmt := top 13
def spPull (T : Tbs) : Sp := fun vs H Q _ => ∃ ps p, ∃ m : Int, vs = [.ref p, .int m] ∧ OkS T ps p H ∧ 0 < m ∧ m < 1073741824 ∧ ∀ (r : Int) (H' : Hp), 0 ≤ r → r < m → OkS T ps p H' → Kept H H' p → Q (.int r) H'
theorem scPl : FnScope ["_law_state", "_law_many", "_law_digit", "_law_high", "_law_low"] ["_law_state", "_law_many"] (defScope sPull) := ⟨rfl, rfl, rfl, by decide +kernel, rfl, by decide +kernel, by decide +kernel⟩
theorem kept_upd {H : Hp} {p : Addr} (o : HO) : Kept H (upd H p o) p := fun b u h n => by rw [upd_ne n]; exact h
theorem ok_pull {f a1 : Addr} {fd d1 : FuncData} (F : Fun K "_law_pull" "_law_pull" sPull f fd) (A1 : Df P w K mg base CX0 1 "_law_mix" ["_law_cell_here", "_law_k"] spMix a1 d1) : FnOk P w K mg base CX0 2 f fd ["_law_state", "_law_many"] (spPull T) := by
  refine F.ok scPl (fun vs H Q E h => ?_) (fun cdv A outer s H vs Q E hr h => ?_)
  · obtain ⟨_, _, _, rfl, _⟩ := h
    rfl
  obtain ⟨ps, p, m, rfl, ok, m0, m1, q⟩ := h
  obtain ⟨a, b, c, hp, a0, b0, b1⟩ := ok.bx.ex
  have nd := scPl.nd
  refine ⟨_, pss_cons (ps_if (pt_cmpR op_gt (pe_ix ix_list (pv 0) pe_int (fun _ _ => rfl)) pe_int (nomark _))
      (pss_cons (ps_set (i := 2) nd rfl (Or.inl rfl) (pe_op op_mod (pe_ix ix_list (pv 0) pe_int (fun _ _ => rfl)) (pv 1)))
      (pss_cons (ps_asg (pe_op op_fdiv (pe_ix ix_list (pv 0) pe_int (fun _ _ => rfl)) (pv 1)) (pg_sub (pv 0) pe_int set_list))
      (pss_one (ps_ret (pv 2))))) pss_nil)
    (pss_cons (ps_asg (pe_op op_add (pe_ix ix_list (pv 0) pe_int (fun _ _ => rfl)) pe_int) (pg_sub (pv 0) pe_int set_list))
    (pss_cons (ps_set (i := 3) nd rfl (Or.inl rfl) (pe_call A1.G hr rfl A1.m A1.kp A1.b .nil pass0 (pa_cons (pe_ix ix_list (pv 0) pe_int (fun _ _ => rfl)) (pa_cons (pe_op op_mul pe_int (pe_ix ix_list (pv 0) pe_int (fun _ _ => rfl))) pa_nil))))
    (pss_cons (ps_set (i := 4) nd rfl (Or.inl rfl) (pe_call A1.G hr rfl A1.m A1.kp A1.b .nil pass0 (pa_cons (pe_ix ix_list (pv 0) pe_int (fun _ _ => rfl)) (pa_cons (pe_op op_add (pe_op op_mul pe_int (pe_ix ix_list (pv 0) pe_int (fun _ _ => rfl))) pe_int) pa_nil))))
    (pss_one (ps_ret (pe_op op_mod (pe_op op_add (pe_op op_mul (pv 3) pe_int) (pv 4)) (pv 1))))))), ?_⟩
  have hl := SqL.of (K := K) hp
  refine ⟨_, rfl, p, _, _, _, rfl, rfl, hl, rfl, _, _, rfl, rfl, _, rfl, ?_⟩
  refine ite2 (fun c1 => ?_) (fun c1 => ?_)
  · have c2 : 0 < a := of_decide_eq_true c1
    refine ⟨_, rfl, p, _, _, _, rfl, rfl, hl, rfl, _, rfl, _, _, rfl, rfl, m0, ?_⟩
    refine ⟨_, rfl, p, _, _, _, rfl, rfl, hl, rfl, _, rfl, _, _, rfl, rfl, ⟨m0, m1⟩, _, rfl, p, _, 0, 0, rfl, rfl, hp, rfl, ?_⟩
    exact ⟨_, rfl, q _ _ (Int.emod_nonneg _ (by omega)) (Int.emod_lt_of_pos _ m0) (ok.kept (kept_upd _) ⟨_, _, _, upd_same, Int.ediv_nonneg (by omega) (by omega), b0, b1⟩) (kept_upd _)⟩
  · refine ⟨_, rfl, p, _, _, _, rfl, rfl, hl, rfl, _, _, rfl, rfl, _, rfl, p, _, 2, 2, rfl, rfl, hp, rfl, ?_⟩
    have k1 : Kept H (upd H p (.lst [.int a, .int b, .int (c + 1)])) p := kept_upd _
    have f1 : upd H p (.lst [.int a, .int b, .int (c + 1)]) p = some (.lst [.int a, .int b, .int (c + 1)]) := upd_same
    have ok1 := ok.kept k1 ⟨_, _, _, f1, a0, b0, b1⟩
    have hl1 := SqL.of (K := K) f1
    have q1 := fun r h0 h1 => q r _ h0 h1 ok1 k1
    refine ⟨_, rfl, p, _, _, _, rfl, rfl, hl1, rfl, _, rfl, p, _, _, _, rfl, rfl, hl1, rfl, _, _, rfl, rfl, .inl ⟨by decide, by decide⟩, _, _, rfl, fun r1 r10 r11 => ?_⟩
    refine ⟨_, rfl, p, _, _, _, rfl, rfl, hl1, rfl, _, rfl, p, _, _, _, rfl, rfl, hl1, rfl, _, _, rfl, rfl, .inl ⟨by decide, by decide⟩, _, _, rfl, rfl, _, _, rfl, fun r2 r20 r21 => ?_⟩
    refine ⟨_, rfl, _, _, rfl, rfl, .inl ⟨by omega, by omega⟩, _, rfl, _, _, rfl, rfl, _, rfl, _, _, rfl, rfl, m0, ?_⟩
    exact q1 _ (Int.emod_nonneg _ (by omega)) (Int.emod_lt_of_pos _ m0)
abbrev sOut : Stmt := top 14
def spOut (T : Tbs) : Sp := fun vs H Q _ => ∃ ps p, vs = [.ref p] ∧ OkS T ps p H ∧ ∀ v o H', OkS T ps p H' → Gr p H H' → OcV (nt H' ps) v o → Q v H'
theorem scOt : FnScope ["_law_state"] ["_law_state"] (defScope sOut) := ⟨rfl, rfl, rfl, by decide +kernel, rfl, by decide +kernel, by decide +kernel⟩
theorem ok_out {f a1 : Addr} {fd d1 : FuncData} (F : Fun K "_law_outcome" "_law_outcome" sOut f fd) (A1 : Df P w K mg base CX0 2 "_law_pull" ["_law_state", "_law_many"] (spPull T) a1 d1) : FnOk P w K mg base CX0 3 f fd ["_law_state"] (spOut T) := by
  refine F.ok scOt (fun vs H Q E h => ?_) (fun cdv A outer s H vs Q E hr h => ?_)
  · obtain ⟨_, _, rfl, _⟩ := h
    rfl
  obtain ⟨ps, p, rfl, ok, q⟩ := h
  refine ⟨_, pss_one (ps_ret (pe_tup (pa_cons (pe_op op_sub (pe_call A1.G hr rfl A1.m A1.kp A1.b .nil pass0 (pa_cons (pv 0) (pa_cons pe_int pa_nil))) pe_int) (pa_cons (pe_cmpR op_gt (pe_call A1.G hr rfl A1.m A1.kp A1.b .nil pass0 (pa_cons (pv 0) (pa_cons pe_int pa_nil))) pe_int (nomark _)) pa_nil)))), ?_⟩
  refine ⟨_, rfl, ps, p, 199, rfl, ok, by decide, by decide, fun r H1 r0 r1 ok1 k1 => ⟨_, _, rfl, rfl, _, rfl, ps, p, 3, rfl, ok1, by decide, by decide, fun r' H2 r0' r1' ok2 k2 => ⟨_, _, rfl, rfl, (by show 2 ≤ sizeLine; decide), fun l hl => ?_⟩⟩⟩
  have x3 := Ext.new (o := .tup [.int (r - 99), .bl (decide (0 < r'))]) hl
  have ok3 := ok2.ext x3
  exact q _ (r - 99, decide (0 < r')) _ ok3 (k1.gr.trans (k2.gr.trans (x3.gr p))) ⟨l, rfl, nt_in (ok3.nin upd_same fun _ z => nomatch z) upd_same fun _ z => nomatch z⟩
end
end My
set_option Elab.async false
set_option linter.all false
set_option maxRecDepth 100000
set_option maxHeartbeats 1000000
namespace My
open PySem PySem.W L2
def Al {α : Type} (R : Hp → V → α → Prop) (G : Hp) (vs : List V) (rs : List α) : Prop := vs.length = rs.length ∧ ∀ (i : Nat) v r, vs[i]? = some v → rs[i]? = some r → R G v r
def Tkk {α : Type} (R : Hp → V → α → Prop) : Prop := ∀ G G' v r, TK G G' → R G v r → R G' v r
theorem tkk_rw : Tkk RwV := fun _ _ _ _ t h => h.tk t
theorem tkk_oc : Tkk OcV := fun _ _ _ _ t h => h.tk t
def InR : Hp → V → Int → Prop := fun _ v i => v = .int i
theorem tkk_in : Tkk InR := fun _ _ _ _ _ h => h
section
variable {α β : Type} {R : Hp → V → α → Prop} {R' : Hp → V → β → Prop} {G G' : Hp} {vs : List V} {rs : List α} {v : V} {r : α}
theorem Al.tk (h : Al R G vs rs) (k : Tkk R) (t : TK G G') : Al R G' vs rs := ⟨h.1, fun i v r h1 h2 => k _ _ _ _ t (h.2 i v r h1 h2)⟩
theorem Al.nil : Al R G [] [] := ⟨rfl, fun i v r h => by simp at h⟩
theorem Al.snoc (h : Al R G vs rs) (hv : R G v r) : Al R G (vs ++ [v]) (rs ++ [r]) := by
  refine ⟨by simp [h.1], fun i v' r' h1 h2 => ?_⟩
  rcases Nat.lt_trichotomy i vs.length with z | z | z
  · rw [List.getElem?_append_left z] at h1
    rw [List.getElem?_append_left (by rw [← h.1]; exact z)] at h2
    exact h.2 i v' r' h1 h2
  · subst z
    rw [List.getElem?_append_right (Nat.le_refl _)] at h1
    rw [h.1, List.getElem?_append_right (Nat.le_refl _)] at h2
    simp at h1 h2
    subst h1 h2
    exact hv
  · rw [List.getElem?_eq_none (by simp; omega)] at h1
    cases h1
theorem Al.get' (h : Al R G vs rs) {i : Nat} (hi : vs[i]? = some v) : ∃ r, rs[i]? = some r ∧ R G v r := by
  have l : i < rs.length := by rw [← h.1]; exact (List.getElem?_eq_some_iff.mp hi).1
  exact ⟨rs[i], List.getElem?_eq_getElem l, h.2 i v _ hi (List.getElem?_eq_getElem l)⟩
theorem take_snoc {l : List α} {i : Nat} {x : α} (h : l[i]? = some x) : l.take (i + 1) = l.take i ++ [x] := by
  rw [List.take_add_one, h]
  rfl
theorem Al.ints {is : List Int} (h : Al InR G vs is) : vs = is.map V.int := by
  apply List.ext_getElem?
  intro i
  rw [List.getElem?_map]
  cases e : vs[i]? with
  | none =>
    rw [List.getElem?_eq_none (by rw [← h.1]; exact List.getElem?_eq_none_iff.mp e)]
    rfl
  | some v =>
    obtain ⟨r, er, hr⟩ := h.get' e
    rw [er]
    exact congrArg some hr
end
section
variable {T : Tbs} {ps : List Addr} {p D a : Addr} {H H1 : Hp}
theorem OkS.add {ys : List V} (ok : OkS T ps p H) (e : H D = some (.lst ys)) : OkS T (D :: ps) p H := ⟨ok.bx, ok.ti, List.mem_cons_of_mem _ ok.mem, fun x hx => by
  rcases List.mem_cons.mp hx with rfl | hx
  · exact ⟨_, e⟩
  · exact ok.ex x hx⟩
theorem OkS.drop (ok : OkS T (D :: ps) p H) (m : p ∈ ps) : OkS T ps p H := ⟨ok.bx, ok.ti, m, fun x hx => ok.ex x (List.mem_cons_of_mem _ hx)⟩
theorem nt_cons (ok : OkS T ps p H1) (hD : H1 D = none) (g : Gr p H1 H) : Ext (nt H1 ps) (nt H (D :: ps)) := fun b o e => by
  obtain ⟨n, e, t⟩ := nt_of e
  refine nt_in (fun z => ?_) (g b o e (fun z => n (by rw [z]; exact ok.mem)) t) t
  rcases List.mem_cons.mp z with rfl | z
  · rw [hD] at e; cases e
  · exact n z
theorem nt_drop : Ext (nt H (D :: ps)) (nt H ps) := nt_sub fun x hx => List.mem_cons_of_mem _ hx
variable {K : Frag} {Q : Hp → Prop} {k : Nat} {cap : St} {g : TG} {te : TE}
theorem lcW_list {α β : Type} {R0 : Hp → V → α → Prop} {R : Hp → V → β → Prop} {xs : List V} {rs : List α} (tg : α → β) (k0 : Tkk R0) (k1 : Tkk R) (ok : OkS T ps p H1) (hD : H1 D = none) (ha : nt H1 ps a = some (.lst xs)) (hx : Al R0 (nt H1 ps) xs rs) (hz : xs.length < sizeLine)
    (hs : ∀ (i : Nat) x r H, xs[i]? = some x → rs[i]? = some r → OkS T (D :: ps) p H → R0 (nt H (D :: ps)) x r → ∀ os : St, os.length = k → ∀ Rk : VK, (∀ y H4, OkS T (D :: ps) p H4 → Gr p H H4 → R (nt H4 (D :: ps)) y (tg r) → Rk y H4) → g x (os ++ cap) H fun σ2 H0 => (∃ os' : St, os'.length = k ∧ σ2 = os' ++ cap) ∧ te σ2 H0 Rk)
    (hd : ∀ ys H, OkS T ps p H → Gr p H1 H → H D = some (.lst ys) → Al R (nt H (D :: ps)) ys (rs.map tg) → Q H) :
    ∃ W : Nat → Nat → List V → Hp → Prop, (∃ m, W 0 m [] (upd H1 D (.lst []))) ∧
      ∀ i m ys H2, W i m ys H2 → H2 D = some (.lst ys) ∧ (((Itl K a).stop i H2 ∧ Q H2) ∨ ((Itl K a).go i H2 ∧ ys.length < sizeLine ∧
        ∀ x H3, (Itl K a).yld i H2 x H3 → ∀ os : St, os.length = k → g x (os ++ cap) H3 fun σ2 H0 => (∃ os' : St, os'.length = k ∧ σ2 = os' ++ cap) ∧ te σ2 H0 fun y H4 => H4 D = some (.lst ys) ∧ ∃ m', m' < m ∧ W (i + 1) m' (ys ++ [y]) (upd H4 D (.lst (ys ++ [y]))))) := by
  obtain ⟨na, ea, _⟩ := nt_of ha
  have nD : D ≠ p := fun z => by obtain ⟨_, _, _, e, _⟩ := ok.bx.ex; rw [← z, hD] at e; cases e
  refine lcG_list (fun i ys H => OkS T (D :: ps) p H ∧ Gr p H1 H ∧ Al R (nt H (D :: ps)) ys ((rs.take i).map tg)) hz ⟨(ok.ext (Ext.new hD)).add upd_same, (Ext.new hD).gr p, by simpa using Al.nil⟩ (fun i ys H ⟨o, gr, _⟩ => ?_) (fun i x ys H ex ly eD ⟨o, gr, al⟩ os lo Rk q => ?_) (fun ys H ly eD ⟨o, gr, al⟩ => ?_)
  · exact SqL.of (gr _ _ ea (fun z => na (by rw [z]; exact ok.mem)) fun _ z => nomatch z)
  · obtain ⟨r, er, hr⟩ := hx.get' ex
    refine hs i x r H ex er o (k0 _ _ _ _ (nt_cons ok hD gr).tk hr) os lo Rk fun y H4 o4 g4 ry => ?_
    have e4 := g4 D _ eD nD fun _ z => nomatch z
    refine q y H4 e4 ⟨o4.upd e4 nD, (gr.trans g4).upd hD, ?_⟩
    rw [nt_upd (List.mem_cons_self ..), take_snoc er, List.map_append]
    exact (al.tk k1 (g4.nt o.mem).tk).snoc ry
  · rw [List.take_of_length_le (by rw [hx.1]; exact Nat.le_refl _)] at al
    exact hd ys H (o.drop ok.mem) gr eD al
theorem lcW_range {α : Type} {R : Hp → V → α → Prop} {n : Nat} (k1 : Tkk R) (ok : OkS T ps p H1) (hD : H1 D = none) (hz : n < sizeLine)
    (hs : ∀ (i : Nat) H, i < n → OkS T (D :: ps) p H → ∀ os : St, os.length = k → ∀ Rk : VK, (∀ y r H4, OkS T (D :: ps) p H4 → Gr p H H4 → R (nt H4 (D :: ps)) y r → Rk y H4) → g (.int (0 + i)) (os ++ cap) H fun σ2 H0 => (∃ os' : St, os'.length = k ∧ σ2 = os' ++ cap) ∧ te σ2 H0 Rk)
    (hd : ∀ ys rs H, OkS T ps p H → Gr p H1 H → H D = some (.lst ys) → rs.length = n → Al R (nt H (D :: ps)) ys rs → Q H) :
    ∃ W : Nat → Nat → List V → Hp → Prop, (∃ m, W 0 m [] (upd H1 D (.lst []))) ∧
      ∀ i m ys H2, W i m ys H2 → H2 D = some (.lst ys) ∧ (((Itr 0 n).stop i H2 ∧ Q H2) ∨ ((Itr 0 n).go i H2 ∧ ys.length < sizeLine ∧
        ∀ x H3, (Itr 0 n).yld i H2 x H3 → ∀ os : St, os.length = k → g x (os ++ cap) H3 fun σ2 H0 => (∃ os' : St, os'.length = k ∧ σ2 = os' ++ cap) ∧ te σ2 H0 fun y H4 => H4 D = some (.lst ys) ∧ ∃ m', m' < m ∧ W (i + 1) m' (ys ++ [y]) (upd H4 D (.lst (ys ++ [y]))))) := by
  have nD : D ≠ p := fun z => by obtain ⟨_, _, _, e, _⟩ := ok.bx.ex; rw [← z, hD] at e; cases e
  refine lcG_range (lo := 0) (fun i ys H => OkS T (D :: ps) p H ∧ Gr p H1 H ∧ ∃ rs, rs.length = i ∧ Al R (nt H (D :: ps)) ys rs) hz ⟨(ok.ext (Ext.new hD)).add upd_same, (Ext.new hD).gr p, [], rfl, Al.nil⟩ (fun i ys H hi ly eD ⟨o, gr, rs, lr, al⟩ os lo Rk q => ?_) (fun ys H ly eD ⟨o, gr, rs, lr, al⟩ => hd ys rs H (o.drop ok.mem) gr eD lr al)
  refine hs i H hi o os lo Rk fun y r H4 o4 g4 ry => ?_
  have e4 := g4 D _ eD nD fun _ z => nomatch z
  refine q y H4 e4 ⟨o4.upd e4 nD, (gr.trans g4).upd hD, rs ++ [r], by simp [lr], ?_⟩
  rw [nt_upd (List.mem_cons_self ..)]
  exact (al.tk k1 (g4.nt o.mem).tk).snoc ry
end
end My
set_option Elab.async false
set_option linter.all false
set_option maxRecDepth 100000
set_option maxHeartbeats 1000000
namespace My
open PySem PySem.W L2
theorem lookup_1 {n z : Str} {a c : Addr} (h : List.lookup z [(n, a)] = some c) : z = n ∧ c = a := by
  rw [List.lookup_cons] at h
  cases e : z == n with
  | true => rw [e] at h; exact ⟨beq_iff_eq.mp e, (Option.some.inj h).symm⟩
  | false => rw [e] at h; cases h
theorem compG1 {X : Cx} {sc : Scope} {ts : List Str} {z0 : Str} {c0 : Addr} {j : Nat} {L : List (Str × NameKind)} (clos : closureFor sc X.env = pure [(z0, c0)]) (kind : sc.kind = .function) (nc : ∀ y ∈ sc.names, y.2 ≠ .cell) (nm : ∀ y ∈ sc.names, y.2 = .local → sc.names.lookup y.1 = some .local) (var : ∀ x ∈ ts, sc.names.lookup x = some .local)
    (hc : X.env.cells.lookup z0 = some c0) (rl : (relabel sc X.env).names = L) (has : ∀ y ∈ L, (y.2 = .cell ∨ y.2 = .free) → y.1 = z0) (nd : (ts ++ [z0]).Nodup) (hj : X.N[j]? = some z0) (vis : Vis X.env.scope z0) (nl : X.env.kindOf z0 ≠ some .local) (cf : L.lookup z0 = some .cell ∨ L.lookup z0 = some .free) : CompG X sc [(z0, c0)] ts [z0] [j] := by
  refine ⟨clos, kind, nc, nm, var, fun z c h => ?_, fun z h => ?_, nd, fun k z h => ?_, rfl⟩
  · obtain ⟨rfl, rfl⟩ := lookup_1 h
    exact hc
  · rw [rl] at h
    have : z = z0 := by
      rcases h with h | h
      · exact has _ (PySem.mem_of_lookup h) (.inl rfl)
      · exact has _ (PySem.mem_of_lookup h) (.inr rfl)
    subst this
    exact ⟨c0, by rw [List.lookup_cons, beq_self_eq_true]⟩
  · match k, h with
    | 0, h =>
      have h : some z0 = some z := h
      cases h
      exact ⟨j, rfl, hj, vis, nl, by rw [rl]; exact cf⟩
    | k + 1, h => simp at h
theorem compG0 {X : Cx} {sc : Scope} {ts : List Str} {L : List (Str × NameKind)} (clos : closureFor sc X.env = pure []) (kind : sc.kind = .function) (nc : ∀ y ∈ sc.names, y.2 ≠ .cell) (nm : ∀ y ∈ sc.names, y.2 = .local → sc.names.lookup y.1 = some .local) (var : ∀ x ∈ ts, sc.names.lookup x = some .local)
    (rl : (relabel sc X.env).names = L) (has : ∀ y ∈ L, ¬(y.2 = .cell ∨ y.2 = .free)) (nd : (ts ++ []).Nodup) : CompG X sc [] ts [] [] := by
  refine ⟨clos, kind, nc, nm, var, (fun z c h => by cases h), fun z h => ?_, nd, (fun k z h => by simp at h), rfl⟩
  rw [rl] at h
  rcases h with h | h
  · exact absurd (.inl rfl) (has _ (PySem.mem_of_lookup h))
  · exact absurd (.inr rfl) (has _ (PySem.mem_of_lookup h))
theorem OkS.tup {T : Tbs} {ps : List Addr} {p b : Addr} {H : Hp} {xs : List V} (ok : OkS T ps p H) (e : H b = some (.tup xs)) : nt H ps b = some (.tup xs) := nt_in (ok.nin e fun _ z => nomatch z) e fun _ z => nomatch z
theorem OkS.lst {T : Tbs} {ps : List Addr} {p b : Addr} {H : Hp} {xs : List V} (ok : OkS T ps p H) (n : b ∉ ps) (e : H b = some (.lst xs)) : nt H ps b = some (.lst xs) := nt_in n e fun _ z => nomatch z
section
variable {P : Program} {w : World} {K : Frag} {mg : Str → Option Value} {base : Heap} {T : Tbs}
abbrev sSH : Stmt := top 6
def shR (k : Int) (o : Oc) : Rw := ((o.1 + k, o.2), o)
def spSH (T : Tbs) : Sp := fun vs H Q _ => ∃ ps p l xs os, ∃ k : Int, vs = [.ref l, .int k] ∧ OkS T ps p H ∧ nt H ps l = some (.lst xs) ∧ Al OcV (nt H ps) xs os ∧ xs.length ≤ 20 ∧ ∀ f H', OkS T ps p H' → Gr p H H' → W0C (nt H' ps) f (os.map (shR k)) → Q (.ref f) H'
theorem scSH : FnScope ["outcomes", "shift"] ["outcomes", "shift"] (defScope sSH) := ⟨rfl, rfl, rfl, by decide +kernel, rfl, by decide +kernel, by decide +kernel⟩
abbrev scSHC : Scope := { kind := .function, names := [(".0", .local), ("number", .local), ("sure", .local), ("shift", .free)], isGenerator := false, isCoroutine := false }
variable {f : Addr} {cdv : Value} {A : Around} {outer : List Env} {s : Shared} {H : Hp} {E : XK}
theorem compSH : CompG (cxOf CX0 P w K mg base ["outcomes", "shift"] "shifted_world" (defScope sSH) f cdv A outer s H E).nox scSHC [("shift", s.heap.objs.size + 1)] ["number", "sure"] ["shift"] [1] :=
  compG1 (L := [(".0", .local), ("number", .local), ("sure", .local), ("shift", .cell)]) rfl rfl (by decide +kernel) (by decide +kernel) (by decide +kernel) rfl rfl (by decide +kernel) (by decide +kernel) rfl (.inr (.inl rfl)) (by show (defScope sSH).names.lookup ("shift" : Str) ≠ some NameKind.local; decide +kernel) (.inl rfl)
theorem ndSH : ((["number", "sure"] : List Str) ++ (["shift"] : List Str)).Nodup := by decide +kernel
def tShE : TE := tTup (tCons (tTup (tCons (tOp (rI0 fun i j => .int (i + j)) (tVar 0) (tVar 2)) (tCons (tVar 1) tNil))) (tCons (tTup (tCons (tVar 0) (tCons (tVar 1) tNil))) tNil))
theorem ok_SH {a1 : Addr} {fd d1 : FuncData} (F : Fun K "shifted_world" "shifted_world" sSH f fd) (A1 : Df P w K mg base CX0 1 "world_of" ["listing"] (spWO T) a1 d1) : FnOk P w K mg base CX0 2 f fd ["outcomes", "shift"] (spSH T) := by
  refine F.ok scSH (fun vs H Q E h => ?_) (fun cdv A outer s H vs Q E hr h => ?_)
  · obtain ⟨_, _, _, _, _, _, rfl, _⟩ := h
    rfl
  obtain ⟨ps, p, l, xs, os, k, rfl, ok, hl, al, lx, q⟩ := h
  refine ⟨_, pss_one (ps_ret (pe_call A1.G hr rfl A1.m A1.kp A1.b .nil pass0 (pa_cons (pe_lcG (te := tShE) (g := gTup K 2 (gCons (gName 0) (gCons (gName 1) gNil))) rfl compSH (pi_list (pv 0)) (fun s H C fp => by exact pg_tup rfl (pgs_cons (pg_name (i := 0) ndSH rfl (.inl rfl)) (pgs_cons (pg_name (i := 1) ndSH rfl (.inl rfl)) pgs_nil)))
    (fun s H C fp => by exact pe_tup (pa_cons (pe_tup (pa_cons (pe_op op_add (pv 0) (pv 2)) (pa_cons (pv 1) pa_nil))) (pa_cons (pe_tup (pa_cons (pv 0) (pa_cons (pv 1) pa_nil))) pa_nil)))) pa_nil))), ?_⟩
  refine ⟨_, rfl, l, rfl, ⟨xs, SqL.of (nt_of hl).2.1⟩, fun D hD => lcW_list (shR k) tkk_oc tkk_rw ok hD hl al (Nat.lt_of_le_of_lt lx (by decide)) (fun i x r H' ex er ok' rx os los Rk q' => ?_) (fun ys H' ok' gr eD al' => ?_)⟩
  · obtain ⟨o0, o1, rfl⟩ : ∃ o0 o1, os = [o0, o1] := by
      match os, los with
      | [o0, o1], _ => exact ⟨o0, o1, rfl⟩
    obtain ⟨a, rfl, ha⟩ := rx
    refine ⟨a, _, rfl, SqT.of (nt_of ha).2.1, rfl, _, _, rfl, _, _, rfl, rfl, ⟨[some (.int r.1), some (.bl r.2)], rfl, rfl⟩, ?_⟩
    refine ⟨_, rfl, _, rfl, _, _, rfl, rfl, _, rfl, (by show 2 ≤ sizeLine; decide), fun l1 n1 => ⟨_, rfl, _, rfl, (by show 2 ≤ sizeLine; decide), fun l2 n2 => ⟨(by show 2 ≤ sizeLine; decide), fun l3 n3 => ?_⟩⟩⟩
    have x1 := Ext.new (o := .tup [.int (r.1 + k), .bl r.2]) n1
    have x2 := Ext.new (o := .tup [.int r.1, .bl r.2]) n2
    have x3 := Ext.new (o := .tup [.ref l1, .ref l2]) n3
    have ok3 := ok'.ext (x1.trans (x2.trans x3))
    exact q' _ _ ok3 ((x1.trans (x2.trans x3)).gr p) ⟨l3, _, _, rfl, ok3.tup upd_same, ⟨l1, rfl, ok3.tup (x3 _ _ (x2 _ _ upd_same))⟩, ⟨l2, rfl, ok3.tup (x3 _ _ upd_same)⟩⟩
  · refine ⟨ps, p, D, ys, _, rfl, ok', eD, al'.tk tkk_rw nt_drop.tk, fun f H2 ok2 gr2 wd => q f H2 ok2 (gr.trans gr2) wd⟩
abbrev sLi : Stmt := top 15
def spLi (T : Tbs) : Sp := fun vs H Q _ => ∃ ps p, vs = [.ref p] ∧ OkS T ps p H ∧ ∀ l xs rs H', OkS T ps p H' → Gr p H H' → nt H' ps l = some (.lst xs) → RwsV (nt H' ps) xs rs → rs.length ≤ 20 → Q (.ref l) H'
theorem scLi : FnScope ["_law_state", "_law_many"] ["_law_state"] (defScope sLi) := ⟨rfl, rfl, rfl, by decide +kernel, rfl, by decide +kernel, by decide +kernel⟩
abbrev scLiC : Scope := { kind := .function, names := [(".0", .local), ("_law_k", .local), ("_law_outcome", .globalImplicit), ("_law_state", .free)], isGenerator := false, isCoroutine := false }
theorem compLi : CompG (cxOf CX0 P w K mg base ["_law_state", "_law_many"] "_law_listing" (defScope sLi) f cdv A outer s H E).nox scLiC [("_law_state", s.heap.objs.size + 1)] ["_law_k"] ["_law_state"] [0] :=
  compG1 (L := [(".0", .local), ("_law_k", .local), ("_law_outcome", .globalImplicit), ("_law_state", .cell)]) rfl rfl (by decide +kernel) (by decide +kernel) (by decide +kernel) rfl rfl (by decide +kernel) (by decide +kernel) rfl (.inr (.inl rfl)) (by show (defScope sLi).names.lookup ("_law_state" : Str) ≠ some NameKind.local; decide +kernel) (.inl rfl)
theorem ndLi : ((["_law_k"] : List Str) ++ (["_law_state"] : List Str)).Nodup := by decide +kernel
def tLiE (T : Tbs) : TE := tTup (tCons (tCall (spOut T) [] E0 (tCons (tVar 1) tNil)) (tCons (tCall (spOut T) [] E0 (tCons (tVar 1) tNil)) tNil))
theorem ok_Li {a1 a2 : Addr} {fd d1 d2 : FuncData} (F : Fun K "_law_listing" "_law_listing" sLi f fd) (A1 : Df P w K mg base CX0 2 "_law_pull" ["_law_state", "_law_many"] (spPull T) a1 d1) (A2 : Df P w K mg base CX0 3 "_law_outcome" ["_law_state"] (spOut T) a2 d2) (mr : mg "range" = none) : FnOk P w K mg base CX0 4 f fd ["_law_state"] (spLi T) := by
  refine F.ok scLi (fun vs H Q E h => ?_) (fun cdv A outer s H vs Q E hr h => ?_)
  · obtain ⟨_, _, rfl, _⟩ := h
    rfl
  obtain ⟨ps, p, rfl, ok, q⟩ := h
  have hr2 := hr.mono (show 2 ≤ 3 by decide)
  refine ⟨_, pss_cons (ps_set (i := 1) scLi.nd rfl (Or.inl rfl) (pe_ix ix_list (pe_lst (pa_cons (pe_call A1.G hr2 rfl A1.m A1.kp A1.b .nil pass0 (pa_cons (pv 0) (pa_cons pe_int pa_nil))) (pa_cons (pe_call A1.G hr2 rfl A1.m A1.kp A1.b .nil pass0 (pa_cons (pv 0) (pa_cons pe_int pa_nil))) pa_nil))) (pe_call A1.G hr2 rfl A1.m A1.kp A1.b .nil pass0 (pa_cons (pv 0) (pa_cons pe_int pa_nil))) (fun _ _ => rfl)))
    (pss_one (ps_ret (pe_lcG (te := tLiE T) (g := gName 0) rfl compLi (pi_range1 rfl mr (pa_cons (pv 1) pa_nil)) (fun s H C fp => by exact pg_name (i := 0) ndLi rfl (.inl rfl)) (fun s H C fp => by exact pe_tup (pa_cons (pe_call A2.G hr rfl A2.m A2.kp A2.b .nil pass0 (pa_cons (pv 1) pa_nil)) (pa_cons (pe_call A2.G hr rfl A2.m A2.kp A2.b .nil pass0 (pa_cons (pv 1) pa_nil)) pa_nil)))))), ?_⟩
  refine ⟨_, rfl, ps, p, 6, rfl, ok, by decide, by decide, fun r1 H1 r10 r11 ok1 k1 => ⟨_, rfl, ps, p, 21, rfl, ok1, by decide, by decide, fun r2 H2 r20 r21 ok2 k2 => ⟨(by show 2 ≤ sizeLine; decide), fun l hl => ?_⟩⟩⟩
  have x3 := Ext.new (o := .lst [.int r1, .int r2]) hl
  have ok3 := ok2.ext x3
  have nl : l ≠ p := fun z => by obtain ⟨_, _, _, e, _⟩ := ok2.bx.ex; rw [← z, hl] at e; cases e
  refine ⟨_, rfl, ps, p, 2, rfl, ok3, by decide, by decide, fun r3 H4 r30 r31 ok4 k4 => ?_⟩
  obtain ⟨m, m0, m1, em⟩ : ∃ m : Int, 0 ≤ m ∧ m < 21 ∧ atI [V.int r1, V.int r2] r3 = some (.int m) := by
    rcases (show r3 = 0 ∨ r3 = 1 by omega) with rfl | rfl
    · exact ⟨r1, r10, by omega, rfl⟩
    · exact ⟨r2, r20, r21, rfl⟩
  have g4 : Gr p H H4 := k1.gr.trans (k2.gr.trans ((x3.gr p).trans k4.gr))
  refine ⟨l, _, r3, _, rfl, rfl, SqL.of (k4 l _ upd_same nl), em, ?_⟩
  refine ⟨_, rfl, m, rfl, by omega, by omega, fun D hD => lcW_range tkk_rw ok4 hD (Nat.lt_of_lt_of_le (m := 21) (by omega) (by decide)) (fun i H' hi ok' os los Rk q' => ?_) (fun ys rs H' ok' gr eD lr al' => ?_)⟩
  · obtain ⟨o0, rfl⟩ : ∃ o0, os = [o0] := by
      match os, los with
      | [o0], _ => exact ⟨o0, rfl⟩
    refine ⟨⟨[some (.int (0 + i))], rfl, rfl⟩, ?_⟩
    refine ⟨_, rfl, D :: ps, p, rfl, ok', fun v1 c1 H5 ok5 g5 w1 => ⟨_, rfl, D :: ps, p, rfl, ok5, fun v2 c2 H6 ok6 g6 w2 => ⟨(by show 2 ≤ sizeLine; decide), fun l1 n1 => ?_⟩⟩⟩
    have x7 := Ext.new (o := .tup [v1, v2]) n1
    have ok7 := ok6.ext x7
    have e7 := ((x7.gr p).nt ok6.mem).tk
    exact q' _ (c1, c2) _ ok7 (g5.trans (g6.trans (x7.gr p))) ⟨l1, v1, v2, rfl, ok7.tup upd_same, (w1.tk (g6.nt ok5.mem).tk).tk e7, w2.tk e7⟩
  · have nD := ok4.new hD
    exact q D ys rs H' ok' (g4.trans gr) (ok'.lst nD eD) (al'.tk tkk_rw nt_drop.tk) (by omega)
end
end My
set_option Elab.async false
set_option linter.all false
set_option maxRecDepth 100000
set_option maxHeartbeats 1000000
namespace My
open PySem PySem.W L2
section
variable {P : Program} {w : World} {K : Frag} {mg : Str → Option Value} {base : Heap} {T : Tbs}
abbrev sSd : Stmt := top 16
abbrev NSd : List Str := ["_law_listing_here", "_law_few", "_law_found", "_law_k", "_law_row"]
def spSd (T : Tbs) : Sp := fun vs H Q _ => ∃ ps p l fw xs rs, ∃ few : List Int, vs = [.ref l, .ref fw] ∧ OkS T ps p H ∧ nt H ps l = some (.lst xs) ∧ RwsV (nt H ps) xs rs ∧ nt H ps fw = some (.lst (few.map V.int)) ∧ rs.length ≤ 20 ∧
  ∀ l' ys H', OkS T ps p H' → Gr p H H' → nt H' ps l' = some (.lst ys) → RwsV (nt H' ps) ys (rs.mapIdx (spR few)) → Q (.ref l') H'
theorem scSd : FnScope NSd ["_law_listing_here", "_law_few"] (defScope sSd) := ⟨rfl, rfl, rfl, by decide +kernel, rfl, by decide +kernel, by decide +kernel⟩
theorem ok_Sd {f : Addr} {fd : FuncData} (F : Fun K "_law_spared" "_law_spared" sSd f fd) (me : mg "enumerate" = none) (mi : mg "int" = none) : FnOk P w K mg base CX0 1 f fd ["_law_listing_here", "_law_few"] (spSd T) := by
  refine F.ok scSd (fun vs H Q E h => ?_) (fun cdv A outer s H vs Q E hr h => ?_)
  · obtain ⟨_, _, _, _, _, _, _, rfl, _⟩ := h
    rfl
  obtain ⟨ps, p, l, fw, xs, rs, few, rfl, ok, hl, hrs, hfw, lr, q⟩ := h
  have nd := scSd.nd
  refine ⟨_, pss_cons (ps_set (i := 2) nd rfl (Or.inl rfl) (pe_lst pa_nil))
    (pss_cons (ps_for PassesOwn.never rfl (pi_enum rfl me (pa_cons (pv 0) pa_nil)) (pg_tup rfl (pgs_cons (pg_name (i := 3) nd rfl (Or.inl rfl)) (pgs_cons (pg_name (i := 4) nd rfl (Or.inl rfl)) pgs_nil)))
      (pss_one (ps_expr (pe_bm PySem.F.plainAttrs_list PySem.F.slot_list_append PySem.F.type_list_append mt_append (pv 2) (pa_cons (pe_ix ix_list (pe_lst (pa_cons (pv 4) (pa_cons (pe_tup (pa_cons (pe_ix ix_tup (pv 4) pe_int (fun _ _ => rfl)) (pa_cons (pe_ix ix_tup (pv 4) pe_int (fun _ _ => rfl)) pa_nil))) pa_nil)))
        (pe_callTy call_int1 rfl mi PyProof.Rows.boot_int (pa_cons (pe_cmpR op_in_seq (pv 3) (pv 1) rfl) pa_nil)) (fun _ _ => rfl)) pa_nil)))))
    (pss_one (ps_ret (pv 2)))), ?_⟩
  refine ⟨(by show 0 ≤ sizeLine; decide), fun D hD => ?_⟩
  have nDp : D ≠ p := fun z => by obtain ⟨_, _, _, e, _⟩ := ok.bx.ex; rw [← z, hD] at e; cases e
  have x0 := Ext.new (o := .lst []) hD
  obtain ⟨nl, el, _⟩ := nt_of hl
  refine ⟨_, rfl, l, rfl, ⟨xs, SqL.of (x0 _ _ el)⟩, for_enum (xs := xs) (fun i σ H' => (∃ o3 o4, σ = [some (.ref l), some (.ref fw), some (.ref D), o3, o4]) ∧ OkS T (D :: ps) p H' ∧ Gr p H H' ∧ ∃ ys, H' D = some (.lst ys) ∧ RwsV (nt H' (D :: ps)) ys ((rs.mapIdx (spR few)).take i)) ⟨⟨_, _, rfl⟩, (ok.ext x0).add upd_same, x0.gr p, [], upd_same, by simpa using RwsV.nil⟩ ?_ ?_ ?_⟩
  · rintro i σ H' _ ⟨_, ok', gr, _⟩
    exact SqL.of (gr _ _ el (fun z => nl (by rw [z]; exact ok.mem)) fun _ z => nomatch z)
  · rintro i x σ H' e ex ⟨⟨o3, o4, rfl⟩, ok', gr, ys, eD, al⟩ ne
    have x1 := Ext.new (o := .tup [.int i, x]) ne
    obtain ⟨r, er, hr'⟩ := hrs.get' ex
    have k1 := nt_cons ok hD gr
    obtain ⟨a, u, v, rfl, ha, ou, ov⟩ := hr'.tk k1.tk
    have ha' : H' a = some (.tup [u, v]) := (nt_of ha).2.1
    have hf' : H' fw = some (.lst (few.map V.int)) := (nt_of (k1 _ _ hfw)).2.1
    refine ⟨e, _, rfl, SqT.of upd_same, rfl, _, _, rfl, _, _, rfl, rfl, ?_⟩
    have ok1 := ok'.ext x1
    refine ⟨_, rfl, .inl ⟨rfl, _, SqL.of (x1 _ _ eD)⟩, _, rfl, _, rfl, a, _, _, _, rfl, rfl, SqT.of (x1 _ _ ha'), rfl, _, rfl, a, _, _, _, rfl, rfl, SqT.of (x1 _ _ ha'), rfl, (by show 2 ≤ sizeLine; decide), fun l1 n1 => ⟨(by show 2 ≤ sizeLine; decide), fun l2 n2 => ?_⟩⟩
    have x2 := Ext.new (o := .tup [v, v]) n1
    have x3 := Ext.new (o := .lst [.ref a, .ref l1]) n2
    have x13 := x1.trans (x2.trans x3)
    have ok3 := ok'.ext x13
    have n2D : l2 ≠ D := fun z => by
      have := (x1.trans x2) _ _ eD
      rw [z] at n2
      rw [n2] at this
      cases this
    refine ⟨_, rfl, _, rfl, fw, _, rfl, .inl (SqL.of (x13 _ _ hf')), rfl, flat_ints few, ?_⟩
    have eb : (if false = true then !inV (V.int (i : Int)) (few.map V.int) else inV (V.int (i : Int)) (few.map V.int)) = decide ((i : Int) ∈ few) := in_ints
    rw [eb]
    have ly : ys.length < sizeLine := by
      have := al.1
      rw [List.length_take, List.length_mapIdx] at this
      exact Nat.lt_of_le_of_lt (m := 20) (by omega) (by decide)
    have em : (rs.mapIdx (spR few))[i]? = some (spR few i r) := by rw [List.getElem?_mapIdx, er]; rfl
    have tk3 : TK (nt H' (D :: ps)) (nt _ (D :: ps)) := ((x13.gr p).nt ok'.mem).tk
    have fin : ∀ y, RwV (nt (upd (upd (upd H' e (.tup [.int i, .ref a])) l1 (.tup [v, v])) l2 (.lst [.ref a, .ref l1])) (D :: ps)) y (spR few i r) → OkS T (D :: ps) p (upd (upd (upd (upd H' e (.tup [.int i, .ref a])) l1 (.tup [v, v])) l2 (.lst [.ref a, .ref l1])) D (.lst (ys ++ [y]))) ∧ Gr p H (upd (upd (upd (upd H' e (.tup [.int i, .ref a])) l1 (.tup [v, v])) l2 (.lst [.ref a, .ref l1])) D (.lst (ys ++ [y]))) ∧ ∃ zs, (upd (upd (upd (upd H' e (.tup [.int i, .ref a])) l1 (.tup [v, v])) l2 (.lst [.ref a, .ref l1])) D (.lst (ys ++ [y]))) D = some (.lst zs) ∧ RwsV (nt (upd (upd (upd (upd H' e (.tup [.int i, .ref a])) l1 (.tup [v, v])) l2 (.lst [.ref a, .ref l1])) D (.lst (ys ++ [y]))) (D :: ps)) zs ((rs.mapIdx (spR few)).take (i + 1)) := fun y hy => by
      refine ⟨ok3.upd (x13 _ _ eD) nDp, (gr.trans (x13.gr p)).upd hD, _, upd_same, ?_⟩
      rw [nt_upd (List.mem_cons_self ..), take_snoc em]
      exact (al.tk tk3).snoc hy
    refine .inr ⟨_, rfl, ?_⟩
    by_cases c : (i : Int) ∈ few
    · rw [decide_eq_true c]
      have es : spR few i r = (r.2, r.2) := if_pos c
      refine ⟨l2, _, _, .ref l1, rfl, rfl, SqL.of upd_same, rfl, D, ys, _, rfl, rfl, x13 _ _ eD, ly, ⟨_, _, rfl⟩, fin _ ?_⟩
      rw [es]
      exact ⟨l1, v, v, rfl, ok3.tup (x3 _ _ upd_same), ov.tk tk3, ov.tk tk3⟩
    · rw [decide_eq_false c]
      have es : spR few i r = r := if_neg c
      refine ⟨l2, _, _, .ref a, rfl, rfl, SqL.of upd_same, rfl, D, ys, _, rfl, rfl, x13 _ _ eD, ly, ⟨_, _, rfl⟩, fin _ ?_⟩
      rw [es]
      exact ⟨a, u, v, rfl, tk3 _ _ ha, ou.tk tk3, ov.tk tk3⟩
  · rintro σ H' ⟨⟨o3, o4, rfl⟩, ok', gr, ys, eD, al⟩
    rw [List.take_of_length_le (by rw [List.length_mapIdx, hrs.1]; exact Nat.le_refl _)] at al
    have ok2 := ok'.drop ok.mem
    exact ⟨_, rfl, q D ys H' ok2 gr (ok2.lst (ok.new hD) eD) (al.tk nt_drop.tk)⟩
end
end My
set_option Elab.async false
set_option linter.all false
set_option maxRecDepth 100000
set_option maxHeartbeats 1000000
namespace My
open PySem PySem.W L2
section
variable {P : Program} {w : World} {K : Frag} {mg : Str → Option Value} {base : Heap} {T : Tbs}
abbrev sBW : Stmt := top 18
abbrev NBW : List Str := ["_law_state", "_law_listing_here", "_law_way", "_law_row", "_law_shift", "_law_found", "_law_handed"]
def Std (n : Nat) (G : Hp) (a : Addr) : Prop := ∃ f l xs rs, G a = some (.lst [.ref f, .ref l]) ∧ G l = some (.lst xs) ∧ RwsV G xs rs ∧ rs.length ≤ 20 ∧ Wd n G f rs
theorem Std.ext {n : Nat} {G G' : Hp} {a : Addr} (h : Std n G a) (x : Ext G G') : Std n G' a := by
  obtain ⟨f, l, xs, rs, h1, h2, h3, h4, h5⟩ := h
  exact ⟨f, l, xs, rs, x _ _ h1, x _ _ h2, h3.tk x.tk, h4, h5.ext x⟩
def spBW (T : Tbs) : Sp := fun vs H Q _ => ∃ ps p, vs = [.ref p] ∧ OkS T ps p H ∧ ∀ a H', OkS T ps p H' → Gr p H H' → Std 0 (nt H' ps) a → Q (.ref a) H'
theorem scBW : FnScope NBW ["_law_state"] (defScope sBW) := ⟨rfl, rfl, rfl, by decide +kernel, rfl, by decide +kernel, by decide +kernel⟩
abbrev scBC1 : Scope := { kind := .function, names := [(".0", .local), ("_law_pair", .local)], isGenerator := false, isCoroutine := false }
abbrev scBC2 : Scope := { kind := .function, names := [(".0", .local), ("_law_pair", .local), ("_law_shift", .free)], isGenerator := false, isCoroutine := false }
variable {f : Addr} {cdv : Value} {A : Around} {outer : List Env} {s : Shared} {H : Hp} {E : XK}
theorem compB1 : CompG (cxOf CX0 P w K mg base NBW "_law_begun_world" (defScope sBW) f cdv A outer s H E).nox scBC1 [] ["_law_pair"] [] [] :=
  compG0 (L := [(".0", .local), ("_law_pair", .local)]) rfl rfl (by decide +kernel) (by decide +kernel) (by decide +kernel) rfl (by decide +kernel) (by decide +kernel)
theorem compB2 : CompG (cxOf CX0 P w K mg base NBW "_law_begun_world" (defScope sBW) f cdv A outer s H E).nox scBC2 [("_law_shift", s.heap.objs.size + 1)] ["_law_pair"] ["_law_shift"] [4] :=
  compG1 (L := [(".0", .local), ("_law_pair", .local), ("_law_shift", .cell)]) rfl rfl (by decide +kernel) (by decide +kernel) (by decide +kernel) rfl rfl (by decide +kernel) (by decide +kernel) rfl (.inr (.inl rfl)) (by show (defScope sBW).names.lookup ("_law_shift" : Str) ≠ some NameKind.local; decide +kernel) (.inl rfl)
theorem ndB1 : ((["_law_pair"] : List Str) ++ ([] : List Str)).Nodup := by decide +kernel
theorem ndB2 : ((["_law_pair"] : List Str) ++ (["_law_shift"] : List Str)).Nodup := by decide +kernel
abbrev tP1 (K : Frag) : TE := tOp (rIxT K) (tVar 0) (tC (.int 1))
def tB1E (K : Frag) : TE := tP1 K
def tB2E (K : Frag) : TE := tTup (tCons (tTup (tCons (tOp (rI0 fun i j => .int (i + j)) (tOp (rIxT K) (tP1 K) (tC (.int 0))) (tVar 1)) (tCons (tOp (rIxT K) (tP1 K) (tC (.int 1))) tNil))) (tCons (tP1 K) tNil))
theorem ok_BW {a1 a2 a3 a4 a5 : Addr} {fd d1 d2 d3 d4 d5 : FuncData} (F : Fun K "_law_begun_world" "_law_begun_world" sBW f fd) (A1 : Df P w K mg base CX0 4 "_law_listing" ["_law_state"] (spLi T) a1 d1) (A2 : Df P w K mg base CX0 2 "_law_pull" ["_law_state", "_law_many"] (spPull T) a2 d2)
    (A3 : Df P w K mg base CX0 2 "shifted_world" ["outcomes", "shift"] (spSH T) a3 d3) (A4 : Df P w K mg base CX0 1 "world_of" ["listing"] (spWO T) a4 d4) (A5 : Df P w K mg base CX0 1 "_law_own" ["_law_listing_here"] (spOW T) a5 d5) (ml : mg "list" = none) : FnOk P w K mg base CX0 5 f fd ["_law_state"] (spBW T) := by
  refine F.ok scBW (fun vs H Q E h => ?_) (fun cdv A outer s H vs Q E hr h => ?_)
  · obtain ⟨_, _, rfl, _⟩ := h
    rfl
  obtain ⟨ps, p, rfl, ok, q⟩ := h
  have nd := scBW.nd
  have hr2 := hr.mono (show 2 ≤ 4 by decide)
  have hr1 := hr.mono (show 1 ≤ 4 by decide)
  refine ⟨_, pss_cons (ps_set (i := 1) nd rfl (Or.inl rfl) (pe_call A1.G hr rfl A1.m A1.kp A1.b .nil pass0 (pa_cons (pv 0) pa_nil)))
    (pss_cons (ps_set (i := 2) nd rfl (Or.inl rfl) (pe_call A2.G hr2 rfl A2.m A2.kp A2.b .nil pass0 (pa_cons (pv 0) (pa_cons pe_int pa_nil))))
    (pss_cons (ps_if (pt_cmpR op_eq (pv 2) pe_int (nomark _))
      (pss_cons (ps_lcG (iy := 3) (te := tB1E K) (g := gName 0) rfl compB1 (pi_list (pv 1)) (fun s H C fp => by exact pg_name (i := 0) ndB1 rfl (.inl rfl)) (fun s H C fp => by exact pe_ix ix_tup (pv 0) pe_int (fun _ _ => rfl)) nd rfl (Or.inl rfl) rfl)
      (pss_cons (ps_set (i := 4) nd rfl (Or.inr rfl) (pe_op op_sub (pe_call A2.G hr2 rfl A2.m A2.kp A2.b .nil pass0 (pa_cons (pv 0) (pa_cons pe_int pa_nil))) pe_int))
      (pss_cons (ps_set (i := 5) nd rfl (Or.inl rfl) (pe_call A3.G hr2 rfl A3.m A3.kp A3.b .nil pass0 (pa_cons (pv 3) (pa_cons (pv 4) pa_nil))))
      (pss_cons (ps_expr (pe_bm PySem.F.plainAttrs_list PySem.F.slot_list_append PySem.F.type_list_append mt_append (pv 3) (pa_cons (pe_tup (pa_cons pe_int (pa_cons pe_bl pa_nil))) pa_nil)))
      (pss_one (ps_ret (pe_lst (pa_cons (pv 5) (pa_cons (pe_lcG (te := tB2E K) (g := gName 0) rfl compB2 (pi_list (pv 1)) (fun s H C fp => by exact pg_name (i := 0) ndB2 rfl (.inl rfl)) (fun s H C fp => by exact pe_tup (pa_cons (pe_tup (pa_cons (pe_op op_add (pe_ix ix_tup (pe_ix ix_tup (pv 0) pe_int (fun _ _ => rfl)) pe_int (fun _ _ => rfl)) (pv 1)) (pa_cons (pe_ix ix_tup (pe_ix ix_tup (pv 0) pe_int (fun _ _ => rfl)) pe_int (fun _ _ => rfl)) pa_nil))) (pa_cons (pe_ix ix_tup (pv 0) pe_int (fun _ _ => rfl)) pa_nil)))) pa_nil))))))))) pss_nil)
    (pss_cons (ps_if (pt_cmpR op_eq (pv 2) pe_int (nomark _))
      (pss_cons (ps_set (i := 6) nd rfl (Or.inl rfl) (pe_callTy call_list_of rfl ml PyProof.Rows.boot_list (pa_cons (pv 1) pa_nil)))
      (pss_cons (ps_set (i := 5) nd rfl (Or.inl rfl) (pe_call A4.G hr1 rfl A4.m A4.kp A4.b .nil pass0 (pa_cons (pv 6) pa_nil)))
      (pss_cons (ps_expr (pe_bm PySem.F.plainAttrs_list PySem.F.slot_list_append PySem.F.type_list_append mt_append (pv 6) (pa_cons (pe_tup (pa_cons (pe_tup (pa_cons pe_int (pa_cons pe_bl pa_nil))) (pa_cons (pe_tup (pa_cons pe_int (pa_cons pe_bl pa_nil))) pa_nil))) pa_nil)))
      (pss_cons (ps_asg (pe_tup (pa_cons (pe_tup (pa_cons pe_int (pa_cons pe_bl pa_nil))) (pa_cons (pe_tup (pa_cons pe_int (pa_cons pe_bl pa_nil))) pa_nil))) (pg_sub (pv 6) pe_int set_list))
      (pss_one (ps_ret (pe_lst (pa_cons (pv 5) (pa_cons (pv 1) pa_nil))))))))) pss_nil)
    (pss_one (ps_ret (pe_lst (pa_cons (pe_call A5.G hr1 rfl A5.m A5.kp A5.b .nil pass0 (pa_cons (pv 1) pa_nil)) (pa_cons (pv 1) pa_nil)))))))), ?_⟩
  refine ⟨_, rfl, ps, p, rfl, ok, fun l xs rs H1 ok1 g1 hl hrs lr => ?_⟩
  refine ⟨_, rfl, ps, p, 3, rfl, ok1, by decide, by decide, fun r2 H2 r20 r21 ok2 k2 => ?_⟩
  have g2 := g1.trans k2.gr
  have x12 := k2.gr.nt ok1.mem
  have hl2 := x12 _ _ hl
  have hrs2 := hrs.tk x12.tk
  have lx : xs.length ≤ 20 := by rw [hrs.1]; exact lr
  obtain ⟨nl, el, _⟩ := nt_of hl2
  have new : ∀ {H' : Hp} {b : Addr}, OkS T ps p H' → H' b = none → b ≠ p := fun {H' b} o e z => by obtain ⟨_, _, _, e', _⟩ := o.bx.ex; rw [← z, e] at e'; cases e'
  refine ⟨_, rfl, rfl, _, rfl, ?_⟩
  refine ite2 (fun c => ?_) (fun c => ?_)
  ·
    refine ⟨_, rfl, l, rfl, ⟨xs, SqL.of el⟩, fun D hD => lcW_list Prod.snd tkk_rw tkk_oc ok2 hD hl2 hrs2 (Nat.lt_of_le_of_lt lx (by decide)) (fun i x r H' ex er ok' rx os los Rk q' => ?_) (fun ys H3 ok3 g3 eD al => ?_)⟩
    · obtain ⟨o0, rfl⟩ : ∃ o0, os = [o0] := by
        match os, los with
        | [o0], _ => exact ⟨o0, rfl⟩
      obtain ⟨a, u, v, rfl, ha, ou, ov⟩ := rx
      exact ⟨⟨[some (.ref a)], rfl, rfl⟩, _, rfl, a, _, _, _, rfl, rfl, SqT.of (nt_of ha).2.1, rfl, q' _ _ ok' (Gr.refl p _) ov⟩
    refine ⟨_, rfl, ps, p, 401, rfl, ok3, by decide, by decide, fun r4 H4 r40 r41 ok4 k4 => ⟨_, _, rfl, rfl, ?_⟩⟩
    have nDp := new ok2 hD
    have nD := ok2.new hD
    have eD4 := k4 _ _ eD nDp
    have al4 := al.tk tkk_oc (nt_drop.tk)
    have al4 := al4.tk tkk_oc (k4.gr.nt ok3.mem).tk
    refine ⟨_, rfl, _, rfl, ps, p, D, ys, _, r4 - 200, rfl, ok4, ok4.lst nD eD4, al4, (by have := al4.1; rw [List.length_map] at this; omega), fun f5 H5 ok5 g5 w5 => ?_⟩
    have eD5 := g5 _ _ eD4 nDp fun _ z => nomatch z
    have ly : ys.length < sizeLine := Nat.lt_of_le_of_lt (m := 20) (by have := al4.1; rw [List.length_map] at this; omega) (by decide)
    refine ⟨_, rfl, .inl ⟨rfl, _, SqL.of eD5⟩, (by show 2 ≤ sizeLine; decide), fun t6 n6 => ⟨D, ys, _, rfl, rfl, Ext.new n6 _ _ eD5, ly, ?_⟩⟩
    have x6 := Ext.new (o := .tup [.int 5, .bl true]) n6
    have ok6 := (ok5.ext x6).upd (ys := ys ++ [.ref t6]) (x6 _ _ eD5) nDp
    have g27 : Gr p H2 (upd (upd H5 t6 (.tup [.int 5, .bl true])) D (.lst (ys ++ [.ref t6]))) := (g3.trans (k4.gr.trans (g5.trans (x6.gr p)))).upd hD
    have w6 : W0C (nt (upd (upd H5 t6 (.tup [.int 5, .bl true])) D (.lst (ys ++ [.ref t6]))) ps) f5 _ := (w5.nl (NL.nt x6.nl)).nl (NL.nt (nl_upd (x6 _ _ eD5)))
    generalize upd (upd H5 t6 (.tup [.int 5, .bl true])) D (.lst (ys ++ [.ref t6])) = H7 at ok6 g27 w6 ⊢
    have x27 := g27.nt ok2.mem
    have hl7 := x27 _ _ hl2
    refine ⟨_, rfl, _, rfl, l, rfl, ⟨xs, SqL.of (nt_of hl7).2.1⟩, fun D2 hD2 => lcW_list (fun r : Rw => shR (r4 - 200) r.2) tkk_rw tkk_rw ok6 hD2 hl7 (hrs2.tk x27.tk) (Nat.lt_of_le_of_lt lx (by decide)) (fun i x r H' ex er ok' rx os los Rk q' => ?_) (fun zs H8 ok8 g8 eD8 al8 => ?_)⟩
    · obtain ⟨o0, rfl⟩ : ∃ o0, os = [o0] := by
        match os, los with
        | [o0], _ => exact ⟨o0, rfl⟩
      obtain ⟨a, u, v, rfl, ha, ou, ov⟩ := rx
      obtain ⟨b, rfl, hb⟩ := id ov
      have ha' := SqT.of (K := K) (nt_of ha).2.1
      have hb' := SqT.of (K := K) (nt_of hb).2.1
      refine ⟨⟨[some (.ref a)], rfl, rfl⟩, _, rfl, a, _, _, _, rfl, rfl, ha', rfl, b, _, _, _, rfl, rfl, hb', rfl, _, rfl, _, _, rfl, rfl, _, rfl, a, _, _, _, rfl, rfl, ha', rfl, b, _, _, _, rfl, rfl, hb', rfl, (by show 2 ≤ sizeLine; decide), fun l1 n1 => ?_⟩
      have y1 := Ext.new (o := .tup [.int (r.2.1 + (r4 - 200)), .bl r.2.2]) n1
      refine ⟨_, rfl, a, _, _, _, rfl, rfl, My.SqT.ext ha' y1, rfl, (by show 2 ≤ sizeLine; decide), fun l2 n2 => ?_⟩
      have y2 := Ext.new (o := .tup [.ref l1, .ref b]) n2
      have ok9 := ok'.ext (y1.trans y2)
      exact q' _ _ ok9 ((y1.trans y2).gr p) ⟨l2, _, _, rfl, ok9.tup upd_same, ⟨l1, rfl, ok9.tup (y2 _ _ upd_same)⟩, ov.tk (((y1.trans y2).gr p).nt ok'.mem).tk⟩
    refine ⟨(by show 2 ≤ sizeLine; decide), fun a9 n9 => ?_⟩
    have x9 := Ext.new (o := .lst [.ref f5, .ref D2]) n9
    have ok9 := ok8.ext x9
    have x89 := (x9.gr p).nt ok8.mem
    refine q a9 _ ok9 (g2.trans (g27.trans (g8.trans (x9.gr p)))) ⟨f5, D2, zs, _, ok9.lst (ok8.new n9) upd_same, x89 _ _ (ok8.lst (ok6.new hD2) eD8), (al8.tk tkk_rw nt_drop.tk).tk tkk_rw x89.tk, by rw [List.length_map]; exact lr, ?_⟩
    have ew : (rs.map Prod.snd).map (shR (r4 - 200)) = rs.map (fun r : Rw => shR (r4 - 200) r.2) := by rw [List.map_map]; rfl
    rw [← ew]
    exact (w6.wd.ext (g8.nt ok6.mem)).ext x89
  · refine ⟨_, rfl, rfl, _, rfl, ?_⟩
    refine ite2 (fun c' => ?_) (fun c' => ?_)
    ·
      refine ⟨_, rfl, l, xs, rfl, .inl (SqL.of el), fun D hD => ?_⟩
      have x3 := Ext.new (o := .lst xs) hD
      have ok3 := ok2.ext x3
      have nDp := new ok2 hD
      refine ⟨_, rfl, ps, p, D, xs, rs, rfl, ok3, upd_same, hrs2.tk (((x3.gr p).nt ok2.mem).tk), fun f5 H5 ok5 g5 w5 => ?_⟩
      have eD5 := g5 _ _ (upd_same (H := H2) (a := D) (o := .lst xs)) nDp fun _ z => nomatch z
      have lxs : xs.length < sizeLine := Nat.lt_of_le_of_lt lx (by decide)
      refine ⟨_, rfl, .inl ⟨rfl, _, SqL.of eD5⟩, (by show 2 ≤ sizeLine; decide), fun t1 n1 => ⟨(by show 2 ≤ sizeLine; decide), fun t2 n2 => ⟨(by show 2 ≤ sizeLine; decide), fun t3 n3 => ?_⟩⟩⟩
      have y1 := Ext.new (o := .tup [.int 1, .bl true]) n1
      have y2 := Ext.new (o := .tup [.int 2, .bl true]) n2
      have y3 := Ext.new (o := .tup [.ref t1, .ref t2]) n3
      have y := y1.trans (y2.trans y3)
      refine ⟨D, xs, _, rfl, rfl, y _ _ eD5, lxs, ?_⟩
      have ok6 := (ok5.ext y).upd (ys := xs ++ [.ref t3]) (y _ _ eD5) nDp
      have gA := (x3.gr p).trans (g5.trans (y.gr p))
      have g6 := gA.upd (u := .lst (xs ++ [.ref t3])) hD
      have w6 := (w5.nl (NL.nt y.nl)).nl (NL.nt (ps := ps) (nl_upd (ys := xs ++ [.ref t3]) (y _ _ eD5)))
      have e6 : upd (upd (upd (upd H5 t1 (.tup [.int 1, .bl true])) t2 (.tup [.int 2, .bl true])) t3 (.tup [.ref t1, .ref t2])) D (.lst (xs ++ [.ref t3])) D = some (.lst (xs ++ [.ref t3])) := upd_same
      generalize upd (upd (upd (upd H5 t1 (.tup [.int 1, .bl true])) t2 (.tup [.int 2, .bl true])) t3 (.tup [.ref t1, .ref t2])) D (.lst (xs ++ [.ref t3])) = H6 at ok6 g6 w6 e6 ⊢
      refine ⟨(by show 2 ≤ sizeLine; decide), fun t4 n4 => ⟨(by show 2 ≤ sizeLine; decide), fun t5 n5 => ⟨(by show 2 ≤ sizeLine; decide), fun t7 n7 => ?_⟩⟩⟩
      have z1 := Ext.new (o := .tup [.int 3, .bl true]) n4
      have z2 := Ext.new (o := .tup [.int 4, .bl true]) n5
      have z3 := Ext.new (o := .tup [.ref t4, .ref t5]) n7
      have z := z1.trans (z2.trans z3)
      refine ⟨_, rfl, D, _, 0, 0, rfl, rfl, z _ _ e6, ?_, ?_⟩
      · unfold ixN
        rw [if_pos (by decide), if_pos (by rw [List.length_append]; simp only [List.length_cons, List.length_nil]; omega)]
        rfl
      have ok8 := (ok6.ext z).upd (ys := (xs ++ [V.ref t3]).set 0 (V.ref t7)) (z _ _ e6) nDp
      have g8 := (g6.trans (z.gr p)).upd (u := .lst ((xs ++ [V.ref t3]).set 0 (V.ref t7))) hD
      have w8 := (w6.nl (NL.nt z.nl)).nl (NL.nt (ps := ps) (nl_upd (ys := (xs ++ [V.ref t3]).set 0 (V.ref t7)) (z _ _ e6)))
      generalize upd (upd (upd (upd H6 t4 (.tup [.int 3, .bl true])) t5 (.tup [.int 4, .bl true])) t7 (.tup [.ref t4, .ref t5])) D (.lst ((xs ++ [V.ref t3]).set 0 (V.ref t7))) = H8 at ok8 g8 w8 ⊢
      refine ⟨_, rfl, _, rfl, (by show 2 ≤ sizeLine; decide), fun a9 n9 => ?_⟩
      have x9 := Ext.new (o := .lst [.ref f5, .ref l]) n9
      have ok9 := ok8.ext x9
      have x29 := (g8.trans (x9.gr p)).nt ok2.mem
      exact q a9 _ ok9 (g2.trans (g8.trans (x9.gr p))) ⟨f5, l, xs, rs, ok9.lst (ok8.new n9) upd_same, x29 _ _ hl2, hrs2.tk x29.tk, lr, w8.wd.ext ((x9.gr p).nt ok8.mem)⟩
    ·
      refine ⟨_, rfl, ps, p, l, xs, rs, rfl, ok2, hl2, hrs2, fun f5 H5 ok5 g5 w5 => ⟨_, rfl, (by show 2 ≤ sizeLine; decide), fun a9 n9 => ?_⟩⟩
      have x9 := Ext.new (o := .lst [.ref f5, .ref l]) n9
      have ok9 := ok5.ext x9
      have x29 := (g5.trans (x9.gr p)).nt ok2.mem
      exact q a9 _ ok9 (g2.trans (g5.trans (x9.gr p))) ⟨f5, l, xs, rs, ok9.lst (ok5.new n9) upd_same, x29 _ _ hl2, hrs2.tk x29.tk, lr, w5.ext ((x9.gr p).nt ok5.mem)⟩
end
end My
set_option Elab.async false
set_option linter.all false
set_option maxRecDepth 100000
set_option maxHeartbeats 1000000
namespace My
open PySem PySem.W L2
theorem cut_upto (xs : List V) (k : Nat) : cutV xs none (some (k : Int)) = xs.take k := by
  unfold cutV
  rw [HT.sIx_nat, HT.sIx_none]
  simp
theorem spR_dup (few : List Int) : spR (few ++ few.take 1) = spR few := by
  funext k r
  unfold spR
  have : ((k : Int) ∈ few ++ few.take 1) ↔ ((k : Int) ∈ few) := by
    rw [List.mem_append]
    exact ⟨fun h => h.elim id List.mem_of_mem_take, .inl⟩
  by_cases c : (k : Int) ∈ few
  · rw [if_pos c, if_pos (this.mpr c)]
  · rw [if_neg c, if_neg (fun z => c (this.mp z))]
section
variable {P : Program} {w : World} {K : Frag} {mg : Str → Option Value} {base : Heap} {T : Tbs}
abbrev sTO : Stmt := top 19
abbrev NTO : List Str := ["_law_state", "_law_world", "_law_listing_here", "_law_few", "_law_handed", "_law_found"]
def spTO (T : Tbs) : Sp := fun vs H Q _ => ∃ ps p n f l xs rs, vs = [.ref p, .ref f, .ref l] ∧ OkS T ps p H ∧ nt H ps l = some (.lst xs) ∧ RwsV (nt H ps) xs rs ∧ rs.length ≤ 20 ∧ Wd n (nt H ps) f rs ∧ ∀ a H', OkS T ps p H' → Gr p H H' → Std (n + 1) (nt H' ps) a → Q (.ref a) H'
theorem scTO : FnScope NTO ["_law_state", "_law_world", "_law_listing_here"] (defScope sTO) := ⟨rfl, rfl, rfl, by decide +kernel, rfl, by decide +kernel, by decide +kernel⟩
abbrev scTC1 : Scope := { kind := .function, names := [(".0", .local), ("_law_row", .local)], isGenerator := false, isCoroutine := false }
abbrev scTC2 : Scope := { kind := .function, names := [(".0", .local), ("_law_k", .local), ("_law_pull", .globalImplicit), ("_law_state", .free)], isGenerator := false, isCoroutine := false }
variable {f : Addr} {cdv : Value} {A : Around} {outer : List Env} {s : Shared} {H : Hp} {E : XK}
theorem compT1 : CompG (cxOf CX0 P w K mg base NTO "_law_turned_on" (defScope sTO) f cdv A outer s H E).nox scTC1 [] ["_law_row"] [] [] :=
  compG0 (L := [(".0", .local), ("_law_row", .local)]) rfl rfl (by decide +kernel) (by decide +kernel) (by decide +kernel) rfl (by decide +kernel) (by decide +kernel)
theorem compT2 : CompG (cxOf CX0 P w K mg base NTO "_law_turned_on" (defScope sTO) f cdv A outer s H E).nox scTC2 [("_law_state", s.heap.objs.size + 1)] ["_law_k"] ["_law_state"] [0] :=
  compG1 (L := [(".0", .local), ("_law_k", .local), ("_law_pull", .globalImplicit), ("_law_state", .cell)]) rfl rfl (by decide +kernel) (by decide +kernel) (by decide +kernel) rfl rfl (by decide +kernel) (by decide +kernel) rfl (.inr (.inl rfl)) (by show (defScope sTO).names.lookup ("_law_state" : Str) ≠ some NameKind.local; decide +kernel) (.inl rfl)
theorem ndT1 : ((["_law_row"] : List Str) ++ ([] : List Str)).Nodup := by decide +kernel
theorem ndT2 : ((["_law_k"] : List Str) ++ (["_law_state"] : List Str)).Nodup := by decide +kernel
def tT1E (K : Frag) : TE := tTup (tCons (tOp (rIxT K) (tVar 0) (tC (.int 1))) (tCons (tOp (rIxT K) (tVar 0) (tC (.int 0))) tNil))
def tT2E (T : Tbs) : TE := tCall (spPull T) [] E0 (tCons (tVar 1) (tCons (tC (.int 22)) tNil))
theorem ok_TO {a1 a2 a3 a4 : Addr} {fd d1 d2 d3 d4 : FuncData} (F : Fun K "_law_turned_on" "_law_turned_on" sTO f fd) (A1 : Df P w K mg base CX0 2 "_law_pull" ["_law_state", "_law_many"] (spPull T) a1 d1) (A2 : Df P w K mg base CX0 1 "turned_world" ["world"] (spTU T) a2 d2)
    (A3 : Df P w K mg base CX0 1 "spared_world" ["world", "few"] (spSW T) a3 d3) (A4 : Df P w K mg base CX0 1 "_law_spared" ["_law_listing_here", "_law_few"] (spSd T) a4 d4) (mr : mg "range" = none) : FnOk P w K mg base CX0 3 f fd ["_law_state", "_law_world", "_law_listing_here"] (spTO T) := by
  refine F.ok scTO (fun vs H Q E h => ?_) (fun cdv A outer s H vs Q E hr h => ?_)
  · obtain ⟨_, _, _, _, _, _, _, rfl, _⟩ := h
    rfl
  obtain ⟨ps, p, n, fw, l, xs, rs, rfl, ok, hl, hrs, lr, wd, q⟩ := h
  have nd := scTO.nd
  have hr1 := hr.mono (show 1 ≤ 2 by decide)
  refine ⟨_, pss_cons (ps_if (pt_cmpR op_eq (pe_call A1.G hr rfl A1.m A1.kp A1.b .nil pass0 (pa_cons (pv 0) (pa_cons pe_int pa_nil))) pe_int (nomark _))
      (pss_one (ps_ret (pe_lst (pa_cons (pe_call A2.G hr1 rfl A2.m A2.kp A2.b .nil pass0 (pa_cons (pv 1) pa_nil)) (pa_cons (pe_lcG (te := tT1E K) (g := gName 0) rfl compT1 (pi_list (pv 2)) (fun s H C fp => by exact pg_name (i := 0) ndT1 rfl (.inl rfl)) (fun s H C fp => by exact pe_tup (pa_cons (pe_ix ix_tup (pv 0) pe_int (fun _ _ => rfl)) (pa_cons (pe_ix ix_tup (pv 0) pe_int (fun _ _ => rfl)) pa_nil)))) pa_nil))))) pss_nil)
    (pss_cons (ps_lcG (iy := 3) (te := tT2E T) (g := gName 0) rfl compT2 (pi_range1 rfl mr (pa_cons (pe_call A1.G hr rfl A1.m A1.kp A1.b .nil pass0 (pa_cons (pv 0) (pa_cons pe_int pa_nil))) pa_nil)) (fun s H C fp => by exact pg_name (i := 0) ndT2 rfl (.inl rfl)) (fun s H C fp => by exact pe_call A1.G hr rfl A1.m A1.kp A1.b .nil pass0 (pa_cons (pv 1) (pa_cons pe_int pa_nil))) nd rfl (Or.inl rfl) rfl)
    (pss_cons (ps_set (i := 4) nd rfl (Or.inl rfl) (pe_op op_cat (pv 3) (pe_slice sl_list (pv 3) po_none (po_some pe_int))))
    (pss_cons (ps_set (i := 5) nd rfl (Or.inl rfl) (pe_call A3.G hr1 rfl A3.m A3.kp A3.b .nil pass0 (pa_cons (pv 1) (pa_cons (pv 4) pa_nil))))
    (pss_cons (ps_expr (pe_bm PySem.F.plainAttrs_list PySem.F.slot_list_append PySem.F.type_list_append mt_append (pv 4) (pa_cons pe_int pa_nil)))
    (pss_cons (ps_expr (pe_bm PySem.F.plainAttrs_list PySem.F.slot_list_append PySem.F.type_list_append mt_append (pv 4) (pa_cons pe_int pa_nil)))
    (pss_one (ps_ret (pe_lst (pa_cons (pv 5) (pa_cons (pe_call A4.G hr1 rfl A4.m A4.kp A4.b .nil pass0 (pa_cons (pv 2) (pa_cons (pv 3) pa_nil))) pa_nil)))))))))), ?_⟩
  have lx : xs.length ≤ 20 := by rw [hrs.1]; exact lr
  have new : ∀ {H' : Hp} {b : Addr}, OkS T ps p H' → H' b = none → b ≠ p := fun {H' b} o e z => by obtain ⟨_, _, _, e', _⟩ := o.bx.ex; rw [← z, e] at e'; cases e'
  refine ⟨_, rfl, ps, p, 2, rfl, ok, by decide, by decide, fun r1 H1 r10 r11 ok1 k1 => ⟨rfl, _, rfl, ?_⟩⟩
  have x01 := k1.gr.nt ok.mem
  have hl1 := x01 _ _ hl
  have hrs1 := hrs.tk x01.tk
  have wd1 := wd.ext x01
  refine ite2 (fun c => ?_) (fun c => ?_)
  ·
    refine ⟨_, rfl, ps, p, n, fw, rs, rfl, ok1, wd1, fun f2 H2 ok2 g2 w2 => ?_⟩
    have x12 := g2.nt ok1.mem
    have hl2 := x12 _ _ hl1
    refine ⟨_, rfl, l, rfl, ⟨xs, SqL.of (nt_of hl2).2.1⟩, fun D hD => lcW_list swR tkk_rw tkk_rw ok2 hD hl2 (hrs1.tk x12.tk) (Nat.lt_of_le_of_lt lx (by decide)) (fun i x r H' ex er ok' rx os los Rk q' => ?_) (fun ys H3 ok3 g3 eD al => ?_)⟩
    · obtain ⟨o0, rfl⟩ : ∃ o0, os = [o0] := by
        match os, los with
        | [o0], _ => exact ⟨o0, rfl⟩
      obtain ⟨a, u, v, rfl, ha, ou, ov⟩ := rx
      have ha' := SqT.of (K := K) (nt_of ha).2.1
      refine ⟨⟨[some (.ref a)], rfl, rfl⟩, _, rfl, a, _, _, _, rfl, rfl, ha', rfl, _, rfl, a, _, _, _, rfl, rfl, ha', rfl, (by show 2 ≤ sizeLine; decide), fun l1 n1 => ?_⟩
      have y1 := Ext.new (o := .tup [v, u]) n1
      have ok9 := ok'.ext y1
      have e9 := ((y1.gr p).nt ok'.mem).tk
      exact q' _ _ ok9 (y1.gr p) ⟨l1, v, u, rfl, ok9.tup upd_same, ov.tk e9, ou.tk e9⟩
    refine ⟨(by show 2 ≤ sizeLine; decide), fun a9 n9 => ?_⟩
    have x9 := Ext.new (o := .lst [.ref f2, .ref D]) n9
    have ok9 := ok3.ext x9
    have x39 := (x9.gr p).nt ok3.mem
    exact q a9 _ ok9 (k1.gr.trans (g2.trans (g3.trans (x9.gr p)))) ⟨f2, D, ys, _, ok9.lst (ok3.new n9) upd_same, x39 _ _ (ok3.lst (ok2.new hD) eD), (al.tk tkk_rw nt_drop.tk).tk tkk_rw x39.tk, by rw [List.length_map]; exact lr, (w2.ext (g3.nt ok2.mem)).ext x39⟩
  ·
    refine ⟨_, rfl, ps, p, 6, rfl, ok1, by decide, by decide, fun r2 H2 r20 r21 ok2 k2 => ⟨r2, rfl, by omega, by omega, fun D hD => lcW_range tkk_in ok2 hD (Nat.lt_of_lt_of_le (m := 21) (by omega) (by decide)) (fun i H' hi ok' os los Rk q' => ?_) (fun ys few H3 ok3 g3 eD lf al => ?_)⟩⟩
    · obtain ⟨o0, rfl⟩ : ∃ o0, os = [o0] := by
        match os, los with
        | [o0], _ => exact ⟨o0, rfl⟩
      exact ⟨⟨[some (.int (0 + i))], rfl, rfl⟩, _, rfl, D :: ps, p, 22, rfl, ok', by decide, by decide, fun r H4 r0 r1 ok4 k4 => q' _ r H4 ok4 k4.gr rfl⟩
    have ey := al.ints
    subst ey
    have nD := ok2.new hD
    have lf' : few.length ≤ 5 := by omega
    refine ⟨_, rfl, _, rfl, _, rfl, D, _, rfl, SqL.of eD, fun l4 n4 => ?_⟩
    rw [show cutV (few.map V.int) none (some (1 : Int)) = (few.take 1).map V.int from (cut_upto _ 1).trans (by rw [List.map_take])]
    have x4 := Ext.new (o := .lst ((few.take 1).map V.int)) n4
    refine ⟨D, l4, _, _, rfl, rfl, x4 _ _ eD, upd_same, Nat.le_trans (m := 60) (by rw [List.length_map, List.length_map, List.length_take]; omega) (by decide), fun hd n5 => ?_⟩
    rw [← List.map_append]
    have x5 := Ext.new (o := .lst ((few ++ few.take 1).map V.int)) n5
    have x45 := x4.trans x5
    have ok5 := ok3.ext x45
    have nhp : hd ≠ p := new (ok3.ext x4) n5
    have nhd : H3 hd = none := by
      cases e : H3 hd with
      | none => rfl
      | some o => have := x4 _ _ e; rw [n5] at this; cases this
    have e5 : upd (upd H3 l4 (.lst ((few.take 1).map V.int))) hd (.lst ((few ++ few.take 1).map V.int)) hd = some (.lst ((few ++ few.take 1).map V.int)) := upd_same
    generalize upd (upd H3 l4 (.lst ((few.take 1).map V.int))) hd (.lst ((few ++ few.take 1).map V.int)) = H5 at x45 ok5 e5 ⊢
    have g35 : Gr p H3 H5 := x45.gr p
    refine ⟨_, rfl, _, rfl, ps, p, fw, hd, few ++ few.take 1, rfl, ok5, e5, fun f6 cl t H6 ok6 g6 clo ht fr => ?_⟩
    have e6 := g6 _ _ e5 nhp fun _ z => nomatch z
    have lz : ((few ++ few.take 1).map V.int).length < sizeLine := Nat.lt_of_le_of_lt (m := 60) (by rw [List.length_map, List.length_append, List.length_take]; omega) (by decide)
    refine ⟨_, rfl, .inl ⟨rfl, _, SqL.of e6⟩, hd, _, _, rfl, rfl, e6, lz, ?_⟩
    refine ⟨_, rfl, .inl ⟨rfl, _, SqL.of upd_same⟩, hd, _, _, rfl, rfl, upd_same, Nat.lt_of_le_of_lt (m := 60) (by rw [List.length_append, List.length_map, List.length_append, List.length_take]; simp only [List.length_cons, List.length_nil]; omega) (by decide), ?_⟩
    have ok7 := (ok6.upd (ys := (few ++ few.take 1).map V.int ++ [V.int 0]) e6 nhp).upd (ys := (few ++ few.take 1).map V.int ++ [V.int 0] ++ [V.int 1]) upd_same nhp
    have nl7 : NL H6 (upd (upd H6 hd (.lst ((few ++ few.take 1).map V.int ++ [V.int 0]))) hd (.lst ((few ++ few.take 1).map V.int ++ [V.int 0] ++ [V.int 1]))) := fun b o e h1 h2 => nl_upd upd_same _ _ (nl_upd e6 _ _ e h1 h2) h1 h2
    have g37 : Gr p H3 (upd (upd H6 hd (.lst ((few ++ few.take 1).map V.int ++ [V.int 0]))) hd (.lst ((few ++ few.take 1).map V.int ++ [V.int 0] ++ [V.int 1]))) := ((g35.trans g6).upd nhd).upd nhd
    generalize upd (upd H6 hd (.lst ((few ++ few.take 1).map V.int ++ [V.int 0]))) hd (.lst ((few ++ few.take 1).map V.int ++ [V.int 0] ++ [V.int 1])) = H7 at ok7 nl7 g37 ⊢
    have x37 := g37.nt ok3.mem
    have x13 := (k2.gr.trans g3).nt ok1.mem
    have x17 := x13.trans x37
    refine ⟨_, rfl, _, rfl, _, rfl, ps, p, l, D, xs, rs, few, rfl, ok7, x17 _ _ hl1, hrs1.tk x17.tk, x37 _ _ (ok3.lst nD eD), lr, fun l8 zs H8 ok8 g8 hl8 hrs8 => ?_⟩
    refine ⟨(by show 2 ≤ sizeLine; decide), fun a9 n9 => ?_⟩
    have x9 := Ext.new (o := .lst [.ref f6, .ref l8]) n9
    have ok9 := ok8.ext x9
    have x89 := (x9.gr p).nt ok8.mem
    have x79 := (g8.nt ok7.mem).trans x89
    refine q a9 _ ok9 (k1.gr.trans (k2.gr.trans (g3.trans (g37.trans (g8.trans (x9.gr p)))))) ⟨f6, l8, zs, _, ok9.lst (ok8.new n9) upd_same, x89 _ _ hl8, hrs8.tk x89.tk, by rw [List.length_mapIdx]; exact lr, ?_⟩
    rw [← spR_dup few]
    refine ⟨fw, rs, .inr ⟨cl, t, few ++ few.take 1, (clo.nl (NL.nt nl7)).nl x79.nl, x79 _ _ ((NL.nt nl7).tk _ _ ht), (wd1.ext x13).ext (ext_hid (x37.trans x79) fun b hb => ?_), rfl⟩⟩
    cases e : nt H3 ps b with
    | none => rfl
    | some o =>
      obtain ⟨nb, e3, tb⟩ := nt_of e
      have := g35 b o e3 (fun z => nb (by rw [z]; exact ok3.mem)) tb
      rw [fr b hb] at this
      cases this
end
end My
set_option Elab.async false
set_option linter.all false
set_option maxRecDepth 100000
set_option maxHeartbeats 1000000
namespace My
open PySem PySem.W L2
theorem rw_plain (r : Rw) : plainD (rwD r) = true := rfl
theorem rw_depth (r : Rw) : (rwD r).depth ≤ 20 := Nat.le_of_ble_eq_true rfl
section
variable {P : Program} {w : World} {K : Frag} {mg : Str → Option Value} {base : Heap} {T : Tbs}
abbrev sRt : Stmt := top 20
abbrev NRt : List Str := ["_law_state", "_law_world", "_law_listing_here", "_law_turn", "_law_k", "_law_at"]
def spRt (T : Tbs) : Sp := fun vs H Q _ => ∃ ps p n f l xs rs, vs = [.ref p, .ref f, .ref l] ∧ OkS T ps p H ∧ nt H ps l = some (.lst xs) ∧ RwsV (nt H ps) xs rs ∧ rs.length ≤ 20 ∧ Wd n (nt H ps) f rs ∧ n ≤ 4 ∧ ∀ H', OkS T ps p H' → Gr p H H' → Q (.bl true) H'
theorem scRt : FnScope NRt ["_law_state", "_law_world", "_law_listing_here"] (defScope sRt) := ⟨rfl, rfl, rfl, by decide +kernel, rfl, by decide +kernel, by decide +kernel⟩
variable {f : Addr} {cdv : Value} {A : Around} {outer : List Env} {s : Shared} {H : Hp} {E : XK}
theorem ok_Rt {a1 g t : Addr} {fd d1 gd td : FuncData} (N : IsT K) (F : Fun K "_law_right" "_law_right" sRt f fd) (A1 : Df P w K mg base CX0 2 "_law_pull" ["_law_state", "_law_many"] (spPull T) a1 d1) (Z : WK P w K mg base g t gd td) (mr : mg "range" = none) (mi : mg "isinstance" = none) (mt : mg "tuple" = none) : FnOk P w K mg base CX0 8 f fd ["_law_state", "_law_world", "_law_listing_here"] (spRt T) := by
  refine F.ok scRt (fun vs H Q E h => ?_) (fun cdv A outer s H vs Q E hr h => ?_)
  · obtain ⟨_, _, _, _, _, _, _, rfl, _⟩ := h
    rfl
  obtain ⟨ps, p, n, fw, l, xs, rs, rfl, ok, hl, hrs, lr, wd, n4, q⟩ := h
  have nd := scRt.nd
  have hr2 := hr.mono (show 2 ≤ 7 by decide)
  have M := ok_wdN Z
  have hu := hr.units
  have ml := Z.ml
  refine ⟨_, pss_cons (ps_for PassesOwn.never rfl (pi_range1 rfl mr (pa_cons pe_int pa_nil)) (pg_name (i := 3) nd rfl (Or.inl rfl))
      (pss_one (ps_for PassesOwn.never rfl (pi_range1 rfl mr (pa_cons (pe_callB call_len_seq rfl ml PySem.boot_len (pa_cons (pv 2) pa_nil)) pa_nil)) (pg_name (i := 4) nd rfl (Or.inl rfl))
        (pss_cons (ps_set (i := 5) nd rfl (Or.inl rfl) (pe_ix ix_list (pe_lst (pa_cons (pv 4) (pa_cons (pe_op op_sub (pe_op op_sub (pe_callB call_len_seq rfl ml PySem.boot_len (pa_cons (pv 2) pa_nil)) pe_int) (pv 4)) pa_nil))) (pv 3) (fun _ _ => rfl)))
        (pss_one (ps_if (PW.pt (pw_or (pt_cmpR (op_neD hu) (pe_callF (pv 1) M hr (pv 5)) (pe_ix ix_list (pv 2) (pv 5) (fun _ _ => rfl)) (nomark _)) (pw_or1 (pt_not (pt_val (pe_callB (call_isK N) rfl mi PyProof.Rows.boot_isinstance (pa_cons (pe_callF (pv 1) M hr (pv 5)) (pa_cons (pe_ty rfl mt PyProof.Rows.boot_tuple) pa_nil)))))))) (pss_one (ps_ret pe_bl)) pss_nil))))))
    (pss_one (ps_ret (pe_and (pe_cmpR op_isN (pe_callF (pv 1) M hr (pe_callB call_len_seq rfl ml PySem.boot_len (pa_cons (pv 2) pa_nil))) pe_non (nomark _)) (pe_one (pe_cmpR op_isN (pe_callF (pv 1) M hr (pe_op op_add (pe_callB call_len_seq rfl ml PySem.boot_len (pa_cons (pv 2) pa_nil)) (pe_call A1.G hr2 rfl A1.m A1.kp A1.b .nil pass0 (pa_cons (pv 0) (pa_cons pe_int pa_nil))))) pe_non (nomark _)))))), ?_⟩
  have lx : xs.length ≤ 20 := by rw [hrs.1]; exact lr
  have ll : ∀ {H' : Hp}, Gr p H H' → SqL K H' l xs := fun {H'} g => SqL.of (nt_of ((g.nt ok.mem) _ _ hl)).2.1
  refine ⟨2, rfl, by decide, by decide, for_range (n := 2) (fun i σ H' => (∃ o3 o4 o5, σ = [some (.ref p), some (.ref fw), some (.ref l), o3, o4, o5]) ∧ OkS T ps p H' ∧ Gr p H H') ⟨⟨_, _, _, rfl⟩, ok, Gr.refl p H⟩ ?_ ?_⟩
  · rintro i σ H' hi ⟨⟨o3, o4, o5, rfl⟩, ok', gr⟩
    refine ⟨_, rfl, l, xs, rfl, .inl (ll gr), _, rfl, by omega, by omega, ?_⟩
    rw [Int.toNat_natCast]
    refine for_range (n := xs.length) (fun j σ H' => (∃ o4 o5, σ = [some (.ref p), some (.ref fw), some (.ref l), some (.int (0 + i)), o4, o5]) ∧ OkS T ps p H' ∧ Gr p H H') ⟨⟨_, _, rfl⟩, ok', gr⟩ ?_ ?_
    · rintro j σ H1 hj ⟨⟨o4, o5, rfl⟩, ok1, g1⟩
      refine ⟨_, rfl, _, rfl, l, xs, rfl, .inl (ll g1), _, _, rfl, rfl, _, rfl, _, _, rfl, rfl, (by show 2 ≤ sizeLine; decide), fun l1 n1 => ?_⟩
      have x2 := Ext.new (o := .lst [.int (0 + j), .int ((xs.length : Int) - 1 - (0 + j))]) n1
      obtain ⟨k, hk, ek⟩ : ∃ k : Nat, k < xs.length ∧ atI [V.int (0 + (j : Int)), V.int ((xs.length : Int) - 1 - (0 + (j : Int)))] (0 + (i : Int)) = some (.int (k : Int)) := by
        rcases (show i = 0 ∨ i = 1 by omega) with rfl | rfl
        · exact ⟨j, hj, by show some (V.int (0 + (j : Int))) = _; rw [Int.zero_add]⟩
        · refine ⟨xs.length - 1 - j, by omega, ?_⟩
          show some (V.int ((xs.length : Int) - 1 - (0 + (j : Int)))) = _
          congr 2
          omega
      refine ⟨_, rfl, l1, _, _, _, rfl, rfl, SqL.of upd_same, ek, ?_⟩
      have ok2 := ok1.ext x2
      have g2 := g1.trans (x2.gr p)
      generalize upd H1 l1 (.lst [.int (0 + (j : Int)), .int ((xs.length : Int) - 1 - (0 + (j : Int)))]) = H2 at ok2 g2 ⊢
      have kr : k < rs.length := by rw [← hrs.1]; exact hk
      have er := List.getElem?_eq_getElem kr
      have wd2 := wd.ext (g2.nt ok.mem)
      refine ⟨_, rfl, ?_⟩
      refine (?_ : ∃ g fd, V.ref fw = .ref g ∧ H2 g = some (FncO g fd) ∧ tVar 5 _ H2 _)
      obtain ⟨fdg, hfg⟩ := (wd2.ext (nt_ext H2 ps)).fn
      refine ⟨fw, fdg, rfl, hfg, _, rfl, hfg, n, n4, rs, k, wd2.ext (nt_ext H2 ps), lr, rfl, by omega, fun u H3 x3 r3 => ?_⟩
      rw [er] at r3
      have ok3 := ok2.ext x3
      have g3 := g2.trans (x3.gr p)
      obtain ⟨rr, err, rv⟩ := hrs.get' (List.getElem?_eq_getElem hk)
      rw [er] at err
      cases err
      refine ⟨_, rfl, _, rfl, l, xs, _, _, rfl, rfl, ll g3, atI_nat (List.getElem?_eq_getElem hk), ?_⟩
      refine ⟨rwD rs[k], rwD rs[k], RwV.rds r3, RwV.rds ((rv.tk (g3.nt ok.mem).tk).tk (nt_ext H3 ps).tk), rw_plain _, rw_plain _, rw_depth _, _, rfl, ?_⟩
      rw [eqD_refl (rw_plain _)]
      have wd3 := wd.ext (g3.nt ok.mem)
      obtain ⟨fdg3, hfg3⟩ := (wd3.ext (nt_ext H3 ps)).fn
      refine ⟨_, rfl, fw, fdg3, rfl, hfg3, _, rfl, hfg3, n, n4, rs, k, wd3.ext (nt_ext H3 ps), lr, rfl, by omega, fun u4 H4 x4 r4 => ?_⟩
      rw [er] at r4
      obtain ⟨a4, y1, y2, rfl, e4, _⟩ := r4
      exact ⟨_, _, _, _, rfl, .inl (.tup e4), rfl, _, rfl, ⟨_, _, rfl⟩, ok3.ext x4, g3.trans (x4.gr p)⟩
    · rintro σ H1 ⟨⟨o4, o5, rfl⟩, ok1, g1⟩
      exact ⟨⟨_, _, _, rfl⟩, ok1, g1⟩
  · rintro σ H1 ⟨⟨o3, o4, o5, rfl⟩, ok1, g1⟩
    have wd1 := wd.ext (g1.nt ok.mem)
    obtain ⟨fdg, hfg⟩ := (wd1.ext (nt_ext H1 ps)).fn
    refine ⟨_, rfl, fw, fdg, rfl, hfg, _, rfl, l, xs, rfl, .inl (ll g1), hfg, n, n4, rs, xs.length, wd1.ext (nt_ext H1 ps), lr, rfl, by have := hrs.1; omega, fun u H2 x2 r2 => ?_⟩
    rw [List.getElem?_eq_none (by rw [hrs.1]; exact Nat.le_refl _)] at r2
    obtain rfl : u = .non := r2
    have ok2 := ok1.ext x2
    have g2 := g1.trans (x2.gr p)
    have wd2 := wd.ext (g2.nt ok.mem)
    obtain ⟨fdg2, hfg2⟩ := (wd2.ext (nt_ext H2 ps)).fn
    refine ⟨rfl, _, rfl, itT ⟨_, rfl, fw, fdg2, rfl, hfg2, _, rfl, l, xs, rfl, .inl (ll g2), _, rfl, ps, p, 9, rfl, ok2, by decide, by decide, fun r H3 r0 r1 ok3 k3 => ⟨_, _, rfl, rfl, ?_⟩⟩⟩
    have g3 := g2.trans k3.gr
    have wd3 := wd.ext (g3.nt ok.mem)
    have nf : fw ≠ p := fun z => by
      obtain ⟨_, _, _, e, _⟩ := ok2.bx.ex
      rw [← z, hfg2] at e
      cases e
    refine ⟨k3 _ _ hfg2 nf, n, n4, rs, xs.length + r.toNat, wd3.ext (nt_ext H3 ps), lr, ?_, by have := hrs.1; omega, fun u H4 x4 r4 => ?_⟩
    · show V.int ((xs.length : Int) + r) = V.int ((xs.length + r.toNat : Nat) : Int)
      rw [show ((xs.length + r.toNat : Nat) : Int) = (xs.length : Int) + r by omega]
    rw [List.getElem?_eq_none (by rw [hrs.1]; exact Nat.le_add_right _ _)] at r4
    obtain rfl : u = .non := r4
    exact ⟨rfl, q _ (ok3.ext x4) (g3.trans (x4.gr p))⟩
end
end My
set_option Elab.async false
set_option linter.all false
set_option maxRecDepth 100000
set_option maxHeartbeats 1000000
namespace My
open PySem PySem.W L2
theorem sqL_gr {K : Frag} {H H' : Hp} {a p : Addr} {xs : List V} (h : SqL K H a xs) (hp : H p = none) (g : Gr p H H') : SqL K H' a xs := by
  have ne : ∀ {o : HO}, H a = some o → a ≠ p := fun {o} e z => by rw [z, hp] at e; cases e
  rcases h with (h | ⟨o, h⟩) | h
  · exact .inl (.inl (g _ _ h (ne h) fun _ z => nomatch z))
  · exact .inl (.inr ⟨o, g _ _ h (ne h) fun _ z => nomatch z⟩)
  · exact .inr h
theorem gr_updT {H H' : Hp} {p l : Addr} {u : HO} (g : Gr p H H') (n : ∀ o, H l = some o → ∃ t, o = .tbl t) : Gr p H (upd H' l u) := fun b o e m t => by
  rw [upd_ne (fun z => by
    rw [z] at e
    obtain ⟨t', z'⟩ := n o e
    exact t t' z')]
  exact g b o e m t
section
variable {P : Program} {w : World} {K : Frag} {mg : Str → Option Value} {base : Heap} {T : Tbs}
abbrev sLaw : Stmt := top 21
abbrev NLw : List Str := ["_law_script", "_law_k", "_law_state", "_law_stands", "_law_turn", "_law_at"]
def spLaw (K : Frag) (T : Tbs) : Sp := fun vs H Q _ => ∃ (a : Addr) (ns : List Int), vs = [.ref a] ∧ SqL K H a (ns.map V.int) ∧ ns.length ≤ 63 ∧ TI T H ∧ ∀ H', Q (.bl true) H'
theorem scLw : FnScope NLw ["_law_script"] (defScope sLaw) := ⟨rfl, rfl, rfl, by decide +kernel, rfl, by decide +kernel, by decide +kernel⟩
structure Tw (T : Tbs) (p s : Addr) (m : Nat) (H : Hp) : Prop where
  ok : OkS T [s, p] p H
  ex : ∃ b0 b1 n0 n1, H s = some (.lst [.ref b0, .ref b1]) ∧ n0 ≤ m ∧ n1 ≤ m ∧ Std n0 (nt H [s, p]) b0 ∧ Std n1 (nt H [s, p]) b1
theorem Tw.at {p s : Addr} {m : Nat} {H : Hp} (t : Tw T p s m H) (i : Int) (h0 : 0 ≤ i) (h1 : i < 2) : ∃ b n zs, H s = some (.lst zs) ∧ atI zs i = some (.ref b) ∧ n ≤ m ∧ Std n (nt H [s, p]) b := by
  obtain ⟨b0, b1, n0, n1, e, l0, l1, s0, s1⟩ := t.ex
  rcases (show i = 0 ∨ i = 1 by omega) with rfl | rfl
  · exact ⟨b0, n0, _, e, rfl, l0, s0⟩
  · exact ⟨b1, n1, _, e, rfl, l1, s1⟩
theorem Tw.gr {p s : Addr} {m : Nat} {H H' : Hp} (t : Tw T p s m H) (ok : OkS T [s, p] p H') (g : Gr p H H') (n : s ≠ p) : Tw T p s m H' := by
  obtain ⟨b0, b1, n0, n1, e, l0, l1, s0, s1⟩ := t.ex
  have x := g.nt t.ok.mem
  exact ⟨ok, b0, b1, n0, n1, g _ _ e n (fun _ z => nomatch z), l0, l1, s0.ext x, s1.ext x⟩
theorem Tw.put {p s : Addr} {m : Nat} {H : Hp} (t : Tw T p s m H) (n : s ≠ p) {i : Int} (h0 : 0 ≤ i) (h1 : i < 2) {b : Addr} {k : Nat} (hk : k ≤ m + 1) (hb : Std k (nt H [s, p]) b) : ∃ zs j, H s = some (.lst zs) ∧ ixN zs.length i = some j ∧ Tw T p s (m + 1) (upd H s (.lst (zs.set j (.ref b)))) := by
  obtain ⟨b0, b1, n0, n1, e, l0, l1, s0, s1⟩ := t.ex
  have en : ∀ u : HO, nt (upd H s u) [s, p] = nt H [s, p] := fun u => nt_upd (List.mem_cons_self ..)
  rcases (show i = 0 ∨ i = 1 by omega) with rfl | rfl
  · refine ⟨_, 0, e, rfl, t.ok.upd e n, b, b1, k, n1, upd_same, hk, by omega, ?_, ?_⟩
    · rw [en]; exact hb
    · rw [en]; exact s1
  · refine ⟨_, 1, e, rfl, t.ok.upd e n, b0, b, n0, k, upd_same, by omega, hk, ?_, ?_⟩
    · rw [en]; exact s0
    · rw [en]; exact hb
variable {f : Addr} {cdv : Value} {A : Around} {outer : List Env} {s : Shared} {H : Hp} {E : XK}
theorem ok_law {a1 a2 a3 a4 a5 a6 : Addr} {fd d1 d2 d3 d4 d5 d6 : FuncData} (F : Fun K "law" "law" sLaw f fd) (A1 : Df P w K mg base CX0 1 "_law_cell" ["_law_script", "_law_k"] (spCell K) a1 d1) (A2 : Df P w K mg base CX0 1 "_law_begun" ["_law_cell_here"] spBeg a2 d2) (A3 : Df P w K mg base CX0 5 "_law_begun_world" ["_law_state"] (spBW T) a3 d3)
    (A4 : Df P w K mg base CX0 8 "_law_right" ["_law_state", "_law_world", "_law_listing_here"] (spRt T) a4 d4) (A5 : Df P w K mg base CX0 2 "_law_pull" ["_law_state", "_law_many"] (spPull T) a5 d5) (A6 : Df P w K mg base CX0 3 "_law_turned_on" ["_law_state", "_law_world", "_law_listing_here"] (spTO T) a6 d6)
    (mr : mg "range" = none) (mx : mg "max" = none) (mn : mg "min" = none) (ml : mg "len" = none) : FnOk P w K mg base CX0 9 f fd ["_law_script"] (spLaw K T) := by
  refine F.ok scLw (fun vs H Q E h => ?_) (fun cdv A outer s H vs Q E hr h => ?_)
  · obtain ⟨_, _, rfl, _⟩ := h
    rfl
  obtain ⟨a, ns, rfl, hS, ln, ti, q⟩ := h
  have nd := scLw.nd
  have hr1 := hr.mono (show 1 ≤ 8 by decide)
  have hr2 := hr.mono (show 2 ≤ 8 by decide)
  have hr3 := hr.mono (show 3 ≤ 8 by decide)
  have hr5 := hr.mono (show 5 ≤ 8 by decide)
  refine ⟨_, pss_cons (ps_for PassesOwn.never rfl (pi_range1 rfl mr (pa_cons (pe_callB (call_max2 rfl) rfl mx PyProof.Rows.boot_max (pa_cons pe_int (pa_cons (pe_callB (call_min2 rfl) rfl mn PyProof.Rows.boot_min (pa_cons pe_int (pa_cons (pe_callB call_len_seq rfl ml PySem.boot_len (pa_cons (pv 0) pa_nil)) pa_nil))) pa_nil))) pa_nil)) (pg_name (i := 1) nd rfl (Or.inl rfl))
      (pss_cons (ps_set (i := 2) nd rfl (Or.inl rfl) (pe_call A2.G hr1 rfl A2.m A2.kp A2.b .nil pass0 (pa_cons (pe_call A1.G hr1 rfl A1.m A1.kp A1.b .nil pass0 (pa_cons (pv 0) (pa_cons (pv 1) pa_nil))) pa_nil)))
      (pss_cons (ps_set (i := 3) nd rfl (Or.inl rfl) (pe_lst (pa_cons (pe_call A3.G hr5 rfl A3.m A3.kp A3.b .nil pass0 (pa_cons (pv 2) pa_nil)) (pa_cons (pe_call A3.G hr5 rfl A3.m A3.kp A3.b .nil pass0 (pa_cons (pv 2) pa_nil)) pa_nil))))
      (pss_one (ps_for PassesOwn.never rfl (pi_range1 rfl mr (pa_cons pe_int pa_nil)) (pg_name (i := 4) nd rfl (Or.inl rfl))
        (pss_cons (ps_for PassesOwn.never rfl (pi_range1 rfl mr (pa_cons pe_int pa_nil)) (pg_name (i := 5) nd rfl (Or.inl rfl))
          (pss_one (ps_if (pt_not (pt_val (pe_call A4.G hr rfl A4.m A4.kp A4.b .nil pass0 (pa_cons (pv 2) (pa_cons (pe_ix ix_list (pe_ix ix_list (pv 3) (pv 5) (fun _ _ => rfl)) pe_int (fun _ _ => rfl)) (pa_cons (pe_ix ix_list (pe_ix ix_list (pv 3) (pv 5) (fun _ _ => rfl)) pe_int (fun _ _ => rfl)) pa_nil)))))) (pss_one (ps_ret pe_bl)) pss_nil)))
        (pss_cons (ps_set (i := 5) nd rfl (Or.inl rfl) (pe_call A5.G hr2 rfl A5.m A5.kp A5.b .nil pass0 (pa_cons (pv 2) (pa_cons pe_int pa_nil))))
        (pss_one (ps_asg (pe_call A6.G hr3 rfl A6.m A6.kp A6.b .nil pass0 (pa_cons (pv 2) (pa_cons (pe_ix ix_list (pe_ix ix_list (pv 3) (pv 5) (fun _ _ => rfl)) pe_int (fun _ _ => rfl)) (pa_cons (pe_ix ix_list (pe_ix ix_list (pv 3) (pv 5) (fun _ _ => rfl)) pe_int (fun _ _ => rfl)) pa_nil)))) (pg_sub (pv 3) (pv 5) set_list)))))))))
    ) (pss_one (ps_ret pe_bl)), ?_⟩
  refine ⟨_, rfl, a, _, rfl, .inl hS, _, _, rfl, _, _, rfl, ?_⟩
  obtain ⟨m, em, m0, m1⟩ : ∃ m : Int, (if (if (((ns.map V.int).length : Nat) : Int) < 10 then (((ns.map V.int).length : Nat) : Int) else 10) > 2 then (if (((ns.map V.int).length : Nat) : Int) < 10 then (((ns.map V.int).length : Nat) : Int) else 10) else 2) = m ∧ 0 ≤ m ∧ m ≤ 10 := ⟨_, rfl, by split <;> split <;> omega, by split <;> split <;> omega⟩
  rw [em]
  refine ⟨m, rfl, by omega, by omega, for_range (n := m.toNat) (fun i σ H' => (∃ o1 o2 o3 o4 o5, σ = [some (.ref a), o1, o2, o3, o4, o5]) ∧ SqL K H' a (ns.map V.int) ∧ TI T H') ⟨⟨_, _, _, _, _, rfl⟩, hS, ti⟩ ?_ (fun σ H' _ => q H')⟩
  rintro i σ H0 hi ⟨⟨o1, o2, o3, o4, o5, rfl⟩, hS0, ti0⟩
  refine ⟨_, rfl, _, rfl, a, ns, _, rfl, hS0, by omega, by omega, fun c => ⟨c, rfl, fun p H1 hp x1 bx1 => ?_⟩⟩
  have ok1 : OkS T [p] p H1 := ⟨bx1, ti0.ext x1, List.mem_singleton.mpr rfl, fun x hx => by
    rw [List.mem_singleton.mp hx]
    obtain ⟨_, _, _, e, _⟩ := bx1.ex
    exact ⟨_, e⟩⟩
  refine ⟨_, rfl, [p], p, rfl, ok1, fun b0 H2 ok2 g2 s0 => ⟨_, rfl, [p], p, rfl, ok2, fun b1 H3 ok3 g3 s1 => ⟨(by show 2 ≤ sizeLine; decide), fun sd hs => ?_⟩⟩⟩
  have x4 := Ext.new (o := .lst [.ref b0, .ref b1]) hs
  have nsp : sd ≠ p := fun z => by obtain ⟨_, _, _, e, _⟩ := ok3.bx.ex; rw [← z, hs] at e; cases e
  have xx := nt_cons ok3 hs (x4.gr p)
  have tw : Tw T p sd 0 (upd H3 sd (.lst [.ref b0, .ref b1])) := ⟨(ok3.ext x4).add upd_same, b0, b1, 0, 0, upd_same, Nat.le_refl _, Nat.le_refl _, (s0.ext (g3.nt ok2.mem)).ext xx, s1.ext xx⟩
  have g03 : Gr p H0 H3 := (x1.gr p).trans (g2.trans g3)
  have n0s : ∀ o, H0 sd = some o → ∃ t, o = .tbl t := fun o e => by
    by_cases z : ∃ t, o = .tbl t
    · exact z
    · have e3 := g03 _ _ e (fun y => by rw [y, hp] at e; cases e) fun t y => z ⟨t, y⟩
      rw [hs] at e3
      cases e3
  have g04 : Gr p H0 (upd H3 sd (.lst [.ref b0, .ref b1])) := g03.trans (x4.gr p)
  generalize upd H3 sd (.lst [.ref b0, .ref b1]) = H4 at tw g04
  refine ⟨4, rfl, by decide, by decide, for_range (n := 4) (fun j σ H' => (∃ o1 o4 o5, σ = [some (.ref a), o1, some (.ref p), some (.ref sd), o4, o5]) ∧ Tw T p sd j H' ∧ Gr p H0 H') ⟨⟨_, _, _, rfl⟩, tw, g04⟩ ?_ ?_⟩
  · rintro j σ H5 hj ⟨⟨o1, o4, o5, rfl⟩, tw5, g5⟩
    refine ⟨2, rfl, by decide, by decide, for_range (n := 2) (fun k σ H' => (∃ o5, σ = [some (.ref a), o1, some (.ref p), some (.ref sd), some (.int (0 + j)), o5]) ∧ Tw T p sd j H' ∧ Gr p H0 H') ⟨⟨_, rfl⟩, tw5, g5⟩ ?_ ?_⟩
    · rintro k σ H6 hk ⟨⟨o5, rfl⟩, tw6, g6⟩
      obtain ⟨b, n, zs, es, ea, hn, st⟩ := tw6.at (0 + (k : Int)) (by omega) (by omega)
      obtain ⟨fw, l, xs, rs, h1, h2, h3, h4, h5⟩ := id st
      have hb := SqL.of (K := K) (nt_of h1).2.1
      have hs' := SqL.of (K := K) es
      refine ⟨_, rfl, _, rfl, _, rfl, sd, zs, _, _, rfl, rfl, hs', ea, b, _, _, _, rfl, rfl, hb, rfl, _, rfl, _, rfl, sd, zs, _, _, rfl, rfl, hs', ea, b, _, _, _, rfl, rfl, hb, rfl, [sd, p], p, n, fw, l, xs, rs, rfl, tw6.ok, h2, h3, h4, h5, by omega, fun H7 ok7 g7 => ⟨_, rfl, itF ?_⟩⟩
      exact ⟨⟨_, rfl⟩, tw6.gr ok7 g7 nsp, g6.trans g7⟩
    · rintro σ H6 ⟨⟨o5, rfl⟩, tw6, g6⟩
      refine ⟨_, rfl, [sd, p], p, 2, rfl, tw6.ok, by decide, by decide, fun r H7 r0 r1 ok7 k7 => ?_⟩
      have tw7 := tw6.gr ok7 k7.gr nsp
      obtain ⟨b, n, zs, es, ea, hn, st⟩ := tw7.at r r0 r1
      obtain ⟨fw, l, xs, rs, h1, h2, h3, h4, h5⟩ := id st
      have hb := SqL.of (K := K) (nt_of h1).2.1
      have hs' := SqL.of (K := K) es
      refine ⟨_, rfl, _, rfl, _, rfl, sd, zs, _, _, rfl, rfl, hs', ea, b, _, _, _, rfl, rfl, hb, rfl, _, rfl, _, rfl, sd, zs, _, _, rfl, rfl, hs', ea, b, _, _, _, rfl, rfl, hb, rfl, [sd, p], p, n, fw, l, xs, rs, rfl, tw7.ok, h2, h3, h4, h5, fun b' H8 ok8 g8 st8 => ?_⟩
      have tw8 := tw7.gr ok8 g8 nsp
      obtain ⟨zs8, jj, e8, ej, twn⟩ := tw8.put nsp r0 r1 (show n + 1 ≤ j + 1 by omega) st8
      refine ⟨_, rfl, _, rfl, sd, zs8, r, jj, rfl, rfl, e8, ej, ⟨_, _, _, rfl⟩, twn, ?_⟩
      exact gr_updT (g6.trans (k7.gr.trans g8)) n0s
  · rintro σ H5 ⟨⟨o1, o4, o5, rfl⟩, tw5, g5⟩
    exact ⟨⟨_, _, _, _, _, rfl⟩, sqL_gr hS0 hp g5, tw5.ok.ti⟩
end
end My
set_option Elab.async false
set_option linter.all false
set_option maxRecDepth 100000
set_option maxHeartbeats 4000000
namespace My
open PySem PySem.W L2
structure Dn (K : Frag) (mg : Str → Option Value) (nm : Str) (st : Stmt) (ps : List Str) (f : Addr) (fd : FuncData) : Prop where
  fn : Fun K nm nm st f fd
  bi : Binds K fd ps []
  mg : mg nm = some (.ref f)
structure Mkr (K : Frag) (h : Heap) (mg : Str → Option Value) (nm : Str) (st : Stmt) (ps : List Str) (f : Addr) (fd : FuncData) (c pl : Addr) : Prop where
  ex : ∃ (oc : Value) (od : Option Addr) (kV doc pm : Value) (an : Option Addr) (ct : Value) (osl : Array (Option Value)),
    fd = fnOf nm nm (defArgs st) (defBody st) (defScope st) .none kV doc pm an (.ref c) ct ∧ K.lookup f = some ⟨oc, od, .func fd, osl⟩ ∧ codeIn K (.ref c) nm = true
  bi : ∀ K', Binds K' fd ps []
  mg : mg nm = some (.ref f)
  cd : ∃ od vs sl file tf flags tg inF text tt, K.lookup c = some ⟨.type "code", od, .fields vs, sl⟩ ∧ vs[11]? = some (.ref pl) ∧ vs.getD 11 .none = .ref pl ∧ vs.getD 18 .none = .str file tf ∧ vs.getD 7 .none = .int flags tg ∧ vs.getD 9 .none = .bool inF ∧ vs.getD 10 .none = .int text tt
  tb : h.get? pl = some (tabObj #[])
abbrev BP (nm qn : Str) (st : Stmt) (ps : List Str) : Prop := ∀ (kV doc pm : Value) (an : Option Addr) (cdv ct : Value) (us : List Value), us.length = ps.length → bindArgs (PySem.W.fnOf nm qn (defArgs st) (defBody st) (defScope st) .none kV doc pm an cdv ct) ⟨us, []⟩ = pure (ps.zip us)
section
variable {P : Program} {w : World} {K : Frag} {mg : Str → Option Value} {base : Heap} {T : Tbs}
theorem dn_of {nm : Str} {st : Stmt} {ps : List Str} (hb : BP nm nm st ps) {h : Heap} {g : Addr} {oc kV dc pm cd ct : Value} {od an : Option Addr} {sl : Array (Option Value)} (X : K.In h) (G : h.Ns mainGlobals mg)
    (a : nsIn K mainGlobals nm = some (some (.ref g))) (l : K.lookup g = some ⟨oc, od, .func (fnOf nm nm (defArgs st) (defBody st) (defScope st) .none kV dc pm an cd ct), sl⟩) (c : codeIn K cd nm = true) (k : keepIn K (.ref g) = true) :
    Dn K mg nm st ps g (fnOf nm nm (defArgs st) (defBody st) (defScope st) .none kV dc pm an cd ct) := by
  have F := fun_mk (st := st) l c k
  exact ⟨F, F.binds hb, mg_of X G a⟩
theorem mkr_of {nm : Str} {st : Stmt} {ps : List Str} (hb : BP nm nm st ps) {h : Heap} {g c pl : Addr} {oc kV dc pm ct : Value} {od an odc : Option Addr} {sl slc : Array (Option Value)} {vs : Array Value} {ts : List Addr} (X : K.In h) (G : h.Ns mainGlobals mg)
    (a : nsIn K mainGlobals nm = some (some (.ref g))) (l : K.lookup g = some ⟨oc, od, .func (fnOf nm nm (defArgs st) (defBody st) (defScope st) .none kV dc pm an (.ref c) ct), sl⟩) (cI : codeIn K (.ref c) nm = true) (lc : K.lookup c = some ⟨.type "code", odc, .fields vs, slc⟩)
    (v11 : vs[11]? = some (.ref pl)) (v18 : ∃ file tf, vs.getD 18 .none = .str file tf) (v7 : ∃ i t, vs.getD 7 .none = .int i t) (v9 : ∃ b, vs.getD 9 .none = .bool b) (v10 : ∃ i t, vs.getD 10 .none = .int i t) (tabs : ∀ b ∈ ts, h.get? b = some (tabObj #[])) (tb : pl ∈ ts) :
    Mkr K h mg nm st ps g (fnOf nm nm (defArgs st) (defBody st) (defScope st) .none kV dc pm an (.ref c) ct) c pl := by
  obtain ⟨f1, f2, e18⟩ := v18
  obtain ⟨i1, i2, e7⟩ := v7
  obtain ⟨b1, e9⟩ := v9
  obtain ⟨j1, j2, e10⟩ := v10
  refine ⟨⟨_, _, _, _, _, _, _, _, rfl, l, cI⟩, fun K' => .all (hb _ _ _ _ _ _), mg_of X G a, ⟨_, vs, _, _, _, _, _, _, _, _, lc, v11, ?_, e18, e7, e9, e10⟩, tabs _ tb⟩
  rw [Array.getD_eq_getD_getElem?, v11]
  rfl
theorem ne_tab {h : Heap} (X : K.In h) (B : TbH T h) {a : Addr} {o : Obj} (l : K.lookup a = some o) (n : o.data ≠ .fields #[]) : a ∉ pls T := fun m => by
  obtain ⟨e, he, rfl⟩ := mem_pls m
  have z := X _ _ l
  rw [B.tab e he] at z
  cases z
  exact n rfl
def k2 (K : Frag) (T : Tbs) (bm : Addr) (ob : Obj) : Frag := (bm, ob) :: cutK K T
variable {h : Heap} {bm : Addr} {ob : Obj}
theorem k2_at (X : K.In h) (B : TbH T h) (hb : h.get? bm = some ob) {a : Addr} {o : Obj} (l : K.lookup a = some o) (n : o.data ≠ .fields #[]) : (k2 K T bm ob).lookup a = some o := by
  unfold k2
  rw [List.lookup_cons]
  cases e : a == bm with
  | true =>
    have z := X _ _ l
    rw [beq_iff_eq.mp e, hb] at z
    exact z
  | false => exact (cutK_out (ne_tab X B l n)).trans l
theorem k2_bm : (k2 K T bm ob).lookup bm = some ob := by
  unfold k2
  rw [List.lookup_cons, beq_self_eq_true]
theorem k2_in (X : K.In h) (hb : h.get? bm = some ob) : (k2 K T bm ob).In h := fun a o l => by
  unfold k2 at l
  rw [List.lookup_cons] at l
  cases e : a == bm with
  | true =>
    rw [e] at l
    cases l
    rw [beq_iff_eq.mp e]
    exact hb
  | false =>
    rw [e] at l
    exact X a o (cutK_kp l).2
theorem k2_tab (B : TbH T h) (hb : h.get? bm = some ob) (n : ob.data = .plain) : ∀ b ∈ pls T, (k2 K T bm ob).lookup b = none := fun b hm => by
  unfold k2
  rw [List.lookup_cons]
  cases e : b == bm with
  | true =>
    obtain ⟨en, he, rfl⟩ := mem_pls hm
    rw [← beq_iff_eq.mp e, B.tab en he] at hb
    cases hb
    cases n
  | false => exact cutK_in hm
theorem code_cut (X : K.In h) (B : TbH T h) (hb : h.get? bm = some ob) {cd : Value} {nm : Str} (hc : codeIn K cd nm = true) : codeIn (k2 K T bm ob) cd nm = true := by
  cases cd with
  | ref c =>
    unfold codeIn at hc ⊢
    dsimp only at hc ⊢
    cases l : K.lookup c with
    | none => rw [l] at hc; cases hc
    | some o =>
      rw [k2_at X B hb l (fun z => by
        rw [l] at hc
        obtain ⟨o1, o2, o3, o4⟩ := o
        cases z
        cases hc)]
      rw [l] at hc
      exact hc
  | _ => cases hc
theorem fun_cut (X : K.In h) (B : TbH T h) (hb : h.get? bm = some ob) {x qual : Str} {st : Stmt} {f : Addr} {fd : FuncData} (F : Fun K x qual st f fd) : Fun (k2 K T bm ob) x qual st f fd := by
  obtain ⟨oc, od, kV, doc, pm, an, cdv, ct, osl, rfl, lk, hcd⟩ := F.ex
  have lk' := k2_at X B hb lk (fun z => nomatch z)
  refine ⟨⟨oc, od, kV, doc, pm, an, cdv, ct, osl, rfl, lk', code_cut X B hb hcd⟩, ?_⟩
  unfold keepIn
  dsimp only
  rw [lk']
theorem Dn.cut {nm : Str} {st : Stmt} {ps : List Str} {f : Addr} {fd : FuncData} (d : Dn K mg nm st ps f fd) (hbp : BP nm nm st ps) (X : K.In h) (B : TbH T h) (hb : h.get? bm = some ob) : Dn (k2 K T bm ob) mg nm st ps f fd := ⟨fun_cut X B hb d.fn, (fun_cut X B hb d.fn).binds hbp, d.mg⟩
theorem Dn.df {nm : Str} {st : Stmt} {ps : List Str} {f : Addr} {fd : FuncData} (d : Dn K mg nm st ps f fd) {cx : CXT} {k : Nat} {sp : Sp} (h : FnOk P w K mg base cx k f fd ps sp) : Df P w K mg base cx k nm ps sp f fd := ⟨h, d.bi, d.fn.kp, d.mg⟩
theorem Mkr.cut {nm : Str} {st : Stmt} {ps : List Str} {f c pl : Addr} {fd : FuncData} (d : Mkr K h mg nm st ps f fd c pl) (X : K.In h) (B : TbH T h) (hb : h.get? bm = some ob) (M : mg "__builtins__" = some (.ref bm)) (n1 : bm ≠ builtinsNs) (n2 : bm ≠ mainGlobals) (c1 : ob.cls = .type "module") (c2 : ob.dict = some builtinsNs) (c3 : ob.data = .plain) : FunM (k2 K T bm ob) mg nm nm st f fd c pl := by
  obtain ⟨oc, od, kV, doc, pm, an, ct, osl, rfl, lk, hcd⟩ := d.ex
  obtain ⟨od', vs, sl, file, tf, flags, tg, inF, text, tt, lc, h11, h11', h18, h7, h9, h10⟩ := d.cd
  have lk' := k2_at X B hb lk (fun z => nomatch z)
  have nv : vs ≠ #[] := fun z => by rw [z] at h11; simp at h11
  have lc' := k2_at X B hb lc (fun z => nv (Data.fields.inj z))
  refine ⟨⟨oc, od, kV, doc, pm, an, ct, osl, rfl, lk', code_cut X B hb hcd⟩, ⟨fun h' X' => ⟨_, vs, file, tf, flags, tg, inF, text, tt, X' _ _ lc', rfl, rfl, h11, h11', h18, h7, h9, h10, fun z => ?_⟩, fun h' X' => ⟨bm, _, M, n1, n2, fun z => ?_, X' _ _ k2_bm, c1, c2, c3⟩⟩⟩
  · have y := X _ _ lc
    rw [z, d.tb] at y
    cases y
  · rw [z, d.tb] at hb
    cases hb
    cases c3
theorem Mkr.df {nm : Str} {st : Stmt} {ps : List Str} {f c pl : Addr} {fd : FuncData} {K' : Frag} (d : Mkr K h mg nm st ps f fd c pl) (F : FunM K' mg nm nm st f fd c pl) {cx : CXT} {k : Nat} {sp : Sp} (h : FnOk P w K' mg base cx k f fd ps sp) : Df P w K' mg base cx k nm ps sp f fd := by
  refine ⟨h, d.bi _, ?_, d.mg⟩
  obtain ⟨oc, od, kV, doc, pm, an, ct, osl, rfl, lk, hcd⟩ := F.ex
  unfold keepIn
  dsimp only
  rw [lk]
end
theorem bp0 : BP "is_number" "is_number" sIsNum ["thing"] := fun _ _ _ _ _ _ us hl => match us, hl with | [_], _ => rfl
theorem bp1 : BP "is_whole" "is_whole" sIsWh ["thing", "low", "high"] := fun _ _ _ _ _ _ us hl => match us, hl with | [_, _, _], _ => rfl
theorem bp2 : BP "is_two" "is_two" sIs2 ["thing"] := fun _ _ _ _ _ _ us hl => match us, hl with | [_], _ => rfl
theorem bp3 : BP "shifted_world" "shifted_world" sSH ["outcomes", "shift"] := fun _ _ _ _ _ _ us hl => match us, hl with | [_, _], _ => rfl
theorem bp4 : BP "_law_cell" "_law_cell" sCell ["_law_script", "_law_k"] := fun _ _ _ _ _ _ us hl => match us, hl with | [_, _], _ => rfl
theorem bp5 : BP "_law_mix" "_law_mix" sMix ["_law_cell_here", "_law_k"] := fun _ _ _ _ _ _ us hl => match us, hl with | [_, _], _ => rfl
theorem bp6 : BP "_law_begun" "_law_begun" sBeg ["_law_cell_here"] := fun _ _ _ _ _ _ us hl => match us, hl with | [_], _ => rfl
theorem bp7 : BP "_law_pull" "_law_pull" sPull ["_law_state", "_law_many"] := fun _ _ _ _ _ _ us hl => match us, hl with | [_, _], _ => rfl
theorem bp8 : BP "_law_outcome" "_law_outcome" sOut ["_law_state"] := fun _ _ _ _ _ _ us hl => match us, hl with | [_], _ => rfl
theorem bp9 : BP "_law_listing" "_law_listing" sLi ["_law_state"] := fun _ _ _ _ _ _ us hl => match us, hl with | [_], _ => rfl
theorem bp10 : BP "_law_spared" "_law_spared" sSd ["_law_listing_here", "_law_few"] := fun _ _ _ _ _ _ us hl => match us, hl with | [_, _], _ => rfl
theorem bp11 : BP "_law_begun_world" "_law_begun_world" sBW ["_law_state"] := fun _ _ _ _ _ _ us hl => match us, hl with | [_], _ => rfl
theorem bp12 : BP "_law_turned_on" "_law_turned_on" sTO ["_law_state", "_law_world", "_law_listing_here"] := fun _ _ _ _ _ _ us hl => match us, hl with | [_, _, _], _ => rfl
theorem bp13 : BP "_law_right" "_law_right" sRt ["_law_state", "_law_world", "_law_listing_here"] := fun _ _ _ _ _ _ us hl => match us, hl with | [_, _, _], _ => rfl
theorem bp14 : BP "law" "law" sLaw ["_law_script"] := fun _ _ _ _ _ _ us hl => match us, hl with | [_], _ => rfl
theorem bk0 : BP "world_of" "world_of" sWO ["listing"] := fun _ _ _ _ _ _ us hl => match us, hl with | [_], _ => rfl
theorem bk1 : BP "spared_world" "spared_world" sSW ["world", "few"] := fun _ _ _ _ _ _ us hl => match us, hl with | [_, _], _ => rfl
theorem bk2 : BP "turned_world" "turned_world" sTU ["world"] := fun _ _ _ _ _ _ us hl => match us, hl with | [_], _ => rfl
theorem bk3 : BP "_law_own" "_law_own" sOW ["_law_listing_here"] := fun _ _ _ _ _ _ us hl => match us, hl with | [_], _ => rfl
theorem all_mk {l : OpenLaw} {w : World} {K : Frag} {h : Heap} {mg : Str → Option Value} {fa g0 g1 g2 g3 g4 g5 g6 g7 g8 g9 g10 g11 g12 g13 g14 m0 c0 p0 m1 c1 p1 m2 c2 p2 m3 c3 p3 : Addr} {d0 d1 d2 d3 d4 d5 d6 d7 d8 d9 d10 d11 d12 d13 d14 x0 x1 x2 x3 : FuncData} (X : K.In h) (G : h.Ns mainGlobals mg) (hfa : mg "law" = some (.ref fa))
    (z_isinstance : nsIn K mainGlobals "isinstance" = some none)
    (z_int : nsIn K mainGlobals "int" = some none)
    (z_bool : nsIn K mainGlobals "bool" = some none)
    (z_tuple : nsIn K mainGlobals "tuple" = some none)
    (z_len : nsIn K mainGlobals "len" = some none)
    (z_max : nsIn K mainGlobals "max" = some none)
    (z_min : nsIn K mainGlobals "min" = some none)
    (z_range : nsIn K mainGlobals "range" = some none)
    (z_enumerate : nsIn K mainGlobals "enumerate" = some none)
    (z_list : nsIn K mainGlobals "list" = some none)
    (hbm : ∃ bm ob, mg "__builtins__" = some (.ref bm) ∧ bm ≠ builtinsNs ∧ h.get? bm = some ob ∧ ob.cls = .type "module" ∧ ob.dict = some builtinsNs ∧ ob.data = .plain)
    (e0 : Dn K mg "is_number" sIsNum ["thing"] g0 d0)
    (e1 : Dn K mg "is_whole" sIsWh ["thing", "low", "high"] g1 d1)
    (e2 : Dn K mg "is_two" sIs2 ["thing"] g2 d2)
    (e3 : Dn K mg "shifted_world" sSH ["outcomes", "shift"] g3 d3)
    (e4 : Dn K mg "_law_cell" sCell ["_law_script", "_law_k"] g4 d4)
    (e5 : Dn K mg "_law_mix" sMix ["_law_cell_here", "_law_k"] g5 d5)
    (e6 : Dn K mg "_law_begun" sBeg ["_law_cell_here"] g6 d6)
    (e7 : Dn K mg "_law_pull" sPull ["_law_state", "_law_many"] g7 d7)
    (e8 : Dn K mg "_law_outcome" sOut ["_law_state"] g8 d8)
    (e9 : Dn K mg "_law_listing" sLi ["_law_state"] g9 d9)
    (e10 : Dn K mg "_law_spared" sSd ["_law_listing_here", "_law_few"] g10 d10)
    (e11 : Dn K mg "_law_begun_world" sBW ["_law_state"] g11 d11)
    (e12 : Dn K mg "_law_turned_on" sTO ["_law_state", "_law_world", "_law_listing_here"] g12 d12)
    (e13 : Dn K mg "_law_right" sRt ["_law_state", "_law_world", "_law_listing_here"] g13 d13)
    (e14 : Dn K mg "law" sLaw ["_law_script"] g14 d14)
    (y0 : Mkr K h mg "world_of" sWO ["listing"] m0 x0 c0 p0)
    (y1 : Mkr K h mg "spared_world" sSW ["world", "few"] m1 x1 c1 p1)
    (y2 : Mkr K h mg "turned_world" sTU ["world"] m2 x2 c2 p2)
    (y3 : Mkr K h mg "_law_own" sOW ["_law_listing_here"] m3 x3 c3 p3)
    (nd : [p0, p1, p2, p3].Nodup) (hb : ∀ (s : Shared) (v : Value), BindsTo s d14 ⟨[v], []⟩ [("_law_script", v)])
    : ∃ (fd : FuncData) (T : Tbs) (K2 : Frag), (∀ (s : Shared) (v : Value), BindsTo s fd ⟨[v], []⟩ [("_law_script", v)]) ∧ K2.In h ∧ (∀ b ∈ pls T, K2.lookup b = none) ∧ TbH T h ∧ ∀ base : Heap, K2.In base → base.Ns mainGlobals mg → FnOk l.prog w K2 mg base CX0 9 fa fd ["_law_script"] (spLaw K2 T) := by
  have e := hfa.symm.trans e14.mg
  cases e
  have B : TbH [(p0, posD nW, qW), (p1, posD nS, qS), (p2, posD nU, qU), (p3, posD nL, qL)] h := by
    have cod : ∀ {nm st ps f fd c pl}, Mkr K h mg nm st ps f fd c pl → isCodeTable h pl := fun {nm st ps f fd c pl} d => by
      obtain ⟨od', vs, sl, file, tf, flags, tg, inF, text, tt, lc, h11, _⟩ := d.cd
      exact ⟨c, _, vs, X _ _ lc, rfl, rfl, h11⟩
    refine ⟨fun e he => ?_, fun e he => ?_, nd⟩
    · simp only [List.mem_cons, List.not_mem_nil, or_false] at he
      rcases he with rfl | rfl | rfl | rfl
      · exact y0.tb
      · exact y1.tb
      · exact y2.tb
      · exact y3.tb
    · simp only [List.mem_cons, List.not_mem_nil, or_false] at he
      rcases he with rfl | rfl | rfl | rfl
      · exact cod y0
      · exact cod y1
      · exact cod y2
      · exact cod y3
  obtain ⟨bm, ob, M, n1, hbo, c1, c2, c3⟩ := hbm
  have n2 : bm ≠ mainGlobals := fun z => by
    obtain ⟨o, es, ep, ho, hd, _⟩ := G
    rw [← z, hbo] at ho
    cases ho
    rw [c3] at hd
    cases hd
  refine ⟨_, _, k2 K _ bm ob, hb, k2_in X hbo, k2_tab B hbo c3, B, fun base _ _ => ?_⟩
  have m_isinstance := mg_none_of X G z_isinstance
  have m_int := mg_none_of X G z_int
  have m_bool := mg_none_of X G z_bool
  have m_tuple := mg_none_of X G z_tuple
  have m_len := mg_none_of X G z_len
  have m_max := mg_none_of X G z_max
  have m_min := mg_none_of X G z_min
  have m_range := mg_none_of X G z_range
  have m_enumerate := mg_none_of X G z_enumerate
  have m_list := mg_none_of X G z_list
  have N : ∀ K' : Frag, IsT K' := fun _ => ⟨rfl, rfl⟩
  have e0 := e0.cut bp0 X B hbo
  have e1 := e1.cut bp1 X B hbo
  have e2 := e2.cut bp2 X B hbo
  have e3 := e3.cut bp3 X B hbo
  have e4 := e4.cut bp4 X B hbo
  have e5 := e5.cut bp5 X B hbo
  have e6 := e6.cut bp6 X B hbo
  have e7 := e7.cut bp7 X B hbo
  have e8 := e8.cut bp8 X B hbo
  have e9 := e9.cut bp9 X B hbo
  have e10 := e10.cut bp10 X B hbo
  have e11 := e11.cut bp11 X B hbo
  have e12 := e12.cut bp12 X B hbo
  have e13 := e13.cut bp13 X B hbo
  have e14 := e14.cut bp14 X B hbo
  have F0 := y0.cut X B hbo M n1 n2 c1 c2 c3
  have F1 := y1.cut X B hbo M n1 n2 c1 c2 c3
  have F2 := y2.cut X B hbo M n1 n2 c1 c2 c3
  have F3 := y3.cut X B hbo M n1 n2 c1 c2 c3
  have q0 := e0.df (P := l.prog) (w := w) (base := base) (ok_isnum (N _) e0.fn m_isinstance m_int m_bool)
  have q1 := e1.df (ok_iswh e1.fn q0.G q0.b q0.kp q0.m)
  have q2 := e2.df (P := l.prog) (w := w) (base := base) (ok_is2 (N _) e2.fn m_isinstance m_tuple m_len)
  have Wk : WK l.prog w _ mg base _ _ _ _ := ⟨q1.G, q1.b, q1.kp, q1.m, q2.G, q2.b, q2.kp, q2.m, m_len⟩
  have w0 := y0.df (P := l.prog) (w := w) (base := base) F0 (ok_WO (T := [(p0, posD nW, qW), (p1, posD nS, qS), (p2, posD nU, qU), (p3, posD nL, qL)]) F0 (by simp) m_tuple)
  have w1 := y1.df (P := l.prog) (w := w) (base := base) F1 (ok_SW (T := [(p0, posD nW, qW), (p1, posD nS, qS), (p2, posD nU, qU), (p3, posD nL, qL)]) F1 (by simp) m_tuple)
  have w2 := y2.df (P := l.prog) (w := w) (base := base) F2 (ok_TU (T := [(p0, posD nW, qW), (p1, posD nS, qS), (p2, posD nU, qU), (p3, posD nL, qL)]) F2 (by simp))
  have w3 := y3.df (P := l.prog) (w := w) (base := base) F3 (ok_OW (T := [(p0, posD nW, qW), (p1, posD nS, qS), (p2, posD nU, qU), (p3, posD nL, qL)]) F3 (by simp))
  have q3 := e3.df (ok_SH e3.fn w0)
  have q4 := e4.df (P := l.prog) (w := w) (base := base) (ok_cell e4.fn m_len)
  have q5 := e5.df (P := l.prog) (w := w) (base := base) (ok_mix e5.fn)
  have q6 := e6.df (P := l.prog) (w := w) (base := base) (ok_beg e6.fn m_max)
  have q7 := e7.df (ok_pull (T := [(p0, posD nW, qW), (p1, posD nS, qS), (p2, posD nU, qU), (p3, posD nL, qL)]) e7.fn q5)
  have q8 := e8.df (ok_out e8.fn q7)
  have q9 := e9.df (ok_Li e9.fn q7 q8 m_range)
  have q10 := e10.df (P := l.prog) (w := w) (base := base) (ok_Sd (T := [(p0, posD nW, qW), (p1, posD nS, qS), (p2, posD nU, qU), (p3, posD nL, qL)]) e10.fn m_enumerate m_int)
  have q11 := e11.df (ok_BW e11.fn q9 q7 q3 w0 w3 m_list)
  have q12 := e12.df (ok_TO e12.fn q7 w2 w1 q10 m_range)
  have q13 := e13.df (ok_Rt (N _) e13.fn q7 Wk m_range m_isinstance m_tuple)
  exact ok_law e14.fn q4 q6 q11 q13 q7 q12 m_range m_max m_min m_len
theorem walk {l : OpenLaw} {q : Program} {loose : List Str} {XP : (Str → Option Value) → Heap → Prop} {YP : World → Heap → Prop} {d : DefRec} {K : Params → Frag} (hn : l.most = some 63) (hdf : d.params.defaults = [])
    {ts : List Addr} (hY : ∀ (w : World) (h : Heap), YP w h → (K w.params).In h ∧ ∀ b ∈ ts, h.get? b = some (tabObj #[]))
    (F : ∀ (w : World) (mg : Str → Option Value) (fa : Addr) (h : Heap), (K w.params).In h → (∀ b ∈ ts, h.get? b = some (tabObj #[])) → h.Ns mainGlobals mg → (∃ bm ob, mg "__builtins__" = some (.ref bm) ∧ bm ≠ builtinsNs ∧ h.get? bm = some ob ∧ ob.cls = .type "module" ∧ ob.dict = some builtinsNs ∧ ob.data = .plain) → mg d.name = some (.ref fa) →
      ∃ (fd : FuncData) (T : Tbs) (K2 : Frag), (∀ (s : Shared) (u : Value), BindsTo s fd ⟨[u], []⟩ [("_law_script", u)]) ∧ K2.In h ∧ (∀ b ∈ pls T, K2.lookup b = none) ∧ TbH T h ∧ ∀ base : Heap, K2.In base → base.Ns mainGlobals mg → FnOk l.prog w K2 mg base CX0 9 fa fd ["_law_script"] (spLaw K2 T)) :
    WalkO q loose XP YP l.row.toRowW d [] (fun f vs => PySem.call f vs) :=
  L2.walk_ofT (n := 63) (k := 9) (x := "_law_script") (sp := fun K2 T => spLaw K2 T) hn (by decide) hdf ⟨rfl, by decide, by decide, rfl⟩ hY F fun _ T H a ns hl hS ti => ⟨a, ns, rfl, hS, hl, ti, fun _ => rfl⟩
end My
open PySem PySem.W PyProof.Rows
set_option Elab.async false
set_option maxRecDepth 100000 in
set_option maxHeartbeats 0 in
theorem PySem.Challenge.cw_trialdeal_k59_worlds_holds : PySem.Challenge.rw_trialdeal_k59_worlds.Holds := by
  w_on; o_law; k_head; (case hw => w_witness2)
  k_fill
  refine My.walk (l := PySem.Challenge.rw_trialdeal_k59_worlds) rfl rfl (fun w h Y => ⟨PySem.W.km_in_of Y, PySem.W.km_tabs_of Y⟩) ?F
  case F =>
    intro w mg fa h KX tabs G hbm hmg
    refine' My.all_mk KX G hmg ?f_z_isinstance ?f_z_int ?f_z_bool ?f_z_tuple ?f_z_len ?f_z_max ?f_z_min ?f_z_range ?f_z_enumerate ?f_z_list hbm
      (My.dn_of My.bp0 KX G ?f_A0 ?f_L0 ?f_C0 ?f_K0)
      (My.dn_of My.bp1 KX G ?f_A1 ?f_L1 ?f_C1 ?f_K1)
      (My.dn_of My.bp2 KX G ?f_A2 ?f_L2 ?f_C2 ?f_K2)
      (My.dn_of My.bp3 KX G ?f_A3 ?f_L3 ?f_C3 ?f_K3)
      (My.dn_of My.bp4 KX G ?f_A4 ?f_L4 ?f_C4 ?f_K4)
      (My.dn_of My.bp5 KX G ?f_A5 ?f_L5 ?f_C5 ?f_K5)
      (My.dn_of My.bp6 KX G ?f_A6 ?f_L6 ?f_C6 ?f_K6)
      (My.dn_of My.bp7 KX G ?f_A7 ?f_L7 ?f_C7 ?f_K7)
      (My.dn_of My.bp8 KX G ?f_A8 ?f_L8 ?f_C8 ?f_K8)
      (My.dn_of My.bp9 KX G ?f_A9 ?f_L9 ?f_C9 ?f_K9)
      (My.dn_of My.bp10 KX G ?f_A10 ?f_L10 ?f_C10 ?f_K10)
      (My.dn_of My.bp11 KX G ?f_A11 ?f_L11 ?f_C11 ?f_K11)
      (My.dn_of My.bp12 KX G ?f_A12 ?f_L12 ?f_C12 ?f_K12)
      (My.dn_of My.bp13 KX G ?f_A13 ?f_L13 ?f_C13 ?f_K13)
      (My.dn_of My.bp14 KX G ?f_A14 ?f_L14 ?f_C14 ?f_K14)
      (My.mkr_of My.bk0 KX G ?f_MA0 ?f_ML0 ?f_MC0 ?f_MD0 ?f_ME0 ?f_MF0 ?f_MG0 ?f_MH0 ?f_MI0 tabs ?f_MT0)
      (My.mkr_of My.bk1 KX G ?f_MA1 ?f_ML1 ?f_MC1 ?f_MD1 ?f_ME1 ?f_MF1 ?f_MG1 ?f_MH1 ?f_MI1 tabs ?f_MT1)
      (My.mkr_of My.bk2 KX G ?f_MA2 ?f_ML2 ?f_MC2 ?f_MD2 ?f_ME2 ?f_MF2 ?f_MG2 ?f_MH2 ?f_MI2 tabs ?f_MT2)
      (My.mkr_of My.bk3 KX G ?f_MA3 ?f_ML3 ?f_MC3 ?f_MD3 ?f_ME3 ?f_MF3 ?f_MG3 ?f_MH3 ?f_MI3 tabs ?f_MT3)
      ?f_nd (fun s v => .of_eq rfl)
    (case f_z_isinstance => k_is); (case f_z_int => k_is); (case f_z_bool => k_is); (case f_z_tuple => k_is); (case f_z_len => k_is); (case f_z_max => k_is); (case f_z_min => k_is); (case f_z_range => k_is); (case f_z_enumerate => k_is); (case f_z_list => k_is)
    (case f_A0 => k_is); (case f_L0 => k_is); (case f_C0 => k_is); (case f_K0 => k_is)
    (case f_A1 => k_is); (case f_L1 => k_is); (case f_C1 => k_is); (case f_K1 => k_is)
    (case f_A2 => k_is); (case f_L2 => k_is); (case f_C2 => k_is); (case f_K2 => k_is)
    (case f_A3 => k_is); (case f_L3 => k_is); (case f_C3 => k_is); (case f_K3 => k_is)
    (case f_A4 => k_is); (case f_L4 => k_is); (case f_C4 => k_is); (case f_K4 => k_is)
    (case f_A5 => k_is); (case f_L5 => k_is); (case f_C5 => k_is); (case f_K5 => k_is)
    (case f_A6 => k_is); (case f_L6 => k_is); (case f_C6 => k_is); (case f_K6 => k_is)
    (case f_A7 => k_is); (case f_L7 => k_is); (case f_C7 => k_is); (case f_K7 => k_is)
    (case f_A8 => k_is); (case f_L8 => k_is); (case f_C8 => k_is); (case f_K8 => k_is)
    (case f_A9 => k_is); (case f_L9 => k_is); (case f_C9 => k_is); (case f_K9 => k_is)
    (case f_A10 => k_is); (case f_L10 => k_is); (case f_C10 => k_is); (case f_K10 => k_is)
    (case f_A11 => k_is); (case f_L11 => k_is); (case f_C11 => k_is); (case f_K11 => k_is)
    (case f_A12 => k_is); (case f_L12 => k_is); (case f_C12 => k_is); (case f_K12 => k_is)
    (case f_A13 => k_is); (case f_L13 => k_is); (case f_C13 => k_is); (case f_K13 => k_is)
    (case f_A14 => k_is); (case f_L14 => k_is); (case f_C14 => k_is); (case f_K14 => k_is)
    (case f_MA0 => k_is); (case f_ML0 => k_is); (case f_MC0 => k_is); (case f_MD0 => k_is)
    (case f_ME0 => exact rfl); (case f_MF0 => exact ⟨_, _, rfl⟩); (case f_MG0 => exact ⟨_, _, rfl⟩); (case f_MH0 => exact ⟨_, rfl⟩); (case f_MI0 => exact ⟨_, _, rfl⟩)
    (case f_MT0 => decide)
    (case f_MA1 => k_is); (case f_ML1 => k_is); (case f_MC1 => k_is); (case f_MD1 => k_is)
    (case f_ME1 => exact rfl); (case f_MF1 => exact ⟨_, _, rfl⟩); (case f_MG1 => exact ⟨_, _, rfl⟩); (case f_MH1 => exact ⟨_, rfl⟩); (case f_MI1 => exact ⟨_, _, rfl⟩)
    (case f_MT1 => decide)
    (case f_MA2 => k_is); (case f_ML2 => k_is); (case f_MC2 => k_is); (case f_MD2 => k_is)
    (case f_ME2 => exact rfl); (case f_MF2 => exact ⟨_, _, rfl⟩); (case f_MG2 => exact ⟨_, _, rfl⟩); (case f_MH2 => exact ⟨_, rfl⟩); (case f_MI2 => exact ⟨_, _, rfl⟩)
    (case f_MT2 => decide)
    (case f_MA3 => k_is); (case f_ML3 => k_is); (case f_MC3 => k_is); (case f_MD3 => k_is)
    (case f_ME3 => exact rfl); (case f_MF3 => exact ⟨_, _, rfl⟩); (case f_MG3 => exact ⟨_, _, rfl⟩); (case f_MH3 => exact ⟨_, rfl⟩); (case f_MI3 => exact ⟨_, _, rfl⟩)
    (case f_MT3 => decide)
    (case f_nd => decide)
