import PyProof.Rows.All
import Wide.All
import OpenK.AllK
import Wide.FinOn
import Lean
import PyProof.EqAt
import PyProof.EqKinds
import PyProof.TupleCall
import PyProof.ExcClass2
import PyProof.InstStoreFacts
import PyProof.ExcArgs
import PyProof.ExcInit
import PyProof.ExcBaseAll.ValueError
import KE.KIsAll
import PyProof.RulesRaise
import PyProof.RulesAs
import PyProof.RaisesMany
import PyProof.NeKinds
import PyProof.EnumFor
import PyProof.EnumStmt
import PyProof.EnumMake
import PyProof.Rows.EnumRows
import PyProof.CompFree
import KE.KIntText
import PyProof.StrBlockG
import PyProof.StrBlockH
import PyProof.StrWalks
import PyProof.Rows.StrNews2
import PyProof.Rows.StrOr
import PyProof.Rows.Digits
import PyProof.StrBlockL
import PyProof.MeetsStr2
import PyProof.CompMap
import KE.IntTextLaws
import PyProof.Rows.StrPartPair
import PyProof.StrLawsTight
import PyProof.StrLawsChain
import PyProof.Rows.StrIntSpec
import PyProof.Rows.StrItems
import KE.KNest
import KE.KLam
import PyProof.ReprRoads
import PyProof.ReprBulk
import PyProof.FitsInt
import PyProof.CallFns
import PyProof.Rows.FactsT3
import PyProof.ListRange
import PyProof.TupleOfSeq
import PyProof.TupleOfGen
import PyProof.ConsumeWalk
import PyProof.Rows.SeqGen
import PyProof.CompUse
import KE.KUnpack
import PyProof.Draws
import PyProof.Rows.RuleB_bool
import PyProof.WalkInts
import PyProof.SeqI3
import KE.KRevSl
import KE.BitLaws
import PyProof.Rows.SumAny
import PySem.Challenge.RW_trialdeal_k60_outcomes_under
set_option Elab.async false
set_option linter.all false
set_option maxRecDepth 100000
namespace L2
open PySem PySem.Spec PyProof.Rows
abbrev Key := Sum Int Str
def keyIs : Key → Value → Bool
  | .inl k, v => Value.isInt k v
  | .inr x, v => Value.isStrOf x v
def keyH (w : World) : Key → Int
  | .inl k => hashInt k
  | .inr x => hashStr w x
theorem keyIs_shape : ∀ {k : Key} {v : Value}, keyIs k v = true → (∃ i t, k = Sum.inl i ∧ v = Value.int i t) ∨ (∃ x t, k = Sum.inr x ∧ v = Value.str x t)
  | .inl i, v, h => by
    obtain ⟨t, e⟩ := Value.isInt_shape (k := i) (v := v) h
    exact .inl ⟨i, t, rfl, e⟩
  | .inr x, v, h => by
    obtain ⟨t, e⟩ := Value.isStrOf_shape (x := x) (v := v) h
    exact .inr ⟨x, t, rfl, e⟩
theorem key_ll (a b : Int) : decide ((Sum.inl a : Key) = Sum.inl b) = (a == b) := by
  by_cases e : a = b
  · subst e; simp
  · have h : ¬ (Sum.inl a : Key) = Sum.inl b := fun q => e (Sum.inl.inj q)
    rw [decide_eq_false h]
    exact (beq_eq_false_iff_ne.mpr e).symm
theorem key_rr (a b : Str) : decide ((Sum.inr a : Key) = Sum.inr b) = decide (a = b) := by
  by_cases e : a = b
  · subst e; simp
  · have h : ¬ (Sum.inr a : Key) = Sum.inr b := fun q => e (Sum.inr.inj q)
    rw [decide_eq_false h, decide_eq_false e]
theorem key_lr (a : Int) (b : Str) : decide ((Sum.inl a : Key) = Sum.inr b) = false := decide_eq_false (fun q => nomatch q)
theorem key_rl (a : Str) (b : Int) : decide ((Sum.inr a : Key) = Sum.inl b) = false := decide_eq_false (fun q => nomatch q)
def mixKind (prog : Program) (w : World) : PySem.KeyKind prog w Key where
  is := keyIs
  hash := keyH w
  inj := fun v a b ha hb => by
    rcases keyIs_shape ha with ⟨i, t, rfl, rfl⟩ | ⟨x, t, rfl, rfl⟩
    · rcases keyIs_shape hb with ⟨j, u, rfl, e⟩ | ⟨y, u, rfl, e⟩
      · injection e with e1 _; rw [e1]
      · exact nomatch e
    · rcases keyIs_shape hb with ⟨j, u, rfl, e⟩ | ⟨y, u, rfl, e⟩
      · exact nomatch e
      · injection e with e1 _; rw [e1]
  byValue := fun k v h => by
    rcases keyIs_shape h with ⟨i, t, rfl, rfl⟩ | ⟨x, t, rfl, rfl⟩ <;> rfl
  pyHash := fun hv h => by
    rcases keyIs_shape hv with ⟨i, t, rfl, rfl⟩ | ⟨x, t, rfl, rfl⟩
    · exact wpAny_pyHash_int h
    · exact wpAny_pyHash_str h
  eqBool := fun hu hv h => by
    rcases keyIs_shape hu with ⟨i, t, rfl, rfl⟩ | ⟨x, t, rfl, rfl⟩
    · rcases keyIs_shape hv with ⟨j, u, rfl, rfl⟩ | ⟨y, u, rfl, rfl⟩
      · rw [key_ll] at h; exact wpAny_eqBool_int h
      · rw [key_lr] at h; exact SeqAt.EqAt.int_str i t y u _ _ _ _ h
    · rcases keyIs_shape hv with ⟨j, u, rfl, rfl⟩ | ⟨y, u, rfl, rfl⟩
      · rw [key_rl] at h; exact SeqAt.EqAt.str_int x t j u _ _ _ _ h
      · rw [key_rr] at h; exact wpAny_eqBool_str h
  «strs» := fun k x t v h => by
    rcases keyIs_shape h with ⟨i, u, rfl, e⟩ | ⟨y, u, rfl, e⟩
    · exact nomatch e
    · injection e with e1 _
      subst e1
      cases v <;> rfl
theorem mixKind_is (prog : Program) (w : World) (k : Key) (v : Value) : (mixKind prog w).is k v = keyIs k v := rfl
end L2
namespace L2
open PySem PySem.Spec PyProof.Rows
inductive V where
  | non | bl (b : Bool) | int (i : Int) | str (x : Str) | byt (b : Array UInt8) | flt (b : UInt64) | ref (a : Addr) | ty (n : String)
  deriving DecidableEq
def RelV : V → Value → Prop
  | .non, u => u = Value.none
  | .bl b, u => u = Value.bool b
  | .int i, u => ∃ t, u = Value.int i t
  | .str x, u => ∃ t, u = Value.str x t
  | .byt b, u => ∃ t, u = Value.bytes b t
  | .flt b, u => ∃ t, u = Value.float b t
  | .ref a, u => u = Value.ref a
  | .ty n, u => u = Value.type n
abbrev Vals : List V → List Value → Prop := Paired RelV
theorem Vals.length {xs : List V} {us : List Value} (r : Vals xs us) : xs.length = us.length := Paired.length r
theorem Vals.get : ∀ {xs : List V} {us : List Value} {i : Nat} {x : V}, Vals xs us → xs[i]? = some x → ∃ u, us[i]? = some u ∧ RelV x u
  | _, _, _, _, .nil, e => by simp at e
  | _, _, 0, _, .cons r _, e => by simp at e; subst e; exact ⟨_, rfl, r⟩
  | _, _, i + 1, x, .cons _ t, e => by
    obtain ⟨u, h1, h2⟩ := Vals.get (i := i) (x := x) t (by simpa using e)
    exact ⟨u, by simpa using h1, h2⟩
theorem Vals.set {x : V} {u : Value} (r : RelV x u) : ∀ {xs : List V} {us : List Value} (i : Nat), Vals xs us → Vals (xs.set i x) (us.set i u)
  | _, _, _, .nil => .nil
  | _, _, 0, .cons _ t => .cons r t
  | _, _, i + 1, .cons q t => .cons q (Vals.set r i t)
theorem Vals.append : ∀ {xs ys : List V} {us ws : List Value}, Vals xs us → Vals ys ws → Vals (xs ++ ys) (us ++ ws)
  | _, _, _, _, .nil, s => s
  | _, _, _, _, .cons r t, s => .cons r (Vals.append t s)
theorem Vals.take : ∀ {xs : List V} {us : List Value} (n : Nat), Vals xs us → Vals (xs.take n) (us.take n)
  | _, _, 0, _ => .nil
  | _, _, _ + 1, .nil => .nil
  | _, _, n + 1, .cons r t => .cons r (Vals.take n t)
theorem Vals.drop : ∀ {xs : List V} {us : List Value} (n : Nat), Vals xs us → Vals (xs.drop n) (us.drop n)
  | _, _, 0, r => r
  | _, _, _ + 1, .nil => .nil
  | _, _, n + 1, .cons _ t => Vals.drop n t
def RelO : Option V → Option Value → Prop
  | some v, some u => RelV v u
  | none, none => True
  | _, _ => False
def KV {κ : Type} : List (κ × V) → List (κ × Value) → Prop := Paired fun (p : κ × V) (q : κ × Value) => p.1 = q.1 ∧ RelV p.2 q.2
def kV : Key → V
  | .inl i => .int i
  | .inr x => .str x
inductive HO where
  | lst (xs : List V)
  | tup (xs : List V)
  | dK (kvs : List (Key × V)) | dT (kvs : List (List Key × V))
  | set (S : Int → Bool) (n : Nat)
  | ins (C dx : Addr) (fs : List (Str × V))
  | own (x : Addr)
  | xd (fs : List (Str × V))
  | met (f x : Addr)
  | rng (lo hi : Int)
  | frz (o : Obj) (u : HO)
  | tbl (ps : Array Value)
  | ext (φ : Heap → Prop)
abbrev Hp := Addr → Option HO
def upd (H : Hp) (a : Addr) (o : HO) : Hp := fun b => if b = a then some o else H b
theorem upd_same {H : Hp} {a : Addr} {o : HO} : upd H a o a = some o := by unfold upd; rw [if_pos rfl]
theorem upd_ne {H : Hp} {a b : Addr} {o : HO} (h : b ≠ a) : upd H a o b = H b := by unfold upd; rw [if_neg h]
theorem upd_upd {H : Hp} {a : Addr} {o u : HO} : upd (upd H a o) a u = upd H a u := by
  funext b; unfold upd; split <;> rfl
theorem ne_of_none {H : Hp} {a b : Addr} {o : HO} (h : H a = some o) (h' : H b = none) : a ≠ b := by
  intro e; subst e; rw [h] at h'; cases h'
section
variable (P : Program) (w : World)
def ObjOk (H : Hp) (h : Heap) (a : Addr) : HO → Prop
  | .lst xs => xs.length ≤ sizeLine ∧ ∃ (its : List Value) (n : Nat), Vals xs its ∧ h.get? a = some { cls := .type "list", data := .seq its.toArray n }
  | .tup xs => xs.length ≤ sizeLine ∧ ∃ its : List Value, Vals xs its ∧ IsTup h a its.toArray
  | .dK kvs => kvs.length ≤ sizeLine ∧ (a == sysModules) = false ∧ ∃ vs, KV kvs vs ∧ h.DictOf (mixKind P w) a vs
  | .dT kvs => kvs.length ≤ sizeLine ∧ (a == sysModules) = false ∧ ∃ xs : List (List Key × Addr × Value),
      Paired (fun (p : List Key × V) (q : List Key × Addr × Value) => p.1 = q.1 ∧ H q.2.1 = some (.tup (p.1.map kV)) ∧ RelV p.2 q.2.2) kvs xs ∧
      ∃ o es ep, h.get? a = some o ∧ o.ExactDict ∧ o.data = .dict es ep ∧ es.toList = xs.map (entryOfKey (tupleKind (mixKind P w))) ∧ (xs.map (·.1)).Nodup
  | .set S n => h.SetOf (intKind P w) a S n
  | .ins C dx fs => H dx = some (.own a) ∧ fs.length ≤ 1000 ∧ dx ≠ a ∧ h.get? a = some (PySem.W.instObj C dx) ∧
      ∃ mA, h.Ns1 dx mA ∧ (∀ f, RelO (fs.lookup f) (mA f)) ∧ PySem.Within mA (fs.map (·.1))
  | .own _ => ∃ o, h.get? a = some o
  | .xd fs => ∃ mA, h.Ns1 a mA ∧ ∀ f, RelO (fs.lookup f) (mA f)
  | .rng lo hi => ∃ t u v, h.get? a = some { cls := .type "range", data := .fields #[.int lo t, .int hi u, .int 1 v] }
  | .frz o u => h.get? a = some o ∧ ObjOk H h a u
  | .tbl ps => h.get? a = some { cls := .none, data := .fields ps }
  | .met f x => h.get? a = some (PySem.W.methodObj (.ref f) (.ref x))
  | .ext φ => φ h ∧ (∃ o, h.get? a = some o) ∧ ∀ h1 h2 : Heap, φ h1 → (∀ o, h1.get? a = some o → h2.get? a = some o) → φ h2
def HOk (H : Hp) (h : Heap) : Prop := ∀ a o, H a = some o → ObjOk P w H h a o
end
section
variable {P : Program} {w : World} {H H' : Hp} {h h' : Heap} {a : Addr} {o : HO}
theorem ObjOk.lt (x : ObjOk P w H h a o) : a < h.objs.size := by
  cases o with
  | lst xs => obtain ⟨_, _, _, _, e⟩ := x; exact Heap.lt_size e
  | tup xs => obtain ⟨_, _, _, p⟩ := x; exact p.lt
  | dK kvs => obtain ⟨_, _, _, _, o, _, _, e, _⟩ := x; exact Heap.lt_size e
  | dT kvs => obtain ⟨_, _, _, _, o, _, _, e, _⟩ := x; exact Heap.lt_size e
  | set S n => obtain ⟨o, _, _, _, e, _⟩ := x; exact Heap.lt_size e
  | ins C dx fs => obtain ⟨_, _, _, e, _⟩ := x; exact Heap.lt_size e
  | own y => obtain ⟨_, e⟩ := x; exact Heap.lt_size e
  | xd fs => obtain ⟨_, ⟨_, _, _, e, _⟩, _⟩ := x; exact Heap.lt_size e
  | rng lo hi => obtain ⟨_, _, _, e⟩ := x; exact Heap.lt_size e
  | frz ob u => obtain ⟨e, _⟩ := x; exact Heap.lt_size e
  | tbl ps => exact Heap.lt_size (show h.get? a = some _ from x)
  | met f y => exact Heap.lt_size (show h.get? a = some _ from x)
  | ext φ => obtain ⟨_, ⟨_, e⟩, _⟩ := x; exact Heap.lt_size e
theorem Paired.mapP {α β : Type} {F G : α → β → Prop} : ∀ {l₁ : List α} {l₂ : List β}, Paired F l₁ l₂ → (∀ a b, F a b → G a b) → Paired G l₁ l₂
  | _, _, .nil, _ => .nil
  | _, _, .cons r t, f => .cons (f _ _ r) (Paired.mapP t f)
theorem ObjOk.stay (x : ObjOk P w H h a o) (k : ∀ b u, (b = a ∨ H b = some (.own a)) → h.get? b = some u → h'.get? b = some u)
    (ho : ∀ b, H b = some (.own a) → H' b = some (.own a)) (ht : ∀ b xs, H b = some (.tup xs) → H' b = some (.tup xs)) : ObjOk P w H' h' a o := by
  induction o with
  | lst xs => obtain ⟨z, its, n, r, e⟩ := x; exact ⟨z, its, n, r, k _ _ (.inl rfl) e⟩
  | tup xs => obtain ⟨z, its, r, ob, e, c⟩ := x; exact ⟨z, its, r, ob, k _ _ (.inl rfl) e, c⟩
  | dK kvs => obtain ⟨z, y, vs, r, ob, es, ep, e, c⟩ := x; exact ⟨z, y, vs, r, ob, es, ep, k _ _ (.inl rfl) e, c⟩
  | dT kvs =>
    obtain ⟨z, y, xs, r, ob, es, ep, e, c⟩ := x
    exact ⟨z, y, xs, Paired.mapP r fun p q z => ⟨z.1, ht _ _ z.2.1, z.2.2⟩, ob, es, ep, k _ _ (.inl rfl) e, c⟩
  | set S n => obtain ⟨ob, es, ep, t, e, c⟩ := x; exact ⟨ob, es, ep, t, k _ _ (.inl rfl) e, c⟩
  | ins C dx fs =>
    obtain ⟨d, z, ne, e, mA, ⟨od, es, ep, e2, c⟩, r⟩ := x
    exact ⟨ho _ d, z, ne, k _ _ (.inl rfl) e, mA, ⟨od, es, ep, k _ _ (.inr d) e2, c⟩, r⟩
  | own y => obtain ⟨ob, e⟩ := x; exact ⟨ob, k _ _ (.inl rfl) e⟩
  | xd fs => obtain ⟨mA, ⟨od, es, ep, e, c⟩, r⟩ := x; exact ⟨mA, ⟨od, es, ep, k _ _ (.inl rfl) e, c⟩, r⟩
  | rng lo hi => obtain ⟨t, u, v, e⟩ := x; exact ⟨t, u, v, k _ _ (.inl rfl) e⟩
  | frz ob u ih => obtain ⟨e, q⟩ := x; exact ⟨k _ _ (.inl rfl) e, ih q⟩
  | tbl ps =>
    have e : h.get? a = some { cls := .none, data := .fields ps } := x
    show h'.get? a = some { cls := .none, data := .fields ps }
    exact k a _ (.inl rfl) e
  | met f y =>
    have e : h.get? a = some (PySem.W.methodObj (.ref f) (.ref y)) := x
    show h'.get? a = some (PySem.W.methodObj (.ref f) (.ref y))
    exact k a _ (.inl rfl) e
  | ext φ => obtain ⟨p, ⟨o, e⟩, st⟩ := x; exact ⟨st _ _ p fun o q => k _ _ (.inl rfl) q, ⟨o, k _ _ (.inl rfl) e⟩, st⟩
theorem HOk.lt (x : HOk P w H h) (e : H a = some o) : a < h.objs.size := (x a o e).lt
theorem HOk.fresh (x : HOk P w H h) (e : h.objs.size ≤ a) : H a = none := by
  cases q : H a with
  | none => rfl
  | some u => exact absurd (Nat.lt_of_lt_of_le (x.lt q) e) (Nat.lt_irrefl _)
theorem HOk.kept (x : HOk P w H h) (k : ∀ b u, h.get? b = some u → h'.get? b = some u) : HOk P w H h' := fun a o e =>
  (x a o e).stay (fun b u _ q => k b u q) (fun _ q => q) fun _ _ q => q
theorem HOk.laid (x : HOk P w H h) (k : ∀ b u, h.get? b = some u → h'.get? b = some u) (hp : h.objs.size ≤ a) (new : ObjOk P w (upd H a o) h' a o) : HOk P w (upd H a o) h' := fun b u e => by
  have hn := x.fresh hp
  by_cases hb : b = a
  · subst hb; rw [upd_same] at e; cases e; exact new
  · rw [upd_ne hb] at e
    exact (x b u e).stay (fun c v _ q => k c v q) (fun c q => by rw [upd_ne (ne_of_none q hn)]; exact q) fun c xs q => by rw [upd_ne (ne_of_none q hn)]; exact q
end
def Rd (H : Hp) (a : Addr) (u : HO) : Prop := H a = some u ∨ ∃ o, H a = some (.frz o u)
theorem Rd.ok {P : Program} {w : World} {H : Hp} {h : Heap} {a : Addr} {u : HO} (r : Rd H a u) (x : HOk P w H h) : ObjOk P w H h a u := by
  rcases r with r | ⟨o, r⟩
  · exact x a u r
  · obtain ⟨_, q⟩ := x a _ r
    exact q
def Mut : Option HO → Prop
  | some (.lst _) => True
  | some (.dK _) => True
  | some (.dT _) => True
  | some (.set _ _) => True
  | some (.ins _ _ _) => True
  | some (.ext _) => True
  | _ => False
section
variable {P : Program} {w : World} {H : Hp} {h h' : Heap} {x e : Addr} {o' : HO}
theorem HOk.write (ok : HOk P w H h) (mu : Mut (H x)) (he : e = x ∨ H e = some (.own x)) (k : ∀ b u, b ≠ e → h.get? b = some u → h'.get? b = some u) (heo : ∃ u, h'.get? e = some u)
    (new : ObjOk P w (upd H x o') h' x o') : HOk P w (upd H x o') h' := fun b u q => by
  have nown : ∀ c y, H c = some (.own y) → c ≠ x := fun c y r z => by subst z; rw [r] at mu; exact mu
  have ntup : ∀ c xs, H c = some (.tup xs) → c ≠ x := fun c xs r z => by subst z; rw [r] at mu; exact mu
  by_cases hb : b = x
  · subst hb; rw [upd_same] at q; cases q; exact new
  · rw [upd_ne hb] at q
    by_cases hbe : b = e
    · have q' : H b = some (.own x) := by
        rcases he with z | z
        · exact absurd (hbe.trans z) hb
        · rw [hbe]; exact z
      rw [q] at q'; cases q'
      obtain ⟨v, hv⟩ := heo
      exact ⟨v, by rw [hbe]; exact hv⟩
    · refine (ok b u q).stay (fun c v hc r => k c v ?_ r) (fun c r => by rw [upd_ne (nown c b r)]; exact r) fun c xs r => by rw [upd_ne (ntup c xs r)]; exact r
      rcases hc with rfl | hc
      · exact hbe
      · rintro rfl
        rcases he with z | z
        · exact nown c b hc z
        · rw [hc] at z; cases z; exact hb rfl
end
structure Un (fs ex : List Addr) (H H' : Hp) (h h' : Heap) : Prop where
  keep : ∀ b o, h.get? b = some o → H b = none → b ∉ fs → b ∉ ex → h'.get? b = some o
  slot : ∀ b o, h.get? b = some o → H b = none → b ∈ fs → b ∉ ex → ∃ sl, h'.get? b = some { o with slots := sl }
  free : ∀ b o, h.get? b = some o → H b = none → b ∉ ex → H' b = none
  there : ∀ b o, h.get? b = some o → b ∉ ex → ∃ o', h'.get? b = some o'
  tups : ∀ b xs, H b = some (.tup xs) → H' b = some (.tup xs)
  frzs : ∀ b o u, H b = some (.frz o u) → H' b = some (.frz o u)
  tbls : ∀ b ps, H b = some (.tbl ps) → ∃ more, H' b = some (.tbl (ps ++ more))
  sys : H sysModules = none → H' sysModules = none
section
variable {fs fs' ex ex' : List Addr} {H H1 H2 : Hp} {h h1 h2 h' : Heap} {a x e : Addr} {o : HO}
theorem Un.any (u : Un fs ex H H1 h h1) {b : Addr} {ob : Obj} (q : h.get? b = some ob) (n : H b = none) (hx : b ∉ ex) : ∃ sl, h1.get? b = some { ob with slots := sl } := by
  by_cases hb : b ∈ fs
  · exact u.slot b ob q n hb hx
  · exact ⟨ob.slots, u.keep b ob q n hb hx⟩
theorem Un.kept (k : ∀ b u, h.get? b = some u → h'.get? b = some u) : Un fs ex H H h h' :=
  ⟨fun b ob q _ _ _ => k b ob q, fun b ob q _ _ _ => ⟨ob.slots, k b ob q⟩, fun _ _ _ n _ => n, fun b ob q _ => ⟨ob, k b ob q⟩, fun _ _ q => q, fun _ _ _ q => q, fun _ ps q => ⟨#[], by rw [q]; simp⟩, fun q => q⟩
theorem Un.refl : Un fs ex H H h h := Un.kept fun _ _ q => q
theorem Un.laid (k : ∀ b u, h.get? b = some u → h'.get? b = some u) (hp : h.objs.size ≤ a) (hn : H a = none) (hz : sysModules < h.objs.size) : Un fs ex H (upd H a o) h h' where
  sys := fun q => by rw [upd_ne (Nat.ne_of_lt (Nat.lt_of_lt_of_le hz hp))]; exact q
  keep := fun b u q _ _ _ => k b u q
  slot := fun b u q _ _ _ => ⟨u.slots, k b u q⟩
  free := fun b u q n _ => by rw [upd_ne (Nat.ne_of_lt (Nat.lt_of_lt_of_le (Heap.lt_size q) hp))]; exact n
  there := fun b u q _ => ⟨u, k b u q⟩
  tups := fun b xs q => by rw [upd_ne (ne_of_none q hn)]; exact q
  frzs := fun b u xs q => by rw [upd_ne (ne_of_none q hn)]; exact q
  tbls := fun b ps q => ⟨#[], by rw [upd_ne (ne_of_none q hn), q]; simp⟩
theorem Un.write (mu : Mut (H x)) (he : e = x ∨ H e = some (.own x)) (k : ∀ b u, b ≠ e → h.get? b = some u → h'.get? b = some u) (heo : ∃ u, h'.get? e = some u) : Un fs ex H (upd H x o) h h' := by
  have hx : ∀ b, H b = none → b ≠ x := fun b n z => by subst z; rw [n] at mu; exact mu
  have hb : ∀ b, H b = none → b ≠ e := fun b n z => by
    subst z
    rcases he with r | r
    · exact hx b n r
    · rw [n] at r; cases r
  have hm : ∀ b u, H b = some u → ¬ Mut (some u) → b ≠ x := fun b u q nm z => by subst z; rw [q] at mu; exact nm mu
  refine ⟨fun b u q n _ _ => k b u (hb b n) q, fun b u q n _ _ => ⟨u.slots, k b u (hb b n) q⟩, fun b u q n _ => by rw [upd_ne (hx b n)]; exact n, fun b u q _ => ?_,
    fun b xs q => by rw [upd_ne (hm b _ q fun z => z)]; exact q, fun b u xs q => by rw [upd_ne (hm b _ q fun z => z)]; exact q, fun b ps q => ⟨#[], by rw [upd_ne (hm b _ q fun z => z), q]; simp⟩, fun q => by rw [upd_ne (hx _ q)]; exact q⟩
  by_cases hbe : b = e
  · subst hbe; exact heo
  · exact ⟨u, k b u hbe q⟩
end
def trk (h : Heap) (H : Hp) : List Addr := (List.range h.objs.size).filter fun a => (H a).isSome
def hidT (h : Heap) (H : Hp) : Heap := PySem.W.hideAll h (trk h H)
theorem hidT_size (h : Heap) (H : Hp) : (hidT h H).objs.size = h.objs.size := PySem.W.hideAll_size _ _
theorem hidT_get {h : Heap} {H : Hp} {b : Addr} {o : Obj} (e : h.get? b = some o) (n : H b = none) : (hidT h H).get? b = some o :=
  PySem.W.hideAll_get _ e fun hm => by
    have q : (H b).isSome = true := (List.mem_filter.mp hm).2
    rw [n] at q; simp at q
theorem of_hidT {h : Heap} {H : Hp} {b : Addr} {o : Obj} (e : (hidT h H).get? b = some o) : h.get? b = some o ∧ H b = none := by
  have e' : h.get? b = some o := PySem.W.of_hideAll (trk h H) e
  refine ⟨e', ?_⟩
  cases q : H b with
  | none => rfl
  | some x =>
    have hm : b ∈ trk h H := List.mem_filter.mpr ⟨List.mem_range.mpr (Heap.lt_size e'), by simp [q]⟩
    have z : (hidT h H).get? b = none := PySem.W.hideAll_none (trk h H) hm
    rw [z] at e; cases e
def allNews (g h : Heap) (L : Addr) : List (Addr × Obj) := (List.range h.objs.size).filterMap fun a => if a = L ∨ (g.get? a).isSome = true then none else (h.get? a).map fun o => (a, o)
def rest (g h : Heap) (L d : Addr) : List (Addr × Obj) := (allNews g h L).filter fun p => decide (p.1 ≠ d)
end L2
namespace L2
open PySem PySem.Spec PyProof.Rows
structure Mod (K : PySem.W.Frag) (mg : Str → Option Value) (base : Heap) : Prop where
  kin : K.In base
  glob : base.Ns mainGlobals mg
  blt : ∃ mb, base.Ns builtinsNs mb ∧ ∀ x : Str, x ≠ "__name__" → mb x = bootBuiltins x
  nolimit : base.NoLimit
structure Cx where
  prog : Program
  w : World
  K : PySem.W.Frag
  mg : Str → Option Value
  base : Heap
  A : Around
  N : List Str
  s₀ : Shared
  H₀ : Hp
  env : Env
  outer : List Env
  stack : List Env
  ex : List Addr
  fn : Str → Bool
  calm : Bool
  pn : List (Addr × Obj)
  xe : Value → Shared → Prop
def frs (l : List Env) : List Addr := l.filterMap (·.frame)
abbrev Cx.fs (X : Cx) : List Addr := frs X.outer
def Vis (sc : Scope) (x : Str) : Prop := sc.names.lookup x = some .local ∨ sc.names.lookup x = some .cell ∨ sc.names.lookup x = some .free
def Loc (sc : Scope) (x : Str) : Prop := sc.names.lookup x = some .local ∨ sc.names.lookup x = some .cell
def Look (env : Env) (h : Heap) (m : Str → Option Value) (x : Str) (u : Value) : Prop :=
  (env.kindOf x = some .local ∧ m x = some u) ∨ ((env.kindOf x = some .cell ∨ env.kindOf x = some .free) ∧ ∃ c, env.cells.lookup x = some c ∧ h.IsCell c (some u))
structure Cx.Ok (X : Cx) : Prop where
  mod : Mod X.K X.mg X.base
  kind : X.env.scope.kind = .function
  glob : X.env.globals = mainGlobals
  blt : X.env.builtins = builtinsNs
  above : X.s₀.heap.objs.size ≤ X.env.locals
  inj : ∀ x y c, X.env.cells.lookup x = some c → X.env.cells.lookup y = some c → x = y
  has : ∀ x, (X.env.kindOf x = some .cell ∨ X.env.kindOf x = some .free) → ∃ c, X.env.cells.lookup x = some c
  cab : ∀ x c, X.fn x = true → X.env.cells.lookup x = some c → X.s₀.heap.objs.size ≤ c
  hd : X.calm = true → X.A.handled = none
  frames : X.A.frames = some X.stack
  stk : X.stack = X.outer ∨ (X.stack = X.env :: X.outer ∧ X.env.frame = some X.env.locals)
  exf : ∀ b ∈ X.ex, b ≠ X.env.locals ∧ ∀ x c, X.env.cells.lookup x = some c → c ≠ b
  bs : ∀ b o, X.base.get? b = some o → X.s₀.heap.get? b = some o ∧ X.H₀ b = none
  bsz : X.base.objs.size ≤ X.s₀.heap.objs.size
  noex : ∀ b o, X.base.get? b = some o → b ∉ X.ex
  exfs : ∀ b ∈ X.ex, b ∉ X.fs
  funs : X.s₀.heap.FunFrames X.base X.outer
  frf : ∀ b ∈ X.fs, X.H₀ b = none
structure Inv (X : Cx) (pins : List (Addr × Obj)) (σ : List (Option V)) (H : Hp) (s : Shared) : Prop where
  ok : X.Ok
  os : s.os = X.s₀.os
  bare : AllBare s.gens
  base : Un X.fs X.ex X.H₀ H X.s₀.heap s.heap
  loc : ∃ m, s.heap.Ns X.env.locals m ∧ ∀ (i : Nat) (x : Str) (v : V), X.N[i]? = some x → σ[i]? = some (some v) → Vis X.env.scope x → ∃ u, RelV v u ∧ Look X.env s.heap m x u
  cell : ∀ x c, X.env.cells.lookup x = some c → ∃ v, s.heap.IsCell c v
  free : H X.env.locals = none
  freeC : ∀ x c, X.env.cells.lookup x = some c → H c = none
  pin : ∀ p ∈ X.pn ++ pins, s.heap.get? p.1 = some p.2 ∧ H p.1 = none ∧ p.1 ≠ X.env.locals ∧ p.1 ∉ X.fs ∧ ∀ v, p.2.data ≠ .cell v
  hok : HOk X.prog X.w H s.heap
  len : σ.length = X.N.length
section
variable {X : Cx} {pins : List (Addr × Obj)} {σ : List (Option V)} {H H' : Hp} {s : Shared} {h' : Heap}
theorem Cx.Ok.nofr (ok : X.Ok) {b : Addr} {o : Obj} (e : X.base.get? b = some o) : b ∉ X.fs := fun hb => by
  have := (ok.funs.mem hb).1
  rw [e] at this; cases this
theorem Inv.bs (I : Inv X pins σ H s) : ∀ b o, X.base.get? b = some o → s.heap.get? b = some o ∧ H b = none := fun b o e =>
  ⟨I.base.keep b o (I.ok.bs b o e).1 (I.ok.bs b o e).2 (I.ok.nofr e) (I.ok.noex b o e), I.base.free b o (I.ok.bs b o e).1 (I.ok.bs b o e).2 (I.ok.noex b o e)⟩
theorem Inv.bk (I : Inv X pins σ H s) : ∀ b o, X.base.get? b = some o → s.heap.get? b = some o := fun b o e => (I.bs b o e).1
theorem Inv.mod (I : Inv X pins σ H s) : Mod X.K X.mg X.base := I.ok.mod
theorem Inv.kIn (I : Inv X pins σ H s) : X.K.In s.heap := I.ok.mod.kin.keeps I.bk
theorem Inv.lt (I : Inv X pins σ H s) : X.env.locals < s.heap.objs.size := let ⟨_, hn, _⟩ := I.loc; hn.lt
theorem Inv.sz (I : Inv X pins σ H s) : X.s₀.heap.objs.size ≤ s.heap.objs.size := Nat.le_trans I.ok.above (Nat.le_of_lt I.lt)
theorem Inv.nofs (I : Inv X pins σ H s) {a : Addr} (h : s.heap.objs.size ≤ a) : a ∉ X.fs := fun hb => by
  obtain ⟨_, o, ho, _⟩ := I.ok.funs.mem hb
  exact absurd (Nat.lt_of_lt_of_le (Heap.lt_size ho) (Nat.le_trans I.sz h)) (Nat.lt_irrefl _)
theorem Inv.cne (I : Inv X pins σ H s) : ∀ x c, X.env.cells.lookup x = some c → c ≠ X.env.locals := fun x c e z => by
  obtain ⟨v, o, ho, hd⟩ := I.cell x c e
  obtain ⟨m, ⟨o', es, ep, ho', hd', _⟩, _⟩ := I.loc
  rw [z, ho'] at ho; cases ho; rw [hd'] at hd; cases hd
theorem Inv.funs (I : Inv X pins σ H s) : s.heap.FunFrames X.base X.outer := by
  have all : ∀ (l : List Env), (∀ b ∈ frs l, b ∈ X.fs) → X.s₀.heap.FunFrames X.base l → s.heap.FunFrames X.base l := by
    intro l
    induction l with
    | nil => intro _ _; trivial
    | cons env r ih =>
      intro hs hl
      obtain ⟨hk, ⟨L, o, hf, hn, ho, hd⟩, hr⟩ := hl
      have hL : L ∈ X.fs := hs L (by unfold frs; rw [List.filterMap_cons, hf]; exact List.mem_cons_self)
      obtain ⟨sl, e⟩ := I.base.slot L o ho (I.ok.frf L hL) hL fun z => I.ok.exfs L z hL
      exact ⟨hk, ⟨L, _, hf, hn, e, hd⟩, ih (fun b hb => hs b (by unfold frs; rw [List.filterMap_cons, hf]; exact List.mem_cons_of_mem _ hb)) hr⟩
  exact all X.outer (fun _ hb => hb) I.ok.funs
theorem Inv.stack (I : Inv X pins σ H s) : s.heap.FunFrames X.base X.stack := by
  rcases I.ok.stk with e | ⟨e, hf⟩
  · rw [e]; exact I.funs
  · rw [e]
    obtain ⟨m, hn, _⟩ := I.loc
    refine .cons (by rw [I.ok.kind]; decide) hf hn ?_ I.funs
    exact Heap.get?_none_of_le (Nat.le_trans I.ok.bsz I.ok.above)
theorem Inv.stkSub (I : Inv X pins σ H s) : ∀ b ∈ frs X.stack, b ∈ X.env.locals :: X.fs := fun b hb => by
  rcases I.ok.stk with e | ⟨e, hf⟩
  · rw [e] at hb; exact List.mem_cons_of_mem _ hb
  · rw [e] at hb
    unfold frs at hb
    rw [List.filterMap_cons, hf] at hb
    exact hb
theorem Inv.stkFree (I : Inv X pins σ H s) : ∀ b ∈ frs X.stack, H b = none := fun b hb => by
  rcases List.mem_cons.mp (I.stkSub b hb) with e | hb
  · rw [e]; exact I.free
  · obtain ⟨_, o, ho, _⟩ := I.ok.funs.mem hb
    exact I.base.free b o ho (I.ok.frf b hb) fun z => I.ok.exfs b z hb
theorem Inv.step {g' : Array GenState} {t' : Nat} {d' : Drawn} {ch : List Addr} (I : Inv X pins σ H s)
    (hch : ∀ b ∈ ch, (b ∈ X.ex ∨ X.s₀.heap.objs.size ≤ b) ∧ b ≠ X.env.locals ∧ (∀ x c, X.env.cells.lookup x = some c → c ≠ b) ∧ ∀ p ∈ X.pn ++ pins, p.1 ≠ b)
    (keep : ∀ b o, b ≠ X.env.locals → b ∉ X.fs → b ∉ ch → s.heap.get? b = some o → H b = none → h'.get? b = some o)
    (slot : ∀ b o, b ≠ X.env.locals → b ∈ X.fs → b ∉ ch → s.heap.get? b = some o → H b = none → ∃ sl, h'.get? b = some { o with slots := sl }) (free : ∀ b o, b ∉ ch → s.heap.get? b = some o → H b = none → H' b = none)
    (there : ∀ b o, b ∉ ch → s.heap.get? b = some o → ∃ o', h'.get? b = some o')
    (tups : ∀ b xs, H b = some (.tup xs) → H' b = some (.tup xs)) (frzs : ∀ b o u, H b = some (.frz o u) → H' b = some (.frz o u)) (tbls : ∀ b ps, H b = some (.tbl ps) → ∃ more, H' b = some (.tbl (ps ++ more))) (sys : H sysModules = none → H' sysModules = none)
    (ns : ∀ m, s.heap.Ns X.env.locals m → h'.Ns X.env.locals m) (hok : HOk X.prog X.w H' h') (hg : AllBare g') :
    Inv X pins σ H' { s with heap := h', gens := g', drawn := d', toks := t' } := by
  have neL : ∀ b o, X.s₀.heap.get? b = some o → b ≠ X.env.locals := fun b o e => Nat.ne_of_lt (Nat.lt_of_lt_of_le (Heap.lt_size e) I.ok.above)
  have neC : ∀ b o, X.s₀.heap.get? b = some o → b ∉ X.ex → b ∉ ch := fun b o e hx hb => by
    rcases (hch b hb).1 with z | z
    · exact hx z
    · exact absurd (Nat.lt_of_lt_of_le (Heap.lt_size e) z) (Nat.lt_irrefl _)
  have cellK : ∀ x c, X.env.cells.lookup x = some c → ∀ v, s.heap.IsCell c v → h'.IsCell c v := fun x c e v ⟨o, ho, hd⟩ => by
    have nch : c ∉ ch := fun z => (hch c z).2.2.1 x c e rfl
    by_cases hc : c ∈ X.fs
    · obtain ⟨sl, q⟩ := slot c o (I.cne x c e) hc nch ho (I.freeC x c e)
      exact ⟨_, q, hd⟩
    · exact ⟨o, keep c o (I.cne x c e) hc nch ho (I.freeC x c e), hd⟩
  refine ⟨I.ok, I.os, hg, ⟨fun b o e n hb hx => ?_, fun b o e n hb hx => ?_, fun b o e n hx => ?_, fun b o e hx => ?_, fun b xs e => tups b xs (I.base.tups b xs e), fun b o xs e => frzs b o xs (I.base.frzs b o xs e), fun b ps e => ?_, fun q => sys (I.base.sys q)⟩, ?_, fun x c e => ?_, ?_, fun x c e => ?_, fun p hp => ?_, hok, I.len⟩
  · exact keep b o (neL b o e) hb (neC b o e hx) (I.base.keep b o e n hb hx) (I.base.free b o e n hx)
  · obtain ⟨sl, e1⟩ := I.base.slot b o e n hb hx
    obtain ⟨sl', e2⟩ := slot b _ (neL b o e) hb (neC b o e hx) e1 (I.base.free b o e n hx)
    exact ⟨sl', e2⟩
  · obtain ⟨o', e1⟩ := I.base.there b o e hx
    exact free b o' (neC b o e hx) e1 (I.base.free b o e n hx)
  · obtain ⟨o', e1⟩ := I.base.there b o e hx
    exact there b o' (neC b o e hx) e1
  · obtain ⟨m1, e1⟩ := I.base.tbls b ps e
    obtain ⟨m2, e2⟩ := tbls b _ e1
    exact ⟨m1 ++ m2, by rw [e2, Array.append_assoc]⟩
  · obtain ⟨m, hn, hl⟩ := I.loc
    refine ⟨m, ns m hn, fun i x v e1 e2 e3 => ?_⟩
    obtain ⟨u, r, l⟩ := hl i x v e1 e2 e3
    refine ⟨u, r, ?_⟩
    rcases l with l | ⟨k, c, e, z⟩
    · exact .inl l
    · exact .inr ⟨k, c, e, cellK x c e _ z⟩
  · obtain ⟨v, z⟩ := I.cell x c e
    exact ⟨v, cellK x c e v z⟩
  · obtain ⟨m, ⟨o, _, _, ho, _⟩, _⟩ := I.loc
    exact free _ o (fun z => (hch _ z).2.1 rfl) ho I.free
  · obtain ⟨v, o, ho, hd⟩ := I.cell x c e
    exact free c o (fun z => (hch c z).2.2.1 x c e rfl) ho (I.freeC x c e)
  · obtain ⟨e, n, ne, nf, d⟩ := I.pin p hp
    have nch : p.1 ∉ ch := fun z => (hch p.1 z).2.2.2 p hp rfl
    exact ⟨keep p.1 p.2 ne nf nch e n, free p.1 p.2 nch e n, ne, nf, d⟩
theorem Inv.un {t' : Nat} (I : Inv X pins σ H s) (u : Un X.fs [] H H' s.heap h') (hok : HOk X.prog X.w H' h') : Inv X pins σ H' { s with heap := h', toks := t' } := by
  obtain ⟨m, ⟨o, es, ep, ho, r⟩, _⟩ := id I.loc
  obtain ⟨sl, hL⟩ := u.any ho I.free (by simp)
  exact I.step (g' := s.gens) (d' := s.drawn) (ch := []) (fun _ z => nomatch z) (fun b o _ hb _ e n => u.keep b o e n hb (by simp)) (fun b o _ hb _ e n => u.slot b o e n hb (by simp)) (fun b o _ e n => u.free b o e n (by simp)) (fun b o _ e => u.there b o e (by simp)) u.tups u.frzs u.tbls u.sys (fun m' hm => by
    obtain ⟨o', es', ep', ho', r'⟩ := hm
    rw [ho] at ho'; cases ho'
    exact ⟨_, es', ep', hL, r'⟩) hok I.bare
theorem Inv.call {g' : Array GenState} {t' : Nat} {d' : Drawn} {ch : List Addr} (I : Inv X pins σ H s) (u : Un (frs X.stack) ch H H' s.heap h') (hok : HOk X.prog X.w H' h') (hg : AllBare g')
    (hch : ∀ b ∈ ch, (b ∈ X.ex ∨ X.s₀.heap.objs.size ≤ b) ∧ b ≠ X.env.locals ∧ (∀ x c, X.env.cells.lookup x = some c → c ≠ b) ∧ ∀ p ∈ X.pn ++ pins, p.1 ≠ b) :
    Inv X pins σ H' { s with heap := h', gens := g', drawn := d', toks := t' } := by
  obtain ⟨m, ⟨o, es, ep, ho, r⟩, _⟩ := id I.loc
  obtain ⟨sl, hL⟩ := u.any ho I.free fun z => (hch _ z).2.1 rfl
  exact I.step (ch := ch) hch (fun b o hL hb hc e n => u.keep b o e n (fun z => (List.mem_cons.mp (I.stkSub b z)).elim hL hb) hc) (fun b o _ _ hc e n => u.any e n hc) (fun b o hc e n => u.free b o e n hc) (fun b o hc e => u.there b o e hc) u.tups u.frzs u.tbls u.sys (fun m' hm => by
    obtain ⟨o', es', ep', ho', r'⟩ := hm
    rw [ho] at ho'; cases ho'
    exact ⟨_, es', ep', hL, r'⟩) hok hg
theorem Inv.turned {t' : Nat} {it : Addr} (I : Inv X pins σ H s) (k : ∀ b o, b ≠ it → s.heap.get? b = some o → h'.get? b = some o) (hn : H it = none) (hL : it ≠ X.env.locals)
    (h1 : it ∈ X.ex ∨ X.s₀.heap.objs.size ≤ it) (h2 : ∀ x c, X.env.cells.lookup x = some c → c ≠ it) (h3 : ∀ p ∈ X.pn ++ pins, p.1 ≠ it) : Inv X pins σ H { s with heap := h', toks := t' } := by
  have nit : ∀ b u, H b = some u → b ≠ it := fun b u e z => by rw [z, hn] at e; cases e
  refine I.step (g' := s.gens) (d' := s.drawn) (ch := [it]) (fun b hb => ?_) (fun b o _ _ hc e _ => k b o (fun z => hc (by simp [z])) e) (fun b o _ _ hc e _ => ⟨o.slots, k b o (fun z => hc (by simp [z])) e⟩) (fun _ _ _ _ n => n)
    (fun b o hc e => ⟨o, k b o (fun z => hc (by simp [z])) e⟩) (fun _ _ e => e) (fun _ _ _ e => e) (fun b ps e => ⟨#[], by rw [e]; simp⟩) (fun q => q) (fun m hm => ?_) (fun b u e => ?_) I.bare
  · have e : b = it := by simpa using hb
    subst e
    exact ⟨h1, hL, h2, h3⟩
  · obtain ⟨o, es, ep, ho, r⟩ := hm
    exact ⟨o, es, ep, k _ o (Ne.symm hL) ho, r⟩
  · refine (I.hok b u e).stay (fun c v hc q => k c v ?_ q) (fun _ q => q) fun _ _ q => q
    rcases hc with z | z
    · rw [z]; exact nit b u e
    · exact nit c _ z
theorem Inv.tok (I : Inv X pins σ H s) (t : Nat) : Inv X pins σ H { s with toks := t } := I.un (h' := s.heap) (t' := t) Un.refl I.hok
theorem Inv.kept {t' : Nat} (I : Inv X pins σ H s) (k : ∀ b u, s.heap.get? b = some u → h'.get? b = some u) : Inv X pins σ H { s with heap := h', toks := t' } := I.un (Un.kept k) (I.hok.kept k)
theorem Inv.laid {a : Addr} {o : HO} {t' : Nat} (I : Inv X pins σ H s) (k : ∀ b u, s.heap.get? b = some u → h'.get? b = some u) (hp : s.heap.objs.size ≤ a) (new : ObjOk X.prog X.w (upd H a o) h' a o) :
    Inv X pins σ (upd H a o) { s with heap := h', toks := t' } := I.un (Un.laid k hp (I.hok.fresh hp) (Nat.lt_trans (by decide : sysModules < mainGlobals) (I.mod.glob.keeps I.bk).lt)) (I.hok.laid k hp new)
theorem Inv.write {x e : Addr} {o : HO} {t' : Nat} (I : Inv X pins σ H s) (mu : Mut (H x)) (he : e = x ∨ H e = some (.own x)) (k : ∀ b u, b ≠ e → s.heap.get? b = some u → h'.get? b = some u) (heo : ∃ u, h'.get? e = some u)
    (new : ObjOk X.prog X.w (upd H x o) h' x o) : Inv X pins σ (upd H x o) { s with heap := h', toks := t' } := I.un (Un.write mu he k heo) (I.hok.write mu he k heo new)
theorem Inv.pins_of {pins' : List (Addr × Obj)} (I : Inv X pins σ H s) (h : ∀ p ∈ pins', s.heap.get? p.1 = some p.2 ∧ H p.1 = none ∧ p.1 ≠ X.env.locals ∧ p.1 ∉ X.fs ∧ ∀ v, p.2.data ≠ .cell v) : Inv X pins' σ H s :=
  ⟨I.ok, I.os, I.bare, I.base, I.loc, I.cell, I.free, I.freeC, fun p hp => (List.mem_append.mp hp).elim (fun z => I.pin p (List.mem_append_left _ z)) (h p), I.hok, I.len⟩
theorem nodup_ix {N : List Str} (hN : N.Nodup) {i j : Nat} {x : Str} (a : N[i]? = some x) (b : N[j]? = some x) : i = j := by
  obtain ⟨h1, e1⟩ := List.getElem?_eq_some_iff.mp a
  obtain ⟨h2, e2⟩ := List.getElem?_eq_some_iff.mp b
  exact (List.getElem_inj hN).mp (e1.trans e2.symm)
theorem store_ok2 {M : Model} {A : Around} {E : Value → Shared → Prop} {i : Nat} {x : Str} {v : V} {u : Value} {Q : Unit → Shared → Prop} (I : Inv X pins σ H s) (hN : X.N.Nodup) (hi : X.N[i]? = some x) (hx : Loc X.env.scope x) (r : RelV v u)
    (h : ∀ s', Inv X pins (σ.set i (some v)) H s' → (∃ a, Heap.SameBut a s.heap s'.heap ∧ (a = X.env.locals ∨ X.env.cells.lookup x = some a)) → Q () s') (hf : X.fn x = true ∨ X.env.scope.names.lookup x = some .local := by first | exact .inl rfl | exact .inr rfl | assumption) : wpAny M A (storeName X.env x u) Q E s := by
  obtain ⟨m, hn, hl⟩ := id I.loc
  have hcls : (X.env.scope.kind == .class || (X.env.scope.kind == .module && X.env.locals != X.env.globals)) = false := by rw [I.ok.kind]; rfl
  have hiσ : i < σ.length := by rw [I.len]; exact (List.getElem?_eq_some_iff.mp hi).1
  have cne := I.cne
  have tracked : ∀ {a : Addr} {h' : Heap}, (∃ o, s.heap.get? a = some o ∧ H a = none) → Heap.SameBut a s.heap h' → HOk X.prog X.w H h' := fun {a h'} ha hs b ob e => by
    obtain ⟨_, _, hfree⟩ := ha
    refine (I.hok b ob e).stay (fun c w' hc q => (hs.2 c ?_).trans q) (fun _ q => q) fun _ _ q => q
    rintro rfl
    rcases hc with rfl | hc
    · rw [hfree] at e; cases e
    · rw [hfree] at hc; cases hc
  rcases hx with hk | hk
  · refine wpAny_storeName_local hk hn (fun h' hn' hs => ?_) hcls
    obtain ⟨oL, _, _, hoL, _⟩ := id hn
    refine h _ ⟨I.ok, I.os, I.bare, ⟨fun b o e n hb hx => ?_, fun b o e n hb hx => ?_, I.base.free, fun b o e hx => ?_, I.base.tups, I.base.frzs, I.base.tbls, I.base.sys⟩, ⟨_, hn', fun j y v' e1 e2 e3 => ?_⟩, fun y c e => ?_, I.free, I.freeC, fun p hp => ?_, tracked ⟨oL, hoL, I.free⟩ hs, by simpa using I.len⟩ ⟨_, hs, .inl rfl⟩
    · exact (hs.2 b (Nat.ne_of_lt (Nat.lt_of_lt_of_le (Heap.lt_size e) I.ok.above))).trans (I.base.keep b o e n hb hx)
    · obtain ⟨sl, e1⟩ := I.base.slot b o e n hb hx
      exact ⟨sl, (hs.2 b (Nat.ne_of_lt (Nat.lt_of_lt_of_le (Heap.lt_size e) I.ok.above))).trans e1⟩
    · obtain ⟨o', e1⟩ := I.base.there b o e hx
      exact ⟨o', (hs.2 b (Nat.ne_of_lt (Nat.lt_of_lt_of_le (Heap.lt_size e) I.ok.above))).trans e1⟩
    · by_cases hj : j = i
      · subst hj
        rw [hi] at e1; cases e1
        rw [List.getElem?_set_self hiσ] at e2
        cases e2
        exact ⟨u, r, .inl ⟨hk, by simp⟩⟩
      · rw [List.getElem?_set_ne (Ne.symm hj)] at e2
        obtain ⟨u', r', q⟩ := hl j y v' e1 e2 e3
        refine ⟨u', r', ?_⟩
        rcases q with ⟨k, e⟩ | ⟨k, c, e, z⟩
        · refine .inl ⟨k, ?_⟩
          have : y ≠ x := fun e => hj (nodup_ix hN e1 (e ▸ hi))
          simp [this, e]
        · exact .inr ⟨k, c, e, z.sameBut hs (cne y c e)⟩
    · obtain ⟨w', z⟩ := I.cell y c e
      exact ⟨w', z.sameBut hs (cne y c e)⟩
    · obtain ⟨e, n, ne, nf, d⟩ := I.pin p hp
      exact ⟨(hs.2 p.1 ne).trans e, n, ne, nf, d⟩
  · have hfn : X.fn x = true := by
      rcases hf with z | z
      · exact z
      · rw [z] at hk; cases hk
    obtain ⟨c, hc⟩ := I.ok.has x (.inl hk)
    obtain ⟨w', z⟩ := I.cell x c hc
    refine wpAny_storeName_cell I.ok.kind hk hc z (fun h' hc' hs => ?_)
    obtain ⟨oc, hoc, hocd⟩ := id z
    refine h { s with heap := h' } ⟨I.ok, I.os, I.bare, ⟨fun b o e n hb hx => ?_, fun b o e n hb hx => ?_, I.base.free, fun b o e hx => ?_, I.base.tups, I.base.frzs, I.base.tbls, I.base.sys⟩, ⟨m, hn.sameBut hs (Ne.symm (cne x c hc)), fun j y v' e1 e2 e3 => ?_⟩, fun y c' e => ?_, I.free, I.freeC, fun p hp => ?_, tracked ⟨oc, hoc, I.freeC x c hc⟩ hs, by simpa using I.len⟩ ⟨c, hs, .inr hc⟩
    · exact (hs.2 b (Nat.ne_of_lt (Nat.lt_of_lt_of_le (Heap.lt_size e) (I.ok.cab x c hfn hc)))).trans (I.base.keep b o e n hb hx)
    · obtain ⟨sl, e1⟩ := I.base.slot b o e n hb hx
      exact ⟨sl, (hs.2 b (Nat.ne_of_lt (Nat.lt_of_lt_of_le (Heap.lt_size e) (I.ok.cab x c hfn hc)))).trans e1⟩
    · obtain ⟨o', e1⟩ := I.base.there b o e hx
      exact ⟨o', (hs.2 b (Nat.ne_of_lt (Nat.lt_of_lt_of_le (Heap.lt_size e) (I.ok.cab x c hfn hc)))).trans e1⟩
    · by_cases hj : j = i
      · subst hj
        rw [hi] at e1; cases e1
        rw [List.getElem?_set_self hiσ] at e2
        cases e2
        exact ⟨u, r, .inr ⟨.inl hk, c, hc, hc'⟩⟩
      · rw [List.getElem?_set_ne (Ne.symm hj)] at e2
        obtain ⟨u', r', q⟩ := hl j y v' e1 e2 e3
        refine ⟨u', r', ?_⟩
        rcases q with q | ⟨k, c', e, z'⟩
        · exact .inl q
        · refine .inr ⟨k, c', e, z'.sameBut hs ?_⟩
          rintro rfl
          exact hj (nodup_ix hN e1 (I.ok.inj _ _ _ e hc ▸ hi))
    · by_cases hcc : c' = c
      · subst hcc; exact ⟨_, hc'⟩
      · obtain ⟨w2, z2⟩ := I.cell y c' e
        exact ⟨w2, z2.sameBut hs hcc⟩
    · obtain ⟨e, n, ne, nf, d⟩ := I.pin p hp
      refine ⟨(hs.2 p.1 ?_).trans e, n, ne, nf, d⟩
      intro q
      rw [q, hoc] at e
      have q' : oc = p.2 := Option.some.inj e
      exact d w' (by rw [← q']; exact hocd)
theorem store_ok {M : Model} {A : Around} {E : Value → Shared → Prop} {i : Nat} {x : Str} {v : V} {u : Value} {Q : Unit → Shared → Prop} (I : Inv X pins σ H s) (hN : X.N.Nodup) (hi : X.N[i]? = some x) (hx : Loc X.env.scope x) (r : RelV v u)
    (h : ∀ s', Inv X pins (σ.set i (some v)) H s' → Q () s') (hf : X.fn x = true ∨ X.env.scope.names.lookup x = some .local := by first | exact .inl rfl | exact .inr rfl | assumption) : wpAny M A (storeName X.env x u) Q E s :=
  store_ok2 I hN hi hx r (fun s' I' _ => h s' I') hf
theorem Inv.call' {s' : Shared} {ch : List Addr} (I : Inv X pins σ H s) (ho : s'.os = s.os) (u : Un (frs X.stack) ch H H' s.heap s'.heap) (hok : HOk X.prog X.w H' s'.heap) (hg : AllBare s'.gens)
    (hch : ∀ b ∈ ch, (b ∈ X.ex ∨ X.s₀.heap.objs.size ≤ b) ∧ b ≠ X.env.locals ∧ (∀ x c, X.env.cells.lookup x = some c → c ≠ b) ∧ ∀ p ∈ X.pn ++ pins, p.1 ≠ b) : Inv X pins σ H' s' := by
  obtain ⟨h', g', d', t', o'⟩ := s'
  have e : o' = s.os := ho
  subst e
  exact I.call (g' := g') (t' := t') (d' := d') u hok hg hch
end
abbrev XK := Value → Option Addr → Hp → Prop
abbrev St := List (Option V)
abbrev VK := V → Hp → Prop
abbrev TE := St → Hp → VK → Prop
abbrev TT := St → Hp → (Bool → Hp → Prop) → Prop
abbrev TA := St → Hp → (List V → Hp → Prop) → Prop
structure Ends where
  nx : St → Hp → Prop
  rt : VK
  bk : St → Hp → Prop := fun _ _ => False
  ct : St → Hp → Prop := fun _ _ => False
abbrev TS := Ends → St → Hp → Prop
def EP (X : Cx) (pins : List (Addr × Obj)) (σ : St) (Q : VK) (u : Value) (s' : Shared) : Prop := ∃ v H', Inv X pins σ H' s' ∧ RelV v u ∧ Q v H'
def TP (X : Cx) (pins : List (Addr × Obj)) (σ : St) (Q : Bool → Hp → Prop) (b : Bool) (s' : Shared) : Prop := ∃ H', Inv X pins σ H' s' ∧ Q b H'
def AP (X : Cx) (pins : List (Addr × Obj)) (σ : St) (Q : List V → Hp → Prop) (us : List Value) (s' : Shared) : Prop := ∃ vs H', Inv X pins σ H' s' ∧ Vals vs us ∧ Q vs H'
def SP (X : Cx) (pins : List (Addr × Obj)) (D : Ends) (f : Flow) (s' : Shared) : Prop :=
  match f with
  | .next => ∃ σ' H', Inv X pins σ' H' s' ∧ D.nx σ' H'
  | .brk => ∃ σ' H', Inv X pins σ' H' s' ∧ D.bk σ' H'
  | .cont => ∃ σ' H', Inv X pins σ' H' s' ∧ D.ct σ' H'
  | .ret u => ∃ v σ' H', Inv X pins σ' H' s' ∧ RelV v u ∧ D.rt v H'
def PE (X : Cx) (e : Expr) (t : TE) : Prop :=
  ∀ (pins : List (Addr × Obj)) (s : Shared) (σ : St) (H : Hp) (Q : VK), Inv X pins σ H s → t σ H Q → wpAny (model X.prog X.w) X.A (eval e X.env) (EP X pins σ Q) X.xe s
def PT (X : Cx) (e : Expr) (t : TT) : Prop :=
  ∀ (pins : List (Addr × Obj)) (s : Shared) (σ : St) (H : Hp) (Q : Bool → Hp → Prop), Inv X pins σ H s → t σ H Q → wpAny (model X.prog X.w) X.A (isTrue e X.env (eval e X.env)) (TP X pins σ Q) X.xe s
def PW (X : Cx) (e : Expr) (t : TT) : Prop :=
  ∀ (whole : Sem Value) (pins : List (Addr × Obj)) (s : Shared) (σ : St) (H : Hp) (Q : Bool → Hp → Prop), Inv X pins σ H s → t σ H Q → wpAny (model X.prog X.w) X.A (isTrue e X.env whole) (TP X pins σ Q) X.xe s
theorem PW.pt {X : Cx} {e : Expr} {t : TT} (h : PW X e t) : PT X e t := h _
def PA (X : Cx) (es : List Expr) (t : TA) : Prop :=
  ∀ (pos : Pos) (pins : List (Addr × Obj)) (s : Shared) (σ : St) (H : Hp) (Q : List V → Hp → Prop), Inv X pins σ H s → t σ H Q → wpAny (model X.prog X.w) X.A (spliced (backTo pos (starEach es X.env))) (AP X pins σ Q) X.xe s
def PS (X : Cx) (st : Stmt) (t : TS) : Prop :=
  ∀ (pins : List (Addr × Obj)) (s : Shared) (σ : St) (H : Hp) (D : Ends), Inv X pins σ H s → t D σ H → wpAny (model X.prog X.w) X.A (exec st X.env) (SP X pins D) X.xe s
def PSs (X : Cx) (st : List Stmt) (t : TS) : Prop :=
  ∀ (pins : List (Addr × Obj)) (s : Shared) (σ : St) (H : Hp) (D : Ends), Inv X pins σ H s → t D σ H → wpAny (model X.prog X.w) X.A (execs st X.env) (SP X pins D) X.xe s
theorem thn {α : Type} {t : Sem α} {Q Q' : α → Shared → Prop} {M : Model} {A : Around} {E : Value → Shared → Prop} {s : Shared} (h : wpAny M A t Q E s) (hQ : ∀ a s, Q a s → Q' a s) : wpAny M A t Q' E s := wpAny_mono h hQ fun _ _ x => x
end L2
namespace L2
open PySem PySem.Spec PyProof.Rows
section
variable {X : Cx}
theorem bin {a b : Expr} {ta tb : TE} (ha : PE X a ta) (hb : PE X b tb) {pins : List (Addr × Obj)} {s : Shared} {σ : St} {H : Hp} {R : V → V → Hp → Prop} (I : Inv X pins σ H s) (h : ta σ H fun x H1 => tb σ H1 fun y H2 => R x y H2)
    {α : Type} {Q : α → Shared → Prop} {f : Value → Value → Sem α}
    (hf : ∀ v u s2 x y H2, Inv X pins σ H2 s2 → RelV x v → RelV y u → R x y H2 → wpAny (model X.prog X.w) X.A (f v u) Q X.xe s2) :
    wpAny (model X.prog X.w) X.A (eval a X.env) (fun v s₁ => wpAny (model X.prog X.w) X.A (eval b X.env) (fun u s₂ => wpAny (model X.prog X.w) X.A (f v u) Q X.xe s₂) X.xe s₁) X.xe s := by
  refine thn (ha pins s σ H _ I h) fun v s1 ⟨x, H1, I1, r1, q1⟩ => ?_
  refine thn (hb pins s1 σ H1 _ I1 q1) fun u s2 ⟨y, H2, I2, r2, q2⟩ => ?_
  exact hf v u s2 x y H2 I2 r1 r2 q2
def tVar (i : Nat) : TE := fun σ H Q => ∃ v, σ[i]? = some (some v) ∧ Q v H
def tC (v : V) : TE := fun _ H Q => Q v H
theorem pe_var {i : Nat} {x : Str} {pos : Pos} (hN : X.N[i]? = some x) (hv : Vis X.env.scope x) (hd : (x == ("__debug__" : Str)) = false := by decide) (hcd : (x == ("__classdict__" : Str)) = false := by decide) : PE X (.Name x pos) (tVar i) := by
  intro pins s σ H Q I h
  obtain ⟨v, e, h⟩ := h
  obtain ⟨m, hn, hl⟩ := I.loc
  obtain ⟨u, r, l⟩ := hl i x v hN e hv
  have fin : EP X pins σ Q u s := ⟨v, H, I, r, h⟩
  rcases l with ⟨hk, hm⟩ | ⟨hk, c, hc, hcell⟩
  · exact wpAny_Name (wpAny_loadName_local I.ok.kind hk hn hm fin) hd
  · rcases hk with hk | hk
    · exact wpAny_Name (wpAny_loadName_cell I.ok.kind hk hc hcell fin) hd
    · exact wpAny_Name (wpAny_loadName_free I.ok.kind hk hc hcell fin hcd) hd
theorem pe_int {i j pos} : PE X (.Constant (.int i) j pos) (tC (.int i)) := fun _ _ _ H _ I h => wpAny_Constant_int ⟨.int i, H, I.tok _, ⟨_, rfl⟩, h⟩
theorem pe_bl {b j pos} : PE X (.Constant (.bool b) j pos) (tC (.bl b)) := fun _ _ _ H _ I h => Constant_bool ⟨.bl b, H, I, rfl, h⟩
theorem pe_non {j pos} : PE X (.Constant .none j pos) (tC .non) := fun _ _ _ H _ I h => Constant_none ⟨.non, H, I, rfl, h⟩
theorem pe_str {x j pos} : PE X (.Constant (.str x) j pos) (tC (.str x)) := fun _ _ _ H _ I h => Calls.Constant_str ⟨.str x, H, I.tok _, ⟨_, rfl⟩, h⟩
def Gl (X : Cx) (x : Str) : Prop := X.env.kindOf x = some .globalImplicit
theorem ld_glob {E : Value → Shared → Prop} {pins : List (Addr × Obj)} {s : Shared} {σ : St} {H : Hp} {x : Str} {u : Value} {pos : Pos} {Q : Value → Shared → Prop} (I : Inv X pins σ H s) (hg : Gl X x) (hm : X.mg x = some u) (h : Q u s)
    (hd : (x == ("__debug__" : Str)) = false := by decide) : wpAny (model X.prog X.w) X.A (eval (.Name x pos) X.env) Q E s :=
  Calls.Name_function_global I.ok.kind hg (Calls.loadGlobal_global (by rw [I.ok.glob]; exact I.mod.glob.keeps I.bk) hm h) hd
theorem ld_blt {E : Value → Shared → Prop} {pins : List (Addr × Obj)} {s : Shared} {σ : St} {H : Hp} {x : Str} {u : Value} {pos : Pos} {Q : Value → Shared → Prop} (I : Inv X pins σ H s) (hg : Gl X x) (hm : X.mg x = none) (hv : bootBuiltins x = some u) (h : Q u s)
    (hn : x ≠ "__name__" := by decide) (hd : (x == ("__debug__" : Str)) = false := by decide) : wpAny (model X.prog X.w) X.A (eval (.Name x pos) X.env) Q E s := by
  obtain ⟨mb, h1, h2⟩ := I.mod.blt
  exact Calls.Name_function_global I.ok.kind hg (Calls.loadGlobal_builtin (by rw [I.ok.glob]; exact I.mod.glob.keeps I.bk) hm (by rw [I.ok.blt]; exact h1.keeps I.bk) ((h2 x hn).trans hv) h) hd
theorem pe_glob {x : Str} {v : V} {u : Value} {pos : Pos} (hg : Gl X x) (hm : X.mg x = some u) (r : RelV v u) (hd : (x == ("__debug__" : Str)) = false := by decide) : PE X (.Name x pos) (tC v) :=
  fun _ _ _ H _ I h => ld_glob I hg hm ⟨v, H, I, r, h⟩ hd
theorem pe_bltn {x : Str} {v : V} {u : Value} {pos : Pos} (hg : Gl X x) (hm : X.mg x = none) (hv : bootBuiltins x = some u) (r : RelV v u) (hn : x ≠ "__name__" := by decide) (hd : (x == ("__debug__" : Str)) = false := by decide) : PE X (.Name x pos) (tC v) :=
  fun _ _ _ H _ I h => ld_blt I hg hm hv ⟨v, H, I, r, h⟩ hn hd
variable {a b : Expr} {ta tb : TE} {pos : Pos}
def PC (X : Cx) (op : CmpOp) (a b : Expr) (t : TE) : Prop :=
  ∀ (pins : List (Addr × Obj)) (s : Shared) (σ : St) (H : Hp) (Q : VK), Inv X pins σ H s → t σ H Q →
    wpAny (model X.prog X.w) X.A (eval a X.env) (fun v s₁ => wpAny (model X.prog X.w) X.A (eval b X.env) (fun u s₂ => wpAny (model X.prog X.w) X.A (compareOp op v u) (EP X pins σ Q) X.xe s₂) X.xe s₁) X.xe s
theorem nobehind (b : Expr) {op : CmpOp} (h : op ≠ .In) (h2 : op ≠ .NotIn) : behindInMarks op b = false := by
  have e1 : (op == CmpOp.In) = false := by cases op <;> first | rfl | exact absurd rfl h
  have e2 : (op == CmpOp.NotIn) = false := by cases op <;> first | rfl | exact absurd rfl h2
  cases b <;> simp [behindInMarks, e1, e2]
def tB (t : TE) : TT := fun σ H Q => t σ H fun x H1 => ∃ c, x = .bl c ∧ Q c H1
theorem pt_cmp {op : CmpOp} {t : TE} (h : PC X op a b t) (h1 : behindInMarks op b = false := by first | exact nobehind _ (by decide) (by decide) | rfl) : PT X (.Compare a [op] [b] pos) (tB t) := by
  intro pins s σ H Q I hw
  refine wpAny_isTrue_Compare1 (thn (h pins s σ H _ I hw) fun v s1 h1 => thn h1 fun u s2 h2 => thn h2 fun c s3 ⟨x, H1, I1, r1, q1⟩ => ?_) h1
  obtain ⟨d, rfl, q⟩ := q1
  cases r1
  exact wpAny_truthy_bool ⟨H1, I1, q⟩
theorem pt_val {e : Expr} {t : TE} (h : PE X e t) (he : ∀ whole, isTrue e X.env whole = (do let v ← whole; standAt e.pos; holding [v] (truthy v)) := by intro _; rfl) : PT X e (tB t) := by
  intro pins s σ H Q I hw
  refine isTrue_plain (thn (h pins s σ H _ I hw) fun v s1 ⟨x, H1, I1, r1, q1⟩ => ?_) (he _)
  obtain ⟨d, rfl, q⟩ := q1
  cases r1
  exact wpAny_truthy_bool ⟨H1, I1, q⟩
variable {tA tB' : TT} {rest : List Expr}
def tAnd (t u : TT) : TT := fun σ H Q => t σ H fun c H1 => if c = true then u σ H1 Q else Q false H1
def tOr (t u : TT) : TT := fun σ H Q => t σ H fun c H1 => if c = true then Q true H1 else u σ H1 Q
def tNot (t : TT) : TT := fun σ H Q => t σ H fun c H1 => Q (!c) H1
theorem pw_and1 (ha : PT X a tA) : PW X (.BoolOp .And [a] pos) tA := by
  intro wh pins s σ H Q I h
  refine isTrue_and (thn (ha pins s σ H Q I h) fun c s1 e => ?_)
  cases c with
  | true => exact isTrue_and_nil e
  | false => exact e
theorem pw_or1 (ha : PT X a tA) : PW X (.BoolOp .Or [a] pos) tA := by
  intro wh pins s σ H Q I h
  refine isTrue_or (thn (ha pins s σ H Q I h) fun c s1 e => ?_)
  cases c with
  | false => exact isTrue_or_nil e
  | true => exact e
theorem pw_and (ha : PT X a tA) (hb : PW X (.BoolOp .And (b :: rest) pos) tB') : PW X (.BoolOp .And (a :: b :: rest) pos) (tAnd tA tB') := by
  intro wh pins s σ H Q I h
  refine isTrue_and (thn (ha pins s σ H _ I h) fun c s1 ⟨H1, I1, q1⟩ => ?_)
  cases c with
  | true => exact hb wh pins s1 σ H1 Q I1 q1
  | false => exact ⟨H1, I1, q1⟩
theorem pw_or (ha : PT X a tA) (hb : PW X (.BoolOp .Or (b :: rest) pos) tB') : PW X (.BoolOp .Or (a :: b :: rest) pos) (tOr tA tB') := by
  intro wh pins s σ H Q I h
  refine isTrue_or (thn (ha pins s σ H _ I h) fun c s1 ⟨H1, I1, q1⟩ => ?_)
  cases c with
  | true => exact ⟨H1, I1, q1⟩
  | false => exact hb wh pins s1 σ H1 Q I1 q1
theorem pt_not (ha : PT X a tA) : PT X (.UnaryOp .Not a pos) (tNot tA) := by
  intro pins s σ H Q I h
  exact isTrue_not (ha pins s σ H (fun c H1 => Q (!c) H1) I h)
def tAndV (ta tb : TE) : TE := fun σ H Q => ta σ H fun x H1 => ∃ c, x = .bl c ∧ if c = true then tb σ H1 Q else Q (.bl false) H1
def tNotV (ta : TE) : TE := fun σ H Q => ta σ H fun x H1 => ∃ c, x = .bl c ∧ Q (.bl (!c)) H1
theorem pe_one {op} {t : TE} (h : PE X a t) : PE X (.BoolOp op [a] pos) t := fun pins s σ H Q I hw => BoolOp_one (h pins s σ H Q I hw)
theorem pe_and (ha : PE X a ta) (hb : PE X (.BoolOp .And (b :: rest) pos) tb) : PE X (.BoolOp .And (a :: b :: rest) pos) (tAndV ta tb) := by
  intro pins s σ H Q I h
  refine BoolOp_and (thn (ha pins s σ H _ I h) fun v s1 ⟨x, H1, I1, r1, q1⟩ => ?_)
  obtain ⟨c, rfl, q1⟩ := q1
  cases r1
  refine wpAny_truthy_bool ?_
  cases c with
  | true => exact hb pins s1 σ H1 Q I1 q1
  | false => exact ⟨.bl false, H1, I1, rfl, q1⟩
theorem pe_not (ha : PE X a ta) : PE X (.UnaryOp .Not a pos) (tNotV ta) := by
  intro pins s σ H Q I h
  refine UnaryOp_ (thn (ha pins s σ H _ I h) fun v s1 ⟨x, H1, I1, r1, q1⟩ => ?_)
  obtain ⟨c, rfl, q1⟩ := q1
  cases r1
  exact not_of (wpAny_truthy_bool ⟨.bl (!c), H1, I1, rfl, q1⟩)
def tIf (t : TT) (ta tb : TE) : TE := fun σ H Q => t σ H fun c H1 => if c = true then ta σ H1 Q else tb σ H1 Q
theorem pe_ifExp {c : Expr} (hc : PT X c tA) (ha : PE X a ta) (hb : PE X b tb) : PE X (.IfExp c a b pos) (tIf tA ta tb) := by
  intro pins s σ H Q I h
  refine wpAny_IfExp (thn (hc pins s σ H _ I h) fun d s1 ⟨H1, I1, q1⟩ => ?_)
  cases d with
  | true => exact ha pins s1 σ H1 Q I1 q1
  | false => exact hb pins s1 σ H1 Q I1 q1
end
end L2
namespace L2
open PySem PySem.Spec PyProof.Rows
def SqL (K : PySem.W.Frag) (H : Hp) (a : Addr) (xs : List V) : Prop :=
  Rd H a (.lst xs) ∨
    ∃ (o : Obj) (its : Array Value) (n : Nat), K.lookup a = some o ∧ o.cls = .type "list" ∧ o.dict = none ∧ o.data = .seq its n ∧ its.size ≤ sizeLine ∧ Vals xs its.toList
def SqT (K : PySem.W.Frag) (H : Hp) (a : Addr) (xs : List V) : Prop :=
  Rd H a (.tup xs) ∨
    ∃ (o : Obj) (its : Array Value) (n : Nat), K.lookup a = some o ∧ o.cls = .type "tuple" ∧ o.data = .seq its n ∧ its.size ≤ sizeLine ∧ Vals xs its.toList
def absV : Value → Option V
  | .none => some .non
  | .bool b => some (.bl b)
  | .int i _ => some (.int i)
  | .str x _ => some (.str x)
  | .bytes b _ => some (.byt b)
  | .float b _ => some (.flt b)
  | .ref a => some (.ref a)
  | .type n => some (.ty n)
  | _ => none
theorem RelV.abs {x : V} {u : Value} (r : RelV x u) : absV u = some x := by
  cases x with
  | non => cases r; rfl
  | bl _ => cases r; rfl
  | int _ => obtain ⟨t, rfl⟩ := r; rfl
  | str _ => obtain ⟨t, rfl⟩ := r; rfl
  | byt _ => obtain ⟨t, rfl⟩ := r; rfl
  | flt _ => obtain ⟨t, rfl⟩ := r; rfl
  | ref _ => cases r; rfl
  | ty _ => cases r; rfl
theorem RelV.inj {x y : V} {u : Value} (r : RelV x u) (q : RelV y u) : x = y := Option.some.inj (r.abs.symm.trans q.abs)
theorem Vals.inj : ∀ {xs ys : List V} {us : List Value}, Vals xs us → Vals ys us → xs = ys
  | _, _, _, .nil, .nil => rfl
  | _, _, _, .cons r t, .cons r' t' => by rw [r.inj r', Vals.inj t t']
section
variable {X : Cx} {pins : List (Addr × Obj)} {σ : St} {H : Hp} {s : Shared} {a : Addr} {xs ys : List V}
theorem SqL.of {K : PySem.W.Frag} (h : H a = some (.lst xs)) : SqL K H a xs := .inl (.inl h)
theorem SqT.of {K : PySem.W.Frag} (h : H a = some (.tup xs)) : SqT K H a xs := .inl (.inl h)
theorem Inv.list (I : Inv X pins σ H s) (h : SqL X.K H a xs) : ∃ its : List Value, Vals xs its ∧ PlainL s.heap a its.toArray ∧ xs.length ≤ sizeLine := by
  rcases h with h | ⟨o, its, n, hk, hc, hd, hs, hz, r⟩
  · obtain ⟨z, its, n, r, e⟩ := h.ok I.hok
    exact ⟨its, r, ⟨_, n, e, rfl, rfl, rfl⟩, z⟩
  · refine ⟨its.toList, r, ⟨o, n, I.kIn a o hk, hc, hd, by simpa using hs⟩, ?_⟩
    have e := r.length
    simp only [Array.length_toList] at e
    omega
theorem Inv.tuple (I : Inv X pins σ H s) (h : SqT X.K H a xs) : ∃ its : List Value, Vals xs its ∧ IsTup s.heap a its.toArray ∧ xs.length ≤ sizeLine := by
  rcases h with h | ⟨o, its, n, hk, hc, hs, hz, r⟩
  · obtain ⟨z, its, r, p⟩ := h.ok I.hok
    exact ⟨its, r, p, z⟩
  · refine ⟨its.toList, r, ⟨o, I.kIn a o hk, hc, n, by simpa using hs⟩, ?_⟩
    have e := r.length
    simp only [Array.length_toList] at e
    omega
theorem Inv.list_inj (I : Inv X pins σ H s) (h : SqL X.K H a xs) (h' : SqL X.K H a ys) : xs = ys := by
  obtain ⟨its, r, ⟨o, n, e, _, _, d⟩, _⟩ := I.list h
  obtain ⟨its', r', ⟨o', n', e', _, _, d'⟩, _⟩ := I.list h'
  rw [e] at e'; cases e'
  rw [d] at d'
  injection d' with d1 _
  have : its = its' := by simpa using congrArg Array.toList d1
  subst this
  exact r.inj r'
end
abbrev Cx.wish (X : Cx) (E : Value → Shared → Prop) : Cx := { X with xe := E }
abbrev Cx.nox (X : Cx) : Cx := X.wish fun _ _ => False
theorem Cx.Ok.wish {X : Cx} (ok : X.Ok) (E : Value → Shared → Prop) : (X.wish E).Ok :=
  ⟨ok.mod, ok.kind, ok.glob, ok.blt, ok.above, ok.inj, ok.has, ok.cab, ok.hd, ok.frames, ok.stk, ok.exf, ok.bs, ok.bsz, ok.noex, ok.exfs, ok.funs, ok.frf⟩
theorem Cx.Ok.unwish {X : Cx} {E : Value → Shared → Prop} (ok : (X.wish E).Ok) : X.Ok :=
  ⟨ok.mod, ok.kind, ok.glob, ok.blt, ok.above, ok.inj, ok.has, ok.cab, ok.hd, ok.frames, ok.stk, ok.exf, ok.bs, ok.bsz, ok.noex, ok.exfs, ok.funs, ok.frf⟩
section
variable {X : Cx} {pins : List (Addr × Obj)} {σ : St} {H : Hp} {s : Shared} {E : Value → Shared → Prop}
theorem Inv.wish (I : Inv X pins σ H s) (E : Value → Shared → Prop) : Inv (X.wish E) pins σ H s := ⟨I.ok.wish E, I.os, I.bare, I.base, I.loc, I.cell, I.free, I.freeC, I.pin, I.hok, I.len⟩
theorem Inv.unwish (I : Inv (X.wish E) pins σ H s) : Inv X pins σ H s := ⟨I.ok.unwish, I.os, I.bare, I.base, I.loc, I.cell, I.free, I.freeC, I.pin, I.hok, I.len⟩
theorem SP.unwish {D : Ends} {f : Flow} {s' : Shared} (h : SP (X.wish E) pins D f s') : SP X pins D f s' := by
  cases f with
  | next => obtain ⟨σ', H', I, q⟩ := h; exact ⟨σ', H', I.unwish, q⟩
  | brk => obtain ⟨σ', H', I, q⟩ := h; exact ⟨σ', H', I.unwish, q⟩
  | cont => obtain ⟨σ', H', I, q⟩ := h; exact ⟨σ', H', I.unwish, q⟩
  | ret u => obtain ⟨v, σ', H', I, r, q⟩ := h; exact ⟨v, σ', H', I.unwish, r, q⟩
theorem PSs.nox {st : List Stmt} {t : TS} (h : PSs X.nox st t) : PSs X st t := fun pins s σ H D I hw =>
  wpAny_mono (h pins s σ H D (I.wish _) hw) (fun _ _ q => q.unwish) fun _ _ z => False.elim z
end
section
variable {X : Cx} {st : Stmt} {rest : List Stmt} {t u : TS} {e : Expr} {te : TE} {pos : Pos}
def tNext : TS := fun D σ H => D.nx σ H
def tSeq (t u : TS) : TS := fun D σ H => t { D with nx := u D } σ H
theorem pss_nil : PSs X [] tNext := fun _ _ σ H _ I h => wpAny_execs_nil ⟨σ, H, I, h⟩
theorem pss_cons (h1 : PS X st t) (h2 : PSs X rest u) : PSs X (st :: rest) (tSeq t u) := by
  intro pins s σ H D I h
  refine wpAny_execs_cons (thn (h1 pins s σ H { D with nx := u D } I h) fun f s1 q => ?_)
  cases f with
  | next =>
    obtain ⟨σ', H', I', q⟩ := q
    exact h2 pins s1 σ' H' D I' q
  | ret v => exact q
  | brk => exact q
  | cont => exact q
theorem pss_one (h1 : PS X st t) : PSs X [st] t := by
  intro pins s σ H D I h
  refine wpAny_execs_cons (thn (h1 pins s σ H D I h) fun f s1 q => ?_)
  cases f with
  | next => exact wpAny_execs_nil q
  | ret v => exact q
  | brk => exact q
  | cont => exact q
theorem Inv.quiet {pins : List (Addr × Obj)} {σ : St} {H : Hp} {s : Shared} (I : Inv X pins σ H s) : interactive X.env = false := by simp [interactive, I.ok.kind]
def tDrop (te : TE) : TS := fun D σ H => te σ H fun _ H1 => D.nx σ H1
theorem ps_expr (he : PE X e te) (hs : swapsWith e none pos.line X.env = pure false := by rfl) : PS X (.Expr e pos) (tDrop te) := by
  intro pins s σ H D I h
  exact wpAny_Expr_any (thn (he pins s σ H _ I h) fun v s1 ⟨x, H1, I1, r1, q1⟩ => ⟨σ, H1, I1, q1⟩) I.quiet hs
def tRet (te : TE) : TS := fun D σ H => te σ H D.rt
theorem ps_ret (he : PE X e te) : PS X (.Return (some e) pos) (tRet te) := by
  intro pins s σ H D I h
  exact wpAny_Return_some (thn (he pins s σ H _ I h) fun v s1 ⟨x, H1, I1, r1, q1⟩ => ⟨x, σ, H1, I1, r1, q1⟩)
def tIfS (c : TT) (t u : TS) : TS := fun D σ H => c σ H fun b H1 => if b = true then t D σ H1 else u D σ H1
theorem ps_if {c : Expr} {a b : List Stmt} {tc : TT} (hc : PT X c tc) (ha : PSs X a t) (hb : PSs X b u) : PS X (.If c a b pos) (tIfS tc t u) := by
  intro pins s σ H D I h
  refine wpAny_If (thn (hc pins s σ H _ I h) fun d s1 ⟨H1, I1, q1⟩ => ?_)
  cases d with
  | true => exact ha pins s1 σ H1 D I1 q1
  | false => exact hb pins s1 σ H1 D I1 q1
end
abbrev TG := V → St → Hp → (St → Hp → Prop) → Prop
abbrev TGs := List V → St → Hp → (St → Hp → Prop) → Prop
def PG (X : Cx) (target : Expr) (t : TG) : Prop :=
  ∀ (pins : List (Addr × Obj)) (s : Shared) (σ : St) (H : Hp) (v : V) (u : Value) (Q : St → Hp → Prop), Inv X pins σ H s → RelV v u → t v σ H Q →
    wpAny (model X.prog X.w) X.A (assign target X.env u) (fun _ s' => ∃ σ' H', Inv X pins σ' H' s' ∧ Q σ' H') X.xe s
def PGs (X : Cx) (ts : List Expr) (t : TGs) : Prop :=
  ∀ (pins : List (Addr × Obj)) (s : Shared) (σ : St) (H : Hp) (vs : List V) (us : List Value) (Q : St → Hp → Prop), Inv X pins σ H s → Vals vs us → t vs σ H Q →
    wpAny (model X.prog X.w) X.A (assignInOrder ((assignEach ts X.env).map (·.2)) us) (fun _ s' => ∃ σ' H', Inv X pins σ' H' s' ∧ Q σ' H') X.xe s
abbrev TSet := V → V → V → Hp → (Hp → Prop) → Prop
def PSet (X : Cx) (t : TSet) : Prop :=
  ∀ (pins : List (Addr × Obj)) (s : Shared) (σ : St) (H : Hp) (o i v : V) (ov iv u : Value) (Q : Hp → Prop), Inv X pins σ H s → RelV o ov → RelV i iv → RelV v u → t o i v H Q →
    wpAny (model X.prog X.w) X.A (setItem ov iv u) (fun _ s' => ∃ H', Inv X pins σ H' s' ∧ Q H') X.xe s
section
variable {X : Cx} {pos : Pos}
def gName (i : Nat) : TG := fun v σ H Q => Q (σ.set i (some v)) H
theorem pg_name {i : Nat} {x : Str} (hN : X.N.Nodup) (hi : X.N[i]? = some x) (hx : Loc X.env.scope x) (hf : X.fn x = true ∨ X.env.scope.names.lookup x = some .local := by first | exact .inl rfl | exact .inr rfl | assumption) : PG X (.Name x pos) (gName i) := by
  intro pins s σ H v u Q I r h
  exact wpAny_assign_Name (store_ok I hN hi hx r (fun s' I' => ⟨_, H, I', h⟩) hf)
def gNil : TGs := fun vs σ H Q => vs = [] ∧ Q σ H
def gCons (t : TG) (u : TGs) : TGs := fun vs σ H Q => ∃ v r, vs = v :: r ∧ t v σ H fun σ' H' => u r σ' H' Q
theorem pgs_nil : PGs X [] gNil := by
  intro pins s σ H vs us Q I r h
  obtain ⟨e, h⟩ := h
  subst e
  cases r
  exact assignInOrder_nil ⟨σ, H, I, h⟩
theorem pgs_cons {e : Expr} {es : List Expr} {t : TG} {u : TGs} (h1 : PG X e t) (h2 : PGs X es u)
    (hs : (assignEach (e :: es) X.env).map (·.2) = assign e X.env :: (assignEach es X.env).map (·.2) := by rfl) : PGs X (e :: es) (gCons t u) := by
  intro pins s σ H vs us Q I r h
  obtain ⟨v, vr, e1, h⟩ := h
  subst e1
  cases r with
  | cons r rr =>
    rw [hs]
    refine assignInOrder_cons (thn (h1 pins s σ H _ _ _ I r h) fun _ s1 ⟨σ1, H1, I1, q1⟩ => ?_)
    exact h2 pins s1 σ1 H1 _ _ Q I1 rr q1
def gTup (K : PySem.W.Frag) (n : Nat) (t : TGs) : TG := fun v σ H Q => ∃ a xs, v = .ref a ∧ SqT K H a xs ∧ xs.length = n ∧ t xs σ H Q
theorem pg_tup {es : List Expr} {k : Nat} {t : TGs} {n : Nat} (hc : X.calm = true) (h : PGs X es t)
    (hn : (assignEach es X.env).length = n := by rfl) (hst : (assignEach es X.env).findIdx? (·.1) = none := by rfl) : PG X (.Tuple es k pos) (gTup X.K n t) := by
  intro pins s σ H v u Q I r hw
  obtain ⟨a, xs, e1, hq, hl, hw⟩ := hw
  subst e1
  cases r
  obtain ⟨its, rv, ht, hz⟩ := I.tuple hq
  refine assign_Tuple_tuple (I.ok.hd hc) ht (by simp [hn, ← hl, rv.length]) hst fun h' hx => ?_
  have I1 : Inv X pins σ H { s with heap := h' } := I.kept (t' := s.toks) fun b o e => hx b o (Nat.ne_of_lt (Heap.lt_size e)) e
  exact h pins _ σ H xs _ Q I1 (by simpa using rv) hw
def gSub (to ti : TE) (t : TSet) : TG := fun v σ H Q => to σ H fun o H1 => ti σ H1 fun i H2 => t o i v H2 fun H3 => Q σ H3
theorem pg_sub {o i : Expr} {to ti : TE} {t : TSet} (ho : PE X o to) (hi : PE X i ti) (hs : PSet X t)
    (ha : ∀ v, assign (.Subscript o i pos) X.env v = (do
      let ov ← holding [v] (eval o X.env)
      let iv ← holding [v, ov] (eval i X.env)
      standAt pos
      holding [v, ov, iv] (setItem ov iv v)
      release [v, ov, iv] []) := by intro _; rfl) : PG X (.Subscript o i pos) (gSub to ti t) := by
  intro pins s σ H v u Q I r h
  rw [ha]
  refine wpAny_bind (wpAny_holding (thn (ho pins s σ H _ I h) fun ov s1 ⟨x, H1, I1, r1, q1⟩ => ?_))
  refine wpAny_bind (wpAny_holding (thn (hi pins s1 σ H1 _ I1 q1) fun iv s2 ⟨y, H2, I2, r2, q2⟩ => ?_))
  refine wpAny_bind (wpAny_standAt (wpAny_bind (wpAny_holding (thn (hs pins s2 σ H2 x y v ov iv u _ I2 r1 r2 r q2) fun _ s3 ⟨H3, I3, q3⟩ => ?_))))
  exact wpAny_release ⟨σ, H3, I3, q3⟩
def tAsg (te : TE) (g : TG) : TS := fun D σ H => te σ H fun x H1 => g x σ H1 D.nx
theorem ps_asg {tg e : Expr} {te : TE} {g : TG} (he : PE X e te) (hg : PG X tg g) (hs : swapsWithSole [tg] e pos.line X.env = pure false := by rfl) (hw : swappedStores [tg] e X.env = pure none := by rfl)
    (h1 : (assignEach [tg] X.env).map (·.2) = [assign tg X.env] := by rfl) : PS X (.Assign [tg] e pos) (tAsg te g) := by
  intro pins s σ H D I h
  refine wpAny_Assign_stores (thn (he pins s σ H _ I h) fun v s1 ⟨x, H1, I1, r1, q1⟩ => ?_) hs hw
  rw [h1]
  exact thn (hg pins s1 σ H1 x v _ I1 r1 q1) fun _ s2 q => q
theorem ps_set {i : Nat} {x : Str} {e : Expr} {te : TE} {pos' : Pos} (hN : X.N.Nodup) (hi : X.N[i]? = some x) (hx : Loc X.env.scope x) (he : PE X e te) (hs : swapsWith e (some (.Name x pos')) pos.line X.env = pure false := by rfl) (hf : X.fn x = true ∨ X.env.scope.names.lookup x = some .local := by first | exact .inl rfl | exact .inr rfl | assumption) :
    PS X (.Assign [.Name x pos'] e pos) (tAsg te (gName i)) := by
  intro pins s σ H D I h
  refine wpAny_Assign_Name (thn (he pins s σ H _ I h) fun v s1 ⟨y, H1, I1, r1, q1⟩ => ?_) hs
  exact store_ok I1 hN hi hx r1 (fun s2 I2 => ⟨_, H1, I2, q1⟩) hf
end
section
variable {X : Cx} {pos : Pos}
end
structure It where
  go : Nat → Hp → Prop
  yld : Nat → Hp → V → Hp → Prop
  stop : Nat → Hp → Prop
def FpOk (X : Cx) (pins : List (Addr × Obj)) (H : Hp) (b : Addr) : Prop :=
  H b = none ∧ b ≠ X.env.locals ∧ b ∉ X.fs ∧ (b ∈ X.ex ∨ X.s₀.heap.objs.size ≤ b) ∧ (∀ x c, X.env.cells.lookup x = some c → c ≠ b) ∧ ∀ p ∈ X.pn ++ pins, p.1 ≠ b
theorem Inv.fpOk {X : Cx} {pins : List (Addr × Obj)} {σ : St} {H H' : Hp} {s : Shared} {b : Addr} (I : Inv X pins σ H s) (hb : s.heap.objs.size ≤ b) (hn : H' b = none) : FpOk X pins H' b := by
  refine ⟨hn, Nat.ne_of_gt (Nat.lt_of_lt_of_le I.lt hb), I.nofs hb, .inr (Nat.le_trans I.sz hb), fun x c e z => ?_, fun p hp z => ?_⟩
  · obtain ⟨v, q⟩ := I.cell x c e
    exact absurd (Nat.lt_of_lt_of_le q.lt (by rw [z]; exact hb)) (Nat.lt_irrefl _)
  · exact absurd (Nat.lt_of_lt_of_le (Heap.lt_size (I.pin p hp).1) (by rw [z]; exact hb)) (Nat.lt_irrefl _)
structure Turn (P : Program) (w : World) (K : PySem.W.Frag) (tg : Expr) (J : It) (fp : List Addr) (it : Addr) (tn : Nat → Heap → Prop) : Prop where
  mem : it ∈ fp
  obj : ∀ i h, tn i h → ∀ b ∈ fp, ∃ o, h.get? b = some o ∧ ∀ v, o.data ≠ .cell v
  keep : ∀ i h h', tn i h → (∀ b ∈ fp, ∀ o, h.get? b = some o → h'.get? b = some o) → tn i h'
  item : ∀ (X : Cx), X.prog = P → X.w = w → X.K = K → X.calm = true → ∀ (i : Nat) (pins : List (Addr × Obj)) (s : Shared) (σ : St) (H : Hp) (E : Value → Shared → Prop), Inv X pins σ H s → (∀ b ∈ fp, FpOk X pins H b) → tn i s.heap → J.go i H →
    wpAny (model P w) X.A (pyNext (.ref it)) (fun r s1 => ∃ u, r = some u ∧
      wpAny (model P w) X.A (letOwnedTupleGo tg (.ref it) u) (fun _ s2 => ∃ x H', Inv X pins σ H' s2 ∧ RelV x u ∧ J.yld i H x H' ∧ tn (i + 1) s2.heap ∧ ∀ b ∈ fp, H' b = none) E s1) E s
  done : ∀ (X : Cx), X.prog = P → X.w = w → X.K = K → X.calm = true → ∀ (i : Nat) (pins : List (Addr × Obj)) (s : Shared) (σ : St) (H : Hp) (E : Value → Shared → Prop), Inv X pins σ H s → (∀ b ∈ fp, FpOk X pins H b) → tn i s.heap → J.stop i H →
    wpAny (model P w) X.A (pyNext (.ref it)) (fun r s1 => r = none ∧ Inv X pins σ H s1) E s
  self : ∀ (A : Around) (i : Nat) (s : Shared) (Q : Value → Shared → Prop) (E : Value → Shared → Prop), tn i s.heap → Q (.ref it) s → wpAny (model P w) A (pyIter (.ref it)) Q E s
abbrev TI := St → Hp → (It → Hp → Prop) → Prop
def PIE (X : Cx) (pins : List (Addr × Obj)) (σ : St) (tg : Expr) (R : It → Hp → Prop) (itv : Value) (s2 : Shared) : Prop :=
  ∃ (it : Addr) (fp : List Addr) (tn : Nat → Heap → Prop) (J : It) (H' : Hp), itv = .ref it ∧ Inv X pins σ H' s2 ∧ Turn X.prog X.w X.K tg J fp it tn ∧ tn 0 s2.heap ∧ (∀ b ∈ fp, FpOk X pins H' b) ∧ R J H'
def PI (X : Cx) (tg iter : Expr) (wi : TI) : Prop :=
  ∀ (pins : List (Addr × Obj)) (s : Shared) (σ : St) (H : Hp) (R : It → Hp → Prop), Inv X pins σ H s → wi σ H R →
    wpAny (model X.prog X.w) X.A (eval iter X.env) (fun v s1 => wpAny (model X.prog X.w) X.A (pyIter v) (PIE X pins σ tg R) X.xe s1) X.xe s
theorem go_of {M : Model} {A : Around} {E : Value → Shared → Prop} {s : Shared} {tg : Expr} {it : Addr} {u : Value} {o : Obj} {n : String} {vs : Array Value} {Q : Unit → Shared → Prop} (ho : s.heap.get? it = some o) (hc : o.cls = .type n) (hd : o.data = .fields vs)
    (hn : ["enumerate", "zip", "dict_itemiterator", "dict_reverseitemiterator", "odict_iterator", "itertools.zip_longest", "itertools.pairwise"].contains n = false) (hQ : Q () s) : wpAny M A (letOwnedTupleGo tg (.ref it) u) Q E s := by
  unfold letOwnedTupleGo
  cases tg <;> first
    | exact wpAny_pure hQ
    | (cases u <;> first
        | exact wpAny_pure hQ
        | (refine wpAny_bind (wpAny_load ho ?_)
           rw [hc, hd]
           show wpAny M A (if (["enumerate", "zip", "dict_itemiterator", "dict_reverseitemiterator", "odict_iterator", "itertools.zip_longest", "itertools.pairwise"].contains n && vs[0]? == some (rawInt _)) = true then _ else _) Q E s
           rw [if_neg (by intro h; rw [hn, Bool.false_and] at h; cases h)]
           exact wpAny_pure hQ))
def Itl (K : PySem.W.Frag) (a : Addr) : It :=
  ⟨fun i H => ∃ xs x, SqL K H a xs ∧ xs[i]? = some x, fun i H x H' => H' = H ∧ ∀ xs, SqL K H a xs → xs[i]? = some x, fun i H => ∃ xs, SqL K H a xs ∧ xs.length ≤ i⟩
def Itr (lo : Int) (n : Nat) : It := ⟨fun i _ => i < n, fun i H x H' => H' = H ∧ x = .int (lo + i), fun i _ => n ≤ i⟩
theorem turn_list {P : Program} {w : World} {K : PySem.W.Frag} {tg : Expr} (a it : Addr) : Turn P w K tg (Itl K a) [it] it (fun i h => h.IsListIter it a i) where
  mem := by simp
  obj := fun i h st b hb => by
    have e : b = it := by simpa using hb
    subst e
    obtain ⟨o, e, c, d⟩ := st
    exact ⟨o, e, fun v z => by rw [d] at z; cases z⟩
  keep := fun i h h' st k => st.at fun o e => k it (by simp) o e
  item := by
    intro X hP hw hK hc i pins s σ H E I hf st hg
    subst hP hw hK
    obtain ⟨xs, x, hq, hx⟩ := hg
    obtain ⟨its, rv, p, hz⟩ := I.list hq
    obtain ⟨u, hu, ru⟩ := rv.get hx
    obtain ⟨f0, f1, f2, f3, f4, f5⟩ := hf it (by simp)
    refine wpAny_pyNext_list_item st p.isList (x := u) (by simpa using hu) fun h' st' sb => ?_
    have I1 : Inv X pins σ H { s with heap := h' } := I.turned (t' := s.toks) (fun b o hb e => (sb.2 b hb).trans e) f0 f1 f3 f4 f5
    obtain ⟨o, e, c, d⟩ := id st'
    exact ⟨u, rfl, go_of (s := { s with heap := h' }) e c d (by decide) ⟨x, H, I1, ru, ⟨rfl, fun ys hy => by rw [I.list_inj hy hq]; exact hx⟩, st', fun b hb => (hf b hb).1⟩⟩
  done := by
    intro X hP hw hK hc i pins s σ H E I hf st hg
    subst hP hw hK
    obtain ⟨xs, hq, hx⟩ := hg
    obtain ⟨its, rv, p, hz⟩ := I.list hq
    obtain ⟨f0, f1, f2, f3, f4, f5⟩ := hf it (by simp)
    have hl := rv.length
    exact wpAny_pyNext_list_end (I.ok.hd hc) st p.isList (by simp; omega) fun h' eb => ⟨rfl, I.turned (t' := s.toks) (fun b o hb e => eb b o hb e) f0 f1 f3 f4 f5⟩
  self := fun _ _ _ _ _ st h => wpAny_pyIter_listiter st h
theorem turn_range {P : Program} {w : World} {K : PySem.W.Frag} {tg : Expr} (it : Addr) (lo : Int) (n : Nat) : Turn P w K tg (Itr lo n) [it] it (fun i h => IsRangeIter h it (lo + (i : Nat) * 1) ((n : Int) - (i : Nat)) 1) where
  mem := by simp
  obj := fun i h st b hb => by
    have e : b = it := by simpa using hb
    subst e
    exact ⟨_, st, fun v z => by
      have z' : Data.fields _ = Data.cell v := z
      cases z'⟩
  keep := fun i h h' st k => k it (by simp) _ st
  item := by
    intro X hP hw hK hc i pins s σ H E I hf st hg
    subst hP hw hK
    obtain ⟨f0, f1, f2, f3, f4, f5⟩ := hf it (by simp)
    have W := Walks.range (prog := X.prog) (w := X.w) (I.ok.hd hc) it lo 1 n
    refine W.item i s _ _ hg st fun v h' tk hv st' kk => ?_
    obtain ⟨t, rfl⟩ := hv
    have I1 : Inv X pins σ H { s with heap := h', toks := tk } := I.turned (fun b o hb e => kk b o (by simpa using hb) e) f0 f1 f3 f4 f5
    refine ⟨_, rfl, go_of (s := { s with heap := h', toks := tk }) (n := "range_iterator") st' rfl rfl (by decide) ⟨.int (lo + i), H, I1, ⟨t, ?_⟩, ⟨rfl, rfl⟩, st', fun b hb => (hf b hb).1⟩⟩
    rw [Int.mul_one]
  done := by
    intro X hP hw hK hc i pins s σ H E I hf st hg
    subst hP hw hK
    obtain ⟨f0, f1, f2, f3, f4, f5⟩ := hf it (by simp)
    exact wpAny_pyNext_range_end (I.ok.hd hc) st (by have : n ≤ i := hg; omega) fun h' eb => ⟨rfl, I.turned (t' := s.toks) (fun b o hb e => eb b o hb e) f0 f1 f3 f4 f5⟩
  self := fun _ _ _ _ _ st h => wpAny_pyIter_rangeiter st h
end L2
namespace L2
open PySem PySem.Spec PyProof.Rows
section
variable {X : Cx} {tg : Expr}
def iList (K : PySem.W.Frag) (tl : TE) : TI := fun σ H R => tl σ H fun x H1 => ∃ a, x = .ref a ∧ (∃ xs, SqL K H1 a xs) ∧ R (Itl K a) H1
theorem pi_list {l : Expr} {tl : TE} (hl : PE X l tl) : PI X tg l (iList X.K tl) := by
  intro pins s σ H R I h
  refine thn (hl pins s σ H _ I h) fun v s1 ⟨x, H1, I1, r1, q1⟩ => ?_
  obtain ⟨a, e, ⟨xs, hq⟩, q⟩ := q1
  subst e
  cases r1
  obtain ⟨its, rv, p, hz⟩ := I1.list hq
  refine wpAny_pyIter_list p.isList ?_
  refine ⟨s1.heap.objs.size, [s1.heap.objs.size], _, _, H1, rfl, I1.kept (t' := s1.toks) fun b o e => Heap.get?_push_of_some _ e, turn_list a _, ⟨_, Heap.get?_push_size _ rfl, rfl, rfl⟩, fun b hb => ?_, q⟩
  have e : b = s1.heap.objs.size := by simpa using hb
  subst e
  exact I1.fpOk (Nat.le_refl _) (I1.hok.fresh (Nat.le_refl _))
theorem range_it {pins : List (Addr × Obj)} {σ : St} {H : Hp} {s : Shared} {R : It → Hp → Prop} {E : Value → Shared → Prop} {lo hi : Int} {t u v : Tok} {tk : Nat} (I : Inv X pins σ H s) (h1 : -(2 ^ 62) ≤ lo) (h2 : lo < 2 ^ 62) (h3 : -(2 ^ 62) ≤ hi) (h4 : hi < 2 ^ 62)
    (q : R (Itr lo (hi - lo).toNat) H) : wpAny (model X.prog X.w) X.A (pyIter (.ref s.heap.objs.size)) (PIE X pins σ tg R) E { s with heap := s.heap.push { cls := .type "range", data := .fields #[.int lo t, .int hi u, .int 1 v] }, toks := tk } := by
  refine wpAny_pyIter_range (IsRange.new ..) (small_one h1 h2 h3 h4) ?_
  have I1 : Inv X pins σ H { s with heap := s.heap.push { cls := .type "range", data := .fields #[.int lo t, .int hi u, .int 1 v] }, toks := tk } := I.kept fun b o e => Heap.get?_push_of_some _ e
  refine ⟨(s.heap.push { cls := .type "range", data := .fields #[.int lo t, .int hi u, .int 1 v] }).objs.size, [(s.heap.push { cls := .type "range", data := .fields #[.int lo t, .int hi u, .int 1 v] }).objs.size], _, _, H, rfl,
    I1.kept (t' := tk) fun b o e => Heap.get?_push_of_some _ e, turn_range _ lo (hi - lo).toNat, ?_, fun b hb => ?_, q⟩
  · have e1 : lo + ((0 : Nat) : Int) * 1 = lo := by simp
    have e2 : (((hi - lo).toNat : Nat) : Int) - ((0 : Nat) : Int) = Builtin.Range.rangeSize lo hi 1 := by rw [rangeSize_one]; split <;> omega
    show IsRangeIter _ _ (lo + ((0 : Nat) : Int) * 1) ((((hi - lo).toNat : Nat) : Int) - ((0 : Nat) : Int)) 1
    rw [e1, e2]
    exact Heap.get?_push_size _ rfl
  · have e : b = (s.heap.push { cls := .type "range", data := .fields #[.int lo t, .int hi u, .int 1 v] }).objs.size := by simpa using hb
    subst e
    exact I1.fpOk (Nat.le_refl _) (I1.hok.fresh (Nat.le_refl _))
def iRng1 (ta : TA) : TI := fun σ H R => ta σ H fun vs H1 => ∃ j : Int, vs = [.int j] ∧ -(2 ^ 62) ≤ j ∧ j < 2 ^ 62 ∧ R (Itr 0 j.toNat) H1
theorem pi_range1 {a : Expr} {ta : TA} {p pos : Pos} (hg : Gl X "range") (hm : X.mg "range" = none) (ha : PA X [a] ta) (hs : starEach [a] X.env = [(false, eval a X.env)] := by rfl) : PI X tg (.Call (.Name "range" p) [a] [] pos) (iRng1 ta) := by
  intro pins s σ H R I h
  refine Call_ (ld_blt I hg hm boot_range (PyProof.Rows.callWith_type1 (thn (ha pos pins s σ H _ I h) fun us s1 ⟨vs, H1, I1, r1, q1⟩ => ?_) hs rfl))
  obtain ⟨j, e, q1, q2, q⟩ := q1
  subst e
  cases r1 with
  | cons r rr =>
    cases rr
    obtain ⟨t, rfl⟩ := r
    exact call_range_1 (range_it I1 (by omega) (by omega) q1 q2 (by simpa using q))
def tFor (wi : TI) (g : TG) (tb : TS) : TS := fun D σ H => wi σ H fun J H1 => ∃ W : Nat → Nat → St → Hp → Prop, (∃ m, W 0 m σ H1) ∧ ∀ i m σ H, W i m σ H →
  (J.stop i H ∧ D.nx σ H) ∨ (J.go i H ∧ ∃ N : St → Hp → Prop, (∀ σ' H', N σ' H' → ∃ m', m' < m ∧ W (i + 1) m' σ' H') ∧ ∀ x H', J.yld i H x H' → g x σ H' fun σ2 H2 => tb { D with nx := N, ct := N, bk := D.nx } σ2 H2)
def pinsAt (fp : List Addr) (h : Heap) : List (Addr × Obj) := fp.filterMap fun b => (h.get? b).map fun o => (b, o)
theorem mem_pinsAt {fp : List Addr} {h : Heap} {b : Addr} {o : Obj} (hb : b ∈ fp) (e : h.get? b = some o) : (b, o) ∈ pinsAt fp h := List.mem_filterMap.mpr ⟨b, hb, by rw [e]; rfl⟩
theorem of_pinsAt {fp : List Addr} {h : Heap} {p : Addr × Obj} (hp : p ∈ pinsAt fp h) : p.1 ∈ fp ∧ h.get? p.1 = some p.2 := by
  obtain ⟨b, hb, e⟩ := List.mem_filterMap.mp hp
  cases q : h.get? b with
  | none => rw [q] at e; cases e
  | some o =>
    rw [q] at e
    have e' : (b, o) = p := Option.some.inj e
    subst e'
    exact ⟨hb, q⟩
theorem Inv.pinned {pins : List (Addr × Obj)} {σ : St} {H : Hp} {s : Shared} {fp : List Addr} (I : Inv X pins σ H s) (hf : ∀ b ∈ fp, FpOk X pins H b) (ho : ∀ b ∈ fp, ∃ o, s.heap.get? b = some o ∧ ∀ v, o.data ≠ .cell v) : Inv X (pins ++ pinsAt fp s.heap) σ H s :=
  I.pins_of fun p hp => (List.mem_append.mp hp).elim (fun z => I.pin p (List.mem_append_right _ z)) fun z => by
    obtain ⟨hb, e⟩ := of_pinsAt z
    obtain ⟨f0, f1, f2, _⟩ := hf p.1 hb
    obtain ⟨o, e', d⟩ := ho p.1 hb
    rw [e] at e'; cases e'
    exact ⟨e, f0, f1, f2, d⟩
theorem Inv.unpinned {pins pl : List (Addr × Obj)} {σ : St} {H : Hp} {s : Shared} (I : Inv X (pins ++ pl) σ H s) : Inv X pins σ H s := I.pins_of fun p hp => I.pin p (List.mem_append_right _ (List.mem_append_left _ hp))
theorem ps_for {iter : Expr} {body : List Stmt} {wi : TI} {g : TG} {tb : TS} {pos : Pos} (hp : PassesOwn (model X.prog X.w) X.A X.env X.xe) (hc : X.calm = true) (hi : PI X tg iter wi) (hg : PG X tg g) (hb : PSs X body tb)
    (hs : ∀ x, foldedSetIterable iter X.env x = pure x := by intro _; rfl) : PS X (.For tg iter body [] pos) (tFor wi g tb) := by
  intro pins s σ H D I h
  refine wpAny_For (thn (hi pins s σ H _ I h) fun v s1 h1 => thn h1 fun itv s2 h2 => ?_) hs
  obtain ⟨it, fp, tn, J, H2, e, I2, T, st2, f2, W, ⟨m0, w0⟩, turn⟩ := h2
  subst e
  have stat : ∀ {H' : Hp}, (∀ b ∈ fp, H' b = none) → ∀ b ∈ fp, FpOk X pins H' b := fun hn b hb => ⟨hn b hb, (f2 b hb).2⟩
  refine codeAny_forLoop_any (fun n s' => ∃ i σ' H', Inv X pins σ' H' s' ∧ tn i s'.heap ∧ (∀ b ∈ fp, H' b = none) ∧ W i n σ' H') ?_ m0 ⟨0, σ, H2, I2, st2, fun b hb => (f2 b hb).1, w0⟩
  rintro n s3 ⟨i, σ3, H3, I3, st3, fr3, w3⟩
  rcases turn i n σ3 H3 w3 with ⟨stop, qn⟩ | ⟨go, N, hN, step⟩
  · refine wpAny_passesOwn hp (thn (T.done X rfl rfl rfl hc i pins s3 σ3 H3 X.xe I3 (stat fr3) st3 stop) fun r s4 ⟨hr, I4⟩ => ?_)
    subst hr
    exact wpAny_execs_nil ⟨σ3, H3, I4, qn⟩
  · refine wpAny_passesOwn hp (thn (T.item X rfl rfl rfl hc i pins s3 σ3 H3 X.xe I3 (stat fr3) st3 go) fun r s4 ⟨u, hr, h4⟩ => ?_)
    subst hr
    refine wpAny_passesOwn hp (thn h4 fun _ s5 ⟨x, H5, I5, r5, y5, st5, fr5⟩ => ?_)
    have I5' := I5.pinned (stat fr5) (T.obj _ _ st5)
    refine wpAny_passesOwn hp (thn (hg _ s5 σ3 H5 x u _ I5' r5 (step x H5 y5)) fun _ s6 ⟨σ6, H6, I6, q6⟩ => ?_)
    refine wpAny_passesOwn hp (thn (hb _ s6 σ6 H6 _ I6 q6) fun f s7 q7 => ?_)
    have again : ∀ {σ7 : St} {H7 : Hp}, Inv X (pins ++ pinsAt fp s5.heap) σ7 H7 s7 → N σ7 H7 → ∃ m, m < n ∧ ∃ i σ' H', Inv X pins σ' H' s7 ∧ tn i s7.heap ∧ (∀ b ∈ fp, H' b = none) ∧ W i m σ' H' := fun {σ7 H7} I7 n7 => by
      obtain ⟨m', hm, w7⟩ := hN σ7 H7 n7
      refine ⟨m', hm, i + 1, σ7, H7, I7.unpinned, T.keep _ _ _ st5 fun b hb o e => (I7.pin (b, o) (List.mem_append_right _ (List.mem_append_right _ (mem_pinsAt hb e)))).1, fun b hb => ?_, w7⟩
      obtain ⟨o, e, d⟩ := T.obj _ _ st5 b hb
      exact (I7.pin (b, o) (List.mem_append_right _ (List.mem_append_right _ (mem_pinsAt hb e)))).2.1
    cases f with
    | next => obtain ⟨σ7, H7, I7, n7⟩ := q7; exact again I7 n7
    | cont => obtain ⟨σ7, H7, I7, n7⟩ := q7; exact again I7 n7
    | brk => obtain ⟨σ7, H7, I7, q7⟩ := q7; exact ⟨σ7, H7, I7.unpinned, q7⟩
    | ret v => obtain ⟨x7, σ7, H7, I7, r7, q7⟩ := q7; exact ⟨x7, σ7, H7, I7.unpinned, r7, q7⟩
end
theorem for_list {K : PySem.W.Frag} {a : Addr} {xs : List V} {g : TG} {tb : TS} {D : Ends} {σ : St} {H : Hp} (Pv : Nat → St → Hp → Prop) (h0 : Pv 0 σ H) (hl : ∀ i σ H, i ≤ xs.length → Pv i σ H → SqL K H a xs)
    (hs : ∀ i x σ H, xs[i]? = some x → Pv i σ H → g x σ H fun σ2 H2 => tb { D with nx := Pv (i + 1), ct := Pv (i + 1), bk := D.nx } σ2 H2) (hd : ∀ σ H, Pv xs.length σ H → D.nx σ H) :
    ∃ W : Nat → Nat → St → Hp → Prop, (∃ m, W 0 m σ H) ∧ ∀ i m σ H, W i m σ H →
      ((Itl K a).stop i H ∧ D.nx σ H) ∨ ((Itl K a).go i H ∧ ∃ N : St → Hp → Prop, (∀ σ' H', N σ' H' → ∃ m', m' < m ∧ W (i + 1) m' σ' H') ∧ ∀ x H', (Itl K a).yld i H x H' → g x σ H' fun σ2 H2 => tb { D with nx := N, ct := N, bk := D.nx } σ2 H2) := by
  refine ⟨fun i m σ H => m = xs.length - i ∧ i ≤ xs.length ∧ Pv i σ H, ⟨xs.length, by simp, Nat.zero_le _, h0⟩, ?_⟩
  rintro i m σ H ⟨rfl, hi, p⟩
  have q := hl i σ H hi p
  by_cases hlt : i < xs.length
  · refine .inr ⟨⟨xs, xs[i], q, by simp [hlt]⟩, Pv (i + 1), fun σ' H' p' => ⟨xs.length - (i + 1), by omega, rfl, hlt, p'⟩, fun x H' y => ?_⟩
    obtain ⟨e, y⟩ := y
    subst e
    exact hs i x σ _ (y xs q) p
  · have e : i = xs.length := by omega
    subst e
    exact .inl ⟨⟨xs, q, Nat.le_refl _⟩, hd σ H p⟩
theorem for_range {lo : Int} {n : Nat} {g : TG} {tb : TS} {D : Ends} {σ : St} {H : Hp} (Pv : Nat → St → Hp → Prop) (h0 : Pv 0 σ H)
    (hs : ∀ i σ H, i < n → Pv i σ H → g (.int (lo + i)) σ H fun σ2 H2 => tb { D with nx := Pv (i + 1), ct := Pv (i + 1), bk := D.nx } σ2 H2) (hd : ∀ σ H, Pv n σ H → D.nx σ H) :
    ∃ W : Nat → Nat → St → Hp → Prop, (∃ m, W 0 m σ H) ∧ ∀ i m σ H, W i m σ H →
      ((Itr lo n).stop i H ∧ D.nx σ H) ∨ ((Itr lo n).go i H ∧ ∃ N : St → Hp → Prop, (∀ σ' H', N σ' H' → ∃ m', m' < m ∧ W (i + 1) m' σ' H') ∧ ∀ x H', (Itr lo n).yld i H x H' → g x σ H' fun σ2 H2 => tb { D with nx := N, ct := N, bk := D.nx } σ2 H2) := by
  refine ⟨fun i m σ H => m = n - i ∧ i ≤ n ∧ Pv i σ H, ⟨n, by simp, Nat.zero_le _, h0⟩, ?_⟩
  rintro i m σ H ⟨rfl, hi, p⟩
  by_cases hlt : i < n
  · refine .inr ⟨hlt, Pv (i + 1), fun σ' H' p' => ⟨n - (i + 1), by omega, rfl, hlt, p'⟩, fun x H' y => ?_⟩
    obtain ⟨e, y⟩ := y
    subst e y
    exact hs i σ _ hlt p
  · have e : i = n := by omega
    subst e
    exact .inl ⟨Nat.le_refl _, hd σ H p⟩
end L2
namespace L2
open PySem PySem.Spec PyProof.Rows
abbrev R2 := V → V → Hp → VK → Prop
def OpR (X : Cx) (f : Value → Value → Sem Value) (r : R2) : Prop :=
  ∀ (pins : List (Addr × Obj)) (s : Shared) (σ : St) (H : Hp) (x y : V) (v u : Value) (Q : VK), Inv X pins σ H s → RelV x v → RelV y u → r x y H Q →
    wpAny (model X.prog X.w) X.A (f v u) (EP X pins σ Q) X.xe s
def UnR (X : Cx) (f : Value → Sem Value) (r : V → Hp → VK → Prop) : Prop :=
  ∀ (pins : List (Addr × Obj)) (s : Shared) (σ : St) (H : Hp) (x : V) (v : Value) (Q : VK), Inv X pins σ H s → RelV x v → r x H Q →
    wpAny (model X.prog X.w) X.A (f v) (EP X pins σ Q) X.xe s
def CallR (X : Cx) (f : Value) (r : List V → Hp → VK → Prop) : Prop :=
  ∀ (pins : List (Addr × Obj)) (s : Shared) (σ : St) (H : Hp) (xs : List V) (us : List Value) (Q : VK), Inv X pins σ H s → Vals xs us → r xs H Q →
    wpAny (model X.prog X.w) X.A (call f us) (EP X pins σ Q) X.xe s
def tOp (r : R2) (ta tb : TE) : TE := fun σ H Q => ta σ H fun x H1 => tb σ H1 fun y H2 => r x y H2 Q
def tUn (r : V → Hp → VK → Prop) (ta : TE) : TE := fun σ H Q => ta σ H fun x H1 => r x H1 Q
def rI (C : Int → Int → Prop) (g : Int → Int → V) : R2 := fun x y H Q => ∃ i j, x = .int i ∧ y = .int j ∧ C i j ∧ Q (g i j) H
def rI0 (g : Int → Int → V) : R2 := fun x y H Q => ∃ i j, x = .int i ∧ y = .int j ∧ Q (g i j) H
def rU (g : Int → V) : V → Hp → VK → Prop := fun x H Q => ∃ i, x = .int i ∧ Q (g i) H
section
variable {X : Cx} {a b c : Expr} {ta tb tc : TE} {pos : Pos}
theorem binT (ha : PE X a ta) (hb : PE X b tb) {pins : List (Addr × Obj)} {s : Shared} {σ : St} {H : Hp} {R : V → V → Hp → Prop} (I : Inv X pins σ H s)
    (h : ta σ H fun x H1 => tb σ H1 fun y H2 => R x y H2) {Q : Value → Shared → Prop} {f : Value → Value → Sem Value}
    (hf : ∀ v u s2 x y H2, Inv X pins σ H2 s2 → RelV x v → RelV y u → R x y H2 → wpAny (model X.prog X.w) X.A (f v u) Q X.xe s2) :
    wpAny (model X.prog X.w) X.A (eval a X.env) (fun v s₁ => wpAny (model X.prog X.w) X.A (eval b X.env) (fun u s₂ => wpAny (model X.prog X.w) X.A (f v u) Q X.xe s₂) X.xe s₁) X.xe s := by
  refine thn (ha pins s σ H _ I h) fun v s1 ⟨x, H1, I1, r1, q1⟩ => ?_
  refine thn (hb pins s1 σ H1 _ I1 q1) fun u s2 ⟨y, H2, I2, r2, q2⟩ => ?_
  exact hf v u s2 x y H2 I2 r1 r2 q2
theorem pe_op {op : Operator} {r : R2} (ho : OpR X (binaryOp op) r) (ha : PE X a ta) (hb : PE X b tb) : PE X (.BinOp a op b pos) (tOp r ta tb) := by
  intro pins s σ H Q I h
  exact wpAny_BinOp (binT ha hb I h fun v u s2 x y H2 I2 rx ry q => ho pins s2 σ H2 x y v u Q I2 rx ry q)
theorem pe_un {op : UnaryOp} {r : V → Hp → VK → Prop} (ho : UnR X (unaryOp op) r) (ha : PE X a ta) : PE X (.UnaryOp op a pos) (tUn r ta) := by
  intro pins s σ H Q I h
  exact UnaryOp_ (thn (ha pins s σ H _ I h) fun v s1 ⟨x, H1, I1, r1, q1⟩ => ho pins s1 σ H1 x v Q I1 r1 q1)
theorem opI {f : Value → Value → Sem Value} {C : Int → Int → Prop} {g : Int → Int → Int}
    (rule : ∀ (i j : Int) (t u : Tok) (s : Shared) (Q : Value → Shared → Prop) (E : Value → Shared → Prop), C i j → Q (.int (g i j) s.toks) { s with toks := s.toks + 1 } → wpAny (model X.prog X.w) X.A (f (.int i t) (.int j u)) Q E s) :
    OpR X f (rI C fun i j => .int (g i j)) := by
  intro pins s σ H x y v u Q I rx ry h
  obtain ⟨i, j, rfl, rfl, hc, q⟩ := h
  obtain ⟨t, rfl⟩ := rx
  obtain ⟨t', rfl⟩ := ry
  exact rule i j t t' s _ _ hc ⟨.int (g i j), H, I.tok _, ⟨_, rfl⟩, q⟩
theorem opI0 {f : Value → Value → Sem Value} {g : Int → Int → Int}
    (rule : ∀ (i j : Int) (t u : Tok) (s : Shared) (Q : Value → Shared → Prop) (E : Value → Shared → Prop), Q (.int (g i j) s.toks) { s with toks := s.toks + 1 } → wpAny (model X.prog X.w) X.A (f (.int i t) (.int j u)) Q E s) :
    OpR X f (rI0 fun i j => .int (g i j)) := by
  intro pins s σ H x y v u Q I rx ry h
  obtain ⟨i, j, rfl, rfl, q⟩ := h
  obtain ⟨t, rfl⟩ := rx
  obtain ⟨t', rfl⟩ := ry
  exact rule i j t t' s _ _ ⟨.int (g i j), H, I.tok _, ⟨_, rfl⟩, q⟩
theorem opB0 {f : Value → Value → Sem Value} {g : Int → Int → Bool}
    (rule : ∀ (i j : Int) (t u : Tok) (s : Shared) (Q : Value → Shared → Prop) (E : Value → Shared → Prop), Q (.bool (g i j)) s → wpAny (model X.prog X.w) X.A (f (.int i t) (.int j u)) Q E s) :
    OpR X f (rI0 fun i j => .bl (g i j)) := by
  intro pins s σ H x y v u Q I rx ry h
  obtain ⟨i, j, rfl, rfl, q⟩ := h
  obtain ⟨t, rfl⟩ := rx
  obtain ⟨t', rfl⟩ := ry
  exact rule i j t t' s _ _ ⟨.bl (g i j), H, I, rfl, q⟩
def CDiv (i j : Int) : Prop := 0 < j ∧ j < 1073741824
def CPow (i j : Int) : Prop := 0 ≤ j ∧ j ≤ 1000000 ∧ i.natAbs < 2 ^ 64
def CMul (i j : Int) : Prop := (-(2 ^ 64) < i ∧ i < 2 ^ 64) ∨ (-(2 ^ 64) < j ∧ j < 2 ^ 64)
theorem CMul.ok {i j : Int} (h : CMul i j) : IntMulOk i j := by
  rcases h with ⟨h1, h2⟩ | ⟨h1, h2⟩
  · exact .of_left (intBits_le_64 h1 h2)
  · exact .of_right (intBits_le_64 h1 h2)
theorem two_pow_nn (k : Nat) : (0 : Int) ≤ 2 ^ k := by
  rw [two_pow_cast]
  exact Int.natCast_nonneg _
theorem op_add : OpR X (binaryOp .Add) (rI0 fun i j => .int (i + j)) := opI0 fun _ _ _ _ _ _ _ q => add_int q
theorem op_sub : OpR X (binaryOp .Sub) (rI0 fun i j => .int (i - j)) := opI0 fun _ _ _ _ _ _ _ q => sub_int q
theorem op_mul : OpR X (binaryOp .Mult) (rI CMul fun i j => .int (i * j)) := opI fun _ _ _ _ _ _ _ hc q => mul_int q hc.ok
theorem op_fdiv : OpR X (binaryOp .FloorDiv) (rI CDiv fun i j => .int (i / j)) := opI fun i j _ _ _ _ _ hc q => by
  have h1 : (0 : Int) < j := hc.1
  have h2 : j < 1073741824 := hc.2
  exact floordiv_int (by omega) (by rw [Int.fdiv_eq_ediv_of_nonneg i (by omega)]; exact q) (.inl (PyProof.noPylong_small (by omega)))
theorem op_mod : OpR X (binaryOp .Mod) (rI (fun _ j => 0 < j) fun i j => .int (i % j)) := opI fun i j _ _ _ _ _ hc q => by
  have h1 : (0 : Int) < j := hc
  exact mod_int' (by omega) (by rw [Int.fmod_eq_emod_of_nonneg i (by omega)]; exact q)
theorem op_pow : OpR X (binaryOp .Pow) (rI CPow fun i j => .int (i ^ j.toNat)) := opI fun _ _ _ _ _ _ _ hc q => pow_int_small hc.1 hc.2.1 hc.2.2 q
theorem op_shl : OpR X (binaryOp .LShift) (rI CPow fun i j => .int (i * 2 ^ j.toNat)) := opI fun _ _ _ _ _ _ _ hc q => lshift_int_small hc.1 hc.2.1 hc.2.2 q
theorem op_shr : OpR X (binaryOp .RShift) (rI (fun _ j => 0 ≤ j) fun i j => .int (i / 2 ^ j.toNat)) := opI fun i j _ _ _ _ _ hc q =>
  rshift_int hc (by rw [Int.fdiv_eq_ediv_of_nonneg i (two_pow_nn _)]; exact q)
theorem op_and : OpR X (binaryOp .BitAnd) (rI0 fun i j => .int (Builtin.bitAnd i j)) := opI0 fun _ _ _ _ _ _ _ q => and_int q
theorem unI {f : Value → Sem Value} {g : Int → Int}
    (rule : ∀ (i : Int) (t : Tok) (s : Shared) (Q : Value → Shared → Prop) (E : Value → Shared → Prop), Q (.int (g i) s.toks) { s with toks := s.toks + 1 } → wpAny (model X.prog X.w) X.A (f (.int i t)) Q E s) :
    UnR X f (rU fun i => .int (g i)) := by
  intro pins s σ H x v Q I rx h
  obtain ⟨i, rfl, q⟩ := h
  obtain ⟨t, rfl⟩ := rx
  exact rule i t s _ _ ⟨.int (g i), H, I.tok _, ⟨_, rfl⟩, q⟩
theorem un_neg : UnR X (unaryOp .USub) (rU fun i => .int (-i)) := unI fun _ _ _ _ _ q => neg_int q
end
def scal : V → V → Bool
  | .non, .non => true | .non, .int _ => true | .int _, .non => true | .non, .bl _ => true | .bl _, .non => true | .non, .str _ => true | .str _, .non => true
  | .int _, .int _ => true | .bl _, .bl _ => true | .str _, .str _ => true | .byt _, .byt _ => true
  | .int _, .str _ => true | .str _, .int _ => true | .bl _, .str _ => true | .str _, .bl _ => true
  | _, _ => false
def rEq : R2 := fun x y H Q => scal x y = true ∧ Q (.bl (decide (x = y))) H
def rNe : R2 := fun x y H Q => scal x y = true ∧ Q (.bl (!decide (x = y))) H
theorem dec_int {i j : Int} : decide (V.int i = V.int j) = (i == j) := by
  rw [Bool.eq_iff_iff]
  simp
theorem dec_bl {i j : Bool} : decide (V.bl i = V.bl j) = (i == j) := by
  rw [Bool.eq_iff_iff]
  simp
theorem dec_str {i j : Str} : decide (V.str i = V.str j) = (i == j) := by
  rw [Bool.eq_iff_iff]
  simp
theorem dec_byt {i j : Array UInt8} : decide (V.byt i = V.byt j) = (i.toList == j.toList) := by
  rw [Bool.eq_iff_iff]
  cases i
  cases j
  simp
section
variable {X : Cx} {a b c : Expr} {ta tb tc : TE} {pos : Pos}
theorem fin_bl {pins : List (Addr × Obj)} {σ : St} {H : Hp} {s : Shared} {Q : VK} {k k' : Bool} (I : Inv X pins σ H s) (q : Q (.bl k) H) (e : k = k') : EP X pins σ Q (.bool k') s := by
  subst e
  exact ⟨.bl k, H, I, rfl, q⟩
theorem op_eq : OpR X (compareOp .Eq) rEq := by
  intro pins s σ H x y v u Q I rx ry h
  obtain ⟨hs, q⟩ := h
  cases x with
  | non =>
    cases rx
    cases y with
    | non => cases ry; exact PySem.EqNone.eq_none_none (fin_bl I q (by simp))
    | bl j => cases ry; exact PySem.EqNone.eq_none_bool (fin_bl I q (by simp))
    | int j => obtain ⟨t', rfl⟩ := ry; exact PySem.EqNone.eq_none_int (fin_bl I q (by simp))
    | str j => obtain ⟨t', rfl⟩ := ry; exact PySem.EqNone.eq_none_str (fin_bl I q (by simp))
    | _ => exact absurd (show false = true from hs) Bool.false_ne_true
  | bl i =>
    cases rx
    cases y with
    | non => cases ry; exact PySem.EqNone.eq_bool_none (fin_bl I q (by simp))
    | bl j => cases ry; exact eq_bool (fin_bl I q dec_bl)
    | str j => obtain ⟨t', rfl⟩ := ry; exact PySem.EqMixed.eq_bool_str (fin_bl I q (by simp))
    | _ => exact absurd (show false = true from hs) Bool.false_ne_true
  | int i =>
    obtain ⟨t, rfl⟩ := rx
    cases y with
    | non => cases ry; exact PySem.EqNone.eq_int_none (fin_bl I q (by simp))
    | int j => obtain ⟨t', rfl⟩ := ry; exact eq_int (fin_bl I q dec_int)
    | str j => obtain ⟨t', rfl⟩ := ry; exact PySem.EqMixed.eq_int_str (fin_bl I q (by simp))
    | _ => exact absurd (show false = true from hs) Bool.false_ne_true
  | str i =>
    obtain ⟨t, rfl⟩ := rx
    cases y with
    | non => cases ry; exact PySem.EqNone.eq_str_none (fin_bl I q (by simp))
    | bl j => cases ry; exact PySem.EqMixed.eq_str_bool (fin_bl I q (by simp))
    | int j => obtain ⟨t', rfl⟩ := ry; exact PySem.EqMixed.eq_str_int (fin_bl I q (by simp))
    | str j => obtain ⟨t', rfl⟩ := ry; exact eq_str (fin_bl I q dec_str)
    | _ => exact absurd (show false = true from hs) Bool.false_ne_true
  | byt i =>
    obtain ⟨t, rfl⟩ := rx
    cases y with
    | byt j => obtain ⟨t', rfl⟩ := ry; exact PySem.W.eq_bytes (fin_bl I q dec_byt)
    | _ => exact absurd (show false = true from hs) Bool.false_ne_true
  | _ => cases y <;> exact absurd (show false = true from hs) Bool.false_ne_true
theorem op_ne : OpR X (compareOp .NotEq) rNe := by
  intro pins s σ H x y v u Q I rx ry h
  obtain ⟨hs, q⟩ := h
  cases x with
  | non =>
    cases rx
    cases y with
    | non => cases ry; exact PySem.EqNone.ne_none_none (fin_bl I q (by simp))
    | bl j => cases ry; exact PySem.EqNone.ne_none_bool (fin_bl I q (by simp))
    | int j => obtain ⟨t', rfl⟩ := ry; exact PySem.EqNone.ne_none_int (fin_bl I q (by simp))
    | str j => obtain ⟨t', rfl⟩ := ry; exact PySem.EqNone.ne_none_str (fin_bl I q (by simp))
    | _ => exact absurd (show false = true from hs) Bool.false_ne_true
  | bl i =>
    cases rx
    cases y with
    | non => cases ry; exact PySem.EqNone.ne_bool_none (fin_bl I q (by simp))
    | bl j => cases ry; exact ne_bool (fin_bl I q (congrArg not dec_bl))
    | str j => obtain ⟨t', rfl⟩ := ry; exact PySem.EqMixed.ne_bool_str (fin_bl I q (by simp))
    | _ => exact absurd (show false = true from hs) Bool.false_ne_true
  | int i =>
    obtain ⟨t, rfl⟩ := rx
    cases y with
    | non => cases ry; exact PySem.EqNone.ne_int_none (fin_bl I q (by simp))
    | int j => obtain ⟨t', rfl⟩ := ry; exact ne_int (fin_bl I q (congrArg not dec_int))
    | str j => obtain ⟨t', rfl⟩ := ry; exact PySem.EqMixed.ne_int_str (fin_bl I q (by simp))
    | _ => exact absurd (show false = true from hs) Bool.false_ne_true
  | str i =>
    obtain ⟨t, rfl⟩ := rx
    cases y with
    | non => cases ry; exact PySem.EqNone.ne_str_none (fin_bl I q (by simp))
    | bl j => cases ry; exact PySem.EqMixed.ne_str_bool (fin_bl I q (by simp))
    | int j => obtain ⟨t', rfl⟩ := ry; exact PySem.EqMixed.ne_str_int (fin_bl I q (by simp))
    | str j => obtain ⟨t', rfl⟩ := ry; exact ne_str (fin_bl I q (congrArg not dec_str))
    | _ => exact absurd (show false = true from hs) Bool.false_ne_true
  | byt i =>
    obtain ⟨t, rfl⟩ := rx
    cases y with
    | byt j => obtain ⟨t', rfl⟩ := ry; exact PySem.W.ne_bytes (fin_bl I q (congrArg not dec_byt))
    | _ => exact absurd (show false = true from hs) Bool.false_ne_true
  | _ => cases y <;> exact absurd (show false = true from hs) Bool.false_ne_true
theorem op_lt : OpR X (compareOp .Lt) (rI0 fun i j => .bl (decide (i < j))) := opB0 fun _ _ _ _ _ _ _ q => lt_int q
theorem op_le : OpR X (compareOp .LtE) (rI0 fun i j => .bl (decide (i ≤ j))) := opB0 fun _ _ _ _ _ _ _ q => le_int q
theorem op_gt : OpR X (compareOp .Gt) (rI0 fun i j => .bl (decide (j < i))) := opB0 fun _ _ _ _ _ _ _ q => gt_int q
theorem nomark (b : Expr) {op : CmpOp} (h : op ≠ .In := by decide) (h2 : op ≠ .NotIn := by decide) : behindInMarks op b = false := by
  have e1 : (op == CmpOp.In) = false := by cases op <;> first | rfl | exact absurd rfl h
  have e2 : (op == CmpOp.NotIn) = false := by cases op <;> first | rfl | exact absurd rfl h2
  cases b <;> simp [behindInMarks, e1, e2]
theorem pe_cmpR {op : CmpOp} {r : R2} (ho : OpR X (compareOp op) r) (ha : PE X a ta) (hb : PE X b tb) (hm : behindInMarks op b = false) : PE X (.Compare a [op] [b] pos) (tOp r ta tb) := by
  intro pins s σ H Q I h
  exact wpAny_Compare1 (binT ha hb I h fun v u s2 x y H2 I2 rx ry q => ho pins s2 σ H2 x y v u Q I2 rx ry q) hm
def tTest (t : TE) : TT := fun σ H Q => t σ H fun x H' => ∃ k, x = .bl k ∧ Q k H'
theorem pt_cmpR {op : CmpOp} {r : R2} (ho : OpR X (compareOp op) r) (ha : PE X a ta) (hb : PE X b tb) (hm : behindInMarks op b = false) : PT X (.Compare a [op] [b] pos) (tTest (tOp r ta tb)) := by
  intro pins s σ H Q I h
  refine wpAny_isTrue_Compare1 (thn (ha pins s σ H _ I h) fun v s1 ⟨x, H1, I1, r1, q1⟩ => thn (hb pins s1 σ H1 _ I1 q1) fun u s2 ⟨y, H2, I2, r2, q2⟩ =>
    thn (ho pins s2 σ H2 x y v u _ I2 r1 r2 q2) fun c s3 ⟨z, H3, I3, r3, k, e, q3⟩ => ?_) hm
  subst e
  cases r3
  exact wpAny_truthy_bool ⟨H3, I3, q3⟩
theorem line63 : (sizeLine : Nat) < 2 ^ 63 := by rw [sizeLine_eq]; decide
theorem vals1 {x : V} {us : List Value} (r : Vals [x] us) : ∃ u, us = [u] ∧ RelV x u := by
  cases r with
  | cons r1 r2 => cases r2; exact ⟨_, rfl, r1⟩
theorem vals2 {x y : V} {us : List Value} (r : Vals [x, y] us) : ∃ u w', us = [u, w'] ∧ RelV x u ∧ RelV y w' := by
  cases r with
  | cons r1 r2 =>
    cases r2 with
    | cons r3 r4 => cases r4; exact ⟨_, _, rfl, r1, r3⟩
theorem call_max2 (hc : X.calm = true) : CallR X (.builtin "max") (fun xs H Q => ∃ i j, xs = [.int i, .int j] ∧ Q (.int (if j > i then j else i)) H) := by
  intro pins s σ H xs us Q I r h
  obtain ⟨i, j, rfl, q⟩ := h
  obtain ⟨u, w', rfl, ⟨t, rfl⟩, ⟨t', rfl⟩⟩ := vals2 r
  refine max_two_ints (I.ok.hd hc) fun h' tk k => ⟨_, H, I.kept k, ?_, q⟩
  by_cases hj : j > i
  · rw [if_pos hj, if_pos hj]; exact ⟨_, rfl⟩
  · rw [if_neg hj, if_neg hj]; exact ⟨_, rfl⟩
theorem call_min2 (hc : X.calm = true) : CallR X (.builtin "min") (fun xs H Q => ∃ i j, xs = [.int i, .int j] ∧ Q (.int (if j < i then j else i)) H) := by
  intro pins s σ H xs us Q I r h
  obtain ⟨i, j, rfl, q⟩ := h
  obtain ⟨u, w', rfl, ⟨t, rfl⟩, ⟨t', rfl⟩⟩ := vals2 r
  refine min_two_ints (I.ok.hd hc) fun h' tk k => ⟨_, H, I.kept k, ?_, q⟩
  by_cases hj : j < i
  · rw [if_pos hj, if_pos hj]; exact ⟨_, rfl⟩
  · rw [if_neg hj, if_neg hj]; exact ⟨_, rfl⟩
end
end L2
namespace L2
open PySem PySem.Spec PyProof.Rows
structure ObjM (h : Heap) (x dx C : Addr) (mA : Str → Option Value) : Prop where
  obj : h.get? x = some (PySem.W.instObj C dx)
  ns : h.Ns1 dx mA
  ne : dx ≠ x
theorem lookIn_ns {h : Heap} {dx : Addr} {mA : Str → Option Value} (n : h.Ns1 dx mA) : ∃ od, h.get? dx = some od ∧ ∀ name, PySem.W.lookIn name od = some (mA name) := by
  obtain ⟨o, es, ep, ho, hd, hk, _, hm⟩ := n
  refine ⟨o, ho, fun name => ?_⟩
  have e := hm name
  unfold nsFind findBy at e
  rw [← Array.find?_toList] at e
  unfold PySem.W.lookIn
  rw [hd]
  dsimp only
  split
  · rename_i y q
    rw [q] at e
    exact congrArg some e
  · rename_i q
    rw [q] at e
    have a : es.toList.any (·.refKey) = false := by
      rw [List.any_eq_false]
      intro y hy
      obtain ⟨z, t, hkey⟩ := hk y (Array.mem_toList_iff.mp hy)
      simp [DictEntry.refKey, hkey]
    have a' : ¬ es.toList.any (·.refKey) = true := by rw [a]; exact Bool.false_ne_true
    rw [if_neg a']
    exact congrArg some e
theorem ObjM.look {h : Heap} {x dx C : Addr} {mA : Str → Option Value} (I : ObjM h x dx C mA) : ∃ od, PySem.W.InstAt h x (PySem.W.instObj C dx) C (some od) ∧ ∀ name, PySem.W.lookIn name od = some (mA name) :=
  let ⟨od, ho, hl⟩ := lookIn_ns I.ns
  ⟨od, ⟨I.obj, rfl, rfl, ho⟩, hl⟩
section
variable {prog : Program} {w : World} {A : Around} {E : Value → Shared → Prop} {s : Shared} {K : PySem.W.Frag} {x dx C f : Addr} {mA : Str → Option Value} {name : Str} {v : Value}
end
theorem RelO.some_of {v : V} {o : Option Value} (r : RelO (some v) o) : ∃ u, o = some u ∧ RelV v u := by
  cases o with
  | none => exact (show False from r).elim
  | some u => exact ⟨u, rfl, r⟩
theorem handed_of {v : V} {u : Value} (r : RelV v u) : PySem.W.handedIn u = true := by
  cases v with
  | non => cases (show u = Value.none from r); rfl
  | bl b => cases (show u = Value.bool b from r); rfl
  | int i => obtain ⟨t, e⟩ := (show ∃ t, u = Value.int i t from r); cases e; rfl
  | str x => obtain ⟨t, e⟩ := (show ∃ t, u = Value.str x t from r); cases e; rfl
  | byt b => obtain ⟨t, e⟩ := (show ∃ t, u = Value.bytes b t from r); cases e; rfl
  | flt b => obtain ⟨t, e⟩ := (show ∃ t, u = Value.float b t from r); cases e; rfl
  | ref a => cases (show u = Value.ref a from r); rfl
  | ty n => cases (show u = Value.type n from r); rfl
section
variable {P : Program} {w : World} {H H' : Hp} {h h' : Heap} {a C dx : Addr} {fs fs' : List (Str × V)}
theorem ins_get (hok : HOk P w H h) (e : H a = some (.ins C dx fs)) : ∃ mA, ObjM h a dx C mA ∧ (∀ f, RelO (fs.lookup f) (mA f)) ∧ PySem.Within mA (fs.map (·.1)) ∧ fs.length ≤ 1000 ∧ H dx = some (.own a) := by
  obtain ⟨d, z, ne, ob, mA, n, r, q⟩ := (show ObjOk P w H h a (.ins C dx fs) from hok a _ e)
  exact ⟨mA, ⟨ob, n, ne⟩, r, q, z, d⟩
end
structure Cls (K : PySem.W.Frag) (C : Addr) : Prop where
  pg : PySem.W.plainGet K C Str.empty = true
  hd : PySem.W.hasDictIn K C = true
  po : PySem.W.plainOver K C = true
  sa : PySem.W.findIn K (.ref C) "__setattr__" = some (some (.builtin "object.__setattr__"))
theorem Cls.get {K : PySem.W.Frag} {C : Addr} (c : Cls K C) (f : Str) : PySem.W.plainGet K C f = true := c.pg
section
variable {X : Cx} {pins : List (Addr × Obj)} {σ : St} {H : Hp} {s : Shared} {a C dx : Addr} {fs : List (Str × V)} {f : Str} {v : V} {A : Around} {E : Value → Shared → Prop}
theorem attr_of {prog : Program} {w : World} {env : Env} {e : Expr} {f : Str} {pos : Pos} {s : Shared} {Q : Value → Shared → Prop} (hb : attributeBase e f env (eval e env) = eval e env)
    (h : wpAny (model prog w) A (eval e env) (fun o s₁ => wpAny (model prog w) A (getAttr o f true) Q E s₁) E s) : wpAny (model prog w) A (eval (.Attribute e f pos) env) Q E s :=
  Attribute_any_ h (by rw [arm_eval_Attribute, hb])
end
section
variable {X : Cx} {o e value : Expr} {f : Str} {pos pos' tpos : Pos} {ta tv : TE}
end
section
variable {X : Cx} {pins : List (Addr × Obj)} {σ : St} {H : Hp} {s : Shared} {A : Around} {E : Value → Shared → Prop} {Q : Value → Shared → Prop} {c : Value} {b : Bool}
inductive TyOf (K : PySem.W.Frag) (H : Hp) : V → Value → Prop where
  | non : TyOf K H .non (.type "NoneType")
  | bl (x : Bool) : TyOf K H (.bl x) (.type "bool")
  | int (i : Int) : TyOf K H (.int i) (.type "int")
  | str (x : Str) : TyOf K H (.str x) (.type "str")
  | flt (x : UInt64) : TyOf K H (.flt x) (.type "float")
  | lst {a : Addr} {xs : List V} (e : H a = some (.lst xs)) : TyOf K H (.ref a) (.type "list")
  | frz {a : Addr} {o : Obj} {xs : List V} (e : H a = some (.frz o (.lst xs))) : TyOf K H (.ref a) (.type "list")
  | tup {a : Addr} {xs : List V} (e : H a = some (.tup xs)) : TyOf K H (.ref a) (.type "tuple")
  | dK {a : Addr} {kvs : List (Key × V)} (e : H a = some (.dK kvs)) : TyOf K H (.ref a) (.type "dict")
  | dT {a : Addr} {kvs : List (List Key × V)} (e : H a = some (.dT kvs)) : TyOf K H (.ref a) (.type "dict")
  | ins {a C dx : Addr} {fs : List (Str × V)} (e : H a = some (.ins C dx fs)) (cl : Cls K C) (ha : PySem.W.findIn K (.ref C) "__class__" = some (some (.builtin "object.__class__")))
      (hn : PySem.W.specialIn K (.builtin "object.__class__") "__get__" = some (some (.builtin "getset_descriptor.__get__"))) (htk : PySem.W.takesIn K (.builtin "object.__class__") = some true)
      (hm : PySem.W.mroIn K C (.type "object") = some true) : TyOf K H (.ref a) (.ref C)
theorem isinst_ok {x : V} {u t : Value} (I : Inv X pins σ H s) (rx : RelV x u) (ty : TyOf X.K H x t) (e : PySem.W.kitOne X.K t c = some b) (h : ∀ tk, Q (.bool b) { s with toks := tk }) :
    wpAny (model X.prog X.w) A (call (.builtin "isinstance") [u, c]) Q E s := by
  cases ty with
  | non => cases (show u = Value.none from rx); exact PySem.W.kia_one PySem.W.kitx_none I.kIn True.intro e (fun z => nomatch z) h
  | bl y => cases (show u = Value.bool y from rx); exact PySem.W.kia_one PySem.W.kitx_bool I.kIn True.intro e (fun z => nomatch z) h
  | int i => obtain ⟨t, q⟩ := (show ∃ t, u = Value.int i t from rx); cases q; exact PySem.W.kia_one PySem.W.kitx_int I.kIn True.intro e (fun z => nomatch z) h
  | str y => obtain ⟨t, q⟩ := (show ∃ t, u = Value.str y t from rx); cases q; exact PySem.W.kia_one PySem.W.kitx_str I.kIn True.intro e (fun z => nomatch z) h
  | flt y => obtain ⟨t, q⟩ := (show ∃ t, u = Value.float y t from rx); cases q; exact PySem.W.kia_one PySem.W.kitx_float I.kIn True.intro e (fun z => nomatch z) h
  | @lst a xs ea =>
    cases (show u = Value.ref a from rx)
    obtain ⟨_, _, n, _, h1⟩ := (show ObjOk X.prog X.w H s.heap a (.lst xs) from I.hok a _ ea)
    exact PySem.W.kia_one PySem.W.kitx_list I.kIn ⟨_, h1, rfl⟩ e (fun z => nomatch z) h
  | @frz a ob xs ea =>
    cases (show u = Value.ref a from rx)
    obtain ⟨_, _, _, n, _, h1⟩ := (show ObjOk X.prog X.w H s.heap a (.frz ob (.lst xs)) from I.hok a _ ea)
    exact PySem.W.kia_one PySem.W.kitx_list I.kIn ⟨_, h1, rfl⟩ e (fun z => nomatch z) h
  | @tup a xs ea =>
    cases (show u = Value.ref a from rx)
    obtain ⟨_, _, _, p⟩ := (show ObjOk X.prog X.w H s.heap a (.tup xs) from I.hok a _ ea)
    obtain ⟨o, h1, h2, _⟩ := p
    exact PySem.W.kia_one PySem.W.kitx_tuple I.kIn ⟨o, h1, h2⟩ e (fun z => nomatch z) h
  | @dK a kvs ea =>
    cases (show u = Value.ref a from rx)
    obtain ⟨_, _, vs, _, p⟩ := (show ObjOk X.prog X.w H s.heap a (.dK kvs) from I.hok a _ ea)
    obtain ⟨o, es, ep, h1, h2, _⟩ := p
    exact PySem.W.kia_one PySem.W.kitx_dict I.kIn ⟨o, h1, h2.1⟩ e (fun z => nomatch z) h
  | @dT a kvs ea =>
    cases (show u = Value.ref a from rx)
    obtain ⟨_, _, xs, _, o, es, ep, h1, h2, _⟩ := (show ObjOk X.prog X.w H s.heap a (.dT kvs) from I.hok a _ ea)
    exact PySem.W.kia_one PySem.W.kitx_dict I.kIn ⟨o, h1, h2.1⟩ e (fun z => nomatch z) h
  | @ins a C dx fs ea cl ha hn htk hm =>
    cases (show u = Value.ref a from rx)
    obtain ⟨mA, O, _⟩ := ins_get I.hok ea
    obtain ⟨od, J, _⟩ := O.look
    exact PySem.W.kia_one (PySem.W.kitx_own (cl.get _) cl.hd ha hn htk hm) I.kIn J e (fun z => nomatch z) h
end
end L2
namespace L2
open PySem PySem.Spec PyProof.Rows
structure Room (k : Nat) (A : Around) : Prop where
  hd : A.handled = none
  dp : A.depth + 3 * k + 5 < recursionLimit
  un : A.units + 16 * k + 200 < cLine
  gd : A.guards = some []
theorem Room.mono {j k : Nat} {A : Around} (r : Room k A) (h : j ≤ k) : Room j A := ⟨r.hd, by have := r.dp; omega, by have := r.un; omega, r.gd⟩
theorem Room.deeper {k : Nat} {A : Around} (r : Room (k + 1) A) (env : Env) : Room k (A.deeper env) :=
  ⟨r.hd, by have := r.dp; show A.depth + 1 + 3 * k + 5 < _; omega, by have := r.un; show A.units + 3 + 16 * k + 200 < _; omega, r.gd⟩
theorem make_depth {A : Around} {C : Addr} {us : List Value} {kw : List (Str × Value)} : (A.under (.builtin "type.__call__" ⟨.ref C :: us, kw⟩)).depth = A.depth + 1 := by
  first | rfl | simp [Around.under, Code.weight, Code.isCreation, Code.isGuard, Code.isCaller, Code.frames, Code.isFrame, guardIds]
theorem make_units {A : Around} {C : Addr} {us : List Value} {kw : List (Str × Value)} : (A.under (.builtin "type.__call__" ⟨.ref C :: us, kw⟩)).units = A.units + 1 := by
  first | rfl | simp [Around.under, Code.cUnits, Code.frames, Code.isFrame]
theorem Room.make {k : Nat} {A : Around} (r : Room (k + 1) A) (C : Addr) (us : List Value) (kw : List (Str × Value)) : Room k (A.under (.builtin "type.__call__" ⟨.ref C :: us, kw⟩)) :=
  ⟨r.hd, by have := r.dp; rw [make_depth]; omega, by have := r.un; rw [make_units]; omega, by have h := r.gd; first | (simp only [Around.under]; rw [h]; rfl) | simp [Around.under, h, pushGuards, Code.guards, Code.isGuard, guardIds]⟩
theorem Room.depth {k : Nat} {A : Around} (r : Room k A) : A.depth < recursionLimit := by have := r.dp; omega
theorem Room.units0 {k : Nat} {A : Around} (r : Room k A) : A.units < cLine := by have := r.un; omega
def tNil : TA := fun _ H Q => Q [] H
def tCons (ta : TE) (tr : TA) : TA := fun σ H Q => ta σ H fun x H1 => tr σ H1 fun xs H2 => Q (x :: xs) H2
section
variable {X : Cx} {e : Expr} {es : List Expr} {te : TE} {t : TA} {pos : Pos}
theorem pa_nil : PA X [] tNil := fun _ _ _ _ H Q I h => Calls.spliced_nil ⟨[], H, I, .nil, h⟩
theorem pa_cons (ha : PE X e te) (hr : PA X es t) (hs : starEach (e :: es) X.env = (false, eval e X.env) :: starEach es X.env := by rfl) : PA X (e :: es) (tCons te t) := by
  intro pos pins s σ H Q I h
  rw [hs]
  show wpAny _ _ (spliced ((false, eval e X.env) :: backTo pos (starEach es X.env))) _ _ s
  refine Calls.spliced_cons (thn (ha pins s σ H _ I h) fun u s1 ⟨x, H1, I1, r1, q1⟩ => ?_)
  exact thn (hr pos pins s1 σ H1 _ I1 q1) fun us s2 ⟨xs, H2, I2, r2, q2⟩ => ⟨x :: xs, H2, I2, .cons r1 r2, q2⟩
def tTup (t : TA) : TE := fun σ H Q => t σ H fun xs H1 => xs.length ≤ sizeLine ∧ ∀ p, H1 p = none → Q (.ref p) (upd H1 p (.tup xs))
def tLst (t : TA) : TE := fun σ H Q => t σ H fun xs H1 => xs.length ≤ sizeLine ∧ ∀ p, H1 p = none → Q (.ref p) (upd H1 p (.lst xs))
theorem pe_tup {x1} (h : PA X es t) : PE X (.Tuple es x1 pos) (tTup t) := by
  intro pins s σ H Q I hq
  refine wpAny_Tuple_spliced (thn (h pos pins s σ H _ I hq) fun us s1 ⟨xs, H1, I1, r, z, q⟩ => ⟨by rw [← r.length]; exact z, ?_⟩)
  have hf : H1 s1.heap.objs.size = none := I1.hok.fresh (Nat.le_refl _)
  refine ⟨.ref s1.heap.objs.size, upd H1 s1.heap.objs.size (.tup xs), I1.laid (t' := s1.toks) (fun b u e => Heap.get?_push_of_some _ e) (Nat.le_refl _) ?_, rfl, q _ hf⟩
  exact ⟨z, us, r, ⟨_, Heap.get?_push_size _ rfl, rfl, _, rfl⟩⟩
theorem pe_lst (h : PA X es t) : PE X (.List es pos) (tLst t) := by
  intro pins s σ H Q I hq
  refine wpAny_List_spliced (thn (h pos pins s σ H _ I hq) fun us s1 ⟨xs, H1, I1, r, z, q⟩ => ⟨by rw [← r.length]; exact z, ?_⟩)
  have hf : H1 s1.heap.objs.size = none := I1.hok.fresh (Nat.le_refl _)
  refine ⟨.ref s1.heap.objs.size, upd H1 s1.heap.objs.size (.lst xs), I1.laid (t' := s1.toks) (fun b u e => Heap.get?_push_of_some _ e) (Nat.le_refl _) ?_, rfl, q _ hf⟩
  exact ⟨z, us, 0, r, Heap.get?_push_size _ rfl⟩
end
abbrev Sp := List V → Hp → VK → XK → Prop
abbrev CXT := List Env → Hp → Shared → XK → Value → Shared → Prop
structure Env0 (P : Program) (w : World) (K : PySem.W.Frag) (mg : Str → Option Value) (base : Heap) (A : Around) (outer : List Env) (s : Shared) (H : Hp) : Prop where
  frames : A.frames = some outer
  mod : Mod K mg base
  bs : ∀ b o, base.get? b = some o → s.heap.get? b = some o ∧ H b = none
  bsz : base.objs.size ≤ s.heap.objs.size
  funs : s.heap.FunFrames base outer
  frf : ∀ b ∈ frs outer, H b = none
  hok : HOk P w H s.heap
  bare : AllBare s.gens
def CE (outer : List Env) (P : Program) (w : World) (H : Hp) (s : Shared) (Q : VK) (u : Value) (s' : Shared) : Prop :=
  ∃ v H', s'.os = s.os ∧ AllBare s'.gens ∧ Un (frs outer) [] H H' s.heap s'.heap ∧ HOk P w H' s'.heap ∧ RelV v u ∧ Q v H'
def CR (CX : CXT) (outer : List Env) (P : Program) (w : World) (H : Hp) (s : Shared) (Q : VK) (E : XK) (r : Result) (s' : Shared) : Prop :=
  match r with
  | .ok (.ret u) => CE outer P w H s Q u s'
  | .ok _ => False
  | .error e => CX outer H s E e s'
structure FnOk (P : Program) (w : World) (K : PySem.W.Frag) (mg : Str → Option Value) (base : Heap) (CX : CXT) (k : Nat) (f : Addr) (fd : FuncData) (ps : List Str) (sp : Sp) : Prop where
  len : ∀ vs H Q E, sp vs H Q E → vs.length = ps.length
  run : ∀ (A : Around) (outer : List Env) (s : Shared) (H : Hp) (args : Args) (us : List Value) (vs : List V) (Q : VK) (E : XK), Room k A → Env0 P w K mg base A outer s H → BindsTo s fd args (ps.zip us) → Vals vs us → sp vs H Q E →
    codeAny (model P w) A (.call (.ref f) args) (CR CX outer P w H s Q E) s
theorem Env0.make {P : Program} {w : World} {K : PySem.W.Frag} {mg : Str → Option Value} {base : Heap} {A : Around} {outer : List Env} {s : Shared} {H : Hp} (e : Env0 P w K mg base A outer s H) (C : Addr) (us : List Value) (kw : List (Str × Value)) :
    Env0 P w K mg base (A.under (.builtin "type.__call__" ⟨.ref C :: us, kw⟩)) outer s H := ⟨by first | exact e.frames | (simpa [Around.under, Code.envs, Code.isFrame, pushEnvs] using e.frames), e.mod, e.bs, e.bsz, e.funs, e.frf, e.hok, e.bare⟩
section
variable {X : Cx} {pins : List (Addr × Obj)} {σ : St} {H : Hp} {s s' : Shared}
theorem Inv.env0 (I : Inv X pins σ H s) : Env0 X.prog X.w X.K X.mg X.base X.A X.stack s H :=
  ⟨I.ok.frames, I.ok.mod, I.bs, Nat.le_trans I.ok.bsz I.sz, I.stack, I.stkFree, I.hok, I.bare⟩
theorem Inv.after {Q : VK} {u : Value} (I : Inv X pins σ H s) (h : CE X.stack X.prog X.w H s Q u s') : EP X pins σ Q u s' := by
  obtain ⟨v, H', os, bare, un, hok, r, q⟩ := h
  obtain ⟨hh, g, d, t, os'⟩ := s'
  obtain rfl : os' = s.os := os
  exact ⟨v, H', I.call (h' := hh) (g' := g) (d' := d) (t' := t) (ch := []) un hok bare (fun b z => absurd z (by simp)), r, q⟩
end
def tCall (sp : Sp) (dvs : List V) (E : XK) (t : TA) : TE := fun σ H Q => t σ H fun vs H1 => sp (vs ++ dvs) H1 Q E
def Binds (K : PySem.W.Frag) (fd : FuncData) (ps : List Str) (ds : List Value) : Prop :=
  ∀ (s : Shared) (us : List Value), K.In s.heap → (us ++ ds).length = ps.length → BindsTo s fd ⟨us, []⟩ (ps.zip (us ++ ds))
theorem Binds.all {K : PySem.W.Frag} {fd : FuncData} {ps : List Str} (h : ∀ us : List Value, us.length = ps.length → bindArgs fd ⟨us, []⟩ = pure (ps.zip us)) : Binds K fd ps [] := fun s us _ hl => by
  rw [List.append_nil] at hl ⊢
  exact .of_eq (h us hl)
def Passes (CX : CXT) (X : Cx) (E : XK) : Prop := ∀ (pins : List (Addr × Obj)) (σ : St) (H : Hp) (s : Shared) (e : Value) (s' : Shared), Inv X pins σ H s → CX X.stack H s E e s' → X.xe e s'
section
variable {X : Cx} {CX : CXT} {k : Nat} {f C : Addr} {fd : FuncData} {ps : List Str} {sp : Sp} {dvs : List V} {ds : List Value} {E : XK} {x m : Str} {p pos apos : Pos} {e o : Expr} {es : List Expr} {ta : TE} {t : TA}
theorem run_fn {pins : List (Addr × Obj)} {σ : St} {H : Hp} {s : Shared} {Q : VK} {us : List Value} {vs : List V} (F : FnOk X.prog X.w X.K X.mg X.base CX k f fd ps sp) (hr : Room k X.A) (hb : Binds X.K fd ps ds) (hd : Vals dvs ds) (hx : Passes CX X E)
    (I : Inv X pins σ H s) (r : Vals vs us) (h : sp (vs ++ dvs) H Q E) : wpAny (model X.prog X.w) X.A (call (.ref f) us) (EP X pins σ Q) X.xe s := by
  have r2 : Vals (vs ++ dvs) (us ++ ds) := r.append hd
  have hl : (us ++ ds).length = ps.length := by rw [← r2.length]; exact F.len _ _ _ _ h
  refine wpAny_call (codeAny_mono (F.run X.A X.stack s H ⟨us, []⟩ (us ++ ds) (vs ++ dvs) Q E hr I.env0 (hb s us I.kIn hl) r2 h) fun r s' hq => ?_)
  cases r with
  | error e => exact hx pins σ H s e s' I hq
  | ok fl =>
    cases fl with
    | ret u => exact I.after hq
    | next => exact False.elim hq
    | brk => exact False.elim hq
    | cont => exact False.elim hq
theorem pe_call (F : FnOk X.prog X.w X.K X.mg X.base CX k f fd ps sp) (hr : Room k X.A) (hg : Gl X x) (hm : X.mg x = some (.ref f)) (hk : PySem.W.keepIn X.K (.ref f) = true) (hb : Binds X.K fd ps ds) (hd : Vals dvs ds) (hx : Passes CX X E)
    (ha : PA X (e :: es) t) (hdb : (x == ("__debug__" : Str)) = false := by decide) (he : starEach (e :: es) X.env = (false, eval e X.env) :: starEach es X.env := by rfl) (hpl : (backTo pos (starEach es X.env)).any (·.1) = false := by rfl) :
    PE X (.Call (.Name x p) (e :: es) [] pos) (tCall sp dvs E t) := by
  intro pins s σ H Q I h
  refine wpAny_Call_Name_kw (ld_glob I hg hm ?_ hdb)
  refine PySem.W.callWith_K (h₀ := X.base) I.ok.mod.kin hk (thn (ha pos pins s σ H _ I h) fun us s1 ⟨vs, H1, I1, r, q⟩ => ⟨I1.kIn, ?_⟩) he hpl
  exact run_fn F hr hb hd hx I1 r q
end
section
variable {X : Cx} {CX : CXT} {k : Nat} {f C : Addr} {fd : FuncData} {ps ks : List Str} {sp : Sp} {E : XK} {x m : Str} {p pos apos kpos : Pos} {e o : Expr} {es : List Expr} {kws : List Keyword} {te ta : TE} {t tk : TA} {nm : Option Str}
variable {g : List Value → List Value → List Value} {gV : List V → List V → List V}
end
structure FnScope (N P : List Str) (sc : Scope) : Prop where
  kind : sc.kind = .function
  co : sc.isCoroutine = false
  gen : sc.isGenerator = false
  nd : N.Nodup
  pre : N.take P.length = P
  par : ∀ x ∈ P, sc.names.lookup x = some .local ∨ sc.names.lookup x = some .cell
  nofree : ∀ y ∈ sc.names, y.2 ≠ .free
theorem bindL_out {kindOf : Str → Option NameKind} {x : Str} : ∀ {binds : List (Str × Value)} {m : Str → Option Value}, (∀ v, (x, v) ∉ binds) → bindL kindOf binds m x = m x
  | [], _, _ => rfl
  | (n, v) :: r, m, h => by
    unfold bindL
    rw [bindL_out fun w hw => h w (List.mem_cons_of_mem _ hw)]
    split
    · have : x ≠ n := by rintro rfl; exact h v List.mem_cons_self
      simp [this]
    · rfl
theorem bindC_out {kindOf : Str → Option NameKind} {x : Str} : ∀ {binds : List (Str × Value)} {m : Str → Option Value}, (∀ v, (x, v) ∉ binds) → bindC kindOf binds m x = m x
  | [], _, _ => rfl
  | (n, v) :: r, m, h => by
    unfold bindC
    rw [bindC_out fun w hw => h w (List.mem_cons_of_mem _ hw)]
    split
    · rfl
    · have : x ≠ n := by rintro rfl; exact h v List.mem_cons_self
      simp [this]
theorem bindL_get {kindOf : Str → Option NameKind} {x : Str} {v : Value} : ∀ {P : List Str} {vs : List Value} {i : Nat} {m : Str → Option Value}, P.Nodup → P[i]? = some x → vs[i]? = some v → kindOf x = some .local →
    bindL kindOf (P.zip vs) m x = some v
  | [], _, _, _, _, h, _, _ => by simp at h
  | _ :: _, [], _, _, _, _, h, _ => by simp at h
  | p :: P, w :: vs, 0, m, nd, h1, h2, hk => by
    simp at h1 h2; subst h1; subst h2
    show bindL kindOf ((p, w) :: P.zip vs) m p = _
    unfold bindL
    rw [bindL_out fun v hv => (List.nodup_cons.mp nd).1 (List.of_mem_zip hv).1, if_pos hk]
    simp
  | p :: P, w :: vs, i + 1, m, nd, h1, h2, hk => by
    show bindL kindOf ((p, w) :: P.zip vs) m x = _
    unfold bindL
    exact bindL_get (i := i) (List.nodup_cons.mp nd).2 (by simpa using h1) (by simpa using h2) hk
theorem bindC_get {kindOf : Str → Option NameKind} {x : Str} {v : Value} : ∀ {P : List Str} {vs : List Value} {i : Nat} {m : Str → Option Value}, P.Nodup → P[i]? = some x → vs[i]? = some v → kindOf x ≠ some .local →
    bindC kindOf (P.zip vs) m x = some v
  | [], _, _, _, _, h, _, _ => by simp at h
  | _ :: _, [], _, _, _, _, h, _ => by simp at h
  | p :: P, w :: vs, 0, m, nd, h1, h2, hk => by
    simp at h1 h2; subst h1; subst h2
    show bindC kindOf ((p, w) :: P.zip vs) m p = _
    unfold bindC
    rw [bindC_out fun v hv => (List.nodup_cons.mp nd).1 (List.of_mem_zip hv).1, if_neg hk]
    simp
  | p :: P, w :: vs, i + 1, m, nd, h1, h2, hk => by
    show bindC kindOf ((p, w) :: P.zip vs) m x = _
    unfold bindC
    exact bindC_get (i := i) (List.nodup_cons.mp nd).2 (by simpa using h1) (by simpa using h2) hk
def start (N : List Str) (vs : List V) : St := vs.map some ++ List.replicate (N.length - vs.length) none
def cxOf (CX : CXT) (P : Program) (w : World) (K : PySem.W.Frag) (mg : Str → Option Value) (base : Heap) (N : List Str) (qual : Str) (scope : Scope) (f : Addr) (cd : Value) (A : Around) (outer : List Env) (s : Shared) (H : Hp) (E : XK) : Cx where
  prog := P
  w := w
  K := K
  mg := mg
  base := base
  A := A.deeper (envOfC qual scope s.heap.objs.size f cd)
  N := N
  s₀ := s
  H₀ := H
  env := envOfC qual scope s.heap.objs.size f cd
  outer := outer
  stack := envOfC qual scope s.heap.objs.size f cd :: outer
  ex := []
  calm := true
  fn := fun _ => true
  pn := []
  xe := fun e s' => wpAny (model P w) (A.deeper (envOfC qual scope s.heap.objs.size f cd)) (leaving (envOfC qual scope s.heap.objs.size f cd) e) (fun _ s'' => CX outer H s E e s'') (fun e' s'' => CX outer H s E e' s'') s'
theorem cell_has {sc : Scope} {n : Nat} {x : Str} (h : sc.names.lookup x = some .cell) : ∃ c, (cellsFrom n sc.names []).lookup x = some c := by
  have q := PySem.W.cellsFrom_some sc.names n [] (.inl h)
  exact Option.isSome_iff_exists.mp q
theorem inv_start {CX : CXT} {P : Program} {w : World} {K : PySem.W.Frag} {mg : Str → Option Value} {base : Heap} {N ps : List Str} {qual : Str} {scope : Scope} {f : Addr} {cd : Value} {A : Around} {outer : List Env} {s s1 : Shared} {H : Hp} {E : XK} {us : List Value} {vs : List V}
    (S : FnScope N ps scope) (hd : A.handled = none) (e0 : Env0 P w K mg base A outer s H) (hl : vs.length = ps.length) (r : Vals vs us)
    (x : InCallC s s.heap.objs.size (bindL (envOfC qual scope s.heap.objs.size f cd).kindOf (ps.zip us) fun _ => none) (cellsFrom (s.heap.objs.size + 1) scope.names []) (bindC (envOfC qual scope s.heap.objs.size f cd).kindOf (ps.zip us) fun _ => none) s1) :
    Inv (cxOf CX P w K mg base N qual scope f cd A outer s H E) [] (start N vs) H s1 := by
  have hpl : ps.length ≤ N.length := by have := congrArg List.length S.pre; rw [List.length_take] at this; omega
  obtain ⟨h1, tk, rfl, hk⟩ := x.done
  have noA : ∀ b : Addr, b ∉ (cxOf CX P w K mg base N qual scope f cd A outer s H E).ex := fun b z => absurd (show b ∈ ([] : List Addr) from z) (by simp)
  refine ⟨⟨e0.mod, S.kind, rfl, rfl, Nat.le_refl _, fun y z c h1 h2 => ?_, fun y hy => ?_, fun y c _ h => ?_, fun _ => hd, Around.frames_deeper e0.frames, .inr ⟨rfl, rfl⟩, fun b z => absurd z (noA b), e0.bs, e0.bsz, fun b _ _ => noA b, fun b z => absurd z (noA b), e0.funs, e0.frf⟩,
    rfl, e0.bare, Un.kept hk, ⟨_, x.toInCall.ns, fun i y v h1 h2 h3 => ?_⟩, fun y c h => ⟨_, x.cell y c h⟩, e0.hok.fresh (Nat.le_refl _), fun y c h => ?_, fun p hp => absurd (show p ∈ ([] : List (Addr × Obj)) from hp) (by simp), e0.hok.kept hk, ?_⟩
  · exact name_of_addr x.apart (PySem.mem_of_lookup h1) (PySem.mem_of_lookup h2)
  · have hy : scope.names.lookup y = some .cell ∨ scope.names.lookup y = some .free := hy
    rcases hy with hy | hy
    · exact cell_has hy
    · exact absurd rfl (S.nofree _ (PySem.mem_of_lookup hy))
  · exact Nat.le_of_lt (x.above y c (PySem.mem_of_lookup h))
  · have hi : i < vs.length := by
      unfold start at h2
      by_cases hi : i < vs.length
      · exact hi
      · rw [List.getElem?_append_right (by simpa using hi)] at h2
        rw [List.getElem?_replicate] at h2
        split at h2 <;> cases h2
    have ha : vs[i]? = some v := by
      unfold start at h2
      rw [List.getElem?_append_left (by simpa using hi), List.getElem?_map] at h2
      cases e : vs[i]? with
      | none => rw [e] at h2; cases h2
      | some a => rw [e] at h2; cases h2; rfl
    obtain ⟨u, hu, rv⟩ := r.get ha
    have hp : ps[i]? = some y := by
      rw [← S.pre, List.getElem?_take_of_lt (by omega)]; exact h1
    have ndP : ps.Nodup := by rw [← S.pre]; exact S.nd.sublist (List.take_sublist _ _)
    refine ⟨u, rv, ?_⟩
    rcases S.par y (List.mem_of_getElem? hp) with k | k
    · exact .inl ⟨k, bindL_get ndP hp hu k⟩
    · obtain ⟨c, e⟩ := cell_has (n := s.heap.objs.size + 1) k
      refine .inr ⟨.inl k, c, e, ?_⟩
      have q := x.cell y c e
      rw [bindC_get ndP hp hu (by show scope.names.lookup y ≠ _; rw [k]; decide)] at q
      exact q
  · exact e0.hok.fresh (Nat.le_of_lt (x.above y c (PySem.mem_of_lookup h)))
  · unfold start
    show _ = N.length
    rw [List.length_append, List.length_map, List.length_replicate]
    omega
theorem fn_of {CX : CXT} {P : Program} {w : World} {K : PySem.W.Frag} {mg : Str → Option Value} {base : Heap} {k : Nat} {f : Addr} {name qual : Str} {params : Arguments} {body : List Stmt} {scope : Scope} {dV kV doc pm cdv ct oc : Value} {an od : Option Addr}
    {osl : Array (Option Value)} {N ps : List Str} {sp : Sp} (lk : K.lookup f = some ⟨oc, od, .func (PySem.W.fnOf name qual params body scope dV kV doc pm an cdv ct), osl⟩) (hcd : PySem.W.codeIn K cdv qual = true) (S : FnScope N ps scope)
    (len : ∀ vs H Q E, sp vs H Q E → vs.length = ps.length)
    (hbody : ∀ (A : Around) (outer : List Env) (s : Shared) (H : Hp) (vs : List V) (Q : VK) (E : XK), Room k (A.deeper (envOfC qual scope s.heap.objs.size f cdv)) → sp vs H Q E →
      ∃ t, PSs (cxOf CX P w K mg base N qual scope f cdv A outer s H E) body t ∧ t { nx := fun _ H' => Q .non H', rt := Q } (start N vs) H) :
    FnOk P w K mg base CX (k + 1) f (PySem.W.fnOf name qual params body scope dV kV doc pm an cdv ct) ps sp := by
  refine ⟨len, fun A outer s H args us vs Q E hr e0 hb r hsp => ?_⟩
  have hl := len _ _ _ _ hsp
  have KX : K.In s.heap := e0.mod.kin.keeps fun b o e => (e0.bs b o e).1
  have lim : s.heap.NoLimit := e0.mod.nolimit.keeps fun b o e => (e0.bs b o e).1
  have hkind : ∀ y ∈ ps.zip us, scope.names.lookup y.1 = some .local ∨ (scope.names.lookup y.1 = some .cell ∧ ((cellsFrom (s.heap.objs.size + 1) scope.names []).lookup y.1).isSome = true) := fun ⟨n, v⟩ hy => by
    rcases S.par n (List.of_mem_zip hy).1 with q | q
    · exact .inl q
    · exact .inr ⟨q, PySem.W.cellsFrom_some _ _ _ (.inl q)⟩
  refine codeAny_call_function hr.depth (KX _ _ lk) rfl S.co S.gen rfl (PySem.W.codeRec_of KX hcd) (hb _ _ _ _ ?_)
  refine wpAny_newFunctionEnv_cells S.kind hkind fun env he s1 x => ?_
  subst he
  refine ⟨lim.keeps x.toInCall.keep, codeAny_func ?_⟩
  obtain ⟨t, ht, hq⟩ := hbody A outer s H vs Q E (hr.deeper _) hsp
  have I : Inv (cxOf CX P w K mg base N qual scope f cdv A outer s H E) [] (start N vs) H s1 := inv_start S hr.hd e0 hl r x
  refine wpAny_mono (ht [] s1 (start N vs) H _ I hq) (fun fl s' hs => ?_) fun e s' hs => hs
  have fin : ∀ {σ' : St} {H' : Hp} {v : V} {u : Value}, Inv (cxOf CX P w K mg base N qual scope f cdv A outer s H E) [] σ' H' s' → RelV v u → Q v H' → CE outer P w H s Q u s' :=
    fun {σ' H' v u} J rv q => ⟨v, H', J.os, J.bare, J.base, J.hok, rv, q⟩
  cases fl with
  | ret u =>
    obtain ⟨v, σ', H', J, rv, q⟩ := hs
    exact fin J rv q
  | next =>
    obtain ⟨σ', H', J, q⟩ := hs
    exact fin (v := V.non) (u := Value.none) J rfl q
  | brk =>
    obtain ⟨_, _, _, q⟩ := hs
    exact False.elim q
  | cont =>
    obtain ⟨_, _, _, q⟩ := hs
    exact False.elim q
end L2
namespace L2
open PySem PySem.Spec PyProof.Rows
section
variable {X : Cx} {x : Str} {p pos : Pos} {e : Expr} {es : List Expr} {t : TA} {id T : String} {r : List V → Hp → VK → Prop}
def tCB (r : List V → Hp → VK → Prop) (t : TA) : TE := fun σ H Q => t σ H fun vs H1 => r vs H1 Q
theorem pe_callB (hc : CallR X (.builtin id) r) (hg : Gl X x) (hm : X.mg x = none) (hv : bootBuiltins x = some (.builtin id)) (ha : PA X (e :: es) t) (hn : x ≠ "__name__" := by decide) (hdb : (x == ("__debug__" : Str)) = false := by decide)
    (he : starEach (e :: es) X.env = (false, eval e X.env) :: starEach es X.env := by rfl) (hpl : (backTo pos (starEach es X.env)).any (·.1) = false := by rfl) : PE X (.Call (.Name x p) (e :: es) [] pos) (tCB r t) := by
  intro pins s σ H Q I h
  refine wpAny_Call_Name_kw (ld_blt I hg hm hv ?_ hn hdb)
  exact PyProof.Rows.callWith_builtin1 (thn (ha pos pins s σ H _ I h) fun us s1 ⟨vs, H1, I1, r1, q1⟩ => hc pins s1 σ H1 vs us Q I1 r1 q1) he hpl
theorem pe_callTy (hc : CallR X (.type T) r) (hg : Gl X x) (hm : X.mg x = none) (hv : bootBuiltins x = some (.type T)) (ha : PA X (e :: es) t) (hn : x ≠ "__name__" := by decide) (hdb : (x == ("__debug__" : Str)) = false := by decide)
    (he : starEach (e :: es) X.env = (false, eval e X.env) :: starEach es X.env := by rfl) (hpl : (backTo pos (starEach es X.env)).any (·.1) = false := by rfl) : PE X (.Call (.Name x p) (e :: es) [] pos) (tCB r t) := by
  intro pins s σ H Q I h
  refine wpAny_Call_Name_kw (ld_blt I hg hm hv ?_ hn hdb)
  exact PyProof.Rows.callWith_type1 (thn (ha pos pins s σ H _ I h) fun us s1 ⟨vs, H1, I1, r1, q1⟩ => hc pins s1 σ H1 vs us Q I1 r1 q1) he hpl
end
end L2
namespace HT
open PySem PyProof.Rows
section
open PySem.SeqAt
open PySem.AutoSeq1 (wpAny_loadPart')
open PySem.MeetsSeq PySem.MeetsSeq2 PySem.MeetsSeq3
end
section
variable {prog : Program} {w : World} {A : Around} {E : Value → Shared → Prop} {s : Shared}
theorem cat_tup {t b : Addr} {vs ws : List Value} {Q : Value → Shared → Prop} (ht : IsTup s.heap t vs.toArray) (hb : IsTup s.heap b ws.toArray) (hv : vs ≠ [])
    (h1 : ws = [] → Q (.ref t) s) (h2 : ws ≠ [] → Q (.ref s.heap.objs.size) { s with heap := s.heap.push { cls := .type "tuple", data := .seq (vs ++ ws).toArray } })
    (hsz : vs.length + ws.length ≤ sizeLine) : wpAny (model prog w) A (binaryOp .Add (.ref t) (.ref b)) Q E s := by
  obtain ⟨⟨cls, dd, data, sl⟩, ho, hc, n, hd⟩ := id ht
  obtain ⟨⟨cls2, dd2, data2, sl2⟩, ho2, hc2, n2, hd2⟩ := id hb
  simp only at hc hd hc2 hd2
  subst hc hd hc2 hd2
  have e : vs.toArray ++ ws.toArray = (vs ++ ws).toArray := by simp
  by_cases hw : ws = []
  · exact concat_meets ⟨_, ho, rfl⟩ ⟨_, ho2, rfl⟩ noFill_tuple_add seq_tuple_add PySem.F.slot_tuple_add PySem.F.entry_tuple_add (PySem.F.args_tuple_add_2 _ _)
      (tuple_addW1 t b vs.toArray ws.toArray n n2 dd dd2 sl sl2 (by simpa using hv) (by simp [hw])) ⟨ho, ho2, h1 hw⟩
  · refine concat_meets ⟨_, ho, rfl⟩ ⟨_, ho2, rfl⟩ noFill_tuple_add seq_tuple_add PySem.F.slot_tuple_add PySem.F.entry_tuple_add (PySem.F.args_tuple_add_2 _ _)
      (tuple_addW2 t b vs.toArray ws.toArray n n2 dd dd2 sl sl2 (by simpa using hv) (by simpa using hw) (by rw [List.size_toArray, List.size_toArray]; exact hsz)) ⟨ho, ho2, ?_⟩
    rw [e]
    exact h2 hw
def sIx (n d : Nat) : Option Int → Nat
  | none => d
  | some v => if v < 0 then (v + (n : Int)).toNat else min v.toNat n
theorem sIx_none (n d : Nat) : sIx n d none = d := rfl
theorem sIx_nat (n d k : Nat) : sIx n d (some (k : Int)) = min k n := by
  show (if (k : Int) < 0 then ((k : Int) + (n : Int)).toNat else min (k : Int).toNat n) = min k n
  rw [if_neg (by omega), Int.toNat_natCast]
theorem sIx_le (n d : Nat) (hd : d ≤ n) (o : Option Int) : sIx n d o ≤ n := by
  cases o with
  | none => exact hd
  | some v =>
    show (if v < 0 then (v + (n : Int)).toNat else min v.toNat n) ≤ n
    by_cases hv : v < 0
    · rw [if_pos hv]; omega
    · rw [if_neg hv]; exact Nat.min_le_right _ _
theorem clip_eq (v : Int) (n d : Nat) : (if v < 0 then max (v + (n : Int)) 0 else min v (n : Int)) = ((sIx n d (some v) : Nat) : Int) := by
  show (if v < 0 then max (v + (n : Int)) 0 else min v (n : Int)) = (((if v < 0 then (v + (n : Int)).toNat else min v.toNat n) : Nat) : Int)
  by_cases hv : v < 0
  · simp only [if_pos hv]; omega
  · simp only [if_neg hv]; omega
theorem adjust_gen (lo hi : Option Int) (n : Nat) : Builtin.Slice.sliceAdjust lo hi 1 (n : Int) = (((sIx n 0 lo : Nat) : Int), ((sIx n n hi : Nat) : Int)) := by
  have h1 : ¬ ((1 : Int) < 0) := by omega
  unfold Builtin.Slice.sliceAdjust
  simp only [h1, if_false]
  refine Prod.ext ?_ ?_
  · cases lo with
    | none => rfl
    | some v => exact clip_eq v n 0
  · cases hi with
    | none => rfl
    | some v => exact clip_eq v n n
theorem places_gen (i j : Nat) : Builtin.Slice.slicePlaces (i : Int) (j : Int) 1 = j - i := by
  unfold Builtin.Slice.slicePlaces
  have h1 : (1 : Int) > 0 := by omega
  simp only [h1, if_true, Int.ediv_one]
  split <;> omega
theorem slicePart_ {v : Value} {o : Option Int} {Q : Option Int → Shared → Prop} (p : IsPart v o) (h : Q o s) : wpAny (model prog w) A (Builtin.Slice.slicePartIndex v) Q E s := by
  cases p with
  | none => exact slicePart_none h
  | int i t => exact slicePart_int h
theorem sliceApplied_gen {sl : Addr} {vl vu : Value} {lo hi : Option Int} {n : Nat} {Q : Int × Int × Nat → Shared → Prop} (hs : s.heap.IsSliceOf sl vl vu .none) (pl : IsPart vl lo) (pu : IsPart vu hi)
    (h : Q (((sIx n 0 lo : Nat) : Int), 1, sIx n n hi - sIx n 0 lo) s) : wpAny (model prog w) A (Builtin.Slice.sliceApplied (.ref sl) (pure (n : Int))) Q E s := by
  obtain ⟨os, hos, hcs, hds⟩ := id hs
  unfold Builtin.Slice.sliceApplied Builtin.Slice.sliceFields
  refine wpAny_bind (wpAny_bind (wpAny_field hos hds (x := vl) rfl (wpAny_bind (wpAny_field hos hds (x := vu) rfl (wpAny_bind (wpAny_field hos hds (x := .none) rfl (wpAny_pure ?_)))))))
  refine wpAny_bind (slicePart_none ?_)
  show wpAny _ _ (if ((1 : Int) == 0) = true then _ else _) _ _ s
  rw [if_neg (by decide)]
  refine wpAny_bind (slicePart_ pl (wpAny_bind (slicePart_ pu (wpAny_bind (wpAny_pure ?_)))))
  show wpAny _ _ (match Builtin.Slice.sliceAdjust lo hi 1 (n : Int) with | (lo, hi) => pure (lo, (1 : Int), Builtin.Slice.slicePlaces lo hi 1)) _ _ s
  rw [adjust_gen lo hi n]
  show wpAny _ _ (pure (((sIx n 0 lo : Nat) : Int), (1 : Int), Builtin.Slice.slicePlaces ((sIx n 0 lo : Nat) : Int) ((sIx n n hi : Nat) : Int) 1)) _ _ s
  rw [places_gen]
  exact wpAny_pure h
theorem pick_gen (xs : Array Value) (i k : Nat) : ((List.range k).filterMap fun (m : Nat) => xs[((i : Int) + (m : Int) * 1).toNat]?).toArray = ((xs.toList.drop i).take k).toArray := by
  have e : (fun (m : Nat) => xs[((i : Int) + (m : Int) * 1).toNat]?) = fun m => xs[i + m]? := by
    funext m
    have : ((i : Int) + (m : Int) * 1).toNat = i + m := by omega
    rw [this]
  rw [e]
  have := pick_run xs i k
  rw [List.filterMap_map] at this
  have e2 : ((fun x => xs[x]?) ∘ fun x => i + x) = fun m => xs[i + m]? := rfl
  rw [e2] at this
  rw [this]
theorem getItem_tuple_cut {t sl : Addr} {items : Array Value} {vl vu : Value} {lo hi : Option Int} {Q : Value → Shared → Prop} (ht : IsTup s.heap t items) (hs : s.heap.IsSliceOf sl vl vu .none) (pl : IsPart vl lo) (pu : IsPart vu hi)
    (hw : ¬ (sIx items.size 0 lo = 0 ∧ sIx items.size items.size hi = items.size))
    (h : Q (.ref s.heap.objs.size) { s with heap := s.heap.push { cls := .type "tuple", data := .seq ((items.toList.drop (sIx items.size 0 lo)).take (sIx items.size items.size hi - sIx items.size 0 lo)).toArray } })
    (hsz : items.size ≤ sizeLine) : wpAny (model prog w) A (getItem (.ref t) (.ref sl)) Q E s := by
  have htake : sizeOk (.seq ((items.toList.drop (sIx items.size 0 lo)).take (sIx items.size items.size hi - sIx items.size 0 lo)).toArray) := by
    show ((items.toList.drop (sIx items.size 0 lo)).take (sIx items.size items.size hi - sIx items.size 0 lo)).toArray.size ≤ sizeLine
    rw [List.size_toArray, List.length_take, List.length_drop, Array.length_toList]
    omega
  have hj : sIx items.size items.size hi ≤ items.size := sIx_le _ _ (Nat.le_refl _) hi
  obtain ⟨os, hos, hcs, hds⟩ := id hs
  have hTs : s.TypeIs (.ref sl) "slice" := ⟨os, hos, hcs⟩
  unfold getItem
  try with_reducible refine wpAny_holding ?_
  first | refine wpAny_bind (wpAny_pure ?_) | skip
  refine wpAny_bind (wpAny_sequenceKey ht.typeIs (by decide) ?_)
  refine wpAny_bind (wpAny_callSpecial?_slot (name := Str.ofString "__getitem__") ht.typeIs PyProof.Rows.slot_tuple_getitem
    (wpAny_call_entry PyProof.Rows.slot_tuple_getitem ht.typeIs entry_tuple_getitem ?_ (args_tuple_getitem _ _)))
  show wpAny _ _ (Builtin.Tuple.tupleItemsOf (.ref t) >>= _) _ _ s
  refine wpAny_bind (tupleItemsOf_ ht ?_)
  refine wpAny_bind (wpAny_typeOf hTs ?_)
  rw [if_pos (by decide)]
  refine wpAny_bind (sliceApplied_gen hs pl pu ?_)
  have hno : ¬ ((((sIx items.size 0 lo : Nat) : Int) == 0 && (1 : Int) == 1 && (sIx items.size items.size hi - sIx items.size 0 lo) == items.size) = true) := by
    intro q
    rw [Bool.and_eq_true, Bool.and_eq_true] at q
    have q1 : ((sIx items.size 0 lo : Nat) : Int) = 0 := eq_of_beq q.1.1
    have q2 : sIx items.size items.size hi - sIx items.size 0 lo = items.size := eq_of_beq q.2
    exact hw ⟨by omega, by omega⟩
  show wpAny _ _ (if (((sIx items.size 0 lo : Nat) : Int) == 0 && (1 : Int) == 1 && (sIx items.size items.size hi - sIx items.size 0 lo) == items.size) = true then _ else _) _ _ s
  rw [if_neg hno, pick_gen]
  first
    | exact wpAny_bind (m := Builtin.Tuple.tupleExact _) (wpAny_newObj_type (wpAny_pure ⟨_, rfl, wpAny_pure h⟩) htake)
    | exact wpAny_bind (m := Builtin.Tuple.tupleExact _) (wpAny_newObj_type (wpAny_bind (wpAny_pure (wpAny_pure ⟨_, rfl, wpAny_pure h⟩))) htake)
    | exact wpAny_bind (wpAny_bind (m := Builtin.Tuple.tupleExact _) (wpAny_newObj_type (wpAny_pure (wpAny_pure ⟨_, rfl, wpAny_pure h⟩)) htake))
    | exact wpAny_bind (wpAny_bind (m := Builtin.Tuple.tupleExact _) (wpAny_newObj_type (wpAny_pure ⟨_, rfl, wpAny_pure h⟩) htake))
end
end HT
namespace L2
open PySem PySem.Spec PyProof.Rows
abbrev TO := St → Hp → (Option Int → Hp → Prop) → Prop
def PO (X : Cx) (e : Option Expr) (t : TO) : Prop :=
  ∀ (pins : List (Addr × Obj)) (s : Shared) (σ : St) (H : Hp) (Q : Option Int → Hp → Prop), Inv X pins σ H s → t σ H Q →
    wpAny (model X.prog X.w) X.A (evalPart e X.env) (fun u s' => ∃ o H', Inv X pins σ H' s' ∧ IsPart u o ∧ Q o H') X.xe s
def tNoPart : TO := fun _ H Q => Q none H
def tPart (t : TE) : TO := fun σ H Q => t σ H fun x H1 => ∃ i, x = .int i ∧ Q (some i) H1
section
variable {X : Cx} {e : Expr} {te : TE} {lo hi : Option Expr} {tl th : TO} {pos p2 : Pos}
theorem po_none : PO X none tNoPart := by
  intro pins s σ H Q I h
  rw [evalPart_none]
  exact wpAny_pure ⟨none, H, I, .none, h⟩
theorem po_some (h : PE X e te) : PO X (some e) (tPart te) := by
  intro pins s σ H Q I hw
  rw [evalPart_some]
  refine thn (h pins s σ H _ I hw) fun u s1 ⟨x, H1, I1, r1, q1⟩ => ?_
  obtain ⟨i, rfl, q⟩ := q1
  obtain ⟨t, rfl⟩ := r1
  exact ⟨some i, H1, I1, .int i t, q⟩
def SlR (X : Cx) (r : V → Option Int → Option Int → Hp → VK → Prop) : Prop :=
  ∀ (pins : List (Addr × Obj)) (s : Shared) (σ : St) (H : Hp) (x : V) (v vl vu : Value) (lo hi : Option Int) (sl : Addr) (Q : VK), Inv X pins σ H s → RelV x v → s.heap.IsSliceOf sl vl vu .none → IsPart vl lo → IsPart vu hi → r x lo hi H Q →
    ∃ T id, typeLookup (.type T) "__getitem__" = pure (some (.builtin id)) ∧ s.TypeIs v T ∧ wpAny (model X.prog X.w) X.A (getItem v (.ref sl)) (EP X pins σ Q) X.xe s
def tSl (r : V → Option Int → Option Int → Hp → VK → Prop) (te : TE) (tl th : TO) : TE := fun σ H Q => te σ H fun x H1 => tl σ H1 fun l H2 => th σ H2 fun u H3 => r x l u H3 Q
theorem pe_slice {r : V → Option Int → Option Int → Hp → VK → Prop} (hr : SlR X r) (he : PE X e te) (hl : PO X lo tl) (hu : PO X hi th) : PE X (.Subscript e (.Slice lo hi none p2) pos) (tSl r te tl th) := by
  intro pins s σ H Q I h
  refine Subscript_ (thn (he pins s σ H _ I h) fun v s1 ⟨x, H1, I1, r1, q1⟩ => ?_)
  refine wpAny_Slice (thn (hl pins s1 σ H1 _ I1 q1) fun vl s2 ⟨l, H2, I2, pl, q2⟩ => thn (hu pins s2 σ H2 _ I2 q2) fun vu s3 ⟨u, H3, I3, pu, q3⟩ => ?_)
  rw [evalPart_none]
  refine wpAny_pure ?_
  have I4 : Inv X pins σ H3 { s3 with heap := s3.heap.push { cls := .type "slice", data := .fields #[vl, vu, .none] } } := I3.kept (t' := s3.toks) fun b ob q => Heap.get?_push_of_some _ q
  obtain ⟨T, id, hT, ht, hg⟩ := hr pins { s3 with heap := s3.heap.push { cls := .type "slice", data := .fields #[vl, vu, .none] } } σ H3 x v vl vu l u s3.heap.objs.size Q I4 r1 (Heap.IsSliceOf.new ..) pl pu q3
  show wpAny (model X.prog X.w) X.A (subscriptTail e (.Slice lo hi none p2) v (.ref s3.heap.objs.size)) (EP X pins σ Q) X.xe { s3 with heap := s3.heap.push { cls := .type "slice", data := .fields #[vl, vu, .none] } }
  exact tail_any (ops := [.ref s3.heap.objs.size, v]) ht hT hg (by with_unfolding_all rfl)
def cutV (xs : List V) (lo hi : Option Int) : List V := (xs.drop (HT.sIx xs.length 0 lo)).take (HT.sIx xs.length xs.length hi - HT.sIx xs.length 0 lo)
theorem cutV_length (xs : List V) (lo hi : Option Int) : (cutV xs lo hi).length ≤ xs.length := by
  unfold cutV
  rw [List.length_take, List.length_drop]
  omega
def rSlT (K : PySem.W.Frag) : V → Option Int → Option Int → Hp → VK → Prop := fun x lo hi H Q => ∃ a xs, x = .ref a ∧ SqT K H a xs ∧
  ¬ (HT.sIx xs.length 0 lo = 0 ∧ HT.sIx xs.length xs.length hi = xs.length) ∧ ∀ p, H p = none → Q (.ref p) (upd H p (.tup (cutV xs lo hi)))
theorem sl_tup : SlR X (rSlT X.K) := by
  intro pins s σ H x v vl vu lo hi sl Q I rx hs pl pu h
  obtain ⟨a, xs, rfl, hx, hw, q⟩ := h
  cases rx
  obtain ⟨its, r, ht, hz⟩ := I.tuple hx
  have hlen : its.toArray.size = xs.length := by rw [List.size_toArray]; exact r.length.symm
  refine ⟨"tuple", _, PyProof.Rows.slot_tuple_getitem.lookup, ht.typeIs, ?_⟩
  refine HT.getItem_tuple_cut ht hs pl pu (by rw [hlen]; exact hw) ?_ (by rw [hlen]; exact hz)
  rw [hlen]
  refine ⟨.ref s.heap.objs.size, _, I.laid (t' := s.toks) (o := .tup (cutV xs lo hi)) (fun b ob q => Heap.get?_push_of_some _ q) (Nat.le_refl _) ?_, rfl, q _ (I.hok.fresh (Nat.le_refl _))⟩
  exact ⟨Nat.le_trans (cutV_length xs lo hi) hz, _, (r.drop (HT.sIx xs.length 0 lo)).take (HT.sIx xs.length xs.length hi - HT.sIx xs.length 0 lo), IsTup.new _ _⟩
def rCatT (K : PySem.W.Frag) : R2 := fun x y H Q => ∃ a b xs ys, x = .ref a ∧ y = .ref b ∧ SqT K H a xs ∧ SqT K H b ys ∧ xs ≠ [] ∧ xs.length + ys.length ≤ sizeLine ∧
  (ys = [] → Q (.ref a) H) ∧ (ys ≠ [] → ∀ p, H p = none → Q (.ref p) (upd H p (.tup (xs ++ ys))))
theorem Vals.nil_iff {xs : List V} {us : List Value} (r : Vals xs us) : us = [] ↔ xs = [] := by
  cases r with
  | nil => simp
  | cons _ _ => simp
theorem op_catT : OpR X (binaryOp .Add) (rCatT X.K) := by
  intro pins s σ H x y v u Q I rx ry h
  obtain ⟨a, b, xs, ys, rfl, rfl, ha, hb, hx, hz, q1, q2⟩ := h
  cases rx
  cases ry
  obtain ⟨its, r1, p1, _⟩ := I.tuple ha
  obtain ⟨its2, r2, p2, _⟩ := I.tuple hb
  refine HT.cat_tup p1 p2 (fun z => hx (r1.nil_iff.mp z)) (fun z => ⟨.ref a, H, I, rfl, q1 (r2.nil_iff.mp z)⟩) (fun z => ?_) (by rw [← r1.length, ← r2.length]; exact hz)
  refine ⟨.ref s.heap.objs.size, _, I.laid (t' := s.toks) (o := .tup (xs ++ ys)) (fun b ob q => Heap.get?_push_of_some _ q) (Nat.le_refl _) ?_, rfl, q2 (fun w => z (r2.nil_iff.mpr w)) _ (I.hok.fresh (Nat.le_refl _))⟩
  exact ⟨by rw [List.length_append]; exact hz, _, r1.append r2, IsTup.new _ _⟩
end
end L2
namespace L2
open PySem PySem.Spec PyProof.Rows
def ixN (n : Nat) (i : Int) : Option Nat := if 0 ≤ i then (if i < n then some i.toNat else none) else if -(n : Int) ≤ i then some (i + n).toNat else none
def atI {α : Type} (xs : List α) (i : Int) : Option α := (ixN xs.length i).bind fun j => xs[j]?
theorem ixN_seq {n : Nat} {i : Int} {j : Nat} (h : ixN n i = some j) : seqIndex? i n = some j ∧ j < n ∧ -(n : Int) ≤ i ∧ i < n := by
  unfold ixN at h
  by_cases h0 : 0 ≤ i
  · rw [if_pos h0] at h
    by_cases h1 : i < n
    · rw [if_pos h1] at h
      have e : i.toNat = j := Option.some.inj h
      exact ⟨by rw [seqIndex_of h0 h1, e], by omega, by omega, h1⟩
    · rw [if_neg h1] at h; cases h
  · rw [if_neg h0] at h
    by_cases h1 : -(n : Int) ≤ i
    · rw [if_pos h1] at h
      have e : (i + n).toNat = j := Option.some.inj h
      exact ⟨by rw [seqIndex_neg (by omega) h1, e], by omega, h1, by omega⟩
    · rw [if_neg h1] at h; cases h
theorem atI_get {α : Type} {xs : List α} {i : Int} {v : α} (h : atI xs i = some v) : ∃ j, seqIndex? i xs.length = some j ∧ xs[j]? = some v ∧ j < xs.length ∧ -(xs.length : Int) ≤ i ∧ i < xs.length := by
  unfold atI at h
  cases e : ixN xs.length i with
  | none => rw [e] at h; cases h
  | some j =>
    rw [e] at h
    obtain ⟨h1, h2, h3, h4⟩ := ixN_seq e
    exact ⟨j, h1, h, h2, h3, h4⟩
theorem atI_nat {α : Type} {xs : List α} {j : Nat} {v : α} (h : xs[j]? = some v) : atI xs (j : Int) = some v := by
  have hj : j < xs.length := (List.getElem?_eq_some_iff.mp h).1
  have e : ixN xs.length (j : Int) = some j := by
    unfold ixN
    rw [if_pos (by omega), if_pos (by omega)]; simp
  unfold atI; rw [e]; exact h
def PlainIx (b : Expr) : Prop := ∀ o i, subscripted b false o i = operate [o, i] (getItem o i)
def IxR (X : Cx) (r : R2) : Prop :=
  ∀ (value slice : Expr) (pins : List (Addr × Obj)) (s : Shared) (σ : St) (H : Hp) (x y : V) (v u : Value) (Q : VK), Inv X pins σ H s → RelV x v → RelV y u → r x y H Q →
    subscripted slice false v u = operate [v, u] (getItem v u) → wpAny (model X.prog X.w) X.A (subscriptTail value slice v u) (EP X pins σ Q) X.xe s
def MtR (X : Cx) (id : String) (r : V → List V → Hp → VK → Prop) : Prop :=
  ∀ (pins : List (Addr × Obj)) (s : Shared) (σ : St) (H : Hp) (x : V) (xs : List V) (v : Value) (us : List Value) (Q : VK), Inv X pins σ H s → RelV x v → Vals xs us → r x xs H Q →
    wpAny (model X.prog X.w) X.A (call (.builtin id) (v :: us)) (EP X pins σ Q) X.xe s
section
variable {X : Cx} {a b : Expr} {ta tb : TE} {pos : Pos}
theorem pe_ix {r : R2} (hr : IxR X r) (ha : PE X a ta) (hb : PE X b tb) (hs : PlainIx b) : PE X (.Subscript a b pos) (tOp r ta tb) := by
  intro pins s σ H Q I h
  exact Subscript_ (binT ha hb I h fun v u s2 x y H2 I2 rx ry q => hr a b pins s2 σ H2 x y v u Q I2 rx ry q (hs _ _))
def rIxL (K : PySem.W.Frag) : R2 := fun x y H Q => ∃ p xs i v, x = .ref p ∧ y = .int i ∧ SqL K H p xs ∧ atI xs i = some v ∧ Q v H
def rIxT (K : PySem.W.Frag) : R2 := fun x y H Q => ∃ p xs i v, x = .ref p ∧ y = .int i ∧ SqT K H p xs ∧ atI xs i = some v ∧ Q v H
theorem ix_list : IxR X (rIxL X.K) := by
  intro value slice pins s σ H x y v u Q I rx ry h hs
  obtain ⟨p, xs, i, z, rfl, rfl, hq, he, q⟩ := h
  cases rx
  obtain ⟨t, rfl⟩ := ry
  obtain ⟨its, r, pl, hz⟩ := I.list hq
  obtain ⟨j, h1, h2, h3, h4, h5⟩ := atI_get he
  obtain ⟨w, ew, rw'⟩ := r.get h2
  have hl := r.length
  have hn := line63
  have fin : EP X pins σ Q w s := ⟨z, H, I, rw', q⟩
  by_cases h0 : 0 ≤ i
  · have hj : i.toNat = j := by
      rw [seqIndex_of h0 h5] at h1
      exact Option.some.inj h1
    exact item_listR pl.isList h0 (by omega) (by rw [hj]; simpa using ew) fin hs
  · have hj : (i + (its.toArray.size : Int)).toNat = j := by
      rw [seqIndex_neg (by omega) h4] at h1
      rw [List.size_toArray, ← hl]
      exact Option.some.inj h1
    exact subscriptTail_builtinR (x := w) pl.isList.typeIs slot_list_getitem.lookup
      (wpAny_getItem_list_neg (Q := fun r s' => r = w ∧ EP X pins σ Q r s') pl.isList (by omega) (by rw [List.size_toArray] <;> omega) (by omega) (by rw [hj]; simpa using ew) ⟨rfl, fin⟩) hs
theorem ix_tup : IxR X (rIxT X.K) := by
  intro value slice pins s σ H x y v u Q I rx ry h hs
  obtain ⟨p, xs, i, z, rfl, rfl, hq, he, q⟩ := h
  cases rx
  obtain ⟨t, rfl⟩ := ry
  obtain ⟨its, r, pl, hz⟩ := I.tuple hq
  obtain ⟨j, h1, h2, h3, h4, h5⟩ := atI_get he
  obtain ⟨w, ew, rw'⟩ := r.get h2
  have hl := r.length
  have hn := line63
  have fin : EP X pins σ Q w s := ⟨z, H, I, rw', q⟩
  exact subscriptTail_builtinR (x := w) pl.typeIs slot_tuple_getitem.lookup
    (getItem_tuple (j := j) (Q := fun r s' => r = w ∧ EP X pins σ Q r s') pl (by omega) (by omega) (by rw [List.size_toArray, ← hl]; exact h1) (by simpa using ew) ⟨rfl, fin⟩) hs
theorem mapSeq_set (its : List Value) (n j : Nat) (u : Value) : Obj.mapSeq (·.setIfInBounds j u) { cls := .type "list", data := .seq its.toArray n } = { cls := .type "list", data := .seq (its.set j u).toArray n } := by
  simp [Obj.mapSeq]
theorem Inv.lst {pins : List (Addr × Obj)} {σ : St} {H : Hp} {s : Shared} {p : Addr} {xs : List V} (I : Inv X pins σ H s) (h : H p = some (.lst xs)) :
    ∃ (its : List Value) (n : Nat), Vals xs its ∧ s.heap.get? p = some { cls := .type "list", data := .seq its.toArray n } ∧ xs.length ≤ sizeLine := by
  obtain ⟨z, its, n, r, e⟩ := I.hok p _ h
  exact ⟨its, n, r, e, z⟩
theorem Inv.lstUpd {pins : List (Addr × Obj)} {σ : St} {H : Hp} {s : Shared} {p : Addr} {xs ys : List V} {its its' : List Value} {n n' : Nat} {f : Obj → Obj} (I : Inv X pins σ H s) (h : H p = some (.lst xs))
    (ho : s.heap.get? p = some { cls := .type "list", data := .seq its.toArray n }) (hf : f { cls := .type "list", data := .seq its.toArray n } = { cls := .type "list", data := .seq its'.toArray n' }) (r : Vals ys its') (hz : ys.length ≤ sizeLine) (t : Nat) :
    Inv X pins σ (upd H p (.lst ys)) { s with heap := s.heap.update p f, toks := t } := by
  have e : (s.heap.update p f).get? p = some { cls := .type "list", data := .seq its'.toArray n' } := by
    rw [Heap.get?_update_self f ho (by rw [hf] <;> rfl), hf]
  refine I.write (x := p) (e := p) (by rw [h]; trivial) (.inl rfl) (fun b u hb q => (Heap.get?_update_other _ _ (Ne.symm hb)).trans q) ⟨_, e⟩ ?_
  exact ⟨hz, its', n', r, e⟩
def rSetL : V → V → V → Hp → (Hp → Prop) → Prop := fun o i v H Q => ∃ p xs k j, o = .ref p ∧ i = .int k ∧ H p = some (.lst xs) ∧ ixN xs.length k = some j ∧ Q (upd H p (.lst (xs.set j v)))
theorem set_list : PSet X rSetL := by
  intro pins s σ H o i v ov iv u Q I ro ri rv h
  obtain ⟨p, xs, k, j, rfl, rfl, hp, hj, q⟩ := h
  cases ro
  obtain ⟨t, rfl⟩ := ri
  obtain ⟨its, n, r, ho, hz⟩ := I.lst hp
  obtain ⟨h1, h2, h3, h4⟩ := ixN_seq hj
  have hl := r.length
  have hn := line63
  have I' : Inv X pins σ (upd H p (.lst (xs.set j v))) { s with heap := s.heap.update p (Obj.mapSeq (·.setIfInBounds j u)) } :=
    I.lstUpd hp ho (mapSeq_set its n j u) (r.set rv j) (by rw [List.length_set]; exact hz) s.toks
  by_cases h0 : 0 ≤ k
  · have hk : k.toNat = j := by
      rw [seqIndex_of h0 h4] at h1
      exact Option.some.inj h1
    exact PySem.W.ki_setAt ho h0 (by omega) (by rw [List.size_toArray, ← hl]; exact h4) (by rw [hk]; exact ⟨_, I', q⟩)
  · have hk : (k + (its.toArray.size : Int)).toNat = j := by
      rw [seqIndex_neg (by omega) h3] at h1
      rw [List.size_toArray, ← hl]
      exact Option.some.inj h1
    exact PySem.W.ki_setBack ho (by omega) (by rw [List.size_toArray, ← hl]; exact h3) (by omega) (by rw [hk]; exact ⟨_, I', q⟩)
theorem slice_bounds (lo hi : Option Int) (n : Nat) : (sliceBounds lo hi none n).1 = ((HT.sIx n 0 lo : Nat) : Int) ∧ (sliceBounds lo hi none n).2.1 = ((HT.sIx n n hi : Nat) : Int) ∧ (sliceBounds lo hi none n).2.2 = 1 := by
  refine ⟨?_, ?_, rfl⟩
  · cases lo with
    | none => simp [sliceBounds, HT.sIx]
    | some i =>
      simp only [sliceBounds, HT.sIx, Option.getD_none, show (1 : Int) > 0 by decide, if_true]
      by_cases h : i < 0
      · simp only [h, if_true] <;> omega
      · simp only [h, if_false] <;> omega
  · cases hi with
    | none => simp [sliceBounds, HT.sIx]
    | some i =>
      simp only [sliceBounds, HT.sIx, Option.getD_none, show (1 : Int) > 0 by decide, if_true]
      by_cases h : i < 0
      · simp only [h, if_true] <;> omega
      · simp only [h, if_false] <;> omega
theorem slicePick_cut (its : List Value) (lo hi : Option Int) : slicePick its.toArray lo hi none = ((its.drop (HT.sIx its.length 0 lo)).take (HT.sIx its.length its.length hi - HT.sIx its.length 0 lo)).toArray := by
  obtain ⟨h1, h2, h3⟩ := slice_bounds lo hi its.toArray.size
  unfold slicePick
  rw [h1, h2, h3]
  simp only [sliceRange_one, pick_run, List.size_toArray] <;> rfl
def rSlL (K : PySem.W.Frag) : V → Option Int → Option Int → Hp → VK → Prop := fun x lo hi H Q => ∃ a xs, x = .ref a ∧ SqL K H a xs ∧ ∀ p, H p = none → Q (.ref p) (upd H p (.lst (cutV xs lo hi)))
theorem sl_list : SlR X (rSlL X.K) := by
  intro pins s σ H x v vl vu lo hi sl Q I rx hs pl pu h
  obtain ⟨a, xs, rfl, hx, q⟩ := h
  cases rx
  obtain ⟨its, r, ht, hz⟩ := I.list hx
  have hlen := r.length
  refine ⟨"list", _, slot_list_getitem.lookup, ht.isList.typeIs, ?_⟩
  refine wpAny_getItem_list_slice ht.isList hs pl pu .none (by simp) ?_ (by rw [List.size_toArray] <;> omega)
  rw [slicePick_cut, ← hlen]
  refine ⟨.ref s.heap.objs.size, _, I.laid (t' := s.toks) (o := .lst (cutV xs lo hi)) (fun b ob q => Heap.get?_push_of_some _ q) (Nat.le_refl _) ?_, rfl, q _ (I.hok.fresh (Nat.le_refl _))⟩
  exact ⟨Nat.le_trans (cutV_length xs lo hi) hz, _, 0, (r.drop (HT.sIx xs.length 0 lo)).take (HT.sIx xs.length xs.length hi - HT.sIx xs.length 0 lo), Heap.get?_push_size _ rfl⟩
def flatV : V → Bool
  | .non => true
  | .bl _ => true
  | .int _ => true
  | .str _ => true
  | _ => false
def eqV : V → V → Bool
  | .non, .non => true
  | .bl a, .bl b => a == b
  | .bl a, .int b => (if a then 1 else 0) == b
  | .int a, .bl b => a == (if b then 1 else 0)
  | .int a, .int b => a == b
  | .str a, .str b => a == b
  | _, _ => false
theorem eqAt_V {A : Around} {s : Shared} {y x : V} {u v : Value} (ry : RelV y u) (rx : RelV x v) (fy : flatV y = true) (fx : flatV x = true) : SeqAt.EqAt A s u v (eqV y x) := by
  cases y with
  | non =>
    cases ry
    cases x with
    | non => cases rx; exact SeqAt.EqAt.same _
    | bl b => cases rx; exact SeqAt.EqAt.none_bool b
    | int b => obtain ⟨t, rfl⟩ := rx; exact SeqAt.EqAt.none_int b t
    | str b => obtain ⟨t, rfl⟩ := rx; exact SeqAt.EqAt.none_str b t
    | _ => exact absurd (show false = true from fx) Bool.false_ne_true
  | bl a =>
    cases ry
    cases x with
    | non => cases rx; exact SeqAt.EqAt.bool_none a
    | bl b => cases rx; exact SeqAt.EqAt.bool_bool a b
    | int b => obtain ⟨t, rfl⟩ := rx; exact SeqAt.EqAt.bool_int a b t
    | str b => obtain ⟨t, rfl⟩ := rx; exact SeqAt.EqAt.bool_str a b t
    | _ => exact absurd (show false = true from fx) Bool.false_ne_true
  | int a =>
    obtain ⟨t', rfl⟩ := ry
    cases x with
    | non => cases rx; exact SeqAt.EqAt.int_none a t'
    | bl b => cases rx; exact SeqAt.EqAt.int_bool a t' b
    | int b => obtain ⟨t, rfl⟩ := rx; exact SeqAt.EqAt.int_int a t' b t
    | str b => obtain ⟨t, rfl⟩ := rx; exact SeqAt.EqAt.int_str a t' b t
    | _ => exact absurd (show false = true from fx) Bool.false_ne_true
  | str a =>
    obtain ⟨t', rfl⟩ := ry
    cases x with
    | non => cases rx; exact SeqAt.EqAt.str_none a t'
    | bl b => cases rx; exact SeqAt.EqAt.str_bool a t' b
    | int b => obtain ⟨t, rfl⟩ := rx; exact SeqAt.EqAt.str_int a t' b t
    | str b => obtain ⟨t, rfl⟩ := rx; exact SeqAt.EqAt.str_str a t' b t
    | _ => exact absurd (show false = true from fx) Bool.false_ne_true
  | _ => exact absurd (show false = true from fy) Bool.false_ne_true
theorem call_len_seq : CallR X (.builtin "len") (fun xs H Q => ∃ p ys, xs = [.ref p] ∧ (SqL X.K H p ys ∨ SqT X.K H p ys) ∧ Q (.int ys.length) H) := by
  intro pins s σ H xs us Q I r h
  obtain ⟨p, ys, rfl, hq, q⟩ := h
  obtain ⟨u, rfl, rx⟩ := vals1 r
  cases rx
  have hn := line63
  rcases hq with hq | hq
  · obtain ⟨its, r', pl, hz⟩ := I.list hq
    have hlen := r'.length
    exact Calls.call_len_list pl.isList (by simp only [List.size_toArray] <;> omega) ⟨.int ys.length, H, I.tok _, ⟨s.toks + 1, by rw [List.size_toArray, hlen]⟩, q⟩
  · obtain ⟨its, r', pl, hz⟩ := I.tuple hq
    have hlen := r'.length
    exact len_tuple pl (by simp only [List.size_toArray] <;> omega) ⟨.int ys.length, H, I.tok _, ⟨s.toks + 1, by rw [List.size_toArray, hlen]⟩, q⟩
theorem call_list_of : CallR X (.type "list") (fun xs H Q => ∃ p ys, xs = [.ref p] ∧ (SqL X.K H p ys ∨ SqT X.K H p ys) ∧ ∀ l, H l = none → Q (.ref l) (upd H l (.lst ys))) := by
  intro pins s σ H xs us Q I r h
  obtain ⟨p, ys, rfl, hq, q⟩ := h
  obtain ⟨u, rfl, rx⟩ := vals1 r
  cases rx
  have fin : ∀ (its : List Value), Vals ys its → ys.length ≤ sizeLine → ∀ (h' : Heap) (c' : Nat), (∀ b o', s.heap.get? b = some o' → h'.get? b = some o') →
      h'.get? s.heap.objs.size = some { cls := .type "list", dict := none, data := .seq its.toArray c', slots := #[] } → EP X pins σ Q (.ref s.heap.objs.size) { s with heap := h' } := fun its r' hz h' c' kp e =>
    ⟨.ref s.heap.objs.size, _, I.laid (t' := s.toks) kp (Nat.le_refl _) (show ObjOk X.prog X.w _ h' _ (.lst ys) from ⟨hz, its, c', r', e⟩), rfl, q _ (I.hok.fresh (Nat.le_refl _))⟩
  rcases hq with hq | hq
  · obtain ⟨its, r', pl, hz⟩ := I.list hq
    have hlen := r'.length
    obtain ⟨o, ho, hc, n, hd⟩ := pl.isList
    exact call_list_seq p (.inl rfl) ho hc hd (fun h' c' kp e => fin its r' hz h' c' kp e) (by simp only [List.size_toArray] <;> omega)
  · obtain ⟨its, r', pl, hz⟩ := I.tuple hq
    have hlen := r'.length
    obtain ⟨o, ho, hc, n, hd⟩ := pl
    exact call_list_seq p (.inr rfl) ho hc hd (fun h' c' kp e => fin its r' hz h' c' kp e) (by simp only [List.size_toArray] <;> omega)
theorem call_tuple_of : CallR X (.type "tuple") (fun xs H Q => ∃ p ys, xs = [.ref p] ∧ ((SqL X.K H p ys ∧ ∀ l, H l = none → Q (.ref l) (upd H l (.tup ys))) ∨ (SqT X.K H p ys ∧ Q (.ref p) H))) := by
  intro pins s σ H xs us Q I r h
  obtain ⟨p, ys, rfl, h⟩ := h
  obtain ⟨u, rfl, rx⟩ := vals1 r
  cases rx
  rcases h with ⟨hq, q⟩ | ⟨hq, q⟩
  · obtain ⟨its, r', pl, hz⟩ := I.list hq
    have hlen := r'.length
    refine call_tuple_list pl.isList (fun h' kp => ?_) (by simp only [List.size_toArray] <;> omega)
    have I1 : Inv X pins σ H { s with heap := h' } := I.kept (t' := s.toks) kp
    have I2 : Inv X pins σ (upd H h'.objs.size (.tup ys)) { s with heap := h'.push { cls := .type "tuple", data := .seq its.toArray } } :=
      I1.laid (t' := s.toks) (fun b o e => Heap.get?_push_of_some _ e) (Nat.le_refl _) (show ObjOk X.prog X.w _ _ _ (.tup ys) from ⟨hz, its, r', IsTup.new _ _⟩)
    exact ⟨.ref h'.objs.size, _, I2, rfl, q _ (I1.hok.fresh (Nat.le_refl _))⟩
  · obtain ⟨its, r', pl, hz⟩ := I.tuple hq
    exact call_tuple_same pl ⟨.ref p, H, I, rfl, q⟩
def tyV (K : PySem.W.Frag) (T : String) (x : V) (H : Hp) : Prop := match x with
  | .str _ => T = "str"
  | .int _ => T = "int"
  | .ref p => (T = "list" ∧ ∃ xs, SqL K H p xs) ∨ (T = "tuple" ∧ ∃ o, K.lookup p = some o ∧ o.cls = .type "tuple" ∧ o.dict = none) ∨
      (T = "dict" ∧ ((∃ kvs, H p = some (.dK kvs)) ∨ ∃ kvs, H p = some (.dT kvs))) ∨ (T = "set" ∧ ∃ S n, H p = some (.set S n))
  | _ => False
theorem tyV_is {pins : List (Addr × Obj)} {σ : St} {H : Hp} {s : Shared} {T : String} {x : V} {v : Value} (I : Inv X pins σ H s) (r : RelV x v) (ty : tyV X.K T x H) :
    s.TypeIs v T ∧ ∀ a, v = .ref a → ∃ ob, s.heap.get? a = some ob ∧ ob.dict = none := by
  cases x with
  | str z =>
    obtain ⟨t, rfl⟩ := r
    cases (show T = "str" from ty)
    exact ⟨typeIs_str s z t, fun _ e => nomatch e⟩
  | int i =>
    obtain ⟨t, rfl⟩ := r
    cases (show T = "int" from ty)
    exact ⟨typeIs_int s i t, fun _ e => nomatch e⟩
  | ref p =>
    cases r
    rcases ty with ⟨rfl, xs, hq⟩ | ⟨rfl, o, hk, hc, hd⟩ | ⟨rfl, hk⟩ | ⟨rfl, S, n, hk⟩
    · obtain ⟨its, _, pl, _⟩ := I.list hq
      refine ⟨pl.isList.typeIs, fun a e => ?_⟩
      cases e
      obtain ⟨o, n, e, c, hd, _⟩ := pl
      exact ⟨o, e, hd⟩
    · refine ⟨⟨o, I.kIn p o hk, hc⟩, fun a e => ?_⟩
      cases e
      exact ⟨o, I.kIn _ o hk, hd⟩
    · have z : ∃ o, s.heap.get? p = some o ∧ o.ExactDict := by
        rcases hk with ⟨kvs, hk⟩ | ⟨kvs, hk⟩
        · obtain ⟨_, _, _, _, o, _, _, e, ex, _⟩ := I.hok p _ hk
          exact ⟨o, e, ex⟩
        · obtain ⟨_, _, _, _, o, _, _, e, ex, _⟩ := I.hok p _ hk
          exact ⟨o, e, ex⟩
      obtain ⟨o, e, ex⟩ := z
      refine ⟨⟨o, e, ex.1⟩, fun a e2 => ?_⟩
      cases e2
      exact ⟨o, e, ex.2.1⟩
    · obtain ⟨o, _, _, _, e, ex, _⟩ := I.hok p _ hk
      refine ⟨⟨o, e, ex.1⟩, fun a e2 => ?_⟩
      cases e2
      exact ⟨o, e, ex.2.1⟩
  | _ => exact False.elim ty
def tBM0 (K : PySem.W.Frag) (T : String) (r : V → List V → Hp → VK → Prop) (to : TE) : TE := fun σ H Q => to σ H fun x H1 => tyV K T x H1 ∧ r x [] H1 Q
def tBM (K : PySem.W.Frag) (T : String) (r : V → List V → Hp → VK → Prop) (to : TE) (t : TA) : TE := fun σ H Q => to σ H fun x H1 => tyV K T x H1 ∧ t σ H1 fun xs H2 => r x xs H2 Q
variable {o e : Expr} {es : List Expr} {to : TE} {t : TA} {name : Str} {apos cpos : Pos} {T id : String} {r : V → List V → Hp → VK → Prop}
theorem pe_bm0 (pa : PlainAttrs T) (slot : Slot T name id) (hty : typeOf (.builtin id) = pure (.type "method_descriptor")) (hm : MtR X id r) (ho : PE X o to)
    (hbase : attributeBase o name X.env (eval o X.env) = eval o X.env := by rfl) (hline : (apos.endLine == cpos.line) = true := by rfl) : PE X (.Call (.Attribute o name apos) [] [] cpos) (tBM0 X.K T r to) := by
  intro pins s σ H Q I h
  refine wpAny_Call_method0_late hbase hline (thn (ho pins s σ H _ I h) fun v s1 ⟨x, H1, I1, r1, ty, q1⟩ => ?_)
  obtain ⟨h1, h2⟩ := tyV_is I1 r1 ty
  exact ⟨T, id, pa, slot, hty, h1, h2, Calls.callWith_builtin rfl (PySem.evalArgs_none (hm pins s1 σ H1 x [] v [] Q I1 r1 .nil q1))⟩
theorem pe_bm (pa : PlainAttrs T) (slot : Slot T name id) (hty : typeOf (.builtin id) = pure (.type "method_descriptor")) (hm : MtR X id r) (ho : PE X o to) (ha : PA X (e :: es) t)
    (hbase : attributeBase o name X.env (eval o X.env) = eval o X.env := by rfl)
    (hfew : ((backTo cpos (starEach (e :: es) X.env)).all (fun x => !x.1) && (backToKw cpos (keywordEach [] X.env)).all (fun x => x.1.isSome)
      && decide ((e :: es).length + ([] : List Keyword).length + (if ([] : List Keyword).isEmpty then 0 else 1) < 30)) = true := by rfl)
    (hline : (apos.endLine == cpos.line) = true := by rfl) (hs : starEach (e :: es) X.env = (false, eval e X.env) :: starEach es X.env := by rfl) (hplain : (backTo cpos (starEach es X.env)).any (·.1) = false := by rfl) :
    PE X (.Call (.Attribute o name apos) (e :: es) [] cpos) (tBM X.K T r to t) := by
  intro pins s σ H Q I h
  refine wpAny_Call_method_late hbase hfew hline rfl (thn (ho pins s σ H _ I h) fun v s1 ⟨x, H1, I1, r1, ty, q1⟩ => ?_)
  obtain ⟨h1, h2⟩ := tyV_is I1 r1 ty
  refine ⟨T, id, pa, slot, hty, h1, h2, ?_⟩
  have hA := ha cpos pins s1 σ H1 _ I1 q1
  rw [hs] at hA ⊢
  refine Calls.callWith_builtin (by show (false || (backTo cpos (starEach es X.env)).any (·.1)) = false; rw [hplain] <;> rfl) (Calls.evalArgs_plain ?_)
  exact thn hA fun us s2 ⟨vs, H2, I2, r2, q2⟩ => hm pins s2 σ H2 x vs v us Q I2 r1 r2 q2
end
end L2
namespace L2
open PySem PySem.Spec PyProof.Rows
def MtM (X : Cx) (id : String) (r : V → List V → Hp → VK → Prop) : Prop :=
  ∀ (pins : List (Addr × Obj)) (s : Shared) (σ : St) (H : Hp) (x : V) (xs : List V) (v : Value) (us : List Value) (Q : VK), Inv X pins σ H s → RelV x v → Vals xs us → r x xs H Q →
    wpAny (model X.prog X.w) X.A (call (.builtin id) (v :: us)) (EP X pins σ Q) X.xe s
theorem Vals.one : ∀ {x : V} {us : List Value}, Vals [x] us → ∃ u, us = [u] ∧ RelV x u
  | _, _, .cons r .nil => ⟨_, rfl, r⟩
theorem Vals.zero : ∀ {us : List Value}, Vals [] us → us = []
  | _, .nil => rfl
theorem erase_last {α : Type} (l : List α) : l.eraseIdx (l.length - 1) = l.dropLast := by
  induction l with
  | nil => rfl
  | cons a r ih =>
    cases r with
    | nil => rfl
    | cons b r =>
      have e : (a :: b :: r).length - 1 = ((b :: r).length - 1) + 1 := by
        have h1 : (a :: b :: r).length = r.length + 2 := rfl
        have h2 : (b :: r).length = r.length + 1 := rfl
        omega
      rw [e, List.eraseIdx_cons_succ, ih]
      all_goals rfl
section
variable {X : Cx} {pins : List (Addr × Obj)} {σ : St} {H : Hp} {s : Shared} {l b : Addr} {xs ys zs : List V}
theorem Inv.lset {its its' : List Value} {n : Nat} {f : Array Value → Array Value} {t' : Nat} (I : Inv X pins σ H s) (hH : H l = some (.lst xs))
    (e : s.heap.get? l = some { cls := .type "list", data := .seq its.toArray n }) (hf : f its.toArray = its'.toArray) (hv : Vals ys its') (hz : ys.length ≤ sizeLine) :
    Inv X pins σ (upd H l (.lst ys)) { s with heap := s.heap.update l (Obj.mapSeq f), toks := t' } := by
  have q := PySem.IsL.update e f
  rw [hf] at q
  refine I.write (x := l) (e := l) (by rw [hH]; exact trivial) (.inl rfl) (fun b' u hb hu => (Heap.get?_update_other s.heap (Obj.mapSeq f) (Ne.symm hb)).trans hu) ⟨_, q⟩ ?_
  exact ⟨hz, its', _, hv, q⟩
theorem Inv.lnew {its : List Value} {t' : Nat} (I : Inv X pins σ H s) (hv : Vals ys its) (hz : ys.length ≤ sizeLine) :
    Inv X pins σ (upd H s.heap.objs.size (.lst ys)) { s with heap := s.heap.push { cls := .type "list", data := .seq its.toArray }, toks := t' } :=
  I.laid (fun _ _ q => Heap.get?_push_of_some _ q) (Nat.le_refl _) ⟨hz, its, 0, hv, Heap.get?_push_size _ rfl⟩
theorem Inv.fresh (I : Inv X pins σ H s) : H s.heap.objs.size = none := I.hok.fresh (Nat.le_refl _)
theorem Inv.lstM (I : Inv X pins σ H s) (hH : H l = some (.lst xs)) : xs.length ≤ sizeLine ∧ ∃ (its : List Value) (n : Nat), Vals xs its ∧ xs.length = its.length ∧ s.heap.get? l = some { cls := .type "list", data := .seq its.toArray n } := by
  obtain ⟨z, its, n, r, e⟩ := I.hok l _ hH
  exact ⟨z, its, n, r, r.length, e⟩
theorem notLongL {n : Nat} (h : n ≤ sizeLine) : Builtin.List.listTooLong n = false := by
  unfold Builtin.List.listTooLong
  exact decide_eq_false (by omega)
end
section
variable {X : Cx}
def rAppend : V → List V → Hp → VK → Prop := fun x vs H Q => ∃ l xs y, x = .ref l ∧ vs = [y] ∧ H l = some (.lst xs) ∧ xs.length < sizeLine ∧ Q .non (upd H l (.lst (xs ++ [y])))
theorem mt_append : MtM X "list.append" rAppend := by
  intro pins s σ H x vs v us Q I rx rv h
  obtain ⟨l, xs, y, rfl, rfl, hH, hz, q⟩ := h
  cases rx
  obtain ⟨u, rfl, ru⟩ := rv.one
  obtain ⟨z, its, n, r, hl, e⟩ := I.lstM hH
  refine call_meets F.slot_list_append ⟨_, e, rfl⟩ F.entry_list_append (F.args_list_append_2 _ _) (PySem.list_append l its.toArray n u (by rw [List.size_toArray]; omega)) ⟨e, ?_⟩
  refine ⟨.non, _, I.lset (its' := its ++ [u]) hH e (by simp) (r.append (.cons ru .nil)) ?_, rfl, q⟩
  rw [List.length_append, List.length_singleton]
  omega
def rExtend : V → List V → Hp → VK → Prop := fun x vs H Q => ∃ l b xs zs, x = .ref l ∧ vs = [.ref b] ∧ H l = some (.lst xs) ∧ H b = some (.lst zs) ∧ xs.length + zs.length ≤ sizeLine ∧ Q .non (upd H l (.lst (xs ++ zs)))
theorem mt_extend : MtM X "list.extend" rExtend := by
  intro pins s σ H x vs v us Q I rx rv h
  obtain ⟨l, b, xs, zs, rfl, rfl, hH, hB, hz, q⟩ := h
  cases rx
  obtain ⟨u, rfl, ru⟩ := rv.one
  cases ru
  obtain ⟨z, its, n, r, hl, e⟩ := I.lstM hH
  obtain ⟨z2, its2, n2, r2, hl2, e2⟩ := I.lstM hB
  have hsz : its.toArray.size + its2.toArray.size ≤ sizeLine := by rw [List.size_toArray, List.size_toArray]; omega
  have hlong : ¬ (!its.toArray.isEmpty && Builtin.List.listTooLong (its.toArray.size + its2.toArray.size)) = true := by
    rw [notLongL hsz, Bool.and_false]
    exact Bool.false_ne_true
  refine call_meets F.slot_list_extend ⟨_, e, rfl⟩ F.entry_list_extend (F.args_list_extend_2 _ _)
    (AutoSeq1.list_extend_list_list_0 l its.toArray n b its2.toArray n2 hlong (by rw [List.size_toArray]; omega) (by omega)) ⟨e, e2, ?_⟩
  refine ⟨.non, _, I.lset (its' := its ++ its2) hH e (by simp) (r.append r2) ?_, rfl, q⟩
  rw [List.length_append]
  omega
def rPop : V → List V → Hp → VK → Prop := fun x vs H Q => ∃ l xs y, x = .ref l ∧ vs = [] ∧ H l = some (.lst xs) ∧ xs[xs.length - 1]? = some y ∧ Q y (upd H l (.lst xs.dropLast))
def rClear : V → List V → Hp → VK → Prop := fun x vs H Q => ∃ l xs, x = .ref l ∧ vs = [] ∧ H l = some (.lst xs) ∧ Q .non (upd H l (.lst []))
theorem mt_clear : MtM X "list.clear" rClear := by
  intro pins s σ H x vs v us Q I rx rv h
  obtain ⟨l, xs, rfl, rfl, hH, q⟩ := h
  cases rx
  have hus := rv.zero
  subst hus
  obtain ⟨z, its, n, r, hl, e⟩ := I.lstM hH
  refine call_meets F.slot_list_clear ⟨_, e, rfl⟩ F.entry_list_clear (F.args_list_clear_1 _) (AutoSeq1.list_clear_list_0 l its.toArray n (by rw [List.size_toArray]; omega)) ⟨e, ?_⟩
  exact ⟨.non, _, I.lset (its' := []) (ys := []) hH e rfl .nil (Nat.zero_le _), rfl, q⟩
def rCat : R2 := fun x y H Q => ∃ l b xs zs, x = .ref l ∧ y = .ref b ∧ H l = some (.lst xs) ∧ H b = some (.lst zs) ∧ xs.length + zs.length ≤ sizeLine ∧ ∀ p, H p = none → Q (.ref p) (upd H p (.lst (xs ++ zs)))
theorem op_cat : OpR X (binaryOp .Add) rCat := by
  intro pins s σ H x y v u Q I rx ry h
  obtain ⟨l, b, xs, zs, rfl, rfl, hH, hB, hz, q⟩ := h
  cases rx
  cases ry
  obtain ⟨z, its, n, r, hl, e⟩ := I.lstM hH
  obtain ⟨z2, its2, n2, r2, hl2, e2⟩ := I.lstM hB
  refine PySem.P.add_list e e2 ?_ (by rw [List.size_toArray, List.size_toArray]; omega)
  have ea : its.toArray ++ its2.toArray = (its ++ its2).toArray := by simp
  rw [ea]
  exact ⟨.ref _, _, I.lnew (t' := s.toks) (r.append r2) (by rw [List.length_append]; omega), rfl, q _ I.fresh⟩
end
section
variable {prog : Program} {w : World} {A : Around} {E : Value → Shared → Prop} {s : Shared}
end
section
variable {X : Cx}
end
end L2
namespace L2
open PySem PySem.Spec PyProof.Rows
section
variable {κ : Type} [DecidableEq κ]
end
abbrev KT (H : Hp) : List (List Key × V) → List (List Key × Addr × Value) → Prop := Paired fun p q => p.1 = q.1 ∧ H q.2.1 = some (.tup (p.1.map kV)) ∧ RelV p.2 q.2.2
section
variable {P : Program} {w : World} {H : Hp} {h : Heap} {a : Addr}
end
section
variable {X : Cx} {pins : List (Addr × Obj)} {σ : St} {H : Hp} {s : Shared} {a : Addr} {y v : V} {u r : Value} {o : Option V} {A : Around} {E : Value → Shared → Prop}
theorem Inv.big (I : Inv X pins σ H s) : sysModules < s.heap.objs.size := by
  have h : mainGlobals < s.heap.objs.size := (I.mod.glob.keeps I.bk).lt
  exact Nat.lt_trans (by decide) h
end
section
variable {X : Cx} {pins : List (Addr × Obj)} {σ : St} {H : Hp} {s : Shared} {a : Addr} {kvs : List (Key × V)} {k : Key} {u : Value} {A : Around} {E : Value → Shared → Prop}
end
section
variable {X : Cx} {o i e value : Expr} {pos pos' tpos : Pos} {td ty tv : TE}
end
theorem dk_empty {P : Program} {w : World} {H : Hp} (h : Heap) (hb : sysModules < h.objs.size) : ObjOk P w H (h.push { cls := .type "dict", data := .dict #[] }) h.objs.size (.dK []) :=
  ⟨Nat.zero_le _, beq_eq_false_iff_ne.mpr (Ne.symm (Nat.ne_of_lt hb)), [], .nil, Heap.DictOf.new h⟩
def tDNewK : TE := fun _ H Q => ∀ p, H p = none → Q (.ref p) (upd H p (.dK []))
section
variable {X : Cx} {pos : Pos}
theorem pe_dnewK : PE X (.Dict [] [] pos) tDNewK := fun pins s σ H Q I h =>
  wpAny_Dict_empty ⟨.ref s.heap.objs.size, _, I.laid (a := s.heap.objs.size) (o := .dK []) (t' := s.toks) (fun _ _ q => Heap.get?_push_of_some _ q) (Nat.le_refl _) (dk_empty s.heap I.big), rfl, h _ (I.hok.fresh (Nat.le_refl _))⟩
end
section
variable {X : Cx} {pins : List (Addr × Obj)} {σ : St} {H : Hp} {s : Shared} {a : Addr} {y d : V} {u r : Value} {o : Option V} {A : Around} {E : Value → Shared → Prop}
end
section
variable {X : Cx} {o e f : Expr} {apos cpos : Pos} {td ty tx : TE}
end
section
variable {X : Cx} {pins : List (Addr × Obj)} {σ : St} {H : Hp} {s : Shared} {a : Addr} {kvs : List (Key × V)} {A : Around} {E : Value → Shared → Prop}
end
section
variable {X : Cx} {pins : List (Addr × Obj)} {σ : St} {H : Hp} {s : Shared} {a : Addr} {y : V} {u : Value} {A : Around} {E : Value → Shared → Prop}
end
end L2
namespace Att
open PySem PySem.W PySem.Calls PyProof.Rows
theorem ints_of_wellAll {P : Params} {h : Heap} : ∀ (ns : List Int) (vs : List Value), WellAll P h vs (ns.map WData.int) → IntsAre vs ns := by
  intro ns
  induction ns with
  | nil =>
    intro vs w
    rw [List.map_nil] at w
    cases w
    exact .nil
  | cons n ns ih =>
    intro vs w
    rw [List.map_cons] at w
    cases w with
    | cons a b =>
      cases a
      exact .cons _ _ (ih _ b)
theorem script_of {l : OpenLaw} {n : Nat} (hn : l.most = some n) {P : Params} {h : Heap} {args : List WData} {vals : List Value}
    (hpre : l.row.toRowW.claim.pre args = true) (hwl : WellAll P h vals args) :
    ∃ a vs ns, vals = [Value.ref a] ∧ args = [WData.list (ns.map WData.int)] ∧ h.get? a = some { cls := .type "list", data := .seq vs.toArray } ∧ IntsAre vs ns ∧ ns.length ≤ n := by
  have hsh : WShape.hasAll [] args [.list .int] = true := (pre_splitW hpre).1
  have hc : l.pre.holds [] { args := args } = true := (pre_splitW hpre).2
  obtain ⟨d, r, rfl, h1, h2⟩ := hasAllW_cons hsh
  obtain rfl := hasAllW_nil h2
  obtain ⟨xs, rfl, h3⟩ := hasW_list h1
  obtain ⟨ns, rfl⟩ := items_int h3
  have hlen : ns.length ≤ n := by
    unfold OpenLaw.pre at hc
    have h4 : (WTm.not (.lt (.lit (.int (n : Int))) (.len (.arg 0)))).holds [] { args := [.list (ns.map .int)] } = true := by
      have h4 := (holds_andW hc).1
      rw [hn] at h4
      exact h4
    have h5 := condW_of h4 (w_not (w_lt w_lit (w_len_list (w_arg rfl))))
    rw [List.length_map] at h5
    refine Nat.le_of_not_lt fun q => ?_
    have q' : (n : Int) < ((ns.length : Nat) : Int) := by omega
    first
      | (rw [decide_eq_true q'] at h5; exact absurd h5 (by decide))
      | (simp at h5; omega)
  cases hwl with
  | cons w1 w2 =>
    cases w2
    cases w1 with
    | list ho hall => exact ⟨_, _, ns, rfl, rfl, ho, ints_of_wellAll ns _ hall, hlen⟩
theorem post_true (l : OpenLaw) (args : List WData) : l.row.toRowW.claim.post args (.bool true) args = true :=
  postW_of (r := l.row.toRowW) (X := (true == true))
    (show WShape.has [] (.bool true) .bool = true by first | rfl | decide | simp [WShape.has, WShape.arms, WShape.armsAll])
    (show (WTm.eq .res (.lit (.bool true))).value [] { args := args, res := some (.bool true), after := args } = some (.bool (true == true)) from w_eq_bool (w_res rfl) w_lit) rfl
section
variable {prog : Program} {w : World} {A : Around} {E : Value → Shared → Prop} {s : Shared} {K : Frag}
end
end Att
namespace L2
open PySem PySem.Spec PyProof.Rows
theorem vals_ints : ∀ {vs : List Value} {ns : List Int}, IntsAre vs ns → Vals (ns.map V.int) vs
  | _, _, .nil => .nil
  | _, _, .cons n t h => .cons ⟨t, rfl⟩ (vals_ints h)
end L2
namespace L2
open PySem PySem.Spec PyProof.Rows
end L2
namespace L2
open PySem PySem.Spec PyProof.Rows
def inClass (s : Stmt) (j : Nat) : Stmt := match s with
  | .ClassDef _ _ _ body _ _ _ _ _ _ _ => body.getD j (.Pass ⟨0, 0, 0, 0⟩)
  | _ => .Pass ⟨0, 0, 0, 0⟩
def defArgs (s : Stmt) : Arguments := match s with
  | .FunctionDef _ a _ _ _ _ _ _ _ _ => a
  | _ => { posonlyargs := [], args := [], vararg := none, kwonlyargs := [], kw_defaults := [], kwarg := none, defaults := [] }
def defBody (s : Stmt) : List Stmt := match s with
  | .FunctionDef _ _ b _ _ _ _ _ _ _ => b
  | _ => []
def defScope (s : Stmt) : Scope := match s with
  | .FunctionDef _ _ _ _ _ _ sc _ _ _ => sc
  | _ => { kind := .function, names := [], isGenerator := false, isCoroutine := false }
abbrev CX0 : CXT := fun _ _ _ _ _ _ => False
abbrev E0 : XK := fun _ _ _ => False
theorem pass0 {X : Cx} : Passes CX0 X E0 := fun _ _ _ _ _ _ _ h => h.elim
structure Fun (K : PySem.W.Frag) (x qual : Str) (st : Stmt) (f : Addr) (fd : FuncData) : Prop where
  ex : ∃ (oc : Value) (od : Option Addr) (kV doc pm : Value) (an : Option Addr) (cdv ct : Value) (osl : Array (Option Value)),
    fd = PySem.W.fnOf x qual (defArgs st) (defBody st) (defScope st) .none kV doc pm an cdv ct ∧ K.lookup f = some ⟨oc, od, .func fd, osl⟩ ∧ PySem.W.codeIn K cdv qual = true
  kp : PySem.W.keepIn K (.ref f) = true
section
variable {P : Program} {w : World} {K : PySem.W.Frag} {mg : Str → Option Value} {base : Heap}
theorem Fun.ok {x qual : Str} {st : Stmt} {f : Addr} {fd : FuncData} {N ps : List Str} {k : Nat} {sp : Sp} (F : Fun K x qual st f fd) (S : FnScope N ps (defScope st)) (len : ∀ vs H Q E, sp vs H Q E → vs.length = ps.length)
    (hbody : ∀ (cdv : Value) (A : Around) (outer : List Env) (s : Shared) (H : Hp) (vs : List V) (Q : VK) (E : XK), Room k (A.deeper (envOfC qual (defScope st) s.heap.objs.size f cdv)) → sp vs H Q E →
      ∃ t, PSs (cxOf CX0 P w K mg base N qual (defScope st) f cdv A outer s H E).nox (defBody st) t ∧ t { nx := fun _ H' => Q .non H', rt := Q } (start N vs) H) : FnOk P w K mg base CX0 (k + 1) f fd ps sp := by
  obtain ⟨oc, od, kV, doc, pm, an, cdv, ct, osl, rfl, lk, hcd⟩ := F.ex
  refine fn_of lk hcd S len fun A outer s H vs Q E hr hsp => ?_
  obtain ⟨t, h, q⟩ := hbody cdv A outer s H vs Q E hr hsp
  exact ⟨t, h.nox, q⟩
theorem Fun.binds {x qual : Str} {st : Stmt} {f : Addr} {fd : FuncData} {ps : List Str} (F : Fun K x qual st f fd)
    (h : ∀ (kV doc pm : Value) (an : Option Addr) (cdv ct : Value) (us : List Value), us.length = ps.length → bindArgs (PySem.W.fnOf x qual (defArgs st) (defBody st) (defScope st) .none kV doc pm an cdv ct) ⟨us, []⟩ = pure (ps.zip us)) : Binds K fd ps [] := by
  obtain ⟨oc, od, kV, doc, pm, an, cdv, ct, osl, rfl, lk, hcd⟩ := F.ex
  exact .all (h kV doc pm an cdv ct)
theorem fun_mk {x qual : Str} {st : Stmt} {f : Addr} {oc : Value} {od an : Option Addr} {osl : Array (Option Value)} {kV doc pm cdv ct : Value} (l : K.lookup f = some ⟨oc, od, .func (PySem.W.fnOf x qual (defArgs st) (defBody st) (defScope st) .none kV doc pm an cdv ct), osl⟩)
    (c : PySem.W.codeIn K cdv qual = true) (k : PySem.W.keepIn K (.ref f) = true) : Fun K x qual st f (PySem.W.fnOf x qual (defArgs st) (defBody st) (defScope st) .none kV doc pm an cdv ct) := ⟨⟨oc, od, kV, doc, pm, an, cdv, ct, osl, rfl, l, c⟩, k⟩
end
section
variable {X : Cx}
theorem pv (i : Nat) {x : Str} {pos : Pos} (hN : X.N[i]? = some x := by rfl) (hv : Vis X.env.scope x := by first | exact Or.inl rfl | exact Or.inr (Or.inl rfl) | exact Or.inr (Or.inr rfl)) (hd : (x == ("__debug__" : Str)) = false := by decide)
    (hcd : (x == ("__classdict__" : Str)) = false := by decide) : PE X (.Name x pos) (tVar i) := pe_var hN hv hd hcd
end
theorem ite2 {c A B : Prop} [Decidable c] (h1 : c → A) (h2 : ¬ c → B) : if c then A else B := by
  by_cases h : c
  · rw [if_pos h]
    exact h1 h
  · rw [if_neg h]
    exact h2 h
section
variable {X : Cx}
end
section
variable {κ : Type} [DecidableEq κ]
end
end L2
set_option Elab.async false
set_option linter.all false
set_option maxRecDepth 100000
set_option maxHeartbeats 4000000
namespace Att
open PySem PySem.W PySem.Calls PyProof.Rows
theorem script_low {R : WRecords} {cl : Str → Option Addr} {h : Heap} {a : Addr} {ds : List WData} {as : List Addr} (r : ReadsAllW R cl h [.ref a] [.list ds] as) : a ∈ as := by
  cases r with
  | cons r1 r2 =>
    cases r1 with
    | list => simp
theorem attach_callS {l : OpenLaw} {n : Nat} {q : Program} {loose : List Str} {XP : (Str → Option Value) → Heap → Prop} {YP : World → Heap → Prop} {d : DefRec}
    (hn : l.most = some n) (hdf : d.params.defaults = [])
    (call : ∀ (w : World) (s₀ s₁ : Shared) (mg mb : Str → Option Value) (fa : Addr) (o : Obj) (pm cd doc : Value) (a : Addr) (vs : List Value) (ns : List Int),
      Ground q loose [] XP w s₀ mg mb s₁.heap → YP w s₁.heap →
      s₁.heap.get? fa = some o → o.data = .func (docDef d.name d.params d.body d.scope pm cd doc) → s₁.heap.CodeRec cd d.name → mg d.name = some (.ref fa) →
      s₁.heap.get? a = some { cls := .type "list", data := .seq vs.toArray } → IntsAre vs ns → ns.length ≤ n → s₁.gens = #[] → a ≠ sysModules →
      codeAny (model l.prog w) callerA (.call (.ref fa) ⟨[.ref a], []⟩) (fun r s' => r = .ok (.ret (.bool true)) ∧ OldK s₁.heap s'.heap ∧ s'.os = s₁.os ∧ AllBare s'.gens) s₁) :
    WalkO q loose XP YP l.row.toRowW d [] (fun f vs => PySem.call f vs) := by
  intro w s₀ s₁ mg mb G Y fa o pm cd doc dV kV ho hd hcd hD hmg hg args vals as hpre hlay hrd hwl hlo
  obtain rfl : dV = .none := Dflts.none hD hdf
  obtain rfl : kV = .none := Dflts.noKw hD
  obtain ⟨a, vs, ns, rfl, rfl, hobj, hints, hlen⟩ := script_of hn hpre hwl
  have low : a ≠ sysModules := beq_eq_false_iff_ne.mp (hlo a (script_low hrd))
  refine enter_call (codeAny_mono (call w s₀ s₁ mg mb fa o pm cd doc a vs ns G Y ho (fd_plain hd) hcd hmg hobj hints hlen hg low) fun r s' hq => ?_)
  obtain ⟨rfl, h2, h3, h4⟩ := hq
  exact ⟨.inl ⟨.bool true, .bool true, [], rfl, fun _ => rfl, .bool true, post_true l _, fun _ => ⟨List.Pairwise.nil, fun _ hm => (nomatch hm)⟩⟩, h2, h3, h4⟩
end Att
namespace L2
open PySem PySem.Spec PyProof.Rows
end L2
set_option Elab.async false
set_option linter.all false
set_option maxRecDepth 100000
set_option maxHeartbeats 4000000
namespace My
open PySem
section
variable {prog : Program} {w : World} {A : Around} {h : Heap} {g : Array GenState} {d : Drawn} {tk : Nat} {os : OsState} {C N e t0 : Addr}
variable {nm q : Str} {bs bm bmB : List Value} {hdct ab : Bool} {sn : List Str} {sub : List Value} {col : Option Bool} {dd : Option Addr}
variable {k0 k1 k2 k3 k5 : Option Value} {B newId initId : String}
abbrev excAt (C t : Addr) : Obj := { cls := .ref C, data := .fields #[.ref t, .none, .none, .none, .bool false, .none] }
theorem viCall {R : Result → Shared → Prop} {v : Value} (F : ExcBaseFacts B newId initId bmB) (T : OwnTail h bmB bm)
    (hC : h.get? C = some (excClassObj nm q C N bs bm hdct sn sub ab col dd k0 k1 k2 k3 k5 newId)) (he : h.get? e = some (excAt C t0))
    (hR : ∀ h', h'.get? e = some (excAt C h.objs.size) → (∀ b o, b ≠ e → h.get? b = some o → h'.get? b = some o) → R (.ok (.ret .none)) ⟨h', g, d, tk, os⟩) :
    codeAny (model prog w) A (.call (.builtin initId) ⟨[.ref e, v], []⟩) R ⟨h, g, d, tk, os⟩ := by
  refine codeAny_call_builtin F.init.plain F.initEntry (wpAny_check_init_subT F T hC he rfl ?_)
  wp_walk
  refine hR _ ?_ fun b o hb eb => ?_
  · exact Heap.get?_update_self _ (Heap.get?_push_of_some _ he) rfl
  · exact (Heap.get?_update_ne _ _ _ _ hb).trans (Heap.get?_push_of_some _ eb)
end
end My
set_option Elab.async false
set_option linter.all false
set_option maxRecDepth 100000
set_option maxHeartbeats 4000000
namespace My
open PySem PySem.W Builtin Builtin.ObjectAttr
section
variable {prog : Program} {w : World} {A : Around} {s : Shared} {K : Frag} {C x : Addr}
theorem osaPass {R : Result → Shared → Prop} {ox : Obj} {od : Option Obj} {name : Str} {tk : Tok} {v : Value} {cd : ClassData} (X : K.In s.heap) (I : InstAt s.heap x ox C od)
    (hc : clsIn K C = some cd) (hp : refuseLoop (.ref x) "__setattr__" cd.mro = pure ()) (hm0 : mroIn K C (.type "object") = some true) (ht : takerIn K C name = some none)
    (h : ∀ b, wpAny (model prog w) A.in1 (storeInOwnDict (.ref x) (.ref C) (.str name tk) name v b)
      (fun fin s' => match fin with | .done f => R (.ok f) s' | .again c' => c'.quiet = true ∧ codeAny (model prog w) A c' R s') (fun e s' => R (.error e) s') s) :
    codeAny (model prog w) A (.call (.builtin "object.__setattr__") ⟨[.ref x, .str name tk, v], []⟩) R s := by
  have SF := PySem.F.store_object
  have sub : Looks (model prog w) s.heap (isInstance (.ref x) (.type "object")) true := I.type.andThen (looks_mroIn X hm0)
  refine codeAny_call_builtin SF.slot.plain SF.entry (@check_slot (model prog w) _ _ s "object.__setattr__" "object" "__setattr__" (.ref x) [.str name tk, v] [] _ SF.kind SF.split sub (SF.args _ _ _) ?_)
  obtain ⟨attr, ha, hr⟩ := Option.bind_eq_some_iff.mp ht
  have hm : Looks (model prog w) s.heap (mroOf (.ref C)) cd.mro := (looks_clsIn X hc).andThen .now
  have L3 : Looks (model prog w) s.heap (storeTaker? attr) none := by
    cases attr with
    | none => exact .now
    | some a =>
      obtain ⟨b, hb, e⟩ := Option.map_eq_some_iff.mp hr
      refine (looks_takesIn X hb).andThen ?_
      cases b
      · exact .now
      · cases e
  rw [osa_eq, refuse_eq]
  refine wpAny_bind (wpAny_bind (I.type.here (wpAny_bind (hm.here ?_))))
  rw [hp]
  refine wpAny_pure (wpAny_bind (I.type.here (wpAny_bind ((looks_findIn X ha).here (wpAny_bind (L3.here ?_))))))
  exact h _
end
end My
set_option Elab.async false
set_option linter.all false
set_option maxRecDepth 100000
set_option maxHeartbeats 4000000
namespace My
open PySem PySem.W Builtin Builtin.ObjectAttr
section
variable {prog : Program} {w : World} {A : Around} {E : Value → Shared → Prop} {s : Shared} {K : Frag} {C x : Addr}
theorem setExc {fs : Array Value} {sl : Array (Option Value)} {name : Str} {v : Value} {cd : ClassData} {Q : Unit → Shared → Prop} (X : K.In s.heap) (hx : s.heap.get? x = some ⟨.ref C, none, .fields fs, sl⟩)
    (hs : findIn K (.ref C) "__setattr__" = some (some (.builtin "object.__setattr__"))) (hc : clsIn K C = some cd) (hd : cd.hasDict = true)
    (hp : refuseLoop (.ref x) "__setattr__" cd.mro = pure ()) (hm0 : mroIn K C (.type "object") = some true) (ht : takerIn K C name = some none)
    (h : ∀ h' tk, h'.get? x = some ⟨.ref C, some s.heap.objs.size, .fields fs, sl⟩ → h'.Ns1 s.heap.objs.size (fun y => if y = name then some v else none) →
      (∀ b o, b ≠ x → s.heap.get? b = some o → h'.get? b = some o) → Q () { s with heap := h', toks := tk }) : wpAny (model prog w) A (setAttr (.ref x) name v) Q E s := by
  have J : InstAt s.heap x ⟨.ref C, none, .fields fs, sl⟩ C none := ⟨hx, rfl, rfl, True.intro⟩
  refine set_plain X J hs (osaPass (s := { s with toks := s.toks + 1 }) X J hc hp hm0 ht fun b => ?_)
  refine wpAny_bind (wpAny_pure (wpAny_bind (wpAny_bind (wpAny_loadPart hx (wpAny_bind (Looks.here (s := { s with toks := s.toks + 1 }) (looks_clsIn X hc) ?_))))))
  rw [hd]
  have hx1 : (s.heap.push { cls := .type "dict", data := .dict #[] }).get? x = some ⟨.ref C, none, .fields fs, sl⟩ := Heap.get?_push_of_some _ hx
  have hxs : x ≠ s.heap.objs.size := Nat.ne_of_lt (Heap.lt_size hx)
  refine wpAny_bind (wpAny_alloc' ?_)
  refine wpAny_bind (wpAny_update' hx1 ?_)
  refine wpAny_pure ?_
  generalize eU : ((s.heap.push { cls := .type "dict", data := .dict #[] }).update x fun o => { cls := o.cls, dict := some s.heap.objs.size, data := o.data, slots := o.slots } : Heap) = hU
  have gd : hU.get? s.heap.objs.size = some { cls := .type "dict", data := .dict #[] } := by
    rw [← eU]
    exact (Heap.get?_update_ne _ _ _ _ hxs.symm).trans (Heap.get?_push_at rfl rfl)
  have gx : hU.get? x = some ⟨.ref C, some s.heap.objs.size, .fields fs, sl⟩ := by
    rw [← eU]
    exact Heap.get?_update_self _ hx1 rfl
  have nd : hU.Ns s.heap.objs.size (fun _ => none) := ⟨_, #[], _, gd, rfl, fun e he => absurd he (by simp), fun _ => rfl⟩
  show wpAny _ _ (storeInDict s.heap.objs.size (.str name _) name v) _ _ _
  unfold storeInDict newKeyGuard
  refine wpAny_bind (wpAny_pure (wpAny_bind (wpAny_nsSet1 (Heap.Ns1.of_empty nd) fun h' hn' hsb => ?_)))
  obtain ⟨oD, esD, epD, hoD, hdD, hcD⟩ := hn'.count (Within.cons name v Within.nil)
  refine wpAny_bind (wpAny_lookBehind hoD (by
    rw [hdD]
    exact pastItsLine_dict (Nat.le_trans hcD (by rw [List.length_cons, List.length_nil, sizeLine_eq]; omega))) ?_)
  refine wpAny_pure ?_
  refine h h' _ ((hsb.2 x hxs).trans gx) hn' fun b o hb e => ?_
  refine (hsb.2 b (Nat.ne_of_lt (Heap.lt_size e))).trans ?_
  rw [← eU]
  exact (Heap.get?_update_ne _ _ _ _ hb).trans (Heap.get?_push_of_some _ e)
end
end My
set_option Elab.async false
set_option linter.all false
set_option maxRecDepth 100000
set_option maxHeartbeats 4000000
namespace My
open PySem PySem.W Builtin Builtin.ObjectAttr
section
variable {prog : Program} {w : World} {A : Around} {E : Value → Shared → Prop} {s : Shared} {K : Frag} {C x dx : Addr}
abbrev bga : String := "BaseException.__getattribute__"
theorem bgaCall {R : Result → Shared → Prop} {ox : Obj} {od : Option Obj} {name : Str} {tk : Tok} {v : Value} (X : K.In s.heap) (I : InstAt s.heap x ox C od)
    (hm0 : mroIn K C (.type "BaseException") = some true) (hf : findObj K C od name = some (.value v)) (h : R (.ok (.ret v)) s) :
    codeAny (model prog w) A (.call (.builtin bga) ⟨[.ref x, .str name tk], []⟩) R s := by
  have sub : Looks (model prog w) s.heap (isInstance (.ref x) (.type "BaseException")) true := I.type.andThen (looks_mroIn X hm0)
  have L1 := looks_find (M := model prog w) X I hf
  refine codeAny_call_builtin PySem.F.excAttr_ValueError.ga.plain PySem.F.entry_bexc_ga (@check_slot (model prog w) _ _ s bga "BaseException" "__getattribute__" (.ref x) [.str name tk] [] _ (by decide +kernel) (by decide +kernel) sub (PySem.F.args_bexc_ga _ _) ?_)
  refine wpAny_bind (wpAny_pure (wpAny_bind (wpAny_pure (wpAny_bind (I.type.here (wpAny_bind (L1.here ?_)))))))
  exact wpAny_pure h
theorem getExc {expr : Bool} {ox : Obj} {od : Option Obj} {name : Str} {v : Value} {Q : Value → Shared → Prop} (X : K.In s.heap) (I : InstAt s.heap x ox C od)
    (hga : findIn K (.ref C) "__getattribute__" = some (some (.builtin bga))) (hk : findIn K (.ref C) "__getattr__" = some none)
    (hm0 : mroIn K C (.type "BaseException") = some true) (hf : findObj K C od name = some (.value v)) (hv' : handedIn v = true) (h : Q v { s with toks := s.toks + 1 }) :
    wpAny (model prog w) A (getAttr (.ref x) name expr) Q E s := by
  have L0 := I.type (M := model prog w)
  have L1 := looks_findIn (M := model prog w) X hga
  have L2 := looks_findIn (M := model prog w) X hk
  have f3 := PySem.F.excAttr_ValueError.ga.bind (.ref x)
  unfold getAttr getAttrBy
  refine wpAny_bind (wpAny_mkText (wpAny_holding (wpAny_bind (Looks.here (s := { s with toks := s.toks + 1 }) L0 (wpAny_bind (Looks.here (s := { s with toks := s.toks + 1 }) L1 ?_))))))
  have hx1 : (onTheHeap (Value.ref C) && Value.builtin bga == Value.builtin "object.__getattribute__") = false := by
    rw [show (Value.builtin bga == Value.builtin "object.__getattribute__") = false from by decide +kernel]
    rfl
  show wpAny _ _ (if (onTheHeap (Value.ref C) && Value.builtin bga == Value.builtin "object.__getattribute__") = true then _ else _) _ _ _
  rw [if_neg (by rw [hx1]; decide)]
  unfold getAttrByItsOwn
  refine wpAny_bind ?_
  show wpAny _ _ (typeLookup (.ref C) "__getattr__") _ _ _
  refine Looks.here (s := { s with toks := s.toks + 1 }) L2 ?_
  have hx0 : (expr && onTheHeap (Value.builtin bga)) = false := by cases expr <;> rfl
  refine wpAny_bind (wpAny_attempt (wpAny_holding ?_))
  unfold callGetattribute
  rw [if_neg (by rw [hx0]; decide)]
  unfold boundAndCalled
  rw [f3]
  refine wpAny_bind (wpAny_pure ?_)
  refine wpAny_call (bgaCall (s := { s with toks := s.toks + 1 }) X I hm0 hf ?_)
  show wpAny _ _ (handedOut v) _ _ _
  rw [handedOut_of hv']
  exact wpAny_pure h
end
end My
set_option Elab.async false
set_option linter.all false
set_option maxRecDepth 100000
set_option maxHeartbeats 4000000
namespace My
open PySem PySem.W
section
variable {prog : Program} {w : World} {A : Around} {E : Value → Shared → Prop} {h : Heap} {g : Array GenState}
variable {d : Drawn} {t : Nat} {os : OsState} {nm q : Str} {C N : Addr} {bs bm bmB : List Value} {hdct ab : Bool}
variable {sn : List Str} {sub : List Value} {col : Option Bool} {dd : Option Addr}
variable {k0 k1 k2 k3 k5 : Option Value} {B newId initId : String} {K : Frag}
abbrev tupO (vs : List Value) : Obj := { cls := .type "tuple", data := .seq vs.toArray }
theorem tcallK (X : K.In h) (F : ExcBaseFacts B newId initId bmB) (T : OwnTail h bmB bm) {rest : List Value}
    {fI : Addr} {Q : Fin → Shared → Prop}
    (hC : h.get? C = some (excClassObj nm q C N bs bm hdct sn sub ab col dd k0 k1 k2 k3 k5 newId))
    (hi : findIn K (.ref C) "__init__" = some (some (.ref fI))) (hfI : typeIn K (.ref fI) = some (.type "function"))
    (hq : wpAny (model prog w) A (call (.ref fI) (.ref (h.objs.size + 1) :: rest))
      (fun r s' => r = .none ∧ Q (.done (.ret (.ref (h.objs.size + 1)))) s') E ⟨(h.push (tupO rest)).push (excAt C h.objs.size), g, d, t, os⟩)
    (hrest : rest.length ≤ sizeLine) :
    wpAny (model prog w) A (Builtin.«type.__call__» ⟨.ref C :: rest, []⟩) Q E ⟨h, g, d, t, os⟩ := by
  repeat (first
    | with_reducible refine wpAny_loadPart_at hC ?_
    | with_reducible refine wpAny_madeBy_exc hC ?_
    | wp_step)
  refine codeAny_call_builtin_code (Code.quiet_builtin _ F.quiet) (wpAny_check_new_subT F T hC ?_)
  refine codeAny_exc_new_subT F T hC ?_ hrest
  show wpAny _ _ _ _ _ _
  have up : ∀ b o, h.get? b = some o → ((h.push (tupO rest)).push (excAt C h.objs.size)).get? b = some o :=
    fun b o e => Heap.get?_push_of_some _ (Heap.get?_push_of_some _ e)
  have hC1 := up _ _ hC
  have X1 : K.In ((h.push (tupO rest)).push (excAt C h.objs.size)) := X.keeps up
  have hg1 : ((h.push (tupO rest)).push (excAt C h.objs.size)).get? (h.objs.size + 1) = some (excAt C h.objs.size) := by heap_get
  have hcC : (Value.ref C :: bm).contains (.ref C) = true := by simp
  unfold isInstance
  repeat (first
    | with_reducible refine wpAny_loadPart_at hg1 ?_
    | (with_reducible refine wpAny_isSubtype_exc hC1 ?_; rw [hcC])
    | wp_step)
  show wpAny _ _ (typeLookup (.ref C) _) _ _ _
  refine Looks.here (s := ⟨(h.push (tupO rest)).push (excAt C h.objs.size), g, d, t, os⟩) (looks_findIn X1 hi) ?_
  refine wpAny_holding (wpAny_bind ?_)
  unfold bindSpecial
  refine wpAny_bind (Looks.here (s := ⟨(h.push (tupO rest)).push (excAt C h.objs.size), g, d, t, os⟩) (looks_typeIn X1 hfI) ?_)
  rw [if_pos (by decide)]
  refine wpAny_pure (wpAny_bind (wpAny_mono hq (fun r s' hr => ?_) fun _ _ x => x))
  obtain ⟨rfl, hQ⟩ := hr
  wp_walk
  exact hQ
theorem callK (X : K.In h) (F : ExcBaseFacts B newId initId bmB) (T : OwnTail h bmB bm) {rest : List Value}
    {fI : Addr} {Q : Value → Shared → Prop}
    (hC : h.get? C = some (excClassObj nm q C N bs bm hdct sn sub ab col dd k0 k1 k2 k3 k5 newId))
    (hi : findIn K (.ref C) "__init__" = some (some (.ref fI))) (hfI : typeIn K (.ref fI) = some (.type "function"))
    (hq : wpAny (model prog w) (A.under (.builtin "type.__call__" ⟨.ref C :: rest, []⟩))
      (call (.ref fI) (.ref (h.objs.size + 1) :: rest)) (fun r s' => r = .none ∧ Q (.ref (h.objs.size + 1)) s') E ⟨(h.push (tupO rest)).push (excAt C h.objs.size), g, d, t, os⟩)
    (hrest : rest.length ≤ sizeLine) : wpAny (model prog w) A (call (.ref C) rest) Q E ⟨h, g, d, t, os⟩ := by
  have f1 := tc_lookup
  have f2 := tc_bind (.ref C)
  have hT : Shared.TypeIs ⟨h, g, d, t, os⟩ (.ref C) "type" := ⟨_, hC, rfl⟩
  refine wpAny_call (codeAny_of_tree ?_)
  show wpAny _ _ (callAny (.ref C) _) _ _ _
  repeat (any_goals (first
    | assumption
    | with_reducible refine wpAny_loadPart_at hC ?_
    | wp_step))
  refine ⟨rfl, ?_⟩
  refine codeAny_call_builtin_at (Code.quiet_builtin _ (by decide +kernel)) entry_typeCall (wpAny_check_type_call_sub hC ?_)
  exact tcallK X F T hC hi hfI hq hrest
end
section
variable {prog : Program} {w : World} {A : Around} {E : Value → Shared → Prop} {s : Shared} {K : Frag} {x C : Addr} {ox : Obj} {od : Option Obj}
theorem findData {a g : Value} {name : Str} (hc : (clsIn K C).isSome = true) (ha : findIn K (.ref C) name = some (some a)) (hg : specialIn K a "__get__" = some (some g)) (ht : takesIn K a = some true) : findObj K C od name = some (.bind g a) := by
  obtain ⟨cd, hc⟩ := Option.isSome_iff_exists.mp hc
  unfold findObj
  rw [hc, Option.bind_some, ha, Option.bind_some]
  simp [hg, ht]
theorem bgaBind {R : Result → Shared → Prop} {name : Str} {tk : Tok} {a g : Value} (X : K.In s.heap) (I : InstAt s.heap x ox C od)
    (hm0 : mroIn K C (.type "BaseException") = some true) (hf : findObj K C od name = some (.bind g a))
    (h : wpAny (model prog w) A.in1 (call g [a, .ref x, .ref C]) (fun v s' => R (.ok (.ret v)) s') (fun e s' => R (.error e) s') s) :
    codeAny (model prog w) A (.call (.builtin bga) ⟨[.ref x, .str name tk], []⟩) R s := by
  have sub : Looks (model prog w) s.heap (isInstance (.ref x) (.type "BaseException")) true := I.type.andThen (looks_mroIn X hm0)
  have L1 := looks_find (M := model prog w) X I hf
  refine codeAny_call_builtin PySem.F.excAttr_ValueError.ga.plain PySem.F.entry_bexc_ga (@check_slot (model prog w) _ _ s bga "BaseException" "__getattribute__" (.ref x) [.str name tk] [] _ (by decide +kernel) (by decide +kernel) sub (PySem.F.args_bexc_ga _ _) ?_)
  refine wpAny_bind (wpAny_pure (wpAny_bind (wpAny_pure (wpAny_bind (I.type.here (wpAny_bind (L1.here ?_)))))))
  show wpAny _ _ (holding [a] (call g [a, .ref x, .ref C]) >>= ret) _ _ _
  exact wpAny_bind (wpAny_holding (wpAny_mono h (fun v s' z => wpAny_pure z) fun _ _ z => z))
structure ErrI (K : Frag) (C : Addr) : Prop where
  cls : (clsIn K C).isSome = true
  ga : findIn K (.ref C) "__getattribute__" = some (some (.builtin bga))
  hk : findIn K (.ref C) "__getattr__" = some none
  mb : mroIn K C (.type "BaseException") = some true
  mo : mroIn K C (.type "object") = some true
  ca : findIn K (.ref C) "__class__" = some (some (.builtin "object.__class__"))
theorem errClass {Q : Option Value → Shared → Prop} (T : ErrI K C) (hn : specialIn K (.builtin "object.__class__") "__get__" = some (some (.builtin "getset_descriptor.__get__"))) (htk : takesIn K (.builtin "object.__class__") = some true)
    (X : K.In s.heap) (I : InstAt s.heap x ox C od) (h : Q (some (.ref C)) { s with toks := s.toks + 1 }) : wpAny (model prog w) A (getAttr? (.ref x) "__class__") Q E s := by
  have hf : findObj K C od "__class__" = some (.bind (.builtin "getset_descriptor.__get__") (.builtin "object.__class__")) := findData T.cls T.ca hn htk
  have L0 := I.type (M := model prog w)
  have L1 := looks_findIn (M := model prog w) X T.ga
  have L2 := looks_findIn (M := model prog w) X T.hk
  have f3 := PySem.F.excAttr_ValueError.ga.bind (.ref x)
  unfold getAttr? getAttrBy? getAttrBy
  refine wpAny_bind (wpAny_mkText (wpAny_bind (wpAny_attempt (wpAny_holding (wpAny_bind (Looks.here (s := { s with toks := s.toks + 1 }) L0 (wpAny_bind (Looks.here (s := { s with toks := s.toks + 1 }) L1 ?_))))))))
  have hx1 : (onTheHeap (Value.ref C) && Value.builtin bga == Value.builtin "object.__getattribute__") = false := by
    rw [show (Value.builtin bga == Value.builtin "object.__getattribute__") = false from by decide +kernel]
    rfl
  show wpAny _ _ (if (onTheHeap (Value.ref C) && Value.builtin bga == Value.builtin "object.__getattribute__") = true then _ else _) _ _ _
  rw [if_neg (by rw [hx1]; decide)]
  unfold getAttrByItsOwn
  refine wpAny_bind ?_
  show wpAny _ _ (typeLookup (.ref C) "__getattr__") _ _ _
  refine Looks.here (s := { s with toks := s.toks + 1 }) L2 ?_
  refine wpAny_bind (wpAny_attempt (wpAny_holding ?_))
  unfold callGetattribute
  rw [if_neg (by decide)]
  unfold boundAndCalled
  rw [f3]
  refine wpAny_bind (wpAny_pure ?_)
  refine wpAny_call (bgaBind (s := { s with toks := s.toks + 1 }) X I T.mb hf ?_)
  refine wpAny_call (class_get (s := { s with toks := s.toks + 1 }) (ox := ox) (od := od) X I T.mo ?_)
  show wpAny _ _ (handedOut (.ref C)) _ _ _
  rw [handedOut_of rfl]
  exact wpAny_pure (wpAny_pure h)
theorem kitErr (T : ErrI K C) (hn : specialIn K (.builtin "object.__class__") "__get__" = some (some (.builtin "getset_descriptor.__get__"))) (htk : takesIn K (.builtin "object.__class__") = some true) :
    KitX K (.ref x) (.ref C) (fun h => ∃ ox od, InstAt h x ox C od) where
  ty := fun _ _ _ ⟨_, _, I⟩ => I.type
  it := fun _ _ X _ => by
    obtain ⟨cdD, hcD⟩ := Option.isSome_iff_exists.mp T.cls
    unfold clsIn at hcD
    split at hcD
    · rename_i c' d' cd' sl' ho
      intro A' Q' E' s' k q
      unfold isType loadHead
      exact wpAny_bind (wpAny_loadPart (k _ _ (X _ _ ho)) (wpAny_pure q))
    · cases hcD
  ne := fun h tp dd its n sl X htp => by
    obtain ⟨cdD, hcD⟩ := Option.isSome_iff_exists.mp T.cls
    refine Bool.eq_false_iff.mpr fun q => ?_
    have e : C = tp := Value.ref.inj (beq_iff_eq.mp q)
    subst e
    unfold clsIn at hcD
    split at hcD
    · rename_i c' d' cd' sl' ho
      have z := (X _ _ ho).symm.trans htp
      cases z
    · cases hcD
  ca := fun X ⟨_, _, I⟩ k => errClass T hn htk X I k
end
end My
set_option Elab.async false
set_option linter.all false
set_option maxRecDepth 100000
set_option maxHeartbeats 4000000
namespace My
open PySem PySem.W L2
abbrev bmV : List Value := [.type "ValueError", .type "Exception", .type "BaseException", .type "object"]
abbrev errAt (C : Addr) (d : Option Addr) (t : Addr) : Obj := { cls := .ref C, dict := d, data := .fields #[.ref t, .none, .none, .none, .bool false, .none] }
def ErrO (x C : Addr) (d : Option Addr) : HO := .ext fun h => ∃ t, h.get? x = some (errAt C d t)
theorem errO_ok {P : Program} {w : World} {H : Hp} {h : Heap} {x C : Addr} {d : Option Addr} {t : Addr} (e : h.get? x = some (errAt C d t)) : ObjOk P w H h x (ErrO x C d) :=
  ⟨⟨t, e⟩, ⟨_, e⟩, fun _ _ ⟨t', e'⟩ k => ⟨t', k _ e'⟩⟩
theorem errO_at {P : Program} {w : World} {H : Hp} {h : Heap} {x C : Addr} {d : Option Addr} (ok : HOk P w H h) (e : H x = some (ErrO x C d)) : ∃ t, h.get? x = some (errAt C d t) := (ok x _ e).1
theorem upd_id {H : Hp} {a : Addr} {o : HO} (h : H a = some o) : upd H a o = H := by
  funext b
  unfold upd
  split
  · rename_i e; rw [e, h]
  · rfl
structure BaseC (K : Frag) (D : Addr) : Prop where
  cls : ∃ nm q N bs sn sub ab col dd k0 k1 k2 k3 k5, K.lookup D = some (excClassObj nm q D N bs bmV true sn sub ab col dd k0 k1 k2 k3 k5 "ValueError.__new__") ∧
     ∃ o es ep, K.lookup N = some o ∧ o.data = .dict es ep ∧ StrKeys es ∧ nsFind es "__init__" = none
  ga : specialIn K (.ref D) "__getattribute__" = some (some (.builtin "type.__getattribute__"))
  reads : readsIn K D (.type "type") = true
  ini : findCls K (.ref D) (.type "type") "__init__" = some (.val (.builtin "ValueError.__init__"))
  fi : findIn K (.ref D) "__init__" = some (some (.builtin "ValueError.__init__"))
  kp : keepIn K (.ref D) = true
  it : ErrI K D
theorem BaseC.tail {K : Frag} {D : Addr} (B : BaseC K D) {h : Heap} (X : K.In h) : OwnTail h bmV (.ref D :: bmV) := by
  obtain ⟨nm, q, N, bs, sn, sub, ab, col, dd, k0, k1, k2, k3, k5, l, o, es, ep, lN, hd, hs, hn⟩ := B.cls
  exact .own (X _ _ l) ⟨o, es, ep, X _ _ lN, hd, hs, fun _ => rfl⟩ hn .base
structure ErrC (K : Frag) (D : Addr) (nm : Str) (C f : Addr) : Prop where
  cls : ∃ q N bs sn sub ab col dd k0 k1 k2 k3 k5, K.lookup C = some (excClassObj nm q C N bs (.ref D :: bmV) true sn sub ab col dd k0 k1 k2 k3 k5 "ValueError.__new__")
  init : findIn K (.ref C) "__init__" = some (some (.ref f))
  fn : typeIn K (.ref f) = some (.type "function")
  kp : keepIn K (.ref C) = true
  sa : findIn K (.ref C) "__setattr__" = some (some (.builtin "object.__setattr__"))
  it : ErrI K C
theorem ErrC.clsIn {K : Frag} {D C f : Addr} {nm : Str} (T : ErrC K D nm C f) : ∃ cd, PySem.W.clsIn K C = some cd ∧ cd.hasDict = true ∧ cd.mro = .ref C :: .ref D :: bmV := by
  obtain ⟨q, N, bs, sn, sub, ab, col, dd, k0, k1, k2, k3, k5, l⟩ := T.cls
  unfold PySem.W.clsIn
  rw [l]
  exact ⟨_, rfl, rfl, rfl⟩
theorem ErrC.refuse {K : Frag} {D C f : Addr} {nm : Str} (T : ErrC K D nm C f) (x : Addr) : ∃ cd, PySem.W.clsIn K C = some cd ∧ cd.hasDict = true ∧ refuseLoop (.ref x) "__setattr__" cd.mro = pure () := by
  obtain ⟨cd, h1, h2, h3⟩ := T.clsIn
  refine ⟨cd, h1, h2, ?_⟩
  rw [h3, refuseLoop_ref, refuseLoop_ref]
  exact PySem.F.store_ValueError.passes _
section
variable {X : Cx} {pins : List (Addr × Obj)} {σ : St} {H : Hp} {s : Shared}
def spErr (C : Addr) (fld : Str) : Sp := fun vs H Q _ => ∃ x v, vs = [.ref x, v] ∧ H x = some (ErrO x C none) ∧ ∀ dx, H dx = none → dx ≠ x → Q .non (upd (upd H dx (.xd [(fld, v)])) x (ErrO x C (some dx)))
def tErr (C : Addr) (fld : Str) (te : TE) : TE := fun σ H Q => te σ H fun v H1 => ∀ x dx, H1 x = none → H1 dx = none → dx ≠ x → Q (.ref x) (upd (upd H1 dx (.xd [(fld, v)])) x (ErrO x C (some dx)))
theorem upd3 {H : Hp} {x dx : Addr} {a b c : HO} (n : dx ≠ x) : upd (upd (upd H x a) dx b) x c = upd (upd H dx b) x c := by
  funext z
  unfold upd
  by_cases h1 : z = x
  · rw [if_pos h1, if_pos h1]
  · rw [if_neg h1, if_neg h1]
    by_cases h2 : z = dx
    · rw [if_pos h2, if_neg h1]
    · rw [if_neg h2, if_neg h1]
theorem make_err {D C f : Addr} {nm fld : Str} {k : Nat} {fd : FuncData} {ps : List Str} {u : Value} {v : V} {Q : VK} (B : BaseC X.K D) (T : ErrC X.K D nm C f) (F : FnOk X.prog X.w X.K X.mg X.base CX0 k f fd ps (spErr C fld)) (hr : Room (k + 1) X.A) (hb : Binds X.K fd ps [])
    (I : Inv X pins σ H s) (r : RelV v u) (h : ∀ x dx, H x = none → H dx = none → dx ≠ x → Q (.ref x) (upd (upd H dx (.xd [(fld, v)])) x (ErrO x C (some dx)))) :
    wpAny (model X.prog X.w) X.A (call (.ref C) [u]) (EP X pins σ Q) X.xe s := by
  obtain ⟨hp, g, dr, tk, os⟩ := s
  obtain ⟨q, N, bs, sn, sub, ab, col, dd, k0, k1, k2, k3, k5, l⟩ := T.cls
  refine callK (C := C) I.kIn PySem.F.excBase_ValueError (B.tail I.kIn) (I.kIn _ _ l) T.init T.fn ?_ (by rw [List.length_cons, List.length_nil, sizeLine_eq]; omega)
  have f0 : H hp.objs.size = none := I.fresh
  have I1 : Inv X pins σ H ⟨hp.push (tupO [u]), g, dr, tk, os⟩ := I.kept (h' := hp.push (tupO [u])) (t' := tk) fun b o e => Heap.get?_push_of_some _ e
  have sz : (hp.push (tupO [u])).objs.size = hp.objs.size + 1 := Heap.size_push _ _
  have fx : H (hp.objs.size + 1) = none := by rw [← sz]; exact I1.fresh
  have I2 : Inv X pins σ (upd H (hp.objs.size + 1) (ErrO (hp.objs.size + 1) C none)) ⟨(hp.push (tupO [u])).push (excAt C hp.objs.size), g, dr, tk, os⟩ :=
    I1.laid (h' := (hp.push (tupO [u])).push (excAt C hp.objs.size)) (t' := tk) (a := hp.objs.size + 1) (fun b o e => Heap.get?_push_of_some _ e) (Nat.le_of_eq sz)
      (errO_ok (t := hp.objs.size) (Heap.get?_push_at sz.symm rfl))
  generalize (⟨(hp.push (tupO [u])).push (excAt C hp.objs.size), g, dr, tk, os⟩ : Shared) = s2 at I2 ⊢
  generalize hp.objs.size + 1 = x at fx I2 ⊢
  have r2 : Vals [V.ref x, v] [Value.ref x, u] := .cons rfl (.cons r .nil)
  have hsp : spErr C fld [V.ref x, v] (upd H x (ErrO x C none)) (fun y H2 => y = .non ∧ Q (.ref x) H2) E0 :=
    ⟨x, v, rfl, upd_same, fun dx hd nd => ⟨rfl, by
      rw [upd3 nd]
      rw [upd_ne nd] at hd
      exact h x dx fx hd nd⟩⟩
  have hl : ([Value.ref x, u] ++ [] : List Value).length = ps.length := by
    rw [List.append_nil, ← r2.length]
    exact F.len _ _ _ _ hsp
  have hbd := hb s2 [Value.ref x, u] I2.kIn hl
  rw [List.append_nil] at hbd
  refine wpAny_call (codeAny_mono (F.run _ X.stack s2 _ ⟨[Value.ref x, u], []⟩ [Value.ref x, u] _ _ E0 (hr.make C [u] []) (I2.env0.make C [u] []) hbd r2 hsp) fun r s' hq' => ?_)
  cases r with
  | error e => exact False.elim hq'
  | ok fl =>
    cases fl with
    | ret u' =>
      obtain ⟨y, H', I3, ry, ey, q3⟩ := I2.after hq'
      subst ey
      exact ⟨ry, V.ref x, H', I3, rfl, q3⟩
    | next => exact False.elim hq'
    | brk => exact False.elim hq'
    | cont => exact False.elim hq'
end
end My
set_option Elab.async false
set_option linter.all false
set_option maxRecDepth 100000
set_option maxHeartbeats 1000000
namespace My
open PySem PySem.W L2
def Head (h : Heap) (e : Addr) (vs : Array Value) : Prop := vs[1]? = some .none ∨ ∃ T oT ts, vs[1]? = some (.ref T) ∧ T ≠ e ∧ h.get? T = some oT ∧ oT.data = .fields ts ∧ ts[3]? = some .none
structure LeftX (fr : List Addr) (e T : Addr) (oe : Obj) (h h' : Heap) (r : Value) : Prop where
  keep : ∀ b o, b ≠ e → b ∉ fr → h.get? b = some o → h'.get? b = some o
  slot : ∀ b o, b ≠ e → h.get? b = some o → ∃ sl, h'.get? b = some { o with slots := sl }
  new : h.objs.size ≤ T
  exc : h'.get? e = some (oe.mapFields (fun x => x.setIfInBounds 1 (.ref T)))
  trc : ∃ oT ts, h'.get? T = some oT ∧ oT.data = .fields ts ∧ ts[3]? = some r ∧ T ≠ e
theorem set_same {vs : Array Value} {i : Nat} {v : Value} (h : vs[i]? = some v) : vs.setIfInBounds i v = vs := by
  obtain ⟨hi, e⟩ := Array.getElem?_eq_some_iff.mp h
  apply Array.ext
  · simp
  · intro j h1 h2
    simp only [Array.size_setIfInBounds] at h1
    rw [Array.getElem_setIfInBounds h1]
    split
    · rename_i z; subst z; exact e.symm
    · rfl
theorem mapF {o : Obj} {vs : Array Value} (hd : o.data = .fields vs) (f : Array Value → Array Value) : o.mapFields f = { o with data := .fields (f vs) } := by
  obtain ⟨c, d, dt, sl⟩ := o
  have e : dt = .fields vs := hd
  subst e
  rfl
theorem wp_newFields {M : Model} {A : Around} {E : Value → Shared → Prop} {s : Shared} {c : String} {vs : List Value} {Q : Value → Shared → Prop} (hl : vs.length ≤ sizeLine + 2)
    (q : Q (.ref s.heap.objs.size) { s with heap := s.heap.push { cls := .type c, data := .fields vs.toArray } }) : wpAny M A (newFields c vs) Q E s := by
  unfold newFields newObj
  refine wpAny_ite_false (decide_eq_false (by rw [List.size_toArray]; omega)) ?_
  unfold newObjAsIs
  exact wpAny_bind (wpAny_alloc (wpAny_pure q))
theorem place_len {pl : List Value} (h : IsPlace pl) : pl.length ≤ 6 := by
  rcases h with rfl | ⟨a, b, c, d, c9, b10, _, rfl⟩
  · decide
  · exact Nat.le_refl _
section
variable {M : Model} {A : Around} {E : Value → Shared → Prop} {s : Shared} {base : Heap} {env : Env} {outer : List Env} {L e : Addr} {oe : Obj} {vs : Array Value} {Q : Unit → Shared → Prop}
theorem note_jp {head : Value} {hn : Bool} (hA : A.frames = some (env :: outer)) (hF : s.heap.FunFrames base (env :: outer)) (hL : env.frame = some L) (he : s.heap.get? e = some oe) (hd : oe.data = .fields vs) (h1 : 1 < vs.size)
    (q : ∀ h' T, LeftX (frs (env :: outer)) e T oe s.heap h' (rawInt ↑L) → Q () { s with heap := h' }) :
    wpAny M A (do
      let a ← frameOf env
      let pl ← entryPlaceOf L hn
      let b ← EntryCells.newEntry head a .none (rawInt ↑L) .none pl
      setField (.ref e) 1 b) Q E s := by
  have nfr : e ∉ frs (env :: outer) := fun z => by
    obtain ⟨_, o, ho, hn⟩ := hF.mem z
    rw [he] at ho; cases ho
    exact hn vs hd
  refine wpAny_bind (wpAny_frameOf_fun hA hF hL fun h1' so => ?_)
  refine wpAny_bind (wpAny_entryPlaceOf fun pl hpl => ?_)
  refine wpAny_bind ?_
  unfold EntryCells.newEntry
  refine wp_newFields ?_ ?_
  · have := place_len hpl
    have b : 100 ≤ sizeLine := by decide
    rw [List.length_append]
    split
    · rw [List.length_replicate]; show 5 + 6 ≤ _; omega
    · show 5 + pl.length ≤ _; omega
  have e1 : h1'.get? e = some oe := by rw [so.2.1 e nfr]; exact he
  have lt := Heap.lt_size e1
  generalize hob : ({ cls := .type "traceback", data := .fields ([head, Value.ref L, .none, rawInt ↑L, .none] ++ if pl.isEmpty = true then List.replicate 6 Value.none else pl).toArray } : Obj) = ob
  have e2 : (h1'.push ob).get? e = some oe := Heap.get?_push_of_some _ e1
  refine wpAny_setField e2 hd h1 ?_
  refine q _ h1'.objs.size ⟨fun b o nb nf hb => ?_, fun b o nb hb => ?_, Nat.le_of_eq so.1.symm, ?_, ?_⟩
  · rw [Heap.get?_update_ne _ _ _ _ nb]
    exact Heap.get?_push_of_some _ (by rw [so.2.1 b nf]; exact hb)
  · obtain ⟨sl, z⟩ := so.2.2 b o hb
    exact ⟨sl, by rw [Heap.get?_update_ne _ _ _ _ nb]; exact Heap.get?_push_of_some _ z⟩
  · exact Heap.get?_update_self _ e2 (by rw [mapF hd]; rfl)
  · have nT : h1'.objs.size ≠ e := Ne.symm (Nat.ne_of_lt lt)
    refine ⟨ob, _, ?_, by rw [← hob], ?_, nT⟩
    · rw [Heap.get?_update_ne _ _ _ _ nT]
      exact Heap.get?_push_at rfl (by rw [← hob]; rfl)
    · rfl
theorem note_exact (hA : A.frames = some (env :: outer)) (hF : s.heap.FunFrames base (env :: outer)) (hL : env.frame = some L) (he : s.heap.get? e = some oe) (hd : oe.data = .fields vs) (hv : Head s.heap e vs)
    (q : ∀ h' T, LeftX (frs (env :: outer)) e T oe s.heap h' (rawInt ↑L) → Q () { s with heap := h' }) : wpAny M A (noteFrame (.ref e) env) Q E s := by
  unfold noteFrame
  rw [hL]
  rcases hv with hv | ⟨T, oT, ts, hv, nT, hT, hTd, h3⟩
  · have h1 : 1 < vs.size := (Array.getElem?_eq_some_iff.mp hv).1
    refine wpAny_bind (wpAny_field he hd hv ?_)
    refine wpAny_ite_false rfl ?_
    exact note_jp hA hF hL he hd h1 q
  · have h1 : 1 < vs.size := (Array.getElem?_eq_some_iff.mp hv).1
    have h3' : 3 < ts.size := (Array.getElem?_eq_some_iff.mp h3).1
    refine wpAny_bind (wpAny_field he hd hv ?_)
    refine wpAny_ite_true rfl ?_
    refine wpAny_bind (wpAny_field hT hTd h3 ?_)
    refine wpAny_ite_false rfl ?_
    refine wpAny_bind (wpAny_setField hT hTd h3' ?_)
    have g : ∀ b, (s.heap.update T (Obj.mapFields fun x => x.setIfInBounds 3 Value.none)).get? b = s.heap.get? b := fun b => by
      by_cases z : b = T
      · subst z
        rw [Heap.get?_update_self _ hT (by rw [mapF hTd]; rfl), hT, mapF hTd, set_same h3, ← hTd]
      · exact Heap.get?_update_ne _ _ _ _ z
    have sz : (s.heap.update T (Obj.mapFields fun x => x.setIfInBounds 3 Value.none)).objs.size = s.heap.objs.size := Heap.size_update _ _ _
    generalize s.heap.update T (Obj.mapFields fun x => x.setIfInBounds 3 Value.none) = h0 at g sz
    have hF0 : h0.FunFrames base (env :: outer) := Heap.FunFrames.of_keeps (fun b o hb _ => ⟨o, by rw [g]; exact hb, rfl⟩) hF
    refine note_jp (s := { s with heap := h0 }) hA hF0 hL (by show h0.get? e = _; rw [g]; exact he) hd h1 fun h' T' x => ?_
    exact q h' T' ⟨fun b o nb nf hb => x.keep b o nb nf (by show h0.get? b = _; rw [g]; exact hb), fun b o nb hb => x.slot b o nb (by show h0.get? b = _; rw [g]; exact hb), by rw [← sz]; exact x.new, x.exc, x.trc⟩
theorem LeftX.flight {fr : List Addr} {T : Addr} {h h' : Heap} {r : Value} (x : LeftX fr e T oe h h' r) (hd : oe.data = .fields vs) (h1 : 1 < vs.size) (s' : Shared) (es : s'.heap = h')
    (q : ∀ h2, LeftX fr e T oe h h2 .none → Q () { s' with heap := h2 }) : wpAny M A (setFlight (.ref e) none) Q E s' := by
  subst es
  obtain ⟨oT, ts, hT, hTd, h3, nT⟩ := x.trc
  have h3' : 3 < ts.size := (Array.getElem?_eq_some_iff.mp h3).1
  have e1 : (oe.mapFields (fun x => x.setIfInBounds 1 (.ref T))).data = .fields (vs.setIfInBounds 1 (.ref T)) := Obj.data_mapFields hd _
  have e2 : (vs.setIfInBounds 1 (Value.ref T))[1]? = some (.ref T) := by simp [h1]
  refine wpAny_setFlight_none x.exc e1 e2 hT hTd h3' (q _ ⟨fun b o nb nf hb => ?_, fun b o nb hb => ?_, x.new, ?_, ?_⟩)
  · have z := x.keep b o nb nf hb
    rw [Heap.get?_update_ne _ _ _ _ (fun w => ?_)]
    · exact z
    · rw [w] at hb
      exact absurd (Nat.lt_of_lt_of_le (Heap.lt_size hb) x.new) (Nat.lt_irrefl _)
  · obtain ⟨sl, z⟩ := x.slot b o nb hb
    refine ⟨sl, ?_⟩
    rw [Heap.get?_update_ne _ _ _ _ (fun w => ?_)]
    · exact z
    · rw [w] at hb
      exact absurd (Nat.lt_of_lt_of_le (Heap.lt_size hb) x.new) (Nat.lt_irrefl _)
  · rw [Heap.get?_update_ne _ _ _ _ nT.symm]
    exact x.exc
  · refine ⟨_, _, Heap.get?_update_self _ hT (by rw [mapF hTd]; rfl), Obj.data_mapFields hTd _, ?_, nT⟩
    simp [h3']
theorem leave_exact (hA : A.frames = some (env :: outer)) (hF : s.heap.FunFrames base (env :: outer)) (hL : env.frame = some L) (he : s.heap.get? e = some oe) (hd : oe.data = .fields vs) (hv : Head s.heap e vs)
    (q : ∀ h' T, LeftX (frs (env :: outer)) e T oe s.heap h' .none → Q () { s with heap := h' }) : wpAny M A (leaving env (.ref e)) Q E s := by
  have h1 : 1 < vs.size := by
    rcases hv with hv | ⟨T, oT, ts, hv, _⟩
    · exact (Array.getElem?_eq_some_iff.mp hv).1
    · exact (Array.getElem?_eq_some_iff.mp hv).1
  unfold leaving
  exact wpAny_bind (note_exact hA hF hL he hd hv fun h' T x => x.flight hd h1 _ rfl fun h2 x2 => q h2 T x2)
end
end My
set_option Elab.async false
set_option linter.all false
set_option maxRecDepth 100000
set_option maxHeartbeats 4000000
namespace My
open PySem PySem.W L2
def one (P : V → Hp → Prop) (vs : List V) (H : Hp) : Prop := match vs with
  | [v] => P v H
  | _ => False
theorem one_of {P : V → Hp → Prop} {vs : List V} {H : Hp} (h : one P vs H) : ∃ v, vs = [v] ∧ P v H := by
  cases vs with
  | nil => exact h.elim
  | cons v r =>
    cases r with
    | nil => exact ⟨v, rfl, h⟩
    | cons _ _ => exact h.elim
def two (P : V → V → Hp → Prop) (vs : List V) (H : Hp) : Prop := match vs with
  | [v, u] => P v u H
  | _ => False
theorem two_of {P : V → V → Hp → Prop} {vs : List V} {H : Hp} (h : two P vs H) : ∃ v u, vs = [v, u] ∧ P v u H := by
  match vs, h with
  | [v, u], h => exact ⟨v, u, rfl, h⟩
section
variable {X : Cx} {pins : List (Addr × Obj)} {σ : St} {H : Hp} {s : Shared}
theorem pe_err {D C f : Addr} {nm fld x : Str} {k : Nat} {fd : FuncData} {ps : List Str} {e : Expr} {te : TE} {p pos : Pos} (B : BaseC X.K D) (T : ErrC X.K D nm C f) (F : FnOk X.prog X.w X.K X.mg X.base CX0 k f fd ps (spErr C fld)) (hr : Room (k + 1) X.A) (hb : Binds X.K fd ps [])
    (hg : Gl X x) (hm : X.mg x = some (.ref C)) (ha : PE X e te) (hdb : (x == ("__debug__" : Str)) = false := by decide) (he : starEach [e] X.env = (false, eval e X.env) :: starEach [] X.env := by rfl) (hpl : (backTo pos (starEach [] X.env)).any (·.1) = false := by rfl) :
    PE X (.Call (.Name x p) [e] [] pos) (tErr C fld te) := by
  intro pins s σ H Q I h
  refine wpAny_Call_Name_kw (ld_glob I hg hm ?_ hdb)
  have pa : PA X [e] (tCons te tNil) := pa_cons ha pa_nil he
  have h' : tCons te tNil σ H (one fun v H1 => ∀ x dx, H1 x = none → H1 dx = none → dx ≠ x → Q (.ref x) (upd (upd H1 dx (.xd [(fld, v)])) x (ErrO x C (some dx)))) := h
  refine PySem.W.callWith_K (h₀ := X.base) I.ok.mod.kin T.kp (thn (pa pos pins s σ H _ I h') fun us s1 ⟨vs, H1, I1, r, q⟩ => ⟨I1.kIn, ?_⟩) he hpl
  obtain ⟨v, rfl, q⟩ := one_of q
  obtain ⟨u, rfl, ru⟩ := vals1 r
  exact make_err B T F hr hb I1 ru q
def tBI (ts tt : TE) (C : Addr) : TE := fun σ H Q => ts σ H fun x H1 => tt σ H1 fun v H2 => ∃ a, x = .ref a ∧ H2 a = some (ErrO a C none) ∧ Q .non H2
theorem pe_baseInit {D C f : Addr} {nm x : Str} {o e : Expr} {ts tt : TE} {p apos pos : Pos} {pl : Sem Bool} (B : BaseC X.K D) (T : ErrC X.K D nm C f) (hg : Gl X x) (hm : X.mg x = some (.ref D)) (hs : PE X o ts) (ht : PE X e tt) (hdb : (x == ("__debug__" : Str)) = false := by decide)
    (hst : starEach [o, e] X.env = (false, eval o X.env) :: starEach [e] X.env := by rfl) (hst2 : starEach [e] X.env = (false, eval e X.env) :: starEach [] X.env := by rfl) (hpl : (backTo pos (starEach [e] X.env)).any (·.1) = false := by rfl)
    (htr : eval (.Call (.Attribute (.Name x p) "__init__" apos) [o, e] [] pos) X.env = (do
      let ov ← eval (.Name x p) X.env
      standAt apos.atName
      let (f, first) ← holding [ov] (getMethod ov "__init__" pl)
      callWith pos f first (backTo pos (starEach [o, e] X.env)) (backToKw pos (keywordEach [] X.env))) := by rfl) :
    PE X (.Call (.Attribute (.Name x p) "__init__" apos) [o, e] [] pos) (tBI ts tt C) := by
  intro pins s σ H Q I h
  refine PySem.W.methodCall_KW (pl := pl) (ld_glob I hg hm ?_ hdb) htr
  refine method_cls I.kIn B.ga (cls_value I.kIn B.reads B.ini rfl ?_)
  have I0 : Inv X pins σ H { s with toks := s.toks + 1 } := I.tok _
  have pa : PA X [o, e] (tCons ts (tCons tt tNil)) := pa_cons hs (pa_cons ht pa_nil hst2) hst
  have h' : tCons ts (tCons tt tNil) σ H (two fun x v H2 => ∃ a, x = .ref a ∧ H2 a = some (ErrO a C none) ∧ Q .non H2) := h
  refine PyProof.Rows.callWith_builtin1 (thn (pa pos pins _ σ H _ I0 h') fun us s1 ⟨vs, H1, I1, r, q⟩ => ?_) hst hpl
  obtain ⟨_, v, rfl, a, rfl, ha, q⟩ := two_of q
  obtain ⟨u, u', rfl, ru, ru'⟩ := vals2 r
  cases (show u = Value.ref a from ru)
  obtain ⟨t0, hx⟩ := errO_at I1.hok ha
  obtain ⟨q', N, bs, sn, sub, ab, col, dd, k0, k1, k2, k3, k5, l⟩ := T.cls
  obtain ⟨hp, g, dr, tk, os⟩ := s1
  refine wpAny_call (viCall (C := C) PySem.F.excBase_ValueError (B.tail I1.kIn) (I1.kIn _ _ l) hx fun h' hx' hk => ?_)
  have I2 : Inv X pins σ (upd H1 a (ErrO a C none)) ⟨h', g, dr, tk, os⟩ := I1.write (h' := h') (t' := tk) (x := a) (e := a) (by rw [ha]; exact True.intro) (.inl rfl) (fun b o hb e => hk b o hb e) ⟨_, hx'⟩ (errO_ok hx')
  rw [upd_id ha] at I2
  exact ⟨.non, H1, I2, rfl, q⟩
def sErr (K : Frag) (C : Addr) (ta tv : TE) (f : Str) : TS := fun D σ H => tv σ H fun y H1 => ta σ H1 fun x H2 => ∃ a, x = .ref a ∧ H2 a = some (ErrO a C none) ∧ takerIn K C f = some none ∧ ∀ dx, H2 dx = none → dx ≠ a → D.nx σ (upd (upd H2 dx (.xd [(f, y)])) a (ErrO a C (some dx)))
theorem ps_err {D C fI : Addr} {nm f : Str} {o value : Expr} {ta tv : TE} {pos pos' : Pos} (T : ErrC X.K D nm C fI) (ha : PE X o ta) (hv : PE X value tv) (hs : swapsWith value (some (.Attribute o f pos')) pos.line X.env = pure false) :
    PS X (.Assign [.Attribute o f pos'] value pos) (sErr X.K C ta tv f) := by
  intro pins s σ H D' I h
  refine plainObj_wpAny_Assign_Attribute (thn (hv pins s σ H _ I h) fun u s1 ⟨y, H1, I1, ry, q⟩ => thn (ha pins s1 σ H1 _ I1 q) fun ov s2 ⟨x, H2, I2, rx, a, ex, ea, tk, q2⟩ => ?_) hs
  subst ex
  obtain rfl : ov = Value.ref a := rx
  obtain ⟨t0, hx⟩ := errO_at I2.hok ea
  obtain ⟨cd, hc, hd, hp⟩ := T.refuse a
  refine setExc I2.kIn hx T.sa hc hd hp T.it.mo tk fun h' tk' hx' hn' hk => ?_
  have fr : H2 s2.heap.objs.size = none := I2.fresh
  have nz : s2.heap.objs.size ≠ a := fun z => by rw [← z, fr] at ea; cases ea
  obtain ⟨oD, es, ep, hoD, rD⟩ := id hn'
  have nf : oD.isFreed = false := Obj.isFreed_of_dict rD.1
  have I3 : Inv X pins σ (upd H2 s2.heap.objs.size (.xd [(f, y)])) { s2 with heap := s2.heap.push oD, toks := s2.toks } := by
    refine I2.laid (h' := s2.heap.push oD) (t' := s2.toks) (a := s2.heap.objs.size) (fun b o e => Heap.get?_push_of_some _ e) (Nat.le_refl _) ⟨_, ⟨oD, es, ep, Heap.get?_push_at rfl nf, rD⟩, fun g => ?_⟩
    by_cases e : g = f
    · subst e
      rw [if_pos rfl, List.lookup_cons_self]
      exact ry
    · rw [if_neg e, List.lookup_cons, beq_eq_false_iff_ne.mpr e]
      exact True.intro
  have ea3 : upd H2 s2.heap.objs.size (.xd [(f, y)]) a = some (ErrO a C none) := by rw [upd_ne nz.symm]; exact ea
  have I4 : Inv X pins σ (upd (upd H2 s2.heap.objs.size (.xd [(f, y)])) a (ErrO a C (some s2.heap.objs.size))) { s2 with heap := h', toks := tk' } := by
    refine I3.write (h' := h') (t' := tk') (x := a) (e := a) (by rw [ea3]; exact True.intro) (.inl rfl) (fun b o hb e => ?_) ⟨_, hx'⟩ (errO_ok (t := t0) hx')
    by_cases z : b = s2.heap.objs.size
    · subst z
      have e' : (s2.heap.push oD).get? s2.heap.objs.size = some o := e
      rw [Heap.get?_push_at rfl nf] at e'
      cases e'
      exact hoD
    · have e' : (s2.heap.push oD).get? b = some o := e
      exact hk b o hb (by rw [← Heap.get?_push_ne _ _ oD z]; exact e')
  exact ⟨σ, _, I4, q2 _ fr nz⟩
end
end My
set_option Elab.async false
set_option linter.all false
set_option maxRecDepth 100000
set_option maxHeartbeats 4000000
namespace My
open PySem PySem.W L2
section
variable {prog : Program} {w : World} {A : Around} {E : Value → Shared → Prop} {h : Heap} {g : Array GenState}
variable {d : Drawn} {t : Nat} {os : OsState} {nm q : Str} {C N : Addr} {bs bm bmB : List Value} {hdct ab : Bool}
variable {sn : List Str} {sub : List Value} {col : Option Bool} {dd : Option Addr}
variable {k0 k1 k2 k3 k5 : Option Value} {B newId initId : String} {K : Frag}
end
section
variable {X : Cx} {pins : List (Addr × Obj)} {σ : St} {H : Hp} {s : Shared}
theorem err_inst {P : Program} {w : World} {H : Hp} {h : Heap} {a C dx : Addr} {fs : List (Str × V)} (ok : HOk P w H h) (ea : H a = some (ErrO a C (some dx))) (ed : H dx = some (.xd fs)) :
    ∃ (ox od : Obj), InstAt h a ox C (some od) ∧ ∃ mA : Str → Option Value, (∀ f, RelO (fs.lookup f) (mA f)) ∧ ∀ name, lookIn name od = some (mA name) := by
  obtain ⟨t, hx⟩ := errO_at ok ea
  obtain ⟨mA, hn, hr⟩ := (show ObjOk P w H h dx (.xd fs) from ok dx _ ed)
  obtain ⟨od, hod, hl⟩ := lookIn_ns hn
  exact ⟨_, od, ⟨hx, rfl, rfl, hod⟩, mA, hr, hl⟩
structure IsT (K : Frag) : Prop where
  gt : specialIn K (.builtin "object.__class__") "__get__" = some (some (.builtin "getset_descriptor.__get__"))
  tk : takesIn K (.builtin "object.__class__") = some true
def ErrAt (H : Hp) (a C : Addr) : Prop := H a = some (ErrO a C none) ∨ ∃ dx fs, H a = some (ErrO a C (some dx)) ∧ H dx = some (.xd fs)
theorem ErrAt.inst {P : Program} {w : World} {H : Hp} {h : Heap} {a C : Addr} (E : ErrAt H a C) (ok : HOk P w H h) : ∃ ox od, InstAt h a ox C od := by
  rcases E with e | ⟨dx, fs, ea, ed⟩
  · obtain ⟨t, hx⟩ := errO_at ok e
    exact ⟨_, none, ⟨hx, rfl, rfl, True.intro⟩⟩
  · obtain ⟨ox, od, J, _⟩ := err_inst ok ea ed
    exact ⟨ox, some od, J⟩
def isV : V → Value
  | .ref a => .ref a
  | .ty n => .type n
  | _ => .none
end
end My
set_option Elab.async false
set_option linter.all false
set_option maxRecDepth 100000
set_option maxHeartbeats 1000000
namespace My
open PySem PySem.W L2
open PyProof.Rows (AllBare)
abbrev errW (C : Addr) (d : Option Addr) (t : Addr) (v : Value) : Obj := { cls := .ref C, dict := d, data := .fields #[.ref t, v, .none, .none, .bool false, .none] }
def ErrT (x C : Addr) (d : Option Addr) : HO := .ext fun h => ∃ t v, h.get? x = some (errW C d t v)
theorem errT_ok {P : Program} {w : World} {H : Hp} {h : Heap} {x C : Addr} {d : Option Addr} {t : Addr} {v : Value} (e : h.get? x = some (errW C d t v)) : ObjOk P w H h x (ErrT x C d) :=
  ⟨⟨t, v, e⟩, ⟨_, e⟩, fun _ _ ⟨t', v', e'⟩ k => ⟨t', v', k _ e'⟩⟩
theorem errT_at {P : Program} {w : World} {H : Hp} {h : Heap} {x C : Addr} {d : Option Addr} (ok : HOk P w H h) (e : H x = some (ErrT x C d)) : ∃ t v, h.get? x = some (errW C d t v) := (ok x _ e).1
def Fly (n : Nat) (H : Hp) (h : Heap) (x C : Addr) (d : Option Addr) : Prop := ∃ t T oT ts, h.get? x = some (errW C d t (.ref T)) ∧ T ≠ x ∧ n ≤ T ∧ H T = none ∧ h.get? T = some oT ∧ oT.data = .fields ts ∧ ts[3]? = some Value.none
def CXE (P : Program) (w : World) : CXT := fun outer H s E e s' => ∃ x C dx fs H', e = .ref x ∧ s'.os = s.os ∧ AllBare s'.gens ∧ Un (frs outer) [] H H' s.heap s'.heap ∧ HOk P w H' s'.heap ∧ H' x = some (ErrT x C (some dx)) ∧ H' dx = some (.xd fs) ∧ Fly s.heap.objs.size H' s'.heap x C (some dx) ∧ E (.ref C) (some x) H'
section
variable {X : Cx} {pins : List (Addr × Obj)} {σ : St} {H : Hp} {s : Shared}
theorem Inv.left {x C : Addr} {d : Option Addr} {t T : Addr} {v r : Value} {h' : Heap} {o : HO} (I : Inv X pins σ H s) (hS : X.stack = X.env :: X.outer) (hx : H x = some o) (ho : (∃ φ, o = .ext φ)) (he : s.heap.get? x = some (errW C d t v))
    (l : LeftX (frs (X.env :: X.outer)) x T (errW C d t v) s.heap h' r) : Inv X pins σ (upd H x (ErrT x C d)) { s with heap := h' } := by
  obtain ⟨φ, rfl⟩ := ho
  have nx : ∀ b u, H b = some u → (∀ φ, u ≠ .ext φ) → b ≠ x := fun b u e n z => by
    subst z
    rw [hx] at e
    exact n φ (Option.some.inj e).symm
  have fr0 : ∀ b ∈ frs (X.env :: X.outer), H b = none := fun b hb => I.stkFree b (by rw [hS]; exact hb)
  have nfr : ∀ b u, H b = some u → b ∉ frs (X.env :: X.outer) := fun b u e z => by rw [fr0 b z] at e; cases e
  have exc : h'.get? x = some (errW C d t (.ref T)) := l.exc
  have sub : ∀ b, b ∈ frs (X.env :: X.outer) → b = X.env.locals ∨ b ∈ X.fs := fun b hb => List.mem_cons.mp (I.stkSub b (by rw [hS]; exact hb))
  refine I.step (g' := s.gens) (d' := s.drawn) (t' := s.toks) (ch := []) (fun _ z => nomatch z) (fun b o hL hf _ e n => ?_) (fun b o hL hf _ e n => ?_) (fun b o _ e n => ?_) (fun b o _ e => ?_) (fun b xs e => ?_) (fun b o u e => ?_) (fun b ps e => ⟨#[], ?_⟩) (fun e => ?_) (fun m hm => ?_) (fun b u e => ?_) I.bare
  · refine l.keep b o (fun z => by rw [z, hx] at n; cases n) (fun z => ?_) e
    rcases sub b z with q | q
    · exact hL q
    · exact hf q
  · exact l.slot b o (fun z => by rw [z, hx] at n; cases n) e
  · rw [upd_ne (fun z => by rw [z, hx] at n; cases n)]; exact n
  · by_cases z : b = x
    · subst z; exact ⟨_, exc⟩
    · obtain ⟨sl, q⟩ := l.slot b o z e
      exact ⟨_, q⟩
  · rw [upd_ne (nx b _ e fun _ => by intro z; cases z)]; exact e
  · rw [upd_ne (nx b _ e fun _ => by intro z; cases z)]; exact e
  · rw [upd_ne (nx b _ e fun _ => by intro z; cases z), e]; simp
  · rw [upd_ne (fun z => by rw [z, hx] at e; cases e)]; exact e
  · obtain ⟨o, es, ep, ho, r⟩ := hm
    obtain ⟨sl, q⟩ := l.slot _ o (fun z => by have := I.free; rw [z, hx] at this; cases this) ho
    exact ⟨_, es, ep, q, r⟩
  · by_cases z : b = x
    · subst z
      rw [upd_same] at e
      cases e
      exact errT_ok exc
    · rw [upd_ne z] at e
      refine (I.hok b u e).stay (fun c o' hc q => ?_) (fun c q => ?_) fun c xs q => ?_
      · rcases hc with rfl | hc
        · exact l.keep c o' z (nfr c u e) q
        · exact l.keep c o' (nx c _ hc fun _ => by intro w; cases w) (nfr c _ hc) q
      · rw [upd_ne (nx c _ q fun _ => by intro w; cases w)]; exact q
      · rw [upd_ne (nx c _ q fun _ => by intro w; cases w)]; exact q
end
section
variable {P : Program} {w : World} {K : Frag} {mg : Str → Option Value} {base : Heap} {N : List Str} {qual : Str} {scope : Scope} {f : Addr} {cd : Value} {A : Around} {outer : List Env} {s0 : Shared} {H0 : Hp} {E : XK} {pins : List (Addr × Obj)} {σ : St} {H : Hp} {s : Shared}
theorem xe_of {x C dx : Addr} {t : Addr} {v : Value} {o : HO} {fs : List (Str × V)} (I : Inv (cxOf (CXE P w) P w K mg base N qual scope f cd A outer s0 H0 E) pins σ H s) (hx : H x = some o) (ho : (∃ φ, o = .ext φ)) (hdx : H dx = some (.xd fs)) (he : s.heap.get? x = some (errW C (some dx) t v))
    (hv : Head s.heap x #[.ref t, v, .none, .none, .bool false, .none]) (q : E (.ref C) (some x) (upd H x (ErrT x C (some dx)))) : (cxOf (CXE P w) P w K mg base N qual scope f cd A outer s0 H0 E).xe (.ref x) s := by
  have hA := I.ok.frames
  refine leave_exact hA I.stack rfl he rfl hv fun h' T l => ?_
  have J := Inv.left I rfl hx ho he l
  have nT : H T = none := I.hok.fresh l.new
  obtain ⟨oT, ts, h1, h2, h3, h4⟩ := l.trc
  have nd : dx ≠ x := fun z => by
    obtain ⟨φ, rfl⟩ := ho
    rw [z, hx] at hdx; cases hdx
  refine ⟨x, C, dx, fs, _, rfl, J.os, J.bare, J.base, J.hok, upd_same, by rw [upd_ne nd]; exact hdx, ⟨t, T, oT, ts, l.exc, h4, Nat.le_trans I.sz l.new, ?_, h1, h2, h3⟩, q⟩
  rw [upd_ne h4]; exact nT
theorem passE : Passes (CXE P w) (cxOf (CXE P w) P w K mg base N qual scope f cd A outer s0 H0 E) E := by
  intro pins σ H s e s' I h
  obtain ⟨x, C, dx, fs, H', rfl, os, bare, un, hok, hx, hdx, ⟨t, T, oT, ts, h1, h2, _, h4, h5, h6, h7⟩, q⟩ := h
  have J := I.call' os un hok bare (fun b z => absurd z (by simp))
  refine xe_of J hx ⟨_, rfl⟩ hdx h1 (.inr ⟨T, oT, ts, rfl, h2, h5, h6, h7⟩) ?_
  rw [upd_id hx]
  exact q
end
end My
set_option Elab.async false
set_option linter.all false
set_option maxRecDepth 100000
set_option maxHeartbeats 1000000
namespace My
open PySem PySem.W L2
open PyProof.Rows (AllBare)
section
variable {prog : Program} {w : World} {A : Around} {E : Value → Shared → Prop} {s : Shared} {env : Env} {x : Sem Value} {Q : Flow → Shared → Prop} {K : Frag} {C : Addr}
theorem wp_raise (T : ErrI K C) (ht : typeIn K (.ref C) = some (.type "type")) (hA : A.handled = none)
    (hx : wpAny (model prog w) A x (fun v s1 => ∃ e t d od, v = .ref e ∧ InstAt s1.heap e (errAt C d t) C od ∧ K.In s1.heap ∧ E (.ref e) s1) E s) : wpAny (model prog w) A (raiseStmt env (some x) none) Q E s := by
  unfold raiseStmt
  refine wpAny_bind (wpAny_mono hx (fun v s1 h => ?_) (fun _ _ z => z))
  obtain ⟨e, t, d, od, rfl, I, KX, q⟩ := h
  obtain ⟨hp, g, dr, tk, os⟩ := s1
  have noC : ∀ c : ClassData, (errAt C d t).data ≠ Data.cls c := fun c z => by cases z
  refine wpAny_bind (wpAny_pure ?_)
  refine wpAny_bind ?_
  show wpAny _ _ (excFromValue (.ref e) _) _ _ _
  unfold excFromValue
  refine wpAny_bind ?_
  unfold isExcClass
  refine wpAny_bind (ks_wpAny_isType_inst I.at_ noC ?_)
  refine wpAny_ite_false rfl (wpAny_pure ?_)
  refine wpAny_ite_false rfl ?_
  refine wpAny_bind ?_
  have sub : Looks (model prog w) hp (isInstance (.ref e) (.type "BaseException")) true := I.type.andThen (looks_mroIn KX T.mb)
  refine Looks.here (s := ⟨hp, g, dr, tk, os⟩) sub ?_
  refine wpAny_ite_true rfl (wpAny_pure ?_)
  refine wpAny_bind (ks_wpAny_isType_inst I.at_ noC ?_)
  refine wpAny_ite_false rfl ?_
  refine wpAny_bind ?_
  unfold raisedInstance
  refine wpAny_bind (Looks.here (s := ⟨hp, g, dr, tk, os⟩) I.type ?_)
  refine wpAny_bind (Looks.here (s := ⟨hp, g, dr, tk, os⟩) (looks_typeIn KX ht) ?_)
  refine wpAny_ite_true rfl (wpAny_pure ?_)
  refine wpAny_bind ?_
  unfold setFlight
  refine wpAny_bind (wpAny_field I.at_ rfl rfl ?_)
  refine wpAny_ite_false rfl (wpAny_pure ?_)
  exact wpAny_raiseNew_none hA q
end
theorem ErrC.type {K : Frag} {D : Addr} {nm : Str} {C f : Addr} (T : ErrC K D nm C f) : typeIn K (.ref C) = some (.type "type") := by
  obtain ⟨q, N, bs, sn, sub, ab, col, dd, k0, k1, k2, k3, k5, l⟩ := T.cls
  show (K.lookup C).map (fun o => o.cls) = _
  rw [l]
  rfl
def qR (E : XK) (C : Addr) : VK := fun y H' => ∃ x dx fs, y = .ref x ∧ H' x = some (ErrO x C (some dx)) ∧ H' dx = some (.xd fs) ∧ E (.ref C) (some x) (upd H' x (ErrT x C (some dx)))
def tRaise (E : XK) (C : Addr) (fld : Str) (te : TE) : TS := fun _ σ H => tErr C fld te σ H (qR E C)
theorem upd_upd {H : Hp} {x : Addr} {a b : HO} : upd (upd H x a) x b = upd H x b := by
  funext z
  unfold upd
  by_cases h : z = x
  · rw [if_pos h, if_pos h]
  · rw [if_neg h, if_neg h, if_neg h]
section
variable {P : Program} {w : World} {K : Frag} {mg : Str → Option Value} {base : Heap} {N : List Str} {qual : Str} {scope : Scope} {f : Addr} {cd : Value} {A : Around} {outer : List Env} {s0 : Shared} {H0 : Hp} {E : XK}
abbrev cxE (P : Program) (w : World) (K : Frag) (mg : Str → Option Value) (base : Heap) (N : List Str) (qual : Str) (scope : Scope) (f : Addr) (cd : Value) (A : Around) (outer : List Env) (s0 : Shared) (H0 : Hp) (E : XK) : Cx := cxOf (CXE P w) P w K mg base N qual scope f cd A outer s0 H0 E
theorem ps_raise {D C fI : Addr} {nm fld x : Str} {k : Nat} {fd : FuncData} {ps : List Str} {e : Expr} {te : TE} {p pos pos' : Pos} (B : BaseC K D) (T : ErrC K D nm C fI) (F : FnOk P w K mg base CX0 k fI fd ps (spErr C fld)) (hr : Room (k + 1) (cxE P w K mg base N qual scope f cd A outer s0 H0 E).A) (hb : Binds K fd ps [])
    (hg : Gl (cxE P w K mg base N qual scope f cd A outer s0 H0 E) x) (hm : mg x = some (.ref C)) (ha : PE (cxE P w K mg base N qual scope f cd A outer s0 H0 E) e te)
    (hdb : (x == ("__debug__" : Str)) = false := by decide) (he : starEach [e] (cxE P w K mg base N qual scope f cd A outer s0 H0 E).env = (false, eval e (cxE P w K mg base N qual scope f cd A outer s0 H0 E).env) :: starEach [] (cxE P w K mg base N qual scope f cd A outer s0 H0 E).env := by rfl) (hpl : (backTo pos (starEach [] (cxE P w K mg base N qual scope f cd A outer s0 H0 E).env)).any (·.1) = false := by rfl) :
    PS (cxE P w K mg base N qual scope f cd A outer s0 H0 E) (.Raise (some (.Call (.Name x p) [e] [] pos)) none pos') (tRaise E C fld te) := by
  intro pins s σ H D' I h
  have pe := pe_err (X := cxE P w K mg base N qual scope f cd A outer s0 H0 E) (p := p) (pos := pos) B T F hr hb hg hm ha hdb he hpl
  have hd : (cxE P w K mg base N qual scope f cd A outer s0 H0 E).A.handled = none := I.ok.hd rfl
  rw [arm_exec_Raise]
  refine wpAny_bind (wpAny_standAt ?_)
  refine wp_raise T.it T.type hd ?_
  refine wpAny_bind (thn (pe pins s σ H (qR E C) I h) fun u s1 h1 => ?_)
  obtain ⟨y, H1, I1, ry, x, dx, fs, rfl, e1, e2, q⟩ := h1
  refine wpAny_bind (wpAny_standAt (wpAny_pure ?_))
  obtain ⟨t, ht⟩ := errO_at I1.hok e1
  obtain ⟨ox, od, J, _⟩ := err_inst I1.hok e1 e2
  have eo : ox = errAt C (some dx) t := Option.some.inj (J.at_.symm.trans ht)
  subst eo
  exact ⟨x, t, some dx, some od, ry, J, I1.kIn, xe_of I1 e1 ⟨_, rfl⟩ e2 ht (.inl rfl) q⟩
theorem qR_of {C x dx : Addr} {fld : Str} {v : V} {H1 : Hp} (nd : dx ≠ x) (q : E (.ref C) (some x) (upd (upd H1 dx (.xd [(fld, v)])) x (ErrT x C (some dx)))) : qR E C (.ref x) (upd (upd H1 dx (.xd [(fld, v)])) x (ErrO x C (some dx))) :=
  ⟨x, dx, _, rfl, upd_same, by rw [upd_ne nd, upd_same], by rw [upd_upd]; exact q⟩
theorem okE {x qual : Str} {st : Stmt} {f : Addr} {fd : FuncData} {N ps : List Str} {k : Nat} {sp : Sp} (F : Fun K x qual st f fd) (S : FnScope N ps (defScope st)) (len : ∀ vs H Q E, sp vs H Q E → vs.length = ps.length)
    (hbody : ∀ (cdv : Value) (A : Around) (outer : List Env) (s : Shared) (H : Hp) (vs : List V) (Q : VK) (E : XK), Room k (A.deeper (PyProof.Rows.envOfC qual (defScope st) s.heap.objs.size f cdv)) → sp vs H Q E →
      ∃ t, PSs (cxE P w K mg base N qual (defScope st) f cdv A outer s H E) (defBody st) t ∧ t { nx := fun _ H' => Q .non H', rt := Q } (start N vs) H) : FnOk P w K mg base (CXE P w) (k + 1) f fd ps sp := by
  obtain ⟨oc, od, kV, doc, pm, an, cdv, ct, osl, rfl, lk, hcd⟩ := F.ex
  refine fn_of lk hcd S len fun A outer s H vs Q E hr hsp => ?_
  obtain ⟨t, h, q⟩ := hbody cdv A outer s H vs Q E hr hsp
  exact ⟨t, h, q⟩
end
end My
set_option Elab.async false
set_option linter.all false
set_option maxRecDepth 100000
set_option maxHeartbeats 1000000
namespace My
open PySem PySem.W L2
open PyProof.Rows (AllBare)
def PX (X : Cx) (σ : St) (e : Expr) (t : TE) : Prop := ∀ (pins : List (Addr × Obj)) (s : Shared) (H : Hp) (Q : VK), Inv X pins σ H s → t σ H Q → wpAny (model X.prog X.w) X.A (eval e X.env) (EP X pins σ Q) X.xe s
def PXA (X : Cx) (σ : St) (es : List Expr) (t : TA) : Prop := ∀ (pos : Pos) (pins : List (Addr × Obj)) (s : Shared) (H : Hp) (Q : List V → Hp → Prop), Inv X pins σ H s → t σ H Q → wpAny (model X.prog X.w) X.A (spliced (backTo pos (starEach es X.env))) (AP X pins σ Q) X.xe s
section
variable {X : Cx} {σ : St} {e : Expr} {es : List Expr} {te : TE} {t : TA} {pos : Pos}
theorem pxa_of (h : PA X es t) : PXA X σ es t := fun pos pins s H Q I q => h pos pins s σ H Q I q
def PassX (CX : CXT) (X : Cx) (σ : St) (E : XK) : Prop := ∀ (pins : List (Addr × Obj)) (H : Hp) (s : Shared) (e : Value) (s' : Shared), Inv X pins σ H s → CX X.stack H s E e s' → X.xe e s'
variable {CX : CXT} {k : Nat} {f C : Addr} {fd : FuncData} {ps : List Str} {sp : Sp} {dvs : List V} {ds : List Value} {E : XK} {x : Str} {p : Pos}
theorem run_fnX {pins : List (Addr × Obj)} {H : Hp} {s : Shared} {Q : VK} {us : List Value} {vs : List V} (F : FnOk X.prog X.w X.K X.mg X.base CX k f fd ps sp) (hr : Room k X.A) (hb : Binds X.K fd ps ds) (hd : Vals dvs ds) (hx : PassX CX X σ E)
    (I : Inv X pins σ H s) (r : Vals vs us) (h : sp (vs ++ dvs) H Q E) : wpAny (model X.prog X.w) X.A (call (.ref f) us) (EP X pins σ Q) X.xe s := by
  have r2 : Vals (vs ++ dvs) (us ++ ds) := r.append hd
  have hl : (us ++ ds).length = ps.length := by rw [← r2.length]; exact F.len _ _ _ _ h
  refine wpAny_call (codeAny_mono (F.run X.A X.stack s H ⟨us, []⟩ (us ++ ds) (vs ++ dvs) Q E hr I.env0 (hb s us I.kIn hl) r2 h) fun r s' hq => ?_)
  cases r with
  | error e => exact hx pins H s e s' I hq
  | ok fl =>
    cases fl with
    | ret u => exact I.after hq
    | next => exact False.elim hq
    | brk => exact False.elim hq
    | cont => exact False.elim hq
theorem px_call (F : FnOk X.prog X.w X.K X.mg X.base CX k f fd ps sp) (hr : Room k X.A) (hg : Gl X x) (hm : X.mg x = some (.ref f)) (hk : PySem.W.keepIn X.K (.ref f) = true) (hb : Binds X.K fd ps ds) (hd : Vals dvs ds) (hx : PassX CX X σ E)
    (ha : PXA X σ (e :: es) t) (hdb : (x == ("__debug__" : Str)) = false := by decide) (he : starEach (e :: es) X.env = (false, eval e X.env) :: starEach es X.env := by rfl) (hpl : (backTo pos (starEach es X.env)).any (·.1) = false := by rfl) :
    PX X σ (.Call (.Name x p) (e :: es) [] pos) (tCall sp dvs E t) := by
  intro pins s H Q I h
  refine wpAny_Call_Name_kw (ld_glob I hg hm ?_ hdb)
  refine PySem.W.callWith_K (h₀ := X.base) I.ok.mod.kin hk (thn (ha pos pins s H _ I h) fun us s1 ⟨vs, H1, I1, r, q⟩ => ⟨I1.kIn, ?_⟩) he hpl
  exact run_fnX F hr hb hd hx I1 r q
end
section
variable {prog : Program} {w : World} {A : Around} {E : Value → Shared → Prop} {s : Shared} {K : Frag} {C D e : Addr} {Q : Bool → Shared → Prop} {ox : Obj} {od : Option Obj} {b : Bool}
theorem wp_matches (KX : K.In s.heap) (hD : ∃ cd, clsIn K D = some cd) (hT : typeIn K (.ref D) = some (.type "type")) (hB : mroIn K D (.type "BaseException") = some true) (I : InstAt s.heap e ox C od) (hC : mroIn K C (.ref D) = some b) (q : Q b s) : wpAny (model prog w) A (excMatches (.ref e) (.ref D)) Q E s := by
  unfold excMatches
  have L1 : Looks (model prog w) s.heap (isInstance (.ref D) (.type "tuple")) false := (looks_typeIn KX hT).andThen (Looks.of_pure rfl)
  refine wpAny_bind (Looks.here L1 ?_)
  refine wpAny_ite_false rfl ?_
  refine wpAny_bind (wpAny_pure ?_)
  refine wpAny_bind ?_
  obtain ⟨cd, hc⟩ := hD
  obtain ⟨hp, g, dr, tk, os⟩ := s
  obtain ⟨oD, hoD, hdD⟩ : ∃ oD, K.lookup D = some oD ∧ oD.data = .cls cd := by
    unfold clsIn at hc
    split at hc
    · rename_i h
      exact ⟨_, h, by cases hc; rfl⟩
    · cases hc
  rw [List.forIn_cons]
  refine wpAny_bind (wpAny_bind ?_)
  unfold isExcClass
  refine wpAny_bind (ks_wpAny_isType_cls (KX _ _ hoD) hdD ?_)
  refine wpAny_ite_true rfl ?_
  refine Looks.here (s := ⟨hp, g, dr, tk, os⟩) (looks_mroIn KX hB) ?_
  refine wpAny_ite_false rfl (wpAny_pure ?_)
  show wpAny _ _ (forIn ([] : List Value) PUnit.unit _) _ _ _
  rw [List.forIn_nil]
  refine wpAny_pure ?_
  refine wpAny_bind (Looks.here (s := ⟨hp, g, dr, tk, os⟩) I.type ?_)
  refine wpAny_bind ?_
  rw [List.forIn_cons]
  refine wpAny_bind (wpAny_bind (Looks.here (s := ⟨hp, g, dr, tk, os⟩) (looks_mroIn KX hC) ?_))
  cases b with
  | true =>
    refine wpAny_ite_true rfl (wpAny_pure ?_)
    exact wpAny_pure (wpAny_pure q)
  | false =>
    refine wpAny_ite_false rfl (wpAny_pure ?_)
    show wpAny _ _ (forIn ([] : List Value) _ _) _ _ _
    rw [List.forIn_nil]
    exact wpAny_pure (wpAny_pure q)
end
end My
set_option Elab.async false
set_option linter.all false
set_option maxRecDepth 100000
set_option maxHeartbeats 1000000
namespace My
open PySem PySem.W L2
open PyProof.Rows (AllBare)
def PXS (X : Cx) (σ : St) (st : Stmt) (t : TS) : Prop := ∀ (pins : List (Addr × Obj)) (s : Shared) (H : Hp) (D : Ends), Inv X pins σ H s → t D σ H → wpAny (model X.prog X.w) X.A (exec st X.env) (SP X pins D) X.xe s
section
variable {X : Cx} {σ : St} {e : Expr} {te : TE} {pos : Pos}
end
abbrev tryCx (X : Cx) (pn : List (Addr × Obj)) (xe : Value → Shared → Prop) : Cx := { X with pn := pn, xe := xe }
abbrev exCx (X : Cx) (x : Addr) : Cx := { X with A := X.A.mark (some (.ref x)), calm := false, xe := fun _ _ => False }
section
variable {X : Cx} {pins pins' pn : List (Addr × Obj)} {σ : St} {H : Hp} {s : Shared} {xe : Value → Shared → Prop} {x : Addr}
theorem Ok.toTry (ok : X.Ok) : (tryCx X pn xe).Ok := ⟨ok.mod, ok.kind, ok.glob, ok.blt, ok.above, ok.inj, ok.has, ok.cab, ok.hd, ok.frames, ok.stk, ok.exf, ok.bs, ok.bsz, ok.noex, ok.exfs, ok.funs, ok.frf⟩
theorem Ok.ofTry (ok : (tryCx X pn xe).Ok) : X.Ok := ⟨ok.mod, ok.kind, ok.glob, ok.blt, ok.above, ok.inj, ok.has, ok.cab, ok.hd, ok.frames, ok.stk, ok.exf, ok.bs, ok.bsz, ok.noex, ok.exfs, ok.funs, ok.frf⟩
theorem Inv.toTry (I : Inv X pins σ H s) : Inv (tryCx X (X.pn ++ pins) xe) [] σ H s :=
  ⟨Ok.toTry I.ok, I.os, I.bare, I.base, I.loc, I.cell, I.free, I.freeC, fun p hp => I.pin p (by rw [List.append_nil] at hp; exact hp), I.hok, I.len⟩
theorem Inv.ofTry (I : Inv (tryCx X (X.pn ++ pins) xe) pins' σ H s) : Inv X pins σ H s :=
  ⟨Ok.ofTry I.ok, I.os, I.bare, I.base, I.loc, I.cell, I.free, I.freeC, fun p hp => I.pin p (List.mem_append_left _ hp), I.hok, I.len⟩
theorem Inv.toEx (I : Inv X pins σ H s) : Inv (exCx X x) pins σ H s :=
  ⟨⟨I.ok.mod, I.ok.kind, I.ok.glob, I.ok.blt, I.ok.above, I.ok.inj, I.ok.has, I.ok.cab, fun z => Bool.noConfusion z, I.ok.frames, I.ok.stk, I.ok.exf, I.ok.bs, I.ok.bsz, I.ok.noex, I.ok.exfs, I.ok.funs, I.ok.frf⟩, I.os, I.bare, I.base, I.loc, I.cell, I.free, I.freeC, I.pin, I.hok, I.len⟩
theorem Inv.ofEx (ok : X.Ok) (I : Inv (exCx X x) pins σ H s) : Inv X pins σ H s := ⟨ok, I.os, I.bare, I.base, I.loc, I.cell, I.free, I.freeC, I.pin, I.hok, I.len⟩
theorem SP.ofEx {D : Ends} {f : Flow} (ok : X.Ok) (h : SP (exCx X x) pins D f s) : SP X pins D f s := by
  cases f with
  | next => obtain ⟨σ', H', I, q⟩ := h; exact ⟨σ', H', Inv.ofEx ok I, q⟩
  | brk => obtain ⟨σ', H', I, q⟩ := h; exact ⟨σ', H', Inv.ofEx ok I, q⟩
  | cont => obtain ⟨σ', H', I, q⟩ := h; exact ⟨σ', H', Inv.ofEx ok I, q⟩
  | ret u => obtain ⟨v, σ', H', I, r, q⟩ := h; exact ⟨v, σ', H', Inv.ofEx ok I, r, q⟩
theorem SP.ofTry {D : Ends} {f : Flow} (h : SP (tryCx X (X.pn ++ pins) xe) pins' D f s) : SP X pins D f s := by
  cases f with
  | next => obtain ⟨σ', H', I, q⟩ := h; exact ⟨σ', H', Inv.ofTry I, q⟩
  | brk => obtain ⟨σ', H', I, q⟩ := h; exact ⟨σ', H', Inv.ofTry I, q⟩
  | cont => obtain ⟨σ', H', I, q⟩ := h; exact ⟨σ', H', Inv.ofTry I, q⟩
  | ret u => obtain ⟨v, σ', H', I, r, q⟩ := h; exact ⟨v, σ', H', Inv.ofTry I, r, q⟩
theorem unbind_ok {M : Model} {A : Around} {E : Value → Shared → Prop} {i : Nat} {n : Str} {v : V} {Q : Unit → Shared → Prop} (I : Inv X pins σ H s) (hN : X.N.Nodup) (hi : X.N[i]? = some n) (hk : X.env.scope.names.lookup n = some .local) (hv : σ[i]? = some (some v))
    (h : ∀ s', Inv X pins (σ.set i none) H s' → Q () s') : wpAny M A (unbindName X.env n) Q E s := by
  obtain ⟨m, hn, hl⟩ := id I.loc
  have hcls : (X.env.scope.kind == .class || (X.env.scope.kind == .module && X.env.locals != X.env.globals)) = false := by rw [I.ok.kind]; rfl
  have hiσ : i < σ.length := by rw [I.len]; exact (List.getElem?_eq_some_iff.mp hi).1
  obtain ⟨u, _, lk⟩ := hl i n v hi hv (.inl hk)
  have mu : m n = some u := by
    rcases lk with ⟨_, z⟩ | ⟨z, _⟩
    · exact z
    · have k' : X.env.kindOf n = some .local := hk
      rcases z with z | z <;> (rw [k'] at z; cases z)
  have cne := I.cne
  refine wpAny_unbindName_local hk hn mu hcls fun h' u' hn' hs => ?_
  obtain ⟨oL, _, _, hoL, _⟩ := id hn
  have tracked : HOk X.prog X.w H h' := fun b ob e => by
    refine (I.hok b ob e).stay (fun c w' hc q => (hs.2 c ?_).trans q) (fun _ q => q) fun _ _ q => q
    rintro rfl
    rcases hc with rfl | hc
    · rw [I.free] at e; cases e
    · rw [I.free] at hc; cases hc
  refine h _ ⟨I.ok, I.os, I.bare, ⟨fun b o e n hb hx => ?_, fun b o e n hb hx => ?_, I.base.free, fun b o e hx => ?_, I.base.tups, I.base.frzs, I.base.tbls, I.base.sys⟩, ⟨_, hn', fun j y v' e1 e2 e3 => ?_⟩, fun y c e => ?_, I.free, I.freeC, fun p hp => ?_, tracked, by simpa using I.len⟩
  · exact (hs.2 b (Nat.ne_of_lt (Nat.lt_of_lt_of_le (Heap.lt_size e) I.ok.above))).trans (I.base.keep b o e n hb hx)
  · obtain ⟨sl, e1⟩ := I.base.slot b o e n hb hx
    exact ⟨sl, (hs.2 b (Nat.ne_of_lt (Nat.lt_of_lt_of_le (Heap.lt_size e) I.ok.above))).trans e1⟩
  · obtain ⟨o', e1⟩ := I.base.there b o e hx
    exact ⟨o', (hs.2 b (Nat.ne_of_lt (Nat.lt_of_lt_of_le (Heap.lt_size e) I.ok.above))).trans e1⟩
  · by_cases hj : j = i
    · subst hj
      rw [List.getElem?_set_self hiσ] at e2
      cases e2
    · rw [List.getElem?_set_ne (Ne.symm hj)] at e2
      obtain ⟨u2, r', q⟩ := hl j y v' e1 e2 e3
      refine ⟨u2, r', ?_⟩
      rcases q with ⟨k, e⟩ | ⟨k, c, e, z⟩
      · refine .inl ⟨k, ?_⟩
        have : y ≠ n := fun e => hj (nodup_ix hN e1 (e ▸ hi))
        simp [this, e]
      · exact .inr ⟨k, c, e, z.sameBut hs (cne y c e)⟩
  · obtain ⟨w', z⟩ := I.cell y c e
    exact ⟨w', z.sameBut hs (cne y c e)⟩
  · obtain ⟨e, n, ne, nf, d⟩ := I.pin p hp
    exact ⟨(hs.2 p.1 ne).trans e, n, ne, nf, d⟩
end
structure Catch (K : Frag) (D : Addr) : Prop where
  cls : ∃ cd, clsIn K D = some cd
  ty : typeIn K (.ref D) = some (.type "type")
  mb : mroIn K D (.type "BaseException") = some true
def unEnds (D : Ends) (i : Nat) : Ends := ⟨fun σ H => D.nx (σ.set i none) H, D.rt, fun σ H => D.bk (σ.set i none) H, fun σ H => D.ct (σ.set i none) H⟩
def eTry (K : Frag) (B : Addr) (i : Nat) (th : TS) (D : Ends) (σ : St) : XK := fun c o H' => ∃ x C, c = .ref C ∧ o = some x ∧ mroIn K C (.ref B) = some true ∧ th (unEnds D i) (σ.set i (some (.ref x))) H'
def tTry (K : Frag) (B : Addr) (i : Nat) (tb : XK → TS) (th : TS) : TS := fun D σ H => tb (eTry K B i th D σ) D σ H
end My
set_option Elab.async false
set_option linter.all false
set_option maxRecDepth 100000
set_option maxHeartbeats 1000000
namespace My
open PySem PySem.W L2
open PyProof.Rows (AllBare)
section
variable {X : Cx} {pins : List (Addr × Obj)} {σ : St} {H : Hp} {s : Shared}
theorem name_goes {i : Nat} {n : Str} {pos : Pos} {E : Value → Shared → Prop} {D : Ends} {f : Flow} (ok : X.Ok) (hN : X.N.Nodup) (hi : X.N[i]? = some n) (hk : X.env.scope.names.lookup n = some .local) (h : SP X pins (unEnds D i) f s) :
    wpAny (model X.prog X.w) X.A (do
      bindName X.env n .none
      unbindBehindTheSuite X.env n pos) (fun _ s' => SP X pins D f s') E s := by
  have go : ∀ {σ' : St} {H' : Hp}, Inv X pins σ' H' s → (∀ s', Inv X pins (σ'.set i none) H' s' → SP X pins D f s') → wpAny (model X.prog X.w) X.A (do
      bindName X.env n .none
      unbindBehindTheSuite X.env n pos) (fun _ s' => SP X pins D f s') E s := fun {σ' H'} I q => by
    have hiσ : i < σ'.length := by rw [I.len]; exact (List.getElem?_eq_some_iff.mp hi).1
    refine wpAny_bind (wpAny_bindName (store_ok I hN hi (.inl hk) (v := V.non) (u := Value.none) rfl (fun s1 I1 => ?_) (.inr hk)))
    unfold unbindBehindTheSuite
    refine wpAny_onRaise (unbind_ok (v := V.non) I1 hN hi hk (List.getElem?_set_self hiσ) fun s2 I2 => ?_)
    rw [List.set_set] at I2
    exact q s2 I2
  cases f with
  | next => obtain ⟨σ', H', I, q⟩ := h; exact go I fun s' I' => ⟨_, H', I', q⟩
  | brk => obtain ⟨σ', H', I, q⟩ := h; exact go I fun s' I' => ⟨_, H', I', q⟩
  | cont => obtain ⟨σ', H', I, q⟩ := h; exact go I fun s' I' => ⟨_, H', I', q⟩
  | ret u => obtain ⟨v, σ', H', I, r, q⟩ := h; exact go I fun s' I' => ⟨v, _, H', I', r, q⟩
end
section
variable {X : Cx} {pins : List (Addr × Obj)} {σ : St} {H : Hp} {s : Shared}
theorem errT_inst {P : Program} {w : World} {H : Hp} {h : Heap} {a C dx : Addr} {fs : List (Str × V)} (ok : HOk P w H h) (ea : H a = some (ErrT a C (some dx))) (ed : H dx = some (.xd fs)) :
    ∃ (ox od : Obj), InstAt h a ox C (some od) ∧ ∃ mA : Str → Option Value, (∀ f, RelO (fs.lookup f) (mA f)) ∧ ∀ name, lookIn name od = some (mA name) := by
  obtain ⟨t, v, hx⟩ := errT_at ok ea
  obtain ⟨mA, hn, hr⟩ := (show ObjOk P w H h dx (.xd fs) from ok dx _ ed)
  obtain ⟨od, hod, hl⟩ := lookIn_ns hn
  exact ⟨_, od, ⟨hx, rfl, rfl, hod⟩, mA, hr, hl⟩
def tErrFT (K : Frag) (ta : TE) (f : Str) : TE := fun σ H Q => ta σ H fun x H1 => ∃ a C dx fs v, x = .ref a ∧ H1 a = some (ErrT a C (some dx)) ∧ H1 dx = some (.xd fs) ∧ fs.lookup f = some v ∧ ErrI K C ∧ hasDictIn K C = true ∧ findIn K (.ref C) f = some none ∧ Q v H1
theorem pe_errFT {e : Expr} {ta : TE} {f : Str} {pos : Pos} (he : PE X e ta) (hb : attributeBase e f X.env (eval e X.env) = eval e X.env) : PE X (.Attribute e f pos) (tErrFT X.K ta f) := by
  intro pins s σ H Q I h
  refine attr_of hb (thn (he pins s σ H _ I h) fun u s1 ⟨x, H1, I1, rx, a, C, dx, fs, v, ex, ea, ed, l, T, hd, nf, q⟩ => ?_)
  subst ex
  obtain rfl : u = Value.ref a := rx
  obtain ⟨ox, od, J, mA, hr, hl⟩ := errT_inst I1.hok ea ed
  obtain ⟨u, eu, ru⟩ := RelO.some_of (l ▸ hr f)
  exact getExc I1.kIn J T.ga T.hk T.mb (findObj_own hd nf rfl (by rw [hl, eu])) (handed_of ru) ⟨v, H1, I1.tok _, ru, q⟩
def rIsT1 (K : Frag) : List V → Hp → VK → Prop := fun vs H Q => ∃ a C dx fs c b, vs = [.ref a, c] ∧ H a = some (ErrT a C (some dx)) ∧ H dx = some (.xd fs) ∧ ErrI K C ∧ ((∃ z, c = .ref z) ∨ ∃ n, c = .ty n) ∧ kitOne K (.ref C) (isV c) = some b ∧ Q (.bl b) H
theorem call_isT1 (N : IsT X.K) : CallR X (.builtin "isinstance") (rIsT1 X.K) := by
  intro pins s σ H xs us Q I r h
  obtain ⟨a, C, dx, fs, c, b, rfl, ea, ed, T, hc, e, q⟩ := h
  obtain ⟨u, u', rfl, ru, ru'⟩ := vals2 r
  cases (show u = Value.ref a from ru)
  have ec : u' = isV c := by
    rcases hc with ⟨z, rfl⟩ | ⟨n, rfl⟩
    · exact ru'
    · exact ru'
  subst ec
  obtain ⟨ox, od, J, _⟩ := errT_inst I.hok ea ed
  exact kia_one (kitErr T N.gt N.tk) I.kIn ⟨ox, some od, J⟩ e (fun z => nomatch z) fun tk => ⟨.bl b, H, I.tok _, rfl, q⟩
def rIsTn (K : Frag) : List V → Hp → VK → Prop := fun vs H Q => ∃ (a C dx : Addr) (fs : List (Str × V)) (p : Addr) (cs : List Addr) (b : Bool), vs = [.ref a, .ref p] ∧ H a = some (ErrT a C (some dx)) ∧ H dx = some (.xd fs) ∧ ErrI K C ∧ H p = some (.tup (cs.map V.ref)) ∧ kitAny K (.ref C) (cs.map Value.ref) = some b ∧ Q (.bl b) H
theorem vals_refs : ∀ {cs : List Addr} {us : List Value}, Vals (cs.map V.ref) us → us = cs.map Value.ref
  | [], _, .nil => rfl
  | c :: cs, _, .cons r t => by
    rw [vals_refs t]
    cases (show _ = Value.ref c from r)
    rfl
theorem call_isTn (N : IsT X.K) : CallR X (.builtin "isinstance") (rIsTn X.K) := by
  intro pins s σ H xs us Q I r h
  obtain ⟨a, C, dx, fs, p, cs, b, rfl, ea, ed, T, hp, e, q⟩ := h
  obtain ⟨u, u', rfl, ru, ru'⟩ := vals2 r
  cases (show u = Value.ref a from ru)
  cases (show u' = Value.ref p from ru')
  obtain ⟨ox, od, J, _⟩ := errT_inst I.hok ea ed
  obtain ⟨_, its, rv, ⟨o, h1, h2, n, h3⟩⟩ := (show ObjOk X.prog X.w H s.heap p (.tup (cs.map V.ref)) from I.hok p _ hp)
  have ei := vals_refs rv
  subst ei
  obtain ⟨c0, d0, dt0, sl0⟩ := o
  have hc0 : c0 = .type "tuple" := h2
  have hd0 : dt0 = .seq (cs.map Value.ref).toArray n := h3
  subst hc0
  subst hd0
  exact kia_tup (kitErr T N.gt N.tk) I.kIn ⟨ox, some od, J⟩ h1 e (fun z => nomatch z) fun tk => ⟨.bl b, H, I.tok _, rfl, q⟩
end
theorem ps_try {X : Cx} {st : Stmt} {tb : XK → TS} {th : TS} {B : Addr} {n cn : Str} {i : Nat} {b₀ : Stmt} {suite : List Stmt} {pc ph pos : Pos} (hS : X.stack = X.env :: X.outer) (hL : X.env.frame = some X.env.locals) (hc : X.calm = true) (hN : X.N.Nodup) (hi : X.N[i]? = some n)
    (hk : X.env.scope.names.lookup n = some .local) (cB : Catch X.K B) (hg : Gl X cn) (hm : X.mg cn = some (.ref B)) (hb : ∀ (σ : St) (E : XK) (pn : List (Addr × Obj)) (xe : Value → Shared → Prop), PassX (CXE X.prog X.w) (tryCx X pn xe) σ E → PXS (tryCx X pn xe) σ st (tb E)) (hh : ∀ x, PSs (exCx X x) (b₀ :: suite) th)
    (hdb : (cn == ("__debug__" : Str)) = false := by decide) :
    PS X (.Try [st] [.ExceptHandler (some (.Name cn pc)) (some n) (b₀ :: suite) ph] [] [] pos) (tTry X.K B i tb th) := by
  intro pins s σ H D I h
  refine wpAny_Try_except ?_
  have px := hb σ (eTry X.K B i th D σ) (X.pn ++ pins) (fun e s₁ => wpAny (model X.prog X.w) X.A (noteFrame e X.env) (fun _ s₂ => wpAny (model X.prog X.w) X.A (setFlight e none) (fun _ s₃ => wpAny (model X.prog X.w) X.A (handleBy e X.env [.ExceptHandler (some (.Name cn pc)) (some n) (b₀ :: suite) ph]) (SP X pins D) X.xe s₃) X.xe s₂) X.xe s₁) ?_
  · refine wpAny_execs_cons (thn (px [] s H D (Inv.toTry I) h) fun f s1 q => ?_)
    cases f with
    | next => exact wpAny_execs_nil (wpAny_execs_nil (SP.ofTry (f := .next) q))
    | ret v => exact SP.ofTry (f := .ret v) q
    | brk => exact SP.ofTry (f := .brk) q
    | cont => exact SP.ofTry (f := .cont) q
  intro pins' H1 s1 ev s' I1 h1
  obtain ⟨x, C, dx, fs, H', rfl, os, bare, un, hok, hx, hdx, ⟨t, T, oT, ts, e1, e2, _, e4, e5, e6, e7⟩, x', C', ec, eo, hm', q⟩ := h1
  cases ec
  cases eo
  have J : Inv X pins σ H' s' := Inv.ofTry (I1.call' os un hok bare (fun b z => absurd z (by simp)))
  have hA : X.A.frames = some (X.env :: X.outer) := by rw [← hS]; exact J.ok.frames
  have hF : s'.heap.FunFrames X.base (X.env :: X.outer) := by rw [← hS]; exact J.stack
  refine note_exact hA hF hL e1 rfl (.inr ⟨T, oT, ts, rfl, e2, e5, e6, e7⟩) fun h' T' l => ?_
  refine l.flight rfl (by show 1 < 6; decide) _ rfl fun h2 l2 => ?_
  have J2 := Inv.left J hS hx ⟨_, rfl⟩ e1 l2
  rw [upd_id hx] at J2
  have ex2 : h2.get? x = some (errW C (some dx) t (.ref T')) := l2.exc
  obtain ⟨oT', ts', f1, f2, f3, f4⟩ := l2.trc
  generalize hs2 : ({ s' with heap := h2 } : Shared) = s2 at J2
  have g2 : s2.heap = h2 := by rw [← hs2]
  rw [← g2] at ex2 f1
  refine wpAny_handleBy_cons ?_ (by intro z; cases z)
  refine codeAny_handlers_test ?_
  refine ld_glob (X := exCx X x) (Inv.toEx J2) hg hm ?_ hdb
  obtain ⟨ox, odd, JI⟩ : ∃ ox od, InstAt s2.heap x ox C od := by
    obtain ⟨ox, od, J, _⟩ := errT_inst J2.hok hx hdx
    exact ⟨ox, some od, J⟩
  refine wp_matches J2.kIn cB.cls cB.ty cB.mb JI hm' ?_
  show codeAny _ _ _ _ _
  refine codeAny_handlers_suite_as ?_
  have h3 : 3 < ts'.size := (Array.getElem?_eq_some_iff.mp f3).1
  refine wpAny_setFlight_none ex2 rfl rfl f1 f2 h3 ?_
  have J3 : Inv X pins σ H' { s2 with heap := s2.heap.update T' (Obj.mapFields fun x => x.setIfInBounds 3 Value.none) } := by
    refine J2.kept (t' := s2.toks) fun b u hb => ?_
    by_cases z : b = T'
    · subst z
      have e : oT' = u := Option.some.inj (f1.symm.trans hb)
      subst e
      rw [Heap.get?_update_self _ f1 (by rw [mapF f2]; rfl), mapF f2, set_same f3, ← f2]
    · rw [Heap.get?_update_ne _ _ _ _ z]; exact hb
  generalize ({ s2 with heap := s2.heap.update T' (Obj.mapFields fun x => x.setIfInBounds 3 Value.none) } : Shared) = s3 at J3
  refine store_ok (X := exCx X x) (Inv.toEx J3) hN hi (.inl hk) (v := V.ref x) (u := Value.ref x) rfl (fun s4 I4 => ?_) (.inr hk)
  refine wpAny_mono (hh x pins s4 _ H' (unEnds D i) I4 q) (fun f s5 q5 => ?_) (fun _ _ z => False.elim z)
  exact name_goes J3.ok hN hi hk (SP.ofEx J3.ok q5)
end My
set_option Elab.async false
set_option linter.all false
set_option maxRecDepth 100000
set_option maxHeartbeats 1000000
namespace My
open PySem PySem.W L2
open PyProof.Rows (AllBare)
abbrev TH := Addr → Addr → TS
def hNo (K : Frag) (B : Addr) (th : TS) (rest : TH) : TH := fun x C D σ H => ∃ b, mroIn K C (.ref B) = some b ∧ if b = true then th D σ H else rest x C D σ H
section
variable {X : Cx} {hs : List ExceptHandler} {rest : TH}
end
section
variable {X : Cx} {σ : St} {e : Expr} {te : TE} {pos : Pos}
theorem pxs_expr (he : PX X σ e te) (hs : swapsWith e none pos.line X.env = pure false := by rfl) : PXS X σ (.Expr e pos) (tDrop te) := by
  intro pins s H D I h
  exact wpAny_Expr_any (thn (he pins s H _ I h) fun v s1 ⟨x, H1, I1, r1, q1⟩ => ⟨σ, H1, I1, q1⟩) I.quiet hs
end
end My
set_option Elab.async false
set_option linter.all false
set_option maxRecDepth 100000
set_option maxHeartbeats 4000000
namespace My
open PySem L2
section
variable {X : Cx}
end
end My
set_option Elab.async false
set_option linter.all false
set_option maxRecDepth 100000
set_option maxHeartbeats 1000000
namespace My
open PySem L2
section
variable {X : Cx}
def plainV : V → Bool
  | .ref _ => true
  | v => flatV v
theorem eqV_refl {v : V} (h : flatV v = true) : eqV v v = true := by
  cases v with
  | non => rfl
  | bl b => cases b <;> rfl
  | int i => exact beq_self_eq_true i
  | str s => exact beq_self_eq_true s
  | _ => cases h
theorem plain_or {v : V} (h : plainV v = true) : (∃ a, v = .ref a) ∨ flatV v = true := by
  cases v with
  | ref a => exact .inl ⟨a, rfl⟩
  | _ => exact .inr h
theorem same_eqAt {A : Around} {s : Shared} {v : V} {u1 u2 : Value} (q1 : RelV v u1) (q2 : RelV v u2) (h : plainV v = true) : SeqAt.EqAt A s u1 u2 true := by
  rcases plain_or h with ⟨a, rfl⟩ | h
  · cases (show u1 = Value.ref a from q1)
    cases (show u2 = Value.ref a from q2)
    exact SeqAt.EqAt.same _
  · have f := eqAt_V (A := A) (s := s) q1 q2 h h
    rw [eqV_refl h] at f
    exact f
theorem all_eqAt {A : Around} {s : Shared} {xs : List V} {its jts : List Value} (r1 : Vals xs its) (r2 : Vals xs jts) (f : xs.all plainV = true) :
    ∀ j (h1 : j < its.toArray.size) (h2 : j < jts.toArray.size), SeqAt.EqAt A s its.toArray[j] jts.toArray[j] true := by
  intro j h1 h2
  have h1' : j < its.length := by simpa using h1
  have h2' : j < jts.length := by simpa using h2
  have k1 : j < xs.length := by rw [r1.length]; exact h1'
  obtain ⟨u1, e1, q1⟩ := r1.get (List.getElem?_eq_getElem k1)
  obtain ⟨u2, e2, q2⟩ := r2.get (List.getElem?_eq_getElem k1)
  have a1 : its.toArray[j] = u1 := by
    have := List.getElem?_eq_getElem h1'
    rw [e1] at this
    simpa using (Option.some.inj this).symm
  have a2 : jts.toArray[j] = u2 := by
    have := List.getElem?_eq_getElem h2'
    rw [e2] at this
    simpa using (Option.some.inj this).symm
  rw [a1, a2]
  exact same_eqAt q1 q2 (List.all_eq_true.mp f _ (List.getElem_mem k1))
def rSameT (K : PySem.W.Frag) : R2 := fun x y H Q => ∃ p q xs, x = .ref p ∧ y = .ref q ∧ SqT K H p xs ∧ SqT K H q xs ∧ xs.all plainV = true ∧ Q (.bl true) H
theorem op_sameT (hu : X.A.units < cLine) : OpR X (compareOp .Eq) (rSameT X.K) := by
  intro pins s σ H x y v u Q I rx ry h
  obtain ⟨p, q, xs, rfl, rfl, hp, hq, f, k⟩ := h
  cases rx
  cases ry
  obtain ⟨its, r1, t1, _⟩ := I.tuple hp
  obtain ⟨jts, r2, t2, _⟩ := I.tuple hq
  refine SeqAt.eq_tupleAt (e := fun _ => true) t1 t2 hu (all_eqAt r1 r2 f) ?_
  refine ⟨.bl true, H, I, ?_, k⟩
  show Value.bool _ = Value.bool _
  have l1 := r1.length
  have l2 := r2.length
  simp [← l1, ← l2]
end
end My
set_option Elab.async false
set_option linter.all false
set_option maxRecDepth 100000
set_option maxHeartbeats 1000000
namespace My
open PySem L2
section
variable {X : Cx}
theorem in1_units {A : Around} : A.in1.units = A.units + 1 := rfl
end
end My
set_option Elab.async false
set_option linter.all false
set_option maxRecDepth 100000
set_option maxHeartbeats 1000000
namespace My
open PySem PySem.W L2
open PyProof.Rows (Call_ boot_enumerate)
section
variable {X : Cx} {pins : List (Addr × Obj)} {σ : St} {H : Hp} {s : Shared} {h' : Heap}
theorem turned2 {t' : Nat} {i1 i2 : Addr} (I : Inv X pins σ H s) (k : ∀ b o, b ≠ i1 → b ≠ i2 → s.heap.get? b = some o → h'.get? b = some o) (F1 : FpOk X pins H i1) (F2 : FpOk X pins H i2) : Inv X pins σ H { s with heap := h', toks := t' } := by
  obtain ⟨n1, L1, _, a1, b1, c1⟩ := F1
  obtain ⟨n2, L2, _, a2, b2, c2⟩ := F2
  have ni1 : ∀ b u, H b = some u → b ≠ i1 := fun b u e z => by rw [z, n1] at e; cases e
  have ni2 : ∀ b u, H b = some u → b ≠ i2 := fun b u e z => by rw [z, n2] at e; cases e
  refine I.step (g' := s.gens) (d' := s.drawn) (ch := [i1, i2]) (fun b hb => ?_) (fun b o _ _ hc e _ => k b o (fun z => hc (by simp [z])) (fun z => hc (by simp [z])) e) (fun b o _ _ hc e _ => ⟨o.slots, k b o (fun z => hc (by simp [z])) (fun z => hc (by simp [z])) e⟩) (fun _ _ _ _ n => n)
    (fun b o hc e => ⟨o, k b o (fun z => hc (by simp [z])) (fun z => hc (by simp [z])) e⟩) (fun _ _ e => e) (fun _ _ _ e => e) (fun b ps e => ⟨#[], by rw [e]; simp⟩) (fun q => q) (fun m hm => ?_) (fun b u e => ?_) I.bare
  · have e : b = i1 ∨ b = i2 := by simpa using hb
    rcases e with rfl | rfl
    · exact ⟨a1, L1, b1, c1⟩
    · exact ⟨a2, L2, b2, c2⟩
  · obtain ⟨o, es, ep, ho, r⟩ := hm
    exact ⟨o, es, ep, k _ o (Ne.symm L1) (Ne.symm L2) ho, r⟩
  · refine (I.hok b u e).stay (fun c v hc q => k c v ?_ ?_ q) (fun _ q => q) fun _ _ q => q
    · rcases hc with z | z
      · rw [z]; exact ni1 b u e
      · exact ni1 c _ z
    · rcases hc with z | z
      · rw [z]; exact ni2 b u e
      · exact ni2 c _ z
end
theorem nofree {o : Obj} {vs : Array Value} (d : o.data = .fields vs) : o.isFreed = false := by
  obtain ⟨c, dd, dt, sl⟩ := o
  cases d
  rfl
def Ite (K : Frag) (a : Addr) : It :=
  ⟨fun i H => ∃ xs x, SqL K H a xs ∧ xs[i]? = some x, fun i H x H' => ∃ p y, x = .ref p ∧ H p = none ∧ H' = upd H p (.tup [.int i, y]) ∧ ∀ xs, SqL K H a xs → xs[i]? = some y, fun i H => ∃ xs, SqL K H a xs ∧ xs.length ≤ i⟩
theorem turn_enum {P : Program} {w : World} {K : Frag} {elts : List Expr} {x1} {pos : Pos} (a e it : Addr) (ne : e ≠ it) : Turn P w K (.Tuple elts x1 pos) (Ite K a) [e, it] e (fun i h => (∃ old, IsEnum h e it i old) ∧ h.IsListIter it a i) where
  mem := by simp
  obj := fun i h st b hb => by
    obtain ⟨⟨old, h1⟩, o, h2, c, d⟩ := st
    have e : b = e ∨ b = it := by simpa using hb
    rcases e with rfl | rfl
    · exact ⟨_, h1, fun v z => by cases z⟩
    · exact ⟨o, h2, fun v z => by rw [d] at z; cases z⟩
  keep := fun i h h' st k => ⟨⟨_, k e (by simp) _ st.1.choose_spec⟩, st.2.at fun o z => k it (by simp) o z⟩
  item := by
    intro X hP hw hK hc i pins s σ H E I hf st hg
    subst hP hw hK
    obtain ⟨xs, x, hq, hx⟩ := hg
    obtain ⟨its, rv, p, hz⟩ := I.list hq
    obtain ⟨u, hu, ru⟩ := rv.get hx
    obtain ⟨⟨old, he⟩, hi⟩ := st
    have Fe := hf e (by simp)
    have Fi := hf it (by simp)
    refine wpAny_pyNext_enum_item he hi p.isList (x := u) (by simpa using hu) ne fun h1 eo hi1 ht hs1 kk => ?_
    refine ⟨_, rfl, wpAny_letOwnedTupleGo_enum (s := { s with heap := h1, toks := s.toks + 1 }) eo fun h2 he2 sb => ?_⟩
    have sb' : Heap.SameBut e h1 h2 := sb
    have ne2 : s.heap.objs.size ≠ e := Nat.ne_of_gt (Heap.lt_size he)
    have ht2 : h2.get? s.heap.objs.size = some { cls := .type "tuple", data := .seq #[.int i s.toks, u] } := (sb'.2 _ ne2).trans ht
    obtain ⟨oi, hoi, ci, di⟩ := hi
    obtain ⟨oi1, hoi1, ci1, di1⟩ := id hi1
    have hoi2 : h2.get? it = some oi1 := (sb'.2 _ (Ne.symm ne)).trans hoi1
    let hA : Heap := (s.heap.update e fun _ => { cls := .type "enumerate", dict := none, data := .fields #[.none, .bool false, .ref it, rawInt ((i : Int) + 1), .none, u], slots := #[] }).update it fun _ => oi1
    have IA : Inv X pins σ H { s with heap := hA, toks := s.toks } := turned2 I (fun b o z1 z2 q => by
      show hA.get? b = some o
      rw [Heap.get?_update_ne _ _ _ _ z2, Heap.get?_update_ne _ _ _ _ z1]
      exact q) Fe Fi
    have szA : hA.objs.size = s.heap.objs.size := by
      show ((s.heap.update e _).update it _).objs.size = _
      rw [Heap.size_update, Heap.size_update]
    refine ⟨.ref s.heap.objs.size, upd H s.heap.objs.size (.tup [.int i, x]), ?_, rfl, ⟨_, x, rfl, I.hok.fresh (Nat.le_refl _), rfl, fun ys hy => by rw [I.list_inj hy hq]; exact hx⟩, ⟨⟨u, he2⟩, oi1, hoi2, ci1, di1⟩, fun b hb => ?_⟩
    · refine IA.laid (t' := s.toks + 1) (fun b v q => ?_) (Nat.le_of_eq szA) ?_
      · have q' : hA.get? b = some v := q
        by_cases z2 : b = it
        · subst z2
          have hg : (s.heap.update e fun _ => { cls := .type "enumerate", dict := none, data := .fields #[.none, .bool false, .ref b, rawInt ((i : Int) + 1), .none, u], slots := #[] }).get? b = some oi := by
            rw [Heap.get?_update_ne _ _ _ _ (Ne.symm ne)]; exact hoi
          rw [Heap.get?_update_self _ hg (nofree di1)] at q'
          cases q'
          exact hoi2
        · rw [Heap.get?_update_ne _ _ _ _ z2] at q'
          by_cases z1 : b = e
          · subst z1
            rw [Heap.get?_update_self _ he rfl] at q'
            cases q'
            exact he2
          · rw [Heap.get?_update_ne _ _ _ _ z1] at q'
            exact (sb'.2 b z1).trans (kk b v z1 z2 q')
      · exact ⟨by show 2 ≤ sizeLine; decide, [.int i s.toks, u], .cons ⟨_, rfl⟩ (.cons ru .nil), ⟨_, ht2, rfl, _, rfl⟩⟩
    · have nb : b ≠ s.heap.objs.size := by
        have e' : b = e ∨ b = it := by simpa using hb
        rcases e' with rfl | rfl
        · exact Nat.ne_of_lt (Heap.lt_size he)
        · exact Nat.ne_of_lt (Heap.lt_size hoi)
      rw [upd_ne nb]
      exact (hf b hb).1
  done := by
    intro X hP hw hK hc i pins s σ H E I hf st hg
    subst hP hw hK
    obtain ⟨xs, hq, hx⟩ := hg
    obtain ⟨its, rv, p, hz⟩ := I.list hq
    obtain ⟨⟨old, he⟩, hi⟩ := st
    obtain ⟨f0, f1, f2, f3, f4, f5⟩ := hf it (by simp)
    have hl := rv.length
    exact wpAny_pyNext_enum_end (I.ok.hd hc) he hi p.isList (by simp; omega) fun h' eb => ⟨rfl, I.turned (t' := s.toks) (fun b o hb e => eb b o hb e) f0 f1 f3 f4 f5⟩
  self := fun _ _ _ _ _ st h => wpAny_pyIter_enum st.1.choose_spec h
section
variable {X : Cx}
def iEnum (K : Frag) (ta : TA) : TI := fun σ H R => ta σ H fun vs H1 => ∃ a, vs = [.ref a] ∧ (∃ xs, SqL K H1 a xs) ∧ R (Ite K a) H1
theorem pi_enum {elts : List Expr} {x1} {pt : Pos} {a : Expr} {ta : TA} {p pos : Pos} (hg : Gl X "enumerate") (hm : X.mg "enumerate" = none) (ha : PA X [a] ta) (hs : starEach [a] X.env = [(false, eval a X.env)] := by rfl) : PI X (.Tuple elts x1 pt) (.Call (.Name "enumerate" p) [a] [] pos) (iEnum X.K ta) := by
  intro pins s σ H R I h
  refine Call_ (ld_blt I hg hm boot_enumerate (PyProof.Rows.callWith_type1 (thn (ha pos pins s σ H _ I h) fun us s1 ⟨vs, H1, I1, r1, q1⟩ => ?_) hs rfl))
  obtain ⟨l, rfl, ⟨xs, hq⟩, q⟩ := q1
  cases r1 with
  | cons r rr =>
    cases rr
    cases r
    obtain ⟨its, rv, p', hz⟩ := I1.list hq
    refine call_enumerate_list p'.isList fun h' he hi hsz kk => ?_
    refine wpAny_pyIter_enum he ?_
    refine ⟨s1.heap.objs.size + 1, [s1.heap.objs.size + 1, s1.heap.objs.size], _, _, H1, rfl, I1.kept (t' := s1.toks) kk, turn_enum l _ _ (Nat.succ_ne_self _), ⟨⟨_, he⟩, hi⟩, fun b hb => ?_, q⟩
    have e : b = s1.heap.objs.size + 1 ∨ b = s1.heap.objs.size := by simpa using hb
    have le : s1.heap.objs.size ≤ b := by
      rcases e with rfl | rfl
      · exact Nat.le_succ _
      · exact Nat.le_refl _
    exact I1.fpOk le (I1.hok.fresh le)
end
end My
set_option Elab.async false
set_option linter.all false
set_option maxRecDepth 100000
set_option maxHeartbeats 4000000
namespace My
open PySem L2
section
variable {prog : Program} {w : World} {A : Around} {R : Result → Shared → Prop} {s : Shared}
theorem compLoopT {elt target iter : Expr} {scope : Scope} {pos : Pos} {it acc : Value} {env : Env} (J : Nat → Shared → Prop)
    (turn : ∀ n s, J n s → wpAny (model prog w) A (pyNext it) (fun r s₁ => match r with
      | none => R (.ok .next) s₁
      | some v => wpAny (model prog w) A (letOwnedTupleGo target it v) (fun _ s₂ => wpAny (model prog w) A (assign target env v) (fun _ s₃ => wpAny (model prog w) A (eval elt env)
          (fun x s₄ => wpAny (model prog w) A (call (.builtin "list.append") [acc, x]) (fun _ s₅ => ∃ m, m < n ∧ J m s₅) (fun _ _ => False) s₄) (fun _ _ => False) s₃) (fun _ _ => False) s₂) (fun _ _ => False) s₁) (fun _ _ => False) s)
    (n : Nat) (h : J n s) : codeAny (model prog w) A (.compLoop (.ListComp elt [⟨target, iter, [], 0⟩] scope pos) 0 it acc env) R s := by
  refine codeAny_loop rfl J (fun n s hJ => ?_) n h
  show wpAny _ _ (Sem.onRaise (compTurn (.ListComp elt [⟨target, iter, [], 0⟩] scope pos) 0 it acc env) (fun x => do noteFrame x env; theTreesLotGoes x)) _ _ s
  refine wpAny_noted ?_
  rw [compTurn_list1]
  refine wpAny_bind (wpAny_standAt (wpAny_bind (wpAny_mono (turn n s hJ) (fun r s₁ h₁ => ?_) fun _ _ z => z.elim)))
  cases r with
  | none => exact wpAny_pure h₁
  | some v =>
    refine wpAny_bind (wpAny_mono h₁ (fun _ s₂ h₂ => ?_) fun _ _ z => z.elim)
    refine wpAny_bind (wpAny_mono h₂ (fun _ s₃ h₃ => ?_) fun _ _ z => z.elim)
    refine wpAny_bind (wpAny_bind (wpAny_mono h₃ (fun x s₄ h₄ => ?_) fun _ _ z => z.elim))
    refine wpAny_bind (wpAny_mono h₄ (fun _ s₅ h₅ => wpAny_pure (wpAny_pure ⟨rfl, h₅⟩)) fun _ _ z => z.elim)
end
def compCx (X : Cx) (sc : Scope) (cl : List (Str × Addr)) (N : List Str) (s : Shared) (H : Hp) (C : Addr) (fp : List Addr) : Cx where
  prog := X.prog
  w := X.w
  K := X.K
  mg := X.mg
  base := X.base
  A := X.A
  N := N
  s₀ := s
  H₀ := H
  env := compEnvC sc cl C X.env
  outer := X.stack
  stack := X.stack
  ex := fp
  fn := fun _ => false
  calm := X.calm
  pn := []
  xe := fun _ _ => False
def capS (js : List Nat) (σ : St) : St := js.map fun j => (σ[j]?).join
section
variable {X : Cx} {pins : List (Addr × Obj)} {σ : St} {H : Hp} {s : Shared} {sc : Scope} {cl : List (Str × Addr)} {x : Str} {zs : List Str} {js : List Nat} {C : Addr} {fp : List Addr}
end
section
variable {X : Cx} {sc : Scope} {cl : List (Str × Addr)} {x : Str} {zs : List Str} {js : List Nat} {elt iter : Expr} {px pos : Pos} {wi : TI} {te : TE}
end
end My
set_option Elab.async false
set_option linter.all false
set_option maxRecDepth 100000
set_option maxHeartbeats 1000000
namespace My
open PySem PySem.W L2
section
variable {K : Frag} {te : TE} {cap : St} {D : Addr} {H1 : Hp} {Q : Hp → Prop}
end
end My
set_option Elab.async false
set_option linter.all false
set_option maxRecDepth 100000
set_option maxHeartbeats 4000000
namespace My
open PySem L2 PySem.Calls PyProof.Rows
open PySem.Builtin.Str (occurrences partsBetween strSub)
section
variable {X : Cx}
section
variable {P : Program} {w : World} {K : PySem.W.Frag} {tg : Expr}
end
end
end My
set_option Elab.async false
set_option linter.all false
set_option maxRecDepth 100000
set_option maxHeartbeats 4000000
namespace My
open PySem L2
section
variable {prog : Program} {w : World} {A : Around} {R : Result → Shared → Prop} {s : Shared}
theorem compLoopT1 {elt target iter c : Expr} {scope : Scope} {pos : Pos} {it acc : Value} {env : Env} (J : Nat → Shared → Prop)
    (turn : ∀ n s, J n s → wpAny (model prog w) A (pyNext it) (fun r s₁ => match r with
      | none => R (.ok .next) s₁
      | some v => wpAny (model prog w) A (letOwnedTupleGo target it v) (fun _ s₂ => wpAny (model prog w) A (assign target env v) (fun _ s₃ => wpAny (model prog w) A (isTrue c env (eval c env)) (fun k s₀ =>
          (k = false → ∃ m, m < n ∧ J m s₀) ∧ (k = true → wpAny (model prog w) A (eval elt env)
          (fun x s₄ => wpAny (model prog w) A (call (.builtin "list.append") [acc, x]) (fun _ s₅ => ∃ m, m < n ∧ J m s₅) (fun _ _ => False) s₄) (fun _ _ => False) s₀)) (fun _ _ => False) s₃) (fun _ _ => False) s₂) (fun _ _ => False) s₁) (fun _ _ => False) s)
    (n : Nat) (h : J n s) : codeAny (model prog w) A (.compLoop (.ListComp elt [⟨target, iter, [c], 0⟩] scope pos) 0 it acc env) R s := by
  refine codeAny_loop rfl J (fun n s hJ => ?_) n h
  show wpAny _ _ (Sem.onRaise (compTurn (.ListComp elt [⟨target, iter, [c], 0⟩] scope pos) 0 it acc env) (fun x => do noteFrame x env; theTreesLotGoes x)) _ _ s
  refine wpAny_noted ?_
  rw [compTurn_list]
  refine wpAny_bind (wpAny_standAt (wpAny_bind (wpAny_mono (turn n s hJ) (fun r s₁ h₁ => ?_) fun _ _ z => z.elim)))
  cases r with
  | none => exact wpAny_pure h₁
  | some v =>
    refine wpAny_bind (wpAny_mono h₁ (fun _ s₂ h₂ => ?_) fun _ _ z => z.elim)
    refine wpAny_bind (wpAny_mono h₂ (fun _ s₃ h₃ => ?_) fun _ _ z => z.elim)
    refine wpAny_bind (wpAny_tests_one (wpAny_mono h₃ (fun k s₀ h₀ => ?_) fun _ _ z => z.elim))
    cases k with
    | false => exact wpAny_pure ⟨rfl, h₀.1 rfl⟩
    | true =>
      refine wpAny_bind (wpAny_bind (wpAny_mono (h₀.2 rfl) (fun x s₄ h₄ => ?_) fun _ _ z => z.elim))
      refine wpAny_bind (wpAny_mono h₄ (fun _ s₅ h₅ => wpAny_pure (wpAny_pure ⟨rfl, h₅⟩)) fun _ _ z => z.elim)
end
section
variable {X : Cx} {sc : Scope} {cl : List (Str × Addr)} {x : Str} {zs : List Str} {js : List Nat} {elt iter c : Expr} {px pos : Pos} {wi : TI} {te : TE} {tt : TT}
end
end My
set_option Elab.async false
set_option linter.all false
set_option maxRecDepth 100000
set_option maxHeartbeats 4000000
namespace My
open PySem L2
structure CompG (X : Cx) (sc : Scope) (cl : List (Str × Addr)) (ts zs : List Str) (js : List Nat) : Prop where
  clos : closureFor sc X.env = pure cl
  kind : sc.kind = .function
  noCell : ∀ y ∈ sc.names, y.2 ≠ .cell
  names : ∀ y ∈ sc.names, y.2 = .local → sc.names.lookup y.1 = some .local
  var : ∀ x ∈ ts, sc.names.lookup x = some .local
  sub : ∀ z c, cl.lookup z = some c → X.env.cells.lookup z = some c
  has : ∀ z, ((relabel sc X.env).names.lookup z = some .cell ∨ (relabel sc X.env).names.lookup z = some .free) → ∃ c, cl.lookup z = some c
  nd : (ts ++ zs).Nodup
  cap : ∀ (k : Nat) (z : Str), zs[k]? = some z → ∃ j : Nat, js[k]? = some j ∧ X.N[j]? = some z ∧ Vis X.env.scope z ∧ X.env.kindOf z ≠ some .local ∧
    ((relabel sc X.env).names.lookup z = some .cell ∨ (relabel sc X.env).names.lookup z = some .free)
  len : js.length = zs.length
def tLCG (wi : TI) (k : Nat) (js : List Nat) (g : TG) (te : TE) : TE := fun σ H Q => wi σ H fun J H1 => ∀ D, H1 D = none → ∃ W : Nat → Nat → List V → Hp → Prop, (∃ m, W 0 m [] (upd H1 D (.lst []))) ∧
  ∀ i m ys H2, W i m ys H2 → H2 D = some (.lst ys) ∧ ((J.stop i H2 ∧ Q (.ref D) H2) ∨ (J.go i H2 ∧ ys.length < sizeLine ∧
    ∀ x H3, J.yld i H2 x H3 → ∀ os : St, os.length = k → g x (os ++ capS js σ) H3 fun σ2 H0 => (∃ os' : St, os'.length = k ∧ σ2 = os' ++ capS js σ) ∧ te σ2 H0 fun y H4 => H4 D = some (.lst ys) ∧ ∃ m', m' < m ∧ W (i + 1) m' (ys ++ [y]) (upd H4 D (.lst (ys ++ [y])))))
def tLCGif (wi : TI) (k : Nat) (js : List Nat) (g : TG) (tt : TT) (te : TE) : TE := fun σ H Q => wi σ H fun J H1 => ∀ D, H1 D = none → ∃ W : Nat → Nat → List V → Hp → Prop, (∃ m, W 0 m [] (upd H1 D (.lst []))) ∧
  ∀ i m ys H2, W i m ys H2 → H2 D = some (.lst ys) ∧ ((J.stop i H2 ∧ Q (.ref D) H2) ∨ (J.go i H2 ∧ ys.length < sizeLine ∧
    ∀ x H3, J.yld i H2 x H3 → ∀ os : St, os.length = k → g x (os ++ capS js σ) H3 fun σ2 H0 => (∃ os' : St, os'.length = k ∧ σ2 = os' ++ capS js σ) ∧ tt σ2 H0 fun b H5 => (b = false → ∃ m', m' < m ∧ W (i + 1) m' ys H5) ∧
      (b = true → te σ2 H5 fun y H4 => H4 D = some (.lst ys) ∧ ∃ m', m' < m ∧ W (i + 1) m' (ys ++ [y]) (upd H4 D (.lst (ys ++ [y]))))))
section
variable {X : Cx} {pins : List (Addr × Obj)} {σ : St} {H : Hp} {s : Shared} {sc : Scope} {cl : List (Str × Addr)} {ts zs : List Str} {js : List Nat} {C : Addr} {fp : List Addr}
theorem compG_ok (I : Inv X pins σ H s) (S : CompG X sc cl ts zs js) (hf : ∀ b ∈ fp, FpOk X pins H b ∧ b < s.heap.objs.size) (hC : s.heap.objs.size ≤ C) : (compCx X sc cl (ts ++ zs) s H C fp).Ok := by
  refine ⟨I.ok.mod, S.kind, I.ok.glob, I.ok.blt, hC, fun y z c h1 h2 => I.ok.inj y z c (S.sub _ _ h1) (S.sub _ _ h2), fun z h => S.has z h, (fun _ _ h => nomatch h), I.ok.hd, I.ok.frames, .inl rfl, fun b hb => ?_, I.bs, ?_, fun b o e hb => ?_, fun b hb hs => ?_, I.stack, I.stkFree⟩
  · obtain ⟨⟨_, h1, _, _, h4, _⟩, h6⟩ := hf b hb
    exact ⟨fun e => absurd h6 (Nat.not_lt.mpr (by rw [show b = C from e]; exact hC)), fun z c e => h4 z c (S.sub _ _ e)⟩
  · exact Nat.le_trans I.ok.bsz I.sz
  · obtain ⟨⟨_, _, _, h3, _⟩, _⟩ := hf b hb
    rcases h3 with h | h
    · exact I.ok.noex b o e h
    · exact absurd (Heap.lt_size e) (Nat.not_lt.mpr (Nat.le_trans I.ok.bsz h))
  · obtain ⟨⟨_, h1, h2, _⟩, _⟩ := hf b hb
    rcases List.mem_cons.mp (I.stkSub b hs) with e | e
    · exact h1 e
    · exact h2 e
theorem compG_start {s1 : Shared} (I : Inv X pins σ H s) (S : CompG X sc cl ts zs js) (hf : ∀ b ∈ fp, FpOk X pins H b ∧ b < s.heap.objs.size) (hC : s.heap.objs.size ≤ C) (ho : s1.os = s.os) (hg : s1.gens = s.gens)
    (hk : ∀ b o, s.heap.get? b = some o → s1.heap.get? b = some o) {m : Str → Option Value} (hn : s1.heap.Ns C m) : Inv (compCx X sc cl (ts ++ zs) s H C fp) [] (List.replicate ts.length none ++ capS js σ) H s1 := by
  refine ⟨compG_ok I S hf hC, ho, by rw [hg]; exact I.bare, Un.kept hk, ⟨m, hn, fun i y v h1 h2 h3 => ?_⟩, fun z c e => ?_, I.hok.fresh hC, fun z c e => I.freeC z c (S.sub _ _ e), fun p hp => absurd (show p ∈ ([] : List (Addr × Obj)) from hp) (by simp), I.hok.kept hk, ?_⟩
  · rcases Nat.lt_or_ge i ts.length with lt | ge
    · rw [List.getElem?_append_left (by rw [List.length_replicate]; exact lt), List.getElem?_replicate, if_pos lt] at h2
      cases h2
    · have h1' : zs[i - ts.length]? = some y := by
        have h1'' : (ts ++ zs)[i]? = some y := h1
        rw [List.getElem?_append_right ge] at h1''
        exact h1''
      obtain ⟨j, hj, hN, hv, nl, k'⟩ := S.cap _ y h1'
      have h2' : (capS js σ)[i - ts.length]? = some (some v) := by
        rw [List.getElem?_append_right (by rw [List.length_replicate]; exact ge), List.length_replicate] at h2
        exact h2
      have h5 : σ[j]? = some (some v) := by
        unfold capS at h2'
        rw [List.getElem?_map, hj] at h2'
        have h6 : (σ[j]?).join = some v := Option.some.inj h2'
        cases e : σ[j]? with
        | none => rw [e] at h6; cases h6
        | some o => rw [e] at h6; exact congrArg some h6
      obtain ⟨m0, hn0, hl⟩ := I.loc
      obtain ⟨u, ru, lk⟩ := hl j y v hN h5 hv
      refine ⟨u, ru, ?_⟩
      rcases lk with ⟨k1, _⟩ | ⟨_, c, ec, hc⟩
      · exact absurd k1 nl
      · obtain ⟨c', ec'⟩ := S.has y k'
        have e2 := S.sub _ _ ec'
        rw [ec] at e2
        cases e2
        exact .inr ⟨k', c, ec', hc.keeps hk⟩
  · obtain ⟨v, hv⟩ := I.cell z c (S.sub _ _ e)
    exact ⟨v, hv.keeps hk⟩
  · show (List.replicate ts.length none ++ capS js σ : St).length = (ts ++ zs).length
    unfold capS
    rw [List.length_append, List.length_append, List.length_map, List.length_replicate, S.len]
theorem compG_end {s1 : Shared} {σ' : St} {H' : Hp} {h' : Heap} (I : Inv X pins σ H s) (hf : ∀ b ∈ fp, FpOk X pins H b ∧ b < s.heap.objs.size) (hC : s.heap.objs.size ≤ C) (J : Inv (compCx X sc cl (ts ++ zs) s H C fp) [] σ' H' s1)
    (hs : Heap.SameBut C s1.heap h') : Inv X pins σ H' { s1 with heap := h' } := by
  have old : ∀ b o, s1.heap.get? b = some o → b ≠ C → h'.get? b = some o := fun b o e n => (hs.2 b n).trans e
  have lt : ∀ {b o}, s.heap.get? b = some o → b ≠ C := fun {b o} e z => by
    have q := Heap.lt_size e
    rw [z] at q
    exact absurd q (Nat.not_lt.mpr hC)
  have B := J.base
  refine I.call' (s' := { s1 with heap := h' }) (ch := fp) J.os ⟨fun b o e n hb hx => old b o (B.keep b o e n hb hx) (lt e), fun b o e n hb hx => ?_, B.free, fun b o e hx => ?_, B.tups, B.frzs, B.tbls, B.sys⟩ (fun b o e => ?_) J.bare fun b hb => ?_
  · obtain ⟨sl, q⟩ := B.slot b o e n hb hx
    exact ⟨sl, old _ _ q (lt e)⟩
  · obtain ⟨o', q⟩ := B.there b o e hx
    exact ⟨o', old _ _ q (lt e)⟩
  · have nC : ∀ c u, H' c = some u → c ≠ C := fun c u q z => by
      have f : H' C = none := J.free
      rw [z, f] at q; cases q
    refine (J.hok b o e).stay (fun c v hc q => old c v q ?_) (fun _ q => q) fun _ _ q => q
    rcases hc with rfl | hc
    · exact nC _ _ e
    · exact nC _ _ hc
  · obtain ⟨⟨_, h1, _, h3, h4, h5⟩, _⟩ := hf b hb
    exact ⟨h3, h1, h4, h5⟩
end
section
variable {X : Cx} {sc : Scope} {cl : List (Str × Addr)} {ts zs : List Str} {js : List Nat} {elt iter : Expr} {pos : Pos} {tg : Expr} {g : TG} {wi : TI} {te : TE}
theorem pe_lcG (hc : X.calm = true) (S : CompG X sc cl ts zs js) (hi : PI X tg iter wi) (hg : ∀ s H C fp, PG (compCx X sc cl (ts ++ zs) s H C fp) tg g) (he : ∀ s H C fp, PE (compCx X sc cl (ts ++ zs) s H C fp) elt te)
    (hs : ∀ v, foldedSetIterable iter X.env v = pure v := by intro _; rfl) : PE X (.ListComp elt [⟨tg, iter, [], 0⟩] sc pos) (tLCG wi ts.length js g te) := by
  intro pins s σ H Q I h
  rw [eval_ListComp]
  refine wpAny_comprehension_free (use := none) rfl hs S.clos S.kind S.names (thn (hi pins s σ H _ I h) fun v s1 h1 => thn h1 fun itv s2 h2 => ?_)
  obtain ⟨it, fp, tn, J, H2, e, I2, T, st2, f2, body⟩ := h2
  subst e
  have fr2 : H2 s2.heap.objs.size = none := I2.fresh
  obtain ⟨W, ⟨m0, w0⟩, turn⟩ := body _ fr2
  refine wpAny_newObj_type ?_
  have I3 : Inv X pins σ (upd H2 s2.heap.objs.size (.lst [])) { s2 with heap := s2.heap.push { cls := .type "list", data := .seq ([] : List Value).toArray } } := I2.lnew (t' := s2.toks) (ys := []) (its := []) .nil (Nat.zero_le _)
  refine wpAny_newFunctionEnv S.noCell (by intro y hy; simp at hy) (fun h₁ hn hsb => ?_) S.kind
  generalize hs3 : ({ s2 with heap := s2.heap.push { cls := .type "list", data := .seq ([] : List Value).toArray } } : Shared) = s3 at I3 hn hsb ⊢
  have fpl : ∀ b ∈ fp, FpOk X pins (upd H2 s2.heap.objs.size (.lst [])) b ∧ b < s3.heap.objs.size := fun b hb => by
    obtain ⟨o, ho, _⟩ := T.obj _ _ st2 b hb
    have hl := Heap.lt_size ho
    have hne : b ≠ s2.heap.objs.size := Nat.ne_of_lt hl
    obtain ⟨z1, z2⟩ := f2 b hb
    refine ⟨⟨by rw [upd_ne hne]; exact z1, z2⟩, ?_⟩
    rw [← hs3]
    show b < (s2.heap.push _).objs.size
    rw [Heap.size_push]
    exact Nat.lt_succ_of_lt hl
  have old : ∀ b o, s3.heap.get? b = some o → h₁.get? b = some o := fun b o e => hsb.extBut b o (Nat.ne_of_lt (Heap.lt_size e)) (Heap.get?_push_of_some _ e)
  have loop : ∀ sS : Shared, sS.heap = h₁ → sS.os = s3.os → sS.gens = s3.gens → codeAny (model X.prog X.w) X.A (.compLoop (.ListComp elt [⟨tg, iter, [], 0⟩] sc pos) 0 (.ref it) (.ref s2.heap.objs.size) (compEnvC sc cl s3.heap.objs.size X.env))
      (compPost (model X.prog X.w) X.A X.xe none (EP X pins σ Q) (.ref s2.heap.objs.size) s3.heap.objs.size) sS := by
    intro sS eh eo eg
    subst eh
    have J0 : Inv (compCx X sc cl (ts ++ zs) s3 (upd H2 s2.heap.objs.size (.lst [])) s3.heap.objs.size fp) [] (List.replicate ts.length none ++ capS js σ) (upd H2 s2.heap.objs.size (.lst [])) sS := compG_start I3 S fpl (Nat.le_refl _) eo eg old hn
    generalize hX : compCx X sc cl (ts ++ zs) s3 (upd H2 s2.heap.objs.size (.lst [])) s3.heap.objs.size fp = X' at J0
    have stat : ∀ {H' : Hp}, (∀ b ∈ fp, H' b = none) → ∀ b ∈ fp, FpOk X' [] H' b := fun {H'} hn b hb => by
      subst hX
      obtain ⟨⟨_, z1, z2, z3, z4, z5⟩, z6⟩ := fpl b hb
      refine ⟨hn b hb, Nat.ne_of_lt z6, fun q => ?_, .inl hb, fun y c e => z4 y c (S.sub _ _ e), fun p hp => absurd (show p ∈ ([] : List (Addr × Obj)) from hp) (by simp)⟩
      rcases List.mem_cons.mp (I3.stkSub b q) with e | e
      · exact z1 e
      · exact z2 e
    have st3 : tn 0 sS.heap := T.keep _ _ _ st2 fun b hb o e => old b o (by rw [← hs3]; exact Heap.get?_push_of_some _ e)
    refine compLoopT (fun n s' => ∃ i ys os H', os.length = ts.length ∧ Inv X' [] (os ++ capS js σ) H' s' ∧ tn i s'.heap ∧ (∀ b ∈ fp, H' b = none) ∧ W i n ys H') ?_ m0 ⟨0, [], _, _, List.length_replicate, J0, st3, fun b hb => (fpl b hb).1.1, w0⟩
    rintro n s' ⟨i, ys, os, H', los, Iv, st, fr, w⟩
    obtain ⟨hD, alt⟩ := turn i n ys H' w
    have eP : X'.prog = X.prog := by subst hX; rfl
    have eW : X'.w = X.w := by subst hX; rfl
    have eK : X'.K = X.K := by subst hX; rfl
    have eC : X'.calm = true := by subst hX; exact hc
    have eA : X'.A = X.A := by subst hX; rfl
    have eE : X'.env = compEnvC sc cl s3.heap.objs.size X.env := by subst hX; rfl
    have eX : X'.xe = fun _ _ => False := by subst hX; rfl
    rcases alt with ⟨stop, q⟩ | ⟨go, hlen, step⟩
    · have d := T.done X' eP eW eK eC i [] s' _ H' (fun _ _ => False) Iv (stat fr) st stop
      rw [eA] at d
      refine thn d fun r s4 ⟨hr, I4⟩ => ?_
      subst hr
      obtain ⟨m, hm, _⟩ := id I4.loc
      rw [eE] at hm
      subst hX
      exact ⟨m, hm, fun h' hs' => ⟨.ref s2.heap.objs.size, H', compG_end I3 fpl (Nat.le_refl _) I4 hs', rfl, q⟩⟩
    · have d := T.item X' eP eW eK eC i [] s' _ H' (fun _ _ => False) Iv (stat fr) st go
      rw [eA] at d
      refine thn d fun r s4 ⟨u, hr, h4⟩ => ?_
      subst hr
      refine thn h4 fun _ s5 ⟨y, H5, I5, r5, y5, st5, fr5⟩ => ?_
      have I5' := I5.pinned (stat fr5) (T.obj _ _ st5)
      have hg' : PG X' tg g := by subst hX; exact hg _ _ _ _
      have g6 := hg' _ s5 _ H5 y u _ I5' r5 (step y H5 y5 os los)
      rw [eP, eW, eA, eE, eX] at g6
      refine thn g6 fun _ s6 ⟨σ6, H6, I6, ⟨os', los', e6⟩, st6⟩ => ?_
      subst e6
      have he' : PE X' elt te := by subst hX; exact he _ _ _ _
      have g7 := he' _ s6 _ H6 _ I6 st6
      rw [eP, eW, eA, eE, eX] at g7
      refine thn g7 fun uv s7 ⟨v7, H7, I7, r7, hD7, m', hm', w7⟩ => ?_
      have g8 := (mt_append (X := X')) _ s7 _ H7 (.ref s2.heap.objs.size) [v7] (.ref s2.heap.objs.size) [uv] (fun _ H8 => H8 = upd H7 s2.heap.objs.size (.lst (ys ++ [v7]))) I7 rfl (.cons r7 .nil) ⟨_, ys, v7, rfl, rfl, hD7, hlen, rfl⟩
      rw [eP, eW, eA, eX] at g8
      refine thn g8 fun _ s8 ⟨_, H8, I8, _, e8⟩ => ?_
      subst e8
      refine ⟨m', hm', i + 1, ys ++ [v7], os', _, los', I8.unpinned, T.keep _ _ _ st5 fun b hb o e => (I8.pin (b, o) (List.mem_append_right _ (List.mem_append_right _ (mem_pinsAt hb e)))).1, fun b hb => ?_, w7⟩
      obtain ⟨o', e', _⟩ := T.obj _ _ st5 b hb
      exact (I8.pin (b, o') (List.mem_append_right _ (List.mem_append_right _ (mem_pinsAt hb e')))).2.1
  have st1 : tn 0 h₁ := T.keep _ _ _ st2 fun b hb o e => old b o (by rw [← hs3]; exact Heap.get?_push_of_some _ e)
  exact codeAny_compStart_list (loop _ rfl rfl rfl) (T.self _ 0 _ _ _ st1 (loop _ rfl rfl rfl))
end
section
variable {X : Cx} {sc : Scope} {cl : List (Str × Addr)} {ts zs : List Str} {js : List Nat} {elt iter c : Expr} {pos : Pos} {tg : Expr} {g : TG} {wi : TI} {te : TE} {tt : TT}
theorem pe_lcGI (hc : X.calm = true) (S : CompG X sc cl ts zs js) (hi : PI X tg iter wi) (hg : ∀ s H C fp, PG (compCx X sc cl (ts ++ zs) s H C fp) tg g) (ht : ∀ s H C fp, PT (compCx X sc cl (ts ++ zs) s H C fp) c tt) (he : ∀ s H C fp, PE (compCx X sc cl (ts ++ zs) s H C fp) elt te)
    (hs : ∀ v, foldedSetIterable iter X.env v = pure v := by intro _; rfl) : PE X (.ListComp elt [⟨tg, iter, [c], 0⟩] sc pos) (tLCGif wi ts.length js g tt te) := by
  intro pins s σ H Q I h
  rw [eval_ListComp]
  refine wpAny_comprehension_free (use := none) rfl hs S.clos S.kind S.names (thn (hi pins s σ H _ I h) fun v s1 h1 => thn h1 fun itv s2 h2 => ?_)
  obtain ⟨it, fp, tn, J, H2, e, I2, T, st2, f2, body⟩ := h2
  subst e
  have fr2 : H2 s2.heap.objs.size = none := I2.fresh
  obtain ⟨W, ⟨m0, w0⟩, turn⟩ := body _ fr2
  refine wpAny_newObj_type ?_
  have I3 : Inv X pins σ (upd H2 s2.heap.objs.size (.lst [])) { s2 with heap := s2.heap.push { cls := .type "list", data := .seq ([] : List Value).toArray } } := I2.lnew (t' := s2.toks) (ys := []) (its := []) .nil (Nat.zero_le _)
  refine wpAny_newFunctionEnv S.noCell (by intro y hy; simp at hy) (fun h₁ hn hsb => ?_) S.kind
  generalize hs3 : ({ s2 with heap := s2.heap.push { cls := .type "list", data := .seq ([] : List Value).toArray } } : Shared) = s3 at I3 hn hsb ⊢
  have fpl : ∀ b ∈ fp, FpOk X pins (upd H2 s2.heap.objs.size (.lst [])) b ∧ b < s3.heap.objs.size := fun b hb => by
    obtain ⟨o, ho, _⟩ := T.obj _ _ st2 b hb
    have hl := Heap.lt_size ho
    have hne : b ≠ s2.heap.objs.size := Nat.ne_of_lt hl
    obtain ⟨z1, z2⟩ := f2 b hb
    refine ⟨⟨by rw [upd_ne hne]; exact z1, z2⟩, ?_⟩
    rw [← hs3]
    show b < (s2.heap.push _).objs.size
    rw [Heap.size_push]
    exact Nat.lt_succ_of_lt hl
  have old : ∀ b o, s3.heap.get? b = some o → h₁.get? b = some o := fun b o e => hsb.extBut b o (Nat.ne_of_lt (Heap.lt_size e)) (Heap.get?_push_of_some _ e)
  have loop : ∀ sS : Shared, sS.heap = h₁ → sS.os = s3.os → sS.gens = s3.gens → codeAny (model X.prog X.w) X.A (.compLoop (.ListComp elt [⟨tg, iter, [c], 0⟩] sc pos) 0 (.ref it) (.ref s2.heap.objs.size) (compEnvC sc cl s3.heap.objs.size X.env))
      (compPost (model X.prog X.w) X.A X.xe none (EP X pins σ Q) (.ref s2.heap.objs.size) s3.heap.objs.size) sS := by
    intro sS eh eo eg
    subst eh
    have J0 : Inv (compCx X sc cl (ts ++ zs) s3 (upd H2 s2.heap.objs.size (.lst [])) s3.heap.objs.size fp) [] (List.replicate ts.length none ++ capS js σ) (upd H2 s2.heap.objs.size (.lst [])) sS := compG_start I3 S fpl (Nat.le_refl _) eo eg old hn
    generalize hX : compCx X sc cl (ts ++ zs) s3 (upd H2 s2.heap.objs.size (.lst [])) s3.heap.objs.size fp = X' at J0
    have stat : ∀ {H' : Hp}, (∀ b ∈ fp, H' b = none) → ∀ b ∈ fp, FpOk X' [] H' b := fun {H'} hn b hb => by
      subst hX
      obtain ⟨⟨_, z1, z2, z3, z4, z5⟩, z6⟩ := fpl b hb
      refine ⟨hn b hb, Nat.ne_of_lt z6, fun q => ?_, .inl hb, fun y c e => z4 y c (S.sub _ _ e), fun p hp => absurd (show p ∈ ([] : List (Addr × Obj)) from hp) (by simp)⟩
      rcases List.mem_cons.mp (I3.stkSub b q) with e | e
      · exact z1 e
      · exact z2 e
    have st3 : tn 0 sS.heap := T.keep _ _ _ st2 fun b hb o e => old b o (by rw [← hs3]; exact Heap.get?_push_of_some _ e)
    refine compLoopT1 (fun n s' => ∃ i ys os H', os.length = ts.length ∧ Inv X' [] (os ++ capS js σ) H' s' ∧ tn i s'.heap ∧ (∀ b ∈ fp, H' b = none) ∧ W i n ys H') ?_ m0 ⟨0, [], _, _, List.length_replicate, J0, st3, fun b hb => (fpl b hb).1.1, w0⟩
    rintro n s' ⟨i, ys, os, H', los, Iv, st, fr, w⟩
    obtain ⟨hD, alt⟩ := turn i n ys H' w
    have eP : X'.prog = X.prog := by subst hX; rfl
    have eW : X'.w = X.w := by subst hX; rfl
    have eK : X'.K = X.K := by subst hX; rfl
    have eC : X'.calm = true := by subst hX; exact hc
    have eA : X'.A = X.A := by subst hX; rfl
    have eE : X'.env = compEnvC sc cl s3.heap.objs.size X.env := by subst hX; rfl
    have eX : X'.xe = fun _ _ => False := by subst hX; rfl
    rcases alt with ⟨stop, q⟩ | ⟨go, hlen, step⟩
    · have d := T.done X' eP eW eK eC i [] s' _ H' (fun _ _ => False) Iv (stat fr) st stop
      rw [eA] at d
      refine thn d fun r s4 ⟨hr, I4⟩ => ?_
      subst hr
      obtain ⟨m, hm, _⟩ := id I4.loc
      rw [eE] at hm
      subst hX
      exact ⟨m, hm, fun h' hs' => ⟨.ref s2.heap.objs.size, H', compG_end I3 fpl (Nat.le_refl _) I4 hs', rfl, q⟩⟩
    · have d := T.item X' eP eW eK eC i [] s' _ H' (fun _ _ => False) Iv (stat fr) st go
      rw [eA] at d
      refine thn d fun r s4 ⟨u, hr, h4⟩ => ?_
      subst hr
      refine thn h4 fun _ s5 ⟨y, H5, I5, r5, y5, st5, fr5⟩ => ?_
      have I5' := I5.pinned (stat fr5) (T.obj _ _ st5)
      have hg' : PG X' tg g := by subst hX; exact hg _ _ _ _
      have g6 := hg' _ s5 _ H5 y u _ I5' r5 (step y H5 y5 os los)
      rw [eP, eW, eA, eE, eX] at g6
      refine thn g6 fun _ s6 ⟨σ6, H6, I6, ⟨os', los', e6⟩, st6⟩ => ?_
      subst e6
      have ht' : PT X' c tt := by subst hX; exact ht _ _ _ _
      have g0 := ht' _ s6 _ H6 _ I6 st6
      rw [eP, eW, eA, eE, eX] at g0
      refine thn g0 fun k sk ⟨Hk, Ik, qk⟩ => ?_
      cases k with
      | false =>
        obtain ⟨m', hm', w7⟩ := qk.1 rfl
        refine ⟨fun _ => ?_, fun z => nomatch z⟩
        refine ⟨m', hm', i + 1, ys, os', _, los', Ik.unpinned, T.keep _ _ _ st5 fun b hb o e => (Ik.pin (b, o) (List.mem_append_right _ (List.mem_append_right _ (mem_pinsAt hb e)))).1, fun b hb => ?_, w7⟩
        obtain ⟨o', e', _⟩ := T.obj _ _ st5 b hb
        exact (Ik.pin (b, o') (List.mem_append_right _ (List.mem_append_right _ (mem_pinsAt hb e')))).2.1
      | true =>
      refine ⟨fun z => (nomatch z), fun _ => ?_⟩
      have he' : PE X' elt te := by subst hX; exact he _ _ _ _
      have g7 := he' _ sk _ Hk _ Ik (qk.2 rfl)
      rw [eP, eW, eA, eE, eX] at g7
      refine thn g7 fun uv s7 ⟨v7, H7, I7, r7, hD7, m', hm', w7⟩ => ?_
      have g8 := (mt_append (X := X')) _ s7 _ H7 (.ref s2.heap.objs.size) [v7] (.ref s2.heap.objs.size) [uv] (fun _ H8 => H8 = upd H7 s2.heap.objs.size (.lst (ys ++ [v7]))) I7 rfl (.cons r7 .nil) ⟨_, ys, v7, rfl, rfl, hD7, hlen, rfl⟩
      rw [eP, eW, eA, eX] at g8
      refine thn g8 fun _ s8 ⟨_, H8, I8, _, e8⟩ => ?_
      subst e8
      refine ⟨m', hm', i + 1, ys ++ [v7], os', _, los', I8.unpinned, T.keep _ _ _ st5 fun b hb o e => (I8.pin (b, o) (List.mem_append_right _ (List.mem_append_right _ (mem_pinsAt hb e)))).1, fun b hb => ?_, w7⟩
      obtain ⟨o', e', _⟩ := T.obj _ _ st5 b hb
      exact (I8.pin (b, o') (List.mem_append_right _ (List.mem_append_right _ (mem_pinsAt hb e')))).2.1
  have st1 : tn 0 h₁ := T.keep _ _ _ st2 fun b hb o e => old b o (by rw [← hs3]; exact Heap.get?_push_of_some _ e)
  exact codeAny_compStart_list (loop _ rfl rfl rfl) (T.self _ 0 _ _ _ st1 (loop _ rfl rfl rfl))
end
end My
set_option Elab.async false
set_option linter.all false
set_option maxRecDepth 100000
set_option maxHeartbeats 1000000
namespace My
open PySem PySem.W L2
section
variable {X : Cx} {CX : CXT} {k : Nat} {f D : Addr} {fd : FuncData} {ps : List Str} {sp : Sp} {E : XK} {x m : Str} {p pos apos : Pos} {e : Expr} {es : List Expr} {t : TA} {dvs : List V} {ds : List Value}
end
end My
set_option Elab.async false
set_option linter.all false
set_option maxRecDepth 100000
set_option maxHeartbeats 4000000
namespace My
open PySem L2
open PySem.Builtin.Str (occurrences partsBetween strSub)
def fig (c : Nat) : Bool := decide (48 ≤ c) && decide (c ≤ 57)
def figs (L : List Nat) : Bool := !L.isEmpty && !(L.head? == some 48 && L != [48]) && L.all fig
abbrev cs (z : Str) : List Nat := z.cps.toList
abbrev val (L : List Nat) : Nat := NumText.digitsVal L
def okS (a b : List Nat) : Bool := figs a && figs b && decide (2 ≤ val b) && decide (1 ≤ val a) && decide (val a < val b) && decide (Nat.gcd (val a) (val b) = 1)
def rd (z : Str) : Option (Nat × Nat) :=
  if z = "0" then some (0, 1) else if z = "1" then some (1, 1) else
    match Txt.split z ⟨#[47]⟩ with
    | [a, b] => if okS (cs a) (cs b) = true then some (val (cs a), val (cs b)) else none
    | _ => none
abbrev tx (n : Nat) : Str := Str.ofString (toString ((n : Nat) : Int))
end My
set_option Elab.async false
set_option linter.all false
set_option maxRecDepth 100000
set_option maxHeartbeats 1000000
namespace My
open PySem PySem.W L2
theorem itT {A B : Prop} (h : A) : if true = true then A else B := by rw [if_pos rfl]; exact h
theorem itF {A B : Prop} (h : B) : if false = true then A else B := by rw [if_neg (by decide)]; exact h
def Ext (H H' : Hp) : Prop := ∀ b o, H b = some o → H' b = some o
theorem Ext.refl (H : Hp) : Ext H H := fun _ _ h => h
theorem Ext.trans {H H1 H2 : Hp} (a : Ext H H1) (b : Ext H1 H2) : Ext H H2 := fun x o h => b x o (a x o h)
theorem Ext.new {H : Hp} {p : Addr} {o : HO} (h : H p = none) : Ext H (upd H p o) := fun b u e => by rw [upd_ne (ne_of_none e h)]; exact e
theorem pe_ty {X : Cx} {x : Str} {n : String} {pos : Pos} (hg : Gl X x) (hm : X.mg x = none) (hv : bootBuiltins x = some (.type n)) (hn : x ≠ "__name__" := by decide +kernel) (hd : (x == ("__debug__" : Str)) = false := by decide) : PE X (.Name x pos) (tC (.ty n)) :=
  pe_bltn hg hm hv (show RelV (.ty n) (.type n) from rfl) hn hd
def Kd (K : Frag) (H : Hp) (x : V) (t : Value) : Prop := TyOf K H x t ∨ (∃ p xs, x = .ref p ∧ SqT K H p xs ∧ t = .type "tuple") ∨ (∃ a C, x = .ref a ∧ ErrAt H a C ∧ ErrI K C ∧ t = .ref C)
def rIsK (K : Frag) : List V → Hp → VK → Prop := fun vs H Q => ∃ x n t b, vs = [x, .ty n] ∧ Kd K H x t ∧ kitOne K t (.type n) = some b ∧ Q (.bl b) H
theorem call_isK {X : Cx} (N : IsT X.K) : CallR X (.builtin "isinstance") (rIsK X.K) := by
  intro pins s σ H xs us Q I r h
  obtain ⟨x, n, t, b, rfl, kd, e, q⟩ := h
  obtain ⟨u, u', rfl, ru, ru'⟩ := vals2 r
  cases (show u' = Value.type n from ru')
  rcases kd with ty | ⟨p, ys, rfl, hq, rfl⟩ | ⟨a, C, rfl, ea, T, rfl⟩
  · exact isinst_ok I ru ty e fun tk => ⟨.bl b, H, I.tok _, rfl, q⟩
  · cases (show u = Value.ref p from ru)
    obtain ⟨its, _, ⟨o, h1, h2, _⟩, _⟩ := I.tuple hq
    exact kia_one kitx_tuple I.kIn ⟨o, h1, h2⟩ e (fun z => nomatch z) fun tk => ⟨.bl b, H, I.tok _, rfl, q⟩
  · cases (show u = Value.ref a from ru)
    exact kia_one (kitErr T N.gt N.tk) I.kIn (ea.inst I.hok) e (fun z => nomatch z) fun tk => ⟨.bl b, H, I.tok _, rfl, q⟩
def NoInt (K : Frag) (H : Hp) (x : V) : Prop := (∀ i, x ≠ .int i) ∧ ∃ t b1 b2, Kd K H x t ∧ kitOne K t (.type "int") = some b1 ∧ kitOne K t (.type "bool") = some b2 ∧ (b1 && !b2) = false
def Th (K : Frag) (H : Hp) (x : V) : Prop := (∃ i, x = .int i) ∨ NoInt K H x
def numB : V → Bool
  | .int _ => true
  | _ => false
def inB (lo hi : Int) : V → Bool
  | .int i => decide (lo ≤ i) && decide (i ≤ hi)
  | _ => false
theorem numB_no {x : V} (h : ∀ i, x ≠ .int i) : numB x = false := by
  cases x with
  | int i => exact absurd rfl (h i)
  | _ => rfl
theorem inB_no {lo hi : Int} {x : V} (h : ∀ i, x ≠ .int i) : inB lo hi x = false := by
  cases x with
  | int i => exact absurd rfl (h i)
  | _ => rfl
section
variable {P : Program} {w : World} {K : Frag} {mg : Str → Option Value} {base : Heap}
theorem k_ii : kitOne K (.type "int") (.type "int") = some true := rfl
theorem k_ib : kitOne K (.type "int") (.type "bool") = some false := rfl
end
end My
set_option Elab.async false
set_option linter.all false
set_option maxRecDepth 100000
set_option maxHeartbeats 1000000
namespace My
open PySem PySem.W L2
def FncO (f : Addr) (fd : FuncData) : HO := .ext fun h => h.get? f = some { cls := .type "function", data := .func fd }
def CodO (c : Addr) (q : Str) : HO := .ext fun h => h.CodeRec (.ref c) q
def CelO (c : Addr) (v : V) : HO := .ext fun h => ∃ u, RelV v u ∧ h.IsCell c (some u)
section
variable {P : Program} {w : World} {H : Hp} {h : Heap} {f c : Addr} {fd : FuncData} {q : Str} {v : V} {u : Value}
theorem fncO_ok (e : h.get? f = some { cls := .type "function", data := .func fd }) : ObjOk P w H h f (FncO f fd) := ⟨e, ⟨_, e⟩, fun h1 h2 p k => k _ p⟩
theorem codO_ok (e : h.CodeRec (.ref c) q) : ObjOk P w H h c (CodO c q) := by
  obtain ⟨c', o, vs, t, e0, e1, e2, e3⟩ := id e
  cases e0
  exact ⟨e, ⟨o, e1⟩, fun h1 h2 p k => by
    obtain ⟨c', o, vs, t, e0, e1, e2, e3⟩ := p
    cases e0
    exact ⟨_, o, vs, t, rfl, k _ e1, e2, e3⟩⟩
theorem celO_ok (r : RelV v u) (e : h.IsCell c (some u)) : ObjOk P w H h c (CelO c v) := by
  obtain ⟨o, e1, e2⟩ := id e
  exact ⟨⟨u, r, e⟩, ⟨o, e1⟩, fun h1 h2 p k => by
    obtain ⟨u, r, o, e1, e2⟩ := p
    exact ⟨u, r, o, k _ e1, e2⟩⟩
end
def ExtP (pl : Addr) (H H' : Hp) : Prop := ∀ b o, H b = some o → b ≠ pl → H' b = some o
def trip : List (Pos × Addr × Str) → List Value
  | [] => []
  | (pos, c, _) :: L => rawInt pos.line :: rawInt pos.col :: .ref c :: trip L
def TabOk (H : Hp) (pl : Addr) (al : List (Pos × Str)) : Prop := ∃ L, H pl = some (.tbl (trip L).toArray) ∧ ∀ e ∈ L, (e.1, e.2.2) ∈ al ∧ H e.2.1 = some (CodO e.2.1 e.2.2)
structure TabP (al : List (Pos × Str)) (pos : Pos) (q : Str) : Prop where
  mem : (pos, q) ∈ al
  uq : ∀ a ∈ al, a.1.line = pos.line → a.1.col = pos.col → a.2 = q
theorem trip_ok : ∀ L, TriplesOk (trip L)
  | [] => by simp [trip, TriplesOk]
  | (pos, c, q) :: L => by simp only [trip, rawInt, TriplesOk]; exact trip_ok L
theorem trip_among (pos : Pos) : ∀ L, codeAmong pos (trip L) = none ∨ ∃ e ∈ L, e.1.line = pos.line ∧ e.1.col = pos.col ∧ codeAmong pos (trip L) = some (.ref e.2.1)
  | [] => .inl (by simp [trip, codeAmong])
  | (p, c, q) :: L => by
    simp only [trip, rawInt, codeAmong]
    by_cases z : ((p.line : Int) == (pos.line : Int) && (p.col : Int) == (pos.col : Int)) = true
    · rw [if_pos z]
      rw [Bool.and_eq_true, beq_iff_eq, beq_iff_eq] at z
      exact .inr ⟨(p, c, q), List.mem_cons_self .., Int.ofNat.inj z.1, Int.ofNat.inj z.2, rfl⟩
    · rw [if_neg z]
      rcases trip_among pos L with h | ⟨e, he, h1, h2, h3⟩
      · exact .inl h
      · exact .inr ⟨e, List.mem_cons_of_mem _ he, h1, h2, h3⟩
theorem trip_snoc {pos : Pos} {c : Addr} {q : Str} : ∀ L, trip (L ++ [(pos, c, q)]) = trip L ++ [rawInt pos.line, rawInt pos.col, .ref c]
  | [] => rfl
  | (p, c', q') :: L => by simp only [List.cons_append, trip]; rw [trip_snoc L]
structure MkK (K : Frag) (mg : Str → Option Value) (base : Heap) (c pl : Addr) : Prop where
  ch : ∀ h : Heap, K.In h → CodeHd h c pl
  ba : base.BuiltinsAt mg pl
structure Made (H H' : Hp) (pl : Addr) (al : List (Pos × Str)) (qual : Str) (f : Addr) (fd : FuncData) (c' : Addr) : Prop where
  ext : ExtP pl H H'
  new : H f = none
  fn : H' f = some (FncO f fd)
  cd : H' c' = some (CodO c' qual)
  tb : TabOk H' pl al
section
variable {X : Cx} {pins : List (Addr × Obj)} {σ : St} {H : Hp} {s : Shared}
theorem mk_new {h1 : Heap} {pl c' : Addr} {pos : Pos} {qual : Str} {fd : FuncData} {tk : Nat} {al : List (Pos × Str)} {L : List (Pos × Addr × Str)} (I : Inv X pins σ H s) (e : H pl = some (.tbl (trip L).toArray)) (hL : ∀ e ∈ L, (e.1, e.2.2) ∈ al ∧ H e.2.1 = some (CodO e.2.1 e.2.2)) (mem : (pos, qual) ∈ al) (eb : Heap.ExtBut pl s.heap h1) (lc : s.heap.objs.size ≤ c') (cl : c' < h1.objs.size) (cr : h1.CodeRec (.ref c') qual) (et : h1.get? pl = some (tabObj (trip (L ++ [(pos, c', qual)])).toArray)) :
    ∃ H', Inv X pins σ H' { s with heap := h1.push { cls := .type "function", data := .func fd }, toks := tk } ∧ Made H H' pl al qual h1.objs.size fd c' := by
  have lf : s.heap.objs.size ≤ h1.objs.size := Nat.le_trans lc (Nat.le_of_lt cl)
  have old : ∀ b o, b ≠ pl → s.heap.get? b = some o → (h1.push { cls := .type "function", data := .func fd }).get? b = some o := fun b o n q => Heap.get?_push_of_some _ (eb b o n q)
  have lt : ∀ b u, H b = some u → b < s.heap.objs.size := fun b u q => I.hok.lt q
  have ncf : c' ≠ h1.objs.size := Nat.ne_of_lt cl
  have plt := lt _ _ e
  have ncp : c' ≠ pl := Nat.ne_of_gt (Nat.lt_of_lt_of_le plt lc)
  have nfp : h1.objs.size ≠ pl := Nat.ne_of_gt (Nat.lt_of_lt_of_le plt lf)
  let H' : Hp := fun b => if b = h1.objs.size then some (FncO h1.objs.size fd) else if b = c' then some (CodO c' qual) else if b = pl then some (.tbl (trip (L ++ [(pos, c', qual)])).toArray) else H b
  have hf : H' h1.objs.size = some (FncO h1.objs.size fd) := if_pos rfl
  have hc : H' c' = some (CodO c' qual) := by show (if _ then _ else _) = _; rw [if_neg ncf, if_pos rfl]
  have hp : H' pl = some (.tbl (trip (L ++ [(pos, c', qual)])).toArray) := by show (if _ then _ else _) = _; rw [if_neg (Ne.symm nfp), if_neg (Ne.symm ncp), if_pos rfl]
  have ho : ∀ b, b < s.heap.objs.size → b ≠ pl → H' b = H b := fun b l n => by
    show (if _ then _ else _) = _
    rw [if_neg (Nat.ne_of_lt (Nat.lt_of_lt_of_le l lf)), if_neg (Nat.ne_of_lt (Nat.lt_of_lt_of_le l lc)), if_neg n]
  have np : ∀ b u, H b = some u → u ≠ .tbl (trip L).toArray → b ≠ pl := fun b u q n z => by
    rw [z, e] at q
    exact n (Option.some.inj q).symm
  have keepH : ∀ b u, H b = some u → u ≠ .tbl (trip L).toArray → H' b = some u := fun b u q n => by rw [ho b (lt b u q) (np b u q n)]; exact q
  have un : Un X.fs [] H H' s.heap (h1.push { cls := .type "function", data := .func fd }) := by
    have nn : ∀ b, H b = none → b ≠ pl := fun b q z => by rw [z, e] at q; cases q
    refine ⟨fun b o q n _ _ => old b o (nn b n) q, fun b o q n _ _ => ⟨o.slots, old b o (nn b n) q⟩, fun b o q n _ => ?_, fun b o q _ => ?_, fun b xs q => keepH b _ q (fun z => by cases z), fun b o u q => keepH b _ q (fun z => by cases z), fun b ps q => ?_, fun q => ?_⟩
    · rw [ho b (Heap.lt_size q) (nn b n)]; exact n
    · by_cases z : b = pl
      · subst z; exact ⟨_, Heap.get?_push_of_some _ et⟩
      · exact ⟨o, old b o z q⟩
    · by_cases z : b = pl
      · subst z
        rw [e] at q
        cases q
        exact ⟨#[rawInt pos.line, rawInt pos.col, .ref c'], by rw [hp, trip_snoc]; simp⟩
      · exact ⟨#[], by rw [ho b (lt b _ q) z, q]; simp⟩
    · rw [ho _ I.big (nn _ q)]; exact q
  have hok : HOk X.prog X.w H' (h1.push { cls := .type "function", data := .func fd }) := fun b u q => by
    by_cases z1 : b = h1.objs.size
    · subst z1
      rw [hf] at q
      cases q
      exact fncO_ok (Heap.get?_push_size _ rfl)
    by_cases z2 : b = c'
    · subst z2
      rw [hc] at q
      cases q
      obtain ⟨c0, o, vs, t, e0, e1, e2, e3⟩ := cr
      cases e0
      exact codO_ok ⟨_, o, vs, t, rfl, Heap.get?_push_of_some _ e1, e2, e3⟩
    by_cases z3 : b = pl
    · subst z3
      rw [hp] at q
      cases q
      exact Heap.get?_push_of_some _ et
    have q' : H b = some u := by
      have : H' b = H b := by show (if _ then _ else _) = _; rw [if_neg z1, if_neg z2, if_neg z3]
      rw [← this]; exact q
    refine (I.hok b u q').stay (fun d v hd g => old d v ?_ g) (fun d g => keepH d _ g (fun z => by cases z)) fun d xs g => keepH d _ g (fun z => by cases z)
    rcases hd with rfl | hd
    · exact z3
    · exact np d _ hd (fun z => by cases z)
  refine ⟨H', I.un un hok, ⟨fun b o q n => by rw [ho b (lt b o q) n]; exact q, I.hok.fresh lf, hf, hc, L ++ [(pos, c', qual)], hp, fun d hd => ?_⟩⟩
  rcases List.mem_append.mp hd with hd | hd
  · exact ⟨(hL d hd).1, keepH _ _ (hL d hd).2 (fun z => by cases z)⟩
  · rw [List.mem_singleton.mp hd]
    exact ⟨mem, hc⟩
theorem mk_hit {h1 : Heap} {pl c' : Addr} {qual : Str} {fd : FuncData} {tk : Nat} {al : List (Pos × Str)} (I : Inv X pins σ H s) (tb : TabOk H pl al) (ec : H c' = some (CodO c' qual)) (k : ∀ b o, s.heap.get? b = some o → h1.get? b = some o) (le : s.heap.objs.size ≤ h1.objs.size) :
    ∃ H', Inv X pins σ H' { s with heap := h1.push { cls := .type "function", data := .func fd }, toks := tk } ∧ Made H H' pl al qual h1.objs.size fd c' := by
  have fr : H h1.objs.size = none := I.hok.fresh le
  have I1 : Inv X pins σ (upd H h1.objs.size (FncO h1.objs.size fd)) { s with heap := h1.push { cls := .type "function", data := .func fd }, toks := tk } := I.laid (fun b u q => Heap.get?_push_of_some _ (k b u q)) le (fncO_ok (Heap.get?_push_size _ rfl))
  have x : Ext H (upd H h1.objs.size (FncO h1.objs.size fd)) := Ext.new fr
  obtain ⟨L, e, hL⟩ := tb
  exact ⟨_, I1, ⟨fun b o q _ => x b o q, fr, upd_same, x _ _ ec, L, x _ _ e, fun d hd => ⟨(hL d hd).1, x _ _ (hL d hd).2⟩⟩⟩
theorem wp_mkDef {M : Model} {A : Around} {E : Value → Shared → Prop} {name qual : Str} {params : Arguments} {body : List Stmt} {scope : Scope} {c pl : Addr} {pos : Pos} {fl : Nat} {clos : List (Str × Addr)} {Q : Value → Shared → Prop} (I : Inv X pins σ H s) (hcd : X.env.code = .ref c) (Z : MkK X.K X.mg X.base c pl) {al : List (Pos × Str)} (tb : TabOk H pl al) (tp : TabP al pos qual) (hcl : closureFor scope X.env = pure clos)
    (h : ∀ f c' ctv doc pm H' s', Inv X pins σ H' s' → Made H H' pl al qual f (fnX name qual params body scope clos .none .none doc pm none (.ref c') ctv) c' → Q (.ref f) s') : wpAny M A (makeFunction name qual params (.stmts body) scope X.env [] [] [] pos fl) Q E s := by
  have kin := I.kIn
  have ns := I.mod.glob.keeps I.bk
  obtain ⟨L, e, hL⟩ := id tb
  have et : s.heap.get? pl = some (tabObj (trip L).toArray) := I.hok pl _ e
  rcases trip_among pos L with am | ⟨d, hd, l1, l2, am⟩
  · skip
    have nm : mainGlobals ≠ pl := fun z => by
      obtain ⟨o, _, _, ho, _⟩ := I.mod.glob
      have := (I.bs _ _ ho).2
      rw [z, e] at this
      cases this
    refine makeFunction_K hcl I.ok.glob ns hcd (Z.ch _ kin) et (by simpa using trip_ok L) (by simpa using am) nm (Z.ba.keeps I.bk) fun c' ctv doc h1 tk eb lc cl cr ht => ?_
    obtain ⟨H', I', m⟩ := mk_new (fd := fnX name qual params body scope clos .none .none doc ((X.mg (Str.ofString "__name__")).getD .none) none (.ref c') ctv) (tk := tk) I e hL tp.mem eb lc cl cr (by rw [ht, trip_snoc]; simp)
    exact h _ c' ctv doc _ H' _ I' m
  · have ec : H d.2.1 = some (CodO d.2.1 qual) := by
      have := tp.uq _ (hL d hd).1 l1 l2
      rw [← this]
      exact (hL d hd).2
    refine makeFunction_hit hcl I.ok.glob ns hcd (Z.ch _ kin) et (by simpa using trip_ok L) (by simpa using am) (Z.ba.keeps I.bk) fun ctv doc h1 tk k le => ?_
    obtain ⟨H', I', m⟩ := mk_hit (fd := fnX name qual params body scope clos .none .none doc ((X.mg (Str.ofString "__name__")).getD .none) none (.ref d.2.1) ctv) (tk := tk) I tb ec k le
    exact h _ d.2.1 ctv doc _ H' _ I' m
theorem wp_mkLam {M : Model} {A : Around} {E : Value → Shared → Prop} {name qual : Str} {params : Arguments} {body : Expr} {scope : Scope} {c pl : Addr} {pos : Pos} {fl : Nat} {clos : List (Str × Addr)} {Q : Value → Shared → Prop} (I : Inv X pins σ H s) (hcd : X.env.code = .ref c) (Z : MkK X.K X.mg X.base c pl) {al : List (Pos × Str)} (tb : TabOk H pl al) (tp : TabP al pos qual) (hcl : closureFor scope X.env = pure clos)
    (h : ∀ f c' ctv pm H' s', Inv X pins σ H' s' → Made H H' pl al qual f (kla_fn name qual params body scope clos pm (.ref c') ctv) c' → Q (.ref f) s') : wpAny M A (makeFunction name qual params (.expr body) scope X.env [] [] [] pos fl) Q E s := by
  have kin := I.kIn
  have ns := I.mod.glob.keeps I.bk
  obtain ⟨L, e, hL⟩ := id tb
  have et : s.heap.get? pl = some (tabObj (trip L).toArray) := I.hok pl _ e
  rcases trip_among pos L with am | ⟨d, hd, l1, l2, am⟩
  · skip
    have nm : mainGlobals ≠ pl := fun z => by
      obtain ⟨o, _, _, ho, _⟩ := I.mod.glob
      have := (I.bs _ _ ho).2
      rw [z, e] at this
      cases this
    refine kla_makeFunction hcl I.ok.glob ns hcd (Z.ch _ kin) et (by simpa using trip_ok L) (by simpa using am) nm (Z.ba.keeps I.bk) fun c' ctv h1 tk eb lc cl cr ht => ?_
    obtain ⟨H', I', m⟩ := mk_new (fd := kla_fn name qual params body scope clos ((X.mg (Str.ofString "__name__")).getD .none) (.ref c') ctv) (tk := tk) I e hL tp.mem eb lc cl cr (by rw [ht, trip_snoc]; simp)
    exact h _ c' ctv _ H' _ I' m
  · have ec : H d.2.1 = some (CodO d.2.1 qual) := by
      have := tp.uq _ (hL d hd).1 l1 l2
      rw [← this]
      exact (hL d hd).2
    refine kla_makeFunctionHit hcl I.ok.glob ns hcd (Z.ch _ kin) et (by simpa using trip_ok L) (by simpa using am) (Z.ba.keeps I.bk) fun ctv h1 tk k le => ?_
    obtain ⟨H', I', m⟩ := mk_hit (fd := kla_fn name qual params body scope clos ((X.mg (Str.ofString "__name__")).getD .none) (.ref d.2.1) ctv) (tk := tk) I tb ec k le
    exact h _ d.2.1 ctv _ H' _ I' m
end
end My
set_option Elab.async false
set_option linter.all false
set_option maxRecDepth 100000
set_option maxHeartbeats 1000000
namespace My
open PySem PySem.W L2
def hidC (H : Hp) (cs : List Addr) : Hp := fun b => if b ∈ cs then none else H b
def unhid (H : Hp) (cs : List Addr) (H' : Hp) : Hp := fun b => if b ∈ cs then H b else H' b
theorem hidC_in {H : Hp} {cs : List Addr} {b : Addr} (h : b ∈ cs) : hidC H cs b = none := if_pos h
theorem hidC_out {H : Hp} {cs : List Addr} {b : Addr} (h : b ∉ cs) : hidC H cs b = H b := if_neg h
theorem hidC_some {H : Hp} {cs : List Addr} {b : Addr} {o : HO} (h : hidC H cs b = some o) : b ∉ cs ∧ H b = some o := by
  unfold hidC at h
  split at h
  · cases h
  · rename_i n; exact ⟨n, h⟩
def CelR (H : Hp) (a : Addr) (v : V) : Prop := H a = some (CelO a v) ∨ ∃ o, H a = some (.frz o (CelO a v))
theorem CelR.heap {P : Program} {w : World} {H : Hp} {h : Heap} {a : Addr} {v : V} (c : CelR H a v) (hok : HOk P w H h) : ∃ u, RelV v u ∧ h.IsCell a (some u) := by
  rcases c with c | ⟨o, c⟩
  · exact (hok a _ c).1
  · exact (hok a _ c).2.1
theorem CelR.no {H : Hp} {a : Addr} {v : V} (c : CelR H a v) {o : HO} (e : H a = some o) (n1 : ∀ v, o ≠ CelO a v) (n2 : ∀ ob v, o ≠ .frz ob (CelO a v)) : False := by
  rcases c with c | ⟨ob, c⟩
  · rw [e] at c; exact n1 v (Option.some.inj c)
  · rw [e] at c; exact n2 ob v (Option.some.inj c)
theorem CelR.some {H : Hp} {a : Addr} {v : V} (c : CelR H a v) : H a ≠ none := by
  rcases c with c | ⟨ob, c⟩ <;> (rw [c]; simp)
def Cells (H : Hp) (cl : List (Str × Addr)) (cv : List (Str × V)) : Prop := cl.map (·.1) = cv.map (·.1) ∧ (∀ (i : Nat) x a y v, cl[i]? = some (x, a) → cv[i]? = some (y, v) → CelR H a v) ∧ (cl.map (·.2)).Nodup ∧ (cl.map (·.1)).Nodup
theorem mem_ix {α : Type} {l : List α} {x : α} (h : x ∈ l) : ∃ i : Nat, l[i]? = some x := by
  obtain ⟨i, hi, e⟩ := List.getElem_of_mem h
  exact ⟨i, by rw [List.getElem?_eq_getElem hi, e]⟩
theorem lookup_ex {α : Type} {x : Str} {a : α} : ∀ {l : List (Str × α)}, (x, a) ∈ l → ∃ b, l.lookup x = some b
  | [], h => nomatch h
  | (y, b) :: l, h => by
    rw [List.lookup_cons]
    cases e : x == y with
    | true => exact ⟨b, rfl⟩
    | false =>
      rcases List.mem_cons.mp h with z | z
      · injection z with z1 z2
        rw [z1, beq_self_eq_true] at e
        cases e
      · exact lookup_ex z
section
variable {H : Hp} {cl : List (Str × Addr)} {cv : List (Str × V)}
theorem Cells.at (C : Cells H cl cv) {x : Str} {a : Addr} (h : cl.lookup x = some a) : ∃ v, (x, v) ∈ cv ∧ CelR H a v := by
  obtain ⟨i, hi⟩ := mem_ix (PySem.mem_of_lookup h)
  have l : cl.length = cv.length := by have := congrArg List.length C.1; rwa [List.length_map, List.length_map] at this
  have li : i < cv.length := by have := (List.getElem?_eq_some_iff.mp hi).1; omega
  have e1 : (cl.map (·.1))[i]? = some x := by rw [List.getElem?_map, hi]; rfl
  rw [C.1, List.getElem?_map, List.getElem?_eq_getElem li] at e1
  have e2 : (cv[i]).1 = x := Option.some.inj e1
  have e3 := C.2.1 i x a (cv[i]).1 (cv[i]).2 hi (List.getElem?_eq_getElem li)
  exact ⟨(cv[i]).2, by rw [← e2]; exact List.getElem_mem li, e3⟩
theorem Cells.cel (C : Cells H cl cv) {a : Addr} (h : a ∈ cl.map (·.2)) : ∃ v, CelR H a v := by
  obtain ⟨⟨x, a'⟩, hm, rfl⟩ := List.mem_map.mp h
  obtain ⟨i, hi⟩ := mem_ix hm
  have l : cl.length = cv.length := by have := congrArg List.length C.1; rwa [List.length_map, List.length_map] at this
  have li : i < cv.length := by have := (List.getElem?_eq_some_iff.mp hi).1; omega
  exact ⟨_, C.2.1 i x a' (cv[i]).1 (cv[i]).2 hi (List.getElem?_eq_getElem li)⟩
end
def cxC (P : Program) (w : World) (K : Frag) (mg : Str → Option Value) (base : Heap) (N : List Str) (qual : Str) (scope : Scope) (f : Addr) (cd : Value) (cl : List (Str × Addr)) (A : Around) (outer : List Env) (s : Shared) (H : Hp) : Cx where
  prog := P
  w := w
  K := K
  mg := mg
  base := base
  A := A.deeper (envX qual scope s.heap.objs.size f cd cl)
  N := N
  s₀ := s
  H₀ := H
  env := envX qual scope s.heap.objs.size f cd cl
  outer := outer
  stack := envX qual scope s.heap.objs.size f cd cl :: outer
  ex := []
  calm := true
  fn := fun _ => false
  pn := []
  xe := fun _ _ => False
structure ClScope (N : List Str) (p : Str) (zs : List Str) (sc : Scope) : Prop where
  kind : sc.kind = .function
  co : sc.isCoroutine = false
  gen : sc.isGenerator = false
  nd : N.Nodup
  pre : N[0]? = some p
  par : sc.names.lookup p = some .local
  nocell : ∀ y ∈ sc.names, y.2 ≠ .cell
  frees : ∀ x, sc.names.lookup x = some .free → x ∈ zs
  vis : ∀ z ∈ zs, sc.names.lookup z = some .free
section
variable {P : Program} {w : World} {K : Frag} {mg : Str → Option Value} {base : Heap} {N zs : List Str} {p qual : Str} {scope : Scope} {f c : Addr} {cl : List (Str × Addr)} {cv : List (Str × V)} {A : Around} {outer : List Env} {s : Shared} {H : Hp}
theorem env0_hid (e0 : Env0 P w K mg base A outer s H) (C : Cells H cl cv) : Env0 P w K mg base A outer s (hidC H (cl.map (·.2))) := by
  refine ⟨e0.frames, e0.mod, fun b o e => ⟨(e0.bs b o e).1, ?_⟩, e0.bsz, e0.funs, fun b hb => ?_, fun b o e => ?_, e0.bare⟩
  · unfold hidC; split
    · rfl
    · exact (e0.bs b o e).2
  · unfold hidC; split
    · rfl
    · exact e0.frf b hb
  · obtain ⟨n, e⟩ := hidC_some e
    refine (e0.hok b o e).stay (fun _ _ _ q => q) (fun d g => ?_) fun d xs g => ?_
    · rw [hidC_out (fun z => by obtain ⟨v, q⟩ := C.cel z; exact q.no g (fun _ y => nomatch y) fun _ _ y => nomatch y)]; exact g
    · rw [hidC_out (fun z => by obtain ⟨v, q⟩ := C.cel z; exact q.no g (fun _ y => nomatch y) fun _ _ y => nomatch y)]; exact g
theorem inv_clo {h1 : Heap} {tk : Nat} {vp : V} {up : Value} {σ : St} (S : ClScope N p zs scope) (hd : A.handled = none) (e0 : Env0 P w K mg base A outer s H) (C : Cells H cl cv) (hz : cl.map (·.1) = zs) (hv : RelV vp up) (hl : σ.length = N.length)
    (hσ : ∀ (i : Nat) x v, N[i]? = some x → σ[i]? = some (some v) → (x = p ∧ v = vp) ∨ (x, v) ∈ cv)
    (hn : h1.Ns s.heap.objs.size fun x => List.lookup x [(p, up)]) (sb : Heap.SameBut s.heap.objs.size (s.heap.push { cls := .type "frame", data := .dict #[] }) h1) :
    Inv (cxC P w K mg base N qual scope f (.ref c) cl A outer s (hidC H (cl.map (·.2)))) [] σ (hidC H (cl.map (·.2))) { s with heap := h1, toks := tk } := by
  have E := env0_hid e0 C
  have hk : ∀ b o, s.heap.get? b = some o → h1.get? b = some o := fun b o e => (sb.2 b (Nat.ne_of_lt (Heap.lt_size e))).trans (Heap.get?_push_of_some _ e)
  have noA : ∀ b : Addr, b ∉ (cxC P w K mg base N qual scope f (.ref c) cl A outer s (hidC H (cl.map (·.2)))).ex := fun b z => absurd (show b ∈ ([] : List Addr) from z) (by simp)
  have kin : ∀ {x : Str} {a : Addr}, cl.lookup x = some a → ∃ v u, (x, v) ∈ cv ∧ RelV v u ∧ s.heap.IsCell a (some u) := fun {x a} e => by
    obtain ⟨v, hm, q⟩ := C.at e
    obtain ⟨u, r, z⟩ := q.heap e0.hok
    exact ⟨v, u, hm, r, z⟩
  have uniq : ∀ {x : Str} {v v' : V}, (x, v) ∈ cv → (x, v') ∈ cv → v = v' := fun {x v v'} h1 h2 => by
    obtain ⟨i, hi⟩ := mem_ix h1
    obtain ⟨j, hj⟩ := mem_ix h2
    have nd : (cv.map (·.1)).Nodup := by rw [← C.1]; exact C.2.2.2
    have ei : (cv.map (·.1))[i]? = some x := by rw [List.getElem?_map, hi]; rfl
    have ej : (cv.map (·.1))[j]? = some x := by rw [List.getElem?_map, hj]; rfl
    have := nodup_ix nd ei ej
    subst this
    rw [hi] at hj
    injection hj with hj
    injection hj
  refine ⟨⟨E.mod, S.kind, rfl, rfl, Nat.le_refl _, fun y z a h1 h2 => ?_, fun y hy => ?_, (fun y a h _ => nomatch h), fun _ => hd, Around.frames_deeper E.frames, .inr ⟨rfl, rfl⟩, fun b z => absurd z (noA b), E.bs, E.bsz, fun b _ _ => noA b, fun b z => absurd z (noA b), E.funs, E.frf⟩,
    rfl, E.bare, Un.kept hk, ⟨_, hn, fun i y v h1 h2 h3 => ?_⟩, fun y a h => ?_, E.hok.fresh (Nat.le_refl _), fun y a h => ?_, fun p hp => absurd (show p ∈ ([] : List (Addr × Obj)) from hp) (by simp), E.hok.kept hk, hl⟩
  · have m1 : (y, a) ∈ cl := PySem.mem_of_lookup h1
    have m2 : (z, a) ∈ cl := PySem.mem_of_lookup h2
    obtain ⟨i, hi⟩ := mem_ix m1
    obtain ⟨j, hj⟩ := mem_ix m2
    have ei : (cl.map (·.2))[i]? = some a := by rw [List.getElem?_map, hi]; rfl
    have ej : (cl.map (·.2))[j]? = some a := by rw [List.getElem?_map, hj]; rfl
    have hij : i = j := by
      obtain ⟨k1, e1⟩ := List.getElem?_eq_some_iff.mp ei
      obtain ⟨k2, e2⟩ := List.getElem?_eq_some_iff.mp ej
      exact (List.getElem_inj C.2.2.1).mp (e1.trans e2.symm)
    subst hij
    rw [hi] at hj
    injection hj with hj
    injection hj
  · have hy : scope.names.lookup y = some .cell ∨ scope.names.lookup y = some .free := hy
    rcases hy with hy | hy
    · exact absurd rfl (S.nocell _ (PySem.mem_of_lookup hy))
    · have := S.frees y hy
      rw [← hz] at this
      obtain ⟨⟨y', a⟩, hm, rfl⟩ := List.mem_map.mp this
      exact lookup_ex hm
  · rcases hσ i y v h1 h2 with ⟨rfl, rfl⟩ | hm
    · exact ⟨up, hv, .inl ⟨S.par, by simp [List.lookup]⟩⟩
    · have hy : y ∈ cl.map (·.1) := by rw [C.1]; exact List.mem_map.mpr ⟨_, hm, rfl⟩
      obtain ⟨⟨y', a0⟩, hm0, e0'⟩ := List.mem_map.mp hy
      have e0' : y' = y := e0'
      subst e0'
      obtain ⟨a, ha⟩ := lookup_ex hm0
      obtain ⟨v', u, hm', r, z⟩ := kin ha
      have := uniq hm hm'
      subst this
      obtain ⟨o, ho, hd'⟩ := z
      exact ⟨u, r, .inr ⟨.inr (S.vis y' (by rw [← hz]; exact hy)), a, ha, ⟨o, hk a o ho, hd'⟩⟩⟩
  · obtain ⟨v, u, _, _, o, ho, hd'⟩ := kin h
    exact ⟨_, o, hk a o ho, hd'⟩
  · exact hidC_in (List.mem_map.mpr ⟨_, PySem.mem_of_lookup h, rfl⟩)
end
end My
set_option Elab.async false
set_option linter.all false
set_option maxRecDepth 100000
set_option maxHeartbeats 1000000
namespace My
open PySem PySem.W L2
section
variable {P : Program} {w : World} {K : Frag} {mg : Str → Option Value} {base : Heap} {N zs : List Str} {p qual name : Str} {scope : Scope} {f c : Addr} {cl : List (Str × Addr)} {cv : List (Str × V)} {A : Around} {outer : List Env} {s s' : Shared} {H : Hp}
theorem ce_unhid {u : Value} {Q : VK} (e0 : Env0 P w K mg base A outer s H) (C : Cells H cl cv) (h : CE outer P w (hidC H (cl.map (·.2))) s (fun v H' => (∀ b ∈ cl.map (·.2), H' b = none) → Q v (unhid H (cl.map (·.2)) H')) u s') : CE outer P w H s Q u s' := by
  obtain ⟨v, H', os, bare, un, hok, r, q⟩ := h
  have isc : ∀ {b : Addr}, b ∈ cl.map (·.2) → ∃ v u, RelV v u ∧ s.heap.IsCell b (some u) ∧ CelR H b v := fun {b} y => by
    obtain ⟨v, q⟩ := C.cel y
    obtain ⟨u, r, z⟩ := q.heap e0.hok
    exact ⟨v, u, r, z, q⟩
  have q := q fun b y => by
    obtain ⟨v, u, r, ⟨ob, h1, _⟩, _⟩ := isc y
    exact un.free b ob h1 (hidC_in y) (by simp)
  have nc : ∀ {b : Addr} {o : HO}, H b = some o → (∀ v, o ≠ CelO b v) → (∀ ob v, o ≠ .frz ob (CelO b v)) → b ∉ cl.map (·.2) := fun {b o} e n1 n2 z => by
    obtain ⟨v, q⟩ := C.cel z
    exact q.no e n1 n2
  have nn : ∀ {b : Addr}, H b = none → hidC H (cl.map (·.2)) b = none := fun {b} e => by unfold hidC; split <;> first | rfl | exact e
  have out : ∀ {b : Addr}, b ∉ cl.map (·.2) → unhid H (cl.map (·.2)) H' b = H' b := fun n => if_neg n
  have kept : ∀ {b : Addr}, b ∈ cl.map (·.2) → ∀ o, s.heap.get? b = some o → s'.heap.get? b = some o := fun {b} hb o e => by
    refine un.keep b o e (hidC_in hb) (fun z => ?_) (by simp)
    obtain ⟨v, q⟩ := C.cel hb
    exact q.some (e0.frf b z)
  refine ⟨v, unhid H (cl.map (·.2)) H', os, bare, ⟨fun b o e n nf nx => un.keep b o e (nn n) nf nx, fun b o e n nf nx => un.slot b o e (nn n) nf nx, fun b o e n nx => ?_, un.there, fun b xs e => ?_, fun b o x e => ?_, fun b ps e => ?_, fun e => ?_⟩, fun b o e => ?_, r, q⟩
  · rw [out (fun z => by obtain ⟨v, q⟩ := C.cel z; exact q.some n)]
    exact un.free b o e (nn n) nx
  · have n := nc e (fun v z => by cases z) fun _ v z => by cases z
    rw [out n]
    exact un.tups b xs (by rw [hidC_out n]; exact e)
  · by_cases z : b ∈ cl.map (·.2)
    · have : unhid H (cl.map (·.2)) H' b = H b := if_pos z
      rw [this]; exact e
    · rw [out z]
      exact un.frzs b o x (by rw [hidC_out z]; exact e)
  · have n := nc e (fun v z => by cases z) fun _ v z => by cases z
    rw [out n]
    exact un.tbls b ps (by rw [hidC_out n]; exact e)
  · unfold unhid
    split
    · exact e
    · exact un.sys (nn e)
  · by_cases z : b ∈ cl.map (·.2)
    · have e' : H b = some o := by
        have : unhid H (cl.map (·.2)) H' b = H b := if_pos z
        rw [← this]; exact e
      obtain ⟨v, q⟩ := C.cel z
      rcases q with q | ⟨oq, q⟩
      · rw [e'] at q
        cases q
        obtain ⟨⟨u, ru, ob, h1, h2⟩, _⟩ := (show ObjOk P w H s.heap b (CelO b v) from e0.hok b _ e')
        exact celO_ok ru ⟨ob, kept z ob h1, h2⟩
      · rw [e'] at q
        cases q
        obtain ⟨h0, ⟨u, ru, ob, h1, h2⟩, _⟩ := (show ObjOk P w H s.heap b (.frz oq (CelO b v)) from e0.hok b _ e')
        exact ⟨kept z _ h0, celO_ok ru ⟨ob, kept z ob h1, h2⟩⟩
    · rw [out z] at e
      have nd : ∀ d o, H' d = some o → d ∉ cl.map (·.2) := fun d o g y => by
        obtain ⟨v, u, r, ⟨ob, h1, _⟩, _⟩ := isc y
        rw [un.free d ob h1 (hidC_in y) (by simp)] at g
        cases g
      exact (hok b o e).stay (fun _ _ _ q => q) (fun d g => by rw [out (nd d _ g)]; exact g) fun d xs g => by rw [out (nd d _ g)]; exact g
theorem clo_run {k : Nat} {params : Arguments} {body : List Stmt} {doc pm ctv : Value} {vp : V} {up : Value} {σ : St} {Q : VK} {E : XK} (hr : Room (k + 1) A) (e0 : Env0 P w K mg base A outer s H) (hf : H f = some (FncO f (fnX name qual params body scope cl .none .none doc pm none (.ref c) ctv))) (hc : H c = some (CodO c qual)) (C : Cells H cl cv) (S : ClScope N p zs scope) (hz : cl.map (·.1) = zs)
    (hb : ∀ (s : Shared) (u : Value), BindsTo s (fnX name qual params body scope cl .none .none doc pm none (.ref c) ctv) ⟨[u], []⟩ [(p, u)]) (rv : RelV vp up) (hl : σ.length = N.length) (hσ : ∀ (i : Nat) x v, N[i]? = some x → σ[i]? = some (some v) → (x = p ∧ v = vp) ∨ (x, v) ∈ cv)
    (hbody : Room k (A.deeper (envX qual scope s.heap.objs.size f (.ref c) cl)) → ∃ t, PSs (cxC P w K mg base N qual scope f (.ref c) cl A outer s (hidC H (cl.map (·.2)))) body t ∧ t { nx := fun _ H' => (∀ b ∈ cl.map (·.2), H' b = none) → Q .non (unhid H (cl.map (·.2)) H'), rt := fun v H' => (∀ b ∈ cl.map (·.2), H' b = none) → Q v (unhid H (cl.map (·.2)) H') } σ (hidC H (cl.map (·.2)))) :
    codeAny (model P w) A (.call (.ref f) ⟨[up], []⟩) (CR CX0 outer P w H s Q E) s := by
  have ef : s.heap.get? f = some { cls := .type "function", data := .func (fnX name qual params body scope cl .none .none doc pm none (.ref c) ctv) } := (e0.hok f _ hf).1
  have ec : s.heap.CodeRec (.ref c) qual := (e0.hok c _ hc).1
  have lim : s.heap.NoLimit := e0.mod.nolimit.keeps fun b o e => (e0.bs b o e).1
  refine codeAny_call_function hr.depth ef rfl S.co S.gen rfl ec (hb _ _ _ _ _ _ ?_)
  refine wpAny_newFunctionEnv S.nocell (fun x hx => ?_) (fun h1 hn sb => ?_) S.kind
  · have e : x = (p, up) := by simpa using hx
    rw [e]; exact S.par
  have hk : ∀ b o, s.heap.get? b = some o → h1.get? b = some o := fun b o e => (sb.2 b (Nat.ne_of_lt (Heap.lt_size e))).trans (Heap.get?_push_of_some _ e)
  refine ⟨lim.keeps hk, codeAny_func ?_⟩
  obtain ⟨t, ht, hq⟩ := hbody (hr.deeper _)
  have I := inv_clo (qual := qual) (f := f) (c := c) (tk := s.toks + 1) S hr.hd e0 C hz rv hl hσ (by simpa using hn) sb
  refine wpAny_mono (ht [] _ σ _ _ I hq) (fun fl s' hs => ?_) fun e s' hs => hs.elim
  have fin : ∀ {σ' : St} {H' : Hp} {v : V} {u : Value}, Inv (cxC P w K mg base N qual scope f (.ref c) cl A outer s (hidC H (cl.map (·.2)))) [] σ' H' s' → RelV v u → ((∀ b ∈ cl.map (·.2), H' b = none) → Q v (unhid H (cl.map (·.2)) H')) → CE outer P w H s Q u s' :=
    fun {σ' H' v u} J rv q => ce_unhid e0 C ⟨v, H', J.os, J.bare, J.base, J.hok, rv, q⟩
  cases fl with
  | ret u =>
    obtain ⟨v, σ', H', J, rv, q⟩ := hs
    exact fin J rv q
  | next =>
    obtain ⟨σ', H', J, q⟩ := hs
    exact fin (v := V.non) (u := Value.none) J rfl q
  | brk =>
    obtain ⟨_, _, _, q⟩ := hs
    exact False.elim q
  | cont =>
    obtain ⟨_, _, _, q⟩ := hs
    exact False.elim q
theorem lam_run {k : Nat} {params : Arguments} {body : Expr} {pm ctv : Value} {vp : V} {up : Value} {σ : St} {Q : VK} {E : XK} (hr : Room (k + 1) A) (e0 : Env0 P w K mg base A outer s H) (hf : H f = some (FncO f (kla_fn name qual params body scope cl pm (.ref c) ctv))) (hc : H c = some (CodO c qual)) (C : Cells H cl cv) (S : ClScope N p zs scope) (hz : cl.map (·.1) = zs)
    (hb : ∀ (s : Shared) (u : Value), BindsTo s (kla_fn name qual params body scope cl pm (.ref c) ctv) ⟨[u], []⟩ [(p, u)]) (rv : RelV vp up) (hl : σ.length = N.length) (hσ : ∀ (i : Nat) x v, N[i]? = some x → σ[i]? = some (some v) → (x = p ∧ v = vp) ∨ (x, v) ∈ cv)
    (hbody : Room k (A.deeper (envX qual scope s.heap.objs.size f (.ref c) cl)) → ∃ t, PE (cxC P w K mg base N qual scope f (.ref c) cl A outer s (hidC H (cl.map (·.2)))) body t ∧ t σ (hidC H (cl.map (·.2))) fun v H' => (∀ b ∈ cl.map (·.2), H' b = none) → Q v (unhid H (cl.map (·.2)) H')) :
    codeAny (model P w) A (.call (.ref f) ⟨[up], []⟩) (CR CX0 outer P w H s Q E) s := by
  have ef : s.heap.get? f = some { cls := .type "function", data := .func (kla_fn name qual params body scope cl pm (.ref c) ctv) } := (e0.hok f _ hf).1
  have ec : s.heap.CodeRec (.ref c) qual := (e0.hok c _ hc).1
  have lim : s.heap.NoLimit := e0.mod.nolimit.keeps fun b o e => (e0.bs b o e).1
  refine kla_callFunE hr.depth ef rfl S.co S.gen rfl ec (hb _ _ _ _ _ _ ?_)
  refine wpAny_newFunctionEnv S.nocell (fun x hx => ?_) (fun h1 hn sb => ?_) S.kind
  · have e : x = (p, up) := by simpa using hx
    rw [e]; exact S.par
  have hk : ∀ b o, s.heap.get? b = some o → h1.get? b = some o := fun b o e => (sb.2 b (Nat.ne_of_lt (Heap.lt_size e))).trans (Heap.get?_push_of_some _ e)
  refine ⟨lim.keeps hk, kla_codeExpr ?_⟩
  obtain ⟨t, ht, hq⟩ := hbody (hr.deeper _)
  have I := inv_clo (qual := qual) (f := f) (c := c) (tk := s.toks + 1) S hr.hd e0 C hz rv hl hσ (by simpa using hn) sb
  refine wpAny_mono (ht [] _ σ _ _ I hq) (fun u s' hs => ?_) fun e s' hs => hs.elim
  obtain ⟨v, H', J, rv, q⟩ := hs
  exact ce_unhid e0 C ⟨v, H', J.os, J.bare, J.base, J.hok, rv, q⟩
end
structure ClOk (P : Program) (w : World) (K : Frag) (mg : Str → Option Value) (base : Heap) (k : Nat) (W : Addr → V → Hp → VK → Prop) : Prop where
  run : ∀ (A : Around) (outer : List Env) (s : Shared) (H : Hp) (f : Addr) (u : Value) (v : V) (Q : VK), Room k A → Env0 P w K mg base A outer s H → RelV v u → W f v H Q → codeAny (model P w) A (.call (.ref f) ⟨[u], []⟩) (CR CX0 outer P w H s Q E0) s
def tCallF (W : Addr → V → Hp → VK → Prop) (ta te : TE) : TE := fun σ H Q => ta σ H fun x H1 => ∃ f fd, x = .ref f ∧ H1 f = some (FncO f fd) ∧ te σ H1 fun y H2 => H2 f = some (FncO f fd) ∧ W f y H2 Q
section
variable {X : Cx} {k : Nat} {W : Addr → V → Hp → VK → Prop} {x : Str} {p pos : Pos} {e : Expr} {ta te : TE}
theorem pe_callF (hv : PE X (.Name x p) ta) (M : ClOk X.prog X.w X.K X.mg X.base k W) (hr : Room k X.A) (ha : PE X e te)
    (he : starEach [e] X.env = (false, eval e X.env) :: starEach [] X.env := by rfl) (hpl : (backTo pos (starEach [] X.env)).any (·.1) = false := by rfl) : PE X (.Call (.Name x p) [e] [] pos) (tCallF W ta te) := by
  intro pins s σ H Q I h
  refine wpAny_Call_Name_kw (thn (hv pins s σ H _ I h) fun u s1 ⟨x, H1, I1, rx, f, fd, ex, ef, q⟩ => ?_)
  subst ex
  obtain rfl : u = Value.ref f := rx
  have kin : ∀ {H2 : Hp} {s2 : Shared}, Inv X pins σ H2 s2 → H2 f = some (FncO f fd) → Frag.In [(f, { cls := .type "function", data := .func fd })] s2.heap := fun {H2 s2} J g a o l => by
    have eo : s2.heap.get? f = some { cls := .type "function", data := .func fd } := (J.hok f _ g).1
    rw [List.lookup_cons] at l
    cases z : a == f with
    | true => rw [z] at l; cases l; rw [beq_iff_eq.mp z]; exact eo
    | false => rw [z] at l; cases l
  refine PySem.W.callWith_K (K := [(f, { cls := .type "function", data := .func fd })]) (h₀ := s1.heap) (kin I1 ef) (by simp [keepIn, List.lookup]) (thn ((pa_cons ha pa_nil he) pos pins s1 σ H1 (fun vs H2 => match vs with | [y] => H2 f = some (FncO f fd) ∧ W f y H2 Q | _ => False) I1 q) fun us s2 ⟨vs, H2, I2, r, q2⟩ => ?_) he hpl
  match vs, r, q2 with
  | [y], r, ⟨g, q2⟩ =>
    obtain ⟨u, rfl, ru⟩ := vals1 r
    refine ⟨kin I2 g, ?_⟩
    refine wpAny_call (codeAny_mono (M.run X.A X.stack s2 H2 f u y Q hr I2.env0 ru q2) fun r s' hq => ?_)
    cases r with
    | error e => exact False.elim hq
    | ok fl =>
      cases fl with
      | ret u => exact I2.after hq
      | next => exact False.elim hq
      | brk => exact False.elim hq
      | cont => exact False.elim hq
end
end My
set_option Elab.async false
set_option linter.all false
set_option maxRecDepth 100000
set_option maxHeartbeats 1000000
namespace My
open PySem PySem.W L2
open PyProof.Rows (envOfC)
theorem un_cell {P : Program} {w : World} {fs : List Addr} {H₀ H : Hp} {h₀ h : Heap} {a : Addr} {v : V} {u : Value} (un : Un fs [] H₀ H h₀ h) (hok : HOk P w H h) (big : sysModules < h₀.objs.size) (la : h₀.objs.size ≤ a) (n : H a = none) (r : RelV v u) (c : h.IsCell a (some u)) : Un fs [] H₀ (upd H a (CelO a v)) h₀ h ∧ HOk P w (upd H a (CelO a v)) h := by
  have ne : ∀ b o, H b = some o → b ≠ a := fun b o e => ne_of_none e n
  refine ⟨⟨un.keep, un.slot, fun b o e m x => ?_, un.there, fun b xs e => ?_, fun b o x e => ?_, fun b ps e => ?_, fun e => ?_⟩, fun b o e => ?_⟩
  · rw [upd_ne (Nat.ne_of_lt (Nat.lt_of_lt_of_le (Heap.lt_size e) la))]; exact un.free b o e m x
  · have q := un.tups b xs e
    rw [upd_ne (ne _ _ q)]; exact q
  · have q := un.frzs b o x e
    rw [upd_ne (ne _ _ q)]; exact q
  · obtain ⟨m, q⟩ := un.tbls b ps e
    exact ⟨m, by rw [upd_ne (ne _ _ q)]; exact q⟩
  · rw [upd_ne (Nat.ne_of_lt (Nat.lt_of_lt_of_le big la))]; exact un.sys e
  · by_cases z : b = a
    · subst z
      rw [upd_same] at e
      cases e
      exact celO_ok r c
    · rw [upd_ne z] at e
      exact (hok b o e).stay (fun _ _ _ q => q) (fun d g => by rw [upd_ne (ne _ _ g)]; exact g) fun d xs g => by rw [upd_ne (ne _ _ g)]; exact g
def addC (H : Hp) : List (Str × Addr) → List (Str × V) → Hp
  | (_, a) :: cl, (_, v) :: cv => upd (addC H cl cv) a (CelO a v)
  | _, _ => H
theorem addC_out {H : Hp} {b : Addr} : ∀ {cl : List (Str × Addr)} {cv : List (Str × V)}, b ∉ cl.map (·.2) → addC H cl cv b = H b
  | [], _, _ => by simp [addC]
  | (x, a) :: cl, [], _ => by simp [addC]
  | (x, a) :: cl, (y, v) :: cv, h => by
    simp only [List.map_cons, List.mem_cons, not_or] at h
    show upd (addC H cl cv) a (CelO a v) b = H b
    rw [upd_ne h.1]
    exact addC_out h.2
theorem addC_ext {H : Hp} {cl : List (Str × Addr)} {cv : List (Str × V)} (h : ∀ a ∈ cl.map (·.2), H a = none) : Ext H (addC H cl cv) := fun b o e => by
  rw [addC_out (fun z => by rw [h b z] at e; cases e)]
  exact e
theorem addC_cells {H : Hp} : ∀ {cl : List (Str × Addr)} {cv : List (Str × V)}, (cl.map (·.2)).Nodup → ∀ (i : Nat) x a y v, cl[i]? = some (x, a) → cv[i]? = some (y, v) → addC H cl cv a = some (CelO a v)
  | [], _, _, i, x, a, y, v, h, _ => by simp at h
  | (x0, a0) :: cl, [], _, i, x, a, y, v, _, h => by simp at h
  | (x0, a0) :: cl, (y0, v0) :: cv, nd, 0, x, a, y, v, h1, h2 => by
    cases h1
    cases h2
    exact upd_same
  | (x0, a0) :: cl, (y0, v0) :: cv, nd, i + 1, x, a, y, v, h1, h2 => by
    simp only [List.map_cons, List.nodup_cons] at nd
    have h1' : cl[i]? = some (x, a) := by simpa using h1
    have ma : a ∈ cl.map (·.2) := List.mem_map.mpr ⟨_, List.mem_of_getElem? h1', rfl⟩
    show upd (addC H cl cv) a0 (CelO a0 v0) a = _
    rw [upd_ne (fun z => nd.1 (by rw [← z]; exact ma))]
    exact addC_cells nd.2 i x a y v h1' (by simpa using h2)
theorem addC_ok {P : Program} {w : World} {fs : List Addr} {H₀ H : Hp} {h₀ h : Heap} (un : Un fs [] H₀ H h₀ h) (hok : HOk P w H h) (big : sysModules < h₀.objs.size) : ∀ {cl : List (Str × Addr)} {cv : List (Str × V)}, (cl.map (·.2)).Nodup → (∀ a ∈ cl.map (·.2), h₀.objs.size ≤ a ∧ H a = none) → (∀ (i : Nat) x a y v, cl[i]? = some (x, a) → cv[i]? = some (y, v) → ∃ u, RelV v u ∧ h.IsCell a (some u)) → Un fs [] H₀ (addC H cl cv) h₀ h ∧ HOk P w (addC H cl cv) h
  | [], _, _, _, _ => by simp only [addC]; exact ⟨un, hok⟩
  | (x, a) :: cl, [], _, _, _ => by simp only [addC]; exact ⟨un, hok⟩
  | (x, a) :: cl, (y, v) :: cv, nd, ha, hc => by
    simp only [List.map_cons, List.nodup_cons] at nd
    obtain ⟨u1, k1⟩ := addC_ok un hok big (cl := cl) (cv := cv) nd.2 (fun b hb => ha b (by simp only [List.map_cons, List.mem_cons]; exact .inr hb)) fun i x a y v h1 h2 => hc (i + 1) x a y v (by simpa using h1) (by simpa using h2)
    obtain ⟨la, na⟩ := ha a (by simp)
    obtain ⟨u, r, c⟩ := hc 0 x a y v rfl rfl
    exact un_cell u1 k1 big la (by rw [addC_out nd.1]; exact na) r c
def MkQ (H : Hp) (pl : Addr) (al : List (Pos × Str)) (qn : Str) (zs : List Str) (cv : List (Str × V)) (fd : List (Str × Addr) → Value → Value → Value → Addr → FuncData) (Q : VK) : Prop :=
  TabOk H pl al ∧ ∀ f c' cl a b d H', ExtP pl H H' → H f = none → H' f = some (FncO f (fd cl a b d c')) → H' c' = some (CodO c' qn) → Cells H' cl cv → cl.map (·.1) = zs → (∀ x ∈ cl.map (·.2), H x = none ∧ x ≠ f ∧ x ≠ c') → TabOk H' pl al → Q (.ref f) H'
section
variable {CX : CXT} {P : Program} {w : World} {K : Frag} {mg : Str → Option Value} {base : Heap} {N ps zs : List Str} {qual : Str} {scope : Scope} {g c pl : Addr} {A : Around} {outer : List Env} {s s1 : Shared} {H H1 : Hp} {E : XK} {σ : St} {cv : List (Str × V)} {Q : VK}
theorem ce_cells {cl : List (Str × Addr)} {v : V} {u : Value} (J : Inv (cxOf CX P w K mg base N qual scope g (.ref c) A outer s H E) [] σ H1 s1) (hc : ∀ x a, (x, a) ∈ cl → (cellsFrom (s.heap.objs.size + 1) scope.names []).lookup x = some a) (nd : (cl.map (·.2)).Nodup) (hz : cl.map (·.1) = cv.map (·.1))
    (hv : ∀ x v, (x, v) ∈ cv → scope.names.lookup x = some .cell ∧ ∃ j : Nat, N[j]? = some x ∧ σ[j]? = some (some v)) (r : RelV v u) (q : Q v (addC H1 cl cv)) : CE outer P w H s Q u s1 := by
  obtain ⟨m, hn, hl⟩ := J.loc
  have big : sysModules < s.heap.objs.size := by
    obtain ⟨o, _, _, ho, _⟩ := J.mod.glob
    exact Nat.lt_trans (by decide : sysModules < mainGlobals) (Heap.lt_size (J.ok.bs _ _ ho).1)
  have h1 : ∀ a ∈ cl.map (·.2), s.heap.objs.size ≤ a ∧ H1 a = none := fun a ha => by
    obtain ⟨⟨x, a'⟩, hm, rfl⟩ := List.mem_map.mp ha
    have e := hc x a' hm
    exact ⟨J.ok.cab x a' rfl e, J.freeC x a' e⟩
  have h2 : ∀ (i : Nat) x a y v, cl[i]? = some (x, a) → cv[i]? = some (y, v) → ∃ u, RelV v u ∧ s1.heap.IsCell a (some u) := fun i x a y v h1 h2 => by
    have e := hc x a (List.mem_of_getElem? h1)
    have ex : (cl.map (·.1))[i]? = some x := by rw [List.getElem?_map, h1]; rfl
    rw [hz, List.getElem?_map, h2] at ex
    have ex : y = x := Option.some.inj ex
    subst ex
    obtain ⟨k, j, hj, hs⟩ := hv y v (List.mem_of_getElem? h2)
    obtain ⟨u, ru, l⟩ := hl j y v hj hs (.inr (.inl k))
    rcases l with ⟨k', _⟩ | ⟨_, a', e', z⟩
    · have k' : scope.names.lookup y = some .local := k'
      rw [k] at k'
      cases k'
    · have e' : (cellsFrom (s.heap.objs.size + 1) scope.names []).lookup y = some a' := e'
      rw [e] at e'
      cases e'
      exact ⟨u, ru, z⟩
  obtain ⟨un, hok⟩ := addC_ok (cl := cl) (cv := cv) J.base J.hok big nd h1 h2
  exact ⟨v, addC H1 cl cv, J.os, J.bare, un, hok, r, q⟩
theorem mk_tail {nm : Str} {args : Arguments} {b : List Stmt} {sc : Scope} {pos pn pr : Pos} {cl : List (Str × Addr)} {i : Nat} {qn : Str} (J : Inv (cxOf CX P w K mg base N qual scope g (.ref c) A outer s H E) [] σ H1 s1) (Z : MkK K mg base c pl) (nd : N.Nodup) (hi : N[i]? = some nm) (hk : scope.names.lookup nm = some .local) (hd : args.defaults = []) (hkd : args.kw_defaults = []) (han : annTrees args none (envOfC qual scope s.heap.objs.size g (.ref c)) = [])
    (hq : qualnameIn (envOfC qual scope s.heap.objs.size g (.ref c)) nm nm = qn) (hcl : closureFor sc (envOfC qual scope s.heap.objs.size g (.ref c)) = pure cl) (hc : ∀ x a, (x, a) ∈ cl → (cellsFrom (s.heap.objs.size + 1) scope.names []).lookup x = some a) (ndA : (cl.map (·.2)).Nodup) (ndX : (cl.map (·.1)).Nodup) (hz : cl.map (·.1) = zs) (hzv : zs = cv.map (·.1))
    (hv : ∀ x v, (x, v) ∈ cv → scope.names.lookup x = some .cell ∧ ∃ j : Nat, N[j]? = some x ∧ σ[j]? = some (some v)) {al : List (Pos × Str)} (tp : TabP al pos qn) (q : MkQ H1 pl al qn zs cv (fun cl doc pm ctv c' => fnX nm qn args b sc cl .none .none doc pm none (.ref c') ctv) Q) (hdb : (nm == ("__debug__" : Str)) = false := by decide) (hcd : (nm == ("__classdict__" : Str)) = false := by decide) :
    wpAny (model P w) (A.deeper (envOfC qual scope s.heap.objs.size g (.ref c))) (execs [.FunctionDef nm args b [] none [] sc none nm pos, .Return (some (.Name nm pn)) pr] (envOfC qual scope s.heap.objs.size g (.ref c))) (fun fl s' => CE outer P w H s Q (match fl with | .ret v => v | _ => .none) s') (cxOf CX P w K mg base N qual scope g (.ref c) A outer s H E).xe s1 := by
  refine wpAny_execs_cons (nestDef_K hd hkd han ?_)
  rw [hq]
  refine wp_mkDef (X := cxOf CX P w K mg base N qual scope g (.ref c) A outer s H E) J rfl Z q.1 tp hcl fun f c' ctv doc pm H2 s2 I2 M => ?_
  refine store_ok (X := cxOf CX P w K mg base N qual scope g (.ref c) A outer s H E) (v := .ref f) I2 nd hi (.inl hk) rfl (fun s3 I3 => ?_) (.inr hk)
  refine wpAny_execs_cons (wpAny_Return_some ?_)
  have pv := pe_var (X := cxOf CX P w K mg base N qual scope g (.ref c) A outer s H E) (pos := pn) hi (.inl hk) hdb hcd
  have hs : (σ.set i (some (V.ref f)))[i]? = some (some (V.ref f)) := List.getElem?_set_self (by rw [J.len]; exact (List.getElem?_eq_some_iff.mp hi).1)
  refine thn (pv [] s3 _ H2 (fun v H' => v = .ref f ∧ H' = H2) I3 ⟨_, hs, rfl, rfl⟩) fun u s4 ⟨v, H', I4, r, e1, e2⟩ => ?_
  subst e1
  subst e2
  have fresh : ∀ x ∈ cl.map (·.2), H' x = none := fun x hx => by
    obtain ⟨⟨y, a⟩, hm, rfl⟩ := List.mem_map.mp hx
    exact I4.freeC y a (hc y a hm)
  refine ce_cells (cv := cv) I4 hc ndA (by rw [hz, hzv]) (fun x v hm => ?_) r ?_
  · obtain ⟨k, j, hj, hs'⟩ := hv x v hm
    refine ⟨k, j, hj, ?_⟩
    have nij : i ≠ j := fun e => by
      subst e
      rw [hi] at hj
      cases hj
      rw [hk] at k
      cases k
    rw [List.getElem?_set_ne nij]
    exact hs'
  · have x := addC_ext (cv := cv) fresh
    refine q.2 f c' cl doc pm ctv _ (fun b o e n => x b o (M.ext b o e n)) M.new (x _ _ M.fn) (x _ _ M.cd) ⟨by rw [hz, hzv], fun i x a y v h1 h2 => .inl (addC_cells ndA i x a y v h1 h2), ndA, ndX⟩ hz (fun y hy => ⟨?_, fun e => ?_, fun e => ?_⟩) ?_
    · have n := fresh y hy
      cases e : H1 y with
      | none => rfl
      | some o =>
        by_cases z : y = pl
        · subst z
          obtain ⟨_, t, _⟩ := M.tb
          rw [t] at n; cases n
        · rw [M.ext y o e z] at n; cases n
    · exact absurd M.fn (by rw [← e, fresh y hy]; simp)
    · exact absurd M.cd (by rw [← e, fresh y hy]; simp)
    · obtain ⟨L, t, td⟩ := M.tb
      exact ⟨L, x _ _ t, fun e he => ⟨(td e he).1, x _ _ (td e he).2⟩⟩
end
end My
set_option Elab.async false
set_option linter.all false
set_option maxRecDepth 100000
set_option maxHeartbeats 1000000
namespace My
open PySem PySem.W L2
open PyProof.Rows (envOfC)
section
variable {CX : CXT} {P : Program} {w : World} {K : Frag} {mg : Str → Option Value} {base : Heap} {k : Nat} {N ps zs : List Str} {name qual nm qn : Str} {params args : Arguments} {scope sc : Scope} {g c pl : Addr} {dV kV doc pm ct oc : Value} {an od : Option Addr} {osl : Array (Option Value)} {sp : Sp} {body b : List Stmt} {i : Nat} {pos pn pr : Pos} {cl : Nat → List (Str × Addr)}
theorem fn_start (lk : K.lookup g = some ⟨oc, od, .func (fnOf name qual params body scope dV kV doc pm an (.ref c) ct), osl⟩) (hcd : codeIn K (.ref c) qual = true) (S : FnScope N ps scope) (len : ∀ vs H Q E, sp vs H Q E → vs.length = ps.length)
    (hbody : ∀ (A : Around) (outer : List Env) (s s1 : Shared) (H : Hp) (vs : List V) (Q : VK) (E : XK), Room k (A.deeper (envOfC qual scope s.heap.objs.size g (.ref c))) → sp vs H Q E → Inv (cxOf CX P w K mg base N qual scope g (.ref c) A outer s H E) [] (start N vs) H s1 →
      wpAny (model P w) (A.deeper (envOfC qual scope s.heap.objs.size g (.ref c))) (execs body (envOfC qual scope s.heap.objs.size g (.ref c))) (fun fl s' => CE outer P w H s Q (match fl with | .ret v => v | _ => .none) s') (cxOf CX P w K mg base N qual scope g (.ref c) A outer s H E).xe s1) :
    FnOk P w K mg base CX (k + 1) g (fnOf name qual params body scope dV kV doc pm an (.ref c) ct) ps sp := by
  refine ⟨len, fun A outer s H args us vs Q E hr e0 hb r hsp => ?_⟩
  have hl := len _ _ _ _ hsp
  have KX : K.In s.heap := e0.mod.kin.keeps fun b o e => (e0.bs b o e).1
  have lim : s.heap.NoLimit := e0.mod.nolimit.keeps fun b o e => (e0.bs b o e).1
  have hkind : ∀ y ∈ ps.zip us, scope.names.lookup y.1 = some .local ∨ (scope.names.lookup y.1 = some .cell ∧ ((cellsFrom (s.heap.objs.size + 1) scope.names []).lookup y.1).isSome = true) := fun ⟨n, v⟩ hy => by
    rcases S.par n (List.of_mem_zip hy).1 with q | q
    · exact .inl q
    · exact .inr ⟨q, PySem.W.cellsFrom_some _ _ _ (.inl q)⟩
  refine codeAny_call_function hr.depth (KX _ _ lk) rfl S.co S.gen rfl (PySem.W.codeRec_of KX hcd) (hb _ _ _ _ ?_)
  refine wpAny_newFunctionEnv_cells S.kind hkind fun env he s1 x => ?_
  subst he
  refine ⟨lim.keeps x.toInCall.keep, codeAny_func ?_⟩
  have I : Inv (cxOf CX P w K mg base N qual scope g (.ref c) A outer s H E) [] (start N vs) H s1 := inv_start S hr.hd e0 hl r x
  exact wpAny_mono (hbody A outer s s1 H vs Q E (hr.deeper _) hsp I) (fun fl s' h => h) fun e s' h => h
structure NestT (scope sc : Scope) (args : Arguments) (g c : Addr) (qual nm qn : Str) (N zs : List Str) (i : Nat) (cl : Nat → List (Str × Addr)) : Prop where
  hi : N[i]? = some nm
  hk : scope.names.lookup nm = some .local
  hd : args.defaults = []
  hkd : args.kw_defaults = []
  han : ∀ L, annTrees args none (envOfC qual scope L g (.ref c)) = []
  hq : ∀ L, qualnameIn (envOfC qual scope L g (.ref c)) nm nm = qn
  hcl : ∀ L, closureFor sc (envOfC qual scope L g (.ref c)) = pure (cl L)
  hc : ∀ L x a, (x, a) ∈ cl L → (cellsFrom (L + 1) scope.names []).lookup x = some a
  ndA : ∀ L, ((cl L).map (·.2)).Nodup
  ndX : ∀ L, ((cl L).map (·.1)).Nodup
  hz : ∀ L, (cl L).map (·.1) = zs
def Kpt (scope : Scope) (N zs : List Str) (σ : St) (cv : List (Str × V)) : Prop := zs = cv.map (·.1) ∧ ∀ x v, (x, v) ∈ cv → scope.names.lookup x = some .cell ∧ ∃ j : Nat, N[j]? = some x ∧ σ[j]? = some (some v)
abbrev fdN (nm qn : Str) (args : Arguments) (b : List Stmt) (sc : Scope) : List (Str × Addr) → Value → Value → Value → Addr → FuncData := fun cl doc pm ctv c' => fnX nm qn args b sc cl .none .none doc pm none (.ref c') ctv
theorem fn_mk1 {st : Stmt} (lk : K.lookup g = some ⟨oc, od, .func (fnOf name qual params [st, .FunctionDef nm args b [] none [] sc none nm pos, .Return (some (.Name nm pn)) pr] scope dV kV doc pm an (.ref c) ct), osl⟩) (hcd : codeIn K (.ref c) qual = true) (S : FnScope N ps scope) (len : ∀ vs H Q E, sp vs H Q E → vs.length = ps.length) (Z : MkK K mg base c pl) {al : List (Pos × Str)} (tp : TabP al pos qn) (T : NestT scope sc args g c qual nm qn N zs i cl)
    (hsp : ∀ (A : Around) (outer : List Env) (s : Shared) (vs : List V) (H : Hp) (Q : VK) (E : XK), Room k (A.deeper (envOfC qual scope s.heap.objs.size g (.ref c))) → sp vs H Q E → ∃ t, PS (cxOf CX P w K mg base N qual scope g (.ref c) A outer s H E) st t ∧ t ⟨fun σ H' => ∃ cv, Kpt scope N zs σ cv ∧ MkQ H' pl al qn zs cv (fdN nm qn args b sc) Q, fun _ _ => False, fun _ _ => False, fun _ _ => False⟩ (start N vs) H) (hdb : (nm == ("__debug__" : Str)) = false := by decide) (hcl : (nm == ("__classdict__" : Str)) = false := by decide) :
    FnOk P w K mg base CX (k + 1) g (fnOf name qual params [st, .FunctionDef nm args b [] none [] sc none nm pos, .Return (some (.Name nm pn)) pr] scope dV kV doc pm an (.ref c) ct) ps sp := by
  refine fn_start lk hcd S len fun A outer s s1 H vs Q E hr h I => ?_
  obtain ⟨t, ht, hq⟩ := hsp A outer s vs H Q E hr h
  refine wpAny_execs_cons (wpAny_mono (ht [] s1 _ H _ I hq) (fun fl s2 h2 => ?_) fun _ _ z => z)
  cases fl with
  | next =>
    obtain ⟨σ, H2, I2, cv, ⟨k1, k2⟩, q⟩ := h2
    exact mk_tail I2 Z S.nd T.hi T.hk T.hd T.hkd (T.han _) (T.hq _) (T.hcl _) (T.hc _) (T.ndA _) (T.ndX _) (T.hz _) k1 k2 tp q hdb hcl
  | brk => obtain ⟨_, _, _, z⟩ := h2; exact z.elim
  | cont => obtain ⟨_, _, _, z⟩ := h2; exact z.elim
  | ret u => obtain ⟨_, _, _, _, _, z⟩ := h2; exact z.elim
end
end My
set_option Elab.async false
set_option linter.all false
set_option maxRecDepth 100000
set_option maxHeartbeats 4000000
set_option exponentiation.threshold 5000
namespace My
open PySem PySem.W L2
def keyD : Key → PyData
  | .inl i => .int i
  | .inr x => .str x
mutual
inductive Rds (G : Hp) : V → PyData → Prop
  | non : Rds G .non .none
  | bl (b : Bool) : Rds G (.bl b) (.bool b)
  | int (i : Int) : Rds G (.int i) (.int i)
  | str (x : Str) : Rds G (.str x) (.str x)
  | lst {a : Addr} {xs : List V} {ds : List PyData} : G a = some (.lst xs) → RdsAll G xs ds → Rds G (.ref a) (.list ds)
  | tup {a : Addr} {xs : List V} {ds : List PyData} : G a = some (.tup xs) → RdsAll G xs ds → Rds G (.ref a) (.tuple ds)
  | dic0 {a : Addr} : G a = some (.dK []) → Rds G (.ref a) (.dict [])
  | dic {a : Addr} {k : Key} {v : V} {d : PyData} : G a = some (.dK [(k, v)]) → Rds G v d → Rds G (.ref a) (.dict [(keyD k, d)])
inductive RdsAll (G : Hp) : List V → List PyData → Prop
  | nil : RdsAll G [] []
  | cons {v : V} {vs : List V} {d : PyData} {ds : List PyData} : Rds G v d → RdsAll G vs ds → RdsAll G (v :: vs) (d :: ds)
end
mutual
theorem Rds.mono {G G' : Hp} (s : Ext G G') : ∀ {v : V} {d : PyData}, Rds G v d → Rds G' v d
  | _, _, .non => .non
  | _, _, .bl b => .bl b
  | _, _, .int i => .int i
  | _, _, .str x => .str x
  | _, _, .lst e r => .lst (s _ _ e) (RdsAll.mono s r)
  | _, _, .tup e r => .tup (s _ _ e) (RdsAll.mono s r)
  | _, _, .dic0 e => .dic0 (s _ _ e)
  | _, _, .dic e r => .dic (s _ _ e) (Rds.mono s r)
theorem RdsAll.mono {G G' : Hp} (s : Ext G G') : ∀ {vs : List V} {ds : List PyData}, RdsAll G vs ds → RdsAll G' vs ds
  | _, _, .nil => .nil
  | _, _, .cons r t => .cons (Rds.mono s r) (RdsAll.mono s t)
end
theorem RdsAll.length {G : Hp} : ∀ {vs : List V} {ds : List PyData}, RdsAll G vs ds → vs.length = ds.length
  | _, _, .nil => rfl
  | _, _, .cons _ t => by rw [List.length_cons, List.length_cons, t.length]
section
variable {P : Program} {w : World} {H : Hp} {h : Heap}
theorem key_reads {k : Key} {u : Value} (r : (mixKind P w).is k u = true) : Reads h u (keyD k) [] := by
  rw [mixKind_is] at r
  rcases keyIs_shape r with ⟨i, t, rfl, rfl⟩ | ⟨x, t, rfl, rfl⟩
  · exact .int i t
  · exact .str x t
theorem pairs0 {es : List DictEntry} (ps : Pairs (mixKind P w) es ([] : List (Key × Value))) : es = [] := by
  cases ps
  rfl
theorem pairs1 {es : List DictEntry} {k : Key} {u : Value} (ps : Pairs (mixKind P w) es [(k, u)]) : ∃ e, es = [e] ∧ (mixKind P w).is k e.key = true ∧ e.val = u := by
  cases ps with
  | cons h1 h2 h3 =>
    cases h3
    exact ⟨_, rfl, h1, h2⟩
mutual
theorem reads_of (ok : HOk P w H h) (z : H sysModules = none) : ∀ {v : V} {d : PyData} {u : Value}, Rds H v d → RelV v u → ∃ as, Reads h u d as ∧ sysModules ∉ as
  | _, _, _, .non, r => by cases r; exact ⟨[], .none, by simp⟩
  | _, _, _, .bl b, r => by cases r; exact ⟨[], .bool b, by simp⟩
  | _, _, _, .int i, r => by obtain ⟨t, rfl⟩ := r; exact ⟨[], .int i t, by simp⟩
  | _, _, _, .str x, r => by obtain ⟨t, rfl⟩ := r; exact ⟨[], .str x t, by simp⟩
  | _, _, _, .lst (a := a) e t, r => by
    cases r
    obtain ⟨_, its, n, rv, ho⟩ := (show ObjOk P w H h _ (.lst _) from ok _ _ e)
    obtain ⟨as, ra, na⟩ := readsAll_of ok z t rv
    refine ⟨a :: as, .list ho rfl rfl (by simpa using ra), ?_⟩
    intro m
    rcases List.mem_cons.mp m with m | m
    · rw [← m, z] at e; cases e
    · exact na m
  | _, _, _, .tup (a := a) e t, r => by
    cases r
    obtain ⟨_, its, rv, o, ho, hc, n, hd⟩ := (show ObjOk P w H h _ (.tup _) from ok _ _ e)
    obtain ⟨as, ra, na⟩ := readsAll_of ok z t rv
    exact ⟨as, .tuple ho hc hd (by simpa using ra), na⟩
  | _, _, _, .dic0 (a := a) e, r => by
    cases r
    obtain ⟨_, hs, vs, kv, o, es, ep, ho, hx, hd, hks, hps, hnd⟩ := (show ObjOk P w H h _ (.dK _) from ok _ _ e)
    cases kv
    have ee : es.toList = [] := pairs0 hps
    refine ⟨a :: [] ++ [], .dict (kvs := []) ho hx.1 hd (by rw [ee]; exact .nil) (by rw [ee]; exact .nil), ?_⟩
    intro m
    have m' : sysModules = a := by simpa using m
    rw [← m', z] at e; cases e
  | _, _, _, .dic (a := a) (k := k) e t, r => by
    cases r
    obtain ⟨_, hs, vs, kv, o, es, ep, ho, hx, hd, hks, hps, hnd⟩ := (show ObjOk P w H h _ (.dK _) from ok _ _ e)
    cases kv with
    | cons q q' =>
      cases q'
      obtain ⟨hq1, hq2⟩ := q
      obtain ⟨e0, ee, ek, ev⟩ := pairs1 hps
      rw [← ev] at hq2
      rw [← hq1] at ek
      obtain ⟨as, ra, na⟩ := reads_of ok z t hq2
      have rk : ReadsAll h [e0.key] [keyD k] ([] ++ []) := .cons (key_reads ek) .nil
      have rv : ReadsAll h [e0.val] [_] (as ++ []) := .cons ra .nil
      refine ⟨a :: ([] ++ []) ++ (as ++ []), .dict (kvs := [(keyD k, _)]) ho hx.1 hd (by rw [ee]; exact rk) (by rw [ee]; exact rv), ?_⟩
      intro m
      rw [List.append_nil, List.append_nil] at m
      rcases List.mem_cons.mp m with m | m
      · rw [← m, z] at e; cases e
      · exact na (by simpa using m)
theorem readsAll_of (ok : HOk P w H h) (z : H sysModules = none) : ∀ {vs : List V} {ds : List PyData} {us : List Value}, RdsAll H vs ds → Vals vs us → ∃ as, ReadsAll h us ds as ∧ sysModules ∉ as
  | _, _, _, .nil, r => by cases r; exact ⟨[], .nil, by simp⟩
  | _, _, _, .cons r t, rv => by
    cases rv with
    | cons q qs =>
      obtain ⟨as, ra, na⟩ := reads_of ok z r q
      obtain ⟨bs, rb, nb⟩ := readsAll_of ok z t qs
      refine ⟨as ++ bs, .cons ra rb, fun m => ?_⟩
      rcases List.mem_append.mp m with m | m
      · exact na m
      · exact nb m
end
end
section
variable {X : Cx}
end
def kindD : PyData → String
  | .none => "NoneType"
  | .bool _ => "bool"
  | .int _ => "int"
  | .str _ => "str"
  | .list _ => "list"
  | .tuple _ => "tuple"
  | _ => "dict"
def tupB : PyData → Bool
  | .tuple _ => true
  | _ => false
def booB : PyData → Bool
  | .bool _ => true
  | _ => false
def inD (lo hi : Int) : PyData → Bool
  | .int i => decide (lo ≤ i) && decide (i ≤ hi)
  | _ => false
section
variable {K : Frag} {H : Hp} {v : V} {d : PyData}
theorem Rds.ty (r : Rds H v d) : TyOf K H v (.type (kindD d)) := by
  cases r with
  | non => exact .non
  | bl b => exact .bl b
  | int i => exact .int i
  | str x => exact .str x
  | lst e _ => exact .lst e
  | tup e _ => exact .tup e
  | dic0 e => exact .dK e
  | dic e _ => exact .dK e
theorem Rds.kd (r : Rds H v d) : Kd K H v (.type (kindD d)) := .inl r.ty
theorem Rds.isT (r : Rds H v d) : kitOne K (.type (kindD d)) (.type "tuple") = some (tupB d) := by cases r <;> rfl
theorem Rds.isB (r : Rds H v d) : kitOne K (.type (kindD d)) (.type "bool") = some (booB d) := by cases r <;> rfl
theorem Rds.th (r : Rds H v d) : Th K H v := by
  cases r with
  | int i => exact .inl ⟨i, rfl⟩
  | non => exact .inr ⟨fun i z => (by cases z), _, _, _, .inl .non, rfl, rfl, rfl⟩
  | bl b => exact .inr ⟨fun i z => (by cases z), _, _, _, .inl (.bl b), rfl, rfl, rfl⟩
  | str x => exact .inr ⟨fun i z => (by cases z), _, _, _, .inl (.str x), rfl, rfl, rfl⟩
  | lst e _ => exact .inr ⟨fun i z => (by cases z), _, _, _, .inl (.lst e), rfl, rfl, rfl⟩
  | tup e _ => exact .inr ⟨fun i z => (by cases z), _, _, _, .inl (.tup e), rfl, rfl, rfl⟩
  | dic0 e => exact .inr ⟨fun i z => (by cases z), _, _, _, .inl (.dK e), rfl, rfl, rfl⟩
  | dic e _ => exact .inr ⟨fun i z => (by cases z), _, _, _, .inl (.dK e), rfl, rfl, rfl⟩
theorem Rds.inB (r : Rds H v d) (lo hi : Int) : My.inB lo hi v = inD lo hi d := by cases r <;> rfl
theorem rds_tup (r : Rds H v (.tuple ds)) : ∃ a xs, v = .ref a ∧ H a = some (.tup xs) ∧ RdsAll H xs ds := by
  cases r with
  | tup e t => exact ⟨_, _, rfl, e, t⟩
theorem RdsAll.get {xs : List V} {ds : List PyData} (r : RdsAll H xs ds) : ∀ {i : Nat} {x : V}, xs[i]? = some x → ∃ d, ds[i]? = some d ∧ Rds H x d := by
  induction xs generalizing ds with
  | nil => intro i x h; simp at h
  | cons y ys ih =>
    cases r with
    | cons q t =>
      intro i x h
      cases i with
      | zero => cases h; exact ⟨_, rfl, q⟩
      | succ i => exact ih t h
end
end My
set_option Elab.async false
set_option linter.all false
set_option maxRecDepth 100000
set_option maxHeartbeats 1000000
namespace My
open PySem L2
structure Bx (p : Prop) : Prop where
  h : p
section
variable {X : Cx} {e a b : Expr} {es : List Expr} {te ta tb : TE} {t : TA} {pos : Pos} {st : Stmt} {rest : List Stmt} {ts u v : TS}
theorem bxa_nil : Bx (PA X [] tNil) := ⟨pa_nil⟩
theorem bxa_cons (ha : Bx (PE X e te)) (hr : Bx (PA X es t)) (hs : starEach (e :: es) X.env = (false, eval e X.env) :: starEach es X.env := by rfl) : Bx (PA X (e :: es) (tCons te t)) := ⟨pa_cons ha.h hr.h hs⟩
theorem bx_lst (h : Bx (PA X es t)) : Bx (PE X (.List es pos) (tLst t)) := ⟨pe_lst h.h⟩
theorem bxs_one (h : Bx (PS X st ts)) : Bx (PSs X [st] ts) := ⟨pss_one h.h⟩
theorem bxs_cons (h : Bx (PS X st ts)) (k : Bx (PSs X rest u)) : Bx (PSs X (st :: rest) (tSeq ts u)) := ⟨pss_cons h.h k.h⟩
theorem bx_set {i : Nat} {x : Str} {pos' : Pos} (hN : X.N.Nodup) (hi : X.N[i]? = some x) (hx : Loc X.env.scope x) (he : Bx (PE X e te)) (hs : swapsWith e (some (.Name x pos')) pos.line X.env = pure false := by rfl) (hf : X.fn x = true ∨ X.env.scope.names.lookup x = some .local := by first | exact .inl rfl | exact .inr rfl | assumption) :
    Bx (PS X (.Assign [.Name x pos'] e pos) (tAsg te (gName i))) := ⟨ps_set hN hi hx he.h hs hf⟩
end
end My
set_option Elab.async false
set_option linter.all false
set_option maxRecDepth 100000
set_option maxHeartbeats 1000000
namespace My
open PySem PySem.W L2
open AutoSeq1 (wpAny_loadPart')
section
variable {prog : Program} {w : World} {A : Around} {E : Value → Shared → Prop} {s : Shared} {r : Addr} {a b c : Int} {t u v : Tok} {n : Nat}
end
section
variable {X : Cx}
end
end My
set_option Elab.async false
set_option linter.all false
set_option maxRecDepth 100000
set_option maxHeartbeats 1000000
namespace My
open PySem L2
section
variable {X : Cx}
end
section
variable {X : Cx} {σ : St}
end
end My
set_option Elab.async false
set_option linter.all false
set_option maxRecDepth 100000
set_option maxHeartbeats 1000000
namespace My
open PySem PySem.W L2
section
variable {K : Frag} {te : TE} {tt : TT} {g : TG} {k : Nat} {cap : St} {D : Addr} {H1 : Hp} {Q : Hp → Prop} {a : Addr} {xs : List V}
theorem lcG_list (Pv : Nat → List V → Hp → Prop) (hz : xs.length < sizeLine) (h0 : Pv 0 [] (upd H1 D (.lst [])))
    (hl : ∀ i ys H, Pv i ys H → SqL K H a xs)
    (hs : ∀ i x ys H, xs[i]? = some x → ys.length = i → H D = some (.lst ys) → Pv i ys H → ∀ os : St, os.length = k → ∀ R : VK, (∀ y H4, H4 D = some (.lst ys) → Pv (i + 1) (ys ++ [y]) (upd H4 D (.lst (ys ++ [y]))) → R y H4) → g x (os ++ cap) H fun σ2 H0 => (∃ os' : St, os'.length = k ∧ σ2 = os' ++ cap) ∧ te σ2 H0 R)
    (hd : ∀ ys H, ys.length = xs.length → H D = some (.lst ys) → Pv xs.length ys H → Q H) :
    ∃ W : Nat → Nat → List V → Hp → Prop, (∃ m, W 0 m [] (upd H1 D (.lst []))) ∧
      ∀ i m ys H2, W i m ys H2 → H2 D = some (.lst ys) ∧ (((Itl K a).stop i H2 ∧ Q H2) ∨ ((Itl K a).go i H2 ∧ ys.length < sizeLine ∧
        ∀ x H3, (Itl K a).yld i H2 x H3 → ∀ os : St, os.length = k → g x (os ++ cap) H3 fun σ2 H0 => (∃ os' : St, os'.length = k ∧ σ2 = os' ++ cap) ∧ te σ2 H0 fun y H4 => H4 D = some (.lst ys) ∧ ∃ m', m' < m ∧ W (i + 1) m' (ys ++ [y]) (upd H4 D (.lst (ys ++ [y]))))) := by
  refine ⟨fun i m ys H => m = xs.length - i ∧ i ≤ xs.length ∧ ys.length = i ∧ H D = some (.lst ys) ∧ Pv i ys H, ⟨xs.length, by simp, Nat.zero_le _, rfl, upd_same, h0⟩, ?_⟩
  rintro i m ys H ⟨rfl, hi, hy, hD, p⟩
  refine ⟨hD, ?_⟩
  have q := hl i ys H p
  by_cases hlt : i < xs.length
  · refine .inr ⟨⟨xs, xs[i], q, by simp [hlt]⟩, by omega, fun x H' y => ?_⟩
    obtain ⟨e, y⟩ := y
    subst e
    exact fun os los => hs i x ys _ (y xs q) hy hD p os los _ fun z H4 hD4 p4 => ⟨hD4, xs.length - (i + 1), by omega, rfl, hlt, by rw [List.length_append, hy]; rfl, upd_same, p4⟩
  · have e : i = xs.length := by omega
    subst e
    exact .inl ⟨⟨xs, q, Nat.le_refl _⟩, hd ys H hy hD p⟩
theorem lcG_enum (Pv : Nat → List V → Hp → Prop) (hz : xs.length < sizeLine) (h0 : Pv 0 [] (upd H1 D (.lst [])))
    (hl : ∀ i ys H, Pv i ys H → SqL K H a xs)
    (hs : ∀ i x ys H p, xs[i]? = some x → ys.length = i → H D = some (.lst ys) → Pv i ys H → H p = none → ∀ os : St, os.length = k → ∀ R : VK, (∀ y H4, H4 D = some (.lst ys) → Pv (i + 1) (ys ++ [y]) (upd H4 D (.lst (ys ++ [y]))) → R y H4) → g (.ref p) (os ++ cap) (upd H p (.tup [.int (i : Nat), x])) fun σ2 H0 => (∃ os' : St, os'.length = k ∧ σ2 = os' ++ cap) ∧ te σ2 H0 R)
    (hd : ∀ ys H, ys.length = xs.length → H D = some (.lst ys) → Pv xs.length ys H → Q H) :
    ∃ W : Nat → Nat → List V → Hp → Prop, (∃ m, W 0 m [] (upd H1 D (.lst []))) ∧
      ∀ i m ys H2, W i m ys H2 → H2 D = some (.lst ys) ∧ (((Ite K a).stop i H2 ∧ Q H2) ∨ ((Ite K a).go i H2 ∧ ys.length < sizeLine ∧
        ∀ x H3, (Ite K a).yld i H2 x H3 → ∀ os : St, os.length = k → g x (os ++ cap) H3 fun σ2 H0 => (∃ os' : St, os'.length = k ∧ σ2 = os' ++ cap) ∧ te σ2 H0 fun y H4 => H4 D = some (.lst ys) ∧ ∃ m', m' < m ∧ W (i + 1) m' (ys ++ [y]) (upd H4 D (.lst (ys ++ [y]))))) := by
  refine ⟨fun i m ys H => m = xs.length - i ∧ i ≤ xs.length ∧ ys.length = i ∧ H D = some (.lst ys) ∧ Pv i ys H, ⟨xs.length, by simp, Nat.zero_le _, rfl, upd_same, h0⟩, ?_⟩
  rintro i m ys H ⟨rfl, hi, hy, hD, p⟩
  refine ⟨hD, ?_⟩
  have q := hl i ys H p
  by_cases hlt : i < xs.length
  · refine .inr ⟨⟨xs, xs[i], q, by simp [hlt]⟩, by omega, fun x H' y => ?_⟩
    obtain ⟨p', z, rfl, hp', rfl, hz'⟩ := y
    exact fun os los => hs i z ys H p' (hz' xs q) hy hD p hp' os los _ fun z H4 hD4 p4 => ⟨hD4, xs.length - (i + 1), by omega, rfl, hlt, by rw [List.length_append, hy]; rfl, upd_same, p4⟩
  · have e : i = xs.length := by omega
    subst e
    exact .inl ⟨⟨xs, q, Nat.le_refl _⟩, hd ys H hy hD p⟩
end
end My
set_option Elab.async false
set_option linter.all false
set_option maxRecDepth 100000
set_option maxHeartbeats 4000000
namespace My
open PySem L2
section
variable {X : Cx} {sc : Scope} {cl : List (Str × Addr)} {ts zs : List Str} {js : List Nat} {elt iter c : Expr} {pos : Pos} {tg : Expr} {g : TG} {wi : TI} {te : TE} {tt : TT}
theorem ps_lcG {y : Str} {py spos : Pos} {iy : Nat} (hc : X.calm = true) (S : CompG X sc cl ts zs js) (hi : PI X tg iter wi) (hg : ∀ s H C fp, PG (compCx X sc cl (ts ++ zs) s H C fp) tg g) (he : ∀ s H C fp, PE (compCx X sc cl (ts ++ zs) s H C fp) elt te)
    (hN : X.N.Nodup) (hiy : X.N[iy]? = some y) (hy : Loc X.env.scope y) (hsw : swapsWith (.ListComp elt [⟨tg, iter, [], 0⟩] sc pos) (some (.Name y py)) spos.line X.env = pure true)
    (hf : X.fn y = true ∨ X.env.scope.names.lookup y = some .local := by first | exact .inl rfl | exact .inr rfl | assumption)
    (hs : ∀ v, foldedSetIterable iter X.env v = pure v := by intro _; rfl) : PS X (.Assign [.Name y py] (.ListComp elt [⟨tg, iter, [], 0⟩] sc pos) spos) (tAsg (tLCG wi ts.length js g te) (gName iy)) := by
  intro pins s σ H De I h
  rw [exec_Assign_Name_used _ _ _ _ hsw]
  refine wpAny_bind (wpAny_standAt (wpAny_bind ?_))
  show wpAny _ _ (do let _ ← comprehension (.ListComp elt [⟨tg, iter, [], 0⟩] sc pos) sc X.env _ (newList []) false (eval iter X.env) (some (assign (.Name y py) X.env))) _ _ s
  refine wpAny_bind (wpAny_mono (wpAny_comprehension_free (use := some (assign (.Name y py) X.env)) (Q := fun _ s' => SP X pins De .next s') rfl hs S.clos S.kind S.names ?_) (fun _ s' hq => wpAny_pure (wpAny_pure hq)) fun _ _ e => e)
  refine (thn (hi pins s σ H _ I h) fun v s1 h1 => thn h1 fun itv s2 h2 => ?_)
  obtain ⟨it, fp, tn, J, H2, e, I2, T, st2, f2, body⟩ := h2
  subst e
  have fr2 : H2 s2.heap.objs.size = none := I2.fresh
  obtain ⟨W, ⟨m0, w0⟩, turn⟩ := body _ fr2
  refine wpAny_newObj_type ?_
  have I3 : Inv X pins σ (upd H2 s2.heap.objs.size (.lst [])) { s2 with heap := s2.heap.push { cls := .type "list", data := .seq ([] : List Value).toArray } } := I2.lnew (t' := s2.toks) (ys := []) (its := []) .nil (Nat.zero_le _)
  refine wpAny_newFunctionEnv S.noCell (by intro y hy; simp at hy) (fun h₁ hn hsb => ?_) S.kind
  generalize hs3 : ({ s2 with heap := s2.heap.push { cls := .type "list", data := .seq ([] : List Value).toArray } } : Shared) = s3 at I3 hn hsb ⊢
  have fpl : ∀ b ∈ fp, FpOk X pins (upd H2 s2.heap.objs.size (.lst [])) b ∧ b < s3.heap.objs.size := fun b hb => by
    obtain ⟨o, ho, _⟩ := T.obj _ _ st2 b hb
    have hl := Heap.lt_size ho
    have hne : b ≠ s2.heap.objs.size := Nat.ne_of_lt hl
    obtain ⟨z1, z2⟩ := f2 b hb
    refine ⟨⟨by rw [upd_ne hne]; exact z1, z2⟩, ?_⟩
    rw [← hs3]
    show b < (s2.heap.push _).objs.size
    rw [Heap.size_push]
    exact Nat.lt_succ_of_lt hl
  have old : ∀ b o, s3.heap.get? b = some o → h₁.get? b = some o := fun b o e => hsb.extBut b o (Nat.ne_of_lt (Heap.lt_size e)) (Heap.get?_push_of_some _ e)
  have loop : ∀ sS : Shared, sS.heap = h₁ → sS.os = s3.os → sS.gens = s3.gens → codeAny (model X.prog X.w) X.A (.compLoop (.ListComp elt [⟨tg, iter, [], 0⟩] sc pos) 0 (.ref it) (.ref s2.heap.objs.size) (compEnvC sc cl s3.heap.objs.size X.env))
      (compPost (model X.prog X.w) X.A X.xe (some (assign (.Name y py) X.env)) (fun _ s' => SP X pins De .next s') (.ref s2.heap.objs.size) s3.heap.objs.size) sS := by
    intro sS eh eo eg
    subst eh
    have J0 : Inv (compCx X sc cl (ts ++ zs) s3 (upd H2 s2.heap.objs.size (.lst [])) s3.heap.objs.size fp) [] (List.replicate ts.length none ++ capS js σ) (upd H2 s2.heap.objs.size (.lst [])) sS := compG_start I3 S fpl (Nat.le_refl _) eo eg old hn
    generalize hX : compCx X sc cl (ts ++ zs) s3 (upd H2 s2.heap.objs.size (.lst [])) s3.heap.objs.size fp = X' at J0
    have stat : ∀ {H' : Hp}, (∀ b ∈ fp, H' b = none) → ∀ b ∈ fp, FpOk X' [] H' b := fun {H'} hn b hb => by
      subst hX
      obtain ⟨⟨_, z1, z2, z3, z4, z5⟩, z6⟩ := fpl b hb
      refine ⟨hn b hb, Nat.ne_of_lt z6, fun q => ?_, .inl hb, fun y c e => z4 y c (S.sub _ _ e), fun p hp => absurd (show p ∈ ([] : List (Addr × Obj)) from hp) (by simp)⟩
      rcases List.mem_cons.mp (I3.stkSub b q) with e | e
      · exact z1 e
      · exact z2 e
    have st3 : tn 0 sS.heap := T.keep _ _ _ st2 fun b hb o e => old b o (by rw [← hs3]; exact Heap.get?_push_of_some _ e)
    refine compLoopT (fun n s' => ∃ i ys os H', os.length = ts.length ∧ Inv X' [] (os ++ capS js σ) H' s' ∧ tn i s'.heap ∧ (∀ b ∈ fp, H' b = none) ∧ W i n ys H') ?_ m0 ⟨0, [], _, _, List.length_replicate, J0, st3, fun b hb => (fpl b hb).1.1, w0⟩
    rintro n s' ⟨i, ys, os, H', los, Iv, st, fr, w⟩
    obtain ⟨hD, alt⟩ := turn i n ys H' w
    have eP : X'.prog = X.prog := by subst hX; rfl
    have eW : X'.w = X.w := by subst hX; rfl
    have eK : X'.K = X.K := by subst hX; rfl
    have eC : X'.calm = true := by subst hX; exact hc
    have eA : X'.A = X.A := by subst hX; rfl
    have eE : X'.env = compEnvC sc cl s3.heap.objs.size X.env := by subst hX; rfl
    have eX : X'.xe = fun _ _ => False := by subst hX; rfl
    rcases alt with ⟨stop, q⟩ | ⟨go, hlen, step⟩
    · have d := T.done X' eP eW eK eC i [] s' _ H' (fun _ _ => False) Iv (stat fr) st stop
      rw [eA] at d
      refine thn d fun r s4 ⟨hr, I4⟩ => ?_
      subst hr
      obtain ⟨m, hm, _⟩ := id I4.loc
      have fC : H' s3.heap.objs.size = none := by
        have z := I4.free
        rw [eE] at z
        exact z
      rw [eE] at hm
      subst hX
      have I5 : Inv X pins σ H' s4 := compG_end (h' := s4.heap) I3 fpl (Nat.le_refl _) I4 ⟨rfl, fun _ _ => rfl⟩
      show wpAny _ _ (assign (.Name y py) X.env (.ref s2.heap.objs.size)) _ _ s4
      have nC : ∀ b, b < s3.heap.objs.size → b ≠ s3.heap.objs.size := fun b hb => Nat.ne_of_lt hb
      have nL : X.env.locals ≠ s3.heap.objs.size := nC _ I3.lt
      have cl3 : ∀ z c, X.env.cells.lookup z = some c → c ≠ s3.heap.objs.size := fun z c e => by
        obtain ⟨v, o, ho, _⟩ := I3.cell z c e
        exact nC _ (Heap.lt_size ho)
      refine wpAny_assign_Name (store_ok2 I5 hN hiy hy (v := .ref s2.heap.objs.size) rfl (fun s5 I6 hb => ?_) hf)
      obtain ⟨a5, sb5, ha5⟩ := hb
      have na5 : s3.heap.objs.size ≠ a5 := by
        rcases ha5 with e | e
        · rw [e]; exact nL.symm
        · exact (cl3 _ _ e).symm
      refine ⟨m, hm.sameBut sb5 na5, fun h' hs' => ?_⟩
      have I7 : Inv X pins (σ.set iy (some (.ref s2.heap.objs.size))) H' { s5 with heap := h', toks := s5.toks } :=
        I6.turned (h' := h') (t' := s5.toks) (it := s3.heap.objs.size) (fun b o hb e => (hs'.2 b hb).trans e) fC nL.symm (.inr I3.sz) cl3 fun p hp => by
          obtain ⟨e1, _⟩ := I3.pin p hp
          exact nC _ (Heap.lt_size e1)
      exact ⟨_, H', I7, q⟩
    · have d := T.item X' eP eW eK eC i [] s' _ H' (fun _ _ => False) Iv (stat fr) st go
      rw [eA] at d
      refine thn d fun r s4 ⟨u, hr, h4⟩ => ?_
      subst hr
      refine thn h4 fun _ s5 ⟨y, H5, I5, r5, y5, st5, fr5⟩ => ?_
      have I5' := I5.pinned (stat fr5) (T.obj _ _ st5)
      have hg' : PG X' tg g := by subst hX; exact hg _ _ _ _
      have g6 := hg' _ s5 _ H5 y u _ I5' r5 (step y H5 y5 os los)
      rw [eP, eW, eA, eE, eX] at g6
      refine thn g6 fun _ s6 ⟨σ6, H6, I6, ⟨os', los', e6⟩, st6⟩ => ?_
      subst e6
      have he' : PE X' elt te := by subst hX; exact he _ _ _ _
      have g7 := he' _ s6 _ H6 _ I6 st6
      rw [eP, eW, eA, eE, eX] at g7
      refine thn g7 fun uv s7 ⟨v7, H7, I7, r7, hD7, m', hm', w7⟩ => ?_
      have g8 := (mt_append (X := X')) _ s7 _ H7 (.ref s2.heap.objs.size) [v7] (.ref s2.heap.objs.size) [uv] (fun _ H8 => H8 = upd H7 s2.heap.objs.size (.lst (ys ++ [v7]))) I7 rfl (.cons r7 .nil) ⟨_, ys, v7, rfl, rfl, hD7, hlen, rfl⟩
      rw [eP, eW, eA, eX] at g8
      refine thn g8 fun _ s8 ⟨_, H8, I8, _, e8⟩ => ?_
      subst e8
      refine ⟨m', hm', i + 1, ys ++ [v7], os', _, los', I8.unpinned, T.keep _ _ _ st5 fun b hb o e => (I8.pin (b, o) (List.mem_append_right _ (List.mem_append_right _ (mem_pinsAt hb e)))).1, fun b hb => ?_, w7⟩
      obtain ⟨o', e', _⟩ := T.obj _ _ st5 b hb
      exact (I8.pin (b, o') (List.mem_append_right _ (List.mem_append_right _ (mem_pinsAt hb e')))).2.1
  have st1 : tn 0 h₁ := T.keep _ _ _ st2 fun b hb o e => old b o (by rw [← hs3]; exact Heap.get?_push_of_some _ e)
  exact codeAny_compStart_list (loop _ rfl rfl rfl) (T.self _ 0 _ _ _ st1 (loop _ rfl rfl rfl))
end
section
variable {X : Cx} {sc : Scope} {cl : List (Str × Addr)} {ts zs : List Str} {js : List Nat} {elt iter c : Expr} {pos : Pos} {tg : Expr} {g : TG} {wi : TI} {te : TE} {tt : TT}
end
end My
set_option Elab.async false
set_option linter.all false
set_option maxRecDepth 100000
set_option maxHeartbeats 1000000
namespace My
open PySem PySem.W L2
section
variable {X : Cx} {pos : Pos}
end
section
variable {K : Frag} {te : TE} {g : TG} {k : Nat} {cap : St} {D : Addr} {H1 : Hp} {Q : Hp → Prop}
theorem lcG_range {lo : Int} {n : Nat} (Pv : Nat → List V → Hp → Prop) (hz : n < sizeLine) (h0 : Pv 0 [] (upd H1 D (.lst [])))
    (hs : ∀ i ys H, i < n → ys.length = i → H D = some (.lst ys) → Pv i ys H → ∀ os : St, os.length = k → ∀ R : VK, (∀ y H4, H4 D = some (.lst ys) → Pv (i + 1) (ys ++ [y]) (upd H4 D (.lst (ys ++ [y]))) → R y H4) → g (.int (lo + i)) (os ++ cap) H fun σ2 H0 => (∃ os' : St, os'.length = k ∧ σ2 = os' ++ cap) ∧ te σ2 H0 R)
    (hd : ∀ ys H, ys.length = n → H D = some (.lst ys) → Pv n ys H → Q H) :
    ∃ W : Nat → Nat → List V → Hp → Prop, (∃ m, W 0 m [] (upd H1 D (.lst []))) ∧
      ∀ i m ys H2, W i m ys H2 → H2 D = some (.lst ys) ∧ (((Itr lo n).stop i H2 ∧ Q H2) ∨ ((Itr lo n).go i H2 ∧ ys.length < sizeLine ∧
        ∀ x H3, (Itr lo n).yld i H2 x H3 → ∀ os : St, os.length = k → g x (os ++ cap) H3 fun σ2 H0 => (∃ os' : St, os'.length = k ∧ σ2 = os' ++ cap) ∧ te σ2 H0 fun y H4 => H4 D = some (.lst ys) ∧ ∃ m', m' < m ∧ W (i + 1) m' (ys ++ [y]) (upd H4 D (.lst (ys ++ [y]))))) := by
  refine ⟨fun i m ys H => m = n - i ∧ i ≤ n ∧ ys.length = i ∧ H D = some (.lst ys) ∧ Pv i ys H, ⟨n, by simp, Nat.zero_le _, rfl, upd_same, h0⟩, ?_⟩
  rintro i m ys H ⟨rfl, hi, hy, hD, p⟩
  refine ⟨hD, ?_⟩
  by_cases hlt : i < n
  · refine .inr ⟨hlt, by omega, fun x H' y => ?_⟩
    obtain ⟨e, y⟩ := y
    subst e y
    exact fun os los => hs i ys _ hlt hy hD p os los _ fun z H4 hD4 p4 => ⟨hD4, n - (i + 1), by omega, rfl, hlt, by rw [List.length_append, hy]; rfl, upd_same, p4⟩
  · have e : i = n := by omega
    subst e
    exact .inl ⟨Nat.le_refl _, hd ys H hy hD p⟩
end
end My
set_option Elab.async false
set_option linter.all false
set_option maxRecDepth 100000
set_option maxHeartbeats 1000000
namespace My
open PySem PySem.W L2
section
variable {X : Cx}
theorem ints_items : ∀ {ns : List Int} {its : List Value}, Vals (ns.map V.int) its → ∃ xs : List (Int × Tok), its = xs.map (fun p => Value.int p.1 p.2) ∧ ns = xs.map (·.1)
  | [], _, r => by cases r; exact ⟨[], rfl, rfl⟩
  | n :: ns, _, r => by
    rw [List.map_cons] at r
    cases r with
    | cons r1 r2 =>
      obtain ⟨t, rfl⟩ := r1
      obtain ⟨xs, e1, e2⟩ := ints_items r2
      exact ⟨(n, t) :: xs, by rw [e1]; rfl, by rw [e2]; rfl⟩
theorem numAt_get {xs : List (Int × Tok)} {i : Nat} (h : i < xs.length) : numAt xs.toArray i = (xs.map (·.1))[i]'(by rw [List.length_map]; exact h) := by
  simp [numAt, h]
def rMinL (K : Frag) : List V → Hp → VK → Prop := fun vs H Q => ∃ (l : Addr) (ns : List Int) (m : Int), vs = [.ref l] ∧ SqL K H l (ns.map V.int) ∧ m ∈ ns ∧ (∀ a ∈ ns, m ≤ a) ∧ Q (.int m) H
theorem call_minL (hc : X.calm = true) : CallR X (.builtin "min") (rMinL X.K) := by
  intro pins s σ H xs us Q I r h
  obtain ⟨l, ns, m, rfl, hl, hm, hle, q⟩ := h
  obtain ⟨u, rfl, ru⟩ := vals1 r
  cases (show u = Value.ref l from ru)
  obtain ⟨its, rv, p, hz⟩ := I.list hl
  obtain ⟨xs, rfl, rfl⟩ := ints_items rv
  have e : (xs.map fun p => Value.int p.1 p.2).toArray = intItems xs.toArray := by simp [intItems]
  have hL : s.heap.IsList l (intItems xs.toArray) := by rw [← e]; exact p.isList
  have hne : 0 < xs.toArray.size := by
    have := List.length_pos_of_mem hm
    rw [List.length_map] at this
    simpa using this
  refine min_intList (I.ok.hd hc) hL hne fun v h' tk hv hk => ?_
  obtain ⟨t, rfl⟩ := intItems_at hv
  obtain ⟨h1, h2⟩ := argBest_lt (numAt xs.toArray) (xs.toArray.size - 1)
  have em : numAt xs.toArray (argBest (fun i j => decide (numAt xs.toArray i < numAt xs.toArray j)) (xs.toArray.size - 1)) = m := by
    have hsz : xs.toArray.size = xs.length := List.size_toArray ..
    refine Int.le_antisymm ?_ ?_
    · obtain ⟨j, hj, ej⟩ := List.getElem_of_mem hm
      rw [List.length_map] at hj
      have := h2 j (by omega)
      rw [numAt_get hj, ej] at this
      exact this
    · rw [numAt_get (by omega)]
      exact hle _ (List.getElem_mem _)
  rw [em]
  exact ⟨.int m, H, I.kept hk, ⟨t, rfl⟩, q⟩
end
end My
set_option Elab.async false
set_option linter.all false
set_option maxRecDepth 100000
set_option maxHeartbeats 1000000
namespace My
open PySem PySem.W L2
open Sem (wp)
open AutoSeq1 (wpAny_loadPart')
open PyProof.Rows (Call_ boot_enumerate)
section
variable {prog : Program} {w : World} {A : Around} {E : Value → Shared → Prop} {s : Shared}
end
section
variable {X : Cx}
end
end My
set_option Elab.async false
set_option linter.all false
set_option maxRecDepth 100000
set_option maxHeartbeats 1000000
namespace My
open PySem PySem.W L2 PyProof.Rows
section
variable {X : Cx} {e : Expr} {te : TE} {pos p1 p2 p3 : Pos}
end
end My
set_option Elab.async false
set_option linter.all false
set_option maxRecDepth 100000
set_option maxHeartbeats 1000000
namespace My
open PySem PySem.W L2
structure OneF (K : Frag) (mg : Str → Option Value) (D : Addr) (nm fld : Str) (C f : Addr) (fd : FuncData) : Prop where
  cls : ErrC K D nm C f
  mgC : mg nm = some (.ref C)
  ok : ∀ (P : Program) (w : World) (base : Heap), FnOk P w K mg base CX0 1 f fd ["self", fld] (spErr C fld)
  bi : Binds K fd ["self", fld] []
structure Df (P : Program) (w : World) (K : Frag) (mg : Str → Option Value) (base : Heap) (cx : CXT) (k : Nat) (nm : Str) (ps : List Str) (sp : Sp) (g : Addr) (gd : FuncData) : Prop where
  G : FnOk P w K mg base cx k g gd ps sp
  b : Binds K gd ps []
  kp : keepIn K (.ref g) = true
  m : mg nm = some (.ref g)
theorem passN {P : Program} {w : World} {X : Cx} : Passes (CXE P w) X E0 := fun _ _ _ _ _ _ _ h => by
  obtain ⟨_, _, _, _, _, _, _, _, _, _, _, _, _, h⟩ := h
  exact h.elim
def ErrF (C : Addr) (fld : Str) (x : V) (H : Hp) (E : XK) : Prop := ∀ e dx, H e = none → H dx = none → dx ≠ e → E (.ref C) (some e) (upd (upd H dx (.xd [(fld, x)])) e (ErrT e C (some dx)))
section
variable {P : Program} {w : World} {K : Frag} {mg : Str → Option Value} {base : Heap}
end
theorem ext_upd {H0 H : Hp} {l : Addr} (o : HO) (x : Ext H0 H) (h : H0 l = none) : Ext H0 (upd H l o) := fun b u e => by
  rw [upd_ne (fun z => by rw [z, h] at e; cases e)]
  exact x b u e
theorem take_all {α : Type} {xs : List α} {i : Nat} {x : α} (h : xs[i]? = some x) : xs.take (i + 1) = xs.take i ++ [x] := by
  rw [List.take_succ, h]
  rfl
def Kept (H H' : Hp) (p : Addr) : Prop := ∀ b o, H b = some o → b ≠ p → H' b = some o
section
variable {X : Cx} {CX : CXT} {k : Nat} {f : Addr} {fd : FuncData} {ps : List Str} {sp : Sp} {E : XK} {x : Str} {p pos : Pos} {e : Expr} {es : List Expr} {t : TA} {σ : St}
end
structure Fi (k n : Nat) (d : PyData) : Prop where
  sh : d.showable = true
  dp : d.depth ≤ k
  lv : d.leavesShort 64 = true
  bk : d.bulk ≤ n
section
variable {X : Cx} {σ : St} {e : Expr} {es : List Expr} {t : TA} {p pos : Pos} {x : Str} {r : List V → Hp → VK → Prop}
end
structure FldOk (K : Frag) (C : Addr) (fld : Str) : Prop where
  it : ErrI K C
  hd : hasDictIn K C = true
  nf : findIn K (.ref C) fld = some none
section
variable {K : Frag} {H : Hp} {D : Ends} {σ : St} {p : Addr}
theorem rd_op {r : R2} {ta tb : TE} {Q : VK} (h : ta σ H fun x H1 => tb σ H1 fun y H2 => r x y H2 Q) : tOp r ta tb σ H Q := h
theorem rd_set {te : TE} {i : Nat} {u : TS} (h : te σ H fun v H1 => u D (σ.set i (some v)) H1) : tSeq (tAsg te (gName i)) u D σ H := h
end
section
variable {G G' : Hp} {xs ys : List V} {n m : Nat}
end
section
variable {p : Addr} {k m k' m' n : Nat} {te ta tb : TE} {t : TA}
end
theorem err_at {C : Addr} {fld : Str} {v : V} {H1 : Hp} {E' : XK} (h : ∀ e dx H', Ext H1 H' → H' e = some (ErrT e C (some dx)) → H' dx = some (.xd [(fld, v)]) → E' (.ref C) (some e) H') : ErrF C fld v H1 E' := fun e dx he hdx ne => by
  have x2 := Ext.new (o := .xd [(fld, v)]) hdx
  have he2 : upd H1 dx (.xd [(fld, v)]) e = none := by rw [upd_ne ne.symm]; exact he
  have x3 := Ext.new (o := ErrT e C (some dx)) he2
  exact h e dx _ (x2.trans x3) upd_same (x3 _ _ upd_same)
section
variable {X : Cx}
def rNeNil (K : Frag) : R2 := fun x y H Q => ∃ p q xs, x = .ref p ∧ y = .ref q ∧ SqL K H p xs ∧ SqL K H q [] ∧ Q (.bl (!xs.isEmpty)) H
theorem op_neNil (hu : X.A.units < cLine) : OpR X (compareOp .NotEq) (rNeNil X.K) := by
  intro pins s σ H x y v u Q I rx ry h
  obtain ⟨p, q, xs, rfl, rfl, hp, hq, k⟩ := h
  cases rx
  cases ry
  obtain ⟨its, r1, t1, _⟩ := I.list hp
  obtain ⟨jts, r2, t2, _⟩ := I.list hq
  have l1 := r1.length
  have l2 := r2.length
  have e2 : jts = [] := List.length_eq_zero_iff.mp l2.symm
  subst e2
  cases xs with
  | nil =>
    have e1 : its = [] := List.length_eq_zero_iff.mp l1.symm
    subst e1
    exact SeqAt.RcNeAt.lists (e := fun _ => true) t1.isList t2.isList rfl hu (fun j h _ => absurd h (Nat.not_lt_zero _)) X.prog X.w X.xe _ ⟨.bl false, H, I, rfl, k⟩
  | cons x xs =>
    exact SeqAt.RcNeAt.lists_lengths t1.isList t2.isList (by simp [← l1]) hu X.prog X.w X.xe _ ⟨.bl true, H, I, rfl, k⟩
end
section
variable {G : Hp → Hp} {σ : St} {H0 : Hp} {k m k' m' n : Nat} {te ta tb : TE} {t : TA}
end
section
variable {H : Hp}
end
section
variable {K : Frag} {H : Hp}
end
section
variable {H : Hp} {De : Ends}
end
end My
set_option Elab.async false
set_option linter.all false
set_option maxRecDepth 100000
set_option maxHeartbeats 1000000
namespace My
open PySem PySem.W L2
section
variable {X : Cx}
end
section
variable {X : Cx}
end
mutual
def eqD : PyData → PyData → Bool
  | .list xs, .list ys => eqDs xs ys
  | .tuple xs, .tuple ys => eqDs xs ys
  | .none, .none => true
  | .bool a, .bool b => a == b
  | .bool a, .int j => (if a then (1 : Int) else 0) == j
  | .int i, .bool b => i == (if b then (1 : Int) else 0)
  | .int i, .int j => i == j
  | .str x, .str y => x == y
  | _, _ => false
def eqDs : List PyData → List PyData → Bool
  | [], [] => true
  | x :: xs, y :: ys => eqD x y && eqDs xs ys
  | _, _ => false
end
mutual
def plainD : PyData → Bool
  | .list xs => plainDs xs
  | .tuple xs => plainDs xs
  | .dict _ => false
  | _ => true
def plainDs : List PyData → Bool
  | [] => true
  | x :: xs => plainD x && plainDs xs
end
mutual
theorem eqD_refl : ∀ {d : PyData}, plainD d = true → eqD d d = true
  | .none, _ => by simp [eqD]
  | .bool b, _ => by simp [eqD]
  | .int i, _ => by simp [eqD]
  | .str x, _ => by simp [eqD]
  | .list xs, h => by simp only [eqD]; exact eqDs_refl (by simpa only [plainD] using h)
  | .tuple xs, h => by simp only [eqD]; exact eqDs_refl (by simpa only [plainD] using h)
  | .dict _, h => by simp [plainD] at h
theorem eqDs_refl : ∀ {ds : List PyData}, plainDs ds = true → eqDs ds ds = true
  | [], _ => by simp [eqDs]
  | d :: ds, h => by
    simp only [plainDs, Bool.and_eq_true] at h
    simp only [eqDs, eqD_refl h.1, eqDs_refl h.2, Bool.and_self]
end
mutual
theorem Rds.det {G : Hp} : ∀ {v : V} {d e : PyData}, Rds G v d → Rds G v e → d = e
  | _, _, _, .non, r => by cases r; rfl
  | _, _, _, .bl b, r => by cases r; rfl
  | _, _, _, .int i, r => by cases r; rfl
  | _, _, _, .str x, r => by cases r; rfl
  | _, _, _, .lst h t, r => by
    cases r with
    | lst h' t' => rw [h] at h'; cases h'; rw [RdsAll.det t t']
    | tup h' _ => rw [h] at h'; cases h'
    | dic0 h' => rw [h] at h'; cases h'
    | dic h' _ => rw [h] at h'; cases h'
  | _, _, _, .tup h t, r => by
    cases r with
    | lst h' _ => rw [h] at h'; cases h'
    | tup h' t' => rw [h] at h'; cases h'; rw [RdsAll.det t t']
    | dic0 h' => rw [h] at h'; cases h'
    | dic h' _ => rw [h] at h'; cases h'
  | _, _, _, .dic0 h, r => by
    cases r with
    | lst h' _ => rw [h] at h'; cases h'
    | tup h' _ => rw [h] at h'; cases h'
    | dic0 h' => rfl
    | dic h' _ => rw [h] at h'; cases h'
  | _, _, _, .dic h t, r => by
    cases r with
    | lst h' _ => rw [h] at h'; cases h'
    | tup h' _ => rw [h] at h'; cases h'
    | dic0 h' => rw [h] at h'; cases h'
    | dic h' t' => rw [h] at h'; cases h'; rw [Rds.det t t']
theorem RdsAll.det {G : Hp} : ∀ {vs : List V} {ds es : List PyData}, RdsAll G vs ds → RdsAll G vs es → ds = es
  | _, _, _, .nil, r => by cases r; rfl
  | _, _, _, .cons h t, r => by
    cases r with
    | cons h' t' => rw [Rds.det h h', RdsAll.det t t']
end
theorem eqDs_all : ∀ (xs ys : List PyData), ((List.range (min xs.length ys.length)).all (fun j => eqD (xs.getD j .none) (ys.getD j .none)) && xs.length == ys.length) = eqDs xs ys
  | [], [] => by simp [eqDs]
  | [], y :: ys => by simp [eqDs]
  | x :: xs, [] => by simp [eqDs]
  | x :: xs, y :: ys => by
    have ih := eqDs_all xs ys
    simp only [eqDs]
    rw [← ih, List.length_cons, List.length_cons, Nat.succ_min_succ, List.range_succ_eq_map, List.all_cons, List.all_map, Bool.and_assoc]
    congr 1
    rw [show (xs.length + 1 == ys.length + 1) = (xs.length == ys.length) from by simp]
    rfl
section
variable {X : Cx}
structure Rc2 (A : Around) (s : Shared) (u v : Value) (b : Bool) : Prop where
  eq : SeqAt.RcAt A s u v b
  ne : SeqAt.RcNeAt A s u v (!b)
structure Rc3 (A : Around) (s : Shared) (u v : Value) (b : Bool) : Prop where
  eq : SeqAt.RcAt A s u v b
  ne : SeqAt.RcNeAt A s u v (!b)
  at_ : SeqAt.EqAt A s u v b
theorem tups_rc {A : Around} {s : Shared} {p q : Addr} {its jts : List Value} (hu : A.units < cLine) (t1 : s.heap.IsTuple p its.toArray) (t2 : s.heap.IsTuple q jts.toArray) (e : Nat → Bool) (he : ∀ j (h1 : j < its.length) (h2 : j < jts.length), SeqAt.EqAt A.in1 s its[j] jts[j] (e j)) :
    Rc2 A s (.ref p) (.ref q) ((List.range (min its.length jts.length)).all e && its.length == jts.length) := by
  have h' : ∀ j (h1 : j < its.toArray.size) (h2 : j < jts.toArray.size), SeqAt.EqAt A.in1 s its.toArray[j] jts.toArray[j] (e j) := fun j h1 h2 => by
    simpa using he j (by simpa using h1) (by simpa using h2)
  have a := SeqAt.RcAt.tuples (e := e) t1 t2 hu h'
  have b := SeqAt.RcNeAt.tuples (e := e) t1 t2 hu h'
  rw [List.size_toArray, List.size_toArray] at a b
  exact ⟨a, b⟩
theorem lsts_rc {A : Around} {s : Shared} {p q : Addr} {its jts : List Value} (hu : A.units < cLine) (t1 : s.heap.IsList p its.toArray) (t2 : s.heap.IsList q jts.toArray) (e : Nat → Bool) (he : ∀ j (h1 : j < its.length) (h2 : j < jts.length), SeqAt.EqAt A.in1 s its[j] jts[j] (e j)) :
    Rc2 A s (.ref p) (.ref q) ((List.range (min its.length jts.length)).all e && its.length == jts.length) := by
  have h' : ∀ j (h1 : j < its.toArray.size) (h2 : j < jts.toArray.size), SeqAt.EqAt A.in1 s its.toArray[j] jts.toArray[j] (e j) := fun j h1 h2 => by
    simpa using he j (by simpa using h1) (by simpa using h2)
  by_cases sz : its.length = jts.length
  · have a := SeqAt.RcAt.lists (e := e) t1 t2 (by simpa using sz) hu h'
    have b := SeqAt.RcNeAt.lists (e := e) t1 t2 (by simpa using sz) hu h'
    rw [List.size_toArray] at a b
    have z : ((List.range (min its.length jts.length)).all e && its.length == jts.length) = (List.range its.length).all e := by
      rw [sz, Nat.min_self]
      simp
    rw [z]
    exact ⟨a, b⟩
  · have z : ((List.range (min its.length jts.length)).all e && its.length == jts.length) = false := by
      rw [show (its.length == jts.length) = false from by simpa using sz]
      simp
    rw [z]
    exact ⟨SeqAt.RcAt.lists_lengths t1 t2 (by simpa using sz) hu, SeqAt.RcNeAt.lists_lengths t1 t2 (by simpa using sz) hu⟩
mutual
theorem eqD_rc {pins : List (Addr × Obj)} {σ : St} {H : Hp} {s : Shared} (I : Inv X pins σ H s) : ∀ {x : V} {d : PyData}, Rds H x d → ∀ {A : Around} {y : V} {e : PyData} {u v : Value}, Rds H y e → plainD d = true → plainD e = true → A.units + d.depth < cLine → RelV x u → RelV y v → Rc3 A s u v (eqD d e)
  | _, _, .non, A, y, e, u, v, ry, pd, pe, hu, ru, rv => by
    have h0 : A.units < cLine := by omega
    cases ru
    cases ry with
    | non => cases rv; simp only [eqD]; exact ⟨.none_none, .none_none, .same _⟩
    | bl b => cases rv; simp only [eqD]; exact ⟨.none_bool _, .none_bool _, .none_bool _⟩
    | int j => obtain ⟨t, rfl⟩ := rv; simp only [eqD]; exact ⟨.none_int _ _, .none_int _ _, .none_int _ _⟩
    | str z => obtain ⟨t, rfl⟩ := rv; simp only [eqD]; exact ⟨.none_str _ _, .none_str _ _, .none_str _ _⟩
    | lst h _ => cases rv; obtain ⟨its, _, t, _⟩ := I.list (SqL.of (K := X.K) h); simp only [eqD]; exact ⟨.none_list t.isList h0, .none_list t.isList h0, .none_list t.isList h0⟩
    | tup h _ => cases rv; obtain ⟨its, _, t, _⟩ := I.tuple (SqT.of (K := X.K) h); simp only [eqD]; exact ⟨.none_tuple t h0, .none_tuple t h0, .none_tuple t h0⟩
    | dic0 _ => simp [plainD] at pe
    | dic _ _ => simp [plainD] at pe
  | _, _, .bl a, A, y, e, u, v, ry, pd, pe, hu, ru, rv => by
    have h0 : A.units < cLine := by omega
    cases ru
    cases ry with
    | non => cases rv; simp only [eqD]; exact ⟨.bool_none _, .bool_none _, .bool_none _⟩
    | bl b => cases rv; simp only [eqD]; exact ⟨.bool_bool _ _, .bool_bool _ _, .bool_bool _ _⟩
    | int j => obtain ⟨t, rfl⟩ := rv; simp only [eqD]; exact ⟨.bool_int _ _ _, .bool_int _ _ _, .bool_int _ _ _⟩
    | str z => obtain ⟨t, rfl⟩ := rv; simp only [eqD]; exact ⟨.bool_str _ _ _, .bool_str _ _ _, .bool_str _ _ _⟩
    | lst h _ => cases rv; obtain ⟨its, _, t, _⟩ := I.list (SqL.of (K := X.K) h); simp only [eqD]; exact ⟨.bool_list _ t.isList h0, .bool_list _ t.isList h0, .bool_list _ t.isList h0⟩
    | tup h _ => cases rv; obtain ⟨its, _, t, _⟩ := I.tuple (SqT.of (K := X.K) h); simp only [eqD]; exact ⟨.bool_tuple _ t h0, .bool_tuple _ t h0, .bool_tuple _ t h0⟩
    | dic0 _ => simp [plainD] at pe
    | dic _ _ => simp [plainD] at pe
  | _, _, .int i, A, y, e, u, v, ry, pd, pe, hu, ru, rv => by
    have h0 : A.units < cLine := by omega
    obtain ⟨tu, rfl⟩ := ru
    cases ry with
    | non => cases rv; simp only [eqD]; exact ⟨.int_none _ _, .int_none _ _, .int_none _ _⟩
    | bl b => cases rv; simp only [eqD]; exact ⟨.int_bool _ _ _, .int_bool _ _ _, .int_bool _ _ _⟩
    | int j => obtain ⟨t, rfl⟩ := rv; simp only [eqD]; exact ⟨.int_int _ _ _ _, .int_int _ _ _ _, .int_int _ _ _ _⟩
    | str z => obtain ⟨t, rfl⟩ := rv; simp only [eqD]; exact ⟨.int_str _ _ _ _, .int_str _ _ _ _, .int_str _ _ _ _⟩
    | lst h _ => cases rv; obtain ⟨its, _, t, _⟩ := I.list (SqL.of (K := X.K) h); simp only [eqD]; exact ⟨.int_list _ _ t.isList h0, .int_list _ _ t.isList h0, .int_list _ _ t.isList h0⟩
    | tup h _ => cases rv; obtain ⟨its, _, t, _⟩ := I.tuple (SqT.of (K := X.K) h); simp only [eqD]; exact ⟨.int_tuple _ _ t h0, .int_tuple _ _ t h0, .int_tuple _ _ t h0⟩
    | dic0 _ => simp [plainD] at pe
    | dic _ _ => simp [plainD] at pe
  | _, _, .str x, A, y, e, u, v, ry, pd, pe, hu, ru, rv => by
    have h0 : A.units < cLine := by omega
    obtain ⟨tu, rfl⟩ := ru
    cases ry with
    | non => cases rv; simp only [eqD]; exact ⟨.str_none _ _, .str_none _ _, .str_none _ _⟩
    | bl b => cases rv; simp only [eqD]; exact ⟨.str_bool _ _ _, .str_bool _ _ _, .str_bool _ _ _⟩
    | int j => obtain ⟨t, rfl⟩ := rv; simp only [eqD]; exact ⟨.str_int _ _ _ _, .str_int _ _ _ _, .str_int _ _ _ _⟩
    | str z => obtain ⟨t, rfl⟩ := rv; simp only [eqD]; exact ⟨.str_str _ _ _ _, .str_str _ _ _ _, .str_str _ _ _ _⟩
    | lst h _ => cases rv; obtain ⟨its, _, t, _⟩ := I.list (SqL.of (K := X.K) h); simp only [eqD]; exact ⟨.str_list _ _ t.isList h0, .str_list _ _ t.isList h0, .str_list _ _ t.isList h0⟩
    | tup h _ => cases rv; obtain ⟨its, _, t, _⟩ := I.tuple (SqT.of (K := X.K) h); simp only [eqD]; exact ⟨.str_tuple _ _ t h0, .str_tuple _ _ t h0, .str_tuple _ _ t h0⟩
    | dic0 _ => simp [plainD] at pe
    | dic _ _ => simp [plainD] at pe
  | _, _, .lst (a := a') (xs := xs) (ds := ds) h rs, A, y, e, u, v, ry, pd, pe, hu, ru, rv => by
    have h0 : A.units < cLine := by omega
    cases ru
    obtain ⟨its, r1, t1, _⟩ := I.list (SqL.of (K := X.K) h)
    cases ry with
    | non => cases rv; simp only [eqD]; exact ⟨.list_none t1.isList h0, .list_none t1.isList h0, .list_none t1.isList h0⟩
    | bl b => cases rv; simp only [eqD]; exact ⟨.list_bool _ t1.isList h0, .list_bool _ t1.isList h0, .list_bool _ t1.isList h0⟩
    | int j => obtain ⟨t, rfl⟩ := rv; simp only [eqD]; exact ⟨.list_int _ _ t1.isList h0, .list_int _ _ t1.isList h0, .list_int _ _ t1.isList h0⟩
    | str z => obtain ⟨t, rfl⟩ := rv; simp only [eqD]; exact ⟨.list_str _ _ t1.isList h0, .list_str _ _ t1.isList h0, .list_str _ _ t1.isList h0⟩
    | @lst b' ys es h' ts =>
      cases rv
      obtain ⟨jts, r2, t2, _⟩ := I.list (SqL.of (K := X.K) h')
      have pds : plainDs ds = true := by simpa only [plainD] using pd
      have pes : plainDs es = true := by simpa only [plainD] using pe
      have dd : A.in1.units + PyData.depthAll ds < cLine := by rw [in1_units]; simp only [PyData.depth] at hu; omega
      have k := lsts_rc h0 t1.isList t2.isList (fun j => eqD (ds.getD j .none) (es.getD j .none)) (fun j h1 h2 => eqDs_at I rs ts pds pes dd r1 r2 h1 h2)
      rw [← r1.length, ← r2.length, rs.length, ts.length, eqDs_all] at k
      simp only [eqD]
      refine ⟨k.eq, k.ne, ?_⟩
      by_cases e : a' = b'
      · subst e
        rw [h] at h'
        cases h'
        have := RdsAll.det rs ts
        subst this
        rw [eqDs_refl pds]
        exact SeqAt.EqAt.same _
      · exact .of_refs e k.eq
    | tup h' _ => cases rv; obtain ⟨jts, _, t, _⟩ := I.tuple (SqT.of (K := X.K) h'); simp only [eqD]; exact ⟨.list_tuple t1.isList t h0, .list_tuple t1.isList t h0, .list_tuple t1.isList t h0⟩
    | dic0 _ => simp [plainD] at pe
    | dic _ _ => simp [plainD] at pe
  | _, _, .tup (a := a') (xs := xs) (ds := ds) h rs, A, y, e, u, v, ry, pd, pe, hu, ru, rv => by
    have h0 : A.units < cLine := by omega
    cases ru
    obtain ⟨its, r1, t1, _⟩ := I.tuple (SqT.of (K := X.K) h)
    cases ry with
    | non => cases rv; simp only [eqD]; exact ⟨.tuple_none t1 h0, .tuple_none t1 h0, .tuple_none t1 h0⟩
    | bl b => cases rv; simp only [eqD]; exact ⟨.tuple_bool _ t1 h0, .tuple_bool _ t1 h0, .tuple_bool _ t1 h0⟩
    | int j => obtain ⟨t, rfl⟩ := rv; simp only [eqD]; exact ⟨.tuple_int _ _ t1 h0, .tuple_int _ _ t1 h0, .tuple_int _ _ t1 h0⟩
    | str z => obtain ⟨t, rfl⟩ := rv; simp only [eqD]; exact ⟨.tuple_str _ _ t1 h0, .tuple_str _ _ t1 h0, .tuple_str _ _ t1 h0⟩
    | @tup b' ys es h' ts =>
      cases rv
      obtain ⟨jts, r2, t2, _⟩ := I.tuple (SqT.of (K := X.K) h')
      have pds : plainDs ds = true := by simpa only [plainD] using pd
      have pes : plainDs es = true := by simpa only [plainD] using pe
      have dd : A.in1.units + PyData.depthAll ds < cLine := by rw [in1_units]; simp only [PyData.depth] at hu; omega
      have k := tups_rc h0 t1 t2 (fun j => eqD (ds.getD j .none) (es.getD j .none)) (fun j h1 h2 => eqDs_at I rs ts pds pes dd r1 r2 h1 h2)
      rw [← r1.length, ← r2.length, rs.length, ts.length, eqDs_all] at k
      simp only [eqD]
      refine ⟨k.eq, k.ne, ?_⟩
      by_cases e : a' = b'
      · subst e
        rw [h] at h'
        cases h'
        have := RdsAll.det rs ts
        subst this
        rw [eqDs_refl pds]
        exact SeqAt.EqAt.same _
      · exact .of_refs e k.eq
    | lst h' _ => cases rv; obtain ⟨jts, _, t, _⟩ := I.list (SqL.of (K := X.K) h'); simp only [eqD]; exact ⟨.tuple_list t1 t.isList h0, .tuple_list t1 t.isList h0, .tuple_list t1 t.isList h0⟩
    | dic0 _ => simp [plainD] at pe
    | dic _ _ => simp [plainD] at pe
  | _, _, .dic0 _, _, _, _, _, _, _, pd, _, _, _, _ => by simp [plainD] at pd
  | _, _, .dic _ _, _, _, _, _, _, _, pd, _, _, _, _ => by simp [plainD] at pd
theorem eqDs_at {pins : List (Addr × Obj)} {σ : St} {H : Hp} {s : Shared} (I : Inv X pins σ H s) : ∀ {xs : List V} {ds : List PyData}, RdsAll H xs ds → ∀ {A : Around} {ys : List V} {es : List PyData} {its jts : List Value}, RdsAll H ys es → plainDs ds = true → plainDs es = true → A.units + PyData.depthAll ds < cLine → Vals xs its → Vals ys jts →
    ∀ {j : Nat} (h1 : j < its.length) (h2 : j < jts.length), SeqAt.EqAt A s its[j] jts[j] (eqD (ds.getD j .none) (es.getD j .none))
  | _, _, .nil, A, ys, es, its, jts, ts, pd, pe, hu, r1, r2, j, h1, h2 => by cases r1; exact absurd h1 (Nat.not_lt_zero _)
  | _, _, .cons (v := x) (d := d) r rs, A, ys, es, its, jts, ts, pd, pe, hu, r1, r2, j, h1, h2 => by
    cases ts with
    | nil => cases r2; exact absurd h2 (Nat.not_lt_zero _)
    | cons r' ts =>
      cases r1 with
      | cons q1 r1 =>
        cases r2 with
        | cons q2 r2 =>
          simp only [plainDs, Bool.and_eq_true] at pd pe
          simp only [PyData.depthAll] at hu
          cases j with
          | zero =>
            exact (eqD_rc I r (A := A) r' pd.1 pe.1 (by omega) q1 q2).at_
          | succ j => exact eqDs_at I rs (A := A) ts pd.2 pe.2 (by omega) r1 r2 (by simpa using h1) (by simpa using h2)
end
end
end My
set_option Elab.async false
set_option linter.all false
set_option maxRecDepth 100000
set_option maxHeartbeats 1000000
namespace My
open PySem PySem.W L2
def nt (H : Hp) (ps : List Addr) : Hp := fun b => if b ∈ ps then none else match H b with
  | some (.tbl _) => none
  | o => o
def Gr (p : Addr) (H H' : Hp) : Prop := ∀ b o, H b = some o → b ≠ p → (∀ t, o ≠ .tbl t) → H' b = some o
section
variable {H H' H1 H2 : Hp} {ps : List Addr} {b p : Addr} {o : HO}
theorem nt_in (n : b ∉ ps) (e : H b = some o) (t : ∀ t, o ≠ .tbl t) : nt H ps b = some o := by
  unfold nt
  rw [if_neg n, e]
  cases o with
  | tbl t' => exact absurd rfl (t t')
  | _ => rfl
theorem nt_of (e : nt H ps b = some o) : b ∉ ps ∧ H b = some o ∧ ∀ t, o ≠ .tbl t := by
  unfold nt at e
  split at e
  · cases e
  · rename_i n
    cases h : H b with
    | none => rw [h] at e; cases e
    | some u =>
      rw [h] at e
      cases u with
      | tbl t => cases e
      | _ => cases e; exact ⟨n, rfl, fun t z => nomatch z⟩
theorem nt_ext (H : Hp) (ps : List Addr) : Ext (nt H ps) H := fun b o e => (nt_of e).2.1
theorem nt_sub {qs : List Addr} (h : ∀ x ∈ qs, x ∈ ps) : Ext (nt H ps) (nt H qs) := fun b o e => by
  obtain ⟨n, e, t⟩ := nt_of e
  exact nt_in (fun z => n (h b z)) e t
theorem Gr.trans (a : Gr p H H1) (c : Gr p H1 H2) : Gr p H H2 := fun b o e n t => c b o (a b o e n t) n t
theorem Ext.gr (x : Ext H H') (p : Addr) : Gr p H H' := fun b o e _ _ => x b o e
theorem Kept.gr (x : Kept H H' p) : Gr p H H' := fun b o e n _ => x b o e n
theorem Gr.nt (g : Gr p H H') (h : p ∈ ps) : Ext (nt H ps) (nt H' ps) := fun b o e => by
  obtain ⟨n, e, t⟩ := nt_of e
  exact nt_in n (g b o e (fun z => n (by rw [z]; exact h)) t) t
theorem Gr.upd {l : Addr} {u : HO} (g : Gr p H H') (n : H l = none) : Gr p H (upd H' l u) := fun b o e m t => by
  rw [upd_ne (ne_of_none e n)]
  exact g b o e m t
theorem nt_upd {l : Addr} {u : HO} (h : l ∈ ps) : nt (upd H l u) ps = nt H ps := by
  funext b
  unfold nt
  by_cases z : b ∈ ps
  · rw [if_pos z, if_pos z]
  · rw [if_neg z, if_neg z, upd_ne (fun e => z (by rw [e]; exact h))]
end
abbrev Tbs := List (Addr × List (Pos × Str))
structure TI (T : Tbs) (H : Hp) : Prop where
  it : ∀ e ∈ T, TabOk H e.1 e.2
  nd : (T.map (·.1)).Nodup
section
variable {T : Tbs} {H H' : Hp} {p pl : Addr} {al : List (Pos × Str)}
theorem TabOk.tb (t : TabOk H pl al) : ∃ ps, H pl = some (.tbl ps) := by
  obtain ⟨L, t, _⟩ := t
  exact ⟨_, t⟩
theorem TI.ext (t : TI T H) (x : Ext H H') : TI T H' := ⟨fun e he => by
  obtain ⟨L, z, zc⟩ := t.it e he
  exact ⟨L, x _ _ z, fun d hd => ⟨(zc d hd).1, x _ _ (zc d hd).2⟩⟩, t.nd⟩
theorem TI.kept {xs : List V} (t : TI T H) (k : Kept H H' p) (hp : H p = some (.lst xs)) : TI T H' := ⟨fun e he => by
  have n : ∀ {b : Addr} {o : HO}, H b = some o → (∀ ys, o ≠ .lst ys) → b ≠ p := fun {b o} g n z => by
    rw [z, hp] at g
    exact n xs (Option.some.inj g).symm
  obtain ⟨L, z, zc⟩ := t.it e he
  exact ⟨L, k _ _ z (n z fun _ y => nomatch y), fun d hd => ⟨(zc d hd).1, k _ _ (zc d hd).2 (n (zc d hd).2 fun _ y => nomatch y)⟩⟩, t.nd⟩
theorem nd_fst {T : Tbs} (nd : (T.map (·.1)).Nodup) {a b : Addr × List (Pos × Str)} (ha : a ∈ T) (hb : b ∈ T) (e : a.1 = b.1) : a = b := by
  obtain ⟨i, hi⟩ := mem_ix ha
  obtain ⟨j, hj⟩ := mem_ix hb
  have ei : (T.map (·.1))[i]? = some a.1 := by rw [List.getElem?_map, hi]; rfl
  have ej : (T.map (·.1))[j]? = some a.1 := by rw [List.getElem?_map, hj, e]; rfl
  obtain ⟨k1, e1⟩ := List.getElem?_eq_some_iff.mp ei
  obtain ⟨k2, e2⟩ := List.getElem?_eq_some_iff.mp ej
  have hij : i = j := (List.getElem_inj nd).mp (e1.trans e2.symm)
  subst hij
  rw [hi] at hj
  exact Option.some.inj hj
theorem TI.made (t : TI T H) (x : ExtP pl H H') (m : (pl, al) ∈ T) (n : TabOk H' pl al) : TI T H' := by
  refine ⟨fun e he => ?_, t.nd⟩
  by_cases z : e.1 = pl
  · have := nd_fst t.nd he m z
    rw [this]; exact n
  · obtain ⟨ps, tp⟩ := (t.it _ m).tb
    obtain ⟨L, y, yc⟩ := t.it e he
    refine ⟨L, x _ _ y z, fun d hd => ⟨(yc d hd).1, x _ _ (yc d hd).2 (fun w => ?_)⟩⟩
    have := (yc d hd).2
    rw [w, tp] at this
    cases this
theorem ExtP.gr (x : ExtP pl H H') (t : TabOk H pl al) : Gr p H H' := fun b o e _ n => x b o e fun z => by
  obtain ⟨ps, tp⟩ := t.tb
  rw [z, tp] at e
  exact n ps (Option.some.inj e).symm
theorem ExtP.kept (x : ExtP pl H H') (t : TabOk H pl al) {o : HO} {b : Addr} (e : H b = some o) (n : ∀ t, o ≠ .tbl t) : H' b = some o := x b o e fun z => by
  obtain ⟨ps, tp⟩ := t.tb
  rw [z, tp] at e
  exact n ps (Option.some.inj e).symm
end
structure BoxW (H : Hp) (p : Addr) : Prop where
  ex : ∃ a b c : Int, H p = some (.lst [.int a, .int b, .int c]) ∧ 0 ≤ a ∧ 0 ≤ b ∧ b < 2147483629
theorem BoxW.ext {H H' : Hp} {p : Addr} (h : BoxW H p) (x : Ext H H') : BoxW H' p := by
  obtain ⟨a, b, c, e, r⟩ := h.ex
  exact ⟨a, b, c, x _ _ e, r⟩
theorem BoxW.up {H : Hp} {p l : Addr} {o : HO} (h : BoxW H p) (n : l ≠ p) : BoxW (upd H l o) p := by
  obtain ⟨a, b, c, e, r⟩ := h.ex
  exact ⟨a, b, c, by rw [upd_ne (Ne.symm n)]; exact e, r⟩
structure OkS (T : Tbs) (ps : List Addr) (p : Addr) (H : Hp) : Prop where
  bx : BoxW H p
  ti : TI T H
  mem : p ∈ ps
  ex : ∀ x ∈ ps, ∃ xs, H x = some (.lst xs)
section
variable {T : Tbs} {ps : List Addr} {H H' : Hp} {p pl : Addr} {al : List (Pos × Str)}
theorem OkS.ext (k : OkS T ps p H) (x : Ext H H') : OkS T ps p H' := ⟨k.bx.ext x, k.ti.ext x, k.mem, fun y h => by obtain ⟨o, e⟩ := k.ex y h; exact ⟨o, x _ _ e⟩⟩
theorem OkS.kept (k : OkS T ps p H) (x : Kept H H' p) (b : BoxW H' p) : OkS T ps p H' := by
  obtain ⟨a0, b0, c0, hp, _⟩ := k.bx.ex
  refine ⟨b, k.ti.kept x hp, k.mem, fun y h => ?_⟩
  by_cases z : y = p
  · obtain ⟨a, b, c, e, _⟩ := b.ex
    exact ⟨_, by rw [z]; exact e⟩
  · obtain ⟨o, e⟩ := k.ex y h
    exact ⟨o, x _ _ e z⟩
theorem OkS.upd {l : Addr} {xs ys : List V} (k : OkS T ps p H) (e : H l = some (.lst xs)) (n : l ≠ p) : OkS T ps p (upd H l (.lst ys)) := by
  refine ⟨k.bx.up n, k.ti.kept (p := l) (fun b o e n => by rw [upd_ne n]; exact e) e, k.mem, fun y h => ?_⟩
  by_cases z : y = l
  · rw [z, upd_same]; exact ⟨ys, rfl⟩
  · rw [upd_ne z]; exact k.ex y h
theorem OkS.made (k : OkS T ps p H) (x : ExtP pl H H') (m : (pl, al) ∈ T) (n : TabOk H' pl al) : OkS T ps p H' := by
  have t := k.ti.it _ m
  obtain ⟨a, b, c, e, r⟩ := k.bx.ex
  refine ⟨⟨a, b, c, ExtP.kept x t e (fun _ z => nomatch z), r⟩, k.ti.made x m n, k.mem, fun y h => ?_⟩
  obtain ⟨o, e⟩ := k.ex y h
  exact ⟨o, ExtP.kept x t e (fun _ z => nomatch z)⟩
theorem OkS.nin {b : Addr} {o : HO} (k : OkS T ps p H) (e : H b = some o) (n : ∀ xs, o ≠ .lst xs) : b ∉ ps := fun z => by
  obtain ⟨xs, f⟩ := k.ex b z
  rw [e] at f
  exact n xs (Option.some.inj f)
theorem OkS.new {l : Addr} (k : OkS T ps p H) (e : H l = none) : l ∉ ps := fun h => by
  obtain ⟨o, z⟩ := k.ex l h
  rw [e] at z
  cases z
end
abbrev Oc := Int × Bool
abbrev Rw := Oc × Oc
def TK (G G' : Hp) : Prop := ∀ b xs, G b = some (.tup xs) → G' b = some (.tup xs)
theorem Ext.tk {G G' : Hp} (x : Ext G G') : TK G G' := fun b xs e => x b _ e
def OcV (G : Hp) (v : V) (o : Oc) : Prop := ∃ a, v = .ref a ∧ G a = some (.tup [.int o.1, .bl o.2])
def RwV (G : Hp) (v : V) (r : Rw) : Prop := ∃ a x y, v = .ref a ∧ G a = some (.tup [x, y]) ∧ OcV G x r.1 ∧ OcV G y r.2
def RwsV (G : Hp) (vs : List V) (rs : List Rw) : Prop := vs.length = rs.length ∧ ∀ (i : Nat) v r, vs[i]? = some v → rs[i]? = some r → RwV G v r
section
variable {G G' : Hp} {v : V} {vs : List V} {o : Oc} {r : Rw} {rs : List Rw}
theorem OcV.tk (h : OcV G v o) (t : TK G G') : OcV G' v o := by
  obtain ⟨a, e, f⟩ := h
  exact ⟨a, e, t _ _ f⟩
theorem RwV.tk (h : RwV G v r) (t : TK G G') : RwV G' v r := by
  obtain ⟨a, x, y, e, f, h1, h2⟩ := h
  exact ⟨a, x, y, e, t _ _ f, h1.tk t, h2.tk t⟩
theorem RwsV.tk (h : RwsV G vs rs) (t : TK G G') : RwsV G' vs rs := ⟨h.1, fun i v r h1 h2 => (h.2 i v r h1 h2).tk t⟩
def rwD (r : Rw) : PyData := .tuple [.tuple [.int r.1.1, .bool r.1.2], .tuple [.int r.2.1, .bool r.2.2]]
theorem OcV.rds (h : OcV G v o) : Rds G v (.tuple [.int o.1, .bool o.2]) := by
  obtain ⟨a, rfl, f⟩ := h
  exact .tup f (.cons (.int _) (.cons (.bl _) .nil))
theorem RwV.rds (h : RwV G v r) : Rds G v (rwD r) := by
  obtain ⟨a, x, y, rfl, f, h1, h2⟩ := h
  exact .tup f (.cons h1.rds (.cons h2.rds .nil))
theorem RwsV.get' (h : RwsV G vs rs) {i : Nat} (hi : vs[i]? = some v) : ∃ r, rs[i]? = some r ∧ RwV G v r := by
  have l : i < rs.length := by rw [← h.1]; exact (List.getElem?_eq_some_iff.mp hi).1
  exact ⟨rs[i], List.getElem?_eq_getElem l, h.2 i v _ hi (List.getElem?_eq_getElem l)⟩
end
def CloA (H : Hp) (f : Addr) (fd : List (Str × Addr) → Value → Value → Value → Addr → FuncData) (qn : Str) (zs : List Str) (cl : List (Str × Addr)) (cv : List (Str × V)) : Prop := ∃ a b d c', H f = some (FncO f (fd cl a b d c')) ∧ H c' = some (CodO c' qn) ∧ Cells H cl cv ∧ cl.map (·.1) = zs
def NL (H H' : Hp) : Prop := ∀ b o, H b = some o → (∀ xs, o ≠ .lst xs) → (∀ t, o ≠ .tbl t) → H' b = some o
theorem Ext.nl {H H' : Hp} (x : Ext H H') : NL H H' := fun b o e _ _ => x b o e
theorem CloA.nl {H H' : Hp} {f : Addr} {fd : List (Str × Addr) → Value → Value → Value → Addr → FuncData} {qn : Str} {zs : List Str} {cl : List (Str × Addr)} {cv : List (Str × V)} (h : CloA H f fd qn zs cl cv) (x : NL H H') : CloA H' f fd qn zs cl cv := by
  obtain ⟨a, b, d, c', h1, h2, h3, h4⟩ := h
  have k : ∀ b o, H b = some (HO.ext o) → H' b = some (HO.ext o) := fun b o e => x b _ e (fun _ z => nomatch z) fun _ z => nomatch z
  have NLk : ∀ b o u, H b = some (HO.frz o u) → H' b = some (HO.frz o u) := fun b o u e => x b _ e (fun _ z => nomatch z) fun _ z => nomatch z
  exact ⟨a, b, d, c', k _ _ h1, k _ _ h2, ⟨h3.1, fun i x a y v e1 e2 => (h3.2.1 i x a y v e1 e2).elim (fun z => .inl (k _ _ z)) fun ⟨o, z⟩ => .inr ⟨o, NLk _ _ _ z⟩, h3.2.2⟩, h4⟩
theorem CloA.out {T : Tbs} {ps : List Addr} {p : Addr} {H : Hp} {f : Addr} {fd : List (Str × Addr) → Value → Value → Value → Addr → FuncData} {qn : Str} {zs : List Str} {cl : List (Str × Addr)} {cv : List (Str × V)} (h : CloA H f fd qn zs cl cv) (k : OkS T ps p H) : CloA (nt H ps) f fd qn zs cl cv := by
  obtain ⟨a, b, d, c', h1, h2, h3, h4⟩ := h
  have kf : ∀ b o u, H b = some (HO.frz o u) → nt H ps b = some (HO.frz o u) := fun b o u e => nt_in (k.nin e fun _ z => nomatch z) e fun _ z => nomatch z
  have k : ∀ b o, H b = some (HO.ext o) → nt H ps b = some (HO.ext o) := fun b o e => nt_in (k.nin e fun _ z => nomatch z) e fun _ z => nomatch z
  exact ⟨a, b, d, c', k _ _ h1, k _ _ h2, ⟨h3.1, fun i x a y v e1 e2 => (h3.2.1 i x a y v e1 e2).elim (fun z => .inl (k _ _ z)) fun ⟨o, z⟩ => .inr ⟨o, kf _ _ _ z⟩, h3.2.2⟩, h4⟩
theorem hidC_tk {H : Hp} {cl : List (Str × Addr)} {cv : List (Str × V)} (C : Cells H cl cv) : TK H (hidC H (cl.map (·.2))) := fun b xs e => by
  rw [hidC_out (fun z => by obtain ⟨v, q⟩ := C.cel z; exact q.no e (fun _ y => nomatch y) fun _ _ y => nomatch y)]
  exact e
theorem unhid_hid {H : Hp} {cs : List Addr} : unhid H cs (hidC H cs) = H := by
  funext b
  unfold unhid hidC
  split <;> rfl
end My
set_option Elab.async false
set_option linter.all false
set_option maxRecDepth 100000
set_option maxHeartbeats 4000000
namespace My
open PySem PySem.W L2
def pls (T : Tbs) : List Addr := T.map (·.1)
structure TbH (T : Tbs) (h : Heap) : Prop where
  tab : ∀ e ∈ T, h.get? e.1 = some (tabObj #[])
  cod : ∀ e ∈ T, isCodeTable h e.1
  nd : (T.map (·.1)).Nodup
theorem mem_pls {T : Tbs} {b : Addr} (h : b ∈ pls T) : ∃ e ∈ T, e.1 = b := by
  obtain ⟨e, he, rfl⟩ := List.mem_map.mp h
  exact ⟨e, he, rfl⟩
end My
namespace L2
open PySem PySem.Spec PyProof.Rows My
theorem law_callT {P : Program} {w : World} {K : PySem.W.Frag} {T : Tbs} {mg mb : Str → Option Value} {k : Nat} {fa a : Addr} {fd : FuncData} {x : Str} {sp : Sp} {s₁ : Shared} {vs : List Value} {ns : List Int}
    (KX : K.In s₁.heap) (KT : ∀ b ∈ pls T, K.lookup b = none) (B : TbH T s₁.heap) (hns : s₁.heap.Ns mainGlobals mg) (hb : s₁.heap.Ns builtinsNs mb) (hbb : ∀ x : Str, x ≠ "__name__" → mb x = bootBuiltins x) (hlim : s₁.heap.NoLimit) (hg : s₁.gens = #[])
    (hbm : ∃ bm ob, mg "__builtins__" = some (.ref bm) ∧ bm ≠ builtinsNs ∧ s₁.heap.get? bm = some ob ∧ ob.cls = .type "module" ∧ ob.dict = some builtinsNs ∧ ob.data = .plain) (ha : s₁.heap.get? a = some { cls := .type "list", data := .seq vs.toArray }) (hi : IntsAre vs ns) (hl : ns.length ≤ sizeLine) (hr : Room k callerA)
    (F : ∀ base : Heap, K.In base → base.Ns mainGlobals mg → (∀ b ∈ pls T, base.BuiltinsAt mg b) → FnOk P w K mg base CX0 k fa fd [x] sp) (hbind : ∀ (s : Shared) (u : Value), BindsTo s fd ⟨[u], []⟩ [(x, u)])
    (hsp : ∀ H : Hp, SqL K H a (ns.map V.int) → My.TI T H → sp [.ref a] H (fun v _ => v = .bl true) fun _ _ _ => False) :
    codeAny (model P w) callerA (.call (.ref fa) ⟨[.ref a], []⟩) (fun r s' => r = .ok (.ret (.bool true)) ∧ OldK s₁.heap s'.heap ∧ s'.os = s₁.os ∧ AllBare s'.gens) s₁ := by
  have rv := vals_ints hi
  have lenV := hi.length
  have tab : ∀ {b : Addr}, b ∈ pls T → s₁.heap.get? b = some (PySem.W.tabObj #[]) := fun {b} h => by
    obtain ⟨e, he, rfl⟩ := mem_pls h
    exact B.tab e he
  have na : a ∉ pls T := fun h => by
    have := tab h
    rw [ha] at this
    cases this
  have core : ∀ H : Hp, (∀ b, b ∈ pls T → H b = some (.tbl #[])) → (∀ b, b ∉ pls T → H b = none ∨ ∃ ob xs, H b = some (.frz ob (.lst xs))) → SqL K H a (ns.map V.int) → HOk P w H s₁.heap → (∀ b, H b ≠ none → b = a ∨ b ∈ pls T) → (H a ≠ none → K.lookup a = none) →
      codeAny (model P w) callerA (.call (.ref fa) ⟨[.ref a], []⟩) (fun r s' => r = .ok (.ret (.bool true)) ∧ OldK s₁.heap s'.heap ∧ s'.os = s₁.os ∧ AllBare s'.gens) s₁ := by
    intro H hT hO hS hok hA hK
    have base_of : ∀ {b : Addr} {o : Obj}, s₁.heap.get? b = some o → H b = none → (hidT s₁.heap H).get? b = some o := fun e n => hidT_get e n
    have noA : ∀ {b : Addr} {o : Obj} {es : Array DictEntry} {ep : Nat}, s₁.heap.get? b = some o → o.data = .dict es ep → H b = none := fun {b o es ep} e d => by
      cases q : H b with
      | none => rfl
      | some u =>
        rcases hA b (by rw [q]; simp) with e' | e'
        · subst e'
          rw [ha] at e; cases e
          have d' : Data.seq vs.toArray _ = Data.dict es ep := d
          cases d'
        · rw [tab e'] at e; cases e
          have d' : Data.fields #[] = Data.dict es ep := d
          cases d'
    have nsK : ∀ {b : Addr} {m : Str → Option Value}, s₁.heap.Ns b m → (hidT s₁.heap H).Ns b m := fun {b m} ⟨o, es, ep, e, d, r⟩ => ⟨o, es, ep, base_of e (noA e d), d, r⟩
    have hKb : K.In (hidT s₁.heap H) := fun b o e => by
      have nb : b ∉ pls T := fun z => by rw [KT b z] at e; cases e
      refine base_of (KX b o e) ?_
      cases q : H b with
      | none => rfl
      | some u =>
        rcases hA b (by rw [q]; simp) with e' | e'
        · subst e'
          rw [hK (by rw [q]; simp)] at e; cases e
        · exact absurd e' nb
    have hM : Mod K mg (hidT s₁.heap H) := ⟨hKb, nsK hns, ⟨mb, nsK hb, hbb⟩, let ⟨mc, h1, h2⟩ := hlim; ⟨mc, nsK h1, h2⟩⟩
    have e0 : Env0 P w K mg (hidT s₁.heap H) callerA [] s₁ H := ⟨rfl, hM, fun b o e => of_hidT e, Nat.le_of_eq (hidT_size _ _), trivial, fun b hb => absurd (show b ∈ ([] : List Addr) from hb) (by simp), hok, .of_eq hg⟩
    have ti : My.TI T H := ⟨fun e he => ⟨[], hT _ (List.mem_map.mpr ⟨e, he, rfl⟩), fun d hd => by cases hd⟩, B.nd⟩
    have hBA : ∀ b ∈ pls T, (hidT s₁.heap H).BuiltinsAt mg b := fun b hb => by
      obtain ⟨bm, ob, M, n1, ho, c1, c2, c3⟩ := hbm
      have nb : ∀ {o : Obj}, s₁.heap.get? bm = some o → o.data = .plain := fun e => by rw [ho] at e; cases e; exact c3
      refine ⟨bm, ob, M, n1, fun z => ?_, fun z => ?_, base_of ho ?_, c1, c2, c3⟩
      · obtain ⟨o, es, ep, e, d, _⟩ := hns
        rw [z, e] at ho; cases ho; rw [d] at c3; cases c3
      · have := nb (by rw [z]; exact tab hb)
        cases this
      · cases q : H bm with
        | none => rfl
        | some u =>
          rcases hA bm (by rw [q]; simp) with e' | e'
          · have := nb (by rw [e']; exact ha); cases this
          · have := nb (tab e'); cases this
    refine codeAny_mono ((F _ hKb (nsK hns) hBA).run callerA [] s₁ H ⟨[.ref a], []⟩ [.ref a] [.ref a] _ _ hr e0 (hbind s₁ (.ref a)) (.cons rfl .nil) (hsp H hS ti)) fun r s' h => ?_
    cases r with
    | error e => exact False.elim h
    | ok fl =>
      cases fl with
      | next => exact False.elim h
      | brk => exact False.elim h
      | cont => exact False.elim h
      | ret u =>
        obtain ⟨v, H', os, bare, un, hok', r', q⟩ := h
        have q' : v = .bl true := q
        subst q'
        obtain rfl : u = Value.bool true := r'
        have kept : ∀ b o, s₁.heap.get? b = some o → b ∉ pls T → s'.heap.get? b = some o := fun b o e nb => by
          rcases hO b nb with z | ⟨ob, xs, z⟩
          · exact un.keep b o e z (by intro z; exact absurd (show b ∈ ([] : List Addr) from z) (by simp)) (by simp)
          · have z2 := un.frzs b ob _ z
            obtain ⟨e1, _⟩ := hok b _ z
            obtain ⟨e2, _⟩ := hok' b _ z2
            rw [e] at e1; cases e1
            exact e2
        have grown : ∀ b, b ∈ pls T → ∃ more, s'.heap.get? b = some (PySem.W.tabObj (#[] ++ more)) := fun b hb => by
          obtain ⟨m, z⟩ := un.tbls b _ (hT b hb)
          exact ⟨m, hok' b _ z⟩
        refine ⟨rfl, ⟨fun b o e => ?_, fun b o e => ?_⟩, os, bare⟩
        · by_cases hb : b ∈ pls T
          · obtain ⟨m, z⟩ := grown b hb
            have t := tab hb
            rw [t] at e; cases e
            obtain ⟨en, he, rfl⟩ := mem_pls hb
            exact .inr (.inl ⟨B.cod en he, rfl, _, m, rfl, z⟩)
          · exact .inl (kept b o e hb)
        · by_cases hb : b ∈ pls T
          · obtain ⟨m, z⟩ := grown b hb
            exact ⟨_, z⟩
          · exact ⟨_, kept b o e hb⟩
  cases hk : K.lookup a with
  | some o =>
    have e := KX a o hk
    rw [ha] at e
    cases e
    refine core (fun b => if b ∈ pls T then some (.tbl #[]) else none) (fun b hb => if_pos hb) (fun b hb => .inl (if_neg hb)) (.inr ⟨_, vs.toArray, _, hk, rfl, rfl, rfl, by rw [List.size_toArray, lenV]; exact hl, by simpa using rv⟩) (fun b u z => ?_) (fun b z => ?_) fun z => absurd (if_neg na) z
    · by_cases hb : b ∈ pls T
      · have z' := (if_pos hb).symm.trans z
        cases z'
        exact tab hb
      · have z' := (if_neg hb).symm.trans z
        cases z'
    · by_cases hb : b ∈ pls T
      · exact .inr hb
      · exact absurd (if_neg hb) z
  | none =>
    have e1 : ∀ {b : Addr}, b ∈ pls T → (fun b => if b ∈ pls T then some (HO.tbl #[]) else if b = a then some (.frz { cls := .type "list", data := .seq vs.toArray } (.lst (ns.map V.int))) else none : Hp) b = some (.tbl #[]) := fun hb => if_pos hb
    have e2 : (fun b => if b ∈ pls T then some (HO.tbl #[]) else if b = a then some (.frz { cls := .type "list", data := .seq vs.toArray } (.lst (ns.map V.int))) else none : Hp) a = some (.frz { cls := .type "list", data := .seq vs.toArray } (.lst (ns.map V.int))) := (if_neg na).trans (if_pos rfl)
    have e3 : ∀ {b : Addr}, b ∉ pls T → b ≠ a → (fun b => if b ∈ pls T then some (HO.tbl #[]) else if b = a then some (.frz { cls := .type "list", data := .seq vs.toArray } (.lst (ns.map V.int))) else none : Hp) b = none := fun hb n => (if_neg hb).trans (if_neg n)
    refine core _ (fun b hb => e1 hb) (fun b hb => ?_) (.inl (.inr ⟨_, e2⟩)) (fun b u z => ?_) (fun b z => ?_) fun _ => hk
    · by_cases n : b = a
      · subst n; exact .inr ⟨_, _, e2⟩
      · exact .inl (e3 hb n)
    · by_cases hb : b ∈ pls T
      · rw [e1 hb] at z
        cases z
        exact tab hb
      · by_cases n : b = a
        · subst n
          rw [e2] at z
          cases z
          exact ⟨ha, by rw [List.length_map]; exact hl, vs, _, rv, ha⟩
        · rw [e3 hb n] at z
          cases z
    · by_cases hb : b ∈ pls T
      · exact .inr hb
      · by_cases n : b = a
        · exact .inl n
        · exact absurd (e3 hb n) z
theorem walk_ofT {l : PySem.W.OpenLaw} {n k : Nat} {q : Program} {loose : List Str} {XP : (Str → Option Value) → Heap → Prop} {YP : World → Heap → Prop} {d : DefRec} {K : Params → PySem.W.Frag} {sp : PySem.W.Frag → Tbs → Sp} {x : Str}
    (hn : l.most = some n) (hn2 : n ≤ sizeLine) (hdf : d.params.defaults = []) (hr : Room k callerA)
    {ts : List Addr} (hY : ∀ (w : World) (h : Heap), YP w h → (K w.params).In h ∧ ∀ b ∈ ts, h.get? b = some (PySem.W.tabObj #[]))
    (F : ∀ (w : World) (mg : Str → Option Value) (fa : Addr) (h : Heap), (K w.params).In h → (∀ b ∈ ts, h.get? b = some (PySem.W.tabObj #[])) → h.Ns mainGlobals mg → (∃ bm ob, mg "__builtins__" = some (.ref bm) ∧ bm ≠ builtinsNs ∧ h.get? bm = some ob ∧ ob.cls = .type "module" ∧ ob.dict = some builtinsNs ∧ ob.data = .plain) → mg d.name = some (.ref fa) →
      ∃ (fd : FuncData) (T : Tbs) (K2 : PySem.W.Frag), (∀ (s : Shared) (u : Value), BindsTo s fd ⟨[u], []⟩ [(x, u)]) ∧ K2.In h ∧ (∀ b ∈ pls T, K2.lookup b = none) ∧ TbH T h ∧
        ∀ base : Heap, K2.In base → base.Ns mainGlobals mg → (∀ b ∈ pls T, base.BuiltinsAt mg b) → FnOk l.prog w K2 mg base CX0 k fa fd [x] (sp K2 T))
    (hsp : ∀ (K2 : PySem.W.Frag) (T : Tbs) (H : Hp) (a : Addr) (ns : List Int), ns.length ≤ n → SqL K2 H a (ns.map V.int) → My.TI T H → sp K2 T [.ref a] H (fun v _ => v = .bl true) fun _ _ _ => False) :
    PySem.W.WalkO q loose XP YP l.row.toRowW d [] (fun f vs => PySem.call f vs) := by
  refine Att.attach_callS hn hdf fun w s₀ s₁ mg mb fa o pm cd doc a vs ns G Y ho hd hcd hmg hobj hints hlen hg low => ?_
  obtain ⟨KX, tabs⟩ := hY w _ Y
  obtain ⟨fd, T, K2, hb, X2, KT, B, hF⟩ := F w mg fa _ KX tabs G.T.g G.T.bmain hmg
  exact law_callT X2 KT B G.T.g G.T.b G.T.builtins G.T.nolimit hg G.T.bmain hobj hints (Nat.le_trans hlen hn2) hr hF hb fun H hS ti => hsp K2 T H a ns hlen hS ti
end L2
set_option Elab.async false
set_option linter.all false
set_option maxRecDepth 100000
set_option maxHeartbeats 4000000
namespace My
open PySem L2
def top (i : Nat) : Stmt := PySem.Challenge.pw_trialdeal_k60_outcomes_under.main.body.getD i (.Pass ⟨0, 0, 0, 0⟩)
end My
set_option Elab.async false
set_option linter.all false
set_option maxRecDepth 100000
set_option maxHeartbeats 1000000
namespace My
open PySem PySem.W L2
def Al {α : Type} (R : Hp → V → α → Prop) (G : Hp) (vs : List V) (rs : List α) : Prop := vs.length = rs.length ∧ ∀ (i : Nat) v r, vs[i]? = some v → rs[i]? = some r → R G v r
def Tkk {α : Type} (R : Hp → V → α → Prop) : Prop := ∀ G G' v r, TK G G' → R G v r → R G' v r
section
variable {α β : Type} {R : Hp → V → α → Prop} {R' : Hp → V → β → Prop} {G G' : Hp} {vs : List V} {rs : List α} {v : V} {r : α}
theorem Al.tk (h : Al R G vs rs) (k : Tkk R) (t : TK G G') : Al R G' vs rs := ⟨h.1, fun i v r h1 h2 => k _ _ _ _ t (h.2 i v r h1 h2)⟩
theorem Al.nil : Al R G [] [] := ⟨rfl, fun i v r h => by simp at h⟩
theorem Al.snoc (h : Al R G vs rs) (hv : R G v r) : Al R G (vs ++ [v]) (rs ++ [r]) := by
  refine ⟨by simp [h.1], fun i v' r' h1 h2 => ?_⟩
  rcases Nat.lt_trichotomy i vs.length with z | z | z
  · rw [List.getElem?_append_left z] at h1
    rw [List.getElem?_append_left (by rw [← h.1]; exact z)] at h2
    exact h.2 i v' r' h1 h2
  · subst z
    rw [List.getElem?_append_right (Nat.le_refl _)] at h1
    rw [h.1, List.getElem?_append_right (Nat.le_refl _)] at h2
    simp at h1 h2
    subst h1 h2
    exact hv
  · rw [List.getElem?_eq_none (by simp; omega)] at h1
    cases h1
theorem Al.get' (h : Al R G vs rs) {i : Nat} (hi : vs[i]? = some v) : ∃ r, rs[i]? = some r ∧ R G v r := by
  have l : i < rs.length := by rw [← h.1]; exact (List.getElem?_eq_some_iff.mp hi).1
  exact ⟨rs[i], List.getElem?_eq_getElem l, h.2 i v _ hi (List.getElem?_eq_getElem l)⟩
theorem take_snoc {l : List α} {i : Nat} {x : α} (h : l[i]? = some x) : l.take (i + 1) = l.take i ++ [x] := by
  rw [List.take_add_one, h]
  rfl
end
section
variable {T : Tbs} {ps : List Addr} {p D a : Addr} {H H1 : Hp}
theorem OkS.add {ys : List V} (ok : OkS T ps p H) (e : H D = some (.lst ys)) : OkS T (D :: ps) p H := ⟨ok.bx, ok.ti, List.mem_cons_of_mem _ ok.mem, fun x hx => by
  rcases List.mem_cons.mp hx with rfl | hx
  · exact ⟨_, e⟩
  · exact ok.ex x hx⟩
theorem OkS.drop (ok : OkS T (D :: ps) p H) (m : p ∈ ps) : OkS T ps p H := ⟨ok.bx, ok.ti, m, fun x hx => ok.ex x (List.mem_cons_of_mem _ hx)⟩
theorem nt_cons (ok : OkS T ps p H1) (hD : H1 D = none) (g : Gr p H1 H) : Ext (nt H1 ps) (nt H (D :: ps)) := fun b o e => by
  obtain ⟨n, e, t⟩ := nt_of e
  refine nt_in (fun z => ?_) (g b o e (fun z => n (by rw [z]; exact ok.mem)) t) t
  rcases List.mem_cons.mp z with rfl | z
  · rw [hD] at e; cases e
  · exact n z
theorem nt_drop : Ext (nt H (D :: ps)) (nt H ps) := nt_sub fun x hx => List.mem_cons_of_mem _ hx
variable {K : Frag} {Q : Hp → Prop} {k : Nat} {cap : St} {g : TG} {te : TE}
theorem lcW_list {α β : Type} {R0 : Hp → V → α → Prop} {R : Hp → V → β → Prop} {xs : List V} {rs : List α} (tg : α → β) (k0 : Tkk R0) (k1 : Tkk R) (ok : OkS T ps p H1) (hD : H1 D = none) (ha : nt H1 ps a = some (.lst xs)) (hx : Al R0 (nt H1 ps) xs rs) (hz : xs.length < sizeLine)
    (hs : ∀ (i : Nat) x r H, xs[i]? = some x → rs[i]? = some r → OkS T (D :: ps) p H → R0 (nt H (D :: ps)) x r → ∀ os : St, os.length = k → ∀ Rk : VK, (∀ y H4, OkS T (D :: ps) p H4 → Gr p H H4 → R (nt H4 (D :: ps)) y (tg r) → Rk y H4) → g x (os ++ cap) H fun σ2 H0 => (∃ os' : St, os'.length = k ∧ σ2 = os' ++ cap) ∧ te σ2 H0 Rk)
    (hd : ∀ ys H, OkS T ps p H → Gr p H1 H → H D = some (.lst ys) → Al R (nt H (D :: ps)) ys (rs.map tg) → Q H) :
    ∃ W : Nat → Nat → List V → Hp → Prop, (∃ m, W 0 m [] (upd H1 D (.lst []))) ∧
      ∀ i m ys H2, W i m ys H2 → H2 D = some (.lst ys) ∧ (((Itl K a).stop i H2 ∧ Q H2) ∨ ((Itl K a).go i H2 ∧ ys.length < sizeLine ∧
        ∀ x H3, (Itl K a).yld i H2 x H3 → ∀ os : St, os.length = k → g x (os ++ cap) H3 fun σ2 H0 => (∃ os' : St, os'.length = k ∧ σ2 = os' ++ cap) ∧ te σ2 H0 fun y H4 => H4 D = some (.lst ys) ∧ ∃ m', m' < m ∧ W (i + 1) m' (ys ++ [y]) (upd H4 D (.lst (ys ++ [y]))))) := by
  obtain ⟨na, ea, _⟩ := nt_of ha
  have nD : D ≠ p := fun z => by obtain ⟨_, _, _, e, _⟩ := ok.bx.ex; rw [← z, hD] at e; cases e
  refine lcG_list (fun i ys H => OkS T (D :: ps) p H ∧ Gr p H1 H ∧ Al R (nt H (D :: ps)) ys ((rs.take i).map tg)) hz ⟨(ok.ext (Ext.new hD)).add upd_same, (Ext.new hD).gr p, by simpa using Al.nil⟩ (fun i ys H ⟨o, gr, _⟩ => ?_) (fun i x ys H ex ly eD ⟨o, gr, al⟩ os lo Rk q => ?_) (fun ys H ly eD ⟨o, gr, al⟩ => ?_)
  · exact SqL.of (gr _ _ ea (fun z => na (by rw [z]; exact ok.mem)) fun _ z => nomatch z)
  · obtain ⟨r, er, hr⟩ := hx.get' ex
    refine hs i x r H ex er o (k0 _ _ _ _ (nt_cons ok hD gr).tk hr) os lo Rk fun y H4 o4 g4 ry => ?_
    have e4 := g4 D _ eD nD fun _ z => nomatch z
    refine q y H4 e4 ⟨o4.upd e4 nD, (gr.trans g4).upd hD, ?_⟩
    rw [nt_upd (List.mem_cons_self ..), take_snoc er, List.map_append]
    exact (al.tk k1 (g4.nt o.mem).tk).snoc ry
  · rw [List.take_of_length_le (by rw [hx.1]; exact Nat.le_refl _)] at al
    exact hd ys H (o.drop ok.mem) gr eD al
theorem lcW_range {α : Type} {R : Hp → V → α → Prop} {n : Nat} (k1 : Tkk R) (ok : OkS T ps p H1) (hD : H1 D = none) (hz : n < sizeLine)
    (hs : ∀ (i : Nat) H, i < n → OkS T (D :: ps) p H → ∀ os : St, os.length = k → ∀ Rk : VK, (∀ y r H4, OkS T (D :: ps) p H4 → Gr p H H4 → R (nt H4 (D :: ps)) y r → Rk y H4) → g (.int (0 + i)) (os ++ cap) H fun σ2 H0 => (∃ os' : St, os'.length = k ∧ σ2 = os' ++ cap) ∧ te σ2 H0 Rk)
    (hd : ∀ ys rs H, OkS T ps p H → Gr p H1 H → H D = some (.lst ys) → rs.length = n → Al R (nt H (D :: ps)) ys rs → Q H) :
    ∃ W : Nat → Nat → List V → Hp → Prop, (∃ m, W 0 m [] (upd H1 D (.lst []))) ∧
      ∀ i m ys H2, W i m ys H2 → H2 D = some (.lst ys) ∧ (((Itr 0 n).stop i H2 ∧ Q H2) ∨ ((Itr 0 n).go i H2 ∧ ys.length < sizeLine ∧
        ∀ x H3, (Itr 0 n).yld i H2 x H3 → ∀ os : St, os.length = k → g x (os ++ cap) H3 fun σ2 H0 => (∃ os' : St, os'.length = k ∧ σ2 = os' ++ cap) ∧ te σ2 H0 fun y H4 => H4 D = some (.lst ys) ∧ ∃ m', m' < m ∧ W (i + 1) m' (ys ++ [y]) (upd H4 D (.lst (ys ++ [y]))))) := by
  have nD : D ≠ p := fun z => by obtain ⟨_, _, _, e, _⟩ := ok.bx.ex; rw [← z, hD] at e; cases e
  refine lcG_range (lo := 0) (fun i ys H => OkS T (D :: ps) p H ∧ Gr p H1 H ∧ ∃ rs, rs.length = i ∧ Al R (nt H (D :: ps)) ys rs) hz ⟨(ok.ext (Ext.new hD)).add upd_same, (Ext.new hD).gr p, [], rfl, Al.nil⟩ (fun i ys H hi ly eD ⟨o, gr, rs, lr, al⟩ os lo Rk q => ?_) (fun ys H ly eD ⟨o, gr, rs, lr, al⟩ => hd ys rs H (o.drop ok.mem) gr eD lr al)
  refine hs i H hi o os lo Rk fun y r H4 o4 g4 ry => ?_
  have e4 := g4 D _ eD nD fun _ z => nomatch z
  refine q y H4 e4 ⟨o4.upd e4 nD, (gr.trans g4).upd hD, rs ++ [r], by simp [lr], ?_⟩
  rw [nt_upd (List.mem_cons_self ..)]
  exact (al.tk k1 (g4.nt o.mem).tk).snoc ry
end
end My
set_option Elab.async false
set_option linter.all false
set_option maxRecDepth 100000
set_option maxHeartbeats 1000000
namespace My
open PySem PySem.W L2
def outD : PyData → Bool
  | .tuple [a, b] => inD (-99) 99 a && booB b
  | _ => false
def twoD : PyData → Bool
  | .tuple [_, _] => true
  | _ => false
def goodD : PyData → Bool
  | .tuple [a, b] => outD a && outD b
  | _ => false
section
variable {P : Program} {w : World} {K : Frag} {mg : Str → Option Value} {base : Heap}
abbrev sIsNum : Stmt := top 7
def spIsNum (K : Frag) : Sp := fun vs H Q _ => ∃ x, vs = [x] ∧ Th K H x ∧ Q (.bl (numB x)) H
theorem scIN : FnScope ["thing"] ["thing"] (defScope sIsNum) := ⟨rfl, rfl, rfl, by decide +kernel, rfl, by decide +kernel, by decide +kernel⟩
theorem ok_isnum {f : Addr} {fd : FuncData} (N : IsT K) (F : Fun K "is_number" "is_number" sIsNum f fd) (mi : mg "isinstance" = none) (m1 : mg "int" = none) (m2 : mg "bool" = none) : FnOk P w K mg base CX0 1 f fd ["thing"] (spIsNum K) := by
  refine F.ok scIN (fun vs H Q E h => ?_) (fun cdv A outer s H vs Q E hr h => ?_)
  · obtain ⟨c, rfl, _⟩ := h
    rfl
  obtain ⟨x, rfl, th, q⟩ := h
  refine ⟨_, pss_one (ps_ret (pe_and (pe_callB (call_isK N) rfl mi PyProof.Rows.boot_isinstance (pa_cons (pv 0) (pa_cons (pe_ty rfl m1 PyProof.Rows.boot_int) pa_nil)))
    (pe_one (pe_not (pe_callB (call_isK N) rfl mi PyProof.Rows.boot_isinstance (pa_cons (pv 0) (pa_cons (pe_ty rfl m2 PyProof.Rows.boot_bool) pa_nil))))))), ?_⟩
  rcases th with ⟨i, rfl⟩ | ⟨n, t, b1, b2, kd, k1, k2, z⟩
  · exact ⟨_, rfl, _, _, _, _, rfl, .inl (.int i), k_ii, _, rfl, ⟨_, rfl, _, _, _, _, rfl, .inl (.int i), k_ib, _, rfl, q⟩⟩
  · rw [numB_no n] at q
    refine ⟨_, rfl, _, _, _, _, rfl, kd, k1, _, rfl, ?_⟩
    cases b1 with
    | false => exact itF q
    | true =>
      refine itT ⟨_, rfl, _, _, _, _, rfl, kd, k2, _, rfl, ?_⟩
      have e : (!b2) = false := z
      rw [e]
      exact q
abbrev sIsWh : Stmt := top 8
def spIsWh (K : Frag) : Sp := fun vs H Q _ => ∃ x lo hi, vs = [x, .int lo, .int hi] ∧ Th K H x ∧ Q (.bl (inB lo hi x)) H
theorem scIW : FnScope ["thing", "low", "high"] ["thing", "low", "high"] (defScope sIsWh) := ⟨rfl, rfl, rfl, by decide +kernel, rfl, by decide +kernel, by decide +kernel⟩
theorem ok_iswh {f g : Addr} {fd gd : FuncData} (F : Fun K "is_whole" "is_whole" sIsWh f fd) (G : FnOk P w K mg base CX0 1 g gd ["thing"] (spIsNum K)) (bG : Binds K gd ["thing"] []) (kG : keepIn K (.ref g) = true) (mG : mg "is_number" = some (.ref g)) :
    FnOk P w K mg base CX0 2 f fd ["thing", "low", "high"] (spIsWh K) := by
  refine F.ok scIW (fun vs H Q E h => ?_) (fun cdv A outer s H vs Q E hr h => ?_)
  · obtain ⟨c, lo, hi, rfl, _⟩ := h
    rfl
  obtain ⟨x, lo, hi, rfl, th, q⟩ := h
  refine ⟨_, pss_one (ps_ret (pe_and (pe_call G hr rfl mG kG bG .nil pass0 (pa_cons (pv 0) pa_nil)) (pe_and (pe_cmpR op_le (pv 1) (pv 0) (nomark _)) (pe_one (pe_cmpR op_le (pv 0) (pv 2) (nomark _)))))), ?_⟩
  refine ⟨_, rfl, x, rfl, th, _, rfl, ?_⟩
  rcases th with ⟨i, rfl⟩ | ⟨n, _⟩
  · refine itT ⟨_, rfl, _, rfl, _, _, rfl, rfl, _, rfl, ?_⟩
    refine ite2 (fun c => ?_) (fun c => ?_)
    · refine ⟨_, rfl, _, rfl, _, _, rfl, rfl, ?_⟩
      have q' : Q (.bl (decide (lo ≤ i) && decide (i ≤ hi))) H := q
      rw [decide_eq_true (of_decide_eq_true c), Bool.true_and] at q'
      exact q'
    · have q' : Q (.bl (decide (lo ≤ i) && decide (i ≤ hi))) H := q
      rw [decide_eq_false (fun z => c (decide_eq_true z)), Bool.false_and] at q'
      exact q'
  · rw [numB_no n]
    rw [inB_no n] at q
    exact itF q
abbrev sNN : Stmt := top 11
def spNN (CN : Addr) : Sp := fun vs H Q E => ∃ x d lo hi, vs = [x, .int lo, .int hi] ∧ Rds H x d ∧ (inD lo hi d = true → Q .non H) ∧ (inD lo hi d = false → ErrF CN "found" x H E)
theorem scNN : FnScope ["thing", "low", "high"] ["thing", "low", "high"] (defScope sNN) := ⟨rfl, rfl, rfl, by decide +kernel, rfl, by decide +kernel, by decide +kernel⟩
theorem ok_nn {f a1 D CN fC : Addr} {fd d1 fdC : FuncData} (F : Fun K "need_number" "need_number" sNN f fd) (B : BaseC K D) (T : OneF K mg D "NoNumber" "found" CN fC fdC) (A1 : Df P w K mg base CX0 2 "is_whole" ["thing", "low", "high"] (spIsWh K) a1 d1) : FnOk P w K mg base (CXE P w) 3 f fd ["thing", "low", "high"] (spNN CN) := by
  refine okE F scNN (fun vs H Q E h => ?_) (fun cdv A outer s H vs Q E hr h => ?_)
  · obtain ⟨_, _, _, _, rfl, _⟩ := h
    rfl
  obtain ⟨x, d, lo, hi, rfl, rd, q1, q2⟩ := h
  refine ⟨_, pss_one (ps_if (pt_not (pt_val (pe_call A1.G hr rfl A1.m A1.kp A1.b .nil pass0 (pa_cons (pv 0) (pa_cons (pv 1) (pa_cons (pv 2) pa_nil)))))) (pss_one (ps_raise B T.cls (T.ok P w base) hr T.bi rfl T.mgC (pv 0))) pss_nil), ?_⟩
  refine ⟨_, rfl, _, rfl, _, rfl, x, lo, hi, rfl, rd.th, _, rfl, ?_⟩
  rw [rd.inB]
  cases e : inD lo hi d with
  | true => exact itF (q1 e)
  | false => exact itT ⟨_, rfl, fun e' dx h1 h2 nd => qR_of nd (q2 e e' dx h1 h2 nd)⟩
abbrev sNH : Stmt := top 13
def spNH (K : Frag) (C : Addr) : Sp := fun vs H Q E => ∃ (v : V) (d : PyData) (n : Nat), vs = [v, .int (n : Nat)] ∧ n ≤ 20 ∧ Rds H v d ∧ (inD 0 (2 ^ n - 1) d = true → Q .non H) ∧ (inD 0 (2 ^ n - 1) d = false → ErrF C "found" v H E)
theorem scNH : FnScope ["thing", "folk"] ["thing", "folk"] (defScope sNH) := ⟨rfl, rfl, rfl, by decide +kernel, rfl, by decide +kernel, by decide +kernel⟩
theorem ok_nh {f D C fC a1 : Addr} {fd fdC d1 : FuncData} (F : Fun K "need_hands" "need_hands" sNH f fd) (B : BaseC K D) (T : OneF K mg D "NoDealing" "found" C fC fdC) (A1 : Df P w K mg base CX0 2 "is_whole" ["thing", "low", "high"] (spIsWh K) a1 d1) : FnOk P w K mg base (CXE P w) 3 f fd ["thing", "folk"] (spNH K C) := by
  refine okE F scNH (fun vs H Q E h => ?_) (fun cdv A outer s H vs Q E hr h => ?_)
  · obtain ⟨v, d, n, rfl, _⟩ := h
    rfl
  obtain ⟨v, d, n, rfl, n20, rd, q1, q2⟩ := h
  refine ⟨_, pss_one (ps_if (pt_not (pt_val (pe_call A1.G hr rfl A1.m A1.kp A1.b .nil pass0 (pa_cons (pv 0) (pa_cons pe_int (pa_cons (pe_op op_sub (pe_op op_shl pe_int (pv 1)) pe_int) pa_nil)))))) (pss_one (ps_raise B T.cls (T.ok P w base) hr T.bi rfl T.mgC (pv 0))) pss_nil), ?_⟩
  have e0 : (1 : Int) * 2 ^ ((n : Int)).toNat - 1 = 2 ^ n - 1 := by rw [Int.one_mul]; rfl
  refine ⟨_, rfl, _, rfl, _, _, rfl, rfl, ⟨by omega, by omega, by decide⟩, _, _, rfl, rfl, v, 0, _, rfl, rd.th, _, rfl, ?_⟩
  show if (!(inB 0 ((1 : Int) * 2 ^ ((n : Int)).toNat - 1) v)) = true then _ else _
  rw [e0, rd.inB]
  cases e : inD 0 (2 ^ n - 1) d with
  | false => exact itT ⟨_, rfl, fun e' dx h1 h2 nd => qR_of nd (q2 e e' dx h1 h2 nd)⟩
  | true => exact itF (q1 e)
abbrev sHO : Stmt := top 14
def spHO : Sp := fun vs H Q _ => ∃ (x : Int) (i : Nat), vs = [.int x, .int (i : Nat)] ∧ Q (.int (x / 2 ^ i % 2)) H
theorem scHO : FnScope ["dealing", "at"] ["dealing", "at"] (defScope sHO) := ⟨rfl, rfl, rfl, by decide +kernel, rfl, by decide +kernel, by decide +kernel⟩
theorem ok_ho {f : Addr} {fd : FuncData} (F : Fun K "hand_of" "hand_of" sHO f fd) : FnOk P w K mg base CX0 1 f fd ["dealing", "at"] spHO := by
  refine F.ok scHO (fun vs H Q E h => ?_) (fun cdv A outer s H vs Q E hr h => ?_)
  · obtain ⟨x, i, rfl, _⟩ := h
    rfl
  obtain ⟨x, i, rfl, q⟩ := h
  refine ⟨_, pss_one (ps_ret (pe_op op_and (pe_op op_shr (pv 0) (pv 1)) pe_int)), ?_⟩
  refine ⟨_, rfl, _, rfl, _, _, rfl, rfl, (by show (0 : Int) ≤ (i : Int); omega), _, _, rfl, rfl, ?_⟩
  show Q (.int (Builtin.bitAnd (x / 2 ^ ((i : Int)).toNat) 1)) H
  rw [PyProof.Rows.bitAnd_m1]
  exact q
abbrev sIO : Stmt := top 18
def spIO : Sp := fun vs H Q _ => ∃ v d, vs = [v] ∧ Rds H v d ∧ Q (.bl (outD d)) H
theorem scIO : FnScope ["thing", "number", "sure"] ["thing"] (defScope sIO) := ⟨rfl, rfl, rfl, by decide +kernel, rfl, by decide +kernel, by decide +kernel⟩
theorem ok_io {f a1 : Addr} {fd d1 : FuncData} {t1 t2 : Tok} (N : IsT K) (F : Fun K "is_outcome" "is_outcome" sIO f fd) (A1 : Df P w K mg base CX0 2 "is_whole" ["thing", "low", "high"] (spIsWh K) a1 d1) (mL : mg "LEAST_NUMBER" = some (.int (-99) t1)) (mM : mg "MOST_NUMBER" = some (.int 99 t2))
    (mi : mg "isinstance" = none) (mt : mg "tuple" = none) (ml : mg "len" = none) (mb : mg "bool" = none) : FnOk P w K mg base CX0 3 f fd ["thing"] spIO := by
  refine F.ok scIO (fun vs H Q E h => ?_) (fun cdv A outer s H vs Q E hr h => ?_)
  · obtain ⟨v, d, rfl, _⟩ := h
    rfl
  obtain ⟨v, d, rfl, rd, q⟩ := h
  have nd := scIO.nd
  refine ⟨_, pss_cons (ps_if (PW.pt (pw_or (pt_not (pt_val (pe_callB (call_isK N) rfl mi PyProof.Rows.boot_isinstance (pa_cons (pv 0) (pa_cons (pe_ty rfl mt PyProof.Rows.boot_tuple) pa_nil))))) (pw_or1 (pt_cmpR op_ne (pe_callB call_len_seq rfl ml PySem.boot_len (pa_cons (pv 0) pa_nil)) pe_int (nomark _))))) (pss_one (ps_ret pe_bl)) pss_nil)
    (pss_cons (ps_asg (pv 0) (pg_tup rfl (pgs_cons (pg_name (i := 1) nd rfl (Or.inl rfl)) (pgs_cons (pg_name (i := 2) nd rfl (Or.inl rfl)) pgs_nil))))
    (pss_one (ps_ret (pe_and (pe_call A1.G hr rfl A1.m A1.kp A1.b .nil pass0 (pa_cons (pv 1) (pa_cons (pe_glob (v := .int (-99)) rfl mL ⟨_, rfl⟩) (pa_cons (pe_glob (v := .int 99) rfl mM ⟨_, rfl⟩) pa_nil)))) (pe_one (pe_callB (call_isK N) rfl mi PyProof.Rows.boot_isinstance (pa_cons (pv 2) (pa_cons (pe_ty rfl mb PyProof.Rows.boot_bool) pa_nil)))))))), ?_⟩
  refine ⟨_, rfl, _, _, _, _, rfl, rd.kd, rd.isT, _, rfl, ?_⟩
  cases e : tupB d with
  | false =>
    refine itT (itT ?_)
    have z : outD d = false := by cases d <;> first | rfl | cases e
    rw [z] at q
    exact q
  | true =>
    obtain ⟨ds, rfl⟩ : ∃ ds, d = .tuple ds := by cases d <;> first | exact ⟨_, rfl⟩ | cases e
    obtain ⟨a, xs, rfl, ha, rs⟩ := rds_tup rd
    refine itF ⟨_, rfl, a, _, rfl, .inr (SqT.of ha), rfl, _, rfl, ?_⟩
    have len := rs.length
    by_cases l2 : xs.length = 2
    · obtain ⟨u, v, rfl⟩ : ∃ u v, xs = [u, v] := by
        match xs, l2 with
        | [u, v], _ => exact ⟨u, v, rfl⟩
      cases rs with
      | cons r1 rs =>
        cases rs with
        | cons r2 rs =>
          cases rs
          refine itF ⟨_, rfl, a, _, rfl, SqT.of ha, rfl, _, _, rfl, _, _, rfl, rfl, ?_⟩
          refine ⟨_, rfl, u, -99, 99, rfl, r1.th, _, rfl, ?_⟩
          rw [r1.inB]
          rename_i d1 d2
          have qq : Q (.bl (inD (-99) 99 d1 && booB d2)) H := q
          cases e1 : inD (-99) 99 d1 with
          | false =>
            rw [e1] at qq
            exact itF qq
          | true =>
            rw [e1] at qq
            exact itT ⟨_, rfl, _, _, _, _, rfl, r2.kd, r2.isB, qq⟩
    · have e1 : (!decide (V.int (xs.length : Nat) = V.int 2)) = true := by
        rw [decide_eq_false]
        · rfl
        · intro h
          injection h with h
          omega
      rw [e1]
      refine itT ?_
      have z : outD (.tuple ds) = false := by
        match ds, len, l2 with
        | [], _, _ => rfl
        | [_], _, _ => rfl
        | [_, _], l, n => exact absurd l n
        | _ :: _ :: _ :: _, _, _ => rfl
      rw [z] at q
      exact q
abbrev sIs2 : Stmt := top 20
def spIs2 : Sp := fun vs H Q _ => ∃ v d, vs = [v] ∧ Rds H v d ∧ Q (.bl (twoD d)) H
theorem scI2 : FnScope ["thing"] ["thing"] (defScope sIs2) := ⟨rfl, rfl, rfl, by decide +kernel, rfl, by decide +kernel, by decide +kernel⟩
theorem ok_is2 {f : Addr} {fd : FuncData} (N : IsT K) (F : Fun K "is_two" "is_two" sIs2 f fd) (mi : mg "isinstance" = none) (m1 : mg "tuple" = none) (m2 : mg "len" = none) : FnOk P w K mg base CX0 1 f fd ["thing"] spIs2 := by
  refine F.ok scI2 (fun vs H Q E h => ?_) (fun cdv A outer s H vs Q E hr h => ?_)
  · obtain ⟨_, _, rfl, _⟩ := h
    rfl
  obtain ⟨v, d, rfl, rd, q⟩ := h
  refine ⟨_, pss_one (ps_ret (pe_and (pe_callB (call_isK N) rfl mi PyProof.Rows.boot_isinstance (pa_cons (pv 0) (pa_cons (pe_ty rfl m1 PyProof.Rows.boot_tuple) pa_nil)))
    (pe_one (pe_cmpR op_eq (pe_callB call_len_seq rfl m2 PySem.boot_len (pa_cons (pv 0) pa_nil)) pe_int (nomark _))))), ?_⟩
  refine ⟨_, rfl, _, _, _, _, rfl, rd.kd, rd.isT, _, rfl, ?_⟩
  cases e : tupB d with
  | false =>
    refine itF ?_
    have z : twoD d = false := by cases d <;> first | rfl | cases e
    rw [z] at q
    exact q
  | true =>
    obtain ⟨ds, rfl⟩ : ∃ ds, d = .tuple ds := by cases d <;> first | exact ⟨_, rfl⟩ | cases e
    obtain ⟨a, xs, rfl, ha, rs⟩ := rds_tup rd
    refine itT ⟨_, rfl, a, _, rfl, .inr (SqT.of ha), rfl, ?_⟩
    have len := rs.length
    have z : twoD (.tuple ds) = decide (V.int ((xs.length : Nat) : Int) = V.int 2) := by
      match ds, xs, len with
      | [], [], _ => rfl
      | [_], [_], _ => rfl
      | [_, _], [_, _], _ => rfl
      | _ :: _ :: _ :: ds, _ :: _ :: _ :: xs, _ =>
        rw [decide_eq_false (fun y => by
          have := V.int.inj y
          simp only [List.length_cons] at this
          omega)]
        rfl
    rw [← z]
    exact q
end
end My
set_option Elab.async false
set_option linter.all false
set_option maxRecDepth 100000
set_option maxHeartbeats 1000000
namespace My
open PySem PySem.W L2
section
variable {X : Cx} {pins : List (Addr × Obj)} {σ : St} {H : Hp} {s s' : Shared}
theorem lend_ok (I : Inv X pins σ H s) {z : Str} {c : Addr} {j : Nat} {v : V} (fn : X.fn z = true) (hc : X.env.cells.lookup z = some c) (hj : X.N[j]? = some z) (hs : σ[j]? = some (some v)) (hk : X.env.scope.names.lookup z = some .cell) :
    ∃ o, s.heap.get? c = some o ∧ H c = none ∧ c ∉ frs X.stack ∧ Env0 X.prog X.w X.K X.mg X.base X.A X.stack s (upd H c (.frz o (CelO c v))) := by
  obtain ⟨m, hn, hl⟩ := I.loc
  obtain ⟨u, ru, l⟩ := hl j z v hj hs (.inr (.inl hk))
  have ic : s.heap.IsCell c (some u) := by
    rcases l with ⟨k', _⟩ | ⟨_, a', e', zc⟩
    · have k' : X.env.scope.names.lookup z = some .local := k'
      rw [hk] at k'; cases k'
    · rw [hc] at e'; cases e'; exact zc
  obtain ⟨o, ho, hd⟩ := id ic
  have n := I.freeC z c hc
  have lo := I.ok.cab z c fn hc
  have nfs : c ∉ frs X.stack := fun hb => by
    rcases List.mem_cons.mp (I.stkSub c hb) with e | hb
    · exact I.cne z c hc e
    · obtain ⟨_, o', ho', _⟩ := I.ok.funs.mem hb
      exact absurd (Heap.lt_size ho') (Nat.not_lt.mpr lo)
  have ne : ∀ {b : Addr} {u : HO}, H b = some u → b ≠ c := fun e => ne_of_none e n
  refine ⟨o, ho, n, nfs, ?_⟩
  have E := I.env0
  refine ⟨E.frames, E.mod, fun b ob e => ⟨(E.bs b ob e).1, ?_⟩, E.bsz, E.funs, fun b hb => ?_, fun b u' e => ?_, E.bare⟩
  · rw [upd_ne (fun y => ?_)]
    · exact (E.bs b ob e).2
    · rw [y] at e
      exact absurd (Nat.lt_of_lt_of_le (Heap.lt_size e) I.ok.bsz) (Nat.not_lt.mpr lo)
  · rw [upd_ne (fun y => nfs (by rw [← y]; exact hb))]
    exact E.frf b hb
  · by_cases y : b = c
    · subst y
      rw [upd_same] at e
      cases e
      exact ⟨ho, celO_ok ru ic⟩
    · rw [upd_ne y] at e
      exact (E.hok b u' e).stay (fun _ _ _ q => q) (fun d g => by rw [upd_ne (ne g)]; exact g) fun d xs g => by rw [upd_ne (ne g)]; exact g
theorem ce_lent {P : Program} {w : World} {outer : List Env} {c : Addr} {o : Obj} {v : V} {u : Value} {Q : VK} (ho : s.heap.get? c = some o) (n : H c = none) (nf : c ∉ frs outer) (h : CE outer P w (upd H c (.frz o (CelO c v))) s (fun v' H' => H' c = some (.frz o (CelO c v)) → Q v' (hidC H' [c])) u s') : CE outer P w H s Q u s' := by
  obtain ⟨v', H', os, bare, un, hok, r, q⟩ := h
  have hc : H' c = some (.frz o (CelO c v)) := un.frzs c o _ upd_same
  have oc : s'.heap.get? c = some o := (hok c _ hc).1
  have q := q hc
  have ne : ∀ {b : Addr} {u : HO}, H b = some u → b ≠ c := fun e => ne_of_none e n
  have out : ∀ {b : Addr}, b ≠ c → hidC H' [c] b = H' b := fun y => hidC_out (fun z => y (List.mem_singleton.mp z))
  refine ⟨v', hidC H' [c], os, bare, ⟨fun b ob e nb nfb nx => ?_, fun b ob e nb hf nx => ?_, fun b ob e nb nx => ?_, un.there, fun b xs e => ?_, fun b ob x e => ?_, fun b ps e => ?_, fun e => ?_⟩, fun b ob e => ?_, r, q⟩
  · by_cases y : b = c
    · subst y
      rw [ho] at e
      cases e
      exact oc
    · exact un.keep b ob e (by rw [upd_ne y]; exact nb) nfb nx
  · have y : b ≠ c := fun z => nf (by rw [← z]; exact hf)
    exact un.slot b ob e (by rw [upd_ne y]; exact nb) hf nx
  · by_cases y : b = c
    · subst y; exact hidC_in (List.mem_singleton.mpr rfl)
    · rw [out y]; exact un.free b ob e (by rw [upd_ne y]; exact nb) nx
  · rw [out (ne e)]; exact un.tups b xs (by rw [upd_ne (ne e)]; exact e)
  · rw [out (ne e)]; exact un.frzs b ob x (by rw [upd_ne (ne e)]; exact e)
  · rw [out (ne e)]; exact un.tbls b ps (by rw [upd_ne (ne e)]; exact e)
  · by_cases y : sysModules = c
    · rw [y]; exact hidC_in (List.mem_singleton.mpr rfl)
    · rw [out y]; exact un.sys (by rw [upd_ne y]; exact e)
  · obtain ⟨nb, e⟩ := hidC_some e
    refine (hok b ob e).stay (fun _ _ _ q => q) (fun d g => ?_) fun d xs g => ?_
    · rw [out (fun z => by rw [z, hc] at g; cases g)]; exact g
    · rw [out (fun z => by rw [z, hc] at g; cases g)]; exact g
end
def tCallL (c : Addr) (j : Nat) (sp : Sp) (t : TA) : TE := fun σ H Q => t σ H fun vs H1 => ∃ v, σ[j]? = some (some v) ∧ ∀ o, H1 c = none → sp vs (upd H1 c (.frz o (CelO c v))) (fun v' H' => H' c = some (.frz o (CelO c v)) → Q v' (hidC H' [c])) E0
section
variable {X : Cx} {k : Nat} {f : Addr} {fd : FuncData} {ps : List Str} {sp : Sp} {x z : Str} {p pos : Pos} {e : Expr} {es : List Expr} {t : TA} {c : Addr} {j : Nat}
theorem pe_callL (F : FnOk X.prog X.w X.K X.mg X.base CX0 k f fd ps sp) (hr : Room k X.A) (hg : Gl X x) (hm : X.mg x = some (.ref f)) (hk : PySem.W.keepIn X.K (.ref f) = true) (hb : Binds X.K fd ps []) (ha : PA X (e :: es) t)
    (fn : X.fn z = true) (hc : X.env.cells.lookup z = some c) (hj : X.N[j]? = some z) (hkc : X.env.scope.names.lookup z = some .cell)
    (hdb : (x == ("__debug__" : Str)) = false := by decide) (he : starEach (e :: es) X.env = (false, eval e X.env) :: starEach es X.env := by rfl) (hpl : (backTo pos (starEach es X.env)).any (·.1) = false := by rfl) :
    PE X (.Call (.Name x p) (e :: es) [] pos) (tCallL c j sp t) := by
  intro pins s σ H Q I h
  refine wpAny_Call_Name_kw (ld_glob I hg hm ?_ hdb)
  refine PySem.W.callWith_K (h₀ := X.base) I.ok.mod.kin hk (thn (ha pos pins s σ H _ I h) fun us s1 ⟨vs, H1, I1, r, v, hs, q⟩ => ⟨I1.kIn, ?_⟩) he hpl
  obtain ⟨o, ho, n, nf, E⟩ := lend_ok I1 fn hc hj hs hkc
  have q := q o n
  have hl : us.length = ps.length := by rw [← r.length]; exact F.len _ _ _ _ q
  have hb' := hb s1 us I1.kIn (by rw [List.append_nil]; exact hl)
  rw [List.append_nil] at hb'
  refine wpAny_call (codeAny_mono (F.run X.A X.stack s1 _ ⟨us, []⟩ us vs _ _ hr E hb' r q) fun r s' hq => ?_)
  cases r with
  | error e => exact False.elim hq
  | ok fl =>
    cases fl with
    | ret u => exact I1.after (ce_lent ho n nf hq)
    | next => exact False.elim hq
    | brk => exact False.elim hq
    | cont => exact False.elim hq
end
def tLam (pl : Addr) (al : List (Pos × Str)) (qn : Str) (fd : Value → Value → Addr → FuncData) : TE := fun σ H Q => TabOk H pl al ∧ ∀ f c' a b H', ExtP pl H H' → H f = none → H' f = some (FncO f (fd a b c')) → H' c' = some (CodO c' qn) → TabOk H' pl al → Q (.ref f) H'
section
variable {X : Cx} {args : Arguments} {e : Expr} {sc : Scope} {pos : Pos} {c pl : Addr} {cl : List (Str × Addr)} {al : List (Pos × Str)} {qn : Str}
theorem pe_lam (Z : MkK X.K X.mg X.base c pl) (hcd : X.env.code = .ref c) (tp : TabP al pos qn) (hd : defaultsOf args X.env = ([], [])) (hqn : X.env.qual ++ Str.ofString "<lambda>" = qn) (hcl : closureFor sc X.env = pure cl) :
    PE X (.Lambda args e sc pos) (tLam pl al qn (fun pm ctv c' => kla_fn (Str.ofString "<lambda>") qn args e sc cl pm (.ref c') ctv)) := by
  intro pins s σ H Q I h
  refine kla_eval hd ?_
  rw [hqn]
  refine wp_mkLam I hcd Z h.1 tp hcl fun f c' ctv pm H' s' I' M => ?_
  exact ⟨.ref f, H', I', rfl, h.2 f c' pm ctv H' M.ext M.new M.fn M.cd M.tb⟩
end
end My
set_option Elab.async false
set_option linter.all false
set_option maxRecDepth 100000
set_option maxHeartbeats 1000000
namespace My
open PySem PySem.W L2
open PyProof.Rows (envOfC)
def nstF (s : Stmt) (i : Nat) : Stmt := (defBody s).getD i (.Pass ⟨0, 0, 0, 0⟩)
def ifT : Stmt → Expr
  | .If c _ _ _ => c
  | .Return (some e) _ => e
  | _ => .Constant .none 0 ⟨0, 0, 0, 0⟩
def lamIn : Expr → Expr
  | .Compare (.Call _ (_ :: l :: _) _ _) _ _ _ => l
  | e => e
def lamA : Expr → Arguments
  | .Lambda a _ _ _ => a
  | _ => ⟨[], [], none, [], [], none, []⟩
def lamE : Expr → Expr
  | .Lambda _ e _ _ => e
  | e => e
def lamS : Expr → Scope
  | .Lambda _ _ sc _ => sc
  | _ => { kind := .function, names := [], isGenerator := false, isCoroutine := false }
def posL : Expr → Pos
  | .Lambda _ _ _ p => p
  | _ => ⟨0, 0, 0, 0⟩
def posD (s : Stmt) : Pos := match s with
  | .FunctionDef _ _ _ _ _ _ _ _ _ p => p
  | _ => ⟨0, 0, 0, 0⟩
abbrev nW : Stmt := nstF (top 21) 1
def lamX : Bool → Expr
  | true => lamIn (ifT (nstF (top 34) 10))
  | false => lamIn (ifT (nstF (top 34) 11))
abbrev qW : Str := "world_of.<locals>.world"
abbrev qL : Str := "_law_refused.<locals>.<lambda>"
abbrev fdW := fdN "world" qW (defArgs nW) (defBody nW) (defScope nW)
abbrev fdL (b : Bool) : List (Str × Addr) → Value → Value → Value → Addr → FuncData := fun cl _ pm ctv c' => kla_fn (Str.ofString "<lambda>") qL (lamA (lamX b)) (lamE (lamX b)) (lamS (lamX b)) cl pm (.ref c') ctv
def Wd (tot : Bool) (H : Hp) (f : Addr) (vs : List V) : Prop :=
  (tot = true ∧ ∃ cl t, CloA H f fdW qW ["kept"] cl [("kept", .ref t)] ∧ H t = some (.tup vs)) ∨ (tot = false ∧ ∃ b cl l, CloA H f (fdL b) qL ["_law_spoilt"] cl [("_law_spoilt", .ref l)] ∧ H l = some (.lst vs))
theorem Wd.ext {tot : Bool} {H H' : Hp} {f : Addr} {vs : List V} (h : Wd tot H f vs) (x : Ext H H') : Wd tot H' f vs := by
  rcases h with ⟨e, cl, t, c, ht⟩ | ⟨e, b, cl, l, c, hl⟩
  · exact .inl ⟨e, cl, t, c.nl x.nl, x _ _ ht⟩
  · exact .inr ⟨e, b, cl, l, c.nl x.nl, x _ _ hl⟩
theorem Wd.fn {tot : Bool} {H : Hp} {f : Addr} {vs : List V} (h : Wd tot H f vs) : ∃ fd, H f = some (FncO f fd) := by
  rcases h with ⟨e, cl, t, ⟨_, _, _, _, c, _⟩, ht⟩ | ⟨e, b, cl, l, ⟨_, _, _, _, c, _⟩, hl⟩
  · exact ⟨_, c⟩
  · exact ⟨_, c⟩
def Wsp (f : Addr) (v : V) (H : Hp) (Q : VK) : Prop := ∃ tot vs i, Wd tot H f vs ∧ v = .int ((i : Nat) : Int) ∧ (tot = false → i < vs.length) ∧ Q (vs[i]?.getD .non) H
theorem scW : ClScope ["at", "kept"] "at" ["kept"] (defScope nW) := ⟨rfl, rfl, rfl, by decide +kernel, rfl, by decide +kernel, by decide +kernel, fun x h => by
  have m := PySem.mem_of_lookup h
  have : ∀ y ∈ (defScope nW).names, y.2 = .free → y.1 ∈ (["kept"] : List Str) := by decide +kernel
  exact this _ m rfl, by decide +kernel⟩
theorem scL : ∀ b, ClScope ["_law_at", "_law_spoilt"] "_law_at" ["_law_spoilt"] (lamS (lamX b)) := fun b => by
  cases b <;> exact ⟨rfl, rfl, rfl, by decide +kernel, rfl, by decide +kernel, by decide +kernel, fun x h => by
    have m := PySem.mem_of_lookup h
    have : ∀ y ∈ (lamS (lamX true)).names, y.2 = .free → y.1 ∈ (["_law_spoilt"] : List Str) := by decide +kernel
    exact this _ m rfl, by decide +kernel⟩
theorem two_at {α : Type} {a b x : α} {i : Nat} (h : [a, b][i]? = some x) : (i = 0 ∧ x = a) ∨ (i = 1 ∧ x = b) := by
  match i, h with
  | 0, h => exact .inl ⟨rfl, (Option.some.inj h).symm⟩
  | 1, h => exact .inr ⟨rfl, (Option.some.inj h).symm⟩
  | i + 2, h => simp at h
section
variable {P : Program} {w : World} {K : Frag} {mg : Str → Option Value} {base : Heap} {T : Tbs}
theorem ok_wd {g : Addr} {gd : FuncData} (A1 : Df P w K mg base CX0 2 "is_whole" ["thing", "low", "high"] (spIsWh K) g gd) (ml : mg "len" = none) : ClOk P w K mg base 3 Wsp := by
  refine ⟨fun A outer s H f u v Q hr e0 rv h => ?_⟩
  obtain ⟨tot, vs, i, wd, rfl, hi, q⟩ := h
  rcases wd with ⟨_, cl, t, ⟨a, b, d, c', hf, hc, C, hz⟩, ht⟩ | ⟨et, b, cl, t, ⟨a, _, d, c', hf, hc, C, hz⟩, ht⟩
  · refine clo_run (N := ["at", "kept"]) (p := "at") (zs := ["kept"]) (cv := [("kept", .ref t)]) (σ := [some (.int (i : Int)), some (.ref t)]) hr e0 hf hc C scW hz (fun s u => .of_eq rfl) rv rfl (fun j x v h1 h2 => ?_) fun hr2 => ?_
    · rcases two_at h1 with ⟨rfl, rfl⟩ | ⟨rfl, rfl⟩
      · cases h2; exact .inl ⟨rfl, rfl⟩
      · cases h2; exact .inr (by simp)
    refine ⟨_, pss_one (ps_ret (pe_ifExp (pt_val (pe_call A1.G hr2 rfl A1.m A1.kp A1.b .nil pass0 (pa_cons (pv 0) (pa_cons pe_int (pa_cons (pe_op op_sub (pe_callB call_len_seq rfl ml PySem.boot_len (pa_cons (pv 1) pa_nil)) pe_int) pa_nil))))) (pe_ix ix_tup (pv 1) (pv 0) (fun _ _ => rfl)) pe_non)), ?_⟩
    have ht' := hidC_tk C t vs ht
    refine ⟨_, rfl, _, rfl, t, vs, rfl, .inr (SqT.of ht'), _, _, rfl, rfl, _, _, _, rfl, .inl ⟨_, rfl⟩, _, rfl, ?_⟩
    refine ite2 (fun c => ?_) (fun c => ?_)
    · have c : (decide ((0 : Int) ≤ (i : Int)) && decide ((i : Int) ≤ (vs.length : Int) - 1)) = true := c
      rw [Bool.and_eq_true, decide_eq_true_iff, decide_eq_true_iff] at c
      have li : i < vs.length := by omega
      refine ⟨_, rfl, _, rfl, t, vs, _, _, rfl, rfl, SqT.of ht', atI_nat (List.getElem?_eq_getElem li), fun _ => ?_⟩
      rw [unhid_hid]
      rw [List.getElem?_eq_getElem li] at q
      exact q
    · have c : ¬ (decide ((0 : Int) ≤ (i : Int)) && decide ((i : Int) ≤ (vs.length : Int) - 1)) = true := c
      rw [Bool.and_eq_true, decide_eq_true_iff, decide_eq_true_iff] at c
      have li : vs.length ≤ i := by omega
      refine fun _ => ?_
      rw [unhid_hid]
      rw [List.getElem?_eq_none li] at q
      exact q
  · have li := hi et
    have ht' : hidC H (cl.map (·.2)) t = some (.lst vs) := by
      rw [hidC_out (fun z => by obtain ⟨v, q⟩ := C.cel z; exact q.no ht (fun _ y => nomatch y) fun _ _ y => nomatch y)]
      exact ht
    rw [List.getElem?_eq_getElem li] at q
    have hb : ∀ b (cl : List (Str × Addr)) (pm ctv : Value) (c' : Addr) (s : Shared) (u : Value), BindsTo s (kla_fn (Str.ofString "<lambda>") qL (lamA (lamX b)) (lamE (lamX b)) (lamS (lamX b)) cl pm (.ref c') ctv) ⟨[u], []⟩ [("_law_at", u)] := fun b cl pm ctv c' s u => by
      cases b <;> exact .of_eq rfl
    refine lam_run (N := ["_law_at", "_law_spoilt"]) (p := "_law_at") (zs := ["_law_spoilt"]) (cv := [("_law_spoilt", .ref t)]) (σ := [some (.int (i : Int)), some (.ref t)]) hr e0 hf hc C (scL b) hz (fun s u => hb b _ _ _ _ s u) rv rfl (fun j x v h1 h2 => ?_) fun hr2 => ?_
    · rcases two_at h1 with ⟨rfl, rfl⟩ | ⟨rfl, rfl⟩
      · cases h2; exact .inl ⟨rfl, rfl⟩
      · cases h2; exact .inr (by simp)
    cases b with
    | true =>
      refine ⟨_, pe_ix ix_list (pv 1) (pv 0) (fun _ _ => rfl), ?_⟩
      refine ⟨_, rfl, _, rfl, t, vs, _, _, rfl, rfl, SqL.of ht', atI_nat (List.getElem?_eq_getElem li), fun _ => ?_⟩
      rw [unhid_hid]
      exact q
    | false =>
      refine ⟨_, pe_ix ix_list (pv 1) (pv 0) (fun _ _ => rfl), ?_⟩
      refine ⟨_, rfl, _, rfl, t, vs, _, _, rfl, rfl, SqL.of ht', atI_nat (List.getElem?_eq_getElem li), fun _ => ?_⟩
      rw [unhid_hid]
      exact q
structure FunM (K : Frag) (mg : Str → Option Value) (base : Heap) (x qual : Str) (st : Stmt) (f : Addr) (fd : FuncData) (c pl : Addr) : Prop where
  ex : ∃ (oc : Value) (od : Option Addr) (kV doc pm : Value) (an : Option Addr) (ct : Value) (osl : Array (Option Value)),
    fd = fnOf x qual (defArgs st) (defBody st) (defScope st) .none kV doc pm an (.ref c) ct ∧ K.lookup f = some ⟨oc, od, .func fd, osl⟩ ∧ codeIn K (.ref c) qual = true
  mkk : MkK K mg base c pl
abbrev sWO : Stmt := top 21
def spWO (T : Tbs) : Sp := fun vs H Q _ => ∃ ps p l xs, vs = [.ref l] ∧ OkS T ps p H ∧ H l = some (.lst xs) ∧ ∀ f H', OkS T ps p H' → Gr p H H' → Wd true (nt H' ps) f xs → Q (.ref f) H'
theorem scWO : FnScope ["listing", "world", "kept"] ["listing"] (defScope sWO) := ⟨rfl, rfl, rfl, by decide +kernel, rfl, by decide +kernel, by decide +kernel⟩
theorem ntWO {g c : Addr} : NestT (defScope sWO) (defScope nW) (defArgs nW) g c "world_of" "world" qW ["listing", "world", "kept"] ["kept"] 1 (fun L => [("kept", L + 1)]) := by
  refine ⟨rfl, rfl, rfl, rfl, fun L => rfl, fun L => rfl, fun L => rfl, fun L x a h => ?_, fun L => by simp, fun L => by simp, fun L => rfl⟩
  simp only [List.mem_singleton] at h
  cases h
  rfl
theorem ok_WO {f c pl : Addr} {fd : FuncData} (F : FunM K mg base "world_of" "world_of" sWO f fd c pl) {al : List (Pos × Str)} (hm : (pl, al) ∈ T) (tp : TabP al (posD nW) qW) (mt : mg "tuple" = none) : FnOk P w K mg base CX0 1 f fd ["listing"] (spWO T) := by
  obtain ⟨oc, od, kV, doc, pm, an, ct, osl, rfl, lk, hcd⟩ := F.ex
  refine fn_mk1 lk hcd scWO (fun vs H Q E h => ?_) F.mkk tp ntWO (fun A outer s vs H Q E hr h => ?_)
  · obtain ⟨_, _, _, _, rfl, _⟩ := h
    rfl
  obtain ⟨ps, p, l, xs, rfl, ok, hl, q⟩ := h
  refine ⟨_, ps_set (i := 2) scWO.nd rfl (Or.inr rfl) (pe_callTy call_tuple_of rfl mt PyProof.Rows.boot_tuple (pa_cons (pv 0) pa_nil)), ?_⟩
  refine ⟨_, rfl, l, xs, rfl, .inl ⟨SqL.of hl, fun t nt' => ?_⟩⟩
  refine ⟨[("kept", .ref t)], ⟨rfl, fun x v h => ?_⟩, ?_⟩
  · simp only [List.mem_singleton] at h
    cases h
    exact ⟨rfl, 2, rfl, rfl⟩
  have x1 := Ext.new (o := .tup xs) nt'
  have ok1 := ok.ext x1
  refine ⟨ok1.ti.it _ hm, fun f c' cl a b d H' xp nf hf hc C hz hn tb => ?_⟩
  have ok2 := ok1.made xp hm tb
  have t1 := ok1.ti.it _ hm
  have gr := (x1.gr p).trans (ExtP.gr xp t1)
  have ht := ExtP.kept xp t1 (upd_same (H := H) (a := t) (o := .tup xs)) (fun _ z => nomatch z)
  exact q f H' ok2 gr (.inl ⟨rfl, cl, t, CloA.out ⟨a, b, d, c', hf, hc, C, hz⟩ ok2, nt_in (ok2.nin ht fun _ z => nomatch z) ht (fun _ z => nomatch z)⟩)
end
end My
set_option Elab.async false
set_option linter.all false
set_option maxRecDepth 100000
set_option maxHeartbeats 1000000
namespace My
open PySem PySem.W L2
section
variable {P : Program} {w : World} {K : Frag} {mg : Str → Option Value} {base : Heap} {T : Tbs}
abbrev sCell : Stmt := top 26
def spCell (K : Frag) : Sp := fun vs H Q _ => ∃ (a : Addr) (ns : List Int) (k : Int), vs = [.ref a, .int k] ∧ SqL K H a (ns.map V.int) ∧ 0 ≤ k ∧ k < 100 ∧ ∀ c : Int, Q (.int c) H
theorem scC : FnScope ["_law_script", "_law_k"] ["_law_script", "_law_k"] (defScope sCell) := ⟨rfl, rfl, rfl, by decide +kernel, rfl, by decide +kernel, by decide +kernel⟩
theorem ok_cell {f : Addr} {fd : FuncData} (F : Fun K "_law_cell" "_law_cell" sCell f fd) (ml : mg "len" = none) : FnOk P w K mg base CX0 1 f fd ["_law_script", "_law_k"] (spCell K) := by
  refine F.ok scC (fun vs H Q E h => ?_) (fun cdv A outer s H vs Q E hr h => ?_)
  · obtain ⟨a, ns, k, rfl, _⟩ := h
    rfl
  obtain ⟨a, ns, k, rfl, hS, h0, h1, q⟩ := h
  refine ⟨_, pss_cons (ps_if (pt_cmpR op_lt (pv 1) (pe_callB call_len_seq rfl ml PySem.boot_len (pa_cons (pv 0) pa_nil)) (nomark _)) (pss_one (ps_ret (pe_ix ix_list (pv 0) (pv 1) (fun _ _ => rfl)))) pss_nil)
    (pss_one (ps_ret (pe_op op_add (pe_op op_mul pe_int (pv 1)) pe_int))), ?_⟩
  refine ⟨_, rfl, _, rfl, a, _, rfl, .inl hS, _, _, rfl, rfl, _, rfl, ?_⟩
  refine ite2 (fun c => ?_) (fun c => ?_)
  · have c' : k < (((ns.map V.int).length : Nat) : Int) := of_decide_eq_true c
    rw [List.length_map] at c'
    have hk : k.toNat < ns.length := by omega
    have ek : k = ((k.toNat : Nat) : Int) := by omega
    have z : atI (ns.map V.int) ((k.toNat : Nat) : Int) = some (.int ns[k.toNat]) := atI_nat (by rw [List.getElem?_map, List.getElem?_eq_getElem hk] <;> rfl)
    rw [← ek] at z
    exact ⟨_, rfl, _, rfl, a, _, _, _, rfl, rfl, hS, z, q _⟩
  · exact ⟨_, rfl, _, _, rfl, rfl, .inl ⟨by decide, by decide⟩, _, _, rfl, rfl, q _⟩
abbrev sMix : Stmt := top 27
def spMix : Sp := fun vs H Q _ => ∃ c k : Int, vs = [.int c, .int k] ∧ ∀ r : Int, 0 ≤ r → r < 268435456 → Q (.int r) H
theorem scMx : FnScope ["_law_cell_here", "_law_k", "_law_number"] ["_law_cell_here", "_law_k"] (defScope sMix) := ⟨rfl, rfl, rfl, by decide +kernel, rfl, by decide +kernel, by decide +kernel⟩
theorem ok_mix {f : Addr} {fd : FuncData} (F : Fun K "_law_mix" "_law_mix" sMix f fd) : FnOk P w K mg base CX0 1 f fd ["_law_cell_here", "_law_k"] spMix := by
  refine F.ok scMx (fun vs H Q E h => ?_) (fun cdv A outer s H vs Q E hr h => ?_)
  · obtain ⟨c, k, rfl, _⟩ := h
    rfl
  obtain ⟨c, k, rfl, q⟩ := h
  have nd := scMx.nd
  refine ⟨_, pss_cons (ps_set (i := 2) nd rfl (Or.inl rfl) (pe_op op_mod (pe_op op_add (pe_op op_add (pv 0) (pe_op op_mul pe_int (pv 1))) pe_int) pe_int))
    (pss_cons (ps_set (i := 2) nd rfl (Or.inl rfl) (pe_op op_mod (pe_op op_mul (pe_op op_mod (pe_op op_mul (pv 2) (pv 2)) pe_int) pe_int) pe_int))
    (pss_one (ps_ret (pe_op op_fdiv (pe_op op_mod (pe_op op_mul (pv 2) (pe_op op_add (pv 2) pe_int)) pe_int) pe_int)))), ?_⟩
  refine ⟨_, rfl, _, rfl, _, _, rfl, rfl, .inl ⟨by decide, by decide⟩, _, _, rfl, rfl, _, _, rfl, rfl, _, _, rfl, rfl, (by show (0 : Int) < 2147483629; decide), ?_⟩
  generalize hn : (c + 7919 * k + 12345) % 2147483629 = n1
  have a0 : 0 ≤ n1 := by rw [← hn]; exact Int.emod_nonneg _ (by decide)
  have a1 : n1 < 2147483629 := by rw [← hn]; exact Int.emod_lt_of_pos _ (by decide)
  have cm : CMul n1 n1 := .inl ⟨Int.lt_of_lt_of_le (by decide) a0, Int.lt_trans a1 (by decide)⟩
  subst hn
  refine ⟨_, rfl, _, rfl, _, _, rfl, rfl, cm, _, _, rfl, rfl, (by show (0 : Int) < 2147483587; decide), _, _, rfl, rfl, .inr ⟨by decide, by decide⟩, _, _, rfl, rfl, (by show (0 : Int) < 2147483549; decide), ?_⟩
  generalize hn : ((c + 7919 * k + 12345) % 2147483629 * ((c + 7919 * k + 12345) % 2147483629)) % 2147483587 * 48271 % 2147483549 = n2
  have b0 : 0 ≤ n2 := by rw [← hn]; exact Int.emod_nonneg _ (by decide)
  have b1 : n2 < 2147483549 := by rw [← hn]; exact Int.emod_lt_of_pos _ (by decide)
  have cm2 : ∀ y, CMul n2 y := fun y => .inl ⟨Int.lt_of_lt_of_le (by decide) b0, Int.lt_trans b1 (by decide)⟩
  subst hn
  refine ⟨_, rfl, _, rfl, _, _, rfl, rfl, _, _, rfl, rfl, cm2 _, _, _, rfl, rfl, (by show (0 : Int) < 2147483543; decide), _, _, rfl, rfl, ⟨(by show (0 : Int) < 8; decide), (by show (8 : Int) < 1073741824; decide)⟩, q _ ?_ ?_⟩
  · exact Int.ediv_nonneg (Int.emod_nonneg _ (by decide)) (by decide)
  · generalize hz : ((c + 7919 * k + 12345) % 2147483629 * ((c + 7919 * k + 12345) % 2147483629)) % 2147483587 * 48271 % 2147483549 = z
    have := Int.emod_lt_of_pos (z * (z + 31)) (show (0 : Int) < 2147483543 by decide)
    omega
abbrev sBeg : Stmt := top 28
def spBeg : Sp := fun vs H Q _ => ∃ c : Int, vs = [.int c] ∧ ∀ p H', H p = none → Ext H H' → BoxW H' p → Q (.ref p) H'
theorem scBg : FnScope ["_law_cell_here"] ["_law_cell_here"] (defScope sBeg) := ⟨rfl, rfl, rfl, by decide +kernel, rfl, by decide +kernel, by decide +kernel⟩
theorem ok_beg {f : Addr} {fd : FuncData} (F : Fun K "_law_begun" "_law_begun" sBeg f fd) (mx : mg "max" = none) : FnOk P w K mg base CX0 1 f fd ["_law_cell_here"] spBeg := by
  refine F.ok scBg (fun vs H Q E h => ?_) (fun cdv A outer s H vs Q E hr h => ?_)
  · obtain ⟨c, rfl, _⟩ := h
    rfl
  obtain ⟨c, rfl, q⟩ := h
  refine ⟨_, pss_one (ps_ret (pe_lst (pa_cons (pe_callB (call_max2 rfl) rfl mx PyProof.Rows.boot_max (pa_cons pe_int (pa_cons (pe_op op_sub (pv 0) (pe_op op_pow pe_int pe_int)) pa_nil))) (pa_cons (pe_op op_mod (pv 0) pe_int) (pa_cons pe_int pa_nil))))), ?_⟩
  refine ⟨_, rfl, 10, 18, rfl, rfl, ⟨by decide, by decide, by decide⟩, _, _, rfl, rfl, _, _, rfl, _, rfl, _, _, rfl, rfl, (by show (0 : Int) < 2147483629; decide), by show 3 ≤ sizeLine; decide, fun p hp => ?_⟩
  refine q p _ hp (Ext.new hp) ⟨_, _, _, upd_same, ?_, Int.emod_nonneg _ (by decide), Int.emod_lt_of_pos _ (by decide)⟩
  show 0 ≤ (if c - (10 : Int) ^ (18 : Int).toNat > 0 then c - (10 : Int) ^ (18 : Int).toNat else 0)
  split <;> omega
abbrev sPull : Stmt := top 29
def spPull (T : Tbs) : Sp := fun vs H Q _ => ∃ ps p, ∃ m : Int, vs = [.ref p, .int m] ∧ OkS T ps p H ∧ 0 < m ∧ m < 1073741824 ∧ ∀ (r : Int) (H' : Hp), 0 ≤ r → r < m → OkS T ps p H' → Kept H H' p → Q (.int r) H'
theorem scPl : FnScope ["_law_state", "_law_many", "_law_digit", "_law_high", "_law_low"] ["_law_state", "_law_many"] (defScope sPull) := ⟨rfl, rfl, rfl, by decide +kernel, rfl, by decide +kernel, by decide +kernel⟩
theorem kept_upd {H : Hp} {p : Addr} (o : HO) : Kept H (upd H p o) p := fun b u h n => by rw [upd_ne n]; exact h
theorem ok_pull {f a1 : Addr} {fd d1 : FuncData} (F : Fun K "_law_pull" "_law_pull" sPull f fd) (A1 : Df P w K mg base CX0 1 "_law_mix" ["_law_cell_here", "_law_k"] spMix a1 d1) : FnOk P w K mg base CX0 2 f fd ["_law_state", "_law_many"] (spPull T) := by
  refine F.ok scPl (fun vs H Q E h => ?_) (fun cdv A outer s H vs Q E hr h => ?_)
  · obtain ⟨_, _, _, rfl, _⟩ := h
    rfl
  obtain ⟨ps, p, m, rfl, ok, m0, m1, q⟩ := h
  obtain ⟨a, b, c, hp, a0, b0, b1⟩ := ok.bx.ex
  have nd := scPl.nd
  refine ⟨_, pss_cons (ps_if (pt_cmpR op_gt (pe_ix ix_list (pv 0) pe_int (fun _ _ => rfl)) pe_int (nomark _))
      (pss_cons (ps_set (i := 2) nd rfl (Or.inl rfl) (pe_op op_mod (pe_ix ix_list (pv 0) pe_int (fun _ _ => rfl)) (pv 1)))
      (pss_cons (ps_asg (pe_op op_fdiv (pe_ix ix_list (pv 0) pe_int (fun _ _ => rfl)) (pv 1)) (pg_sub (pv 0) pe_int set_list))
      (pss_one (ps_ret (pv 2))))) pss_nil)
    (pss_cons (ps_asg (pe_op op_add (pe_ix ix_list (pv 0) pe_int (fun _ _ => rfl)) pe_int) (pg_sub (pv 0) pe_int set_list))
    (pss_cons (ps_set (i := 3) nd rfl (Or.inl rfl) (pe_call A1.G hr rfl A1.m A1.kp A1.b .nil pass0 (pa_cons (pe_ix ix_list (pv 0) pe_int (fun _ _ => rfl)) (pa_cons (pe_op op_mul pe_int (pe_ix ix_list (pv 0) pe_int (fun _ _ => rfl))) pa_nil))))
    (pss_cons (ps_set (i := 4) nd rfl (Or.inl rfl) (pe_call A1.G hr rfl A1.m A1.kp A1.b .nil pass0 (pa_cons (pe_ix ix_list (pv 0) pe_int (fun _ _ => rfl)) (pa_cons (pe_op op_add (pe_op op_mul pe_int (pe_ix ix_list (pv 0) pe_int (fun _ _ => rfl))) pe_int) pa_nil))))
    (pss_one (ps_ret (pe_op op_mod (pe_op op_add (pe_op op_mul (pv 3) pe_int) (pv 4)) (pv 1))))))), ?_⟩
  have hl := SqL.of (K := K) hp
  refine ⟨_, rfl, p, _, _, _, rfl, rfl, hl, rfl, _, _, rfl, rfl, _, rfl, ?_⟩
  refine ite2 (fun c1 => ?_) (fun c1 => ?_)
  · have c2 : 0 < a := of_decide_eq_true c1
    refine ⟨_, rfl, p, _, _, _, rfl, rfl, hl, rfl, _, rfl, _, _, rfl, rfl, m0, ?_⟩
    refine ⟨_, rfl, p, _, _, _, rfl, rfl, hl, rfl, _, rfl, _, _, rfl, rfl, ⟨m0, m1⟩, _, rfl, p, _, 0, 0, rfl, rfl, hp, rfl, ?_⟩
    exact ⟨_, rfl, q _ _ (Int.emod_nonneg _ (by omega)) (Int.emod_lt_of_pos _ m0) (ok.kept (kept_upd _) ⟨_, _, _, upd_same, Int.ediv_nonneg (by omega) (by omega), b0, b1⟩) (kept_upd _)⟩
  · refine ⟨_, rfl, p, _, _, _, rfl, rfl, hl, rfl, _, _, rfl, rfl, _, rfl, p, _, 2, 2, rfl, rfl, hp, rfl, ?_⟩
    have k1 : Kept H (upd H p (.lst [.int a, .int b, .int (c + 1)])) p := kept_upd _
    have f1 : upd H p (.lst [.int a, .int b, .int (c + 1)]) p = some (.lst [.int a, .int b, .int (c + 1)]) := upd_same
    have ok1 := ok.kept k1 ⟨_, _, _, f1, a0, b0, b1⟩
    have hl1 := SqL.of (K := K) f1
    have q1 := fun r h0 h1 => q r _ h0 h1 ok1 k1
    refine ⟨_, rfl, p, _, _, _, rfl, rfl, hl1, rfl, _, rfl, p, _, _, _, rfl, rfl, hl1, rfl, _, _, rfl, rfl, .inl ⟨by decide, by decide⟩, _, _, rfl, fun r1 r10 r11 => ?_⟩
    refine ⟨_, rfl, p, _, _, _, rfl, rfl, hl1, rfl, _, rfl, p, _, _, _, rfl, rfl, hl1, rfl, _, _, rfl, rfl, .inl ⟨by decide, by decide⟩, _, _, rfl, rfl, _, _, rfl, fun r2 r20 r21 => ?_⟩
    refine ⟨_, rfl, _, _, rfl, rfl, .inl ⟨by omega, by omega⟩, _, rfl, _, _, rfl, rfl, _, rfl, _, _, rfl, rfl, m0, ?_⟩
    exact q1 _ (Int.emod_nonneg _ (by omega)) (Int.emod_lt_of_pos _ m0)
abbrev sOut : Stmt := top 30
theorem scOt : FnScope ["_law_state"] ["_law_state"] (defScope sOut) := ⟨rfl, rfl, rfl, by decide +kernel, rfl, by decide +kernel, by decide +kernel⟩
end
end My
set_option Elab.async false
set_option linter.all false
set_option maxRecDepth 100000
set_option maxHeartbeats 1000000
namespace My
open PySem PySem.W L2
theorem extU {H H' : Hp} {D : Addr} {u : HO} (x : Ext H H') (n : H D = none) : Ext H (upd H' D u) := fun b o e => by
  rw [upd_ne (ne_of_none e n)]
  exact x b o e
def tellW (ws : List V) (i : Nat) : V := ws[i]?.getD .non
section
variable {P : Program} {w : World} {K : Frag} {mg : Str → Option Value} {base : Heap} {T : Tbs}
abbrev sAT : Stmt := top 22
def spAT (CW : Addr) : Sp := fun vs H Q E => ∃ (n : Nat) (f : Addr) (tot : Bool) (ws : List V) (ds : Nat → PyData), vs = [.int (n : Int), .ref f] ∧ n ≤ 20 ∧ Wd tot H f ws ∧ (tot = false → n ≤ ws.length) ∧ (∀ i, i < n → Rds H (tellW ws i) (ds i)) ∧
  ((∀ i, i < n → goodD (ds i) = true) → ∀ l H', Ext H H' → H l = none → H' l = some (.lst ((List.range n).map (tellW ws))) → Q (.ref l) H') ∧
  ∀ i, i < n → (∀ j, j < i → goodD (ds j) = true) → goodD (ds i) = false → ∀ H', Ext H H' → ErrF CW "place" (.int (i : Int)) H' E
theorem scAT : FnScope ["folk", "world", "told", "at", "both"] ["folk", "world"] (defScope sAT) := ⟨rfl, rfl, rfl, by decide +kernel, rfl, by decide +kernel, by decide +kernel⟩
theorem ok_AT {f D C fC a1 a2 : Addr} {fd fdC d1 d2 : FuncData} (F : Fun K "all_told" "all_told" sAT f fd) (B : BaseC K D) (TW : OneF K mg D "NoWorld" "place" C fC fdC) (M : ClOk P w K mg base 3 Wsp) (A1 : Df P w K mg base CX0 1 "is_two" ["thing"] spIs2 a1 d1) (A2 : Df P w K mg base CX0 3 "is_outcome" ["thing"] spIO a2 d2) (mr : mg "range" = none) : FnOk P w K mg base (CXE P w) 4 f fd ["folk", "world"] (spAT C) := by
  refine okE F scAT (fun vs H Q E h => ?_) (fun cdv A outer s H vs Q E hr h => ?_)
  · obtain ⟨_, _, _, _, _, rfl, _⟩ := h
    rfl
  obtain ⟨n, fw, tot, ws, ds, rfl, n20, wd, ht, rd, q1, q2⟩ := h
  have nd := scAT.nd
  have hr1 := hr.mono (show 1 ≤ 3 by decide)
  have hr2 := hr.mono (show 2 ≤ 3 by decide)
  refine ⟨_, pss_cons (ps_set (i := 2) nd rfl (Or.inl rfl) (pe_lst pa_nil))
    (pss_cons (ps_for PassesOwn.leaving rfl (pi_range1 rfl mr (pa_cons (pv 0) pa_nil)) (pg_name (i := 3) nd rfl (Or.inl rfl))
      (pss_cons (ps_set (i := 4) nd rfl (Or.inl rfl) (pe_callF (pv 1) M hr (pv 3)))
      (pss_cons (ps_if (PW.pt (pw_or (pt_not (pt_val (pe_call A1.G hr1 rfl A1.m A1.kp A1.b .nil pass0 (pa_cons (pv 4) pa_nil)))) (pw_or (pt_not (pt_val (pe_call A2.G hr rfl A2.m A2.kp A2.b .nil pass0 (pa_cons (pe_ix ix_tup (pv 4) pe_int (fun _ _ => rfl)) pa_nil)))) (pw_or1 (pt_not (pt_val (pe_call A2.G hr rfl A2.m A2.kp A2.b .nil pass0 (pa_cons (pe_ix ix_tup (pv 4) pe_int (fun _ _ => rfl)) pa_nil)))))))) (pss_one (ps_raise B TW.cls (TW.ok P w base) hr2 TW.bi rfl TW.mgC (pv 3))) pss_nil)
      (pss_one (ps_expr (pe_bm PySem.F.plainAttrs_list PySem.F.slot_list_append PySem.F.type_list_append mt_append (pv 2) (pa_cons (pv 4) pa_nil)))))))
    (pss_one (ps_ret (pv 2)))), ?_⟩
  refine ⟨(by show 0 ≤ sizeLine; decide), fun l hl => ?_⟩
  have x0 := Ext.new (o := .lst []) hl
  refine ⟨_, rfl, _, rfl, by omega, by omega, ?_⟩
  rw [Int.toNat_natCast]
  refine for_range (n := n) (fun i σ H' => Ext H H' ∧ (∀ j, j < i → goodD (ds j) = true) ∧ H' l = some (.lst ((List.range i).map (tellW ws))) ∧ ∃ o3 o4, σ = [some (.int (n : Int)), some (.ref fw), some (.ref l), o3, o4]) ⟨x0, fun j h => absurd h (Nat.not_lt_zero _), upd_same, _, _, rfl⟩ ?_ ?_
  · rintro i σ H' hi ⟨x', good, el, o3, o4, rfl⟩
    obtain ⟨fdg, hfg⟩ := (wd.ext x').fn
    have rdi := (rd i hi).mono x'
    have e0 : (0 + (i : Int)) = ((i : Nat) : Int) := by omega
    refine ⟨_, rfl, fw, fdg, rfl, hfg, _, rfl, hfg, tot, ws, i, wd.ext x', by rw [e0], fun e => Nat.lt_of_lt_of_le hi (ht e), ?_⟩
    have bad : goodD (ds i) = false → ∀ R : Ends, (tRaise E C "place" (tVar 3)) R [some (.int (n : Int)), some (.ref fw), some (.ref l), some (.int (0 + (i : Int))), some (tellW ws i)] H' := fun b R => by
      refine ⟨_, rfl, fun e' dx h1 h2 ne => ?_⟩
      rw [e0]
      exact qR_of ne (q2 i hi good b H' x' e' dx h1 h2 ne)
    refine ⟨_, rfl, tellW ws i, ds i, rfl, rdi, _, rfl, ?_⟩
    cases e2 : twoD (ds i) with
    | false =>
      refine itT (itT (bad ?_ _))
      cases e : ds i with
      | tuple xs =>
        rw [e] at e2
        match xs, e2 with
        | [], _ => rfl
        | [_], _ => rfl
        | _ :: _ :: _ :: _, _ => rfl
      | _ => rfl
    | true =>
      obtain ⟨da, db, ed⟩ : ∃ da db, ds i = .tuple [da, db] := by
        cases e : ds i with
        | tuple xs =>
          rw [e] at e2
          match xs, e2 with
          | [a, b], _ => exact ⟨a, b, rfl⟩
        | _ => rw [e] at e2; cases e2
      rw [ed] at rdi
      obtain ⟨a, xs, ea, ha, rs⟩ := rds_tup rdi
      cases rs with
      | cons ra rs =>
        cases rs with
        | cons rb rs =>
          cases rs
          rename_i u v
          have eg : goodD (ds i) = (outD da && outD db) := by rw [ed]; rfl
          refine itF ⟨_, rfl, a, _, _, _, ea, rfl, SqT.of ha, rfl, u, da, rfl, ra, _, rfl, ?_⟩
          cases e3 : outD da with
          | false =>
            refine itT (itT (bad ?_ _))
            rw [eg, e3]
            rfl
          | true =>
            refine itF ⟨_, rfl, a, _, _, _, ea, rfl, SqT.of ha, rfl, v, db, rfl, rb, _, rfl, ?_⟩
            cases e4 : outD db with
            | false =>
              refine itT (bad ?_ _)
              rw [eg, e3, e4]
              rfl
            | true =>
              refine itF ⟨_, rfl, .inl ⟨rfl, _, SqL.of el⟩, _, rfl, l, _, _, rfl, rfl, el, Nat.lt_of_le_of_lt (m := 20) (by rw [List.length_map, List.length_range]; omega) (by decide), ?_⟩
              refine ⟨extU x' hl, fun j hj => ?_, ?_, _, _, rfl⟩
              · rcases Nat.lt_or_ge j i with lt | ge
                · exact good j lt
                · have : j = i := by omega
                  rw [this, eg, e3, e4]
                  rfl
              · rw [upd_same, List.range_succ, List.map_append]
                rfl
  · rintro σ H' ⟨x', good, el, o3, o4, rfl⟩
    exact ⟨_, rfl, q1 good l H' x' hl el⟩
end
end My
set_option Elab.async false
set_option linter.all false
set_option maxRecDepth 100000
set_option maxHeartbeats 1000000
namespace My
open PySem PySem.W L2
theorem lookup_1 {n z : Str} {a c : Addr} (h : List.lookup z [(n, a)] = some c) : z = n ∧ c = a := by
  rw [List.lookup_cons] at h
  cases e : z == n with
  | true => rw [e] at h; exact ⟨beq_iff_eq.mp e, (Option.some.inj h).symm⟩
  | false => rw [e] at h; cases h
theorem compG1 {X : Cx} {sc : Scope} {ts : List Str} {z0 : Str} {c0 : Addr} {j : Nat} {L : List (Str × NameKind)} (clos : closureFor sc X.env = pure [(z0, c0)]) (kind : sc.kind = .function) (nc : ∀ y ∈ sc.names, y.2 ≠ .cell) (nm : ∀ y ∈ sc.names, y.2 = .local → sc.names.lookup y.1 = some .local) (var : ∀ x ∈ ts, sc.names.lookup x = some .local)
    (hc : X.env.cells.lookup z0 = some c0) (rl : (relabel sc X.env).names = L) (has : ∀ y ∈ L, (y.2 = .cell ∨ y.2 = .free) → y.1 = z0) (nd : (ts ++ [z0]).Nodup) (hj : X.N[j]? = some z0) (vis : Vis X.env.scope z0) (nl : X.env.kindOf z0 ≠ some .local) (cf : L.lookup z0 = some .cell ∨ L.lookup z0 = some .free) : CompG X sc [(z0, c0)] ts [z0] [j] := by
  refine ⟨clos, kind, nc, nm, var, fun z c h => ?_, fun z h => ?_, nd, fun k z h => ?_, rfl⟩
  · obtain ⟨rfl, rfl⟩ := lookup_1 h
    exact hc
  · rw [rl] at h
    have : z = z0 := by
      rcases h with h | h
      · exact has _ (PySem.mem_of_lookup h) (.inl rfl)
      · exact has _ (PySem.mem_of_lookup h) (.inr rfl)
    subst this
    exact ⟨c0, by rw [List.lookup_cons, beq_self_eq_true]⟩
  · match k, h with
    | 0, h =>
      have h : some z0 = some z := h
      cases h
      exact ⟨j, rfl, hj, vis, nl, by rw [rl]; exact cf⟩
    | k + 1, h => simp at h
theorem compG0 {X : Cx} {sc : Scope} {ts : List Str} {L : List (Str × NameKind)} (clos : closureFor sc X.env = pure []) (kind : sc.kind = .function) (nc : ∀ y ∈ sc.names, y.2 ≠ .cell) (nm : ∀ y ∈ sc.names, y.2 = .local → sc.names.lookup y.1 = some .local) (var : ∀ x ∈ ts, sc.names.lookup x = some .local)
    (rl : (relabel sc X.env).names = L) (has : ∀ y ∈ L, ¬(y.2 = .cell ∨ y.2 = .free)) (nd : (ts ++ []).Nodup) : CompG X sc [] ts [] [] := by
  refine ⟨clos, kind, nc, nm, var, (fun z c h => by cases h), fun z h => ?_, nd, (fun k z h => by simp at h), rfl⟩
  rw [rl] at h
  rcases h with h | h
  · exact absurd (.inl rfl) (has _ (PySem.mem_of_lookup h))
  · exact absurd (.inr rfl) (has _ (PySem.mem_of_lookup h))
def PrV (H : Hp) (v : V) (p : V × V) : Prop := ∃ a, v = .ref a ∧ H a = some (.tup [p.1, p.2])
def pickV (x : Int) (i : Nat) (p : V × V) : V := if x / 2 ^ i % 2 = 1 then p.1 else p.2
section
variable {P : Program} {w : World} {K : Frag} {mg : Str → Option Value} {base : Heap} {T : Tbs}
abbrev sSO : Stmt := top 23
def spSO : Sp := fun vs H Q _ => ∃ (l : Addr) (x : Int) (zs : List V) (prs : List (V × V)), vs = [.ref l, .int x] ∧ H l = some (.lst zs) ∧ zs.length ≤ 20 ∧ Al PrV H zs prs ∧ ∀ l' H', Ext H H' → H l' = none → H' l' = some (.lst (prs.mapIdx (pickV x))) → Q (.ref l') H'
theorem scSO : FnScope ["told", "dealing"] ["told", "dealing"] (defScope sSO) := ⟨rfl, rfl, rfl, by decide +kernel, rfl, by decide +kernel, by decide +kernel⟩
abbrev scSOC : Scope := { kind := .function, names := [(".0", .local), ("at", .local), ("both", .local), ("hand_of", .globalImplicit), ("dealing", .free)], isGenerator := false, isCoroutine := false }
variable {f : Addr} {cdv : Value} {A : Around} {outer : List Env} {s : Shared} {H : Hp} {E : XK}
theorem compSO : CompG (cxOf CX0 P w K mg base ["told", "dealing"] "seen_of" (defScope sSO) f cdv A outer s H E).nox scSOC [("dealing", s.heap.objs.size + 1)] ["at", "both"] ["dealing"] [1] :=
  compG1 (L := [(".0", .local), ("at", .local), ("both", .local), ("hand_of", .globalImplicit), ("dealing", .cell)]) rfl rfl (by decide +kernel) (by decide +kernel) (by decide +kernel) rfl rfl (by decide +kernel) (by decide +kernel) rfl (.inr (.inl rfl)) (by show (defScope sSO).names.lookup ("dealing" : Str) ≠ some NameKind.local; decide +kernel) (.inl rfl)
theorem ndSO : ((["at", "both"] : List Str) ++ (["dealing"] : List Str)).Nodup := by decide +kernel
def tSOE (K : Frag) : TE := tOp (rIxT K) (tVar 1) (tOp (rI0 fun i j => .int (i - j)) (tC (.int 1)) (tCall spHO [] E0 (tCons (tVar 2) (tCons (tVar 0) tNil))))
theorem ok_SO {a1 : Addr} {fd d1 : FuncData} (F : Fun K "seen_of" "seen_of" sSO f fd) (A1 : Df P w K mg base CX0 1 "hand_of" ["dealing", "at"] spHO a1 d1) (me : mg "enumerate" = none) : FnOk P w K mg base CX0 2 f fd ["told", "dealing"] spSO := by
  refine F.ok scSO (fun vs H Q E h => ?_) (fun cdv A outer s H vs Q E hr h => ?_)
  · obtain ⟨_, _, _, _, rfl, _⟩ := h
    rfl
  obtain ⟨l, x, zs, prs, rfl, hl, lz, al, q⟩ := h
  refine ⟨_, pss_one (ps_ret (pe_lcG (te := tSOE K) (g := gTup K 2 (gCons (gName 0) (gCons (gName 1) gNil))) rfl compSO (pi_enum rfl me (pa_cons (pv 0) pa_nil)) (fun s H C fp => by exact pg_tup rfl (pgs_cons (pg_name (i := 0) ndSO rfl (.inl rfl)) (pgs_cons (pg_name (i := 1) ndSO rfl (.inl rfl)) pgs_nil)))
    (fun s H C fp => by exact pe_ix ix_tup (pv 1) (pe_op op_sub pe_int (pe_call A1.G hr rfl A1.m A1.kp A1.b .nil pass0 (pa_cons (pv 2) (pa_cons (pv 0) pa_nil)))) (fun _ _ => rfl)))), ?_⟩
  refine ⟨_, rfl, l, rfl, ⟨zs, SqL.of hl⟩, fun D hD => lcG_enum (fun i ys H' => Ext H H' ∧ ys = (prs.mapIdx (pickV x)).take i) (Nat.lt_of_le_of_lt lz (by decide)) ⟨Ext.new hD, by simp⟩ ?_ ?_ ?_⟩
  · rintro i ys H' ⟨x', _⟩
    exact SqL.of (x' _ _ hl)
  · rintro i v ys H' p ev ly eD ⟨x', ey⟩ hp os los R k
    obtain ⟨o0, o1, rfl⟩ : ∃ o0 o1, os = [o0, o1] := by
      match os, los with
      | [o0, o1], _ => exact ⟨o0, o1, rfl⟩
    have xp := Ext.new (o := .tup [.int (i : Nat), v]) hp
    obtain ⟨r, er, a, rfl, ha⟩ := al.get' ev
    refine ⟨p, _, rfl, SqT.of upd_same, rfl, _, _, rfl, _, _, rfl, rfl, ⟨[some (.int (i : Nat)), some (.ref a)], rfl, rfl⟩, ?_⟩
    have em : (prs.mapIdx (pickV x))[i]? = some (pickV x i r) := by rw [List.getElem?_mapIdx, er]; rfl
    have hx : x / 2 ^ i % 2 = 0 ∨ x / 2 ^ i % 2 = 1 := by omega
    have ei : atI [r.1, r.2] (1 - x / 2 ^ i % 2) = some (pickV x i r) := by
      unfold pickV
      rcases hx with h | h
      · rw [h]; rfl
      · rw [h]; rfl
    refine ⟨_, rfl, _, rfl, _, rfl, x, i, rfl, _, _, rfl, rfl, a, _, _, _, rfl, rfl, SqT.of (xp _ _ (x' _ _ ha)), ei, k _ _ (xp _ _ eD) ⟨extU (x'.trans xp) hD, ?_⟩⟩
    rw [ey, take_snoc em]
  · rintro ys H' ly eD ⟨x', ey⟩
    rw [List.take_of_length_le (by rw [List.length_mapIdx, al.1]; exact Nat.le_refl _)] at ey
    rw [ey] at eD
    exact q D H' x' hD eD
abbrev sOU : Stmt := top 24
def spOU (CN CD CW : Addr) : Sp := fun vs H Q E => ∃ (x y : V) (dx dy : PyData) (fw : Addr) (tot : Bool) (ws : List V) (ds : Nat → PyData), vs = [x, .ref fw, y] ∧ Rds H x dx ∧ Rds H y dy ∧ Wd tot H fw ws ∧
  (inD 1 20 dx = false → ErrF CN "found" x H E) ∧
  ∀ n : Nat, x = .int (n : Int) → 1 ≤ n → n ≤ 20 → (inD 0 (2 ^ n - 1) dy = false → ErrF CD "found" y H E) ∧
    ∀ m : Int, y = .int m → 0 ≤ m → inD 0 (2 ^ n - 1) dy = true → (tot = false → n ≤ ws.length) ∧ (∀ i, i < n → Rds H (tellW ws i) (ds i)) ∧
      ((∀ i, i < n → goodD (ds i) = true) → ∃ prs, Al PrV H ((List.range n).map (tellW ws)) prs ∧ ∀ l H', Ext H H' → H l = none → H' l = some (.lst (prs.mapIdx (pickV m))) → Q (.ref l) H') ∧
      ∀ i, i < n → (∀ j, j < i → goodD (ds j) = true) → goodD (ds i) = false → ∀ H', Ext H H' → ErrF CW "place" (.int (i : Int)) H' E
theorem scOU : FnScope ["folk", "world", "dealing"] ["folk", "world", "dealing"] (defScope sOU) := ⟨rfl, rfl, rfl, by decide +kernel, rfl, by decide +kernel, by decide +kernel⟩
theorem PrV.ext {H H' : Hp} {v : V} {p : V × V} (h : PrV H v p) (x : Ext H H') : PrV H' v p := by
  obtain ⟨a, e, ha⟩ := h
  exact ⟨a, e, x _ _ ha⟩
theorem ok_OU {CN CD CW a1 a2 a3 a4 : Addr} {fd d1 d2 d3 d4 : FuncData} {t : Tok} (F : Fun K "outcomes_under" "outcomes_under" sOU f fd) (A1 : Df P w K mg base (CXE P w) 3 "need_number" ["thing", "low", "high"] (spNN CN) a1 d1) (A2 : Df P w K mg base (CXE P w) 3 "need_hands" ["thing", "folk"] (spNH K CD) a2 d2)
    (A3 : Df P w K mg base (CXE P w) 4 "all_told" ["folk", "world"] (spAT CW) a3 d3) (A4 : Df P w K mg base CX0 2 "seen_of" ["told", "dealing"] spSO a4 d4) (mF : mg "MOST_FOLK" = some (.int 20 t)) : FnOk P w K mg base (CXE P w) 5 f fd ["folk", "world", "dealing"] (spOU CN CD CW) := by
  refine okE F scOU (fun vs H Q E h => ?_) (fun cdv A outer s H vs Q E hr h => ?_)
  · obtain ⟨_, _, _, _, _, _, _, _, rfl, _⟩ := h
    rfl
  obtain ⟨x, y, dx, dy, fw, tot, ws, ds, rfl, rx, ry, wd, qN, qR⟩ := h
  have hr3 := hr.mono (show 3 ≤ 4 by decide)
  have hr2 := hr.mono (show 2 ≤ 4 by decide)
  refine ⟨_, pss_cons (ps_expr (pe_call A1.G hr3 rfl A1.m A1.kp A1.b .nil passE (pa_cons (pv 0) (pa_cons pe_int (pa_cons (pe_glob (v := .int 20) rfl mF ⟨_, rfl⟩) pa_nil)))))
    (pss_cons (ps_expr (pe_call A2.G hr3 rfl A2.m A2.kp A2.b .nil passE (pa_cons (pv 2) (pa_cons (pv 0) pa_nil))))
    (pss_one (ps_ret (pe_call A4.G hr2 rfl A4.m A4.kp A4.b .nil pass0 (pa_cons (pe_call A3.G hr rfl A3.m A3.kp A3.b .nil passE (pa_cons (pv 0) (pa_cons (pv 1) pa_nil))) (pa_cons (pv 2) pa_nil)))))), ?_⟩
  refine ⟨_, rfl, x, dx, 1, 20, rfl, rx, fun g => ?_, fun b => qN b⟩
  obtain ⟨n, rfl, n1, n20⟩ : ∃ n : Nat, x = .int (n : Int) ∧ 1 ≤ n ∧ n ≤ 20 := by
    cases rx with
    | int i =>
      have g : (decide ((1 : Int) ≤ i) && decide (i ≤ 20)) = true := g
      rw [Bool.and_eq_true, decide_eq_true_iff, decide_eq_true_iff] at g
      exact ⟨i.toNat, by congr 1; omega, by omega, by omega⟩
    | _ => cases g
  obtain ⟨qD, qW⟩ := qR n rfl n1 n20
  refine ⟨_, rfl, _, rfl, y, dy, n, rfl, n20, ry, fun g2 => ?_, fun b => qD b⟩
  obtain ⟨m, ey, m0⟩ : ∃ m : Int, y = .int m ∧ 0 ≤ m := by
    cases ry with
    | int i =>
      have g2 : (decide ((0 : Int) ≤ i) && decide (i ≤ 2 ^ n - 1)) = true := g2
      rw [Bool.and_eq_true, decide_eq_true_iff, decide_eq_true_iff] at g2
      exact ⟨i, rfl, g2.1⟩
    | _ => cases g2
  obtain ⟨ht, rd, q1, q2⟩ := qW m ey m0 g2
  subst ey
  refine ⟨_, rfl, _, rfl, n, fw, tot, ws, ds, rfl, n20, wd, ht, rd, fun g => ?_, q2⟩
  obtain ⟨prs, al, q1⟩ := q1 g
  intro l H' x' nl el
  refine ⟨_, rfl, l, m, _, prs, rfl, el, by rw [List.length_map, List.length_range]; exact n20, ⟨al.1, fun i v r h1 h2 => (al.2 i v r h1 h2).ext x'⟩, fun l' H'' x'' nl' el' => q1 l' H'' (x'.trans x'') ?_ el'⟩
  cases e : H l' with
  | none => rfl
  | some o => rw [x' _ _ e] at nl'; cases nl'
end
end My
set_option Elab.async false
set_option linter.all false
set_option maxRecDepth 100000
set_option maxHeartbeats 1000000
namespace My
open PySem PySem.W L2
def GN (T : Tbs) (ps : List Addr) (p : Addr) (H0 : Hp) (σ : St) (te : TE) (d : PyData) : Prop := ∀ (H : Hp) (Q : VK), OkS T ps p H → Ext H0 H → (∀ v H', Ext H H' → Rds (nt H' ps) v d → Q v H') → te σ H Q
def GNs (T : Tbs) (ps : List Addr) (p : Addr) (H0 : Hp) (σ : St) (ta : TA) (ds : List PyData) : Prop := ∀ (H : Hp) (Q : List V → Hp → Prop), OkS T ps p H → Ext H0 H → (∀ vs H', Ext H H' → RdsAll (nt H' ps) vs ds → Q vs H') → ta σ H Q
def rLo (K : Frag) : List V → Hp → VK → Prop := fun xs H Q => ∃ p ys, xs = [.ref p] ∧ (SqL K H p ys ∨ SqT K H p ys) ∧ ∀ l, H l = none → Q (.ref l) (upd H l (.lst ys))
section
variable {T : Tbs} {ps : List Addr} {p : Addr} {H0 : Hp} {σ : St} {te : TE} {ta : TA} {d : PyData} {ds : List PyData}
theorem nt_x {H H' : Hp} (x : Ext H H') (m : p ∈ ps) : Ext (nt H ps) (nt H' ps) := (x.gr p).nt m
theorem GN.int (i : Int) : GN T ps p H0 σ (tC (.int i)) (.int i) := fun H Q _ _ q => q _ H (Ext.refl _) (.int i)
theorem GN.bl (b : Bool) : GN T ps p H0 σ (tC (.bl b)) (.bool b) := fun H Q _ _ q => q _ H (Ext.refl _) (.bl b)
theorem GN.non : GN T ps p H0 σ (tC .non) .none := fun H Q _ _ q => q _ H (Ext.refl _) .non
theorem GN.str (z : Str) : GN T ps p H0 σ (tC (.str z)) (.str z) := fun H Q _ _ q => q _ H (Ext.refl _) (.str z)
theorem GN.var {i : Nat} {v : V} (s : σ[i]? = some (some v)) (r : Rds (nt H0 ps) v d) : GN T ps p H0 σ (tVar i) d := fun H Q ok x q => ⟨v, s, q v H (Ext.refl _) (r.mono (nt_x x ok.mem))⟩
theorem GN.neg (i : Int) : GN T ps p H0 σ (tUn (rU fun i => .int (-i)) (tC (.int i))) (.int (-i)) := fun H Q _ _ q => ⟨i, rfl, q _ H (Ext.refl _) (.int _)⟩
theorem GNs.nil : GNs T ps p H0 σ tNil [] := fun H Q _ _ q => q [] H (Ext.refl _) .nil
theorem GNs.cons (h : GN T ps p H0 σ te d) (k : GNs T ps p H0 σ ta ds) : GNs T ps p H0 σ (tCons te ta) (d :: ds) := fun H Q ok x q =>
  h H _ ok x fun v H1 x1 r => k H1 _ (ok.ext x1) (x.trans x1) fun vs H2 x2 rs => q (v :: vs) H2 (x1.trans x2) (.cons (r.mono (nt_x x2 ok.mem)) rs)
theorem nt_new {H : Hp} {a : Addr} {o : HO} (ok : OkS T ps p H) (e : H a = none) (t : ∀ t, o ≠ .tbl t) : nt (upd H a o) ps a = some o := nt_in (ok.new e) upd_same t
theorem GN.tup (k : GNs T ps p H0 σ ta ds) (hz : ds.length ≤ sizeLine) : GN T ps p H0 σ (tTup ta) (.tuple ds) := fun H Q ok x q =>
  k H _ ok x fun vs H1 x1 rs => ⟨by rw [rs.length]; exact hz, fun a ha => q _ _ (x1.trans (Ext.new ha)) (.tup (nt_new (ok.ext x1) ha fun _ z => nomatch z) (rs.mono (nt_x (Ext.new ha) ok.mem)))⟩
theorem GN.lst (k : GNs T ps p H0 σ ta ds) (hz : ds.length ≤ sizeLine) : GN T ps p H0 σ (tLst ta) (.list ds) := fun H Q ok x q =>
  k H _ ok x fun vs H1 x1 rs => ⟨by rw [rs.length]; exact hz, fun a ha => q _ _ (x1.trans (Ext.new ha)) (.lst (nt_new (ok.ext x1) ha fun _ z => nomatch z) (rs.mono (nt_x (Ext.new ha) ok.mem)))⟩
theorem GN.dic : GN T ps p H0 σ tDNewK (.dict []) := fun H Q ok x q => fun a ha => q _ _ (Ext.new ha) (.dic0 (nt_new ok ha fun _ z => nomatch z))
theorem GN.lof {K : Frag} {i : Nat} {v : V} (s : σ[i]? = some (some v)) (r : Rds (nt H0 ps) v (.tuple ds)) : GN T ps p H0 σ (tCB (rLo K) (tCons (tVar i) tNil)) (.list ds) := fun H Q ok x q => by
  obtain ⟨a, xs, rfl, ha, rs⟩ := rds_tup r
  have xn := nt_x x ok.mem
  exact ⟨_, s, a, xs, rfl, .inr (SqT.of (nt_of (xn _ _ ha)).2.1), fun l hl => q _ _ (Ext.new hl) (.lst (nt_new ok hl fun _ z => nomatch z) ((rs.mono xn).mono (nt_x (Ext.new hl) ok.mem)))⟩
theorem GNs.use {Q : VK} {H : Hp} (k : GNs T ps p H0 σ ta ds) (ok : OkS T ps p H) (x : Ext H0 H) (hz : ds.length ≤ sizeLine) (q : ∀ l vs H', Ext H H' → H' l = some (.lst vs) → RdsAll (nt H' ps) vs ds → Q (.ref l) H') : tLst ta σ H Q :=
  k H _ ok x fun vs H1 x1 rs => ⟨by rw [rs.length]; exact hz, fun a ha => q a vs _ (x1.trans (Ext.new ha)) upd_same (rs.mono (nt_x (Ext.new ha) ok.mem))⟩
end
end My
set_option Elab.async false
set_option linter.all false
set_option maxRecDepth 100000
set_option maxHeartbeats 1000000
namespace My
open PySem PySem.W L2
theorem okBxL {X : Cx} {body : List Stmt} {t : TS} {D : Ends} {σ : St} {H : Hp} (h : Bx (PSs X body t)) (r : Bx (t D σ H)) : ∃ t, PSs X body t ∧ t D σ H := ⟨t, h.h, r.h⟩
theorem bx_opB {X : Cx} {op : Operator} {r : R2} {a b : Expr} {ta tb : TE} {pos : Pos} (ho : OpR X (binaryOp op) r) (ha : Bx (PE X a ta)) (hb : Bx (PE X b tb)) : Bx (PE X (.BinOp a op b pos) (tOp r ta tb)) := ⟨pe_op ho ha.h hb.h⟩
theorem cut_upto (xs : List V) (k : Nat) : cutV xs none (some (k : Int)) = xs.take k := by
  unfold cutV
  rw [HT.sIx_nat, HT.sIx_none]
  simp
theorem rdsApp {G : Hp} {ys : List V} {es : List PyData} (r2 : RdsAll G ys es) : ∀ {xs : List V} {ds : List PyData}, RdsAll G xs ds → RdsAll G (xs ++ ys) (ds ++ es)
  | _, _, .nil => r2
  | _, _, .cons a b => .cons a (rdsApp r2 b)
theorem plainCall {f : Expr} {as : List Expr} {ks : List Keyword} {pos : Pos} : PlainIx (.Call f as ks pos) := fun _ _ => rfl
def ocD (o : Oc) : PyData := .tuple [.int o.1, .bool o.2]
abbrev tNg (a : Int) : TE := tUn (rU fun i => .int (-i)) (tC (.int a))
abbrev t2 (a b : TE) : TE := tTup (tCons a (tCons b tNil))
def tBdA (K : Frag) : TA := tCons (tC .non) (tCons (tSl (rSlT K) (tVar 1) tNoPart (tPart (tC (.int 1)))) (tCons (tOp (rCatT K) (tVar 1) (tTup (tCons (tVar 2) tNil))) (tCons (tCB (rLo K) (tCons (tVar 1) tNil)) (tCons (tVar 2)
  (tCons (t2 (tVar 2) (tC .non)) (tCons (t2 (t2 (tC (.int 100)) (tC (.bl true))) (tVar 3)) (tCons tDNewK (tCons (tC (.int 7)) (tCons (t2 (tCB (rLo K) (tCons (tVar 2) tNil)) (tVar 3)) tNil)))))))))
def tBdB : TA := tCons (t2 (tVar 2) (t2 (tNg 100) (tC (.bl false)))) (tCons (t2 (t2 (tC (.int 3)) (tC (.int 1))) (tVar 3)) (tCons (t2 (tVar 2) (t2 (tC (.bl true)) (tC (.bl true)))) (tCons (t2 (tVar 2) (tTup (tCons (tC (.int 3)) tNil))) (tCons (t2 (tVar 2) (t2 (tC (.str "3")) (tC (.bl true)))) tNil))))
def bdA (r : Rw) : List PyData := [.none, .tuple [ocD r.1], .tuple [ocD r.1, ocD r.2, ocD r.1], .list [ocD r.1, ocD r.2], ocD r.1, .tuple [ocD r.1, .none], .tuple [.tuple [.int 100, .bool true], ocD r.2], .dict [], .int 7, .tuple [.list [.int r.1.1, .bool r.1.2], ocD r.2]]
def bdB (r : Rw) : List PyData := [.tuple [ocD r.1, .tuple [.int (-100), .bool false]], .tuple [.tuple [.int 3, .int 1], ocD r.2], .tuple [ocD r.1, .tuple [.bool true, .bool true]], .tuple [ocD r.1, .tuple [.int 3]], .tuple [ocD r.1, .tuple [.str "3", .bool true]]]
theorem bd_bad (r : Rw) : ∀ d ∈ bdA r ++ bdB r, goodD d = false := by
  intro d hd
  simp only [bdA, bdB, List.cons_append, List.nil_append, List.mem_cons, List.not_mem_nil, or_false] at hd
  rcases hd with rfl | rfl | rfl | rfl | rfl | rfl | rfl | rfl | rfl | rfl | rfl | rfl | rfl | rfl | rfl <;> simp [goodD, outD, ocD, inD, booB]
section
variable {T : Tbs} {ps : List Addr} {p : Addr} {H0 : Hp} {σ : St} {K : Frag} {r : Rw} {v u1 u2 : V}
theorem g_bdA (s1 : σ[1]? = some (some v)) (s2 : σ[2]? = some (some u1)) (s3 : σ[3]? = some (some u2)) (rv : Rds (nt H0 ps) v (.tuple [ocD r.1, ocD r.2])) (r1 : Rds (nt H0 ps) u1 (ocD r.1)) (r2 : Rds (nt H0 ps) u2 (ocD r.2)) : GNs T ps p H0 σ (tBdA K) (bdA r) := by
  have two : (2 : Nat) ≤ sizeLine := by decide
  have sl : GN T ps p H0 σ (tSl (rSlT K) (tVar 1) tNoPart (tPart (tC (.int 1)))) (.tuple [ocD r.1]) := fun H Q ok x q => by
    obtain ⟨a, xs, rfl, ha, rs⟩ := rds_tup rv
    have xn := nt_x x ok.mem
    cases rs with
    | cons ra rs =>
      cases rs with
      | cons rb rs =>
        cases rs
        rename_i w1 w2
        refine ⟨_, s1, _, rfl, a, _, rfl, SqT.of (nt_of (xn _ _ ha)).2.1, (by show ¬((0 : Nat) = 0 ∧ (1 : Nat) = 2); decide), fun l hl => ?_⟩
        rw [show cutV [w1, w2] none (some (1 : Int)) = [w1] from cut_upto _ 1]
        exact q _ _ (Ext.new hl) (.tup (nt_new ok hl fun _ z => nomatch z) (.cons ((ra.mono xn).mono (nt_x (Ext.new hl) ok.mem)) .nil))
  have ct : GN T ps p H0 σ (tOp (rCatT K) (tVar 1) (tTup (tCons (tVar 2) tNil))) (.tuple [ocD r.1, ocD r.2, ocD r.1]) := fun H Q ok x q => by
    obtain ⟨a, xs, rfl, ha, rs⟩ := rds_tup rv
    have xn := nt_x x ok.mem
    cases rs with
    | cons ra rs =>
      cases rs with
      | cons rb rs =>
        cases rs
        rename_i w1 w2
        refine ⟨_, s1, _, s2, (by show 1 ≤ sizeLine; decide), fun l hl => ?_⟩
        have x1 := Ext.new (o := .tup [u1]) hl
        refine ⟨a, l, [w1, w2], [u1], rfl, rfl, SqT.of (x1 _ _ (nt_of (xn _ _ ha)).2.1), SqT.of upd_same, (by simp), (by show 3 ≤ sizeLine; decide), (fun z => by cases z), fun _ l2 hl2 => ?_⟩
        have x2 := Ext.new (o := .tup ([w1, w2] ++ [u1])) hl2
        have x3 := xn.trans (nt_x (x1.trans x2) ok.mem)
        exact q _ _ (x1.trans x2) (.tup (nt_new (ok.ext x1) hl2 fun _ z => nomatch z) (.cons (ra.mono x3) (.cons (rb.mono x3) (.cons (r1.mono x3) .nil))))
  exact .cons .non (.cons sl (.cons ct (.cons (.lof s1 rv) (.cons (.var s2 r1) (.cons (.tup (.cons (.var s2 r1) (.cons .non .nil)) two) (.cons (.tup (.cons (.tup (.cons (.int 100) (.cons (.bl true) .nil)) two) (.cons (.var s3 r2) .nil)) two) (.cons .dic (.cons (.int 7) (.cons (.tup (.cons (.lof s2 r1) (.cons (.var s3 r2) .nil)) two) .nil)))))))))
theorem g_bdB (s2 : σ[2]? = some (some u1)) (s3 : σ[3]? = some (some u2)) (r1 : Rds (nt H0 ps) u1 (ocD r.1)) (r2 : Rds (nt H0 ps) u2 (ocD r.2)) : GNs T ps p H0 σ tBdB (bdB r) := by
  have two : (2 : Nat) ≤ sizeLine := by decide
  have one : (1 : Nat) ≤ sizeLine := by decide
  exact .cons (.tup (.cons (.var s2 r1) (.cons (.tup (.cons (.neg 100) (.cons (.bl false) .nil)) two) .nil)) two) (.cons (.tup (.cons (.tup (.cons (.int 3) (.cons (.int 1) .nil)) two) (.cons (.var s3 r2) .nil)) two) (.cons (.tup (.cons (.var s2 r1) (.cons (.tup (.cons (.bl true) (.cons (.bl true) .nil)) two) .nil)) two) (.cons (.tup (.cons (.var s2 r1) (.cons (.tup (.cons (.int 3) .nil) one) .nil)) two) (.cons (.tup (.cons (.var s2 r1) (.cons (.tup (.cons (.str "3") (.cons (.bl true) .nil)) two) .nil)) two) .nil))))
end
section
variable {P : Program} {w : World} {K : Frag} {mg : Str → Option Value} {base : Heap} {T : Tbs}
abbrev sBd : Stmt := top 31
abbrev NBd : List Str := ["_law_state", "_law_row", "_law_one", "_law_other", "_law_some"]
def spBd (T : Tbs) : Sp := fun vs H Q _ => ∃ ps p v r, vs = [.ref p, v] ∧ OkS T ps p H ∧ RwV (nt H ps) v r ∧ ∀ u d H', OkS T ps p H' → Gr p H H' → Rds (nt H' ps) u d → goodD d = false → Q u H'
theorem scBd : FnScope NBd ["_law_state", "_law_row"] (defScope sBd) := ⟨rfl, rfl, rfl, by decide +kernel, rfl, by decide +kernel, by decide +kernel⟩
def tBd0 (K : Frag) : TS := tAsg (tVar 1) (gTup K 2 (gCons (gName 2) (gCons (gName 3) gNil)))
def tBd1 (K : Frag) : TS := tAsg (tLst (tBdA K)) (gName 4)
def tBd2 : TS := tAsg (tOp rCat (tVar 4) (tLst tBdB)) (gName 4)
def rLen (K : Frag) : List V → Hp → VK → Prop := fun xs H Q => ∃ p ys, xs = [.ref p] ∧ (SqL K H p ys ∨ SqT K H p ys) ∧ Q (.int ys.length) H
def tBd3 (K : Frag) (T : Tbs) : TS := tRet (tOp (rIxL K) (tVar 4) (tCall (spPull T) [] E0 (tCons (tVar 0) (tCons (tCB (rLen K) (tCons (tVar 4) tNil)) tNil))))
variable {f a1 : Addr} {fd d1 : FuncData} {cdv : Value} {A : Around} {outer : List Env} {s : Shared} {H : Hp} {E : XK}
abbrev stBd (i : Nat) : Stmt := (defBody sBd).getD i (.Pass ⟨0, 0, 0, 0⟩)
theorem bd_1 (ml : mg "list" = none) : Bx (PS (cxOf CX0 P w K mg base NBd "_law_bad" (defScope sBd) f cdv A outer s H E).nox (stBd 1) (tBd1 K)) :=
  bx_set (i := 4) scBd.nd rfl (Or.inl rfl) (bx_lst (bxa_cons ⟨pe_non⟩ (bxa_cons ⟨pe_slice sl_tup (pv 1) po_none (po_some pe_int)⟩ (bxa_cons ⟨pe_op op_catT (pv 1) (pe_tup (pa_cons (pv 2) pa_nil))⟩ (bxa_cons ⟨pe_callTy call_list_of rfl ml PyProof.Rows.boot_list (pa_cons (pv 1) pa_nil)⟩ (bxa_cons ⟨pv 2⟩
    (bxa_cons ⟨pe_tup (pa_cons (pv 2) (pa_cons pe_non pa_nil))⟩ (bxa_cons ⟨pe_tup (pa_cons (pe_tup (pa_cons pe_int (pa_cons pe_bl pa_nil))) (pa_cons (pv 3) pa_nil))⟩ (bxa_cons ⟨pe_dnewK⟩ (bxa_cons ⟨pe_int⟩ (bxa_cons ⟨pe_tup (pa_cons (pe_callTy call_list_of rfl ml PyProof.Rows.boot_list (pa_cons (pv 2) pa_nil)) (pa_cons (pv 3) pa_nil))⟩ bxa_nil)))))))))))
theorem bd_2 : Bx (PS (cxOf CX0 P w K mg base NBd "_law_bad" (defScope sBd) f cdv A outer s H E).nox (stBd 2) tBd2) :=
  bx_set (i := 4) scBd.nd rfl (Or.inl rfl) (bx_opB op_cat ⟨pv 4⟩ (bx_lst (bxa_cons ⟨pe_tup (pa_cons (pv 2) (pa_cons (pe_tup (pa_cons (pe_un un_neg pe_int) (pa_cons pe_bl pa_nil))) pa_nil))⟩ (bxa_cons ⟨pe_tup (pa_cons (pe_tup (pa_cons pe_int (pa_cons pe_int pa_nil))) (pa_cons (pv 3) pa_nil))⟩
    (bxa_cons ⟨pe_tup (pa_cons (pv 2) (pa_cons (pe_tup (pa_cons pe_bl (pa_cons pe_bl pa_nil))) pa_nil))⟩ (bxa_cons ⟨pe_tup (pa_cons (pv 2) (pa_cons (pe_tup (pa_cons pe_int pa_nil)) pa_nil))⟩ (bxa_cons ⟨pe_tup (pa_cons (pv 2) (pa_cons (pe_tup (pa_cons pe_str (pa_cons pe_bl pa_nil))) pa_nil))⟩ bxa_nil)))))))
theorem bd_der (A1 : Df P w K mg base CX0 2 "_law_pull" ["_law_state", "_law_many"] (spPull T) a1 d1) (ml : mg "list" = none) (mn : mg "len" = none) (hr : Room 2 (A.deeper (PyProof.Rows.envOfC "_law_bad" (defScope sBd) s.heap.objs.size f cdv))) : Bx (PSs (cxOf CX0 P w K mg base NBd "_law_bad" (defScope sBd) f cdv A outer s H E).nox (defBody sBd) (tSeq (tBd0 K) (tSeq (tBd1 K) (tSeq tBd2 (tBd3 K T))))) := by
  have nd := scBd.nd
  exact bxs_cons ⟨ps_asg (pv 1) (pg_tup rfl (pgs_cons (pg_name (i := 2) nd rfl (Or.inl rfl)) (pgs_cons (pg_name (i := 3) nd rfl (Or.inl rfl)) pgs_nil)))⟩ (bxs_cons (bd_1 ml) (bxs_cons bd_2
    (bxs_one ⟨ps_ret (pe_ix ix_list (pv 4) (pe_call A1.G hr rfl A1.m A1.kp A1.b .nil pass0 (pa_cons (pv 0) (pa_cons (pe_callB call_len_seq rfl mn PySem.boot_len (pa_cons (pv 4) pa_nil)) pa_nil))) plainCall)⟩)))
section
variable {De : Ends} {u : TS} {σ : St} {ps : List Addr} {p a : Addr} {u1 u2 : V} {r : Rw}
theorem rd_b0 (ha : H a = some (.tup [u1, u2])) (k : u De [some (.ref p), some (.ref a), some u1, some u2, none] H) : tSeq (tBd0 K) u De [some (.ref p), some (.ref a), none, none, none] H :=
  ⟨_, rfl, a, _, rfl, SqT.of ha, rfl, _, _, rfl, _, _, rfl, rfl, k⟩
theorem rd_b1 (ok : OkS T ps p H) (g : GNs T ps p H σ (tBdA K) (bdA r)) (k : ∀ l vs H', Ext H H' → H' l = some (.lst vs) → RdsAll (nt H' ps) vs (bdA r) → u De (σ.set 4 (some (.ref l))) H') : tSeq (tBd1 K) u De σ H :=
  rd_set (te := tLst (tBdA K)) (i := 4) (g.use ok (Ext.refl _) (by show 10 ≤ sizeLine; decide) k)
theorem rd_b2 {H0 : Hp} {l : Addr} {vs : List V} (s4 : σ[4]? = some (some (.ref l))) (el : H l = some (.lst vs)) (lv : vs.length = 10) (ok : OkS T ps p H) (x : Ext H0 H) (g : GNs T ps p H0 σ tBdB (bdB r)) (k : ∀ l' ws H', Ext H H' → H l' = none → H' l' = some (.lst (vs ++ ws)) → RdsAll (nt H' ps) ws (bdB r) → u De (σ.set 4 (some (.ref l'))) H') : tSeq tBd2 u De σ H := by
  refine rd_set (te := tOp rCat (tVar 4) (tLst tBdB)) (i := 4) (rd_op ⟨_, s4, g.use ok x (by show 5 ≤ sizeLine; decide) fun l2 ws H2 x2 el2 rs2 => ?_⟩)
  have lw : ws.length = 5 := rs2.length
  refine ⟨l, l2, vs, ws, rfl, rfl, x2 _ _ el, el2, Nat.le_trans (m := 15) (by omega) (by decide), fun l3 n3 => ?_⟩
  have x3 := Ext.new (o := .lst (vs ++ ws)) n3
  refine k l3 ws _ (x2.trans x3) ?_ upd_same (rs2.mono (nt_x x3 ok.mem))
  cases e : H l3 with
  | none => rfl
  | some o => rw [x2 _ _ e] at n3; cases n3
theorem rd_b3 {l : Addr} {xs : List V} {Q : VK} (s0 : σ[0]? = some (some (.ref p))) (s4 : σ[4]? = some (some (.ref l))) (el : H l = some (.lst xs)) (lx : xs.length = 15) (nl : l ≠ p) (ok : OkS T ps p H) (k : ∀ (i : Nat) v H', xs[i]? = some v → OkS T ps p H' → Kept H H' p → Q v H') : tBd3 K T ⟨fun _ H' => Q .non H', Q, fun _ _ => False, fun _ _ => False⟩ σ H := by
  refine ⟨_, s4, _, s0, _, s4, l, _, rfl, .inl (SqL.of el), ps, p, _, rfl, ok, by rw [lx]; decide, by rw [lx]; decide, fun j H4 k0 k1 ok4 kp => ?_⟩
  have lk : j.toNat < xs.length := by omega
  have ek : ((j.toNat : Nat) : Int) = j := by omega
  have ea : atI xs j = some xs[j.toNat] := by
    have := atI_nat (List.getElem?_eq_getElem lk)
    rwa [ek] at this
  exact ⟨l, _, j, _, rfl, rfl, SqL.of (kp _ _ el nl), ea, k _ _ H4 (List.getElem?_eq_getElem lk) ok4 kp⟩
end
theorem ok_Bd (F : Fun K "_law_bad" "_law_bad" sBd f fd) (A1 : Df P w K mg base CX0 2 "_law_pull" ["_law_state", "_law_many"] (spPull T) a1 d1) (ml : mg "list" = none) (mn : mg "len" = none) : FnOk P w K mg base CX0 3 f fd ["_law_state", "_law_row"] (spBd T) := by
  refine F.ok scBd (fun vs H Q E h => ?_) (fun cdv A outer s H vs Q E hr h => ?_)
  · obtain ⟨_, _, _, _, rfl, _⟩ := h
    rfl
  obtain ⟨ps, p, v, r, rfl, ok, rv, q⟩ := h
  refine okBxL (bd_der A1 ml mn hr) ⟨?_⟩
  obtain ⟨a, u1, u2, rfl, ha, o1, o2⟩ := id rv
  have rr : Rds (nt H ps) (.ref a) (.tuple [ocD r.1, ocD r.2]) := .tup ha (.cons o1.rds (.cons o2.rds .nil))
  refine rd_b0 (nt_of ha).2.1 (rd_b1 (r := r) ok (g_bdA rfl rfl rfl rr o1.rds o2.rds) fun l vs H1 x1 el rs => ?_)
  have ok1 := ok.ext x1
  refine rd_b2 (H0 := H) (r := r) rfl el rs.length ok1 x1 (g_bdB rfl rfl o1.rds o2.rds) fun l3 ws H3 x3 n3 el3 rs3 => ?_
  have ok3 := ok1.ext x3
  have nl : l3 ≠ p := fun z => by obtain ⟨_, _, _, e, _⟩ := ok1.bx.ex; rw [← z, n3] at e; cases e
  have ra : RdsAll (nt H3 ps) (vs ++ ws) (bdA r ++ bdB r) := rdsApp rs3 (rs.mono (nt_x x3 ok.mem))
  refine rd_b3 rfl rfl el3 (by rw [ra.length]; rfl) nl ok3 fun i v H4 ev ok4 kp => ?_
  obtain ⟨d, ed, rd⟩ := ra.get ev
  exact q v d H4 ok4 ((x1.gr p).trans ((x3.gr p).trans kp.gr)) (rd.mono (kp.gr.nt ok.mem)) (bd_bad r d (List.mem_of_getElem? ed))
end
end My
set_option Elab.async false
set_option linter.all false
set_option maxRecDepth 100000
set_option maxHeartbeats 1000000
namespace My
open PySem PySem.W L2
structure KitO (K : Frag) (mg : Str → Option Value) (D CN CD CO CW : Addr) : Prop where
  T : IsT K
  cat : Catch K D
  mD : mg "DealError" = some (.ref D)
  mN : mg "NoNumber" = some (.ref CN)
  mDl : mg "NoDealing" = some (.ref CD)
  mO : mg "NoOutcome" = some (.ref CO)
  mW : mg "NoWorld" = some (.ref CW)
  flN : FldOk K CN "found"
  flD : FldOk K CD "found"
  flW : FldOk K CW "place"
  roN : mroIn K CN (.ref D) = some true
  roD : mroIn K CD (.ref D) = some true
  roW : mroIn K CW (.ref D) = some true
  kN1 : kitOne K (.ref CN) (.ref CN) = some true
  kN2 : kitAny K (.ref CN) [.ref CD, .ref CO, .ref CW] = some false
  kD1 : kitOne K (.ref CD) (.ref CN) = some false
  kD2 : kitOne K (.ref CD) (.ref CD) = some true
  kD3 : kitAny K (.ref CD) [.ref CO, .ref CW] = some false
  kW1 : kitOne K (.ref CW) (.ref CN) = some false
  kW2 : kitOne K (.ref CW) (.ref CD) = some false
  kW3 : kitOne K (.ref CW) (.ref CW) = some true
  kW4 : kitOne K (.ref CW) (.ref CO) = some false
def tIsC (K : Frag) (c : Addr) : TE := tCB (rIsT1 K) (tCons (tVar 4) (tCons (tC (.ref c)) tNil))
def tIs2 (K : Frag) (c1 c2 : Addr) : TE := tCB (rIsTn K) (tCons (tVar 4) (tCons (tTup (tCons (tC (.ref c1)) (tCons (tC (.ref c2)) tNil))) tNil))
def tIs3 (K : Frag) (c1 c2 c3 : Addr) : TE := tCB (rIsTn K) (tCons (tVar 4) (tCons (tTup (tCons (tC (.ref c1)) (tCons (tC (.ref c2)) (tCons (tC (.ref c3)) tNil)))) tNil))
def tTold (K : Frag) (wd fld : Str) : TS := tAsg (tTup (tCons (tC (.str wd)) (tCons (tErrFT K (tVar 4) fld) tNil))) (gName 3)
def thRl (K : Frag) (CN CD CO CW : Addr) : TS := tSeq (tAsg (tTup (tCons (tC (.str "other")) (tCons (tC .non) tNil))) (gName 3))
  (tIfS (tAnd (tB (tIsC K CN)) (tNot (tB (tIs3 K CD CO CW)))) (tTold K "number" "found") (tIfS (tAnd (tB (tIsC K CD)) (tNot (tB (tIs2 K CO CW)))) (tTold K "dealing" "found") (tIfS (tAnd (tB (tIsC K CW)) (tNot (tB (tIsC K CO)))) (tTold K "world" "place") tNext)))
section
variable {K : Frag} {σ : St} {H : Hp} {e C dx c c1 c2 c3 : Addr} {fs : List (Str × V)} {b : Bool} {Q : Bool → Hp → Prop}
theorem rd_isC (s4 : σ[4]? = some (some (.ref e))) (fe : H e = some (ErrT e C (some dx))) (fx : H dx = some (.xd fs)) (it : ErrI K C) (k : kitOne K (.ref C) (.ref c) = some b) (q : Q b H) : tB (tIsC K c) σ H Q :=
  ⟨_, s4, e, C, dx, _, _, _, rfl, fe, fx, it, .inl ⟨_, rfl⟩, k, _, rfl, q⟩
theorem rd_is2 (s4 : σ[4]? = some (some (.ref e))) (fe : H e = some (ErrT e C (some dx))) (fx : H dx = some (.xd fs)) (it : ErrI K C) (k : kitAny K (.ref C) [.ref c1, .ref c2] = some b) (q : ∀ H', Ext H H' → Q b H') : tB (tIs2 K c1 c2) σ H Q :=
  ⟨_, s4, (by show 2 ≤ sizeLine; decide), fun l hl => ⟨e, C, dx, _, l, [c1, c2], _, rfl, Ext.new hl _ _ fe, Ext.new hl _ _ fx, it, upd_same, k, _, rfl, q _ (Ext.new hl)⟩⟩
theorem rd_is3 (s4 : σ[4]? = some (some (.ref e))) (fe : H e = some (ErrT e C (some dx))) (fx : H dx = some (.xd fs)) (it : ErrI K C) (k : kitAny K (.ref C) [.ref c1, .ref c2, .ref c3] = some b) (q : ∀ H', Ext H H' → Q b H') : tB (tIs3 K c1 c2 c3) σ H Q :=
  ⟨_, s4, (by show 3 ≤ sizeLine; decide), fun l hl => ⟨e, C, dx, _, l, [c1, c2, c3], _, rfl, Ext.new hl _ _ fe, Ext.new hl _ _ fx, it, upd_same, k, _, rfl, q _ (Ext.new hl)⟩⟩
theorem rd_told {wd fld : Str} {x : V} {De : Ends} (s4 : σ[4]? = some (some (.ref e))) (fe : H e = some (ErrT e C (some dx))) (fx : H dx = some (.xd [(fld, x)])) (fl : FldOk K C fld) (q : ∀ a H', Ext H H' → H' a = some (.tup [.str wd, x]) → De.nx (σ.set 3 (some (.ref a))) H') : tTold K wd fld De σ H := by
  refine ⟨_, s4, e, C, dx, _, x, rfl, fe, fx, by simp [List.lookup], fl.it, fl.hd, fl.nf, (by show 2 ≤ sizeLine; decide), fun l hl => q l _ (Ext.new hl) upd_same⟩
end
section
variable {K : Frag} {mg : Str → Option Value} {D CN CD CO CW e dx : Addr} {H : Hp} {De : Ends} {x0 x1 x2 x3 : Option V} {v : V}
theorem rd_oth {u : TS} {C : Addr} {fld : Str} (fe : H e = some (ErrT e C (some dx))) (fx : H dx = some (.xd [(fld, v)])) (k : ∀ l H2, Ext H H2 → H2 e = some (ErrT e C (some dx)) → H2 dx = some (.xd [(fld, v)]) → u De [x0, x1, x2, some (.ref l), some (.ref e)] H2) : tSeq (tAsg (tTup (tCons (tC (.str "other")) (tCons (tC .non) tNil))) (gName 3)) u De [x0, x1, x2, x3, some (.ref e)] H :=
  ⟨(by show 2 ≤ sizeLine; decide), fun l hl => k l _ (Ext.new hl) (Ext.new hl _ _ fe) (Ext.new hl _ _ fx)⟩
theorem rd_thN (Z : KitO K mg D CN CD CO CW) (fe : H e = some (ErrT e CN (some dx))) (fx : H dx = some (.xd [("found", v)])) (k : ∀ a H', Ext H H' → H' a = some (.tup [.str "number", v]) → De.nx [x0, x1, x2, some (.ref a), some (.ref e)] H') : thRl K CN CD CO CW De [x0, x1, x2, x3, some (.ref e)] H := by
  unfold thRl
  refine rd_oth fe fx fun l H2 y2 fe2 fx2 => rd_isC rfl fe2 fx2 Z.flN.it Z.kN1 (itT (rd_is3 rfl fe2 fx2 Z.flN.it Z.kN2 fun H3 y3 => itT (rd_told rfl (y3 _ _ fe2) (y3 _ _ fx2) Z.flN fun a H4 y4 ea => k a H4 (y2.trans (y3.trans y4)) ea)))
theorem rd_thD (Z : KitO K mg D CN CD CO CW) (fe : H e = some (ErrT e CD (some dx))) (fx : H dx = some (.xd [("found", v)])) (k : ∀ a H', Ext H H' → H' a = some (.tup [.str "dealing", v]) → De.nx [x0, x1, x2, some (.ref a), some (.ref e)] H') : thRl K CN CD CO CW De [x0, x1, x2, x3, some (.ref e)] H := by
  unfold thRl
  refine rd_oth fe fx fun l H2 y2 fe2 fx2 => rd_isC rfl fe2 fx2 Z.flD.it Z.kD1 (itF (itF (rd_isC rfl fe2 fx2 Z.flD.it Z.kD2 (itT (rd_is2 rfl fe2 fx2 Z.flD.it Z.kD3 fun H3 y3 => itT (rd_told rfl (y3 _ _ fe2) (y3 _ _ fx2) Z.flD fun a H4 y4 ea => k a H4 (y2.trans (y3.trans y4)) ea))))))
theorem rd_thW (Z : KitO K mg D CN CD CO CW) (fe : H e = some (ErrT e CW (some dx))) (fx : H dx = some (.xd [("place", v)])) (k : ∀ a H', Ext H H' → H' a = some (.tup [.str "world", v]) → De.nx [x0, x1, x2, some (.ref a), some (.ref e)] H') : thRl K CN CD CO CW De [x0, x1, x2, x3, some (.ref e)] H := by
  unfold thRl
  refine rd_oth fe fx fun l H2 y2 fe2 fx2 => rd_isC rfl fe2 fx2 Z.flW.it Z.kW1 (itF (itF (rd_isC rfl fe2 fx2 Z.flW.it Z.kW2 (itF (itF (rd_isC rfl fe2 fx2 Z.flW.it Z.kW3 (itT (rd_isC rfl fe2 fx2 Z.flW.it Z.kW4 (itT (rd_told rfl fe2 fx2 Z.flW fun a H4 y4 ea => k a H4 (y2.trans y4) ea))))))))))
end
section
variable {P : Program} {w : World} {K : Frag} {mg : Str → Option Value} {base : Heap} {D CN CD CO CW : Addr}
abbrev sRl : Stmt := top 32
abbrev NRl : List Str := ["_law_folk", "_law_world", "_law_dealing", "_law_told", "e"]
def RflQ (H : Hp) (wd : Str) (x : V) (Q : VK) : Prop := ∀ a H', Ext H H' → H' a = some (.tup [.str wd, x]) → Q (.ref a) H'
def spRl : Sp := fun vs H Q _ => ∃ (x y : V) (dx dy : PyData) (fw : Addr) (tot : Bool) (ws : List V) (ds : Nat → PyData), vs = [x, .ref fw, y] ∧ Rds H x dx ∧ Rds H y dy ∧ Wd tot H fw ws ∧
  ((inD 1 20 dx = false ∧ RflQ H "number" x Q) ∨ ∃ n : Nat, x = .int (n : Int) ∧ 1 ≤ n ∧ n ≤ 20 ∧ ((inD 0 (2 ^ n - 1) dy = false ∧ RflQ H "dealing" y Q) ∨
    ∃ m : Int, y = .int m ∧ inD 0 (2 ^ n - 1) dy = true ∧ (tot = false → n ≤ ws.length) ∧ (∀ i, i < n → Rds H (tellW ws i) (ds i)) ∧ ∃ i, i < n ∧ (∀ j, j < i → goodD (ds j) = true) ∧ goodD (ds i) = false ∧ RflQ H "world" (.int (i : Int)) Q))
theorem scRl : FnScope NRl ["_law_folk", "_law_world", "_law_dealing"] (defScope sRl) := ⟨rfl, rfl, rfl, by decide +kernel, rfl, by decide +kernel, by decide +kernel⟩
def tbRl (CN CD CW : Addr) (E : XK) : TS := tDrop (tCall (spOU CN CD CW) [] E (tCons (tVar 0) (tCons (tVar 1) (tCons (tVar 2) tNil))))
theorem ok_Rl {f g : Addr} {fd gd : FuncData} (F : Fun K "_law_refusal" "_law_refusal" sRl f fd) (Z : KitO K mg D CN CD CO CW) (A1 : Df P w K mg base (CXE P w) 5 "outcomes_under" ["folk", "world", "dealing"] (spOU CN CD CW) g gd) (mi : mg "isinstance" = none) : FnOk P w K mg base CX0 6 f fd ["_law_folk", "_law_world", "_law_dealing"] spRl := by
  refine F.ok scRl (fun vs H Q E h => ?_) (fun cdv A outer s H vs Q E hr h => ?_)
  · obtain ⟨_, _, _, _, _, _, _, _, rfl, _⟩ := h
    rfl
  obtain ⟨x, y, dx, dy, fw, tot, ws, ds, rfl, rx, ry, wd, q⟩ := h
  have nd := scRl.nd
  refine ⟨_, pss_cons (ps_set (i := 3) nd rfl (Or.inl rfl) pe_non) (pss_cons (ps_try (i := 4) (B := D) (tb := tbRl CN CD CW) (th := thRl K CN CD CO CW) rfl rfl rfl nd rfl rfl Z.cat rfl Z.mD
      (fun σ E pn xe hp => pxs_expr (px_call (E := E) A1.G hr rfl A1.m A1.kp A1.b .nil hp (pxa_of (pa_cons (pv 0) (pa_cons (pv 1) (pa_cons (pv 2) pa_nil))))))
      (fun x => pss_cons (ps_set (i := 3) nd rfl (Or.inl rfl) (pe_tup (pa_cons pe_str (pa_cons pe_non pa_nil))))
        (pss_one (ps_if (PW.pt (pw_and (pt_val (pe_callB (call_isT1 Z.T) rfl mi PyProof.Rows.boot_isinstance (pa_cons (pv 4) (pa_cons (pe_glob (v := .ref CN) rfl Z.mN rfl) pa_nil)))) (pw_and1 (pt_not (pt_val (pe_callB (call_isTn Z.T) rfl mi PyProof.Rows.boot_isinstance (pa_cons (pv 4) (pa_cons (pe_tup (pa_cons (pe_glob (v := .ref CD) rfl Z.mDl rfl) (pa_cons (pe_glob (v := .ref CO) rfl Z.mO rfl) (pa_cons (pe_glob (v := .ref CW) rfl Z.mW rfl) pa_nil)))) pa_nil))))))))
          (pss_one (ps_set (i := 3) nd rfl (Or.inl rfl) (pe_tup (pa_cons pe_str (pa_cons (pe_errFT (pv 4) rfl) pa_nil)))))
          (pss_one (ps_if (PW.pt (pw_and (pt_val (pe_callB (call_isT1 Z.T) rfl mi PyProof.Rows.boot_isinstance (pa_cons (pv 4) (pa_cons (pe_glob (v := .ref CD) rfl Z.mDl rfl) pa_nil)))) (pw_and1 (pt_not (pt_val (pe_callB (call_isTn Z.T) rfl mi PyProof.Rows.boot_isinstance (pa_cons (pv 4) (pa_cons (pe_tup (pa_cons (pe_glob (v := .ref CO) rfl Z.mO rfl) (pa_cons (pe_glob (v := .ref CW) rfl Z.mW rfl) pa_nil))) pa_nil))))))))
            (pss_one (ps_set (i := 3) nd rfl (Or.inl rfl) (pe_tup (pa_cons pe_str (pa_cons (pe_errFT (pv 4) rfl) pa_nil)))))
            (pss_one (ps_if (PW.pt (pw_and (pt_val (pe_callB (call_isT1 Z.T) rfl mi PyProof.Rows.boot_isinstance (pa_cons (pv 4) (pa_cons (pe_glob (v := .ref CW) rfl Z.mW rfl) pa_nil)))) (pw_and1 (pt_not (pt_val (pe_callB (call_isT1 Z.T) rfl mi PyProof.Rows.boot_isinstance (pa_cons (pv 4) (pa_cons (pe_glob (v := .ref CO) rfl Z.mO rfl) pa_nil))))))))
              (pss_one (ps_set (i := 3) nd rfl (Or.inl rfl) (pe_tup (pa_cons pe_str (pa_cons (pe_errFT (pv 4) rfl) pa_nil))))) pss_nil))))))))
    (pss_one (ps_ret (pv 3)))), ?_⟩
  refine ⟨_, rfl, _, rfl, _, rfl, x, y, dx, dy, fw, tot, ws, ds, rfl, rx, ry, wd, ?_⟩
  have isn : ∀ {n : Nat}, x = .int (n : Int) → 1 ≤ n → n ≤ 20 → inD 1 20 dx = true := fun {n} e h1 h2 => by
    subst e
    cases rx
    show (decide ((1 : Int) ≤ (n : Int)) && decide ((n : Int) ≤ 20)) = true
    rw [decide_eq_true (by omega), decide_eq_true (by omega)]
    rfl
  rcases q with ⟨bN, q⟩ | ⟨n, ex, n1, n20, q⟩
  · refine ⟨fun _ => err_at fun e dx' H1 x1 fe fx => ⟨e, CN, rfl, rfl, Z.roN, rd_thN Z fe fx fun a H4 x4 ea => ⟨_, rfl, q a H4 (x1.trans x4) ea⟩⟩, fun n ex h1 h2 => ?_⟩
    rw [isn ex h1 h2] at bN
    cases bN
  · refine ⟨fun b => (by rw [isn ex n1 n20] at b; cases b), fun n' ex' _ _ => ?_⟩
    have en : n' = n := by
      have := ex'.symm.trans ex
      exact Int.ofNat.inj (V.int.inj this)
    subst en
    rcases q with ⟨bD, q⟩ | ⟨m, ey, gD, ht, rd, i, hi, gd, bd, q⟩
    · exact ⟨fun _ => err_at fun e dx' H1 x1 fe fx => ⟨e, CD, rfl, rfl, Z.roD, rd_thD Z fe fx fun a H4 x4 ea => ⟨_, rfl, q a H4 (x1.trans x4) ea⟩⟩, fun m ey _ g => (by rw [bD] at g; cases g)⟩
    · refine ⟨fun b => (by rw [gD] at b; cases b), fun m' ey' _ _ => ⟨ht, rd, fun g => (by rw [g i hi] at bd; cases bd), fun i' hi' gd' bd' H0 x0 => ?_⟩⟩
      have ei : i' = i := by
        rcases Nat.lt_trichotomy i' i with h | h | h
        · rw [gd i' h] at bd'; cases bd'
        · exact h
        · rw [gd' i h] at bd; cases bd
      subst ei
      exact err_at fun e dx' H1 x1 fe fx => ⟨e, CW, rfl, rfl, Z.roW, rd_thW Z fe fx fun a H4 x4 ea => ⟨_, rfl, q a H4 (x0.trans (x1.trans x4)) ea⟩⟩
end
end My
set_option Elab.async false
set_option linter.all false
set_option maxRecDepth 100000
set_option maxHeartbeats 1000000
namespace My
open PySem PySem.W L2
section
variable {K : Frag} {te : TE} {tt : TT} {cap : St} {D : Addr} {H1 : Hp} {Q : Hp → Prop} {a : Addr} {xs : List V}
theorem lcI_lst (p : V → Bool) (hz : xs.length < sizeLine) (h1 : H1 a = some (.lst xs)) (hD : H1 D = none)
    (hs : ∀ (i : Nat) x H, xs[i]? = some x → Ext H1 H → ∀ R : Bool → Hp → Prop, R (p x) H → tt (some x :: cap) H R)
    (hd : ∀ H, Ext H1 H → H D = some (.lst (xs.filter p)) → Q H) :
    ∃ W : Nat → Nat → List V → Hp → Prop, (∃ m, W 0 m [] (upd H1 D (.lst []))) ∧
      ∀ i m ys H2, W i m ys H2 → H2 D = some (.lst ys) ∧ (((Itl K a).stop i H2 ∧ Q H2) ∨ ((Itl K a).go i H2 ∧ ys.length < sizeLine ∧
        ∀ x H3, (Itl K a).yld i H2 x H3 → tt (some x :: cap) H3 fun b H0 => (b = false → ∃ m', m' < m ∧ W (i + 1) m' ys H0) ∧
          (b = true → tVar 0 (some x :: cap) H0 fun y H4 => H4 D = some (.lst ys) ∧ ∃ m', m' < m ∧ W (i + 1) m' (ys ++ [y]) (upd H4 D (.lst (ys ++ [y])))))) := by
  refine ⟨fun i m ys H => m = xs.length - i ∧ i ≤ xs.length ∧ ys.length ≤ i ∧ H D = some (.lst ys) ∧ Ext H1 H ∧ ys = (xs.take i).filter p, ⟨xs.length, by simp, Nat.zero_le _, Nat.le_refl _, upd_same, Ext.new hD, rfl⟩, ?_⟩
  rintro i m ys H ⟨rfl, hi, hy, hD', x', ey⟩
  refine ⟨hD', ?_⟩
  have q : SqL K H a xs := SqL.of (x' _ _ h1)
  by_cases hlt : i < xs.length
  · refine .inr ⟨⟨xs, xs[i], q, by simp [hlt]⟩, by omega, fun x H' y => ?_⟩
    obtain ⟨e, y⟩ := y
    subst e
    have ex := y xs q
    have et : (xs.take (i + 1)).filter p = (xs.take i).filter p ++ (if p x then [x] else []) := by
      rw [take_all ex, List.filter_append, List.filter_cons, List.filter_nil]
    refine hs i x _ ex x' _ ⟨fun b => ⟨xs.length - (i + 1), by omega, rfl, hlt, by omega, hD', x', ?_⟩, fun b => ⟨x, rfl, hD', xs.length - (i + 1), by omega, rfl, hlt, by rw [List.length_append]; show ys.length + 1 ≤ i + 1; omega, upd_same, ext_upd _ x' hD, ?_⟩⟩
    · rw [et, b, ey]; simp
    · rw [et, b, ey]; simp
  · have e : i = xs.length := by omega
    subst e
    rw [List.take_length] at ey
    subst ey
    exact .inl ⟨⟨xs, q, Nat.le_refl _⟩, hd H x' hD'⟩
theorem lcGI_lst (p : V → Bool) (hz : xs.length < sizeLine) (h1 : H1 a = some (.lst xs)) (hD : H1 D = none)
    (hs : ∀ (i : Nat) x H, xs[i]? = some x → Ext H1 H → ∀ R : Bool → Hp → Prop, R (p x) H → tt (some x :: cap) H R)
    (hd : ∀ H, Ext H1 H → H D = some (.lst (xs.filter p)) → Q H) :
    ∃ W : Nat → Nat → List V → Hp → Prop, (∃ m, W 0 m [] (upd H1 D (.lst []))) ∧
      ∀ i m ys H2, W i m ys H2 → H2 D = some (.lst ys) ∧ (((Itl K a).stop i H2 ∧ Q H2) ∨ ((Itl K a).go i H2 ∧ ys.length < sizeLine ∧
        ∀ x H3, (Itl K a).yld i H2 x H3 → ∀ os : St, os.length = 1 → gName 0 x (os ++ cap) H3 fun σ2 H0 => (∃ os' : St, os'.length = 1 ∧ σ2 = os' ++ cap) ∧ tt σ2 H0 fun b H5 => (b = false → ∃ m', m' < m ∧ W (i + 1) m' ys H5) ∧
          (b = true → tVar 0 σ2 H5 fun y H4 => H4 D = some (.lst ys) ∧ ∃ m', m' < m ∧ W (i + 1) m' (ys ++ [y]) (upd H4 D (.lst (ys ++ [y])))))) := by
  obtain ⟨W, w0, turn⟩ := lcI_lst (K := K) (tt := tt) (cap := cap) (D := D) (H1 := H1) (Q := Q) p hz h1 hD hs hd
  refine ⟨W, w0, fun i m ys H2 w => ?_⟩
  obtain ⟨hD2, alt⟩ := turn i m ys H2 w
  refine ⟨hD2, ?_⟩
  rcases alt with a | ⟨go, hl, st⟩
  · exact .inl a
  · refine .inr ⟨go, hl, fun x H3 y os los => ?_⟩
    obtain ⟨o, rfl⟩ : ∃ o, os = [o] := by
      match os, los with
      | [o], _ => exact ⟨o, rfl⟩
    exact ⟨⟨[some x], rfl, rfl⟩, st x H3 y⟩
end
end My
set_option Elab.async false
set_option linter.all false
set_option maxRecDepth 100000
set_option maxHeartbeats 1000000
namespace My
open PySem PySem.W L2
def rNeL (K : Frag) : R2 := fun x y H Q => ∃ p q xs, x = .ref p ∧ y = .ref q ∧ SqL K H p xs ∧ SqL K H q xs ∧ xs.all plainV = true ∧ Q (.bl false) H
theorem op_neL {X : Cx} (hu : X.A.units < cLine) : OpR X (compareOp .NotEq) (rNeL X.K) := by
  intro pins s σ H x y v u Q I rx ry h
  obtain ⟨p, q, xs, rfl, rfl, hp, hq, f, k⟩ := h
  cases rx
  cases ry
  obtain ⟨its, r1, t1, _⟩ := I.list hp
  obtain ⟨jts, r2, t2, _⟩ := I.list hq
  have l1 := r1.length
  have l2 := r2.length
  exact SeqAt.RcNeAt.lists (e := fun _ => true) t1.isList t2.isList (by simp [← l1, ← l2]) hu (all_eqAt r1 r2 f) X.prog X.w X.xe _ ⟨.bl false, H, I, by show Value.bool _ = Value.bool _; simp, k⟩
section
variable {P : Program} {w : World} {K : Frag} {mg : Str → Option Value} {base : Heap} {T : Tbs}
abbrev sRt : Stmt := top 33
abbrev NRt : List Str := ["_law_listing", "_law_folk", "_law_dealing", "_law_world", "_law_due", "_law_left", "_law_k", "_law_turn", "_law_found"]
def spRt (T : Tbs) : Sp := fun vs H Q _ => ∃ ps p l xs rs, ∃ (n : Nat) (m : Int), vs = [.ref l, .int (n : Int), .int m] ∧ OkS T ps p H ∧ nt H ps l = some (.lst xs) ∧ RwsV (nt H ps) xs rs ∧ (∀ r ∈ rs, goodD (rwD r) = true) ∧ rs.length ≤ 20 ∧ 1 ≤ n ∧ n ≤ rs.length ∧ 0 ≤ m ∧ m < 2 ^ n ∧ ∀ H', OkS T ps p H' → Gr p H H' → Q (.bl true) H'
theorem scRt : FnScope NRt ["_law_listing", "_law_folk", "_law_dealing"] (defScope sRt) := ⟨rfl, rfl, rfl, by decide +kernel, rfl, by decide +kernel, by decide +kernel⟩
abbrev scRtC : Scope := { kind := .function, names := [(".0", .local), ("_law_one", .local), ("isinstance", .globalImplicit), ("tuple", .globalImplicit), ("bool", .globalImplicit)], isGenerator := false, isCoroutine := false }
variable {f : Addr} {cdv : Value} {A : Around} {outer : List Env} {s : Shared} {H : Hp} {E : XK}
theorem compRt : CompG (cxOf CX0 P w K mg base NRt "_law_right" (defScope sRt) f cdv A outer s H E).nox scRtC [] ["_law_one"] [] [] :=
  compG0 (L := [(".0", .local), ("_law_one", .local), ("isinstance", .globalImplicit), ("tuple", .globalImplicit), ("bool", .globalImplicit)]) rfl rfl (by decide +kernel) (by decide +kernel) (by decide +kernel) rfl (by decide +kernel) (by decide +kernel)
theorem ndRt : ((["_law_one"] : List Str) ++ ([] : List Str)).Nodup := by decide +kernel
def ttRt (K : Frag) : TT := tOr (tNot (tB (tCB (rIsK K) (tCons (tVar 0) (tCons (tC (.ty "tuple")) tNil))))) (tNot (tB (tCB (rIsK K) (tCons (tOp (rIxT K) (tVar 0) (tC (.int 1))) (tCons (tC (.ty "bool")) tNil)))))
theorem prs_of {G : Hp} : ∀ {xs : List V} {rs : List Rw}, RwsV G xs rs → ∃ prs : List (V × V), Al PrV G xs prs ∧ ∀ (i : Nat) q r, prs[i]? = some q → rs[i]? = some r → OcV G q.1 r.1 ∧ OcV G q.2 r.2 := fun {xs rs} h => by
  have ex : ∀ i : Fin xs.length, ∃ q : V × V, PrV G xs[i] q ∧ ∀ r, rs[i.1]? = some r → OcV G q.1 r.1 ∧ OcV G q.2 r.2 := fun i => by
    obtain ⟨r, er, a, x, y, e, ha, o1, o2⟩ := h.get' (List.getElem?_eq_getElem i.2)
    exact ⟨(x, y), ⟨a, e, ha⟩, fun r' er' => by rw [er] at er'; cases er'; exact ⟨o1, o2⟩⟩
  refine ⟨List.ofFn fun i => Classical.choose (ex i), ⟨by simp, fun i v q h1 h2 => ?_⟩, fun i q r h1 h2 => ?_⟩
  · have li := (List.getElem?_eq_some_iff.mp h1).1
    rw [List.getElem?_eq_getElem li] at h1
    cases h1
    rw [List.getElem?_ofFn, dif_pos li] at h2
    cases h2
    exact (Classical.choose_spec (ex ⟨i, li⟩)).1
  · rw [List.getElem?_ofFn] at h1
    split at h1
    · rename_i li
      cases h1
      exact (Classical.choose_spec (ex ⟨i, li⟩)).2 r h2
    · cases h1
theorem ok_Rt {a1 a2 CN CD CW : Addr} {fd d1 d2 : FuncData} (N : IsT K) (F : Fun K "_law_right" "_law_right" sRt f fd) (A1 : Df P w K mg base CX0 1 "world_of" ["listing"] (spWO T) a1 d1) (A2 : Df P w K mg base (CXE P w) 5 "outcomes_under" ["folk", "world", "dealing"] (spOU CN CD CW) a2 d2) (mr : mg "range" = none) (mi : mg "isinstance" = none) (ml : mg "list" = none) (mt : mg "tuple" = none) (mb : mg "bool" = none) : FnOk P w K mg base CX0 6 f fd ["_law_listing", "_law_folk", "_law_dealing"] (spRt T) := by
  refine F.ok scRt (fun vs H Q E h => ?_) (fun cdv A outer s H vs Q E hr h => ?_)
  · obtain ⟨_, _, _, _, _, _, _, rfl, _⟩ := h
    rfl
  obtain ⟨ps, p, l, xs, rs, n, m, rfl, ok, hl, hrs, good, lr, n1, nr, m0, m1, q⟩ := h
  have nd := scRt.nd
  have hr1 := hr.mono (show 1 ≤ 5 by decide)
  have hu := hr.units0
  refine ⟨_, pss_cons (ps_set (i := 3) nd rfl (Or.inl rfl) (pe_call A1.G hr1 rfl A1.m A1.kp A1.b .nil pass0 (pa_cons (pv 0) pa_nil)))
    (pss_cons (ps_set (i := 4) nd rfl (Or.inl rfl) (pe_lst pa_nil))
    (pss_cons (ps_set (i := 5) nd rfl (Or.inl rfl) (pv 2))
    (pss_cons (ps_for PassesOwn.never rfl (pi_range1 rfl mr (pa_cons (pv 1) pa_nil)) (pg_name (i := 6) nd rfl (Or.inl rfl))
      (pss_cons (ps_expr (pe_bm PySem.F.plainAttrs_list PySem.F.slot_list_append PySem.F.type_list_append mt_append (pv 4) (pa_cons (pe_ix ix_tup (pe_ix ix_list (pv 0) (pv 6) (fun _ _ => rfl)) (pe_op op_sub pe_int (pe_op op_mod (pv 5) pe_int)) (fun _ _ => rfl)) pa_nil)))
      (pss_one (ps_set (i := 5) nd rfl (Or.inl rfl) (pe_op op_fdiv (pv 5) pe_int)))))
    (pss_cons (ps_for PassesOwn.never rfl (pi_range1 rfl mr (pa_cons pe_int pa_nil)) (pg_name (i := 7) nd rfl (Or.inl rfl))
      (pss_cons (ps_set (i := 8) nd rfl (Or.inl rfl) (pe_call A2.G hr rfl A2.m A2.kp A2.b .nil passN (pa_cons (pv 1) (pa_cons (pv 3) (pa_cons (pv 2) pa_nil)))))
      (pss_cons (ps_if (PW.pt (pw_or (pt_not (pt_val (pe_callB (call_isK N) rfl mi PyProof.Rows.boot_isinstance (pa_cons (pv 8) (pa_cons (pe_ty rfl ml PyProof.Rows.boot_list) pa_nil))))) (pw_or1 (pt_cmpR (op_neL hu) (pv 8) (pv 4) (nomark _))))) (pss_one (ps_ret pe_bl)) pss_nil)
      (pss_cons (ps_if (pt_cmpR (op_neNil hu) (pe_lcGI (te := tVar 0) (tt := ttRt K) (g := gName 0) rfl compRt (pi_list (pv 8)) (fun s H C fp => by exact pg_name (i := 0) ndRt rfl (.inl rfl)) (fun s H C' fp => by exact PW.pt (pw_or (pt_not (pt_val (pe_callB (call_isK N) rfl mi PyProof.Rows.boot_isinstance (pa_cons (pv 0) (pa_cons (pe_ty rfl mt PyProof.Rows.boot_tuple) pa_nil))))) (pw_or1 (pt_not (pt_val (pe_callB (call_isK N) rfl mi PyProof.Rows.boot_isinstance (pa_cons (pe_ix ix_tup (pv 0) pe_int (fun _ _ => rfl)) (pa_cons (pe_ty rfl mb PyProof.Rows.boot_bool) pa_nil)))))))) (fun s H C fp => by exact pv 0)) (pe_lst pa_nil) (nomark _)) (pss_one (ps_ret pe_bl)) pss_nil)
      (pss_one (ps_expr (pe_bm0 PySem.F.plainAttrs_list PySem.F.slot_list_clear PySem.F.type_list_clear mt_clear (pv 8))))))))
    (pss_one (ps_ret pe_bl)))))), ?_⟩
  have lx : xs.length = rs.length := hrs.1
  obtain ⟨prs, al, op⟩ := prs_of hrs
  have lp : xs.length = prs.length := al.1
  obtain ⟨nl, el, _⟩ := nt_of hl
  refine ⟨_, rfl, ps, p, l, xs, rfl, ok, el, fun fw H1 ok1 g1 wd => ?_⟩
  refine ⟨(by show 0 ≤ sizeLine; decide), fun du hdu => ?_⟩
  have x2 := Ext.new (o := .lst []) hdu
  have ok2 := ok1.ext x2
  have ndu := ok1.new hdu
  have dup : du ≠ p := fun z => by obtain ⟨_, _, _, e, _⟩ := ok1.bx.ex; rw [← z, hdu] at e; cases e
  refine ⟨_, rfl, _, rfl, _, rfl, by omega, by omega, ?_⟩
  rw [Int.toNat_natCast]
  have pick : ∀ i, i < n → ∃ q, prs[i]? = some q := fun i hi => ⟨prs[i]'(by omega), List.getElem?_eq_getElem (by omega)⟩
  have tk : ∀ {H' : Hp}, Ext H1 H' → ∀ {i : Nat} {v : V} {q : V × V}, xs[i]? = some v → prs[i]? = some q → PrV H' v q := fun {H'} x {i v q} h1 h2 => by
    obtain ⟨a, e, ha⟩ := al.2 i v q h1 h2
    exact ⟨a, e, x _ _ (nt_of ((g1.nt ok.mem) _ _ ha)).2.1⟩
  have hl1 : H1 l = some (.lst xs) := (nt_of ((g1.nt ok.mem) _ _ hl)).2.1
  refine for_range (n := n) (fun i σ H' => Ext H1 H' ∧ H' du = some (.lst ((prs.mapIdx (pickV m)).take i)) ∧ ∃ o6 o7 o8, σ = [some (.ref l), some (.int (n : Int)), some (.int m), some (.ref fw), some (.ref du), some (.int (m / 2 ^ i)), o6, o7, o8]) ⟨x2, by rw [upd_same]; rfl, _, _, _, by simp; rfl⟩ ?_ ?_
  · rintro i σ H' hi ⟨x', ed, o6, o7, o8, rfl⟩
    obtain ⟨q', eq'⟩ := pick i hi
    have li : i < xs.length := by omega
    obtain ⟨a, ea, ha⟩ := tk x' (List.getElem?_eq_getElem li) eq'
    have e0 : (0 + (i : Int)) = ((i : Nat) : Int) := by omega
    have ei : atI [q'.1, q'.2] (1 - m / 2 ^ i % 2) = some (pickV m i q') := by
      unfold pickV
      rcases (show m / 2 ^ i % 2 = 0 ∨ m / 2 ^ i % 2 = 1 by omega) with h | h
      · rw [h]; rfl
      · rw [h]; rfl
    have em : (prs.mapIdx (pickV m))[i]? = some (pickV m i q') := by rw [List.getElem?_mapIdx, eq']; rfl
    refine ⟨_, rfl, .inl ⟨rfl, _, SqL.of ed⟩, _, rfl, _, rfl, l, xs, _, _, rfl, rfl, SqL.of (x' _ _ hl1), by rw [e0]; exact atI_nat (List.getElem?_eq_getElem li), _, rfl, _, _, rfl, rfl, (by show (0 : Int) < 2; decide), _, _, rfl, rfl, a, _, _, _, ea, rfl, SqT.of ha, ei, du, _, _, rfl, rfl, ed, Nat.lt_of_le_of_lt (m := 20) (by rw [List.length_take]; omega) (by decide), ?_⟩
    refine ⟨_, rfl, _, _, rfl, rfl, ⟨(by show (0 : Int) < 2; decide), (by show (2 : Int) < 1073741824; decide)⟩, extU x' hdu, ?_, some (.int (0 + (i : Int))), o7, o8, ?_⟩
    · rw [upd_same, take_snoc em]
    · show [some (V.ref l), some (.int (n : Int)), some (.int m), some (.ref fw), some (.ref du), some (.int (m / 2 ^ i / 2)), some (.int (0 + (i : Int))), o7, o8] = _
      rw [Int.ediv_ediv_of_nonneg (by exact Int.pow_nonneg (by decide)), ← Int.pow_succ]
  · rintro σ H3 ⟨x3, ed, o6, o7, o8, rfl⟩
    have pl : ((prs.mapIdx (pickV m)).take n).all plainV = true := by
      rw [List.all_eq_true]
      intro v hv
      obtain ⟨i, hi⟩ := List.mem_iff_getElem?.mp hv
      rw [List.getElem?_take] at hi
      split at hi
      · rename_i h
        obtain ⟨q', eq'⟩ := pick i h
        rw [List.getElem?_mapIdx, eq'] at hi
        cases hi
        obtain ⟨o1, o2⟩ := op i q' _ eq' (List.getElem?_eq_getElem (show i < rs.length by omega))
        obtain ⟨b1, e1, _⟩ := o1
        obtain ⟨b2, e2, _⟩ := o2
        unfold pickV
        split
        · rw [e1]; rfl
        · rw [e2]; rfl
      · cases hi
    refine ⟨2, rfl, by decide, by decide, for_range (n := 2) (fun i σ H' => Ext H3 H' ∧ ∃ o7 o8, σ = [some (.ref l), some (.int (n : Int)), some (.int m), some (.ref fw), some (.ref du), some (.int (m / 2 ^ n)), o6, o7, o8]) ⟨Ext.refl _, _, _, rfl⟩ ?_ ?_⟩
    · rintro i σ H4 hi ⟨x4, o7, o8, rfl⟩
      have x14 := x3.trans x4
      have wd4 : Wd true H4 fw xs := (wd.ext (nt_ext H1 ps)).ext x14
      have rw4 : ∀ {j : Nat} {v : V} {r : Rw}, xs[j]? = some v → rs[j]? = some r → RwV H4 v r := fun {j v r} h1 h2 => ((hrs.2 j v r h1 h2).tk (g1.nt ok.mem).tk).tk ((nt_ext H1 ps).trans x14).tk
      have tell : ∀ {j : Nat}, j < n → ∃ (v : V) (r : Rw), xs[j]? = some v ∧ rs[j]? = some r ∧ tellW xs j = v := fun {j} hj => by
        have h1 : j < xs.length := by omega
        have h2 : j < rs.length := by omega
        exact ⟨xs[j], rs[j], List.getElem?_eq_getElem h1, List.getElem?_eq_getElem h2, by unfold tellW; rw [List.getElem?_eq_getElem h1]; rfl⟩
      have gd : ∀ j, j < n → goodD (match rs[j]? with | some r => rwD r | none => .none) = true := fun j hj => by
        obtain ⟨v, r, h1, h2, h3⟩ := tell hj
        rw [h2]
        exact good r (List.mem_of_getElem? h2)
      have eP : (prs.take n).mapIdx (pickV m) = (prs.mapIdx (pickV m)).take n := by
        apply List.ext_getElem?
        intro j
        rw [List.getElem?_mapIdx, List.getElem?_take, List.getElem?_take]
        split
        · rw [List.getElem?_mapIdx]
        · rfl
      refine ⟨_, rfl, _, rfl, _, rfl, .int (n : Int), .int m, .int (n : Int), .int m, fw, true, xs, (fun j => match rs[j]? with | some r => rwD r | none => .none), rfl, .int _, .int _, wd4, fun b => ?_, fun n' en _ _ => ⟨fun b => ?_, fun m' em' _ _ => ⟨fun z => (by cases z), fun j hj => ?_, fun _ => ⟨prs.take n, ⟨?_, fun j v r h1 h2 => ?_⟩, fun l' H5 x5 nl' el' => ?_⟩, fun j hj _ bad => ?_⟩⟩⟩
      · have b : (decide ((1 : Int) ≤ (n : Int)) && decide ((n : Int) ≤ 20)) = false := b
        rw [decide_eq_true (by omega), decide_eq_true (by omega)] at b
        cases b
      · have e : n = n' := Int.ofNat.inj (V.int.inj en)
        subst e
        have b : (decide ((0 : Int) ≤ m) && decide (m ≤ 2 ^ n - 1)) = false := b
        rw [decide_eq_true m0, decide_eq_true (by omega)] at b
        cases b
      · have e : n = n' := Int.ofNat.inj (V.int.inj en)
        subst e
        obtain ⟨v, r, h1, h2, h3⟩ := tell hj
        rw [h3]
        show Rds H4 v (match rs[j]? with | some r => rwD r | none => .none)
        rw [h2]
        exact (rw4 h1 h2).rds
      · have e : n = n' := Int.ofNat.inj (V.int.inj en)
        subst e
        rw [List.length_map, List.length_range, List.length_take]
        omega
      · have e : n = n' := Int.ofNat.inj (V.int.inj en)
        subst e
        rw [List.getElem?_take] at h2
        split at h2
        · rename_i hj
          obtain ⟨v', r', h1', h2', h3'⟩ := tell hj
          rw [List.getElem?_map, List.getElem?_range hj] at h1
          cases h1
          rw [h3']
          exact tk x14 h1' h2
        · cases h2
      · have e : m' = m := (V.int.inj em').symm
        subst e
        rw [eP] at el'
        have x35 := x4.trans x5
        have ed5 := x35 _ _ ed
        refine ⟨_, rfl, _, "list", _, _, rfl, .inl (.lst el'), rfl, _, rfl, itF ⟨_, rfl, _, rfl, l', du, _, rfl, rfl, SqL.of el', SqL.of ed5, pl, _, rfl, itF ?_⟩⟩
        refine ⟨_, rfl, l', rfl, ⟨_, SqL.of el'⟩, fun D hD => lcGI_lst (fun _ => false) (Nat.lt_of_le_of_lt (m := 20) (by rw [List.length_take]; omega) (by decide)) el' hD (fun j v H6 ev x6 R r => ?_) fun H6 x6 e6 => ?_⟩
        · rw [List.getElem?_take] at ev
          split at ev
          · rename_i hj
            obtain ⟨q', eq'⟩ := pick j hj
            rw [List.getElem?_mapIdx, eq'] at ev
            cases ev
            obtain ⟨o1, o2⟩ := op j q' _ eq' (List.getElem?_eq_getElem (show j < rs.length by omega))
            obtain ⟨b, o, eb, hb⟩ : ∃ (b : Addr) (o : Oc), pickV m' j q' = .ref b ∧ H6 b = some (.tup [.int o.1, .bl o.2]) := by
              have mv : ∀ {v : V} {o : Oc}, OcV (nt H ps) v o → ∃ b, v = .ref b ∧ H6 b = some (.tup [.int o.1, .bl o.2]) := fun {v o} h => by
                obtain ⟨b, e, hb⟩ := h
                exact ⟨b, e, x6 _ _ (x5 _ _ (x14 _ _ (nt_of ((g1.nt ok.mem) _ _ hb)).2.1))⟩
              unfold pickV
              split
              · obtain ⟨b, e, hb⟩ := mv o1; exact ⟨b, _, e, hb⟩
              · obtain ⟨b, e, hb⟩ := mv o2; exact ⟨b, _, e, hb⟩
            refine ⟨_, rfl, _, "tuple", .type "tuple", true, rfl, (by rw [eb]; exact .inl (.tup hb)), rfl, _, rfl, itF ⟨_, rfl, b, _, _, _, eb, rfl, SqT.of hb, rfl, _, "bool", _, _, rfl, .inl (.bl _), rfl, _, rfl, r⟩⟩
          · cases ev
        · rw [show (List.filter (fun _ => false) (List.take n (List.mapIdx (pickV m') prs))) = [] from List.filter_eq_nil_iff.mpr (fun _ _ => by simp)] at e6
          refine ⟨(by show 0 ≤ sizeLine; decide), fun z hz => ⟨D, z, [], rfl, rfl, SqL.of ((Ext.new hz) _ _ e6), SqL.of upd_same, _, rfl, itF ?_⟩⟩
          have x7 := x6.trans (Ext.new (o := .lst []) hz)
          refine ⟨_, rfl, .inl ⟨rfl, _, SqL.of (x7 _ _ el')⟩, l', _, rfl, rfl, x7 _ _ el', extU (x35.trans x7) ?_, _, _, rfl⟩
          cases e : H3 l' with
          | none => rfl
          | some o => rw [x4 _ _ e] at nl'; cases nl'
      · have e : n = n' := Int.ofNat.inj (V.int.inj en)
        subst e
        rw [gd j hj] at bad
        cases bad
    · rintro σ H4 ⟨x4, o7, o8, rfl⟩
      have x14 := x3.trans x4
      exact q H4 (ok1.ext x14) (g1.trans (x14.gr p))
end
end My
set_option Elab.async false
set_option linter.all false
set_option maxRecDepth 100000
set_option maxHeartbeats 1000000
namespace My
open PySem PySem.W L2
open PyProof.Rows (envOfC)
def rNeTs (K : Frag) : R2 := fun x y H Q => ∃ p q xs, x = .ref p ∧ y = .ref q ∧ SqT K H p xs ∧ SqT K H q xs ∧ xs.all plainV = true ∧ Q (.bl false) H
theorem op_neTs {X : Cx} (hu : X.A.units < cLine) : OpR X (compareOp .NotEq) (rNeTs X.K) := by
  intro pins s σ H x y v u Q I rx ry h
  obtain ⟨p, q, xs, rfl, rfl, hp, hq, f, k⟩ := h
  cases rx
  cases ry
  obtain ⟨its, r1, t1, _⟩ := I.tuple hp
  obtain ⟨jts, r2, t2, _⟩ := I.tuple hq
  have l1 := r1.length
  have l2 := r2.length
  exact SeqAt.RcNeAt.tuples (e := fun _ => true) t1 t2 hu (all_eqAt r1 r2 f) X.prog X.w X.xe _ ⟨.bl false, H, I, by show Value.bool _ = Value.bool _; simp [← l1, ← l2], k⟩
theorem rds_plain {G : Hp} {v : V} {d : PyData} (r : Rds G v d) : plainV v = true := by cases r <;> rfl
theorem FunM.okM {P : Program} {w : World} {K : Frag} {mg : Str → Option Value} {base : Heap} {x qual : Str} {st : Stmt} {f c pl : Addr} {fd : FuncData} {N ps : List Str} {k : Nat} {sp : Sp} (F : FunM K mg base x qual st f fd c pl) (S : FnScope N ps (defScope st)) (len : ∀ vs H Q E, sp vs H Q E → vs.length = ps.length)
    (hbody : ∀ (A : Around) (outer : List Env) (s : Shared) (H : Hp) (vs : List V) (Q : VK) (E : XK), Room k (A.deeper (envOfC qual (defScope st) s.heap.objs.size f (.ref c))) → sp vs H Q E →
      ∃ t, PSs (cxOf CX0 P w K mg base N qual (defScope st) f (.ref c) A outer s H E).nox (defBody st) t ∧ t { nx := fun _ H' => Q .non H', rt := Q } (start N vs) H) : FnOk P w K mg base CX0 (k + 1) f fd ps sp := by
  obtain ⟨oc, od, kV, doc, pm, an, ct, osl, rfl, lk, hcd⟩ := F.ex
  refine fn_of lk hcd S len fun A outer s H vs Q E hr hsp => ?_
  obtain ⟨t, h, q⟩ := hbody A outer s H vs Q E hr hsp
  exact ⟨t, h.nox, q⟩
section
variable {T : Tbs} {ps : List Addr} {p : Addr} {H0 H : Hp} {σ : St} {K : Frag} {ta : TA} {ds : List PyData} {De : Ends} {u : TS} {n : Nat}
def nuD : List PyData := [.int 0, .int 21, .int (-1), .bool true, .none, .str "3", .list [.int 3], .int (10 ^ 29)]
def otD (n : Nat) : List PyData := [.int (2 ^ n), .int (-1), .bool true, .bool false, .none, .str "1", .list [.int 1], .int (10 ^ 29)]
abbrev tPw : TE := tOp (rI CPow fun i j => .int (i ^ j.toNat)) (tC (.int 10)) (tC (.int 29))
abbrev tSh (i : Nat) : TE := tOp (rI CPow fun i j => .int (i * 2 ^ j.toNat)) (tC (.int 1)) (tVar i)
def tNuA : TA := tCons (tC (.int 0)) (tCons (tC (.int 21)) (tCons (tNg 1) (tCons (tC (.bl true)) (tCons (tC .non) (tCons (tC (.str "3")) (tCons (tLst (tCons (tC (.int 3)) tNil)) (tCons tPw tNil)))))))
def tOtA : TA := tCons (tSh 3) (tCons (tNg 1) (tCons (tC (.bl true)) (tCons (tC (.bl false)) (tCons (tC .non) (tCons (tC (.str "1")) (tCons (tLst (tCons (tC (.int 1)) tNil)) (tCons tPw tNil)))))))
theorem GN.pw : GN T ps p H0 σ tPw (.int (10 ^ 29)) := fun H Q _ _ q => ⟨10, 29, rfl, rfl, ⟨by decide, by decide, by decide⟩, q _ H (Ext.refl _) (.int _)⟩
theorem GN.sh {i : Nat} (s : σ[i]? = some (some (.int (n : Int)))) (h : n ≤ 20) : GN T ps p H0 σ (tSh i) (.int (2 ^ n)) := fun H Q _ _ q => by
  refine ⟨_, s, 1, n, rfl, rfl, ⟨by omega, by omega, by decide⟩, ?_⟩
  have e : (1 : Int) * 2 ^ ((n : Int)).toNat = 2 ^ n := by rw [Int.one_mul]; rfl
  show Q (.int ((1 : Int) * 2 ^ ((n : Int)).toNat)) H
  rw [e]
  exact q _ H (Ext.refl _) (.int _)
theorem g_nu : GNs T ps p H0 σ tNuA nuD := .cons (.int 0) (.cons (.int 21) (.cons (.neg 1) (.cons (.bl true) (.cons .non (.cons (.str "3") (.cons (.lst (.cons (.int 3) .nil) (by show 1 ≤ sizeLine; decide)) (.cons .pw .nil)))))))
theorem g_ot (s : σ[3]? = some (some (.int (n : Int)))) (h : n ≤ 20) : GNs T ps p H0 σ tOtA (otD n) := .cons (.sh s h) (.cons (.neg 1) (.cons (.bl true) (.cons (.bl false) (.cons .non (.cons (.str "1") (.cons (.lst (.cons (.int 1) .nil) (by show 1 ≤ sizeLine; decide)) (.cons .pw .nil)))))))
theorem nu_bad : ∀ d ∈ nuD, inD 1 20 d = false := by decide +kernel
theorem ot_bad (h : n ≤ 20) : ∀ d ∈ otD n, inD 0 (2 ^ n - 1) d = false := by
  intro d hd
  have h2 : (2 : Int) ^ n ≤ 2 ^ 20 := by
    exact_mod_cast Nat.pow_le_pow_right (by decide) h
  simp only [otD, List.mem_cons, List.not_mem_nil, or_false] at hd
  rcases hd with rfl | rfl | rfl | rfl | rfl | rfl | rfl | rfl
  · show (decide ((0 : Int) ≤ 2 ^ n) && decide ((2 : Int) ^ n ≤ 2 ^ n - 1)) = false
    rw [decide_eq_false (p := (2 : Int) ^ n ≤ 2 ^ n - 1) (by omega), Bool.and_false]
  · rfl
  · rfl
  · rfl
  · rfl
  · rfl
  · rfl
  · show (decide ((0 : Int) ≤ 10 ^ 29) && decide ((10 : Int) ^ 29 ≤ 2 ^ n - 1)) = false
    have e : (10 : Int) ^ 29 = 100000000000000000000000000000 := by decide +kernel
    have e2 : (2 : Int) ^ 20 = 1048576 := by decide +kernel
    rw [decide_eq_false (p := (10 : Int) ^ 29 ≤ 2 ^ n - 1) (by omega), Bool.and_false]
def tDr (K : Frag) (T : Tbs) (ta : TA) (i : Nat) : TS := tAsg (tOp (rIxL K) (tLst ta) (tCall (spPull T) [] E0 (tCons (tVar 0) (tCons (tC (.int 8)) tNil)))) (gName i)
theorem rd_dr {i : Nat} (g : GNs T ps p H σ ta ds) (ok : OkS T ps p H) (ld : ds.length = 8) (s0 : σ[0]? = some (some (.ref p))) (k : ∀ v d H', d ∈ ds → OkS T ps p H' → Gr p H H' → Rds (nt H' ps) v d → u De (σ.set i (some v)) H') : tSeq (tDr K T ta i) u De σ H := by
  refine rd_set (te := tOp (rIxL K) (tLst ta) (tCall (spPull T) [] E0 (tCons (tVar 0) (tCons (tC (.int 8)) tNil)))) (i := i) (rd_op ?_)
  refine g H _ ok (Ext.refl _) fun vs H1 x1 rs => ⟨by rw [rs.length, ld]; decide, fun l hl => ?_⟩
  have x2 := Ext.new (o := .lst vs) hl
  have ok1 := ok.ext x1
  have ok2 := ok1.ext x2
  have nl : l ≠ p := fun z => by obtain ⟨_, _, _, e, _⟩ := ok1.bx.ex; rw [← z, hl] at e; cases e
  refine ⟨_, s0, ps, p, 8, rfl, ok2, by decide, by decide, fun j H3 j0 j1 ok3 k3 => ?_⟩
  have lv : vs.length = 8 := by rw [rs.length, ld]
  have lk : j.toNat < vs.length := by omega
  have ek : ((j.toNat : Nat) : Int) = j := by omega
  have ea : atI vs j = some vs[j.toNat] := by
    have := atI_nat (List.getElem?_eq_getElem lk)
    rwa [ek] at this
  obtain ⟨d, ed, rd⟩ := rs.get (List.getElem?_eq_getElem lk)
  refine ⟨l, vs, j, _, rfl, rfl, SqL.of (k3 _ _ upd_same nl), ea, k _ d H3 (List.mem_of_getElem? ed) ok3 ((x1.gr p).trans ((x2.gr p).trans k3.gr)) ?_⟩
  exact (rd.mono (nt_x x2 ok.mem)).mono (k3.gr.nt ok.mem)
end
end My
set_option Elab.async false
set_option linter.all false
set_option maxRecDepth 100000
set_option maxHeartbeats 2000000
namespace My
open PySem PySem.W L2
open PyProof.Rows (envOfC)
section
variable {P : Program} {w : World} {K : Frag} {mg : Str → Option Value} {base : Heap} {T : Tbs}
abbrev sRd : Stmt := top 34
abbrev NRd : List Str := ["_law_state", "_law_listing", "_law_dealing", "_law_folk", "_law_world", "_law_number", "_law_other", "_law_spoilt", "_law_places", "_law_place"]
theorem scRd : FnScope NRd ["_law_state", "_law_listing", "_law_dealing"] (defScope sRd) := ⟨rfl, rfl, rfl, by decide +kernel, rfl, by decide +kernel, by decide +kernel⟩
def tR0 (K : Frag) : TS := tAsg (tCB (rLen K) (tCons (tVar 1) tNil)) (gName 3)
def tR1 (T : Tbs) : TS := tAsg (tCall (spWO T) [] E0 (tCons (tVar 1) tNil)) (gName 4)
def tRf (a b c : TE) : TE := tCall spRl [] E0 (tCons a (tCons b (tCons c tNil)))
def tFaR : TS := tRet (tC (.bl false))
def tR4 (K : Frag) : TS := tIfS (tTest (tOp (rNeTs K) (tRf (tVar 5) (tVar 4) (tVar 6)) (t2 (tC (.str "number")) (tVar 5)))) tFaR tNext
def tR5 (K : Frag) : TS := tIfS (tTest (tOp (rNeTs K) (tRf (tVar 3) (tVar 4) (tVar 6)) (t2 (tC (.str "dealing")) (tVar 6)))) tFaR tNext
def tR6 (K : Frag) : TS := tIfS (tAnd (tTest (tOp (rI0 fun i j => .bl (decide (i < j))) (tVar 3) (tC (.int 20)))) (tTest (tOp (rNeTs K) (tRf (tOp (rI0 fun i j => .int (i + j)) (tVar 3) (tC (.int 1))) (tVar 4) (tVar 2)) (t2 (tC (.str "world")) (tVar 3))))) tFaR tNext
def tR7 (K : Frag) : TS := tAsg (tCB (rLo K) (tCons (tVar 1) tNil)) (gName 7)
def tPlF (T : Tbs) : TE := tCall (spPull T) [] E0 (tCons (tVar 0) (tCons (tVar 3) tNil))
def tR8 (T : Tbs) : TS := tAsg (tLst (tCons (tPlF T) (tCons (tPlF T) tNil))) (gName 8)
def tR9 (K : Frag) (T : Tbs) : TS := tFor (iList K (tVar 8)) (gName 9) (tAsg (tCall (spBd T) [] E0 (tCons (tVar 0) (tCons (tOp (rIxL K) (tVar 1) (tVar 9)) tNil))) (gSub (tVar 7) (tVar 9) rSetL))
def tLm (c pl : Addr) (al : List (Pos × Str)) (b : Bool) (y : TE) : TE := tCallL c 7 spRl (tCons (tVar 3) (tCons (tLam pl al qL (fun pm ctv c' => fdL b [("_law_spoilt", c)] .none pm ctv c')) (tCons y tNil)))
def tWm (K : Frag) : TE := t2 (tC (.str "world")) (tCB (rMinL K) (tCons (tVar 8) tNil))
def tR10 (K : Frag) (c pl : Addr) (al : List (Pos × Str)) : TS := tIfS (tTest (tOp (rNeTs K) (tLm c pl al true (tVar 2)) (tWm K))) tFaR tNext
def tR11 (K : Frag) (c pl : Addr) (al : List (Pos × Str)) : TS := tRet (tOp (rSameT K) (tLm c pl al false (tOp (rI0 fun i j => .int (i - j)) (tOp (rI0 fun i j => .int (i - j)) (tSh 3) (tC (.int 1))) (tVar 2))) (tWm K))
def tRd (K : Frag) (T : Tbs) (c pl : Addr) (al : List (Pos × Str)) : TS := tSeq (tR0 K) (tSeq (tR1 T) (tSeq (tDr K T tNuA 5) (tSeq (tDr K T tOtA 6) (tSeq (tR4 K) (tSeq (tR5 K) (tSeq (tR6 K) (tSeq (tR7 K) (tSeq (tR8 T) (tSeq (tR9 K T) (tSeq (tR10 K c pl al) (tR11 K c pl al)))))))))))
variable {f cc pl : Addr} {A : Around} {outer : List Env} {s : Shared} {H : Hp} {E : XK} {a1 a2 a3 a4 : Addr} {d1 d2 d3 d4 : FuncData} {al : List (Pos × Str)}
abbrev stRd (i : Nat) : Stmt := (defBody sRd).getD i (.Pass ⟨0, 0, 0, 0⟩)
abbrev cxRd (P : Program) (w : World) (K : Frag) (mg : Str → Option Value) (base : Heap) (f cc : Addr) (A : Around) (outer : List Env) (s : Shared) (H : Hp) (E : XK) : Cx := (cxOf CX0 P w K mg base NRd "_law_refused" (defScope sRd) f (.ref cc) A outer s H E).nox
section
variable (A2 : Df P w K mg base CX0 2 "_law_pull" ["_law_state", "_law_many"] (spPull T) a2 d2) (A3 : Df P w K mg base CX0 6 "_law_refusal" ["_law_folk", "_law_world", "_law_dealing"] spRl a3 d3) (hr : Room 6 (A.deeper (envOfC "_law_refused" (defScope sRd) s.heap.objs.size f (.ref cc))))
include A2 hr in
theorem rd_2 : Bx (PS (cxRd P w K mg base f cc A outer s H E) (stRd 2) (tDr K T tNuA 5)) := by
  have hr2 : Room 2 _ := hr.mono (by decide)
  exact bx_set (i := 5) scRd.nd rfl (Or.inl rfl) ⟨pe_ix ix_list (pe_lst (pa_cons pe_int (pa_cons pe_int (pa_cons (pe_un un_neg pe_int) (pa_cons pe_bl (pa_cons pe_non (pa_cons pe_str (pa_cons (pe_lst (pa_cons pe_int pa_nil)) (pa_cons (pe_op op_pow pe_int pe_int) pa_nil))))))))) (pe_call A2.G hr2 rfl A2.m A2.kp A2.b .nil pass0 (pa_cons (pv 0) (pa_cons pe_int pa_nil))) plainCall⟩
include A2 hr in
theorem rd_3 : Bx (PS (cxRd P w K mg base f cc A outer s H E) (stRd 3) (tDr K T tOtA 6)) := by
  have hr2 : Room 2 _ := hr.mono (by decide)
  exact bx_set (i := 6) scRd.nd rfl (Or.inl rfl) ⟨pe_ix ix_list (pe_lst (pa_cons (pe_op op_shl pe_int (pv 3)) (pa_cons (pe_un un_neg pe_int) (pa_cons pe_bl (pa_cons pe_bl (pa_cons pe_non (pa_cons pe_str (pa_cons (pe_lst (pa_cons pe_int pa_nil)) (pa_cons (pe_op op_pow pe_int pe_int) pa_nil))))))))) (pe_call A2.G hr2 rfl A2.m A2.kp A2.b .nil pass0 (pa_cons (pv 0) (pa_cons pe_int pa_nil))) plainCall⟩
include A3 hr in
theorem rd_4 : Bx (PS (cxRd P w K mg base f cc A outer s H E) (stRd 4) (tR4 K)) :=
  ⟨ps_if (pt_cmpR (op_neTs hr.units0) (pe_call A3.G hr rfl A3.m A3.kp A3.b .nil pass0 (pa_cons (pv 5) (pa_cons (pv 4) (pa_cons (pv 6) pa_nil)))) (pe_tup (pa_cons pe_str (pa_cons (pv 5) pa_nil))) (nomark _)) (pss_one (ps_ret pe_bl)) pss_nil⟩
include A3 hr in
theorem rd_5 : Bx (PS (cxRd P w K mg base f cc A outer s H E) (stRd 5) (tR5 K)) :=
  ⟨ps_if (pt_cmpR (op_neTs hr.units0) (pe_call A3.G hr rfl A3.m A3.kp A3.b .nil pass0 (pa_cons (pv 3) (pa_cons (pv 4) (pa_cons (pv 6) pa_nil)))) (pe_tup (pa_cons pe_str (pa_cons (pv 6) pa_nil))) (nomark _)) (pss_one (ps_ret pe_bl)) pss_nil⟩
include A3 hr in
theorem rd_6 : Bx (PS (cxRd P w K mg base f cc A outer s H E) (stRd 6) (tR6 K)) :=
  ⟨ps_if (PW.pt (pw_and (pt_cmpR op_lt (pv 3) pe_int (nomark _)) (pw_and1 (pt_cmpR (op_neTs hr.units0) (pe_call A3.G hr rfl A3.m A3.kp A3.b .nil pass0 (pa_cons (pe_op op_add (pv 3) pe_int) (pa_cons (pv 4) (pa_cons (pv 2) pa_nil)))) (pe_tup (pa_cons pe_str (pa_cons (pv 3) pa_nil))) (nomark _))))) (pss_one (ps_ret pe_bl)) pss_nil⟩
include A3 hr in
theorem rd_10 (Z : MkK K mg base cc pl) (t1 : TabP al (posL (lamX true)) qL) (mm : mg "min" = none) : Bx (PS (cxRd P w K mg base f cc A outer s H E) (stRd 10) (tR10 K (s.heap.objs.size + 1) pl al)) :=
  ⟨ps_if (pt_cmpR (op_neTs hr.units0) (pe_callL (z := "_law_spoilt") A3.G hr rfl A3.m A3.kp A3.b (pa_cons (pv 3) (pa_cons (pe_lam Z rfl t1 rfl rfl rfl) (pa_cons (pv 2) pa_nil))) rfl rfl rfl rfl) (pe_tup (pa_cons pe_str (pa_cons (pe_callB (call_minL rfl) rfl mm PyProof.Rows.boot_min (pa_cons (pv 8) pa_nil)) pa_nil))) (nomark _)) (pss_one (ps_ret pe_bl)) pss_nil⟩
include A3 hr in
theorem rd_11 (Z : MkK K mg base cc pl) (t2 : TabP al (posL (lamX false)) qL) (mm : mg "min" = none) : Bx (PS (cxRd P w K mg base f cc A outer s H E) (stRd 11) (tR11 K (s.heap.objs.size + 1) pl al)) :=
  ⟨ps_ret (pe_cmpR (op_sameT hr.units0) (pe_callL (z := "_law_spoilt") A3.G hr rfl A3.m A3.kp A3.b (pa_cons (pv 3) (pa_cons (pe_lam Z rfl t2 rfl rfl rfl) (pa_cons (pe_op op_sub (pe_op op_sub (pe_op op_shl pe_int (pv 3)) pe_int) (pv 2)) pa_nil))) rfl rfl rfl rfl) (pe_tup (pa_cons pe_str (pa_cons (pe_callB (call_minL rfl) rfl mm PyProof.Rows.boot_min (pa_cons (pv 8) pa_nil)) pa_nil))) (nomark _))⟩
include A2 A3 hr in
theorem rfd_der (A1 : Df P w K mg base CX0 1 "world_of" ["listing"] (spWO T) a1 d1) (A4 : Df P w K mg base CX0 3 "_law_bad" ["_law_state", "_law_row"] (spBd T) a4 d4) (Z : MkK K mg base cc pl) (t1 : TabP al (posL (lamX true)) qL) (t2 : TabP al (posL (lamX false)) qL) (mm : mg "min" = none) (mn : mg "len" = none) (ml : mg "list" = none) : Bx (PSs (cxRd P w K mg base f cc A outer s H E) (defBody sRd) (tRd K T (s.heap.objs.size + 1) pl al)) := by
  have nd := scRd.nd
  have hr1 : Room 1 _ := hr.mono (by decide)
  have hr2 : Room 2 _ := hr.mono (by decide)
  have hr3 : Room 3 _ := hr.mono (by decide)
  exact bxs_cons ⟨ps_set (i := 3) nd rfl (Or.inl rfl) (pe_callB call_len_seq rfl mn PySem.boot_len (pa_cons (pv 1) pa_nil))⟩ (bxs_cons ⟨ps_set (i := 4) nd rfl (Or.inl rfl) (pe_call A1.G hr1 rfl A1.m A1.kp A1.b .nil pass0 (pa_cons (pv 1) pa_nil))⟩
    (bxs_cons (rd_2 A2 hr) (bxs_cons (rd_3 A2 hr) (bxs_cons (rd_4 A3 hr) (bxs_cons (rd_5 A3 hr) (bxs_cons (rd_6 A3 hr)
    (bxs_cons ⟨ps_set (i := 7) nd rfl (Or.inr rfl) (pe_callTy call_list_of rfl ml PyProof.Rows.boot_list (pa_cons (pv 1) pa_nil))⟩
    (bxs_cons ⟨ps_set (i := 8) nd rfl (Or.inl rfl) (pe_lst (pa_cons (pe_call A2.G hr2 rfl A2.m A2.kp A2.b .nil pass0 (pa_cons (pv 0) (pa_cons (pv 3) pa_nil))) (pa_cons (pe_call A2.G hr2 rfl A2.m A2.kp A2.b .nil pass0 (pa_cons (pv 0) (pa_cons (pv 3) pa_nil))) pa_nil)))⟩
    (bxs_cons ⟨ps_for PassesOwn.never rfl (pi_list (pv 8)) (pg_name (i := 9) nd rfl (Or.inl rfl)) (pss_one (ps_asg (pe_call A4.G hr3 rfl A4.m A4.kp A4.b .nil pass0 (pa_cons (pv 0) (pa_cons (pe_ix ix_list (pv 1) (pv 9) (fun _ _ => rfl)) pa_nil))) (pg_sub (pv 7) (pv 9) set_list)))⟩
    (bxs_cons (rd_10 A3 hr Z t1 mm) (bxs_one (rd_11 A3 hr Z t2 mm))))))))))))
end
end
end My
set_option Elab.async false
set_option linter.all false
set_option maxRecDepth 100000
set_option maxHeartbeats 1000000
namespace My
open PySem PySem.W L2
section
variable {K : Frag} {T : Tbs} {ps : List Addr} {p l : Addr} {H : Hp} {σ : St} {De : Ends} {u : TS} {xs : List V} {n : Nat}
theorem rd_r0 (s1 : σ[1]? = some (some (.ref l))) (hl : H l = some (.lst xs)) (k : u De (σ.set 3 (some (.int (xs.length : Int)))) H) : tSeq (tR0 K) u De σ H :=
  rd_set (te := tCB (rLen K) (tCons (tVar 1) tNil)) (i := 3) ⟨_, s1, l, xs, rfl, .inl (SqL.of hl), k⟩
theorem rd_r1 (s1 : σ[1]? = some (some (.ref l))) (ok : OkS T ps p H) (hl : H l = some (.lst xs)) (k : ∀ f H', OkS T ps p H' → Gr p H H' → Wd true (nt H' ps) f xs → u De (σ.set 4 (some (.ref f))) H') : tSeq (tR1 T) u De σ H :=
  rd_set (te := tCall (spWO T) [] E0 (tCons (tVar 1) tNil)) (i := 4) ⟨_, s1, ps, p, l, xs, rfl, ok, hl, k⟩
theorem rd_ne {t : TE} {wd : Str} {x : V} {j : Nat} (hx : plainV x = true) (sj : σ[j]? = some (some x)) (ht : ∀ R : VK, (∀ a H', Ext H H' → H' a = some (.tup [.str wd, x]) → R (.ref a) H') → t σ H R) (k : ∀ H', Ext H H' → u De σ H') : tSeq (tIfS (tTest (tOp (rNeTs K) t (t2 (tC (.str wd)) (tVar j)))) tFaR tNext) u De σ H := by
  refine ht _ fun a H1 x1 ea => ⟨_, sj, (by show 2 ≤ sizeLine; decide), fun b hb => ?_⟩
  have x2 := Ext.new (o := .tup [.str wd, x]) hb
  exact ⟨a, b, [.str wd, x], rfl, rfl, SqT.of (x2 _ _ ea), SqT.of upd_same, by simp only [List.all_cons, List.all_nil, hx]; rfl, _, rfl, itF (k _ (x1.trans x2))⟩
variable {fw : Addr} {ds : Nat → PyData}
theorem rd_r4 {x y : V} {dx dy : PyData} (s5 : σ[5]? = some (some x)) (s4 : σ[4]? = some (some (.ref fw))) (s6 : σ[6]? = some (some y)) (rx : Rds H x dx) (ry : Rds H y dy) (wd : Wd true H fw xs) (bad : inD 1 20 dx = false) (k : ∀ H', Ext H H' → u De σ H') : tSeq (tR4 K) u De σ H :=
  rd_ne (t := tRf (tVar 5) (tVar 4) (tVar 6)) (rds_plain rx) s5 (fun R r => ⟨_, s5, _, s4, _, s6, x, y, dx, dy, fw, true, xs, fun _ => .none, rfl, rx, ry, wd, .inl ⟨bad, r⟩⟩) k
theorem rd_r5 {y : V} {dy : PyData} (n1 : 1 ≤ n) (n20 : n ≤ 20) (s3 : σ[3]? = some (some (.int (n : Int)))) (s4 : σ[4]? = some (some (.ref fw))) (s6 : σ[6]? = some (some y)) (ry : Rds H y dy) (wd : Wd true H fw xs) (bad : inD 0 (2 ^ n - 1) dy = false) (k : ∀ H', Ext H H' → u De σ H') : tSeq (tR5 K) u De σ H :=
  rd_ne (t := tRf (tVar 3) (tVar 4) (tVar 6)) (rds_plain ry) s6 (fun R r => ⟨_, s3, _, s4, _, s6, .int (n : Int), y, .int (n : Int), dy, fw, true, xs, fun _ => .none, rfl, .int _, ry, wd, .inr ⟨n, rfl, n1, n20, .inl ⟨bad, r⟩⟩⟩) k
theorem in_hands {m : Int} {n : Nat} (h0 : 0 ≤ m) (h1 : m < 2 ^ n) : inD 0 (2 ^ n - 1) (.int m) = true := by
  show (decide ((0 : Int) ≤ m) && decide (m ≤ 2 ^ n - 1)) = true
  rw [decide_eq_true h0, decide_eq_true (by omega)]
  rfl
theorem rd_r6 {m : Int} (n1 : 1 ≤ n) (n20 : n ≤ 20) (m0 : 0 ≤ m) (m1 : m < 2 ^ n) (lx : xs.length = n) (s2 : σ[2]? = some (some (.int m))) (s3 : σ[3]? = some (some (.int (n : Int)))) (s4 : σ[4]? = some (some (.ref fw))) (wd : Wd true H fw xs) (rd : ∀ i, i < n → Rds H (tellW xs i) (ds i)) (good : ∀ i, i < n → goodD (ds i) = true) (k : ∀ H', Ext H H' → u De σ H') : tSeq (tR6 K) u De σ H := by
  refine ⟨_, s3, _, _, rfl, rfl, _, rfl, ?_⟩
  refine ite2 (fun c => ?_) (fun c => itF (k H (Ext.refl _)))
  have c' : (n : Int) < 20 := of_decide_eq_true c
  have m2 : m < 2 ^ (n + 1) := by
    have : (2 : Int) ^ (n + 1) = 2 ^ n * 2 := Int.pow_succ ..
    omega
  refine ⟨_, s3, _, _, rfl, rfl, _, s4, _, s2, .int ((n + 1 : Nat) : Int), .int m, .int ((n + 1 : Nat) : Int), .int m, fw, true, xs, (fun i => if i < n then ds i else .none), rfl, .int _, .int _, wd, .inr ⟨n + 1, rfl, by omega, by omega, .inr ⟨m, rfl, in_hands m0 m2, (fun z => by cases z), fun i hi => ?_, n, by omega, fun j hj => ?_, ?_, fun a H1 x1 ea => ?_⟩⟩⟩
  · show Rds H (tellW xs i) (if i < n then ds i else .none)
    by_cases h : i < n
    · rw [if_pos h]; exact rd i h
    · rw [if_neg h]
      have e : tellW xs i = .non := by unfold tellW; rw [List.getElem?_eq_none (by omega)]; rfl
      rw [e]
      exact .non
  · show goodD (if j < n then ds j else .none) = true
    rw [if_pos hj]; exact good j hj
  · show goodD (if n < n then ds n else .none) = false
    rw [if_neg (Nat.lt_irrefl n)]; rfl
  · refine ⟨_, s3, (by show 2 ≤ sizeLine; decide), fun b hb => ?_⟩
    have x2 := Ext.new (o := .tup [.str "world", .int (n : Int)]) hb
    exact ⟨a, b, [.str "world", .int (n : Int)], rfl, rfl, SqT.of (x2 _ _ ea), SqT.of upd_same, rfl, _, rfl, itF (k _ (x1.trans x2))⟩
theorem rd_r7 (s1 : σ[1]? = some (some (.ref l))) (hl : H l = some (.lst xs)) (k : ∀ sp, H sp = none → u De (σ.set 7 (some (.ref sp))) (upd H sp (.lst xs))) : tSeq (tR7 K) u De σ H :=
  rd_set (te := tCB (rLo K) (tCons (tVar 1) tNil)) (i := 7) ⟨_, s1, l, xs, rfl, .inl (SqL.of hl), k⟩
theorem rd_r8 (n1 : 1 ≤ n) (n20 : n ≤ 20) (s0 : σ[0]? = some (some (.ref p))) (s3 : σ[3]? = some (some (.int (n : Int)))) (ok : OkS T ps p H) (k : ∀ (q8 : Addr) (r1 r2 : Nat) (H' : Hp), r1 < n → r2 < n → OkS T ps p H' → Gr p H H' → H' q8 = some (.lst [.int (r1 : Int), .int (r2 : Int)]) → H q8 = none → u De (σ.set 8 (some (.ref q8))) H') : tSeq (tR8 T) u De σ H := by
  refine rd_set (te := tLst (tCons (tPlF T) (tCons (tPlF T) tNil))) (i := 8) ?_
  refine ⟨_, s0, _, s3, ps, p, n, rfl, ok, by omega, by omega, fun r1 H1 a0 a1 ok1 k1 => ⟨_, s0, _, s3, ps, p, n, rfl, ok1, by omega, by omega, fun r2 H2 b0 b1 ok2 k2 => ⟨(by show 2 ≤ sizeLine; decide), fun q8 hq => ?_⟩⟩⟩
  obtain ⟨r1, rfl⟩ := Int.eq_ofNat_of_zero_le a0
  obtain ⟨r2, rfl⟩ := Int.eq_ofNat_of_zero_le b0
  have x3 := Ext.new (o := .lst [.int ((r1 : Nat) : Int), .int ((r2 : Nat) : Int)]) hq
  refine k q8 r1 r2 _ (by omega) (by omega) (ok2.ext x3) (k1.gr.trans (k2.gr.trans (x3.gr p))) upd_same ?_
  have np : q8 ≠ p := fun z => by obtain ⟨_, _, _, e, _⟩ := ok2.bx.ex; rw [← z, hq] at e; cases e
  cases e : H q8 with
  | none => rfl
  | some o =>
    have := k2 _ _ (k1 _ _ e np) np
    rw [hq] at this
    cases this
end
end My
set_option Elab.async false
set_option linter.all false
set_option maxRecDepth 100000
set_option maxHeartbeats 1000000
namespace My
open PySem PySem.W L2
open PyProof.Rows (envOfC)
structure Spl (T : Tbs) (ps : List Addr) (p sp : Addr) (n : Nat) (bs : List Nat) (H : Hp) : Prop where
  ok : OkS T (sp :: ps) p H
  ex : ∃ (ws : List V) (ds : Nat → PyData), H sp = some (.lst ws) ∧ ws.length = n ∧ (∀ j, j < n → Rds (nt H (sp :: ps)) (tellW ws j) (ds j)) ∧ (∀ j, j < n → j ∉ bs → goodD (ds j) = true) ∧ ∀ j, j < n → j ∈ bs → goodD (ds j) = false
section
variable {K : Frag} {T : Tbs} {ps : List Addr} {p l sp q8 : Addr} {H H0 : Hp} {De : Ends} {u : TS} {xs : List V} {rs : List Rw} {n r1 r2 : Nat}
theorem Spl.put {bs : List Nat} {r : Nat} {v : V} {d : PyData} (S : Spl T ps p sp n bs H) (hr : r < n) (rv : Rds (nt H (sp :: ps)) v d) (b : goodD d = false) (np : sp ≠ p) : ∃ ws, H sp = some (.lst ws) ∧ ws.length = n ∧ Spl T ps p sp n (bs ++ [r]) (upd H sp (.lst (ws.set r v))) := by
  obtain ⟨ws, ds, e, lw, rd, g, bd⟩ := S.ex
  have en : ∀ o : HO, nt (upd H sp o) (sp :: ps) = nt H (sp :: ps) := fun o => nt_upd (List.mem_cons_self ..)
  refine ⟨ws, e, lw, S.ok.upd e np, ws.set r v, (fun j => if j = r then d else ds j), upd_same, by rw [List.length_set, lw], fun j hj => ?_, fun j hj nb => ?_, fun j hj nb => ?_⟩
  · rw [en]
    show Rds _ (tellW (ws.set r v) j) (if j = r then d else ds j)
    by_cases z : j = r
    · subst z
      have : tellW (ws.set j v) j = v := by unfold tellW; rw [List.getElem?_set_self (by omega)]; rfl
      rw [if_pos rfl, this]
      exact rv
    · have : tellW (ws.set r v) j = tellW ws j := by unfold tellW; rw [List.getElem?_set_ne (Ne.symm z)]
      rw [if_neg z, this]
      exact rd j hj
  · show goodD (if j = r then d else ds j) = true
    rw [List.mem_append, List.mem_singleton] at nb
    rw [if_neg (fun z => nb (.inr z))]
    exact g j hj fun z => nb (.inl z)
  · show goodD (if j = r then d else ds j) = false
    by_cases z : j = r
    · rw [if_pos z]; exact b
    · rw [if_neg z]
      rw [List.mem_append, List.mem_singleton] at nb
      exact bd j hj (nb.resolve_right z)
theorem Spl.gr {bs : List Nat} {H' : Hp} (S : Spl T ps p sp n bs H) (ok : OkS T (sp :: ps) p H') (g : Gr p H H') (np : sp ≠ p) : Spl T ps p sp n bs H' := by
  obtain ⟨ws, ds, e, lw, rd, gd, bd⟩ := S.ex
  exact ⟨ok, ws, ds, g _ _ e np (fun _ z => nomatch z), lw, fun j hj => (rd j hj).mono (g.nt S.ok.mem), gd, bd⟩
theorem rd_r9 {x0 x2 x3 x4 x5 x6 : Option V} (S : Spl T ps p sp n [] H) (np : sp ≠ p) (nq : q8 ≠ sp) (nqp : q8 ≠ p) (h1 : r1 < n) (h2 : r2 < n) (e0 : x0 = some (.ref p)) (hq : H q8 = some (.lst [.int (r1 : Int), .int (r2 : Int)])) (hl : nt H (sp :: ps) l = some (.lst xs)) (hrs : RwsV (nt H (sp :: ps)) xs rs) (lr : rs.length = n)
    (k : ∀ o9 H', Spl T ps p sp n [r1, r2] H' → (∀ b o, H b = some o → b ≠ sp → b ≠ p → (∀ t, o ≠ .tbl t) → H' b = some o) → H' q8 = some (.lst [.int (r1 : Int), .int (r2 : Int)]) → u De [x0, some (.ref l), x2, x3, x4, x5, x6, some (.ref sp), some (.ref q8), o9] H') {o9 : Option V} : tSeq (tR9 K T) u De [x0, some (.ref l), x2, x3, x4, x5, x6, some (.ref sp), some (.ref q8), o9] H := by
  subst e0
  have lx : xs.length = n := by rw [hrs.1, lr]
  refine ⟨_, rfl, q8, rfl, ⟨_, SqL.of hq⟩, for_list (xs := [.int (r1 : Int), .int (r2 : Int)]) (fun i σ H' => (∃ o9, σ = [some (.ref p), some (.ref l), x2, x3, x4, x5, x6, some (.ref sp), some (.ref q8), o9]) ∧ Spl T ps p sp n ([r1, r2].take i) H' ∧ (∀ b o, H b = some o → b ≠ sp → b ≠ p → (∀ t, o ≠ .tbl t) → H' b = some o)) ⟨⟨_, rfl⟩, S, fun b o e _ _ _ => e⟩ ?_ ?_ ?_⟩
  · rintro i σ H' _ ⟨_, _, kp⟩
    exact SqL.of (kp _ _ hq nq nqp fun _ z => nomatch z)
  · rintro i v σ H' ev ⟨⟨o9, rfl⟩, S', kp⟩
    obtain ⟨r, hr, rfl, et⟩ : ∃ r, r < n ∧ v = .int ((r : Nat) : Int) ∧ [r1, r2].take (i + 1) = [r1, r2].take i ++ [r] := by
      match i, ev with
      | 0, ev => cases ev; exact ⟨r1, h1, rfl, rfl⟩
      | 1, ev => cases ev; exact ⟨r2, h2, rfl, rfl⟩
      | i + 2, ev => simp at ev
    have sub : Ext (nt H (sp :: ps)) (nt H' (sp :: ps)) := fun b o e => by
      obtain ⟨nb, e, t⟩ := nt_of e
      exact nt_in nb (kp b o e (fun z => nb (by rw [z]; exact List.mem_cons_self ..)) (fun z => nb (by rw [z]; exact S.ok.mem)) t) t
    have li : r < xs.length := by omega
    obtain ⟨w, er, rw'⟩ := hrs.get' (List.getElem?_eq_getElem li)
    refine ⟨_, rfl, _, rfl, _, rfl, l, xs, _, _, rfl, rfl, SqL.of (nt_of (sub _ _ hl)).2.1, atI_nat (List.getElem?_eq_getElem li), sp :: ps, p, _, w, rfl, S'.ok, rw'.tk sub.tk, fun v d H1 ok1 g1 rv bad => ?_⟩
    obtain ⟨ws, es, lw, Sn⟩ := (S'.gr ok1 g1 np).put hr rv bad np
    have ei : ixN ws.length ((r : Nat) : Int) = some r := by
      unfold ixN
      rw [if_pos (by omega), if_pos (by omega)]
      rfl
    refine ⟨_, rfl, _, rfl, sp, ws, _, r, rfl, rfl, es, ei, ⟨_, rfl⟩, ?_, fun b o e n1 n2 t => ?_⟩
    · rw [et]; exact Sn
    · rw [upd_ne n1]
      exact g1 b o (kp b o e n1 n2 t) n2 t
  · rintro σ H' ⟨⟨o9, rfl⟩, S', kp⟩
    exact k o9 H' S' kp (kp _ _ hq nq nqp fun _ z => nomatch z)
theorem rd_lm {c pl : Addr} {al : List (Pos × Str)} {b : Bool} {y : TE} {yv : Int} {σ : St} {R : VK} (hm : (pl, al) ∈ T) (S : Spl T ps p sp n [r1, r2] H) (h1 : r1 < n) (h2 : r2 < n) (n1 : 1 ≤ n) (n20 : n ≤ 20) (s3 : σ[3]? = some (some (.int (n : Int)))) (s7 : σ[7]? = some (some (.ref sp))) (hy : ∀ H (R : VK), R (.int yv) H → y σ H R) (y0 : 0 ≤ yv) (y1 : yv < 2 ^ n)
    (k : ∀ a H', OkS T (sp :: ps) p H' → Gr p H H' → H' a = some (.tup [.str "world", .int ((min r1 r2 : Nat) : Int)]) → R (.ref a) H') : tLm c pl al b y σ H R := by
  obtain ⟨ws, ds, es, lw, rd, gd, bd⟩ := S.ex
  refine ⟨_, s3, S.ok.ti.it _ hm, fun f c' pm ctv H1 xp nf hf hc tb => hy H1 _ ⟨.ref sp, s7, fun o nc => ?_⟩⟩
  have ok1 := S.ok.made xp hm tb
  have g1 : Gr p H H1 := ExtP.gr xp (S.ok.ti.it _ hm)
  have x2 := Ext.new (o := .frz o (CelO c (.ref sp))) nc
  have es1 : H1 sp = some (.lst ws) := ExtP.kept xp (S.ok.ti.it _ hm) es fun _ z => nomatch z
  have C : Cells (upd H1 c (.frz o (CelO c (.ref sp)))) [("_law_spoilt", c)] [("_law_spoilt", .ref sp)] := by
    refine ⟨rfl, fun i x a y v e1 e2 => ?_, by simp, by simp⟩
    match i, e1, e2 with
    | 0, e1, e2 => cases e1; cases e2; exact .inr ⟨o, upd_same⟩
    | i + 1, e1, _ => simp at e1
  refine ⟨.int (n : Int), .int yv, .int (n : Int), .int yv, f, false, ws, ds, rfl, .int _, .int _, .inr ⟨rfl, b, [("_law_spoilt", c)], sp, ⟨.none, pm, ctv, c', x2 _ _ hf, x2 _ _ hc, C, rfl⟩, x2 _ _ es1⟩, .inr ⟨n, rfl, n1, n20, .inr ⟨yv, rfl, in_hands y0 y1, fun _ => by omega, fun j hj => ?_, min r1 r2, by omega, fun j hj => gd j (by omega) (fun z => ?_), bd _ (by omega) ?_, fun a H2 x3 ea hcf => ?_⟩⟩⟩
  · exact ((rd j hj).mono (g1.nt S.ok.mem)).mono ((nt_ext H1 _).trans x2)
  · simp only [List.mem_cons, List.not_mem_nil, or_false] at z
    omega
  · simp only [List.mem_cons, List.not_mem_nil, or_false]
    omega
  · have xh : Ext H1 (hidC H2 [c]) := fun d o' e => by
      have nd : d ≠ c := ne_of_none e nc
      rw [hidC_out (fun z => nd (List.mem_singleton.mp z))]
      exact x3 _ _ (x2 _ _ e)
    refine k a _ (ok1.ext xh) (g1.trans (xh.gr p)) ?_
    rw [hidC_out (fun z => by rw [List.mem_singleton.mp z, hcf] at ea; cases ea)]
    exact ea
theorem rd_wm {σ : St} {R : VK} (s8 : σ[8]? = some (some (.ref q8))) (hq : H q8 = some (.lst [.int (r1 : Int), .int (r2 : Int)])) (k : ∀ b, H b = none → R (.ref b) (upd H b (.tup [.str "world", .int ((min r1 r2 : Nat) : Int)]))) : tWm K σ H R := by
  refine ⟨_, s8, q8, [(r1 : Int), (r2 : Int)], ((min r1 r2 : Nat) : Int), rfl, SqL.of hq, ?_, ?_, (by show 2 ≤ sizeLine; decide), k⟩
  · simp only [List.mem_cons, List.not_mem_nil, or_false]
    omega
  · intro a ha
    simp only [List.mem_cons, List.not_mem_nil, or_false] at ha
    omega
theorem rd_r10 {c pl : Addr} {al : List (Pos × Str)} {σ : St} (h : tLm c pl al true (tVar 2) σ H fun x H1 => tWm K σ H1 fun y H2 => rNeTs K x y H2 fun v H3 => ∃ k, v = .bl k ∧ if k = true then De.rt (.bl false) H3 else u De σ H3) : tSeq (tR10 K c pl al) u De σ H := h
theorem rd_r11 {c pl : Addr} {al : List (Pos × Str)} {σ : St} (h : tLm c pl al false (tOp (rI0 fun i j => .int (i - j)) (tOp (rI0 fun i j => .int (i - j)) (tSh 3) (tC (.int 1))) (tVar 2)) σ H fun x H1 => tWm K σ H1 fun y H2 => rSameT K x y H2 De.rt) : tR11 K c pl al De σ H := h
end
section
variable {P : Program} {w : World} {K : Frag} {mg : Str → Option Value} {base : Heap} {T : Tbs}
def spRd (T : Tbs) : Sp := fun vs H Q _ => ∃ ps p l xs rs, ∃ (n : Nat) (m : Int), vs = [.ref p, .ref l, .int m] ∧ OkS T ps p H ∧ nt H ps l = some (.lst xs) ∧ RwsV (nt H ps) xs rs ∧ (∀ r ∈ rs, goodD (rwD r) = true) ∧ rs.length = n ∧ 1 ≤ n ∧ n ≤ 20 ∧ 0 ≤ m ∧ m < 2 ^ n ∧ ∀ H', OkS T ps p H' → Gr p H H' → Q (.bl true) H'
theorem ok_Rd {f cc pl a1 a2 a3 a4 : Addr} {fd d1 d2 d3 d4 : FuncData} {al : List (Pos × Str)} (F : FunM K mg base "_law_refused" "_law_refused" sRd f fd cc pl) (hm : (pl, al) ∈ T) (t1 : TabP al (posL (lamX true)) qL) (t2 : TabP al (posL (lamX false)) qL) (A1 : Df P w K mg base CX0 1 "world_of" ["listing"] (spWO T) a1 d1) (A2 : Df P w K mg base CX0 2 "_law_pull" ["_law_state", "_law_many"] (spPull T) a2 d2)
    (A3 : Df P w K mg base CX0 6 "_law_refusal" ["_law_folk", "_law_world", "_law_dealing"] spRl a3 d3) (A4 : Df P w K mg base CX0 3 "_law_bad" ["_law_state", "_law_row"] (spBd T) a4 d4) (mm : mg "min" = none) (mn : mg "len" = none) (ml : mg "list" = none) : FnOk P w K mg base CX0 7 f fd ["_law_state", "_law_listing", "_law_dealing"] (spRd T) := by
  refine F.okM scRd (fun vs H Q E h => ?_) (fun A outer s H vs Q E hr h => ?_)
  · obtain ⟨_, _, _, _, _, _, _, rfl, _⟩ := h
    rfl
  obtain ⟨ps, p, l, xs, rs, n, m, rfl, ok, hl, hrs, good, lr, n1, n20, m0, m1, q⟩ := h
  refine okBxL (rfd_der A2 A3 hr A1 A4 F.mkk t1 t2 mm mn ml) ⟨?_⟩
  have lx : xs.length = n := by rw [hrs.1, lr]
  obtain ⟨nl, el, _⟩ := nt_of hl
  refine rd_r0 rfl el ?_
  rw [lx]
  refine rd_r1 rfl ok el fun fw H1 ok1 g1 wd1 => rd_dr g_nu ok1 rfl rfl fun vx dx H2 mx ok2 g2 rx => rd_dr (g_ot (n := n) rfl n20) ok2 rfl rfl fun vy dy H3 my ok3 g3 ry => ?_
  have g13 := g2.trans g3
  have rx3 := (rx.mono (g3.nt ok2.mem)).mono (nt_ext H3 ps)
  have wd3 := (wd1.ext (g13.nt ok1.mem)).ext (nt_ext H3 ps)
  refine rd_r4 rfl rfl rfl rx3 (ry.mono (nt_ext H3 ps)) wd3 (nu_bad dx mx) fun H4 x4 => rd_r5 n1 n20 rfl rfl rfl ((ry.mono (nt_ext H3 ps)).mono x4) (wd3.ext x4) (ot_bad n20 dy my) fun H5 x5 => ?_
  have x35 := x4.trans x5
  have ok5 := ok3.ext x35
  have g05 : Gr p H H5 := g1.trans (g13.trans (x35.gr p))
  have n05 := g05.nt ok.mem
  have hl5 := n05 _ _ hl
  have hrs5 := hrs.tk n05.tk
  have tell : ∀ {G : Hp}, Ext (nt H5 ps) G → ∀ i, i < n → Rds G (tellW xs i) (match rs[i]? with | some r => rwD r | none => .none) := fun {G} x i hi => by
    have h1 : i < xs.length := by omega
    have h2 : i < rs.length := by omega
    have e : tellW xs i = xs[i] := by unfold tellW; rw [List.getElem?_eq_getElem h1]; rfl
    rw [e, List.getElem?_eq_getElem h2]
    exact ((hrs5.2 i _ _ (List.getElem?_eq_getElem h1) (List.getElem?_eq_getElem h2)).tk x.tk).rds
  have gd : ∀ i, i < n → goodD (match rs[i]? with | some r => rwD r | none => .none) = true := fun i hi => by
    have h2 : i < rs.length := by omega
    rw [List.getElem?_eq_getElem h2]
    exact good _ (List.getElem_mem h2)
  refine rd_r6 n1 n20 m0 m1 lx rfl rfl rfl (wd3.ext x35) (tell (nt_ext H5 ps)) gd fun H6 x6 => ?_
  have ok6 := ok5.ext x6
  have n56 := nt_x x6 ok5.mem
  have hl6 := n56 _ _ hl5
  refine rd_r7 rfl (nt_of hl6).2.1 fun sp hsp => ?_
  have x7 := Ext.new (o := .lst xs) hsp
  have ok7 := (ok6.ext x7).add (D := sp) upd_same
  have np : sp ≠ p := fun z => by obtain ⟨_, _, _, e, _⟩ := ok6.bx.ex; rw [← z, hsp] at e; cases e
  have n67 := nt_cons ok6 hsp (x7.gr p)
  have S7 : Spl T ps p sp n [] (upd H6 sp (.lst xs)) := ⟨ok7, xs, _, upd_same, lx, tell (n56.trans n67), fun j hj _ => gd j hj, fun j hj z => by cases z⟩
  refine rd_r8 n1 n20 rfl rfl ok7 fun q8 r1 r2 H8 h1 h2 ok8 g8 hq hqn => ?_
  have S8 := S7.gr ok8 g8 np
  have nq : q8 ≠ sp := fun z => by rw [z, upd_same] at hqn; cases hqn
  have nqp : q8 ≠ p := fun z => by obtain ⟨_, _, _, e, _⟩ := ok7.bx.ex; rw [← z, hqn] at e; cases e
  have n68 := n67.trans (g8.nt ok7.mem)
  refine rd_r9 S8 np nq nqp h1 h2 rfl hq (n68 _ _ hl6) ((hrs5.tk n56.tk).tk n68.tk) lr fun o9 H9 S9 kp hq9 => ?_
  have g59 : Gr p H5 H9 := fun b o e nb t => kp b o (g8 b o (x7 _ _ (x6 _ _ e)) nb t) (ne_of_none (x6 _ _ e) hsp) nb t
  have hx : ([.str "world", .int ((min r1 r2 : Nat) : Int)] : List V).all plainV = true := rfl
  refine rd_r10 (rd_lm hm S9 h1 h2 n1 n20 rfl rfl (fun H R r => ⟨_, rfl, r⟩) m0 m1 fun a H10 ok10 g10 ea => rd_wm rfl (g10 _ _ hq9 nqp fun _ z => nomatch z) fun b hb => ?_)
  have x11 := Ext.new (o := .tup [.str "world", .int ((min r1 r2 : Nat) : Int)]) hb
  refine ⟨a, b, _, rfl, rfl, SqT.of (x11 _ _ ea), SqT.of upd_same, hx, _, rfl, itF ?_⟩
  have ok11 := ok10.ext x11
  have g11 := g10.trans (x11.gr p)
  have S11 := S9.gr ok11 g11 np
  have hq11 := g11 _ _ hq9 nqp fun _ z => nomatch z
  generalize upd H10 b (.tup [.str "world", .int ((min r1 r2 : Nat) : Int)]) = H11 at ok11 g11 S11 hq11
  refine rd_r11 (rd_lm (yv := 2 ^ n - 1 - m) hm S11 h1 h2 n1 n20 rfl rfl (fun H R r => ⟨_, rfl, 1, n, rfl, rfl, ⟨by omega, by omega, by decide⟩, _, _, rfl, rfl, _, rfl, _, _, rfl, rfl, ?_⟩) (by omega) (by omega) fun a2 H12 ok12 g12 ea2 => rd_wm rfl (g12 _ _ hq11 nqp fun _ z => nomatch z) fun b2 hb2 => ?_)
  · show R (.int ((1 : Int) * 2 ^ ((n : Int)).toNat - 1 - m)) H
    rw [Int.one_mul]
    exact r
  have x13 := Ext.new (o := .tup [.str "world", .int ((min r1 r2 : Nat) : Int)]) hb2
  refine ⟨a2, b2, _, rfl, rfl, SqT.of (x13 _ _ ea2), SqT.of upd_same, hx, ?_⟩
  exact q _ ((ok12.ext x13).drop ok.mem) (g05.trans (g59.trans (g11.trans (g12.trans (x13.gr p)))))
end
end My
set_option Elab.async false
set_option linter.all false
set_option maxRecDepth 100000
set_option maxHeartbeats 1000000
namespace My
open PySem PySem.W L2
theorem sqL_gr {K : Frag} {H H' : Hp} {a p : Addr} {xs : List V} (h : SqL K H a xs) (hp : H p = none) (g : Gr p H H') : SqL K H' a xs := by
  have ne : ∀ {o : HO}, H a = some o → a ≠ p := fun {o} e z => by rw [z, hp] at e; cases e
  rcases h with (h | ⟨o, h⟩) | h
  · exact .inl (.inl (g _ _ h (ne h) fun _ z => nomatch z))
  · exact .inl (.inr ⟨o, g _ _ h (ne h) fun _ z => nomatch z⟩)
  · exact .inr h
section
variable {P : Program} {w : World} {K : Frag} {mg : Str → Option Value} {base : Heap} {T : Tbs}
def OcG : Hp → V → Oc → Prop := fun G v o => OcV G v o ∧ outD (ocD o) = true
def spOuB (T : Tbs) : Sp := fun vs H Q _ => ∃ ps p, vs = [.ref p] ∧ OkS T ps p H ∧ ∀ v o H', OkS T ps p H' → Gr p H H' → OcG (nt H' ps) v o → Q v H'
theorem ok_ouB {f a1 : Addr} {fd d1 : FuncData} (F : Fun K "_law_outcome" "_law_outcome" sOut f fd) (A1 : Df P w K mg base CX0 2 "_law_pull" ["_law_state", "_law_many"] (spPull T) a1 d1) : FnOk P w K mg base CX0 3 f fd ["_law_state"] (spOuB T) := by
  refine F.ok scOt (fun vs H Q E h => ?_) (fun cdv A outer s H vs Q E hr h => ?_)
  · obtain ⟨_, _, rfl, _⟩ := h
    rfl
  obtain ⟨ps, p, rfl, ok, q⟩ := h
  refine ⟨_, pss_one (ps_ret (pe_tup (pa_cons (pe_op op_sub (pe_call A1.G hr rfl A1.m A1.kp A1.b .nil pass0 (pa_cons (pv 0) (pa_cons pe_int pa_nil))) pe_int) (pa_cons (pe_cmpR op_gt (pe_call A1.G hr rfl A1.m A1.kp A1.b .nil pass0 (pa_cons (pv 0) (pa_cons pe_int pa_nil))) pe_int (nomark _)) pa_nil)))), ?_⟩
  refine ⟨_, rfl, ps, p, 199, rfl, ok, by decide, by decide, fun r H1 r0 r1 ok1 k1 => ⟨_, _, rfl, rfl, _, rfl, ps, p, 3, rfl, ok1, by decide, by decide, fun r' H2 r0' r1' ok2 k2 => ⟨_, _, rfl, rfl, (by show 2 ≤ sizeLine; decide), fun l hl => ?_⟩⟩⟩
  have x3 := Ext.new (o := .tup [.int (r - 99), .bl (decide (0 < r'))]) hl
  have ok3 := ok2.ext x3
  refine q _ (r - 99, decide (0 < r')) _ ok3 (k1.gr.trans (k2.gr.trans (x3.gr p))) ⟨⟨l, rfl, nt_in (ok3.nin upd_same fun _ z => nomatch z) upd_same fun _ z => nomatch z⟩, ?_⟩
  show (decide ((-99 : Int) ≤ r - 99) && decide (r - 99 ≤ 99)) && true = true
  rw [decide_eq_true (by omega), decide_eq_true (by omega)]
  rfl
def RwG : Hp → V → Rw → Prop := fun G v r => RwV G v r ∧ goodD (rwD r) = true
theorem tkk_rg : Tkk RwG := fun _ _ _ _ t h => ⟨h.1.tk t, h.2⟩
abbrev sLaw : Stmt := top 35
abbrev NLw : List Str := ["_law_script", "_law_k", "_law_state", "_law_folk", "_law_listing", "_law_dealing", "_law_few"]
def spLaw (K : Frag) (T : Tbs) : Sp := fun vs H Q _ => ∃ (a : Addr) (ns : List Int), vs = [.ref a] ∧ SqL K H a (ns.map V.int) ∧ ns.length ≤ 63 ∧ TI T H ∧ ∀ H', Q (.bl true) H'
theorem scLw : FnScope NLw ["_law_script"] (defScope sLaw) := ⟨rfl, rfl, rfl, by decide +kernel, rfl, by decide +kernel, by decide +kernel⟩
abbrev scLwC : Scope := { kind := .function, names := [(".0", .local), ("_law_at", .local), ("_law_outcome", .globalImplicit), ("_law_state", .free)], isGenerator := false, isCoroutine := false }
variable {f : Addr} {cdv : Value} {A : Around} {outer : List Env} {s : Shared} {H : Hp} {E : XK}
theorem compLw : CompG (cxOf CX0 P w K mg base NLw "law" (defScope sLaw) f cdv A outer s H E).nox scLwC [("_law_state", s.heap.objs.size + 1)] ["_law_at"] ["_law_state"] [2] :=
  compG1 (L := [(".0", .local), ("_law_at", .local), ("_law_outcome", .globalImplicit), ("_law_state", .cell)]) rfl rfl (by decide +kernel) (by decide +kernel) (by decide +kernel) rfl rfl (by decide +kernel) (by decide +kernel) rfl (.inr (.inl rfl)) (by show (defScope sLaw).names.lookup ("_law_state" : Str) ≠ some NameKind.local; decide +kernel) (.inl rfl)
theorem ndLw : ((["_law_at"] : List Str) ++ (["_law_state"] : List Str)).Nodup := by decide +kernel
def tLwE (T : Tbs) : TE := t2 (tCall (spOuB T) [] E0 (tCons (tVar 1) tNil)) (tCall (spOuB T) [] E0 (tCons (tVar 1) tNil))
theorem ok_law {a1 a2 a3 a4 a5 a6 : Addr} {fd d1 d2 d3 d4 d5 d6 : FuncData} (F : Fun K "law" "law" sLaw f fd) (A1 : Df P w K mg base CX0 1 "_law_cell" ["_law_script", "_law_k"] (spCell K) a1 d1) (A2 : Df P w K mg base CX0 1 "_law_begun" ["_law_cell_here"] spBeg a2 d2) (A3 : Df P w K mg base CX0 2 "_law_pull" ["_law_state", "_law_many"] (spPull T) a3 d3)
    (A4 : Df P w K mg base CX0 3 "_law_outcome" ["_law_state"] (spOuB T) a4 d4) (A5 : Df P w K mg base CX0 6 "_law_right" ["_law_listing", "_law_folk", "_law_dealing"] (spRt T) a5 d5) (A6 : Df P w K mg base CX0 7 "_law_refused" ["_law_state", "_law_listing", "_law_dealing"] (spRd T) a6 d6)
    (mr : mg "range" = none) (mx : mg "max" = none) (mn : mg "min" = none) (ml : mg "len" = none) : FnOk P w K mg base CX0 8 f fd ["_law_script"] (spLaw K T) := by
  refine F.ok scLw (fun vs H Q E h => ?_) (fun cdv A outer s H vs Q E hr h => ?_)
  · obtain ⟨_, _, rfl, _⟩ := h
    rfl
  obtain ⟨a, ns, rfl, hS, ln, ti, q⟩ := h
  have nd := scLw.nd
  have hr1 := hr.mono (show 1 ≤ 7 by decide)
  have hr2 := hr.mono (show 2 ≤ 7 by decide)
  have hr3 := hr.mono (show 3 ≤ 7 by decide)
  have hr6 := hr.mono (show 6 ≤ 7 by decide)
  refine ⟨_, pss_cons (ps_for PassesOwn.never rfl (pi_range1 rfl mr (pa_cons (pe_callB (call_max2 rfl) rfl mx PyProof.Rows.boot_max (pa_cons pe_int (pa_cons (pe_callB (call_min2 rfl) rfl mn PyProof.Rows.boot_min (pa_cons pe_int (pa_cons (pe_callB call_len_seq rfl ml PySem.boot_len (pa_cons (pv 0) pa_nil)) pa_nil))) pa_nil))) pa_nil)) (pg_name (i := 1) nd rfl (Or.inl rfl))
      (pss_cons (ps_set (i := 2) nd rfl (Or.inr rfl) (pe_call A2.G hr1 rfl A2.m A2.kp A2.b .nil pass0 (pa_cons (pe_call A1.G hr1 rfl A1.m A1.kp A1.b .nil pass0 (pa_cons (pv 0) (pa_cons (pv 1) pa_nil))) pa_nil)))
      (pss_cons (ps_set (i := 3) nd rfl (Or.inl rfl) (pe_ix ix_list (pe_lst (pa_cons (pe_op op_add pe_int (pe_call A3.G hr2 rfl A3.m A3.kp A3.b .nil pass0 (pa_cons (pv 2) (pa_cons pe_int pa_nil)))) (pa_cons (pe_op op_add pe_int (pe_call A3.G hr2 rfl A3.m A3.kp A3.b .nil pass0 (pa_cons (pv 2) (pa_cons pe_int pa_nil)))) pa_nil))) (pe_call A3.G hr2 rfl A3.m A3.kp A3.b .nil pass0 (pa_cons (pv 2) (pa_cons pe_int pa_nil))) plainCall))
      (pss_cons (ps_lcG (iy := 4) (te := tLwE T) (g := gName 0) rfl compLw (pi_range1 rfl mr (pa_cons (pv 3) pa_nil)) (fun s H C fp => by exact pg_name (i := 0) ndLw rfl (.inl rfl)) (fun s H C fp => by exact pe_tup (pa_cons (pe_call A4.G hr3 rfl A4.m A4.kp A4.b .nil pass0 (pa_cons (pv 1) pa_nil)) (pa_cons (pe_call A4.G hr3 rfl A4.m A4.kp A4.b .nil pass0 (pa_cons (pv 1) pa_nil)) pa_nil))) nd rfl (Or.inl rfl) rfl)
      (pss_cons (ps_set (i := 5) nd rfl (Or.inl rfl) (pe_ix ix_list (pe_lst (pa_cons pe_int (pa_cons (pe_op op_sub (pe_op op_shl pe_int (pv 3)) pe_int) (pa_cons (pe_call A3.G hr2 rfl A3.m A3.kp A3.b .nil pass0 (pa_cons (pv 2) (pa_cons (pe_op op_shl pe_int (pv 3)) pa_nil))) pa_nil)))) (pe_call A3.G hr2 rfl A3.m A3.kp A3.b .nil pass0 (pa_cons (pv 2) (pa_cons pe_int pa_nil))) plainCall))
      (pss_cons (ps_for PassesOwn.never rfl (pi_list (pe_lst (pa_cons (pv 3) (pa_cons (pe_op op_add pe_int (pe_call A3.G hr2 rfl A3.m A3.kp A3.b .nil pass0 (pa_cons (pv 2) (pa_cons (pv 3) pa_nil)))) pa_nil)))) (pg_name (i := 6) nd rfl (Or.inl rfl))
        (pss_one (ps_if (pt_not (pt_val (pe_call A5.G hr6 rfl A5.m A5.kp A5.b .nil pass0 (pa_cons (pv 4) (pa_cons (pv 6) (pa_cons (pe_op op_mod (pv 5) (pe_op op_shl pe_int (pv 6))) pa_nil)))))) (pss_one (ps_ret pe_bl)) pss_nil)))
      (pss_one (ps_if (pt_not (pt_val (pe_call A6.G hr rfl A6.m A6.kp A6.b .nil pass0 (pa_cons (pv 2) (pa_cons (pv 4) (pa_cons (pv 5) pa_nil)))))) (pss_one (ps_ret pe_bl)) pss_nil))))))))
    (pss_one (ps_ret pe_bl)), ?_⟩
  refine ⟨_, rfl, a, _, rfl, .inl hS, _, _, rfl, _, _, rfl, ?_⟩
  obtain ⟨mm, em, mm0, mm1⟩ : ∃ m : Int, (if (if (((ns.map V.int).length : Nat) : Int) < 10 then (((ns.map V.int).length : Nat) : Int) else 10) > 2 then (if (((ns.map V.int).length : Nat) : Int) < 10 then (((ns.map V.int).length : Nat) : Int) else 10) else 2) = m ∧ 0 ≤ m ∧ m ≤ 10 := ⟨_, rfl, by split <;> split <;> omega, by split <;> split <;> omega⟩
  rw [em]
  refine ⟨mm, rfl, by omega, by omega, for_range (n := mm.toNat) (fun i σ H' => (∃ o1 o2 o3 o4 o5 o6, σ = [some (.ref a), o1, o2, o3, o4, o5, o6]) ∧ SqL K H' a (ns.map V.int) ∧ TI T H') ⟨⟨_, _, _, _, _, _, rfl⟩, hS, ti⟩ ?_ (fun σ H' _ => q H')⟩
  rintro i σ H0 hi ⟨⟨o1, o2, o3, o4, o5, o6, rfl⟩, hS0, ti0⟩
  refine ⟨_, rfl, _, rfl, a, ns, _, rfl, hS0, by omega, by omega, fun c => ⟨c, rfl, fun p H1 hp x1 bx1 => ?_⟩⟩
  have ok1 : OkS T [p] p H1 := ⟨bx1, ti0.ext x1, List.mem_singleton.mpr rfl, fun x hx => by
    rw [List.mem_singleton.mp hx]
    obtain ⟨_, _, _, e, _⟩ := bx1.ex
    exact ⟨_, e⟩⟩
  have new : ∀ {H' : Hp} {b : Addr}, OkS T [p] p H' → H' b = none → b ≠ p := fun {H' b} o e z => by obtain ⟨_, _, _, e', _⟩ := o.bx.ex; rw [← z, e] at e'; cases e'
  refine ⟨_, rfl, [p], p, 6, rfl, ok1, by decide, by decide, fun ra H2 ra0 ra1 ok2 k2 => ⟨_, _, rfl, rfl, _, rfl, [p], p, 20, rfl, ok2, by decide, by decide, fun rb H3 rb0 rb1 ok3 k3 => ⟨_, _, rfl, rfl, (by show 2 ≤ sizeLine; decide), fun l4 n4 => ?_⟩⟩⟩
  have x4 := Ext.new (o := .lst [.int (1 + ra), .int (1 + rb)]) n4
  have ok4 := ok3.ext x4
  refine ⟨_, rfl, [p], p, 2, rfl, ok4, by decide, by decide, fun rc H5 rc0 rc1 ok5 k5 => ?_⟩
  obtain ⟨n, n1, n20, en⟩ : ∃ n : Nat, 1 ≤ n ∧ n ≤ 20 ∧ atI [V.int (1 + ra), V.int (1 + rb)] rc = some (.int (n : Int)) := by
    rcases (show rc = 0 ∨ rc = 1 by omega) with rfl | rfl
    · exact ⟨(1 + ra).toNat, by omega, by omega, by show some (V.int (1 + ra)) = _; congr 2; omega⟩
    · exact ⟨(1 + rb).toNat, by omega, by omega, by show some (V.int (1 + rb)) = _; congr 2; omega⟩
  have g05 : Gr p H0 H5 := (x1.gr p).trans (k2.gr.trans (k3.gr.trans ((x4.gr p).trans k5.gr)))
  refine ⟨l4, _, rc, _, rfl, rfl, SqL.of (k5 l4 _ upd_same (new ok3 n4)), en, ?_⟩
  refine ⟨_, rfl, n, rfl, by omega, by omega, fun D hD => ?_⟩
  rw [Int.toNat_natCast]
  refine lcW_range tkk_rg ok5 hD (Nat.lt_of_le_of_lt (m := 20) (by omega) (by decide)) (fun i H' hi ok' os los Rk q' => ?_) (fun xs rs H6 ok6 g6 eD lr al => ?_)
  · obtain ⟨o0, rfl⟩ : ∃ o0, os = [o0] := by
      match os, los with
      | [o0], _ => exact ⟨o0, rfl⟩
    refine ⟨⟨[some (.int (0 + i))], rfl, rfl⟩, ?_⟩
    refine ⟨_, rfl, [D, p], p, rfl, ok', fun v1 c1 H7 ok7 g7 w1 => ⟨_, rfl, [D, p], p, rfl, ok7, fun v2 c2 H8 ok8 g8 w2 => ⟨(by show 2 ≤ sizeLine; decide), fun l1 n1 => ?_⟩⟩⟩
    have x9 := Ext.new (o := .tup [v1, v2]) n1
    have ok9 := ok8.ext x9
    have e9 := ((x9.gr p).nt ok8.mem).tk
    refine q' _ (c1, c2) _ ok9 (g7.trans (g8.trans (x9.gr p))) ⟨⟨l1, v1, v2, rfl, nt_in (ok9.nin upd_same (fun _ z => nomatch z)) upd_same (fun _ z => nomatch z), (w1.1.tk (g8.nt ok7.mem).tk).tk e9, w2.1.tk e9⟩, ?_⟩
    show (outD (ocD c1) && outD (ocD c2)) = true
    rw [w1.2, w2.2]
    rfl
  have nD := ok5.new hD
  have hl6 : nt H6 [p] D = some (.lst xs) := nt_in nD eD fun _ z => nomatch z
  have al6 : Al RwG (nt H6 [p]) xs rs := al.tk tkk_rg nt_drop.tk
  have hrs6 : RwsV (nt H6 [p]) xs rs := ⟨al6.1, fun i v r h1 h2 => (al6.2 i v r h1 h2).1⟩
  have good : ∀ r ∈ rs, goodD (rwD r) = true := fun r hr => by
    obtain ⟨i, hi⟩ := List.mem_iff_getElem?.mp hr
    have li : i < xs.length := by rw [al6.1]; exact (List.getElem?_eq_some_iff.mp hi).1
    exact (al6.2 i _ r (List.getElem?_eq_getElem li) hi).2
  have two : (1 : Int) * 2 ^ ((n : Int)).toNat = 2 ^ n := by rw [Int.one_mul]; rfl
  have p20 : (2 : Int) ^ n ≤ 2 ^ 20 := by exact_mod_cast Nat.pow_le_pow_right (by decide) n20
  have p0 : (0 : Int) < 2 ^ n := Int.pow_pos (by decide)
  have e20 : (2 : Int) ^ 20 = 1048576 := by decide +kernel
  refine ⟨_, rfl, 1, n, rfl, rfl, ⟨by omega, by omega, by decide⟩, _, _, rfl, rfl, _, rfl, _, rfl, 1, n, rfl, rfl, ⟨by omega, by omega, by decide⟩, [p], p, _, rfl, ok6, by rw [two]; exact p0, by rw [two]; omega, fun rd H7 rd0 rd1 ok7 k7 => ⟨(by show 3 ≤ sizeLine; decide), fun l8 n8 => ?_⟩⟩
  rw [two] at rd1
  have x8 := Ext.new (o := .lst [.int 0, .int ((1 : Int) * 2 ^ ((n : Int)).toNat - 1), .int rd]) n8
  have ok8 := ok7.ext x8
  refine ⟨_, rfl, [p], p, 3, rfl, ok8, by decide, by decide, fun re H9 re0 re1 ok9 k9 => ?_⟩
  obtain ⟨m, m0, m1, emv⟩ : ∃ m : Int, 0 ≤ m ∧ m < 2 ^ n ∧ atI [V.int 0, V.int ((1 : Int) * 2 ^ ((n : Int)).toNat - 1), V.int rd] re = some (.int m) := by
    rcases (show re = 0 ∨ re = 1 ∨ re = 2 by omega) with rfl | rfl | rfl
    · exact ⟨0, by omega, p0, rfl⟩
    · exact ⟨2 ^ n - 1, by omega, by omega, by rw [two]; rfl⟩
    · exact ⟨rd, rd0, rd1, rfl⟩
  have g69 : Gr p H6 H9 := k7.gr.trans ((x8.gr p).trans k9.gr)
  refine ⟨l8, _, re, _, rfl, rfl, SqL.of (k9 l8 _ upd_same (new ok7 n8)), emv, ?_⟩
  refine ⟨_, rfl, _, rfl, _, rfl, [p], p, n, rfl, ok9, by omega, by omega, fun rf H10 rf0 rf1 ok10 k10 => ⟨_, _, rfl, rfl, (by show 2 ≤ sizeLine; decide), fun l11 n11 => ?_⟩⟩
  have x11 := Ext.new (o := .lst [.int (n : Int), .int (1 + rf)]) n11
  have ok11 := ok10.ext x11
  have nl11 := new ok10 n11
  have g6_11 : Gr p H6 (upd H10 l11 (.lst [.int (n : Int), .int (1 + rf)])) := g69.trans (k10.gr.trans (x11.gr p))
  refine ⟨l11, rfl, ⟨_, SqL.of upd_same⟩, for_list (xs := [.int (n : Int), .int (1 + rf)]) (fun j σ H' => (∃ o6, σ = [some (.ref a), some (.int (0 + (i : Int))), some (.ref p), some (.int (n : Int)), some (.ref D), some (.int m), o6]) ∧ OkS T [p] p H' ∧ Gr p H6 H' ∧ H' l11 = some (.lst [.int (n : Int), .int (1 + rf)])) ⟨⟨_, rfl⟩, ok11, g6_11, upd_same⟩ ?_ ?_ ?_⟩
  · rintro j σ H' _ ⟨_, _, _, e⟩
    exact SqL.of e
  · rintro j v σ H' ev ⟨⟨o6, rfl⟩, ok', g', el'⟩
    obtain ⟨fw, f1, f2, rfl⟩ : ∃ fw : Nat, 1 ≤ fw ∧ fw ≤ n ∧ v = .int (fw : Int) := by
      match j, ev with
      | 0, ev => cases ev; exact ⟨n, n1, Nat.le_refl _, rfl⟩
      | 1, ev => cases ev; exact ⟨(1 + rf).toNat, by omega, by omega, by congr 1; omega⟩
      | j + 2, ev => simp at ev
    have n6 := g'.nt ok6.mem
    have twf : (1 : Int) * 2 ^ ((fw : Int)).toNat = 2 ^ fw := by rw [Int.one_mul]; rfl
    have pf : (0 : Int) < 2 ^ fw := Int.pow_pos (by decide)
    refine ⟨_, rfl, _, rfl, _, rfl, _, rfl, 1, fw, rfl, rfl, ⟨by omega, by omega, by decide⟩, _, _, rfl, rfl, (by show (0 : Int) < 1 * 2 ^ ((fw : Int)).toNat; rw [twf]; exact pf), [p], p, D, xs, rs, fw, m % 2 ^ fw, by rw [← twf]; rfl, ok', n6 _ _ hl6, hrs6.tk n6.tk, good, by omega, f1, by omega, Int.emod_nonneg _ (by omega), Int.emod_lt_of_pos _ pf, fun H12 ok12 g12 => ⟨_, rfl, itF ?_⟩⟩
    exact ⟨⟨_, rfl⟩, ok12, g'.trans g12, g12 _ _ el' nl11 fun _ z => nomatch z⟩
  · rintro σ H' ⟨⟨o6, rfl⟩, ok', g', el'⟩
    have n6 := g'.nt ok6.mem
    refine ⟨_, rfl, _, rfl, _, rfl, [p], p, D, xs, rs, n, m, rfl, ok', n6 _ _ hl6, hrs6.tk n6.tk, good, lr, n1, n20, m0, m1, fun H12 ok12 g12 => ⟨_, rfl, itF ?_⟩⟩
    exact ⟨⟨_, _, _, _, _, _, rfl⟩, sqL_gr hS0 hp (g05.trans (g6.trans (g'.trans g12))), ok12.ti⟩
end
end My
set_option Elab.async false
set_option linter.all false
set_option maxRecDepth 100000
set_option maxHeartbeats 4000000
set_option exponentiation.threshold 10000
namespace My
open PySem PySem.W L2
theorem mroC {K : Frag} {D C f : Addr} {nm : Str} (T : ErrC K D nm C f) (b : Value) : mroIn K C b = some ((Value.ref C :: .ref D :: bmV).contains b) := by
  obtain ⟨cd, h1, _, h3⟩ := T.clsIn
  unfold mroIn
  rw [h1, Option.bind_some, h3]
  rfl
theorem kit_cc {K : Frag} {D C f C' f' : Addr} {nm nm' : Str} (T : ErrC K D nm C f) (T' : ErrC K D nm' C' f') (ne : C' ≠ C) (nd : C' ≠ D) : kitOne K (.ref C) (.ref C') = some false := by
  unfold kitOne
  rw [if_neg (by intro e; exact ne (Value.ref.inj (beq_iff_eq.mp e)).symm)]
  show (if ((clsIn K C').isSome && typeIn K (.ref C') == some (.type "type")) = true then subIn K (.ref C) (.ref C') else none) = _
  obtain ⟨cd, h1, _⟩ := T'.clsIn
  rw [h1, T'.type]
  simp only [Option.isSome_some, beq_self_eq_true, Bool.and_self, if_true]
  show mroIn K C _ = _
  rw [mroC T, List.contains_cons, List.contains_cons]
  have n1 : (Value.ref C' == Value.ref C) = false := beq_eq_false_iff_ne.mpr fun z => ne (Value.ref.inj z)
  have n2 : (Value.ref C' == Value.ref D) = false := beq_eq_false_iff_ne.mpr fun z => nd (Value.ref.inj z)
  rw [n1, n2]
  rfl
theorem kit_same {K : Frag} {C : Addr} : kitOne K (.ref C) (.ref C) = some true := by
  unfold kitOne
  rw [if_pos (beq_self_eq_true _)]
theorem neD_of {K : Frag} {D C f : Addr} {nm : Str} (T : ErrC K D nm C f) (B : BaseC K D) : C ≠ D := by
  intro e
  obtain ⟨q, N, bs, sn, sub, ab, col, dd, k0, k1, k2, k3, k5, l⟩ := T.cls
  obtain ⟨nm', q', N', bs', sn', sub', ab', col', dd', k0', k1', k2', k3', k5', l', _⟩ := B.cls
  rw [e, l'] at l
  have z := Option.some.inj l
  injection z with _ _ z _
  injection z with z
  injection z with _ _ z
  cases z
theorem ne_names {K : Frag} {D C f C' f' : Addr} {nm nm' : Str} (T : ErrC K D nm C f) (T' : ErrC K D nm' C' f') (h : nm ≠ nm') : C' ≠ C := by
  intro e
  obtain ⟨q, N, bs, sn, sub, ab, col, dd, k0, k1, k2, k3, k5, l⟩ := T.cls
  obtain ⟨q', N', bs', sn', sub', ab', col', dd', k0', k1', k2', k3', k5', l'⟩ := T'.cls
  rw [e, l] at l'
  have z := Option.some.inj l'
  injection z with _ _ z _
  injection z with z
  injection z with z
  exact h z
theorem baseType {K : Frag} {D : Addr} (B : BaseC K D) : typeIn K (.ref D) = some (.type "type") := by
  obtain ⟨nm', q', N', bs', sn', sub', ab', col', dd', k0', k1', k2', k3', k5', l', _⟩ := B.cls
  show (List.lookup D K).map (·.cls) = _
  rw [l']
  rfl
theorem baseCls {K : Frag} {D : Addr} (B : BaseC K D) : ∃ cd, clsIn K D = some cd := by
  obtain ⟨nm', q', N', bs', sn', sub', ab', col', dd', k0', k1', k2', k3', k5', l', _⟩ := B.cls
  unfold clsIn
  rw [l']
  exact ⟨_, rfl⟩
abbrev sIni2 : Stmt := inClass (top 2) 0
theorem scIni2 : FnScope ["self", "found"] ["self", "found"] (defScope sIni2) := ⟨rfl, rfl, rfl, by decide +kernel, rfl, by decide +kernel, by decide +kernel⟩
theorem one2 {K : Frag} {mg : Str → Option Value} {D C f : Addr} {fd : FuncData} (B : BaseC K D) (T : ErrC K D "NoNumber" C f) (mD : mg "DealError" = some (.ref D)) (mC : mg "NoNumber" = some (.ref C)) (F : Fun K "__init__" "NoNumber.__init__" sIni2 f fd) (tk : takerIn K C "found" = some none) : OneF K mg D "NoNumber" "found" C f fd := by
  refine ⟨T, mC, fun P w base => ?_, F.binds fun _ _ _ _ _ _ us hl => match us, hl with | [_, _], _ => rfl⟩
  refine F.ok scIni2 (fun vs H Q E h => ?_) (fun cdv A outer s H vs Q E hr h => ?_)
  · obtain ⟨x, v, rfl, _⟩ := h
    rfl
  obtain ⟨x, v, rfl, hx, q⟩ := h
  refine ⟨_, pss_cons (ps_expr (pe_baseInit B T rfl mD (pv 0) pe_str)) (pss_one (ps_err T (pv 0) (pv 1) rfl)), ?_⟩
  exact ⟨_, rfl, x, rfl, hx, _, rfl, _, rfl, x, rfl, hx, tk, q⟩
abbrev sIni3 : Stmt := inClass (top 3) 0
theorem scIni3 : FnScope ["self", "found"] ["self", "found"] (defScope sIni3) := ⟨rfl, rfl, rfl, by decide +kernel, rfl, by decide +kernel, by decide +kernel⟩
theorem one3 {K : Frag} {mg : Str → Option Value} {D C f : Addr} {fd : FuncData} (B : BaseC K D) (T : ErrC K D "NoDealing" C f) (mD : mg "DealError" = some (.ref D)) (mC : mg "NoDealing" = some (.ref C)) (F : Fun K "__init__" "NoDealing.__init__" sIni3 f fd) (tk : takerIn K C "found" = some none) : OneF K mg D "NoDealing" "found" C f fd := by
  refine ⟨T, mC, fun P w base => ?_, F.binds fun _ _ _ _ _ _ us hl => match us, hl with | [_, _], _ => rfl⟩
  refine F.ok scIni3 (fun vs H Q E h => ?_) (fun cdv A outer s H vs Q E hr h => ?_)
  · obtain ⟨x, v, rfl, _⟩ := h
    rfl
  obtain ⟨x, v, rfl, hx, q⟩ := h
  refine ⟨_, pss_cons (ps_expr (pe_baseInit B T rfl mD (pv 0) pe_str)) (pss_one (ps_err T (pv 0) (pv 1) rfl)), ?_⟩
  exact ⟨_, rfl, x, rfl, hx, _, rfl, _, rfl, x, rfl, hx, tk, q⟩
abbrev sIni4 : Stmt := inClass (top 4) 0
theorem scIni4 : FnScope ["self", "place"] ["self", "place"] (defScope sIni4) := ⟨rfl, rfl, rfl, by decide +kernel, rfl, by decide +kernel, by decide +kernel⟩
theorem one4 {K : Frag} {mg : Str → Option Value} {D C f : Addr} {fd : FuncData} (B : BaseC K D) (T : ErrC K D "NoOutcome" C f) (mD : mg "DealError" = some (.ref D)) (mC : mg "NoOutcome" = some (.ref C)) (F : Fun K "__init__" "NoOutcome.__init__" sIni4 f fd) (tk : takerIn K C "place" = some none) : OneF K mg D "NoOutcome" "place" C f fd := by
  refine ⟨T, mC, fun P w base => ?_, F.binds fun _ _ _ _ _ _ us hl => match us, hl with | [_, _], _ => rfl⟩
  refine F.ok scIni4 (fun vs H Q E h => ?_) (fun cdv A outer s H vs Q E hr h => ?_)
  · obtain ⟨x, v, rfl, _⟩ := h
    rfl
  obtain ⟨x, v, rfl, hx, q⟩ := h
  refine ⟨_, pss_cons (ps_expr (pe_baseInit B T rfl mD (pv 0) pe_str)) (pss_one (ps_err T (pv 0) (pv 1) rfl)), ?_⟩
  exact ⟨_, rfl, x, rfl, hx, _, rfl, _, rfl, x, rfl, hx, tk, q⟩
abbrev sIni5 : Stmt := inClass (top 5) 0
theorem scIni5 : FnScope ["self", "place"] ["self", "place"] (defScope sIni5) := ⟨rfl, rfl, rfl, by decide +kernel, rfl, by decide +kernel, by decide +kernel⟩
theorem one5 {K : Frag} {mg : Str → Option Value} {D C f : Addr} {fd : FuncData} (B : BaseC K D) (T : ErrC K D "NoWorld" C f) (mD : mg "DealError" = some (.ref D)) (mC : mg "NoWorld" = some (.ref C)) (F : Fun K "__init__" "NoWorld.__init__" sIni5 f fd) (tk : takerIn K C "place" = some none) : OneF K mg D "NoWorld" "place" C f fd := by
  refine ⟨T, mC, fun P w base => ?_, F.binds fun _ _ _ _ _ _ us hl => match us, hl with | [_, _], _ => rfl⟩
  refine F.ok scIni5 (fun vs H Q E h => ?_) (fun cdv A outer s H vs Q E hr h => ?_)
  · obtain ⟨x, v, rfl, _⟩ := h
    rfl
  obtain ⟨x, v, rfl, hx, q⟩ := h
  refine ⟨_, pss_cons (ps_expr (pe_baseInit B T rfl mD (pv 0) pe_str)) (pss_one (ps_err T (pv 0) (pv 1) rfl)), ?_⟩
  exact ⟨_, rfl, x, rfl, hx, _, rfl, _, rfl, x, rfl, hx, tk, q⟩
theorem fld_of {K : Frag} {D C f : Addr} {nm fld : Str} (T : ErrC K D nm C f) (nf : findIn K (.ref C) fld = some none) : FldOk K C fld := by
  obtain ⟨cd, h1, h2, h3⟩ := T.clsIn
  refine ⟨T.it, ?_, nf⟩
  unfold hasDictIn
  rw [h1]
  exact h2
theorem cat_base {K : Frag} {D : Addr} (B : BaseC K D) : Catch K D := ⟨baseCls B, baseType B, B.it.mb⟩
theorem mro_base {K : Frag} {D C f : Addr} {nm : Str} (T : ErrC K D nm C f) : mroIn K C (.ref D) = some true := by
  rw [mroC T, List.contains_cons, List.contains_cons, beq_self_eq_true, Bool.true_or, Bool.or_true]
theorem kit_no {K : Frag} {D C f C' f' : Addr} {nm nm' : Str} (B : BaseC K D) (T : ErrC K D nm C f) (T' : ErrC K D nm' C' f') (h : nm ≠ nm') : kitOne K (.ref C) (.ref C') = some false := kit_cc T T' (ne_names T T' h) (neD_of T' B)
theorem kit_any0 {K : Frag} {t : Value} : kitAny K t [] = some false := rfl
theorem kit_anyC {K : Frag} {t a : Value} {as : List Value} (h1 : kitOne K t a = some false) (h2 : kitAny K t as = some false) : kitAny K t (a :: as) = some false := by
  simp [kitAny, h1, h2]
end My
set_option Elab.async false
set_option linter.all false
set_option maxRecDepth 100000
set_option maxHeartbeats 4000000
set_option exponentiation.threshold 10000
namespace My
open PySem PySem.W L2
def keyStr : Value → Bool
  | .str _ _ => true
  | _ => false
theorem strKeys_of {es : Array DictEntry} (h : (es.toList.all fun e => keyStr e.key) = true) : StrKeys es := fun e he => by
  have z := List.all_eq_true.mp h e (by simpa using he)
  cases k : e.key with
  | str n t => exact ⟨n, t, rfl⟩
  | _ => rw [k] at z; cases z
theorem mro_of {K : Frag} {C : Addr} {cd : ClassData} {b : Value} (h : clsIn K C = some cd) (hb : cd.mro.isEmpty = false) (hc : cd.mro.contains b = true) : mroIn K C b = some true := by
  unfold mroIn
  rw [h, Option.bind_some, hb, hc]
  rfl
theorem base_mk {K : Frag} {D N : Addr} {nm q : Str} {bs : List Value} {sn : List Str} {sub : List Value} {ab : Bool} {col : Option Bool} {dd : Option Addr} {k0 k1 k2 k3 k5 : Option Value}
    {cN : Value} {dN : Option Addr} {es : Array DictEntry} {ep : Nat} {sN : Array (Option Value)}
    (lD : K.lookup D = some (excClassObj nm q D N bs bmV true sn sub ab col dd k0 k1 k2 k3 k5 "ValueError.__new__"))
    (lN : K.lookup N = some ⟨cN, dN, .dict es ep, sN⟩) (sk : StrKeys es) (ni : nsFind es "__init__" = none)
    (ga : specialIn K (.ref D) "__getattribute__" = some (some (.builtin "type.__getattribute__"))) (rd : readsIn K D (.type "type") = true)
    (ini : findCls K (.ref D) (.type "type") "__init__" = some (.val (.builtin "ValueError.__init__"))) (fi : findIn K (.ref D) "__init__" = some (some (.builtin "ValueError.__init__"))) (kp : keepIn K (.ref D) = true)
    (gb : findIn K (.ref D) "__getattribute__" = some (some (.builtin bga))) (hk : findIn K (.ref D) "__getattr__" = some none) (ca : findIn K (.ref D) "__class__" = some (some (.builtin "object.__class__"))) : BaseC K D := by
  have hc : clsIn K D = some { name := nm, bases := bs, mro := .ref D :: bmV, ns := N, qualname := q, hasDict := true, slotNames := sn, subclasses := sub, abstract := ab, collection := col, hasDel := false } := by
    unfold clsIn
    rw [lD]
  refine ⟨⟨nm, q, N, bs, sn, sub, ab, col, dd, k0, k1, k2, k3, k5, lD, _, es, ep, lN, rfl, sk, ni⟩, ga, rd, ini, fi, kp, ⟨by rw [hc]; rfl, gb, hk, mro_of hc rfl ?_, mro_of hc rfl ?_, ca⟩⟩
  · show (Value.ref D :: bmV).contains (.type "BaseException") = true
    rw [List.contains_cons]
    rfl
  · show (Value.ref D :: bmV).contains (.type "object") = true
    rw [List.contains_cons]
    rfl
theorem err_mk {K : Frag} {D C N f : Addr} (nm : Str)
    {q : Str} {bs : List Value} {sn : List Str} {sub : List Value} {ab : Bool} {col : Option Bool} {dd : Option Addr} {k0 k1 k2 k3 k5 : Option Value}
    (lC : K.lookup C = some (excClassObj nm q C N bs (.ref D :: bmV) true sn sub ab col dd k0 k1 k2 k3 k5 "ValueError.__new__"))
    (ini : findIn K (.ref C) "__init__" = some (some (.ref f))) (fn : typeIn K (.ref f) = some (.type "function")) (kp : keepIn K (.ref C) = true)
    (sa : findIn K (.ref C) "__setattr__" = some (some (.builtin "object.__setattr__"))) (ga : findIn K (.ref C) "__getattribute__" = some (some (.builtin bga))) (hk : findIn K (.ref C) "__getattr__" = some none)
    (ca : findIn K (.ref C) "__class__" = some (some (.builtin "object.__class__"))) : ErrC K D nm C f := by
  have hc : clsIn K C = some { name := nm, bases := bs, mro := .ref C :: .ref D :: bmV, ns := N, qualname := q, hasDict := true, slotNames := sn, subclasses := sub, abstract := ab, collection := col, hasDel := false } := by
    unfold clsIn
    rw [lC]
  refine ⟨⟨q, N, bs, sn, sub, ab, col, dd, k0, k1, k2, k3, k5, lC⟩, ini, fn, kp, sa, ⟨by rw [hc]; rfl, ga, hk, mro_of hc rfl ?_, mro_of hc rfl ?_, ca⟩⟩
  · show (Value.ref C :: .ref D :: bmV).contains (.type "BaseException") = true
    rw [List.contains_cons, List.contains_cons]
    rfl
  · show (Value.ref C :: .ref D :: bmV).contains (.type "object") = true
    rw [List.contains_cons, List.contains_cons]
    rfl
structure Dn (K : Frag) (mg : Str → Option Value) (nm : Str) (st : Stmt) (ps : List Str) (f : Addr) (fd : FuncData) : Prop where
  fn : Fun K nm nm st f fd
  bi : Binds K fd ps []
  kp : keepIn K (.ref f) = true
  mg : mg nm = some (.ref f)
section
variable {P : Program} {w : World} {K : Frag} {mg : Str → Option Value} {base : Heap}
theorem Dn.df {nm : Str} {st : Stmt} {ps : List Str} {f : Addr} {fd : FuncData} (d : Dn K mg nm st ps f fd) {cx : CXT} {k : Nat} {sp : Sp} (h : FnOk P w K mg base cx k f fd ps sp) : Df P w K mg base cx k nm ps sp f fd := ⟨h, d.bi, d.kp, d.mg⟩
end
theorem chd_of {K : Frag} {h h2 : Heap} {c pl : Addr} {od : Option Addr} {vs : Array Value} {sl : Array (Option Value)} (X : K.In h) (X2 : K.In h2) (lc : K.lookup c = some ⟨.type "code", od, .fields vs, sl⟩) (v11 : vs[11]? = some (.ref pl)) (v18 : ∃ file tf, vs.getD 18 .none = .str file tf) (v7 : ∃ i t, vs.getD 7 .none = .int i t) (v9 : ∃ b, vs.getD 9 .none = .bool b) (v10 : ∃ i t, vs.getD 10 .none = .int i t) (tb : h.get? pl = some (tabObj #[])) : CodeHd h2 c pl := by
  obtain ⟨f1, f2, e18⟩ := v18
  obtain ⟨i1, i2, e7⟩ := v7
  obtain ⟨b1, e9⟩ := v9
  obtain ⟨j1, j2, e10⟩ := v10
  refine ⟨_, vs, f1, f2, i1, i2, b1, j1, j2, X2 _ _ lc, rfl, rfl, v11, ?_, e18, e7, e9, e10, fun z => ?_⟩
  · rw [Array.getD_eq_getD_getElem?, v11]
    rfl
  · have y := X _ _ lc
    rw [z, tb] at y
    cases y
abbrev BPm (nm : Str) (st : Stmt) (ps : List Str) : Prop := ∀ (kV doc pm : Value) (an : Option Addr) (cdv ct : Value) (us : List Value), us.length = ps.length → bindArgs (PySem.W.fnOf nm nm (defArgs st) (defBody st) (defScope st) .none kV doc pm an cdv ct) ⟨us, []⟩ = pure (ps.zip us)
theorem mk_df {P : Program} {w : World} {K : Frag} {mg : Str → Option Value} {base : Heap} {nm : Str} {st : Stmt} {ps : List Str} {g c : Addr} {oc kV dc pm ct : Value} {od an : Option Addr} {sl : Array (Option Value)} {cx : CXT} {k : Nat} {sp : Sp} (lk : K.lookup g = some ⟨oc, od, .func (fnOf nm nm (defArgs st) (defBody st) (defScope st) .none kV dc pm an (.ref c) ct), sl⟩) (kp : keepIn K (.ref g) = true) (m : mg nm = some (.ref g)) (hb : BPm nm st ps) (h : FnOk P w K mg base cx k g (fnOf nm nm (defArgs st) (defBody st) (defScope st) .none kV dc pm an (.ref c) ct) ps sp) : Df P w K mg base cx k nm ps sp g (fnOf nm nm (defArgs st) (defBody st) (defScope st) .none kV dc pm an (.ref c) ct) := ⟨h, .all (hb _ _ _ _ _ _), kp, m⟩
theorem bk0 : BPm "world_of" sWO ["listing"] := fun _ _ _ _ _ _ us hl => match us, hl with | [_], _ => rfl
theorem bk1 : BPm "_law_refused" sRd ["_law_state", "_law_listing", "_law_dealing"] := fun _ _ _ _ _ _ us hl => match us, hl with | [_, _, _], _ => rfl
abbrev BP (nm qn : Str) (st : Stmt) (ps : List Str) : Prop := ∀ (kV doc pm : Value) (an : Option Addr) (cdv ct : Value) (us : List Value), us.length = ps.length → bindArgs (PySem.W.fnOf nm qn (defArgs st) (defBody st) (defScope st) .none kV doc pm an cdv ct) ⟨us, []⟩ = pure (ps.zip us)
theorem dn_of {nm : Str} {st : Stmt} {ps : List Str} (hb : BP nm nm st ps) {K : Frag} {h : Heap} {mg : Str → Option Value} {g : Addr} {oc kV dc pm cd ct : Value} {od an : Option Addr} {sl : Array (Option Value)} (X : K.In h) (G : h.Ns mainGlobals mg)
    (a : nsIn K mainGlobals nm = some (some (.ref g))) (l : K.lookup g = some ⟨oc, od, .func (fnOf nm nm (defArgs st) (defBody st) (defScope st) .none kV dc pm an cd ct), sl⟩) (c : codeIn K cd nm = true) (k : keepIn K (.ref g) = true) :
    Dn K mg nm st ps g (fnOf nm nm (defArgs st) (defBody st) (defScope st) .none kV dc pm an cd ct) := by
  have F := fun_mk (st := st) l c k
  exact ⟨F, F.binds hb, k, mg_of X G a⟩
theorem bp0 : BP "is_number" "is_number" sIsNum ["thing"] := fun _ _ _ _ _ _ us hl => match us, hl with | [_], _ => rfl
theorem bp1 : BP "is_whole" "is_whole" sIsWh ["thing", "low", "high"] := fun _ _ _ _ _ _ us hl => match us, hl with | [_, _, _], _ => rfl
theorem bp2 : BP "need_number" "need_number" sNN ["thing", "low", "high"] := fun _ _ _ _ _ _ us hl => match us, hl with | [_, _, _], _ => rfl
theorem bp3 : BP "need_hands" "need_hands" sNH ["thing", "folk"] := fun _ _ _ _ _ _ us hl => match us, hl with | [_, _], _ => rfl
theorem bp4 : BP "hand_of" "hand_of" sHO ["dealing", "at"] := fun _ _ _ _ _ _ us hl => match us, hl with | [_, _], _ => rfl
theorem bp5 : BP "is_outcome" "is_outcome" sIO ["thing"] := fun _ _ _ _ _ _ us hl => match us, hl with | [_], _ => rfl
theorem bp6 : BP "is_two" "is_two" sIs2 ["thing"] := fun _ _ _ _ _ _ us hl => match us, hl with | [_], _ => rfl
theorem bp7 : BP "all_told" "all_told" sAT ["folk", "world"] := fun _ _ _ _ _ _ us hl => match us, hl with | [_, _], _ => rfl
theorem bp8 : BP "seen_of" "seen_of" sSO ["told", "dealing"] := fun _ _ _ _ _ _ us hl => match us, hl with | [_, _], _ => rfl
theorem bp9 : BP "outcomes_under" "outcomes_under" sOU ["folk", "world", "dealing"] := fun _ _ _ _ _ _ us hl => match us, hl with | [_, _, _], _ => rfl
theorem bp10 : BP "_law_cell" "_law_cell" sCell ["_law_script", "_law_k"] := fun _ _ _ _ _ _ us hl => match us, hl with | [_, _], _ => rfl
theorem bp11 : BP "_law_mix" "_law_mix" sMix ["_law_cell_here", "_law_k"] := fun _ _ _ _ _ _ us hl => match us, hl with | [_, _], _ => rfl
theorem bp12 : BP "_law_begun" "_law_begun" sBeg ["_law_cell_here"] := fun _ _ _ _ _ _ us hl => match us, hl with | [_], _ => rfl
theorem bp13 : BP "_law_pull" "_law_pull" sPull ["_law_state", "_law_many"] := fun _ _ _ _ _ _ us hl => match us, hl with | [_, _], _ => rfl
theorem bp14 : BP "_law_outcome" "_law_outcome" sOut ["_law_state"] := fun _ _ _ _ _ _ us hl => match us, hl with | [_], _ => rfl
theorem bp15 : BP "_law_bad" "_law_bad" sBd ["_law_state", "_law_row"] := fun _ _ _ _ _ _ us hl => match us, hl with | [_, _], _ => rfl
theorem bp16 : BP "_law_refusal" "_law_refusal" sRl ["_law_folk", "_law_world", "_law_dealing"] := fun _ _ _ _ _ _ us hl => match us, hl with | [_, _, _], _ => rfl
theorem bp17 : BP "_law_right" "_law_right" sRt ["_law_listing", "_law_folk", "_law_dealing"] := fun _ _ _ _ _ _ us hl => match us, hl with | [_, _, _], _ => rfl
theorem bp18 : BP "law" "law" sLaw ["_law_script"] := fun _ _ _ _ _ _ us hl => match us, hl with | [_], _ => rfl
theorem all_mk {l : OpenLaw} {w : World} {K : Frag} {h : Heap} {mg : Str → Option Value} {fa D CE2 fE2 CE3 fE3 CE4 fE4 CE5 fE5 g0 g1 g2 g3 g4 g5 g6 g7 g8 g9 g10 g11 g12 g13 g14 g15 g16 g17 g18 : Addr} {d0 d1 d2 d3 d4 d5 d6 d7 d8 d9 d10 d11 d12 d13 d14 d15 d16 d17 d18 : FuncData} (X : K.In h) (G : h.Ns mainGlobals mg) (hfa : mg "law" = some (.ref fa))
    {oc2 kV2 dc2 pm2 cd2 ct2 oc3 kV3 dc3 pm3 cd3 ct3 oc4 kV4 dc4 pm4 cd4 ct4 oc5 kV5 dc5 pm5 cd5 ct5 : Value} {od2 an2 od3 an3 od4 an4 od5 an5 : Option Addr} {sl2 sl3 sl4 sl5 : Array (Option Value)}
    {t_LEAST_NUMBER t_MOST_NUMBER t_MOST_FOLK : Tok}
    {ts : List Addr} {mk0 mc0 pl0 mk1 mc1 pl1 : Addr} {moc0 mkV0 mdc0 mpm0 mct0 moc1 mkV1 mdc1 mpm1 mct1 : Value} {mod0 man0 modc0 mod1 man1 modc1 : Option Addr} {msl0 mslc0 msl1 mslc1 : Array (Option Value)} {mvs0 mvs1 : Array Value}
    (B : BaseC K D) (eE2 : ErrC K D "NoNumber" CE2 fE2) (eE3 : ErrC K D "NoDealing" CE3 fE3) (eE4 : ErrC K D "NoOutcome" CE4 fE4) (eE5 : ErrC K D "NoWorld" CE5 fE5)
    (aD : nsIn K mainGlobals "DealError" = some (some (.ref D)))
    (a2 : nsIn K mainGlobals "NoNumber" = some (some (.ref CE2)))
    (a3 : nsIn K mainGlobals "NoDealing" = some (some (.ref CE3)))
    (a4 : nsIn K mainGlobals "NoOutcome" = some (some (.ref CE4)))
    (a5 : nsIn K mainGlobals "NoWorld" = some (some (.ref CE5)))
    (lf2 : K.lookup fE2 = some ⟨oc2, od2, .func (fnOf "__init__" "NoNumber.__init__" (defArgs sIni2) (defBody sIni2) (defScope sIni2) .none kV2 dc2 pm2 an2 cd2 ct2), sl2⟩)
    (cf2 : codeIn K cd2 "NoNumber.__init__" = true)
    (kf2 : keepIn K (.ref fE2) = true)
    (tk2 : takerIn K CE2 "found" = some none)
    (nf2 : findIn K (.ref CE2) "found" = some none)
    (lf3 : K.lookup fE3 = some ⟨oc3, od3, .func (fnOf "__init__" "NoDealing.__init__" (defArgs sIni3) (defBody sIni3) (defScope sIni3) .none kV3 dc3 pm3 an3 cd3 ct3), sl3⟩)
    (cf3 : codeIn K cd3 "NoDealing.__init__" = true)
    (kf3 : keepIn K (.ref fE3) = true)
    (tk3 : takerIn K CE3 "found" = some none)
    (nf3 : findIn K (.ref CE3) "found" = some none)
    (lf4 : K.lookup fE4 = some ⟨oc4, od4, .func (fnOf "__init__" "NoOutcome.__init__" (defArgs sIni4) (defBody sIni4) (defScope sIni4) .none kV4 dc4 pm4 an4 cd4 ct4), sl4⟩)
    (cf4 : codeIn K cd4 "NoOutcome.__init__" = true)
    (kf4 : keepIn K (.ref fE4) = true)
    (tk4 : takerIn K CE4 "place" = some none)
    (nf4 : findIn K (.ref CE4) "place" = some none)
    (lf5 : K.lookup fE5 = some ⟨oc5, od5, .func (fnOf "__init__" "NoWorld.__init__" (defArgs sIni5) (defBody sIni5) (defScope sIni5) .none kV5 dc5 pm5 an5 cd5 ct5), sl5⟩)
    (cf5 : codeIn K cd5 "NoWorld.__init__" = true)
    (kf5 : keepIn K (.ref fE5) = true)
    (tk5 : takerIn K CE5 "place" = some none)
    (nf5 : findIn K (.ref CE5) "place" = some none)
    (i_LEAST_NUMBER : nsIn K mainGlobals "LEAST_NUMBER" = some (some (.int (-99) t_LEAST_NUMBER)))
    (i_MOST_NUMBER : nsIn K mainGlobals "MOST_NUMBER" = some (some (.int (99) t_MOST_NUMBER)))
    (i_MOST_FOLK : nsIn K mainGlobals "MOST_FOLK" = some (some (.int (20) t_MOST_FOLK)))
    (gt : specialIn K (.builtin "object.__class__") "__get__" = some (some (.builtin "getset_descriptor.__get__")))
    (tkT : takesIn K (.builtin "object.__class__") = some true)
    (MA0 : nsIn K mainGlobals "world_of" = some (some (.ref mk0)))
    (ML0 : K.lookup mk0 = some ⟨moc0, mod0, .func (fnOf "world_of" "world_of" (defArgs sWO) (defBody sWO) (defScope sWO) .none mkV0 mdc0 mpm0 man0 (.ref mc0) mct0), msl0⟩)
    (MC0 : codeIn K (.ref mc0) "world_of" = true)
    (MK0 : keepIn K (.ref mk0) = true)
    (MD0 : K.lookup mc0 = some ⟨.type "code", modc0, .fields mvs0, mslc0⟩)
    (ME0 : mvs0[11]? = some (.ref pl0))
    (MF0 : ∃ file tf, mvs0.getD 18 .none = .str file tf)
    (MG0 : ∃ i t, mvs0.getD 7 .none = .int i t)
    (MH0 : ∃ b, mvs0.getD 9 .none = .bool b)
    (MI0 : ∃ i t, mvs0.getD 10 .none = .int i t)
    (MA1 : nsIn K mainGlobals "_law_refused" = some (some (.ref mk1)))
    (ML1 : K.lookup mk1 = some ⟨moc1, mod1, .func (fnOf "_law_refused" "_law_refused" (defArgs sRd) (defBody sRd) (defScope sRd) .none mkV1 mdc1 mpm1 man1 (.ref mc1) mct1), msl1⟩)
    (MC1 : codeIn K (.ref mc1) "_law_refused" = true)
    (MK1 : keepIn K (.ref mk1) = true)
    (MD1 : K.lookup mc1 = some ⟨.type "code", modc1, .fields mvs1, mslc1⟩)
    (ME1 : mvs1[11]? = some (.ref pl1))
    (MF1 : ∃ file tf, mvs1.getD 18 .none = .str file tf)
    (MG1 : ∃ i t, mvs1.getD 7 .none = .int i t)
    (MH1 : ∃ b, mvs1.getD 9 .none = .bool b)
    (MI1 : ∃ i t, mvs1.getD 10 .none = .int i t)
    (z_isinstance : nsIn K mainGlobals "isinstance" = some none)
    (z_int : nsIn K mainGlobals "int" = some none)
    (z_bool : nsIn K mainGlobals "bool" = some none)
    (z_len : nsIn K mainGlobals "len" = some none)
    (z_range : nsIn K mainGlobals "range" = some none)
    (z_tuple : nsIn K mainGlobals "tuple" = some none)
    (z_list : nsIn K mainGlobals "list" = some none)
    (z_enumerate : nsIn K mainGlobals "enumerate" = some none)
    (z_max : nsIn K mainGlobals "max" = some none)
    (z_min : nsIn K mainGlobals "min" = some none)
    (e0 : Dn K mg "is_number" sIsNum ["thing"] g0 d0)
    (e1 : Dn K mg "is_whole" sIsWh ["thing", "low", "high"] g1 d1)
    (e2 : Dn K mg "need_number" sNN ["thing", "low", "high"] g2 d2)
    (e3 : Dn K mg "need_hands" sNH ["thing", "folk"] g3 d3)
    (e4 : Dn K mg "hand_of" sHO ["dealing", "at"] g4 d4)
    (e5 : Dn K mg "is_outcome" sIO ["thing"] g5 d5)
    (e6 : Dn K mg "is_two" sIs2 ["thing"] g6 d6)
    (e7 : Dn K mg "all_told" sAT ["folk", "world"] g7 d7)
    (e8 : Dn K mg "seen_of" sSO ["told", "dealing"] g8 d8)
    (e9 : Dn K mg "outcomes_under" sOU ["folk", "world", "dealing"] g9 d9)
    (e10 : Dn K mg "_law_cell" sCell ["_law_script", "_law_k"] g10 d10)
    (e11 : Dn K mg "_law_mix" sMix ["_law_cell_here", "_law_k"] g11 d11)
    (e12 : Dn K mg "_law_begun" sBeg ["_law_cell_here"] g12 d12)
    (e13 : Dn K mg "_law_pull" sPull ["_law_state", "_law_many"] g13 d13)
    (e14 : Dn K mg "_law_outcome" sOut ["_law_state"] g14 d14)
    (e15 : Dn K mg "_law_bad" sBd ["_law_state", "_law_row"] g15 d15)
    (e16 : Dn K mg "_law_refusal" sRl ["_law_folk", "_law_world", "_law_dealing"] g16 d16)
    (e17 : Dn K mg "_law_right" sRt ["_law_listing", "_law_folk", "_law_dealing"] g17 d17)
    (e18 : Dn K mg "law" sLaw ["_law_script"] g18 d18)
    (hb : ∀ (s : Shared) (v : Value), BindsTo s d18 ⟨[v], []⟩ [("_law_script", v)])
    (tabs : ∀ b ∈ ts, h.get? b = some (tabObj #[])) (q0 : pl0 ∈ ts) (q1 : pl1 ∈ ts) (y0 : K.lookup pl0 = none) (y1 : K.lookup pl1 = none) (nd : [pl0, pl1].Nodup)
    : ∃ (fd : FuncData) (T : Tbs) (K2 : Frag), (∀ (s : Shared) (v : Value), BindsTo s fd ⟨[v], []⟩ [("_law_script", v)]) ∧ K2.In h ∧ (∀ b ∈ pls T, K2.lookup b = none) ∧ TbH T h ∧ ∀ base : Heap, K2.In base → base.Ns mainGlobals mg → (∀ b ∈ pls T, base.BuiltinsAt mg b) → FnOk l.prog w K2 mg base CX0 8 fa fd ["_law_script"] (spLaw K2 T) := by
  have e := hfa.symm.trans e18.mg
  cases e
  have hTb : TbH [(pl0, [(posD nW, qW)]), (pl1, [(posL (lamX true), qL), (posL (lamX false), qL)])] h := by
    refine ⟨fun e he => ?_, fun e he => ?_, nd⟩
    · simp only [List.mem_cons, List.not_mem_nil, or_false] at he
      rcases he with rfl | rfl
      · exact tabs _ q0
      · exact tabs _ q1
    · simp only [List.mem_cons, List.not_mem_nil, or_false] at he
      rcases he with rfl | rfl
      · exact ⟨mc0, _, mvs0, X _ _ MD0, rfl, rfl, ME0⟩
      · exact ⟨mc1, _, mvs1, X _ _ MD1, rfl, rfl, ME1⟩
  have hNo : ∀ b ∈ pls [(pl0, [(posD nW, qW)]), (pl1, [(posL (lamX true), qL), (posL (lamX false), qL)])], K.lookup b = none := fun b hm => by
    simp only [pls, List.map_cons, List.map_nil, List.mem_cons, List.not_mem_nil, or_false] at hm
    rcases hm with rfl | rfl
    · exact y0
    · exact y1
  refine ⟨_, _, K, hb, X, hNo, hTb, fun base _ _ hba => ?_⟩
  have m_isinstance := mg_none_of X G z_isinstance
  have m_int := mg_none_of X G z_int
  have m_bool := mg_none_of X G z_bool
  have m_len := mg_none_of X G z_len
  have m_range := mg_none_of X G z_range
  have m_tuple := mg_none_of X G z_tuple
  have m_list := mg_none_of X G z_list
  have m_enumerate := mg_none_of X G z_enumerate
  have m_max := mg_none_of X G z_max
  have m_min := mg_none_of X G z_min
  have T : IsT K := ⟨gt, tkT⟩
  have mD := mg_of X G aD
  have o2 := one2 B eE2 mD (mg_of X G a2) (fun_mk (st := sIni2) lf2 cf2 kf2) tk2
  have o3 := one3 B eE3 mD (mg_of X G a3) (fun_mk (st := sIni3) lf3 cf3 kf3) tk3
  have o4 := one4 B eE4 mD (mg_of X G a4) (fun_mk (st := sIni4) lf4 cf4 kf4) tk4
  have o5 := one5 B eE5 mD (mg_of X G a5) (fun_mk (st := sIni5) lf5 cf5 kf5) tk5
  have n_LEAST_NUMBER := mg_of X G i_LEAST_NUMBER
  have n_MOST_NUMBER := mg_of X G i_MOST_NUMBER
  have n_MOST_FOLK := mg_of X G i_MOST_FOLK
  have FM0 : FunM K mg base "world_of" "world_of" sWO mk0 _ mc0 pl0 := ⟨⟨_, _, _, _, _, _, _, _, rfl, ML0, MC0⟩, ⟨fun h2 X2 => chd_of X X2 MD0 ME0 MF0 MG0 MH0 MI0 (tabs _ q0), hba _ (by simp [pls])⟩⟩
  have FM1 : FunM K mg base "_law_refused" "_law_refused" sRd mk1 _ mc1 pl1 := ⟨⟨_, _, _, _, _, _, _, _, rfl, ML1, MC1⟩, ⟨fun h2 X2 => chd_of X X2 MD1 ME1 MF1 MG1 MH1 MI1 (tabs _ q1), hba _ (by simp [pls])⟩⟩
  have GN_ := ok_isnum (P := l.prog) (w := w) (mg := mg) (base := base) T e0.fn m_isinstance m_int m_bool
  have GN := (e0.df GN_)
  have GW_ := ok_iswh e1.fn GN_ e0.bi e0.kp e0.mg
  have GW := (e1.df GW_)
  have Gm_ := ok_nn e2.fn B o2 GW
  have Gm := (e2.df Gm_)
  have Gh_ := ok_nh e3.fn B o3 GW
  have Gh := (e3.df Gh_)
  have Go_ := ok_ho (P := l.prog) (w := w) (mg := mg) (base := base) e4.fn
  have Go := (e4.df Go_)
  have Gi_ := ok_io T e5.fn GW n_LEAST_NUMBER n_MOST_NUMBER m_isinstance m_tuple m_len m_bool
  have Gi := (e5.df Gi_)
  have G2_ := ok_is2 (P := l.prog) (w := w) (mg := mg) (base := base) T e6.fn m_isinstance m_tuple m_len
  have G2 := (e6.df G2_)
  have M := ok_wd GW m_len
  have W0 := mk_df ML0 MK0 (mg_of X G MA0) bk0 (ok_WO (P := l.prog) (w := w) (T := [(pl0, [(posD nW, qW)]), (pl1, [(posL (lamX true), qL), (posL (lamX false), qL)])]) (al := [(posD nW, qW)]) FM0 (List.mem_cons_self ..) ⟨List.mem_singleton.mpr rfl, fun a h _ _ => by rw [List.mem_singleton.mp h]⟩ m_tuple)
  have Ga_ := ok_AT e7.fn B o5 M G2 Gi m_range
  have Ga := (e7.df Ga_)
  have Gs_ := ok_SO e8.fn Go m_enumerate
  have Gs := (e8.df Gs_)
  have Gu_ := ok_OU e9.fn Gm Gh Ga Gs n_MOST_FOLK
  have Gu := (e9.df Gu_)
  have Z : KitO K mg D CE2 CE3 CE4 CE5 := ⟨T, cat_base B, mD, mg_of X G a2, mg_of X G a3, mg_of X G a4, mg_of X G a5, fld_of eE2 nf2, fld_of eE3 nf3, fld_of eE5 nf5, mro_base eE2, mro_base eE3, mro_base eE5, kit_same,
    kit_anyC (kit_no B eE2 eE3 (by decide +kernel)) (kit_anyC (kit_no B eE2 eE4 (by decide +kernel)) (kit_anyC (kit_no B eE2 eE5 (by decide +kernel)) kit_any0)), kit_no B eE3 eE2 (by decide +kernel), kit_same,
    kit_anyC (kit_no B eE3 eE4 (by decide +kernel)) (kit_anyC (kit_no B eE3 eE5 (by decide +kernel)) kit_any0), kit_no B eE5 eE2 (by decide +kernel), kit_no B eE5 eE3 (by decide +kernel), kit_same, kit_no B eE5 eE4 (by decide +kernel)⟩
  have Lc_ := ok_cell (P := l.prog) (w := w) (mg := mg) (base := base) e10.fn m_len
  have Lc := (e10.df Lc_)
  have Lm_ := ok_mix (P := l.prog) (w := w) (mg := mg) (base := base) e11.fn
  have Lm := (e11.df Lm_)
  have Lb_ := ok_beg (P := l.prog) (w := w) (mg := mg) (base := base) e12.fn m_max
  have Lb := (e12.df Lb_)
  have Lp_ := ok_pull (T := [(pl0, [(posD nW, qW)]), (pl1, [(posL (lamX true), qL), (posL (lamX false), qL)])]) e13.fn Lm
  have Lp := (e13.df Lp_)
  have Lo_ := ok_ouB e14.fn Lp
  have Lo := (e14.df Lo_)
  have Ld_ := ok_Bd e15.fn Lp m_list m_len
  have Ld := (e15.df Ld_)
  have Lf_ := ok_Rl e16.fn Z Gu m_isinstance
  have Lf := (e16.df Lf_)
  have Lr_ := ok_Rt T e17.fn W0 Gu m_range m_isinstance m_list m_tuple m_bool
  have Lr := (e17.df Lr_)
  have W1 := mk_df ML1 MK1 (mg_of X G MA1) bk1 (ok_Rd (P := l.prog) (w := w) (T := [(pl0, [(posD nW, qW)]), (pl1, [(posL (lamX true), qL), (posL (lamX false), qL)])]) (al := [(posL (lamX true), qL), (posL (lamX false), qL)]) FM1 (List.mem_cons_of_mem _ (List.mem_cons_self ..)) ⟨List.mem_cons_self .., fun a h _ _ => by
    simp only [List.mem_cons, List.not_mem_nil, or_false] at h
    rcases h with rfl | rfl <;> rfl⟩ ⟨List.mem_cons_of_mem _ (List.mem_cons_self ..), fun a h _ _ => by
    simp only [List.mem_cons, List.not_mem_nil, or_false] at h
    rcases h with rfl | rfl <;> rfl⟩ W0 Lp Lf Ld m_min m_len m_list)
  exact ok_law e18.fn Lc Lb Lp Lo Lr W1 m_range m_max m_min m_len
theorem walk {l : OpenLaw} {q : Program} {loose : List Str} {XP : (Str → Option Value) → Heap → Prop} {YP : World → Heap → Prop} {d : DefRec} {K : Params → Frag} (hn : l.most = some 63) (hdf : d.params.defaults = [])
    {ts : List Addr} (hY : ∀ (w : World) (h : Heap), YP w h → (K w.params).In h ∧ ∀ b ∈ ts, h.get? b = some (tabObj #[]))
    (F : ∀ (w : World) (mg : Str → Option Value) (fa : Addr) (h : Heap), (K w.params).In h → (∀ b ∈ ts, h.get? b = some (tabObj #[])) → h.Ns mainGlobals mg → (∃ bm ob, mg "__builtins__" = some (.ref bm) ∧ bm ≠ builtinsNs ∧ h.get? bm = some ob ∧ ob.cls = .type "module" ∧ ob.dict = some builtinsNs ∧ ob.data = .plain) → mg d.name = some (.ref fa) →
      ∃ (fd : FuncData) (T : Tbs) (K2 : Frag), (∀ (s : Shared) (v : Value), BindsTo s fd ⟨[v], []⟩ [("_law_script", v)]) ∧ K2.In h ∧ (∀ b ∈ pls T, K2.lookup b = none) ∧ TbH T h ∧ ∀ base : Heap, K2.In base → base.Ns mainGlobals mg → (∀ b ∈ pls T, base.BuiltinsAt mg b) → FnOk l.prog w K2 mg base CX0 8 fa fd ["_law_script"] (spLaw K2 T)) :
    WalkO q loose XP YP l.row.toRowW d [] (fun f vs => PySem.call f vs) :=
  L2.walk_ofT (n := 63) (k := 8) (x := "_law_script") (sp := fun K2 T => spLaw K2 T) hn (by decide) hdf ⟨rfl, by decide, by decide, rfl⟩ hY F fun _ T H a ns hl hS ti => ⟨a, ns, rfl, hS, hl, ti, fun _ => rfl⟩
end My
open PySem PySem.W PyProof.Rows
set_option Elab.async false
set_option maxRecDepth 100000 in
set_option maxHeartbeats 0 in
theorem PySem.Challenge.cw_trialdeal_k60_outcomes_under_holds : PySem.Challenge.rw_trialdeal_k60_outcomes_under.Holds := by
  w_on; o_law; k_head; (case hw => w_witness2)
  k_fill
  refine My.walk (l := PySem.Challenge.rw_trialdeal_k60_outcomes_under) rfl rfl (fun w h Y => ⟨PySem.W.km_in_of Y, PySem.W.km_tabs_of Y⟩) ?F
  case F =>
    intro w mg fa h KX tabs G hbm hmg
    refine' My.all_mk KX G hmg (My.base_mk ?my_lD ?my_lN ?my_sk ?my_ni ?my_gaD ?my_rdD ?my_inD ?my_fiD ?my_kpD ?my_gbD ?my_hkD ?my_caD)
      (My.err_mk "NoNumber" ?my_l2 ?my_i2 ?my_t2 ?my_k2 ?my_s2 ?my_g2 ?my_h2 ?my_c2)
      (My.err_mk "NoDealing" ?my_l3 ?my_i3 ?my_t3 ?my_k3 ?my_s3 ?my_g3 ?my_h3 ?my_c3)
      (My.err_mk "NoOutcome" ?my_l4 ?my_i4 ?my_t4 ?my_k4 ?my_s4 ?my_g4 ?my_h4 ?my_c4)
      (My.err_mk "NoWorld" ?my_l5 ?my_i5 ?my_t5 ?my_k5 ?my_s5 ?my_g5 ?my_h5 ?my_c5)
      ?f_aD ?f_a2 ?f_a3 ?f_a4 ?f_a5 ?f_lf2 ?f_cf2 ?f_kf2 ?f_tk2 ?f_nf2 ?f_lf3 ?f_cf3 ?f_kf3 ?f_tk3 ?f_nf3 ?f_lf4 ?f_cf4 ?f_kf4 ?f_tk4 ?f_nf4 ?f_lf5 ?f_cf5 ?f_kf5 ?f_tk5 ?f_nf5 ?f_i_LEAST_NUMBER ?f_i_MOST_NUMBER ?f_i_MOST_FOLK ?f_gt ?f_tkT ?f_MA0 ?f_ML0 ?f_MC0 ?f_MK0 ?f_MD0 ?f_ME0 ?f_MF0 ?f_MG0 ?f_MH0 ?f_MI0 ?f_MA1 ?f_ML1 ?f_MC1 ?f_MK1 ?f_MD1 ?f_ME1 ?f_MF1 ?f_MG1 ?f_MH1 ?f_MI1 ?f_z_isinstance ?f_z_int ?f_z_bool ?f_z_len ?f_z_range ?f_z_tuple ?f_z_list ?f_z_enumerate ?f_z_max ?f_z_min
      (My.dn_of My.bp0 KX G ?my_A0 ?my_L0 ?my_C0 ?my_K0)
      (My.dn_of My.bp1 KX G ?my_A1 ?my_L1 ?my_C1 ?my_K1)
      (My.dn_of My.bp2 KX G ?my_A2 ?my_L2 ?my_C2 ?my_K2)
      (My.dn_of My.bp3 KX G ?my_A3 ?my_L3 ?my_C3 ?my_K3)
      (My.dn_of My.bp4 KX G ?my_A4 ?my_L4 ?my_C4 ?my_K4)
      (My.dn_of My.bp5 KX G ?my_A5 ?my_L5 ?my_C5 ?my_K5)
      (My.dn_of My.bp6 KX G ?my_A6 ?my_L6 ?my_C6 ?my_K6)
      (My.dn_of My.bp7 KX G ?my_A7 ?my_L7 ?my_C7 ?my_K7)
      (My.dn_of My.bp8 KX G ?my_A8 ?my_L8 ?my_C8 ?my_K8)
      (My.dn_of My.bp9 KX G ?my_A9 ?my_L9 ?my_C9 ?my_K9)
      (My.dn_of My.bp10 KX G ?my_A10 ?my_L10 ?my_C10 ?my_K10)
      (My.dn_of My.bp11 KX G ?my_A11 ?my_L11 ?my_C11 ?my_K11)
      (My.dn_of My.bp12 KX G ?my_A12 ?my_L12 ?my_C12 ?my_K12)
      (My.dn_of My.bp13 KX G ?my_A13 ?my_L13 ?my_C13 ?my_K13)
      (My.dn_of My.bp14 KX G ?my_A14 ?my_L14 ?my_C14 ?my_K14)
      (My.dn_of My.bp15 KX G ?my_A15 ?my_L15 ?my_C15 ?my_K15)
      (My.dn_of My.bp16 KX G ?my_A16 ?my_L16 ?my_C16 ?my_K16)
      (My.dn_of My.bp17 KX G ?my_A17 ?my_L17 ?my_C17 ?my_K17)
      (My.dn_of My.bp18 KX G ?my_A18 ?my_L18 ?my_C18 ?my_K18)
      (fun s v => .of_eq rfl) tabs ?f_q0 ?f_q1 ?f_y0 ?f_y1 ?f_nd
    (case f_aD => k_is); (case f_a2 => k_is); (case f_a3 => k_is); (case f_a4 => k_is); (case f_a5 => k_is); (case my_lD => k_is); (case my_lN => k_is)
    (case my_sk => exact My.strKeys_of rfl)
    (case my_ni => first | rfl | decide +kernel)
    (case my_gaD => k_is); (case my_rdD => k_is); (case my_inD => k_is); (case my_fiD => k_is); (case my_kpD => k_is); (case my_gbD => k_is); (case my_hkD => k_is); (case my_caD => k_is)
    (case my_l2 => k_is); (case my_i2 => k_is); (case my_t2 => k_is); (case my_k2 => k_is); (case my_s2 => k_is); (case my_g2 => k_is); (case my_h2 => k_is); (case my_c2 => k_is)
    (case my_l3 => k_is); (case my_i3 => k_is); (case my_t3 => k_is); (case my_k3 => k_is); (case my_s3 => k_is); (case my_g3 => k_is); (case my_h3 => k_is); (case my_c3 => k_is)
    (case my_l4 => k_is); (case my_i4 => k_is); (case my_t4 => k_is); (case my_k4 => k_is); (case my_s4 => k_is); (case my_g4 => k_is); (case my_h4 => k_is); (case my_c4 => k_is)
    (case my_l5 => k_is); (case my_i5 => k_is); (case my_t5 => k_is); (case my_k5 => k_is); (case my_s5 => k_is); (case my_g5 => k_is); (case my_h5 => k_is); (case my_c5 => k_is)
    (case f_lf2 => k_is); (case f_cf2 => k_is); (case f_kf2 => k_is); (case f_tk2 => k_is); (case f_nf2 => k_is); (case f_lf3 => k_is); (case f_cf3 => k_is); (case f_kf3 => k_is)
    (case f_tk3 => k_is); (case f_nf3 => k_is); (case f_lf4 => k_is); (case f_cf4 => k_is); (case f_kf4 => k_is); (case f_tk4 => k_is); (case f_nf4 => k_is); (case f_lf5 => k_is)
    (case f_cf5 => k_is); (case f_kf5 => k_is); (case f_tk5 => k_is); (case f_nf5 => k_is); (case f_i_LEAST_NUMBER => k_is); (case f_i_MOST_NUMBER => k_is); (case f_i_MOST_FOLK => k_is); (case f_gt => k_is)
    (case f_tkT => k_is); (case f_MA0 => k_is); (case f_ML0 => k_is); (case f_MC0 => k_is); (case f_MK0 => k_is); (case f_MD0 => k_is); (case f_ME0 => exact rfl); (case f_MF0 => exact ⟨_, _, rfl⟩)
    (case f_MG0 => exact ⟨_, _, rfl⟩); (case f_MH0 => exact ⟨_, rfl⟩); (case f_MI0 => exact ⟨_, _, rfl⟩); (case f_MA1 => k_is); (case f_ML1 => k_is); (case f_MC1 => k_is); (case f_MK1 => k_is); (case f_MD1 => k_is)
    (case f_ME1 => exact rfl); (case f_MF1 => exact ⟨_, _, rfl⟩); (case f_MG1 => exact ⟨_, _, rfl⟩); (case f_MH1 => exact ⟨_, rfl⟩); (case f_MI1 => exact ⟨_, _, rfl⟩); (case f_z_isinstance => k_is); (case f_z_int => k_is); (case f_z_bool => k_is)
    (case f_z_len => k_is); (case f_z_range => k_is); (case f_z_tuple => k_is); (case f_z_list => k_is); (case f_z_enumerate => k_is); (case f_z_max => k_is); (case f_z_min => k_is)
    (case my_A0 => k_is); (case my_L0 => k_is); (case my_C0 => k_is); (case my_K0 => k_is)
    (case my_A1 => k_is); (case my_L1 => k_is); (case my_C1 => k_is); (case my_K1 => k_is)
    (case my_A2 => k_is); (case my_L2 => k_is); (case my_C2 => k_is); (case my_K2 => k_is)
    (case my_A3 => k_is); (case my_L3 => k_is); (case my_C3 => k_is); (case my_K3 => k_is)
    (case my_A4 => k_is); (case my_L4 => k_is); (case my_C4 => k_is); (case my_K4 => k_is)
    (case my_A5 => k_is); (case my_L5 => k_is); (case my_C5 => k_is); (case my_K5 => k_is)
    (case my_A6 => k_is); (case my_L6 => k_is); (case my_C6 => k_is); (case my_K6 => k_is)
    (case my_A7 => k_is); (case my_L7 => k_is); (case my_C7 => k_is); (case my_K7 => k_is)
    (case my_A8 => k_is); (case my_L8 => k_is); (case my_C8 => k_is); (case my_K8 => k_is)
    (case my_A9 => k_is); (case my_L9 => k_is); (case my_C9 => k_is); (case my_K9 => k_is)
    (case my_A10 => k_is); (case my_L10 => k_is); (case my_C10 => k_is); (case my_K10 => k_is)
    (case my_A11 => k_is); (case my_L11 => k_is); (case my_C11 => k_is); (case my_K11 => k_is)
    (case my_A12 => k_is); (case my_L12 => k_is); (case my_C12 => k_is); (case my_K12 => k_is)
    (case my_A13 => k_is); (case my_L13 => k_is); (case my_C13 => k_is); (case my_K13 => k_is)
    (case my_A14 => k_is); (case my_L14 => k_is); (case my_C14 => k_is); (case my_K14 => k_is)
    (case my_A15 => k_is); (case my_L15 => k_is); (case my_C15 => k_is); (case my_K15 => k_is)
    (case my_A16 => k_is); (case my_L16 => k_is); (case my_C16 => k_is); (case my_K16 => k_is)
    (case my_A17 => k_is); (case my_L17 => k_is); (case my_C17 => k_is); (case my_K17 => k_is)
    (case my_A18 => k_is); (case my_L18 => k_is); (case my_C18 => k_is); (case my_K18 => k_is)
    (case f_q0 => decide); (case f_q1 => decide); (case f_y0 => kernel_rfl); (case f_y1 => kernel_rfl); (case f_nd => decide)
