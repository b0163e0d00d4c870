import PyProof.Rows.All
import Wide.All
import OpenK.AllK
import Wide.FinOn
import Lean
import PyProof.EqAt
import PyProof.EqKinds
import PyProof.TupleCall
import PyProof.ExcClass2
import PyProof.InstStoreFacts
import PyProof.ExcArgs
import PyProof.ExcInit
import PyProof.ExcBaseAll.ValueError
import KE.KIsAll
import PyProof.RulesRaise
import PyProof.RulesAs
import PyProof.RaisesMany
import PyProof.NeKinds
import PyProof.EnumFor
import PyProof.EnumStmt
import PyProof.EnumMake
import PyProof.Rows.EnumRows
import PyProof.CompFree
import KE.KIntText
import PyProof.StrBlockG
import PyProof.StrBlockH
import PyProof.StrWalks
import PyProof.Rows.StrNews2
import PyProof.Rows.StrOr
import PyProof.Rows.Digits
import PyProof.StrBlockL
import PyProof.MeetsStr2
import PyProof.CompMap
import KE.IntTextLaws
import PyProof.Rows.StrPartPair
import PyProof.StrLawsTight
import PyProof.StrLawsChain
import PyProof.Rows.StrIntSpec
import PyProof.Rows.StrItems
import PyProof.ReprRoads
import PyProof.ReprBulk
import PyProof.FitsInt
import PyProof.CallFns
import PyProof.Rows.FactsT3
import PyProof.ListRange
import PyProof.TupleOfSeq
import PyProof.TupleOfGen
import PyProof.ConsumeWalk
import PyProof.Rows.SeqGen
import PyProof.CompUse
import KE.KUnpack
import PyProof.Draws
import PyProof.Rows.RuleB_bool
import PyProof.WalkInts
import PyProof.SeqI3
import KE.KRevSl
import KE.BitLaws
import PyProof.Rows.SumAny
import PyProof.InstEq
import KE.KEqDict
import KE.KListMore
import PySem.Challenge.RW_trialdeal_k07_rules_refused
set_option Elab.async false
set_option linter.all false
set_option maxRecDepth 100000
namespace L2
open PySem PySem.Spec PyProof.Rows
abbrev Key := Sum Int Str
def keyIs : Key → Value → Bool
  | .inl k, v => Value.isInt k v
  | .inr x, v => Value.isStrOf x v
def keyH (w : World) : Key → Int
  | .inl k => hashInt k
  | .inr x => hashStr w x
theorem keyIs_shape : ∀ {k : Key} {v : Value}, keyIs k v = true → (∃ i t, k = Sum.inl i ∧ v = Value.int i t) ∨ (∃ x t, k = Sum.inr x ∧ v = Value.str x t)
  | .inl i, v, h => by
    obtain ⟨t, e⟩ := Value.isInt_shape (k := i) (v := v) h
    exact .inl ⟨i, t, rfl, e⟩
  | .inr x, v, h => by
    obtain ⟨t, e⟩ := Value.isStrOf_shape (x := x) (v := v) h
    exact .inr ⟨x, t, rfl, e⟩
theorem key_ll (a b : Int) : decide ((Sum.inl a : Key) = Sum.inl b) = (a == b) := by
  by_cases e : a = b
  · subst e; simp
  · have h : ¬ (Sum.inl a : Key) = Sum.inl b := fun q => e (Sum.inl.inj q)
    rw [decide_eq_false h]
    exact (beq_eq_false_iff_ne.mpr e).symm
theorem key_rr (a b : Str) : decide ((Sum.inr a : Key) = Sum.inr b) = decide (a = b) := by
  by_cases e : a = b
  · subst e; simp
  · have h : ¬ (Sum.inr a : Key) = Sum.inr b := fun q => e (Sum.inr.inj q)
    rw [decide_eq_false h, decide_eq_false e]
theorem key_lr (a : Int) (b : Str) : decide ((Sum.inl a : Key) = Sum.inr b) = false := decide_eq_false (fun q => nomatch q)
theorem key_rl (a : Str) (b : Int) : decide ((Sum.inr a : Key) = Sum.inl b) = false := decide_eq_false (fun q => nomatch q)
def mixKind (prog : Program) (w : World) : PySem.KeyKind prog w Key where
  is := keyIs
  hash := keyH w
  inj := fun v a b ha hb => by
    rcases keyIs_shape ha with ⟨i, t, rfl, rfl⟩ | ⟨x, t, rfl, rfl⟩
    · rcases keyIs_shape hb with ⟨j, u, rfl, e⟩ | ⟨y, u, rfl, e⟩
      · injection e with e1 _; rw [e1]
      · exact nomatch e
    · rcases keyIs_shape hb with ⟨j, u, rfl, e⟩ | ⟨y, u, rfl, e⟩
      · exact nomatch e
      · injection e with e1 _; rw [e1]
  byValue := fun k v h => by
    rcases keyIs_shape h with ⟨i, t, rfl, rfl⟩ | ⟨x, t, rfl, rfl⟩ <;> rfl
  pyHash := fun hv h => by
    rcases keyIs_shape hv with ⟨i, t, rfl, rfl⟩ | ⟨x, t, rfl, rfl⟩
    · exact wpAny_pyHash_int h
    · exact wpAny_pyHash_str h
  eqBool := fun hu hv h => by
    rcases keyIs_shape hu with ⟨i, t, rfl, rfl⟩ | ⟨x, t, rfl, rfl⟩
    · rcases keyIs_shape hv with ⟨j, u, rfl, rfl⟩ | ⟨y, u, rfl, rfl⟩
      · rw [key_ll] at h; exact wpAny_eqBool_int h
      · rw [key_lr] at h; exact SeqAt.EqAt.int_str i t y u _ _ _ _ h
    · rcases keyIs_shape hv with ⟨j, u, rfl, rfl⟩ | ⟨y, u, rfl, rfl⟩
      · rw [key_rl] at h; exact SeqAt.EqAt.str_int x t j u _ _ _ _ h
      · rw [key_rr] at h; exact wpAny_eqBool_str h
  «strs» := fun k x t v h => by
    rcases keyIs_shape h with ⟨i, u, rfl, e⟩ | ⟨y, u, rfl, e⟩
    · exact nomatch e
    · injection e with e1 _
      subst e1
      cases v <;> rfl
theorem mixKind_is (prog : Program) (w : World) (k : Key) (v : Value) : (mixKind prog w).is k v = keyIs k v := rfl
end L2
namespace L2
open PySem PySem.Spec PyProof.Rows
inductive V where
  | non | bl (b : Bool) | int (i : Int) | str (x : Str) | byt (b : Array UInt8) | flt (b : UInt64) | ref (a : Addr) | ty (n : String)
  deriving DecidableEq
def RelV : V → Value → Prop
  | .non, u => u = Value.none
  | .bl b, u => u = Value.bool b
  | .int i, u => ∃ t, u = Value.int i t
  | .str x, u => ∃ t, u = Value.str x t
  | .byt b, u => ∃ t, u = Value.bytes b t
  | .flt b, u => ∃ t, u = Value.float b t
  | .ref a, u => u = Value.ref a
  | .ty n, u => u = Value.type n
abbrev Vals : List V → List Value → Prop := Paired RelV
theorem Vals.length {xs : List V} {us : List Value} (r : Vals xs us) : xs.length = us.length := Paired.length r
theorem Vals.get : ∀ {xs : List V} {us : List Value} {i : Nat} {x : V}, Vals xs us → xs[i]? = some x → ∃ u, us[i]? = some u ∧ RelV x u
  | _, _, _, _, .nil, e => by simp at e
  | _, _, 0, _, .cons r _, e => by simp at e; subst e; exact ⟨_, rfl, r⟩
  | _, _, i + 1, x, .cons _ t, e => by
    obtain ⟨u, h1, h2⟩ := Vals.get (i := i) (x := x) t (by simpa using e)
    exact ⟨u, by simpa using h1, h2⟩
theorem Vals.set {x : V} {u : Value} (r : RelV x u) : ∀ {xs : List V} {us : List Value} (i : Nat), Vals xs us → Vals (xs.set i x) (us.set i u)
  | _, _, _, .nil => .nil
  | _, _, 0, .cons _ t => .cons r t
  | _, _, i + 1, .cons q t => .cons q (Vals.set r i t)
theorem Vals.append : ∀ {xs ys : List V} {us ws : List Value}, Vals xs us → Vals ys ws → Vals (xs ++ ys) (us ++ ws)
  | _, _, _, _, .nil, s => s
  | _, _, _, _, .cons r t, s => .cons r (Vals.append t s)
theorem Vals.take : ∀ {xs : List V} {us : List Value} (n : Nat), Vals xs us → Vals (xs.take n) (us.take n)
  | _, _, 0, _ => .nil
  | _, _, _ + 1, .nil => .nil
  | _, _, n + 1, .cons r t => .cons r (Vals.take n t)
theorem Vals.drop : ∀ {xs : List V} {us : List Value} (n : Nat), Vals xs us → Vals (xs.drop n) (us.drop n)
  | _, _, 0, r => r
  | _, _, _ + 1, .nil => .nil
  | _, _, n + 1, .cons _ t => Vals.drop n t
theorem Vals.none_of : ∀ {xs : List V} {us : List Value} {i : Nat}, Vals xs us → xs[i]? = none → us[i]? = none := fun {xs us i} r e => by
  have h1 := r.length
  have h2 : xs.length ≤ i := List.getElem?_eq_none_iff.mp e
  exact List.getElem?_eq_none_iff.mpr (by omega)
def RelO : Option V → Option Value → Prop
  | some v, some u => RelV v u
  | none, none => True
  | _, _ => False
def KV {κ : Type} : List (κ × V) → List (κ × Value) → Prop := Paired fun (p : κ × V) (q : κ × Value) => p.1 = q.1 ∧ RelV p.2 q.2
def kV : Key → V
  | .inl i => .int i
  | .inr x => .str x
inductive HO where
  | lst (xs : List V)
  | tup (xs : List V)
  | dK (kvs : List (Key × V)) | dT (kvs : List (List Key × V))
  | set (S : Int → Bool) (n : Nat)
  | ins (C dx : Addr) (fs : List (Str × V))
  | own (x : Addr)
  | xd (fs : List (Str × V))
  | met (f x : Addr)
  | rng (lo hi : Int)
  | frz (o : Obj) (u : HO)
  | tbl (ps : Array Value)
  | ext (φ : Heap → Prop)
abbrev Hp := Addr → Option HO
def upd (H : Hp) (a : Addr) (o : HO) : Hp := fun b => if b = a then some o else H b
theorem upd_same {H : Hp} {a : Addr} {o : HO} : upd H a o a = some o := by unfold upd; rw [if_pos rfl]
theorem upd_ne {H : Hp} {a b : Addr} {o : HO} (h : b ≠ a) : upd H a o b = H b := by unfold upd; rw [if_neg h]
theorem upd_upd {H : Hp} {a : Addr} {o u : HO} : upd (upd H a o) a u = upd H a u := by
  funext b; unfold upd; split <;> rfl
theorem ne_of_none {H : Hp} {a b : Addr} {o : HO} (h : H a = some o) (h' : H b = none) : a ≠ b := by
  intro e; subst e; rw [h] at h'; cases h'
section
variable (P : Program) (w : World)
def ObjOk (H : Hp) (h : Heap) (a : Addr) : HO → Prop
  | .lst xs => xs.length ≤ sizeLine ∧ ∃ (its : List Value) (n : Nat), Vals xs its ∧ h.get? a = some { cls := .type "list", data := .seq its.toArray n }
  | .tup xs => xs.length ≤ sizeLine ∧ ∃ its : List Value, Vals xs its ∧ IsTup h a its.toArray
  | .dK kvs => kvs.length ≤ sizeLine ∧ (a == sysModules) = false ∧ ∃ vs, KV kvs vs ∧ h.DictOf (mixKind P w) a vs
  | .dT kvs => kvs.length ≤ sizeLine ∧ (a == sysModules) = false ∧ ∃ xs : List (List Key × Addr × Value),
      Paired (fun (p : List Key × V) (q : List Key × Addr × Value) => p.1 = q.1 ∧ H q.2.1 = some (.tup (p.1.map kV)) ∧ RelV p.2 q.2.2) kvs xs ∧
      ∃ o es ep, h.get? a = some o ∧ o.ExactDict ∧ o.data = .dict es ep ∧ es.toList = xs.map (entryOfKey (tupleKind (mixKind P w))) ∧ (xs.map (·.1)).Nodup
  | .set S n => h.SetOf (intKind P w) a S n
  | .ins C dx fs => H dx = some (.own a) ∧ fs.length ≤ 1000 ∧ dx ≠ a ∧ h.get? a = some (PySem.W.instObj C dx) ∧
      ∃ mA, h.Ns1 dx mA ∧ (∀ f, RelO (fs.lookup f) (mA f)) ∧ PySem.Within mA (fs.map (·.1))
  | .own _ => ∃ o, h.get? a = some o
  | .xd fs => ∃ mA, h.Ns1 a mA ∧ ∀ f, RelO (fs.lookup f) (mA f)
  | .rng lo hi => ∃ t u v, h.get? a = some { cls := .type "range", data := .fields #[.int lo t, .int hi u, .int 1 v] }
  | .frz o u => h.get? a = some o ∧ ObjOk H h a u
  | .tbl ps => h.get? a = some { cls := .none, data := .fields ps }
  | .met f x => h.get? a = some (PySem.W.methodObj (.ref f) (.ref x))
  | .ext φ => φ h ∧ (∃ o, h.get? a = some o) ∧ ∀ h1 h2 : Heap, φ h1 → (∀ o, h1.get? a = some o → h2.get? a = some o) → φ h2
def HOk (H : Hp) (h : Heap) : Prop := ∀ a o, H a = some o → ObjOk P w H h a o
end
section
variable {P : Program} {w : World} {H H' : Hp} {h h' : Heap} {a : Addr} {o : HO}
theorem ObjOk.lt (x : ObjOk P w H h a o) : a < h.objs.size := by
  cases o with
  | lst xs => obtain ⟨_, _, _, _, e⟩ := x; exact Heap.lt_size e
  | tup xs => obtain ⟨_, _, _, p⟩ := x; exact p.lt
  | dK kvs => obtain ⟨_, _, _, _, o, _, _, e, _⟩ := x; exact Heap.lt_size e
  | dT kvs => obtain ⟨_, _, _, _, o, _, _, e, _⟩ := x; exact Heap.lt_size e
  | set S n => obtain ⟨o, _, _, _, e, _⟩ := x; exact Heap.lt_size e
  | ins C dx fs => obtain ⟨_, _, _, e, _⟩ := x; exact Heap.lt_size e
  | own y => obtain ⟨_, e⟩ := x; exact Heap.lt_size e
  | xd fs => obtain ⟨_, ⟨_, _, _, e, _⟩, _⟩ := x; exact Heap.lt_size e
  | rng lo hi => obtain ⟨_, _, _, e⟩ := x; exact Heap.lt_size e
  | frz ob u => obtain ⟨e, _⟩ := x; exact Heap.lt_size e
  | tbl ps => exact Heap.lt_size (show h.get? a = some _ from x)
  | met f y => exact Heap.lt_size (show h.get? a = some _ from x)
  | ext φ => obtain ⟨_, ⟨_, e⟩, _⟩ := x; exact Heap.lt_size e
theorem Paired.mapP {α β : Type} {F G : α → β → Prop} : ∀ {l₁ : List α} {l₂ : List β}, Paired F l₁ l₂ → (∀ a b, F a b → G a b) → Paired G l₁ l₂
  | _, _, .nil, _ => .nil
  | _, _, .cons r t, f => .cons (f _ _ r) (Paired.mapP t f)
theorem ObjOk.stay (x : ObjOk P w H h a o) (k : ∀ b u, (b = a ∨ H b = some (.own a)) → h.get? b = some u → h'.get? b = some u)
    (ho : ∀ b, H b = some (.own a) → H' b = some (.own a)) (ht : ∀ b xs, H b = some (.tup xs) → H' b = some (.tup xs)) : ObjOk P w H' h' a o := by
  induction o with
  | lst xs => obtain ⟨z, its, n, r, e⟩ := x; exact ⟨z, its, n, r, k _ _ (.inl rfl) e⟩
  | tup xs => obtain ⟨z, its, r, ob, e, c⟩ := x; exact ⟨z, its, r, ob, k _ _ (.inl rfl) e, c⟩
  | dK kvs => obtain ⟨z, y, vs, r, ob, es, ep, e, c⟩ := x; exact ⟨z, y, vs, r, ob, es, ep, k _ _ (.inl rfl) e, c⟩
  | dT kvs =>
    obtain ⟨z, y, xs, r, ob, es, ep, e, c⟩ := x
    exact ⟨z, y, xs, Paired.mapP r fun p q z => ⟨z.1, ht _ _ z.2.1, z.2.2⟩, ob, es, ep, k _ _ (.inl rfl) e, c⟩
  | set S n => obtain ⟨ob, es, ep, t, e, c⟩ := x; exact ⟨ob, es, ep, t, k _ _ (.inl rfl) e, c⟩
  | ins C dx fs =>
    obtain ⟨d, z, ne, e, mA, ⟨od, es, ep, e2, c⟩, r⟩ := x
    exact ⟨ho _ d, z, ne, k _ _ (.inl rfl) e, mA, ⟨od, es, ep, k _ _ (.inr d) e2, c⟩, r⟩
  | own y => obtain ⟨ob, e⟩ := x; exact ⟨ob, k _ _ (.inl rfl) e⟩
  | xd fs => obtain ⟨mA, ⟨od, es, ep, e, c⟩, r⟩ := x; exact ⟨mA, ⟨od, es, ep, k _ _ (.inl rfl) e, c⟩, r⟩
  | rng lo hi => obtain ⟨t, u, v, e⟩ := x; exact ⟨t, u, v, k _ _ (.inl rfl) e⟩
  | frz ob u ih => obtain ⟨e, q⟩ := x; exact ⟨k _ _ (.inl rfl) e, ih q⟩
  | tbl ps =>
    have e : h.get? a = some { cls := .none, data := .fields ps } := x
    show h'.get? a = some { cls := .none, data := .fields ps }
    exact k a _ (.inl rfl) e
  | met f y =>
    have e : h.get? a = some (PySem.W.methodObj (.ref f) (.ref y)) := x
    show h'.get? a = some (PySem.W.methodObj (.ref f) (.ref y))
    exact k a _ (.inl rfl) e
  | ext φ => obtain ⟨p, ⟨o, e⟩, st⟩ := x; exact ⟨st _ _ p fun o q => k _ _ (.inl rfl) q, ⟨o, k _ _ (.inl rfl) e⟩, st⟩
theorem HOk.lt (x : HOk P w H h) (e : H a = some o) : a < h.objs.size := (x a o e).lt
theorem HOk.fresh (x : HOk P w H h) (e : h.objs.size ≤ a) : H a = none := by
  cases q : H a with
  | none => rfl
  | some u => exact absurd (Nat.lt_of_lt_of_le (x.lt q) e) (Nat.lt_irrefl _)
theorem HOk.kept (x : HOk P w H h) (k : ∀ b u, h.get? b = some u → h'.get? b = some u) : HOk P w H h' := fun a o e =>
  (x a o e).stay (fun b u _ q => k b u q) (fun _ q => q) fun _ _ q => q
theorem HOk.laid (x : HOk P w H h) (k : ∀ b u, h.get? b = some u → h'.get? b = some u) (hp : h.objs.size ≤ a) (new : ObjOk P w (upd H a o) h' a o) : HOk P w (upd H a o) h' := fun b u e => by
  have hn := x.fresh hp
  by_cases hb : b = a
  · subst hb; rw [upd_same] at e; cases e; exact new
  · rw [upd_ne hb] at e
    exact (x b u e).stay (fun c v _ q => k c v q) (fun c q => by rw [upd_ne (ne_of_none q hn)]; exact q) fun c xs q => by rw [upd_ne (ne_of_none q hn)]; exact q
end
def Rd (H : Hp) (a : Addr) (u : HO) : Prop := H a = some u ∨ ∃ o, H a = some (.frz o u)
theorem Rd.of {H : Hp} {a : Addr} {u : HO} (h : H a = some u) : Rd H a u := .inl h
theorem Rd.ok {P : Program} {w : World} {H : Hp} {h : Heap} {a : Addr} {u : HO} (r : Rd H a u) (x : HOk P w H h) : ObjOk P w H h a u := by
  rcases r with r | ⟨o, r⟩
  · exact x a u r
  · obtain ⟨_, q⟩ := x a _ r
    exact q
def Mut : Option HO → Prop
  | some (.lst _) => True
  | some (.dK _) => True
  | some (.dT _) => True
  | some (.set _ _) => True
  | some (.ins _ _ _) => True
  | some (.ext _) => True
  | _ => False
section
variable {P : Program} {w : World} {H : Hp} {h h' : Heap} {x e : Addr} {o' : HO}
theorem HOk.write (ok : HOk P w H h) (mu : Mut (H x)) (he : e = x ∨ H e = some (.own x)) (k : ∀ b u, b ≠ e → h.get? b = some u → h'.get? b = some u) (heo : ∃ u, h'.get? e = some u)
    (new : ObjOk P w (upd H x o') h' x o') : HOk P w (upd H x o') h' := fun b u q => by
  have nown : ∀ c y, H c = some (.own y) → c ≠ x := fun c y r z => by subst z; rw [r] at mu; exact mu
  have ntup : ∀ c xs, H c = some (.tup xs) → c ≠ x := fun c xs r z => by subst z; rw [r] at mu; exact mu
  by_cases hb : b = x
  · subst hb; rw [upd_same] at q; cases q; exact new
  · rw [upd_ne hb] at q
    by_cases hbe : b = e
    · have q' : H b = some (.own x) := by
        rcases he with z | z
        · exact absurd (hbe.trans z) hb
        · rw [hbe]; exact z
      rw [q] at q'; cases q'
      obtain ⟨v, hv⟩ := heo
      exact ⟨v, by rw [hbe]; exact hv⟩
    · refine (ok b u q).stay (fun c v hc r => k c v ?_ r) (fun c r => by rw [upd_ne (nown c b r)]; exact r) fun c xs r => by rw [upd_ne (ntup c xs r)]; exact r
      rcases hc with rfl | hc
      · exact hbe
      · rintro rfl
        rcases he with z | z
        · exact nown c b hc z
        · rw [hc] at z; cases z; exact hb rfl
end
structure Un (fs ex : List Addr) (H H' : Hp) (h h' : Heap) : Prop where
  keep : ∀ b o, h.get? b = some o → H b = none → b ∉ fs → b ∉ ex → h'.get? b = some o
  slot : ∀ b o, h.get? b = some o → H b = none → b ∈ fs → b ∉ ex → ∃ sl, h'.get? b = some { o with slots := sl }
  free : ∀ b o, h.get? b = some o → H b = none → b ∉ ex → H' b = none
  there : ∀ b o, h.get? b = some o → b ∉ ex → ∃ o', h'.get? b = some o'
  tups : ∀ b xs, H b = some (.tup xs) → H' b = some (.tup xs)
  frzs : ∀ b o u, H b = some (.frz o u) → H' b = some (.frz o u)
  tbls : ∀ b ps, H b = some (.tbl ps) → ∃ more, H' b = some (.tbl (ps ++ more))
  sys : H sysModules = none → H' sysModules = none
section
variable {fs fs' ex ex' : List Addr} {H H1 H2 : Hp} {h h1 h2 h' : Heap} {a x e : Addr} {o : HO}
theorem Un.any (u : Un fs ex H H1 h h1) {b : Addr} {ob : Obj} (q : h.get? b = some ob) (n : H b = none) (hx : b ∉ ex) : ∃ sl, h1.get? b = some { ob with slots := sl } := by
  by_cases hb : b ∈ fs
  · exact u.slot b ob q n hb hx
  · exact ⟨ob.slots, u.keep b ob q n hb hx⟩
theorem Un.trans (a : Un fs ex H H1 h h1) (b : Un fs ex H1 H2 h1 h2) : Un fs ex H H2 h h2 where
  keep := fun c ob q n hc hx => b.keep c ob (a.keep c ob q n hc hx) (a.free c ob q n hx) hc hx
  slot := fun c ob q n hc hx => by
    obtain ⟨sl, e1⟩ := a.slot c ob q n hc hx
    obtain ⟨sl', e2⟩ := b.slot c _ e1 (a.free c ob q n hx) hc hx
    exact ⟨sl', e2⟩
  free := fun c ob q n hx => by
    obtain ⟨o', e1⟩ := a.there c ob q hx
    exact b.free c o' e1 (a.free c ob q n hx) hx
  there := fun c ob q hx => by
    obtain ⟨o', e1⟩ := a.there c ob q hx
    exact b.there c o' e1 hx
  tups := fun c xs q => b.tups c xs (a.tups c xs q)
  frzs := fun c ob xs q => b.frzs c ob xs (a.frzs c ob xs q)
  tbls := fun c ps q => by
    obtain ⟨m1, e1⟩ := a.tbls c ps q
    obtain ⟨m2, e2⟩ := b.tbls c _ e1
    exact ⟨m1 ++ m2, by rw [e2, Array.append_assoc]⟩
  sys := fun q => b.sys (a.sys q)
theorem Un.kept (k : ∀ b u, h.get? b = some u → h'.get? b = some u) : Un fs ex H H h h' :=
  ⟨fun b ob q _ _ _ => k b ob q, fun b ob q _ _ _ => ⟨ob.slots, k b ob q⟩, fun _ _ _ n _ => n, fun b ob q _ => ⟨ob, k b ob q⟩, fun _ _ q => q, fun _ _ _ q => q, fun _ ps q => ⟨#[], by rw [q]; simp⟩, fun q => q⟩
theorem Un.refl : Un fs ex H H h h := Un.kept fun _ _ q => q
theorem Un.laid (k : ∀ b u, h.get? b = some u → h'.get? b = some u) (hp : h.objs.size ≤ a) (hn : H a = none) (hz : sysModules < h.objs.size) : Un fs ex H (upd H a o) h h' where
  sys := fun q => by rw [upd_ne (Nat.ne_of_lt (Nat.lt_of_lt_of_le hz hp))]; exact q
  keep := fun b u q _ _ _ => k b u q
  slot := fun b u q _ _ _ => ⟨u.slots, k b u q⟩
  free := fun b u q n _ => by rw [upd_ne (Nat.ne_of_lt (Nat.lt_of_lt_of_le (Heap.lt_size q) hp))]; exact n
  there := fun b u q _ => ⟨u, k b u q⟩
  tups := fun b xs q => by rw [upd_ne (ne_of_none q hn)]; exact q
  frzs := fun b u xs q => by rw [upd_ne (ne_of_none q hn)]; exact q
  tbls := fun b ps q => ⟨#[], by rw [upd_ne (ne_of_none q hn), q]; simp⟩
theorem Un.write (mu : Mut (H x)) (he : e = x ∨ H e = some (.own x)) (k : ∀ b u, b ≠ e → h.get? b = some u → h'.get? b = some u) (heo : ∃ u, h'.get? e = some u) : Un fs ex H (upd H x o) h h' := by
  have hx : ∀ b, H b = none → b ≠ x := fun b n z => by subst z; rw [n] at mu; exact mu
  have hb : ∀ b, H b = none → b ≠ e := fun b n z => by
    subst z
    rcases he with r | r
    · exact hx b n r
    · rw [n] at r; cases r
  have hm : ∀ b u, H b = some u → ¬ Mut (some u) → b ≠ x := fun b u q nm z => by subst z; rw [q] at mu; exact nm mu
  refine ⟨fun b u q n _ _ => k b u (hb b n) q, fun b u q n _ _ => ⟨u.slots, k b u (hb b n) q⟩, fun b u q n _ => by rw [upd_ne (hx b n)]; exact n, fun b u q _ => ?_,
    fun b xs q => by rw [upd_ne (hm b _ q fun z => z)]; exact q, fun b u xs q => by rw [upd_ne (hm b _ q fun z => z)]; exact q, fun b ps q => ⟨#[], by rw [upd_ne (hm b _ q fun z => z), q]; simp⟩, fun q => by rw [upd_ne (hx _ q)]; exact q⟩
  by_cases hbe : b = e
  · subst hbe; exact heo
  · exact ⟨u, k b u hbe q⟩
theorem Un.mono (u : Un fs ex H H1 h h1) (hs : ∀ b ∈ fs, b ∈ fs') (hx : ∀ b ∈ ex, b ∈ ex') : Un fs' ex' H H1 h h1 :=
  ⟨fun b ob q n hb he => u.keep b ob q n (fun z => hb (hs b z)) fun z => he (hx b z), fun _ _ q n _ he => u.any q n fun z => he (hx _ z), fun b ob q n he => u.free b ob q n fun z => he (hx b z), fun b ob q he => u.there b ob q fun z => he (hx b z), u.tups, u.frzs, u.tbls, u.sys⟩
end
def trk (h : Heap) (H : Hp) : List Addr := (List.range h.objs.size).filter fun a => (H a).isSome
def hidT (h : Heap) (H : Hp) : Heap := PySem.W.hideAll h (trk h H)
theorem hidT_size (h : Heap) (H : Hp) : (hidT h H).objs.size = h.objs.size := PySem.W.hideAll_size _ _
theorem hidT_get {h : Heap} {H : Hp} {b : Addr} {o : Obj} (e : h.get? b = some o) (n : H b = none) : (hidT h H).get? b = some o :=
  PySem.W.hideAll_get _ e fun hm => by
    have q : (H b).isSome = true := (List.mem_filter.mp hm).2
    rw [n] at q; simp at q
theorem of_hidT {h : Heap} {H : Hp} {b : Addr} {o : Obj} (e : (hidT h H).get? b = some o) : h.get? b = some o ∧ H b = none := by
  have e' : h.get? b = some o := PySem.W.of_hideAll (trk h H) e
  refine ⟨e', ?_⟩
  cases q : H b with
  | none => rfl
  | some x =>
    have hm : b ∈ trk h H := List.mem_filter.mpr ⟨List.mem_range.mpr (Heap.lt_size e'), by simp [q]⟩
    have z : (hidT h H).get? b = none := PySem.W.hideAll_none (trk h H) hm
    rw [z] at e; cases e
def allNews (g h : Heap) (L : Addr) : List (Addr × Obj) := (List.range h.objs.size).filterMap fun a => if a = L ∨ (g.get? a).isSome = true then none else (h.get? a).map fun o => (a, o)
def rest (g h : Heap) (L d : Addr) : List (Addr × Obj) := (allNews g h L).filter fun p => decide (p.1 ≠ d)
end L2
namespace L2
open PySem PySem.Spec PyProof.Rows
structure Mod (K : PySem.W.Frag) (mg : Str → Option Value) (base : Heap) : Prop where
  kin : K.In base
  glob : base.Ns mainGlobals mg
  blt : ∃ mb, base.Ns builtinsNs mb ∧ ∀ x : Str, x ≠ "__name__" → mb x = bootBuiltins x
  nolimit : base.NoLimit
structure Cx where
  prog : Program
  w : World
  K : PySem.W.Frag
  mg : Str → Option Value
  base : Heap
  A : Around
  N : List Str
  s₀ : Shared
  H₀ : Hp
  env : Env
  outer : List Env
  stack : List Env
  ex : List Addr
  fn : Str → Bool
  calm : Bool
  pn : List (Addr × Obj)
  xe : Value → Shared → Prop
def frs (l : List Env) : List Addr := l.filterMap (·.frame)
abbrev Cx.fs (X : Cx) : List Addr := frs X.outer
def Vis (sc : Scope) (x : Str) : Prop := sc.names.lookup x = some .local ∨ sc.names.lookup x = some .cell ∨ sc.names.lookup x = some .free
def Loc (sc : Scope) (x : Str) : Prop := sc.names.lookup x = some .local ∨ sc.names.lookup x = some .cell
def Look (env : Env) (h : Heap) (m : Str → Option Value) (x : Str) (u : Value) : Prop :=
  (env.kindOf x = some .local ∧ m x = some u) ∨ ((env.kindOf x = some .cell ∨ env.kindOf x = some .free) ∧ ∃ c, env.cells.lookup x = some c ∧ h.IsCell c (some u))
structure Cx.Ok (X : Cx) : Prop where
  mod : Mod X.K X.mg X.base
  kind : X.env.scope.kind = .function
  glob : X.env.globals = mainGlobals
  blt : X.env.builtins = builtinsNs
  above : X.s₀.heap.objs.size ≤ X.env.locals
  inj : ∀ x y c, X.env.cells.lookup x = some c → X.env.cells.lookup y = some c → x = y
  has : ∀ x, (X.env.kindOf x = some .cell ∨ X.env.kindOf x = some .free) → ∃ c, X.env.cells.lookup x = some c
  cab : ∀ x c, X.fn x = true → X.env.cells.lookup x = some c → X.s₀.heap.objs.size ≤ c
  hd : X.calm = true → X.A.handled = none
  frames : X.A.frames = some X.stack
  stk : X.stack = X.outer ∨ (X.stack = X.env :: X.outer ∧ X.env.frame = some X.env.locals)
  exf : ∀ b ∈ X.ex, b ≠ X.env.locals ∧ ∀ x c, X.env.cells.lookup x = some c → c ≠ b
  bs : ∀ b o, X.base.get? b = some o → X.s₀.heap.get? b = some o ∧ X.H₀ b = none
  bsz : X.base.objs.size ≤ X.s₀.heap.objs.size
  noex : ∀ b o, X.base.get? b = some o → b ∉ X.ex
  exfs : ∀ b ∈ X.ex, b ∉ X.fs
  funs : X.s₀.heap.FunFrames X.base X.outer
  frf : ∀ b ∈ X.fs, X.H₀ b = none
structure Inv (X : Cx) (pins : List (Addr × Obj)) (σ : List (Option V)) (H : Hp) (s : Shared) : Prop where
  ok : X.Ok
  os : s.os = X.s₀.os
  bare : AllBare s.gens
  base : Un X.fs X.ex X.H₀ H X.s₀.heap s.heap
  loc : ∃ m, s.heap.Ns X.env.locals m ∧ ∀ (i : Nat) (x : Str) (v : V), X.N[i]? = some x → σ[i]? = some (some v) → Vis X.env.scope x → ∃ u, RelV v u ∧ Look X.env s.heap m x u
  cell : ∀ x c, X.env.cells.lookup x = some c → ∃ v, s.heap.IsCell c v
  free : H X.env.locals = none
  freeC : ∀ x c, X.env.cells.lookup x = some c → H c = none
  pin : ∀ p ∈ X.pn ++ pins, s.heap.get? p.1 = some p.2 ∧ H p.1 = none ∧ p.1 ≠ X.env.locals ∧ p.1 ∉ X.fs ∧ ∀ v, p.2.data ≠ .cell v
  hok : HOk X.prog X.w H s.heap
  len : σ.length = X.N.length
section
variable {X : Cx} {pins : List (Addr × Obj)} {σ : List (Option V)} {H H' : Hp} {s : Shared} {h' : Heap}
theorem Cx.Ok.nofr (ok : X.Ok) {b : Addr} {o : Obj} (e : X.base.get? b = some o) : b ∉ X.fs := fun hb => by
  have := (ok.funs.mem hb).1
  rw [e] at this; cases this
theorem Inv.bs (I : Inv X pins σ H s) : ∀ b o, X.base.get? b = some o → s.heap.get? b = some o ∧ H b = none := fun b o e =>
  ⟨I.base.keep b o (I.ok.bs b o e).1 (I.ok.bs b o e).2 (I.ok.nofr e) (I.ok.noex b o e), I.base.free b o (I.ok.bs b o e).1 (I.ok.bs b o e).2 (I.ok.noex b o e)⟩
theorem Inv.bk (I : Inv X pins σ H s) : ∀ b o, X.base.get? b = some o → s.heap.get? b = some o := fun b o e => (I.bs b o e).1
theorem Inv.mod (I : Inv X pins σ H s) : Mod X.K X.mg X.base := I.ok.mod
theorem Inv.kIn (I : Inv X pins σ H s) : X.K.In s.heap := I.ok.mod.kin.keeps I.bk
theorem Inv.nolimit (I : Inv X pins σ H s) : s.heap.NoLimit := I.ok.mod.nolimit.keeps I.bk
theorem Inv.fr (I : Inv X pins σ H s) : ∃ m, Fr X.base X.env.locals s.heap m :=
  let ⟨m, hn, _⟩ := I.loc
  ⟨m, hn, I.bk, Nat.le_trans I.ok.bsz I.ok.above⟩
theorem Inv.lt (I : Inv X pins σ H s) : X.env.locals < s.heap.objs.size := let ⟨_, hn, _⟩ := I.loc; hn.lt
theorem Inv.sz (I : Inv X pins σ H s) : X.s₀.heap.objs.size ≤ s.heap.objs.size := Nat.le_trans I.ok.above (Nat.le_of_lt I.lt)
theorem Inv.nofs (I : Inv X pins σ H s) {a : Addr} (h : s.heap.objs.size ≤ a) : a ∉ X.fs := fun hb => by
  obtain ⟨_, o, ho, _⟩ := I.ok.funs.mem hb
  exact absurd (Nat.lt_of_lt_of_le (Heap.lt_size ho) (Nat.le_trans I.sz h)) (Nat.lt_irrefl _)
theorem Inv.cne (I : Inv X pins σ H s) : ∀ x c, X.env.cells.lookup x = some c → c ≠ X.env.locals := fun x c e z => by
  obtain ⟨v, o, ho, hd⟩ := I.cell x c e
  obtain ⟨m, ⟨o', es, ep, ho', hd', _⟩, _⟩ := I.loc
  rw [z, ho'] at ho; cases ho; rw [hd'] at hd; cases hd
theorem Inv.funs (I : Inv X pins σ H s) : s.heap.FunFrames X.base X.outer := by
  have all : ∀ (l : List Env), (∀ b ∈ frs l, b ∈ X.fs) → X.s₀.heap.FunFrames X.base l → s.heap.FunFrames X.base l := by
    intro l
    induction l with
    | nil => intro _ _; trivial
    | cons env r ih =>
      intro hs hl
      obtain ⟨hk, ⟨L, o, hf, hn, ho, hd⟩, hr⟩ := hl
      have hL : L ∈ X.fs := hs L (by unfold frs; rw [List.filterMap_cons, hf]; exact List.mem_cons_self)
      obtain ⟨sl, e⟩ := I.base.slot L o ho (I.ok.frf L hL) hL fun z => I.ok.exfs L z hL
      exact ⟨hk, ⟨L, _, hf, hn, e, hd⟩, ih (fun b hb => hs b (by unfold frs; rw [List.filterMap_cons, hf]; exact List.mem_cons_of_mem _ hb)) hr⟩
  exact all X.outer (fun _ hb => hb) I.ok.funs
theorem Inv.stack (I : Inv X pins σ H s) : s.heap.FunFrames X.base X.stack := by
  rcases I.ok.stk with e | ⟨e, hf⟩
  · rw [e]; exact I.funs
  · rw [e]
    obtain ⟨m, hn, _⟩ := I.loc
    refine .cons (by rw [I.ok.kind]; decide) hf hn ?_ I.funs
    exact Heap.get?_none_of_le (Nat.le_trans I.ok.bsz I.ok.above)
theorem Inv.stkSub (I : Inv X pins σ H s) : ∀ b ∈ frs X.stack, b ∈ X.env.locals :: X.fs := fun b hb => by
  rcases I.ok.stk with e | ⟨e, hf⟩
  · rw [e] at hb; exact List.mem_cons_of_mem _ hb
  · rw [e] at hb
    unfold frs at hb
    rw [List.filterMap_cons, hf] at hb
    exact hb
theorem Inv.stkFree (I : Inv X pins σ H s) : ∀ b ∈ frs X.stack, H b = none := fun b hb => by
  rcases List.mem_cons.mp (I.stkSub b hb) with e | hb
  · rw [e]; exact I.free
  · obtain ⟨_, o, ho, _⟩ := I.ok.funs.mem hb
    exact I.base.free b o ho (I.ok.frf b hb) fun z => I.ok.exfs b z hb
theorem Inv.step {g' : Array GenState} {t' : Nat} {d' : Drawn} {ch : List Addr} (I : Inv X pins σ H s)
    (hch : ∀ b ∈ ch, (b ∈ X.ex ∨ X.s₀.heap.objs.size ≤ b) ∧ b ≠ X.env.locals ∧ (∀ x c, X.env.cells.lookup x = some c → c ≠ b) ∧ ∀ p ∈ X.pn ++ pins, p.1 ≠ b)
    (keep : ∀ b o, b ≠ X.env.locals → b ∉ X.fs → b ∉ ch → s.heap.get? b = some o → H b = none → h'.get? b = some o)
    (slot : ∀ b o, b ≠ X.env.locals → b ∈ X.fs → b ∉ ch → s.heap.get? b = some o → H b = none → ∃ sl, h'.get? b = some { o with slots := sl }) (free : ∀ b o, b ∉ ch → s.heap.get? b = some o → H b = none → H' b = none)
    (there : ∀ b o, b ∉ ch → s.heap.get? b = some o → ∃ o', h'.get? b = some o')
    (tups : ∀ b xs, H b = some (.tup xs) → H' b = some (.tup xs)) (frzs : ∀ b o u, H b = some (.frz o u) → H' b = some (.frz o u)) (tbls : ∀ b ps, H b = some (.tbl ps) → ∃ more, H' b = some (.tbl (ps ++ more))) (sys : H sysModules = none → H' sysModules = none)
    (ns : ∀ m, s.heap.Ns X.env.locals m → h'.Ns X.env.locals m) (hok : HOk X.prog X.w H' h') (hg : AllBare g') :
    Inv X pins σ H' { s with heap := h', gens := g', drawn := d', toks := t' } := by
  have neL : ∀ b o, X.s₀.heap.get? b = some o → b ≠ X.env.locals := fun b o e => Nat.ne_of_lt (Nat.lt_of_lt_of_le (Heap.lt_size e) I.ok.above)
  have neC : ∀ b o, X.s₀.heap.get? b = some o → b ∉ X.ex → b ∉ ch := fun b o e hx hb => by
    rcases (hch b hb).1 with z | z
    · exact hx z
    · exact absurd (Nat.lt_of_lt_of_le (Heap.lt_size e) z) (Nat.lt_irrefl _)
  have cellK : ∀ x c, X.env.cells.lookup x = some c → ∀ v, s.heap.IsCell c v → h'.IsCell c v := fun x c e v ⟨o, ho, hd⟩ => by
    have nch : c ∉ ch := fun z => (hch c z).2.2.1 x c e rfl
    by_cases hc : c ∈ X.fs
    · obtain ⟨sl, q⟩ := slot c o (I.cne x c e) hc nch ho (I.freeC x c e)
      exact ⟨_, q, hd⟩
    · exact ⟨o, keep c o (I.cne x c e) hc nch ho (I.freeC x c e), hd⟩
  refine ⟨I.ok, I.os, hg, ⟨fun b o e n hb hx => ?_, fun b o e n hb hx => ?_, fun b o e n hx => ?_, fun b o e hx => ?_, fun b xs e => tups b xs (I.base.tups b xs e), fun b o xs e => frzs b o xs (I.base.frzs b o xs e), fun b ps e => ?_, fun q => sys (I.base.sys q)⟩, ?_, fun x c e => ?_, ?_, fun x c e => ?_, fun p hp => ?_, hok, I.len⟩
  · exact keep b o (neL b o e) hb (neC b o e hx) (I.base.keep b o e n hb hx) (I.base.free b o e n hx)
  · obtain ⟨sl, e1⟩ := I.base.slot b o e n hb hx
    obtain ⟨sl', e2⟩ := slot b _ (neL b o e) hb (neC b o e hx) e1 (I.base.free b o e n hx)
    exact ⟨sl', e2⟩
  · obtain ⟨o', e1⟩ := I.base.there b o e hx
    exact free b o' (neC b o e hx) e1 (I.base.free b o e n hx)
  · obtain ⟨o', e1⟩ := I.base.there b o e hx
    exact there b o' (neC b o e hx) e1
  · obtain ⟨m1, e1⟩ := I.base.tbls b ps e
    obtain ⟨m2, e2⟩ := tbls b _ e1
    exact ⟨m1 ++ m2, by rw [e2, Array.append_assoc]⟩
  · obtain ⟨m, hn, hl⟩ := I.loc
    refine ⟨m, ns m hn, fun i x v e1 e2 e3 => ?_⟩
    obtain ⟨u, r, l⟩ := hl i x v e1 e2 e3
    refine ⟨u, r, ?_⟩
    rcases l with l | ⟨k, c, e, z⟩
    · exact .inl l
    · exact .inr ⟨k, c, e, cellK x c e _ z⟩
  · obtain ⟨v, z⟩ := I.cell x c e
    exact ⟨v, cellK x c e v z⟩
  · obtain ⟨m, ⟨o, _, _, ho, _⟩, _⟩ := I.loc
    exact free _ o (fun z => (hch _ z).2.1 rfl) ho I.free
  · obtain ⟨v, o, ho, hd⟩ := I.cell x c e
    exact free c o (fun z => (hch c z).2.2.1 x c e rfl) ho (I.freeC x c e)
  · obtain ⟨e, n, ne, nf, d⟩ := I.pin p hp
    have nch : p.1 ∉ ch := fun z => (hch p.1 z).2.2.2 p hp rfl
    exact ⟨keep p.1 p.2 ne nf nch e n, free p.1 p.2 nch e n, ne, nf, d⟩
theorem Inv.un {t' : Nat} (I : Inv X pins σ H s) (u : Un X.fs [] H H' s.heap h') (hok : HOk X.prog X.w H' h') : Inv X pins σ H' { s with heap := h', toks := t' } := by
  obtain ⟨m, ⟨o, es, ep, ho, r⟩, _⟩ := id I.loc
  obtain ⟨sl, hL⟩ := u.any ho I.free (by simp)
  exact I.step (g' := s.gens) (d' := s.drawn) (ch := []) (fun _ z => nomatch z) (fun b o _ hb _ e n => u.keep b o e n hb (by simp)) (fun b o _ hb _ e n => u.slot b o e n hb (by simp)) (fun b o _ e n => u.free b o e n (by simp)) (fun b o _ e => u.there b o e (by simp)) u.tups u.frzs u.tbls u.sys (fun m' hm => by
    obtain ⟨o', es', ep', ho', r'⟩ := hm
    rw [ho] at ho'; cases ho'
    exact ⟨_, es', ep', hL, r'⟩) hok I.bare
theorem Inv.call {g' : Array GenState} {t' : Nat} {d' : Drawn} {ch : List Addr} (I : Inv X pins σ H s) (u : Un (frs X.stack) ch H H' s.heap h') (hok : HOk X.prog X.w H' h') (hg : AllBare g')
    (hch : ∀ b ∈ ch, (b ∈ X.ex ∨ X.s₀.heap.objs.size ≤ b) ∧ b ≠ X.env.locals ∧ (∀ x c, X.env.cells.lookup x = some c → c ≠ b) ∧ ∀ p ∈ X.pn ++ pins, p.1 ≠ b) :
    Inv X pins σ H' { s with heap := h', gens := g', drawn := d', toks := t' } := by
  obtain ⟨m, ⟨o, es, ep, ho, r⟩, _⟩ := id I.loc
  obtain ⟨sl, hL⟩ := u.any ho I.free fun z => (hch _ z).2.1 rfl
  exact I.step (ch := ch) hch (fun b o hL hb hc e n => u.keep b o e n (fun z => (List.mem_cons.mp (I.stkSub b z)).elim hL hb) hc) (fun b o _ _ hc e n => u.any e n hc) (fun b o hc e n => u.free b o e n hc) (fun b o hc e => u.there b o e hc) u.tups u.frzs u.tbls u.sys (fun m' hm => by
    obtain ⟨o', es', ep', ho', r'⟩ := hm
    rw [ho] at ho'; cases ho'
    exact ⟨_, es', ep', hL, r'⟩) hok hg
theorem Inv.turned {t' : Nat} {it : Addr} (I : Inv X pins σ H s) (k : ∀ b o, b ≠ it → s.heap.get? b = some o → h'.get? b = some o) (hn : H it = none) (hL : it ≠ X.env.locals)
    (h1 : it ∈ X.ex ∨ X.s₀.heap.objs.size ≤ it) (h2 : ∀ x c, X.env.cells.lookup x = some c → c ≠ it) (h3 : ∀ p ∈ X.pn ++ pins, p.1 ≠ it) : Inv X pins σ H { s with heap := h', toks := t' } := by
  have nit : ∀ b u, H b = some u → b ≠ it := fun b u e z => by rw [z, hn] at e; cases e
  refine I.step (g' := s.gens) (d' := s.drawn) (ch := [it]) (fun b hb => ?_) (fun b o _ _ hc e _ => k b o (fun z => hc (by simp [z])) e) (fun b o _ _ hc e _ => ⟨o.slots, k b o (fun z => hc (by simp [z])) e⟩) (fun _ _ _ _ n => n)
    (fun b o hc e => ⟨o, k b o (fun z => hc (by simp [z])) e⟩) (fun _ _ e => e) (fun _ _ _ e => e) (fun b ps e => ⟨#[], by rw [e]; simp⟩) (fun q => q) (fun m hm => ?_) (fun b u e => ?_) I.bare
  · have e : b = it := by simpa using hb
    subst e
    exact ⟨h1, hL, h2, h3⟩
  · obtain ⟨o, es, ep, ho, r⟩ := hm
    exact ⟨o, es, ep, k _ o (Ne.symm hL) ho, r⟩
  · refine (I.hok b u e).stay (fun c v hc q => k c v ?_ q) (fun _ q => q) fun _ _ q => q
    rcases hc with z | z
    · rw [z]; exact nit b u e
    · exact nit c _ z
theorem Inv.tok (I : Inv X pins σ H s) (t : Nat) : Inv X pins σ H { s with toks := t } := I.un (h' := s.heap) (t' := t) Un.refl I.hok
theorem Inv.kept {t' : Nat} (I : Inv X pins σ H s) (k : ∀ b u, s.heap.get? b = some u → h'.get? b = some u) : Inv X pins σ H { s with heap := h', toks := t' } := I.un (Un.kept k) (I.hok.kept k)
theorem Inv.laid {a : Addr} {o : HO} {t' : Nat} (I : Inv X pins σ H s) (k : ∀ b u, s.heap.get? b = some u → h'.get? b = some u) (hp : s.heap.objs.size ≤ a) (new : ObjOk X.prog X.w (upd H a o) h' a o) :
    Inv X pins σ (upd H a o) { s with heap := h', toks := t' } := I.un (Un.laid k hp (I.hok.fresh hp) (Nat.lt_trans (by decide : sysModules < mainGlobals) (I.mod.glob.keeps I.bk).lt)) (I.hok.laid k hp new)
theorem Inv.write {x e : Addr} {o : HO} {t' : Nat} (I : Inv X pins σ H s) (mu : Mut (H x)) (he : e = x ∨ H e = some (.own x)) (k : ∀ b u, b ≠ e → s.heap.get? b = some u → h'.get? b = some u) (heo : ∃ u, h'.get? e = some u)
    (new : ObjOk X.prog X.w (upd H x o) h' x o) : Inv X pins σ (upd H x o) { s with heap := h', toks := t' } := I.un (Un.write mu he k heo) (I.hok.write mu he k heo new)
theorem Inv.pins_of {pins' : List (Addr × Obj)} (I : Inv X pins σ H s) (h : ∀ p ∈ pins', s.heap.get? p.1 = some p.2 ∧ H p.1 = none ∧ p.1 ≠ X.env.locals ∧ p.1 ∉ X.fs ∧ ∀ v, p.2.data ≠ .cell v) : Inv X pins' σ H s :=
  ⟨I.ok, I.os, I.bare, I.base, I.loc, I.cell, I.free, I.freeC, fun p hp => (List.mem_append.mp hp).elim (fun z => I.pin p (List.mem_append_left _ z)) (h p), I.hok, I.len⟩
theorem nodup_ix {N : List Str} (hN : N.Nodup) {i j : Nat} {x : Str} (a : N[i]? = some x) (b : N[j]? = some x) : i = j := by
  obtain ⟨h1, e1⟩ := List.getElem?_eq_some_iff.mp a
  obtain ⟨h2, e2⟩ := List.getElem?_eq_some_iff.mp b
  exact (List.getElem_inj hN).mp (e1.trans e2.symm)
theorem store_ok2 {M : Model} {A : Around} {E : Value → Shared → Prop} {i : Nat} {x : Str} {v : V} {u : Value} {Q : Unit → Shared → Prop} (I : Inv X pins σ H s) (hN : X.N.Nodup) (hi : X.N[i]? = some x) (hx : Loc X.env.scope x) (r : RelV v u)
    (h : ∀ s', Inv X pins (σ.set i (some v)) H s' → (∃ a, Heap.SameBut a s.heap s'.heap ∧ (a = X.env.locals ∨ X.env.cells.lookup x = some a)) → Q () s') (hf : X.fn x = true ∨ X.env.scope.names.lookup x = some .local := by first | exact .inl rfl | exact .inr rfl | assumption) : wpAny M A (storeName X.env x u) Q E s := by
  obtain ⟨m, hn, hl⟩ := id I.loc
  have hcls : (X.env.scope.kind == .class || (X.env.scope.kind == .module && X.env.locals != X.env.globals)) = false := by rw [I.ok.kind]; rfl
  have hiσ : i < σ.length := by rw [I.len]; exact (List.getElem?_eq_some_iff.mp hi).1
  have cne := I.cne
  have tracked : ∀ {a : Addr} {h' : Heap}, (∃ o, s.heap.get? a = some o ∧ H a = none) → Heap.SameBut a s.heap h' → HOk X.prog X.w H h' := fun {a h'} ha hs b ob e => by
    obtain ⟨_, _, hfree⟩ := ha
    refine (I.hok b ob e).stay (fun c w' hc q => (hs.2 c ?_).trans q) (fun _ q => q) fun _ _ q => q
    rintro rfl
    rcases hc with rfl | hc
    · rw [hfree] at e; cases e
    · rw [hfree] at hc; cases hc
  rcases hx with hk | hk
  · refine wpAny_storeName_local hk hn (fun h' hn' hs => ?_) hcls
    obtain ⟨oL, _, _, hoL, _⟩ := id hn
    refine h _ ⟨I.ok, I.os, I.bare, ⟨fun b o e n hb hx => ?_, fun b o e n hb hx => ?_, I.base.free, fun b o e hx => ?_, I.base.tups, I.base.frzs, I.base.tbls, I.base.sys⟩, ⟨_, hn', fun j y v' e1 e2 e3 => ?_⟩, fun y c e => ?_, I.free, I.freeC, fun p hp => ?_, tracked ⟨oL, hoL, I.free⟩ hs, by simpa using I.len⟩ ⟨_, hs, .inl rfl⟩
    · exact (hs.2 b (Nat.ne_of_lt (Nat.lt_of_lt_of_le (Heap.lt_size e) I.ok.above))).trans (I.base.keep b o e n hb hx)
    · obtain ⟨sl, e1⟩ := I.base.slot b o e n hb hx
      exact ⟨sl, (hs.2 b (Nat.ne_of_lt (Nat.lt_of_lt_of_le (Heap.lt_size e) I.ok.above))).trans e1⟩
    · obtain ⟨o', e1⟩ := I.base.there b o e hx
      exact ⟨o', (hs.2 b (Nat.ne_of_lt (Nat.lt_of_lt_of_le (Heap.lt_size e) I.ok.above))).trans e1⟩
    · by_cases hj : j = i
      · subst hj
        rw [hi] at e1; cases e1
        rw [List.getElem?_set_self hiσ] at e2
        cases e2
        exact ⟨u, r, .inl ⟨hk, by simp⟩⟩
      · rw [List.getElem?_set_ne (Ne.symm hj)] at e2
        obtain ⟨u', r', q⟩ := hl j y v' e1 e2 e3
        refine ⟨u', r', ?_⟩
        rcases q with ⟨k, e⟩ | ⟨k, c, e, z⟩
        · refine .inl ⟨k, ?_⟩
          have : y ≠ x := fun e => hj (nodup_ix hN e1 (e ▸ hi))
          simp [this, e]
        · exact .inr ⟨k, c, e, z.sameBut hs (cne y c e)⟩
    · obtain ⟨w', z⟩ := I.cell y c e
      exact ⟨w', z.sameBut hs (cne y c e)⟩
    · obtain ⟨e, n, ne, nf, d⟩ := I.pin p hp
      exact ⟨(hs.2 p.1 ne).trans e, n, ne, nf, d⟩
  · have hfn : X.fn x = true := by
      rcases hf with z | z
      · exact z
      · rw [z] at hk; cases hk
    obtain ⟨c, hc⟩ := I.ok.has x (.inl hk)
    obtain ⟨w', z⟩ := I.cell x c hc
    refine wpAny_storeName_cell I.ok.kind hk hc z (fun h' hc' hs => ?_)
    obtain ⟨oc, hoc, hocd⟩ := id z
    refine h { s with heap := h' } ⟨I.ok, I.os, I.bare, ⟨fun b o e n hb hx => ?_, fun b o e n hb hx => ?_, I.base.free, fun b o e hx => ?_, I.base.tups, I.base.frzs, I.base.tbls, I.base.sys⟩, ⟨m, hn.sameBut hs (Ne.symm (cne x c hc)), fun j y v' e1 e2 e3 => ?_⟩, fun y c' e => ?_, I.free, I.freeC, fun p hp => ?_, tracked ⟨oc, hoc, I.freeC x c hc⟩ hs, by simpa using I.len⟩ ⟨c, hs, .inr hc⟩
    · exact (hs.2 b (Nat.ne_of_lt (Nat.lt_of_lt_of_le (Heap.lt_size e) (I.ok.cab x c hfn hc)))).trans (I.base.keep b o e n hb hx)
    · obtain ⟨sl, e1⟩ := I.base.slot b o e n hb hx
      exact ⟨sl, (hs.2 b (Nat.ne_of_lt (Nat.lt_of_lt_of_le (Heap.lt_size e) (I.ok.cab x c hfn hc)))).trans e1⟩
    · obtain ⟨o', e1⟩ := I.base.there b o e hx
      exact ⟨o', (hs.2 b (Nat.ne_of_lt (Nat.lt_of_lt_of_le (Heap.lt_size e) (I.ok.cab x c hfn hc)))).trans e1⟩
    · by_cases hj : j = i
      · subst hj
        rw [hi] at e1; cases e1
        rw [List.getElem?_set_self hiσ] at e2
        cases e2
        exact ⟨u, r, .inr ⟨.inl hk, c, hc, hc'⟩⟩
      · rw [List.getElem?_set_ne (Ne.symm hj)] at e2
        obtain ⟨u', r', q⟩ := hl j y v' e1 e2 e3
        refine ⟨u', r', ?_⟩
        rcases q with q | ⟨k, c', e, z'⟩
        · exact .inl q
        · refine .inr ⟨k, c', e, z'.sameBut hs ?_⟩
          rintro rfl
          exact hj (nodup_ix hN e1 (I.ok.inj _ _ _ e hc ▸ hi))
    · by_cases hcc : c' = c
      · subst hcc; exact ⟨_, hc'⟩
      · obtain ⟨w2, z2⟩ := I.cell y c' e
        exact ⟨w2, z2.sameBut hs hcc⟩
    · obtain ⟨e, n, ne, nf, d⟩ := I.pin p hp
      refine ⟨(hs.2 p.1 ?_).trans e, n, ne, nf, d⟩
      intro q
      rw [q, hoc] at e
      have q' : oc = p.2 := Option.some.inj e
      exact d w' (by rw [← q']; exact hocd)
theorem store_ok {M : Model} {A : Around} {E : Value → Shared → Prop} {i : Nat} {x : Str} {v : V} {u : Value} {Q : Unit → Shared → Prop} (I : Inv X pins σ H s) (hN : X.N.Nodup) (hi : X.N[i]? = some x) (hx : Loc X.env.scope x) (r : RelV v u)
    (h : ∀ s', Inv X pins (σ.set i (some v)) H s' → Q () s') (hf : X.fn x = true ∨ X.env.scope.names.lookup x = some .local := by first | exact .inl rfl | exact .inr rfl | assumption) : wpAny M A (storeName X.env x u) Q E s :=
  store_ok2 I hN hi hx r (fun s' I' _ => h s' I') hf
theorem Inv.call' {s' : Shared} {ch : List Addr} (I : Inv X pins σ H s) (ho : s'.os = s.os) (u : Un (frs X.stack) ch H H' s.heap s'.heap) (hok : HOk X.prog X.w H' s'.heap) (hg : AllBare s'.gens)
    (hch : ∀ b ∈ ch, (b ∈ X.ex ∨ X.s₀.heap.objs.size ≤ b) ∧ b ≠ X.env.locals ∧ (∀ x c, X.env.cells.lookup x = some c → c ≠ b) ∧ ∀ p ∈ X.pn ++ pins, p.1 ≠ b) : Inv X pins σ H' s' := by
  obtain ⟨h', g', d', t', o'⟩ := s'
  have e : o' = s.os := ho
  subst e
  exact I.call (g' := g') (t' := t') (d' := d') u hok hg hch
end
abbrev XK := Value → Option Addr → Hp → Prop
abbrev St := List (Option V)
abbrev VK := V → Hp → Prop
abbrev TE := St → Hp → VK → Prop
abbrev TT := St → Hp → (Bool → Hp → Prop) → Prop
abbrev TA := St → Hp → (List V → Hp → Prop) → Prop
structure Ends where
  nx : St → Hp → Prop
  rt : VK
  bk : St → Hp → Prop := fun _ _ => False
  ct : St → Hp → Prop := fun _ _ => False
abbrev TS := Ends → St → Hp → Prop
def EP (X : Cx) (pins : List (Addr × Obj)) (σ : St) (Q : VK) (u : Value) (s' : Shared) : Prop := ∃ v H', Inv X pins σ H' s' ∧ RelV v u ∧ Q v H'
def TP (X : Cx) (pins : List (Addr × Obj)) (σ : St) (Q : Bool → Hp → Prop) (b : Bool) (s' : Shared) : Prop := ∃ H', Inv X pins σ H' s' ∧ Q b H'
def AP (X : Cx) (pins : List (Addr × Obj)) (σ : St) (Q : List V → Hp → Prop) (us : List Value) (s' : Shared) : Prop := ∃ vs H', Inv X pins σ H' s' ∧ Vals vs us ∧ Q vs H'
def SP (X : Cx) (pins : List (Addr × Obj)) (D : Ends) (f : Flow) (s' : Shared) : Prop :=
  match f with
  | .next => ∃ σ' H', Inv X pins σ' H' s' ∧ D.nx σ' H'
  | .brk => ∃ σ' H', Inv X pins σ' H' s' ∧ D.bk σ' H'
  | .cont => ∃ σ' H', Inv X pins σ' H' s' ∧ D.ct σ' H'
  | .ret u => ∃ v σ' H', Inv X pins σ' H' s' ∧ RelV v u ∧ D.rt v H'
def PE (X : Cx) (e : Expr) (t : TE) : Prop :=
  ∀ (pins : List (Addr × Obj)) (s : Shared) (σ : St) (H : Hp) (Q : VK), Inv X pins σ H s → t σ H Q → wpAny (model X.prog X.w) X.A (eval e X.env) (EP X pins σ Q) X.xe s
def PT (X : Cx) (e : Expr) (t : TT) : Prop :=
  ∀ (pins : List (Addr × Obj)) (s : Shared) (σ : St) (H : Hp) (Q : Bool → Hp → Prop), Inv X pins σ H s → t σ H Q → wpAny (model X.prog X.w) X.A (isTrue e X.env (eval e X.env)) (TP X pins σ Q) X.xe s
def PW (X : Cx) (e : Expr) (t : TT) : Prop :=
  ∀ (whole : Sem Value) (pins : List (Addr × Obj)) (s : Shared) (σ : St) (H : Hp) (Q : Bool → Hp → Prop), Inv X pins σ H s → t σ H Q → wpAny (model X.prog X.w) X.A (isTrue e X.env whole) (TP X pins σ Q) X.xe s
theorem PW.pt {X : Cx} {e : Expr} {t : TT} (h : PW X e t) : PT X e t := h _
def PA (X : Cx) (es : List Expr) (t : TA) : Prop :=
  ∀ (pos : Pos) (pins : List (Addr × Obj)) (s : Shared) (σ : St) (H : Hp) (Q : List V → Hp → Prop), Inv X pins σ H s → t σ H Q → wpAny (model X.prog X.w) X.A (spliced (backTo pos (starEach es X.env))) (AP X pins σ Q) X.xe s
def PS (X : Cx) (st : Stmt) (t : TS) : Prop :=
  ∀ (pins : List (Addr × Obj)) (s : Shared) (σ : St) (H : Hp) (D : Ends), Inv X pins σ H s → t D σ H → wpAny (model X.prog X.w) X.A (exec st X.env) (SP X pins D) X.xe s
def PSs (X : Cx) (st : List Stmt) (t : TS) : Prop :=
  ∀ (pins : List (Addr × Obj)) (s : Shared) (σ : St) (H : Hp) (D : Ends), Inv X pins σ H s → t D σ H → wpAny (model X.prog X.w) X.A (execs st X.env) (SP X pins D) X.xe s
theorem thn {α : Type} {t : Sem α} {Q Q' : α → Shared → Prop} {M : Model} {A : Around} {E : Value → Shared → Prop} {s : Shared} (h : wpAny M A t Q E s) (hQ : ∀ a s, Q a s → Q' a s) : wpAny M A t Q' E s := wpAny_mono h hQ fun _ _ x => x
end L2
namespace L2
open PySem PySem.Spec PyProof.Rows
section
variable {X : Cx}
def tVar (i : Nat) : TE := fun σ H Q => ∃ v, σ[i]? = some (some v) ∧ Q v H
def tC (v : V) : TE := fun _ H Q => Q v H
theorem pe_var {i : Nat} {x : Str} {pos : Pos} (hN : X.N[i]? = some x) (hv : Vis X.env.scope x) (hd : (x == ("__debug__" : Str)) = false := by decide) (hcd : (x == ("__classdict__" : Str)) = false := by decide) : PE X (.Name x pos) (tVar i) := by
  intro pins s σ H Q I h
  obtain ⟨v, e, h⟩ := h
  obtain ⟨m, hn, hl⟩ := I.loc
  obtain ⟨u, r, l⟩ := hl i x v hN e hv
  have fin : EP X pins σ Q u s := ⟨v, H, I, r, h⟩
  rcases l with ⟨hk, hm⟩ | ⟨hk, c, hc, hcell⟩
  · exact wpAny_Name (wpAny_loadName_local I.ok.kind hk hn hm fin) hd
  · rcases hk with hk | hk
    · exact wpAny_Name (wpAny_loadName_cell I.ok.kind hk hc hcell fin) hd
    · exact wpAny_Name (wpAny_loadName_free I.ok.kind hk hc hcell fin hcd) hd
theorem pe_int {i j pos} : PE X (.Constant (.int i) j pos) (tC (.int i)) := fun _ _ _ H _ I h => wpAny_Constant_int ⟨.int i, H, I.tok _, ⟨_, rfl⟩, h⟩
theorem pe_bl {b j pos} : PE X (.Constant (.bool b) j pos) (tC (.bl b)) := fun _ _ _ H _ I h => Constant_bool ⟨.bl b, H, I, rfl, h⟩
theorem pe_non {j pos} : PE X (.Constant .none j pos) (tC .non) := fun _ _ _ H _ I h => Constant_none ⟨.non, H, I, rfl, h⟩
theorem pe_str {x j pos} : PE X (.Constant (.str x) j pos) (tC (.str x)) := fun _ _ _ H _ I h => Calls.Constant_str ⟨.str x, H, I.tok _, ⟨_, rfl⟩, h⟩
def Gl (X : Cx) (x : Str) : Prop := X.env.kindOf x = some .globalImplicit
theorem ld_glob {E : Value → Shared → Prop} {pins : List (Addr × Obj)} {s : Shared} {σ : St} {H : Hp} {x : Str} {u : Value} {pos : Pos} {Q : Value → Shared → Prop} (I : Inv X pins σ H s) (hg : Gl X x) (hm : X.mg x = some u) (h : Q u s)
    (hd : (x == ("__debug__" : Str)) = false := by decide) : wpAny (model X.prog X.w) X.A (eval (.Name x pos) X.env) Q E s :=
  Calls.Name_function_global I.ok.kind hg (Calls.loadGlobal_global (by rw [I.ok.glob]; exact I.mod.glob.keeps I.bk) hm h) hd
theorem ld_blt {E : Value → Shared → Prop} {pins : List (Addr × Obj)} {s : Shared} {σ : St} {H : Hp} {x : Str} {u : Value} {pos : Pos} {Q : Value → Shared → Prop} (I : Inv X pins σ H s) (hg : Gl X x) (hm : X.mg x = none) (hv : bootBuiltins x = some u) (h : Q u s)
    (hn : x ≠ "__name__" := by decide) (hd : (x == ("__debug__" : Str)) = false := by decide) : wpAny (model X.prog X.w) X.A (eval (.Name x pos) X.env) Q E s := by
  obtain ⟨mb, h1, h2⟩ := I.mod.blt
  exact Calls.Name_function_global I.ok.kind hg (Calls.loadGlobal_builtin (by rw [I.ok.glob]; exact I.mod.glob.keeps I.bk) hm (by rw [I.ok.blt]; exact h1.keeps I.bk) ((h2 x hn).trans hv) h) hd
theorem pe_glob {x : Str} {v : V} {u : Value} {pos : Pos} (hg : Gl X x) (hm : X.mg x = some u) (r : RelV v u) (hd : (x == ("__debug__" : Str)) = false := by decide) : PE X (.Name x pos) (tC v) :=
  fun _ _ _ H _ I h => ld_glob I hg hm ⟨v, H, I, r, h⟩ hd
theorem pe_bltn {x : Str} {v : V} {u : Value} {pos : Pos} (hg : Gl X x) (hm : X.mg x = none) (hv : bootBuiltins x = some u) (r : RelV v u) (hn : x ≠ "__name__" := by decide) (hd : (x == ("__debug__" : Str)) = false := by decide) : PE X (.Name x pos) (tC v) :=
  fun _ _ _ H _ I h => ld_blt I hg hm hv ⟨v, H, I, r, h⟩ hn hd
def t2I (ta tb : TE) (k : Int → Int → Hp → Prop) : St → Hp → Prop := fun σ H => ta σ H fun x H1 => tb σ H1 fun y H2 => ∃ i j, x = .int i ∧ y = .int j ∧ k i j H2
def tAdd (ta tb : TE) : TE := fun σ H Q => t2I ta tb (fun i j H2 => Q (.int (i + j)) H2) σ H
def tSub (ta tb : TE) : TE := fun σ H Q => t2I ta tb (fun i j H2 => Q (.int (i - j)) H2) σ H
def tMul (ta tb : TE) : TE := fun σ H Q => t2I ta tb (fun i j H2 => (-(2 ^ 64) < i ∧ i < 2 ^ 64) ∧ Q (.int (i * j)) H2) σ H
variable {a b : Expr} {ta tb : TE} {pos : Pos}
def PC (X : Cx) (op : CmpOp) (a b : Expr) (t : TE) : Prop :=
  ∀ (pins : List (Addr × Obj)) (s : Shared) (σ : St) (H : Hp) (Q : VK), Inv X pins σ H s → t σ H Q →
    wpAny (model X.prog X.w) X.A (eval a X.env) (fun v s₁ => wpAny (model X.prog X.w) X.A (eval b X.env) (fun u s₂ => wpAny (model X.prog X.w) X.A (compareOp op v u) (EP X pins σ Q) X.xe s₂) X.xe s₁) X.xe s
theorem nobehind (b : Expr) {op : CmpOp} (h : op ≠ .In) (h2 : op ≠ .NotIn) : behindInMarks op b = false := by
  have e1 : (op == CmpOp.In) = false := by cases op <;> first | rfl | exact absurd rfl h
  have e2 : (op == CmpOp.NotIn) = false := by cases op <;> first | rfl | exact absurd rfl h2
  cases b <;> simp [behindInMarks, e1, e2]
def tCmp (p : Int → Int → Bool) (ta tb : TE) : TE := fun σ H Q => t2I ta tb (fun i j H2 => Q (.bl (p i j)) H2) σ H
abbrev tLt : TE → TE → TE := tCmp fun i j => decide (i < j)
abbrev tLe : TE → TE → TE := tCmp fun i j => decide (i ≤ j)
abbrev tGt : TE → TE → TE := tCmp fun i j => decide (j < i)
abbrev tGe : TE → TE → TE := tCmp fun i j => decide (j ≤ i)
abbrev tEqI : TE → TE → TE := tCmp fun i j => decide (i = j)
abbrev tNeI : TE → TE → TE := tCmp fun i j => !decide (i = j)
def tIsN (ta : TE) : TE := fun σ H Q => ta σ H fun x H1 => Q (.bl (decide (x = .non))) H1
def tNotN (ta : TE) : TE := fun σ H Q => ta σ H fun x H1 => Q (.bl (!decide (x = .non))) H1
theorem RelV.none_iff {x : V} {v : Value} (r : RelV x v) : (v == Value.none) = decide (x = .non) := by
  cases x with
  | non => cases r; rfl
  | bl _ => cases r; rfl
  | int _ => obtain ⟨t, rfl⟩ := r; rfl
  | str _ => obtain ⟨t, rfl⟩ := r; rfl
  | byt _ => obtain ⟨t, rfl⟩ := r; rfl
  | flt _ => obtain ⟨t, rfl⟩ := r; rfl
  | ref _ => cases r; rfl
  | ty _ => cases r; rfl
theorem pc_isN {j pos'} (ha : PE X a ta) : PC X .Is a (.Constant .none j pos') (tIsN ta) := by
  intro pins s σ H Q I h
  refine thn (ha pins s σ H _ I h) fun v s1 ⟨x, H1, I1, r1, q1⟩ => ?_
  exact Constant_none (is_none_gen ⟨.bl _, H1, I1, by rw [r1.none_iff]; rfl, q1⟩)
def tB (t : TE) : TT := fun σ H Q => t σ H fun x H1 => ∃ c, x = .bl c ∧ Q c H1
theorem pe_cmp {op : CmpOp} {t : TE} (h : PC X op a b t) (h1 : behindInMarks op b = false := by first | exact nobehind _ (by decide) (by decide) | rfl) : PE X (.Compare a [op] [b] pos) t := fun pins s σ H Q I hw => wpAny_Compare1 (h pins s σ H Q I hw) h1
theorem pt_cmp {op : CmpOp} {t : TE} (h : PC X op a b t) (h1 : behindInMarks op b = false := by first | exact nobehind _ (by decide) (by decide) | rfl) : PT X (.Compare a [op] [b] pos) (tB t) := by
  intro pins s σ H Q I hw
  refine wpAny_isTrue_Compare1 (thn (h pins s σ H _ I hw) fun v s1 h1 => thn h1 fun u s2 h2 => thn h2 fun c s3 ⟨x, H1, I1, r1, q1⟩ => ?_) h1
  obtain ⟨d, rfl, q⟩ := q1
  cases r1
  exact wpAny_truthy_bool ⟨H1, I1, q⟩
theorem pt_val {e : Expr} {t : TE} (h : PE X e t) (he : ∀ whole, isTrue e X.env whole = (do let v ← whole; standAt e.pos; holding [v] (truthy v)) := by intro _; rfl) : PT X e (tB t) := by
  intro pins s σ H Q I hw
  refine isTrue_plain (thn (h pins s σ H _ I hw) fun v s1 ⟨x, H1, I1, r1, q1⟩ => ?_) (he _)
  obtain ⟨d, rfl, q⟩ := q1
  cases r1
  exact wpAny_truthy_bool ⟨H1, I1, q⟩
variable {tA tB' : TT} {rest : List Expr}
def tAnd (t u : TT) : TT := fun σ H Q => t σ H fun c H1 => if c = true then u σ H1 Q else Q false H1
def tOr (t u : TT) : TT := fun σ H Q => t σ H fun c H1 => if c = true then Q true H1 else u σ H1 Q
def tNot (t : TT) : TT := fun σ H Q => t σ H fun c H1 => Q (!c) H1
theorem pw_or1 (ha : PT X a tA) : PW X (.BoolOp .Or [a] pos) tA := by
  intro wh pins s σ H Q I h
  refine isTrue_or (thn (ha pins s σ H Q I h) fun c s1 e => ?_)
  cases c with
  | false => exact isTrue_or_nil e
  | true => exact e
theorem pw_or (ha : PT X a tA) (hb : PW X (.BoolOp .Or (b :: rest) pos) tB') : PW X (.BoolOp .Or (a :: b :: rest) pos) (tOr tA tB') := by
  intro wh pins s σ H Q I h
  refine isTrue_or (thn (ha pins s σ H _ I h) fun c s1 ⟨H1, I1, q1⟩ => ?_)
  cases c with
  | true => exact ⟨H1, I1, q1⟩
  | false => exact hb wh pins s1 σ H1 Q I1 q1
theorem pt_not (ha : PT X a tA) : PT X (.UnaryOp .Not a pos) (tNot tA) := by
  intro pins s σ H Q I h
  exact isTrue_not (ha pins s σ H (fun c H1 => Q (!c) H1) I h)
def tAndV (ta tb : TE) : TE := fun σ H Q => ta σ H fun x H1 => ∃ c, x = .bl c ∧ if c = true then tb σ H1 Q else Q (.bl false) H1
def tOrV (ta tb : TE) : TE := fun σ H Q => ta σ H fun x H1 => ∃ c, x = .bl c ∧ if c = true then Q (.bl true) H1 else tb σ H1 Q
def tNotV (ta : TE) : TE := fun σ H Q => ta σ H fun x H1 => ∃ c, x = .bl c ∧ Q (.bl (!c)) H1
theorem pe_one {op} {t : TE} (h : PE X a t) : PE X (.BoolOp op [a] pos) t := fun pins s σ H Q I hw => BoolOp_one (h pins s σ H Q I hw)
theorem pe_and (ha : PE X a ta) (hb : PE X (.BoolOp .And (b :: rest) pos) tb) : PE X (.BoolOp .And (a :: b :: rest) pos) (tAndV ta tb) := by
  intro pins s σ H Q I h
  refine BoolOp_and (thn (ha pins s σ H _ I h) fun v s1 ⟨x, H1, I1, r1, q1⟩ => ?_)
  obtain ⟨c, rfl, q1⟩ := q1
  cases r1
  refine wpAny_truthy_bool ?_
  cases c with
  | true => exact hb pins s1 σ H1 Q I1 q1
  | false => exact ⟨.bl false, H1, I1, rfl, q1⟩
theorem pe_not (ha : PE X a ta) : PE X (.UnaryOp .Not a pos) (tNotV ta) := by
  intro pins s σ H Q I h
  refine UnaryOp_ (thn (ha pins s σ H _ I h) fun v s1 ⟨x, H1, I1, r1, q1⟩ => ?_)
  obtain ⟨c, rfl, q1⟩ := q1
  cases r1
  exact not_of (wpAny_truthy_bool ⟨.bl (!c), H1, I1, rfl, q1⟩)
def tIf (t : TT) (ta tb : TE) : TE := fun σ H Q => t σ H fun c H1 => if c = true then ta σ H1 Q else tb σ H1 Q
theorem pe_ifExp {c : Expr} (hc : PT X c tA) (ha : PE X a ta) (hb : PE X b tb) : PE X (.IfExp c a b pos) (tIf tA ta tb) := by
  intro pins s σ H Q I h
  refine wpAny_IfExp (thn (hc pins s σ H _ I h) fun d s1 ⟨H1, I1, q1⟩ => ?_)
  cases d with
  | true => exact ha pins s1 σ H1 Q I1 q1
  | false => exact hb pins s1 σ H1 Q I1 q1
end
end L2
namespace L2
open PySem PySem.Spec PyProof.Rows
def SqL (K : PySem.W.Frag) (H : Hp) (a : Addr) (xs : List V) : Prop :=
  Rd H a (.lst xs) ∨
    ∃ (o : Obj) (its : Array Value) (n : Nat), K.lookup a = some o ∧ o.cls = .type "list" ∧ o.dict = none ∧ o.data = .seq its n ∧ its.size ≤ sizeLine ∧ Vals xs its.toList
def SqT (K : PySem.W.Frag) (H : Hp) (a : Addr) (xs : List V) : Prop :=
  Rd H a (.tup xs) ∨
    ∃ (o : Obj) (its : Array Value) (n : Nat), K.lookup a = some o ∧ o.cls = .type "tuple" ∧ o.data = .seq its n ∧ its.size ≤ sizeLine ∧ Vals xs its.toList
def absV : Value → Option V
  | .none => some .non
  | .bool b => some (.bl b)
  | .int i _ => some (.int i)
  | .str x _ => some (.str x)
  | .bytes b _ => some (.byt b)
  | .float b _ => some (.flt b)
  | .ref a => some (.ref a)
  | .type n => some (.ty n)
  | _ => none
theorem RelV.abs {x : V} {u : Value} (r : RelV x u) : absV u = some x := by
  cases x with
  | non => cases r; rfl
  | bl _ => cases r; rfl
  | int _ => obtain ⟨t, rfl⟩ := r; rfl
  | str _ => obtain ⟨t, rfl⟩ := r; rfl
  | byt _ => obtain ⟨t, rfl⟩ := r; rfl
  | flt _ => obtain ⟨t, rfl⟩ := r; rfl
  | ref _ => cases r; rfl
  | ty _ => cases r; rfl
theorem RelV.inj {x y : V} {u : Value} (r : RelV x u) (q : RelV y u) : x = y := Option.some.inj (r.abs.symm.trans q.abs)
theorem Vals.inj : ∀ {xs ys : List V} {us : List Value}, Vals xs us → Vals ys us → xs = ys
  | _, _, _, .nil, .nil => rfl
  | _, _, _, .cons r t, .cons r' t' => by rw [r.inj r', Vals.inj t t']
section
variable {X : Cx} {pins : List (Addr × Obj)} {σ : St} {H : Hp} {s : Shared} {a : Addr} {xs ys : List V}
theorem SqL.of {K : PySem.W.Frag} (h : H a = some (.lst xs)) : SqL K H a xs := .inl (.inl h)
theorem SqT.of {K : PySem.W.Frag} (h : H a = some (.tup xs)) : SqT K H a xs := .inl (.inl h)
theorem Inv.list (I : Inv X pins σ H s) (h : SqL X.K H a xs) : ∃ its : List Value, Vals xs its ∧ PlainL s.heap a its.toArray ∧ xs.length ≤ sizeLine := by
  rcases h with h | ⟨o, its, n, hk, hc, hd, hs, hz, r⟩
  · obtain ⟨z, its, n, r, e⟩ := h.ok I.hok
    exact ⟨its, r, ⟨_, n, e, rfl, rfl, rfl⟩, z⟩
  · refine ⟨its.toList, r, ⟨o, n, I.kIn a o hk, hc, hd, by simpa using hs⟩, ?_⟩
    have e := r.length
    simp only [Array.length_toList] at e
    omega
theorem Inv.tuple (I : Inv X pins σ H s) (h : SqT X.K H a xs) : ∃ its : List Value, Vals xs its ∧ IsTup s.heap a its.toArray ∧ xs.length ≤ sizeLine := by
  rcases h with h | ⟨o, its, n, hk, hc, hs, hz, r⟩
  · obtain ⟨z, its, r, p⟩ := h.ok I.hok
    exact ⟨its, r, p, z⟩
  · refine ⟨its.toList, r, ⟨o, I.kIn a o hk, hc, n, by simpa using hs⟩, ?_⟩
    have e := r.length
    simp only [Array.length_toList] at e
    omega
theorem Inv.list_inj (I : Inv X pins σ H s) (h : SqL X.K H a xs) (h' : SqL X.K H a ys) : xs = ys := by
  obtain ⟨its, r, ⟨o, n, e, _, _, d⟩, _⟩ := I.list h
  obtain ⟨its', r', ⟨o', n', e', _, _, d'⟩, _⟩ := I.list h'
  rw [e] at e'; cases e'
  rw [d] at d'
  injection d' with d1 _
  have : its = its' := by simpa using congrArg Array.toList d1
  subst this
  exact r.inj r'
theorem Inv.tuple_inj (I : Inv X pins σ H s) (h : SqT X.K H a xs) (h' : SqT X.K H a ys) : xs = ys := by
  obtain ⟨its, r, ⟨o, e, _, n, d⟩, _⟩ := I.tuple h
  obtain ⟨its', r', ⟨o', e', _, n', d'⟩, _⟩ := I.tuple h'
  rw [e] at e'; cases e'
  rw [d] at d'
  injection d' with d1 _
  have : its = its' := by simpa using congrArg Array.toList d1
  subst this
  exact r.inj r'
end
abbrev Cx.wish (X : Cx) (E : Value → Shared → Prop) : Cx := { X with xe := E }
abbrev Cx.nox (X : Cx) : Cx := X.wish fun _ _ => False
theorem Cx.Ok.wish {X : Cx} (ok : X.Ok) (E : Value → Shared → Prop) : (X.wish E).Ok :=
  ⟨ok.mod, ok.kind, ok.glob, ok.blt, ok.above, ok.inj, ok.has, ok.cab, ok.hd, ok.frames, ok.stk, ok.exf, ok.bs, ok.bsz, ok.noex, ok.exfs, ok.funs, ok.frf⟩
theorem Cx.Ok.unwish {X : Cx} {E : Value → Shared → Prop} (ok : (X.wish E).Ok) : X.Ok :=
  ⟨ok.mod, ok.kind, ok.glob, ok.blt, ok.above, ok.inj, ok.has, ok.cab, ok.hd, ok.frames, ok.stk, ok.exf, ok.bs, ok.bsz, ok.noex, ok.exfs, ok.funs, ok.frf⟩
section
variable {X : Cx} {pins : List (Addr × Obj)} {σ : St} {H : Hp} {s : Shared} {E : Value → Shared → Prop}
theorem Inv.wish (I : Inv X pins σ H s) (E : Value → Shared → Prop) : Inv (X.wish E) pins σ H s := ⟨I.ok.wish E, I.os, I.bare, I.base, I.loc, I.cell, I.free, I.freeC, I.pin, I.hok, I.len⟩
theorem Inv.unwish (I : Inv (X.wish E) pins σ H s) : Inv X pins σ H s := ⟨I.ok.unwish, I.os, I.bare, I.base, I.loc, I.cell, I.free, I.freeC, I.pin, I.hok, I.len⟩
theorem SP.unwish {D : Ends} {f : Flow} {s' : Shared} (h : SP (X.wish E) pins D f s') : SP X pins D f s' := by
  cases f with
  | next => obtain ⟨σ', H', I, q⟩ := h; exact ⟨σ', H', I.unwish, q⟩
  | brk => obtain ⟨σ', H', I, q⟩ := h; exact ⟨σ', H', I.unwish, q⟩
  | cont => obtain ⟨σ', H', I, q⟩ := h; exact ⟨σ', H', I.unwish, q⟩
  | ret u => obtain ⟨v, σ', H', I, r, q⟩ := h; exact ⟨v, σ', H', I.unwish, r, q⟩
theorem PE.nox {e : Expr} {t : TE} (h : PE X.nox e t) : PE X e t := fun pins s σ H Q I hw =>
  wpAny_mono (h pins s σ H Q (I.wish _) hw) (fun _ _ ⟨v, H', I', r, q⟩ => ⟨v, H', I'.unwish, r, q⟩) fun _ _ z => False.elim z
theorem PT.nox {e : Expr} {t : TT} (h : PT X.nox e t) : PT X e t := fun pins s σ H Q I hw =>
  wpAny_mono (h pins s σ H Q (I.wish _) hw) (fun _ _ ⟨H', I', q⟩ => ⟨H', I'.unwish, q⟩) fun _ _ z => False.elim z
theorem PSs.nox {st : List Stmt} {t : TS} (h : PSs X.nox st t) : PSs X st t := fun pins s σ H D I hw =>
  wpAny_mono (h pins s σ H D (I.wish _) hw) (fun _ _ q => q.unwish) fun _ _ z => False.elim z
end
section
variable {X : Cx} {st : Stmt} {rest : List Stmt} {t u : TS} {e : Expr} {te : TE} {pos : Pos}
def tNext : TS := fun D σ H => D.nx σ H
def tSeq (t u : TS) : TS := fun D σ H => t { D with nx := u D } σ H
theorem pss_nil : PSs X [] tNext := fun _ _ σ H _ I h => wpAny_execs_nil ⟨σ, H, I, h⟩
theorem pss_cons (h1 : PS X st t) (h2 : PSs X rest u) : PSs X (st :: rest) (tSeq t u) := by
  intro pins s σ H D I h
  refine wpAny_execs_cons (thn (h1 pins s σ H { D with nx := u D } I h) fun f s1 q => ?_)
  cases f with
  | next =>
    obtain ⟨σ', H', I', q⟩ := q
    exact h2 pins s1 σ' H' D I' q
  | ret v => exact q
  | brk => exact q
  | cont => exact q
theorem pss_one (h1 : PS X st t) : PSs X [st] t := by
  intro pins s σ H D I h
  refine wpAny_execs_cons (thn (h1 pins s σ H D I h) fun f s1 q => ?_)
  cases f with
  | next => exact wpAny_execs_nil q
  | ret v => exact q
  | brk => exact q
  | cont => exact q
def tBreak : TS := fun D σ H => D.bk σ H
def tCont : TS := fun D σ H => D.ct σ H
theorem Inv.quiet {pins : List (Addr × Obj)} {σ : St} {H : Hp} {s : Shared} (I : Inv X pins σ H s) : interactive X.env = false := by simp [interactive, I.ok.kind]
def tDrop (te : TE) : TS := fun D σ H => te σ H fun _ H1 => D.nx σ H1
theorem ps_expr (he : PE X e te) (hs : swapsWith e none pos.line X.env = pure false := by rfl) : PS X (.Expr e pos) (tDrop te) := by
  intro pins s σ H D I h
  exact wpAny_Expr_any (thn (he pins s σ H _ I h) fun v s1 ⟨x, H1, I1, r1, q1⟩ => ⟨σ, H1, I1, q1⟩) I.quiet hs
def tRet (te : TE) : TS := fun D σ H => te σ H D.rt
theorem ps_ret (he : PE X e te) : PS X (.Return (some e) pos) (tRet te) := by
  intro pins s σ H D I h
  exact wpAny_Return_some (thn (he pins s σ H _ I h) fun v s1 ⟨x, H1, I1, r1, q1⟩ => ⟨x, σ, H1, I1, r1, q1⟩)
def tRetN : TS := fun D _ H => D.rt .non H
def tIfS (c : TT) (t u : TS) : TS := fun D σ H => c σ H fun b H1 => if b = true then t D σ H1 else u D σ H1
theorem ps_if {c : Expr} {a b : List Stmt} {tc : TT} (hc : PT X c tc) (ha : PSs X a t) (hb : PSs X b u) : PS X (.If c a b pos) (tIfS tc t u) := by
  intro pins s σ H D I h
  refine wpAny_If (thn (hc pins s σ H _ I h) fun d s1 ⟨H1, I1, q1⟩ => ?_)
  cases d with
  | true => exact ha pins s1 σ H1 D I1 q1
  | false => exact hb pins s1 σ H1 D I1 q1
def tNever : TS := fun _ _ _ => False
theorem ps_never : PS X st tNever := fun _ _ _ _ _ _ h => h.elim
end
abbrev TG := V → St → Hp → (St → Hp → Prop) → Prop
abbrev TGs := List V → St → Hp → (St → Hp → Prop) → Prop
def PG (X : Cx) (target : Expr) (t : TG) : Prop :=
  ∀ (pins : List (Addr × Obj)) (s : Shared) (σ : St) (H : Hp) (v : V) (u : Value) (Q : St → Hp → Prop), Inv X pins σ H s → RelV v u → t v σ H Q →
    wpAny (model X.prog X.w) X.A (assign target X.env u) (fun _ s' => ∃ σ' H', Inv X pins σ' H' s' ∧ Q σ' H') X.xe s
def PGs (X : Cx) (ts : List Expr) (t : TGs) : Prop :=
  ∀ (pins : List (Addr × Obj)) (s : Shared) (σ : St) (H : Hp) (vs : List V) (us : List Value) (Q : St → Hp → Prop), Inv X pins σ H s → Vals vs us → t vs σ H Q →
    wpAny (model X.prog X.w) X.A (assignInOrder ((assignEach ts X.env).map (·.2)) us) (fun _ s' => ∃ σ' H', Inv X pins σ' H' s' ∧ Q σ' H') X.xe s
abbrev TSet := V → V → V → Hp → (Hp → Prop) → Prop
def PSet (X : Cx) (t : TSet) : Prop :=
  ∀ (pins : List (Addr × Obj)) (s : Shared) (σ : St) (H : Hp) (o i v : V) (ov iv u : Value) (Q : Hp → Prop), Inv X pins σ H s → RelV o ov → RelV i iv → RelV v u → t o i v H Q →
    wpAny (model X.prog X.w) X.A (setItem ov iv u) (fun _ s' => ∃ H', Inv X pins σ H' s' ∧ Q H') X.xe s
abbrev TIp := V → V → Hp → VK → Prop
def PIp (X : Cx) (op : Operator) (t : TIp) : Prop :=
  ∀ (pins : List (Addr × Obj)) (s : Shared) (σ : St) (H : Hp) (x y : V) (v u : Value) (Q : VK), Inv X pins σ H s → RelV x v → RelV y u → t x y H Q →
    wpAny (model X.prog X.w) X.A (inplaceOp op v u) (EP X pins σ Q) X.xe s
section
variable {X : Cx} {pos : Pos}
def gName (i : Nat) : TG := fun v σ H Q => Q (σ.set i (some v)) H
theorem pg_name {i : Nat} {x : Str} (hN : X.N.Nodup) (hi : X.N[i]? = some x) (hx : Loc X.env.scope x) (hf : X.fn x = true ∨ X.env.scope.names.lookup x = some .local := by first | exact .inl rfl | exact .inr rfl | assumption) : PG X (.Name x pos) (gName i) := by
  intro pins s σ H v u Q I r h
  exact wpAny_assign_Name (store_ok I hN hi hx r (fun s' I' => ⟨_, H, I', h⟩) hf)
def gNil : TGs := fun vs σ H Q => vs = [] ∧ Q σ H
def gCons (t : TG) (u : TGs) : TGs := fun vs σ H Q => ∃ v r, vs = v :: r ∧ t v σ H fun σ' H' => u r σ' H' Q
theorem pgs_nil : PGs X [] gNil := by
  intro pins s σ H vs us Q I r h
  obtain ⟨e, h⟩ := h
  subst e
  cases r
  exact assignInOrder_nil ⟨σ, H, I, h⟩
theorem pgs_cons {e : Expr} {es : List Expr} {t : TG} {u : TGs} (h1 : PG X e t) (h2 : PGs X es u)
    (hs : (assignEach (e :: es) X.env).map (·.2) = assign e X.env :: (assignEach es X.env).map (·.2) := by rfl) : PGs X (e :: es) (gCons t u) := by
  intro pins s σ H vs us Q I r h
  obtain ⟨v, vr, e1, h⟩ := h
  subst e1
  cases r with
  | cons r rr =>
    rw [hs]
    refine assignInOrder_cons (thn (h1 pins s σ H _ _ _ I r h) fun _ s1 ⟨σ1, H1, I1, q1⟩ => ?_)
    exact h2 pins s1 σ1 H1 _ _ Q I1 rr q1
def gTup (K : PySem.W.Frag) (n : Nat) (t : TGs) : TG := fun v σ H Q => ∃ a xs, v = .ref a ∧ SqT K H a xs ∧ xs.length = n ∧ t xs σ H Q
theorem pg_tup {es : List Expr} {k : Nat} {t : TGs} {n : Nat} (hc : X.calm = true) (h : PGs X es t)
    (hn : (assignEach es X.env).length = n := by rfl) (hst : (assignEach es X.env).findIdx? (·.1) = none := by rfl) : PG X (.Tuple es k pos) (gTup X.K n t) := by
  intro pins s σ H v u Q I r hw
  obtain ⟨a, xs, e1, hq, hl, hw⟩ := hw
  subst e1
  cases r
  obtain ⟨its, rv, ht, hz⟩ := I.tuple hq
  refine assign_Tuple_tuple (I.ok.hd hc) ht (by simp [hn, ← hl, rv.length]) hst fun h' hx => ?_
  have I1 : Inv X pins σ H { s with heap := h' } := I.kept (t' := s.toks) fun b o e => hx b o (Nat.ne_of_lt (Heap.lt_size e)) e
  exact h pins _ σ H xs _ Q I1 (by simpa using rv) hw
def gSub (to ti : TE) (t : TSet) : TG := fun v σ H Q => to σ H fun o H1 => ti σ H1 fun i H2 => t o i v H2 fun H3 => Q σ H3
def tAsg (te : TE) (g : TG) : TS := fun D σ H => te σ H fun x H1 => g x σ H1 D.nx
theorem ps_asg {tg e : Expr} {te : TE} {g : TG} (he : PE X e te) (hg : PG X tg g) (hs : swapsWithSole [tg] e pos.line X.env = pure false := by rfl) (hw : swappedStores [tg] e X.env = pure none := by rfl)
    (h1 : (assignEach [tg] X.env).map (·.2) = [assign tg X.env] := by rfl) : PS X (.Assign [tg] e pos) (tAsg te g) := by
  intro pins s σ H D I h
  refine wpAny_Assign_stores (thn (he pins s σ H _ I h) fun v s1 ⟨x, H1, I1, r1, q1⟩ => ?_) hs hw
  rw [h1]
  exact thn (hg pins s1 σ H1 x v _ I1 r1 q1) fun _ s2 q => q
theorem ps_set {i : Nat} {x : Str} {e : Expr} {te : TE} {pos' : Pos} (hN : X.N.Nodup) (hi : X.N[i]? = some x) (hx : Loc X.env.scope x) (he : PE X e te) (hs : swapsWith e (some (.Name x pos')) pos.line X.env = pure false := by rfl) (hf : X.fn x = true ∨ X.env.scope.names.lookup x = some .local := by first | exact .inl rfl | exact .inr rfl | assumption) :
    PS X (.Assign [.Name x pos'] e pos) (tAsg te (gName i)) := by
  intro pins s σ H D I h
  refine wpAny_Assign_Name (thn (he pins s σ H _ I h) fun v s1 ⟨y, H1, I1, r1, q1⟩ => ?_) hs
  exact store_ok I1 hN hi hx r1 (fun s2 I2 => ⟨_, H1, I2, q1⟩) hf
def tPar (i j : Nat) (ta : TA) : TS := fun D σ H => ta σ H fun vs H1 => ∃ v w, vs = [v, w] ∧ D.nx ((σ.set i (some v)).set j (some w)) H1
theorem ps_par {i j : Nat} {x y : Str} {a b : Expr} {ta : TA} {px py pt : Pos} {kt k2 pt2} (hc : X.calm = true) (hN : X.N.Nodup) (hi : X.N[i]? = some x) (hj : X.N[j]? = some y) (hij : i ≠ j)
    (hx : X.env.scope.names.lookup x = some .local) (hy : X.env.scope.names.lookup y = some .local) (ha : PA X [a, b] ta)
    (hw : swappedStores [.Tuple [.Name x px, .Name y py] kt pt] (.Tuple [a, b] k2 pt2) X.env = pure (some [x, y]))
    (hs : swapsWithSole [.Tuple [.Name x px, .Name y py] kt pt] (.Tuple [a, b] k2 pt2) pos.line X.env = pure false := by rfl) :
    PS X (.Assign [.Tuple [.Name x px, .Name y py] kt pt] (.Tuple [a, b] k2 pt2) pos) (tPar i j ta) := by
  intro pins s σ H D I h
  rw [exec_Assign_arm]
  refine wpAny_bind (wpAny_standAt ?_)
  rw [hs]
  refine wpAny_bind (wpAny_pure ?_)
  rw [if_neg (by decide)]
  refine wpAny_bind (Tuple_ (thn (ha _ pins s σ H _ I h) fun us s1 ⟨vs, H1, I1, r1, q1⟩ => ?_))
  obtain ⟨v, w, e1, q1⟩ := q1
  subst e1
  obtain ⟨u1, u2, rfl, rv, rw'⟩ : ∃ u1 u2, us = [u1, u2] ∧ RelV v u1 ∧ RelV w u2 := by
    cases r1 with
    | cons p q =>
      cases q with
      | cons p' q' =>
        cases q'
        exact ⟨_, _, rfl, p, p'⟩
  refine wpAny_newObj_type ?_ (by show 2 ≤ sizeLine; decide)
  have I2 : Inv X pins σ H1 { s1 with heap := s1.heap.push { cls := .type "tuple", data := .seq [u1, u2].toArray } } := I1.kept (t' := s1.toks) fun b o e => Heap.get?_push_of_some _ e
  rw [hw]
  refine wpAny_bind (wpAny_pure ?_)
  show wpAny (model X.prog X.w) X.A (do rule "assign.swapped-stores"; let items ← unpackItems (.ref s1.heap.objs.size) 2 none; assignInOrder [fun v => bindName X.env y v, fun v => bindName X.env x v] items.reverse; pure Flow.next) _ _ _
  refine wpAny_bind (wpAny_rule (wpAny_bind (unpackItems_tuple (items := #[u1, u2]) (I.ok.hd hc) (IsTup.new s1.heap _) fun h' hx' => ?_)))
  have I3 := I2.kept (h' := h') (t' := s1.toks) fun b o e => hx' b o (Nat.ne_of_lt (Heap.lt_size e)) e
  show wpAny _ _ (assignInOrder [fun v => bindName X.env y v, fun v => bindName X.env x v] [u2, u1] >>= fun _ => pure Flow.next) _ _ _
  refine wpAny_bind (assignInOrder_cons (wpAny_bindName (store_ok I3 hN hj (.inl hy) rw' (fun s2 I4 => ?_) (.inr hy))))
  refine assignInOrder_cons (wpAny_bindName (store_ok I4 hN hi (.inl hx) rv (fun s3 I5 => assignInOrder_nil (wpAny_pure ?_)) (.inr hx)))
  rw [List.set_comm _ _ (Ne.symm hij)] at I5
  exact ⟨_, H1, I5, q1⟩
def tAug (i : Nat) (te : TE) (ti : TIp) : TS := fun D σ H => ∃ x, σ[i]? = some (some x) ∧ te σ H fun y H1 => ti x y H1 fun z H2 => D.nx (σ.set i (some z)) H2
def tAugS (to ti te : TE) (tget : V → V → Hp → VK → Prop) (tip : TIp) (tset : TSet) : TS := fun D σ H => to σ H fun o H1 => ti σ H1 fun i H2 => tget o i H2 fun x H3 => te σ H3 fun y H4 => tip x y H4 fun z H5 => tset o i z H5 fun H6 => D.nx σ H6
def PGet (X : Cx) (t : V → V → Hp → VK → Prop) : Prop :=
  ∀ (pins : List (Addr × Obj)) (s : Shared) (σ : St) (H : Hp) (o i : V) (ov iv : Value) (Q : VK), Inv X pins σ H s → RelV o ov → RelV i iv → t o i H Q →
    wpAny (model X.prog X.w) X.A (getItem ov iv) (EP X pins σ Q) X.xe s
def ipI (f : Int → Int → Int) : TIp := fun x y H Q => ∃ i j, x = .int i ∧ y = .int j ∧ Q (.int (f i j)) H
end
section
variable {X : Cx} {pos : Pos}
def tWhile (c : TT) (tb : TS) : TS := fun D σ H => ∃ W : Nat → St → Hp → Prop, (∃ m, W m σ H) ∧ ∀ m σ H, W m σ H →
  c σ H fun b H1 => if b = true then ∃ N : St → Hp → Prop, (∀ σ' H', N σ' H' → ∃ m', m' < m ∧ W m' σ' H') ∧ tb { D with nx := N, ct := N, bk := D.nx } σ H1 else D.nx σ H1
theorem ps_while {c : Expr} {body : List Stmt} {tc : TT} {tb : TS} (hp : PassesOwn (model X.prog X.w) X.A X.env X.xe) (hc : PT X c tc) (hb : PSs X body tb) : PS X (.While c body [] pos) (tWhile tc tb) := by
  intro pins s σ H D I h
  obtain ⟨W, ⟨m0, w0⟩, turn⟩ := h
  refine wpAny_While (codeAny_whileLoop (fun n s' => ∃ σ' H', Inv X pins σ' H' s' ∧ W n σ' H') ?_ m0 ⟨σ, H, I, w0⟩)
  rintro n s1 ⟨σ1, H1, I1, w1⟩
  refine wpAny_passesOwn hp (thn (hc pins s1 σ1 H1 _ I1 (turn n σ1 H1 w1)) fun b s2 ⟨H2, I2, q2⟩ => ?_)
  cases b with
  | true =>
    obtain ⟨N, hN, q2⟩ := q2
    rw [if_pos rfl]
    refine wpAny_passesOwn hp (thn (hb pins s2 σ1 H2 _ I2 q2) fun f s3 q3 => ?_)
    cases f with
    | next =>
      obtain ⟨σ3, H3, I3, n3⟩ := q3
      obtain ⟨m', hm, w3⟩ := hN σ3 H3 n3
      exact ⟨m', hm, σ3, H3, I3, w3⟩
    | cont =>
      obtain ⟨σ3, H3, I3, n3⟩ := q3
      obtain ⟨m', hm, w3⟩ := hN σ3 H3 n3
      exact ⟨m', hm, σ3, H3, I3, w3⟩
    | brk => exact q3
    | ret v => exact q3
  | false =>
    rw [if_neg Bool.false_ne_true]
    exact wpAny_execs_nil ⟨σ1, H2, I2, q2⟩
end
structure It where
  go : Nat → Hp → Prop
  yld : Nat → Hp → V → Hp → Prop
  stop : Nat → Hp → Prop
def FpOk (X : Cx) (pins : List (Addr × Obj)) (H : Hp) (b : Addr) : Prop :=
  H b = none ∧ b ≠ X.env.locals ∧ b ∉ X.fs ∧ (b ∈ X.ex ∨ X.s₀.heap.objs.size ≤ b) ∧ (∀ x c, X.env.cells.lookup x = some c → c ≠ b) ∧ ∀ p ∈ X.pn ++ pins, p.1 ≠ b
theorem Inv.fpOk {X : Cx} {pins : List (Addr × Obj)} {σ : St} {H H' : Hp} {s : Shared} {b : Addr} (I : Inv X pins σ H s) (hb : s.heap.objs.size ≤ b) (hn : H' b = none) : FpOk X pins H' b := by
  refine ⟨hn, Nat.ne_of_gt (Nat.lt_of_lt_of_le I.lt hb), I.nofs hb, .inr (Nat.le_trans I.sz hb), fun x c e z => ?_, fun p hp z => ?_⟩
  · obtain ⟨v, q⟩ := I.cell x c e
    exact absurd (Nat.lt_of_lt_of_le q.lt (by rw [z]; exact hb)) (Nat.lt_irrefl _)
  · exact absurd (Nat.lt_of_lt_of_le (Heap.lt_size (I.pin p hp).1) (by rw [z]; exact hb)) (Nat.lt_irrefl _)
structure Turn (P : Program) (w : World) (K : PySem.W.Frag) (tg : Expr) (J : It) (fp : List Addr) (it : Addr) (tn : Nat → Heap → Prop) : Prop where
  mem : it ∈ fp
  obj : ∀ i h, tn i h → ∀ b ∈ fp, ∃ o, h.get? b = some o ∧ ∀ v, o.data ≠ .cell v
  keep : ∀ i h h', tn i h → (∀ b ∈ fp, ∀ o, h.get? b = some o → h'.get? b = some o) → tn i h'
  item : ∀ (X : Cx), X.prog = P → X.w = w → X.K = K → X.calm = true → ∀ (i : Nat) (pins : List (Addr × Obj)) (s : Shared) (σ : St) (H : Hp) (E : Value → Shared → Prop), Inv X pins σ H s → (∀ b ∈ fp, FpOk X pins H b) → tn i s.heap → J.go i H →
    wpAny (model P w) X.A (pyNext (.ref it)) (fun r s1 => ∃ u, r = some u ∧
      wpAny (model P w) X.A (letOwnedTupleGo tg (.ref it) u) (fun _ s2 => ∃ x H', Inv X pins σ H' s2 ∧ RelV x u ∧ J.yld i H x H' ∧ tn (i + 1) s2.heap ∧ ∀ b ∈ fp, H' b = none) E s1) E s
  done : ∀ (X : Cx), X.prog = P → X.w = w → X.K = K → X.calm = true → ∀ (i : Nat) (pins : List (Addr × Obj)) (s : Shared) (σ : St) (H : Hp) (E : Value → Shared → Prop), Inv X pins σ H s → (∀ b ∈ fp, FpOk X pins H b) → tn i s.heap → J.stop i H →
    wpAny (model P w) X.A (pyNext (.ref it)) (fun r s1 => r = none ∧ Inv X pins σ H s1) E s
  self : ∀ (A : Around) (i : Nat) (s : Shared) (Q : Value → Shared → Prop) (E : Value → Shared → Prop), tn i s.heap → Q (.ref it) s → wpAny (model P w) A (pyIter (.ref it)) Q E s
abbrev TI := St → Hp → (It → Hp → Prop) → Prop
def PIE (X : Cx) (pins : List (Addr × Obj)) (σ : St) (tg : Expr) (R : It → Hp → Prop) (itv : Value) (s2 : Shared) : Prop :=
  ∃ (it : Addr) (fp : List Addr) (tn : Nat → Heap → Prop) (J : It) (H' : Hp), itv = .ref it ∧ Inv X pins σ H' s2 ∧ Turn X.prog X.w X.K tg J fp it tn ∧ tn 0 s2.heap ∧ (∀ b ∈ fp, FpOk X pins H' b) ∧ R J H'
def PI (X : Cx) (tg iter : Expr) (wi : TI) : Prop :=
  ∀ (pins : List (Addr × Obj)) (s : Shared) (σ : St) (H : Hp) (R : It → Hp → Prop), Inv X pins σ H s → wi σ H R →
    wpAny (model X.prog X.w) X.A (eval iter X.env) (fun v s1 => wpAny (model X.prog X.w) X.A (pyIter v) (PIE X pins σ tg R) X.xe s1) X.xe s
theorem go_of {M : Model} {A : Around} {E : Value → Shared → Prop} {s : Shared} {tg : Expr} {it : Addr} {u : Value} {o : Obj} {n : String} {vs : Array Value} {Q : Unit → Shared → Prop} (ho : s.heap.get? it = some o) (hc : o.cls = .type n) (hd : o.data = .fields vs)
    (hn : ["enumerate", "zip", "dict_itemiterator", "dict_reverseitemiterator", "odict_iterator", "itertools.zip_longest", "itertools.pairwise"].contains n = false) (hQ : Q () s) : wpAny M A (letOwnedTupleGo tg (.ref it) u) Q E s := by
  unfold letOwnedTupleGo
  cases tg <;> first
    | exact wpAny_pure hQ
    | (cases u <;> first
        | exact wpAny_pure hQ
        | (refine wpAny_bind (wpAny_load ho ?_)
           rw [hc, hd]
           show wpAny M A (if (["enumerate", "zip", "dict_itemiterator", "dict_reverseitemiterator", "odict_iterator", "itertools.zip_longest", "itertools.pairwise"].contains n && vs[0]? == some (rawInt _)) = true then _ else _) Q E s
           rw [if_neg (by intro h; rw [hn, Bool.false_and] at h; cases h)]
           exact wpAny_pure hQ))
def Itl (K : PySem.W.Frag) (a : Addr) : It :=
  ⟨fun i H => ∃ xs x, SqL K H a xs ∧ xs[i]? = some x, fun i H x H' => H' = H ∧ ∀ xs, SqL K H a xs → xs[i]? = some x, fun i H => ∃ xs, SqL K H a xs ∧ xs.length ≤ i⟩
def Itt (K : PySem.W.Frag) (a : Addr) : It :=
  ⟨fun i H => ∃ xs x, SqT K H a xs ∧ xs[i]? = some x, fun i H x H' => H' = H ∧ ∀ xs, SqT K H a xs → xs[i]? = some x, fun i H => ∃ xs, SqT K H a xs ∧ xs.length ≤ i⟩
def Itr (lo : Int) (n : Nat) : It := ⟨fun i _ => i < n, fun i H x H' => H' = H ∧ x = .int (lo + i), fun i _ => n ≤ i⟩
theorem turn_list {P : Program} {w : World} {K : PySem.W.Frag} {tg : Expr} (a it : Addr) : Turn P w K tg (Itl K a) [it] it (fun i h => h.IsListIter it a i) where
  mem := by simp
  obj := fun i h st b hb => by
    have e : b = it := by simpa using hb
    subst e
    obtain ⟨o, e, c, d⟩ := st
    exact ⟨o, e, fun v z => by rw [d] at z; cases z⟩
  keep := fun i h h' st k => st.at fun o e => k it (by simp) o e
  item := by
    intro X hP hw hK hc i pins s σ H E I hf st hg
    subst hP hw hK
    obtain ⟨xs, x, hq, hx⟩ := hg
    obtain ⟨its, rv, p, hz⟩ := I.list hq
    obtain ⟨u, hu, ru⟩ := rv.get hx
    obtain ⟨f0, f1, f2, f3, f4, f5⟩ := hf it (by simp)
    refine wpAny_pyNext_list_item st p.isList (x := u) (by simpa using hu) fun h' st' sb => ?_
    have I1 : Inv X pins σ H { s with heap := h' } := I.turned (t' := s.toks) (fun b o hb e => (sb.2 b hb).trans e) f0 f1 f3 f4 f5
    obtain ⟨o, e, c, d⟩ := id st'
    exact ⟨u, rfl, go_of (s := { s with heap := h' }) e c d (by decide) ⟨x, H, I1, ru, ⟨rfl, fun ys hy => by rw [I.list_inj hy hq]; exact hx⟩, st', fun b hb => (hf b hb).1⟩⟩
  done := by
    intro X hP hw hK hc i pins s σ H E I hf st hg
    subst hP hw hK
    obtain ⟨xs, hq, hx⟩ := hg
    obtain ⟨its, rv, p, hz⟩ := I.list hq
    obtain ⟨f0, f1, f2, f3, f4, f5⟩ := hf it (by simp)
    have hl := rv.length
    exact wpAny_pyNext_list_end (I.ok.hd hc) st p.isList (by simp; omega) fun h' eb => ⟨rfl, I.turned (t' := s.toks) (fun b o hb e => eb b o hb e) f0 f1 f3 f4 f5⟩
  self := fun _ _ _ _ _ st h => wpAny_pyIter_listiter st h
theorem turn_tuple {P : Program} {w : World} {K : PySem.W.Frag} {tg : Expr} (a it : Addr) : Turn P w K tg (Itt K a) [it] it (fun i h => h.IsTupleIter it a i) where
  mem := by simp
  obj := fun i h st b hb => by
    have e : b = it := by simpa using hb
    subst e
    obtain ⟨o, e, c, d⟩ := st
    exact ⟨o, e, fun v z => by rw [d] at z; cases z⟩
  keep := fun i h h' st k => st.at fun o e => k it (by simp) o e
  item := by
    intro X hP hw hK hc i pins s σ H E I hf st hg
    subst hP hw hK
    obtain ⟨xs, x, hq, hx⟩ := hg
    obtain ⟨its, rv, p, hz⟩ := I.tuple hq
    obtain ⟨u, hu, ru⟩ := rv.get hx
    obtain ⟨f0, f1, f2, f3, f4, f5⟩ := hf it (by simp)
    refine wpAny_pyNext_tuple_item st (show s.heap.IsTuple a its.toArray from p) (x := u) (by simpa using hu) fun h' st' sb => ?_
    have I1 : Inv X pins σ H { s with heap := h' } := I.turned (t' := s.toks) (fun b o hb e => (sb.2 b hb).trans e) f0 f1 f3 f4 f5
    obtain ⟨o, e, c, d⟩ := id st'
    exact ⟨u, rfl, go_of (s := { s with heap := h' }) e c d (by decide) ⟨x, H, I1, ru, ⟨rfl, fun ys hy => by rw [I.tuple_inj hy hq]; exact hx⟩, st', fun b hb => (hf b hb).1⟩⟩
  done := by
    intro X hP hw hK hc i pins s σ H E I hf st hg
    subst hP hw hK
    obtain ⟨xs, hq, hx⟩ := hg
    obtain ⟨its, rv, p, hz⟩ := I.tuple hq
    obtain ⟨f0, f1, f2, f3, f4, f5⟩ := hf it (by simp)
    have hl := rv.length
    exact wpAny_pyNext_tuple_end (I.ok.hd hc) st (show s.heap.IsTuple a its.toArray from p) (by simp; omega) fun h' eb => ⟨rfl, I.turned (t' := s.toks) (fun b o hb e => eb b o hb e) f0 f1 f3 f4 f5⟩
  self := fun _ _ _ _ _ st h => wpAny_pyIter_tupleiter st h
theorem turn_range {P : Program} {w : World} {K : PySem.W.Frag} {tg : Expr} (it : Addr) (lo : Int) (n : Nat) : Turn P w K tg (Itr lo n) [it] it (fun i h => IsRangeIter h it (lo + (i : Nat) * 1) ((n : Int) - (i : Nat)) 1) where
  mem := by simp
  obj := fun i h st b hb => by
    have e : b = it := by simpa using hb
    subst e
    exact ⟨_, st, fun v z => by
      have z' : Data.fields _ = Data.cell v := z
      cases z'⟩
  keep := fun i h h' st k => k it (by simp) _ st
  item := by
    intro X hP hw hK hc i pins s σ H E I hf st hg
    subst hP hw hK
    obtain ⟨f0, f1, f2, f3, f4, f5⟩ := hf it (by simp)
    have W := Walks.range (prog := X.prog) (w := X.w) (I.ok.hd hc) it lo 1 n
    refine W.item i s _ _ hg st fun v h' tk hv st' kk => ?_
    obtain ⟨t, rfl⟩ := hv
    have I1 : Inv X pins σ H { s with heap := h', toks := tk } := I.turned (fun b o hb e => kk b o (by simpa using hb) e) f0 f1 f3 f4 f5
    refine ⟨_, rfl, go_of (s := { s with heap := h', toks := tk }) (n := "range_iterator") st' rfl rfl (by decide) ⟨.int (lo + i), H, I1, ⟨t, ?_⟩, ⟨rfl, rfl⟩, st', fun b hb => (hf b hb).1⟩⟩
    rw [Int.mul_one]
  done := by
    intro X hP hw hK hc i pins s σ H E I hf st hg
    subst hP hw hK
    obtain ⟨f0, f1, f2, f3, f4, f5⟩ := hf it (by simp)
    exact wpAny_pyNext_range_end (I.ok.hd hc) st (by have : n ≤ i := hg; omega) fun h' eb => ⟨rfl, I.turned (t' := s.toks) (fun b o hb e => eb b o hb e) f0 f1 f3 f4 f5⟩
  self := fun _ _ _ _ _ st h => wpAny_pyIter_rangeiter st h
end L2
namespace L2
open PySem PySem.Spec PyProof.Rows
section
variable {X : Cx} {tg : Expr}
def iList (K : PySem.W.Frag) (tl : TE) : TI := fun σ H R => tl σ H fun x H1 => ∃ a, x = .ref a ∧ (∃ xs, SqL K H1 a xs) ∧ R (Itl K a) H1
def iTup (K : PySem.W.Frag) (tl : TE) : TI := fun σ H R => tl σ H fun x H1 => ∃ a, x = .ref a ∧ (∃ xs, SqT K H1 a xs) ∧ R (Itt K a) H1
theorem pi_list {l : Expr} {tl : TE} (hl : PE X l tl) : PI X tg l (iList X.K tl) := by
  intro pins s σ H R I h
  refine thn (hl pins s σ H _ I h) fun v s1 ⟨x, H1, I1, r1, q1⟩ => ?_
  obtain ⟨a, e, ⟨xs, hq⟩, q⟩ := q1
  subst e
  cases r1
  obtain ⟨its, rv, p, hz⟩ := I1.list hq
  refine wpAny_pyIter_list p.isList ?_
  refine ⟨s1.heap.objs.size, [s1.heap.objs.size], _, _, H1, rfl, I1.kept (t' := s1.toks) fun b o e => Heap.get?_push_of_some _ e, turn_list a _, ⟨_, Heap.get?_push_size _ rfl, rfl, rfl⟩, fun b hb => ?_, q⟩
  have e : b = s1.heap.objs.size := by simpa using hb
  subst e
  exact I1.fpOk (Nat.le_refl _) (I1.hok.fresh (Nat.le_refl _))
theorem pi_tup {l : Expr} {tl : TE} (hl : PE X l tl) : PI X tg l (iTup X.K tl) := by
  intro pins s σ H R I h
  refine thn (hl pins s σ H _ I h) fun v s1 ⟨x, H1, I1, r1, q1⟩ => ?_
  obtain ⟨a, e, ⟨xs, hq⟩, q⟩ := q1
  subst e
  cases r1
  obtain ⟨its, rv, p, hz⟩ := I1.tuple hq
  refine wpAny_pyIter_tuple (show s1.heap.IsTuple a its.toArray from p) ?_
  refine ⟨s1.heap.objs.size, [s1.heap.objs.size], _, _, H1, rfl, I1.kept (t' := s1.toks) fun b o e => Heap.get?_push_of_some _ e, turn_tuple a _, ⟨_, Heap.get?_push_size _ rfl, rfl, rfl⟩, fun b hb => ?_, q⟩
  have e : b = s1.heap.objs.size := by simpa using hb
  subst e
  exact I1.fpOk (Nat.le_refl _) (I1.hok.fresh (Nat.le_refl _))
theorem range_it {pins : List (Addr × Obj)} {σ : St} {H : Hp} {s : Shared} {R : It → Hp → Prop} {E : Value → Shared → Prop} {lo hi : Int} {t u v : Tok} {tk : Nat} (I : Inv X pins σ H s) (h1 : -(2 ^ 62) ≤ lo) (h2 : lo < 2 ^ 62) (h3 : -(2 ^ 62) ≤ hi) (h4 : hi < 2 ^ 62)
    (q : R (Itr lo (hi - lo).toNat) H) : wpAny (model X.prog X.w) X.A (pyIter (.ref s.heap.objs.size)) (PIE X pins σ tg R) E { s with heap := s.heap.push { cls := .type "range", data := .fields #[.int lo t, .int hi u, .int 1 v] }, toks := tk } := by
  refine wpAny_pyIter_range (IsRange.new ..) (small_one h1 h2 h3 h4) ?_
  have I1 : Inv X pins σ H { s with heap := s.heap.push { cls := .type "range", data := .fields #[.int lo t, .int hi u, .int 1 v] }, toks := tk } := I.kept fun b o e => Heap.get?_push_of_some _ e
  refine ⟨(s.heap.push { cls := .type "range", data := .fields #[.int lo t, .int hi u, .int 1 v] }).objs.size, [(s.heap.push { cls := .type "range", data := .fields #[.int lo t, .int hi u, .int 1 v] }).objs.size], _, _, H, rfl,
    I1.kept (t' := tk) fun b o e => Heap.get?_push_of_some _ e, turn_range _ lo (hi - lo).toNat, ?_, fun b hb => ?_, q⟩
  · have e1 : lo + ((0 : Nat) : Int) * 1 = lo := by simp
    have e2 : (((hi - lo).toNat : Nat) : Int) - ((0 : Nat) : Int) = Builtin.Range.rangeSize lo hi 1 := by rw [rangeSize_one]; split <;> omega
    show IsRangeIter _ _ (lo + ((0 : Nat) : Int) * 1) ((((hi - lo).toNat : Nat) : Int) - ((0 : Nat) : Int)) 1
    rw [e1, e2]
    exact Heap.get?_push_size _ rfl
  · have e : b = (s.heap.push { cls := .type "range", data := .fields #[.int lo t, .int hi u, .int 1 v] }).objs.size := by simpa using hb
    subst e
    exact I1.fpOk (Nat.le_refl _) (I1.hok.fresh (Nat.le_refl _))
def iRng1 (ta : TA) : TI := fun σ H R => ta σ H fun vs H1 => ∃ j : Int, vs = [.int j] ∧ -(2 ^ 62) ≤ j ∧ j < 2 ^ 62 ∧ R (Itr 0 j.toNat) H1
def iRng2 (ta : TA) : TI := fun σ H R => ta σ H fun vs H1 => ∃ i j : Int, vs = [.int i, .int j] ∧ (-(2 ^ 62) ≤ i ∧ i < 2 ^ 62 ∧ -(2 ^ 62) ≤ j ∧ j < 2 ^ 62) ∧ R (Itr i (j - i).toNat) H1
theorem pi_range1 {a : Expr} {ta : TA} {p pos : Pos} (hg : Gl X "range") (hm : X.mg "range" = none) (ha : PA X [a] ta) (hs : starEach [a] X.env = [(false, eval a X.env)] := by rfl) : PI X tg (.Call (.Name "range" p) [a] [] pos) (iRng1 ta) := by
  intro pins s σ H R I h
  refine Call_ (ld_blt I hg hm boot_range (PyProof.Rows.callWith_type1 (thn (ha pos pins s σ H _ I h) fun us s1 ⟨vs, H1, I1, r1, q1⟩ => ?_) hs rfl))
  obtain ⟨j, e, q1, q2, q⟩ := q1
  subst e
  cases r1 with
  | cons r rr =>
    cases rr
    obtain ⟨t, rfl⟩ := r
    exact call_range_1 (range_it I1 (by omega) (by omega) q1 q2 (by simpa using q))
def tFor (wi : TI) (g : TG) (tb : TS) : TS := fun D σ H => wi σ H fun J H1 => ∃ W : Nat → Nat → St → Hp → Prop, (∃ m, W 0 m σ H1) ∧ ∀ i m σ H, W i m σ H →
  (J.stop i H ∧ D.nx σ H) ∨ (J.go i H ∧ ∃ N : St → Hp → Prop, (∀ σ' H', N σ' H' → ∃ m', m' < m ∧ W (i + 1) m' σ' H') ∧ ∀ x H', J.yld i H x H' → g x σ H' fun σ2 H2 => tb { D with nx := N, ct := N, bk := D.nx } σ2 H2)
def pinsAt (fp : List Addr) (h : Heap) : List (Addr × Obj) := fp.filterMap fun b => (h.get? b).map fun o => (b, o)
theorem mem_pinsAt {fp : List Addr} {h : Heap} {b : Addr} {o : Obj} (hb : b ∈ fp) (e : h.get? b = some o) : (b, o) ∈ pinsAt fp h := List.mem_filterMap.mpr ⟨b, hb, by rw [e]; rfl⟩
theorem of_pinsAt {fp : List Addr} {h : Heap} {p : Addr × Obj} (hp : p ∈ pinsAt fp h) : p.1 ∈ fp ∧ h.get? p.1 = some p.2 := by
  obtain ⟨b, hb, e⟩ := List.mem_filterMap.mp hp
  cases q : h.get? b with
  | none => rw [q] at e; cases e
  | some o =>
    rw [q] at e
    have e' : (b, o) = p := Option.some.inj e
    subst e'
    exact ⟨hb, q⟩
theorem Inv.pinned {pins : List (Addr × Obj)} {σ : St} {H : Hp} {s : Shared} {fp : List Addr} (I : Inv X pins σ H s) (hf : ∀ b ∈ fp, FpOk X pins H b) (ho : ∀ b ∈ fp, ∃ o, s.heap.get? b = some o ∧ ∀ v, o.data ≠ .cell v) : Inv X (pins ++ pinsAt fp s.heap) σ H s :=
  I.pins_of fun p hp => (List.mem_append.mp hp).elim (fun z => I.pin p (List.mem_append_right _ z)) fun z => by
    obtain ⟨hb, e⟩ := of_pinsAt z
    obtain ⟨f0, f1, f2, _⟩ := hf p.1 hb
    obtain ⟨o, e', d⟩ := ho p.1 hb
    rw [e] at e'; cases e'
    exact ⟨e, f0, f1, f2, d⟩
theorem Inv.unpinned {pins pl : List (Addr × Obj)} {σ : St} {H : Hp} {s : Shared} (I : Inv X (pins ++ pl) σ H s) : Inv X pins σ H s := I.pins_of fun p hp => I.pin p (List.mem_append_right _ (List.mem_append_left _ hp))
theorem ps_for {iter : Expr} {body : List Stmt} {wi : TI} {g : TG} {tb : TS} {pos : Pos} (hp : PassesOwn (model X.prog X.w) X.A X.env X.xe) (hc : X.calm = true) (hi : PI X tg iter wi) (hg : PG X tg g) (hb : PSs X body tb)
    (hs : ∀ x, foldedSetIterable iter X.env x = pure x := by intro _; rfl) : PS X (.For tg iter body [] pos) (tFor wi g tb) := by
  intro pins s σ H D I h
  refine wpAny_For (thn (hi pins s σ H _ I h) fun v s1 h1 => thn h1 fun itv s2 h2 => ?_) hs
  obtain ⟨it, fp, tn, J, H2, e, I2, T, st2, f2, W, ⟨m0, w0⟩, turn⟩ := h2
  subst e
  have stat : ∀ {H' : Hp}, (∀ b ∈ fp, H' b = none) → ∀ b ∈ fp, FpOk X pins H' b := fun hn b hb => ⟨hn b hb, (f2 b hb).2⟩
  refine codeAny_forLoop_any (fun n s' => ∃ i σ' H', Inv X pins σ' H' s' ∧ tn i s'.heap ∧ (∀ b ∈ fp, H' b = none) ∧ W i n σ' H') ?_ m0 ⟨0, σ, H2, I2, st2, fun b hb => (f2 b hb).1, w0⟩
  rintro n s3 ⟨i, σ3, H3, I3, st3, fr3, w3⟩
  rcases turn i n σ3 H3 w3 with ⟨stop, qn⟩ | ⟨go, N, hN, step⟩
  · refine wpAny_passesOwn hp (thn (T.done X rfl rfl rfl hc i pins s3 σ3 H3 X.xe I3 (stat fr3) st3 stop) fun r s4 ⟨hr, I4⟩ => ?_)
    subst hr
    exact wpAny_execs_nil ⟨σ3, H3, I4, qn⟩
  · refine wpAny_passesOwn hp (thn (T.item X rfl rfl rfl hc i pins s3 σ3 H3 X.xe I3 (stat fr3) st3 go) fun r s4 ⟨u, hr, h4⟩ => ?_)
    subst hr
    refine wpAny_passesOwn hp (thn h4 fun _ s5 ⟨x, H5, I5, r5, y5, st5, fr5⟩ => ?_)
    have I5' := I5.pinned (stat fr5) (T.obj _ _ st5)
    refine wpAny_passesOwn hp (thn (hg _ s5 σ3 H5 x u _ I5' r5 (step x H5 y5)) fun _ s6 ⟨σ6, H6, I6, q6⟩ => ?_)
    refine wpAny_passesOwn hp (thn (hb _ s6 σ6 H6 _ I6 q6) fun f s7 q7 => ?_)
    have again : ∀ {σ7 : St} {H7 : Hp}, Inv X (pins ++ pinsAt fp s5.heap) σ7 H7 s7 → N σ7 H7 → ∃ m, m < n ∧ ∃ i σ' H', Inv X pins σ' H' s7 ∧ tn i s7.heap ∧ (∀ b ∈ fp, H' b = none) ∧ W i m σ' H' := fun {σ7 H7} I7 n7 => by
      obtain ⟨m', hm, w7⟩ := hN σ7 H7 n7
      refine ⟨m', hm, i + 1, σ7, H7, I7.unpinned, T.keep _ _ _ st5 fun b hb o e => (I7.pin (b, o) (List.mem_append_right _ (List.mem_append_right _ (mem_pinsAt hb e)))).1, fun b hb => ?_, w7⟩
      obtain ⟨o, e, d⟩ := T.obj _ _ st5 b hb
      exact (I7.pin (b, o) (List.mem_append_right _ (List.mem_append_right _ (mem_pinsAt hb e)))).2.1
    cases f with
    | next => obtain ⟨σ7, H7, I7, n7⟩ := q7; exact again I7 n7
    | cont => obtain ⟨σ7, H7, I7, n7⟩ := q7; exact again I7 n7
    | brk => obtain ⟨σ7, H7, I7, q7⟩ := q7; exact ⟨σ7, H7, I7.unpinned, q7⟩
    | ret v => obtain ⟨x7, σ7, H7, I7, r7, q7⟩ := q7; exact ⟨x7, σ7, H7, I7.unpinned, r7, q7⟩
end
theorem for_list {K : PySem.W.Frag} {a : Addr} {xs : List V} {g : TG} {tb : TS} {D : Ends} {σ : St} {H : Hp} (Pv : Nat → St → Hp → Prop) (h0 : Pv 0 σ H) (hl : ∀ i σ H, i ≤ xs.length → Pv i σ H → SqL K H a xs)
    (hs : ∀ i x σ H, xs[i]? = some x → Pv i σ H → g x σ H fun σ2 H2 => tb { D with nx := Pv (i + 1), ct := Pv (i + 1), bk := D.nx } σ2 H2) (hd : ∀ σ H, Pv xs.length σ H → D.nx σ H) :
    ∃ W : Nat → Nat → St → Hp → Prop, (∃ m, W 0 m σ H) ∧ ∀ i m σ H, W i m σ H →
      ((Itl K a).stop i H ∧ D.nx σ H) ∨ ((Itl K a).go i H ∧ ∃ N : St → Hp → Prop, (∀ σ' H', N σ' H' → ∃ m', m' < m ∧ W (i + 1) m' σ' H') ∧ ∀ x H', (Itl K a).yld i H x H' → g x σ H' fun σ2 H2 => tb { D with nx := N, ct := N, bk := D.nx } σ2 H2) := by
  refine ⟨fun i m σ H => m = xs.length - i ∧ i ≤ xs.length ∧ Pv i σ H, ⟨xs.length, by simp, Nat.zero_le _, h0⟩, ?_⟩
  rintro i m σ H ⟨rfl, hi, p⟩
  have q := hl i σ H hi p
  by_cases hlt : i < xs.length
  · refine .inr ⟨⟨xs, xs[i], q, by simp [hlt]⟩, Pv (i + 1), fun σ' H' p' => ⟨xs.length - (i + 1), by omega, rfl, hlt, p'⟩, fun x H' y => ?_⟩
    obtain ⟨e, y⟩ := y
    subst e
    exact hs i x σ _ (y xs q) p
  · have e : i = xs.length := by omega
    subst e
    exact .inl ⟨⟨xs, q, Nat.le_refl _⟩, hd σ H p⟩
theorem for_range {lo : Int} {n : Nat} {g : TG} {tb : TS} {D : Ends} {σ : St} {H : Hp} (Pv : Nat → St → Hp → Prop) (h0 : Pv 0 σ H)
    (hs : ∀ i σ H, i < n → Pv i σ H → g (.int (lo + i)) σ H fun σ2 H2 => tb { D with nx := Pv (i + 1), ct := Pv (i + 1), bk := D.nx } σ2 H2) (hd : ∀ σ H, Pv n σ H → D.nx σ H) :
    ∃ W : Nat → Nat → St → Hp → Prop, (∃ m, W 0 m σ H) ∧ ∀ i m σ H, W i m σ H →
      ((Itr lo n).stop i H ∧ D.nx σ H) ∨ ((Itr lo n).go i H ∧ ∃ N : St → Hp → Prop, (∀ σ' H', N σ' H' → ∃ m', m' < m ∧ W (i + 1) m' σ' H') ∧ ∀ x H', (Itr lo n).yld i H x H' → g x σ H' fun σ2 H2 => tb { D with nx := N, ct := N, bk := D.nx } σ2 H2) := by
  refine ⟨fun i m σ H => m = n - i ∧ i ≤ n ∧ Pv i σ H, ⟨n, by simp, Nat.zero_le _, h0⟩, ?_⟩
  rintro i m σ H ⟨rfl, hi, p⟩
  by_cases hlt : i < n
  · refine .inr ⟨hlt, Pv (i + 1), fun σ' H' p' => ⟨n - (i + 1), by omega, rfl, hlt, p'⟩, fun x H' y => ?_⟩
    obtain ⟨e, y⟩ := y
    subst e y
    exact hs i σ _ hlt p
  · have e : i = n := by omega
    subst e
    exact .inl ⟨Nat.le_refl _, hd σ H p⟩
theorem while_by {c : TT} {tb : TS} {D : Ends} {σ : St} {H : Hp} (Pv : St → Hp → Prop) (μ : St → Hp → Nat) (h0 : Pv σ H)
    (hs : ∀ σ H, Pv σ H → c σ H fun b H1 => if b = true then tb { D with nx := fun σ' H' => Pv σ' H' ∧ μ σ' H' < μ σ H, ct := fun σ' H' => Pv σ' H' ∧ μ σ' H' < μ σ H, bk := D.nx } σ H1 else D.nx σ H1)
    (mono : ∀ σ H Q Q', (∀ b H1, Q b H1 → Q' b H1) → c σ H Q → c σ H Q') : tWhile c tb D σ H := by
  refine ⟨fun m σ H => m = μ σ H ∧ Pv σ H, ⟨_, rfl, h0⟩, ?_⟩
  rintro m σ H ⟨rfl, p⟩
  refine mono σ H _ _ (fun b H1 q => ?_) (hs σ H p)
  cases b with
  | true => exact ⟨_, fun σ' H' ⟨p', l⟩ => ⟨_, l, rfl, p'⟩, q⟩
  | false => exact q
end L2
namespace L2
open PySem PySem.Spec PyProof.Rows
abbrev R2 := V → V → Hp → VK → Prop
def OpR (X : Cx) (f : Value → Value → Sem Value) (r : R2) : Prop :=
  ∀ (pins : List (Addr × Obj)) (s : Shared) (σ : St) (H : Hp) (x y : V) (v u : Value) (Q : VK), Inv X pins σ H s → RelV x v → RelV y u → r x y H Q →
    wpAny (model X.prog X.w) X.A (f v u) (EP X pins σ Q) X.xe s
def UnR (X : Cx) (f : Value → Sem Value) (r : V → Hp → VK → Prop) : Prop :=
  ∀ (pins : List (Addr × Obj)) (s : Shared) (σ : St) (H : Hp) (x : V) (v : Value) (Q : VK), Inv X pins σ H s → RelV x v → r x H Q →
    wpAny (model X.prog X.w) X.A (f v) (EP X pins σ Q) X.xe s
def CallR (X : Cx) (f : Value) (r : List V → Hp → VK → Prop) : Prop :=
  ∀ (pins : List (Addr × Obj)) (s : Shared) (σ : St) (H : Hp) (xs : List V) (us : List Value) (Q : VK), Inv X pins σ H s → Vals xs us → r xs H Q →
    wpAny (model X.prog X.w) X.A (call f us) (EP X pins σ Q) X.xe s
def TruR (X : Cx) (r : V → Hp → (Bool → Hp → Prop) → Prop) : Prop :=
  ∀ (pins : List (Addr × Obj)) (s : Shared) (σ : St) (H : Hp) (x : V) (v : Value) (Q : Bool → Hp → Prop), Inv X pins σ H s → RelV x v → r x H Q →
    wpAny (model X.prog X.w) X.A (truthy v) (TP X pins σ Q) X.xe s
def tOp (r : R2) (ta tb : TE) : TE := fun σ H Q => ta σ H fun x H1 => tb σ H1 fun y H2 => r x y H2 Q
def tUn (r : V → Hp → VK → Prop) (ta : TE) : TE := fun σ H Q => ta σ H fun x H1 => r x H1 Q
def rI (C : Int → Int → Prop) (g : Int → Int → V) : R2 := fun x y H Q => ∃ i j, x = .int i ∧ y = .int j ∧ C i j ∧ Q (g i j) H
def rI0 (g : Int → Int → V) : R2 := fun x y H Q => ∃ i j, x = .int i ∧ y = .int j ∧ Q (g i j) H
def rU (g : Int → V) : V → Hp → VK → Prop := fun x H Q => ∃ i, x = .int i ∧ Q (g i) H
section
variable {X : Cx} {a b c : Expr} {ta tb tc : TE} {pos : Pos}
theorem binT (ha : PE X a ta) (hb : PE X b tb) {pins : List (Addr × Obj)} {s : Shared} {σ : St} {H : Hp} {R : V → V → Hp → Prop} (I : Inv X pins σ H s)
    (h : ta σ H fun x H1 => tb σ H1 fun y H2 => R x y H2) {Q : Value → Shared → Prop} {f : Value → Value → Sem Value}
    (hf : ∀ v u s2 x y H2, Inv X pins σ H2 s2 → RelV x v → RelV y u → R x y H2 → wpAny (model X.prog X.w) X.A (f v u) Q X.xe s2) :
    wpAny (model X.prog X.w) X.A (eval a X.env) (fun v s₁ => wpAny (model X.prog X.w) X.A (eval b X.env) (fun u s₂ => wpAny (model X.prog X.w) X.A (f v u) Q X.xe s₂) X.xe s₁) X.xe s := by
  refine thn (ha pins s σ H _ I h) fun v s1 ⟨x, H1, I1, r1, q1⟩ => ?_
  refine thn (hb pins s1 σ H1 _ I1 q1) fun u s2 ⟨y, H2, I2, r2, q2⟩ => ?_
  exact hf v u s2 x y H2 I2 r1 r2 q2
theorem pe_op {op : Operator} {r : R2} (ho : OpR X (binaryOp op) r) (ha : PE X a ta) (hb : PE X b tb) : PE X (.BinOp a op b pos) (tOp r ta tb) := by
  intro pins s σ H Q I h
  exact wpAny_BinOp (binT ha hb I h fun v u s2 x y H2 I2 rx ry q => ho pins s2 σ H2 x y v u Q I2 rx ry q)
theorem pe_un {op : UnaryOp} {r : V → Hp → VK → Prop} (ho : UnR X (unaryOp op) r) (ha : PE X a ta) : PE X (.UnaryOp op a pos) (tUn r ta) := by
  intro pins s σ H Q I h
  exact UnaryOp_ (thn (ha pins s σ H _ I h) fun v s1 ⟨x, H1, I1, r1, q1⟩ => ho pins s1 σ H1 x v Q I1 r1 q1)
theorem opI {f : Value → Value → Sem Value} {C : Int → Int → Prop} {g : Int → Int → Int}
    (rule : ∀ (i j : Int) (t u : Tok) (s : Shared) (Q : Value → Shared → Prop) (E : Value → Shared → Prop), C i j → Q (.int (g i j) s.toks) { s with toks := s.toks + 1 } → wpAny (model X.prog X.w) X.A (f (.int i t) (.int j u)) Q E s) :
    OpR X f (rI C fun i j => .int (g i j)) := by
  intro pins s σ H x y v u Q I rx ry h
  obtain ⟨i, j, rfl, rfl, hc, q⟩ := h
  obtain ⟨t, rfl⟩ := rx
  obtain ⟨t', rfl⟩ := ry
  exact rule i j t t' s _ _ hc ⟨.int (g i j), H, I.tok _, ⟨_, rfl⟩, q⟩
theorem opI0 {f : Value → Value → Sem Value} {g : Int → Int → Int}
    (rule : ∀ (i j : Int) (t u : Tok) (s : Shared) (Q : Value → Shared → Prop) (E : Value → Shared → Prop), Q (.int (g i j) s.toks) { s with toks := s.toks + 1 } → wpAny (model X.prog X.w) X.A (f (.int i t) (.int j u)) Q E s) :
    OpR X f (rI0 fun i j => .int (g i j)) := by
  intro pins s σ H x y v u Q I rx ry h
  obtain ⟨i, j, rfl, rfl, q⟩ := h
  obtain ⟨t, rfl⟩ := rx
  obtain ⟨t', rfl⟩ := ry
  exact rule i j t t' s _ _ ⟨.int (g i j), H, I.tok _, ⟨_, rfl⟩, q⟩
theorem opB0 {f : Value → Value → Sem Value} {g : Int → Int → Bool}
    (rule : ∀ (i j : Int) (t u : Tok) (s : Shared) (Q : Value → Shared → Prop) (E : Value → Shared → Prop), Q (.bool (g i j)) s → wpAny (model X.prog X.w) X.A (f (.int i t) (.int j u)) Q E s) :
    OpR X f (rI0 fun i j => .bl (g i j)) := by
  intro pins s σ H x y v u Q I rx ry h
  obtain ⟨i, j, rfl, rfl, q⟩ := h
  obtain ⟨t, rfl⟩ := rx
  obtain ⟨t', rfl⟩ := ry
  exact rule i j t t' s _ _ ⟨.bl (g i j), H, I, rfl, q⟩
def CDiv (i j : Int) : Prop := 0 < j ∧ j < 1073741824
def CDivN (i j : Int) : Prop := j ≠ 0 ∧ j.natAbs < 1073741824
def CPow (i j : Int) : Prop := 0 ≤ j ∧ j ≤ 1000000 ∧ i.natAbs < 2 ^ 64
def CMul (i j : Int) : Prop := (-(2 ^ 64) < i ∧ i < 2 ^ 64) ∨ (-(2 ^ 64) < j ∧ j < 2 ^ 64)
theorem CMul.ok {i j : Int} (h : CMul i j) : IntMulOk i j := by
  rcases h with ⟨h1, h2⟩ | ⟨h1, h2⟩
  · exact .of_left (intBits_le_64 h1 h2)
  · exact .of_right (intBits_le_64 h1 h2)
theorem op_add : OpR X (binaryOp .Add) (rI0 fun i j => .int (i + j)) := opI0 fun _ _ _ _ _ _ _ q => add_int q
theorem op_sub : OpR X (binaryOp .Sub) (rI0 fun i j => .int (i - j)) := opI0 fun _ _ _ _ _ _ _ q => sub_int q
theorem op_mul : OpR X (binaryOp .Mult) (rI CMul fun i j => .int (i * j)) := opI fun _ _ _ _ _ _ _ hc q => mul_int q hc.ok
theorem op_mod : OpR X (binaryOp .Mod) (rI (fun _ j => 0 < j) fun i j => .int (i % j)) := opI fun i j _ _ _ _ _ hc q => by
  have h1 : (0 : Int) < j := hc
  exact mod_int' (by omega) (by rw [Int.fmod_eq_emod_of_nonneg i (by omega)]; exact q)
theorem op_pow : OpR X (binaryOp .Pow) (rI CPow fun i j => .int (i ^ j.toNat)) := opI fun _ _ _ _ _ _ _ hc q => pow_int_small hc.1 hc.2.1 hc.2.2 q
theorem unI {f : Value → Sem Value} {g : Int → Int}
    (rule : ∀ (i : Int) (t : Tok) (s : Shared) (Q : Value → Shared → Prop) (E : Value → Shared → Prop), Q (.int (g i) s.toks) { s with toks := s.toks + 1 } → wpAny (model X.prog X.w) X.A (f (.int i t)) Q E s) :
    UnR X f (rU fun i => .int (g i)) := by
  intro pins s σ H x v Q I rx h
  obtain ⟨i, rfl, q⟩ := h
  obtain ⟨t, rfl⟩ := rx
  exact rule i t s _ _ ⟨.int (g i), H, I.tok _, ⟨_, rfl⟩, q⟩
theorem un_neg : UnR X (unaryOp .USub) (rU fun i => .int (-i)) := unI fun _ _ _ _ _ q => neg_int q
end
def scal : V → V → Bool
  | .non, .non => true | .non, .int _ => true | .int _, .non => true | .non, .bl _ => true | .bl _, .non => true | .non, .str _ => true | .str _, .non => true
  | .int _, .int _ => true | .bl _, .bl _ => true | .str _, .str _ => true | .byt _, .byt _ => true
  | .int _, .str _ => true | .str _, .int _ => true | .bl _, .str _ => true | .str _, .bl _ => true
  | _, _ => false
def rEq : R2 := fun x y H Q => scal x y = true ∧ Q (.bl (decide (x = y))) H
def rNe : R2 := fun x y H Q => scal x y = true ∧ Q (.bl (!decide (x = y))) H
theorem dec_int {i j : Int} : decide (V.int i = V.int j) = (i == j) := by
  rw [Bool.eq_iff_iff]
  simp
theorem dec_bl {i j : Bool} : decide (V.bl i = V.bl j) = (i == j) := by
  rw [Bool.eq_iff_iff]
  simp
theorem dec_str {i j : Str} : decide (V.str i = V.str j) = (i == j) := by
  rw [Bool.eq_iff_iff]
  simp
theorem dec_byt {i j : Array UInt8} : decide (V.byt i = V.byt j) = (i.toList == j.toList) := by
  rw [Bool.eq_iff_iff]
  cases i
  cases j
  simp
section
variable {X : Cx} {a b c : Expr} {ta tb tc : TE} {pos : Pos}
theorem fin_bl {pins : List (Addr × Obj)} {σ : St} {H : Hp} {s : Shared} {Q : VK} {k k' : Bool} (I : Inv X pins σ H s) (q : Q (.bl k) H) (e : k = k') : EP X pins σ Q (.bool k') s := by
  subst e
  exact ⟨.bl k, H, I, rfl, q⟩
theorem op_eq : OpR X (compareOp .Eq) rEq := by
  intro pins s σ H x y v u Q I rx ry h
  obtain ⟨hs, q⟩ := h
  cases x with
  | non =>
    cases rx
    cases y with
    | non => cases ry; exact PySem.EqNone.eq_none_none (fin_bl I q (by simp))
    | bl j => cases ry; exact PySem.EqNone.eq_none_bool (fin_bl I q (by simp))
    | int j => obtain ⟨t', rfl⟩ := ry; exact PySem.EqNone.eq_none_int (fin_bl I q (by simp))
    | str j => obtain ⟨t', rfl⟩ := ry; exact PySem.EqNone.eq_none_str (fin_bl I q (by simp))
    | _ => exact absurd (show false = true from hs) Bool.false_ne_true
  | bl i =>
    cases rx
    cases y with
    | non => cases ry; exact PySem.EqNone.eq_bool_none (fin_bl I q (by simp))
    | bl j => cases ry; exact eq_bool (fin_bl I q dec_bl)
    | str j => obtain ⟨t', rfl⟩ := ry; exact PySem.EqMixed.eq_bool_str (fin_bl I q (by simp))
    | _ => exact absurd (show false = true from hs) Bool.false_ne_true
  | int i =>
    obtain ⟨t, rfl⟩ := rx
    cases y with
    | non => cases ry; exact PySem.EqNone.eq_int_none (fin_bl I q (by simp))
    | int j => obtain ⟨t', rfl⟩ := ry; exact eq_int (fin_bl I q dec_int)
    | str j => obtain ⟨t', rfl⟩ := ry; exact PySem.EqMixed.eq_int_str (fin_bl I q (by simp))
    | _ => exact absurd (show false = true from hs) Bool.false_ne_true
  | str i =>
    obtain ⟨t, rfl⟩ := rx
    cases y with
    | non => cases ry; exact PySem.EqNone.eq_str_none (fin_bl I q (by simp))
    | bl j => cases ry; exact PySem.EqMixed.eq_str_bool (fin_bl I q (by simp))
    | int j => obtain ⟨t', rfl⟩ := ry; exact PySem.EqMixed.eq_str_int (fin_bl I q (by simp))
    | str j => obtain ⟨t', rfl⟩ := ry; exact eq_str (fin_bl I q dec_str)
    | _ => exact absurd (show false = true from hs) Bool.false_ne_true
  | byt i =>
    obtain ⟨t, rfl⟩ := rx
    cases y with
    | byt j => obtain ⟨t', rfl⟩ := ry; exact PySem.W.eq_bytes (fin_bl I q dec_byt)
    | _ => exact absurd (show false = true from hs) Bool.false_ne_true
  | _ => cases y <;> exact absurd (show false = true from hs) Bool.false_ne_true
theorem op_ne : OpR X (compareOp .NotEq) rNe := by
  intro pins s σ H x y v u Q I rx ry h
  obtain ⟨hs, q⟩ := h
  cases x with
  | non =>
    cases rx
    cases y with
    | non => cases ry; exact PySem.EqNone.ne_none_none (fin_bl I q (by simp))
    | bl j => cases ry; exact PySem.EqNone.ne_none_bool (fin_bl I q (by simp))
    | int j => obtain ⟨t', rfl⟩ := ry; exact PySem.EqNone.ne_none_int (fin_bl I q (by simp))
    | str j => obtain ⟨t', rfl⟩ := ry; exact PySem.EqNone.ne_none_str (fin_bl I q (by simp))
    | _ => exact absurd (show false = true from hs) Bool.false_ne_true
  | bl i =>
    cases rx
    cases y with
    | non => cases ry; exact PySem.EqNone.ne_bool_none (fin_bl I q (by simp))
    | bl j => cases ry; exact ne_bool (fin_bl I q (congrArg not dec_bl))
    | str j => obtain ⟨t', rfl⟩ := ry; exact PySem.EqMixed.ne_bool_str (fin_bl I q (by simp))
    | _ => exact absurd (show false = true from hs) Bool.false_ne_true
  | int i =>
    obtain ⟨t, rfl⟩ := rx
    cases y with
    | non => cases ry; exact PySem.EqNone.ne_int_none (fin_bl I q (by simp))
    | int j => obtain ⟨t', rfl⟩ := ry; exact ne_int (fin_bl I q (congrArg not dec_int))
    | str j => obtain ⟨t', rfl⟩ := ry; exact PySem.EqMixed.ne_int_str (fin_bl I q (by simp))
    | _ => exact absurd (show false = true from hs) Bool.false_ne_true
  | str i =>
    obtain ⟨t, rfl⟩ := rx
    cases y with
    | non => cases ry; exact PySem.EqNone.ne_str_none (fin_bl I q (by simp))
    | bl j => cases ry; exact PySem.EqMixed.ne_str_bool (fin_bl I q (by simp))
    | int j => obtain ⟨t', rfl⟩ := ry; exact PySem.EqMixed.ne_str_int (fin_bl I q (by simp))
    | str j => obtain ⟨t', rfl⟩ := ry; exact ne_str (fin_bl I q (congrArg not dec_str))
    | _ => exact absurd (show false = true from hs) Bool.false_ne_true
  | byt i =>
    obtain ⟨t, rfl⟩ := rx
    cases y with
    | byt j => obtain ⟨t', rfl⟩ := ry; exact PySem.W.ne_bytes (fin_bl I q (congrArg not dec_byt))
    | _ => exact absurd (show false = true from hs) Bool.false_ne_true
  | _ => cases y <;> exact absurd (show false = true from hs) Bool.false_ne_true
theorem op_lt : OpR X (compareOp .Lt) (rI0 fun i j => .bl (decide (i < j))) := opB0 fun _ _ _ _ _ _ _ q => lt_int q
theorem op_le : OpR X (compareOp .LtE) (rI0 fun i j => .bl (decide (i ≤ j))) := opB0 fun _ _ _ _ _ _ _ q => le_int q
theorem op_gt : OpR X (compareOp .Gt) (rI0 fun i j => .bl (decide (j < i))) := opB0 fun _ _ _ _ _ _ _ q => gt_int q
theorem op_ge : OpR X (compareOp .GtE) (rI0 fun i j => .bl (decide (j ≤ i))) := opB0 fun _ _ _ _ _ _ _ q => ge_int q
def isObj : HO → Bool
  | .lst _ => true
  | .ins _ _ _ => true
  | _ => false
theorem nomark (b : Expr) {op : CmpOp} (h : op ≠ .In := by decide) (h2 : op ≠ .NotIn := by decide) : behindInMarks op b = false := by
  have e1 : (op == CmpOp.In) = false := by cases op <;> first | rfl | exact absurd rfl h
  have e2 : (op == CmpOp.NotIn) = false := by cases op <;> first | rfl | exact absurd rfl h2
  cases b <;> simp [behindInMarks, e1, e2]
theorem pe_cmpR {op : CmpOp} {r : R2} (ho : OpR X (compareOp op) r) (ha : PE X a ta) (hb : PE X b tb) (hm : behindInMarks op b = false) : PE X (.Compare a [op] [b] pos) (tOp r ta tb) := by
  intro pins s σ H Q I h
  exact wpAny_Compare1 (binT ha hb I h fun v u s2 x y H2 I2 rx ry q => ho pins s2 σ H2 x y v u Q I2 rx ry q) hm
def tTest (t : TE) : TT := fun σ H Q => t σ H fun x H' => ∃ k, x = .bl k ∧ Q k H'
theorem pt_cmpR {op : CmpOp} {r : R2} (ho : OpR X (compareOp op) r) (ha : PE X a ta) (hb : PE X b tb) (hm : behindInMarks op b = false) : PT X (.Compare a [op] [b] pos) (tTest (tOp r ta tb)) := by
  intro pins s σ H Q I h
  refine wpAny_isTrue_Compare1 (thn (ha pins s σ H _ I h) fun v s1 ⟨x, H1, I1, r1, q1⟩ => thn (hb pins s1 σ H1 _ I1 q1) fun u s2 ⟨y, H2, I2, r2, q2⟩ =>
    thn (ho pins s2 σ H2 x y v u _ I2 r1 r2 q2) fun c s3 ⟨z, H3, I3, r3, k, e, q3⟩ => ?_) hm
  subst e
  cases r3
  exact wpAny_truthy_bool ⟨H3, I3, q3⟩
def tChain (r r' : R2) (ta tb tc : TE) : TE := fun σ H Q => ta σ H fun x H1 => tb σ H1 fun y H2 => r x y H2 fun z H3 => ∃ k, z = .bl k ∧
  (if k = true then tc σ H3 fun w' H4 => r' y w' H4 Q else Q (.bl false) H3)
theorem pe_chain {op op' : CmpOp} {r r' : R2} (ho : OpR X (compareOp op) r) (ho' : OpR X (compareOp op') r') (ha : PE X a ta) (hb : PE X b tb) (hc : PE X c tc)
    (hm : lastMarks [op, op'] [b, c] = false := by with_unfolding_all rfl) : PE X (.Compare a [op, op'] [b, c] pos) (tChain r r' ta tb tc) := by
  intro pins s σ H Q I h
  refine Compare_chain (thn (ha pins s σ H _ I h) fun v s1 ⟨x, H1, I1, r1, q1⟩ => chain_link (thn (hb pins s1 σ H1 _ I1 q1) fun u s2 ⟨y, H2, I2, r2, q2⟩ =>
    thn (ho pins s2 σ H2 x y v u _ I2 r1 r2 q2) fun d s3 ⟨z, H3, I3, r3, k, e, q3⟩ => ?_)) hm
  subst e
  cases r3
  refine wpAny_truthy_bool ?_
  cases k with
  | false => exact ite_ff ⟨.bl false, H3, I3, rfl, q3⟩
  | true => exact ite_tt (chain_last (thn (hc pins s3 σ H3 _ I3 q3) fun w' s4 ⟨z', H4, I4, r4, q4⟩ => ho' pins s4 σ H4 y z' u w' Q I4 r2 r4 q4))
theorem pt_chain {op op' : CmpOp} {r r' : R2} (ho : OpR X (compareOp op) r) (ho' : OpR X (compareOp op') r') (ha : PE X a ta) (hb : PE X b tb) (hc : PE X c tc)
    (hm : lastMarks [op, op'] [b, c] = false := by with_unfolding_all rfl) : PT X (.Compare a [op, op'] [b, c] pos) (tTest (tChain r r' ta tb tc)) := by
  intro pins s σ H Q I h
  refine isTrue_chain (thn (ha pins s σ H _ I h) fun v s1 ⟨x, H1, I1, r1, q1⟩ => test_link (thn (hb pins s1 σ H1 _ I1 q1) fun u s2 ⟨y, H2, I2, r2, q2⟩ =>
    thn (ho pins s2 σ H2 x y v u _ I2 r1 r2 q2) fun d s3 ⟨z, H3, I3, r3, k, e, q3⟩ => ?_)) hm
  subst e
  cases r3
  refine wpAny_truthy_bool ?_
  cases k with
  | false =>
    obtain ⟨k', e', q'⟩ := q3
    cases e'
    exact ite_ff ⟨H3, I3, q'⟩
  | true =>
    refine ite_tt (test_last (thn (hc pins s3 σ H3 _ I3 q3) fun w' s4 ⟨z', H4, I4, r4, q4⟩ => thn (ho' pins s4 σ H4 y z' u w' _ I4 r2 r4 q4) fun d' s5 ⟨z2, H5, I5, r5, k2, e2, q5⟩ => ?_))
    subst e2
    cases r5
    exact wpAny_truthy_bool ⟨H5, I5, q5⟩
def TruV (K : PySem.W.Frag) (x : V) (H : Hp) (k : Bool) : Prop :=
  match x with
  | .non => k = false
  | .bl b => k = b
  | .int i => k = (i != 0)
  | .str y => y.length ≤ sizeLine ∧ k = ((y.length : Int) != 0)
  | .byt y => y.size ≤ sizeLine ∧ k = ((y.size : Int) != 0)
  | .ref p => (∃ xs, SqL K H p xs ∧ k = !xs.isEmpty) ∨ (∃ xs, SqT K H p xs ∧ k = !xs.isEmpty) ∨ ∃ kvs, H p = some (.dK kvs) ∧ k = !kvs.isEmpty
  | _ => False
theorem line63 : (sizeLine : Nat) < 2 ^ 63 := by rw [sizeLine_eq]; decide
def PlainIxT (b : Expr) : Prop := ∀ o i, subscripted b false o i = operate [o, i] (getItem o i)
theorem vals1 {x : V} {us : List Value} (r : Vals [x] us) : ∃ u, us = [u] ∧ RelV x u := by
  cases r with
  | cons r1 r2 => cases r2; exact ⟨_, rfl, r1⟩
theorem vals2 {x y : V} {us : List Value} (r : Vals [x, y] us) : ∃ u w', us = [u, w'] ∧ RelV x u ∧ RelV y w' := by
  cases r with
  | cons r1 r2 =>
    cases r2 with
    | cons r3 r4 => cases r4; exact ⟨_, _, rfl, r1, r3⟩
def LenV (K : PySem.W.Frag) (x : V) (H : Hp) (n : Nat) : Prop :=
  match x with
  | .str y => y.length ≤ sizeLine ∧ n = y.length
  | .byt y => y.size ≤ sizeLine ∧ n = y.size
  | .ref p => (∃ xs, SqL K H p xs ∧ n = xs.length) ∨ ∃ xs, SqT K H p xs ∧ n = xs.length
  | _ => False
end
end L2
namespace L2
open PySem PySem.Spec PyProof.Rows
structure ObjM (h : Heap) (x dx C : Addr) (mA : Str → Option Value) : Prop where
  obj : h.get? x = some (PySem.W.instObj C dx)
  ns : h.Ns1 dx mA
  ne : dx ≠ x
theorem lookIn_ns {h : Heap} {dx : Addr} {mA : Str → Option Value} (n : h.Ns1 dx mA) : ∃ od, h.get? dx = some od ∧ ∀ name, PySem.W.lookIn name od = some (mA name) := by
  obtain ⟨o, es, ep, ho, hd, hk, _, hm⟩ := n
  refine ⟨o, ho, fun name => ?_⟩
  have e := hm name
  unfold nsFind findBy at e
  rw [← Array.find?_toList] at e
  unfold PySem.W.lookIn
  rw [hd]
  dsimp only
  split
  · rename_i y q
    rw [q] at e
    exact congrArg some e
  · rename_i q
    rw [q] at e
    have a : es.toList.any (·.refKey) = false := by
      rw [List.any_eq_false]
      intro y hy
      obtain ⟨z, t, hkey⟩ := hk y (Array.mem_toList_iff.mp hy)
      simp [DictEntry.refKey, hkey]
    have a' : ¬ es.toList.any (·.refKey) = true := by rw [a]; exact Bool.false_ne_true
    rw [if_neg a']
    exact congrArg some e
theorem ObjM.look {h : Heap} {x dx C : Addr} {mA : Str → Option Value} (I : ObjM h x dx C mA) : ∃ od, PySem.W.InstAt h x (PySem.W.instObj C dx) C (some od) ∧ ∀ name, PySem.W.lookIn name od = some (mA name) :=
  let ⟨od, ho, hl⟩ := lookIn_ns I.ns
  ⟨od, ⟨I.obj, rfl, rfl, ho⟩, hl⟩
section
variable {prog : Program} {w : World} {A : Around} {E : Value → Shared → Prop} {s : Shared} {K : PySem.W.Frag} {x dx C f : Addr} {mA : Str → Option Value} {name : Str} {v : Value}
theorem get_map {expr : Bool} {Q : Value → Shared → Prop} (X : K.In s.heap) (I : ObjM s.heap x dx C mA) (hg : PySem.W.plainGet K C name = true) (hh : PySem.W.hasDictIn K C = true)
    (ha : PySem.W.findIn K (.ref C) name = some none) (hv : mA name = some v) (hv' : PySem.W.handedIn v = true) (h : Q v { s with toks := s.toks + 1 }) :
    wpAny (model prog w) A (getAttr (.ref x) name expr) Q E s := by
  obtain ⟨od, J, hl⟩ := I.look
  exact PySem.W.get_value X J (PySem.W.plainGet_of hg).1 (PySem.W.findObj_own hh ha rfl (by rw [hl, hv])) hv' h
theorem get_meth {pl : Sem Bool} {Q : Value × List Value → Shared → Prop} (X : K.In s.heap) (I : ObjM s.heap x dx C mA) (hg : PySem.W.plainGet K C name = true)
    (hf : PySem.W.findIn K (.ref C) name = some (some (.ref f))) (ht : PySem.W.isFn K (.ref f) = true) (hv : mA name = none) (h : Q (.ref f, [.ref x]) s) :
    wpAny (model prog w) A (getMethod (.ref x) name pl) Q E s := by
  obtain ⟨od, J, hl⟩ := I.look
  exact PySem.W.method_fn X J (PySem.W.plainGet_of hg).1 (PySem.W.plainGet_of hg).2 hf (beq_iff_eq.mp ht) (by show (PySem.W.lookIn name od).map (·.isSome) = some false; rw [hl, hv]; rfl) h
theorem set_map {ns : List Str} {Q : Unit → Shared → Prop} (X : K.In s.heap) (I : ObjM s.heap x dx C mA)
    (hs : PySem.W.findIn K (.ref C) "__setattr__" = some (some (.builtin "object.__setattr__"))) (hp : PySem.W.plainOver K C = true) (ht : PySem.W.takerIn K C name = some none) (hh : PySem.W.hasDictIn K C = true)
    (hw : PySem.Within mA ns) (hsz : ns.length ≤ sizeLine)
    (h : ∀ h', ObjM h' x dx C (fun y => if y = name then some v else mA y) → Heap.SameBut dx s.heap h' → Q () { s with heap := h', toks := s.toks + 2 }) :
    wpAny (model prog w) A (setAttr (.ref x) name v) Q E s := by
  obtain ⟨od, J, hl⟩ := I.look
  refine PySem.W.set_plain X J hs (PySem.W.osa_open (s := { s with toks := s.toks + 1 }) (r := none) X J hp ht fun b => ?_)
  obtain ⟨cd, hc, hd'⟩ := PySem.W.any_some hh
  have hx : s.heap.get? x = some ⟨.ref C, some dx, .plain, #[]⟩ := I.obj
  refine wpAny_bind (wpAny_pure (wpAny_bind (wpAny_bind (wpAny_loadPart hx (wpAny_bind (PySem.W.Looks.here (s := { s with toks := s.toks + 1 }) (PySem.W.looks_clsIn X hc) ?_))))))
  rw [hd']
  refine wpAny_pure (a := some dx) (wpAny_bind (wpAny_pure (wpAny_bind ?_)))
  refine wpAny_nsSet1 (s := { s with toks := s.toks + 1 }) I.ns fun h' hn2 hs2 => ?_
  obtain ⟨oD, esD, epD, hoD, hdD, hcD⟩ := hn2.count (PySem.Within.cons name v hw)
  refine wpAny_bind (wpAny_lookBehind hoD (by rw [hdD]; exact pastItsLine_dict (Nat.le_trans hcD (by rw [List.length_cons]; omega))) ?_)
  exact wpAny_pure (h _ ⟨(hs2.2 _ (Ne.symm I.ne)).trans I.obj, hn2, I.ne⟩ hs2)
theorem make_map {R : Result → Shared → Prop} {vs : List Value} {kw : List (Str × Value)} (X : K.In s.heap) (hm : PySem.W.makesIn K C = true)
    (hi : PySem.W.findIn K (.ref C) "__init__" = some (some (.ref f))) (hf : PySem.W.typeIn K (.ref f) = some (.type "function"))
    (h : codeAny (model prog w) (A.under (.builtin "type.__call__" ⟨.ref C :: vs, kw⟩)) (.call (.ref f) ⟨.ref (s.heap.objs.size + 1) :: vs, kw⟩) (PySem.W.InitBack (s.heap.objs.size + 1) R)
      { s with heap := (s.heap.push PySem.W.emptyDict).push (PySem.W.instObj C s.heap.objs.size) }) :
    codeAny (model prog w) A (.call (.ref C) ⟨vs, kw⟩) R s := by
  obtain ⟨hh, g, d, t, os⟩ := s
  exact PySem.W.make_core (PySem.W.makes_of X hm) (PySem.W.looks_findIn X hi) (fun self => PySem.W.bind_fn X self hf) (.inl rfl) h
end
def putF (f : Str) (v : V) : List (Str × V) → List (Str × V)
  | [] => [(f, v)]
  | (g, x) :: r => if g = f then (g, v) :: r else (g, x) :: putF f v r
theorem lookup_putF (f g : Str) (v : V) : ∀ fs : List (Str × V), (putF f v fs).lookup g = if g = f then some v else fs.lookup g
  | [] => by
    show List.lookup g [(f, v)] = _
    by_cases h : g = f
    · have hb : (g == f) = true := beq_iff_eq.mpr h
      simp only [List.lookup, hb, if_pos h]
    · have hb : (g == f) = false := beq_eq_false_iff_ne.mpr h
      simp only [List.lookup, hb, if_neg h]
  | (k, x) :: r => by
    have ih := lookup_putF f g v r
    rw [show putF f v ((k, x) :: r) = (if k = f then (k, v) :: r else (k, x) :: putF f v r) from rfl]
    by_cases hk : k = f
    · rw [if_pos hk]
      by_cases h : g = k
      · have hb : (g == k) = true := beq_iff_eq.mpr h
        simp only [List.lookup, hb, if_pos (h.trans hk)]
      · have hb : (g == k) = false := beq_eq_false_iff_ne.mpr h
        simp only [List.lookup, hb, if_neg (fun e : g = f => h (e.trans hk.symm))]
    · rw [if_neg hk]
      by_cases h : g = k
      · have hb : (g == k) = true := beq_iff_eq.mpr h
        simp only [List.lookup, hb, if_neg (fun e : g = f => hk (h.symm.trans e))]
      · have hb : (g == k) = false := beq_eq_false_iff_ne.mpr h
        simp only [List.lookup, hb]
        exact ih
theorem keys_putF (f : Str) (v : V) : ∀ fs : List (Str × V), f ∈ (putF f v fs).map (·.1) ∧ ∀ g, g ∈ fs.map (·.1) → g ∈ (putF f v fs).map (·.1)
  | [] => ⟨by simp [putF], fun g h => by simp at h⟩
  | (k, x) :: r => by
    obtain ⟨i1, i2⟩ := keys_putF f v r
    rw [show putF f v ((k, x) :: r) = (if k = f then (k, v) :: r else (k, x) :: putF f v r) from rfl]
    by_cases hk : k = f
    · rw [if_pos hk]
      subst hk
      exact ⟨by simp, fun g h => by simpa using h⟩
    · rw [if_neg hk]
      refine ⟨?_, fun g h => ?_⟩
      · rw [List.map_cons]
        exact List.mem_cons_of_mem _ i1
      · rw [List.map_cons] at h ⊢
        rcases List.mem_cons.mp h with e | e
        · exact List.mem_cons.mpr (.inl e)
        · exact List.mem_cons_of_mem _ (i2 g e)
theorem length_putF (f : Str) (v : V) : ∀ fs : List (Str × V), (putF f v fs).length ≤ fs.length + 1
  | [] => by simp [putF]
  | (k, x) :: r => by
    have ih := length_putF f v r
    rw [show putF f v ((k, x) :: r) = (if k = f then (k, v) :: r else (k, x) :: putF f v r) from rfl]
    by_cases hk : k = f
    · rw [if_pos hk, List.length_cons, List.length_cons]; omega
    · rw [if_neg hk, List.length_cons, List.length_cons]; omega
theorem RelO.some_of {v : V} {o : Option Value} (r : RelO (some v) o) : ∃ u, o = some u ∧ RelV v u := by
  cases o with
  | none => exact (show False from r).elim
  | some u => exact ⟨u, rfl, r⟩
theorem RelO.none_of {o : Option Value} (r : RelO none o) : o = none := by
  cases o with
  | none => rfl
  | some u => exact (show False from r).elim
theorem handed_of {v : V} {u : Value} (r : RelV v u) : PySem.W.handedIn u = true := by
  cases v with
  | non => cases (show u = Value.none from r); rfl
  | bl b => cases (show u = Value.bool b from r); rfl
  | int i => obtain ⟨t, e⟩ := (show ∃ t, u = Value.int i t from r); cases e; rfl
  | str x => obtain ⟨t, e⟩ := (show ∃ t, u = Value.str x t from r); cases e; rfl
  | byt b => obtain ⟨t, e⟩ := (show ∃ t, u = Value.bytes b t from r); cases e; rfl
  | flt b => obtain ⟨t, e⟩ := (show ∃ t, u = Value.float b t from r); cases e; rfl
  | ref a => cases (show u = Value.ref a from r); rfl
  | ty n => cases (show u = Value.type n from r); rfl
section
variable {P : Program} {w : World} {H H' : Hp} {h h' : Heap} {a C dx : Addr} {fs fs' : List (Str × V)}
theorem ins_get (hok : HOk P w H h) (e : H a = some (.ins C dx fs)) : ∃ mA, ObjM h a dx C mA ∧ (∀ f, RelO (fs.lookup f) (mA f)) ∧ PySem.Within mA (fs.map (·.1)) ∧ fs.length ≤ 1000 ∧ H dx = some (.own a) := by
  obtain ⟨d, z, ne, ob, mA, n, r, q⟩ := (show ObjOk P w H h a (.ins C dx fs) from hok a _ e)
  exact ⟨mA, ⟨ob, n, ne⟩, r, q, z, d⟩
end
structure Cls (K : PySem.W.Frag) (C : Addr) : Prop where
  pg : PySem.W.plainGet K C Str.empty = true
  hd : PySem.W.hasDictIn K C = true
  po : PySem.W.plainOver K C = true
  sa : PySem.W.findIn K (.ref C) "__setattr__" = some (some (.builtin "object.__setattr__"))
theorem Cls.get {K : PySem.W.Frag} {C : Addr} (c : Cls K C) (f : Str) : PySem.W.plainGet K C f = true := c.pg
def NoAttr (K : PySem.W.Frag) (C : Addr) (f : Str) : Prop := PySem.W.findIn K (.ref C) f = some none
theorem NoAttr.taker {K : PySem.W.Frag} {C : Addr} {f : Str} (n : NoAttr K C f) : PySem.W.takerIn K C f = some none := by
  unfold PySem.W.takerIn
  rw [show PySem.W.findIn K (.ref C) f = some none from n]
  rfl
structure Con (K : PySem.W.Frag) (C : Addr) (f : Str) (v : V) (u : Value) : Prop where
  at_ : PySem.W.findIn K (.ref C) f = some (some u)
  rel : RelV v u
  get : PySem.W.specialIn K u "__get__" = some none
  cp : PySem.W.copiedNames.contains f = false
structure Meth (K : PySem.W.Frag) (C : Addr) (m : Str) (f : Addr) : Prop where
  at_ : PySem.W.findIn K (.ref C) m = some (some (.ref f))
  fn : PySem.W.isFn K (.ref f) = true
  kp : PySem.W.keepIn K (.ref f) = true
section
variable {X : Cx} {pins : List (Addr × Obj)} {σ : St} {H : Hp} {s : Shared} {a C dx : Addr} {fs : List (Str × V)} {f : Str} {v : V} {A : Around} {E : Value → Shared → Prop}
theorem getattr_ok {b : Bool} {Q : Value → Shared → Prop} (I : Inv X pins σ H s) (e : H a = some (.ins C dx fs)) (c : Cls X.K C) (n : NoAttr X.K C f) (l : fs.lookup f = some v)
    (h : ∀ u s', Inv X pins σ H s' → RelV v u → Q u s') : wpAny (model X.prog X.w) A (getAttr (.ref a) f b) Q E s := by
  obtain ⟨mA, O, r, _, _, _⟩ := ins_get I.hok e
  obtain ⟨u, hu, ru⟩ := RelO.some_of (v := v) (o := mA f) (by rw [← l]; exact r f)
  exact get_map I.kIn O (c.get f) c.hd n hu (handed_of ru) (h u _ (I.tok _) ru)
theorem getmeth_ok {m : Str} {g : Addr} {pl : Sem Bool} {Q : Value × List Value → Shared → Prop} (I : Inv X pins σ H s) (e : H a = some (.ins C dx fs)) (c : Cls X.K C) (k : Meth X.K C m g) (l : fs.lookup m = none)
    (h : Q (.ref g, [.ref a]) s) : wpAny (model X.prog X.w) A (getMethod (.ref a) m pl) Q E s := by
  obtain ⟨mA, O, r, _, _, _⟩ := ins_get I.hok e
  have hn : mA m = none := RelO.none_of (by rw [← l]; exact r m)
  exact get_meth I.kIn O (c.get m) k.at_ k.fn hn h
theorem setattr_ok {y : V} {u : Value} {Q : Unit → Shared → Prop} (I : Inv X pins σ H s) (e : H a = some (.ins C dx fs)) (c : Cls X.K C) (n : NoAttr X.K C f) (hl : fs.length < 1000) (ry : RelV y u)
    (h : ∀ s', Inv X pins σ (upd H a (.ins C dx (putF f y fs))) s' → Q () s') : wpAny (model X.prog X.w) A (setAttr (.ref a) f u) Q E s := by
  obtain ⟨mA, O, r, wi, _, ho⟩ := ins_get I.hok e
  have hz : (fs.map (·.1)).length ≤ sizeLine := by rw [List.length_map, sizeLine_eq]; omega
  refine set_map I.kIn O c.sa c.po n.taker c.hd wi hz fun h' O' sb => h _ ?_
  have hd : ∃ o, h'.get? dx = some o := let ⟨o, _, _, e', _⟩ := O'.ns; ⟨o, e'⟩
  refine I.write (x := a) (e := dx) (by rw [e]; exact True.intro) (.inr ho) (fun b q hb z => (sb.2 b hb).trans z) hd ?_
  refine ⟨by rw [upd_ne O.ne]; exact ho, ?_, O.ne, O'.obj, _, O'.ns, fun g => ?_, fun g hg => ?_⟩
  · have := length_putF f y fs; omega
  · show RelO ((putF f y fs).lookup g) (if g = f then some u else mA g)
    rw [lookup_putF]
    by_cases q : g = f
    · rw [if_pos q, if_pos q]; exact ry
    · rw [if_neg q, if_neg q]; exact r g
  · by_cases q : g = f
    · rw [q]; exact (keys_putF f y fs).1
    · refine (keys_putF f y fs).2 g (wi g fun z => hg ?_)
      show (if g = f then some u else mA g) = none
      rw [if_neg q]; exact z
theorem Inv.made (I : Inv X pins σ H s) : Inv X pins σ (upd (upd H s.heap.objs.size (.own (s.heap.objs.size + 1))) (s.heap.objs.size + 1) (.ins C s.heap.objs.size []))
    { s with heap := (s.heap.push PySem.W.emptyDict).push (PySem.W.instObj C s.heap.objs.size) } := by
  have e1 : (s.heap.push PySem.W.emptyDict).get? s.heap.objs.size = some PySem.W.emptyDict := Heap.get?_push_size s.heap rfl
  have e2 : ((s.heap.push PySem.W.emptyDict).push (PySem.W.instObj C s.heap.objs.size)).get? (s.heap.objs.size + 1) = some (PySem.W.instObj C s.heap.objs.size) := by
    have := Heap.get?_push_size (s.heap.push PySem.W.emptyDict) (o := PySem.W.instObj C s.heap.objs.size) rfl
    rwa [Heap.size_push] at this
  have e3 : (s.heap.push PySem.W.emptyDict).Ns s.heap.objs.size (fun _ => none) := ⟨PySem.W.emptyDict, #[], _, e1, rfl, (fun e he => absurd he (by simp)), fun _ => rfl⟩
  have I1 := I.laid (a := s.heap.objs.size) (o := .own (s.heap.objs.size + 1)) (h' := s.heap.push PySem.W.emptyDict) (t' := s.toks) (fun b u q => Heap.get?_push_of_some _ q) (Nat.le_refl _) ⟨_, e1⟩
  refine I1.laid (a := s.heap.objs.size + 1) (o := .ins C s.heap.objs.size []) (t' := s.toks) (fun b u q => Heap.get?_push_of_some _ q) (Nat.le_of_eq (Heap.size_push _ _)) ?_
  have ne : s.heap.objs.size ≠ s.heap.objs.size + 1 := Nat.ne_of_lt (Nat.lt_succ_self _)
  refine ⟨by rw [upd_ne ne, upd_same], Nat.zero_le _, ne, e2, fun _ => none, (Heap.Ns1.of_empty e3).at fun o q => Heap.get?_push_of_some _ q, fun _ => True.intro, fun y hy => absurd rfl hy⟩
theorem attr_of {prog : Program} {w : World} {env : Env} {e : Expr} {f : Str} {pos : Pos} {s : Shared} {Q : Value → Shared → Prop} (hb : attributeBase e f env (eval e env) = eval e env)
    (h : wpAny (model prog w) A (eval e env) (fun o s₁ => wpAny (model prog w) A (getAttr o f true) Q E s₁) E s) : wpAny (model prog w) A (eval (.Attribute e f pos) env) Q E s :=
  Attribute_any_ h (by rw [arm_eval_Attribute, hb])
end
def tFld (K : PySem.W.Frag) (ta : TE) (f : Str) : TE := fun σ H Q => ta σ H fun x H1 => ∃ a C dx fs v, x = .ref a ∧ H1 a = some (.ins C dx fs) ∧ Cls K C ∧ NoAttr K C f ∧ fs.lookup f = some v ∧ Q v H1
def tCon (K : PySem.W.Frag) (ta : TE) (f : Str) : TE := fun σ H Q => ta σ H fun x H1 => ∃ a C dx fs v u, x = .ref a ∧ H1 a = some (.ins C dx fs) ∧ Cls K C ∧ Con K C f v u ∧ fs.lookup f = none ∧ Q v H1
def sFld (K : PySem.W.Frag) (ta tv : TE) (f : Str) : TS := fun D σ H => tv σ H fun y H1 => ta σ H1 fun x H2 => ∃ a C dx fs, x = .ref a ∧ H2 a = some (.ins C dx fs) ∧ Cls K C ∧ NoAttr K C f ∧ fs.length < 1000 ∧
  D.nx σ (upd H2 a (.ins C dx (putF f y fs)))
def InOp (X : Cx) (op : Operator) (rd : V → V → Hp → VK → Prop) : Prop :=
  ∀ (pins : List (Addr × Obj)) (s : Shared) (σ : St) (H : Hp) (x y : V) (u v : Value) (Q : VK), Inv X pins σ H s → RelV x u → RelV y v → rd x y H Q → wpAny (model X.prog X.w) X.A (inplaceOp op u v) (EP X pins σ Q) X.xe s
def sFldAug (K : PySem.W.Frag) (ta tv : TE) (rd : V → V → Hp → VK → Prop) (f : Str) : TS := fun D σ H => ta σ H fun x H1 => ∃ a C dx fs v, x = .ref a ∧ H1 a = some (.ins C dx fs) ∧ Cls K C ∧ NoAttr K C f ∧ fs.lookup f = some v ∧
  tv σ H1 fun y H2 => rd v y H2 fun z H3 => ∃ dx' fs', H3 a = some (.ins C dx' fs') ∧ fs'.length < 1000 ∧ D.nx σ (upd H3 a (.ins C dx' (putF f z fs')))
section
variable {X : Cx} {o e value : Expr} {f : Str} {pos pos' tpos : Pos} {ta tv : TE}
theorem pe_fld (he : PE X e ta) (hb : attributeBase e f X.env (eval e X.env) = eval e X.env) : PE X (.Attribute e f pos) (tFld X.K ta f) := by
  intro pins s σ H Q I h
  refine attr_of hb (thn (he pins s σ H _ I h) fun u s1 ⟨x, H1, I1, rx, a, C, dx, fs, v, ex, ea, c, n, l, q⟩ => ?_)
  subst ex
  obtain rfl : u = Value.ref a := rx
  exact getattr_ok I1 ea c n l fun u' s2 I2 ru => ⟨v, H1, I2, ru, q⟩
theorem ps_fld (ha : PE X o ta) (hv : PE X value tv) (hs : swapsWith value (some (.Attribute o f pos')) pos.line X.env = pure false) : PS X (.Assign [.Attribute o f pos'] value pos) (sFld X.K ta tv f) := by
  intro pins s σ H D I h
  refine plainObj_wpAny_Assign_Attribute (thn (hv pins s σ H _ I h) fun u s1 ⟨y, H1, I1, ry, q⟩ => thn (ha pins s1 σ H1 _ I1 q) fun ov s2 ⟨x, H2, I2, rx, a, C, dx, fs, ex, ea, c, n, l, q2⟩ => ?_) hs
  subst ex
  obtain rfl : ov = Value.ref a := rx
  exact setattr_ok I2 ea c n l ry fun s3 I3 => ⟨σ, _, I3, q2⟩
def rAdd : V → V → Hp → VK → Prop := fun x y H Q => ∃ i j, x = .int i ∧ y = .int j ∧ Q (.int (i + j)) H
def rSub : V → V → Hp → VK → Prop := fun x y H Q => ∃ i j, x = .int i ∧ y = .int j ∧ Q (.int (i - j)) H
end
section
variable {X : Cx} {pins : List (Addr × Obj)} {σ : St} {H : Hp} {s : Shared} {A : Around} {E : Value → Shared → Prop} {Q : Value → Shared → Prop} {c : Value} {b : Bool}
inductive TyOf (K : PySem.W.Frag) (H : Hp) : V → Value → Prop where
  | non : TyOf K H .non (.type "NoneType")
  | bl (x : Bool) : TyOf K H (.bl x) (.type "bool")
  | int (i : Int) : TyOf K H (.int i) (.type "int")
  | str (x : Str) : TyOf K H (.str x) (.type "str")
  | flt (x : UInt64) : TyOf K H (.flt x) (.type "float")
  | lst {a : Addr} {xs : List V} (e : H a = some (.lst xs)) : TyOf K H (.ref a) (.type "list")
  | frz {a : Addr} {o : Obj} {xs : List V} (e : H a = some (.frz o (.lst xs))) : TyOf K H (.ref a) (.type "list")
  | tup {a : Addr} {xs : List V} (e : H a = some (.tup xs)) : TyOf K H (.ref a) (.type "tuple")
  | dK {a : Addr} {kvs : List (Key × V)} (e : H a = some (.dK kvs)) : TyOf K H (.ref a) (.type "dict")
  | dT {a : Addr} {kvs : List (List Key × V)} (e : H a = some (.dT kvs)) : TyOf K H (.ref a) (.type "dict")
  | ins {a C dx : Addr} {fs : List (Str × V)} (e : H a = some (.ins C dx fs)) (cl : Cls K C) (ha : PySem.W.findIn K (.ref C) "__class__" = some (some (.builtin "object.__class__")))
      (hn : PySem.W.specialIn K (.builtin "object.__class__") "__get__" = some (some (.builtin "getset_descriptor.__get__"))) (htk : PySem.W.takesIn K (.builtin "object.__class__") = some true)
      (hm : PySem.W.mroIn K C (.type "object") = some true) : TyOf K H (.ref a) (.ref C)
theorem isinst_ok {x : V} {u t : Value} (I : Inv X pins σ H s) (rx : RelV x u) (ty : TyOf X.K H x t) (e : PySem.W.kitOne X.K t c = some b) (h : ∀ tk, Q (.bool b) { s with toks := tk }) :
    wpAny (model X.prog X.w) A (call (.builtin "isinstance") [u, c]) Q E s := by
  cases ty with
  | non => cases (show u = Value.none from rx); exact PySem.W.kia_one PySem.W.kitx_none I.kIn True.intro e (fun z => nomatch z) h
  | bl y => cases (show u = Value.bool y from rx); exact PySem.W.kia_one PySem.W.kitx_bool I.kIn True.intro e (fun z => nomatch z) h
  | int i => obtain ⟨t, q⟩ := (show ∃ t, u = Value.int i t from rx); cases q; exact PySem.W.kia_one PySem.W.kitx_int I.kIn True.intro e (fun z => nomatch z) h
  | str y => obtain ⟨t, q⟩ := (show ∃ t, u = Value.str y t from rx); cases q; exact PySem.W.kia_one PySem.W.kitx_str I.kIn True.intro e (fun z => nomatch z) h
  | flt y => obtain ⟨t, q⟩ := (show ∃ t, u = Value.float y t from rx); cases q; exact PySem.W.kia_one PySem.W.kitx_float I.kIn True.intro e (fun z => nomatch z) h
  | @lst a xs ea =>
    cases (show u = Value.ref a from rx)
    obtain ⟨_, _, n, _, h1⟩ := (show ObjOk X.prog X.w H s.heap a (.lst xs) from I.hok a _ ea)
    exact PySem.W.kia_one PySem.W.kitx_list I.kIn ⟨_, h1, rfl⟩ e (fun z => nomatch z) h
  | @frz a ob xs ea =>
    cases (show u = Value.ref a from rx)
    obtain ⟨_, _, _, n, _, h1⟩ := (show ObjOk X.prog X.w H s.heap a (.frz ob (.lst xs)) from I.hok a _ ea)
    exact PySem.W.kia_one PySem.W.kitx_list I.kIn ⟨_, h1, rfl⟩ e (fun z => nomatch z) h
  | @tup a xs ea =>
    cases (show u = Value.ref a from rx)
    obtain ⟨_, _, _, p⟩ := (show ObjOk X.prog X.w H s.heap a (.tup xs) from I.hok a _ ea)
    obtain ⟨o, h1, h2, _⟩ := p
    exact PySem.W.kia_one PySem.W.kitx_tuple I.kIn ⟨o, h1, h2⟩ e (fun z => nomatch z) h
  | @dK a kvs ea =>
    cases (show u = Value.ref a from rx)
    obtain ⟨_, _, vs, _, p⟩ := (show ObjOk X.prog X.w H s.heap a (.dK kvs) from I.hok a _ ea)
    obtain ⟨o, es, ep, h1, h2, _⟩ := p
    exact PySem.W.kia_one PySem.W.kitx_dict I.kIn ⟨o, h1, h2.1⟩ e (fun z => nomatch z) h
  | @dT a kvs ea =>
    cases (show u = Value.ref a from rx)
    obtain ⟨_, _, xs, _, o, es, ep, h1, h2, _⟩ := (show ObjOk X.prog X.w H s.heap a (.dT kvs) from I.hok a _ ea)
    exact PySem.W.kia_one PySem.W.kitx_dict I.kIn ⟨o, h1, h2.1⟩ e (fun z => nomatch z) h
  | @ins a C dx fs ea cl ha hn htk hm =>
    cases (show u = Value.ref a from rx)
    obtain ⟨mA, O, _⟩ := ins_get I.hok ea
    obtain ⟨od, J, _⟩ := O.look
    exact PySem.W.kia_one (PySem.W.kitx_own (cl.get _) cl.hd ha hn htk hm) I.kIn J e (fun z => nomatch z) h
end
end L2
namespace L2
open PySem PySem.Spec PyProof.Rows
structure Room (k : Nat) (A : Around) : Prop where
  hd : A.handled = none
  dp : A.depth + 3 * k + 5 < recursionLimit
  un : A.units + 16 * k + 200 < cLine
  gd : A.guards = some []
theorem Room.mono {j k : Nat} {A : Around} (r : Room k A) (h : j ≤ k) : Room j A := ⟨r.hd, by have := r.dp; omega, by have := r.un; omega, r.gd⟩
theorem Room.deeper {k : Nat} {A : Around} (r : Room (k + 1) A) (env : Env) : Room k (A.deeper env) :=
  ⟨r.hd, by have := r.dp; show A.depth + 1 + 3 * k + 5 < _; omega, by have := r.un; show A.units + 3 + 16 * k + 200 < _; omega, r.gd⟩
theorem Room.in1 {k : Nat} {A : Around} (r : Room (k + 1) A) : Room k A.in1 :=
  ⟨r.hd, by have := r.dp; show A.depth + 3 * k + 5 < _; omega, by have := r.un; show A.units + 1 + 16 * k + 200 < _; omega, r.gd⟩
theorem make_depth {A : Around} {C : Addr} {us : List Value} {kw : List (Str × Value)} : (A.under (.builtin "type.__call__" ⟨.ref C :: us, kw⟩)).depth = A.depth + 1 := by
  first | rfl | simp [Around.under, Code.weight, Code.isCreation, Code.isGuard, Code.isCaller, Code.frames, Code.isFrame, guardIds]
theorem make_units {A : Around} {C : Addr} {us : List Value} {kw : List (Str × Value)} : (A.under (.builtin "type.__call__" ⟨.ref C :: us, kw⟩)).units = A.units + 1 := by
  first | rfl | simp [Around.under, Code.cUnits, Code.frames, Code.isFrame]
theorem Room.make {k : Nat} {A : Around} (r : Room (k + 1) A) (C : Addr) (us : List Value) (kw : List (Str × Value)) : Room k (A.under (.builtin "type.__call__" ⟨.ref C :: us, kw⟩)) :=
  ⟨r.hd, by have := r.dp; rw [make_depth]; omega, by have := r.un; rw [make_units]; omega, by have h := r.gd; first | (simp only [Around.under]; rw [h]; rfl) | simp [Around.under, h, pushGuards, Code.guards, Code.isGuard, guardIds]⟩
theorem Room.depth {k : Nat} {A : Around} (r : Room k A) : A.depth < recursionLimit := by have := r.dp; omega
theorem Room.units {k : Nat} {A : Around} (r : Room k A) : A.units + 64 < cLine := by have := r.un; omega
def tNil : TA := fun _ H Q => Q [] H
def tCons (ta : TE) (tr : TA) : TA := fun σ H Q => ta σ H fun x H1 => tr σ H1 fun xs H2 => Q (x :: xs) H2
section
variable {X : Cx} {e : Expr} {es : List Expr} {te : TE} {t : TA} {pos : Pos}
theorem pa_nil : PA X [] tNil := fun _ _ _ _ H Q I h => Calls.spliced_nil ⟨[], H, I, .nil, h⟩
theorem pa_cons (ha : PE X e te) (hr : PA X es t) (hs : starEach (e :: es) X.env = (false, eval e X.env) :: starEach es X.env := by rfl) : PA X (e :: es) (tCons te t) := by
  intro pos pins s σ H Q I h
  rw [hs]
  show wpAny _ _ (spliced ((false, eval e X.env) :: backTo pos (starEach es X.env))) _ _ s
  refine Calls.spliced_cons (thn (ha pins s σ H _ I h) fun u s1 ⟨x, H1, I1, r1, q1⟩ => ?_)
  exact thn (hr pos pins s1 σ H1 _ I1 q1) fun us s2 ⟨xs, H2, I2, r2, q2⟩ => ⟨x :: xs, H2, I2, .cons r1 r2, q2⟩
def tTup (t : TA) : TE := fun σ H Q => t σ H fun xs H1 => xs.length ≤ sizeLine ∧ ∀ p, H1 p = none → Q (.ref p) (upd H1 p (.tup xs))
def tLst (t : TA) : TE := fun σ H Q => t σ H fun xs H1 => xs.length ≤ sizeLine ∧ ∀ p, H1 p = none → Q (.ref p) (upd H1 p (.lst xs))
theorem pe_tup {x1} (h : PA X es t) : PE X (.Tuple es x1 pos) (tTup t) := by
  intro pins s σ H Q I hq
  refine wpAny_Tuple_spliced (thn (h pos pins s σ H _ I hq) fun us s1 ⟨xs, H1, I1, r, z, q⟩ => ⟨by rw [← r.length]; exact z, ?_⟩)
  have hf : H1 s1.heap.objs.size = none := I1.hok.fresh (Nat.le_refl _)
  refine ⟨.ref s1.heap.objs.size, upd H1 s1.heap.objs.size (.tup xs), I1.laid (t' := s1.toks) (fun b u e => Heap.get?_push_of_some _ e) (Nat.le_refl _) ?_, rfl, q _ hf⟩
  exact ⟨z, us, r, ⟨_, Heap.get?_push_size _ rfl, rfl, _, rfl⟩⟩
theorem pe_lst (h : PA X es t) : PE X (.List es pos) (tLst t) := by
  intro pins s σ H Q I hq
  refine wpAny_List_spliced (thn (h pos pins s σ H _ I hq) fun us s1 ⟨xs, H1, I1, r, z, q⟩ => ⟨by rw [← r.length]; exact z, ?_⟩)
  have hf : H1 s1.heap.objs.size = none := I1.hok.fresh (Nat.le_refl _)
  refine ⟨.ref s1.heap.objs.size, upd H1 s1.heap.objs.size (.lst xs), I1.laid (t' := s1.toks) (fun b u e => Heap.get?_push_of_some _ e) (Nat.le_refl _) ?_, rfl, q _ hf⟩
  exact ⟨z, us, 0, r, Heap.get?_push_size _ rfl⟩
end
abbrev Sp := List V → Hp → VK → XK → Prop
abbrev CXT := List Env → Hp → Shared → XK → Value → Shared → Prop
structure Env0 (P : Program) (w : World) (K : PySem.W.Frag) (mg : Str → Option Value) (base : Heap) (A : Around) (outer : List Env) (s : Shared) (H : Hp) : Prop where
  frames : A.frames = some outer
  mod : Mod K mg base
  bs : ∀ b o, base.get? b = some o → s.heap.get? b = some o ∧ H b = none
  bsz : base.objs.size ≤ s.heap.objs.size
  funs : s.heap.FunFrames base outer
  frf : ∀ b ∈ frs outer, H b = none
  hok : HOk P w H s.heap
  bare : AllBare s.gens
def CE (outer : List Env) (P : Program) (w : World) (H : Hp) (s : Shared) (Q : VK) (u : Value) (s' : Shared) : Prop :=
  ∃ v H', s'.os = s.os ∧ AllBare s'.gens ∧ Un (frs outer) [] H H' s.heap s'.heap ∧ HOk P w H' s'.heap ∧ RelV v u ∧ Q v H'
def CR (CX : CXT) (outer : List Env) (P : Program) (w : World) (H : Hp) (s : Shared) (Q : VK) (E : XK) (r : Result) (s' : Shared) : Prop :=
  match r with
  | .ok (.ret u) => CE outer P w H s Q u s'
  | .ok _ => False
  | .error e => CX outer H s E e s'
structure FnOk (P : Program) (w : World) (K : PySem.W.Frag) (mg : Str → Option Value) (base : Heap) (CX : CXT) (k : Nat) (f : Addr) (fd : FuncData) (ps : List Str) (sp : Sp) : Prop where
  len : ∀ vs H Q E, sp vs H Q E → vs.length = ps.length
  run : ∀ (A : Around) (outer : List Env) (s : Shared) (H : Hp) (args : Args) (us : List Value) (vs : List V) (Q : VK) (E : XK), Room k A → Env0 P w K mg base A outer s H → BindsTo s fd args (ps.zip us) → Vals vs us → sp vs H Q E →
    codeAny (model P w) A (.call (.ref f) args) (CR CX outer P w H s Q E) s
theorem FnOk.mono {P : Program} {w : World} {K : PySem.W.Frag} {mg : Str → Option Value} {base : Heap} {CX : CXT} {j k : Nat} {f : Addr} {fd : FuncData} {ps : List Str} {sp : Sp} (F : FnOk P w K mg base CX j f fd ps sp) (h : j ≤ k) :
    FnOk P w K mg base CX k f fd ps sp := ⟨F.len, fun A outer s H args us vs Q E hr => F.run A outer s H args us vs Q E (hr.mono h)⟩
theorem Env0.make {P : Program} {w : World} {K : PySem.W.Frag} {mg : Str → Option Value} {base : Heap} {A : Around} {outer : List Env} {s : Shared} {H : Hp} (e : Env0 P w K mg base A outer s H) (C : Addr) (us : List Value) (kw : List (Str × Value)) :
    Env0 P w K mg base (A.under (.builtin "type.__call__" ⟨.ref C :: us, kw⟩)) outer s H := ⟨by first | exact e.frames | (simpa [Around.under, Code.envs, Code.isFrame, pushEnvs] using e.frames), e.mod, e.bs, e.bsz, e.funs, e.frf, e.hok, e.bare⟩
theorem Env0.in1 {P : Program} {w : World} {K : PySem.W.Frag} {mg : Str → Option Value} {base : Heap} {A : Around} {outer : List Env} {s : Shared} {H : Hp} (e : Env0 P w K mg base A outer s H) :
    Env0 P w K mg base A.in1 outer s H := ⟨e.frames, e.mod, e.bs, e.bsz, e.funs, e.frf, e.hok, e.bare⟩
section
variable {X : Cx} {pins : List (Addr × Obj)} {σ : St} {H : Hp} {s s' : Shared}
theorem Inv.env0 (I : Inv X pins σ H s) : Env0 X.prog X.w X.K X.mg X.base X.A X.stack s H :=
  ⟨I.ok.frames, I.ok.mod, I.bs, Nat.le_trans I.ok.bsz I.sz, I.stack, I.stkFree, I.hok, I.bare⟩
theorem Inv.after {Q : VK} {u : Value} (I : Inv X pins σ H s) (h : CE X.stack X.prog X.w H s Q u s') : EP X pins σ Q u s' := by
  obtain ⟨v, H', os, bare, un, hok, r, q⟩ := h
  obtain ⟨hh, g, d, t, os'⟩ := s'
  obtain rfl : os' = s.os := os
  exact ⟨v, H', I.call (h' := hh) (g' := g) (d' := d) (t' := t) (ch := []) un hok bare (fun b z => absurd z (by simp)), r, q⟩
end
def tCall (sp : Sp) (dvs : List V) (E : XK) (t : TA) : TE := fun σ H Q => t σ H fun vs H1 => sp (vs ++ dvs) H1 Q E
def tMeth (C : Addr) (m : Str) (sp : Sp) (dvs : List V) (E : XK) (ta : TE) (t : TA) : TE := fun σ H Q => ta σ H fun x H1 => ∃ a dx fs, x = .ref a ∧ H1 a = some (.ins C dx fs) ∧ fs.lookup m = none ∧
  t σ H1 fun vs H2 => sp (x :: (vs ++ dvs)) H2 Q E
def tMake (C : Addr) (sp : Sp) (dvs : List V) (E : XK) (t : TA) : TE := fun σ H Q => t σ H fun vs H1 => ∀ x dx, H1 x = none → H1 dx = none → dx ≠ x →
  sp (.ref x :: (vs ++ dvs)) (upd (upd H1 dx (.own x)) x (.ins C dx [])) (fun v H2 => v = .non ∧ Q (.ref x) H2) E
def Binds (K : PySem.W.Frag) (fd : FuncData) (ps : List Str) (ds : List Value) : Prop :=
  ∀ (s : Shared) (us : List Value), K.In s.heap → (us ++ ds).length = ps.length → BindsTo s fd ⟨us, []⟩ (ps.zip (us ++ ds))
theorem Binds.all {K : PySem.W.Frag} {fd : FuncData} {ps : List Str} (h : ∀ us : List Value, us.length = ps.length → bindArgs fd ⟨us, []⟩ = pure (ps.zip us)) : Binds K fd ps [] := fun s us _ hl => by
  rw [List.append_nil] at hl ⊢
  exact .of_eq (h us hl)
def Passes (CX : CXT) (X : Cx) (E : XK) : Prop := ∀ (pins : List (Addr × Obj)) (σ : St) (H : Hp) (s : Shared) (e : Value) (s' : Shared), Inv X pins σ H s → CX X.stack H s E e s' → X.xe e s'
section
variable {X : Cx} {CX : CXT} {k : Nat} {f C : Addr} {fd : FuncData} {ps : List Str} {sp : Sp} {dvs : List V} {ds : List Value} {E : XK} {x m : Str} {p pos apos : Pos} {e o : Expr} {es : List Expr} {ta : TE} {t : TA}
theorem run_fn {pins : List (Addr × Obj)} {σ : St} {H : Hp} {s : Shared} {Q : VK} {us : List Value} {vs : List V} (F : FnOk X.prog X.w X.K X.mg X.base CX k f fd ps sp) (hr : Room k X.A) (hb : Binds X.K fd ps ds) (hd : Vals dvs ds) (hx : Passes CX X E)
    (I : Inv X pins σ H s) (r : Vals vs us) (h : sp (vs ++ dvs) H Q E) : wpAny (model X.prog X.w) X.A (call (.ref f) us) (EP X pins σ Q) X.xe s := by
  have r2 : Vals (vs ++ dvs) (us ++ ds) := r.append hd
  have hl : (us ++ ds).length = ps.length := by rw [← r2.length]; exact F.len _ _ _ _ h
  refine wpAny_call (codeAny_mono (F.run X.A X.stack s H ⟨us, []⟩ (us ++ ds) (vs ++ dvs) Q E hr I.env0 (hb s us I.kIn hl) r2 h) fun r s' hq => ?_)
  cases r with
  | error e => exact hx pins σ H s e s' I hq
  | ok fl =>
    cases fl with
    | ret u => exact I.after hq
    | next => exact False.elim hq
    | brk => exact False.elim hq
    | cont => exact False.elim hq
theorem pe_call (F : FnOk X.prog X.w X.K X.mg X.base CX k f fd ps sp) (hr : Room k X.A) (hg : Gl X x) (hm : X.mg x = some (.ref f)) (hk : PySem.W.keepIn X.K (.ref f) = true) (hb : Binds X.K fd ps ds) (hd : Vals dvs ds) (hx : Passes CX X E)
    (ha : PA X (e :: es) t) (hdb : (x == ("__debug__" : Str)) = false := by decide) (he : starEach (e :: es) X.env = (false, eval e X.env) :: starEach es X.env := by rfl) (hpl : (backTo pos (starEach es X.env)).any (·.1) = false := by rfl) :
    PE X (.Call (.Name x p) (e :: es) [] pos) (tCall sp dvs E t) := by
  intro pins s σ H Q I h
  refine wpAny_Call_Name_kw (ld_glob I hg hm ?_ hdb)
  refine PySem.W.callWith_K (h₀ := X.base) I.ok.mod.kin hk (thn (ha pos pins s σ H _ I h) fun us s1 ⟨vs, H1, I1, r, q⟩ => ⟨I1.kIn, ?_⟩) he hpl
  exact run_fn F hr hb hd hx I1 r q
structure Mk (K : PySem.W.Frag) (C f : Addr) : Prop where
  makes : PySem.W.makesIn K C = true
  init : PySem.W.findIn K (.ref C) "__init__" = some (some (.ref f))
  fn : PySem.W.isFn K (.ref f) = true
  kp : PySem.W.keepIn K (.ref C) = true
theorem run_make {pins : List (Addr × Obj)} {σ : St} {H : Hp} {s : Shared} {Q : VK} {us : List Value} {vs : List V} (M : Mk X.K C f) (F : FnOk X.prog X.w X.K X.mg X.base CX k f fd ps sp) (hr : Room (k + 1) X.A) (hb : Binds X.K fd ps ds) (hd : Vals dvs ds)
    (hx : Passes CX X E) (I : Inv X pins σ H s) (r : Vals vs us)
    (h : ∀ x dx, H x = none → H dx = none → dx ≠ x → sp (.ref x :: (vs ++ dvs)) (upd (upd H dx (.own x)) x (.ins C dx [])) (fun v H2 => v = .non ∧ Q (.ref x) H2) E) :
    wpAny (model X.prog X.w) X.A (call (.ref C) us) (EP X pins σ Q) X.xe s := by
  have hq := h (s.heap.objs.size + 1) s.heap.objs.size (I.hok.fresh (Nat.le_succ _)) (I.hok.fresh (Nat.le_refl _)) (Nat.ne_of_lt (Nat.lt_succ_self _))
  have I2 := Inv.made (C := C) I
  have r2 : Vals (V.ref (s.heap.objs.size + 1) :: (vs ++ dvs)) (Value.ref (s.heap.objs.size + 1) :: (us ++ ds)) := .cons rfl (r.append hd)
  have hl : (Value.ref (s.heap.objs.size + 1) :: us ++ ds).length = ps.length := by
    have e := r2.length
    rw [F.len _ _ _ _ hq] at e
    exact e.symm
  refine wpAny_call (make_map (f := f) I.kIn M.makes M.init (beq_iff_eq.mp M.fn) (codeAny_mono (F.run _ X.stack _ _ ⟨Value.ref (s.heap.objs.size + 1) :: us, []⟩ (Value.ref (s.heap.objs.size + 1) :: (us ++ ds)) _ _ E (hr.make C us [])
    (I2.env0.make C us []) (hb _ (Value.ref (s.heap.objs.size + 1) :: us) I2.kIn hl) r2 hq) fun r s' hq' => ?_))
  cases r with
  | error e => exact hx pins σ _ _ e s' I2 hq'
  | ok fl =>
    cases fl with
    | ret u =>
      obtain ⟨v, H', I3, rv, ev, q3⟩ := I2.after hq'
      subst ev
      exact ⟨rv, ⟨V.ref (s.heap.objs.size + 1), H', I3, rfl, q3⟩⟩
    | next => exact False.elim hq'
    | brk => exact False.elim hq'
    | cont => exact False.elim hq'
theorem pe_make (M : Mk X.K C f) (F : FnOk X.prog X.w X.K X.mg X.base CX k f fd ps sp) (hr : Room (k + 1) X.A) (hg : Gl X x) (hm : X.mg x = some (.ref C)) (hb : Binds X.K fd ps ds) (hd : Vals dvs ds) (hx : Passes CX X E)
    (ha : PA X (e :: es) t) (hdb : (x == ("__debug__" : Str)) = false := by decide) (he : starEach (e :: es) X.env = (false, eval e X.env) :: starEach es X.env := by rfl) (hpl : (backTo pos (starEach es X.env)).any (·.1) = false := by rfl) :
    PE X (.Call (.Name x p) (e :: es) [] pos) (tMake C sp dvs E t) := by
  intro pins s σ H Q I h
  refine wpAny_Call_Name_kw (ld_glob I hg hm ?_ hdb)
  refine PySem.W.callWith_K (h₀ := X.base) I.ok.mod.kin M.kp (thn (ha pos pins s σ H _ I h) fun us s1 ⟨vs, H1, I1, r, q⟩ => ⟨I1.kIn, ?_⟩) he hpl
  exact run_make M F hr hb hd hx I1 r q
end
def PK (X : Cx) (kws : List Keyword) (t : TA) : Prop :=
  ∀ (pos : Pos) (pins : List (Addr × Obj)) (s : Shared) (σ : St) (H : Hp) (Q : List V → Hp → Prop), Inv X pins σ H s → t σ H Q → wpAny (model X.prog X.w) X.A (evalAll ((backToKw pos (keywordEach kws X.env)).map (·.2))) (AP X pins σ Q) X.xe s
section
variable {X : Cx} {CX : CXT} {k : Nat} {f C : Addr} {fd : FuncData} {ps ks : List Str} {sp : Sp} {E : XK} {x m : Str} {p pos apos kpos : Pos} {e o : Expr} {es : List Expr} {kws : List Keyword} {te ta : TE} {t tk : TA} {nm : Option Str}
structure KBinds (K : PySem.W.Frag) (fd : FuncData) (ps ks : List Str) (g : List Value → List Value → List Value) (gV : List V → List V → List V) : Prop where
  to : ∀ (s : Shared) (us ws : List Value), K.In s.heap → (g us ws).length = ps.length → BindsTo s fd ⟨us, ks.zip ws⟩ (ps.zip (g us ws))
  rel : ∀ {vs : List V} {us : List Value} {zs : List V} {ws : List Value}, Vals vs us → Vals zs ws → Vals (gV vs zs) (g us ws)
def tCallK (sp : Sp) (gV : List V → List V → List V) (E : XK) (t tk : TA) : TE := fun σ H Q => t σ H fun vs H1 => tk σ H1 fun zs H2 => sp (gV vs zs) H2 Q E
variable {g : List Value → List Value → List Value} {gV : List V → List V → List V}
end
structure FnScope (N P : List Str) (sc : Scope) : Prop where
  kind : sc.kind = .function
  co : sc.isCoroutine = false
  gen : sc.isGenerator = false
  nd : N.Nodup
  pre : N.take P.length = P
  par : ∀ x ∈ P, sc.names.lookup x = some .local ∨ sc.names.lookup x = some .cell
  nofree : ∀ y ∈ sc.names, y.2 ≠ .free
theorem bindL_out {kindOf : Str → Option NameKind} {x : Str} : ∀ {binds : List (Str × Value)} {m : Str → Option Value}, (∀ v, (x, v) ∉ binds) → bindL kindOf binds m x = m x
  | [], _, _ => rfl
  | (n, v) :: r, m, h => by
    unfold bindL
    rw [bindL_out fun w hw => h w (List.mem_cons_of_mem _ hw)]
    split
    · have : x ≠ n := by rintro rfl; exact h v List.mem_cons_self
      simp [this]
    · rfl
theorem bindC_out {kindOf : Str → Option NameKind} {x : Str} : ∀ {binds : List (Str × Value)} {m : Str → Option Value}, (∀ v, (x, v) ∉ binds) → bindC kindOf binds m x = m x
  | [], _, _ => rfl
  | (n, v) :: r, m, h => by
    unfold bindC
    rw [bindC_out fun w hw => h w (List.mem_cons_of_mem _ hw)]
    split
    · rfl
    · have : x ≠ n := by rintro rfl; exact h v List.mem_cons_self
      simp [this]
theorem bindL_get {kindOf : Str → Option NameKind} {x : Str} {v : Value} : ∀ {P : List Str} {vs : List Value} {i : Nat} {m : Str → Option Value}, P.Nodup → P[i]? = some x → vs[i]? = some v → kindOf x = some .local →
    bindL kindOf (P.zip vs) m x = some v
  | [], _, _, _, _, h, _, _ => by simp at h
  | _ :: _, [], _, _, _, _, h, _ => by simp at h
  | p :: P, w :: vs, 0, m, nd, h1, h2, hk => by
    simp at h1 h2; subst h1; subst h2
    show bindL kindOf ((p, w) :: P.zip vs) m p = _
    unfold bindL
    rw [bindL_out fun v hv => (List.nodup_cons.mp nd).1 (List.of_mem_zip hv).1, if_pos hk]
    simp
  | p :: P, w :: vs, i + 1, m, nd, h1, h2, hk => by
    show bindL kindOf ((p, w) :: P.zip vs) m x = _
    unfold bindL
    exact bindL_get (i := i) (List.nodup_cons.mp nd).2 (by simpa using h1) (by simpa using h2) hk
theorem bindC_get {kindOf : Str → Option NameKind} {x : Str} {v : Value} : ∀ {P : List Str} {vs : List Value} {i : Nat} {m : Str → Option Value}, P.Nodup → P[i]? = some x → vs[i]? = some v → kindOf x ≠ some .local →
    bindC kindOf (P.zip vs) m x = some v
  | [], _, _, _, _, h, _, _ => by simp at h
  | _ :: _, [], _, _, _, _, h, _ => by simp at h
  | p :: P, w :: vs, 0, m, nd, h1, h2, hk => by
    simp at h1 h2; subst h1; subst h2
    show bindC kindOf ((p, w) :: P.zip vs) m p = _
    unfold bindC
    rw [bindC_out fun v hv => (List.nodup_cons.mp nd).1 (List.of_mem_zip hv).1, if_neg hk]
    simp
  | p :: P, w :: vs, i + 1, m, nd, h1, h2, hk => by
    show bindC kindOf ((p, w) :: P.zip vs) m x = _
    unfold bindC
    exact bindC_get (i := i) (List.nodup_cons.mp nd).2 (by simpa using h1) (by simpa using h2) hk
def start (N : List Str) (vs : List V) : St := vs.map some ++ List.replicate (N.length - vs.length) none
def cxOf (CX : CXT) (P : Program) (w : World) (K : PySem.W.Frag) (mg : Str → Option Value) (base : Heap) (N : List Str) (qual : Str) (scope : Scope) (f : Addr) (cd : Value) (A : Around) (outer : List Env) (s : Shared) (H : Hp) (E : XK) : Cx where
  prog := P
  w := w
  K := K
  mg := mg
  base := base
  A := A.deeper (envOfC qual scope s.heap.objs.size f cd)
  N := N
  s₀ := s
  H₀ := H
  env := envOfC qual scope s.heap.objs.size f cd
  outer := outer
  stack := envOfC qual scope s.heap.objs.size f cd :: outer
  ex := []
  calm := true
  fn := fun _ => true
  pn := []
  xe := fun e s' => wpAny (model P w) (A.deeper (envOfC qual scope s.heap.objs.size f cd)) (leaving (envOfC qual scope s.heap.objs.size f cd) e) (fun _ s'' => CX outer H s E e s'') (fun e' s'' => CX outer H s E e' s'') s'
theorem cell_has {sc : Scope} {n : Nat} {x : Str} (h : sc.names.lookup x = some .cell) : ∃ c, (cellsFrom n sc.names []).lookup x = some c := by
  have q := PySem.W.cellsFrom_some sc.names n [] (.inl h)
  exact Option.isSome_iff_exists.mp q
theorem inv_start {CX : CXT} {P : Program} {w : World} {K : PySem.W.Frag} {mg : Str → Option Value} {base : Heap} {N ps : List Str} {qual : Str} {scope : Scope} {f : Addr} {cd : Value} {A : Around} {outer : List Env} {s s1 : Shared} {H : Hp} {E : XK} {us : List Value} {vs : List V}
    (S : FnScope N ps scope) (hd : A.handled = none) (e0 : Env0 P w K mg base A outer s H) (hl : vs.length = ps.length) (r : Vals vs us)
    (x : InCallC s s.heap.objs.size (bindL (envOfC qual scope s.heap.objs.size f cd).kindOf (ps.zip us) fun _ => none) (cellsFrom (s.heap.objs.size + 1) scope.names []) (bindC (envOfC qual scope s.heap.objs.size f cd).kindOf (ps.zip us) fun _ => none) s1) :
    Inv (cxOf CX P w K mg base N qual scope f cd A outer s H E) [] (start N vs) H s1 := by
  have hpl : ps.length ≤ N.length := by have := congrArg List.length S.pre; rw [List.length_take] at this; omega
  obtain ⟨h1, tk, rfl, hk⟩ := x.done
  have noA : ∀ b : Addr, b ∉ (cxOf CX P w K mg base N qual scope f cd A outer s H E).ex := fun b z => absurd (show b ∈ ([] : List Addr) from z) (by simp)
  refine ⟨⟨e0.mod, S.kind, rfl, rfl, Nat.le_refl _, fun y z c h1 h2 => ?_, fun y hy => ?_, fun y c _ h => ?_, fun _ => hd, Around.frames_deeper e0.frames, .inr ⟨rfl, rfl⟩, fun b z => absurd z (noA b), e0.bs, e0.bsz, fun b _ _ => noA b, fun b z => absurd z (noA b), e0.funs, e0.frf⟩,
    rfl, e0.bare, Un.kept hk, ⟨_, x.toInCall.ns, fun i y v h1 h2 h3 => ?_⟩, fun y c h => ⟨_, x.cell y c h⟩, e0.hok.fresh (Nat.le_refl _), fun y c h => ?_, fun p hp => absurd (show p ∈ ([] : List (Addr × Obj)) from hp) (by simp), e0.hok.kept hk, ?_⟩
  · exact name_of_addr x.apart (PySem.mem_of_lookup h1) (PySem.mem_of_lookup h2)
  · have hy : scope.names.lookup y = some .cell ∨ scope.names.lookup y = some .free := hy
    rcases hy with hy | hy
    · exact cell_has hy
    · exact absurd rfl (S.nofree _ (PySem.mem_of_lookup hy))
  · exact Nat.le_of_lt (x.above y c (PySem.mem_of_lookup h))
  · have hi : i < vs.length := by
      unfold start at h2
      by_cases hi : i < vs.length
      · exact hi
      · rw [List.getElem?_append_right (by simpa using hi)] at h2
        rw [List.getElem?_replicate] at h2
        split at h2 <;> cases h2
    have ha : vs[i]? = some v := by
      unfold start at h2
      rw [List.getElem?_append_left (by simpa using hi), List.getElem?_map] at h2
      cases e : vs[i]? with
      | none => rw [e] at h2; cases h2
      | some a => rw [e] at h2; cases h2; rfl
    obtain ⟨u, hu, rv⟩ := r.get ha
    have hp : ps[i]? = some y := by
      rw [← S.pre, List.getElem?_take_of_lt (by omega)]; exact h1
    have ndP : ps.Nodup := by rw [← S.pre]; exact S.nd.sublist (List.take_sublist _ _)
    refine ⟨u, rv, ?_⟩
    rcases S.par y (List.mem_of_getElem? hp) with k | k
    · exact .inl ⟨k, bindL_get ndP hp hu k⟩
    · obtain ⟨c, e⟩ := cell_has (n := s.heap.objs.size + 1) k
      refine .inr ⟨.inl k, c, e, ?_⟩
      have q := x.cell y c e
      rw [bindC_get ndP hp hu (by show scope.names.lookup y ≠ _; rw [k]; decide)] at q
      exact q
  · exact e0.hok.fresh (Nat.le_of_lt (x.above y c (PySem.mem_of_lookup h)))
  · unfold start
    show _ = N.length
    rw [List.length_append, List.length_map, List.length_replicate]
    omega
theorem fn_of {CX : CXT} {P : Program} {w : World} {K : PySem.W.Frag} {mg : Str → Option Value} {base : Heap} {k : Nat} {f : Addr} {name qual : Str} {params : Arguments} {body : List Stmt} {scope : Scope} {dV kV doc pm cdv ct oc : Value} {an od : Option Addr}
    {osl : Array (Option Value)} {N ps : List Str} {sp : Sp} (lk : K.lookup f = some ⟨oc, od, .func (PySem.W.fnOf name qual params body scope dV kV doc pm an cdv ct), osl⟩) (hcd : PySem.W.codeIn K cdv qual = true) (S : FnScope N ps scope)
    (len : ∀ vs H Q E, sp vs H Q E → vs.length = ps.length)
    (hbody : ∀ (A : Around) (outer : List Env) (s : Shared) (H : Hp) (vs : List V) (Q : VK) (E : XK), Room k (A.deeper (envOfC qual scope s.heap.objs.size f cdv)) → sp vs H Q E →
      ∃ t, PSs (cxOf CX P w K mg base N qual scope f cdv A outer s H E) body t ∧ t { nx := fun _ H' => Q .non H', rt := Q } (start N vs) H) :
    FnOk P w K mg base CX (k + 1) f (PySem.W.fnOf name qual params body scope dV kV doc pm an cdv ct) ps sp := by
  refine ⟨len, fun A outer s H args us vs Q E hr e0 hb r hsp => ?_⟩
  have hl := len _ _ _ _ hsp
  have KX : K.In s.heap := e0.mod.kin.keeps fun b o e => (e0.bs b o e).1
  have lim : s.heap.NoLimit := e0.mod.nolimit.keeps fun b o e => (e0.bs b o e).1
  have hkind : ∀ y ∈ ps.zip us, scope.names.lookup y.1 = some .local ∨ (scope.names.lookup y.1 = some .cell ∧ ((cellsFrom (s.heap.objs.size + 1) scope.names []).lookup y.1).isSome = true) := fun ⟨n, v⟩ hy => by
    rcases S.par n (List.of_mem_zip hy).1 with q | q
    · exact .inl q
    · exact .inr ⟨q, PySem.W.cellsFrom_some _ _ _ (.inl q)⟩
  refine codeAny_call_function hr.depth (KX _ _ lk) rfl S.co S.gen rfl (PySem.W.codeRec_of KX hcd) (hb _ _ _ _ ?_)
  refine wpAny_newFunctionEnv_cells S.kind hkind fun env he s1 x => ?_
  subst he
  refine ⟨lim.keeps x.toInCall.keep, codeAny_func ?_⟩
  obtain ⟨t, ht, hq⟩ := hbody A outer s H vs Q E (hr.deeper _) hsp
  have I : Inv (cxOf CX P w K mg base N qual scope f cdv A outer s H E) [] (start N vs) H s1 := inv_start S hr.hd e0 hl r x
  refine wpAny_mono (ht [] s1 (start N vs) H _ I hq) (fun fl s' hs => ?_) fun e s' hs => hs
  have fin : ∀ {σ' : St} {H' : Hp} {v : V} {u : Value}, Inv (cxOf CX P w K mg base N qual scope f cdv A outer s H E) [] σ' H' s' → RelV v u → Q v H' → CE outer P w H s Q u s' :=
    fun {σ' H' v u} J rv q => ⟨v, H', J.os, J.bare, J.base, J.hok, rv, q⟩
  cases fl with
  | ret u =>
    obtain ⟨v, σ', H', J, rv, q⟩ := hs
    exact fin J rv q
  | next =>
    obtain ⟨σ', H', J, q⟩ := hs
    exact fin (v := V.non) (u := Value.none) J rfl q
  | brk =>
    obtain ⟨_, _, _, q⟩ := hs
    exact False.elim q
  | cont =>
    obtain ⟨_, _, _, q⟩ := hs
    exact False.elim q
end L2
namespace L2
open PySem PySem.Spec PyProof.Rows
section
variable {X : Cx} {x : Str} {p pos : Pos} {e : Expr} {es : List Expr} {t : TA} {id T : String} {r : List V → Hp → VK → Prop}
def tCB (r : List V → Hp → VK → Prop) (t : TA) : TE := fun σ H Q => t σ H fun vs H1 => r vs H1 Q
theorem pe_callB (hc : CallR X (.builtin id) r) (hg : Gl X x) (hm : X.mg x = none) (hv : bootBuiltins x = some (.builtin id)) (ha : PA X (e :: es) t) (hn : x ≠ "__name__" := by decide) (hdb : (x == ("__debug__" : Str)) = false := by decide)
    (he : starEach (e :: es) X.env = (false, eval e X.env) :: starEach es X.env := by rfl) (hpl : (backTo pos (starEach es X.env)).any (·.1) = false := by rfl) : PE X (.Call (.Name x p) (e :: es) [] pos) (tCB r t) := by
  intro pins s σ H Q I h
  refine wpAny_Call_Name_kw (ld_blt I hg hm hv ?_ hn hdb)
  exact PyProof.Rows.callWith_builtin1 (thn (ha pos pins s σ H _ I h) fun us s1 ⟨vs, H1, I1, r1, q1⟩ => hc pins s1 σ H1 vs us Q I1 r1 q1) he hpl
theorem pe_callTy (hc : CallR X (.type T) r) (hg : Gl X x) (hm : X.mg x = none) (hv : bootBuiltins x = some (.type T)) (ha : PA X (e :: es) t) (hn : x ≠ "__name__" := by decide) (hdb : (x == ("__debug__" : Str)) = false := by decide)
    (he : starEach (e :: es) X.env = (false, eval e X.env) :: starEach es X.env := by rfl) (hpl : (backTo pos (starEach es X.env)).any (·.1) = false := by rfl) : PE X (.Call (.Name x p) (e :: es) [] pos) (tCB r t) := by
  intro pins s σ H Q I h
  refine wpAny_Call_Name_kw (ld_blt I hg hm hv ?_ hn hdb)
  exact PyProof.Rows.callWith_type1 (thn (ha pos pins s σ H _ I h) fun us s1 ⟨vs, H1, I1, r1, q1⟩ => hc pins s1 σ H1 vs us Q I1 r1 q1) he hpl
end
end L2
namespace HT
open PySem PyProof.Rows
def lexLt : List Int → List Int → Bool
  | [], [] => false
  | [], _ :: _ => true
  | _ :: _, [] => false
  | x :: xs, y :: ys => if x = y then lexLt xs ys else decide (x < y)
section
open PySem.SeqAt
open PySem.AutoSeq1 (wpAny_loadPart')
open PySem.MeetsSeq PySem.MeetsSeq2 PySem.MeetsSeq3
end
section
variable {prog : Program} {w : World} {A : Around} {E : Value → Shared → Prop} {s : Shared}
def sIx (n d : Nat) : Option Int → Nat
  | none => d
  | some v => if v < 0 then (v + (n : Int)).toNat else min v.toNat n
end
end HT
namespace L2
open PySem PySem.Spec PyProof.Rows
abbrev TO := St → Hp → (Option Int → Hp → Prop) → Prop
def PO (X : Cx) (e : Option Expr) (t : TO) : Prop :=
  ∀ (pins : List (Addr × Obj)) (s : Shared) (σ : St) (H : Hp) (Q : Option Int → Hp → Prop), Inv X pins σ H s → t σ H Q →
    wpAny (model X.prog X.w) X.A (evalPart e X.env) (fun u s' => ∃ o H', Inv X pins σ H' s' ∧ IsPart u o ∧ Q o H') X.xe s
def tNoPart : TO := fun _ H Q => Q none H
def tPart (t : TE) : TO := fun σ H Q => t σ H fun x H1 => ∃ i, x = .int i ∧ Q (some i) H1
section
variable {X : Cx} {e : Expr} {te : TE} {lo hi : Option Expr} {tl th : TO} {pos p2 : Pos}
theorem po_none : PO X none tNoPart := by
  intro pins s σ H Q I h
  rw [evalPart_none]
  exact wpAny_pure ⟨none, H, I, .none, h⟩
theorem po_some (h : PE X e te) : PO X (some e) (tPart te) := by
  intro pins s σ H Q I hw
  rw [evalPart_some]
  refine thn (h pins s σ H _ I hw) fun u s1 ⟨x, H1, I1, r1, q1⟩ => ?_
  obtain ⟨i, rfl, q⟩ := q1
  obtain ⟨t, rfl⟩ := r1
  exact ⟨some i, H1, I1, .int i t, q⟩
def SlR (X : Cx) (r : V → Option Int → Option Int → Hp → VK → Prop) : Prop :=
  ∀ (pins : List (Addr × Obj)) (s : Shared) (σ : St) (H : Hp) (x : V) (v vl vu : Value) (lo hi : Option Int) (sl : Addr) (Q : VK), Inv X pins σ H s → RelV x v → s.heap.IsSliceOf sl vl vu .none → IsPart vl lo → IsPart vu hi → r x lo hi H Q →
    ∃ T id, typeLookup (.type T) "__getitem__" = pure (some (.builtin id)) ∧ s.TypeIs v T ∧ wpAny (model X.prog X.w) X.A (getItem v (.ref sl)) (EP X pins σ Q) X.xe s
def tSl (r : V → Option Int → Option Int → Hp → VK → Prop) (te : TE) (tl th : TO) : TE := fun σ H Q => te σ H fun x H1 => tl σ H1 fun l H2 => th σ H2 fun u H3 => r x l u H3 Q
theorem pe_slice {r : V → Option Int → Option Int → Hp → VK → Prop} (hr : SlR X r) (he : PE X e te) (hl : PO X lo tl) (hu : PO X hi th) : PE X (.Subscript e (.Slice lo hi none p2) pos) (tSl r te tl th) := by
  intro pins s σ H Q I h
  refine Subscript_ (thn (he pins s σ H _ I h) fun v s1 ⟨x, H1, I1, r1, q1⟩ => ?_)
  refine wpAny_Slice (thn (hl pins s1 σ H1 _ I1 q1) fun vl s2 ⟨l, H2, I2, pl, q2⟩ => thn (hu pins s2 σ H2 _ I2 q2) fun vu s3 ⟨u, H3, I3, pu, q3⟩ => ?_)
  rw [evalPart_none]
  refine wpAny_pure ?_
  have I4 : Inv X pins σ H3 { s3 with heap := s3.heap.push { cls := .type "slice", data := .fields #[vl, vu, .none] } } := I3.kept (t' := s3.toks) fun b ob q => Heap.get?_push_of_some _ q
  obtain ⟨T, id, hT, ht, hg⟩ := hr pins { s3 with heap := s3.heap.push { cls := .type "slice", data := .fields #[vl, vu, .none] } } σ H3 x v vl vu l u s3.heap.objs.size Q I4 r1 (Heap.IsSliceOf.new ..) pl pu q3
  show wpAny (model X.prog X.w) X.A (subscriptTail e (.Slice lo hi none p2) v (.ref s3.heap.objs.size)) (EP X pins σ Q) X.xe { s3 with heap := s3.heap.push { cls := .type "slice", data := .fields #[vl, vu, .none] } }
  exact tail_any (ops := [.ref s3.heap.objs.size, v]) ht hT hg (by with_unfolding_all rfl)
def cutV (xs : List V) (lo hi : Option Int) : List V := (xs.drop (HT.sIx xs.length 0 lo)).take (HT.sIx xs.length xs.length hi - HT.sIx xs.length 0 lo)
theorem cutV_length (xs : List V) (lo hi : Option Int) : (cutV xs lo hi).length ≤ xs.length := by
  unfold cutV
  rw [List.length_take, List.length_drop]
  omega
def rSlT (K : PySem.W.Frag) : V → Option Int → Option Int → Hp → VK → Prop := fun x lo hi H Q => ∃ a xs, x = .ref a ∧ SqT K H a xs ∧
  ¬ (HT.sIx xs.length 0 lo = 0 ∧ HT.sIx xs.length xs.length hi = xs.length) ∧ ∀ p, H p = none → Q (.ref p) (upd H p (.tup (cutV xs lo hi)))
def rLtT (K : PySem.W.Frag) : R2 := fun x y H Q => ∃ a b ns ms, x = .ref a ∧ y = .ref b ∧ SqT K H a (ns.map V.int) ∧ SqT K H b (ms.map V.int) ∧ Q (.bl (HT.lexLt ns ms)) H
def rCatT (K : PySem.W.Frag) : R2 := fun x y H Q => ∃ a b xs ys, x = .ref a ∧ y = .ref b ∧ SqT K H a xs ∧ SqT K H b ys ∧ xs ≠ [] ∧ xs.length + ys.length ≤ sizeLine ∧
  (ys = [] → Q (.ref a) H) ∧ (ys ≠ [] → ∀ p, H p = none → Q (.ref p) (upd H p (.tup (xs ++ ys))))
end
end L2
namespace L2
open PySem PySem.Spec PyProof.Rows
def ixN (n : Nat) (i : Int) : Option Nat := if 0 ≤ i then (if i < n then some i.toNat else none) else if -(n : Int) ≤ i then some (i + n).toNat else none
def atI {α : Type} (xs : List α) (i : Int) : Option α := (ixN xs.length i).bind fun j => xs[j]?
theorem ixN_seq {n : Nat} {i : Int} {j : Nat} (h : ixN n i = some j) : seqIndex? i n = some j ∧ j < n ∧ -(n : Int) ≤ i ∧ i < n := by
  unfold ixN at h
  by_cases h0 : 0 ≤ i
  · rw [if_pos h0] at h
    by_cases h1 : i < n
    · rw [if_pos h1] at h
      have e : i.toNat = j := Option.some.inj h
      exact ⟨by rw [seqIndex_of h0 h1, e], by omega, by omega, h1⟩
    · rw [if_neg h1] at h; cases h
  · rw [if_neg h0] at h
    by_cases h1 : -(n : Int) ≤ i
    · rw [if_pos h1] at h
      have e : (i + n).toNat = j := Option.some.inj h
      exact ⟨by rw [seqIndex_neg (by omega) h1, e], by omega, h1, by omega⟩
    · rw [if_neg h1] at h; cases h
theorem atI_get {α : Type} {xs : List α} {i : Int} {v : α} (h : atI xs i = some v) : ∃ j, seqIndex? i xs.length = some j ∧ xs[j]? = some v ∧ j < xs.length ∧ -(xs.length : Int) ≤ i ∧ i < xs.length := by
  unfold atI at h
  cases e : ixN xs.length i with
  | none => rw [e] at h; cases h
  | some j =>
    rw [e] at h
    obtain ⟨h1, h2, h3, h4⟩ := ixN_seq e
    exact ⟨j, h1, h, h2, h3, h4⟩
theorem atI_nat {α : Type} {xs : List α} {j : Nat} {v : α} (h : xs[j]? = some v) : atI xs (j : Int) = some v := by
  have hj : j < xs.length := (List.getElem?_eq_some_iff.mp h).1
  have e : ixN xs.length (j : Int) = some j := by
    unfold ixN
    rw [if_pos (by omega), if_pos (by omega)]; simp
  unfold atI; rw [e]; exact h
def PlainIx (b : Expr) : Prop := ∀ o i, subscripted b false o i = operate [o, i] (getItem o i)
def IxR (X : Cx) (r : R2) : Prop :=
  ∀ (value slice : Expr) (pins : List (Addr × Obj)) (s : Shared) (σ : St) (H : Hp) (x y : V) (v u : Value) (Q : VK), Inv X pins σ H s → RelV x v → RelV y u → r x y H Q →
    subscripted slice false v u = operate [v, u] (getItem v u) → wpAny (model X.prog X.w) X.A (subscriptTail value slice v u) (EP X pins σ Q) X.xe s
def MtR (X : Cx) (id : String) (r : V → List V → Hp → VK → Prop) : Prop :=
  ∀ (pins : List (Addr × Obj)) (s : Shared) (σ : St) (H : Hp) (x : V) (xs : List V) (v : Value) (us : List Value) (Q : VK), Inv X pins σ H s → RelV x v → Vals xs us → r x xs H Q →
    wpAny (model X.prog X.w) X.A (call (.builtin id) (v :: us)) (EP X pins σ Q) X.xe s
section
variable {X : Cx} {a b : Expr} {ta tb : TE} {pos : Pos}
theorem pe_ix {r : R2} (hr : IxR X r) (ha : PE X a ta) (hb : PE X b tb) (hs : PlainIx b) : PE X (.Subscript a b pos) (tOp r ta tb) := by
  intro pins s σ H Q I h
  exact Subscript_ (binT ha hb I h fun v u s2 x y H2 I2 rx ry q => hr a b pins s2 σ H2 x y v u Q I2 rx ry q (hs _ _))
def rIxL (K : PySem.W.Frag) : R2 := fun x y H Q => ∃ p xs i v, x = .ref p ∧ y = .int i ∧ SqL K H p xs ∧ atI xs i = some v ∧ Q v H
def rIxT (K : PySem.W.Frag) : R2 := fun x y H Q => ∃ p xs i v, x = .ref p ∧ y = .int i ∧ SqT K H p xs ∧ atI xs i = some v ∧ Q v H
def rIxS : R2 := fun x y H Q => ∃ z i c, x = .str z ∧ y = .int i ∧ z.length ≤ sizeLine ∧ atI z.cps.toList i = some c ∧ Q (.str ⟨#[c]⟩) H
theorem ix_list : IxR X (rIxL X.K) := by
  intro value slice pins s σ H x y v u Q I rx ry h hs
  obtain ⟨p, xs, i, z, rfl, rfl, hq, he, q⟩ := h
  cases rx
  obtain ⟨t, rfl⟩ := ry
  obtain ⟨its, r, pl, hz⟩ := I.list hq
  obtain ⟨j, h1, h2, h3, h4, h5⟩ := atI_get he
  obtain ⟨w, ew, rw'⟩ := r.get h2
  have hl := r.length
  have hn := line63
  have fin : EP X pins σ Q w s := ⟨z, H, I, rw', q⟩
  by_cases h0 : 0 ≤ i
  · have hj : i.toNat = j := by
      rw [seqIndex_of h0 h5] at h1
      exact Option.some.inj h1
    exact item_listR pl.isList h0 (by omega) (by rw [hj]; simpa using ew) fin hs
  · have hj : (i + (its.toArray.size : Int)).toNat = j := by
      rw [seqIndex_neg (by omega) h4] at h1
      rw [List.size_toArray, ← hl]
      exact Option.some.inj h1
    exact subscriptTail_builtinR (x := w) pl.isList.typeIs slot_list_getitem.lookup
      (wpAny_getItem_list_neg (Q := fun r s' => r = w ∧ EP X pins σ Q r s') pl.isList (by omega) (by rw [List.size_toArray] <;> omega) (by omega) (by rw [hj]; simpa using ew) ⟨rfl, fin⟩) hs
theorem ix_tup : IxR X (rIxT X.K) := by
  intro value slice pins s σ H x y v u Q I rx ry h hs
  obtain ⟨p, xs, i, z, rfl, rfl, hq, he, q⟩ := h
  cases rx
  obtain ⟨t, rfl⟩ := ry
  obtain ⟨its, r, pl, hz⟩ := I.tuple hq
  obtain ⟨j, h1, h2, h3, h4, h5⟩ := atI_get he
  obtain ⟨w, ew, rw'⟩ := r.get h2
  have hl := r.length
  have hn := line63
  have fin : EP X pins σ Q w s := ⟨z, H, I, rw', q⟩
  exact subscriptTail_builtinR (x := w) pl.typeIs slot_tuple_getitem.lookup
    (getItem_tuple (j := j) (Q := fun r s' => r = w ∧ EP X pins σ Q r s') pl (by omega) (by omega) (by rw [List.size_toArray, ← hl]; exact h1) (by simpa using ew) ⟨rfl, fin⟩) hs
def rIx (K : PySem.W.Frag) : R2 := fun x y H Q => rIxL K x y H Q ∨ rIxT K x y H Q ∨ rIxS x y H Q
theorem Inv.lst {pins : List (Addr × Obj)} {σ : St} {H : Hp} {s : Shared} {p : Addr} {xs : List V} (I : Inv X pins σ H s) (h : H p = some (.lst xs)) :
    ∃ (its : List Value) (n : Nat), Vals xs its ∧ s.heap.get? p = some { cls := .type "list", data := .seq its.toArray n } ∧ xs.length ≤ sizeLine := by
  obtain ⟨z, its, n, r, e⟩ := I.hok p _ h
  exact ⟨its, n, r, e, z⟩
def rSetL : V → V → V → Hp → (Hp → Prop) → Prop := fun o i v H Q => ∃ p xs k j, o = .ref p ∧ i = .int k ∧ H p = some (.lst xs) ∧ ixN xs.length k = some j ∧ Q (upd H p (.lst (xs.set j v)))
theorem slice_bounds (lo hi : Option Int) (n : Nat) : (sliceBounds lo hi none n).1 = ((HT.sIx n 0 lo : Nat) : Int) ∧ (sliceBounds lo hi none n).2.1 = ((HT.sIx n n hi : Nat) : Int) ∧ (sliceBounds lo hi none n).2.2 = 1 := by
  refine ⟨?_, ?_, rfl⟩
  · cases lo with
    | none => simp [sliceBounds, HT.sIx]
    | some i =>
      simp only [sliceBounds, HT.sIx, Option.getD_none, show (1 : Int) > 0 by decide, if_true]
      by_cases h : i < 0
      · simp only [h, if_true] <;> omega
      · simp only [h, if_false] <;> omega
  · cases hi with
    | none => simp [sliceBounds, HT.sIx]
    | some i =>
      simp only [sliceBounds, HT.sIx, Option.getD_none, show (1 : Int) > 0 by decide, if_true]
      by_cases h : i < 0
      · simp only [h, if_true] <;> omega
      · simp only [h, if_false] <;> omega
theorem slicePick_cut (its : List Value) (lo hi : Option Int) : slicePick its.toArray lo hi none = ((its.drop (HT.sIx its.length 0 lo)).take (HT.sIx its.length its.length hi - HT.sIx its.length 0 lo)).toArray := by
  obtain ⟨h1, h2, h3⟩ := slice_bounds lo hi its.toArray.size
  unfold slicePick
  rw [h1, h2, h3]
  simp only [sliceRange_one, pick_run, List.size_toArray] <;> rfl
def rSlL (K : PySem.W.Frag) : V → Option Int → Option Int → Hp → VK → Prop := fun x lo hi H Q => ∃ a xs, x = .ref a ∧ SqL K H a xs ∧ ∀ p, H p = none → Q (.ref p) (upd H p (.lst (cutV xs lo hi)))
theorem sl_list : SlR X (rSlL X.K) := by
  intro pins s σ H x v vl vu lo hi sl Q I rx hs pl pu h
  obtain ⟨a, xs, rfl, hx, q⟩ := h
  cases rx
  obtain ⟨its, r, ht, hz⟩ := I.list hx
  have hlen := r.length
  refine ⟨"list", _, slot_list_getitem.lookup, ht.isList.typeIs, ?_⟩
  refine wpAny_getItem_list_slice ht.isList hs pl pu .none (by simp) ?_ (by rw [List.size_toArray] <;> omega)
  rw [slicePick_cut, ← hlen]
  refine ⟨.ref s.heap.objs.size, _, I.laid (t' := s.toks) (o := .lst (cutV xs lo hi)) (fun b ob q => Heap.get?_push_of_some _ q) (Nat.le_refl _) ?_, rfl, q _ (I.hok.fresh (Nat.le_refl _))⟩
  exact ⟨Nat.le_trans (cutV_length xs lo hi) hz, _, 0, (r.drop (HT.sIx xs.length 0 lo)).take (HT.sIx xs.length xs.length hi - HT.sIx xs.length 0 lo), Heap.get?_push_size _ rfl⟩
def flatV : V → Bool
  | .non => true
  | .bl _ => true
  | .int _ => true
  | .str _ => true
  | _ => false
def eqV : V → V → Bool
  | .non, .non => true
  | .bl a, .bl b => a == b
  | .bl a, .int b => (if a then 1 else 0) == b
  | .int a, .bl b => a == (if b then 1 else 0)
  | .int a, .int b => a == b
  | .str a, .str b => a == b
  | _, _ => false
def eqU (x : V) (u : Value) : Bool := match u with
  | .none => eqV .non x
  | .bool b => eqV (.bl b) x
  | .int i _ => eqV (.int i) x
  | .str z _ => eqV (.str z) x
  | _ => false
def inV (x : V) (xs : List V) : Bool := xs.any fun y => eqV y x
def rIn (K : PySem.W.Frag) (neg : Bool) : R2 := fun x y H Q => ∃ p xs, y = .ref p ∧ (SqL K H p xs ∨ SqT K H p xs) ∧ flatV x = true ∧ xs.all flatV = true ∧ Q (.bl (if neg then !inV x xs else inV x xs)) H
theorem call_len_seq : CallR X (.builtin "len") (fun xs H Q => ∃ p ys, xs = [.ref p] ∧ (SqL X.K H p ys ∨ SqT X.K H p ys) ∧ Q (.int ys.length) H) := by
  intro pins s σ H xs us Q I r h
  obtain ⟨p, ys, rfl, hq, q⟩ := h
  obtain ⟨u, rfl, rx⟩ := vals1 r
  cases rx
  have hn := line63
  rcases hq with hq | hq
  · obtain ⟨its, r', pl, hz⟩ := I.list hq
    have hlen := r'.length
    exact Calls.call_len_list pl.isList (by simp only [List.size_toArray] <;> omega) ⟨.int ys.length, H, I.tok _, ⟨s.toks + 1, by rw [List.size_toArray, hlen]⟩, q⟩
  · obtain ⟨its, r', pl, hz⟩ := I.tuple hq
    have hlen := r'.length
    exact len_tuple pl (by simp only [List.size_toArray] <;> omega) ⟨.int ys.length, H, I.tok _, ⟨s.toks + 1, by rw [List.size_toArray, hlen]⟩, q⟩
theorem call_list_of : CallR X (.type "list") (fun xs H Q => ∃ p ys, xs = [.ref p] ∧ (SqL X.K H p ys ∨ SqT X.K H p ys) ∧ ∀ l, H l = none → Q (.ref l) (upd H l (.lst ys))) := by
  intro pins s σ H xs us Q I r h
  obtain ⟨p, ys, rfl, hq, q⟩ := h
  obtain ⟨u, rfl, rx⟩ := vals1 r
  cases rx
  have fin : ∀ (its : List Value), Vals ys its → ys.length ≤ sizeLine → ∀ (h' : Heap) (c' : Nat), (∀ b o', s.heap.get? b = some o' → h'.get? b = some o') →
      h'.get? s.heap.objs.size = some { cls := .type "list", dict := none, data := .seq its.toArray c', slots := #[] } → EP X pins σ Q (.ref s.heap.objs.size) { s with heap := h' } := fun its r' hz h' c' kp e =>
    ⟨.ref s.heap.objs.size, _, I.laid (t' := s.toks) kp (Nat.le_refl _) (show ObjOk X.prog X.w _ h' _ (.lst ys) from ⟨hz, its, c', r', e⟩), rfl, q _ (I.hok.fresh (Nat.le_refl _))⟩
  rcases hq with hq | hq
  · obtain ⟨its, r', pl, hz⟩ := I.list hq
    have hlen := r'.length
    obtain ⟨o, ho, hc, n, hd⟩ := pl.isList
    exact call_list_seq p (.inl rfl) ho hc hd (fun h' c' kp e => fin its r' hz h' c' kp e) (by simp only [List.size_toArray] <;> omega)
  · obtain ⟨its, r', pl, hz⟩ := I.tuple hq
    have hlen := r'.length
    obtain ⟨o, ho, hc, n, hd⟩ := pl
    exact call_list_seq p (.inr rfl) ho hc hd (fun h' c' kp e => fin its r' hz h' c' kp e) (by simp only [List.size_toArray] <;> omega)
theorem call_tuple_of : CallR X (.type "tuple") (fun xs H Q => ∃ p ys, xs = [.ref p] ∧ ((SqL X.K H p ys ∧ ∀ l, H l = none → Q (.ref l) (upd H l (.tup ys))) ∨ (SqT X.K H p ys ∧ Q (.ref p) H))) := by
  intro pins s σ H xs us Q I r h
  obtain ⟨p, ys, rfl, h⟩ := h
  obtain ⟨u, rfl, rx⟩ := vals1 r
  cases rx
  rcases h with ⟨hq, q⟩ | ⟨hq, q⟩
  · obtain ⟨its, r', pl, hz⟩ := I.list hq
    have hlen := r'.length
    refine call_tuple_list pl.isList (fun h' kp => ?_) (by simp only [List.size_toArray] <;> omega)
    have I1 : Inv X pins σ H { s with heap := h' } := I.kept (t' := s.toks) kp
    have I2 : Inv X pins σ (upd H h'.objs.size (.tup ys)) { s with heap := h'.push { cls := .type "tuple", data := .seq its.toArray } } :=
      I1.laid (t' := s.toks) (fun b o e => Heap.get?_push_of_some _ e) (Nat.le_refl _) (show ObjOk X.prog X.w _ _ _ (.tup ys) from ⟨hz, its, r', IsTup.new _ _⟩)
    exact ⟨.ref h'.objs.size, _, I2, rfl, q _ (I1.hok.fresh (Nat.le_refl _))⟩
  · obtain ⟨its, r', pl, hz⟩ := I.tuple hq
    exact call_tuple_same pl ⟨.ref p, H, I, rfl, q⟩
def tyV (K : PySem.W.Frag) (T : String) (x : V) (H : Hp) : Prop := match x with
  | .str _ => T = "str"
  | .int _ => T = "int"
  | .ref p => (T = "list" ∧ ∃ xs, SqL K H p xs) ∨ (T = "tuple" ∧ ∃ o, K.lookup p = some o ∧ o.cls = .type "tuple" ∧ o.dict = none) ∨
      (T = "dict" ∧ ((∃ kvs, H p = some (.dK kvs)) ∨ ∃ kvs, H p = some (.dT kvs))) ∨ (T = "set" ∧ ∃ S n, H p = some (.set S n))
  | _ => False
theorem tyV_is {pins : List (Addr × Obj)} {σ : St} {H : Hp} {s : Shared} {T : String} {x : V} {v : Value} (I : Inv X pins σ H s) (r : RelV x v) (ty : tyV X.K T x H) :
    s.TypeIs v T ∧ ∀ a, v = .ref a → ∃ ob, s.heap.get? a = some ob ∧ ob.dict = none := by
  cases x with
  | str z =>
    obtain ⟨t, rfl⟩ := r
    cases (show T = "str" from ty)
    exact ⟨typeIs_str s z t, fun _ e => nomatch e⟩
  | int i =>
    obtain ⟨t, rfl⟩ := r
    cases (show T = "int" from ty)
    exact ⟨typeIs_int s i t, fun _ e => nomatch e⟩
  | ref p =>
    cases r
    rcases ty with ⟨rfl, xs, hq⟩ | ⟨rfl, o, hk, hc, hd⟩ | ⟨rfl, hk⟩ | ⟨rfl, S, n, hk⟩
    · obtain ⟨its, _, pl, _⟩ := I.list hq
      refine ⟨pl.isList.typeIs, fun a e => ?_⟩
      cases e
      obtain ⟨o, n, e, c, hd, _⟩ := pl
      exact ⟨o, e, hd⟩
    · refine ⟨⟨o, I.kIn p o hk, hc⟩, fun a e => ?_⟩
      cases e
      exact ⟨o, I.kIn _ o hk, hd⟩
    · have z : ∃ o, s.heap.get? p = some o ∧ o.ExactDict := by
        rcases hk with ⟨kvs, hk⟩ | ⟨kvs, hk⟩
        · obtain ⟨_, _, _, _, o, _, _, e, ex, _⟩ := I.hok p _ hk
          exact ⟨o, e, ex⟩
        · obtain ⟨_, _, _, _, o, _, _, e, ex, _⟩ := I.hok p _ hk
          exact ⟨o, e, ex⟩
      obtain ⟨o, e, ex⟩ := z
      refine ⟨⟨o, e, ex.1⟩, fun a e2 => ?_⟩
      cases e2
      exact ⟨o, e, ex.2.1⟩
    · obtain ⟨o, _, _, _, e, ex, _⟩ := I.hok p _ hk
      refine ⟨⟨o, e, ex.1⟩, fun a e2 => ?_⟩
      cases e2
      exact ⟨o, e, ex.2.1⟩
  | _ => exact False.elim ty
def tBM0 (K : PySem.W.Frag) (T : String) (r : V → List V → Hp → VK → Prop) (to : TE) : TE := fun σ H Q => to σ H fun x H1 => tyV K T x H1 ∧ r x [] H1 Q
def tBM (K : PySem.W.Frag) (T : String) (r : V → List V → Hp → VK → Prop) (to : TE) (t : TA) : TE := fun σ H Q => to σ H fun x H1 => tyV K T x H1 ∧ t σ H1 fun xs H2 => r x xs H2 Q
variable {o e : Expr} {es : List Expr} {to : TE} {t : TA} {name : Str} {apos cpos : Pos} {T id : String} {r : V → List V → Hp → VK → Prop}
theorem pe_bm (pa : PlainAttrs T) (slot : Slot T name id) (hty : typeOf (.builtin id) = pure (.type "method_descriptor")) (hm : MtR X id r) (ho : PE X o to) (ha : PA X (e :: es) t)
    (hbase : attributeBase o name X.env (eval o X.env) = eval o X.env := by rfl)
    (hfew : ((backTo cpos (starEach (e :: es) X.env)).all (fun x => !x.1) && (backToKw cpos (keywordEach [] X.env)).all (fun x => x.1.isSome)
      && decide ((e :: es).length + ([] : List Keyword).length + (if ([] : List Keyword).isEmpty then 0 else 1) < 30)) = true := by rfl)
    (hline : (apos.endLine == cpos.line) = true := by rfl) (hs : starEach (e :: es) X.env = (false, eval e X.env) :: starEach es X.env := by rfl) (hplain : (backTo cpos (starEach es X.env)).any (·.1) = false := by rfl) :
    PE X (.Call (.Attribute o name apos) (e :: es) [] cpos) (tBM X.K T r to t) := by
  intro pins s σ H Q I h
  refine wpAny_Call_method_late hbase hfew hline rfl (thn (ho pins s σ H _ I h) fun v s1 ⟨x, H1, I1, r1, ty, q1⟩ => ?_)
  obtain ⟨h1, h2⟩ := tyV_is I1 r1 ty
  refine ⟨T, id, pa, slot, hty, h1, h2, ?_⟩
  have hA := ha cpos pins s1 σ H1 _ I1 q1
  rw [hs] at hA ⊢
  refine Calls.callWith_builtin (by show (false || (backTo cpos (starEach es X.env)).any (·.1)) = false; rw [hplain] <;> rfl) (Calls.evalArgs_plain ?_)
  exact thn hA fun us s2 ⟨vs, H2, I2, r2, q2⟩ => hm pins s2 σ H2 x vs v us Q I2 r1 r2 q2
end
end L2
namespace L2
open PySem PySem.Spec PyProof.Rows
def MtM (X : Cx) (id : String) (r : V → List V → Hp → VK → Prop) : Prop :=
  ∀ (pins : List (Addr × Obj)) (s : Shared) (σ : St) (H : Hp) (x : V) (xs : List V) (v : Value) (us : List Value) (Q : VK), Inv X pins σ H s → RelV x v → Vals xs us → r x xs H Q →
    wpAny (model X.prog X.w) X.A (call (.builtin id) (v :: us)) (EP X pins σ Q) X.xe s
theorem Vals.one : ∀ {x : V} {us : List Value}, Vals [x] us → ∃ u, us = [u] ∧ RelV x u
  | _, _, .cons r .nil => ⟨_, rfl, r⟩
theorem Vals.two : ∀ {x y : V} {us : List Value}, Vals [x, y] us → ∃ u v, us = [u, v] ∧ RelV x u ∧ RelV y v
  | _, _, _, .cons r (.cons q .nil) => ⟨_, _, rfl, r, q⟩
theorem Vals.zero : ∀ {us : List Value}, Vals [] us → us = []
  | _, .nil => rfl
theorem Vals.dropLast {xs : List V} {us : List Value} (h : Vals xs us) : Vals xs.dropLast us.dropLast := by
  induction h with
  | nil => exact .nil
  | cons r t ih =>
    cases t with
    | nil => exact .nil
    | cons q t' => exact .cons r ih
theorem Vals.eraseIdx : ∀ {xs : List V} {us : List Value} (i : Nat), Vals xs us → Vals (xs.eraseIdx i) (us.eraseIdx i)
  | _, _, _, .nil => .nil
  | _, _, 0, .cons _ t => t
  | _, _, i + 1, .cons r t => .cons r (Vals.eraseIdx i t)
theorem Vals.reverse {xs : List V} {us : List Value} (h : Vals xs us) : Vals xs.reverse us.reverse := by
  induction h with
  | nil => exact .nil
  | cons r t ih => rw [List.reverse_cons, List.reverse_cons]; exact Vals.append ih (.cons r .nil)
theorem Vals.rep {xs : List V} {us : List Value} (h : Vals xs us) : ∀ k : Nat, Vals (List.replicate k xs).flatten (List.replicate k us).flatten
  | 0 => .nil
  | k + 1 => by
    rw [List.replicate_succ, List.replicate_succ, List.flatten_cons, List.flatten_cons]
    exact Vals.append h (Vals.rep h k)
theorem foldl_rep (its : List Value) : ∀ (k : Nat) (acc : List Value),
    List.foldl (fun x1 x2 => x1 ++ x2) acc.toArray (List.replicate k its.toArray) = (acc ++ (List.replicate k its).flatten).toArray
  | 0, acc => by simp
  | k + 1, acc => by
    have e : acc.toArray ++ its.toArray = (acc ++ its).toArray := by simp
    have e2 : (acc ++ its) ++ (List.replicate k its).flatten = acc ++ (List.replicate (k + 1) its).flatten := by
      rw [List.replicate_succ, List.flatten_cons, List.append_assoc]
    rw [← e2, ← foldl_rep its k (acc ++ its), ← e, List.replicate_succ, List.foldl_cons]
section
variable {X : Cx} {pins : List (Addr × Obj)} {σ : St} {H : Hp} {s : Shared} {l b : Addr} {xs ys zs : List V}
theorem Inv.lset {its its' : List Value} {n : Nat} {f : Array Value → Array Value} {t' : Nat} (I : Inv X pins σ H s) (hH : H l = some (.lst xs))
    (e : s.heap.get? l = some { cls := .type "list", data := .seq its.toArray n }) (hf : f its.toArray = its'.toArray) (hv : Vals ys its') (hz : ys.length ≤ sizeLine) :
    Inv X pins σ (upd H l (.lst ys)) { s with heap := s.heap.update l (Obj.mapSeq f), toks := t' } := by
  have q := PySem.IsL.update e f
  rw [hf] at q
  refine I.write (x := l) (e := l) (by rw [hH]; exact trivial) (.inl rfl) (fun b' u hb hu => (Heap.get?_update_other s.heap (Obj.mapSeq f) (Ne.symm hb)).trans hu) ⟨_, q⟩ ?_
  exact ⟨hz, its', _, hv, q⟩
theorem Inv.lnew {its : List Value} {t' : Nat} (I : Inv X pins σ H s) (hv : Vals ys its) (hz : ys.length ≤ sizeLine) :
    Inv X pins σ (upd H s.heap.objs.size (.lst ys)) { s with heap := s.heap.push { cls := .type "list", data := .seq its.toArray }, toks := t' } :=
  I.laid (fun _ _ q => Heap.get?_push_of_some _ q) (Nat.le_refl _) ⟨hz, its, 0, hv, Heap.get?_push_size _ rfl⟩
theorem Inv.fresh (I : Inv X pins σ H s) : H s.heap.objs.size = none := I.hok.fresh (Nat.le_refl _)
theorem Inv.lstM (I : Inv X pins σ H s) (hH : H l = some (.lst xs)) : xs.length ≤ sizeLine ∧ ∃ (its : List Value) (n : Nat), Vals xs its ∧ xs.length = its.length ∧ s.heap.get? l = some { cls := .type "list", data := .seq its.toArray n } := by
  obtain ⟨z, its, n, r, e⟩ := I.hok l _ hH
  exact ⟨z, its, n, r, r.length, e⟩
theorem notLongL {n : Nat} (h : n ≤ sizeLine) : Builtin.List.listTooLong n = false := by
  unfold Builtin.List.listTooLong
  exact decide_eq_false (by omega)
end
section
variable {X : Cx}
def rAppend : V → List V → Hp → VK → Prop := fun x vs H Q => ∃ l xs y, x = .ref l ∧ vs = [y] ∧ H l = some (.lst xs) ∧ xs.length < sizeLine ∧ Q .non (upd H l (.lst (xs ++ [y])))
theorem mt_append : MtM X "list.append" rAppend := by
  intro pins s σ H x vs v us Q I rx rv h
  obtain ⟨l, xs, y, rfl, rfl, hH, hz, q⟩ := h
  cases rx
  obtain ⟨u, rfl, ru⟩ := rv.one
  obtain ⟨z, its, n, r, hl, e⟩ := I.lstM hH
  refine call_meets F.slot_list_append ⟨_, e, rfl⟩ F.entry_list_append (F.args_list_append_2 _ _) (PySem.list_append l its.toArray n u (by rw [List.size_toArray]; omega)) ⟨e, ?_⟩
  refine ⟨.non, _, I.lset (its' := its ++ [u]) hH e (by simp) (r.append (.cons ru .nil)) ?_, rfl, q⟩
  rw [List.length_append, List.length_singleton]
  omega
def rExtend : V → List V → Hp → VK → Prop := fun x vs H Q => ∃ l b xs zs, x = .ref l ∧ vs = [.ref b] ∧ H l = some (.lst xs) ∧ H b = some (.lst zs) ∧ xs.length + zs.length ≤ sizeLine ∧ Q .non (upd H l (.lst (xs ++ zs)))
def rPop : V → List V → Hp → VK → Prop := fun x vs H Q => ∃ l xs y, x = .ref l ∧ vs = [] ∧ H l = some (.lst xs) ∧ xs[xs.length - 1]? = some y ∧ Q y (upd H l (.lst xs.dropLast))
def rPopAt : V → List V → Hp → VK → Prop := fun x vs H Q => ∃ l xs i k y, x = .ref l ∧ vs = [.int i] ∧ H l = some (.lst xs) ∧ -(2 ^ 63) ≤ i ∧ i < 2 ^ 63 ∧ seqIndex? i xs.length = some k ∧ xs[k]? = some y ∧ Q y (upd H l (.lst (xs.eraseIdx k)))
def rReverse : V → List V → Hp → VK → Prop := fun x vs H Q => ∃ l xs, x = .ref l ∧ vs = [] ∧ H l = some (.lst xs) ∧ Q .non (upd H l (.lst xs.reverse))
def rClear : V → List V → Hp → VK → Prop := fun x vs H Q => ∃ l xs, x = .ref l ∧ vs = [] ∧ H l = some (.lst xs) ∧ Q .non (upd H l (.lst []))
def rCat : R2 := fun x y H Q => ∃ l b xs zs, x = .ref l ∧ y = .ref b ∧ H l = some (.lst xs) ∧ H b = some (.lst zs) ∧ xs.length + zs.length ≤ sizeLine ∧ ∀ p, H p = none → Q (.ref p) (upd H p (.lst (xs ++ zs)))
theorem op_cat : OpR X (binaryOp .Add) rCat := by
  intro pins s σ H x y v u Q I rx ry h
  obtain ⟨l, b, xs, zs, rfl, rfl, hH, hB, hz, q⟩ := h
  cases rx
  cases ry
  obtain ⟨z, its, n, r, hl, e⟩ := I.lstM hH
  obtain ⟨z2, its2, n2, r2, hl2, e2⟩ := I.lstM hB
  refine PySem.P.add_list e e2 ?_ (by rw [List.size_toArray, List.size_toArray]; omega)
  have ea : its.toArray ++ its2.toArray = (its ++ its2).toArray := by simp
  rw [ea]
  exact ⟨.ref _, _, I.lnew (t' := s.toks) (r.append r2) (by rw [List.length_append]; omega), rfl, q _ I.fresh⟩
def rRep : R2 := fun x y H Q => ∃ l k xs, x = .ref l ∧ y = .int k ∧ H l = some (.lst xs) ∧ -(2 ^ 63) ≤ k ∧ k < 2 ^ 63 ∧ xs.length * k.toNat ≤ sizeLine ∧
  ∀ p, H p = none → Q (.ref p) (upd H p (.lst (List.replicate k.toNat xs).flatten))
theorem len_rep {α : Type} (xs : List α) (k : Nat) : (List.replicate k xs).flatten.length = k * xs.length := by
  induction k with
  | zero => simp
  | succ k ih => rw [List.replicate_succ, List.flatten_cons, List.length_append, ih, Nat.succ_mul, Nat.add_comm]
theorem op_rep : OpR X (binaryOp .Mult) rRep := by
  intro pins s σ H x y v u Q I rx ry h
  obtain ⟨l, k, xs, rfl, rfl, hH, h1, h2, hz, q⟩ := h
  cases rx
  obtain ⟨t, rfl⟩ := ry
  obtain ⟨z, its, n, r, hl, e⟩ := I.lstM hH
  have hlen : its.toArray.size * k.toNat ≤ sizeLine := by rw [List.size_toArray, ← hl]; exact hz
  have hcap : ¬ its.toArray.size * k.toNat > (2 ^ 63 - 1) / 8 := by
    have : (sizeLine : Nat) ≤ (2 ^ 63 - 1) / 8 := by decide
    omega
  have hfit : ¬ (!Builtin.List.listFitsIndex k) = true := by
    rw [fitsIndex_both h1 h2]
    exact Bool.false_ne_true
  have hlong : ¬ Builtin.List.listTooLong (its.toArray.size * k.toNat) = true := by
    rw [notLongL hlen]
    exact Bool.false_ne_true
  have hnew : List.foldl (fun x1 x2 => x1 ++ x2) #[] (List.replicate (if its.toArray.isEmpty = true then 0 else k.toNat) its.toArray) = (List.replicate k.toNat its).flatten.toArray := by
    have f0 : ∀ m : Nat, List.foldl (fun x1 x2 => x1 ++ x2) #[] (List.replicate m its.toArray) = (List.replicate m its).flatten.toArray := fun m => by
      have := foldl_rep its m []
      rw [List.nil_append] at this
      exact this
    rw [f0]
    cases its with
    | nil => simp
    | cons a r' => rw [if_neg (by simp)]
  refine wpAny_binaryOp_repeat_ref (T := "list") (U := "int") (by decide) ⟨_, e, rfl⟩ (fun s' => typeIs_int s' k t) noFill_list_mul F.fills_int_mul F.slot_int_rmul repeat_list F.slot_int_index.lookup
    (call_meets F.slot_int_rmul (typeIs_int s k t) F.entry_int_rmul (F.args_int_rmul_2 _ _) (int___rmul___int_list k t l its.toArray n)
      ⟨e, rfl, ⟨_, e, rfl⟩, call_meets F.slot_list_mul ⟨_, e, rfl⟩ F.entry_list_mul (F.args_list_mul_2 _ _) (AutoListH.list___mul___list_int_3 l its.toArray n k t hfit hcap hlong) ⟨e, ?_⟩⟩)
  rw [hnew]
  exact ⟨.ref _, _, I.lnew (t' := s.toks) (r.rep k.toNat) (by rw [len_rep, Nat.mul_comm]; exact hz), rfl, q _ I.fresh⟩
end
section
variable {prog : Program} {w : World} {A : Around} {E : Value → Shared → Prop} {s : Shared}
end
section
variable {X : Cx}
end
end L2
namespace L2
open PySem PySem.Spec PyProof.Rows
section
variable {κ : Type} [DecidableEq κ]
def valV (kvs : List (κ × V)) (k : κ) : Option V := (kvs.find? fun kv => decide (kv.1 = k)).map (·.2)
def putK (kvs : List (κ × V)) (k : κ) (v : V) : List (κ × V) :=
  if (kvs.any fun kv => decide (kv.1 = k)) = true then kvs.map (fun kv => if kv.1 = k then (kv.1, v) else kv) else kvs ++ [(k, v)]
def dropK (kvs : List (κ × V)) (k : κ) : List (κ × V) := kvs.filter fun kv => decide (kv.1 ≠ k)
theorem valV_pos {p : κ × V} {r : List (κ × V)} {k : κ} (e : p.1 = k) : valV (p :: r) k = some p.2 := by simp [valV, List.find?_cons, e]
theorem valV_neg {p : κ × V} {r : List (κ × V)} {k : κ} (e : ¬ p.1 = k) : valV (p :: r) k = valV r k := by simp [valV, List.find?_cons, e]
theorem RelO.getD {o : Option V} {u : Option Value} {d : V} {d' : Value} (r : RelO o u) (rd : RelV d d') : RelV (o.getD d) (u.getD d') := by
  cases o with
  | none => cases u with
    | none => exact rd
    | some _ => exact (show False from r).elim
  | some _ => cases u with
    | none => exact (show False from r).elim
    | some _ => exact r
theorem KV.val {kvs : List (κ × V)} {vs : List (κ × Value)} (r : KV kvs vs) (k : κ) : RelO (valV kvs k) (valueAt vs k) := by
  unfold KV at r
  induction r with
  | nil => exact True.intro
  | @cons p q ps qs h t ih =>
    obtain ⟨h1, h2⟩ := h
    by_cases e : p.1 = k
    · have e' : q.1 = k := h1.symm.trans e
      have b : valueAt (q :: qs) k = some q.2 := by simp [valueAt, List.find?_cons, e']
      rw [valV_pos e, b]; exact h2
    · have e' : ¬ q.1 = k := fun z => e (h1.trans z)
      have b : valueAt (q :: qs) k = valueAt qs k := by simp [valueAt, List.find?_cons, e']
      rw [valV_neg e, b]; exact ih
theorem KV.any {kvs : List (κ × V)} {vs : List (κ × Value)} (r : KV kvs vs) (k : κ) : (kvs.any fun kv => decide (kv.1 = k)) = vs.any fun kv => decide (kv.1 = k) := by
  unfold KV at r
  induction r with
  | nil => rfl
  | cons h t ih => rw [List.any_cons, List.any_cons, ih, h.1]
theorem KV.drop {kvs : List (κ × V)} {vs : List (κ × Value)} (r : KV kvs vs) (k : κ) : KV (dropK kvs k) (without vs k) := by
  unfold KV at r ⊢
  unfold dropK without
  induction r with
  | nil => exact .nil
  | @cons p q ps qs h t ih =>
    obtain ⟨h1, h2⟩ := h
    rw [List.filter_cons, List.filter_cons]
    by_cases e : p.1 = k
    · have a : ¬ decide (p.1 ≠ k) = true := by simp [e]
      have b : ¬ decide (q.1 ≠ k) = true := by simp [h1.symm.trans e]
      rw [if_neg a, if_neg b]; exact ih
    · have e' : ¬ q.1 = k := fun z => e (h1.trans z)
      have a : decide (p.1 ≠ k) = true := by simp [e]
      have b : decide (q.1 ≠ k) = true := by simp [e']
      rw [if_pos a, if_pos b]; exact .cons ⟨h1, h2⟩ ih
theorem KV.keys {kvs : List (κ × V)} {vs : List (κ × Value)} (r : KV kvs vs) : kvs.map (·.1) = vs.map (·.1) := by
  unfold KV at r
  induction r with
  | nil => rfl
  | cons h t ih => rw [List.map_cons, List.map_cons, ih, h.1]
theorem KV.length {kvs : List (κ × V)} {vs : List (κ × Value)} (r : KV kvs vs) : kvs.length = vs.length := Paired.length r
end
abbrev KT (H : Hp) : List (List Key × V) → List (List Key × Addr × Value) → Prop := Paired fun p q => p.1 = q.1 ∧ H q.2.1 = some (.tup (p.1.map kV)) ∧ RelV p.2 q.2.2
theorem KT.val {H : Hp} {kvs : List (List Key × V)} {xs : List (List Key × Addr × Value)} (r : KT H kvs xs) (k : List Key) : RelO (valV kvs k) ((atKey xs k).map (·.2)) := by
  induction r with
  | nil => exact True.intro
  | @cons p q ps qs h t ih =>
    obtain ⟨h1, _, h2⟩ := h
    by_cases e : p.1 = k
    · have e' : q.1 = k := h1.symm.trans e
      have b : atKey (q :: qs) k = some q.2 := by simp [atKey, List.find?_cons, e']
      rw [valV_pos e, b]; exact h2
    · have e' : ¬ q.1 = k := fun z => e (h1.trans z)
      have b : atKey (q :: qs) k = atKey qs k := by simp [atKey, List.find?_cons, e']
      rw [valV_neg e, b]; exact ih
theorem KT.keeps {H H' : Hp} {kvs : List (List Key × V)} {xs : List (List Key × Addr × Value)} (r : KT H kvs xs) (ht : ∀ b ys, H b = some (.tup ys) → H' b = some (.tup ys)) : KT H' kvs xs :=
  Paired.mapP r fun _ _ z => ⟨z.1, ht _ _ z.2.1, z.2.2⟩
section
variable {P : Program} {w : World} {H : Hp} {h : Heap} {a : Addr}
end
def DGet (H : Hp) (a : Addr) (y : V) (r : Option V) : Prop :=
  (∃ kvs k, Rd H a (.dK kvs) ∧ y = kV k ∧ r = valV kvs k) ∨ ∃ kvs k b, Rd H a (.dT kvs) ∧ y = .ref b ∧ H b = some (.tup (k.map kV)) ∧ r = valV kvs k
def DPut (H : Hp) (a : Addr) (y v : V) (H' : Hp) : Prop :=
  (∃ kvs k, H a = some (.dK kvs) ∧ y = kV k ∧ kvs.length < sizeLine ∧ H' = upd H a (.dK (putK kvs k v))) ∨
  ∃ kvs k b, H a = some (.dT kvs) ∧ y = .ref b ∧ H b = some (.tup (k.map kV)) ∧ kvs.length < sizeLine ∧ H' = upd H a (.dT (putK kvs k v))
theorem DGet.k {H : Hp} {a : Addr} {kvs : List (Key × V)} {k : Key} (e : H a = some (.dK kvs)) : DGet H a (kV k) (valV kvs k) := .inl ⟨kvs, k, .inl e, rfl, rfl⟩
theorem DGet.t {H : Hp} {a b : Addr} {kvs : List (List Key × V)} {k : List Key} (e : H a = some (.dT kvs)) (eb : H b = some (.tup (k.map kV))) : DGet H a (.ref b) (valV kvs k) := .inr ⟨kvs, k, b, .inl e, rfl, eb, rfl⟩
theorem DPut.k {H : Hp} {a : Addr} {kvs : List (Key × V)} {k : Key} {v : V} (e : H a = some (.dK kvs)) (hl : kvs.length < sizeLine) : DPut H a (kV k) v (upd H a (.dK (putK kvs k v))) := .inl ⟨kvs, k, e, rfl, hl, rfl⟩
theorem DPut.t {H : Hp} {a b : Addr} {kvs : List (List Key × V)} {k : List Key} {v : V} (e : H a = some (.dT kvs)) (eb : H b = some (.tup (k.map kV))) (hl : kvs.length < sizeLine) :
    DPut H a (.ref b) v (upd H a (.dT (putK kvs k v))) := .inr ⟨kvs, k, b, e, rfl, eb, hl, rfl⟩
section
variable {X : Cx} {pins : List (Addr × Obj)} {σ : St} {H : Hp} {s : Shared} {a : Addr} {y v : V} {u r : Value} {o : Option V} {A : Around} {E : Value → Shared → Prop}
theorem Inv.big (I : Inv X pins σ H s) : sysModules < s.heap.objs.size := by
  have h : mainGlobals < s.heap.objs.size := (I.mod.glob.keeps I.bk).lt
  exact Nat.lt_trans (by decide) h
end
section
variable {X : Cx} {pins : List (Addr × Obj)} {σ : St} {H : Hp} {s : Shared} {a : Addr} {kvs : List (Key × V)} {k : Key} {u : Value} {A : Around} {E : Value → Shared → Prop}
end
def NoSl (i : Expr) : Prop := ∀ ov iv, subscripted i false ov iv = operate [ov, iv] (getItem ov iv)
def tDGet (td ty : TE) : TE := fun σ H Q => td σ H fun x H1 => ty σ H1 fun y H2 => ∃ a v, x = .ref a ∧ DGet H2 a y (some v) ∧ Q v H2
def tDIn (ty td : TE) : TE := fun σ H Q => ty σ H fun y H1 => td σ H1 fun x H2 => ∃ a o, x = .ref a ∧ DGet H2 a y o ∧ Q (.bl o.isSome) H2
def tDNotIn (ty td : TE) : TE := fun σ H Q => ty σ H fun y H1 => td σ H1 fun x H2 => ∃ a o, x = .ref a ∧ DGet H2 a y o ∧ Q (.bl (!o.isSome)) H2
def sDPut (td ty tv : TE) : TS := fun D σ H => tv σ H fun v H1 => td σ H1 fun x H2 => ty σ H2 fun y H3 => ∃ a H4, x = .ref a ∧ DPut H3 a y v H4 ∧ D.nx σ H4
def sDAug (td ty tv : TE) (rd : V → V → Hp → VK → Prop) : TS := fun D σ H => td σ H fun x H1 => ty σ H1 fun y H2 => ∃ a v, x = .ref a ∧ DGet H2 a y (some v) ∧
  tv σ H2 fun y2 H3 => rd v y2 H3 fun z H4 => ∃ H5, DPut H4 a y z H5 ∧ D.nx σ H5
def sDDel (td ty : TE) : TS := fun D σ H => td σ H fun x H1 => ty σ H1 fun y H2 => ∃ a kvs k, x = .ref a ∧ H2 a = some (.dK kvs) ∧ y = kV k ∧ (valV kvs k).isSome = true ∧ D.nx σ (upd H2 a (.dK (dropK kvs k)))
section
variable {X : Cx} {o i e value : Expr} {pos pos' tpos : Pos} {td ty tv : TE}
end
theorem dk_empty {P : Program} {w : World} {H : Hp} (h : Heap) (hb : sysModules < h.objs.size) : ObjOk P w H (h.push { cls := .type "dict", data := .dict #[] }) h.objs.size (.dK []) :=
  ⟨Nat.zero_le _, beq_eq_false_iff_ne.mpr (Ne.symm (Nat.ne_of_lt hb)), [], .nil, Heap.DictOf.new h⟩
def tDNewK : TE := fun _ H Q => ∀ p, H p = none → Q (.ref p) (upd H p (.dK []))
def tDNewT : TE := fun _ H Q => ∀ p, H p = none → Q (.ref p) (upd H p (.dT []))
section
variable {X : Cx} {pos : Pos}
theorem pe_dnewK : PE X (.Dict [] [] pos) tDNewK := fun pins s σ H Q I h =>
  wpAny_Dict_empty ⟨.ref s.heap.objs.size, _, I.laid (a := s.heap.objs.size) (o := .dK []) (t' := s.toks) (fun _ _ q => Heap.get?_push_of_some _ q) (Nat.le_refl _) (dk_empty s.heap I.big), rfl, h _ (I.hok.fresh (Nat.le_refl _))⟩
end
def tPairs : List (TE × TE) → St → Hp → (List (V × V) → Hp → Prop) → Prop
  | [], _, H, Q => Q [] H
  | (tk, tv) :: r, σ, H, Q => tk σ H fun x H1 => tv σ H1 fun y H2 => tPairs r σ H2 fun ps H3 => Q ((x, y) :: ps) H3
abbrev VV : List (V × V) → List (Value × Value) → Prop := Paired fun p q => RelV p.1 q.1 ∧ RelV p.2 q.2
def PPs (X : Cx) (pos : Pos) (keys : List (Option Expr)) (values : List Expr) (trs : List (TE × TE)) : Prop :=
  ∀ (pins : List (Addr × Obj)) (s : Shared) (σ : St) (H : Hp) (Q : List (V × V) → Hp → Prop), Inv X pins σ H s → tPairs trs σ H Q →
    wpAny (model X.prog X.w) X.A (evalPairs (pairTrees keys values X.env pos)) (fun vs s' => ∃ ps H', Inv X pins σ H' s' ∧ VV ps vs ∧ Q ps H') X.xe s
def mergeK (kvs more : List (Key × V)) : List (Key × V) := more.foldl (fun acc kv => putK acc kv.1 kv.2) kvs
def tDisp (trs : List (TE × TE)) : TE := fun σ H Q => ∀ p, H p = none → tPairs trs σ (upd H p (.dK [])) fun ps H2 => H2 p = some (.dK []) ∧ ∃ kvs : List (Key × V), ps = kvs.map (fun kv => (kV kv.1, kv.2)) ∧ kvs.length ≤ 15 ∧ Q (.ref p) (upd H2 p (.dK (mergeK [] kvs)))
structure M1 (X : Cx) (o : Expr) (m : Str) (apos : Pos) (e : Expr) (cpos : Pos) : Prop where
  base : attributeBase o m X.env (eval o X.env) = eval o X.env
  few : ((backTo cpos (starEach [e] X.env)).all (fun x => !x.1) && (backToKw cpos (keywordEach [] X.env)).all (fun x => x.1.isSome)
    && decide (([e] : List Expr).length + ([] : List Keyword).length + (if ([] : List Keyword).isEmpty then 0 else 1) < 30)) = true
  line : (apos.endLine == cpos.line) = true
  trees : backTo cpos (starEach [e] X.env) = [(false, eval e X.env)]
structure M2 (X : Cx) (o : Expr) (m : Str) (apos : Pos) (e f : Expr) (cpos : Pos) : Prop where
  base : attributeBase o m X.env (eval o X.env) = eval o X.env
  few : ((backTo cpos (starEach [e, f] X.env)).all (fun x => !x.1) && (backToKw cpos (keywordEach [] X.env)).all (fun x => x.1.isSome)
    && decide (([e, f] : List Expr).length + ([] : List Keyword).length + (if ([] : List Keyword).isEmpty then 0 else 1) < 30)) = true
  line : (apos.endLine == cpos.line) = true
  trees : backTo cpos (starEach [e, f] X.env) = [(false, eval e X.env), (false, eval f X.env)]
def IsD (H : Hp) (a : Addr) : Prop := (∃ kvs, Rd H a (.dK kvs)) ∨ ∃ kvs, Rd H a (.dT kvs)
section
variable {X : Cx} {pins : List (Addr × Obj)} {σ : St} {H : Hp} {s : Shared} {a : Addr} {y d : V} {u r : Value} {o : Option V} {A : Around} {E : Value → Shared → Prop}
end
def tDGet1 (td ty : TE) : TE := fun σ H Q => td σ H fun x H1 => ∃ a, x = .ref a ∧ IsD H1 a ∧ ty σ H1 fun y H2 => ∃ o, DGet H2 a y o ∧ Q (o.getD .non) H2
def tDGet2 (td ty tx : TE) : TE := fun σ H Q => td σ H fun x H1 => ∃ a, x = .ref a ∧ IsD H1 a ∧ ty σ H1 fun y H2 => tx σ H2 fun z H3 => ∃ o, DGet H3 a y o ∧ Q (o.getD z) H3
def tDPop1 (td ty : TE) : TE := fun σ H Q => td σ H fun x H1 => ∃ a, x = .ref a ∧ IsD H1 a ∧ ty σ H1 fun y H2 => ∃ kvs k v, H2 a = some (.dK kvs) ∧ y = kV k ∧ valV kvs k = some v ∧ Q v (upd H2 a (.dK (dropK kvs k)))
def tDPop2 (td ty tx : TE) : TE := fun σ H Q => td σ H fun x H1 => ∃ a, x = .ref a ∧ IsD H1 a ∧ ty σ H1 fun y H2 => tx σ H2 fun z H3 => ∃ kvs k, H3 a = some (.dK kvs) ∧ y = kV k ∧
  (∀ v, valV kvs k = some v → Q v (upd H3 a (.dK (dropK kvs k)))) ∧ (valV kvs k = none → Q z H3)
section
variable {X : Cx} {o e f : Expr} {apos cpos : Pos} {td ty tx : TE}
end
section
variable {X : Cx} {pins : List (Addr × Obj)} {σ : St} {H : Hp} {s : Shared} {a : Addr} {kvs : List (Key × V)} {A : Around} {E : Value → Shared → Prop}
end
section
variable {X : Cx} {pins : List (Addr × Obj)} {σ : St} {H : Hp} {s : Shared} {a : Addr} {y : V} {u : Value} {A : Around} {E : Value → Shared → Prop}
end
end L2
namespace Att
open PySem PySem.W PySem.Calls PyProof.Rows
theorem ints_of_wellAll {P : Params} {h : Heap} : ∀ (ns : List Int) (vs : List Value), WellAll P h vs (ns.map WData.int) → IntsAre vs ns := by
  intro ns
  induction ns with
  | nil =>
    intro vs w
    rw [List.map_nil] at w
    cases w
    exact .nil
  | cons n ns ih =>
    intro vs w
    rw [List.map_cons] at w
    cases w with
    | cons a b =>
      cases a
      exact .cons _ _ (ih _ b)
theorem script_of {l : OpenLaw} {n : Nat} (hn : l.most = some n) {P : Params} {h : Heap} {args : List WData} {vals : List Value}
    (hpre : l.row.toRowW.claim.pre args = true) (hwl : WellAll P h vals args) :
    ∃ a vs ns, vals = [Value.ref a] ∧ args = [WData.list (ns.map WData.int)] ∧ h.get? a = some { cls := .type "list", data := .seq vs.toArray } ∧ IntsAre vs ns ∧ ns.length ≤ n := by
  have hsh : WShape.hasAll [] args [.list .int] = true := (pre_splitW hpre).1
  have hc : l.pre.holds [] { args := args } = true := (pre_splitW hpre).2
  obtain ⟨d, r, rfl, h1, h2⟩ := hasAllW_cons hsh
  obtain rfl := hasAllW_nil h2
  obtain ⟨xs, rfl, h3⟩ := hasW_list h1
  obtain ⟨ns, rfl⟩ := items_int h3
  have hlen : ns.length ≤ n := by
    unfold OpenLaw.pre at hc
    have h4 : (WTm.not (.lt (.lit (.int (n : Int))) (.len (.arg 0)))).holds [] { args := [.list (ns.map .int)] } = true := by
      have h4 := (holds_andW hc).1
      rw [hn] at h4
      exact h4
    have h5 := condW_of h4 (w_not (w_lt w_lit (w_len_list (w_arg rfl))))
    rw [List.length_map] at h5
    refine Nat.le_of_not_lt fun q => ?_
    have q' : (n : Int) < ((ns.length : Nat) : Int) := by omega
    first
      | (rw [decide_eq_true q'] at h5; exact absurd h5 (by decide))
      | (simp at h5; omega)
  cases hwl with
  | cons w1 w2 =>
    cases w2
    cases w1 with
    | list ho hall => exact ⟨_, _, ns, rfl, rfl, ho, ints_of_wellAll ns _ hall, hlen⟩
theorem post_true (l : OpenLaw) (args : List WData) : l.row.toRowW.claim.post args (.bool true) args = true :=
  postW_of (r := l.row.toRowW) (X := (true == true))
    (show WShape.has [] (.bool true) .bool = true by first | rfl | decide | simp [WShape.has, WShape.arms, WShape.armsAll])
    (show (WTm.eq .res (.lit (.bool true))).value [] { args := args, res := some (.bool true), after := args } = some (.bool (true == true)) from w_eq_bool (w_res rfl) w_lit) rfl
section
variable {prog : Program} {w : World} {A : Around} {E : Value → Shared → Prop} {s : Shared} {K : Frag}
def noObjs (h : Heap) : Heap := { h with objs := #[] }
def ledger (h : Heap) (L d : Addr) : List (Addr × Obj) := (List.range h.objs.size).filterMap fun a => if a = L ∨ a = d then none else (h.get? a).map fun o => (a, o)
end
end Att
namespace L2
open PySem PySem.Spec PyProof.Rows
theorem vals_ints : ∀ {vs : List Value} {ns : List Int}, IntsAre vs ns → Vals (ns.map V.int) vs
  | _, _, .nil => .nil
  | _, _, .cons n t h => .cons ⟨t, rfl⟩ (vals_ints h)
def Only (H : Hp) : Prop := ∀ b, H b = none ∨ ∃ o xs, H b = some (.frz o (.lst xs))
end L2
namespace L2
open PySem PySem.Spec PyProof.Rows
abbrev KOf {K : PySem.W.Frag} {h : Heap} (_ : K.In h) : PySem.W.Frag := K
end L2
namespace L2
open PySem PySem.Spec PyProof.Rows
def inClass (s : Stmt) (j : Nat) : Stmt := match s with
  | .ClassDef _ _ _ body _ _ _ _ _ _ _ => body.getD j (.Pass ⟨0, 0, 0, 0⟩)
  | _ => .Pass ⟨0, 0, 0, 0⟩
def defArgs (s : Stmt) : Arguments := match s with
  | .FunctionDef _ a _ _ _ _ _ _ _ _ => a
  | _ => { posonlyargs := [], args := [], vararg := none, kwonlyargs := [], kw_defaults := [], kwarg := none, defaults := [] }
def defBody (s : Stmt) : List Stmt := match s with
  | .FunctionDef _ _ b _ _ _ _ _ _ _ => b
  | _ => []
def defScope (s : Stmt) : Scope := match s with
  | .FunctionDef _ _ _ _ _ _ sc _ _ _ => sc
  | _ => { kind := .function, names := [], isGenerator := false, isCoroutine := false }
abbrev CX0 : CXT := fun _ _ _ _ _ _ => False
abbrev E0 : XK := fun _ _ _ => False
theorem pass0 {X : Cx} : Passes CX0 X E0 := fun _ _ _ _ _ _ _ h => h.elim
structure Fun (K : PySem.W.Frag) (x qual : Str) (st : Stmt) (f : Addr) (fd : FuncData) : Prop where
  ex : ∃ (oc : Value) (od : Option Addr) (kV doc pm : Value) (an : Option Addr) (cdv ct : Value) (osl : Array (Option Value)),
    fd = PySem.W.fnOf x qual (defArgs st) (defBody st) (defScope st) .none kV doc pm an cdv ct ∧ K.lookup f = some ⟨oc, od, .func fd, osl⟩ ∧ PySem.W.codeIn K cdv qual = true
  kp : PySem.W.keepIn K (.ref f) = true
section
variable {P : Program} {w : World} {K : PySem.W.Frag} {mg : Str → Option Value} {base : Heap}
theorem Fun.ok {x qual : Str} {st : Stmt} {f : Addr} {fd : FuncData} {N ps : List Str} {k : Nat} {sp : Sp} (F : Fun K x qual st f fd) (S : FnScope N ps (defScope st)) (len : ∀ vs H Q E, sp vs H Q E → vs.length = ps.length)
    (hbody : ∀ (cdv : Value) (A : Around) (outer : List Env) (s : Shared) (H : Hp) (vs : List V) (Q : VK) (E : XK), Room k (A.deeper (envOfC qual (defScope st) s.heap.objs.size f cdv)) → sp vs H Q E →
      ∃ t, PSs (cxOf CX0 P w K mg base N qual (defScope st) f cdv A outer s H E).nox (defBody st) t ∧ t { nx := fun _ H' => Q .non H', rt := Q } (start N vs) H) : FnOk P w K mg base CX0 (k + 1) f fd ps sp := by
  obtain ⟨oc, od, kV, doc, pm, an, cdv, ct, osl, rfl, lk, hcd⟩ := F.ex
  refine fn_of lk hcd S len fun A outer s H vs Q E hr hsp => ?_
  obtain ⟨t, h, q⟩ := hbody cdv A outer s H vs Q E hr hsp
  exact ⟨t, h.nox, q⟩
theorem Fun.binds {x qual : Str} {st : Stmt} {f : Addr} {fd : FuncData} {ps : List Str} (F : Fun K x qual st f fd)
    (h : ∀ (kV doc pm : Value) (an : Option Addr) (cdv ct : Value) (us : List Value), us.length = ps.length → bindArgs (PySem.W.fnOf x qual (defArgs st) (defBody st) (defScope st) .none kV doc pm an cdv ct) ⟨us, []⟩ = pure (ps.zip us)) : Binds K fd ps [] := by
  obtain ⟨oc, od, kV, doc, pm, an, cdv, ct, osl, rfl, lk, hcd⟩ := F.ex
  exact .all (h kV doc pm an cdv ct)
theorem fun_mk {x qual : Str} {st : Stmt} {f : Addr} {oc : Value} {od an : Option Addr} {osl : Array (Option Value)} {kV doc pm cdv ct : Value} (l : K.lookup f = some ⟨oc, od, .func (PySem.W.fnOf x qual (defArgs st) (defBody st) (defScope st) .none kV doc pm an cdv ct), osl⟩)
    (c : PySem.W.codeIn K cdv qual = true) (k : PySem.W.keepIn K (.ref f) = true) : Fun K x qual st f (PySem.W.fnOf x qual (defArgs st) (defBody st) (defScope st) .none kV doc pm an cdv ct) := ⟨⟨oc, od, kV, doc, pm, an, cdv, ct, osl, rfl, l, c⟩, k⟩
end
section
variable {X : Cx}
theorem pv (i : Nat) {x : Str} {pos : Pos} (hN : X.N[i]? = some x := by rfl) (hv : Vis X.env.scope x := by first | exact Or.inl rfl | exact Or.inr (Or.inl rfl) | exact Or.inr (Or.inr rfl)) (hd : (x == ("__debug__" : Str)) = false := by decide)
    (hcd : (x == ("__classdict__" : Str)) = false := by decide) : PE X (.Name x pos) (tVar i) := pe_var hN hv hd hcd
end
theorem ite2 {c A B : Prop} [Decidable c] (h1 : c → A) (h2 : ¬ c → B) : if c then A else B := by
  by_cases h : c
  · rw [if_pos h]
    exact h1 h
  · rw [if_neg h]
    exact h2 h
def Same (H H' : Hp) : Prop := ∀ b o, H b = some o → H' b = some o
theorem Same.refl (H : Hp) : Same H H := fun _ _ h => h
theorem Same.trans {H H1 H2 : Hp} (a : Same H H1) (b : Same H1 H2) : Same H H2 := fun c o h => b c o (a c o h)
theorem Same.free {H H' : Hp} (e : Same H H') {l : Addr} (h : H' l = Option.none) : H l = Option.none := by
  cases q : H l with
  | none => rfl
  | some o =>
    rw [e l o q] at h
    cases h
theorem Same.seq {K : PySem.W.Frag} {H H' : Hp} {a : Addr} {xs : List V} (e : Same H H') (h : SqL K H a xs) : SqL K H' a xs := by
  rcases h with (h | ⟨o, h⟩) | h
  · exact .inl (.inl (e _ _ h))
  · exact .inl (.inr ⟨o, e _ _ h⟩)
  · exact .inr h
section
variable {X : Cx}
end
section
variable {κ : Type} [DecidableEq κ]
end
end L2
set_option Elab.async false
set_option linter.all false
set_option maxRecDepth 100000
set_option maxHeartbeats 4000000
namespace Att
open PySem PySem.W PySem.Calls PyProof.Rows
theorem script_low {R : WRecords} {cl : Str → Option Addr} {h : Heap} {a : Addr} {ds : List WData} {as : List Addr} (r : ReadsAllW R cl h [.ref a] [.list ds] as) : a ∈ as := by
  cases r with
  | cons r1 r2 =>
    cases r1 with
    | list => simp
theorem attach_callS {l : OpenLaw} {n : Nat} {q : Program} {loose : List Str} {XP : (Str → Option Value) → Heap → Prop} {YP : World → Heap → Prop} {d : DefRec}
    (hn : l.most = some n) (hdf : d.params.defaults = [])
    (call : ∀ (w : World) (s₀ s₁ : Shared) (mg mb : Str → Option Value) (fa : Addr) (o : Obj) (pm cd doc : Value) (a : Addr) (vs : List Value) (ns : List Int),
      Ground q loose [] XP w s₀ mg mb s₁.heap → YP w s₁.heap →
      s₁.heap.get? fa = some o → o.data = .func (docDef d.name d.params d.body d.scope pm cd doc) → s₁.heap.CodeRec cd d.name → mg d.name = some (.ref fa) →
      s₁.heap.get? a = some { cls := .type "list", data := .seq vs.toArray } → IntsAre vs ns → ns.length ≤ n → s₁.gens = #[] → a ≠ sysModules →
      codeAny (model l.prog w) callerA (.call (.ref fa) ⟨[.ref a], []⟩) (fun r s' => r = .ok (.ret (.bool true)) ∧ OldK s₁.heap s'.heap ∧ s'.os = s₁.os ∧ AllBare s'.gens) s₁) :
    WalkO q loose XP YP l.row.toRowW d [] (fun f vs => PySem.call f vs) := by
  intro w s₀ s₁ mg mb G Y fa o pm cd doc dV kV ho hd hcd hD hmg hg args vals as hpre hlay hrd hwl hlo
  obtain rfl : dV = .none := Dflts.none hD hdf
  obtain rfl : kV = .none := Dflts.noKw hD
  obtain ⟨a, vs, ns, rfl, rfl, hobj, hints, hlen⟩ := script_of hn hpre hwl
  have low : a ≠ sysModules := beq_eq_false_iff_ne.mp (hlo a (script_low hrd))
  refine enter_call (codeAny_mono (call w s₀ s₁ mg mb fa o pm cd doc a vs ns G Y ho (fd_plain hd) hcd hmg hobj hints hlen hg low) fun r s' hq => ?_)
  obtain ⟨rfl, h2, h3, h4⟩ := hq
  exact ⟨.inl ⟨.bool true, .bool true, [], rfl, fun _ => rfl, .bool true, post_true l _, fun _ => ⟨List.Pairwise.nil, fun _ hm => (nomatch hm)⟩⟩, h2, h3, h4⟩
end Att
namespace L2
open PySem PySem.Spec PyProof.Rows
theorem law_callS {P : Program} {w : World} {K : PySem.W.Frag} {mg mb : Str → Option Value} {CX : CXT} {k : Nat} {fa a : Addr} {fd : FuncData} {x : Str} {sp : Sp} {s₁ : Shared} {vs : List Value} {ns : List Int}
    (KX : K.In s₁.heap) (hns : s₁.heap.Ns mainGlobals mg) (hb : s₁.heap.Ns builtinsNs mb) (hbb : ∀ x : Str, x ≠ "__name__" → mb x = bootBuiltins x) (hlim : s₁.heap.NoLimit) (hg : s₁.gens = #[])
    (ha : s₁.heap.get? a = some { cls := .type "list", data := .seq vs.toArray }) (hi : IntsAre vs ns) (hl : ns.length ≤ sizeLine) (hr : Room k callerA) (low : a ≠ sysModules)
    (F : ∀ base : Heap, K.In base → base.Ns mainGlobals mg → FnOk P w K mg base CX k fa fd [x] sp) (hbind : ∀ (s : Shared) (u : Value), BindsTo s fd ⟨[u], []⟩ [(x, u)])
    (hsp : ∀ H : Hp, Only H → SqL K H a (ns.map V.int) → H sysModules = none → sp [.ref a] H (fun v _ => v = .bl true) fun _ _ _ => False)
    (hCX : ∀ H e s', CX [] H s₁ (fun _ _ _ => False) e s' → False) :
    codeAny (model P w) callerA (.call (.ref fa) ⟨[.ref a], []⟩) (fun r s' => r = .ok (.ret (.bool true)) ∧ OldK s₁.heap s'.heap ∧ s'.os = s₁.os ∧ AllBare s'.gens) s₁ := by
  have rv := vals_ints hi
  have lenV := hi.length
  have core : ∀ H : Hp, Only H → SqL K H a (ns.map V.int) → HOk P w H s₁.heap → (∀ b, H b ≠ none → b = a) → (H a ≠ none → K.lookup a = none) →
      codeAny (model P w) callerA (.call (.ref fa) ⟨[.ref a], []⟩) (fun r s' => r = .ok (.ret (.bool true)) ∧ OldK s₁.heap s'.heap ∧ s'.os = s₁.os ∧ AllBare s'.gens) s₁ := by
    intro H hO hS hok hA hK
    have hz : H sysModules = none := by
      cases q : H sysModules with
      | none => rfl
      | some u => exact absurd (hA _ (by rw [q]; simp)).symm low
    have base_of : ∀ {b : Addr} {o : Obj}, s₁.heap.get? b = some o → H b = none → (hidT s₁.heap H).get? b = some o := fun e n => hidT_get e n
    have noA : ∀ {b : Addr} {o : Obj} {es : Array DictEntry} {ep : Nat}, s₁.heap.get? b = some o → o.data = .dict es ep → H b = none := fun {b o es ep} e d => by
      cases q : H b with
      | none => rfl
      | some u =>
        have e' : b = a := hA b (by rw [q]; simp)
        subst e'
        rw [ha] at e; cases e
        have d' : Data.seq vs.toArray _ = Data.dict es ep := d
        cases d'
    have nsK : ∀ {b : Addr} {m : Str → Option Value}, s₁.heap.Ns b m → (hidT s₁.heap H).Ns b m := fun {b m} ⟨o, es, ep, e, d, r⟩ => ⟨o, es, ep, base_of e (noA e d), d, r⟩
    have hKb : K.In (hidT s₁.heap H) := fun b o e => base_of (KX b o e) (by
      cases q : H b with
      | none => rfl
      | some u =>
        have e' : b = a := hA b (by rw [q]; simp)
        subst e'
        rw [hK (by rw [q]; simp)] at e; cases e)
    have hM : Mod K mg (hidT s₁.heap H) := ⟨hKb, nsK hns, ⟨mb, nsK hb, hbb⟩, let ⟨mc, h1, h2⟩ := hlim; ⟨mc, nsK h1, h2⟩⟩
    have e0 : Env0 P w K mg (hidT s₁.heap H) callerA [] s₁ H := ⟨rfl, hM, fun b o e => of_hidT e, Nat.le_of_eq (hidT_size _ _), trivial, fun b hb => absurd (show b ∈ ([] : List Addr) from hb) (by simp), hok, .of_eq hg⟩
    refine codeAny_mono ((F _ hKb (nsK hns)).run callerA [] s₁ H ⟨[.ref a], []⟩ [.ref a] [.ref a] _ _ hr e0 (hbind s₁ (.ref a)) (.cons rfl .nil) (hsp H hO hS hz)) fun r s' h => ?_
    cases r with
    | error e => exact (hCX H e s' h).elim
    | ok fl =>
      cases fl with
      | next => exact False.elim h
      | brk => exact False.elim h
      | cont => exact False.elim h
      | ret u =>
        obtain ⟨v, H', os, bare, un, hok', r', q⟩ := h
        have q' : v = .bl true := q
        subst q'
        obtain rfl : u = Value.bool true := r'
        refine ⟨rfl, OldK.of_keep fun b o e => ?_, os, bare⟩
        cases q : H b with
        | none => exact un.keep b o e q (by intro z; exact absurd (show b ∈ ([] : List Addr) from z) (by simp)) (by simp)
        | some u =>
          rcases hO b with z | ⟨ob, xs, z⟩
          · rw [q] at z; cases z
          · have z2 := un.frzs b ob _ z
            obtain ⟨e1, _⟩ := hok b _ z
            obtain ⟨e2, _⟩ := hok' b _ z2
            rw [e] at e1; cases e1
            exact e2
  cases hk : K.lookup a with
  | some o =>
    have e := KX a o hk
    rw [ha] at e
    cases e
    refine core (fun _ => none) (fun _ => .inl rfl) (.inr ⟨_, vs.toArray, _, hk, rfl, rfl, rfl, by rw [List.size_toArray, lenV]; exact hl, by simpa using rv⟩) (fun b u z => by have z' : (none : Option HO) = some u := z; cases z') (fun b z => absurd rfl z) fun z => absurd rfl z
  | none =>
    refine core (fun b => if b = a then some (.frz { cls := .type "list", data := .seq vs.toArray } (.lst (ns.map V.int))) else none) (fun b => ?_) (.inl (.inr ⟨{ cls := .type "list", data := .seq vs.toArray }, if_pos rfl⟩)) (fun b u z => ?_) (fun b z => ?_) fun _ => hk
    · by_cases hb : b = a
      · exact .inr ⟨_, _, if_pos hb⟩
      · exact .inl (if_neg hb)
    · by_cases hb : b = a
      · have z' := (if_pos hb).symm.trans z
        cases z'
        subst hb
        exact ⟨ha, by rw [List.length_map]; exact hl, vs, _, rv, ha⟩
      · have z' := (if_neg hb).symm.trans z
        cases z'
    · by_cases hb : b = a
      · exact hb
      · exact absurd (if_neg hb) z
theorem walk_ofS {l : PySem.W.OpenLaw} {n k : Nat} {q : Program} {loose : List Str} {XP : (Str → Option Value) → Heap → Prop} {YP : World → Heap → Prop} {d : DefRec} {K : Params → PySem.W.Frag} {CX : World → CXT} {sp : World → Sp} {x : Str}
    (hn : l.most = some n) (hn2 : n ≤ sizeLine) (hdf : d.params.defaults = []) (hr : Room k callerA)
    (hY : ∀ (w : World) (h : Heap), YP w h → (K w.params).In h)
    (F : ∀ (w : World) (mg : Str → Option Value) (fa : Addr) (h : Heap), (K w.params).In h → h.Ns mainGlobals mg → mg d.name = some (.ref fa) →
      ∃ fd : FuncData, (∀ (s : Shared) (u : Value), BindsTo s fd ⟨[u], []⟩ [(x, u)]) ∧
        ∀ base : Heap, (K w.params).In base → base.Ns mainGlobals mg → FnOk l.prog w (K w.params) mg base (CX w) k fa fd [x] (sp w))
    (hsp : ∀ (w : World) (H : Hp) (a : Addr) (ns : List Int), ns.length ≤ n → Only H → SqL (K w.params) H a (ns.map V.int) → H sysModules = none → sp w [.ref a] H (fun v _ => v = .bl true) fun _ _ _ => False)
    (hCX : ∀ (w : World) (H : Hp) (s : Shared) (e : Value) (s' : Shared), CX w [] H s (fun _ _ _ => False) e s' → False) :
    PySem.W.WalkO q loose XP YP l.row.toRowW d [] (fun f vs => PySem.call f vs) := by
  refine Att.attach_callS hn hdf fun w s₀ s₁ mg mb fa o pm cd doc a vs ns G Y ho hd hcd hmg hobj hints hlen hg low => ?_
  have KX := hY w _ Y
  obtain ⟨fd, hb, hF⟩ := F w mg fa _ KX G.T.g hmg
  exact law_callS KX G.T.g G.T.b G.T.builtins G.T.nolimit hg hobj hints (Nat.le_trans hlen hn2) hr low hF hb (fun H hO hS hz => hsp w H a ns hlen hO hS hz) fun H e s' => hCX w H s₁ e s'
end L2
set_option Elab.async false
set_option linter.all false
set_option maxRecDepth 100000
set_option maxHeartbeats 4000000
namespace My
open PySem L2
def top (i : Nat) : Stmt := PySem.Challenge.pw_trialdeal_k07_rules_refused.main.body.getD i (.Pass ⟨0, 0, 0, 0⟩)
end My
set_option Elab.async false
set_option linter.all false
set_option maxRecDepth 100000
set_option maxHeartbeats 4000000
namespace My
open PySem
section
variable {prog : Program} {w : World} {A : Around} {h : Heap} {g : Array GenState} {d : Drawn} {tk : Nat} {os : OsState} {C N e t0 : Addr}
variable {nm q : Str} {bs bm bmB : List Value} {hdct ab : Bool} {sn : List Str} {sub : List Value} {col : Option Bool} {dd : Option Addr}
variable {k0 k1 k2 k3 k5 : Option Value} {B newId initId : String}
abbrev excAt (C t : Addr) : Obj := { cls := .ref C, data := .fields #[.ref t, .none, .none, .none, .bool false, .none] }
theorem viCall {R : Result → Shared → Prop} {v : Value} (F : ExcBaseFacts B newId initId bmB) (T : OwnTail h bmB bm)
    (hC : h.get? C = some (excClassObj nm q C N bs bm hdct sn sub ab col dd k0 k1 k2 k3 k5 newId)) (he : h.get? e = some (excAt C t0))
    (hR : ∀ h', h'.get? e = some (excAt C h.objs.size) → (∀ b o, b ≠ e → h.get? b = some o → h'.get? b = some o) → R (.ok (.ret .none)) ⟨h', g, d, tk, os⟩) :
    codeAny (model prog w) A (.call (.builtin initId) ⟨[.ref e, v], []⟩) R ⟨h, g, d, tk, os⟩ := by
  refine codeAny_call_builtin F.init.plain F.initEntry (wpAny_check_init_subT F T hC he rfl ?_)
  wp_walk
  refine hR _ ?_ fun b o hb eb => ?_
  · exact Heap.get?_update_self _ (Heap.get?_push_of_some _ he) rfl
  · exact (Heap.get?_update_ne _ _ _ _ hb).trans (Heap.get?_push_of_some _ eb)
end
end My
set_option Elab.async false
set_option linter.all false
set_option maxRecDepth 100000
set_option maxHeartbeats 4000000
namespace My
open PySem PySem.W Builtin Builtin.ObjectAttr
section
variable {prog : Program} {w : World} {A : Around} {s : Shared} {K : Frag} {C x : Addr}
theorem osaPass {R : Result → Shared → Prop} {ox : Obj} {od : Option Obj} {name : Str} {tk : Tok} {v : Value} {cd : ClassData} (X : K.In s.heap) (I : InstAt s.heap x ox C od)
    (hc : clsIn K C = some cd) (hp : refuseLoop (.ref x) "__setattr__" cd.mro = pure ()) (hm0 : mroIn K C (.type "object") = some true) (ht : takerIn K C name = some none)
    (h : ∀ b, wpAny (model prog w) A.in1 (storeInOwnDict (.ref x) (.ref C) (.str name tk) name v b)
      (fun fin s' => match fin with | .done f => R (.ok f) s' | .again c' => c'.quiet = true ∧ codeAny (model prog w) A c' R s') (fun e s' => R (.error e) s') s) :
    codeAny (model prog w) A (.call (.builtin "object.__setattr__") ⟨[.ref x, .str name tk, v], []⟩) R s := by
  have SF := PySem.F.store_object
  have sub : Looks (model prog w) s.heap (isInstance (.ref x) (.type "object")) true := I.type.andThen (looks_mroIn X hm0)
  refine codeAny_call_builtin SF.slot.plain SF.entry (@check_slot (model prog w) _ _ s "object.__setattr__" "object" "__setattr__" (.ref x) [.str name tk, v] [] _ SF.kind SF.split sub (SF.args _ _ _) ?_)
  obtain ⟨attr, ha, hr⟩ := Option.bind_eq_some_iff.mp ht
  have hm : Looks (model prog w) s.heap (mroOf (.ref C)) cd.mro := (looks_clsIn X hc).andThen .now
  have L3 : Looks (model prog w) s.heap (storeTaker? attr) none := by
    cases attr with
    | none => exact .now
    | some a =>
      obtain ⟨b, hb, e⟩ := Option.map_eq_some_iff.mp hr
      refine (looks_takesIn X hb).andThen ?_
      cases b
      · exact .now
      · cases e
  rw [osa_eq, refuse_eq]
  refine wpAny_bind (wpAny_bind (I.type.here (wpAny_bind (hm.here ?_))))
  rw [hp]
  refine wpAny_pure (wpAny_bind (I.type.here (wpAny_bind ((looks_findIn X ha).here (wpAny_bind (L3.here ?_))))))
  exact h _
end
end My
set_option Elab.async false
set_option linter.all false
set_option maxRecDepth 100000
set_option maxHeartbeats 4000000
namespace My
open PySem PySem.W Builtin Builtin.ObjectAttr
section
variable {prog : Program} {w : World} {A : Around} {E : Value → Shared → Prop} {s : Shared} {K : Frag} {C x : Addr}
theorem setExc {fs : Array Value} {sl : Array (Option Value)} {name : Str} {v : Value} {cd : ClassData} {Q : Unit → Shared → Prop} (X : K.In s.heap) (hx : s.heap.get? x = some ⟨.ref C, none, .fields fs, sl⟩)
    (hs : findIn K (.ref C) "__setattr__" = some (some (.builtin "object.__setattr__"))) (hc : clsIn K C = some cd) (hd : cd.hasDict = true)
    (hp : refuseLoop (.ref x) "__setattr__" cd.mro = pure ()) (hm0 : mroIn K C (.type "object") = some true) (ht : takerIn K C name = some none)
    (h : ∀ h' tk, h'.get? x = some ⟨.ref C, some s.heap.objs.size, .fields fs, sl⟩ → h'.Ns1 s.heap.objs.size (fun y => if y = name then some v else none) →
      (∀ b o, b ≠ x → s.heap.get? b = some o → h'.get? b = some o) → Q () { s with heap := h', toks := tk }) : wpAny (model prog w) A (setAttr (.ref x) name v) Q E s := by
  have J : InstAt s.heap x ⟨.ref C, none, .fields fs, sl⟩ C none := ⟨hx, rfl, rfl, True.intro⟩
  refine set_plain X J hs (osaPass (s := { s with toks := s.toks + 1 }) X J hc hp hm0 ht fun b => ?_)
  refine wpAny_bind (wpAny_pure (wpAny_bind (wpAny_bind (wpAny_loadPart hx (wpAny_bind (Looks.here (s := { s with toks := s.toks + 1 }) (looks_clsIn X hc) ?_))))))
  rw [hd]
  have hx1 : (s.heap.push { cls := .type "dict", data := .dict #[] }).get? x = some ⟨.ref C, none, .fields fs, sl⟩ := Heap.get?_push_of_some _ hx
  have hxs : x ≠ s.heap.objs.size := Nat.ne_of_lt (Heap.lt_size hx)
  refine wpAny_bind (wpAny_alloc' ?_)
  refine wpAny_bind (wpAny_update' hx1 ?_)
  refine wpAny_pure ?_
  generalize eU : ((s.heap.push { cls := .type "dict", data := .dict #[] }).update x fun o => { cls := o.cls, dict := some s.heap.objs.size, data := o.data, slots := o.slots } : Heap) = hU
  have gd : hU.get? s.heap.objs.size = some { cls := .type "dict", data := .dict #[] } := by
    rw [← eU]
    exact (Heap.get?_update_ne _ _ _ _ hxs.symm).trans (Heap.get?_push_at rfl rfl)
  have gx : hU.get? x = some ⟨.ref C, some s.heap.objs.size, .fields fs, sl⟩ := by
    rw [← eU]
    exact Heap.get?_update_self _ hx1 rfl
  have nd : hU.Ns s.heap.objs.size (fun _ => none) := ⟨_, #[], _, gd, rfl, fun e he => absurd he (by simp), fun _ => rfl⟩
  show wpAny _ _ (storeInDict s.heap.objs.size (.str name _) name v) _ _ _
  unfold storeInDict newKeyGuard
  refine wpAny_bind (wpAny_pure (wpAny_bind (wpAny_nsSet1 (Heap.Ns1.of_empty nd) fun h' hn' hsb => ?_)))
  obtain ⟨oD, esD, epD, hoD, hdD, hcD⟩ := hn'.count (Within.cons name v Within.nil)
  refine wpAny_bind (wpAny_lookBehind hoD (by
    rw [hdD]
    exact pastItsLine_dict (Nat.le_trans hcD (by rw [List.length_cons, List.length_nil, sizeLine_eq]; omega))) ?_)
  refine wpAny_pure ?_
  refine h h' _ ((hsb.2 x hxs).trans gx) hn' fun b o hb e => ?_
  refine (hsb.2 b (Nat.ne_of_lt (Heap.lt_size e))).trans ?_
  rw [← eU]
  exact (Heap.get?_update_ne _ _ _ _ hb).trans (Heap.get?_push_of_some _ e)
end
end My
set_option Elab.async false
set_option linter.all false
set_option maxRecDepth 100000
set_option maxHeartbeats 4000000
namespace My
open PySem PySem.W Builtin Builtin.ObjectAttr
section
variable {prog : Program} {w : World} {A : Around} {E : Value → Shared → Prop} {s : Shared} {K : Frag} {C x dx : Addr}
abbrev bga : String := "BaseException.__getattribute__"
theorem bgaCall {R : Result → Shared → Prop} {ox : Obj} {od : Option Obj} {name : Str} {tk : Tok} {v : Value} (X : K.In s.heap) (I : InstAt s.heap x ox C od)
    (hm0 : mroIn K C (.type "BaseException") = some true) (hf : findObj K C od name = some (.value v)) (h : R (.ok (.ret v)) s) :
    codeAny (model prog w) A (.call (.builtin bga) ⟨[.ref x, .str name tk], []⟩) R s := by
  have sub : Looks (model prog w) s.heap (isInstance (.ref x) (.type "BaseException")) true := I.type.andThen (looks_mroIn X hm0)
  have L1 := looks_find (M := model prog w) X I hf
  refine codeAny_call_builtin PySem.F.excAttr_ValueError.ga.plain PySem.F.entry_bexc_ga (@check_slot (model prog w) _ _ s bga "BaseException" "__getattribute__" (.ref x) [.str name tk] [] _ (by decide +kernel) (by decide +kernel) sub (PySem.F.args_bexc_ga _ _) ?_)
  refine wpAny_bind (wpAny_pure (wpAny_bind (wpAny_pure (wpAny_bind (I.type.here (wpAny_bind (L1.here ?_)))))))
  exact wpAny_pure h
theorem getExc {expr : Bool} {ox : Obj} {od : Option Obj} {name : Str} {v : Value} {Q : Value → Shared → Prop} (X : K.In s.heap) (I : InstAt s.heap x ox C od)
    (hga : findIn K (.ref C) "__getattribute__" = some (some (.builtin bga))) (hk : findIn K (.ref C) "__getattr__" = some none)
    (hm0 : mroIn K C (.type "BaseException") = some true) (hf : findObj K C od name = some (.value v)) (hv' : handedIn v = true) (h : Q v { s with toks := s.toks + 1 }) :
    wpAny (model prog w) A (getAttr (.ref x) name expr) Q E s := by
  have L0 := I.type (M := model prog w)
  have L1 := looks_findIn (M := model prog w) X hga
  have L2 := looks_findIn (M := model prog w) X hk
  have f3 := PySem.F.excAttr_ValueError.ga.bind (.ref x)
  unfold getAttr getAttrBy
  refine wpAny_bind (wpAny_mkText (wpAny_holding (wpAny_bind (Looks.here (s := { s with toks := s.toks + 1 }) L0 (wpAny_bind (Looks.here (s := { s with toks := s.toks + 1 }) L1 ?_))))))
  have hx1 : (onTheHeap (Value.ref C) && Value.builtin bga == Value.builtin "object.__getattribute__") = false := by
    rw [show (Value.builtin bga == Value.builtin "object.__getattribute__") = false from by decide +kernel]
    rfl
  show wpAny _ _ (if (onTheHeap (Value.ref C) && Value.builtin bga == Value.builtin "object.__getattribute__") = true then _ else _) _ _ _
  rw [if_neg (by rw [hx1]; decide)]
  unfold getAttrByItsOwn
  refine wpAny_bind ?_
  show wpAny _ _ (typeLookup (.ref C) "__getattr__") _ _ _
  refine Looks.here (s := { s with toks := s.toks + 1 }) L2 ?_
  have hx0 : (expr && onTheHeap (Value.builtin bga)) = false := by cases expr <;> rfl
  refine wpAny_bind (wpAny_attempt (wpAny_holding ?_))
  unfold callGetattribute
  rw [if_neg (by rw [hx0]; decide)]
  unfold boundAndCalled
  rw [f3]
  refine wpAny_bind (wpAny_pure ?_)
  refine wpAny_call (bgaCall (s := { s with toks := s.toks + 1 }) X I hm0 hf ?_)
  show wpAny _ _ (handedOut v) _ _ _
  rw [handedOut_of hv']
  exact wpAny_pure h
end
end My
set_option Elab.async false
set_option linter.all false
set_option maxRecDepth 100000
set_option maxHeartbeats 4000000
namespace My
open PySem PySem.W
section
variable {prog : Program} {w : World} {A : Around} {E : Value → Shared → Prop} {h : Heap} {g : Array GenState}
variable {d : Drawn} {t : Nat} {os : OsState} {nm q : Str} {C N : Addr} {bs bm bmB : List Value} {hdct ab : Bool}
variable {sn : List Str} {sub : List Value} {col : Option Bool} {dd : Option Addr}
variable {k0 k1 k2 k3 k5 : Option Value} {B newId initId : String} {K : Frag}
abbrev tupO (vs : List Value) : Obj := { cls := .type "tuple", data := .seq vs.toArray }
theorem tcallK (X : K.In h) (F : ExcBaseFacts B newId initId bmB) (T : OwnTail h bmB bm) {rest : List Value}
    {fI : Addr} {Q : Fin → Shared → Prop}
    (hC : h.get? C = some (excClassObj nm q C N bs bm hdct sn sub ab col dd k0 k1 k2 k3 k5 newId))
    (hi : findIn K (.ref C) "__init__" = some (some (.ref fI))) (hfI : typeIn K (.ref fI) = some (.type "function"))
    (hq : wpAny (model prog w) A (call (.ref fI) (.ref (h.objs.size + 1) :: rest))
      (fun r s' => r = .none ∧ Q (.done (.ret (.ref (h.objs.size + 1)))) s') E ⟨(h.push (tupO rest)).push (excAt C h.objs.size), g, d, t, os⟩)
    (hrest : rest.length ≤ sizeLine) :
    wpAny (model prog w) A (Builtin.«type.__call__» ⟨.ref C :: rest, []⟩) Q E ⟨h, g, d, t, os⟩ := by
  repeat (first
    | with_reducible refine wpAny_loadPart_at hC ?_
    | with_reducible refine wpAny_madeBy_exc hC ?_
    | wp_step)
  refine codeAny_call_builtin_code (Code.quiet_builtin _ F.quiet) (wpAny_check_new_subT F T hC ?_)
  refine codeAny_exc_new_subT F T hC ?_ hrest
  show wpAny _ _ _ _ _ _
  have up : ∀ b o, h.get? b = some o → ((h.push (tupO rest)).push (excAt C h.objs.size)).get? b = some o :=
    fun b o e => Heap.get?_push_of_some _ (Heap.get?_push_of_some _ e)
  have hC1 := up _ _ hC
  have X1 : K.In ((h.push (tupO rest)).push (excAt C h.objs.size)) := X.keeps up
  have hg1 : ((h.push (tupO rest)).push (excAt C h.objs.size)).get? (h.objs.size + 1) = some (excAt C h.objs.size) := by heap_get
  have hcC : (Value.ref C :: bm).contains (.ref C) = true := by simp
  unfold isInstance
  repeat (first
    | with_reducible refine wpAny_loadPart_at hg1 ?_
    | (with_reducible refine wpAny_isSubtype_exc hC1 ?_; rw [hcC])
    | wp_step)
  show wpAny _ _ (typeLookup (.ref C) _) _ _ _
  refine Looks.here (s := ⟨(h.push (tupO rest)).push (excAt C h.objs.size), g, d, t, os⟩) (looks_findIn X1 hi) ?_
  refine wpAny_holding (wpAny_bind ?_)
  unfold bindSpecial
  refine wpAny_bind (Looks.here (s := ⟨(h.push (tupO rest)).push (excAt C h.objs.size), g, d, t, os⟩) (looks_typeIn X1 hfI) ?_)
  rw [if_pos (by decide)]
  refine wpAny_pure (wpAny_bind (wpAny_mono hq (fun r s' hr => ?_) fun _ _ x => x))
  obtain ⟨rfl, hQ⟩ := hr
  wp_walk
  exact hQ
theorem callK (X : K.In h) (F : ExcBaseFacts B newId initId bmB) (T : OwnTail h bmB bm) {rest : List Value}
    {fI : Addr} {Q : Value → Shared → Prop}
    (hC : h.get? C = some (excClassObj nm q C N bs bm hdct sn sub ab col dd k0 k1 k2 k3 k5 newId))
    (hi : findIn K (.ref C) "__init__" = some (some (.ref fI))) (hfI : typeIn K (.ref fI) = some (.type "function"))
    (hq : wpAny (model prog w) (A.under (.builtin "type.__call__" ⟨.ref C :: rest, []⟩))
      (call (.ref fI) (.ref (h.objs.size + 1) :: rest)) (fun r s' => r = .none ∧ Q (.ref (h.objs.size + 1)) s') E ⟨(h.push (tupO rest)).push (excAt C h.objs.size), g, d, t, os⟩)
    (hrest : rest.length ≤ sizeLine) : wpAny (model prog w) A (call (.ref C) rest) Q E ⟨h, g, d, t, os⟩ := by
  have f1 := tc_lookup
  have f2 := tc_bind (.ref C)
  have hT : Shared.TypeIs ⟨h, g, d, t, os⟩ (.ref C) "type" := ⟨_, hC, rfl⟩
  refine wpAny_call (codeAny_of_tree ?_)
  show wpAny _ _ (callAny (.ref C) _) _ _ _
  repeat (any_goals (first
    | assumption
    | with_reducible refine wpAny_loadPart_at hC ?_
    | wp_step))
  refine ⟨rfl, ?_⟩
  refine codeAny_call_builtin_at (Code.quiet_builtin _ (by decide +kernel)) entry_typeCall (wpAny_check_type_call_sub hC ?_)
  exact tcallK X F T hC hi hfI hq hrest
end
section
variable {prog : Program} {w : World} {A : Around} {E : Value → Shared → Prop} {s : Shared} {K : Frag} {x C : Addr} {ox : Obj} {od : Option Obj}
theorem findData {a g : Value} {name : Str} (hc : (clsIn K C).isSome = true) (ha : findIn K (.ref C) name = some (some a)) (hg : specialIn K a "__get__" = some (some g)) (ht : takesIn K a = some true) : findObj K C od name = some (.bind g a) := by
  obtain ⟨cd, hc⟩ := Option.isSome_iff_exists.mp hc
  unfold findObj
  rw [hc, Option.bind_some, ha, Option.bind_some]
  simp [hg, ht]
theorem bgaBind {R : Result → Shared → Prop} {name : Str} {tk : Tok} {a g : Value} (X : K.In s.heap) (I : InstAt s.heap x ox C od)
    (hm0 : mroIn K C (.type "BaseException") = some true) (hf : findObj K C od name = some (.bind g a))
    (h : wpAny (model prog w) A.in1 (call g [a, .ref x, .ref C]) (fun v s' => R (.ok (.ret v)) s') (fun e s' => R (.error e) s') s) :
    codeAny (model prog w) A (.call (.builtin bga) ⟨[.ref x, .str name tk], []⟩) R s := by
  have sub : Looks (model prog w) s.heap (isInstance (.ref x) (.type "BaseException")) true := I.type.andThen (looks_mroIn X hm0)
  have L1 := looks_find (M := model prog w) X I hf
  refine codeAny_call_builtin PySem.F.excAttr_ValueError.ga.plain PySem.F.entry_bexc_ga (@check_slot (model prog w) _ _ s bga "BaseException" "__getattribute__" (.ref x) [.str name tk] [] _ (by decide +kernel) (by decide +kernel) sub (PySem.F.args_bexc_ga _ _) ?_)
  refine wpAny_bind (wpAny_pure (wpAny_bind (wpAny_pure (wpAny_bind (I.type.here (wpAny_bind (L1.here ?_)))))))
  show wpAny _ _ (holding [a] (call g [a, .ref x, .ref C]) >>= ret) _ _ _
  exact wpAny_bind (wpAny_holding (wpAny_mono h (fun v s' z => wpAny_pure z) fun _ _ z => z))
structure ErrI (K : Frag) (C : Addr) : Prop where
  cls : (clsIn K C).isSome = true
  ga : findIn K (.ref C) "__getattribute__" = some (some (.builtin bga))
  hk : findIn K (.ref C) "__getattr__" = some none
  mb : mroIn K C (.type "BaseException") = some true
  mo : mroIn K C (.type "object") = some true
  ca : findIn K (.ref C) "__class__" = some (some (.builtin "object.__class__"))
theorem errClass {Q : Option Value → Shared → Prop} (T : ErrI K C) (hn : specialIn K (.builtin "object.__class__") "__get__" = some (some (.builtin "getset_descriptor.__get__"))) (htk : takesIn K (.builtin "object.__class__") = some true)
    (X : K.In s.heap) (I : InstAt s.heap x ox C od) (h : Q (some (.ref C)) { s with toks := s.toks + 1 }) : wpAny (model prog w) A (getAttr? (.ref x) "__class__") Q E s := by
  have hf : findObj K C od "__class__" = some (.bind (.builtin "getset_descriptor.__get__") (.builtin "object.__class__")) := findData T.cls T.ca hn htk
  have L0 := I.type (M := model prog w)
  have L1 := looks_findIn (M := model prog w) X T.ga
  have L2 := looks_findIn (M := model prog w) X T.hk
  have f3 := PySem.F.excAttr_ValueError.ga.bind (.ref x)
  unfold getAttr? getAttrBy? getAttrBy
  refine wpAny_bind (wpAny_mkText (wpAny_bind (wpAny_attempt (wpAny_holding (wpAny_bind (Looks.here (s := { s with toks := s.toks + 1 }) L0 (wpAny_bind (Looks.here (s := { s with toks := s.toks + 1 }) L1 ?_))))))))
  have hx1 : (onTheHeap (Value.ref C) && Value.builtin bga == Value.builtin "object.__getattribute__") = false := by
    rw [show (Value.builtin bga == Value.builtin "object.__getattribute__") = false from by decide +kernel]
    rfl
  show wpAny _ _ (if (onTheHeap (Value.ref C) && Value.builtin bga == Value.builtin "object.__getattribute__") = true then _ else _) _ _ _
  rw [if_neg (by rw [hx1]; decide)]
  unfold getAttrByItsOwn
  refine wpAny_bind ?_
  show wpAny _ _ (typeLookup (.ref C) "__getattr__") _ _ _
  refine Looks.here (s := { s with toks := s.toks + 1 }) L2 ?_
  refine wpAny_bind (wpAny_attempt (wpAny_holding ?_))
  unfold callGetattribute
  rw [if_neg (by decide)]
  unfold boundAndCalled
  rw [f3]
  refine wpAny_bind (wpAny_pure ?_)
  refine wpAny_call (bgaBind (s := { s with toks := s.toks + 1 }) X I T.mb hf ?_)
  refine wpAny_call (class_get (s := { s with toks := s.toks + 1 }) (ox := ox) (od := od) X I T.mo ?_)
  show wpAny _ _ (handedOut (.ref C)) _ _ _
  rw [handedOut_of rfl]
  exact wpAny_pure (wpAny_pure h)
theorem kitErr (T : ErrI K C) (hn : specialIn K (.builtin "object.__class__") "__get__" = some (some (.builtin "getset_descriptor.__get__"))) (htk : takesIn K (.builtin "object.__class__") = some true) :
    KitX K (.ref x) (.ref C) (fun h => ∃ ox od, InstAt h x ox C od) where
  ty := fun _ _ _ ⟨_, _, I⟩ => I.type
  it := fun _ _ X _ => by
    obtain ⟨cdD, hcD⟩ := Option.isSome_iff_exists.mp T.cls
    unfold clsIn at hcD
    split at hcD
    · rename_i c' d' cd' sl' ho
      intro A' Q' E' s' k q
      unfold isType loadHead
      exact wpAny_bind (wpAny_loadPart (k _ _ (X _ _ ho)) (wpAny_pure q))
    · cases hcD
  ne := fun h tp dd its n sl X htp => by
    obtain ⟨cdD, hcD⟩ := Option.isSome_iff_exists.mp T.cls
    refine Bool.eq_false_iff.mpr fun q => ?_
    have e : C = tp := Value.ref.inj (beq_iff_eq.mp q)
    subst e
    unfold clsIn at hcD
    split at hcD
    · rename_i c' d' cd' sl' ho
      have z := (X _ _ ho).symm.trans htp
      cases z
    · cases hcD
  ca := fun X ⟨_, _, I⟩ k => errClass T hn htk X I k
end
end My
set_option Elab.async false
set_option linter.all false
set_option maxRecDepth 100000
set_option maxHeartbeats 4000000
namespace My
open PySem PySem.W L2
abbrev bmV : List Value := [.type "ValueError", .type "Exception", .type "BaseException", .type "object"]
abbrev errAt (C : Addr) (d : Option Addr) (t : Addr) : Obj := { cls := .ref C, dict := d, data := .fields #[.ref t, .none, .none, .none, .bool false, .none] }
def ErrO (x C : Addr) (d : Option Addr) : HO := .ext fun h => ∃ t, h.get? x = some (errAt C d t)
theorem errO_ok {P : Program} {w : World} {H : Hp} {h : Heap} {x C : Addr} {d : Option Addr} {t : Addr} (e : h.get? x = some (errAt C d t)) : ObjOk P w H h x (ErrO x C d) :=
  ⟨⟨t, e⟩, ⟨_, e⟩, fun _ _ ⟨t', e'⟩ k => ⟨t', k _ e'⟩⟩
theorem errO_at {P : Program} {w : World} {H : Hp} {h : Heap} {x C : Addr} {d : Option Addr} (ok : HOk P w H h) (e : H x = some (ErrO x C d)) : ∃ t, h.get? x = some (errAt C d t) := (ok x _ e).1
theorem upd_id {H : Hp} {a : Addr} {o : HO} (h : H a = some o) : upd H a o = H := by
  funext b
  unfold upd
  split
  · rename_i e; rw [e, h]
  · rfl
structure BaseC (K : Frag) (D : Addr) : Prop where
  cls : ∃ nm q N bs sn sub ab col dd k0 k1 k2 k3 k5, K.lookup D = some (excClassObj nm q D N bs bmV true sn sub ab col dd k0 k1 k2 k3 k5 "ValueError.__new__") ∧
     ∃ o es ep, K.lookup N = some o ∧ o.data = .dict es ep ∧ StrKeys es ∧ nsFind es "__init__" = none
  ga : specialIn K (.ref D) "__getattribute__" = some (some (.builtin "type.__getattribute__"))
  reads : readsIn K D (.type "type") = true
  ini : findCls K (.ref D) (.type "type") "__init__" = some (.val (.builtin "ValueError.__init__"))
  fi : findIn K (.ref D) "__init__" = some (some (.builtin "ValueError.__init__"))
  kp : keepIn K (.ref D) = true
  it : ErrI K D
theorem BaseC.tail {K : Frag} {D : Addr} (B : BaseC K D) {h : Heap} (X : K.In h) : OwnTail h bmV (.ref D :: bmV) := by
  obtain ⟨nm, q, N, bs, sn, sub, ab, col, dd, k0, k1, k2, k3, k5, l, o, es, ep, lN, hd, hs, hn⟩ := B.cls
  exact .own (X _ _ l) ⟨o, es, ep, X _ _ lN, hd, hs, fun _ => rfl⟩ hn .base
structure ErrC (K : Frag) (D : Addr) (nm : Str) (C f : Addr) : Prop where
  cls : ∃ q N bs sn sub ab col dd k0 k1 k2 k3 k5, K.lookup C = some (excClassObj nm q C N bs (.ref D :: bmV) true sn sub ab col dd k0 k1 k2 k3 k5 "ValueError.__new__")
  init : findIn K (.ref C) "__init__" = some (some (.ref f))
  fn : typeIn K (.ref f) = some (.type "function")
  kp : keepIn K (.ref C) = true
  sa : findIn K (.ref C) "__setattr__" = some (some (.builtin "object.__setattr__"))
  it : ErrI K C
theorem ErrC.clsIn {K : Frag} {D C f : Addr} {nm : Str} (T : ErrC K D nm C f) : ∃ cd, PySem.W.clsIn K C = some cd ∧ cd.hasDict = true ∧ cd.mro = .ref C :: .ref D :: bmV := by
  obtain ⟨q, N, bs, sn, sub, ab, col, dd, k0, k1, k2, k3, k5, l⟩ := T.cls
  unfold PySem.W.clsIn
  rw [l]
  exact ⟨_, rfl, rfl, rfl⟩
theorem ErrC.refuse {K : Frag} {D C f : Addr} {nm : Str} (T : ErrC K D nm C f) (x : Addr) : ∃ cd, PySem.W.clsIn K C = some cd ∧ cd.hasDict = true ∧ refuseLoop (.ref x) "__setattr__" cd.mro = pure () := by
  obtain ⟨cd, h1, h2, h3⟩ := T.clsIn
  refine ⟨cd, h1, h2, ?_⟩
  rw [h3, refuseLoop_ref, refuseLoop_ref]
  exact PySem.F.store_ValueError.passes _
section
variable {X : Cx} {pins : List (Addr × Obj)} {σ : St} {H : Hp} {s : Shared}
def spErr (C : Addr) (fld : Str) : Sp := fun vs H Q _ => ∃ x v, vs = [.ref x, v] ∧ H x = some (ErrO x C none) ∧ ∀ dx, H dx = none → dx ≠ x → Q .non (upd (upd H dx (.xd [(fld, v)])) x (ErrO x C (some dx)))
def tErr (C : Addr) (fld : Str) (te : TE) : TE := fun σ H Q => te σ H fun v H1 => ∀ x dx, H1 x = none → H1 dx = none → dx ≠ x → Q (.ref x) (upd (upd H1 dx (.xd [(fld, v)])) x (ErrO x C (some dx)))
theorem upd3 {H : Hp} {x dx : Addr} {a b c : HO} (n : dx ≠ x) : upd (upd (upd H x a) dx b) x c = upd (upd H dx b) x c := by
  funext z
  unfold upd
  by_cases h1 : z = x
  · rw [if_pos h1, if_pos h1]
  · rw [if_neg h1, if_neg h1]
    by_cases h2 : z = dx
    · rw [if_pos h2, if_neg h1]
    · rw [if_neg h2, if_neg h1]
theorem make_err {D C f : Addr} {nm fld : Str} {k : Nat} {fd : FuncData} {ps : List Str} {u : Value} {v : V} {Q : VK} (B : BaseC X.K D) (T : ErrC X.K D nm C f) (F : FnOk X.prog X.w X.K X.mg X.base CX0 k f fd ps (spErr C fld)) (hr : Room (k + 1) X.A) (hb : Binds X.K fd ps [])
    (I : Inv X pins σ H s) (r : RelV v u) (h : ∀ x dx, H x = none → H dx = none → dx ≠ x → Q (.ref x) (upd (upd H dx (.xd [(fld, v)])) x (ErrO x C (some dx)))) :
    wpAny (model X.prog X.w) X.A (call (.ref C) [u]) (EP X pins σ Q) X.xe s := by
  obtain ⟨hp, g, dr, tk, os⟩ := s
  obtain ⟨q, N, bs, sn, sub, ab, col, dd, k0, k1, k2, k3, k5, l⟩ := T.cls
  refine callK (C := C) I.kIn PySem.F.excBase_ValueError (B.tail I.kIn) (I.kIn _ _ l) T.init T.fn ?_ (by rw [List.length_cons, List.length_nil, sizeLine_eq]; omega)
  have f0 : H hp.objs.size = none := I.fresh
  have I1 : Inv X pins σ H ⟨hp.push (tupO [u]), g, dr, tk, os⟩ := I.kept (h' := hp.push (tupO [u])) (t' := tk) fun b o e => Heap.get?_push_of_some _ e
  have sz : (hp.push (tupO [u])).objs.size = hp.objs.size + 1 := Heap.size_push _ _
  have fx : H (hp.objs.size + 1) = none := by rw [← sz]; exact I1.fresh
  have I2 : Inv X pins σ (upd H (hp.objs.size + 1) (ErrO (hp.objs.size + 1) C none)) ⟨(hp.push (tupO [u])).push (excAt C hp.objs.size), g, dr, tk, os⟩ :=
    I1.laid (h' := (hp.push (tupO [u])).push (excAt C hp.objs.size)) (t' := tk) (a := hp.objs.size + 1) (fun b o e => Heap.get?_push_of_some _ e) (Nat.le_of_eq sz)
      (errO_ok (t := hp.objs.size) (Heap.get?_push_at sz.symm rfl))
  generalize (⟨(hp.push (tupO [u])).push (excAt C hp.objs.size), g, dr, tk, os⟩ : Shared) = s2 at I2 ⊢
  generalize hp.objs.size + 1 = x at fx I2 ⊢
  have r2 : Vals [V.ref x, v] [Value.ref x, u] := .cons rfl (.cons r .nil)
  have hsp : spErr C fld [V.ref x, v] (upd H x (ErrO x C none)) (fun y H2 => y = .non ∧ Q (.ref x) H2) E0 :=
    ⟨x, v, rfl, upd_same, fun dx hd nd => ⟨rfl, by
      rw [upd3 nd]
      rw [upd_ne nd] at hd
      exact h x dx fx hd nd⟩⟩
  have hl : ([Value.ref x, u] ++ [] : List Value).length = ps.length := by
    rw [List.append_nil, ← r2.length]
    exact F.len _ _ _ _ hsp
  have hbd := hb s2 [Value.ref x, u] I2.kIn hl
  rw [List.append_nil] at hbd
  refine wpAny_call (codeAny_mono (F.run _ X.stack s2 _ ⟨[Value.ref x, u], []⟩ [Value.ref x, u] _ _ E0 (hr.make C [u] []) (I2.env0.make C [u] []) hbd r2 hsp) fun r s' hq' => ?_)
  cases r with
  | error e => exact False.elim hq'
  | ok fl =>
    cases fl with
    | ret u' =>
      obtain ⟨y, H', I3, ry, ey, q3⟩ := I2.after hq'
      subst ey
      exact ⟨ry, V.ref x, H', I3, rfl, q3⟩
    | next => exact False.elim hq'
    | brk => exact False.elim hq'
    | cont => exact False.elim hq'
end
end My
set_option Elab.async false
set_option linter.all false
set_option maxRecDepth 100000
set_option maxHeartbeats 1000000
namespace My
open PySem PySem.W L2
def Head (h : Heap) (e : Addr) (vs : Array Value) : Prop := vs[1]? = some .none ∨ ∃ T oT ts, vs[1]? = some (.ref T) ∧ T ≠ e ∧ h.get? T = some oT ∧ oT.data = .fields ts ∧ ts[3]? = some .none
structure LeftX (fr : List Addr) (e T : Addr) (oe : Obj) (h h' : Heap) (r : Value) : Prop where
  keep : ∀ b o, b ≠ e → b ∉ fr → h.get? b = some o → h'.get? b = some o
  slot : ∀ b o, b ≠ e → h.get? b = some o → ∃ sl, h'.get? b = some { o with slots := sl }
  new : h.objs.size ≤ T
  exc : h'.get? e = some (oe.mapFields (fun x => x.setIfInBounds 1 (.ref T)))
  trc : ∃ oT ts, h'.get? T = some oT ∧ oT.data = .fields ts ∧ ts[3]? = some r ∧ T ≠ e
theorem set_same {vs : Array Value} {i : Nat} {v : Value} (h : vs[i]? = some v) : vs.setIfInBounds i v = vs := by
  obtain ⟨hi, e⟩ := Array.getElem?_eq_some_iff.mp h
  apply Array.ext
  · simp
  · intro j h1 h2
    simp only [Array.size_setIfInBounds] at h1
    rw [Array.getElem_setIfInBounds h1]
    split
    · rename_i z; subst z; exact e.symm
    · rfl
theorem mapF {o : Obj} {vs : Array Value} (hd : o.data = .fields vs) (f : Array Value → Array Value) : o.mapFields f = { o with data := .fields (f vs) } := by
  obtain ⟨c, d, dt, sl⟩ := o
  have e : dt = .fields vs := hd
  subst e
  rfl
theorem wp_newFields {M : Model} {A : Around} {E : Value → Shared → Prop} {s : Shared} {c : String} {vs : List Value} {Q : Value → Shared → Prop} (hl : vs.length ≤ sizeLine + 2)
    (q : Q (.ref s.heap.objs.size) { s with heap := s.heap.push { cls := .type c, data := .fields vs.toArray } }) : wpAny M A (newFields c vs) Q E s := by
  unfold newFields newObj
  refine wpAny_ite_false (decide_eq_false (by rw [List.size_toArray]; omega)) ?_
  unfold newObjAsIs
  exact wpAny_bind (wpAny_alloc (wpAny_pure q))
theorem place_len {pl : List Value} (h : IsPlace pl) : pl.length ≤ 6 := by
  rcases h with rfl | ⟨a, b, c, d, c9, b10, _, rfl⟩
  · decide
  · exact Nat.le_refl _
section
variable {M : Model} {A : Around} {E : Value → Shared → Prop} {s : Shared} {base : Heap} {env : Env} {outer : List Env} {L e : Addr} {oe : Obj} {vs : Array Value} {Q : Unit → Shared → Prop}
theorem note_jp {head : Value} {hn : Bool} (hA : A.frames = some (env :: outer)) (hF : s.heap.FunFrames base (env :: outer)) (hL : env.frame = some L) (he : s.heap.get? e = some oe) (hd : oe.data = .fields vs) (h1 : 1 < vs.size)
    (q : ∀ h' T, LeftX (frs (env :: outer)) e T oe s.heap h' (rawInt ↑L) → Q () { s with heap := h' }) :
    wpAny M A (do
      let a ← frameOf env
      let pl ← entryPlaceOf L hn
      let b ← EntryCells.newEntry head a .none (rawInt ↑L) .none pl
      setField (.ref e) 1 b) Q E s := by
  have nfr : e ∉ frs (env :: outer) := fun z => by
    obtain ⟨_, o, ho, hn⟩ := hF.mem z
    rw [he] at ho; cases ho
    exact hn vs hd
  refine wpAny_bind (wpAny_frameOf_fun hA hF hL fun h1' so => ?_)
  refine wpAny_bind (wpAny_entryPlaceOf fun pl hpl => ?_)
  refine wpAny_bind ?_
  unfold EntryCells.newEntry
  refine wp_newFields ?_ ?_
  · have := place_len hpl
    have b : 100 ≤ sizeLine := by decide
    rw [List.length_append]
    split
    · rw [List.length_replicate]; show 5 + 6 ≤ _; omega
    · show 5 + pl.length ≤ _; omega
  have e1 : h1'.get? e = some oe := by rw [so.2.1 e nfr]; exact he
  have lt := Heap.lt_size e1
  generalize hob : ({ cls := .type "traceback", data := .fields ([head, Value.ref L, .none, rawInt ↑L, .none] ++ if pl.isEmpty = true then List.replicate 6 Value.none else pl).toArray } : Obj) = ob
  have e2 : (h1'.push ob).get? e = some oe := Heap.get?_push_of_some _ e1
  refine wpAny_setField e2 hd h1 ?_
  refine q _ h1'.objs.size ⟨fun b o nb nf hb => ?_, fun b o nb hb => ?_, Nat.le_of_eq so.1.symm, ?_, ?_⟩
  · rw [Heap.get?_update_ne _ _ _ _ nb]
    exact Heap.get?_push_of_some _ (by rw [so.2.1 b nf]; exact hb)
  · obtain ⟨sl, z⟩ := so.2.2 b o hb
    exact ⟨sl, by rw [Heap.get?_update_ne _ _ _ _ nb]; exact Heap.get?_push_of_some _ z⟩
  · exact Heap.get?_update_self _ e2 (by rw [mapF hd]; rfl)
  · have nT : h1'.objs.size ≠ e := Ne.symm (Nat.ne_of_lt lt)
    refine ⟨ob, _, ?_, by rw [← hob], ?_, nT⟩
    · rw [Heap.get?_update_ne _ _ _ _ nT]
      exact Heap.get?_push_at rfl (by rw [← hob]; rfl)
    · rfl
theorem note_exact (hA : A.frames = some (env :: outer)) (hF : s.heap.FunFrames base (env :: outer)) (hL : env.frame = some L) (he : s.heap.get? e = some oe) (hd : oe.data = .fields vs) (hv : Head s.heap e vs)
    (q : ∀ h' T, LeftX (frs (env :: outer)) e T oe s.heap h' (rawInt ↑L) → Q () { s with heap := h' }) : wpAny M A (noteFrame (.ref e) env) Q E s := by
  unfold noteFrame
  rw [hL]
  rcases hv with hv | ⟨T, oT, ts, hv, nT, hT, hTd, h3⟩
  · have h1 : 1 < vs.size := (Array.getElem?_eq_some_iff.mp hv).1
    refine wpAny_bind (wpAny_field he hd hv ?_)
    refine wpAny_ite_false rfl ?_
    exact note_jp hA hF hL he hd h1 q
  · have h1 : 1 < vs.size := (Array.getElem?_eq_some_iff.mp hv).1
    have h3' : 3 < ts.size := (Array.getElem?_eq_some_iff.mp h3).1
    refine wpAny_bind (wpAny_field he hd hv ?_)
    refine wpAny_ite_true rfl ?_
    refine wpAny_bind (wpAny_field hT hTd h3 ?_)
    refine wpAny_ite_false rfl ?_
    refine wpAny_bind (wpAny_setField hT hTd h3' ?_)
    have g : ∀ b, (s.heap.update T (Obj.mapFields fun x => x.setIfInBounds 3 Value.none)).get? b = s.heap.get? b := fun b => by
      by_cases z : b = T
      · subst z
        rw [Heap.get?_update_self _ hT (by rw [mapF hTd]; rfl), hT, mapF hTd, set_same h3, ← hTd]
      · exact Heap.get?_update_ne _ _ _ _ z
    have sz : (s.heap.update T (Obj.mapFields fun x => x.setIfInBounds 3 Value.none)).objs.size = s.heap.objs.size := Heap.size_update _ _ _
    generalize s.heap.update T (Obj.mapFields fun x => x.setIfInBounds 3 Value.none) = h0 at g sz
    have hF0 : h0.FunFrames base (env :: outer) := Heap.FunFrames.of_keeps (fun b o hb _ => ⟨o, by rw [g]; exact hb, rfl⟩) hF
    refine note_jp (s := { s with heap := h0 }) hA hF0 hL (by show h0.get? e = _; rw [g]; exact he) hd h1 fun h' T' x => ?_
    exact q h' T' ⟨fun b o nb nf hb => x.keep b o nb nf (by show h0.get? b = _; rw [g]; exact hb), fun b o nb hb => x.slot b o nb (by show h0.get? b = _; rw [g]; exact hb), by rw [← sz]; exact x.new, x.exc, x.trc⟩
theorem LeftX.flight {fr : List Addr} {T : Addr} {h h' : Heap} {r : Value} (x : LeftX fr e T oe h h' r) (hd : oe.data = .fields vs) (h1 : 1 < vs.size) (s' : Shared) (es : s'.heap = h')
    (q : ∀ h2, LeftX fr e T oe h h2 .none → Q () { s' with heap := h2 }) : wpAny M A (setFlight (.ref e) none) Q E s' := by
  subst es
  obtain ⟨oT, ts, hT, hTd, h3, nT⟩ := x.trc
  have h3' : 3 < ts.size := (Array.getElem?_eq_some_iff.mp h3).1
  have e1 : (oe.mapFields (fun x => x.setIfInBounds 1 (.ref T))).data = .fields (vs.setIfInBounds 1 (.ref T)) := Obj.data_mapFields hd _
  have e2 : (vs.setIfInBounds 1 (Value.ref T))[1]? = some (.ref T) := by simp [h1]
  refine wpAny_setFlight_none x.exc e1 e2 hT hTd h3' (q _ ⟨fun b o nb nf hb => ?_, fun b o nb hb => ?_, x.new, ?_, ?_⟩)
  · have z := x.keep b o nb nf hb
    rw [Heap.get?_update_ne _ _ _ _ (fun w => ?_)]
    · exact z
    · rw [w] at hb
      exact absurd (Nat.lt_of_lt_of_le (Heap.lt_size hb) x.new) (Nat.lt_irrefl _)
  · obtain ⟨sl, z⟩ := x.slot b o nb hb
    refine ⟨sl, ?_⟩
    rw [Heap.get?_update_ne _ _ _ _ (fun w => ?_)]
    · exact z
    · rw [w] at hb
      exact absurd (Nat.lt_of_lt_of_le (Heap.lt_size hb) x.new) (Nat.lt_irrefl _)
  · rw [Heap.get?_update_ne _ _ _ _ nT.symm]
    exact x.exc
  · refine ⟨_, _, Heap.get?_update_self _ hT (by rw [mapF hTd]; rfl), Obj.data_mapFields hTd _, ?_, nT⟩
    simp [h3']
theorem leave_exact (hA : A.frames = some (env :: outer)) (hF : s.heap.FunFrames base (env :: outer)) (hL : env.frame = some L) (he : s.heap.get? e = some oe) (hd : oe.data = .fields vs) (hv : Head s.heap e vs)
    (q : ∀ h' T, LeftX (frs (env :: outer)) e T oe s.heap h' .none → Q () { s with heap := h' }) : wpAny M A (leaving env (.ref e)) Q E s := by
  have h1 : 1 < vs.size := by
    rcases hv with hv | ⟨T, oT, ts, hv, _⟩
    · exact (Array.getElem?_eq_some_iff.mp hv).1
    · exact (Array.getElem?_eq_some_iff.mp hv).1
  unfold leaving
  exact wpAny_bind (note_exact hA hF hL he hd hv fun h' T x => x.flight hd h1 _ rfl fun h2 x2 => q h2 T x2)
end
end My
set_option Elab.async false
set_option linter.all false
set_option maxRecDepth 100000
set_option maxHeartbeats 4000000
namespace My
open PySem PySem.W L2
def one (P : V → Hp → Prop) (vs : List V) (H : Hp) : Prop := match vs with
  | [v] => P v H
  | _ => False
theorem one_of {P : V → Hp → Prop} {vs : List V} {H : Hp} (h : one P vs H) : ∃ v, vs = [v] ∧ P v H := by
  cases vs with
  | nil => exact h.elim
  | cons v r =>
    cases r with
    | nil => exact ⟨v, rfl, h⟩
    | cons _ _ => exact h.elim
def two (P : V → V → Hp → Prop) (vs : List V) (H : Hp) : Prop := match vs with
  | [v, u] => P v u H
  | _ => False
theorem two_of {P : V → V → Hp → Prop} {vs : List V} {H : Hp} (h : two P vs H) : ∃ v u, vs = [v, u] ∧ P v u H := by
  match vs, h with
  | [v, u], h => exact ⟨v, u, rfl, h⟩
section
variable {X : Cx} {pins : List (Addr × Obj)} {σ : St} {H : Hp} {s : Shared}
theorem pe_err {D C f : Addr} {nm fld x : Str} {k : Nat} {fd : FuncData} {ps : List Str} {e : Expr} {te : TE} {p pos : Pos} (B : BaseC X.K D) (T : ErrC X.K D nm C f) (F : FnOk X.prog X.w X.K X.mg X.base CX0 k f fd ps (spErr C fld)) (hr : Room (k + 1) X.A) (hb : Binds X.K fd ps [])
    (hg : Gl X x) (hm : X.mg x = some (.ref C)) (ha : PE X e te) (hdb : (x == ("__debug__" : Str)) = false := by decide) (he : starEach [e] X.env = (false, eval e X.env) :: starEach [] X.env := by rfl) (hpl : (backTo pos (starEach [] X.env)).any (·.1) = false := by rfl) :
    PE X (.Call (.Name x p) [e] [] pos) (tErr C fld te) := by
  intro pins s σ H Q I h
  refine wpAny_Call_Name_kw (ld_glob I hg hm ?_ hdb)
  have pa : PA X [e] (tCons te tNil) := pa_cons ha pa_nil he
  have h' : tCons te tNil σ H (one fun v H1 => ∀ x dx, H1 x = none → H1 dx = none → dx ≠ x → Q (.ref x) (upd (upd H1 dx (.xd [(fld, v)])) x (ErrO x C (some dx)))) := h
  refine PySem.W.callWith_K (h₀ := X.base) I.ok.mod.kin T.kp (thn (pa pos pins s σ H _ I h') fun us s1 ⟨vs, H1, I1, r, q⟩ => ⟨I1.kIn, ?_⟩) he hpl
  obtain ⟨v, rfl, q⟩ := one_of q
  obtain ⟨u, rfl, ru⟩ := vals1 r
  exact make_err B T F hr hb I1 ru q
def tBI (ts tt : TE) (C : Addr) : TE := fun σ H Q => ts σ H fun x H1 => tt σ H1 fun v H2 => ∃ a, x = .ref a ∧ H2 a = some (ErrO a C none) ∧ Q .non H2
theorem pe_baseInit {D C f : Addr} {nm x : Str} {o e : Expr} {ts tt : TE} {p apos pos : Pos} {pl : Sem Bool} (B : BaseC X.K D) (T : ErrC X.K D nm C f) (hg : Gl X x) (hm : X.mg x = some (.ref D)) (hs : PE X o ts) (ht : PE X e tt) (hdb : (x == ("__debug__" : Str)) = false := by decide)
    (hst : starEach [o, e] X.env = (false, eval o X.env) :: starEach [e] X.env := by rfl) (hst2 : starEach [e] X.env = (false, eval e X.env) :: starEach [] X.env := by rfl) (hpl : (backTo pos (starEach [e] X.env)).any (·.1) = false := by rfl)
    (htr : eval (.Call (.Attribute (.Name x p) "__init__" apos) [o, e] [] pos) X.env = (do
      let ov ← eval (.Name x p) X.env
      standAt apos.atName
      let (f, first) ← holding [ov] (getMethod ov "__init__" pl)
      callWith pos f first (backTo pos (starEach [o, e] X.env)) (backToKw pos (keywordEach [] X.env))) := by rfl) :
    PE X (.Call (.Attribute (.Name x p) "__init__" apos) [o, e] [] pos) (tBI ts tt C) := by
  intro pins s σ H Q I h
  refine PySem.W.methodCall_KW (pl := pl) (ld_glob I hg hm ?_ hdb) htr
  refine method_cls I.kIn B.ga (cls_value I.kIn B.reads B.ini rfl ?_)
  have I0 : Inv X pins σ H { s with toks := s.toks + 1 } := I.tok _
  have pa : PA X [o, e] (tCons ts (tCons tt tNil)) := pa_cons hs (pa_cons ht pa_nil hst2) hst
  have h' : tCons ts (tCons tt tNil) σ H (two fun x v H2 => ∃ a, x = .ref a ∧ H2 a = some (ErrO a C none) ∧ Q .non H2) := h
  refine PyProof.Rows.callWith_builtin1 (thn (pa pos pins _ σ H _ I0 h') fun us s1 ⟨vs, H1, I1, r, q⟩ => ?_) hst hpl
  obtain ⟨_, v, rfl, a, rfl, ha, q⟩ := two_of q
  obtain ⟨u, u', rfl, ru, ru'⟩ := vals2 r
  cases (show u = Value.ref a from ru)
  obtain ⟨t0, hx⟩ := errO_at I1.hok ha
  obtain ⟨q', N, bs, sn, sub, ab, col, dd, k0, k1, k2, k3, k5, l⟩ := T.cls
  obtain ⟨hp, g, dr, tk, os⟩ := s1
  refine wpAny_call (viCall (C := C) PySem.F.excBase_ValueError (B.tail I1.kIn) (I1.kIn _ _ l) hx fun h' hx' hk => ?_)
  have I2 : Inv X pins σ (upd H1 a (ErrO a C none)) ⟨h', g, dr, tk, os⟩ := I1.write (h' := h') (t' := tk) (x := a) (e := a) (by rw [ha]; exact True.intro) (.inl rfl) (fun b o hb e => hk b o hb e) ⟨_, hx'⟩ (errO_ok hx')
  rw [upd_id ha] at I2
  exact ⟨.non, H1, I2, rfl, q⟩
def sErr (K : Frag) (C : Addr) (ta tv : TE) (f : Str) : TS := fun D σ H => tv σ H fun y H1 => ta σ H1 fun x H2 => ∃ a, x = .ref a ∧ H2 a = some (ErrO a C none) ∧ takerIn K C f = some none ∧ ∀ dx, H2 dx = none → dx ≠ a → D.nx σ (upd (upd H2 dx (.xd [(f, y)])) a (ErrO a C (some dx)))
theorem ps_err {D C fI : Addr} {nm f : Str} {o value : Expr} {ta tv : TE} {pos pos' : Pos} (T : ErrC X.K D nm C fI) (ha : PE X o ta) (hv : PE X value tv) (hs : swapsWith value (some (.Attribute o f pos')) pos.line X.env = pure false) :
    PS X (.Assign [.Attribute o f pos'] value pos) (sErr X.K C ta tv f) := by
  intro pins s σ H D' I h
  refine plainObj_wpAny_Assign_Attribute (thn (hv pins s σ H _ I h) fun u s1 ⟨y, H1, I1, ry, q⟩ => thn (ha pins s1 σ H1 _ I1 q) fun ov s2 ⟨x, H2, I2, rx, a, ex, ea, tk, q2⟩ => ?_) hs
  subst ex
  obtain rfl : ov = Value.ref a := rx
  obtain ⟨t0, hx⟩ := errO_at I2.hok ea
  obtain ⟨cd, hc, hd, hp⟩ := T.refuse a
  refine setExc I2.kIn hx T.sa hc hd hp T.it.mo tk fun h' tk' hx' hn' hk => ?_
  have fr : H2 s2.heap.objs.size = none := I2.fresh
  have nz : s2.heap.objs.size ≠ a := fun z => by rw [← z, fr] at ea; cases ea
  obtain ⟨oD, es, ep, hoD, rD⟩ := id hn'
  have nf : oD.isFreed = false := Obj.isFreed_of_dict rD.1
  have I3 : Inv X pins σ (upd H2 s2.heap.objs.size (.xd [(f, y)])) { s2 with heap := s2.heap.push oD, toks := s2.toks } := by
    refine I2.laid (h' := s2.heap.push oD) (t' := s2.toks) (a := s2.heap.objs.size) (fun b o e => Heap.get?_push_of_some _ e) (Nat.le_refl _) ⟨_, ⟨oD, es, ep, Heap.get?_push_at rfl nf, rD⟩, fun g => ?_⟩
    by_cases e : g = f
    · subst e
      rw [if_pos rfl, List.lookup_cons_self]
      exact ry
    · rw [if_neg e, List.lookup_cons, beq_eq_false_iff_ne.mpr e]
      exact True.intro
  have ea3 : upd H2 s2.heap.objs.size (.xd [(f, y)]) a = some (ErrO a C none) := by rw [upd_ne nz.symm]; exact ea
  have I4 : Inv X pins σ (upd (upd H2 s2.heap.objs.size (.xd [(f, y)])) a (ErrO a C (some s2.heap.objs.size))) { s2 with heap := h', toks := tk' } := by
    refine I3.write (h' := h') (t' := tk') (x := a) (e := a) (by rw [ea3]; exact True.intro) (.inl rfl) (fun b o hb e => ?_) ⟨_, hx'⟩ (errO_ok (t := t0) hx')
    by_cases z : b = s2.heap.objs.size
    · subst z
      have e' : (s2.heap.push oD).get? s2.heap.objs.size = some o := e
      rw [Heap.get?_push_at rfl nf] at e'
      cases e'
      exact hoD
    · have e' : (s2.heap.push oD).get? b = some o := e
      exact hk b o hb (by rw [← Heap.get?_push_ne _ _ oD z]; exact e')
  exact ⟨σ, _, I4, q2 _ fr nz⟩
end
end My
set_option Elab.async false
set_option linter.all false
set_option maxRecDepth 100000
set_option maxHeartbeats 4000000
namespace My
open PySem PySem.W L2
theorem ErrC.hasDict {K : Frag} {D C f : Addr} {nm : Str} (T : ErrC K D nm C f) : hasDictIn K C = true := by
  obtain ⟨cd, h1, h2, _⟩ := T.clsIn
  unfold hasDictIn
  rw [h1]
  exact h2
section
variable {prog : Program} {w : World} {A : Around} {E : Value → Shared → Prop} {h : Heap} {g : Array GenState}
variable {d : Drawn} {t : Nat} {os : OsState} {nm q : Str} {C N : Addr} {bs bm bmB : List Value} {hdct ab : Bool}
variable {sn : List Str} {sub : List Value} {col : Option Bool} {dd : Option Addr}
variable {k0 k1 k2 k3 k5 : Option Value} {B newId initId : String} {K : Frag}
end
section
variable {X : Cx} {pins : List (Addr × Obj)} {σ : St} {H : Hp} {s : Shared}
theorem err_inst {P : Program} {w : World} {H : Hp} {h : Heap} {a C dx : Addr} {fs : List (Str × V)} (ok : HOk P w H h) (ea : H a = some (ErrO a C (some dx))) (ed : H dx = some (.xd fs)) :
    ∃ (ox od : Obj), InstAt h a ox C (some od) ∧ ∃ mA : Str → Option Value, (∀ f, RelO (fs.lookup f) (mA f)) ∧ ∀ name, lookIn name od = some (mA name) := by
  obtain ⟨t, hx⟩ := errO_at ok ea
  obtain ⟨mA, hn, hr⟩ := (show ObjOk P w H h dx (.xd fs) from ok dx _ ed)
  obtain ⟨od, hod, hl⟩ := lookIn_ns hn
  exact ⟨_, od, ⟨hx, rfl, rfl, hod⟩, mA, hr, hl⟩
def tErrF (K : Frag) (ta : TE) (f : Str) : TE := fun σ H Q => ta σ H fun x H1 => ∃ a C dx fs v, x = .ref a ∧ H1 a = some (ErrO a C (some dx)) ∧ H1 dx = some (.xd fs) ∧ fs.lookup f = some v ∧ ErrI K C ∧ hasDictIn K C = true ∧ findIn K (.ref C) f = some none ∧ Q v H1
structure IsT (K : Frag) : Prop where
  gt : specialIn K (.builtin "object.__class__") "__get__" = some (some (.builtin "getset_descriptor.__get__"))
  tk : takesIn K (.builtin "object.__class__") = some true
def ErrAt (H : Hp) (a C : Addr) : Prop := H a = some (ErrO a C none) ∨ ∃ dx fs, H a = some (ErrO a C (some dx)) ∧ H dx = some (.xd fs)
theorem ErrAt.inst {P : Program} {w : World} {H : Hp} {h : Heap} {a C : Addr} (E : ErrAt H a C) (ok : HOk P w H h) : ∃ ox od, InstAt h a ox C od := by
  rcases E with e | ⟨dx, fs, ea, ed⟩
  · obtain ⟨t, hx⟩ := errO_at ok e
    exact ⟨_, none, ⟨hx, rfl, rfl, True.intro⟩⟩
  · obtain ⟨ox, od, J, _⟩ := err_inst ok ea ed
    exact ⟨ox, some od, J⟩
def isV : V → Value
  | .ref a => .ref a
  | .ty n => .type n
  | _ => .none
def rIsi (K : Frag) : List V → Hp → VK → Prop := fun vs H Q => ∃ a C c b, vs = [.ref a, c] ∧ ErrAt H a C ∧ ErrI K C ∧ ((∃ z, c = .ref z) ∨ ∃ n, c = .ty n) ∧ kitOne K (.ref C) (isV c) = some b ∧ Q (.bl b) H
def tBase (D : Addr) (te : TE) : TE := fun σ H Q => te σ H fun v H1 => ∀ x, H1 x = none → Q (.ref x) (upd H1 x (ErrO x D none))
end
end My
set_option Elab.async false
set_option linter.all false
set_option maxRecDepth 100000
set_option maxHeartbeats 1000000
namespace My
open PySem PySem.W L2
open PyProof.Rows (AllBare)
abbrev errW (C : Addr) (d : Option Addr) (t : Addr) (v : Value) : Obj := { cls := .ref C, dict := d, data := .fields #[.ref t, v, .none, .none, .bool false, .none] }
def ErrT (x C : Addr) (d : Option Addr) : HO := .ext fun h => ∃ t v, h.get? x = some (errW C d t v)
theorem errT_ok {P : Program} {w : World} {H : Hp} {h : Heap} {x C : Addr} {d : Option Addr} {t : Addr} {v : Value} (e : h.get? x = some (errW C d t v)) : ObjOk P w H h x (ErrT x C d) :=
  ⟨⟨t, v, e⟩, ⟨_, e⟩, fun _ _ ⟨t', v', e'⟩ k => ⟨t', v', k _ e'⟩⟩
theorem errT_at {P : Program} {w : World} {H : Hp} {h : Heap} {x C : Addr} {d : Option Addr} (ok : HOk P w H h) (e : H x = some (ErrT x C d)) : ∃ t v, h.get? x = some (errW C d t v) := (ok x _ e).1
def Fly (n : Nat) (H : Hp) (h : Heap) (x C : Addr) (d : Option Addr) : Prop := ∃ t T oT ts, h.get? x = some (errW C d t (.ref T)) ∧ T ≠ x ∧ n ≤ T ∧ H T = none ∧ h.get? T = some oT ∧ oT.data = .fields ts ∧ ts[3]? = some Value.none
def CXE (P : Program) (w : World) : CXT := fun outer H s E e s' => ∃ x C dx fs H', e = .ref x ∧ s'.os = s.os ∧ AllBare s'.gens ∧ Un (frs outer) [] H H' s.heap s'.heap ∧ HOk P w H' s'.heap ∧ H' x = some (ErrT x C (some dx)) ∧ H' dx = some (.xd fs) ∧ Fly s.heap.objs.size H' s'.heap x C (some dx) ∧ E (.ref C) (some x) H'
section
variable {X : Cx} {pins : List (Addr × Obj)} {σ : St} {H : Hp} {s : Shared}
theorem Inv.left {x C : Addr} {d : Option Addr} {t T : Addr} {v r : Value} {h' : Heap} {o : HO} (I : Inv X pins σ H s) (hS : X.stack = X.env :: X.outer) (hx : H x = some o) (ho : (∃ φ, o = .ext φ)) (he : s.heap.get? x = some (errW C d t v))
    (l : LeftX (frs (X.env :: X.outer)) x T (errW C d t v) s.heap h' r) : Inv X pins σ (upd H x (ErrT x C d)) { s with heap := h' } := by
  obtain ⟨φ, rfl⟩ := ho
  have nx : ∀ b u, H b = some u → (∀ φ, u ≠ .ext φ) → b ≠ x := fun b u e n z => by
    subst z
    rw [hx] at e
    exact n φ (Option.some.inj e).symm
  have fr0 : ∀ b ∈ frs (X.env :: X.outer), H b = none := fun b hb => I.stkFree b (by rw [hS]; exact hb)
  have nfr : ∀ b u, H b = some u → b ∉ frs (X.env :: X.outer) := fun b u e z => by rw [fr0 b z] at e; cases e
  have exc : h'.get? x = some (errW C d t (.ref T)) := l.exc
  have sub : ∀ b, b ∈ frs (X.env :: X.outer) → b = X.env.locals ∨ b ∈ X.fs := fun b hb => List.mem_cons.mp (I.stkSub b (by rw [hS]; exact hb))
  refine I.step (g' := s.gens) (d' := s.drawn) (t' := s.toks) (ch := []) (fun _ z => nomatch z) (fun b o hL hf _ e n => ?_) (fun b o hL hf _ e n => ?_) (fun b o _ e n => ?_) (fun b o _ e => ?_) (fun b xs e => ?_) (fun b o u e => ?_) (fun b ps e => ⟨#[], ?_⟩) (fun e => ?_) (fun m hm => ?_) (fun b u e => ?_) I.bare
  · refine l.keep b o (fun z => by rw [z, hx] at n; cases n) (fun z => ?_) e
    rcases sub b z with q | q
    · exact hL q
    · exact hf q
  · exact l.slot b o (fun z => by rw [z, hx] at n; cases n) e
  · rw [upd_ne (fun z => by rw [z, hx] at n; cases n)]; exact n
  · by_cases z : b = x
    · subst z; exact ⟨_, exc⟩
    · obtain ⟨sl, q⟩ := l.slot b o z e
      exact ⟨_, q⟩
  · rw [upd_ne (nx b _ e fun _ => by intro z; cases z)]; exact e
  · rw [upd_ne (nx b _ e fun _ => by intro z; cases z)]; exact e
  · rw [upd_ne (nx b _ e fun _ => by intro z; cases z), e]; simp
  · rw [upd_ne (fun z => by rw [z, hx] at e; cases e)]; exact e
  · obtain ⟨o, es, ep, ho, r⟩ := hm
    obtain ⟨sl, q⟩ := l.slot _ o (fun z => by have := I.free; rw [z, hx] at this; cases this) ho
    exact ⟨_, es, ep, q, r⟩
  · by_cases z : b = x
    · subst z
      rw [upd_same] at e
      cases e
      exact errT_ok exc
    · rw [upd_ne z] at e
      refine (I.hok b u e).stay (fun c o' hc q => ?_) (fun c q => ?_) fun c xs q => ?_
      · rcases hc with rfl | hc
        · exact l.keep c o' z (nfr c u e) q
        · exact l.keep c o' (nx c _ hc fun _ => by intro w; cases w) (nfr c _ hc) q
      · rw [upd_ne (nx c _ q fun _ => by intro w; cases w)]; exact q
      · rw [upd_ne (nx c _ q fun _ => by intro w; cases w)]; exact q
end
section
variable {P : Program} {w : World} {K : Frag} {mg : Str → Option Value} {base : Heap} {N : List Str} {qual : Str} {scope : Scope} {f : Addr} {cd : Value} {A : Around} {outer : List Env} {s0 : Shared} {H0 : Hp} {E : XK} {pins : List (Addr × Obj)} {σ : St} {H : Hp} {s : Shared}
theorem xe_of {x C dx : Addr} {t : Addr} {v : Value} {o : HO} {fs : List (Str × V)} (I : Inv (cxOf (CXE P w) P w K mg base N qual scope f cd A outer s0 H0 E) pins σ H s) (hx : H x = some o) (ho : (∃ φ, o = .ext φ)) (hdx : H dx = some (.xd fs)) (he : s.heap.get? x = some (errW C (some dx) t v))
    (hv : Head s.heap x #[.ref t, v, .none, .none, .bool false, .none]) (q : E (.ref C) (some x) (upd H x (ErrT x C (some dx)))) : (cxOf (CXE P w) P w K mg base N qual scope f cd A outer s0 H0 E).xe (.ref x) s := by
  have hA := I.ok.frames
  refine leave_exact hA I.stack rfl he rfl hv fun h' T l => ?_
  have J := Inv.left I rfl hx ho he l
  have nT : H T = none := I.hok.fresh l.new
  obtain ⟨oT, ts, h1, h2, h3, h4⟩ := l.trc
  have nd : dx ≠ x := fun z => by
    obtain ⟨φ, rfl⟩ := ho
    rw [z, hx] at hdx; cases hdx
  refine ⟨x, C, dx, fs, _, rfl, J.os, J.bare, J.base, J.hok, upd_same, by rw [upd_ne nd]; exact hdx, ⟨t, T, oT, ts, l.exc, h4, Nat.le_trans I.sz l.new, ?_, h1, h2, h3⟩, q⟩
  rw [upd_ne h4]; exact nT
theorem passE : Passes (CXE P w) (cxOf (CXE P w) P w K mg base N qual scope f cd A outer s0 H0 E) E := by
  intro pins σ H s e s' I h
  obtain ⟨x, C, dx, fs, H', rfl, os, bare, un, hok, hx, hdx, ⟨t, T, oT, ts, h1, h2, _, h4, h5, h6, h7⟩, q⟩ := h
  have J := I.call' os un hok bare (fun b z => absurd z (by simp))
  refine xe_of J hx ⟨_, rfl⟩ hdx h1 (.inr ⟨T, oT, ts, rfl, h2, h5, h6, h7⟩) ?_
  rw [upd_id hx]
  exact q
end
end My
set_option Elab.async false
set_option linter.all false
set_option maxRecDepth 100000
set_option maxHeartbeats 1000000
namespace My
open PySem PySem.W L2
open PyProof.Rows (AllBare)
section
variable {prog : Program} {w : World} {A : Around} {E : Value → Shared → Prop} {s : Shared} {env : Env} {x : Sem Value} {Q : Flow → Shared → Prop} {K : Frag} {C : Addr}
theorem wp_raise (T : ErrI K C) (ht : typeIn K (.ref C) = some (.type "type")) (hA : A.handled = none)
    (hx : wpAny (model prog w) A x (fun v s1 => ∃ e t d od, v = .ref e ∧ InstAt s1.heap e (errAt C d t) C od ∧ K.In s1.heap ∧ E (.ref e) s1) E s) : wpAny (model prog w) A (raiseStmt env (some x) none) Q E s := by
  unfold raiseStmt
  refine wpAny_bind (wpAny_mono hx (fun v s1 h => ?_) (fun _ _ z => z))
  obtain ⟨e, t, d, od, rfl, I, KX, q⟩ := h
  obtain ⟨hp, g, dr, tk, os⟩ := s1
  have noC : ∀ c : ClassData, (errAt C d t).data ≠ Data.cls c := fun c z => by cases z
  refine wpAny_bind (wpAny_pure ?_)
  refine wpAny_bind ?_
  show wpAny _ _ (excFromValue (.ref e) _) _ _ _
  unfold excFromValue
  refine wpAny_bind ?_
  unfold isExcClass
  refine wpAny_bind (ks_wpAny_isType_inst I.at_ noC ?_)
  refine wpAny_ite_false rfl (wpAny_pure ?_)
  refine wpAny_ite_false rfl ?_
  refine wpAny_bind ?_
  have sub : Looks (model prog w) hp (isInstance (.ref e) (.type "BaseException")) true := I.type.andThen (looks_mroIn KX T.mb)
  refine Looks.here (s := ⟨hp, g, dr, tk, os⟩) sub ?_
  refine wpAny_ite_true rfl (wpAny_pure ?_)
  refine wpAny_bind (ks_wpAny_isType_inst I.at_ noC ?_)
  refine wpAny_ite_false rfl ?_
  refine wpAny_bind ?_
  unfold raisedInstance
  refine wpAny_bind (Looks.here (s := ⟨hp, g, dr, tk, os⟩) I.type ?_)
  refine wpAny_bind (Looks.here (s := ⟨hp, g, dr, tk, os⟩) (looks_typeIn KX ht) ?_)
  refine wpAny_ite_true rfl (wpAny_pure ?_)
  refine wpAny_bind ?_
  unfold setFlight
  refine wpAny_bind (wpAny_field I.at_ rfl rfl ?_)
  refine wpAny_ite_false rfl (wpAny_pure ?_)
  exact wpAny_raiseNew_none hA q
end
theorem ErrC.type {K : Frag} {D : Addr} {nm : Str} {C f : Addr} (T : ErrC K D nm C f) : typeIn K (.ref C) = some (.type "type") := by
  obtain ⟨q, N, bs, sn, sub, ab, col, dd, k0, k1, k2, k3, k5, l⟩ := T.cls
  show (K.lookup C).map (fun o => o.cls) = _
  rw [l]
  rfl
def qR (E : XK) (C : Addr) : VK := fun y H' => ∃ x dx fs, y = .ref x ∧ H' x = some (ErrO x C (some dx)) ∧ H' dx = some (.xd fs) ∧ E (.ref C) (some x) (upd H' x (ErrT x C (some dx)))
def tRaise (E : XK) (C : Addr) (fld : Str) (te : TE) : TS := fun _ σ H => tErr C fld te σ H (qR E C)
theorem upd_upd {H : Hp} {x : Addr} {a b : HO} : upd (upd H x a) x b = upd H x b := by
  funext z
  unfold upd
  by_cases h : z = x
  · rw [if_pos h, if_pos h]
  · rw [if_neg h, if_neg h, if_neg h]
section
variable {P : Program} {w : World} {K : Frag} {mg : Str → Option Value} {base : Heap} {N : List Str} {qual : Str} {scope : Scope} {f : Addr} {cd : Value} {A : Around} {outer : List Env} {s0 : Shared} {H0 : Hp} {E : XK}
abbrev cxE (P : Program) (w : World) (K : Frag) (mg : Str → Option Value) (base : Heap) (N : List Str) (qual : Str) (scope : Scope) (f : Addr) (cd : Value) (A : Around) (outer : List Env) (s0 : Shared) (H0 : Hp) (E : XK) : Cx := cxOf (CXE P w) P w K mg base N qual scope f cd A outer s0 H0 E
theorem ps_raise {D C fI : Addr} {nm fld x : Str} {k : Nat} {fd : FuncData} {ps : List Str} {e : Expr} {te : TE} {p pos pos' : Pos} (B : BaseC K D) (T : ErrC K D nm C fI) (F : FnOk P w K mg base CX0 k fI fd ps (spErr C fld)) (hr : Room (k + 1) (cxE P w K mg base N qual scope f cd A outer s0 H0 E).A) (hb : Binds K fd ps [])
    (hg : Gl (cxE P w K mg base N qual scope f cd A outer s0 H0 E) x) (hm : mg x = some (.ref C)) (ha : PE (cxE P w K mg base N qual scope f cd A outer s0 H0 E) e te)
    (hdb : (x == ("__debug__" : Str)) = false := by decide) (he : starEach [e] (cxE P w K mg base N qual scope f cd A outer s0 H0 E).env = (false, eval e (cxE P w K mg base N qual scope f cd A outer s0 H0 E).env) :: starEach [] (cxE P w K mg base N qual scope f cd A outer s0 H0 E).env := by rfl) (hpl : (backTo pos (starEach [] (cxE P w K mg base N qual scope f cd A outer s0 H0 E).env)).any (·.1) = false := by rfl) :
    PS (cxE P w K mg base N qual scope f cd A outer s0 H0 E) (.Raise (some (.Call (.Name x p) [e] [] pos)) none pos') (tRaise E C fld te) := by
  intro pins s σ H D' I h
  have pe := pe_err (X := cxE P w K mg base N qual scope f cd A outer s0 H0 E) (p := p) (pos := pos) B T F hr hb hg hm ha hdb he hpl
  have hd : (cxE P w K mg base N qual scope f cd A outer s0 H0 E).A.handled = none := I.ok.hd rfl
  rw [arm_exec_Raise]
  refine wpAny_bind (wpAny_standAt ?_)
  refine wp_raise T.it T.type hd ?_
  refine wpAny_bind (thn (pe pins s σ H (qR E C) I h) fun u s1 h1 => ?_)
  obtain ⟨y, H1, I1, ry, x, dx, fs, rfl, e1, e2, q⟩ := h1
  refine wpAny_bind (wpAny_standAt (wpAny_pure ?_))
  obtain ⟨t, ht⟩ := errO_at I1.hok e1
  obtain ⟨ox, od, J, _⟩ := err_inst I1.hok e1 e2
  have eo : ox = errAt C (some dx) t := Option.some.inj (J.at_.symm.trans ht)
  subst eo
  exact ⟨x, t, some dx, some od, ry, J, I1.kIn, xe_of I1 e1 ⟨_, rfl⟩ e2 ht (.inl rfl) q⟩
theorem qR_of {C x dx : Addr} {fld : Str} {v : V} {H1 : Hp} (nd : dx ≠ x) (q : E (.ref C) (some x) (upd (upd H1 dx (.xd [(fld, v)])) x (ErrT x C (some dx)))) : qR E C (.ref x) (upd (upd H1 dx (.xd [(fld, v)])) x (ErrO x C (some dx))) :=
  ⟨x, dx, _, rfl, upd_same, by rw [upd_ne nd, upd_same], by rw [upd_upd]; exact q⟩
theorem okE {x qual : Str} {st : Stmt} {f : Addr} {fd : FuncData} {N ps : List Str} {k : Nat} {sp : Sp} (F : Fun K x qual st f fd) (S : FnScope N ps (defScope st)) (len : ∀ vs H Q E, sp vs H Q E → vs.length = ps.length)
    (hbody : ∀ (cdv : Value) (A : Around) (outer : List Env) (s : Shared) (H : Hp) (vs : List V) (Q : VK) (E : XK), Room k (A.deeper (PyProof.Rows.envOfC qual (defScope st) s.heap.objs.size f cdv)) → sp vs H Q E →
      ∃ t, PSs (cxE P w K mg base N qual (defScope st) f cdv A outer s H E) (defBody st) t ∧ t { nx := fun _ H' => Q .non H', rt := Q } (start N vs) H) : FnOk P w K mg base (CXE P w) (k + 1) f fd ps sp := by
  obtain ⟨oc, od, kV, doc, pm, an, cdv, ct, osl, rfl, lk, hcd⟩ := F.ex
  refine fn_of lk hcd S len fun A outer s H vs Q E hr hsp => ?_
  obtain ⟨t, h, q⟩ := hbody cdv A outer s H vs Q E hr hsp
  exact ⟨t, h, q⟩
theorem ps_never {X : Cx} {st : Stmt} : PS X st (fun _ _ _ => False) := fun _ _ _ _ _ _ h => h.elim
end
end My
set_option Elab.async false
set_option linter.all false
set_option maxRecDepth 100000
set_option maxHeartbeats 1000000
namespace My
open PySem PySem.W L2
open PyProof.Rows (AllBare)
def PX (X : Cx) (σ : St) (e : Expr) (t : TE) : Prop := ∀ (pins : List (Addr × Obj)) (s : Shared) (H : Hp) (Q : VK), Inv X pins σ H s → t σ H Q → wpAny (model X.prog X.w) X.A (eval e X.env) (EP X pins σ Q) X.xe s
def PXA (X : Cx) (σ : St) (es : List Expr) (t : TA) : Prop := ∀ (pos : Pos) (pins : List (Addr × Obj)) (s : Shared) (H : Hp) (Q : List V → Hp → Prop), Inv X pins σ H s → t σ H Q → wpAny (model X.prog X.w) X.A (spliced (backTo pos (starEach es X.env))) (AP X pins σ Q) X.xe s
section
variable {X : Cx} {σ : St} {e : Expr} {es : List Expr} {te : TE} {t : TA} {pos : Pos}
theorem pxa_of (h : PA X es t) : PXA X σ es t := fun pos pins s H Q I q => h pos pins s σ H Q I q
def PassX (CX : CXT) (X : Cx) (σ : St) (E : XK) : Prop := ∀ (pins : List (Addr × Obj)) (H : Hp) (s : Shared) (e : Value) (s' : Shared), Inv X pins σ H s → CX X.stack H s E e s' → X.xe e s'
variable {CX : CXT} {k : Nat} {f C : Addr} {fd : FuncData} {ps : List Str} {sp : Sp} {dvs : List V} {ds : List Value} {E : XK} {x : Str} {p : Pos}
end
section
variable {prog : Program} {w : World} {A : Around} {E : Value → Shared → Prop} {s : Shared} {K : Frag} {C D e : Addr} {Q : Bool → Shared → Prop} {ox : Obj} {od : Option Obj} {b : Bool}
theorem wp_matches (KX : K.In s.heap) (hD : ∃ cd, clsIn K D = some cd) (hT : typeIn K (.ref D) = some (.type "type")) (hB : mroIn K D (.type "BaseException") = some true) (I : InstAt s.heap e ox C od) (hC : mroIn K C (.ref D) = some b) (q : Q b s) : wpAny (model prog w) A (excMatches (.ref e) (.ref D)) Q E s := by
  unfold excMatches
  have L1 : Looks (model prog w) s.heap (isInstance (.ref D) (.type "tuple")) false := (looks_typeIn KX hT).andThen (Looks.of_pure rfl)
  refine wpAny_bind (Looks.here L1 ?_)
  refine wpAny_ite_false rfl ?_
  refine wpAny_bind (wpAny_pure ?_)
  refine wpAny_bind ?_
  obtain ⟨cd, hc⟩ := hD
  obtain ⟨hp, g, dr, tk, os⟩ := s
  obtain ⟨oD, hoD, hdD⟩ : ∃ oD, K.lookup D = some oD ∧ oD.data = .cls cd := by
    unfold clsIn at hc
    split at hc
    · rename_i h
      exact ⟨_, h, by cases hc; rfl⟩
    · cases hc
  rw [List.forIn_cons]
  refine wpAny_bind (wpAny_bind ?_)
  unfold isExcClass
  refine wpAny_bind (ks_wpAny_isType_cls (KX _ _ hoD) hdD ?_)
  refine wpAny_ite_true rfl ?_
  refine Looks.here (s := ⟨hp, g, dr, tk, os⟩) (looks_mroIn KX hB) ?_
  refine wpAny_ite_false rfl (wpAny_pure ?_)
  show wpAny _ _ (forIn ([] : List Value) PUnit.unit _) _ _ _
  rw [List.forIn_nil]
  refine wpAny_pure ?_
  refine wpAny_bind (Looks.here (s := ⟨hp, g, dr, tk, os⟩) I.type ?_)
  refine wpAny_bind ?_
  rw [List.forIn_cons]
  refine wpAny_bind (wpAny_bind (Looks.here (s := ⟨hp, g, dr, tk, os⟩) (looks_mroIn KX hC) ?_))
  cases b with
  | true =>
    refine wpAny_ite_true rfl (wpAny_pure ?_)
    exact wpAny_pure (wpAny_pure q)
  | false =>
    refine wpAny_ite_false rfl (wpAny_pure ?_)
    show wpAny _ _ (forIn ([] : List Value) _ _) _ _ _
    rw [List.forIn_nil]
    exact wpAny_pure (wpAny_pure q)
end
end My
set_option Elab.async false
set_option linter.all false
set_option maxRecDepth 100000
set_option maxHeartbeats 1000000
namespace My
open PySem PySem.W L2
open PyProof.Rows (AllBare)
def PXS (X : Cx) (σ : St) (st : Stmt) (t : TS) : Prop := ∀ (pins : List (Addr × Obj)) (s : Shared) (H : Hp) (D : Ends), Inv X pins σ H s → t D σ H → wpAny (model X.prog X.w) X.A (exec st X.env) (SP X pins D) X.xe s
section
variable {X : Cx} {σ : St} {e : Expr} {te : TE} {pos : Pos}
theorem pxs_set {i : Nat} {x : Str} {pos' : Pos} (hN : X.N.Nodup) (hi : X.N[i]? = some x) (hx : Loc X.env.scope x) (he : PX X σ e te) (hs : swapsWith e (some (.Name x pos')) pos.line X.env = pure false := by rfl) (hf : X.fn x = true ∨ X.env.scope.names.lookup x = some .local := by first | exact .inl rfl | exact .inr rfl | assumption) :
    PXS X σ (.Assign [.Name x pos'] e pos) (tAsg te (gName i)) := by
  intro pins s H D I h
  refine wpAny_Assign_Name (thn (he pins s H _ I h) fun v s1 ⟨y, H1, I1, r1, q1⟩ => ?_) hs
  exact store_ok I1 hN hi hx r1 (fun s2 I2 => ⟨_, H1, I2, q1⟩) hf
end
abbrev tryCx (X : Cx) (pn : List (Addr × Obj)) (xe : Value → Shared → Prop) : Cx := { X with pn := pn, xe := xe }
abbrev exCx (X : Cx) (x : Addr) : Cx := { X with A := X.A.mark (some (.ref x)), calm := false, xe := fun _ _ => False }
section
variable {X : Cx} {pins pins' pn : List (Addr × Obj)} {σ : St} {H : Hp} {s : Shared} {xe : Value → Shared → Prop} {x : Addr}
theorem Ok.toTry (ok : X.Ok) : (tryCx X pn xe).Ok := ⟨ok.mod, ok.kind, ok.glob, ok.blt, ok.above, ok.inj, ok.has, ok.cab, ok.hd, ok.frames, ok.stk, ok.exf, ok.bs, ok.bsz, ok.noex, ok.exfs, ok.funs, ok.frf⟩
theorem Ok.ofTry (ok : (tryCx X pn xe).Ok) : X.Ok := ⟨ok.mod, ok.kind, ok.glob, ok.blt, ok.above, ok.inj, ok.has, ok.cab, ok.hd, ok.frames, ok.stk, ok.exf, ok.bs, ok.bsz, ok.noex, ok.exfs, ok.funs, ok.frf⟩
theorem Inv.toTry (I : Inv X pins σ H s) : Inv (tryCx X (X.pn ++ pins) xe) [] σ H s :=
  ⟨Ok.toTry I.ok, I.os, I.bare, I.base, I.loc, I.cell, I.free, I.freeC, fun p hp => I.pin p (by rw [List.append_nil] at hp; exact hp), I.hok, I.len⟩
theorem Inv.ofTry (I : Inv (tryCx X (X.pn ++ pins) xe) pins' σ H s) : Inv X pins σ H s :=
  ⟨Ok.ofTry I.ok, I.os, I.bare, I.base, I.loc, I.cell, I.free, I.freeC, fun p hp => I.pin p (List.mem_append_left _ hp), I.hok, I.len⟩
theorem Inv.toEx (I : Inv X pins σ H s) : Inv (exCx X x) pins σ H s :=
  ⟨⟨I.ok.mod, I.ok.kind, I.ok.glob, I.ok.blt, I.ok.above, I.ok.inj, I.ok.has, I.ok.cab, fun z => Bool.noConfusion z, I.ok.frames, I.ok.stk, I.ok.exf, I.ok.bs, I.ok.bsz, I.ok.noex, I.ok.exfs, I.ok.funs, I.ok.frf⟩, I.os, I.bare, I.base, I.loc, I.cell, I.free, I.freeC, I.pin, I.hok, I.len⟩
theorem Inv.ofEx (ok : X.Ok) (I : Inv (exCx X x) pins σ H s) : Inv X pins σ H s := ⟨ok, I.os, I.bare, I.base, I.loc, I.cell, I.free, I.freeC, I.pin, I.hok, I.len⟩
theorem SP.ofEx {D : Ends} {f : Flow} (ok : X.Ok) (h : SP (exCx X x) pins D f s) : SP X pins D f s := by
  cases f with
  | next => obtain ⟨σ', H', I, q⟩ := h; exact ⟨σ', H', Inv.ofEx ok I, q⟩
  | brk => obtain ⟨σ', H', I, q⟩ := h; exact ⟨σ', H', Inv.ofEx ok I, q⟩
  | cont => obtain ⟨σ', H', I, q⟩ := h; exact ⟨σ', H', Inv.ofEx ok I, q⟩
  | ret u => obtain ⟨v, σ', H', I, r, q⟩ := h; exact ⟨v, σ', H', Inv.ofEx ok I, r, q⟩
theorem SP.ofTry {D : Ends} {f : Flow} (h : SP (tryCx X (X.pn ++ pins) xe) pins' D f s) : SP X pins D f s := by
  cases f with
  | next => obtain ⟨σ', H', I, q⟩ := h; exact ⟨σ', H', Inv.ofTry I, q⟩
  | brk => obtain ⟨σ', H', I, q⟩ := h; exact ⟨σ', H', Inv.ofTry I, q⟩
  | cont => obtain ⟨σ', H', I, q⟩ := h; exact ⟨σ', H', Inv.ofTry I, q⟩
  | ret u => obtain ⟨v, σ', H', I, r, q⟩ := h; exact ⟨v, σ', H', Inv.ofTry I, r, q⟩
theorem unbind_ok {M : Model} {A : Around} {E : Value → Shared → Prop} {i : Nat} {n : Str} {v : V} {Q : Unit → Shared → Prop} (I : Inv X pins σ H s) (hN : X.N.Nodup) (hi : X.N[i]? = some n) (hk : X.env.scope.names.lookup n = some .local) (hv : σ[i]? = some (some v))
    (h : ∀ s', Inv X pins (σ.set i none) H s' → Q () s') : wpAny M A (unbindName X.env n) Q E s := by
  obtain ⟨m, hn, hl⟩ := id I.loc
  have hcls : (X.env.scope.kind == .class || (X.env.scope.kind == .module && X.env.locals != X.env.globals)) = false := by rw [I.ok.kind]; rfl
  have hiσ : i < σ.length := by rw [I.len]; exact (List.getElem?_eq_some_iff.mp hi).1
  obtain ⟨u, _, lk⟩ := hl i n v hi hv (.inl hk)
  have mu : m n = some u := by
    rcases lk with ⟨_, z⟩ | ⟨z, _⟩
    · exact z
    · have k' : X.env.kindOf n = some .local := hk
      rcases z with z | z <;> (rw [k'] at z; cases z)
  have cne := I.cne
  refine wpAny_unbindName_local hk hn mu hcls fun h' u' hn' hs => ?_
  obtain ⟨oL, _, _, hoL, _⟩ := id hn
  have tracked : HOk X.prog X.w H h' := fun b ob e => by
    refine (I.hok b ob e).stay (fun c w' hc q => (hs.2 c ?_).trans q) (fun _ q => q) fun _ _ q => q
    rintro rfl
    rcases hc with rfl | hc
    · rw [I.free] at e; cases e
    · rw [I.free] at hc; cases hc
  refine h _ ⟨I.ok, I.os, I.bare, ⟨fun b o e n hb hx => ?_, fun b o e n hb hx => ?_, I.base.free, fun b o e hx => ?_, I.base.tups, I.base.frzs, I.base.tbls, I.base.sys⟩, ⟨_, hn', fun j y v' e1 e2 e3 => ?_⟩, fun y c e => ?_, I.free, I.freeC, fun p hp => ?_, tracked, by simpa using I.len⟩
  · exact (hs.2 b (Nat.ne_of_lt (Nat.lt_of_lt_of_le (Heap.lt_size e) I.ok.above))).trans (I.base.keep b o e n hb hx)
  · obtain ⟨sl, e1⟩ := I.base.slot b o e n hb hx
    exact ⟨sl, (hs.2 b (Nat.ne_of_lt (Nat.lt_of_lt_of_le (Heap.lt_size e) I.ok.above))).trans e1⟩
  · obtain ⟨o', e1⟩ := I.base.there b o e hx
    exact ⟨o', (hs.2 b (Nat.ne_of_lt (Nat.lt_of_lt_of_le (Heap.lt_size e) I.ok.above))).trans e1⟩
  · by_cases hj : j = i
    · subst hj
      rw [List.getElem?_set_self hiσ] at e2
      cases e2
    · rw [List.getElem?_set_ne (Ne.symm hj)] at e2
      obtain ⟨u2, r', q⟩ := hl j y v' e1 e2 e3
      refine ⟨u2, r', ?_⟩
      rcases q with ⟨k, e⟩ | ⟨k, c, e, z⟩
      · refine .inl ⟨k, ?_⟩
        have : y ≠ n := fun e => hj (nodup_ix hN e1 (e ▸ hi))
        simp [this, e]
      · exact .inr ⟨k, c, e, z.sameBut hs (cne y c e)⟩
  · obtain ⟨w', z⟩ := I.cell y c e
    exact ⟨w', z.sameBut hs (cne y c e)⟩
  · obtain ⟨e, n, ne, nf, d⟩ := I.pin p hp
    exact ⟨(hs.2 p.1 ne).trans e, n, ne, nf, d⟩
end
structure Catch (K : Frag) (D : Addr) : Prop where
  cls : ∃ cd, clsIn K D = some cd
  ty : typeIn K (.ref D) = some (.type "type")
  mb : mroIn K D (.type "BaseException") = some true
def unEnds (D : Ends) (i : Nat) : Ends := ⟨fun σ H => D.nx (σ.set i none) H, D.rt, fun σ H => D.bk (σ.set i none) H, fun σ H => D.ct (σ.set i none) H⟩
def eTry (K : Frag) (B : Addr) (i : Nat) (th : TS) (D : Ends) (σ : St) : XK := fun c o H' => ∃ x C, c = .ref C ∧ o = some x ∧ mroIn K C (.ref B) = some true ∧ th (unEnds D i) (σ.set i (some (.ref x))) H'
def tTry (K : Frag) (B : Addr) (i : Nat) (tb : XK → TS) (th : TS) : TS := fun D σ H => tb (eTry K B i th D σ) D σ H
end My
set_option Elab.async false
set_option linter.all false
set_option maxRecDepth 100000
set_option maxHeartbeats 1000000
namespace My
open PySem PySem.W L2
open PyProof.Rows (AllBare)
section
variable {X : Cx} {pins : List (Addr × Obj)} {σ : St} {H : Hp} {s : Shared}
theorem name_goes {i : Nat} {n : Str} {pos : Pos} {E : Value → Shared → Prop} {D : Ends} {f : Flow} (ok : X.Ok) (hN : X.N.Nodup) (hi : X.N[i]? = some n) (hk : X.env.scope.names.lookup n = some .local) (h : SP X pins (unEnds D i) f s) :
    wpAny (model X.prog X.w) X.A (do
      bindName X.env n .none
      unbindBehindTheSuite X.env n pos) (fun _ s' => SP X pins D f s') E s := by
  have go : ∀ {σ' : St} {H' : Hp}, Inv X pins σ' H' s → (∀ s', Inv X pins (σ'.set i none) H' s' → SP X pins D f s') → wpAny (model X.prog X.w) X.A (do
      bindName X.env n .none
      unbindBehindTheSuite X.env n pos) (fun _ s' => SP X pins D f s') E s := fun {σ' H'} I q => by
    have hiσ : i < σ'.length := by rw [I.len]; exact (List.getElem?_eq_some_iff.mp hi).1
    refine wpAny_bind (wpAny_bindName (store_ok I hN hi (.inl hk) (v := V.non) (u := Value.none) rfl (fun s1 I1 => ?_) (.inr hk)))
    unfold unbindBehindTheSuite
    refine wpAny_onRaise (unbind_ok (v := V.non) I1 hN hi hk (List.getElem?_set_self hiσ) fun s2 I2 => ?_)
    rw [List.set_set] at I2
    exact q s2 I2
  cases f with
  | next => obtain ⟨σ', H', I, q⟩ := h; exact go I fun s' I' => ⟨_, H', I', q⟩
  | brk => obtain ⟨σ', H', I, q⟩ := h; exact go I fun s' I' => ⟨_, H', I', q⟩
  | cont => obtain ⟨σ', H', I, q⟩ := h; exact go I fun s' I' => ⟨_, H', I', q⟩
  | ret u => obtain ⟨v, σ', H', I, r, q⟩ := h; exact go I fun s' I' => ⟨v, _, H', I', r, q⟩
end
section
variable {X : Cx} {pins : List (Addr × Obj)} {σ : St} {H : Hp} {s : Shared}
theorem errT_inst {P : Program} {w : World} {H : Hp} {h : Heap} {a C dx : Addr} {fs : List (Str × V)} (ok : HOk P w H h) (ea : H a = some (ErrT a C (some dx))) (ed : H dx = some (.xd fs)) :
    ∃ (ox od : Obj), InstAt h a ox C (some od) ∧ ∃ mA : Str → Option Value, (∀ f, RelO (fs.lookup f) (mA f)) ∧ ∀ name, lookIn name od = some (mA name) := by
  obtain ⟨t, v, hx⟩ := errT_at ok ea
  obtain ⟨mA, hn, hr⟩ := (show ObjOk P w H h dx (.xd fs) from ok dx _ ed)
  obtain ⟨od, hod, hl⟩ := lookIn_ns hn
  exact ⟨_, od, ⟨hx, rfl, rfl, hod⟩, mA, hr, hl⟩
def tErrFT (K : Frag) (ta : TE) (f : Str) : TE := fun σ H Q => ta σ H fun x H1 => ∃ a C dx fs v, x = .ref a ∧ H1 a = some (ErrT a C (some dx)) ∧ H1 dx = some (.xd fs) ∧ fs.lookup f = some v ∧ ErrI K C ∧ hasDictIn K C = true ∧ findIn K (.ref C) f = some none ∧ Q v H1
theorem pe_errFT {e : Expr} {ta : TE} {f : Str} {pos : Pos} (he : PE X e ta) (hb : attributeBase e f X.env (eval e X.env) = eval e X.env) : PE X (.Attribute e f pos) (tErrFT X.K ta f) := by
  intro pins s σ H Q I h
  refine attr_of hb (thn (he pins s σ H _ I h) fun u s1 ⟨x, H1, I1, rx, a, C, dx, fs, v, ex, ea, ed, l, T, hd, nf, q⟩ => ?_)
  subst ex
  obtain rfl : u = Value.ref a := rx
  obtain ⟨ox, od, J, mA, hr, hl⟩ := errT_inst I1.hok ea ed
  obtain ⟨u, eu, ru⟩ := RelO.some_of (l ▸ hr f)
  exact getExc I1.kIn J T.ga T.hk T.mb (findObj_own hd nf rfl (by rw [hl, eu])) (handed_of ru) ⟨v, H1, I1.tok _, ru, q⟩
def rIsT1 (K : Frag) : List V → Hp → VK → Prop := fun vs H Q => ∃ a C dx fs c b, vs = [.ref a, c] ∧ H a = some (ErrT a C (some dx)) ∧ H dx = some (.xd fs) ∧ ErrI K C ∧ ((∃ z, c = .ref z) ∨ ∃ n, c = .ty n) ∧ kitOne K (.ref C) (isV c) = some b ∧ Q (.bl b) H
def rIsTn (K : Frag) : List V → Hp → VK → Prop := fun vs H Q => ∃ (a C dx : Addr) (fs : List (Str × V)) (p : Addr) (cs : List Addr) (b : Bool), vs = [.ref a, .ref p] ∧ H a = some (ErrT a C (some dx)) ∧ H dx = some (.xd fs) ∧ ErrI K C ∧ H p = some (.tup (cs.map V.ref)) ∧ kitAny K (.ref C) (cs.map Value.ref) = some b ∧ Q (.bl b) H
theorem vals_refs : ∀ {cs : List Addr} {us : List Value}, Vals (cs.map V.ref) us → us = cs.map Value.ref
  | [], _, .nil => rfl
  | c :: cs, _, .cons r t => by
    rw [vals_refs t]
    cases (show _ = Value.ref c from r)
    rfl
end
end My
set_option Elab.async false
set_option linter.all false
set_option maxRecDepth 100000
set_option maxHeartbeats 1000000
namespace My
open PySem PySem.W L2
open PyProof.Rows (AllBare)
structure Caught (X : Cx) (pins : List (Addr × Obj)) (σ : St) (H : Hp) (s : Shared) (x C : Addr) : Prop where
  inv : Inv X pins σ H s
  err : ∃ dx fs, H x = some (ErrT x C (some dx)) ∧ H dx = some (.xd fs)
  fl : ∃ dx t T oT ts, s.heap.get? x = some (errW C dx t (.ref T)) ∧ s.heap.get? T = some oT ∧ oT.data = .fields ts ∧ ts[3]? = some Value.none
abbrev TH := Addr → Addr → TS
def PHs (X : Cx) (hs : List ExceptHandler) (th : TH) : Prop := ∀ (pins : List (Addr × Obj)) (s : Shared) (σ : St) (H : Hp) (D : Ends) (x C : Addr), Caught X pins σ H s x C → th x C D σ H → wpAny (model X.prog X.w) X.A (handleBy (.ref x) X.env hs) (SP X pins D) X.xe s
def hNil : TH := fun _ _ _ _ _ => False
def hAs (K : Frag) (B : Addr) (i : Nat) (th : TS) (rest : TH) : TH := fun x C D σ H => ∃ b, mroIn K C (.ref B) = some b ∧ if b = true then th (unEnds D i) (σ.set i (some (.ref x))) H else rest x C D σ H
def hNo (K : Frag) (B : Addr) (th : TS) (rest : TH) : TH := fun x C D σ H => ∃ b, mroIn K C (.ref B) = some b ∧ if b = true then th D σ H else rest x C D σ H
section
variable {X : Cx} {hs : List ExceptHandler} {rest : TH}
theorem phs_nil : PHs X [] hNil := fun _ _ _ _ _ _ _ _ h => False.elim h
theorem phs_as {th : TS} {B : Addr} {n cn : Str} {i : Nat} {b₀ : Stmt} {suite : List Stmt} {pc ph : Pos} (hN : X.N.Nodup) (hi : X.N[i]? = some n) (hk : X.env.scope.names.lookup n = some .local) (cB : Catch X.K B) (hg : Gl X cn) (hm : X.mg cn = some (.ref B))
    (hh : ∀ x, PSs (exCx X x) (b₀ :: suite) th) (hr : PHs X hs rest) (hdb : (cn == ("__debug__" : Str)) = false := by decide) : PHs X (.ExceptHandler (some (.Name cn pc)) (some n) (b₀ :: suite) ph :: hs) (hAs X.K B i th rest) := by
  intro pins s σ H D x C G h
  obtain ⟨b, hm', q⟩ := h
  obtain ⟨J2, ⟨dx, fs, hx, hdx⟩, dx', t, T', oT', ts', ex2, f1, f2, f3⟩ := id G
  refine wpAny_handleBy_cons ?_ (by intro z; cases z)
  refine codeAny_handlers_test ?_
  refine ld_glob (X := exCx X x) (Inv.toEx J2) hg hm ?_ hdb
  obtain ⟨ox, odd, JI⟩ : ∃ ox od, InstAt s.heap x ox C od := by
    obtain ⟨ox, od, J, _⟩ := errT_inst J2.hok hx hdx
    exact ⟨ox, some od, J⟩
  refine wp_matches J2.kIn cB.cls cB.ty cB.mb JI hm' ?_
  cases b with
  | false =>
    rw [if_neg (by decide)] at q
    exact hr pins s σ H D x C G q
  | true =>
    rw [if_pos rfl] at q
    show codeAny _ _ _ _ _
    refine codeAny_handlers_suite_as ?_
    have h3 : 3 < ts'.size := (Array.getElem?_eq_some_iff.mp f3).1
    refine wpAny_setFlight_none ex2 rfl rfl f1 f2 h3 ?_
    have J3 : Inv X pins σ H { s with heap := s.heap.update T' (Obj.mapFields fun x => x.setIfInBounds 3 Value.none) } := by
      refine J2.kept (t' := s.toks) fun b u hb => ?_
      by_cases z : b = T'
      · subst z
        have e : oT' = u := Option.some.inj (f1.symm.trans hb)
        subst e
        rw [Heap.get?_update_self _ f1 (by rw [mapF f2]; rfl), mapF f2, set_same f3, ← f2]
      · rw [Heap.get?_update_ne _ _ _ _ z]; exact hb
    generalize ({ s with heap := s.heap.update T' (Obj.mapFields fun x => x.setIfInBounds 3 Value.none) } : Shared) = s3 at J3
    refine store_ok (X := exCx X x) (Inv.toEx J3) hN hi (.inl hk) (v := V.ref x) (u := Value.ref x) rfl (fun s4 I4 => ?_) (.inr hk)
    refine wpAny_mono (hh x pins s4 _ H (unEnds D i) I4 q) (fun f s5 q5 => ?_) (fun _ _ z => False.elim z)
    exact name_goes J3.ok hN hi hk (SP.ofEx J3.ok q5)
end
def eTryN (th : TH) (D : Ends) (σ : St) : XK := fun c o H' => ∃ x C, c = .ref C ∧ o = some x ∧ th x C D σ H'
def tTryN (tb : XK → TS) (th : TH) : TS := fun D σ H => tb (eTryN th D σ) D σ H
theorem ps_tryN {X : Cx} {st : Stmt} {tb : XK → TS} {th : TH} {h₀ : ExceptHandler} {hs : List ExceptHandler} {pos : Pos} (hS : X.stack = X.env :: X.outer) (hL : X.env.frame = some X.env.locals)
    (hb : ∀ (σ : St) (E : XK) (pn : List (Addr × Obj)) (xe : Value → Shared → Prop), PassX (CXE X.prog X.w) (tryCx X pn xe) σ E → PXS (tryCx X pn xe) σ st (tb E)) (hh : PHs X (h₀ :: hs) th) : PS X (.Try [st] (h₀ :: hs) [] [] pos) (tTryN tb th) := by
  intro pins s σ H D I h
  refine wpAny_Try_except ?_
  have px := hb σ (eTryN th D σ) (X.pn ++ pins) (fun e s₁ => wpAny (model X.prog X.w) X.A (noteFrame e X.env) (fun _ s₂ => wpAny (model X.prog X.w) X.A (setFlight e none) (fun _ s₃ => wpAny (model X.prog X.w) X.A (handleBy e X.env (h₀ :: hs)) (SP X pins D) X.xe s₃) X.xe s₂) X.xe s₁) ?_
  · refine wpAny_execs_cons (thn (px [] s H D (Inv.toTry I) h) fun f s1 q => ?_)
    cases f with
    | next => exact wpAny_execs_nil (wpAny_execs_nil (SP.ofTry (f := .next) q))
    | ret v => exact SP.ofTry (f := .ret v) q
    | brk => exact SP.ofTry (f := .brk) q
    | cont => exact SP.ofTry (f := .cont) q
  intro pins' H1 s1 ev s' I1 h1
  obtain ⟨x, C, dx, fs, H', rfl, os, bare, un, hok, hx, hdx, ⟨t, T, oT, ts, e1, e2, _, e4, e5, e6, e7⟩, x', C', ec, eo, q⟩ := h1
  cases ec
  cases eo
  have J : Inv X pins σ H' s' := Inv.ofTry (I1.call' os un hok bare (fun b z => absurd z (by simp)))
  have hA : X.A.frames = some (X.env :: X.outer) := by rw [← hS]; exact J.ok.frames
  have hF : s'.heap.FunFrames X.base (X.env :: X.outer) := by rw [← hS]; exact J.stack
  refine note_exact hA hF hL e1 rfl (.inr ⟨T, oT, ts, rfl, e2, e5, e6, e7⟩) fun h' T' l => ?_
  refine l.flight rfl (by show 1 < 6; decide) _ rfl fun h2 l2 => ?_
  have J2 := Inv.left J hS hx ⟨_, rfl⟩ e1 l2
  rw [upd_id hx] at J2
  have ex2 : h2.get? x = some (errW C (some dx) t (.ref T')) := l2.exc
  obtain ⟨oT', ts', f1, f2, f3, f4⟩ := l2.trc
  exact hh pins _ σ H' D x C ⟨J2, ⟨dx, fs, hx, hdx⟩, some dx, t, T', oT', ts', ex2, f1, f2, f3⟩ q
section
variable {X : Cx} {σ : St} {e : Expr} {te : TE} {pos : Pos}
end
end My
set_option Elab.async false
set_option linter.all false
set_option maxRecDepth 100000
set_option maxHeartbeats 4000000
namespace My
open PySem L2
section
variable {X : Cx}
def eqVs : List V → List V → Bool
  | [], [] => true
  | x :: xs, y :: ys => eqV x y && eqVs xs ys
  | _, _ => false
def rTT (K : PySem.W.Frag) (g : Bool → Bool) : R2 := fun x y H Q => ∃ p q xs ys, x = .ref p ∧ y = .ref q ∧ SqT K H p xs ∧ SqT K H q ys ∧ xs.all flatV = true ∧ ys.all flatV = true ∧ Q (.bl (g (eqVs xs ys))) H
def rNil (K : PySem.W.Frag) : R2 := fun x y H Q => ∃ p q xs, x = .ref p ∧ y = .ref q ∧ SqL K H p xs ∧ SqL K H q [] ∧ Q (.bl xs.isEmpty) H
end
end My
set_option Elab.async false
set_option linter.all false
set_option maxRecDepth 100000
set_option maxHeartbeats 1000000
namespace My
open PySem L2
section
variable {X : Cx}
def plainV : V → Bool
  | .ref _ => true
  | v => flatV v
def rSameT (K : PySem.W.Frag) : R2 := fun x y H Q => ∃ p q xs, x = .ref p ∧ y = .ref q ∧ SqT K H p xs ∧ SqT K H q xs ∧ xs.all plainV = true ∧ Q (.bl true) H
def rSameL (K : PySem.W.Frag) : R2 := fun x y H Q => ∃ p q xs, x = .ref p ∧ y = .ref q ∧ SqL K H p xs ∧ SqL K H q xs ∧ xs.all plainV = true ∧ Q (.bl true) H
end
end My
set_option Elab.async false
set_option linter.all false
set_option maxRecDepth 100000
set_option maxHeartbeats 1000000
namespace My
open PySem L2
section
variable {X : Cx}
def Flats (x y : V) : Prop := flatV x = true ∧ flatV y = true ∧ eqV x y = true
def Alike (K : PySem.W.Frag) (H : Hp) : Nat → V → V → Prop
  | 0, x, y => (∃ a, x = .ref a ∧ y = .ref a) ∨ Flats x y
  | n + 1, x, y => ((∃ a, x = .ref a ∧ y = .ref a) ∨ Flats x y) ∨
    ∃ p q xs ys, x = .ref p ∧ y = .ref q ∧ ((SqT K H p xs ∧ SqT K H q ys) ∨ (SqL K H p xs ∧ SqL K H q ys)) ∧ xs.length = ys.length ∧ ∀ (i : Nat) x y, xs[i]? = some x → ys[i]? = some y → Alike K H n x y
theorem Alike.same {K : PySem.W.Frag} {H : Hp} {n : Nat} {x y : V} (h : (∃ a, x = .ref a ∧ y = .ref a) ∨ Flats x y) : Alike K H n x y := by
  cases n with
  | zero => exact h
  | succ n => exact .inl h
theorem in1_units {A : Around} : A.in1.units = A.units + 1 := rfl
def rAlike (K : PySem.W.Frag) (n : Nat) (b : Bool) : R2 := fun x y H Q => ∃ p q xs ys, x = .ref p ∧ y = .ref q ∧ ((SqT K H p xs ∧ SqT K H q ys) ∨ (SqL K H p xs ∧ SqL K H q ys)) ∧ xs.length = ys.length ∧ (∀ (i : Nat) x y, xs[i]? = some x → ys[i]? = some y → Alike K H n x y) ∧ Q (.bl b) H
def rCount (K : PySem.W.Frag) : V → List V → Hp → VK → Prop := fun x vs H Q => ∃ l xs y, x = .ref l ∧ vs = [y] ∧ SqL K H l xs ∧ xs.all flatV = true ∧ flatV y = true ∧ Q (.int (xs.countP fun z => eqV z y : Nat)) H
end
end My
set_option Elab.async false
set_option linter.all false
set_option maxRecDepth 100000
set_option maxHeartbeats 1000000
namespace My
open PySem PySem.W L2
open PyProof.Rows (Call_ boot_enumerate)
section
variable {X : Cx} {pins : List (Addr × Obj)} {σ : St} {H : Hp} {s : Shared} {h' : Heap}
end
theorem nofree {o : Obj} {vs : Array Value} (d : o.data = .fields vs) : o.isFreed = false := by
  obtain ⟨c, dd, dt, sl⟩ := o
  cases d
  rfl
def Ite (K : Frag) (a : Addr) : It :=
  ⟨fun i H => ∃ xs x, SqL K H a xs ∧ xs[i]? = some x, fun i H x H' => ∃ p y, x = .ref p ∧ H p = none ∧ H' = upd H p (.tup [.int i, y]) ∧ ∀ xs, SqL K H a xs → xs[i]? = some y, fun i H => ∃ xs, SqL K H a xs ∧ xs.length ≤ i⟩
section
variable {X : Cx}
def iEnum (K : Frag) (ta : TA) : TI := fun σ H R => ta σ H fun vs H1 => ∃ a, vs = [.ref a] ∧ (∃ xs, SqL K H1 a xs) ∧ R (Ite K a) H1
end
end My
set_option Elab.async false
set_option linter.all false
set_option maxRecDepth 100000
set_option maxHeartbeats 4000000
namespace My
open PySem L2
section
variable {prog : Program} {w : World} {A : Around} {R : Result → Shared → Prop} {s : Shared}
theorem compLoopT {elt target iter : Expr} {scope : Scope} {pos : Pos} {it acc : Value} {env : Env} (J : Nat → Shared → Prop)
    (turn : ∀ n s, J n s → wpAny (model prog w) A (pyNext it) (fun r s₁ => match r with
      | none => R (.ok .next) s₁
      | some v => wpAny (model prog w) A (letOwnedTupleGo target it v) (fun _ s₂ => wpAny (model prog w) A (assign target env v) (fun _ s₃ => wpAny (model prog w) A (eval elt env)
          (fun x s₄ => wpAny (model prog w) A (call (.builtin "list.append") [acc, x]) (fun _ s₅ => ∃ m, m < n ∧ J m s₅) (fun _ _ => False) s₄) (fun _ _ => False) s₃) (fun _ _ => False) s₂) (fun _ _ => False) s₁) (fun _ _ => False) s)
    (n : Nat) (h : J n s) : codeAny (model prog w) A (.compLoop (.ListComp elt [⟨target, iter, [], 0⟩] scope pos) 0 it acc env) R s := by
  refine codeAny_loop rfl J (fun n s hJ => ?_) n h
  show wpAny _ _ (Sem.onRaise (compTurn (.ListComp elt [⟨target, iter, [], 0⟩] scope pos) 0 it acc env) (fun x => do noteFrame x env; theTreesLotGoes x)) _ _ s
  refine wpAny_noted ?_
  rw [compTurn_list1]
  refine wpAny_bind (wpAny_standAt (wpAny_bind (wpAny_mono (turn n s hJ) (fun r s₁ h₁ => ?_) fun _ _ z => z.elim)))
  cases r with
  | none => exact wpAny_pure h₁
  | some v =>
    refine wpAny_bind (wpAny_mono h₁ (fun _ s₂ h₂ => ?_) fun _ _ z => z.elim)
    refine wpAny_bind (wpAny_mono h₂ (fun _ s₃ h₃ => ?_) fun _ _ z => z.elim)
    refine wpAny_bind (wpAny_bind (wpAny_mono h₃ (fun x s₄ h₄ => ?_) fun _ _ z => z.elim))
    refine wpAny_bind (wpAny_mono h₄ (fun _ s₅ h₅ => wpAny_pure (wpAny_pure ⟨rfl, h₅⟩)) fun _ _ z => z.elim)
end
def compCx (X : Cx) (sc : Scope) (cl : List (Str × Addr)) (N : List Str) (s : Shared) (H : Hp) (C : Addr) (fp : List Addr) : Cx where
  prog := X.prog
  w := X.w
  K := X.K
  mg := X.mg
  base := X.base
  A := X.A
  N := N
  s₀ := s
  H₀ := H
  env := compEnvC sc cl C X.env
  outer := X.stack
  stack := X.stack
  ex := fp
  fn := fun _ => false
  calm := X.calm
  pn := []
  xe := fun _ _ => False
structure CompSc (X : Cx) (sc : Scope) (cl : List (Str × Addr)) (x : Str) (zs : List Str) (js : List Nat) : Prop where
  clos : closureFor sc X.env = pure cl
  kind : sc.kind = .function
  noCell : ∀ y ∈ sc.names, y.2 ≠ .cell
  names : ∀ y ∈ sc.names, y.2 = .local → sc.names.lookup y.1 = some .local
  var : sc.names.lookup x = some .local
  sub : ∀ z c, cl.lookup z = some c → X.env.cells.lookup z = some c
  has : ∀ z, ((relabel sc X.env).names.lookup z = some .cell ∨ (relabel sc X.env).names.lookup z = some .free) → ∃ c, cl.lookup z = some c
  nd : (x :: zs).Nodup
  cap : ∀ (k : Nat) (z : Str), zs[k]? = some z → ∃ j : Nat, js[k]? = some j ∧ X.N[j]? = some z ∧ Vis X.env.scope z ∧ X.env.kindOf z ≠ some .local ∧
    ((relabel sc X.env).names.lookup z = some .cell ∨ (relabel sc X.env).names.lookup z = some .free)
  len : js.length = zs.length
def capS (js : List Nat) (σ : St) : St := js.map fun j => (σ[j]?).join
def tLC (wi : TI) (js : List Nat) (te : TE) : TE := fun σ H Q => wi σ H fun J H1 => ∀ D, H1 D = none → ∃ W : Nat → Nat → List V → Hp → Prop, (∃ m, W 0 m [] (upd H1 D (.lst []))) ∧
  ∀ i m ys H2, W i m ys H2 → H2 D = some (.lst ys) ∧ ((J.stop i H2 ∧ Q (.ref D) H2) ∨ (J.go i H2 ∧ ys.length < sizeLine ∧
    ∀ x H3, J.yld i H2 x H3 → te (some x :: capS js σ) H3 fun y H4 => H4 D = some (.lst ys) ∧ ∃ m', m' < m ∧ W (i + 1) m' (ys ++ [y]) (upd H4 D (.lst (ys ++ [y])))))
section
variable {X : Cx} {pins : List (Addr × Obj)} {σ : St} {H : Hp} {s : Shared} {sc : Scope} {cl : List (Str × Addr)} {x : Str} {zs : List Str} {js : List Nat} {C : Addr} {fp : List Addr}
end
section
variable {X : Cx} {sc : Scope} {cl : List (Str × Addr)} {x : Str} {zs : List Str} {js : List Nat} {elt iter : Expr} {px pos : Pos} {wi : TI} {te : TE}
end
end My
set_option Elab.async false
set_option linter.all false
set_option maxRecDepth 100000
set_option maxHeartbeats 1000000
namespace My
open PySem PySem.W L2
section
variable {K : Frag} {te : TE} {cap : St} {D : Addr} {H1 : Hp} {Q : Hp → Prop}
end
end My
set_option Elab.async false
set_option linter.all false
set_option maxRecDepth 100000
set_option maxHeartbeats 4000000
namespace My
open PySem L2 PySem.Calls PyProof.Rows
open PySem.Builtin.Str (occurrences partsBetween strSub)
section
variable {X : Cx}
def GDiv (i j : Int) : Prop := 0 < j ∧ j.natAbs.log2 < 9000
theorem op_gdiv : OpR X (binaryOp .FloorDiv) (rI GDiv fun i j => .int (i / j)) := opI fun i j _ _ _ _ _ hc q => by
  have z := hc.1
  exact floordiv_int (by omega) (by rw [Int.fdiv_eq_ediv_of_nonneg i (Int.le_of_lt z)]; exact q) (.inl (PyProof.noPylong_of_log2 hc.2))
def GMul (i j : Int) : Prop := Builtin.Int.intBits i + Builtin.Int.intBits j ≤ 1000000
theorem GMul.ok {i j : Int} (h : GMul i j) : IntMulOk i j := by
  unfold IntMulOk
  have z : Builtin.Int.intTooBig (Builtin.Int.intBits i + Builtin.Int.intBits j) = false := by
    unfold Builtin.Int.intTooBig
    refine decide_eq_false ?_
    have h' : Builtin.Int.intBits i + Builtin.Int.intBits j ≤ 1000000 := h
    have hb : (1000000 : Int) ≤ bitsLine := by decide +kernel
    omega
  rw [z]; simp
def rPart : V → List V → Hp → VK → Prop := fun x xs H Q => ∃ a b, x = .str a ∧ xs = [.str b] ∧ (b.length == 0) = false ∧ a.length ≤ sizeLine ∧
  ∀ p, H p = none → Q (.ref p) (upd H p (.tup [.str (Txt.partition a b).1, .str (Txt.partition a b).2.1, .str (Txt.partition a b).2.2]))
def rSplit : V → List V → Hp → VK → Prop := fun x xs H Q => ∃ a b, x = .str a ∧ xs = [.str b] ∧ (b.length == 0) = false ∧ a.length ≤ sizeLine ∧
  (partsBetween a (occurrences a b 0 a.length (a.length + 1)) b.length).length ≤ sizeLine ∧ ∀ p, H p = none → Q (.ref p) (upd H p (.lst ((Txt.split a b).map V.str)))
def tFieldI (te : TE) : TE := fun σ H Q => te σ H fun x H1 => ∃ i, x = .int i ∧ i.natAbs < 10 ^ 4300 ∧ Q (.str (toString i)) H1
def Its (z : Str) : It := ⟨fun i _ => i < z.cps.size, fun i H x H' => H' = H ∧ ∃ c, z.cps[i]? = some c ∧ x = .str ⟨#[c]⟩, fun i _ => z.cps.size ≤ i⟩
section
variable {P : Program} {w : World} {K : PySem.W.Frag} {tg : Expr}
end
def iStr (tl : TE) : TI := fun σ H R => tl σ H fun x H1 => ∃ z, x = .str z ∧ R (Its z) H1
def tJoin3 (ta tb tc : TE) : TE := fun σ H Q => ta σ H fun x H1 => ∃ a, x = .str a ∧ a.length ≤ sizeLine ∧ tb σ H1 fun y H2 => ∃ b, y = .str b ∧ (a ++ b).length ≤ sizeLine ∧
  tc σ H2 fun z H3 => ∃ c, z = .str c ∧ (a ++ b ++ c).length ≤ sizeLine ∧ Q (.str (a ++ b ++ c)) H3
end
end My
set_option Elab.async false
set_option linter.all false
set_option maxRecDepth 100000
set_option maxHeartbeats 4000000
namespace My
open PySem L2
section
variable {prog : Program} {w : World} {A : Around} {R : Result → Shared → Prop} {s : Shared}
theorem compLoopT1 {elt target iter c : Expr} {scope : Scope} {pos : Pos} {it acc : Value} {env : Env} (J : Nat → Shared → Prop)
    (turn : ∀ n s, J n s → wpAny (model prog w) A (pyNext it) (fun r s₁ => match r with
      | none => R (.ok .next) s₁
      | some v => wpAny (model prog w) A (letOwnedTupleGo target it v) (fun _ s₂ => wpAny (model prog w) A (assign target env v) (fun _ s₃ => wpAny (model prog w) A (isTrue c env (eval c env)) (fun k s₀ =>
          (k = false → ∃ m, m < n ∧ J m s₀) ∧ (k = true → wpAny (model prog w) A (eval elt env)
          (fun x s₄ => wpAny (model prog w) A (call (.builtin "list.append") [acc, x]) (fun _ s₅ => ∃ m, m < n ∧ J m s₅) (fun _ _ => False) s₄) (fun _ _ => False) s₀)) (fun _ _ => False) s₃) (fun _ _ => False) s₂) (fun _ _ => False) s₁) (fun _ _ => False) s)
    (n : Nat) (h : J n s) : codeAny (model prog w) A (.compLoop (.ListComp elt [⟨target, iter, [c], 0⟩] scope pos) 0 it acc env) R s := by
  refine codeAny_loop rfl J (fun n s hJ => ?_) n h
  show wpAny _ _ (Sem.onRaise (compTurn (.ListComp elt [⟨target, iter, [c], 0⟩] scope pos) 0 it acc env) (fun x => do noteFrame x env; theTreesLotGoes x)) _ _ s
  refine wpAny_noted ?_
  rw [compTurn_list]
  refine wpAny_bind (wpAny_standAt (wpAny_bind (wpAny_mono (turn n s hJ) (fun r s₁ h₁ => ?_) fun _ _ z => z.elim)))
  cases r with
  | none => exact wpAny_pure h₁
  | some v =>
    refine wpAny_bind (wpAny_mono h₁ (fun _ s₂ h₂ => ?_) fun _ _ z => z.elim)
    refine wpAny_bind (wpAny_mono h₂ (fun _ s₃ h₃ => ?_) fun _ _ z => z.elim)
    refine wpAny_bind (wpAny_tests_one (wpAny_mono h₃ (fun k s₀ h₀ => ?_) fun _ _ z => z.elim))
    cases k with
    | false => exact wpAny_pure ⟨rfl, h₀.1 rfl⟩
    | true =>
      refine wpAny_bind (wpAny_bind (wpAny_mono (h₀.2 rfl) (fun x s₄ h₄ => ?_) fun _ _ z => z.elim))
      refine wpAny_bind (wpAny_mono h₄ (fun _ s₅ h₅ => wpAny_pure (wpAny_pure ⟨rfl, h₅⟩)) fun _ _ z => z.elim)
end
def tLCif (wi : TI) (js : List Nat) (tt : TT) (te : TE) : TE := fun σ H Q => wi σ H fun J H1 => ∀ D, H1 D = none → ∃ W : Nat → Nat → List V → Hp → Prop, (∃ m, W 0 m [] (upd H1 D (.lst []))) ∧
  ∀ i m ys H2, W i m ys H2 → H2 D = some (.lst ys) ∧ ((J.stop i H2 ∧ Q (.ref D) H2) ∨ (J.go i H2 ∧ ys.length < sizeLine ∧
    ∀ x H3, J.yld i H2 x H3 → tt (some x :: capS js σ) H3 fun k H0 => (k = false → ∃ m', m' < m ∧ W (i + 1) m' ys H0) ∧
      (k = true → te (some x :: capS js σ) H0 fun y H4 => H4 D = some (.lst ys) ∧ ∃ m', m' < m ∧ W (i + 1) m' (ys ++ [y]) (upd H4 D (.lst (ys ++ [y]))))))
section
variable {X : Cx} {sc : Scope} {cl : List (Str × Addr)} {x : Str} {zs : List Str} {js : List Nat} {elt iter c : Expr} {px pos : Pos} {wi : TI} {te : TE} {tt : TT}
end
end My
set_option Elab.async false
set_option linter.all false
set_option maxRecDepth 100000
set_option maxHeartbeats 4000000
namespace My
open PySem L2
structure CompG (X : Cx) (sc : Scope) (cl : List (Str × Addr)) (ts zs : List Str) (js : List Nat) : Prop where
  clos : closureFor sc X.env = pure cl
  kind : sc.kind = .function
  noCell : ∀ y ∈ sc.names, y.2 ≠ .cell
  names : ∀ y ∈ sc.names, y.2 = .local → sc.names.lookup y.1 = some .local
  var : ∀ x ∈ ts, sc.names.lookup x = some .local
  sub : ∀ z c, cl.lookup z = some c → X.env.cells.lookup z = some c
  has : ∀ z, ((relabel sc X.env).names.lookup z = some .cell ∨ (relabel sc X.env).names.lookup z = some .free) → ∃ c, cl.lookup z = some c
  nd : (ts ++ zs).Nodup
  cap : ∀ (k : Nat) (z : Str), zs[k]? = some z → ∃ j : Nat, js[k]? = some j ∧ X.N[j]? = some z ∧ Vis X.env.scope z ∧ X.env.kindOf z ≠ some .local ∧
    ((relabel sc X.env).names.lookup z = some .cell ∨ (relabel sc X.env).names.lookup z = some .free)
  len : js.length = zs.length
def tLCG (wi : TI) (k : Nat) (js : List Nat) (g : TG) (te : TE) : TE := fun σ H Q => wi σ H fun J H1 => ∀ D, H1 D = none → ∃ W : Nat → Nat → List V → Hp → Prop, (∃ m, W 0 m [] (upd H1 D (.lst []))) ∧
  ∀ i m ys H2, W i m ys H2 → H2 D = some (.lst ys) ∧ ((J.stop i H2 ∧ Q (.ref D) H2) ∨ (J.go i H2 ∧ ys.length < sizeLine ∧
    ∀ x H3, J.yld i H2 x H3 → ∀ os : St, os.length = k → g x (os ++ capS js σ) H3 fun σ2 H0 => (∃ os' : St, os'.length = k ∧ σ2 = os' ++ capS js σ) ∧ te σ2 H0 fun y H4 => H4 D = some (.lst ys) ∧ ∃ m', m' < m ∧ W (i + 1) m' (ys ++ [y]) (upd H4 D (.lst (ys ++ [y])))))
def tLCGif (wi : TI) (k : Nat) (js : List Nat) (g : TG) (tt : TT) (te : TE) : TE := fun σ H Q => wi σ H fun J H1 => ∀ D, H1 D = none → ∃ W : Nat → Nat → List V → Hp → Prop, (∃ m, W 0 m [] (upd H1 D (.lst []))) ∧
  ∀ i m ys H2, W i m ys H2 → H2 D = some (.lst ys) ∧ ((J.stop i H2 ∧ Q (.ref D) H2) ∨ (J.go i H2 ∧ ys.length < sizeLine ∧
    ∀ x H3, J.yld i H2 x H3 → ∀ os : St, os.length = k → g x (os ++ capS js σ) H3 fun σ2 H0 => (∃ os' : St, os'.length = k ∧ σ2 = os' ++ capS js σ) ∧ tt σ2 H0 fun b H5 => (b = false → ∃ m', m' < m ∧ W (i + 1) m' ys H5) ∧
      (b = true → te σ2 H5 fun y H4 => H4 D = some (.lst ys) ∧ ∃ m', m' < m ∧ W (i + 1) m' (ys ++ [y]) (upd H4 D (.lst (ys ++ [y]))))))
section
variable {X : Cx} {pins : List (Addr × Obj)} {σ : St} {H : Hp} {s : Shared} {sc : Scope} {cl : List (Str × Addr)} {ts zs : List Str} {js : List Nat} {C : Addr} {fp : List Addr}
theorem compG_ok (I : Inv X pins σ H s) (S : CompG X sc cl ts zs js) (hf : ∀ b ∈ fp, FpOk X pins H b ∧ b < s.heap.objs.size) (hC : s.heap.objs.size ≤ C) : (compCx X sc cl (ts ++ zs) s H C fp).Ok := by
  refine ⟨I.ok.mod, S.kind, I.ok.glob, I.ok.blt, hC, fun y z c h1 h2 => I.ok.inj y z c (S.sub _ _ h1) (S.sub _ _ h2), fun z h => S.has z h, (fun _ _ h => nomatch h), I.ok.hd, I.ok.frames, .inl rfl, fun b hb => ?_, I.bs, ?_, fun b o e hb => ?_, fun b hb hs => ?_, I.stack, I.stkFree⟩
  · obtain ⟨⟨_, h1, _, _, h4, _⟩, h6⟩ := hf b hb
    exact ⟨fun e => absurd h6 (Nat.not_lt.mpr (by rw [show b = C from e]; exact hC)), fun z c e => h4 z c (S.sub _ _ e)⟩
  · exact Nat.le_trans I.ok.bsz I.sz
  · obtain ⟨⟨_, _, _, h3, _⟩, _⟩ := hf b hb
    rcases h3 with h | h
    · exact I.ok.noex b o e h
    · exact absurd (Heap.lt_size e) (Nat.not_lt.mpr (Nat.le_trans I.ok.bsz h))
  · obtain ⟨⟨_, h1, h2, _⟩, _⟩ := hf b hb
    rcases List.mem_cons.mp (I.stkSub b hs) with e | e
    · exact h1 e
    · exact h2 e
theorem compG_start {s1 : Shared} (I : Inv X pins σ H s) (S : CompG X sc cl ts zs js) (hf : ∀ b ∈ fp, FpOk X pins H b ∧ b < s.heap.objs.size) (hC : s.heap.objs.size ≤ C) (ho : s1.os = s.os) (hg : s1.gens = s.gens)
    (hk : ∀ b o, s.heap.get? b = some o → s1.heap.get? b = some o) {m : Str → Option Value} (hn : s1.heap.Ns C m) : Inv (compCx X sc cl (ts ++ zs) s H C fp) [] (List.replicate ts.length none ++ capS js σ) H s1 := by
  refine ⟨compG_ok I S hf hC, ho, by rw [hg]; exact I.bare, Un.kept hk, ⟨m, hn, fun i y v h1 h2 h3 => ?_⟩, fun z c e => ?_, I.hok.fresh hC, fun z c e => I.freeC z c (S.sub _ _ e), fun p hp => absurd (show p ∈ ([] : List (Addr × Obj)) from hp) (by simp), I.hok.kept hk, ?_⟩
  · rcases Nat.lt_or_ge i ts.length with lt | ge
    · rw [List.getElem?_append_left (by rw [List.length_replicate]; exact lt), List.getElem?_replicate, if_pos lt] at h2
      cases h2
    · have h1' : zs[i - ts.length]? = some y := by
        have h1'' : (ts ++ zs)[i]? = some y := h1
        rw [List.getElem?_append_right ge] at h1''
        exact h1''
      obtain ⟨j, hj, hN, hv, nl, k'⟩ := S.cap _ y h1'
      have h2' : (capS js σ)[i - ts.length]? = some (some v) := by
        rw [List.getElem?_append_right (by rw [List.length_replicate]; exact ge), List.length_replicate] at h2
        exact h2
      have h5 : σ[j]? = some (some v) := by
        unfold capS at h2'
        rw [List.getElem?_map, hj] at h2'
        have h6 : (σ[j]?).join = some v := Option.some.inj h2'
        cases e : σ[j]? with
        | none => rw [e] at h6; cases h6
        | some o => rw [e] at h6; exact congrArg some h6
      obtain ⟨m0, hn0, hl⟩ := I.loc
      obtain ⟨u, ru, lk⟩ := hl j y v hN h5 hv
      refine ⟨u, ru, ?_⟩
      rcases lk with ⟨k1, _⟩ | ⟨_, c, ec, hc⟩
      · exact absurd k1 nl
      · obtain ⟨c', ec'⟩ := S.has y k'
        have e2 := S.sub _ _ ec'
        rw [ec] at e2
        cases e2
        exact .inr ⟨k', c, ec', hc.keeps hk⟩
  · obtain ⟨v, hv⟩ := I.cell z c (S.sub _ _ e)
    exact ⟨v, hv.keeps hk⟩
  · show (List.replicate ts.length none ++ capS js σ : St).length = (ts ++ zs).length
    unfold capS
    rw [List.length_append, List.length_append, List.length_map, List.length_replicate, S.len]
theorem compG_end {s1 : Shared} {σ' : St} {H' : Hp} {h' : Heap} (I : Inv X pins σ H s) (hf : ∀ b ∈ fp, FpOk X pins H b ∧ b < s.heap.objs.size) (hC : s.heap.objs.size ≤ C) (J : Inv (compCx X sc cl (ts ++ zs) s H C fp) [] σ' H' s1)
    (hs : Heap.SameBut C s1.heap h') : Inv X pins σ H' { s1 with heap := h' } := by
  have old : ∀ b o, s1.heap.get? b = some o → b ≠ C → h'.get? b = some o := fun b o e n => (hs.2 b n).trans e
  have lt : ∀ {b o}, s.heap.get? b = some o → b ≠ C := fun {b o} e z => by
    have q := Heap.lt_size e
    rw [z] at q
    exact absurd q (Nat.not_lt.mpr hC)
  have B := J.base
  refine I.call' (s' := { s1 with heap := h' }) (ch := fp) J.os ⟨fun b o e n hb hx => old b o (B.keep b o e n hb hx) (lt e), fun b o e n hb hx => ?_, B.free, fun b o e hx => ?_, B.tups, B.frzs, B.tbls, B.sys⟩ (fun b o e => ?_) J.bare fun b hb => ?_
  · obtain ⟨sl, q⟩ := B.slot b o e n hb hx
    exact ⟨sl, old _ _ q (lt e)⟩
  · obtain ⟨o', q⟩ := B.there b o e hx
    exact ⟨o', old _ _ q (lt e)⟩
  · have nC : ∀ c u, H' c = some u → c ≠ C := fun c u q z => by
      have f : H' C = none := J.free
      rw [z, f] at q; cases q
    refine (J.hok b o e).stay (fun c v hc q => old c v q ?_) (fun _ q => q) fun _ _ q => q
    rcases hc with rfl | hc
    · exact nC _ _ e
    · exact nC _ _ hc
  · obtain ⟨⟨_, h1, _, h3, h4, h5⟩, _⟩ := hf b hb
    exact ⟨h3, h1, h4, h5⟩
end
section
variable {X : Cx} {sc : Scope} {cl : List (Str × Addr)} {ts zs : List Str} {js : List Nat} {elt iter : Expr} {pos : Pos} {tg : Expr} {g : TG} {wi : TI} {te : TE}
theorem pe_lcG (hc : X.calm = true) (S : CompG X sc cl ts zs js) (hi : PI X tg iter wi) (hg : ∀ s H C fp, PG (compCx X sc cl (ts ++ zs) s H C fp) tg g) (he : ∀ s H C fp, PE (compCx X sc cl (ts ++ zs) s H C fp) elt te)
    (hs : ∀ v, foldedSetIterable iter X.env v = pure v := by intro _; rfl) : PE X (.ListComp elt [⟨tg, iter, [], 0⟩] sc pos) (tLCG wi ts.length js g te) := by
  intro pins s σ H Q I h
  rw [eval_ListComp]
  refine wpAny_comprehension_free (use := none) rfl hs S.clos S.kind S.names (thn (hi pins s σ H _ I h) fun v s1 h1 => thn h1 fun itv s2 h2 => ?_)
  obtain ⟨it, fp, tn, J, H2, e, I2, T, st2, f2, body⟩ := h2
  subst e
  have fr2 : H2 s2.heap.objs.size = none := I2.fresh
  obtain ⟨W, ⟨m0, w0⟩, turn⟩ := body _ fr2
  refine wpAny_newObj_type ?_
  have I3 : Inv X pins σ (upd H2 s2.heap.objs.size (.lst [])) { s2 with heap := s2.heap.push { cls := .type "list", data := .seq ([] : List Value).toArray } } := I2.lnew (t' := s2.toks) (ys := []) (its := []) .nil (Nat.zero_le _)
  refine wpAny_newFunctionEnv S.noCell (by intro y hy; simp at hy) (fun h₁ hn hsb => ?_) S.kind
  generalize hs3 : ({ s2 with heap := s2.heap.push { cls := .type "list", data := .seq ([] : List Value).toArray } } : Shared) = s3 at I3 hn hsb ⊢
  have fpl : ∀ b ∈ fp, FpOk X pins (upd H2 s2.heap.objs.size (.lst [])) b ∧ b < s3.heap.objs.size := fun b hb => by
    obtain ⟨o, ho, _⟩ := T.obj _ _ st2 b hb
    have hl := Heap.lt_size ho
    have hne : b ≠ s2.heap.objs.size := Nat.ne_of_lt hl
    obtain ⟨z1, z2⟩ := f2 b hb
    refine ⟨⟨by rw [upd_ne hne]; exact z1, z2⟩, ?_⟩
    rw [← hs3]
    show b < (s2.heap.push _).objs.size
    rw [Heap.size_push]
    exact Nat.lt_succ_of_lt hl
  have old : ∀ b o, s3.heap.get? b = some o → h₁.get? b = some o := fun b o e => hsb.extBut b o (Nat.ne_of_lt (Heap.lt_size e)) (Heap.get?_push_of_some _ e)
  have loop : ∀ sS : Shared, sS.heap = h₁ → sS.os = s3.os → sS.gens = s3.gens → codeAny (model X.prog X.w) X.A (.compLoop (.ListComp elt [⟨tg, iter, [], 0⟩] sc pos) 0 (.ref it) (.ref s2.heap.objs.size) (compEnvC sc cl s3.heap.objs.size X.env))
      (compPost (model X.prog X.w) X.A X.xe none (EP X pins σ Q) (.ref s2.heap.objs.size) s3.heap.objs.size) sS := by
    intro sS eh eo eg
    subst eh
    have J0 : Inv (compCx X sc cl (ts ++ zs) s3 (upd H2 s2.heap.objs.size (.lst [])) s3.heap.objs.size fp) [] (List.replicate ts.length none ++ capS js σ) (upd H2 s2.heap.objs.size (.lst [])) sS := compG_start I3 S fpl (Nat.le_refl _) eo eg old hn
    generalize hX : compCx X sc cl (ts ++ zs) s3 (upd H2 s2.heap.objs.size (.lst [])) s3.heap.objs.size fp = X' at J0
    have stat : ∀ {H' : Hp}, (∀ b ∈ fp, H' b = none) → ∀ b ∈ fp, FpOk X' [] H' b := fun {H'} hn b hb => by
      subst hX
      obtain ⟨⟨_, z1, z2, z3, z4, z5⟩, z6⟩ := fpl b hb
      refine ⟨hn b hb, Nat.ne_of_lt z6, fun q => ?_, .inl hb, fun y c e => z4 y c (S.sub _ _ e), fun p hp => absurd (show p ∈ ([] : List (Addr × Obj)) from hp) (by simp)⟩
      rcases List.mem_cons.mp (I3.stkSub b q) with e | e
      · exact z1 e
      · exact z2 e
    have st3 : tn 0 sS.heap := T.keep _ _ _ st2 fun b hb o e => old b o (by rw [← hs3]; exact Heap.get?_push_of_some _ e)
    refine compLoopT (fun n s' => ∃ i ys os H', os.length = ts.length ∧ Inv X' [] (os ++ capS js σ) H' s' ∧ tn i s'.heap ∧ (∀ b ∈ fp, H' b = none) ∧ W i n ys H') ?_ m0 ⟨0, [], _, _, List.length_replicate, J0, st3, fun b hb => (fpl b hb).1.1, w0⟩
    rintro n s' ⟨i, ys, os, H', los, Iv, st, fr, w⟩
    obtain ⟨hD, alt⟩ := turn i n ys H' w
    have eP : X'.prog = X.prog := by subst hX; rfl
    have eW : X'.w = X.w := by subst hX; rfl
    have eK : X'.K = X.K := by subst hX; rfl
    have eC : X'.calm = true := by subst hX; exact hc
    have eA : X'.A = X.A := by subst hX; rfl
    have eE : X'.env = compEnvC sc cl s3.heap.objs.size X.env := by subst hX; rfl
    have eX : X'.xe = fun _ _ => False := by subst hX; rfl
    rcases alt with ⟨stop, q⟩ | ⟨go, hlen, step⟩
    · have d := T.done X' eP eW eK eC i [] s' _ H' (fun _ _ => False) Iv (stat fr) st stop
      rw [eA] at d
      refine thn d fun r s4 ⟨hr, I4⟩ => ?_
      subst hr
      obtain ⟨m, hm, _⟩ := id I4.loc
      rw [eE] at hm
      subst hX
      exact ⟨m, hm, fun h' hs' => ⟨.ref s2.heap.objs.size, H', compG_end I3 fpl (Nat.le_refl _) I4 hs', rfl, q⟩⟩
    · have d := T.item X' eP eW eK eC i [] s' _ H' (fun _ _ => False) Iv (stat fr) st go
      rw [eA] at d
      refine thn d fun r s4 ⟨u, hr, h4⟩ => ?_
      subst hr
      refine thn h4 fun _ s5 ⟨y, H5, I5, r5, y5, st5, fr5⟩ => ?_
      have I5' := I5.pinned (stat fr5) (T.obj _ _ st5)
      have hg' : PG X' tg g := by subst hX; exact hg _ _ _ _
      have g6 := hg' _ s5 _ H5 y u _ I5' r5 (step y H5 y5 os los)
      rw [eP, eW, eA, eE, eX] at g6
      refine thn g6 fun _ s6 ⟨σ6, H6, I6, ⟨os', los', e6⟩, st6⟩ => ?_
      subst e6
      have he' : PE X' elt te := by subst hX; exact he _ _ _ _
      have g7 := he' _ s6 _ H6 _ I6 st6
      rw [eP, eW, eA, eE, eX] at g7
      refine thn g7 fun uv s7 ⟨v7, H7, I7, r7, hD7, m', hm', w7⟩ => ?_
      have g8 := (mt_append (X := X')) _ s7 _ H7 (.ref s2.heap.objs.size) [v7] (.ref s2.heap.objs.size) [uv] (fun _ H8 => H8 = upd H7 s2.heap.objs.size (.lst (ys ++ [v7]))) I7 rfl (.cons r7 .nil) ⟨_, ys, v7, rfl, rfl, hD7, hlen, rfl⟩
      rw [eP, eW, eA, eX] at g8
      refine thn g8 fun _ s8 ⟨_, H8, I8, _, e8⟩ => ?_
      subst e8
      refine ⟨m', hm', i + 1, ys ++ [v7], os', _, los', I8.unpinned, T.keep _ _ _ st5 fun b hb o e => (I8.pin (b, o) (List.mem_append_right _ (List.mem_append_right _ (mem_pinsAt hb e)))).1, fun b hb => ?_, w7⟩
      obtain ⟨o', e', _⟩ := T.obj _ _ st5 b hb
      exact (I8.pin (b, o') (List.mem_append_right _ (List.mem_append_right _ (mem_pinsAt hb e')))).2.1
  have st1 : tn 0 h₁ := T.keep _ _ _ st2 fun b hb o e => old b o (by rw [← hs3]; exact Heap.get?_push_of_some _ e)
  exact codeAny_compStart_list (loop _ rfl rfl rfl) (T.self _ 0 _ _ _ st1 (loop _ rfl rfl rfl))
end
section
variable {X : Cx} {sc : Scope} {cl : List (Str × Addr)} {ts zs : List Str} {js : List Nat} {elt iter c : Expr} {pos : Pos} {tg : Expr} {g : TG} {wi : TI} {te : TE} {tt : TT}
theorem pe_lcGI (hc : X.calm = true) (S : CompG X sc cl ts zs js) (hi : PI X tg iter wi) (hg : ∀ s H C fp, PG (compCx X sc cl (ts ++ zs) s H C fp) tg g) (ht : ∀ s H C fp, PT (compCx X sc cl (ts ++ zs) s H C fp) c tt) (he : ∀ s H C fp, PE (compCx X sc cl (ts ++ zs) s H C fp) elt te)
    (hs : ∀ v, foldedSetIterable iter X.env v = pure v := by intro _; rfl) : PE X (.ListComp elt [⟨tg, iter, [c], 0⟩] sc pos) (tLCGif wi ts.length js g tt te) := by
  intro pins s σ H Q I h
  rw [eval_ListComp]
  refine wpAny_comprehension_free (use := none) rfl hs S.clos S.kind S.names (thn (hi pins s σ H _ I h) fun v s1 h1 => thn h1 fun itv s2 h2 => ?_)
  obtain ⟨it, fp, tn, J, H2, e, I2, T, st2, f2, body⟩ := h2
  subst e
  have fr2 : H2 s2.heap.objs.size = none := I2.fresh
  obtain ⟨W, ⟨m0, w0⟩, turn⟩ := body _ fr2
  refine wpAny_newObj_type ?_
  have I3 : Inv X pins σ (upd H2 s2.heap.objs.size (.lst [])) { s2 with heap := s2.heap.push { cls := .type "list", data := .seq ([] : List Value).toArray } } := I2.lnew (t' := s2.toks) (ys := []) (its := []) .nil (Nat.zero_le _)
  refine wpAny_newFunctionEnv S.noCell (by intro y hy; simp at hy) (fun h₁ hn hsb => ?_) S.kind
  generalize hs3 : ({ s2 with heap := s2.heap.push { cls := .type "list", data := .seq ([] : List Value).toArray } } : Shared) = s3 at I3 hn hsb ⊢
  have fpl : ∀ b ∈ fp, FpOk X pins (upd H2 s2.heap.objs.size (.lst [])) b ∧ b < s3.heap.objs.size := fun b hb => by
    obtain ⟨o, ho, _⟩ := T.obj _ _ st2 b hb
    have hl := Heap.lt_size ho
    have hne : b ≠ s2.heap.objs.size := Nat.ne_of_lt hl
    obtain ⟨z1, z2⟩ := f2 b hb
    refine ⟨⟨by rw [upd_ne hne]; exact z1, z2⟩, ?_⟩
    rw [← hs3]
    show b < (s2.heap.push _).objs.size
    rw [Heap.size_push]
    exact Nat.lt_succ_of_lt hl
  have old : ∀ b o, s3.heap.get? b = some o → h₁.get? b = some o := fun b o e => hsb.extBut b o (Nat.ne_of_lt (Heap.lt_size e)) (Heap.get?_push_of_some _ e)
  have loop : ∀ sS : Shared, sS.heap = h₁ → sS.os = s3.os → sS.gens = s3.gens → codeAny (model X.prog X.w) X.A (.compLoop (.ListComp elt [⟨tg, iter, [c], 0⟩] sc pos) 0 (.ref it) (.ref s2.heap.objs.size) (compEnvC sc cl s3.heap.objs.size X.env))
      (compPost (model X.prog X.w) X.A X.xe none (EP X pins σ Q) (.ref s2.heap.objs.size) s3.heap.objs.size) sS := by
    intro sS eh eo eg
    subst eh
    have J0 : Inv (compCx X sc cl (ts ++ zs) s3 (upd H2 s2.heap.objs.size (.lst [])) s3.heap.objs.size fp) [] (List.replicate ts.length none ++ capS js σ) (upd H2 s2.heap.objs.size (.lst [])) sS := compG_start I3 S fpl (Nat.le_refl _) eo eg old hn
    generalize hX : compCx X sc cl (ts ++ zs) s3 (upd H2 s2.heap.objs.size (.lst [])) s3.heap.objs.size fp = X' at J0
    have stat : ∀ {H' : Hp}, (∀ b ∈ fp, H' b = none) → ∀ b ∈ fp, FpOk X' [] H' b := fun {H'} hn b hb => by
      subst hX
      obtain ⟨⟨_, z1, z2, z3, z4, z5⟩, z6⟩ := fpl b hb
      refine ⟨hn b hb, Nat.ne_of_lt z6, fun q => ?_, .inl hb, fun y c e => z4 y c (S.sub _ _ e), fun p hp => absurd (show p ∈ ([] : List (Addr × Obj)) from hp) (by simp)⟩
      rcases List.mem_cons.mp (I3.stkSub b q) with e | e
      · exact z1 e
      · exact z2 e
    have st3 : tn 0 sS.heap := T.keep _ _ _ st2 fun b hb o e => old b o (by rw [← hs3]; exact Heap.get?_push_of_some _ e)
    refine compLoopT1 (fun n s' => ∃ i ys os H', os.length = ts.length ∧ Inv X' [] (os ++ capS js σ) H' s' ∧ tn i s'.heap ∧ (∀ b ∈ fp, H' b = none) ∧ W i n ys H') ?_ m0 ⟨0, [], _, _, List.length_replicate, J0, st3, fun b hb => (fpl b hb).1.1, w0⟩
    rintro n s' ⟨i, ys, os, H', los, Iv, st, fr, w⟩
    obtain ⟨hD, alt⟩ := turn i n ys H' w
    have eP : X'.prog = X.prog := by subst hX; rfl
    have eW : X'.w = X.w := by subst hX; rfl
    have eK : X'.K = X.K := by subst hX; rfl
    have eC : X'.calm = true := by subst hX; exact hc
    have eA : X'.A = X.A := by subst hX; rfl
    have eE : X'.env = compEnvC sc cl s3.heap.objs.size X.env := by subst hX; rfl
    have eX : X'.xe = fun _ _ => False := by subst hX; rfl
    rcases alt with ⟨stop, q⟩ | ⟨go, hlen, step⟩
    · have d := T.done X' eP eW eK eC i [] s' _ H' (fun _ _ => False) Iv (stat fr) st stop
      rw [eA] at d
      refine thn d fun r s4 ⟨hr, I4⟩ => ?_
      subst hr
      obtain ⟨m, hm, _⟩ := id I4.loc
      rw [eE] at hm
      subst hX
      exact ⟨m, hm, fun h' hs' => ⟨.ref s2.heap.objs.size, H', compG_end I3 fpl (Nat.le_refl _) I4 hs', rfl, q⟩⟩
    · have d := T.item X' eP eW eK eC i [] s' _ H' (fun _ _ => False) Iv (stat fr) st go
      rw [eA] at d
      refine thn d fun r s4 ⟨u, hr, h4⟩ => ?_
      subst hr
      refine thn h4 fun _ s5 ⟨y, H5, I5, r5, y5, st5, fr5⟩ => ?_
      have I5' := I5.pinned (stat fr5) (T.obj _ _ st5)
      have hg' : PG X' tg g := by subst hX; exact hg _ _ _ _
      have g6 := hg' _ s5 _ H5 y u _ I5' r5 (step y H5 y5 os los)
      rw [eP, eW, eA, eE, eX] at g6
      refine thn g6 fun _ s6 ⟨σ6, H6, I6, ⟨os', los', e6⟩, st6⟩ => ?_
      subst e6
      have ht' : PT X' c tt := by subst hX; exact ht _ _ _ _
      have g0 := ht' _ s6 _ H6 _ I6 st6
      rw [eP, eW, eA, eE, eX] at g0
      refine thn g0 fun k sk ⟨Hk, Ik, qk⟩ => ?_
      cases k with
      | false =>
        obtain ⟨m', hm', w7⟩ := qk.1 rfl
        refine ⟨fun _ => ?_, fun z => nomatch z⟩
        refine ⟨m', hm', i + 1, ys, os', _, los', Ik.unpinned, T.keep _ _ _ st5 fun b hb o e => (Ik.pin (b, o) (List.mem_append_right _ (List.mem_append_right _ (mem_pinsAt hb e)))).1, fun b hb => ?_, w7⟩
        obtain ⟨o', e', _⟩ := T.obj _ _ st5 b hb
        exact (Ik.pin (b, o') (List.mem_append_right _ (List.mem_append_right _ (mem_pinsAt hb e')))).2.1
      | true =>
      refine ⟨fun z => (nomatch z), fun _ => ?_⟩
      have he' : PE X' elt te := by subst hX; exact he _ _ _ _
      have g7 := he' _ sk _ Hk _ Ik (qk.2 rfl)
      rw [eP, eW, eA, eE, eX] at g7
      refine thn g7 fun uv s7 ⟨v7, H7, I7, r7, hD7, m', hm', w7⟩ => ?_
      have g8 := (mt_append (X := X')) _ s7 _ H7 (.ref s2.heap.objs.size) [v7] (.ref s2.heap.objs.size) [uv] (fun _ H8 => H8 = upd H7 s2.heap.objs.size (.lst (ys ++ [v7]))) I7 rfl (.cons r7 .nil) ⟨_, ys, v7, rfl, rfl, hD7, hlen, rfl⟩
      rw [eP, eW, eA, eX] at g8
      refine thn g8 fun _ s8 ⟨_, H8, I8, _, e8⟩ => ?_
      subst e8
      refine ⟨m', hm', i + 1, ys ++ [v7], os', _, los', I8.unpinned, T.keep _ _ _ st5 fun b hb o e => (I8.pin (b, o) (List.mem_append_right _ (List.mem_append_right _ (mem_pinsAt hb e)))).1, fun b hb => ?_, w7⟩
      obtain ⟨o', e', _⟩ := T.obj _ _ st5 b hb
      exact (I8.pin (b, o') (List.mem_append_right _ (List.mem_append_right _ (mem_pinsAt hb e')))).2.1
  have st1 : tn 0 h₁ := T.keep _ _ _ st2 fun b hb o e => old b o (by rw [← hs3]; exact Heap.get?_push_of_some _ e)
  exact codeAny_compStart_list (loop _ rfl rfl rfl) (T.self _ 0 _ _ _ st1 (loop _ rfl rfl rfl))
end
end My
set_option Elab.async false
set_option linter.all false
set_option maxRecDepth 100000
set_option maxHeartbeats 1000000
namespace My
open PySem PySem.W L2
structure ClsFn (K : Frag) (D : Addr) (m : Str) (f : Addr) : Prop where
  ga : specialIn K (.ref D) "__getattribute__" = some (some (.builtin "type.__getattribute__"))
  reads : readsIn K D (.type "type") = true
  at_ : findCls K (.ref D) (.type "type") m = some (.val (.ref f))
  kp : keepIn K (.ref f) = true
section
variable {X : Cx} {CX : CXT} {k : Nat} {f D : Addr} {fd : FuncData} {ps : List Str} {sp : Sp} {E : XK} {x m : Str} {p pos apos : Pos} {e : Expr} {es : List Expr} {t : TA} {dvs : List V} {ds : List Value}
theorem pe_clsCall {pl : Sem Bool} (C : ClsFn X.K D m f) (F : FnOk X.prog X.w X.K X.mg X.base CX k f fd ps sp) (hr : Room k X.A) (hg : Gl X x) (hm : X.mg x = some (.ref D)) (hb : Binds X.K fd ps ds) (hd : Vals dvs ds) (hx : Passes CX X E) (ha : PA X (e :: es) t)
    (hdb : (x == ("__debug__" : Str)) = false := by decide) (hst : starEach (e :: es) X.env = (false, eval e X.env) :: starEach es X.env := by rfl) (hpl : (backTo pos (starEach es X.env)).any (·.1) = false := by rfl)
    (htr : eval (.Call (.Attribute (.Name x p) m apos) (e :: es) [] pos) X.env = (do
      let ov ← eval (.Name x p) X.env
      standAt apos.atName
      let (f, first) ← holding [ov] (getMethod ov m pl)
      callWith pos f first (backTo pos (starEach (e :: es) X.env)) (backToKw pos (keywordEach [] X.env))) := by rfl) :
    PE X (.Call (.Attribute (.Name x p) m apos) (e :: es) [] pos) (tCall sp dvs E t) := by
  intro pins s σ H Q I h
  refine PySem.W.methodCall_KW (pl := pl) (ld_glob I hg hm ?_ hdb) htr
  refine method_cls I.kIn C.ga (cls_value I.kIn C.reads C.at_ rfl ?_)
  have I0 : Inv X pins σ H { s with toks := s.toks + 1 } := I.tok _
  refine PySem.W.callWith_K (h₀ := X.base) I.ok.mod.kin C.kp (thn (ha pos pins _ σ H _ I0 h) fun us s1 ⟨vs, H1, I1, r, q⟩ => ⟨I1.kIn, ?_⟩) hst hpl
  exact run_fn F hr hb hd hx I1 r q
end
end My
set_option Elab.async false
set_option linter.all false
set_option maxRecDepth 100000
set_option maxHeartbeats 4000000
namespace My
open PySem L2
open PySem.Builtin.Str (occurrences partsBetween strSub)
def fig (c : Nat) : Bool := decide (48 ≤ c) && decide (c ≤ 57)
def figs (L : List Nat) : Bool := !L.isEmpty && !(L.head? == some 48 && L != [48]) && L.all fig
abbrev cs (z : Str) : List Nat := z.cps.toList
abbrev val (L : List Nat) : Nat := NumText.digitsVal L
def okS (a b : List Nat) : Bool := figs a && figs b && decide (2 ≤ val b) && decide (1 ≤ val a) && decide (val a < val b) && decide (Nat.gcd (val a) (val b) = 1)
def rd (z : Str) : Option (Nat × Nat) :=
  if z = "0" then some (0, 1) else if z = "1" then some (1, 1) else
    match Txt.split z ⟨#[47]⟩ with
    | [a, b] => if okS (cs a) (cs b) = true then some (val (cs a), val (cs b)) else none
    | _ => none
abbrev tx (n : Nat) : Str := Str.ofString (toString ((n : Nat) : Int))
def shT (t b : Nat) : Str := if b = 1 then tx t else tx t ++ "/" ++ tx b
def Low (t b : Nat) : Prop := 1 ≤ b ∧ t ≤ b ∧ Nat.gcd t b = 1
theorem Low.cases {t b : Nat} (h : Low t b) : (b = 1 ∧ (t = 0 ∨ t = 1)) ∨ (2 ≤ b ∧ 1 ≤ t ∧ t < b ∧ Nat.gcd t b = 1) := by
  obtain ⟨h1, h2, h3⟩ := h
  by_cases e : b = 1
  · left; omega
  · right
    refine ⟨by omega, ?_, ?_, h3⟩
    · rcases Nat.eq_zero_or_pos t with z | z
      · subst z; rw [Nat.gcd_zero_left] at h3; omega
      · exact z
    · rcases Nat.lt_or_eq_of_le h2 with l | l
      · exact l
      · subst l; rw [Nat.gcd_self] at h3; omega
end My
set_option Elab.async false
set_option linter.all false
set_option maxRecDepth 100000
set_option maxHeartbeats 1000000
namespace My
open PySem PySem.W L2
theorem itT {A B : Prop} (h : A) : if true = true then A else B := by rw [if_pos rfl]; exact h
theorem itF {A B : Prop} (h : B) : if false = true then A else B := by rw [if_neg (by decide)]; exact h
def Ext (H H' : Hp) : Prop := ∀ b o, H b = some o → H' b = some o
theorem Ext.refl (H : Hp) : Ext H H := fun _ _ h => h
theorem Ext.trans {H H1 H2 : Hp} (a : Ext H H1) (b : Ext H1 H2) : Ext H H2 := fun x o h => b x o (a x o h)
theorem Ext.new {H : Hp} {p : Addr} {o : HO} (h : H p = none) : Ext H (upd H p o) := fun b u e => by rw [upd_ne (ne_of_none e h)]; exact e
theorem SqT.ext {K : Frag} {H H' : Hp} {p : Addr} {xs : List V} (h : SqT K H p xs) (e : Ext H H') : SqT K H' p xs := by
  rcases h with h | h
  · left
    rcases h with h | ⟨o, h⟩
    · exact .inl (e _ _ h)
    · exact .inr ⟨o, e _ _ h⟩
  · exact .inr h
theorem SqL.ext {K : Frag} {H H' : Hp} {s : Addr} {xs : List V} (h : SqL K H s xs) (x : Ext H H') : SqL K H' s xs := by
  rcases h with h | h
  · rcases h with h | ⟨o, h⟩
    · exact .inl (.inl (x _ _ h))
    · exact .inl (.inr ⟨o, x _ _ h⟩)
  · exact .inr h
theorem pe_ty {X : Cx} {x : Str} {n : String} {pos : Pos} (hg : Gl X x) (hm : X.mg x = none) (hv : bootBuiltins x = some (.type n)) (hn : x ≠ "__name__" := by decide +kernel) (hd : (x == ("__debug__" : Str)) = false := by decide) : PE X (.Name x pos) (tC (.ty n)) :=
  pe_bltn hg hm hv (show RelV (.ty n) (.type n) from rfl) hn hd
def Kd (K : Frag) (H : Hp) (x : V) (t : Value) : Prop := TyOf K H x t ∨ (∃ p xs, x = .ref p ∧ SqT K H p xs ∧ t = .type "tuple") ∨ (∃ a C, x = .ref a ∧ ErrAt H a C ∧ ErrI K C ∧ t = .ref C)
def rIsK (K : Frag) : List V → Hp → VK → Prop := fun vs H Q => ∃ x n t b, vs = [x, .ty n] ∧ Kd K H x t ∧ kitOne K t (.type n) = some b ∧ Q (.bl b) H
theorem call_isK {X : Cx} (N : IsT X.K) : CallR X (.builtin "isinstance") (rIsK X.K) := by
  intro pins s σ H xs us Q I r h
  obtain ⟨x, n, t, b, rfl, kd, e, q⟩ := h
  obtain ⟨u, u', rfl, ru, ru'⟩ := vals2 r
  cases (show u' = Value.type n from ru')
  rcases kd with ty | ⟨p, ys, rfl, hq, rfl⟩ | ⟨a, C, rfl, ea, T, rfl⟩
  · exact isinst_ok I ru ty e fun tk => ⟨.bl b, H, I.tok _, rfl, q⟩
  · cases (show u = Value.ref p from ru)
    obtain ⟨its, _, ⟨o, h1, h2, _⟩, _⟩ := I.tuple hq
    exact kia_one kitx_tuple I.kIn ⟨o, h1, h2⟩ e (fun z => nomatch z) fun tk => ⟨.bl b, H, I.tok _, rfl, q⟩
  · cases (show u = Value.ref a from ru)
    exact kia_one (kitErr T N.gt N.tk) I.kIn (ea.inst I.hok) e (fun z => nomatch z) fun tk => ⟨.bl b, H, I.tok _, rfl, q⟩
theorem ErrAt.ext {H H' : Hp} {a C : Addr} (e : ErrAt H a C) (x : Ext H H') : ErrAt H' a C := by
  rcases e with e | ⟨dx, fs, e1, e2⟩
  · exact .inl (x _ _ e)
  · exact .inr ⟨dx, fs, x _ _ e1, x _ _ e2⟩
theorem TyOf.ext {K : Frag} {H H' : Hp} {x : V} {t : Value} (h : TyOf K H x t) (e : Ext H H') : TyOf K H' x t := by
  cases h with
  | non => exact .non
  | bl b => exact .bl b
  | int i => exact .int i
  | str z => exact .str z
  | flt z => exact .flt z
  | lst q => exact .lst (e _ _ q)
  | frz q => exact .frz (e _ _ q)
  | tup q => exact .tup (e _ _ q)
  | dK q => exact .dK (e _ _ q)
  | dT q => exact .dT (e _ _ q)
  | ins q cl ha hn htk hm => exact .ins (e _ _ q) cl ha hn htk hm
theorem Kd.ext {K : Frag} {H H' : Hp} {x : V} {t : Value} (h : Kd K H x t) (e : Ext H H') : Kd K H' x t := by
  rcases h with ty | ⟨p, ys, rfl, hq, rfl⟩ | ⟨a, C, rfl, ea, T, rfl⟩
  · exact .inl (My.TyOf.ext ty e)
  · exact .inr (.inl ⟨p, ys, rfl, My.SqT.ext hq e, rfl⟩)
  · exact .inr (.inr ⟨a, C, rfl, ea.ext e, T, rfl⟩)
def NoInt (K : Frag) (H : Hp) (x : V) : Prop := (∀ i, x ≠ .int i) ∧ ∃ t b1 b2, Kd K H x t ∧ kitOne K t (.type "int") = some b1 ∧ kitOne K t (.type "bool") = some b2 ∧ (b1 && !b2) = false
def Th (K : Frag) (H : Hp) (x : V) : Prop := (∃ i, x = .int i) ∨ NoInt K H x
theorem Th.ext {K : Frag} {H H' : Hp} {x : V} (h : Th K H x) (e : Ext H H') : Th K H' x := by
  rcases h with h | ⟨n, t, b1, b2, kd, k1, k2, z⟩
  · exact .inl h
  · exact .inr ⟨n, t, b1, b2, kd.ext e, k1, k2, z⟩
def numB : V → Bool
  | .int _ => true
  | _ => false
def inB (lo hi : Int) : V → Bool
  | .int i => decide (lo ≤ i) && decide (i ≤ hi)
  | _ => false
theorem numB_no {x : V} (h : ∀ i, x ≠ .int i) : numB x = false := by
  cases x with
  | int i => exact absurd rfl (h i)
  | _ => rfl
theorem inB_no {lo hi : Int} {x : V} (h : ∀ i, x ≠ .int i) : inB lo hi x = false := by
  cases x with
  | int i => exact absurd rfl (h i)
  | _ => rfl
section
variable {P : Program} {w : World} {K : Frag} {mg : Str → Option Value} {base : Heap}
theorem k_ii : kitOne K (.type "int") (.type "int") = some true := rfl
theorem k_ib : kitOne K (.type "int") (.type "bool") = some false := rfl
end
end My
set_option Elab.async false
set_option linter.all false
set_option maxRecDepth 100000
set_option maxHeartbeats 4000000
set_option exponentiation.threshold 5000
namespace My
open PySem PySem.W L2
def keyD : Key → PyData
  | .inl i => .int i
  | .inr x => .str x
mutual
inductive Rds (G : Hp) : V → PyData → Prop
  | non : Rds G .non .none
  | bl (b : Bool) : Rds G (.bl b) (.bool b)
  | int (i : Int) : Rds G (.int i) (.int i)
  | str (x : Str) : Rds G (.str x) (.str x)
  | lst {a : Addr} {xs : List V} {ds : List PyData} : G a = some (.lst xs) → RdsAll G xs ds → Rds G (.ref a) (.list ds)
  | tup {a : Addr} {xs : List V} {ds : List PyData} : G a = some (.tup xs) → RdsAll G xs ds → Rds G (.ref a) (.tuple ds)
  | dic0 {a : Addr} : G a = some (.dK []) → Rds G (.ref a) (.dict [])
  | dic {a : Addr} {k : Key} {v : V} {d : PyData} : G a = some (.dK [(k, v)]) → Rds G v d → Rds G (.ref a) (.dict [(keyD k, d)])
inductive RdsAll (G : Hp) : List V → List PyData → Prop
  | nil : RdsAll G [] []
  | cons {v : V} {vs : List V} {d : PyData} {ds : List PyData} : Rds G v d → RdsAll G vs ds → RdsAll G (v :: vs) (d :: ds)
end
mutual
theorem Rds.mono {G G' : Hp} (s : Ext G G') : ∀ {v : V} {d : PyData}, Rds G v d → Rds G' v d
  | _, _, .non => .non
  | _, _, .bl b => .bl b
  | _, _, .int i => .int i
  | _, _, .str x => .str x
  | _, _, .lst e r => .lst (s _ _ e) (RdsAll.mono s r)
  | _, _, .tup e r => .tup (s _ _ e) (RdsAll.mono s r)
  | _, _, .dic0 e => .dic0 (s _ _ e)
  | _, _, .dic e r => .dic (s _ _ e) (Rds.mono s r)
theorem RdsAll.mono {G G' : Hp} (s : Ext G G') : ∀ {vs : List V} {ds : List PyData}, RdsAll G vs ds → RdsAll G' vs ds
  | _, _, .nil => .nil
  | _, _, .cons r t => .cons (Rds.mono s r) (RdsAll.mono s t)
end
theorem RdsAll.length {G : Hp} : ∀ {vs : List V} {ds : List PyData}, RdsAll G vs ds → vs.length = ds.length
  | _, _, .nil => rfl
  | _, _, .cons _ t => by rw [List.length_cons, List.length_cons, t.length]
theorem RdsAll.append {G : Hp} : ∀ {vs ws : List V} {ds es : List PyData}, RdsAll G vs ds → RdsAll G ws es → RdsAll G (vs ++ ws) (ds ++ es)
  | _, _, _, _, .nil, s => s
  | _, _, _, _, .cons r t, s => .cons r (t.append s)
theorem RdsAll.set {G : Hp} {v : V} {d : PyData} (r : Rds G v d) : ∀ {vs : List V} {ds : List PyData} (i : Nat), RdsAll G vs ds → RdsAll G (vs.set i v) (ds.set i d)
  | _, _, _, .nil => .nil
  | _, _, 0, .cons _ t => .cons r t
  | _, _, i + 1, .cons q t => .cons q (RdsAll.set r i t)
section
variable {P : Program} {w : World} {H : Hp} {h : Heap}
theorem key_reads {k : Key} {u : Value} (r : (mixKind P w).is k u = true) : Reads h u (keyD k) [] := by
  rw [mixKind_is] at r
  rcases keyIs_shape r with ⟨i, t, rfl, rfl⟩ | ⟨x, t, rfl, rfl⟩
  · exact .int i t
  · exact .str x t
theorem pairs0 {es : List DictEntry} (ps : Pairs (mixKind P w) es ([] : List (Key × Value))) : es = [] := by
  cases ps
  rfl
theorem pairs1 {es : List DictEntry} {k : Key} {u : Value} (ps : Pairs (mixKind P w) es [(k, u)]) : ∃ e, es = [e] ∧ (mixKind P w).is k e.key = true ∧ e.val = u := by
  cases ps with
  | cons h1 h2 h3 =>
    cases h3
    exact ⟨_, rfl, h1, h2⟩
mutual
theorem reads_of (ok : HOk P w H h) (z : H sysModules = none) : ∀ {v : V} {d : PyData} {u : Value}, Rds H v d → RelV v u → ∃ as, Reads h u d as ∧ sysModules ∉ as
  | _, _, _, .non, r => by cases r; exact ⟨[], .none, by simp⟩
  | _, _, _, .bl b, r => by cases r; exact ⟨[], .bool b, by simp⟩
  | _, _, _, .int i, r => by obtain ⟨t, rfl⟩ := r; exact ⟨[], .int i t, by simp⟩
  | _, _, _, .str x, r => by obtain ⟨t, rfl⟩ := r; exact ⟨[], .str x t, by simp⟩
  | _, _, _, .lst (a := a) e t, r => by
    cases r
    obtain ⟨_, its, n, rv, ho⟩ := (show ObjOk P w H h _ (.lst _) from ok _ _ e)
    obtain ⟨as, ra, na⟩ := readsAll_of ok z t rv
    refine ⟨a :: as, .list ho rfl rfl (by simpa using ra), ?_⟩
    intro m
    rcases List.mem_cons.mp m with m | m
    · rw [← m, z] at e; cases e
    · exact na m
  | _, _, _, .tup (a := a) e t, r => by
    cases r
    obtain ⟨_, its, rv, o, ho, hc, n, hd⟩ := (show ObjOk P w H h _ (.tup _) from ok _ _ e)
    obtain ⟨as, ra, na⟩ := readsAll_of ok z t rv
    exact ⟨as, .tuple ho hc hd (by simpa using ra), na⟩
  | _, _, _, .dic0 (a := a) e, r => by
    cases r
    obtain ⟨_, hs, vs, kv, o, es, ep, ho, hx, hd, hks, hps, hnd⟩ := (show ObjOk P w H h _ (.dK _) from ok _ _ e)
    cases kv
    have ee : es.toList = [] := pairs0 hps
    refine ⟨a :: [] ++ [], .dict (kvs := []) ho hx.1 hd (by rw [ee]; exact .nil) (by rw [ee]; exact .nil), ?_⟩
    intro m
    have m' : sysModules = a := by simpa using m
    rw [← m', z] at e; cases e
  | _, _, _, .dic (a := a) (k := k) e t, r => by
    cases r
    obtain ⟨_, hs, vs, kv, o, es, ep, ho, hx, hd, hks, hps, hnd⟩ := (show ObjOk P w H h _ (.dK _) from ok _ _ e)
    cases kv with
    | cons q q' =>
      cases q'
      obtain ⟨hq1, hq2⟩ := q
      obtain ⟨e0, ee, ek, ev⟩ := pairs1 hps
      rw [← ev] at hq2
      rw [← hq1] at ek
      obtain ⟨as, ra, na⟩ := reads_of ok z t hq2
      have rk : ReadsAll h [e0.key] [keyD k] ([] ++ []) := .cons (key_reads ek) .nil
      have rv : ReadsAll h [e0.val] [_] (as ++ []) := .cons ra .nil
      refine ⟨a :: ([] ++ []) ++ (as ++ []), .dict (kvs := [(keyD k, _)]) ho hx.1 hd (by rw [ee]; exact rk) (by rw [ee]; exact rv), ?_⟩
      intro m
      rw [List.append_nil, List.append_nil] at m
      rcases List.mem_cons.mp m with m | m
      · rw [← m, z] at e; cases e
      · exact na (by simpa using m)
theorem readsAll_of (ok : HOk P w H h) (z : H sysModules = none) : ∀ {vs : List V} {ds : List PyData} {us : List Value}, RdsAll H vs ds → Vals vs us → ∃ as, ReadsAll h us ds as ∧ sysModules ∉ as
  | _, _, _, .nil, r => by cases r; exact ⟨[], .nil, by simp⟩
  | _, _, _, .cons r t, rv => by
    cases rv with
    | cons q qs =>
      obtain ⟨as, ra, na⟩ := reads_of ok z r q
      obtain ⟨bs, rb, nb⟩ := readsAll_of ok z t qs
      refine ⟨as ++ bs, .cons ra rb, fun m => ?_⟩
      rcases List.mem_append.mp m with m | m
      · exact na m
      · exact nb m
end
end
structure Show (d : PyData) : Prop where
  sh : d.showable = true
  dp : d.depth ≤ 10
  sz : d.shown.length ≤ sizeLine
section
variable {X : Cx}
def rRepr : List V → Hp → VK → Prop := fun vs H Q => ∃ v d, vs = [v] ∧ Rds H v d ∧ Show d ∧ Q (.str d.shown) H
end
def kindD : PyData → String
  | .none => "NoneType"
  | .bool _ => "bool"
  | .int _ => "int"
  | .str _ => "str"
  | .list _ => "list"
  | .tuple _ => "tuple"
  | _ => "dict"
def tupB : PyData → Bool
  | .tuple _ => true
  | _ => false
def lisB : PyData → Bool
  | .list _ => true
  | _ => false
def booB : PyData → Bool
  | .bool _ => true
  | _ => false
def inD (lo hi : Int) : PyData → Bool
  | .int i => decide (lo ≤ i) && decide (i ≤ hi)
  | _ => false
section
variable {K : Frag} {H : Hp} {v : V} {d : PyData}
theorem Rds.ty (r : Rds H v d) : TyOf K H v (.type (kindD d)) := by
  cases r with
  | non => exact .non
  | bl b => exact .bl b
  | int i => exact .int i
  | str x => exact .str x
  | lst e _ => exact .lst e
  | tup e _ => exact .tup e
  | dic0 e => exact .dK e
  | dic e _ => exact .dK e
theorem Rds.kd (r : Rds H v d) : Kd K H v (.type (kindD d)) := .inl r.ty
theorem Rds.isT (r : Rds H v d) : kitOne K (.type (kindD d)) (.type "tuple") = some (tupB d) := by cases r <;> rfl
theorem Rds.isL (r : Rds H v d) : kitOne K (.type (kindD d)) (.type "list") = some (lisB d) := by cases r <;> rfl
theorem Rds.isB (r : Rds H v d) : kitOne K (.type (kindD d)) (.type "bool") = some (booB d) := by cases r <;> rfl
theorem Rds.th (r : Rds H v d) : Th K H v := by
  cases r with
  | int i => exact .inl ⟨i, rfl⟩
  | non => exact .inr ⟨fun i z => (by cases z), _, _, _, .inl .non, rfl, rfl, rfl⟩
  | bl b => exact .inr ⟨fun i z => (by cases z), _, _, _, .inl (.bl b), rfl, rfl, rfl⟩
  | str x => exact .inr ⟨fun i z => (by cases z), _, _, _, .inl (.str x), rfl, rfl, rfl⟩
  | lst e _ => exact .inr ⟨fun i z => (by cases z), _, _, _, .inl (.lst e), rfl, rfl, rfl⟩
  | tup e _ => exact .inr ⟨fun i z => (by cases z), _, _, _, .inl (.tup e), rfl, rfl, rfl⟩
  | dic0 e => exact .inr ⟨fun i z => (by cases z), _, _, _, .inl (.dK e), rfl, rfl, rfl⟩
  | dic e _ => exact .inr ⟨fun i z => (by cases z), _, _, _, .inl (.dK e), rfl, rfl, rfl⟩
theorem Rds.inB (r : Rds H v d) (lo hi : Int) : My.inB lo hi v = inD lo hi d := by cases r <;> rfl
theorem rds_tup (r : Rds H v (.tuple ds)) : ∃ a xs, v = .ref a ∧ H a = some (.tup xs) ∧ RdsAll H xs ds := by
  cases r with
  | tup e t => exact ⟨_, _, rfl, e, t⟩
theorem RdsAll.get {xs : List V} {ds : List PyData} (r : RdsAll H xs ds) : ∀ {i : Nat} {x : V}, xs[i]? = some x → ∃ d, ds[i]? = some d ∧ Rds H x d := by
  induction xs generalizing ds with
  | nil => intro i x h; simp at h
  | cons y ys ih =>
    cases r with
    | cons q t =>
      intro i x h
      cases i with
      | zero => cases h; exact ⟨_, rfl, q⟩
      | succ i => exact ih t h
end
end My
set_option Elab.async false
set_option linter.all false
set_option maxRecDepth 100000
set_option maxHeartbeats 1000000
namespace My
open PySem L2
structure Bx (p : Prop) : Prop where
  h : p
section
variable {X : Cx} {e a b : Expr} {es : List Expr} {te ta tb : TE} {t : TA} {pos : Pos} {st : Stmt} {rest : List Stmt} {ts u v : TS}
theorem bxa_nil : Bx (PA X [] tNil) := ⟨pa_nil⟩
theorem bxa_cons (ha : Bx (PE X e te)) (hr : Bx (PA X es t)) (hs : starEach (e :: es) X.env = (false, eval e X.env) :: starEach es X.env := by rfl) : Bx (PA X (e :: es) (tCons te t)) := ⟨pa_cons ha.h hr.h hs⟩
theorem bx_lst (h : Bx (PA X es t)) : Bx (PE X (.List es pos) (tLst t)) := ⟨pe_lst h.h⟩
theorem bx_ix {r : R2} (hr : IxR X r) (ha : Bx (PE X a ta)) (hb : Bx (PE X b tb)) (hs : PlainIx b) : Bx (PE X (.Subscript a b pos) (tOp r ta tb)) := ⟨pe_ix hr ha.h hb.h hs⟩
theorem bx_ret (h : Bx (PE X e te)) : Bx (PS X (.Return (some e) pos) (tRet te)) := ⟨ps_ret h.h⟩
theorem bxs_nil : Bx (PSs X [] tNext) := ⟨pss_nil⟩
theorem bxs_one (h : Bx (PS X st ts)) : Bx (PSs X [st] ts) := ⟨pss_one h.h⟩
theorem bxs_cons (h : Bx (PS X st ts)) (k : Bx (PSs X rest u)) : Bx (PSs X (st :: rest) (tSeq ts u)) := ⟨pss_cons h.h k.h⟩
theorem bx_if {c : Expr} {x y : List Stmt} {tc : TT} (hc : Bx (PT X c tc)) (hx : Bx (PSs X x u)) (hy : Bx (PSs X y v)) : Bx (PS X (.If c x y pos) (tIfS tc u v)) := ⟨ps_if hc.h hx.h hy.h⟩
theorem bx_set {i : Nat} {x : Str} {pos' : Pos} (hN : X.N.Nodup) (hi : X.N[i]? = some x) (hx : Loc X.env.scope x) (he : Bx (PE X e te)) (hs : swapsWith e (some (.Name x pos')) pos.line X.env = pure false := by rfl) (hf : X.fn x = true ∨ X.env.scope.names.lookup x = some .local := by first | exact .inl rfl | exact .inr rfl | assumption) :
    Bx (PS X (.Assign [.Name x pos'] e pos) (tAsg te (gName i))) := ⟨ps_set hN hi hx he.h hs hf⟩
end
end My
set_option Elab.async false
set_option linter.all false
set_option maxRecDepth 100000
set_option maxHeartbeats 1000000
namespace My
open PySem PySem.W L2
open AutoSeq1 (wpAny_loadPart')
section
variable {prog : Program} {w : World} {A : Around} {E : Value → Shared → Prop} {s : Shared} {r : Addr} {a b c : Int} {t u v : Tok} {n : Nat}
theorem collect_range {Q : List Value → Shared → Prop} (hh : A.handled = none) (hr : IsRange s.heap r a b c t u v) (hsmall : Builtin.Range.small a b c = true) (hn : Builtin.Range.rangeSize a b c = n) (hlen : n ≤ 2 ^ 24)
    (hQ : ∀ h' tk acc, (∀ b o, s.heap.get? b = some o → h'.get? b = some o) → ItemsOf (fun i v => ∃ t, v = .int (a + i * c) t) acc n → Q acc.toList { s with heap := h', toks := tk }) :
    wpAny (model prog w) A (collect (.ref r)) Q E s := by
  unfold collect
  refine wpAny_bind (wpAny_runValue (codeAny_builtin F.entry_proto_collect ?_))
  rw [Around.under_plainId F.plain_proto_collect _]
  show wpAny _ A.in1 (newList [] >>= fun l => again (.builtin "list.__iadd__" ⟨[l, .ref r], []⟩)) _ _ s
  refine wpAny_bind (wpAny_newObj_type ?_)
  refine wpAny_pure ⟨plainId_quiet F.plain_list_iadd _, codeAny_builtin F.entry_list_iadd ?_⟩
  rw [Around.under_plainId F.plain_list_iadd _]
  show wpAny _ A.in1 (Builtin.List.listExtendWith (.ref s.heap.objs.size) (.ref r) (.ref s.heap.objs.size)) _ _ _
  have hS : (s.heap.push { cls := .type "list", data := .seq ([] : List Value).toArray }).get? s.heap.objs.size = some { cls := .type "list", data := .seq #[] 0 } := Heap.get?_push_size _ rfl
  refine wpAny_mono (wpAny_extend_range (A := A) (R := fun x s' => ∃ h' tk acc c', x = .ok (.ret (.ref s.heap.objs.size)) ∧ s' = { s with heap := h', toks := tk } ∧ (∀ b o, s.heap.get? b = some o → h'.get? b = some o) ∧ h'.get? s.heap.objs.size = some { cls := .type "list", dict := none, data := .seq acc c', slots := #[] } ∧ ItemsOf (fun i v => ∃ t, v = .int (a + i * c) t) acc n)
    (s := { s with heap := s.heap.push { cls := .type "list", data := .seq ([] : List Value).toArray } }) hh (Heap.get?_push_of_some _ hr) hsmall hn hlen s.heap.objs.size (.ref s.heap.objs.size) 0 hS (fun h' tk acc c' hk hS' hacc => ⟨h', tk, acc, c', rfl, rfl, fun b o e => hk b o (Nat.ne_of_lt (Heap.lt_size e)) (Heap.get?_push_of_some _ e), hS', hacc⟩)) (fun fin s' h => ?_) (fun e s' h => ?_)
  · have fin' : ∀ s'', (∃ h' tk acc c', s'' = { s with heap := h', toks := tk } ∧ (∀ b o, s.heap.get? b = some o → h'.get? b = some o) ∧ h'.get? s.heap.objs.size = some { cls := .type "list", dict := none, data := .seq acc c', slots := #[] } ∧ ItemsOf (fun i v => ∃ t, v = .int (a + i * c) t) acc n) → wpAny (model prog w) A (match Value.ref s.heap.objs.size with
      | Value.ref a => do
        match (← load a).data with
          | Data.seq xs _ => pure xs.toList
          | _ => unsupported "internal:collect"
      | _ => unsupported "internal:collect") Q E s'' := fun s'' hx => by
      obtain ⟨h', tk, acc, c', rfl, hk, hS', hacc⟩ := hx
      show wpAny _ A (load s.heap.objs.size >>= _) _ _ _
      refine wpAny_bind (wpAny_load hS' ?_)
      exact wpAny_pure (hQ h' tk acc hk hacc)
    cases fin with
    | done f =>
      obtain ⟨h', tk, acc, c', e, h⟩ := h
      cases e
      exact fin' _ ⟨h', tk, acc, c', h⟩
    | again c' => exact ⟨h.1, codeAny_mono h.2 fun x s'' hr => by obtain ⟨h', tk, acc, c', rfl, hr⟩ := hr; exact fin' _ ⟨h', tk, acc, c', hr⟩⟩
  · obtain ⟨_, _, _, _, e, _⟩ := h
    cases e
end
theorem meets_tuple_new_range (r : Addr) (a b c : Int) (t u v : Tok) (n : Nat) (hsmall : Builtin.Range.small a b c = true) (hn : Builtin.Range.rangeSize a b c = n) (hlen : n ≤ 2 ^ 24) :
    Meets (Builtin.«tuple.__new__» ⟨[.type "tuple", .ref r], []⟩)
      (fun A R s => A.handled = none ∧ IsRange s.heap r a b c t u v ∧ ∀ (h' : Heap) (tk : Nat) (acc : Array Value), (∀ b o', s.heap.get? b = some o' → h'.get? b = some o') → ItemsOf (fun i v => ∃ t, v = .int (a + i * c) t) acc n → R (.ok (.ret (.ref h'.objs.size))) { s with heap := h'.push { cls := .type "tuple", data := .seq acc }, toks := tk }) :=
  .of_wp fun prog w A R s h => by
    obtain ⟨hh, hr, h⟩ := h
    have hsub := sub_tuple_self
    have hinit := init_tuple_lookup
    have hmh := madeHere_tuple
    have hT : s.TypeIs (.ref r) "range" := ⟨_, hr, rfl⟩
    have hh1 : A.in1.handled = none := hh
    wp_walk using wpAny_typeOf hT, collect_range hh1 hr hsmall hn hlen
    intro h' tk acc hk hacc
    show wpAny _ _ (Builtin.Tuple.tupleExact acc.toList.toArray >>= fun v => ret v) _ _ _
    unfold Builtin.Tuple.tupleExact
    refine wpAny_bind (wpAny_newObj_type ?_ (show acc.toList.toArray.size ≤ sizeLine by simp only [Array.toArray_toList]; rw [hacc.1, sizeLine_eq]; omega))
    refine wpAny_pure ⟨_, rfl, ?_⟩
    have e : acc.toList.toArray = acc := by simp
    rw [e]
    exact h h' tk acc hk hacc
theorem call_tuple_range {prog : Program} {w : World} {A : Around} {E : Value → Shared → Prop} {s : Shared} {r : Addr} {a b c : Int} {t u v : Tok} {n : Nat} {Q : Value → Shared → Prop} (hh : A.handled = none) (hr : IsRange s.heap r a b c t u v) (hsmall : Builtin.Range.small a b c = true) (hn : Builtin.Range.rangeSize a b c = n) (hlen : n ≤ 2 ^ 24)
    (h : ∀ (h' : Heap) (tk : Nat) (acc : Array Value), (∀ b o', s.heap.get? b = some o' → h'.get? b = some o') → ItemsOf (fun i v => ∃ t, v = .int (a + i * c) t) acc n → Q (.ref h'.objs.size) { s with heap := h'.push { cls := .type "tuple", data := .seq acc }, toks := tk }) :
    wpAny (model prog w) A (call (.type "tuple") [.ref r]) Q E s :=
  callType_new F.called_tuple (by decide) (F.typeCall_tuple_1 _) (F.newCall_tuple_1 _) (fun obj => F.args_object_init_2 obj _) F.entry_tuple_new
    (meets_tuple_new_range r a b c t u v n hsmall hn hlen) ⟨hh, hr, fun h' tk acc hk hacc => ⟨⟨_, Heap.get?_push_size _ rfl, rfl⟩, h h' tk acc hk hacc⟩⟩
def upL (lo : Int) (n : Nat) : List V := (List.range n).map fun i => V.int (lo + (i : Nat))
theorem upL_length (lo : Int) (n : Nat) : (upL lo n).length = n := by unfold upL; simp
theorem upL_vals {lo : Int} {n : Nat} {acc : Array Value} (h : ItemsOf (fun i v => ∃ t, v = Value.int (lo + i * 1) t) acc n) : Vals (upL lo n) acc.toList := by
  have gen : ∀ (xs : List V) (us : List Value), xs.length = us.length → (∀ (i : Nat) x u, xs[i]? = some x → us[i]? = some u → RelV x u) → Vals xs us := by
    intro xs
    induction xs with
    | nil => intro us l _; cases us with | nil => exact .nil | cons _ _ => cases l
    | cons x xs ih =>
      intro us l g
      cases us with
      | nil => cases l
      | cons u us => exact .cons (g 0 x u rfl rfl) (ih us (by simpa using l) fun i x' u' h1 h2 => g (i + 1) x' u' h1 h2)
  refine gen _ _ (by rw [upL_length]; simp [h.1]) fun i x u hx hu => ?_
  unfold upL at hx
  rw [List.getElem?_map] at hx
  obtain ⟨j, hj, rfl⟩ := Option.map_eq_some_iff.mp hx
  have ej : i = j := by
    have := List.getElem?_eq_some_iff.mp hj
    simpa using this.2
  subst ej
  obtain ⟨t, e⟩ := h.2 i u (by simpa using hu)
  refine ⟨t, ?_⟩
  rw [e, Int.mul_one]
section
variable {X : Cx}
def rRng1 : List V → Hp → VK → Prop := fun vs H Q => ∃ j : Int, vs = [.int j] ∧ ∀ r, H r = none → Q (.ref r) (upd H r (.rng 0 j))
theorem call_rng1 : CallR X (.type "range") rRng1 := by
  intro pins s σ H xs us Q I r h
  obtain ⟨j, rfl, q⟩ := h
  obtain ⟨u, rfl, t, rfl⟩ := vals1 r
  refine call_range_1 ⟨.ref s.heap.objs.size, _, I.laid (t' := s.toks + 1 + 1) (o := .rng 0 j) (fun b o e => Heap.get?_push_of_some _ e) (Nat.le_refl _) ?_, rfl, q _ (I.hok.fresh (Nat.le_refl _))⟩
  exact ⟨_, _, _, Heap.get?_push_size _ rfl⟩
def rTupR : List V → Hp → VK → Prop := fun vs H Q => ∃ (p : Addr) (lo hi : Int), vs = [.ref p] ∧ H p = some (.rng lo hi) ∧ (-(2 ^ 62) ≤ lo ∧ lo < 2 ^ 62 ∧ -(2 ^ 62) ≤ hi ∧ hi < 2 ^ 62) ∧ (hi - lo).toNat ≤ 2 ^ 24 ∧ ∀ l, H l = none → Q (.ref l) (upd H l (.tup (upL lo (hi - lo).toNat)))
theorem call_tupR (hc : X.calm = true) : CallR X (.type "tuple") rTupR := by
  intro pins s σ H xs us Q I r h
  obtain ⟨p, lo, hi, rfl, hp, ⟨b1, b2, b3, b4⟩, hl, q⟩ := h
  obtain ⟨u, rfl, rx⟩ := vals1 r
  cases (show u = Value.ref p from rx)
  obtain ⟨t, u, v, e⟩ := (show ObjOk X.prog X.w H s.heap p (.rng lo hi) from I.hok p _ hp)
  have en : Builtin.Range.rangeSize lo hi 1 = (((hi - lo).toNat : Nat) : Int) := by rw [rangeSize_one]; split <;> omega
  refine call_tuple_range (I.ok.hd hc) e (small_one b1 b2 b3 b4) en hl fun h' tk acc kp hacc => ?_
  have I1 : Inv X pins σ H { s with heap := h' } := I.kept (t' := s.toks) kp
  have ha : acc.toList.toArray = acc := by simp
  have I2 : Inv X pins σ (upd H h'.objs.size (.tup (upL lo (hi - lo).toNat))) { s with heap := h'.push { cls := .type "tuple", data := .seq acc }, toks := tk } :=
    I1.laid (t' := tk) (fun b o e => Heap.get?_push_of_some _ e) (Nat.le_refl _) (show ObjOk X.prog X.w _ _ _ (.tup _) from ⟨by rw [upL_length, sizeLine_eq]; omega, acc.toList, upL_vals hacc, by rw [ha]; exact PyProof.Rows.IsTup.new _ _⟩)
  exact ⟨.ref h'.objs.size, _, I2, rfl, q _ (I1.hok.fresh (Nat.le_refl _))⟩
def rLstR : List V → Hp → VK → Prop := fun vs H Q => ∃ (p : Addr) (lo hi : Int), vs = [.ref p] ∧ H p = some (.rng lo hi) ∧ (-(2 ^ 62) ≤ lo ∧ lo < 2 ^ 62 ∧ -(2 ^ 62) ≤ hi ∧ hi < 2 ^ 62) ∧ (hi - lo).toNat ≤ 2 ^ 24 ∧ ∀ l, H l = none → Q (.ref l) (upd H l (.lst (upL lo (hi - lo).toNat)))
end
end My
set_option Elab.async false
set_option linter.all false
set_option maxRecDepth 100000
set_option maxHeartbeats 1000000
namespace My
open PySem L2
section
variable {X : Cx}
theorem all_range : ∀ (xs : List Bool), (List.range xs.length).all (fun i => xs.getD i false) = xs.all id
  | [] => rfl
  | x :: xs => by
    have ih := all_range xs
    rw [List.length_cons, List.range_succ_eq_map, List.all_cons, List.all_map, List.all_cons, ← ih]
    rfl
def rAll (K : PySem.W.Frag) : List V → Hp → VK → Prop := fun vs H Q => ∃ (l : Addr) (xs : List Bool), vs = [.ref l] ∧ SqL K H l (xs.map V.bl) ∧ Q (.bl (xs.all id)) H
theorem call_all (hc : X.calm = true) : CallR X (.builtin "all") (rAll X.K) := by
  intro pins s σ H vs us Q I r h
  obtain ⟨l, xs, rfl, hl, q⟩ := h
  obtain ⟨u, rfl, ru⟩ := vals1 r
  cases (show u = Value.ref l from ru)
  obtain ⟨its, rv, t, hz⟩ := I.list hl
  have ll : l < s.heap.objs.size := by obtain ⟨_, e, _⟩ := t.isList; exact Heap.lt_size e
  have len := rv.length
  rw [List.length_map] at len
  refine call_all_walk (wpAny_pyIter_list t.isList ?_)
  refine ⟨s.heap.objs.size, [s.heap.objs.size, l], [s.heap.objs.size], its.toArray.size, (fun i v => its.toArray[i]? = some v), _, fun i => xs.getD i false, rfl, Walks.list (A := X.A.in1) (I.ok.hd hc) s.heap.objs.size l (Nat.ne_of_lt ll) its.toArray,
    ⟨⟨_, Heap.get?_push_size _ rfl, rfl, rfl⟩, t.isList.push _⟩, fun i v s' Q' E' hv hq => ?_, fun h' tk hk => ⟨.bl _, H, I.kept (h' := h') (t' := tk) (fun b o e => hk b o (fun m => ?_) (Heap.get?_push_of_some _ e)), ?_, q⟩⟩
  · have hv' : its[i]? = some v := by simpa using hv
    have lt : i < its.length := (List.getElem?_eq_some_iff.mp hv').1
    have lt2 : i < xs.length := by omega
    obtain ⟨u1, e1, q1⟩ := rv.get (i := i) (x := V.bl xs[i]) (by rw [List.getElem?_map, List.getElem?_eq_getElem lt2]; rfl)
    rw [hv'] at e1
    cases e1
    cases (show v = Value.bool xs[i] from q1)
    refine wpAny_truthy_bool ?_
    have e : xs.getD i false = xs[i] := by simp [lt2]
    rw [← e]
    exact hq
  · rcases List.mem_cons.mp m with e2 | m
    · exact absurd (Heap.lt_size e) (by rw [e2]; exact Nat.lt_irrefl _)
    · cases m
  · show Value.bool _ = Value.bool _
    have e := all_range xs
    rw [← e, List.size_toArray, ← len]
def rCountT (K : PySem.W.Frag) : V → List V → Hp → VK → Prop := fun x vs H Q => ∃ (l q : Addr) (as : List (Addr × List V)) (ys : List V), x = .ref l ∧ vs = [.ref q] ∧ SqL K H l (as.map fun z => V.ref z.1) ∧ (∀ z ∈ as, SqT K H z.1 z.2 ∧ z.2.all flatV = true) ∧ SqT K H q ys ∧ ys.all flatV = true ∧ Q (.int (as.countP fun z => eqVs z.2 ys : Nat)) H
end
section
variable {X : Cx} {σ : St}
def PXSs (X : Cx) (σ : St) (sts : List Stmt) (t : TS) : Prop := ∀ (pins : List (Addr × Obj)) (s : Shared) (H : Hp) (D : Ends), Inv X pins σ H s → t D σ H → wpAny (model X.prog X.w) X.A (execs sts X.env) (SP X pins D) X.xe s
def tSeqX (σ : St) (t u : TS) : TS := fun D σ' H => t { D with nx := fun σ1 H1 => σ1 = σ ∧ u D σ1 H1 } σ' H
theorem pxss_one {st : Stmt} {t : TS} (h1 : PXS X σ st t) : PXSs X σ [st] t := by
  intro pins s H D I h
  refine wpAny_execs_cons (thn (h1 pins s H _ I h) fun f s1 q => ?_)
  cases f with
  | next => obtain ⟨σ1, H1, I1, q⟩ := q; exact wpAny_execs_nil ⟨σ1, H1, I1, q⟩
  | ret v => exact q
  | brk => exact q
  | cont => exact q
theorem pxs_if {c : Expr} {a b : List Stmt} {tc : TT} {t u : TS} {pos : Pos} (hc : PT X c tc) (ha : PXSs X σ a t) (hb : PXSs X σ b u) : PXS X σ (.If c a b pos) (tIfS tc t u) := by
  intro pins s H D I h
  refine wpAny_If (thn (hc pins s σ H _ I h) fun d s1 ⟨H1, I1, q1⟩ => ?_)
  cases d with
  | true => exact ha pins s1 H1 D I1 q1
  | false => exact hb pins s1 H1 D I1 q1
end
end My
set_option Elab.async false
set_option linter.all false
set_option maxRecDepth 100000
set_option maxHeartbeats 1000000
namespace My
open PySem PySem.W L2
section
variable {K : Frag} {te : TE} {tt : TT} {g : TG} {k : Nat} {cap : St} {D : Addr} {H1 : Hp} {Q : Hp → Prop} {a : Addr} {xs : List V}
theorem lcG_list (Pv : Nat → List V → Hp → Prop) (hz : xs.length < sizeLine) (h0 : Pv 0 [] (upd H1 D (.lst [])))
    (hl : ∀ i ys H, Pv i ys H → SqL K H a xs)
    (hs : ∀ i x ys H, xs[i]? = some x → ys.length = i → H D = some (.lst ys) → Pv i ys H → ∀ os : St, os.length = k → ∀ R : VK, (∀ y H4, H4 D = some (.lst ys) → Pv (i + 1) (ys ++ [y]) (upd H4 D (.lst (ys ++ [y]))) → R y H4) → g x (os ++ cap) H fun σ2 H0 => (∃ os' : St, os'.length = k ∧ σ2 = os' ++ cap) ∧ te σ2 H0 R)
    (hd : ∀ ys H, ys.length = xs.length → H D = some (.lst ys) → Pv xs.length ys H → Q H) :
    ∃ W : Nat → Nat → List V → Hp → Prop, (∃ m, W 0 m [] (upd H1 D (.lst []))) ∧
      ∀ i m ys H2, W i m ys H2 → H2 D = some (.lst ys) ∧ (((Itl K a).stop i H2 ∧ Q H2) ∨ ((Itl K a).go i H2 ∧ ys.length < sizeLine ∧
        ∀ x H3, (Itl K a).yld i H2 x H3 → ∀ os : St, os.length = k → g x (os ++ cap) H3 fun σ2 H0 => (∃ os' : St, os'.length = k ∧ σ2 = os' ++ cap) ∧ te σ2 H0 fun y H4 => H4 D = some (.lst ys) ∧ ∃ m', m' < m ∧ W (i + 1) m' (ys ++ [y]) (upd H4 D (.lst (ys ++ [y]))))) := by
  refine ⟨fun i m ys H => m = xs.length - i ∧ i ≤ xs.length ∧ ys.length = i ∧ H D = some (.lst ys) ∧ Pv i ys H, ⟨xs.length, by simp, Nat.zero_le _, rfl, upd_same, h0⟩, ?_⟩
  rintro i m ys H ⟨rfl, hi, hy, hD, p⟩
  refine ⟨hD, ?_⟩
  have q := hl i ys H p
  by_cases hlt : i < xs.length
  · refine .inr ⟨⟨xs, xs[i], q, by simp [hlt]⟩, by omega, fun x H' y => ?_⟩
    obtain ⟨e, y⟩ := y
    subst e
    exact fun os los => hs i x ys _ (y xs q) hy hD p os los _ fun z H4 hD4 p4 => ⟨hD4, xs.length - (i + 1), by omega, rfl, hlt, by rw [List.length_append, hy]; rfl, upd_same, p4⟩
  · have e : i = xs.length := by omega
    subst e
    exact .inl ⟨⟨xs, q, Nat.le_refl _⟩, hd ys H hy hD p⟩
end
end My
set_option Elab.async false
set_option linter.all false
set_option maxRecDepth 100000
set_option maxHeartbeats 4000000
namespace My
open PySem L2
section
variable {X : Cx} {sc : Scope} {cl : List (Str × Addr)} {ts zs : List Str} {js : List Nat} {elt iter c : Expr} {pos : Pos} {tg : Expr} {g : TG} {wi : TI} {te : TE} {tt : TT}
theorem ps_lcG {y : Str} {py spos : Pos} {iy : Nat} (hc : X.calm = true) (S : CompG X sc cl ts zs js) (hi : PI X tg iter wi) (hg : ∀ s H C fp, PG (compCx X sc cl (ts ++ zs) s H C fp) tg g) (he : ∀ s H C fp, PE (compCx X sc cl (ts ++ zs) s H C fp) elt te)
    (hN : X.N.Nodup) (hiy : X.N[iy]? = some y) (hy : Loc X.env.scope y) (hsw : swapsWith (.ListComp elt [⟨tg, iter, [], 0⟩] sc pos) (some (.Name y py)) spos.line X.env = pure true)
    (hf : X.fn y = true ∨ X.env.scope.names.lookup y = some .local := by first | exact .inl rfl | exact .inr rfl | assumption)
    (hs : ∀ v, foldedSetIterable iter X.env v = pure v := by intro _; rfl) : PS X (.Assign [.Name y py] (.ListComp elt [⟨tg, iter, [], 0⟩] sc pos) spos) (tAsg (tLCG wi ts.length js g te) (gName iy)) := by
  intro pins s σ H De I h
  rw [exec_Assign_Name_used _ _ _ _ hsw]
  refine wpAny_bind (wpAny_standAt (wpAny_bind ?_))
  show wpAny _ _ (do let _ ← comprehension (.ListComp elt [⟨tg, iter, [], 0⟩] sc pos) sc X.env _ (newList []) false (eval iter X.env) (some (assign (.Name y py) X.env))) _ _ s
  refine wpAny_bind (wpAny_mono (wpAny_comprehension_free (use := some (assign (.Name y py) X.env)) (Q := fun _ s' => SP X pins De .next s') rfl hs S.clos S.kind S.names ?_) (fun _ s' hq => wpAny_pure (wpAny_pure hq)) fun _ _ e => e)
  refine (thn (hi pins s σ H _ I h) fun v s1 h1 => thn h1 fun itv s2 h2 => ?_)
  obtain ⟨it, fp, tn, J, H2, e, I2, T, st2, f2, body⟩ := h2
  subst e
  have fr2 : H2 s2.heap.objs.size = none := I2.fresh
  obtain ⟨W, ⟨m0, w0⟩, turn⟩ := body _ fr2
  refine wpAny_newObj_type ?_
  have I3 : Inv X pins σ (upd H2 s2.heap.objs.size (.lst [])) { s2 with heap := s2.heap.push { cls := .type "list", data := .seq ([] : List Value).toArray } } := I2.lnew (t' := s2.toks) (ys := []) (its := []) .nil (Nat.zero_le _)
  refine wpAny_newFunctionEnv S.noCell (by intro y hy; simp at hy) (fun h₁ hn hsb => ?_) S.kind
  generalize hs3 : ({ s2 with heap := s2.heap.push { cls := .type "list", data := .seq ([] : List Value).toArray } } : Shared) = s3 at I3 hn hsb ⊢
  have fpl : ∀ b ∈ fp, FpOk X pins (upd H2 s2.heap.objs.size (.lst [])) b ∧ b < s3.heap.objs.size := fun b hb => by
    obtain ⟨o, ho, _⟩ := T.obj _ _ st2 b hb
    have hl := Heap.lt_size ho
    have hne : b ≠ s2.heap.objs.size := Nat.ne_of_lt hl
    obtain ⟨z1, z2⟩ := f2 b hb
    refine ⟨⟨by rw [upd_ne hne]; exact z1, z2⟩, ?_⟩
    rw [← hs3]
    show b < (s2.heap.push _).objs.size
    rw [Heap.size_push]
    exact Nat.lt_succ_of_lt hl
  have old : ∀ b o, s3.heap.get? b = some o → h₁.get? b = some o := fun b o e => hsb.extBut b o (Nat.ne_of_lt (Heap.lt_size e)) (Heap.get?_push_of_some _ e)
  have loop : ∀ sS : Shared, sS.heap = h₁ → sS.os = s3.os → sS.gens = s3.gens → codeAny (model X.prog X.w) X.A (.compLoop (.ListComp elt [⟨tg, iter, [], 0⟩] sc pos) 0 (.ref it) (.ref s2.heap.objs.size) (compEnvC sc cl s3.heap.objs.size X.env))
      (compPost (model X.prog X.w) X.A X.xe (some (assign (.Name y py) X.env)) (fun _ s' => SP X pins De .next s') (.ref s2.heap.objs.size) s3.heap.objs.size) sS := by
    intro sS eh eo eg
    subst eh
    have J0 : Inv (compCx X sc cl (ts ++ zs) s3 (upd H2 s2.heap.objs.size (.lst [])) s3.heap.objs.size fp) [] (List.replicate ts.length none ++ capS js σ) (upd H2 s2.heap.objs.size (.lst [])) sS := compG_start I3 S fpl (Nat.le_refl _) eo eg old hn
    generalize hX : compCx X sc cl (ts ++ zs) s3 (upd H2 s2.heap.objs.size (.lst [])) s3.heap.objs.size fp = X' at J0
    have stat : ∀ {H' : Hp}, (∀ b ∈ fp, H' b = none) → ∀ b ∈ fp, FpOk X' [] H' b := fun {H'} hn b hb => by
      subst hX
      obtain ⟨⟨_, z1, z2, z3, z4, z5⟩, z6⟩ := fpl b hb
      refine ⟨hn b hb, Nat.ne_of_lt z6, fun q => ?_, .inl hb, fun y c e => z4 y c (S.sub _ _ e), fun p hp => absurd (show p ∈ ([] : List (Addr × Obj)) from hp) (by simp)⟩
      rcases List.mem_cons.mp (I3.stkSub b q) with e | e
      · exact z1 e
      · exact z2 e
    have st3 : tn 0 sS.heap := T.keep _ _ _ st2 fun b hb o e => old b o (by rw [← hs3]; exact Heap.get?_push_of_some _ e)
    refine compLoopT (fun n s' => ∃ i ys os H', os.length = ts.length ∧ Inv X' [] (os ++ capS js σ) H' s' ∧ tn i s'.heap ∧ (∀ b ∈ fp, H' b = none) ∧ W i n ys H') ?_ m0 ⟨0, [], _, _, List.length_replicate, J0, st3, fun b hb => (fpl b hb).1.1, w0⟩
    rintro n s' ⟨i, ys, os, H', los, Iv, st, fr, w⟩
    obtain ⟨hD, alt⟩ := turn i n ys H' w
    have eP : X'.prog = X.prog := by subst hX; rfl
    have eW : X'.w = X.w := by subst hX; rfl
    have eK : X'.K = X.K := by subst hX; rfl
    have eC : X'.calm = true := by subst hX; exact hc
    have eA : X'.A = X.A := by subst hX; rfl
    have eE : X'.env = compEnvC sc cl s3.heap.objs.size X.env := by subst hX; rfl
    have eX : X'.xe = fun _ _ => False := by subst hX; rfl
    rcases alt with ⟨stop, q⟩ | ⟨go, hlen, step⟩
    · have d := T.done X' eP eW eK eC i [] s' _ H' (fun _ _ => False) Iv (stat fr) st stop
      rw [eA] at d
      refine thn d fun r s4 ⟨hr, I4⟩ => ?_
      subst hr
      obtain ⟨m, hm, _⟩ := id I4.loc
      have fC : H' s3.heap.objs.size = none := by
        have z := I4.free
        rw [eE] at z
        exact z
      rw [eE] at hm
      subst hX
      have I5 : Inv X pins σ H' s4 := compG_end (h' := s4.heap) I3 fpl (Nat.le_refl _) I4 ⟨rfl, fun _ _ => rfl⟩
      show wpAny _ _ (assign (.Name y py) X.env (.ref s2.heap.objs.size)) _ _ s4
      have nC : ∀ b, b < s3.heap.objs.size → b ≠ s3.heap.objs.size := fun b hb => Nat.ne_of_lt hb
      have nL : X.env.locals ≠ s3.heap.objs.size := nC _ I3.lt
      have cl3 : ∀ z c, X.env.cells.lookup z = some c → c ≠ s3.heap.objs.size := fun z c e => by
        obtain ⟨v, o, ho, _⟩ := I3.cell z c e
        exact nC _ (Heap.lt_size ho)
      refine wpAny_assign_Name (store_ok2 I5 hN hiy hy (v := .ref s2.heap.objs.size) rfl (fun s5 I6 hb => ?_) hf)
      obtain ⟨a5, sb5, ha5⟩ := hb
      have na5 : s3.heap.objs.size ≠ a5 := by
        rcases ha5 with e | e
        · rw [e]; exact nL.symm
        · exact (cl3 _ _ e).symm
      refine ⟨m, hm.sameBut sb5 na5, fun h' hs' => ?_⟩
      have I7 : Inv X pins (σ.set iy (some (.ref s2.heap.objs.size))) H' { s5 with heap := h', toks := s5.toks } :=
        I6.turned (h' := h') (t' := s5.toks) (it := s3.heap.objs.size) (fun b o hb e => (hs'.2 b hb).trans e) fC nL.symm (.inr I3.sz) cl3 fun p hp => by
          obtain ⟨e1, _⟩ := I3.pin p hp
          exact nC _ (Heap.lt_size e1)
      exact ⟨_, H', I7, q⟩
    · have d := T.item X' eP eW eK eC i [] s' _ H' (fun _ _ => False) Iv (stat fr) st go
      rw [eA] at d
      refine thn d fun r s4 ⟨u, hr, h4⟩ => ?_
      subst hr
      refine thn h4 fun _ s5 ⟨y, H5, I5, r5, y5, st5, fr5⟩ => ?_
      have I5' := I5.pinned (stat fr5) (T.obj _ _ st5)
      have hg' : PG X' tg g := by subst hX; exact hg _ _ _ _
      have g6 := hg' _ s5 _ H5 y u _ I5' r5 (step y H5 y5 os los)
      rw [eP, eW, eA, eE, eX] at g6
      refine thn g6 fun _ s6 ⟨σ6, H6, I6, ⟨os', los', e6⟩, st6⟩ => ?_
      subst e6
      have he' : PE X' elt te := by subst hX; exact he _ _ _ _
      have g7 := he' _ s6 _ H6 _ I6 st6
      rw [eP, eW, eA, eE, eX] at g7
      refine thn g7 fun uv s7 ⟨v7, H7, I7, r7, hD7, m', hm', w7⟩ => ?_
      have g8 := (mt_append (X := X')) _ s7 _ H7 (.ref s2.heap.objs.size) [v7] (.ref s2.heap.objs.size) [uv] (fun _ H8 => H8 = upd H7 s2.heap.objs.size (.lst (ys ++ [v7]))) I7 rfl (.cons r7 .nil) ⟨_, ys, v7, rfl, rfl, hD7, hlen, rfl⟩
      rw [eP, eW, eA, eX] at g8
      refine thn g8 fun _ s8 ⟨_, H8, I8, _, e8⟩ => ?_
      subst e8
      refine ⟨m', hm', i + 1, ys ++ [v7], os', _, los', I8.unpinned, T.keep _ _ _ st5 fun b hb o e => (I8.pin (b, o) (List.mem_append_right _ (List.mem_append_right _ (mem_pinsAt hb e)))).1, fun b hb => ?_, w7⟩
      obtain ⟨o', e', _⟩ := T.obj _ _ st5 b hb
      exact (I8.pin (b, o') (List.mem_append_right _ (List.mem_append_right _ (mem_pinsAt hb e')))).2.1
  have st1 : tn 0 h₁ := T.keep _ _ _ st2 fun b hb o e => old b o (by rw [← hs3]; exact Heap.get?_push_of_some _ e)
  exact codeAny_compStart_list (loop _ rfl rfl rfl) (T.self _ 0 _ _ _ st1 (loop _ rfl rfl rfl))
end
section
variable {X : Cx} {sc : Scope} {cl : List (Str × Addr)} {ts zs : List Str} {js : List Nat} {elt iter c : Expr} {pos : Pos} {tg : Expr} {g : TG} {wi : TI} {te : TE} {tt : TT}
end
end My
set_option Elab.async false
set_option linter.all false
set_option maxRecDepth 100000
set_option maxHeartbeats 1000000
namespace My
open PySem PySem.W L2
def gTupL (K : PySem.W.Frag) (n : Nat) (t : TGs) : TG := fun v σ H Q => ∃ a xs, v = .ref a ∧ SqL K H a xs ∧ xs.length = n ∧ t xs σ H Q
section
variable {X : Cx} {pos : Pos}
theorem pg_tupL {es : List Expr} {k : Nat} {t : TGs} {n : Nat} (hc : X.calm = true) (h : PGs X es t)
    (hn : (assignEach es X.env).length = n := by rfl) (hst : (assignEach es X.env).findIdx? (·.1) = none := by rfl) : PG X (.Tuple es k pos) (gTupL X.K n t) := by
  intro pins s σ H v u Q I r hw
  obtain ⟨a, xs, e1, hq, hl, hw⟩ := hw
  subst e1
  cases r
  obtain ⟨its, rv, ht, hz⟩ := I.list hq
  rw [PyProof.Rows.assign_Tuple]
  refine wpAny_bind (wpAny_standAt ?_)
  unfold unpack
  rw [hst, show (assignEach es X.env).length = its.toArray.size by rw [hn, List.size_toArray, ← rv.length]; exact hl.symm]
  refine wpAny_bind (wpAny_holding (kun_itemsOf (I.ok.hd hc) ht.isList fun h' hx => ?_))
  have I1 : Inv X pins σ H { s with heap := h' } := I.kept (t' := s.toks) fun b o e => hx b o (Nat.ne_of_lt (Heap.lt_size e)) e
  exact h pins _ σ H xs _ Q I1 (by simpa using rv) hw
end
section
variable {K : Frag} {te : TE} {g : TG} {k : Nat} {cap : St} {D : Addr} {H1 : Hp} {Q : Hp → Prop}
theorem lcG_range {lo : Int} {n : Nat} (Pv : Nat → List V → Hp → Prop) (hz : n < sizeLine) (h0 : Pv 0 [] (upd H1 D (.lst [])))
    (hs : ∀ i ys H, i < n → ys.length = i → H D = some (.lst ys) → Pv i ys H → ∀ os : St, os.length = k → ∀ R : VK, (∀ y H4, H4 D = some (.lst ys) → Pv (i + 1) (ys ++ [y]) (upd H4 D (.lst (ys ++ [y]))) → R y H4) → g (.int (lo + i)) (os ++ cap) H fun σ2 H0 => (∃ os' : St, os'.length = k ∧ σ2 = os' ++ cap) ∧ te σ2 H0 R)
    (hd : ∀ ys H, ys.length = n → H D = some (.lst ys) → Pv n ys H → Q H) :
    ∃ W : Nat → Nat → List V → Hp → Prop, (∃ m, W 0 m [] (upd H1 D (.lst []))) ∧
      ∀ i m ys H2, W i m ys H2 → H2 D = some (.lst ys) ∧ (((Itr lo n).stop i H2 ∧ Q H2) ∨ ((Itr lo n).go i H2 ∧ ys.length < sizeLine ∧
        ∀ x H3, (Itr lo n).yld i H2 x H3 → ∀ os : St, os.length = k → g x (os ++ cap) H3 fun σ2 H0 => (∃ os' : St, os'.length = k ∧ σ2 = os' ++ cap) ∧ te σ2 H0 fun y H4 => H4 D = some (.lst ys) ∧ ∃ m', m' < m ∧ W (i + 1) m' (ys ++ [y]) (upd H4 D (.lst (ys ++ [y]))))) := by
  refine ⟨fun i m ys H => m = n - i ∧ i ≤ n ∧ ys.length = i ∧ H D = some (.lst ys) ∧ Pv i ys H, ⟨n, by simp, Nat.zero_le _, rfl, upd_same, h0⟩, ?_⟩
  rintro i m ys H ⟨rfl, hi, hy, hD, p⟩
  refine ⟨hD, ?_⟩
  by_cases hlt : i < n
  · refine .inr ⟨hlt, by omega, fun x H' y => ?_⟩
    obtain ⟨e, y⟩ := y
    subst e y
    exact fun os los => hs i ys _ hlt hy hD p os los _ fun z H4 hD4 p4 => ⟨hD4, n - (i + 1), by omega, rfl, hlt, by rw [List.length_append, hy]; rfl, upd_same, p4⟩
  · have e : i = n := by omega
    subst e
    exact .inl ⟨Nat.le_refl _, hd ys H hy hD p⟩
end
end My
set_option Elab.async false
set_option linter.all false
set_option maxRecDepth 100000
set_option maxHeartbeats 1000000
namespace My
open PySem PySem.W L2
section
variable {X : Cx}
abbrev b2i := PyProof.Rows.b2i
def rBB : R2 := fun x y H Q => ∃ p q, x = .bl p ∧ y = .bl q ∧ Q (.int (b2i p - b2i q)) H
theorem ints_items : ∀ {ns : List Int} {its : List Value}, Vals (ns.map V.int) its → ∃ xs : List (Int × Tok), its = xs.map (fun p => Value.int p.1 p.2) ∧ ns = xs.map (·.1)
  | [], _, r => by cases r; exact ⟨[], rfl, rfl⟩
  | n :: ns, _, r => by
    rw [List.map_cons] at r
    cases r with
    | cons r1 r2 =>
      obtain ⟨t, rfl⟩ := r1
      obtain ⟨xs, e1, e2⟩ := ints_items r2
      exact ⟨(n, t) :: xs, by rw [e1]; rfl, by rw [e2]; rfl⟩
theorem numAt_get {xs : List (Int × Tok)} {i : Nat} (h : i < xs.length) : numAt xs.toArray i = (xs.map (·.1))[i]'(by rw [List.length_map]; exact h) := by
  simp [numAt, h]
def rMinL (K : Frag) : List V → Hp → VK → Prop := fun vs H Q => ∃ (l : Addr) (ns : List Int) (m : Int), vs = [.ref l] ∧ SqL K H l (ns.map V.int) ∧ m ∈ ns ∧ (∀ a ∈ ns, m ≤ a) ∧ Q (.int m) H
def rMaxL (K : Frag) : List V → Hp → VK → Prop := fun vs H Q => ∃ (l : Addr) (ns : List Int) (m : Int), vs = [.ref l] ∧ SqL K H l (ns.map V.int) ∧ m ∈ ns ∧ (∀ a ∈ ns, a ≤ m) ∧ Q (.int m) H
end
end My
set_option Elab.async false
set_option linter.all false
set_option maxRecDepth 100000
set_option maxHeartbeats 1000000
namespace My
open PySem PySem.W L2
open Sem (wp)
open AutoSeq1 (wpAny_loadPart')
open PyProof.Rows (Call_ boot_enumerate)
section
variable {prog : Program} {w : World} {A : Around} {E : Value → Shared → Prop} {s : Shared}
end
def IteT (K : Frag) (a : Addr) : It :=
  ⟨fun i H => ∃ xs x, SqT K H a xs ∧ xs[i]? = some x, fun i H x H' => ∃ p y, x = .ref p ∧ H p = none ∧ H' = upd H p (.tup [.int i, y]) ∧ ∀ xs, SqT K H a xs → xs[i]? = some y, fun i H => ∃ xs, SqT K H a xs ∧ xs.length ≤ i⟩
section
variable {X : Cx}
def iEnumT (K : Frag) (ta : TA) : TI := fun σ H R => ta σ H fun vs H1 => ∃ a, vs = [.ref a] ∧ (∃ xs, SqT K H1 a xs) ∧ R (IteT K a) H1
end
end My
set_option Elab.async false
set_option linter.all false
set_option maxRecDepth 100000
set_option maxHeartbeats 1000000
namespace My
open PySem PySem.W L2 PyProof.Rows
section
variable {X : Cx} {e : Expr} {te : TE} {pos p1 p2 p3 : Pos}
def tRev (K : Frag) (te : TE) : TE := fun σ H Q => te σ H fun x H1 => ∃ a xs, x = .ref a ∧ SqL K H1 a xs ∧ ∀ p, H1 p = none → Q (.ref p) (upd H1 p (.lst xs.reverse))
def rIsNotB : R2 := fun x y H Q => ∃ c d, x = .bl c ∧ y = .bl d ∧ Q (.bl (c != d)) H
def PXT (X : Cx) (σ : L2.St) (c : Expr) (t : TT) : Prop := ∀ (pins : List (Addr × Obj)) (s : Shared) (H : Hp) (Q : Bool → Hp → Prop), Inv X pins σ H s → t σ H Q → wpAny (model X.prog X.w) X.A (isTrue c X.env (eval c X.env)) (TP X pins σ Q) X.xe s
end
end My
set_option Elab.async false
set_option linter.all false
set_option maxRecDepth 100000
set_option maxHeartbeats 1000000
namespace My
open PySem PySem.W L2
structure OneF (K : Frag) (mg : Str → Option Value) (D : Addr) (nm fld : Str) (C f : Addr) (fd : FuncData) : Prop where
  cls : ErrC K D nm C f
  mgC : mg nm = some (.ref C)
  ok : ∀ (P : Program) (w : World) (base : Heap), FnOk P w K mg base CX0 1 f fd ["self", fld] (spErr C fld)
  bi : Binds K fd ["self", fld] []
structure Df (P : Program) (w : World) (K : Frag) (mg : Str → Option Value) (base : Heap) (cx : CXT) (k : Nat) (nm : Str) (ps : List Str) (sp : Sp) (g : Addr) (gd : FuncData) : Prop where
  G : FnOk P w K mg base cx k g gd ps sp
  b : Binds K gd ps []
  kp : keepIn K (.ref g) = true
  m : mg nm = some (.ref g)
theorem passN {P : Program} {w : World} {X : Cx} : Passes (CXE P w) X E0 := fun _ _ _ _ _ _ _ h => by
  obtain ⟨_, _, _, _, _, _, _, _, _, _, _, _, _, h⟩ := h
  exact h.elim
def ErrF (C : Addr) (fld : Str) (x : V) (H : Hp) (E : XK) : Prop := ∀ e dx, H e = none → H dx = none → dx ≠ e → E (.ref C) (some e) (upd (upd H dx (.xd [(fld, x)])) e (ErrT e C (some dx)))
def NoK (K : Frag) (H : Hp) (v : V) (n : String) : Prop := ∃ t, Kd K H v t ∧ kitOne K t (.type n) = some false
theorem NoK.ext {K : Frag} {H H' : Hp} {v : V} {n : String} (h : NoK K H v n) (x : Ext H H') : NoK K H' v n := by
  obtain ⟨t, k, e⟩ := h
  exact ⟨t, k.ext x, e⟩
theorem inD_int {lo hi : Int} {d : PyData} (h : inD lo hi d = true) : ∃ i, d = .int i ∧ lo ≤ i ∧ i ≤ hi := by
  cases d with
  | int i =>
    have h' : (decide (lo ≤ i) && decide (i ≤ hi)) = true := h
    rw [Bool.and_eq_true, decide_eq_true_iff, decide_eq_true_iff] at h'
    exact ⟨i, rfl, h'.1, h'.2⟩
  | _ => cases h
def FirstB (bs : List Bool) (i : Nat) : Prop := (∀ j b, j < i → bs[j]? = some b → b = true) ∧ bs[i]? = some false
section
variable {P : Program} {w : World} {K : Frag} {mg : Str → Option Value} {base : Heap}
theorem Ext.err {H : Hp} {C e dx : Addr} {fld : Str} {v : V} (h1 : H e = none) (h2 : H dx = none) (ne : dx ≠ e) : Ext H (upd (upd H dx (.xd [(fld, v)])) e (ErrT e C (some dx))) := by
  have x2 := Ext.new (o := .xd [(fld, v)]) h2
  have he2 : upd H dx (.xd [(fld, v)]) e = none := by rw [upd_ne ne.symm]; exact h1
  exact x2.trans (Ext.new (o := ErrT e C (some dx)) he2)
end
theorem ext_upd {H0 H : Hp} {l : Addr} (o : HO) (x : Ext H0 H) (h : H0 l = none) : Ext H0 (upd H l o) := fun b u e => by
  rw [upd_ne (fun z => by rw [z, h] at e; cases e)]
  exact x b u e
theorem take_all {α : Type} {xs : List α} {i : Nat} {x : α} (h : xs[i]? = some x) : xs.take (i + 1) = xs.take i ++ [x] := by
  rw [List.take_succ, h]
  rfl
def Kept (H H' : Hp) (p : Addr) : Prop := ∀ b o, H b = some o → b ≠ p → H' b = some o
theorem Kept.refl (H : Hp) (p : Addr) : Kept H H p := fun _ _ h _ => h
theorem Kept.trans {H H1 H2 : Hp} {p : Addr} (x : Kept H H1 p) (y : Kept H1 H2 p) : Kept H H2 p := fun b o h n => y b o (x b o h n) n
theorem Ext.kept {H H' : Hp} (x : Ext H H') (p : Addr) : Kept H H' p := fun b o h _ => x b o h
def wo (H : Hp) (p : Addr) : Hp := fun b => if b = p then none else H b
theorem wo_ext (H : Hp) (p : Addr) : Ext (wo H p) H := fun b o e => by
  unfold wo at e
  split at e
  · cases e
  · exact e
theorem wo_at {H : Hp} {p b : Addr} {o : HO} (n : b ≠ p) (e : H b = some o) : wo H p b = some o := by unfold wo; rw [if_neg n]; exact e
theorem wo_kept {H H' : Hp} {p : Addr} (k : Kept H H' p) : Ext (wo H p) (wo H' p) := fun b o e => by
  unfold wo at e
  split at e
  · cases e
  · rename_i n
    exact wo_at n (k b o e n)
structure BoxAt (H : Hp) (p : Addr) : Prop where
  ex : ∃ a b c : Int, H p = some (.lst [.int a, .int b, .int c]) ∧ 0 ≤ a ∧ 0 ≤ b ∧ 0 ≤ c ∧ c < 2147483647
theorem BoxAt.ext {H H' : Hp} {p : Addr} (h : BoxAt H p) (x : Ext H H') : BoxAt H' p := by
  obtain ⟨a, b, c, e, r⟩ := h.ex
  exact ⟨a, b, c, x _ _ e, r⟩
theorem BoxAt.ne {H : Hp} {p q : Addr} (h : BoxAt H p) (e : H q = none) : q ≠ p := fun z => by
  obtain ⟨a, b, c, f, _⟩ := h.ex
  rw [z, f] at e
  cases e
def tCallZ (sp : Sp) (E : XK) (t : TA) : TE := fun σ H Q => t σ H fun vs H1 => H1 sysModules = none → sp vs H1 Q E
section
variable {X : Cx} {CX : CXT} {k : Nat} {f : Addr} {fd : FuncData} {ps : List Str} {sp : Sp} {E : XK} {x : Str} {p pos : Pos} {e : Expr} {es : List Expr} {t : TA} {σ : St}
end
structure Fi (k n : Nat) (d : PyData) : Prop where
  sh : d.showable = true
  dp : d.depth ≤ k
  lv : d.leavesShort 64 = true
  bk : d.bulk ≤ n
structure Fis (k n : Nat) (ds : List PyData) : Prop where
  sh : PyData.showableAll ds = true
  dp : PyData.depthAll ds ≤ k
  lv : PyData.leavesShortAll 64 ds = true
  bk : PyData.bulkAll ds ≤ (n + 1) * ds.length
theorem Fi.mono {k k' n n' : Nat} {d : PyData} (f : Fi k n d) (h1 : k ≤ k') (h2 : n ≤ n') : Fi k' n' d := ⟨f.sh, Nat.le_trans f.dp h1, f.lv, Nat.le_trans f.bk h2⟩
theorem Fis.of {k n : Nat} : ∀ {ds : List PyData}, (∀ d ∈ ds, Fi k n d) → Fis k n ds
  | [], _ => ⟨by simp [PyData.showableAll], by simp [PyData.depthAll], by simp [PyData.leavesShortAll], by simp [PyData.bulkAll]⟩
  | d :: ds, h => by
    have f := h d (List.mem_cons_self ..)
    have g := Fis.of (ds := ds) fun x hx => h x (List.mem_cons_of_mem _ hx)
    refine ⟨?_, ?_, ?_, ?_⟩
    · simp only [PyData.showableAll, f.sh, g.sh, Bool.and_self]
    · have h1 := f.dp; have h2 := g.dp
      simp only [PyData.depthAll]; omega
    · simp only [PyData.leavesShortAll, f.lv, g.lv, Bool.and_self]
    · have h1 := f.bk; have h2 := g.bk
      simp only [PyData.bulkAll, List.length_cons, Nat.mul_add]; omega
theorem Fi.show {k n : Nat} {d : PyData} (f : Fi k n d) (hk : k ≤ 10) (hn : n ≤ 200000) : Show d := by
  refine ⟨f.sh, Nat.le_trans f.dp hk, ?_⟩
  have e := PyData.shown_le_bulk 64 (by decide) d f.lv
  have e2 : (64 + 2) * d.bulk ≤ 66 * 200000 := Nat.mul_le_mul_left _ (Nat.le_trans f.bk hn)
  rw [sizeLine_eq]
  omega
theorem fi_int {i : Int} (h : i.natAbs < 10 ^ 30) : Fi 0 2 (.int i) := by
  refine ⟨?_, by simp [PyData.depth], ?_, by simp [PyData.bulk]⟩
  · simp only [PyData.showable, decide_eq_true_eq]
    by_cases z : i.natAbs = 0
    · rw [z]; decide
    · exact (Nat.log2_lt z).mpr (Nat.lt_trans h (by decide +kernel))
  · have e := int_text_length_le10 (k := 30) (by decide) h
    simp only [PyData.leavesShort, PyData.shown]
    refine decide_eq_true (show (Str.ofString (toString i)).length ≤ 64 from ?_)
    rw [ofString_length]
    omega
theorem fi_small {i : Int} (h1 : -1000000000 ≤ i) (h2 : i ≤ 1000000000) : Fi 0 2 (.int i) := fi_int (Nat.lt_of_le_of_lt (show i.natAbs ≤ 1000000000 by omega) (by decide))
section
variable {X : Cx} {σ : St} {e : Expr} {es : List Expr} {t : TA} {p pos : Pos} {x : Str} {r : List V → Hp → VK → Prop}
end
structure FldOk (K : Frag) (C : Addr) (fld : Str) : Prop where
  it : ErrI K C
  hd : hasDictIn K C = true
  nf : findIn K (.ref C) fld = some none
section
variable {K : Frag} {H : Hp} {D : Ends} {σ : St} {p : Addr}
theorem BoxAt.neL {t : Addr} {xs : List V} (b : BoxAt H p) (h : H t = some (.lst xs)) (n : xs.length ≠ 3) : t ≠ p := fun e => by
  subst e
  obtain ⟨_, _, _, hp, _⟩ := b
  rw [h] at hp
  cases hp
  exact n rfl
theorem rd_op {r : R2} {ta tb : TE} {Q : VK} (h : ta σ H fun x H1 => tb σ H1 fun y H2 => r x y H2 Q) : tOp r ta tb σ H Q := h
theorem BoxAt.up {l : Addr} {o : HO} (b : BoxAt H p) (n : l ≠ p) : BoxAt (upd H l o) p := by
  obtain ⟨x, y, z, hp, r⟩ := b
  exact ⟨x, y, z, by rw [upd_ne n.symm]; exact hp, r⟩
theorem rd_set {te : TE} {i : Nat} {u : TS} (h : te σ H fun v H1 => u D (σ.set i (some v)) H1) : tSeq (tAsg te (gName i)) u D σ H := h
end
def Small (d : PyData) : Prop := ∀ ds, d = .list ds → ds.length < 10000
def RdF (G : Hp) (xs : List V) (n : Nat) : Prop := ∃ ds, RdsAll G xs ds ∧ ds.length ≤ n ∧ ∀ d ∈ ds, Fi 2 60 d
section
variable {G G' : Hp} {xs ys : List V} {n m : Nat}
theorem RdF.mono (h : RdF G xs n) (x : Ext G G') : RdF G' xs n := by
  obtain ⟨ds, r, l, f⟩ := h
  exact ⟨ds, RdsAll.mono x r, l, f⟩
theorem RdF.app (h : RdF G xs n) (k : RdF G ys m) : RdF G (xs ++ ys) (n + m) := by
  obtain ⟨ds, r, l, f⟩ := h
  obtain ⟨es, r', l', f'⟩ := k
  refine ⟨ds ++ es, r.append r', by rw [List.length_append]; omega, fun d hd => ?_⟩
  rcases List.mem_append.mp hd with hd | hd
  · exact f d hd
  · exact f' d hd
theorem RdF.nil : RdF G [] 0 := ⟨[], .nil, Nat.le_refl _, (fun _ h => nomatch h)⟩
theorem RdF.one {v : V} {d : PyData} (r : Rds G v d) (f : Fi 2 60 d) : RdF G [v] 1 := ⟨[d], .cons r .nil, Nat.le_refl _, fun e he => by cases List.mem_singleton.mp he; exact f⟩
theorem RdsAll.drop : ∀ {xs : List V} {ds : List PyData} (i : Nat), RdsAll G xs ds → RdsAll G (xs.drop i) (ds.drop i)
  | _, _, 0, h => h
  | _, _, i + 1, .nil => .nil
  | _, _, i + 1, .cons _ t => RdsAll.drop i t
theorem RdsAll.take : ∀ {xs : List V} {ds : List PyData} (i : Nat), RdsAll G xs ds → RdsAll G (xs.take i) (ds.take i)
  | _, _, 0, h => .nil
  | _, _, i + 1, .nil => .nil
  | _, _, i + 1, .cons r t => .cons r (RdsAll.take i t)
theorem RdF.cut (h : RdF G xs n) (lo hi : Option Int) : RdF G (cutV xs lo hi) n := by
  obtain ⟨ds, r, l, f⟩ := h
  unfold cutV
  refine ⟨_, (r.drop _).take _, ?_, fun d hd => f d (List.mem_of_mem_drop (List.mem_of_mem_take hd))⟩
  rw [List.length_take, List.length_drop]
  omega
theorem RdF.rep (h : RdF G xs n) : ∀ k : Nat, RdF G (List.replicate k xs).flatten (k * n)
  | 0 => by rw [Nat.zero_mul]; exact RdF.nil
  | k + 1 => by
    rw [List.replicate_succ, List.flatten_cons, Nat.succ_mul, Nat.add_comm]
    exact h.app (RdF.rep h k)
theorem RdF.len (h : RdF G xs n) : xs.length ≤ n := by
  obtain ⟨ds, r, l, f⟩ := h
  rw [r.length]
  exact l
theorem RdF.get (h : RdF G xs n) {i : Nat} {v : V} (e : xs[i]? = some v) : ∃ d, Rds G v d ∧ Fi 2 60 d := by
  obtain ⟨ds, r, l, f⟩ := h
  obtain ⟨d, ed, rd⟩ := r.get e
  exact ⟨d, rd, f d (List.mem_of_getElem? ed)⟩
end
def wt (H : Hp) (p t : Addr) : Hp := wo (wo H p) t
def Tg (G : Hp) (v : V) : Prop := ∃ d, Rds G v d ∧ Fi 3 30000 d ∧ Small d
theorem Tg.mono {G G' : Hp} {v : V} (h : Tg G v) (x : Ext G G') : Tg G' v := by
  obtain ⟨d, r, f⟩ := h
  exact ⟨d, r.mono x, f⟩
theorem wo_ne {H : Hp} {p a : Addr} {o : HO} (h : wo H p a = some o) : a ≠ p := fun e => by
  unfold wo at h
  rw [if_pos e] at h
  cases h
theorem wo_ex {H H' : Hp} (x : Ext H H') (p : Addr) : Ext (wo H p) (wo H' p) := wo_kept (x.kept p)
structure GE (p : Addr) (k m : Nat) (te : TE) : Prop where
  h : ∀ (σ : St) (H : Hp) (Q : VK), BoxAt H p → (∀ v H', Ext H H' → (∃ d, Rds (wo H' p) v d ∧ Fi k m d) → Q v H') → te σ H Q
structure GA (p : Addr) (k m n : Nat) (t : TA) : Prop where
  h : ∀ (σ : St) (H : Hp) (Q : List V → Hp → Prop), BoxAt H p → (∀ vs H', Ext H H' → (∃ ds, RdsAll (wo H' p) vs ds ∧ ds.length = n ∧ ∀ d ∈ ds, Fi k m d) → Q vs H') → t σ H Q
section
variable {p : Addr} {k m k' m' n : Nat} {te ta tb : TE} {t : TA}
theorem GE.mono (h : GE p k m te) (h1 : k ≤ k') (h2 : m ≤ m') : GE p k' m' te := ⟨fun σ H Q bx q => h.h σ H Q bx fun v H' x ⟨d, r, f⟩ => q v H' x ⟨d, r, f.mono h1 h2⟩⟩
theorem ge_leaf {v : V} {d : PyData} (r : ∀ G, Rds G v d) (f : Fi k m d) : GE p k m (tC v) := ⟨fun σ H Q bx q => q v H (Ext.refl _) ⟨d, r _, f⟩⟩
theorem ge_int {i : Int} (h1 : -1000000000 ≤ i) (h2 : i ≤ 1000000000) : GE p 0 2 (tC (.int i)) := ge_leaf (fun _ => .int _) (fi_small h1 h2)
end
theorem err_at {C : Addr} {fld : Str} {v : V} {H1 : Hp} {E' : XK} (h : ∀ e dx H', Ext H1 H' → H' e = some (ErrT e C (some dx)) → H' dx = some (.xd [(fld, v)]) → E' (.ref C) (some e) H') : ErrF C fld v H1 E' := fun e dx he hdx ne => by
  have x2 := Ext.new (o := .xd [(fld, v)]) hdx
  have he2 : upd H1 dx (.xd [(fld, v)]) e = none := by rw [upd_ne ne.symm]; exact he
  have x3 := Ext.new (o := ErrT e C (some dx)) he2
  exact h e dx _ (x2.trans x3) upd_same (x3 _ _ upd_same)
section
variable {X : Cx}
def rNeNil (K : Frag) : R2 := fun x y H Q => ∃ p q xs, x = .ref p ∧ y = .ref q ∧ SqL K H p xs ∧ SqL K H q [] ∧ Q (.bl (!xs.isEmpty)) H
theorem op_neNil (hu : X.A.units < cLine) : OpR X (compareOp .NotEq) (rNeNil X.K) := by
  intro pins s σ H x y v u Q I rx ry h
  obtain ⟨p, q, xs, rfl, rfl, hp, hq, k⟩ := h
  cases rx
  cases ry
  obtain ⟨its, r1, t1, _⟩ := I.list hp
  obtain ⟨jts, r2, t2, _⟩ := I.list hq
  have l1 := r1.length
  have l2 := r2.length
  have e2 : jts = [] := List.length_eq_zero_iff.mp l2.symm
  subst e2
  cases xs with
  | nil =>
    have e1 : its = [] := List.length_eq_zero_iff.mp l1.symm
    subst e1
    exact SeqAt.RcNeAt.lists (e := fun _ => true) t1.isList t2.isList rfl hu (fun j h _ => absurd h (Nat.not_lt_zero _)) X.prog X.w X.xe _ ⟨.bl false, H, I, rfl, k⟩
  | cons x xs =>
    exact SeqAt.RcNeAt.lists_lengths t1.isList t2.isList (by simp [← l1]) hu X.prog X.w X.xe _ ⟨.bl true, H, I, rfl, k⟩
def rOr (r1 r2 : R2) : R2 := fun x y H Q => r1 x y H Q ∨ r2 x y H Q
theorem op_either {f : Value → Value → Sem Value} {r1 r2 : R2} (h1 : OpR X f r1) (h2 : OpR X f r2) : OpR X f (rOr r1 r2) := by
  intro pins s σ H x y v u Q I rx ry h
  rcases h with h | h
  · exact h1 pins s σ H x y v u Q I rx ry h
  · exact h2 pins s σ H x y v u Q I rx ry h
end
theorem rd_lst {t : TA} {σ : St} {H : Hp} {Q : VK} (h : t σ H fun xs H1 => xs.length ≤ sizeLine ∧ ∀ p, H1 p = none → Q (.ref p) (upd H1 p (.lst xs))) : tLst t σ H Q := h
def tNegC (i : Int) : TE := tUn (rU fun i => .int (-i)) (tC (.int i))
structure Pt (G : Hp → Hp) (H : Hp) : Prop where
  mono : ∀ {H1 H2 : Hp}, Ext H1 H2 → Ext (G H1) (G H2)
  new : ∀ {H1 : Hp} {a : Addr} {o : HO}, Ext H H1 → H1 a = none → G (upd H1 a o) a = some o
theorem Pt.ext {G : Hp → Hp} {H H' : Hp} (h : Pt G H) (x : Ext H H') : Pt G H' := ⟨h.mono, fun y => h.new (x.trans y)⟩
theorem BoxAt.some {H : Hp} {p : Addr} (b : BoxAt H p) : ∃ u, H p = some u := by
  obtain ⟨_, _, _, h, _⟩ := b.ex
  exact ⟨_, h⟩
structure GF (G : Hp → Hp) (σ : St) (H0 : Hp) (k m : Nat) (te : TE) : Prop where
  h : ∀ (H : Hp) (Q : VK), Pt G H → Ext H0 H → (∀ v H', Ext H H' → (∃ d, Rds (G H') v d ∧ Fi k m d) → Q v H') → te σ H Q
structure GB (G : Hp → Hp) (σ : St) (H0 : Hp) (k m n : Nat) (t : TA) : Prop where
  h : ∀ (H : Hp) (Q : List V → Hp → Prop), Pt G H → Ext H0 H → (∀ vs H', Ext H H' → (∃ ds, RdsAll (G H') vs ds ∧ ds.length = n ∧ ∀ d ∈ ds, Fi k m d) → Q vs H') → t σ H Q
section
variable {G : Hp → Hp} {σ : St} {H0 : Hp} {k m k' m' n : Nat} {te ta tb : TE} {t : TA}
theorem GF.mono (h : GF G σ H0 k m te) (h1 : k ≤ k') (h2 : m ≤ m') : GF G σ H0 k' m' te := ⟨fun H Q bx e q => h.h H Q bx e fun v H' x ⟨d, r, f⟩ => q v H' x ⟨d, r, f.mono h1 h2⟩⟩
end
section
variable {H : Hp}
end
section
variable {K : Frag} {H : Hp}
def tLstN (K : Frag) (t : TA) : TE := fun σ H Q => t σ H fun xs H1 => xs.length ≤ sizeLine ∧ ∀ p, H1 p = none → K.lookup p = none → Q (.ref p) (upd H1 p (.lst xs))
end
section
variable {H : Hp} {De : Ends}
theorem rd_seq {σ : St} {t u : TS} (h : t { De with nx := u De } σ H) : tSeq t u De σ H := h
end
def rGetL (K : Frag) : V → V → Hp → VK → Prop := fun o i H Q => ∃ (p : Addr) (xs : List V) (k : Nat) (v : V), o = .ref p ∧ i = .int (k : Nat) ∧ SqL K H p xs ∧ xs[k]? = some v ∧ Q v H
theorem SqL.kp {K : Frag} {H H' : Hp} {a p : Addr} {xs : List V} (h : SqL K H a xs) (k : Kept H H' p) (n : a ≠ p) : SqL K H' a xs := by
  rcases h with (h | ⟨o, h⟩) | h
  · exact .inl (.inl (k _ _ h n))
  · exact .inl (.inr ⟨o, k _ _ h n⟩)
  · exact .inr h
end My
set_option Elab.async false
set_option linter.all false
set_option maxRecDepth 100000
set_option maxHeartbeats 1000000
namespace My
open PySem PySem.W L2
theorem preSum_take (val : Nat → Int) (ns : List Int) (h : ∀ (i : Nat) (hi : i < ns.length), val i = ns[i]) : ∀ k, k ≤ ns.length → preSum val k = (ns.take k).sum
  | 0, _ => by simp [preSum]
  | k + 1, hk => by
    have ih := preSum_take val ns h k (by omega)
    have e : ns.take (k + 1) = ns.take k ++ [ns[k]] := take_all (List.getElem?_eq_getElem (by omega))
    show preSum val k + val k = _
    rw [ih, h k (by omega), e, List.sum_append]
    simp
section
variable {X : Cx}
def rSumL (K : Frag) : List V → Hp → VK → Prop := fun vs H Q => ∃ (l : Addr) (ns : List Int), vs = [.ref l] ∧ SqL K H l (ns.map V.int) ∧ Q (.int ns.sum) H
theorem call_sumL (hc : X.calm = true) : CallR X (.builtin "sum") (rSumL X.K) := by
  intro pins s σ H xs us Q I r h
  obtain ⟨l, ns, rfl, hl, q⟩ := h
  obtain ⟨u, rfl, ru⟩ := vals1 r
  cases (show u = Value.ref l from ru)
  obtain ⟨its, rv, p, hz⟩ := I.list hl
  obtain ⟨xs, rfl, rfl⟩ := ints_items rv
  have e : (xs.map fun p => Value.int p.1 p.2).toArray = intItems xs.toArray := by simp [intItems]
  have hL : s.heap.IsList l (intItems xs.toArray) := by rw [← e]; exact p.isList
  refine sum_intListG (I.ok.hd hc) hL fun h' tk t' hk => ?_
  have es : preSum (numAt xs.toArray) xs.toArray.size = (xs.map (·.1)).sum := by
    have := preSum_take (numAt xs.toArray) (xs.map (·.1)) (fun i hi => numAt_get (by simpa using hi)) xs.toArray.size (by simp)
    rw [this, List.take_of_length_le (by simp)]
  rw [es]
  exact ⟨.int _, H, I.kept hk, ⟨t', rfl⟩, q⟩
end
section
variable {X : Cx}
def rIsO (K : Frag) : List V → Hp → VK → Prop := fun vs H Q => ∃ x S t b, vs = [x, .ref S] ∧ Kd K H x t ∧ kitOne K t (.ref S) = some b ∧ Q (.bl b) H
theorem call_isO (N : IsT X.K) : CallR X (.builtin "isinstance") (rIsO X.K) := by
  intro pins s σ H xs us Q I r h
  obtain ⟨x, S, t, b, rfl, kd, e, q⟩ := h
  obtain ⟨u, u', rfl, ru, ru'⟩ := vals2 r
  cases (show u' = Value.ref S from ru')
  rcases kd with ty | ⟨p, ys, rfl, hq, rfl⟩ | ⟨a, C, rfl, ea, T, rfl⟩
  · exact isinst_ok I ru ty e fun tk => ⟨.bl b, H, I.tok _, rfl, q⟩
  · cases (show u = Value.ref p from ru)
    obtain ⟨its, _, ⟨o, h1, h2, _⟩, _⟩ := I.tuple hq
    exact kia_one kitx_tuple I.kIn ⟨o, h1, h2⟩ e (fun z => nomatch z) fun tk => ⟨.bl b, H, I.tok _, rfl, q⟩
  · cases (show u = Value.ref a from ru)
    exact kia_one (kitErr T N.gt N.tk) I.kIn (ea.inst I.hok) e (fun z => nomatch z) fun tk => ⟨.bl b, H, I.tok _, rfl, q⟩
end
mutual
def eqD : PyData → PyData → Bool
  | .list xs, .list ys => eqDs xs ys
  | .tuple xs, .tuple ys => eqDs xs ys
  | .none, .none => true
  | .bool a, .bool b => a == b
  | .bool a, .int j => (if a then (1 : Int) else 0) == j
  | .int i, .bool b => i == (if b then (1 : Int) else 0)
  | .int i, .int j => i == j
  | .str x, .str y => x == y
  | _, _ => false
def eqDs : List PyData → List PyData → Bool
  | [], [] => true
  | x :: xs, y :: ys => eqD x y && eqDs xs ys
  | _, _ => false
end
mutual
def plainD : PyData → Bool
  | .list xs => plainDs xs
  | .tuple xs => plainDs xs
  | .dict _ => false
  | _ => true
def plainDs : List PyData → Bool
  | [] => true
  | x :: xs => plainD x && plainDs xs
end
theorem plainDs_of : ∀ {ds : List PyData}, (∀ d ∈ ds, plainD d = true) → plainDs ds = true
  | [], _ => by simp [plainDs]
  | x :: xs, h => by
    simp only [plainDs, h x (List.mem_cons_self ..), plainDs_of fun d hd => h d (List.mem_cons_of_mem _ hd), Bool.and_self]
mutual
theorem eqD_refl : ∀ {d : PyData}, plainD d = true → eqD d d = true
  | .none, _ => by simp [eqD]
  | .bool b, _ => by simp [eqD]
  | .int i, _ => by simp [eqD]
  | .str x, _ => by simp [eqD]
  | .list xs, h => by simp only [eqD]; exact eqDs_refl (by simpa only [plainD] using h)
  | .tuple xs, h => by simp only [eqD]; exact eqDs_refl (by simpa only [plainD] using h)
  | .dict _, h => by simp [plainD] at h
theorem eqDs_refl : ∀ {ds : List PyData}, plainDs ds = true → eqDs ds ds = true
  | [], _ => by simp [eqDs]
  | d :: ds, h => by
    simp only [plainDs, Bool.and_eq_true] at h
    simp only [eqDs, eqD_refl h.1, eqDs_refl h.2, Bool.and_self]
end
mutual
theorem Rds.det {G : Hp} : ∀ {v : V} {d e : PyData}, Rds G v d → Rds G v e → d = e
  | _, _, _, .non, r => by cases r; rfl
  | _, _, _, .bl b, r => by cases r; rfl
  | _, _, _, .int i, r => by cases r; rfl
  | _, _, _, .str x, r => by cases r; rfl
  | _, _, _, .lst h t, r => by
    cases r with
    | lst h' t' => rw [h] at h'; cases h'; rw [RdsAll.det t t']
    | tup h' _ => rw [h] at h'; cases h'
    | dic0 h' => rw [h] at h'; cases h'
    | dic h' _ => rw [h] at h'; cases h'
  | _, _, _, .tup h t, r => by
    cases r with
    | lst h' _ => rw [h] at h'; cases h'
    | tup h' t' => rw [h] at h'; cases h'; rw [RdsAll.det t t']
    | dic0 h' => rw [h] at h'; cases h'
    | dic h' _ => rw [h] at h'; cases h'
  | _, _, _, .dic0 h, r => by
    cases r with
    | lst h' _ => rw [h] at h'; cases h'
    | tup h' _ => rw [h] at h'; cases h'
    | dic0 h' => rfl
    | dic h' _ => rw [h] at h'; cases h'
  | _, _, _, .dic h t, r => by
    cases r with
    | lst h' _ => rw [h] at h'; cases h'
    | tup h' _ => rw [h] at h'; cases h'
    | dic0 h' => rw [h] at h'; cases h'
    | dic h' t' => rw [h] at h'; cases h'; rw [Rds.det t t']
theorem RdsAll.det {G : Hp} : ∀ {vs : List V} {ds es : List PyData}, RdsAll G vs ds → RdsAll G vs es → ds = es
  | _, _, _, .nil, r => by cases r; rfl
  | _, _, _, .cons h t, r => by
    cases r with
    | cons h' t' => rw [Rds.det h h', RdsAll.det t t']
end
theorem eqDs_all : ∀ (xs ys : List PyData), ((List.range (min xs.length ys.length)).all (fun j => eqD (xs.getD j .none) (ys.getD j .none)) && xs.length == ys.length) = eqDs xs ys
  | [], [] => by simp [eqDs]
  | [], y :: ys => by simp [eqDs]
  | x :: xs, [] => by simp [eqDs]
  | x :: xs, y :: ys => by
    have ih := eqDs_all xs ys
    simp only [eqDs]
    rw [← ih, List.length_cons, List.length_cons, Nat.succ_min_succ, List.range_succ_eq_map, List.all_cons, List.all_map, Bool.and_assoc]
    congr 1
    rw [show (xs.length + 1 == ys.length + 1) = (xs.length == ys.length) from by simp]
    rfl
section
variable {X : Cx}
def EqE (H : Hp) (n : Nat) (x y : V) (b : Bool) : Prop := (∃ a, x = .ref a ∧ y = .ref a ∧ b = true) ∨ ∃ d e, Rds H x d ∧ Rds H y e ∧ plainD d = true ∧ plainD e = true ∧ d.depth ≤ n ∧ b = eqD d e
structure Rc2 (A : Around) (s : Shared) (u v : Value) (b : Bool) : Prop where
  eq : SeqAt.RcAt A s u v b
  ne : SeqAt.RcNeAt A s u v (!b)
structure Rc3 (A : Around) (s : Shared) (u v : Value) (b : Bool) : Prop where
  eq : SeqAt.RcAt A s u v b
  ne : SeqAt.RcNeAt A s u v (!b)
  at_ : SeqAt.EqAt A s u v b
theorem tups_rc {A : Around} {s : Shared} {p q : Addr} {its jts : List Value} (hu : A.units < cLine) (t1 : s.heap.IsTuple p its.toArray) (t2 : s.heap.IsTuple q jts.toArray) (e : Nat → Bool) (he : ∀ j (h1 : j < its.length) (h2 : j < jts.length), SeqAt.EqAt A.in1 s its[j] jts[j] (e j)) :
    Rc2 A s (.ref p) (.ref q) ((List.range (min its.length jts.length)).all e && its.length == jts.length) := by
  have h' : ∀ j (h1 : j < its.toArray.size) (h2 : j < jts.toArray.size), SeqAt.EqAt A.in1 s its.toArray[j] jts.toArray[j] (e j) := fun j h1 h2 => by
    simpa using he j (by simpa using h1) (by simpa using h2)
  have a := SeqAt.RcAt.tuples (e := e) t1 t2 hu h'
  have b := SeqAt.RcNeAt.tuples (e := e) t1 t2 hu h'
  rw [List.size_toArray, List.size_toArray] at a b
  exact ⟨a, b⟩
theorem lsts_rc {A : Around} {s : Shared} {p q : Addr} {its jts : List Value} (hu : A.units < cLine) (t1 : s.heap.IsList p its.toArray) (t2 : s.heap.IsList q jts.toArray) (e : Nat → Bool) (he : ∀ j (h1 : j < its.length) (h2 : j < jts.length), SeqAt.EqAt A.in1 s its[j] jts[j] (e j)) :
    Rc2 A s (.ref p) (.ref q) ((List.range (min its.length jts.length)).all e && its.length == jts.length) := by
  have h' : ∀ j (h1 : j < its.toArray.size) (h2 : j < jts.toArray.size), SeqAt.EqAt A.in1 s its.toArray[j] jts.toArray[j] (e j) := fun j h1 h2 => by
    simpa using he j (by simpa using h1) (by simpa using h2)
  by_cases sz : its.length = jts.length
  · have a := SeqAt.RcAt.lists (e := e) t1 t2 (by simpa using sz) hu h'
    have b := SeqAt.RcNeAt.lists (e := e) t1 t2 (by simpa using sz) hu h'
    rw [List.size_toArray] at a b
    have z : ((List.range (min its.length jts.length)).all e && its.length == jts.length) = (List.range its.length).all e := by
      rw [sz, Nat.min_self]
      simp
    rw [z]
    exact ⟨a, b⟩
  · have z : ((List.range (min its.length jts.length)).all e && its.length == jts.length) = false := by
      rw [show (its.length == jts.length) = false from by simpa using sz]
      simp
    rw [z]
    exact ⟨SeqAt.RcAt.lists_lengths t1 t2 (by simpa using sz) hu, SeqAt.RcNeAt.lists_lengths t1 t2 (by simpa using sz) hu⟩
theorem get_val {xs : List V} {its : List Value} (r : Vals xs its) {j : Nat} (h : j < its.length) : ∃ x, xs[j]? = some x ∧ RelV x its[j] := by
  have k : j < xs.length := by rw [r.length]; exact h
  obtain ⟨u, e, q⟩ := r.get (List.getElem?_eq_getElem k)
  rw [List.getElem?_eq_getElem h] at e
  cases e
  exact ⟨_, List.getElem?_eq_getElem k, q⟩
mutual
theorem eqD_rc {pins : List (Addr × Obj)} {σ : St} {H : Hp} {s : Shared} (I : Inv X pins σ H s) : ∀ {x : V} {d : PyData}, Rds H x d → ∀ {A : Around} {y : V} {e : PyData} {u v : Value}, Rds H y e → plainD d = true → plainD e = true → A.units + d.depth < cLine → RelV x u → RelV y v → Rc3 A s u v (eqD d e)
  | _, _, .non, A, y, e, u, v, ry, pd, pe, hu, ru, rv => by
    have h0 : A.units < cLine := by omega
    cases ru
    cases ry with
    | non => cases rv; simp only [eqD]; exact ⟨.none_none, .none_none, .same _⟩
    | bl b => cases rv; simp only [eqD]; exact ⟨.none_bool _, .none_bool _, .none_bool _⟩
    | int j => obtain ⟨t, rfl⟩ := rv; simp only [eqD]; exact ⟨.none_int _ _, .none_int _ _, .none_int _ _⟩
    | str z => obtain ⟨t, rfl⟩ := rv; simp only [eqD]; exact ⟨.none_str _ _, .none_str _ _, .none_str _ _⟩
    | lst h _ => cases rv; obtain ⟨its, _, t, _⟩ := I.list (SqL.of (K := X.K) h); simp only [eqD]; exact ⟨.none_list t.isList h0, .none_list t.isList h0, .none_list t.isList h0⟩
    | tup h _ => cases rv; obtain ⟨its, _, t, _⟩ := I.tuple (SqT.of (K := X.K) h); simp only [eqD]; exact ⟨.none_tuple t h0, .none_tuple t h0, .none_tuple t h0⟩
    | dic0 _ => simp [plainD] at pe
    | dic _ _ => simp [plainD] at pe
  | _, _, .bl a, A, y, e, u, v, ry, pd, pe, hu, ru, rv => by
    have h0 : A.units < cLine := by omega
    cases ru
    cases ry with
    | non => cases rv; simp only [eqD]; exact ⟨.bool_none _, .bool_none _, .bool_none _⟩
    | bl b => cases rv; simp only [eqD]; exact ⟨.bool_bool _ _, .bool_bool _ _, .bool_bool _ _⟩
    | int j => obtain ⟨t, rfl⟩ := rv; simp only [eqD]; exact ⟨.bool_int _ _ _, .bool_int _ _ _, .bool_int _ _ _⟩
    | str z => obtain ⟨t, rfl⟩ := rv; simp only [eqD]; exact ⟨.bool_str _ _ _, .bool_str _ _ _, .bool_str _ _ _⟩
    | lst h _ => cases rv; obtain ⟨its, _, t, _⟩ := I.list (SqL.of (K := X.K) h); simp only [eqD]; exact ⟨.bool_list _ t.isList h0, .bool_list _ t.isList h0, .bool_list _ t.isList h0⟩
    | tup h _ => cases rv; obtain ⟨its, _, t, _⟩ := I.tuple (SqT.of (K := X.K) h); simp only [eqD]; exact ⟨.bool_tuple _ t h0, .bool_tuple _ t h0, .bool_tuple _ t h0⟩
    | dic0 _ => simp [plainD] at pe
    | dic _ _ => simp [plainD] at pe
  | _, _, .int i, A, y, e, u, v, ry, pd, pe, hu, ru, rv => by
    have h0 : A.units < cLine := by omega
    obtain ⟨tu, rfl⟩ := ru
    cases ry with
    | non => cases rv; simp only [eqD]; exact ⟨.int_none _ _, .int_none _ _, .int_none _ _⟩
    | bl b => cases rv; simp only [eqD]; exact ⟨.int_bool _ _ _, .int_bool _ _ _, .int_bool _ _ _⟩
    | int j => obtain ⟨t, rfl⟩ := rv; simp only [eqD]; exact ⟨.int_int _ _ _ _, .int_int _ _ _ _, .int_int _ _ _ _⟩
    | str z => obtain ⟨t, rfl⟩ := rv; simp only [eqD]; exact ⟨.int_str _ _ _ _, .int_str _ _ _ _, .int_str _ _ _ _⟩
    | lst h _ => cases rv; obtain ⟨its, _, t, _⟩ := I.list (SqL.of (K := X.K) h); simp only [eqD]; exact ⟨.int_list _ _ t.isList h0, .int_list _ _ t.isList h0, .int_list _ _ t.isList h0⟩
    | tup h _ => cases rv; obtain ⟨its, _, t, _⟩ := I.tuple (SqT.of (K := X.K) h); simp only [eqD]; exact ⟨.int_tuple _ _ t h0, .int_tuple _ _ t h0, .int_tuple _ _ t h0⟩
    | dic0 _ => simp [plainD] at pe
    | dic _ _ => simp [plainD] at pe
  | _, _, .str x, A, y, e, u, v, ry, pd, pe, hu, ru, rv => by
    have h0 : A.units < cLine := by omega
    obtain ⟨tu, rfl⟩ := ru
    cases ry with
    | non => cases rv; simp only [eqD]; exact ⟨.str_none _ _, .str_none _ _, .str_none _ _⟩
    | bl b => cases rv; simp only [eqD]; exact ⟨.str_bool _ _ _, .str_bool _ _ _, .str_bool _ _ _⟩
    | int j => obtain ⟨t, rfl⟩ := rv; simp only [eqD]; exact ⟨.str_int _ _ _ _, .str_int _ _ _ _, .str_int _ _ _ _⟩
    | str z => obtain ⟨t, rfl⟩ := rv; simp only [eqD]; exact ⟨.str_str _ _ _ _, .str_str _ _ _ _, .str_str _ _ _ _⟩
    | lst h _ => cases rv; obtain ⟨its, _, t, _⟩ := I.list (SqL.of (K := X.K) h); simp only [eqD]; exact ⟨.str_list _ _ t.isList h0, .str_list _ _ t.isList h0, .str_list _ _ t.isList h0⟩
    | tup h _ => cases rv; obtain ⟨its, _, t, _⟩ := I.tuple (SqT.of (K := X.K) h); simp only [eqD]; exact ⟨.str_tuple _ _ t h0, .str_tuple _ _ t h0, .str_tuple _ _ t h0⟩
    | dic0 _ => simp [plainD] at pe
    | dic _ _ => simp [plainD] at pe
  | _, _, .lst (a := a') (xs := xs) (ds := ds) h rs, A, y, e, u, v, ry, pd, pe, hu, ru, rv => by
    have h0 : A.units < cLine := by omega
    cases ru
    obtain ⟨its, r1, t1, _⟩ := I.list (SqL.of (K := X.K) h)
    cases ry with
    | non => cases rv; simp only [eqD]; exact ⟨.list_none t1.isList h0, .list_none t1.isList h0, .list_none t1.isList h0⟩
    | bl b => cases rv; simp only [eqD]; exact ⟨.list_bool _ t1.isList h0, .list_bool _ t1.isList h0, .list_bool _ t1.isList h0⟩
    | int j => obtain ⟨t, rfl⟩ := rv; simp only [eqD]; exact ⟨.list_int _ _ t1.isList h0, .list_int _ _ t1.isList h0, .list_int _ _ t1.isList h0⟩
    | str z => obtain ⟨t, rfl⟩ := rv; simp only [eqD]; exact ⟨.list_str _ _ t1.isList h0, .list_str _ _ t1.isList h0, .list_str _ _ t1.isList h0⟩
    | @lst b' ys es h' ts =>
      cases rv
      obtain ⟨jts, r2, t2, _⟩ := I.list (SqL.of (K := X.K) h')
      have pds : plainDs ds = true := by simpa only [plainD] using pd
      have pes : plainDs es = true := by simpa only [plainD] using pe
      have dd : A.in1.units + PyData.depthAll ds < cLine := by rw [in1_units]; simp only [PyData.depth] at hu; omega
      have k := lsts_rc h0 t1.isList t2.isList (fun j => eqD (ds.getD j .none) (es.getD j .none)) (fun j h1 h2 => eqDs_at I rs ts pds pes dd r1 r2 h1 h2)
      rw [← r1.length, ← r2.length, rs.length, ts.length, eqDs_all] at k
      simp only [eqD]
      refine ⟨k.eq, k.ne, ?_⟩
      by_cases e : a' = b'
      · subst e
        rw [h] at h'
        cases h'
        have := RdsAll.det rs ts
        subst this
        rw [eqDs_refl pds]
        exact SeqAt.EqAt.same _
      · exact .of_refs e k.eq
    | tup h' _ => cases rv; obtain ⟨jts, _, t, _⟩ := I.tuple (SqT.of (K := X.K) h'); simp only [eqD]; exact ⟨.list_tuple t1.isList t h0, .list_tuple t1.isList t h0, .list_tuple t1.isList t h0⟩
    | dic0 _ => simp [plainD] at pe
    | dic _ _ => simp [plainD] at pe
  | _, _, .tup (a := a') (xs := xs) (ds := ds) h rs, A, y, e, u, v, ry, pd, pe, hu, ru, rv => by
    have h0 : A.units < cLine := by omega
    cases ru
    obtain ⟨its, r1, t1, _⟩ := I.tuple (SqT.of (K := X.K) h)
    cases ry with
    | non => cases rv; simp only [eqD]; exact ⟨.tuple_none t1 h0, .tuple_none t1 h0, .tuple_none t1 h0⟩
    | bl b => cases rv; simp only [eqD]; exact ⟨.tuple_bool _ t1 h0, .tuple_bool _ t1 h0, .tuple_bool _ t1 h0⟩
    | int j => obtain ⟨t, rfl⟩ := rv; simp only [eqD]; exact ⟨.tuple_int _ _ t1 h0, .tuple_int _ _ t1 h0, .tuple_int _ _ t1 h0⟩
    | str z => obtain ⟨t, rfl⟩ := rv; simp only [eqD]; exact ⟨.tuple_str _ _ t1 h0, .tuple_str _ _ t1 h0, .tuple_str _ _ t1 h0⟩
    | @tup b' ys es h' ts =>
      cases rv
      obtain ⟨jts, r2, t2, _⟩ := I.tuple (SqT.of (K := X.K) h')
      have pds : plainDs ds = true := by simpa only [plainD] using pd
      have pes : plainDs es = true := by simpa only [plainD] using pe
      have dd : A.in1.units + PyData.depthAll ds < cLine := by rw [in1_units]; simp only [PyData.depth] at hu; omega
      have k := tups_rc h0 t1 t2 (fun j => eqD (ds.getD j .none) (es.getD j .none)) (fun j h1 h2 => eqDs_at I rs ts pds pes dd r1 r2 h1 h2)
      rw [← r1.length, ← r2.length, rs.length, ts.length, eqDs_all] at k
      simp only [eqD]
      refine ⟨k.eq, k.ne, ?_⟩
      by_cases e : a' = b'
      · subst e
        rw [h] at h'
        cases h'
        have := RdsAll.det rs ts
        subst this
        rw [eqDs_refl pds]
        exact SeqAt.EqAt.same _
      · exact .of_refs e k.eq
    | lst h' _ => cases rv; obtain ⟨jts, _, t, _⟩ := I.list (SqL.of (K := X.K) h'); simp only [eqD]; exact ⟨.tuple_list t1 t.isList h0, .tuple_list t1 t.isList h0, .tuple_list t1 t.isList h0⟩
    | dic0 _ => simp [plainD] at pe
    | dic _ _ => simp [plainD] at pe
  | _, _, .dic0 _, _, _, _, _, _, _, pd, _, _, _, _ => by simp [plainD] at pd
  | _, _, .dic _ _, _, _, _, _, _, _, pd, _, _, _, _ => by simp [plainD] at pd
theorem eqDs_at {pins : List (Addr × Obj)} {σ : St} {H : Hp} {s : Shared} (I : Inv X pins σ H s) : ∀ {xs : List V} {ds : List PyData}, RdsAll H xs ds → ∀ {A : Around} {ys : List V} {es : List PyData} {its jts : List Value}, RdsAll H ys es → plainDs ds = true → plainDs es = true → A.units + PyData.depthAll ds < cLine → Vals xs its → Vals ys jts →
    ∀ {j : Nat} (h1 : j < its.length) (h2 : j < jts.length), SeqAt.EqAt A s its[j] jts[j] (eqD (ds.getD j .none) (es.getD j .none))
  | _, _, .nil, A, ys, es, its, jts, ts, pd, pe, hu, r1, r2, j, h1, h2 => by cases r1; exact absurd h1 (Nat.not_lt_zero _)
  | _, _, .cons (v := x) (d := d) r rs, A, ys, es, its, jts, ts, pd, pe, hu, r1, r2, j, h1, h2 => by
    cases ts with
    | nil => cases r2; exact absurd h2 (Nat.not_lt_zero _)
    | cons r' ts =>
      cases r1 with
      | cons q1 r1 =>
        cases r2 with
        | cons q2 r2 =>
          simp only [plainDs, Bool.and_eq_true] at pd pe
          simp only [PyData.depthAll] at hu
          cases j with
          | zero =>
            exact (eqD_rc I r (A := A) r' pd.1 pe.1 (by omega) q1 q2).at_
          | succ j => exact eqDs_at I rs (A := A) ts pd.2 pe.2 (by omega) r1 r2 (by simpa using h1) (by simpa using h2)
end
theorem eqE_at {pins : List (Addr × Obj)} {σ : St} {H : Hp} {s : Shared} {A : Around} {n : Nat} {x y : V} {b : Bool} {u v : Value} (I : Inv X pins σ H s) (h : EqE H n x y b) (hu : A.units + n < cLine) (ru : RelV x u) (rv : RelV y v) : SeqAt.EqAt A s u v b := by
  rcases h with ⟨a, rfl, rfl, rfl⟩ | ⟨d, e, r1, r2, p1, p2, dd, rfl⟩
  · cases (show u = Value.ref a from ru)
    cases (show v = Value.ref a from rv)
    exact SeqAt.EqAt.same _
  · exact (eqD_rc I r1 r2 p1 p2 (by omega) ru rv).at_
def rEqD (g : Bool → Bool) : R2 := fun x y H Q => ∃ d e, Rds H x d ∧ Rds H y e ∧ plainD d = true ∧ plainD e = true ∧ d.depth ≤ 20 ∧ Q (.bl (g (eqD d e))) H
theorem op_neD (hu : X.A.units + 64 < cLine) : OpR X (compareOp .NotEq) (rEqD not) := by
  intro pins s σ H x y v u Q I rx ry h
  obtain ⟨d, e, r1, r2, p1, p2, dd, k⟩ := h
  exact (eqD_rc I r1 r2 p1 p2 (by omega) rx ry).ne X.prog X.w X.xe _ ⟨.bl _, H, I, rfl, k⟩
def rEqR (K : Frag) (g : Bool → Bool) : R2 := fun x y H Q => ∃ p q xs ys, ∃ e : Nat → Bool, x = .ref p ∧ y = .ref q ∧ ((SqT K H p xs ∧ SqT K H q ys) ∨ (SqL K H p xs ∧ SqL K H q ys)) ∧ (∀ (j : Nat) a b, xs[j]? = some a → ys[j]? = some b → EqE H 20 a b (e j)) ∧
  Q (.bl (g ((List.range (min xs.length ys.length)).all e && xs.length == ys.length))) H
theorem rows_rcE {pins : List (Addr × Obj)} {σ : St} {H : Hp} {s : Shared} {A : Around} {p q : Addr} {xs ys : List V} {e : Nat → Bool} (I : Inv X pins σ H s) (hu : A.units + 64 < cLine) (h : (SqT X.K H p xs ∧ SqT X.K H q ys) ∨ (SqL X.K H p xs ∧ SqL X.K H q ys))
    (he : ∀ (j : Nat) a b, xs[j]? = some a → ys[j]? = some b → EqE H 20 a b (e j)) : Rc2 A s (.ref p) (.ref q) ((List.range (min xs.length ys.length)).all e && xs.length == ys.length) := by
  have he' : ∀ {its jts : List Value}, Vals xs its → Vals ys jts → ∀ j (h1 : j < its.length) (h2 : j < jts.length), SeqAt.EqAt A.in1 s its[j] jts[j] (e j) := fun {its jts} r1 r2 j h1 h2 => by
    obtain ⟨a, ea, qa⟩ := get_val r1 h1
    obtain ⟨b, eb, qb⟩ := get_val r2 h2
    exact eqE_at I (he j a b ea eb) (by rw [in1_units]; omega) qa qb
  rcases h with ⟨hp, hq⟩ | ⟨hp, hq⟩
  · obtain ⟨its, r1, t1, _⟩ := I.tuple hp
    obtain ⟨jts, r2, t2, _⟩ := I.tuple hq
    rw [r1.length, r2.length]
    exact tups_rc (by omega) t1 t2 e (he' r1 r2)
  · obtain ⟨its, r1, t1, _⟩ := I.list hp
    obtain ⟨jts, r2, t2, _⟩ := I.list hq
    rw [r1.length, r2.length]
    exact lsts_rc (by omega) t1.isList t2.isList e (he' r1 r2)
theorem op_eqR (hu : X.A.units + 64 < cLine) : OpR X (compareOp .Eq) (rEqR X.K id) := by
  intro pins s σ H x y v u Q I rx ry h
  obtain ⟨p, q, xs, ys, e, rfl, rfl, hs, he, k⟩ := h
  cases rx
  cases ry
  exact (rows_rcE I hu hs he).eq X.prog X.w X.xe _ ⟨.bl _, H, I, rfl, k⟩
theorem op_neR (hu : X.A.units + 64 < cLine) : OpR X (compareOp .NotEq) (rEqR X.K not) := by
  intro pins s σ H x y v u Q I rx ry h
  obtain ⟨p, q, xs, ys, e, rfl, rfl, hs, he, k⟩ := h
  cases rx
  cases ry
  exact (rows_rcE I hu hs he).ne X.prog X.w X.xe _ ⟨.bl _, H, I, rfl, k⟩
end
end My
set_option Elab.async false
set_option linter.all false
set_option maxRecDepth 100000
set_option maxHeartbeats 1000000
namespace My
open PySem PySem.W L2
def MethS (P : Program) (w : World) (K : Frag) (mg : Str → Option Value) (base : Heap) (CX : CXT) (k : Nat) (m : Str) (ps : List Str) (S : Addr → Prop) (sp : Addr → Sp) : Prop :=
  ∀ C, S C → Cls K C ∧ ∃ f fd, Meth K C m f ∧ FnOk P w K mg base CX k f fd ps (sp C) ∧ Binds K fd ps []
def tMethD (S : Addr → Prop) (m : Str) (sp : Addr → Sp) (E : XK) (ta : TE) (t : TA) : TE := fun σ H Q => ta σ H fun x H1 => ∃ a C dx fs, x = .ref a ∧ S C ∧ H1 a = some (.ins C dx fs) ∧ fs.lookup m = none ∧
  t σ H1 fun vs H2 => sp C (x :: vs) H2 Q E
section
variable {X : Cx} {CX : CXT} {k : Nat} {S : Addr → Prop} {ps : List Str} {sp : Addr → Sp} {E : XK} {x m : Str} {p pos apos : Pos} {e o : Expr} {es : List Expr} {ta : TE} {t : TA} {σ : St}
theorem pe_methD {pl : Sem Bool} (he : PE X o ta) (M : MethS X.prog X.w X.K X.mg X.base CX k m ps S sp) (hr : Room k X.A) (hx : Passes CX X E) (ha : PA X (e :: es) t)
    (hst : starEach (e :: es) X.env = (false, eval e X.env) :: starEach es X.env := by rfl) (hpl : (backTo pos (starEach es X.env)).any (·.1) = false := by rfl)
    (ht : eval (.Call (.Attribute o m apos) (e :: es) [] pos) X.env = (do
      let ov ← eval o X.env
      standAt apos.atName
      let (f, first) ← holding [ov] (getMethod ov m pl)
      callWith pos f first (backTo pos (starEach (e :: es) X.env)) (backToKw pos (keywordEach [] X.env))) := by rfl) :
    PE X (.Call (.Attribute o m apos) (e :: es) [] pos) (tMethD S m sp E ta t) := by
  intro pins s σ H Q I h
  refine PySem.W.methodCall_KW (pl := pl) (thn (he pins s σ H _ I h) fun u s1 ⟨x, H1, I1, rx, a, C, dx, fs, ex, hS, ea, l, q⟩ => ?_) ht
  subst ex
  obtain ⟨c, f, fd, hm, F, hb⟩ := M C hS
  obtain rfl : u = Value.ref a := rx
  refine getmeth_ok I1 ea c hm l ?_
  refine PySem.W.callWith_K (first := [.ref a]) (h₀ := X.base) I.ok.mod.kin hm.kp (thn (ha pos pins s1 σ H1 _ I1 q) fun us s2 ⟨vs, H2, I2, r, q2⟩ => ⟨I2.kIn, ?_⟩) hst hpl
  exact run_fn (us := .ref a :: us) (vs := .ref a :: vs) (dvs := []) F hr hb .nil hx I2 (.cons rfl r) (by rw [List.append_nil]; exact q2)
theorem pe_methD0 {pl : Sem Bool} (he : PE X o ta) (M : MethS X.prog X.w X.K X.mg X.base CX k m ps S sp) (hr : Room k X.A) (hx : Passes CX X E)
    (ht : eval (.Call (.Attribute o m apos) [] [] pos) X.env = (do
      let ov ← eval o X.env
      standAt apos.atName
      let (f, first) ← holding [ov] (getMethod ov m pl)
      callWith pos f first (backTo pos (starEach [] X.env)) (backToKw pos (keywordEach [] X.env))) := by rfl) :
    PE X (.Call (.Attribute o m apos) [] [] pos) (tMethD S m sp E ta tNil) := by
  intro pins s σ H Q I h
  refine PySem.W.methodCall_KW (pl := pl) (thn (he pins s σ H _ I h) fun u s1 ⟨x, H1, I1, rx, a, C, dx, fs, ex, hS, ea, l, q⟩ => ?_) ht
  subst ex
  obtain ⟨c, f, fd, hm, F, hb⟩ := M C hS
  obtain rfl : u = Value.ref a := rx
  refine getmeth_ok I1 ea c hm l ?_
  exact PySem.W.callWith_K0 (first := [.ref a]) I1.kIn hm.kp (run_fn (us := [.ref a]) (vs := [.ref a]) (dvs := []) F hr hb .nil hx I1 (.cons rfl .nil) q)
end
end My
set_option Elab.async false
set_option linter.all false
set_option maxRecDepth 100000
set_option maxHeartbeats 1000000
namespace My
open PySem PySem.W L2
section
variable {K : Frag} {te : TE} {tt : TT} {g : TG} {k : Nat} {cap : St} {D : Addr} {H1 : Hp} {Q : Hp → Prop} {a : Addr} {xs : List V}
theorem lcG_tup (Pv : Nat → List V → Hp → Prop) (hz : xs.length < sizeLine) (h0 : Pv 0 [] (upd H1 D (.lst [])))
    (hl : ∀ i ys H, Pv i ys H → SqT K H a xs)
    (hs : ∀ i x ys H, xs[i]? = some x → ys.length = i → H D = some (.lst ys) → Pv i ys H → ∀ os : St, os.length = k → ∀ R : VK, (∀ y H4, H4 D = some (.lst ys) → Pv (i + 1) (ys ++ [y]) (upd H4 D (.lst (ys ++ [y]))) → R y H4) → g x (os ++ cap) H fun σ2 H0 => (∃ os' : St, os'.length = k ∧ σ2 = os' ++ cap) ∧ te σ2 H0 R)
    (hd : ∀ ys H, ys.length = xs.length → H D = some (.lst ys) → Pv xs.length ys H → Q H) :
    ∃ W : Nat → Nat → List V → Hp → Prop, (∃ m, W 0 m [] (upd H1 D (.lst []))) ∧
      ∀ i m ys H2, W i m ys H2 → H2 D = some (.lst ys) ∧ (((Itt K a).stop i H2 ∧ Q H2) ∨ ((Itt K a).go i H2 ∧ ys.length < sizeLine ∧
        ∀ x H3, (Itt K a).yld i H2 x H3 → ∀ os : St, os.length = k → g x (os ++ cap) H3 fun σ2 H0 => (∃ os' : St, os'.length = k ∧ σ2 = os' ++ cap) ∧ te σ2 H0 fun y H4 => H4 D = some (.lst ys) ∧ ∃ m', m' < m ∧ W (i + 1) m' (ys ++ [y]) (upd H4 D (.lst (ys ++ [y]))))) := by
  refine ⟨fun i m ys H => m = xs.length - i ∧ i ≤ xs.length ∧ ys.length = i ∧ H D = some (.lst ys) ∧ Pv i ys H, ⟨xs.length, by simp, Nat.zero_le _, rfl, upd_same, h0⟩, ?_⟩
  rintro i m ys H ⟨rfl, hi, hy, hD, p⟩
  refine ⟨hD, ?_⟩
  have q := hl i ys H p
  by_cases hlt : i < xs.length
  · refine .inr ⟨⟨xs, xs[i], q, by simp [hlt]⟩, by omega, fun x H' y => ?_⟩
    obtain ⟨e, y⟩ := y
    subst e
    exact fun os los => hs i x ys _ (y xs q) hy hD p os los _ fun z H4 hD4 p4 => ⟨hD4, xs.length - (i + 1), by omega, rfl, hlt, by rw [List.length_append, hy]; rfl, upd_same, p4⟩
  · have e : i = xs.length := by omega
    subst e
    exact .inl ⟨⟨xs, q, Nat.le_refl _⟩, hd ys H hy hD p⟩
end
theorem keptUpd {H : Hp} {p : Addr} (o : HO) : Kept H (upd H p o) p := fun b u h n => by rw [upd_ne n]; exact h
def shareD : PyData → Bool
  | .tuple [.int a, .int b] => (decide (1 ≤ b) && (decide (0 ≤ a) && decide (a ≤ b))) && decide (Nat.gcd a.toNat b.toNat = 1)
  | _ => false
def coinD : PyData → Bool
  | .tuple [.int a, .int b] => shareD (.tuple [.int a, .int b]) && (decide (2 ≤ b) && decide (b ≤ 100))
  | _ => false
def upI (lo : Int) (n : Nat) : List Int := (List.range n).map fun k => lo + (k : Nat)
def tupD (p : List Int) : PyData := .tuple (p.map .int)
def lstD (p : List Int) : PyData := .list (p.map .int)
theorem upL_eq (lo : Int) (n : Nat) : upL lo n = (upI lo n).map V.int := by unfold upL upI; rw [List.map_map]; rfl
theorem rds_intsD (G : Hp) : ∀ (ns : List Int), RdsAll G (ns.map V.int) (ns.map PyData.int)
  | [] => .nil
  | n :: ns => .cons (.int _) (rds_intsD G ns)
theorem ints_of {G : Hp} : ∀ {p : List Int} {ys : List V}, RdsAll G ys (p.map PyData.int) → ys = p.map V.int
  | [], _, h => by cases h; rfl
  | n :: p, _, h => by
    cases h with
    | cons r t =>
      cases r
      rw [ints_of t]
      rfl
theorem rds_tups {G : Hp} {ps : List (List Int)} {xs : List V} (rs : RdsAll G xs (ps.map tupD)) {i : Nat} {x : V} {p : List Int} (hx : xs[i]? = some x) (hp : ps[i]? = some p) : ∃ a, x = .ref a ∧ G a = some (.tup (p.map V.int)) := by
  obtain ⟨d, ed, rd⟩ := rs.get hx
  rw [List.getElem?_map, hp] at ed
  cases ed
  obtain ⟨a, ys, rfl, ha, ry⟩ := rds_tup rd
  refine ⟨a, rfl, ?_⟩
  rw [← ints_of ry]
  exact ha
def dataO : HO → Bool
  | .lst _ => true
  | .tup _ => true
  | .dK _ => true
  | _ => false
mutual
theorem Rds.keep {G G' : Hp} (s : ∀ b o, G b = some o → dataO o = true → G' b = some o) : ∀ {v : V} {d : PyData}, Rds G v d → Rds G' v d
  | _, _, .non => .non
  | _, _, .bl b => .bl b
  | _, _, .int i => .int i
  | _, _, .str x => .str x
  | _, _, .lst e r => .lst (s _ _ e rfl) (RdsAll.keep s r)
  | _, _, .tup e r => .tup (s _ _ e rfl) (RdsAll.keep s r)
  | _, _, .dic0 e => .dic0 (s _ _ e rfl)
  | _, _, .dic e r => .dic (s _ _ e rfl) (Rds.keep s r)
theorem RdsAll.keep {G G' : Hp} (s : ∀ b o, G b = some o → dataO o = true → G' b = some o) : ∀ {vs : List V} {ds : List PyData}, RdsAll G vs ds → RdsAll G' vs ds
  | _, _, .nil => .nil
  | _, _, .cons r t => .cons (Rds.keep s r) (RdsAll.keep s t)
end
theorem Rds.kept {H H' : Hp} {x : Addr} {v : V} {d : PyData} {C dx : Addr} {fs : List (Str × V)} (r : Rds H v d) (hx : H x = some (.ins C dx fs)) (k : Kept H H' x) : Rds H' v d :=
  r.keep fun b o e h => k b o e fun z => by rw [z, hx] at e; cases e; cases h
inductive R0 where
  | split (n k : Int)
  | pairs (n a b : Int)
  | coins (n a b f : Int)
def R0.folk : R0 → Int
  | .split n _ => n
  | .pairs n _ _ => 2 * n
  | .coins n _ _ _ => n
def R0.begin : R0 → PyData
  | .split _ k => .int k
  | .pairs _ _ _ => .none
  | .coins _ _ _ _ => .int 0
def R0.told : R0 → PyData
  | .split n k => .tuple [.str "split", .int n, .int k]
  | .pairs n a b => .tuple [.str "pairs", .int n, .tuple [.int a, .int b]]
  | .coins n a b f => .tuple [.str "coins", .int n, .tuple [.int a, .int b], .int f]
def R0.kind : R0 → Nat
  | .split _ _ => 0
  | .pairs _ _ _ => 1
  | .coins _ _ _ _ => 2
def R0.ok : R0 → Prop
  | .split n k => 1 ≤ n ∧ n ≤ 20 ∧ 0 ≤ k ∧ k ≤ n
  | .pairs n a b => 1 ≤ n ∧ n ≤ 10 ∧ coinD (.tuple [.int a, .int b]) = true
  | .coins n a b f => 1 ≤ n ∧ n ≤ 20 ∧ coinD (.tuple [.int a, .int b]) = true ∧ 1 ≤ f ∧ f ≤ 20
theorem R0.folk_ok {r : R0} (h : r.ok) : 1 ≤ r.folk ∧ r.folk ≤ 20 := by
  cases r <;> simp only [R0.ok, R0.folk] at * <;> omega
def secs : Int → List Int → List (List Int)
  | _, [] => []
  | s, n :: ns => upI s n.toNat :: secs (s + n) ns
def cutP (m : Int) (ps : List (List Int)) : List (List Int) := (ps.map (·.filter fun x => decide (x < m))).filter fun p => decide (0 < p.length)
inductive Rl where
  | one (r : R0)
  | blocks (rs : List R0)
  | first (t : Rl) (m : Int)
def Rl.folk : Rl → Int
  | .one r => r.folk
  | .blocks rs => (rs.map R0.folk).sum
  | .first _ m => m
def Rl.begin : Rl → PyData
  | .one r => r.begin
  | .blocks [] => .tuple [.int 0, .none]
  | .blocks (r :: _) => .tuple [.int 0, r.begin]
  | .first t _ => t.begin
def Rl.told : Rl → PyData
  | .one r => r.told
  | .blocks rs => .tuple [.str "blocks", .tuple (rs.map R0.told)]
  | .first t m => .tuple [.str "first", t.told, .int m]
def Rl.parts : Rl → List (List Int)
  | .one r => [upI 0 r.folk.toNat]
  | .blocks rs => secs 0 (rs.map R0.folk)
  | .first t m => cutP m t.parts
def Rl.kind : Rl → Nat
  | .one r => r.kind
  | .blocks _ => 3
  | .first _ _ => 4
def Rl.inner : Rl → Rl
  | .first t _ => t.inner
  | t => t
def partsD (ps : List (List Int)) : PyData := .tuple (ps.map tupD)
def blocksD (ps : List (List Int)) : PyData := .list (ps.map lstD)
def Rl.ok : Rl → Prop
  | .one r => r.ok
  | .blocks rs => 1 ≤ rs.length ∧ rs.length ≤ 6 ∧ (∀ r ∈ rs, r.ok) ∧ (rs.map R0.folk).sum ≤ 20
  | .first t m => t.ok ∧ 0 ≤ m ∧ m ≤ t.folk
theorem sum_nonneg : ∀ {ns : List Int}, (∀ n ∈ ns, 0 ≤ n) → 0 ≤ ns.sum
  | [], _ => by simp
  | n :: ns, h => by
    have := h n (List.mem_cons_self ..)
    have := sum_nonneg fun x hx => h x (List.mem_cons_of_mem _ hx)
    simp only [List.sum_cons]
    omega
theorem Rl.folk_ok : ∀ {t : Rl}, t.ok → 0 ≤ t.folk ∧ t.folk ≤ 20
  | .one r, h => by have := R0.folk_ok h; simp only [Rl.folk]; omega
  | .blocks rs, h => by
    obtain ⟨_, _, h3, h4⟩ := h
    refine ⟨sum_nonneg fun n hn => ?_, h4⟩
    obtain ⟨r, hr, rfl⟩ := List.mem_map.mp hn
    have := R0.folk_ok (h3 r hr)
    omega
  | .first t m, h => by
    obtain ⟨h1, h2, h3⟩ := h
    have := Rl.folk_ok h1
    simp only [Rl.folk]
    omega
def mNames : List Str := ["folk", "begin", "steps", "told", "blocks", "state_ahead", "state_behind"]
structure Ob (C : Addr) (H : Hp) (v : V) (fk : Int) (bg tl pt : PyData) (X : List (Str × V) → Prop) : Prop where
  ex : ∃ a dx fs, v = .ref a ∧ H a = some (.ins C dx fs) ∧ fs.lookup ("size" : Str) = some (.int fk) ∧ (∃ b, fs.lookup ("first_state" : Str) = some b ∧ Rds H b bg) ∧ (∃ m, fs.lookup ("mark" : Str) = some m ∧ Rds H m tl) ∧ (∃ p, fs.lookup ("parts" : Str) = some p ∧ Rds H p pt) ∧ (∀ m ∈ mNames, fs.lookup m = none) ∧ X fs
def R0.extra (H : Hp) : R0 → List (Str × V) → Prop
  | .split _ _, _ => True
  | .pairs _ a b, fs => ∃ c, fs.lookup ("coin" : Str) = some c ∧ Rds H c (.tuple [.int a, .int b])
  | .coins _ a b f, fs => (∃ c, fs.lookup ("coin" : Str) = some c ∧ Rds H c (.tuple [.int a, .int b])) ∧ fs.lookup ("far" : Str) = some (.int f)
def Ru0 (C : Nat → Addr) (H : Hp) (r : R0) (v : V) : Prop := Ob (C r.kind) H v r.folk r.begin r.told (partsD [upI 0 r.folk.toNat]) (r.extra H)
def All0 (C : Nat → Addr) (H : Hp) (rs : List R0) (ws : List V) : Prop := rs.length = ws.length ∧ ∀ (i : Nat) r w, rs[i]? = some r → ws[i]? = some w → Ru0 C H r w
def RuB (C : Nat → Addr) (H : Hp) (rs : List R0) (v : V) : Prop := Ob (C 3) H v (Rl.blocks rs).folk (Rl.blocks rs).begin (Rl.blocks rs).told (partsD (Rl.blocks rs).parts) (fun fs => ∃ l ws, fs.lookup ("rules" : Str) = some (.ref l) ∧ H l = some (.tup ws) ∧ All0 C H rs ws)
def RuN (C : Nat → Addr) (H : Hp) : Rl → V → Prop
  | .one r, v => Ru0 C H r v
  | .blocks rs, v => RuB C H rs v
  | .first _ _, _ => False
def Ru (C : Nat → Addr) (H : Hp) : Rl → V → Prop
  | .one r, v => Ru0 C H r v
  | .blocks rs, v => RuB C H rs v
  | .first t m, v => Ob (C 4) H v m t.begin (Rl.first t m).told (partsD (Rl.first t m).parts) (fun fs => ∃ d, fs.lookup ("dealer" : Str) = some d ∧ RuN C H t.inner d)
theorem Ob.mono {C : Addr} {H H' : Hp} {v : V} {fk : Int} {bg tl pt : PyData} {X Y : List (Str × V) → Prop} (h : Ob C H v fk bg tl pt X) (x : Ext H H') (k : ∀ fs, X fs → Y fs) : Ob C H' v fk bg tl pt Y := by
  obtain ⟨a, dx, fs, rfl, ha, h1, ⟨b, h2, r2⟩, ⟨m, h3, r3⟩, ⟨p, h4, r4⟩, h5, h6⟩ := h.ex
  exact ⟨a, dx, fs, rfl, x _ _ ha, h1, ⟨b, h2, r2.mono x⟩, ⟨m, h3, r3.mono x⟩, ⟨p, h4, r4.mono x⟩, h5, k fs h6⟩
section
variable {C : Nat → Addr} {H H' : Hp}
theorem Ru0.ext {r : R0} {v : V} (h : Ru0 C H r v) (x : Ext H H') : Ru0 C H' r v := Ob.mono h x fun fs e => by
  cases r with
  | split _ _ => trivial
  | pairs _ a b =>
    obtain ⟨c, e1, e2⟩ := e
    exact ⟨c, e1, e2.mono x⟩
  | coins _ a b f =>
    obtain ⟨⟨c, e1, e2⟩, e3⟩ := e
    exact ⟨⟨c, e1, e2.mono x⟩, e3⟩
theorem All0.ext {rs : List R0} {ws : List V} (h : All0 C H rs ws) (x : Ext H H') : All0 C H' rs ws := ⟨h.1, fun i r w a b => Ru0.ext (h.2 i r w a b) x⟩
theorem RuB.ext {rs : List R0} {v : V} (h : RuB C H rs v) (x : Ext H H') : RuB C H' rs v := Ob.mono h x fun fs e => by
  obtain ⟨l, ws, e1, e2, e3⟩ := e
  exact ⟨l, ws, e1, x _ _ e2, e3.ext x⟩
theorem RuN.ext {t : Rl} {v : V} (h : RuN C H t v) (x : Ext H H') : RuN C H' t v := by
  cases t with
  | one r => exact Ru0.ext h x
  | blocks rs => exact RuB.ext h x
  | first _ _ => exact h.elim
theorem Ru.ext {t : Rl} {v : V} (h : Ru C H t v) (x : Ext H H') : Ru C H' t v := by
  cases t with
  | one r => exact Ru0.ext h x
  | blocks rs => exact RuB.ext h x
  | first t m => exact Ob.mono h x fun fs ⟨d, e1, e2⟩ => ⟨d, e1, e2.ext x⟩
theorem Ru.ob {t : Rl} {v : V} (h : Ru C H t v) : Ob (C t.kind) H v t.folk t.begin t.told (partsD t.parts) (fun _ => True) := by
  cases t with
  | one r => exact Ob.mono h (Ext.refl _) fun _ _ => trivial
  | blocks rs => exact Ob.mono h (Ext.refl _) fun _ _ => trivial
  | first t m => exact Ob.mono h (Ext.refl _) fun _ _ => trivial
theorem RuN.ru {t : Rl} {v : V} (h : RuN C H t v) : Ru C H t v := by
  cases t with
  | one r => exact h
  | blocks rs => exact h
  | first _ _ => exact h.elim
theorem Ru.ref {t : Rl} {v : V} (h : Ru C H t v) : ∃ a, v = .ref a := by
  obtain ⟨a, _, _, e, _⟩ := h.ob.ex
  exact ⟨a, e⟩
end
theorem R0.kind_lt (r : R0) : r.kind < 3 := by cases r <;> simp [R0.kind]
theorem Rl.kind_lt (t : Rl) : t.kind < 5 := by
  cases t with
  | one r => have := r.kind_lt; show r.kind < 5; omega
  | blocks _ => show 3 < 5; decide
  | first _ _ => show 4 < 5; decide
def fNames : List Str := ["size", "first_state", "mark", "parts", "coin", "far", "rules", "dealer"]
structure KR (K : Frag) (C : Nat → Addr) (CR : Addr) : Prop where
  cls : ∀ i, i < 5 → Cls K (C i)
  no : ∀ i, i < 5 → ∀ f ∈ fNames, NoAttr K (C i) f
  ha : ∀ i, i < 5 → PySem.W.findIn K (.ref (C i)) "__class__" = some (some (.builtin "object.__class__"))
  hn : PySem.W.specialIn K (.builtin "object.__class__") "__get__" = some (some (.builtin "getset_descriptor.__get__"))
  htk : PySem.W.takesIn K (.builtin "object.__class__") = some true
  hm : ∀ i, i < 5 → PySem.W.mroIn K (C i) (.type "object") = some true
  kk : ∀ i j, i < 5 → j < 5 → kitOne K (.ref (C i)) (.ref (C j)) = some (i == j)
  kR : ∀ i, i < 5 → kitOne K (.ref (C i)) (.ref CR) = some true
  kl : ∀ i, i < 5 → kitOne K (.ref (C i)) (.type "list") = some false
  kt : ∀ i, i < 5 → kitOne K (.ref (C i)) (.type "tuple") = some false
  ki : ∀ i, i < 5 → kitOne K (.ref (C i)) (.type "int") = some false
  kb : ∀ i, i < 5 → kitOne K (.ref (C i)) (.type "bool") = some false
def Is5 (C : Nat → Addr) (c : Addr) : Prop := ∃ i, i < 5 ∧ c = C i
section
variable {K : Frag} {C : Nat → Addr} {CR : Addr} {H : Hp}
theorem Ob.kd {i : Nat} {v : V} {fk : Int} {bg tl pt : PyData} {X : List (Str × V) → Prop} (Z : KR K C CR) (hi : i < 5) (h : Ob (C i) H v fk bg tl pt X) : Kd K H v (.ref (C i)) := by
  obtain ⟨a, dx, fs, rfl, ha, _⟩ := h.ex
  exact .inl (.ins ha (Z.cls i hi) (Z.ha i hi) Z.hn Z.htk (Z.hm i hi))
theorem Ru.kd {t : Rl} {v : V} (Z : KR K C CR) (h : Ru C H t v) : Kd K H v (.ref (C t.kind)) := h.ob.kd Z t.kind_lt
theorem rd_meth0 {m : Str} {sp : Addr → Sp} {E : XK} {ta : TE} {σ : St} {Q : VK} {t : Rl} {v : V} (hm : m ∈ mNames) (h : Ru C H t v) (ht : ∀ R : VK, R v H → ta σ H R) (q : sp (C t.kind) [v] H Q E) : tMethD (Is5 C) m sp E ta tNil σ H Q := by
  obtain ⟨a, dx, fs, rfl, ha, _, _, _, _, h5, _⟩ := h.ob.ex
  exact ht _ ⟨a, C t.kind, dx, fs, rfl, ⟨_, t.kind_lt, rfl⟩, ha, h5 m hm, q⟩
end
theorem R0.plain (r : R0) : plainD r.told = true := by cases r <;> simp [R0.told, plainD, plainDs]
theorem Rl.plain : ∀ t : Rl, plainD t.told = true
  | .one r => r.plain
  | .blocks rs => by
    have : plainDs (rs.map R0.told) = true := plainDs_of fun d hd => by
      obtain ⟨r, _, rfl⟩ := List.mem_map.mp hd
      exact r.plain
    simp only [Rl.told, plainD, plainDs, this, Bool.and_self]
  | .first t m => by simp only [Rl.told, plainD, plainDs, t.plain, Bool.and_self]
end My
set_option Elab.async false
set_option linter.all false
set_option maxRecDepth 100000
set_option maxHeartbeats 1000000
set_option exponentiation.threshold 5000
namespace My
open PySem PySem.W L2
def partV : V → V → Bool
  | x, .int j => decide (1 ≤ j) && inB 0 j x
  | _, _ => false
theorem partV_no {x y : V} (h : ∀ i, y ≠ .int i) : partV x y = false := by
  cases y with
  | int i => exact absurd rfl (h i)
  | _ => rfl
section
variable {P : Program} {w : World} {K : Frag} {mg : Str → Option Value} {base : Heap}
abbrev sIsNum : Stmt := top 8
def spIsNum (K : Frag) : Sp := fun vs H Q _ => ∃ x, vs = [x] ∧ Th K H x ∧ Q (.bl (numB x)) H
theorem scIN : FnScope ["thing"] ["thing"] (defScope sIsNum) := ⟨rfl, rfl, rfl, by decide +kernel, rfl, by decide +kernel, by decide +kernel⟩
theorem ok_isnum {f : Addr} {fd : FuncData} (N : IsT K) (F : Fun K "is_number" "is_number" sIsNum f fd) (mi : mg "isinstance" = none) (m1 : mg "int" = none) (m2 : mg "bool" = none) : FnOk P w K mg base CX0 1 f fd ["thing"] (spIsNum K) := by
  refine F.ok scIN (fun vs H Q E h => ?_) (fun cdv A outer s H vs Q E hr h => ?_)
  · obtain ⟨c, rfl, _⟩ := h
    rfl
  obtain ⟨x, rfl, th, q⟩ := h
  refine ⟨_, pss_one (ps_ret (pe_and (pe_callB (call_isK N) rfl mi PyProof.Rows.boot_isinstance (pa_cons (pv 0) (pa_cons (pe_ty rfl m1 PyProof.Rows.boot_int) pa_nil)))
    (pe_one (pe_not (pe_callB (call_isK N) rfl mi PyProof.Rows.boot_isinstance (pa_cons (pv 0) (pa_cons (pe_ty rfl m2 PyProof.Rows.boot_bool) pa_nil))))))), ?_⟩
  rcases th with ⟨i, rfl⟩ | ⟨n, t, b1, b2, kd, k1, k2, z⟩
  · exact ⟨_, rfl, _, _, _, _, rfl, .inl (.int i), k_ii, _, rfl, ⟨_, rfl, _, _, _, _, rfl, .inl (.int i), k_ib, _, rfl, q⟩⟩
  · rw [numB_no n] at q
    refine ⟨_, rfl, _, _, _, _, rfl, kd, k1, _, rfl, ?_⟩
    cases b1 with
    | false => exact itF q
    | true =>
      refine itT ⟨_, rfl, _, _, _, _, rfl, kd, k2, _, rfl, ?_⟩
      have e : (!b2) = false := z
      rw [e]
      exact q
abbrev sIsWh : Stmt := top 9
def spIsWh (K : Frag) : Sp := fun vs H Q _ => ∃ x lo hi, vs = [x, .int lo, .int hi] ∧ Th K H x ∧ Q (.bl (inB lo hi x)) H
theorem scIW : FnScope ["thing", "low", "high"] ["thing", "low", "high"] (defScope sIsWh) := ⟨rfl, rfl, rfl, by decide +kernel, rfl, by decide +kernel, by decide +kernel⟩
theorem ok_iswh {f g : Addr} {fd gd : FuncData} (F : Fun K "is_whole" "is_whole" sIsWh f fd) (G : FnOk P w K mg base CX0 1 g gd ["thing"] (spIsNum K)) (bG : Binds K gd ["thing"] []) (kG : keepIn K (.ref g) = true) (mG : mg "is_number" = some (.ref g)) :
    FnOk P w K mg base CX0 2 f fd ["thing", "low", "high"] (spIsWh K) := by
  refine F.ok scIW (fun vs H Q E h => ?_) (fun cdv A outer s H vs Q E hr h => ?_)
  · obtain ⟨c, lo, hi, rfl, _⟩ := h
    rfl
  obtain ⟨x, lo, hi, rfl, th, q⟩ := h
  refine ⟨_, pss_one (ps_ret (pe_and (pe_call G hr rfl mG kG bG .nil pass0 (pa_cons (pv 0) pa_nil)) (pe_and (pe_cmpR op_le (pv 1) (pv 0) (nomark _)) (pe_one (pe_cmpR op_le (pv 0) (pv 2) (nomark _)))))), ?_⟩
  refine ⟨_, rfl, x, rfl, th, _, rfl, ?_⟩
  rcases th with ⟨i, rfl⟩ | ⟨n, _⟩
  · refine itT ⟨_, rfl, _, rfl, _, _, rfl, rfl, _, rfl, ?_⟩
    refine ite2 (fun c => ?_) (fun c => ?_)
    · refine ⟨_, rfl, _, rfl, _, _, rfl, rfl, ?_⟩
      have q' : Q (.bl (decide (lo ≤ i) && decide (i ≤ hi))) H := q
      rw [decide_eq_true (of_decide_eq_true c), Bool.true_and] at q'
      exact q'
    · have q' : Q (.bl (decide (lo ≤ i) && decide (i ≤ hi))) H := q
      rw [decide_eq_false (fun z => c (decide_eq_true z)), Bool.false_and] at q'
      exact q'
  · rw [numB_no n]
    rw [inB_no n] at q
    exact itF q
abbrev sGcd : Stmt := top 12
def spGcd : Sp := fun vs H Q _ => ∃ a b : Nat, vs = [.int a, .int b] ∧ Q (.int (Nat.gcd a b)) H
theorem scG : FnScope ["one", "other"] ["one", "other"] (defScope sGcd) := ⟨rfl, rfl, rfl, by decide +kernel, rfl, by decide +kernel, by decide +kernel⟩
def secN : St → Nat
  | [_, some (.int b)] => b.toNat
  | _ => 0
theorem ok_gcd {f : Addr} {fd : FuncData} (F : Fun K "greatest_common" "greatest_common" sGcd f fd) : FnOk P w K mg base CX0 1 f fd ["one", "other"] spGcd := by
  refine F.ok scG (fun vs H Q E h => ?_) (fun cdv A outer s H vs Q E hr h => ?_)
  · obtain ⟨c, lo, rfl, _⟩ := h
    rfl
  obtain ⟨a, b, rfl, q⟩ := h
  have nd := scG.nd
  refine ⟨_, pss_cons (ps_while PassesOwn.never (pt_cmpR op_gt (pv 1) pe_int (nomark _)) (pss_one (ps_par (i := 0) (j := 1) rfl nd rfl rfl (by decide) rfl rfl (pa_cons (pv 1) (pa_cons (pe_op op_mod (pv 0) (pv 1)) pa_nil)) rfl))) (pss_one (ps_ret (pv 0))), ?_⟩
  refine while_by (fun σ H' => H' = H ∧ ∃ x y : Nat, σ = [some (.int x), some (.int y)] ∧ Nat.gcd x y = Nat.gcd a b) (fun σ _ => secN σ) ⟨rfl, a, b, rfl, rfl⟩ ?_ ?_
  · rintro σ H' ⟨rfl, x, y, rfl, e⟩
    refine ⟨_, rfl, _, _, rfl, rfl, _, rfl, ?_⟩
    refine ite2 (fun c => ?_) (fun c => ?_)
    · have c' : (0 : Int) < (y : Int) := of_decide_eq_true c
      refine ⟨_, rfl, _, rfl, _, rfl, _, _, rfl, rfl, c', _, _, rfl, ⟨rfl, y, x % y, ?_, ?_⟩, ?_⟩
      · show [some (V.int y), some (V.int ((x : Int) % (y : Int)))] = _
        rw [show ((x : Int) % (y : Int)) = ((x % y : Nat) : Int) from by simp]
      · rw [← e, Nat.gcd_comm x y, Nat.gcd_rec y x, Nat.gcd_comm]
      · show ((x : Int) % (y : Int)).toNat < (y : Int).toNat
        have := Int.emod_lt_of_pos (x : Int) c'
        omega
    · have c' : ¬ (0 : Int) < (y : Int) := fun z => c (decide_eq_true z)
      have y0 : y = 0 := by omega
      subst y0
      rw [Nat.gcd_zero_right] at e
      refine ⟨_, rfl, ?_⟩
      rw [e]
      exact q
  · rintro σ H Q Q' m ⟨x, e, i, j, h1, h2, b, hb, q⟩
    exact ⟨x, e, i, j, h1, h2, b, hb, m _ _ q⟩
abbrev sPart : Stmt := top 13
def spPart (K : Frag) : Sp := fun vs H Q _ => ∃ x y, vs = [x, y] ∧ Th K H x ∧ Th K H y ∧ Q (.bl (partV x y)) H
theorem scPt : FnScope ["top", "bottom"] ["top", "bottom"] (defScope sPart) := ⟨rfl, rfl, rfl, by decide +kernel, rfl, by decide +kernel, by decide +kernel⟩
theorem ok_part {f g k : Addr} {fd gd kd : FuncData} (F : Fun K "is_part" "is_part" sPart f fd) (G : FnOk P w K mg base CX0 1 g gd ["thing"] (spIsNum K)) (bG : Binds K gd ["thing"] []) (kG : keepIn K (.ref g) = true) (mG : mg "is_number" = some (.ref g))
    (W : FnOk P w K mg base CX0 2 k kd ["thing", "low", "high"] (spIsWh K)) (bW : Binds K kd ["thing", "low", "high"] []) (kW : keepIn K (.ref k) = true) (mW : mg "is_whole" = some (.ref k)) : FnOk P w K mg base CX0 3 f fd ["top", "bottom"] (spPart K) := by
  refine F.ok scPt (fun vs H Q E h => ?_) (fun cdv A outer s H vs Q E hr h => ?_)
  · obtain ⟨x, y, rfl, _⟩ := h
    rfl
  obtain ⟨x, y, rfl, tx, ty, q⟩ := h
  have hr1 := hr.mono (show 1 ≤ 2 by decide)
  refine ⟨_, pss_one (ps_ret (pe_and (pe_call G hr1 rfl mG kG bG .nil pass0 (pa_cons (pv 1) pa_nil)) (pe_and (pe_cmpR op_ge (pv 1) pe_int (nomark _)) (pe_one (pe_call W hr rfl mW kW bW .nil pass0 (pa_cons (pv 0) (pa_cons pe_int (pa_cons (pv 1) pa_nil)))))))), ?_⟩
  refine ⟨_, rfl, y, rfl, ty, _, rfl, ?_⟩
  rcases ty with ⟨j, rfl⟩ | ⟨n, _⟩
  · refine itT ⟨_, rfl, _, _, rfl, rfl, _, rfl, ?_⟩
    have q' : Q (.bl (decide (1 ≤ j) && inB 0 j x)) H := q
    refine ite2 (fun c => ?_) (fun c => ?_)
    · rw [decide_eq_true (of_decide_eq_true c), Bool.true_and] at q'
      exact ⟨_, rfl, _, rfl, x, 0, j, rfl, tx, q'⟩
    · rw [decide_eq_false (fun z => c (decide_eq_true z)), Bool.false_and] at q'
      exact q'
  · rw [numB_no n]
    rw [partV_no n] at q
    exact itF q
abbrev sISh : Stmt := top 15
def spISh : Sp := fun vs H Q _ => ∃ x d, vs = [x] ∧ Rds H x d ∧ Q (.bl (shareD d)) H
theorem scISh : FnScope ["thing", "top", "bottom"] ["thing"] (defScope sISh) := ⟨rfl, rfl, rfl, by decide +kernel, rfl, by decide +kernel, by decide +kernel⟩
theorem shareD_two {d1 d2 : PyData} {H : Hp} {u v : V} (r1 : Rds H u d1) (r2 : Rds H v d2) : partV u v = false → shareD (.tuple [d1, d2]) = false := by
  intro h
  cases r1 with
  | int i =>
    cases r2 with
    | int j =>
      have h' : (decide (1 ≤ j) && (decide (0 ≤ i) && decide (i ≤ j))) = false := h
      show ((decide (1 ≤ j) && (decide (0 ≤ i) && decide (i ≤ j))) && _) = false
      rw [h']
      rfl
    | _ => rfl
  | _ => cases r2 <;> rfl
theorem part_nat {x y : V} (h : partV x y = true) : ∃ a b : Nat, x = .int a ∧ y = .int b ∧ 1 ≤ b ∧ a ≤ b := by
  cases y with
  | int j =>
    have h' : (decide (1 ≤ j) && inB 0 j x) = true := h
    rw [Bool.and_eq_true, decide_eq_true_iff] at h'
    obtain ⟨h1, h2⟩ := h'
    cases x with
    | int i =>
      have h3 : (decide (0 ≤ i) && decide (i ≤ j)) = true := h2
      rw [Bool.and_eq_true, decide_eq_true_iff, decide_eq_true_iff] at h3
      refine ⟨i.toNat, j.toNat, ?_, ?_, by omega, by omega⟩
      · congr 1; omega
      · congr 1; omega
    | _ => cases h2
  | _ => cases h
theorem ok_ish {f a1 a2 : Addr} {fd d1 d2 : FuncData} (N : IsT K) (F : Fun K "is_share" "is_share" sISh f fd) (A1 : Df P w K mg base CX0 3 "is_part" ["top", "bottom"] (spPart K) a1 d1) (A2 : Df P w K mg base CX0 1 "greatest_common" ["one", "other"] spGcd a2 d2)
    (mi : mg "isinstance" = none) (mt : mg "tuple" = none) (ml : mg "len" = none) : FnOk P w K mg base CX0 4 f fd ["thing"] spISh := by
  refine F.ok scISh (fun vs H Q E h => ?_) (fun cdv A outer s H vs Q E hr h => ?_)
  · obtain ⟨v, d, rfl, _⟩ := h
    rfl
  obtain ⟨v, d, rfl, rd, q⟩ := h
  have nd := scISh.nd
  have hr1 : Room 1 _ := hr.mono (by decide)
  refine ⟨_, pss_cons (ps_if (PW.pt (pw_or (pt_not (pt_val (pe_callB (call_isK N) rfl mi PyProof.Rows.boot_isinstance (pa_cons (pv 0) (pa_cons (pe_ty rfl mt PyProof.Rows.boot_tuple) pa_nil))))) (pw_or1 (pt_cmpR op_ne (pe_callB call_len_seq rfl ml PySem.boot_len (pa_cons (pv 0) pa_nil)) pe_int (nomark _))))) (pss_one (ps_ret pe_bl)) pss_nil)
    (pss_cons (ps_asg (pv 0) (pg_tup rfl (pgs_cons (pg_name (i := 1) nd rfl (Or.inl rfl)) (pgs_cons (pg_name (i := 2) nd rfl (Or.inl rfl)) pgs_nil))))
    (pss_one (ps_ret (pe_and (pe_call A1.G hr rfl A1.m A1.kp A1.b .nil pass0 (pa_cons (pv 1) (pa_cons (pv 2) pa_nil))) (pe_one (pe_cmpR op_eq (pe_call A2.G hr1 rfl A2.m A2.kp A2.b .nil pass0 (pa_cons (pv 1) (pa_cons (pv 2) pa_nil))) pe_int (nomark _))))))), ?_⟩
  refine ⟨_, rfl, _, _, _, _, rfl, rd.kd, rd.isT, _, rfl, ?_⟩
  cases e : tupB d with
  | false =>
    refine itT (itT ?_)
    have z : shareD d = false := by cases d <;> first | rfl | cases e
    rw [z] at q
    exact q
  | true =>
    obtain ⟨ds, rfl⟩ : ∃ ds, d = .tuple ds := by cases d <;> first | exact ⟨_, rfl⟩ | cases e
    obtain ⟨a, xs, rfl, ha, rs⟩ := rds_tup rd
    refine itF ⟨_, rfl, a, _, rfl, .inr (SqT.of ha), rfl, _, rfl, ?_⟩
    have len := rs.length
    by_cases l2 : xs.length = 2
    · obtain ⟨u, v, rfl⟩ : ∃ u v, xs = [u, v] := by
        match xs, l2 with
        | [u, v], _ => exact ⟨u, v, rfl⟩
      cases rs with
      | cons r1 rs =>
        cases rs with
        | cons r2 rs =>
          cases rs
          refine itF ⟨_, rfl, a, _, rfl, SqT.of ha, rfl, _, _, rfl, _, _, rfl, rfl, ?_⟩
          refine ⟨_, rfl, _, rfl, u, v, rfl, r1.th, r2.th, _, rfl, ?_⟩
          cases pv : partV u v with
          | false =>
            rw [shareD_two r1 r2 pv] at q
            exact itF q
          | true =>
            obtain ⟨x, y, rfl, rfl, y1, xy⟩ := part_nat pv
            cases r1
            cases r2
            refine itT ⟨_, rfl, _, rfl, x, y, rfl, rfl, ?_⟩
            have q' : Q (.bl ((decide ((1 : Int) ≤ (y : Int)) && (decide ((0 : Int) ≤ (x : Int)) && decide ((x : Int) ≤ (y : Int)))) && decide (Nat.gcd (x : Int).toNat (y : Int).toNat = 1))) H := q
            rw [decide_eq_true (show (1 : Int) ≤ (y : Int) by omega), decide_eq_true (show (0 : Int) ≤ (x : Int) by omega), decide_eq_true (show (x : Int) ≤ (y : Int) by omega), Int.toNat_natCast, Int.toNat_natCast, Bool.and_self, Bool.and_self, Bool.true_and] at q'
            have ee : decide (V.int ((Nat.gcd x y : Nat) : Int) = V.int 1) = decide (Nat.gcd x y = 1) := by
              by_cases g : Nat.gcd x y = 1
              · rw [decide_eq_true g, g]; rfl
              · rw [decide_eq_false g, decide_eq_false]
                intro z
                injection z with z
                omega
            rw [ee]
            exact q'
    · have e1 : (!decide (V.int (xs.length : Nat) = V.int 2)) = true := by
        rw [decide_eq_false]
        · rfl
        · intro h
          injection h with h
          omega
      rw [e1]
      refine itT ?_
      have z : shareD (.tuple ds) = false := by
        match ds, len, l2 with
        | [], _, _ => rfl
        | [_], _, _ => simp [shareD]
        | [_, _], l, n => exact absurd l n
        | _ :: _ :: _ :: _, _, _ => simp [shareD]
      rw [z] at q
      exact q
abbrev sNN : Stmt := top 25
def spNN (CN : Addr) : Sp := fun vs H Q E => ∃ x d lo hi, vs = [x, .int lo, .int hi] ∧ Rds H x d ∧ (inD lo hi d = true → Q .non H) ∧ (inD lo hi d = false → ErrF CN "found" x H E)
theorem scNN : FnScope ["thing", "low", "high"] ["thing", "low", "high"] (defScope sNN) := ⟨rfl, rfl, rfl, by decide +kernel, rfl, by decide +kernel, by decide +kernel⟩
theorem ok_nn {f a1 D CN fC : Addr} {fd d1 fdC : FuncData} (F : Fun K "need_number" "need_number" sNN f fd) (B : BaseC K D) (T : OneF K mg D "NoNumber" "found" CN fC fdC) (A1 : Df P w K mg base CX0 2 "is_whole" ["thing", "low", "high"] (spIsWh K) a1 d1) : FnOk P w K mg base (CXE P w) 3 f fd ["thing", "low", "high"] (spNN CN) := by
  refine okE F scNN (fun vs H Q E h => ?_) (fun cdv A outer s H vs Q E hr h => ?_)
  · obtain ⟨_, _, _, _, rfl, _⟩ := h
    rfl
  obtain ⟨x, d, lo, hi, rfl, rd, q1, q2⟩ := h
  refine ⟨_, pss_one (ps_if (pt_not (pt_val (pe_call A1.G hr rfl A1.m A1.kp A1.b .nil pass0 (pa_cons (pv 0) (pa_cons (pv 1) (pa_cons (pv 2) pa_nil)))))) (pss_one (ps_raise B T.cls (T.ok P w base) hr T.bi rfl T.mgC (pv 0))) pss_nil), ?_⟩
  refine ⟨_, rfl, _, rfl, _, rfl, x, lo, hi, rfl, rd.th, _, rfl, ?_⟩
  rw [rd.inB]
  cases e : inD lo hi d with
  | true => exact itF (q1 e)
  | false => exact itT ⟨_, rfl, fun e' dx h1 h2 nd => qR_of nd (q2 e e' dx h1 h2 nd)⟩
abbrev sNC : Stmt := top 26
def spNC (CS : Addr) : Sp := fun vs H Q E => ∃ x d, vs = [x] ∧ Rds H x d ∧ (coinD d = true → Q .non H) ∧ (coinD d = false → ErrF CS "found" x H E)
theorem scNC : FnScope ["thing"] ["thing"] (defScope sNC) := ⟨rfl, rfl, rfl, by decide +kernel, rfl, by decide +kernel, by decide +kernel⟩
theorem share_shape {d : PyData} (h : shareD d = true) : ∃ a b, d = .tuple [.int a, .int b] := by
  match d, h with
  | .tuple [.int a, .int b], _ => exact ⟨a, b, rfl⟩
theorem ok_nc {f a1 a2 D CS fC : Addr} {fd d1 d2 fdC : FuncData} {t : Tok} (F : Fun K "need_coin" "need_coin" sNC f fd) (B : BaseC K D) (T : OneF K mg D "NoShare" "found" CS fC fdC) (A1 : Df P w K mg base CX0 2 "is_whole" ["thing", "low", "high"] (spIsWh K) a1 d1) (A2 : Df P w K mg base CX0 4 "is_share" ["thing"] spISh a2 d2) (mB : mg "MOST_BOTTOM" = some (.int 100 t)) :
    FnOk P w K mg base (CXE P w) 5 f fd ["thing"] (spNC CS) := by
  refine okE F scNC (fun vs H Q E h => ?_) (fun cdv A outer s H vs Q E hr h => ?_)
  · obtain ⟨_, _, rfl, _⟩ := h
    rfl
  obtain ⟨x, d, rfl, rd, q1, q2⟩ := h
  have hr2 : Room 2 _ := hr.mono (by decide)
  refine ⟨_, pss_one (ps_if (PW.pt (pw_or (pt_not (pt_val (pe_call A2.G hr rfl A2.m A2.kp A2.b .nil pass0 (pa_cons (pv 0) pa_nil)))) (pw_or1 (pt_not (pt_val (pe_call A1.G hr2 rfl A1.m A1.kp A1.b .nil pass0 (pa_cons (pe_ix ix_tup (pv 0) pe_int (fun _ _ => rfl)) (pa_cons pe_int (pa_cons (pe_glob (v := .int 100) rfl mB ⟨_, rfl⟩) pa_nil)))))))))
    (pss_one (ps_raise B T.cls (T.ok P w base) hr2 T.bi rfl T.mgC (pv 0))) pss_nil), ?_⟩
  refine ⟨_, rfl, x, d, rfl, rd, _, rfl, ?_⟩
  cases e : shareD d with
  | false =>
    have z : coinD d = false := by
      match d, e with
      | .tuple [.int a, .int b], e => show (shareD (.tuple [.int a, .int b]) && _) = false; rw [e]; rfl
      | .none, _ | .bool _, _ | .int _, _ | .str _, _ | .list _, _ | .dict _, _ => rfl
      | .tuple [], _ => rfl
      | .tuple [_], _ => simp [coinD]
      | .tuple (_ :: _ :: _ :: _), _ => simp [coinD]
      | .tuple [.int _, .none], _ | .tuple [.int _, .bool _], _ | .tuple [.int _, .str _], _ | .tuple [.int _, .list _], _ | .tuple [.int _, .tuple _], _ | .tuple [.int _, .dict _], _ => rfl
      | .tuple [.none, _], _ | .tuple [.bool _, _], _ | .tuple [.str _, _], _ | .tuple [.list _, _], _ | .tuple [.tuple _, _], _ | .tuple [.dict _, _], _ => rfl
    exact itT (itT ⟨_, rfl, fun e' dx h1 h2 nd => qR_of nd (q2 z e' dx h1 h2 nd)⟩)
  | true =>
    obtain ⟨a, b, rfl⟩ := share_shape e
    obtain ⟨p, xs, rfl, hp, rs⟩ := rds_tup rd
    cases rs with
    | cons r1 rs =>
      cases rs with
      | cons r2 rs =>
        cases rs
        cases r1
        cases r2
        refine itF ⟨_, rfl, p, _, _, _, rfl, rfl, SqT.of hp, atI_nat (j := 1) rfl, _, 2, 100, rfl, .inl ⟨b, rfl⟩, _, rfl, ?_⟩
        have ec : coinD (.tuple [.int a, .int b]) = inB 2 100 (.int b) := by
          show (shareD (.tuple [.int a, .int b]) && (decide (2 ≤ b) && decide (b ≤ 100))) = _
          rw [e, Bool.true_and]
          rfl
        cases z : inB 2 100 (.int b) with
        | true => exact itF (q1 (by rw [ec, z]))
        | false => exact itT ⟨_, rfl, fun e' dx h1 h2 nd => qR_of nd (q2 (by rw [ec, z]) e' dx h1 h2 nd)⟩
abbrev sOP : Stmt := top 27
def spOP : Sp := fun vs H Q _ => ∃ i : Int, vs = [.int i] ∧ 0 ≤ i ∧ i ≤ 20 ∧ ∀ l H', Ext H H' → Rds H' (.ref l) (partsD [upI 0 i.toNat]) → Q (.ref l) H'
theorem scOP : FnScope ["folk"] ["folk"] (defScope sOP) := ⟨rfl, rfl, rfl, by decide +kernel, rfl, by decide +kernel, by decide +kernel⟩
theorem ok_op {f : Addr} {fd : FuncData} (F : Fun K "one_part" "one_part" sOP f fd) (mt : mg "tuple" = none) (mr : mg "range" = none) : FnOk P w K mg base CX0 1 f fd ["folk"] spOP := by
  refine F.ok scOP (fun vs H Q E h => ?_) (fun cdv A outer s H vs Q E hr h => ?_)
  · obtain ⟨_, rfl, _⟩ := h
    rfl
  obtain ⟨i, rfl, h1, h2, q⟩ := h
  refine ⟨_, pss_one (ps_ret (pe_tup (pa_cons (pe_callTy (call_tupR rfl) rfl mt PyProof.Rows.boot_tuple (pa_cons (pe_callTy call_rng1 rfl mr PyProof.Rows.boot_range (pa_cons (pv 0) pa_nil)) pa_nil)) pa_nil))), ?_⟩
  refine ⟨_, rfl, i, rfl, fun r hr => ⟨r, 0, i, rfl, upd_same, ⟨by omega, by omega, by omega, by omega⟩, by omega, fun l hl => ⟨by show 1 ≤ sizeLine; decide, fun m hm => ?_⟩⟩⟩
  have x2 := Ext.new (o := .tup [.ref l]) hm
  refine q m _ (((Ext.new hr).trans (Ext.new hl)).trans x2) (.tup upd_same (.cons (.tup (x2 _ _ upd_same) ?_) .nil))
  rw [Int.sub_zero, upL_eq]
  exact rds_intsD _ _
end
end My
set_option Elab.async false
set_option linter.all false
set_option maxRecDepth 100000
set_option maxHeartbeats 1000000
set_option exponentiation.threshold 5000
namespace My
open PySem PySem.W L2
section
variable {P : Program} {w : World} {K : Frag} {mg : Str → Option Value} {base : Heap} {C : Nat → Addr} {CR : Addr}
abbrev sRuI : Stmt := inClass (top 31) 0
abbrev sRuF : Stmt := inClass (top 31) 1
abbrev sRuB : Stmt := inClass (top 31) 2
abbrev sRuT : Stmt := inClass (top 31) 4
abbrev sRuK : Stmt := inClass (top 31) 5
def put4 (v1 v2 v3 v4 : V) (fs : List (Str × V)) : List (Str × V) := putF "parts" v4 (putF "mark" v3 (putF "first_state" v2 (putF "size" v1 fs)))
def spRuI (C : Nat → Addr) : Sp := fun vs H Q _ => ∃ x v1 v2 v3 v4 i dx fs, vs = [.ref x, v1, v2, v3, v4] ∧ i < 5 ∧ H x = some (.ins (C i) dx fs) ∧ fs.length ≤ 5 ∧ Q .non (upd H x (.ins (C i) dx (put4 v1 v2 v3 v4 fs)))
theorem scRuI : FnScope ["self", "size", "first_state", "mark", "parts"] ["self", "size", "first_state", "mark", "parts"] (defScope sRuI) := ⟨rfl, rfl, rfl, by decide +kernel, rfl, by decide +kernel, by decide +kernel⟩
theorem putF_len (f : Str) (v : V) : ∀ fs : List (Str × V), (putF f v fs).length ≤ fs.length + 1
  | [] => Nat.le_refl _
  | (g, x) :: r => by
    have := putF_len f v r
    show (if g = f then (g, v) :: r else (g, x) :: putF f v r).length ≤ _
    split <;> simp only [List.length_cons] <;> omega
theorem ok_rui {f : Addr} {fd : FuncData} (Z : KR K C CR) (F : Fun K "__init__" "Rule.__init__" sRuI f fd) : FnOk P w K mg base CX0 1 f fd ["self", "size", "first_state", "mark", "parts"] (spRuI C) := by
  refine F.ok scRuI (fun vs H Q E h => ?_) (fun cdv A outer s H vs Q E hr h => ?_)
  · obtain ⟨_, _, _, _, _, _, _, _, rfl, _⟩ := h
    rfl
  obtain ⟨x, v1, v2, v3, v4, i, dx, fs, rfl, hi, hx, l5, q⟩ := h
  refine ⟨_, pss_cons (ps_fld (pv 0) (pv 1) rfl) (pss_cons (ps_fld (pv 0) (pv 2) rfl) (pss_cons (ps_fld (pv 0) (pv 3) rfl) (pss_one (ps_fld (pv 0) (pv 4) rfl)))), ?_⟩
  have c := Z.cls i hi
  have n := Z.no i hi
  have k1 := putF_len "size" v1 fs
  have k2 := putF_len "first_state" v2 (putF "size" v1 fs)
  have k3 := putF_len "mark" v3 (putF "first_state" v2 (putF "size" v1 fs))
  refine ⟨_, rfl, _, rfl, x, C i, dx, fs, rfl, hx, c, n _ (by decide +kernel), by omega, ?_⟩
  refine ⟨_, rfl, _, rfl, x, C i, dx, _, rfl, upd_same, c, n _ (by decide +kernel), by omega, ?_⟩
  rw [upd_upd]
  refine ⟨_, rfl, _, rfl, x, C i, dx, _, rfl, upd_same, c, n _ (by decide +kernel), by omega, ?_⟩
  rw [upd_upd]
  refine ⟨_, rfl, _, rfl, x, C i, dx, _, rfl, upd_same, c, n _ (by decide +kernel), by omega, ?_⟩
  rw [upd_upd]
  exact q
def spFolk (C : Nat → Addr) : Sp := fun vs H Q _ => ∃ v t, vs = [v] ∧ Ru C H t v ∧ Q (.int t.folk) H
theorem scRuF : FnScope ["self"] ["self"] (defScope sRuF) := ⟨rfl, rfl, rfl, by decide +kernel, rfl, by decide +kernel, by decide +kernel⟩
theorem ok_ruf {f : Addr} {fd : FuncData} (Z : KR K C CR) (F : Fun K "folk" "Rule.folk" sRuF f fd) : FnOk P w K mg base CX0 1 f fd ["self"] (spFolk C) := by
  refine F.ok scRuF (fun vs H Q E h => ?_) (fun cdv A outer s H vs Q E hr h => ?_)
  · obtain ⟨_, _, rfl, _⟩ := h
    rfl
  obtain ⟨v, t, rfl, ru, q⟩ := h
  obtain ⟨a, dx, fs, rfl, ha, h1, _⟩ := ru.ob.ex
  exact ⟨_, pss_one (ps_ret (pe_fld (pv 0) rfl)), _, rfl, a, _, dx, fs, _, rfl, ha, Z.cls _ t.kind_lt, Z.no _ t.kind_lt _ (by decide +kernel), h1, q⟩
def spBegin (C : Nat → Addr) : Sp := fun vs H Q _ => ∃ v t G, vs = [v] ∧ Ext G H ∧ Ru C G t v ∧ ∀ b, Rds G b t.begin → Q b H
theorem scRuB : FnScope ["self"] ["self"] (defScope sRuB) := ⟨rfl, rfl, rfl, by decide +kernel, rfl, by decide +kernel, by decide +kernel⟩
theorem ok_rub {f : Addr} {fd : FuncData} (Z : KR K C CR) (F : Fun K "begin" "Rule.begin" sRuB f fd) : FnOk P w K mg base CX0 1 f fd ["self"] (spBegin C) := by
  refine F.ok scRuB (fun vs H Q E h => ?_) (fun cdv A outer s H vs Q E hr h => ?_)
  · obtain ⟨_, _, _, rfl, _⟩ := h
    rfl
  obtain ⟨v, t, G, rfl, xG, ru, q⟩ := h
  obtain ⟨a, dx, fs, rfl, ha, _, ⟨b, h2, r2⟩, _⟩ := ru.ob.ex
  exact ⟨_, pss_one (ps_ret (pe_fld (pv 0) rfl)), _, rfl, a, _, dx, fs, _, rfl, xG _ _ ha, Z.cls _ t.kind_lt, Z.no _ t.kind_lt _ (by decide +kernel), h2, q b r2⟩
def spTold (C : Nat → Addr) : Sp := fun vs H Q _ => ∃ v t G, vs = [v] ∧ Ext G H ∧ Ru C G t v ∧ ∀ b, Rds G b t.told → Q b H
theorem scRuT : FnScope ["self"] ["self"] (defScope sRuT) := ⟨rfl, rfl, rfl, by decide +kernel, rfl, by decide +kernel, by decide +kernel⟩
theorem ok_rut {f : Addr} {fd : FuncData} (Z : KR K C CR) (F : Fun K "told" "Rule.told" sRuT f fd) : FnOk P w K mg base CX0 1 f fd ["self"] (spTold C) := by
  refine F.ok scRuT (fun vs H Q E h => ?_) (fun cdv A outer s H vs Q E hr h => ?_)
  · obtain ⟨_, _, _, rfl, _⟩ := h
    rfl
  obtain ⟨v, t, G, rfl, xG, ru, q⟩ := h
  obtain ⟨a, dx, fs, rfl, ha, _, _, ⟨b, h2, r2⟩, _⟩ := ru.ob.ex
  exact ⟨_, pss_one (ps_ret (pe_fld (pv 0) rfl)), _, rfl, a, _, dx, fs, _, rfl, xG _ _ ha, Z.cls _ t.kind_lt, Z.no _ t.kind_lt _ (by decide +kernel), h2, q b r2⟩
def spBlk (C : Nat → Addr) : Sp := fun vs H Q _ => ∃ v t, vs = [v] ∧ Ru C H t v ∧ t.parts.length ≤ 20 ∧ (∀ p ∈ t.parts, p.length ≤ 20) ∧ ∀ (l : Addr) (bs : List Addr) (H' : Hp), Ext H H' → H l = none → H' l = some (.lst (bs.map V.ref)) → l ∉ bs → (∀ b ∈ bs, H b = none) → bs.length = t.parts.length → (∀ (i : Nat) b p, bs[i]? = some b → t.parts[i]? = some p → H' b = some (.lst (p.map V.int))) → Q (.ref l) H'
theorem scRuK : FnScope ["self"] ["self"] (defScope sRuK) := ⟨rfl, rfl, rfl, by decide +kernel, rfl, by decide +kernel, by decide +kernel⟩
abbrev scRuKC : Scope := { kind := .function, names := [(".0", .local), ("part", .local), ("list", .globalImplicit)], isGenerator := false, isCoroutine := false }
theorem compK {X : Cx} : CompG X scRuKC [] ["part"] [] [] := by
  refine ⟨rfl, rfl, by decide +kernel, by decide +kernel, by decide +kernel, (fun z c h => nomatch h), (fun z h => ?_), by decide +kernel, (fun k z h => by simp at h), rfl⟩
  exfalso
  have h' : List.lookup z [((".0" : Str), NameKind.local), (("part" : Str), NameKind.local), (("list" : Str), NameKind.globalImplicit)] = some .cell ∨ List.lookup z [((".0" : Str), NameKind.local), (("part" : Str), NameKind.local), (("list" : Str), NameKind.globalImplicit)] = some .free := h
  simp only [List.lookup_cons, List.lookup_nil] at h'
  repeat' (split at h')
  all_goals simp at h'
theorem ndK : ((["part"] : List Str) ++ ([] : List Str)).Nodup := by decide +kernel
def rListOf (K : Frag) : List V → Hp → VK → Prop := fun xs H Q => ∃ p ys, xs = [.ref p] ∧ (SqL K H p ys ∨ SqT K H p ys) ∧ ∀ l, H l = none → Q (.ref l) (upd H l (.lst ys))
theorem ok_ruk {f : Addr} {fd : FuncData} (Z : KR K C CR) (F : Fun K "blocks" "Rule.blocks" sRuK f fd) (ml : mg "list" = none) : FnOk P w K mg base CX0 1 f fd ["self"] (spBlk C) := by
  refine F.ok scRuK (fun vs H Q E h => ?_) (fun cdv A outer s H vs Q E hr h => ?_)
  · obtain ⟨_, _, rfl, _⟩ := h
    rfl
  obtain ⟨v, t, rfl, ru, l20, p20, q⟩ := h
  obtain ⟨a, dx, fs, rfl, ha, _, _, _, ⟨b, h2, r2⟩, _⟩ := ru.ob.ex
  refine ⟨_, pss_one (ps_ret (pe_lcG (te := tCB (rListOf K) (tCons (tVar 0) tNil)) (g := gName 0) rfl compK (pi_tup (pe_fld (pv 0) rfl)) (fun s H C fp => by exact pg_name (i := 0) ndK rfl (.inl rfl)) (fun s H C fp => by exact pe_callTy call_list_of rfl ml PyProof.Rows.boot_list (pa_cons (pv 0) pa_nil)))), ?_⟩
  obtain ⟨p, xs, rfl, hp, rs⟩ := rds_tup r2
  have lx := rs.length
  rw [List.length_map] at lx
  refine ⟨_, rfl, a, _, dx, fs, _, rfl, ha, Z.cls _ t.kind_lt, Z.no _ t.kind_lt _ (by decide +kernel), h2, p, rfl, ⟨_, SqT.of hp⟩, fun D hD => ?_⟩
  refine lcG_tup (a := p) (xs := xs) (fun i ys H' => Ext H H' ∧ ∃ bs : List Addr, ys = bs.map V.ref ∧ D ∉ bs ∧ (∀ b ∈ bs, H b = none) ∧ ∀ (j : Nat) b q, bs[j]? = some b → t.parts[j]? = some q → H' b = some (.lst (q.map V.int))) (by rw [sizeLine_eq]; omega) ⟨Ext.new hD, [], rfl, by simp, by simp, by simp⟩ (fun i ys H' pv => SqT.of (pv.1 _ _ hp)) ?_ ?_
  · rintro i x ys H' ex ly hDD ⟨x', bs, rfl, nD, fr, ct⟩ os los R k
    obtain ⟨o0, rfl⟩ : ∃ o0, os = [o0] := by
      match os, los with
      | [o0], _ => exact ⟨o0, rfl⟩
    have hi : i < t.parts.length := by have := (List.getElem?_eq_some_iff.mp ex).1; omega
    obtain ⟨c, rfl, hc⟩ := rds_tups rs ex (List.getElem?_eq_getElem hi)
    refine ⟨⟨[some (.ref c)], rfl, rfl⟩, _, rfl, c, _, rfl, .inr (SqT.of (x' _ _ hc)), fun m hm => ?_⟩
    have x2 := Ext.new (o := .lst ((t.parts[i]).map V.int)) hm
    have nm : m ≠ D := fun e => by rw [e, hDD] at hm; cases hm
    have hm0 : H m = none := by
      cases e : H m with
      | none => rfl
      | some o => rw [x' _ _ e] at hm; cases hm
    have hDD2 := x2 _ _ hDD
    have lb : bs.length = i := by rw [List.length_map] at ly; exact ly
    refine k _ _ hDD2 ⟨ext_upd _ (x'.trans x2) hD, bs ++ [m], by rw [List.map_append]; rfl, ?_, fun b hb => ?_, fun j b q hb hq => ?_⟩
    · intro hmem
      rcases List.mem_append.mp hmem with h | h
      · exact nD h
      · exact nm (List.mem_singleton.mp h).symm
    · rcases List.mem_append.mp hb with h | h
      · exact fr b h
      · rw [List.mem_singleton.mp h]; exact hm0
    · rcases Nat.lt_or_ge j bs.length with lt | ge
      · rw [List.getElem?_append_left lt] at hb
        have nb : b ≠ D := fun e => nD (e ▸ List.mem_of_getElem? hb)
        rw [upd_ne nb]
        exact x2 _ _ (ct j b q hb hq)
      · rw [List.getElem?_append_right ge] at hb
        have j0 : j = bs.length := by
          rcases Nat.lt_or_ge (j - bs.length) 1 with z | z
          · omega
          · rw [List.getElem?_eq_none (by simpa using z)] at hb; cases hb
        subst j0
        rw [Nat.sub_self] at hb
        cases hb
        rw [lb, List.getElem?_eq_getElem hi] at hq
        cases hq
        rw [upd_ne nm]
        exact upd_same
  · rintro ys H' ly hDD ⟨x', bs, rfl, nD, fr, ct⟩
    rw [List.length_map] at ly
    exact q D bs H' x' hD hDD nD fr (by omega) ct
end
end My
set_option Elab.async false
set_option linter.all false
set_option maxRecDepth 100000
set_option maxHeartbeats 1000000
set_option exponentiation.threshold 5000
namespace My
open PySem PySem.W L2
theorem lk_put {f g : Str} {v : V} {fs : List (Str × V)} : (putF f v fs).lookup g = if g = f then some v else fs.lookup g := lookup_putF f g v fs
section
variable {v1 v2 v3 v4 : V} {fs : List (Str × V)}
theorem put4_size : (put4 v1 v2 v3 v4 fs).lookup ("size" : Str) = some v1 := by
  unfold put4
  rw [lk_put, if_neg (by decide +kernel), lk_put, if_neg (by decide +kernel), lk_put, if_neg (by decide +kernel), lk_put, if_pos rfl]
theorem put4_fst : (put4 v1 v2 v3 v4 fs).lookup ("first_state" : Str) = some v2 := by
  unfold put4
  rw [lk_put, if_neg (by decide +kernel), lk_put, if_neg (by decide +kernel), lk_put, if_pos rfl]
theorem put4_mark : (put4 v1 v2 v3 v4 fs).lookup ("mark" : Str) = some v3 := by
  unfold put4
  rw [lk_put, if_neg (by decide +kernel), lk_put, if_pos rfl]
theorem put4_parts : (put4 v1 v2 v3 v4 fs).lookup ("parts" : Str) = some v4 := by
  unfold put4
  rw [lk_put, if_pos rfl]
theorem put4_other {g : Str} (h : g ≠ "size" ∧ g ≠ "first_state" ∧ g ≠ "mark" ∧ g ≠ "parts") : (put4 v1 v2 v3 v4 fs).lookup g = fs.lookup g := by
  unfold put4
  rw [lk_put, if_neg h.2.2.2, lk_put, if_neg h.2.2.1, lk_put, if_neg h.2.1, lk_put, if_neg h.1]
theorem mN_other {g : Str} (h : g ∈ mNames) : g ≠ "size" ∧ g ≠ "first_state" ∧ g ≠ "mark" ∧ g ≠ "parts" := by
  have : ∀ g ∈ mNames, g ≠ "size" ∧ g ≠ "first_state" ∧ g ≠ "mark" ∧ g ≠ "parts" := by decide +kernel
  exact this g h
theorem mN_nil {g : Str} {ns : List Str} (h : g ∈ mNames) (hn : ∀ n ∈ fs.map (·.1), n ∈ fNames) : fs.lookup g = none := by
  have nf : ∀ g ∈ mNames, ∀ n ∈ fNames, g ≠ n := by decide +kernel
  cases e : fs.lookup g with
  | none => rfl
  | some v =>
    exfalso
    have : ∀ (l : List (Str × V)), l.lookup g = some v → g ∈ l.map (·.1) := by
      intro l
      induction l with
      | nil => intro h; cases h
      | cons y l ih =>
        intro h
        obtain ⟨k, x⟩ := y
        rw [List.lookup_cons] at h
        cases e : g == k with
        | true => rw [beq_iff_eq.mp e]; exact List.mem_cons_self ..
        | false => rw [e] at h; exact List.mem_cons_of_mem _ (ih h)
    exact nf g h g (hn g (this fs e)) rfl
theorem ob_put4 {Cl a dx : Addr} {H : Hp} {fk : Int} {bg tl pt : PyData} {X : List (Str × V) → Prop} (ha : H a = some (.ins Cl dx (put4 (.int fk) v2 v3 v4 fs))) (r2 : Rds H v2 bg) (r3 : Rds H v3 tl) (r4 : Rds H v4 pt) (hn : ∀ n ∈ fs.map (·.1), n ∈ fNames) (hx : X (put4 (.int fk) v2 v3 v4 fs)) : Ob Cl H (.ref a) fk bg tl pt X :=
  ⟨a, dx, _, rfl, ha, put4_size, ⟨_, put4_fst, r2⟩, ⟨_, put4_mark, r3⟩, ⟨_, put4_parts, r4⟩, fun m hm => by rw [put4_other (mN_other hm)]; exact mN_nil (ns := []) hm hn, hx⟩
end
section
variable {P : Program} {w : World} {K : Frag} {mg : Str → Option Value} {base : Heap} {C : Nat → Addr} {CR CN CS : Addr}
abbrev sSpI : Stmt := inClass (top 32) 0
abbrev sPaI : Stmt := inClass (top 33) 0
abbrev sCoI : Stmt := inClass (top 34) 0
def spSpI (C : Nat → Addr) (CN : Addr) : Sp := fun vs H Q E => ∃ x u1 u2 d1 d2 dx, vs = [.ref x, u1, u2] ∧ H x = some (.ins (C 0) dx []) ∧ Rds H u1 d1 ∧ Rds H u2 d2 ∧ (inD 1 20 d1 = false → ErrF CN "found" u1 H E) ∧ (∀ n, d1 = .int n → 1 ≤ n → n ≤ 20 → inD 0 n d2 = false → ErrF CN "found" u2 H E) ∧
  ∀ n k, d1 = .int n → d2 = .int k → (R0.split n k).ok → ∀ H', Kept H H' x → Ru0 C H' (.split n k) (.ref x) → Q .non H'
theorem scSpI : FnScope ["self", "folk", "ones"] ["self", "folk", "ones"] (defScope sSpI) := ⟨rfl, rfl, rfl, by decide +kernel, rfl, by decide +kernel, by decide +kernel⟩
variable {S g a1 a2 a3 : Addr} {gd d1 d2 d3 : FuncData} {t : Tok}
theorem ok_spi {f : Addr} {fd : FuncData} (F : Fun K "__init__" "Split.__init__" sSpI f fd) (Cf : ClsFn K S "__init__" g) (G : FnOk P w K mg base CX0 1 g gd ["self", "size", "first_state", "mark", "parts"] (spRuI C)) (bG : Binds K gd ["self", "size", "first_state", "mark", "parts"] []) (mS : mg "Rule" = some (.ref S))
    (A1 : Df P w K mg base (CXE P w) 3 "need_number" ["thing", "low", "high"] (spNN CN) a1 d1) (A2 : Df P w K mg base CX0 1 "one_part" ["folk"] spOP a2 d2) (mF : mg "MOST_FOLK" = some (.int 20 t)) : FnOk P w K mg base (CXE P w) 4 f fd ["self", "folk", "ones"] (spSpI C CN) := by
  refine okE F scSpI (fun vs H Q E h => ?_) (fun cdv A outer s H vs Q E hr h => ?_)
  · obtain ⟨_, _, _, _, _, _, rfl, _⟩ := h
    rfl
  obtain ⟨x, u1, u2, e1, e2, dx, rfl, hx, r1, r2, q1, q2, q⟩ := h
  have hr1 : Room 1 _ := hr.mono (by decide)
  refine ⟨_, pss_cons (ps_expr (pe_call A1.G hr rfl A1.m A1.kp A1.b .nil passE (pa_cons (pv 1) (pa_cons pe_int (pa_cons (pe_glob (v := .int 20) rfl mF ⟨_, rfl⟩) pa_nil))))) (pss_cons (ps_expr (pe_call A1.G hr rfl A1.m A1.kp A1.b .nil passE (pa_cons (pv 2) (pa_cons pe_int (pa_cons (pv 1) pa_nil)))))
    (pss_one (ps_expr (pe_clsCall Cf G hr1 rfl mS bG .nil pass0 (pa_cons (pv 0) (pa_cons (pv 1) (pa_cons (pv 2) (pa_cons (pe_tup (pa_cons pe_str (pa_cons (pv 1) (pa_cons (pv 2) pa_nil)))) (pa_cons (pe_call A2.G hr1 rfl A2.m A2.kp A2.b .nil pass0 (pa_cons (pv 1) pa_nil)) pa_nil))))))))), ?_⟩
  refine ⟨_, rfl, u1, e1, 1, 20, rfl, r1, fun h1 => ?_, fun h1 => q1 h1⟩
  obtain ⟨n, rfl, n1, n20⟩ := inD_int h1
  cases r1
  refine ⟨_, rfl, _, rfl, u2, e2, 0, n, rfl, r2, fun h2 => ?_, fun h2 => q2 n rfl n1 n20 h2⟩
  obtain ⟨k, rfl, k0, kn⟩ := inD_int h2
  cases r2
  refine ⟨_, rfl, _, rfl, _, rfl, _, rfl, _, rfl, by show 3 ≤ sizeLine; decide, fun m hm => ⟨_, rfl, n, rfl, by omega, n20, fun l H2 x2 rl => ?_⟩⟩
  have xm := Ext.new (o := .tup [.str "split", .int n, .int k]) hm
  have x12 := xm.trans x2
  have hm2 := x2 _ _ (show upd H m (.tup [.str "split", .int n, .int k]) m = _ from upd_same)
  have hx2 := x12 _ _ hx
  refine ⟨x, _, _, _, _, 0, dx, [], rfl, by decide, hx2, by decide, q n k rfl rfl ⟨n1, n20, k0, kn⟩ _ ((x12.kept x).trans (keptUpd _)) ?_⟩
  have kk : Kept H2 (upd H2 x (.ins (C 0) dx (put4 (.int n) (.int k) (.ref m) (.ref l) []))) x := keptUpd _
  exact ob_put4 upd_same (.int _) ((Rds.tup hm2 (.cons (.str _) (.cons (.int _) (.cons (.int _) .nil)))).kept hx2 kk) (rl.kept hx2 kk) (by simp) trivial
def spPaI (C : Nat → Addr) (CN CS : Addr) : Sp := fun vs H Q E => ∃ x u1 u2 d1 d2 dx, vs = [.ref x, u1, u2] ∧ H x = some (.ins (C 1) dx []) ∧ Rds H u1 d1 ∧ Rds H u2 d2 ∧ (inD 1 10 d1 = false → ErrF CN "found" u1 H E) ∧ (inD 1 10 d1 = true → coinD d2 = false → ErrF CS "found" u2 H E) ∧
  ∀ n a b, d1 = .int n → d2 = .tuple [.int a, .int b] → (R0.pairs n a b).ok → ∀ H', Kept H H' x → Ru0 C H' (.pairs n a b) (.ref x) → Q .non H'
theorem scPaI : FnScope ["self", "pairs", "coin"] ["self", "pairs", "coin"] (defScope sPaI) := ⟨rfl, rfl, rfl, by decide +kernel, rfl, by decide +kernel, by decide +kernel⟩
theorem coin_shape {d : PyData} (h : coinD d = true) : ∃ a b, d = .tuple [.int a, .int b] := by
  match d, h with
  | .tuple [.int a, .int b], _ => exact ⟨a, b, rfl⟩
theorem ok_pai {f : Addr} {fd : FuncData} (Z : KR K C CR) (F : Fun K "__init__" "Pairs.__init__" sPaI f fd) (Cf : ClsFn K S "__init__" g) (G : FnOk P w K mg base CX0 1 g gd ["self", "size", "first_state", "mark", "parts"] (spRuI C)) (bG : Binds K gd ["self", "size", "first_state", "mark", "parts"] []) (mS : mg "Rule" = some (.ref S))
    (A1 : Df P w K mg base (CXE P w) 3 "need_number" ["thing", "low", "high"] (spNN CN) a1 d1) (A2 : Df P w K mg base CX0 1 "one_part" ["folk"] spOP a2 d2) (A3 : Df P w K mg base (CXE P w) 5 "need_coin" ["thing"] (spNC CS) a3 d3) (mF : mg "MOST_PAIRS" = some (.int 10 t)) : FnOk P w K mg base (CXE P w) 6 f fd ["self", "pairs", "coin"] (spPaI C CN CS) := by
  refine okE F scPaI (fun vs H Q E h => ?_) (fun cdv A outer s H vs Q E hr h => ?_)
  · obtain ⟨_, _, _, _, _, _, rfl, _⟩ := h
    rfl
  obtain ⟨x, u1, u2, e1, e2, dx, rfl, hx, r1, r2, q1, q2, q⟩ := h
  have hr1 : Room 1 _ := hr.mono (by decide)
  have hr3 : Room 3 _ := hr.mono (by decide)
  refine ⟨_, pss_cons (ps_expr (pe_call A1.G hr3 rfl A1.m A1.kp A1.b .nil passE (pa_cons (pv 1) (pa_cons pe_int (pa_cons (pe_glob (v := .int 10) rfl mF ⟨_, rfl⟩) pa_nil))))) (pss_cons (ps_expr (pe_call A3.G hr rfl A3.m A3.kp A3.b .nil passE (pa_cons (pv 2) pa_nil))) (pss_cons (ps_fld (pv 0) (pv 2) rfl)
    (pss_one (ps_expr (pe_clsCall Cf G hr1 rfl mS bG .nil pass0 (pa_cons (pv 0) (pa_cons (pe_op op_mul pe_int (pv 1)) (pa_cons pe_non (pa_cons (pe_tup (pa_cons pe_str (pa_cons (pv 1) (pa_cons (pv 2) pa_nil)))) (pa_cons (pe_call A2.G hr1 rfl A2.m A2.kp A2.b .nil pass0 (pa_cons (pe_op op_mul pe_int (pv 1)) pa_nil)) pa_nil)))))))))), ?_⟩
  refine ⟨_, rfl, u1, e1, 1, 10, rfl, r1, fun h1 => ?_, fun h1 => q1 h1⟩
  refine ⟨_, rfl, u2, e2, rfl, r2, fun h2 => ?_, fun h2 => q2 h1 h2⟩
  obtain ⟨n, rfl, n1, n10⟩ := inD_int h1
  obtain ⟨a, b, rfl⟩ := coin_shape h2
  cases r1
  refine ⟨_, rfl, _, rfl, x, C 1, dx, [], rfl, hx, Z.cls 1 (by decide), Z.no 1 (by decide) _ (by decide +kernel), by decide, ?_⟩
  have k1 : Kept H (upd H x (.ins (C 1) dx (putF "coin" u2 []))) x := keptUpd _
  have r2' := r2.kept hx k1
  have hx1 : upd H x (.ins (C 1) dx (putF "coin" u2 [])) x = some (.ins (C 1) dx [("coin", u2)]) := upd_same
  generalize upd H x (.ins (C 1) dx (putF "coin" u2 [])) = H1 at k1 r2' hx1 ⊢
  have cm : CMul 2 n := .inl ⟨by decide, by decide⟩
  refine ⟨_, rfl, _, rfl, _, _, rfl, rfl, cm, _, rfl, _, rfl, by show 3 ≤ sizeLine; decide, fun m hm => ⟨_, rfl, _, _, rfl, rfl, cm, 2 * n, rfl, by omega, by omega, fun l H2 x2 rl => ?_⟩⟩
  have xm := Ext.new (o := .tup [.str "pairs", .int n, u2]) hm
  have x12 := xm.trans x2
  have hm2 := x2 _ _ (show upd H1 m (.tup [.str "pairs", .int n, u2]) m = _ from upd_same)
  have hx2 := x12 _ _ hx1
  have r22 := r2'.mono x12
  refine ⟨x, _, _, _, _, 1, dx, [("coin", u2)], rfl, by decide, hx2, (by show 1 ≤ 5; decide), q n a b rfl rfl ⟨n1, n10, h2⟩ _ ((k1.trans (x12.kept x)).trans (keptUpd _)) ?_⟩
  have kk : Kept H2 (upd H2 x (.ins (C 1) dx (put4 (.int (2 * n)) .non (.ref m) (.ref l) [("coin", u2)]))) x := keptUpd _
  refine ob_put4 upd_same .non ((Rds.tup hm2 (.cons (.str _) (.cons (.int _) (.cons r22 .nil)))).kept hx2 kk) (rl.kept hx2 kk) (fun n hn => ?_) ⟨u2, ?_, r22.kept hx2 kk⟩
  · have e : n = "coin" := by simpa using hn
    rw [e]
    decide +kernel
  · rw [put4_other (by decide +kernel)]
    rfl
def spCoI (C : Nat → Addr) (CN CS : Addr) : Sp := fun vs H Q E => ∃ x u1 u2 u3 d1 d2 d3 dx, vs = [.ref x, u1, u2, u3] ∧ H x = some (.ins (C 2) dx []) ∧ Rds H u1 d1 ∧ Rds H u2 d2 ∧ Rds H u3 d3 ∧ (inD 1 20 d1 = false → ErrF CN "found" u1 H E) ∧ (inD 1 20 d1 = true → coinD d2 = false → ErrF CS "found" u2 H E) ∧ (inD 1 20 d1 = true → coinD d2 = true → inD 1 20 d3 = false → ErrF CN "found" u3 H E) ∧
  ∀ n a b f, d1 = .int n → d2 = .tuple [.int a, .int b] → d3 = .int f → (R0.coins n a b f).ok → ∀ H', Kept H H' x → Ru0 C H' (.coins n a b f) (.ref x) → Q .non H'
theorem scCoI : FnScope ["self", "folk", "coin", "far"] ["self", "folk", "coin", "far"] (defScope sCoI) := ⟨rfl, rfl, rfl, by decide +kernel, rfl, by decide +kernel, by decide +kernel⟩
theorem ok_coi {f : Addr} {fd : FuncData} {t2 : Tok} (Z : KR K C CR) (F : Fun K "__init__" "Coins.__init__" sCoI f fd) (Cf : ClsFn K S "__init__" g) (G : FnOk P w K mg base CX0 1 g gd ["self", "size", "first_state", "mark", "parts"] (spRuI C)) (bG : Binds K gd ["self", "size", "first_state", "mark", "parts"] []) (mS : mg "Rule" = some (.ref S))
    (A1 : Df P w K mg base (CXE P w) 3 "need_number" ["thing", "low", "high"] (spNN CN) a1 d1) (A2 : Df P w K mg base CX0 1 "one_part" ["folk"] spOP a2 d2) (A3 : Df P w K mg base (CXE P w) 5 "need_coin" ["thing"] (spNC CS) a3 d3) (mF : mg "MOST_FOLK" = some (.int 20 t)) (mR : mg "MOST_FAR" = some (.int 20 t2)) : FnOk P w K mg base (CXE P w) 6 f fd ["self", "folk", "coin", "far"] (spCoI C CN CS) := by
  refine okE F scCoI (fun vs H Q E h => ?_) (fun cdv A outer s H vs Q E hr h => ?_)
  · obtain ⟨_, _, _, _, _, _, _, _, rfl, _⟩ := h
    rfl
  obtain ⟨x, u1, u2, u3, e1, e2, e3, dx, rfl, hx, r1, r2, r3, q1, q2, q3, q⟩ := h
  have hr1 : Room 1 _ := hr.mono (by decide)
  have hr3 : Room 3 _ := hr.mono (by decide)
  refine ⟨_, pss_cons (ps_expr (pe_call A1.G hr3 rfl A1.m A1.kp A1.b .nil passE (pa_cons (pv 1) (pa_cons pe_int (pa_cons (pe_glob (v := .int 20) rfl mF ⟨_, rfl⟩) pa_nil))))) (pss_cons (ps_expr (pe_call A3.G hr rfl A3.m A3.kp A3.b .nil passE (pa_cons (pv 2) pa_nil))) (pss_cons (ps_expr (pe_call A1.G hr3 rfl A1.m A1.kp A1.b .nil passE (pa_cons (pv 3) (pa_cons pe_int (pa_cons (pe_glob (v := .int 20) rfl mR ⟨_, rfl⟩) pa_nil)))))
    (pss_cons (ps_fld (pv 0) (pv 2) rfl) (pss_cons (ps_fld (pv 0) (pv 3) rfl)
    (pss_one (ps_expr (pe_clsCall Cf G hr1 rfl mS bG .nil pass0 (pa_cons (pv 0) (pa_cons (pv 1) (pa_cons pe_int (pa_cons (pe_tup (pa_cons pe_str (pa_cons (pv 1) (pa_cons (pv 2) (pa_cons (pv 3) pa_nil))))) (pa_cons (pe_call A2.G hr1 rfl A2.m A2.kp A2.b .nil pass0 (pa_cons (pv 1) pa_nil)) pa_nil)))))))))))), ?_⟩
  refine ⟨_, rfl, u1, e1, 1, 20, rfl, r1, fun h1 => ?_, fun h1 => q1 h1⟩
  refine ⟨_, rfl, u2, e2, rfl, r2, fun h2 => ?_, fun h2 => q2 h1 h2⟩
  refine ⟨_, rfl, u3, e3, 1, 20, rfl, r3, fun h3 => ?_, fun h3 => q3 h1 h2 h3⟩
  obtain ⟨n, rfl, n1, n20⟩ := inD_int h1
  obtain ⟨a, b, rfl⟩ := coin_shape h2
  obtain ⟨k, rfl, k1', k20⟩ := inD_int h3
  cases r1
  cases r3
  refine ⟨_, rfl, _, rfl, x, C 2, dx, [], rfl, hx, Z.cls 2 (by decide), Z.no 2 (by decide) _ (by decide +kernel), by decide, ?_⟩
  have k1 : Kept H (upd H x (.ins (C 2) dx (putF "coin" u2 []))) x := keptUpd _
  have r2' := r2.kept hx k1
  have hx1 : upd H x (.ins (C 2) dx (putF "coin" u2 [])) x = some (.ins (C 2) dx [("coin", u2)]) := upd_same
  generalize upd H x (.ins (C 2) dx (putF "coin" u2 [])) = H1 at k1 r2' hx1 ⊢
  refine ⟨_, rfl, _, rfl, x, C 2, dx, [("coin", u2)], rfl, hx1, Z.cls 2 (by decide), Z.no 2 (by decide) _ (by decide +kernel), (by show 1 < 1000; decide), ?_⟩
  have ef : putF "far" (.int k) [(("coin" : Str), u2)] = [(("coin" : Str), u2), (("far" : Str), .int k)] := by
    show (if ("coin" : Str) = "far" then _ else _) = _
    rw [if_neg (by decide +kernel)]
    rfl
  rw [ef]
  have kf : Kept H1 (upd H1 x (.ins (C 2) dx [("coin", u2), ("far", .int k)])) x := keptUpd _
  have r2'' := r2'.kept hx1 kf
  have hx1' : upd H1 x (.ins (C 2) dx [("coin", u2), ("far", .int k)]) x = some (.ins (C 2) dx [("coin", u2), ("far", .int k)]) := upd_same
  generalize upd H1 x (.ins (C 2) dx [("coin", u2), ("far", .int k)]) = H1' at kf r2'' hx1' ⊢
  refine ⟨_, rfl, _, rfl, _, rfl, _, rfl, _, rfl, by show 4 ≤ sizeLine; decide, fun m hm => ⟨_, rfl, n, rfl, by omega, n20, fun l H2 x2 rl => ?_⟩⟩
  have xm := Ext.new (o := .tup [.str "coins", .int n, u2, .int k]) hm
  have x12 := xm.trans x2
  have hm2 := x2 _ _ (show upd H1' m (.tup [.str "coins", .int n, u2, .int k]) m = _ from upd_same)
  have hx2 := x12 _ _ hx1'
  have r22 := r2''.mono x12
  refine ⟨x, _, _, _, _, 2, dx, [("coin", u2), ("far", .int k)], rfl, by decide, hx2, (by show 2 ≤ 5; decide), q n a b k rfl rfl rfl ⟨n1, n20, h2, k1', k20⟩ _ (((k1.trans kf).trans (x12.kept x)).trans (keptUpd _)) ?_⟩
  have kk : Kept H2 (upd H2 x (.ins (C 2) dx (put4 (.int n) (.int 0) (.ref m) (.ref l) [("coin", u2), ("far", .int k)]))) x := keptUpd _
  refine ob_put4 upd_same (.int _) ((Rds.tup hm2 (.cons (.str _) (.cons (.int _) (.cons r22 (.cons (.int _) .nil))))).kept hx2 kk) (rl.kept hx2 kk) (fun n hn => ?_) ⟨⟨u2, ?_, r22.kept hx2 kk⟩, ?_⟩
  · have e : n = "coin" ∨ n = "far" := by simpa using hn
    rcases e with e | e <;> rw [e] <;> decide +kernel
  · rw [put4_other (by decide +kernel)]
    rfl
  · rw [put4_other (by decide +kernel)]
    rfl
end
end My
set_option Elab.async false
set_option linter.all false
set_option maxRecDepth 100000
set_option maxHeartbeats 1000000
namespace My
open PySem PySem.W L2
theorem wo_up {H : Hp} {p : Addr} {o : HO} : Ext (wo H p) (wo (upd H p o) p) := fun b u e => by
  have n := wo_ne e
  exact wo_at n (by rw [upd_ne n]; exact wo_ext H p _ _ e)
theorem Ext.kp {G H H' : Hp} {x : Addr} (e : Ext G H) (n : G x = none) (k : Kept H H' x) : Ext G H' := fun b o h => k b o (e b o h) fun z => by rw [z, n] at h; cases h
theorem Ext.wo {G H : Hp} {x : Addr} (e : Ext G H) (n : G x = none) : Ext G (wo H x) := fun b o h => wo_at (fun z => by rw [z, n] at h; cases h) (e b o h)
section
variable {X : Cx}
def rRng2 : List V → Hp → VK → Prop := fun vs H Q => ∃ i j : Int, vs = [.int i, .int j] ∧ ∀ r, H r = none → Q (.ref r) (upd H r (.rng i j))
theorem call_rng2 : CallR X (.type "range") rRng2 := by
  intro pins s σ H xs us Q I r h
  obtain ⟨i, j, rfl, q⟩ := h
  obtain ⟨u, v, rfl, ⟨t, rfl⟩, t', rfl⟩ := vals2 r
  refine call_range_2 ⟨.ref s.heap.objs.size, _, I.laid (t' := s.toks + 1) (o := .rng i j) (fun b o e => Heap.get?_push_of_some _ e) (Nat.le_refl _) ?_, rfl, q _ (I.hok.fresh (Nat.le_refl _))⟩
  exact ⟨_, _, _, Heap.get?_push_size _ rfl⟩
end
section
variable {X : Cx} {pins : List (Addr × Obj)} {σ : St} {H : Hp} {s : Shared} {A : Around} {Q : Value → Shared → Prop} {E : Value → Shared → Prop} {b : Bool} {tp : Addr} {dd : Option Addr} {its : List Value} {n : Nat} {sl : Array (Option Value)}
theorem isinst_tup {x : V} {u t : Value} (I : Inv X pins σ H s) (rx : RelV x u) (ty : TyOf X.K H x t) (htp : s.heap.get? tp = some ⟨.type "tuple", dd, .seq its.toArray n, sl⟩) (e : PySem.W.kitAny X.K t its = some b) (h : ∀ tk, Q (.bool b) { s with toks := tk }) :
    wpAny (model X.prog X.w) A (call (.builtin "isinstance") [u, .ref tp]) Q E s := by
  cases ty with
  | non => cases (show u = Value.none from rx); exact PySem.W.kia_tup PySem.W.kitx_none I.kIn True.intro htp e (fun z => nomatch z) h
  | bl y => cases (show u = Value.bool y from rx); exact PySem.W.kia_tup PySem.W.kitx_bool I.kIn True.intro htp e (fun z => nomatch z) h
  | int i => obtain ⟨t, q⟩ := (show ∃ t, u = Value.int i t from rx); cases q; exact PySem.W.kia_tup PySem.W.kitx_int I.kIn True.intro htp e (fun z => nomatch z) h
  | str y => obtain ⟨t, q⟩ := (show ∃ t, u = Value.str y t from rx); cases q; exact PySem.W.kia_tup PySem.W.kitx_str I.kIn True.intro htp e (fun z => nomatch z) h
  | flt y => obtain ⟨t, q⟩ := (show ∃ t, u = Value.float y t from rx); cases q; exact PySem.W.kia_tup PySem.W.kitx_float I.kIn True.intro htp e (fun z => nomatch z) h
  | @lst a xs ea =>
    cases (show u = Value.ref a from rx)
    obtain ⟨_, _, n, _, h1⟩ := (show ObjOk X.prog X.w H s.heap a (.lst xs) from I.hok a _ ea)
    exact PySem.W.kia_tup PySem.W.kitx_list I.kIn ⟨_, h1, rfl⟩ htp e (fun z => nomatch z) h
  | @frz a ob xs ea =>
    cases (show u = Value.ref a from rx)
    obtain ⟨_, _, _, n, _, h1⟩ := (show ObjOk X.prog X.w H s.heap a (.frz ob (.lst xs)) from I.hok a _ ea)
    exact PySem.W.kia_tup PySem.W.kitx_list I.kIn ⟨_, h1, rfl⟩ htp e (fun z => nomatch z) h
  | @tup a xs ea =>
    cases (show u = Value.ref a from rx)
    obtain ⟨_, _, _, p⟩ := (show ObjOk X.prog X.w H s.heap a (.tup xs) from I.hok a _ ea)
    obtain ⟨o, h1, h2, _⟩ := p
    exact PySem.W.kia_tup PySem.W.kitx_tuple I.kIn ⟨o, h1, h2⟩ htp e (fun z => nomatch z) h
  | @dK a kvs ea =>
    cases (show u = Value.ref a from rx)
    obtain ⟨_, _, vs, _, p⟩ := (show ObjOk X.prog X.w H s.heap a (.dK kvs) from I.hok a _ ea)
    obtain ⟨o, es, ep, h1, h2, _⟩ := p
    exact PySem.W.kia_tup PySem.W.kitx_dict I.kIn ⟨o, h1, h2.1⟩ htp e (fun z => nomatch z) h
  | @dT a kvs ea =>
    cases (show u = Value.ref a from rx)
    obtain ⟨_, _, xs, _, o, es, ep, h1, h2, _⟩ := (show ObjOk X.prog X.w H s.heap a (.dT kvs) from I.hok a _ ea)
    exact PySem.W.kia_tup PySem.W.kitx_dict I.kIn ⟨o, h1, h2.1⟩ htp e (fun z => nomatch z) h
  | @ins a C dx fs ea cl ha hn htk hm =>
    cases (show u = Value.ref a from rx)
    obtain ⟨mA, O, _⟩ := ins_get I.hok ea
    obtain ⟨od, J, _⟩ := O.look
    exact PySem.W.kia_tup (PySem.W.kitx_own (cl.get _) cl.hd ha hn htk hm) I.kIn J htp e (fun z => nomatch z) h
end
section
variable {X : Cx}
def rIsOn (K : Frag) : List V → Hp → VK → Prop := fun vs H Q => ∃ (x : V) (p : Addr) (cs : List Addr) (t : Value) (b : Bool), vs = [x, .ref p] ∧ TyOf K H x t ∧ H p = some (.tup (cs.map V.ref)) ∧ kitAny K t (cs.map Value.ref) = some b ∧ Q (.bl b) H
theorem call_isOn : CallR X (.builtin "isinstance") (rIsOn X.K) := by
  intro pins s σ H xs us Q I r h
  obtain ⟨x, p, cs, t, b, rfl, ty, hp, e, q⟩ := h
  obtain ⟨u, u', rfl, ru, ru'⟩ := vals2 r
  cases (show u' = Value.ref p from ru')
  obtain ⟨_, its, rv, ⟨o, h1, h2, n, h3⟩⟩ := (show ObjOk X.prog X.w H s.heap p (.tup (cs.map V.ref)) from I.hok p _ hp)
  have ei := vals_refs rv
  subst ei
  obtain ⟨c0, d0, dt0, sl0⟩ := o
  have hc0 : c0 = .type "tuple" := h2
  have hd0 : dt0 = .seq (cs.map Value.ref).toArray n := h3
  subst hc0
  subst hd0
  exact isinst_tup I ru ty h1 e fun tk => ⟨.bl b, H, I.tok _, rfl, q⟩
end
def BlkK (K : Frag) (C : Nat → Addr) (H : Hp) (v : V) (b : Bool) : Prop := ∃ t, TyOf K H v t ∧ kitAny K t [.ref (C 0), .ref (C 1), .ref (C 2)] = some b
theorem BlkK.ext {K : Frag} {C : Nat → Addr} {H H' : Hp} {v : V} {b : Bool} (h : BlkK K C H v b) (x : Ext H H') : BlkK K C H' v b := by
  obtain ⟨t, k, e⟩ := h
  exact ⟨t, My.TyOf.ext k x, e⟩
theorem kitAny3 {K : Frag} {t a b c : Value} {x y z : Bool} (h1 : kitOne K t a = some x) (h2 : kitOne K t b = some y) (h3 : kitOne K t c = some z) : kitAny K t [a, b, c] = some (x || (y || z)) := by
  cases x <;> cases y <;> cases z <;> simp [kitAny, h1, h2, h3]
theorem Ob.ty {K : Frag} {C : Nat → Addr} {CR : Addr} {H : Hp} {i : Nat} {v : V} {fk : Int} {bg tl pt : PyData} {X : List (Str × V) → Prop} (Z : KR K C CR) (hi : i < 5) (h : Ob (C i) H v fk bg tl pt X) : TyOf K H v (.ref (C i)) := by
  obtain ⟨a, dx, fs, rfl, ha, _⟩ := h.ex
  exact .ins ha (Z.cls i hi) (Z.ha i hi) Z.hn Z.htk (Z.hm i hi)
theorem blk_rule {K : Frag} {C : Nat → Addr} {CR : Addr} {H : Hp} {t : Rl} {v : V} (Z : KR K C CR) (h : Ru C H t v) : BlkK K C H v (t.kind == 0 || (t.kind == 1 || t.kind == 2)) :=
  ⟨_, h.ob.ty Z t.kind_lt, kitAny3 (Z.kk _ 0 t.kind_lt (by decide)) (Z.kk _ 1 t.kind_lt (by decide)) (Z.kk _ 2 t.kind_lt (by decide))⟩
theorem lcF {J : It} {tt : TT} {cap : St} {D : Addr} {H1 : Hp} {Q : Hp → Prop} {xs : List V} (p : V → Bool) (hz : xs.length < sizeLine) (hD : H1 D = none) (go : ∀ i H, Ext H1 H → i < xs.length → J.go i H) (st : ∀ H, Ext H1 H → J.stop xs.length H) (yl : ∀ i H x H', Ext H1 H → J.yld i H x H' → H' = H ∧ xs[i]? = some x)
    (hs : ∀ (i : Nat) x H, xs[i]? = some x → Ext H1 H → ∀ R : Bool → Hp → Prop, (∀ H', Ext H H' → R (p x) H') → tt (some x :: cap) H R) (hd : ∀ H, Ext H1 H → H D = some (.lst (xs.filter p)) → Q H) :
    ∃ W : Nat → Nat → List V → Hp → Prop, (∃ m, W 0 m [] (upd H1 D (.lst []))) ∧
      ∀ i m ys H2, W i m ys H2 → H2 D = some (.lst ys) ∧ ((J.stop i H2 ∧ Q H2) ∨ (J.go i H2 ∧ ys.length < sizeLine ∧
        ∀ x H3, J.yld i H2 x H3 → ∀ os : St, os.length = 1 → gName 0 x (os ++ cap) H3 fun σ2 H0 => (∃ os' : St, os'.length = 1 ∧ σ2 = os' ++ cap) ∧ tt σ2 H0 fun b H5 => (b = false → ∃ m', m' < m ∧ W (i + 1) m' ys H5) ∧
          (b = true → tVar 0 σ2 H5 fun y H4 => H4 D = some (.lst ys) ∧ ∃ m', m' < m ∧ W (i + 1) m' (ys ++ [y]) (upd H4 D (.lst (ys ++ [y])))))) := by
  refine ⟨fun i m ys H => m = xs.length - i ∧ i ≤ xs.length ∧ H D = some (.lst ys) ∧ ys = (xs.take i).filter p ∧ Ext H1 H, ⟨xs.length, by simp, Nat.zero_le _, upd_same, rfl, Ext.new hD⟩, ?_⟩
  rintro i m ys H ⟨rfl, hi, hD', rfl, x1⟩
  refine ⟨hD', ?_⟩
  by_cases hlt : i < xs.length
  · refine .inr ⟨go i H x1 hlt, ?_, fun x H' hyl os los => ?_⟩
    · have := List.length_filter_le p (xs.take i)
      rw [List.length_take] at this
      omega
    obtain ⟨rfl, hx⟩ := yl i H x H' x1 hyl
    obtain ⟨o0, rfl⟩ : ∃ o0, os = [o0] := by
      match os, los with
      | [o0], _ => exact ⟨o0, rfl⟩
    refine ⟨⟨[some x], rfl, rfl⟩, hs i x H' hx x1 _ fun H5 x5 => ⟨fun e => ?_, fun e => ?_⟩⟩
    · refine ⟨xs.length - (i + 1), by omega, rfl, hlt, x5 _ _ hD', ?_, x1.trans x5⟩
      rw [take_all hx, List.filter_append, List.filter_cons_of_neg (by rw [e]; decide), List.filter_nil, List.append_nil]
    · refine ⟨x, rfl, x5 _ _ hD', xs.length - (i + 1), by omega, rfl, hlt, upd_same, ?_, ext_upd _ (x1.trans x5) hD⟩
      rw [take_all hx, List.filter_append, List.filter_cons_of_pos e, List.filter_nil]
  · have e : i = xs.length := by omega
    subst e
    refine .inl ⟨st H x1, hd H x1 ?_⟩
    rw [List.take_length] at hD'
    exact hD'
theorem filter_ints (p : Int → Bool) (pv : V → Bool) (h : ∀ i, pv (.int i) = p i) : ∀ ns : List Int, (ns.map V.int).filter pv = (ns.filter p).map V.int
  | [] => rfl
  | n :: ns => by
    rw [List.map_cons]
    cases e : p n with
    | true => rw [List.filter_cons_of_pos (by rw [h]; exact e), List.filter_cons_of_pos e, filter_ints p pv h ns]; rfl
    | false => rw [List.filter_cons_of_neg (by rw [h, e]; decide), List.filter_cons_of_neg (by rw [e]; decide), filter_ints p pv h ns]
theorem RdsAll.filter {G : Hp} {α : Type} {f : α → PyData} {p : α → Bool} {pv : V → Bool} : ∀ {ys : List V} {qs : List α}, RdsAll G ys (qs.map f) → (∀ (i : Nat) y q, ys[i]? = some y → qs[i]? = some q → pv y = p q) → RdsAll G (ys.filter pv) ((qs.filter p).map f)
  | [], [], _, _ => .nil
  | [], _ :: _, h, _ => by cases h
  | _ :: _, [], h, _ => by cases h
  | y :: ys, q :: qs, h, k => by
    cases h with
    | cons r t =>
      have e0 := k 0 y q rfl rfl
      have ih := RdsAll.filter t fun i y' q' a b => k (i + 1) y' q' a b
      cases e : p q with
      | true => rw [List.filter_cons_of_pos (by rw [e0]; exact e), List.filter_cons_of_pos e]; exact .cons r ih
      | false => rw [List.filter_cons_of_neg (by rw [e0, e]; decide), List.filter_cons_of_neg (by rw [e]; decide)]; exact ih
def Sm (ps : List (List Int)) : Prop := ps.length ≤ 20 ∧ ∀ p ∈ ps, p.length ≤ 20
theorem secs_len : ∀ (ns : List Int) (s : Int), (secs s ns).length = ns.length
  | [], _ => rfl
  | n :: ns, s => by show (secs (s + n) ns).length + 1 = _; rw [secs_len ns]; rfl
theorem secs_mem : ∀ (ns : List Int) (s : Int), (∀ n ∈ ns, n ≤ 20) → ∀ p ∈ secs s ns, p.length ≤ 20
  | [], _, _, _, h => by cases h
  | n :: ns, s, hn, p, h => by
    rcases List.mem_cons.mp h with rfl | h
    · have := hn n (List.mem_cons_self ..)
      unfold upI
      simp only [List.length_map, List.length_range]
      omega
    · exact secs_mem ns _ (fun m hm => hn m (List.mem_cons_of_mem _ hm)) p h
theorem Sm.cut {ps : List (List Int)} (m : Int) (h : Sm ps) : Sm (cutP m ps) := by
  unfold cutP
  refine ⟨Nat.le_trans (List.length_filter_le _ _) (by rw [List.length_map]; exact h.1), fun p hp => ?_⟩
  obtain ⟨q, hq, rfl⟩ := List.mem_map.mp (List.mem_filter.mp hp).1
  exact Nat.le_trans (List.length_filter_le _ _) (h.2 q hq)
theorem Rl.sm : ∀ {t : Rl}, t.ok → Sm t.parts
  | .one r, h => by
    have := R0.folk_ok h
    refine ⟨by show 1 ≤ 20; decide, fun p hp => ?_⟩
    rw [List.mem_singleton.mp hp]
    unfold upI
    simp only [List.length_map, List.length_range]
    omega
  | .blocks rs, h => by
    obtain ⟨h1, h6, ok, s20⟩ := h
    refine ⟨by show (secs 0 (rs.map R0.folk)).length ≤ 20; rw [secs_len, List.length_map]; omega, secs_mem _ _ fun n hn => ?_⟩
    obtain ⟨r, hr, rfl⟩ := List.mem_map.mp hn
    exact (R0.folk_ok (ok r hr)).2
  | .first t m, h => (Rl.sm h.1).cut m
theorem secs_app (n : Int) : ∀ (ns : List Int) (s : Int), secs s (ns ++ [n]) = secs s ns ++ [upI (s + ns.sum) n.toNat]
  | [], s => by simp [secs]
  | m :: ns, s => by
    show upI s m.toNat :: secs (s + m) (ns ++ [n]) = _
    rw [secs_app n ns (s + m), List.sum_cons, Int.add_assoc]
    rfl
end My
set_option Elab.async false
set_option linter.all false
set_option maxRecDepth 100000
set_option maxHeartbeats 1000000
set_option exponentiation.threshold 5000
namespace My
open PySem PySem.W L2
structure Ms (P : Program) (w : World) (K : Frag) (mg : Str → Option Value) (base : Heap) (C : Nat → Addr) : Prop where
  folk : MethS P w K mg base CX0 1 "folk" ["self"] (Is5 C) (fun _ => spFolk C)
  begin : MethS P w K mg base CX0 1 "begin" ["self"] (Is5 C) (fun _ => spBegin C)
  told : MethS P w K mg base CX0 1 "told" ["self"] (Is5 C) (fun _ => spTold C)
  blocks : MethS P w K mg base CX0 1 "blocks" ["self"] (Is5 C) (fun _ => spBlk C)
section
variable {P : Program} {w : World} {K : Frag} {mg : Str → Option Value} {base : Heap} {C : Nat → Addr} {CR : Addr}
abbrev sMBk : Stmt := top 35
def spMBk (K : Frag) (C : Nat → Addr) : Sp := fun vs H Q _ => ∃ v b, vs = [v] ∧ BlkK K C H v b ∧ ∀ H', Ext H H' → Q (.bl b) H'
theorem scMBk : FnScope ["thing"] ["thing"] (defScope sMBk) := ⟨rfl, rfl, rfl, by decide +kernel, rfl, by decide +kernel, by decide +kernel⟩
theorem ok_mbk {f : Addr} {fd : FuncData} (F : Fun K "may_be_block" "may_be_block" sMBk f fd) (m0 : mg "Split" = some (.ref (C 0))) (m1 : mg "Pairs" = some (.ref (C 1))) (m2 : mg "Coins" = some (.ref (C 2))) (mi : mg "isinstance" = none) : FnOk P w K mg base CX0 1 f fd ["thing"] (spMBk K C) := by
  refine F.ok scMBk (fun vs H Q E h => ?_) (fun cdv A outer s H vs Q E hr h => ?_)
  · obtain ⟨_, _, rfl, _⟩ := h
    rfl
  obtain ⟨v, b, rfl, bk, q⟩ := h
  refine ⟨_, pss_one (ps_ret (pe_callB call_isOn rfl mi PyProof.Rows.boot_isinstance (pa_cons (pv 0) (pa_cons (pe_tup (pa_cons (pe_glob (v := .ref (C 0)) rfl m0 rfl) (pa_cons (pe_glob (v := .ref (C 1)) rfl m1 rfl) (pa_cons (pe_glob (v := .ref (C 2)) rfl m2 rfl) pa_nil)))) pa_nil)))), ?_⟩
  refine ⟨_, rfl, by show 3 ≤ sizeLine; decide, fun p hp => ?_⟩
  have x1 := Ext.new (o := .tup [.ref (C 0), .ref (C 1), .ref (C 2)]) hp
  obtain ⟨t, ty, ka⟩ := bk.ext x1
  exact ⟨v, p, [C 0, C 1, C 2], t, b, rfl, ty, upd_same, ka, q _ x1⟩
abbrev sAB : Stmt := top 36
def BlkAll (K : Frag) (C : Nat → Addr) (H : Hp) (xs : List V) (bs : List Bool) : Prop := xs.length = bs.length ∧ ∀ (i : Nat) x b, xs[i]? = some x → bs[i]? = some b → BlkK K C H x b
def abB (n : Nat) (bs : List Bool) : Bool := (decide (1 ≤ n) && decide (n ≤ 6)) && bs.all id
def spAB (K : Frag) (C : Nat → Addr) : Sp := fun vs H Q _ => ∃ v, vs = [v] ∧ ((NoK K H v "list" ∧ ∀ H', Ext H H' → Q (.bl false) H') ∨ ∃ a xs bs, v = .ref a ∧ H a = some (.lst xs) ∧ xs.length < 1000 ∧ BlkAll K C H xs bs ∧ ∀ H', Ext H H' → Q (.bl (abB xs.length bs)) H')
theorem scAB : FnScope ["thing"] ["thing"] (defScope sAB) := ⟨rfl, rfl, rfl, by decide +kernel, rfl, by decide +kernel, by decide +kernel⟩
abbrev scABC : Scope := { kind := .function, names := [(".0", .local), ("rule", .local), ("may_be_block", .globalImplicit)], isGenerator := false, isCoroutine := false }
theorem compAB {X : Cx} : CompG X scABC [] ["rule"] [] [] := by
  refine ⟨rfl, rfl, by decide +kernel, by decide +kernel, by decide +kernel, (fun z c h => nomatch h), (fun z h => ?_), by decide +kernel, (fun k z h => by simp at h), rfl⟩
  exfalso
  have h' : List.lookup z [((".0" : Str), NameKind.local), (("rule" : Str), NameKind.local), (("may_be_block" : Str), NameKind.globalImplicit)] = some .cell ∨ List.lookup z [((".0" : Str), NameKind.local), (("rule" : Str), NameKind.local), (("may_be_block" : Str), NameKind.globalImplicit)] = some .free := h
  simp only [List.lookup_cons, List.lookup_nil] at h'
  repeat' (split at h')
  all_goals simp at h'
theorem ndAB : ((["rule"] : List Str) ++ ([] : List Str)).Nodup := by decide +kernel
theorem ok_ab {f a1 a2 : Addr} {fd d1 d2 : FuncData} {t : Tok} (N : IsT K) (F : Fun K "are_block_rules" "are_block_rules" sAB f fd) (A1 : Df P w K mg base CX0 1 "may_be_block" ["thing"] (spMBk K C) a1 d1) (A2 : Df P w K mg base CX0 2 "is_whole" ["thing", "low", "high"] (spIsWh K) a2 d2) (mR : mg "MOST_RULES" = some (.int 6 t))
    (mi : mg "isinstance" = none) (ml : mg "list" = none) (mn : mg "len" = none) (ma : mg "all" = none) : FnOk P w K mg base CX0 3 f fd ["thing"] (spAB K C) := by
  refine F.ok scAB (fun vs H Q E h => ?_) (fun cdv A outer s H vs Q E hr h => ?_)
  · obtain ⟨_, rfl, _⟩ := h
    rfl
  obtain ⟨v, rfl, h⟩ := h
  have hr1 : Room 1 _ := hr.mono (by decide)
  refine ⟨_, pss_cons (ps_if (PW.pt (pw_or (pt_not (pt_val (pe_callB (call_isK N) rfl mi PyProof.Rows.boot_isinstance (pa_cons (pv 0) (pa_cons (pe_ty rfl ml PyProof.Rows.boot_list) pa_nil))))) (pw_or1 (pt_not (pt_val (pe_call A2.G hr rfl A2.m A2.kp A2.b .nil pass0 (pa_cons (pe_callB call_len_seq rfl mn PySem.boot_len (pa_cons (pv 0) pa_nil)) (pa_cons pe_int (pa_cons (pe_glob (v := .int 6) rfl mR ⟨_, rfl⟩) pa_nil))))))))) (pss_one (ps_ret pe_bl)) pss_nil)
    (pss_one (ps_ret (pe_callB (call_all rfl) rfl ma PyProof.Rows.boot_all (pa_cons (pe_lcG (te := tCall (spMBk K C) [] E0 (tCons (tVar 0) tNil)) (g := gName 0) rfl compAB (pi_list (pv 0)) (fun s H C fp => by exact pg_name (i := 0) ndAB rfl (.inl rfl)) (fun s H C fp => by exact pe_call A1.G hr1 rfl A1.m A1.kp A1.b .nil pass0 (pa_cons (pv 0) pa_nil))) pa_nil)))), ?_⟩
  rcases h with ⟨⟨t, kd, kt⟩, q⟩ | ⟨a, xs, bs, rfl, ha, l1000, ⟨lb, bk⟩, q⟩
  · exact ⟨_, rfl, _, _, _, _, rfl, kd, kt, _, rfl, itT (itT (q H (Ext.refl _)))⟩
  refine ⟨_, rfl, _, _, _, _, rfl, .inl (.lst ha), rfl, _, rfl, itF ?_⟩
  refine ⟨_, rfl, a, xs, rfl, .inl (SqL.of ha), _, 1, 6, rfl, .inl ⟨_, rfl⟩, _, rfl, ?_⟩
  have ei : inB 1 6 (.int (xs.length : Nat)) = (decide (1 ≤ xs.length) && decide (xs.length ≤ 6)) := by
    show (decide ((1 : Int) ≤ (xs.length : Nat)) && decide (((xs.length : Nat) : Int) ≤ 6)) = _
    congr 1 <;> exact decide_eq_decide.mpr (by omega)
  rw [ei]
  unfold abB at q
  cases e : decide (1 ≤ xs.length) && decide (xs.length ≤ 6) with
  | false =>
    rw [e, Bool.false_and] at q
    exact itT (q H (Ext.refl _))
  | true =>
    rw [e, Bool.true_and] at q
    refine itF ⟨_, rfl, a, rfl, ⟨_, SqL.of ha⟩, fun D hD => ?_⟩
    refine lcG_list (a := a) (xs := xs) (fun i ys H' => Ext H H' ∧ ys = (bs.take i).map V.bl) (by rw [sizeLine_eq]; omega) ⟨Ext.new hD, rfl⟩ (fun i ys H' pv => SqL.of (pv.1 _ _ ha)) ?_ ?_
    · rintro i x ys H' ex ly hDD ⟨x', rfl⟩ os los R k
      obtain ⟨o0, rfl⟩ : ∃ o0, os = [o0] := by
        match os, los with
        | [o0], _ => exact ⟨o0, rfl⟩
      have hi : i < bs.length := by have := (List.getElem?_eq_some_iff.mp ex).1; omega
      refine ⟨⟨[some x], rfl, rfl⟩, _, rfl, x, _, rfl, (bk i x _ ex (List.getElem?_eq_getElem hi)).ext x', fun H4 x4 => k _ H4 (x4 _ _ hDD) ⟨ext_upd _ (x'.trans x4) hD, ?_⟩⟩
      rw [take_all (List.getElem?_eq_getElem hi), List.map_append]
      rfl
    · rintro ys H' ly hDD ⟨x', rfl⟩
      rw [lb, List.take_length] at hDD
      exact ⟨D, bs, rfl, SqL.of hDD, q H' x'⟩
abbrev sPO : Stmt := top 28
def spPO (C : Nat → Addr) : Sp := fun vs H Q _ => ∃ (a : Addr) (xs : List V) (rs : List R0), vs = [.ref a] ∧ H a = some (.lst xs) ∧ All0 C H rs xs ∧ rs.length ≤ 6 ∧ (∀ r ∈ rs, r.ok) ∧ ∀ l H', Ext H H' → Rds H' (.ref l) (partsD (secs 0 (rs.map R0.folk))) → Q (.ref l) H'
abbrev NPO : List Str := ["rules", "parts", "start", "rule", "behind"]
theorem scPO : FnScope NPO ["rules"] (defScope sPO) := ⟨rfl, rfl, rfl, by decide +kernel, rfl, by decide +kernel, by decide +kernel⟩
theorem sum_take {ns : List Int} {i : Nat} {n : Int} (h : ns[i]? = some n) : (ns.take (i + 1)).sum = (ns.take i).sum + n := by
  rw [take_all h, List.sum_append]
  simp
theorem folk_bound {rs : List R0} (h6 : rs.length ≤ 6) (ok : ∀ r ∈ rs, r.ok) : ∀ i, 0 ≤ (((rs.take i).map R0.folk).sum) ∧ ((rs.take i).map R0.folk).sum ≤ 120 := by
  have gen : ∀ (l : List R0), (∀ r ∈ l, r.ok) → 0 ≤ (l.map R0.folk).sum ∧ (l.map R0.folk).sum ≤ 20 * (l.length : Int) := by
    intro l
    induction l with
    | nil => intro _; simp
    | cons r l ih =>
      intro h
      have h1 := R0.folk_ok (h r (List.mem_cons_self ..))
      have h2 := ih fun x hx => h x (List.mem_cons_of_mem _ hx)
      simp only [List.map_cons, List.sum_cons, List.length_cons]
      omega
  intro i
  have := gen (rs.take i) fun r hr => ok r (List.mem_of_mem_take hr)
  have l : (rs.take i).length ≤ 6 := by rw [List.length_take]; omega
  omega
theorem ok_po {f : Addr} {fd : FuncData} (F : Fun K "parts_of" "parts_of" sPO f fd) (M : Ms P w K mg base C) (mt : mg "tuple" = none) (mr : mg "range" = none) : FnOk P w K mg base CX0 2 f fd ["rules"] (spPO C) := by
  refine F.ok scPO (fun vs H Q E h => ?_) (fun cdv A outer s H vs Q E hr h => ?_)
  · obtain ⟨_, _, _, rfl, _⟩ := h
    rfl
  obtain ⟨a, xs, rs, rfl, ha, al, l6, ok, q⟩ := h
  have nd := scPO.nd
  refine ⟨_, pss_cons (ps_set (i := 1) nd rfl (Or.inl rfl) (pe_lst pa_nil)) (pss_cons (ps_set (i := 2) nd rfl (Or.inl rfl) pe_int)
    (pss_cons (ps_for PassesOwn.never rfl (pi_list (pv 0)) (pg_name (i := 3) nd rfl (Or.inl rfl)) (pss_cons (ps_set (i := 4) nd rfl (Or.inl rfl) (pe_op op_add (pv 2) (pe_methD0 (pv 3) M.folk hr pass0)))
      (pss_cons (ps_expr (pe_bm PySem.F.plainAttrs_list PySem.F.slot_list_append PySem.F.type_list_append mt_append (pv 1) (pa_cons (pe_callTy (call_tupR rfl) rfl mt PyProof.Rows.boot_tuple (pa_cons (pe_callTy call_rng2 rfl mr PyProof.Rows.boot_range (pa_cons (pv 2) (pa_cons (pv 4) pa_nil))) pa_nil)) pa_nil)))
      (pss_one (ps_set (i := 2) nd rfl (Or.inl rfl) (pv 4))))))
    (pss_one (ps_ret (pe_callTy call_tuple_of rfl mt PyProof.Rows.boot_tuple (pa_cons (pv 1) pa_nil)))))), ?_⟩
  refine ⟨by show 0 ≤ sizeLine; decide, fun p hp => ?_⟩
  have x1 := Ext.new (o := .lst []) hp
  have f1 : upd H p (.lst []) p = some (.lst []) := upd_same
  generalize upd H p (.lst []) = H1 at x1 f1 ⊢
  have ap : a ≠ p := fun e => by rw [← e, ha] at hp; cases hp
  refine ⟨_, rfl, a, rfl, ⟨_, SqL.of (x1 _ _ ha)⟩, for_list (xs := xs) (fun i σ H' => Ext H H' ∧ (∃ qs, H' p = some (.lst qs) ∧ RdsAll (wo H' p) qs ((secs 0 ((rs.take i).map R0.folk)).map tupD)) ∧ ∃ o3 o4, σ = [some (.ref a), some (.ref p), some (.int ((rs.take i).map R0.folk).sum), o3, o4]) ⟨x1, ⟨[], f1, .nil⟩, _, _, rfl⟩ ?_ ?_ ?_⟩
  · rintro i σ H' _ ⟨x', _⟩
    exact SqL.of (x' _ _ ha)
  · rintro i v σ H' ev ⟨x', ⟨qs, hq, rq⟩, o3, o4, rfl⟩
    have hi : i < rs.length := by have := (List.getElem?_eq_some_iff.mp ev).1; rw [al.1]; exact this
    have er := List.getElem?_eq_getElem hi
    have ru := (al.2 i _ v er ev).ext x'
    have em : (rs.map R0.folk)[i]? = some rs[i].folk := by rw [List.getElem?_map, er]; rfl
    have st : ((rs.take (i + 1)).map R0.folk).sum = ((rs.take i).map R0.folk).sum + rs[i].folk := by
      rw [List.map_take, List.map_take]
      exact sum_take em
    have b1 := folk_bound l6 ok i
    have b2 := R0.folk_ok (ok _ (List.getElem_mem hi))
    have lq : qs.length ≤ 6 := by
      have := rq.length
      rw [List.length_map] at this
      have sl : ∀ (ns : List Int) (s : Int), (secs s ns).length = ns.length := by
        intro ns
        induction ns with
        | nil => intro s; rfl
        | cons n ns ih => intro s; show (secs (s + n) ns).length + 1 = _; rw [ih]; rfl
      rw [sl, List.length_map, List.length_take] at this
      omega
    refine ⟨_, rfl, rd_meth0 (t := .one rs[i]) (by decide +kernel) ru (fun R r => ⟨_, rfl, r⟩) ⟨v, .one rs[i], rfl, ru, _, _, rfl, rfl, ?_⟩⟩
    refine ⟨_, rfl, .inl ⟨rfl, _, SqL.of hq⟩, _, rfl, _, rfl, _, _, rfl, fun r hr => ⟨r, _, _, rfl, upd_same, ⟨by show -(2 ^ 62) ≤ _; omega, by omega, by show -(2 ^ 62) ≤ _ + R0.folk _; omega, by show _ + R0.folk _ < _; omega⟩, by show (_ + R0.folk _ - _).toNat ≤ _; omega, fun l hl => ?_⟩⟩
    have xr := Ext.new (o := .rng ((rs.take i).map R0.folk).sum (((rs.take i).map R0.folk).sum + rs[i].folk)) hr
    have ed : (((rs.take i).map R0.folk).sum + rs[i].folk - ((rs.take i).map R0.folk).sum).toNat = rs[i].folk.toNat := by congr 1; omega
    have ed' : (((rs.take i).map R0.folk).sum + (Rl.one rs[i]).folk - ((rs.take i).map R0.folk).sum).toNat = rs[i].folk.toNat := ed
    rw [ed', upL_eq]
    have hl' : upd H' r (.rng ((rs.take i).map R0.folk).sum (((rs.take i).map R0.folk).sum + rs[i].folk)) l = none := hl
    have xl := Ext.new (o := .tup ((upI ((rs.take i).map R0.folk).sum rs[i].folk.toNat).map V.int)) hl'
    have x2 := xr.trans xl
    have hq2 := x2 _ _ hq
    have np : l ≠ p := fun e => by rw [e, xr _ _ hq] at hl'; cases hl'
    have hl2 : upd (upd H' r (.rng ((rs.take i).map R0.folk).sum (((rs.take i).map R0.folk).sum + rs[i].folk))) l (.tup ((upI ((rs.take i).map R0.folk).sum rs[i].folk.toNat).map V.int)) l = some (.tup ((upI ((rs.take i).map R0.folk).sum rs[i].folk.toNat).map V.int)) := upd_same
    refine ⟨p, qs, .ref l, rfl, rfl, hq2, by rw [sizeLine_eq]; omega, ?_⟩
    show tAsg (tVar 4) (gName 2) _ [some (.ref a), some (.ref p), some (.int ((rs.take i).map R0.folk).sum), some v, some (.int (((rs.take i).map R0.folk).sum + rs[i].folk))] (upd (upd (upd H' r (.rng ((rs.take i).map R0.folk).sum (((rs.take i).map R0.folk).sum + rs[i].folk))) l (.tup ((upI ((rs.take i).map R0.folk).sum rs[i].folk.toNat).map V.int))) p (.lst (qs ++ [.ref l])))
    generalize upd (upd H' r (.rng ((rs.take i).map R0.folk).sum (((rs.take i).map R0.folk).sum + rs[i].folk))) l (.tup ((upI ((rs.take i).map R0.folk).sum rs[i].folk.toNat).map V.int)) = H2 at x2 hq2 hl2 ⊢
    refine ⟨_, rfl, ext_upd _ (x'.trans x2) hp, ⟨_, upd_same, ?_⟩, _, _, by rw [st]; rfl⟩
    have e1 : (secs 0 ((rs.take (i + 1)).map R0.folk)).map tupD = (secs 0 ((rs.take i).map R0.folk)).map tupD ++ [tupD (upI ((rs.take i).map R0.folk).sum rs[i].folk.toNat)] := by
      rw [take_all er, List.map_append, List.map_cons, List.map_nil, secs_app, List.map_append, Int.zero_add]
      rfl
    rw [e1]
    refine ((RdsAll.mono (wo_ex x2 p) rq).append (.cons (.tup (wo_at np hl2) (rds_intsD _ _)) .nil) |> RdsAll.mono wo_up)
  · rintro σ H' ⟨x', ⟨qs, hq, rq⟩, o3, o4, rfl⟩
    have lr : xs.length = rs.length := al.1.symm
    rw [lr, List.take_length] at rq
    refine ⟨_, rfl, p, qs, rfl, .inl ⟨SqL.of hq, fun l hl => ?_⟩⟩
    have xl := Ext.new (o := .tup qs) hl
    exact q l _ (x'.trans xl) (.tup upd_same (RdsAll.mono ((wo_ext H' p).trans xl) rq))
end
end My
set_option Elab.async false
set_option linter.all false
set_option maxRecDepth 100000
set_option maxHeartbeats 1000000
set_option exponentiation.threshold 5000
namespace My
open PySem PySem.W L2
def aheadD (rs : List R0) (n : Nat) : PyData := match rs[n]? with
  | none => .tuple [.int (n : Nat), .none]
  | some r => .tuple [.int (n : Nat), r.begin]
theorem ahead0 (rs : List R0) : aheadD rs 0 = (Rl.blocks rs).begin := by cases rs <;> rfl
section
variable {P : Program} {w : World} {K : Frag} {mg : Str → Option Value} {base : Heap} {C : Nat → Addr} {CR : Addr}
abbrev sSA : Stmt := inClass (top 37) 1
def spSA (C : Nat → Addr) : Sp := fun vs H Q _ => ∃ (x : Addr) (n : Nat) (dx : Addr) (fs : List (Str × V)) (l : Addr) (ws : List V) (rs : List R0), vs = [.ref x, .int (n : Nat)] ∧ H x = some (.ins (C 3) dx fs) ∧ fs.lookup ("rules" : Str) = some (.ref l) ∧ H l = some (.tup ws) ∧ All0 C H rs ws ∧ n ≤ rs.length ∧ ∀ m H', Ext H H' → Rds H' (.ref m) (aheadD rs n) → Q (.ref m) H'
theorem scSA : FnScope ["self", "number"] ["self", "number"] (defScope sSA) := ⟨rfl, rfl, rfl, by decide +kernel, rfl, by decide +kernel, by decide +kernel⟩
theorem ok_sa {f : Addr} {fd : FuncData} (Z : KR K C CR) (F : Fun K "state_ahead" "Blocks.state_ahead" sSA f fd) (M : Ms P w K mg base C) (ml : mg "len" = none) : FnOk P w K mg base CX0 2 f fd ["self", "number"] (spSA C) := by
  refine F.ok scSA (fun vs H Q E h => ?_) (fun cdv A outer s H vs Q E hr h => ?_)
  · obtain ⟨_, _, _, _, _, _, _, rfl, _⟩ := h
    rfl
  obtain ⟨x, n, dx, fs, l, ws, rs, rfl, hx, hr', hl, al, nl, q⟩ := h
  refine ⟨_, pss_cons (ps_if (pt_cmpR op_eq (pv 1) (pe_callB call_len_seq rfl ml PySem.boot_len (pa_cons (pe_fld (pv 0) rfl) pa_nil)) (nomark _)) (pss_one (ps_ret (pe_tup (pa_cons (pv 1) (pa_cons pe_non pa_nil))))) pss_nil)
    (pss_one (ps_ret (pe_tup (pa_cons (pv 1) (pa_cons (pe_methD0 (pe_ix ix_tup (pe_fld (pv 0) rfl) (pv 1) (fun _ _ => rfl)) M.begin hr pass0) pa_nil))))), ?_⟩
  have c := Z.cls 3 (by decide)
  have no := Z.no 3 (by decide) "rules" (by decide +kernel)
  refine ⟨_, rfl, _, rfl, x, C 3, dx, fs, _, rfl, hx, c, no, hr', l, ws, rfl, .inr (SqT.of hl), rfl, _, rfl, ?_⟩
  have lw := al.1
  by_cases e : n = rs.length
  · rw [decide_eq_true (by rw [← lw, e])]
    refine itT ⟨_, rfl, by show 2 ≤ sizeLine; decide, fun m hm => q m _ (Ext.new hm) ?_⟩
    have ea : aheadD rs n = .tuple [.int (n : Nat), .none] := by unfold aheadD; rw [List.getElem?_eq_none (by omega)]
    rw [ea]
    exact .tup upd_same (.cons (.int _) (.cons .non .nil))
  · rw [decide_eq_false (by intro z; injection z with z; omega)]
    have hn : n < rs.length := by omega
    have hw : n < ws.length := by omega
    have ru := al.2 n _ _ (List.getElem?_eq_getElem hn) (List.getElem?_eq_getElem hw)
    refine itF ⟨_, rfl, rd_meth0 (t := .one rs[n]) (v := ws[n]) (by decide +kernel) ru (fun R r => ⟨_, rfl, x, C 3, dx, fs, _, rfl, hx, c, no, hr', _, rfl, l, ws, _, _, rfl, rfl, SqT.of hl, atI_nat (List.getElem?_eq_getElem hw), r⟩) ⟨_, .one rs[n], H, rfl, Ext.refl _, ru, fun b rb => ⟨by show 2 ≤ sizeLine; decide, fun m hm => q m _ (Ext.new hm) ?_⟩⟩⟩
    have ea : aheadD rs n = .tuple [.int (n : Nat), rs[n].begin] := by unfold aheadD; rw [List.getElem?_eq_getElem hn]
    rw [ea]
    exact .tup upd_same (.cons (.int _) (.cons (rb.mono (Ext.new hm)) .nil))
abbrev sBlI : Stmt := inClass (top 37) 0
abbrev NBl : List Str := ["self", "rules", "size", "mark"]
theorem scBl : FnScope NBl ["self", "rules"] (defScope sBlI) := ⟨rfl, rfl, rfl, by decide +kernel, rfl, by decide +kernel, by decide +kernel⟩
abbrev scBlC : Scope := { kind := .function, names := [(".0", .local), ("rule", .local)], isGenerator := false, isCoroutine := false }
theorem compBl {X : Cx} : CompG X scBlC [] ["rule"] [] [] := by
  refine ⟨rfl, rfl, by decide +kernel, by decide +kernel, by decide +kernel, (fun z c h => nomatch h), (fun z h => ?_), by decide +kernel, (fun k z h => by simp at h), rfl⟩
  exfalso
  have h' : List.lookup z [((".0" : Str), NameKind.local), (("rule" : Str), NameKind.local)] = some .cell ∨ List.lookup z [((".0" : Str), NameKind.local), (("rule" : Str), NameKind.local)] = some .free := h
  simp only [List.lookup_cons, List.lookup_nil] at h'
  repeat' (split at h')
  all_goals simp at h'
def spBlI (K : Frag) (C : Nat → Addr) (CT CM : Addr) : Sp := fun vs H Q E => ∃ (x : Addr) (v : V) (dx : Addr) (G : Hp), vs = [.ref x, v] ∧ H x = some (.ins (C 3) dx []) ∧ Ext G H ∧ G x = none ∧ ((NoK K G v "list" ∧ ∀ H', Ext H H' → ErrF CT "found" v H' E) ∨
  (∃ a xs bs, v = .ref a ∧ G a = some (.lst xs) ∧ xs.length < 1000 ∧ BlkAll K C G xs bs ∧ abB xs.length bs = false ∧ ∀ H', Ext H H' → ErrF CT "found" v H' E) ∨
  ∃ a xs rs, v = .ref a ∧ G a = some (.lst xs) ∧ All0 C G rs xs ∧ 1 ≤ rs.length ∧ rs.length ≤ 6 ∧ (∀ r ∈ rs, r.ok) ∧ (20 < (rs.map R0.folk).sum → ∀ H', Ext H H' → ErrF CM "many" (.int (rs.map R0.folk).sum) H' E) ∧ ((rs.map R0.folk).sum ≤ 20 → ∀ H', Kept H H' x → RuB C H' rs (.ref x) → Q .non H'))
theorem blk_all {G : Hp} {rs : List R0} {xs : List V} (Z : KR K C CR) (al : All0 C G rs xs) : BlkAll K C G xs (rs.map fun _ => true) := by
  refine ⟨by rw [List.length_map, al.1], fun i x b hx hb => ?_⟩
  have hi : i < rs.length := by have := (List.getElem?_eq_some_iff.mp hx).1; rw [al.1]; exact this
  rw [List.getElem?_map, List.getElem?_eq_getElem hi] at hb
  cases hb
  have k := blk_rule (t := .one rs[i]) Z (al.2 i _ x (List.getElem?_eq_getElem hi) hx)
  have e : ((Rl.one rs[i]).kind == 0 || ((Rl.one rs[i]).kind == 1 || (Rl.one rs[i]).kind == 2)) = true := by
    show (rs[i].kind == 0 || (rs[i].kind == 1 || rs[i].kind == 2)) = true
    cases rs[i] <;> rfl
  rw [e] at k
  exact k
theorem ab_true {n : Nat} (h1 : 1 ≤ n) (h6 : n ≤ 6) {rs : List R0} : abB n (rs.map fun _ => true) = true := by
  unfold abB
  rw [decide_eq_true h1, decide_eq_true h6, List.all_map]
  simp
variable {S g a1 a2 D CT CM fT fM : Addr} {gd d1 d2 eT eM : FuncData} {t : Tok}
def tAB (K : Frag) (C : Nat → Addr) : TE := tCall (spAB K C) [] E0 (tCons (tVar 1) tNil)
def tFk (C : Nat → Addr) : TE := tMethD (Is5 C) "folk" (fun _ => spFolk C) E0 (tVar 0) tNil
def tTd (C : Nat → Addr) : TE := tMethD (Is5 C) "told" (fun _ => spTold C) E0 (tVar 0) tNil
theorem ok_bli {f : Addr} {fd : FuncData} (Z : KR K C CR) (F : Fun K "__init__" "Blocks.__init__" sBlI f fd) (M : Ms P w K mg base C) (MA : MethS P w K mg base CX0 2 "state_ahead" ["self", "number"] (fun c => c = C 3) (fun _ => spSA C)) (B : BaseC K D) (T1 : OneF K mg D "NoTrials" "found" CT fT eT) (T2 : OneF K mg D "TooMany" "many" CM fM eM)
    (Cf : ClsFn K S "__init__" g) (G' : FnOk P w K mg base CX0 1 g gd ["self", "size", "first_state", "mark", "parts"] (spRuI C)) (bG : Binds K gd ["self", "size", "first_state", "mark", "parts"] []) (mS : mg "Rule" = some (.ref S))
    (A1 : Df P w K mg base CX0 3 "are_block_rules" ["thing"] (spAB K C) a1 d1) (A2 : Df P w K mg base CX0 2 "parts_of" ["rules"] (spPO C) a2 d2) (mF : mg "MOST_FOLK" = some (.int 20 t)) (ms : mg "sum" = none) (mt : mg "tuple" = none) : FnOk P w K mg base (CXE P w) 4 f fd ["self", "rules"] (spBlI K C CT CM) := by
  refine okE F scBl (fun vs H Q E h => ?_) (fun cdv A outer s H vs Q E hr h => ?_)
  · obtain ⟨_, _, _, _, rfl, _⟩ := h
    rfl
  obtain ⟨x, v, dx, G, rfl, hx, xG, nG, h⟩ := h
  have nd := scBl.nd
  have hr1 : Room 1 _ := hr.mono (by decide)
  have hr2 : Room 2 _ := hr.mono (by decide)
  refine ⟨_, pss_cons (ps_if (pt_not (pt_val (pe_call A1.G hr rfl A1.m A1.kp A1.b .nil pass0 (pa_cons (pv 1) pa_nil)))) (pss_one (ps_raise B T1.cls (T1.ok P w base) hr2 T1.bi rfl T1.mgC (pv 1))) pss_nil)
    (pss_cons (ps_set (i := 2) nd rfl (Or.inl rfl) (pe_callB (call_sumL rfl) rfl ms PyProof.Rows.boot_sum (pa_cons (pe_lcG (te := tFk C) (g := gName 0) rfl compBl (pi_list (pv 1)) (fun s H C fp => by exact pg_name (i := 0) ndAB rfl (.inl rfl)) (fun s H C fp => by exact pe_methD0 (pv 0) M.folk hr1 pass0)) pa_nil)))
    (pss_cons (ps_if (pt_cmpR op_gt (pv 2) (pe_glob (v := .int 20) rfl mF ⟨_, rfl⟩) (nomark _)) (pss_one (ps_raise B T2.cls (T2.ok P w base) hr2 T2.bi rfl T2.mgC (pv 2))) pss_nil)
    (pss_cons (ps_fld (pv 0) (pe_callTy call_tuple_of rfl mt PyProof.Rows.boot_tuple (pa_cons (pv 1) pa_nil)) rfl)
    (pss_cons (ps_set (i := 3) nd rfl (Or.inl rfl) (pe_tup (pa_cons pe_str (pa_cons (pe_callTy call_tuple_of rfl mt PyProof.Rows.boot_tuple (pa_cons (pe_lcG (te := tTd C) (g := gName 0) rfl compBl (pi_list (pv 1)) (fun s H C fp => by exact pg_name (i := 0) ndAB rfl (.inl rfl)) (fun s H C fp => by exact pe_methD0 (pv 0) M.told hr1 pass0)) pa_nil)) pa_nil))))
    (pss_one (ps_expr (pe_clsCall Cf G' hr1 rfl mS bG .nil pass0 (pa_cons (pv 0) (pa_cons (pv 2) (pa_cons (pe_methD (pv 0) MA hr2 pass0 (pa_cons pe_int pa_nil)) (pa_cons (pv 3) (pa_cons (pe_call A2.G hr2 rfl A2.m A2.kp A2.b .nil pass0 (pa_cons (pv 1) pa_nil)) pa_nil)))))))))))), ?_⟩
  rcases h with ⟨nk, q⟩ | ⟨a, xs, bs, rfl, ha, l1, bk, bad, q⟩ | ⟨a, xs, rs, rfl, ha, al, l1, l6, ok, qm, q⟩
  · refine ⟨_, rfl, v, rfl, .inl ⟨nk.ext xG, fun H1 x1 => ⟨_, rfl, itT ⟨_, rfl, fun e' de h1 h2 nd => qR_of nd (q H1 x1 e' de h1 h2 nd)⟩⟩⟩⟩
  · refine ⟨_, rfl, _, rfl, .inr ⟨a, xs, bs, rfl, xG _ _ ha, l1, ⟨bk.1, fun i x b h1 h2 => (bk.2 i x b h1 h2).ext xG⟩, fun H1 x1 => ⟨_, rfl, ?_⟩⟩⟩
    rw [bad]
    exact itT ⟨_, rfl, fun e' de h1 h2 nd => qR_of nd (q H1 x1 e' de h1 h2 nd)⟩
  have bk := blk_all Z al
  have lx := al.1
  refine ⟨_, rfl, _, rfl, .inr ⟨a, xs, _, rfl, xG _ _ ha, by omega, ⟨bk.1, fun i x b h1 h2 => (bk.2 i x b h1 h2).ext xG⟩, fun H1 x1 => ⟨_, rfl, ?_⟩⟩⟩
  rw [← lx, ab_true l1 l6]
  refine itF ?_
  have xG1 := xG.trans x1
  refine ⟨_, rfl, a, rfl, ⟨_, SqL.of (xG1 _ _ ha)⟩, fun D hD => ?_⟩
  refine lcG_list (a := a) (xs := xs) (fun i ys H' => Ext H1 H' ∧ ys = ((rs.take i).map R0.folk).map V.int) (by rw [sizeLine_eq]; omega) ⟨Ext.new hD, rfl⟩ (fun i ys H' pv => SqL.of ((xG1.trans pv.1) _ _ ha)) ?_ ?_
  · rintro i v ys H' ev ly hDD ⟨x', rfl⟩ os los R k
    obtain ⟨o0, rfl⟩ : ∃ o0, os = [o0] := by
      match os, los with
      | [o0], _ => exact ⟨o0, rfl⟩
    have hi : i < rs.length := by have := (List.getElem?_eq_some_iff.mp ev).1; omega
    have er := List.getElem?_eq_getElem hi
    have ru := (al.2 i _ v er ev).ext (xG1.trans x')
    refine ⟨⟨[some v], rfl, rfl⟩, rd_meth0 (t := .one rs[i]) (by decide +kernel) ru (fun R r => ⟨_, rfl, r⟩) ⟨v, .one rs[i], rfl, ru, k _ H' hDD ⟨ext_upd _ x' hD, ?_⟩⟩⟩
    rw [take_all er, List.map_append, List.map_append]
    rfl
  rintro ys H2 ly hDD ⟨x2, rfl⟩
  rw [← lx, List.take_length] at hDD
  refine ⟨D, _, rfl, SqL.of hDD, ?_⟩
  refine ⟨_, rfl, _, _, rfl, rfl, _, rfl, ?_⟩
  refine ite2 (fun c => ?_) (fun c => ?_)
  · exact ⟨_, rfl, fun e' de h1 h2 nd => qR_of nd (qm (of_decide_eq_true c) H2 (x1.trans x2) e' de h1 h2 nd)⟩
  have s20 : (rs.map R0.folk).sum ≤ 20 := by
    have : ¬ ((rs.map R0.folk).sum > 20) := fun z => c (decide_eq_true z)
    omega
  have x12 := x1.trans x2
  have xG2 := xG.trans x12
  refine ⟨_, rfl, a, xs, rfl, .inl ⟨SqL.of (xG2 _ _ ha), fun l hl => ?_⟩⟩
  have x3 := Ext.new (o := .tup xs) hl
  have hl3 : upd H2 l (.tup xs) l = some (.tup xs) := upd_same
  have hx3 := x3 _ _ (x12 _ _ hx)
  have hl0 : G l = none := by
    cases e : G l with
    | none => rfl
    | some o => rw [xG2 _ _ e] at hl; cases hl
  generalize upd H2 l (.tup xs) = H3 at x3 hl3 hx3 ⊢
  have x03 := x12.trans x3
  refine ⟨_, rfl, x, C 3, dx, [], rfl, hx3, Z.cls 3 (by decide), Z.no 3 (by decide) _ (by decide +kernel), by decide, ?_⟩
  have k4 : Kept H3 (upd H3 x (.ins (C 3) dx (putF "rules" (.ref l) []))) x := keptUpd _
  have hx4 : upd H3 x (.ins (C 3) dx (putF "rules" (.ref l) [])) x = some (.ins (C 3) dx [("rules", .ref l)]) := upd_same
  have xl : l ≠ x := fun e => by rw [e, hx3] at hl3; cases hl3
  have hl4 := k4 _ _ hl3 xl
  generalize upd H3 x (.ins (C 3) dx (putF "rules" (.ref l) [])) = H4 at k4 hx4 hl4 ⊢
  have kk4 : Kept H H4 x := (x03.kept x).trans k4
  have xG4 := xG.kp nG kk4
  refine ⟨_, rfl, a, rfl, ⟨_, SqL.of (xG4 _ _ ha)⟩, fun D2 hD2 => ?_⟩
  refine lcG_list (a := a) (xs := xs) (fun i ys H' => Ext H4 H' ∧ RdsAll G ys ((rs.take i).map R0.told)) (by rw [sizeLine_eq]; omega) ⟨Ext.new hD2, .nil⟩ (fun i ys H' pv => SqL.of ((xG4.trans pv.1) _ _ ha)) ?_ ?_
  · rintro i v ys H' ev ly hDD ⟨x', ry⟩ os los R k
    obtain ⟨o0, rfl⟩ : ∃ o0, os = [o0] := by
      match os, los with
      | [o0], _ => exact ⟨o0, rfl⟩
    have hi : i < rs.length := by have := (List.getElem?_eq_some_iff.mp ev).1; omega
    have er := List.getElem?_eq_getElem hi
    have ru0 := al.2 i _ v er ev
    have xg := xG4.trans x'
    have ru := ru0.ext xg
    refine ⟨⟨[some v], rfl, rfl⟩, rd_meth0 (t := .one rs[i]) (by decide +kernel) ru (fun R r => ⟨_, rfl, r⟩) ⟨v, .one rs[i], G, rfl, xg, ru0, fun b rb => k b H' hDD ⟨ext_upd _ x' hD2, ?_⟩⟩⟩
    rw [take_all er, List.map_append]
    exact ry.append (.cons rb .nil)
  rintro ys H5 ly hDD2 ⟨x5, ry⟩
  rw [← lx, List.take_length] at ry
  refine ⟨D2, ys, rfl, .inl ⟨SqL.of hDD2, fun m hm => ⟨by show 2 ≤ sizeLine; decide, fun k hk => ?_⟩⟩⟩
  have x6 := Ext.new (o := .tup ys) hm
  have hm6 : upd H5 m (.tup ys) m = some (.tup ys) := upd_same
  generalize upd H5 m (.tup ys) = H6 at x6 hm6 hk ⊢
  have x7 := Ext.new (o := .tup [.str "blocks", .ref m]) hk
  have hk7 : upd H6 k (.tup [.str "blocks", .ref m]) k = some (.tup [.str "blocks", .ref m]) := upd_same
  generalize upd H6 k (.tup [.str "blocks", .ref m]) = H7 at x7 hk7 ⊢
  have x47 := (x5.trans x6).trans x7
  have xG7 := xG4.trans x47
  have hx7 := x47 _ _ hx4
  have hl7 := x47 _ _ hl4
  have rk7 : Rds H7 (.ref k) (Rl.blocks rs).told := .tup hk7 (.cons (.str _) (.cons (.tup (x7 _ _ hm6) (RdsAll.mono xG7 ry)) .nil))
  have al7 := al.ext xG7
  refine ⟨_, rfl, _, rfl, _, rfl, x, C 3, dx, _, rfl, rfl, hx7, rfl, ⟨x, 0, dx, _, l, xs, rs, rfl, hx7, rfl, hl7, al7, Nat.zero_le _, fun b H8 x8 rb => ?_⟩⟩
  rw [ahead0] at rb
  refine ⟨_, rfl, _, rfl, a, xs, rs, rfl, (xG7.trans x8) _ _ ha, al7.ext x8, l6, ok, fun pr H9 x9 rp => ?_⟩
  have x79 := x8.trans x9
  have hx9 := x79 _ _ hx7
  have hl9 := x79 _ _ hl7
  refine ⟨x, _, _, _, _, 3, dx, [("rules", .ref l)], rfl, by decide, hx9, (by show 1 ≤ 5; decide), q s20 _ ((kk4.trans ((x47.trans x79).kept x)).trans (keptUpd _)) ?_⟩
  have kk : Kept H9 (upd H9 x (.ins (C 3) dx (put4 (.int (rs.map R0.folk).sum) (.ref b) (.ref k) (.ref pr) [("rules", .ref l)]))) x := keptUpd _
  have xGe := (xG7.trans x79).kp nG kk
  refine ob_put4 upd_same ((rb.mono x9).kept hx9 kk) ((rk7.mono x79).kept hx9 kk) (rp.kept hx9 kk) (fun n hn => ?_) ⟨l, xs, ?_, ?_, al.ext xGe⟩
  · have e : n = "rules" := by simpa using hn
    rw [e]
    decide +kernel
  · rw [put4_other (by decide +kernel)]
    rfl
  · exact kk _ _ hl9 xl
end
end My
set_option Elab.async false
set_option linter.all false
set_option maxRecDepth 100000
set_option maxHeartbeats 1000000
set_option exponentiation.threshold 5000
namespace My
open PySem PySem.W L2
section
variable {P : Program} {w : World} {K : Frag} {mg : Str → Option Value} {base : Heap} {C : Nat → Addr} {CR : Addr}
abbrev sPB : Stmt := top 29
abbrev NPB : List Str := ["parts", "many", "cut"]
theorem scPB : FnScope NPB ["parts", "many"] (defScope sPB) := ⟨rfl, rfl, rfl, by decide +kernel, rfl, by decide +kernel, by decide +kernel⟩
def spPB : Sp := fun vs H Q _ => ∃ (v : V) (m : Int) (ps : List (List Int)), vs = [v, .int m] ∧ Rds H v (partsD ps) ∧ Sm ps ∧ ∀ l H', Ext H H' → Rds H' (.ref l) (partsD (cutP m ps)) → Q (.ref l) H'
abbrev scPB1 : Scope := { kind := .function, names := [(".0", .local), ("part", .local), ("tuple", .globalImplicit), ("many", .free)], isGenerator := false, isCoroutine := false }
abbrev scPB2 : Scope := { kind := .function, names := [(".0", .local), ("at", .local), ("many", .free)], isGenerator := false, isCoroutine := false }
abbrev scPB3 : Scope := { kind := .function, names := [(".0", .local), ("part", .local), ("len", .globalImplicit)], isGenerator := false, isCoroutine := false }
theorem lookup_one {n z : Str} {a c : Addr} (h : List.lookup z [(n, a)] = some c) : z = n ∧ c = a := by
  rw [List.lookup_cons] at h
  cases e : z == n with
  | true =>
    rw [e] at h
    exact ⟨beq_iff_eq.mp e, (Option.some.inj h).symm⟩
  | false =>
    rw [e] at h
    cases h
variable {f : Addr} {cdv : Value} {A : Around} {outer : List Env} {s : Shared} {H : Hp} {E : XK}
theorem compPB1 : CompG (cxOf CX0 P w K mg base NPB "parts_below" (defScope sPB) f cdv A outer s H E).nox scPB1 [("many", s.heap.objs.size + 1)] ["part"] ["many"] [1] := by
  refine ⟨rfl, rfl, by decide +kernel, by decide +kernel, by decide +kernel, (fun z c h => ?_), (fun z h => ?_), by decide +kernel, (fun k z h => ?_), rfl⟩
  · obtain ⟨rfl, rfl⟩ := lookup_one h
    rfl
  · have h' : List.lookup z [((".0" : Str), NameKind.local), (("part" : Str), NameKind.local), (("tuple" : Str), NameKind.globalImplicit), (("many" : Str), NameKind.cell)] = some .cell ∨ List.lookup z [((".0" : Str), NameKind.local), (("part" : Str), NameKind.local), (("tuple" : Str), NameKind.globalImplicit), (("many" : Str), NameKind.cell)] = some .free := h
    have e : z = "many" := by
      simp only [List.lookup_cons, List.lookup_nil] at h'
      repeat' (split at h')
      all_goals first | (simp at h'; done) | (rename_i e; exact beq_iff_eq.mp e)
    subst e
    exact ⟨_, rfl⟩
  · cases k with
    | zero =>
      cases h
      exact ⟨1, rfl, rfl, .inr (.inl rfl), (by show (defScope sPB).names.lookup ("many" : Str) ≠ some NameKind.local; decide +kernel), .inl rfl⟩
    | succ k => cases h
theorem ndPB1 : ((["part"] : List Str) ++ (["many"] : List Str)).Nodup := by decide +kernel
theorem ndPB2 : ((["at"] : List Str) ++ (["many"] : List Str)).Nodup := by decide +kernel
theorem compPB2 {s1 : Shared} {H1 : Hp} {C1 : Addr} {fp : List Addr} : CompG (compCx (cxOf CX0 P w K mg base NPB "parts_below" (defScope sPB) f cdv A outer s H E).nox scPB1 [("many", s.heap.objs.size + 1)] ((["part"] : List Str) ++ (["many"] : List Str)) s1 H1 C1 fp) scPB2 [("many", s.heap.objs.size + 1)] ["at"] ["many"] [1] := by
  refine ⟨rfl, rfl, by decide +kernel, by decide +kernel, by decide +kernel, (fun z c h => ?_), (fun z h => ?_), by decide +kernel, (fun k z h => ?_), rfl⟩
  · obtain ⟨rfl, rfl⟩ := lookup_one h
    rfl
  · have h' : List.lookup z [((".0" : Str), NameKind.local), (("at" : Str), NameKind.local), (("many" : Str), NameKind.cell)] = some .cell ∨ List.lookup z [((".0" : Str), NameKind.local), (("at" : Str), NameKind.local), (("many" : Str), NameKind.cell)] = some .free := h
    have e : z = "many" := by
      simp only [List.lookup_cons, List.lookup_nil] at h'
      repeat' (split at h')
      all_goals first | (simp at h'; done) | (rename_i e; exact beq_iff_eq.mp e)
    subst e
    exact ⟨_, rfl⟩
  · cases k with
    | zero =>
      cases h
      exact ⟨1, rfl, rfl, .inr (.inl rfl), (by intro z; cases z), .inl rfl⟩
    | succ k => cases h
theorem compPB3 {X : Cx} : CompG X scPB3 [] ["part"] [] [] := by
  refine ⟨rfl, rfl, by decide +kernel, by decide +kernel, by decide +kernel, (fun z c h => nomatch h), (fun z h => ?_), by decide +kernel, (fun k z h => by simp at h), rfl⟩
  exfalso
  have h' : List.lookup z [((".0" : Str), NameKind.local), (("part" : Str), NameKind.local), (("len" : Str), NameKind.globalImplicit)] = some .cell ∨ List.lookup z [((".0" : Str), NameKind.local), (("part" : Str), NameKind.local), (("len" : Str), NameKind.globalImplicit)] = some .free := h
  simp only [List.lookup_cons, List.lookup_nil] at h'
  repeat' (split at h')
  all_goals simp at h'
def rTupOf (K : Frag) : List V → Hp → VK → Prop := fun xs H Q => ∃ p ys, xs = [.ref p] ∧ ((SqL K H p ys ∧ ∀ l, H l = none → Q (.ref l) (upd H l (.tup ys))) ∨ (SqT K H p ys ∧ Q (.ref p) H))
def tLt01 : TT := tB (tOp (rI0 fun i j => .bl (decide (i < j))) (tVar 0) (tVar 1))
def tCut (K : Frag) : TE := tCB (rTupOf K) (tCons (tLCGif (iTup K (tVar 0)) 1 [1] (gName 0) tLt01 (tVar 0)) tNil)
def rLenS (K : Frag) : List V → Hp → VK → Prop := fun xs H Q => ∃ p ys, xs = [.ref p] ∧ (SqL K H p ys ∨ SqT K H p ys) ∧ Q (.int ys.length) H
def tHas (K : Frag) : TT := tB (tOp (rI0 fun i j => .bl (decide (i > j))) (tCB (rLenS K) (tCons (tVar 0) tNil)) (tC (.int 0)))
def ltV (m : Int) : V → Bool
  | .int i => decide (i < m)
  | _ => false
def hasV (H : Hp) : V → Bool
  | .ref a => match H a with
    | some (.tup ys) => decide (0 < ys.length)
    | _ => false
  | _ => false
theorem ok_pb {fd : FuncData} (F : Fun K "parts_below" "parts_below" sPB f fd) (mt : mg "tuple" = none) (ml : mg "len" = none) : FnOk P w K mg base CX0 1 f fd ["parts", "many"] spPB := by
  refine F.ok scPB (fun vs H Q E h => ?_) (fun cdv A outer s H vs Q E hr h => ?_)
  · obtain ⟨_, _, _, rfl, _⟩ := h
    rfl
  obtain ⟨v, m, ps, rfl, rv, sm, q⟩ := h
  have nd := scPB.nd
  refine ⟨_, pss_cons (ps_lcG (iy := 2) (te := tCut K) (g := gName 0) rfl compPB1 (pi_tup (pv 0)) (fun s H C fp => by exact pg_name (i := 0) ndPB1 rfl (.inl rfl))
      (fun s H C fp => by exact pe_callTy call_tuple_of rfl mt PyProof.Rows.boot_tuple (pa_cons (pe_lcGI (te := tVar 0) (tt := tLt01) (g := gName 0) rfl compPB2 (pi_tup (pv 0)) (fun s H C fp => by exact pg_name (i := 0) ndPB2 rfl (.inl rfl)) (fun s H C fp => by exact pt_cmpR op_lt (pv 0) (pv 1) (nomark _)) (fun s H C fp => by exact pv 0)) pa_nil)) nd rfl (Or.inl rfl) rfl)
    (pss_one (ps_ret (pe_callTy call_tuple_of rfl mt PyProof.Rows.boot_tuple (pa_cons (pe_lcGI (te := tVar 0) (tt := tHas K) (g := gName 0) rfl compPB3 (pi_list (pv 2)) (fun s H C fp => by exact pg_name (i := 0) ndK rfl (.inl rfl)) (fun s H C fp => by exact pt_cmpR op_gt (pe_callB call_len_seq rfl ml PySem.boot_len (pa_cons (pv 0) pa_nil)) pe_int (nomark _)) (fun s H C fp => by exact pv 0)) pa_nil)))), ?_⟩
  obtain ⟨p, xs, rfl, hp, rs⟩ := rds_tup rv
  have lx := rs.length
  rw [List.length_map] at lx
  have l20 := sm.1
  refine ⟨_, rfl, p, rfl, ⟨_, SqT.of hp⟩, fun D hD => ?_⟩
  refine lcG_tup (a := p) (xs := xs) (fun i ys H' => Ext H H' ∧ RdsAll (wo H' D) ys (((ps.take i).map (·.filter fun x => decide (x < m))).map tupD)) (by rw [sizeLine_eq]; omega) ⟨Ext.new hD, .nil⟩ (fun i ys H' pv => SqT.of (pv.1 _ _ hp)) ?_ ?_
  · rintro i x ys H' ex ly hDD ⟨x', ry⟩ os los R k
    obtain ⟨o0, rfl⟩ : ∃ o0, os = [o0] := by
      match os, los with
      | [o0], _ => exact ⟨o0, rfl⟩
    have hi : i < ps.length := by have := (List.getElem?_eq_some_iff.mp ex).1; omega
    have ep := List.getElem?_eq_getElem hi
    obtain ⟨c, rfl, hc⟩ := rds_tups rs ex ep
    have hc' := x' _ _ hc
    have pl := sm.2 _ (List.getElem_mem hi)
    refine ⟨⟨[some (.ref c)], rfl, rfl⟩, _, rfl, c, rfl, ⟨_, SqT.of hc'⟩, fun D2 hD2 => ?_⟩
    refine lcF (xs := ps[i].map V.int) (J := Itt K c) (ltV m) (by rw [List.length_map, sizeLine_eq]; omega) hD2 (fun j H1 x1 lt => ⟨_, _, SqT.of (x1 _ _ hc'), List.getElem?_eq_getElem lt⟩) (fun H1 x1 => ⟨_, SqT.of (x1 _ _ hc'), Nat.le_refl _⟩)
      (fun j H1 y H1' x1 ⟨e, hy⟩ => ⟨e, hy _ (SqT.of (x1 _ _ hc'))⟩) (fun j y H1 hy x1 R r => ?_) (fun H4 x4 h4 => ?_)
    · rw [List.getElem?_map] at hy
      obtain ⟨n, _, rfl⟩ := Option.map_eq_some_iff.mp hy
      exact ⟨_, rfl, _, rfl, _, _, rfl, rfl, _, rfl, r H1 (Ext.refl _)⟩
    rw [filter_ints (fun n => decide (n < m)) (ltV m) (fun _ => rfl)] at h4
    refine ⟨D2, _, rfl, .inl ⟨SqL.of h4, fun t ht => ?_⟩⟩
    have x5 := Ext.new (o := .tup ((ps[i].filter fun n => decide (n < m)).map V.int)) ht
    have x45 := x4.trans x5
    have tD : t ≠ D := fun e => by rw [e, x4 _ _ hDD] at ht; cases ht
    refine k _ _ (x45 _ _ hDD) ⟨ext_upd _ (x'.trans x45) hD, ?_⟩
    rw [take_all ep, List.map_append, List.map_append]
    exact RdsAll.mono wo_up ((RdsAll.mono (wo_ex x45 D) ry).append (.cons (.tup (wo_at tD upd_same) (rds_intsD _ _)) .nil))
  rintro ys H2 ly hDD ⟨x2, ry⟩
  rw [lx, List.take_length] at ry
  have ry2 := RdsAll.mono (wo_ext H2 D) ry
  refine ⟨_, rfl, D, rfl, ⟨_, SqL.of hDD⟩, fun D3 hD3 => ?_⟩
  have pp : ∀ (i : Nat) y qq, ys[i]? = some y → (ps.map fun p : List Int => p.filter fun x => decide (x < m))[i]? = some qq → ∃ a, y = .ref a ∧ H2 a = some (.tup (qq.map V.int)) := fun i y qq hy hq => rds_tups ry2 hy hq
  have ly2 := ry2.length
  rw [List.length_map, List.length_map] at ly2
  refine lcF (xs := ys) (J := Itl K D) (hasV H2) (by rw [sizeLine_eq]; omega) hD3 (fun j H1 x1 lt => ⟨_, _, SqL.of (x1 _ _ hDD), List.getElem?_eq_getElem lt⟩) (fun H1 x1 => ⟨_, SqL.of (x1 _ _ hDD), Nat.le_refl _⟩)
    (fun j H1 y H1' x1 ⟨e, hy⟩ => ⟨e, hy _ (SqL.of (x1 _ _ hDD))⟩) (fun j y H1 hy x1 R r => ?_) (fun H4 x4 h4 => ?_)
  · have hj : j < (ps.map fun p : List Int => p.filter fun x => decide (x < m)).length := by have := (List.getElem?_eq_some_iff.mp hy).1; rw [List.length_map]; omega
    obtain ⟨a, rfl, ha⟩ := pp j y _ hy (List.getElem?_eq_getElem hj)
    have hv : hasV H2 (.ref a) = decide (0 < ((ps.map fun p : List Int => p.filter fun x => decide (x < m))[j].map V.int).length) := by
      show (match H2 a with | some (.tup ys) => decide (0 < ys.length) | _ => false) = _
      rw [ha]
    refine ⟨_, rfl, a, _, rfl, .inr (SqT.of (x1 _ _ ha)), _, _, rfl, rfl, _, rfl, ?_⟩
    have := r H1 (Ext.refl _)
    rw [hv] at this
    have e2 : decide ((((ps.map fun p : List Int => p.filter fun x => decide (x < m))[j].map V.int).length : Int) > 0) = decide (0 < ((ps.map fun p : List Int => p.filter fun x => decide (x < m))[j].map V.int).length) := decide_eq_decide.mpr (by omega)
    rw [e2]
    exact this
  refine ⟨D3, _, rfl, .inl ⟨SqL.of h4, fun l hl => ?_⟩⟩
  have x5 := Ext.new (o := .tup (ys.filter (hasV H2))) hl
  refine q l _ (x2.trans (x4.trans x5)) (.tup upd_same ?_)
  unfold cutP
  refine RdsAll.filter (f := tupD) (RdsAll.mono (x4.trans x5) ry2) fun i y qq hy hq => ?_
  obtain ⟨a, rfl, ha⟩ := pp i y qq hy hq
  show (match H2 a with | some (.tup ys) => decide (0 < ys.length) | _ => false) = _
  rw [ha]
  show decide (0 < (qq.map V.int).length) = _
  rw [List.length_map]
abbrev sFiI : Stmt := inClass (top 38) 0
abbrev NFi : List Str := ["self", "rule", "many"]
theorem scFi : FnScope NFi ["self", "rule", "many"] (defScope sFiI) := ⟨rfl, rfl, rfl, by decide +kernel, rfl, by decide +kernel, by decide +kernel⟩
def spFiI (C : Nat → Addr) (CN : Addr) : Sp := fun vs H Q E => ∃ (x : Addr) (v u : V) (t : Rl) (d : PyData) (dx : Addr) (G : Hp), vs = [.ref x, v, u] ∧ H x = some (.ins (C 4) dx []) ∧ Ext G H ∧ G x = none ∧ Ru C G t v ∧ Sm t.parts ∧ Rds G u d ∧ (inD 0 t.folk d = false → ErrF CN "found" u H E) ∧ ∀ m, d = .int m → 0 ≤ m → m ≤ t.folk → ∀ H', Kept H H' x → Ru C H' (.first t m) (.ref x) → Q .non H'
variable {S g a1 a2 CN : Addr} {gd d1 d2 : FuncData}
theorem dealer_of {G : Hp} {t : Rl} {v : V} (ru : Ru C G t v) : (t.kind = 4 → ∃ a dx fs d, v = .ref a ∧ G a = some (.ins (C 4) dx fs) ∧ fs.lookup ("dealer" : Str) = some d ∧ RuN C G t.inner d) ∧ (t.kind ≠ 4 → RuN C G t.inner v) := by
  cases t with
  | one r => exact ⟨fun e => by have := r.kind_lt; have e' : r.kind = 4 := e; omega, fun _ => ru⟩
  | blocks rs => exact ⟨fun e => (by cases e), fun _ => ru⟩
  | first t m =>
    refine ⟨fun _ => ?_, fun e => absurd rfl e⟩
    obtain ⟨a, dx, fs, rfl, ha, _, _, _, _, _, d, hd, rn⟩ := ru.ex
    exact ⟨a, dx, fs, d, rfl, ha, hd, rn⟩
theorem ok_fii {fd : FuncData} (N : IsT K) (Z : KR K C CR) (F : Fun K "__init__" "First.__init__" sFiI f fd) (M : Ms P w K mg base C) (Cf : ClsFn K S "__init__" g) (G' : FnOk P w K mg base CX0 1 g gd ["self", "size", "first_state", "mark", "parts"] (spRuI C)) (bG : Binds K gd ["self", "size", "first_state", "mark", "parts"] []) (mS : mg "Rule" = some (.ref S))
    (A1 : Df P w K mg base (CXE P w) 3 "need_number" ["thing", "low", "high"] (spNN CN) a1 d1) (A2 : Df P w K mg base CX0 1 "parts_below" ["parts", "many"] spPB a2 d2) (m4 : mg "First" = some (.ref (C 4))) (mi : mg "isinstance" = none) : FnOk P w K mg base (CXE P w) 4 f fd ["self", "rule", "many"] (spFiI C CN) := by
  refine okE F scFi (fun vs H Q E h => ?_) (fun cdv A outer s H vs Q E hr h => ?_)
  · obtain ⟨_, _, _, _, _, _, _, rfl, _⟩ := h
    rfl
  obtain ⟨x, v, u, t, d, dx, G, rfl, hx, xG, nG, ru, sm, rd, qe, q⟩ := h
  have nd := scFi.nd
  have hr1 : Room 1 _ := hr.mono (by decide)
  refine ⟨_, pss_cons (ps_expr (pe_call A1.G hr rfl A1.m A1.kp A1.b .nil passE (pa_cons (pv 2) (pa_cons pe_int (pa_cons (pe_methD0 (pv 1) M.folk hr1 pass0) pa_nil)))))
    (pss_cons (ps_fld (pv 0) (pe_ifExp (pt_val (pe_callB (call_isO N) rfl mi PyProof.Rows.boot_isinstance (pa_cons (pv 1) (pa_cons (pe_glob (v := .ref (C 4)) rfl m4 rfl) pa_nil)))) (pe_fld (pv 1) rfl) (pv 1)) rfl)
    (pss_one (ps_expr (pe_clsCall Cf G' hr1 rfl mS bG .nil pass0 (pa_cons (pv 0) (pa_cons (pv 2) (pa_cons (pe_methD0 (pv 1) M.begin hr1 pass0) (pa_cons (pe_tup (pa_cons pe_str (pa_cons (pe_methD0 (pv 1) M.told hr1 pass0) (pa_cons (pv 2) pa_nil)))) (pa_cons (pe_call A2.G hr1 rfl A2.m A2.kp A2.b .nil pass0 (pa_cons (pe_fld (pv 1) rfl) (pa_cons (pv 2) pa_nil))) pa_nil))))))))), ?_⟩
  have ruH := ru.ext xG
  refine ⟨_, rfl, rd_meth0 (by decide +kernel) ruH (fun R r => ⟨_, rfl, r⟩) ⟨v, t, rfl, ruH, u, d, 0, t.folk, rfl, rd.mono xG, fun h1 => ?_, fun h1 => qe h1⟩⟩
  obtain ⟨m, rfl, m0, m1⟩ := inD_int h1
  cases rd
  have fin : ∀ dv, RuN C G t.inner dv → sFld K (tVar 0) (tC dv) "dealer" ⟨fun σ' H' => tDrop (tCall (spRuI C) [] E0 (tCons (tVar 0) (tCons (tVar 2) (tCons (tMethD (Is5 C) "begin" (fun _ => spBegin C) E0 (tVar 1) tNil) (tCons (tTup (tCons (tC (.str "first")) (tCons (tMethD (Is5 C) "told" (fun _ => spTold C) E0 (tVar 1) tNil) (tCons (tVar 2) tNil)))) (tCons (tCall spPB [] E0 (tCons (tFld K (tVar 1) "parts") (tCons (tVar 2) tNil))) tNil)))))) ⟨fun _ H' => Q .non H', Q, fun _ _ => False, fun _ _ => False⟩ σ' H', Q, fun _ _ => False, fun _ _ => False⟩ [some (.ref x), some v, some (.int m)] H := fun dv rn => by
    refine ⟨_, rfl, x, C 4, dx, [], rfl, hx, Z.cls 4 (by decide), Z.no 4 (by decide) _ (by decide +kernel), by decide, ?_⟩
    have k1 : Kept H (upd H x (.ins (C 4) dx (putF "dealer" dv []))) x := keptUpd _
    have hx1 : upd H x (.ins (C 4) dx (putF "dealer" dv [])) x = some (.ins (C 4) dx [("dealer", dv)]) := upd_same
    generalize upd H x (.ins (C 4) dx (putF "dealer" dv [])) = H1 at k1 hx1 ⊢
    have xG1 := xG.kp nG k1
    have ru1 := ru.ext xG1
    obtain ⟨a, da, fa, rfl, ha, _, _, _, ⟨pp, hpp, rpp⟩, _⟩ := ru.ob.ex
    refine ⟨_, rfl, _, rfl, rd_meth0 (by decide +kernel) ru1 (fun R r => ⟨_, rfl, r⟩) ⟨_, t, G, rfl, xG1, ru, fun b rb => ?_⟩⟩
    refine rd_meth0 (by decide +kernel) ru1 (fun R r => ⟨_, rfl, r⟩) ⟨_, t, G, rfl, xG1, ru, fun c rc => ⟨_, rfl, by show 3 ≤ sizeLine; decide, fun k hk => ?_⟩⟩
    have x2 := Ext.new (o := .tup [.str "first", c, .int m]) hk
    have hk2 : upd H1 k (.tup [.str "first", c, .int m]) k = some (.tup [.str "first", c, .int m]) := upd_same
    generalize upd H1 k (.tup [.str "first", c, .int m]) = H2 at x2 hk2 ⊢
    have xG2 := xG1.trans x2
    refine ⟨_, rfl, a, C t.kind, da, fa, _, rfl, xG2 _ _ ha, Z.cls _ t.kind_lt, Z.no _ t.kind_lt _ (by decide +kernel), hpp, _, rfl, pp, m, t.parts, rfl, rpp.mono xG2, sm, fun l H3 x3 rl => ?_⟩
    have x13 := x2.trans x3
    have xG3 := xG1.trans x13
    have hx3 := x13 _ _ hx1
    have hk3 := x3 _ _ hk2
    refine ⟨x, _, _, _, _, 4, dx, [("dealer", dv)], rfl, by decide, hx3, (by show 1 ≤ 5; decide), q m rfl m0 m1 _ ((k1.trans (x13.kept x)).trans (keptUpd _)) ?_⟩
    have kk : Kept H3 (upd H3 x (.ins (C 4) dx (put4 (.int m) b (.ref k) (.ref l) [("dealer", dv)]))) x := keptUpd _
    have xGe := xG3.kp nG kk
    refine ob_put4 upd_same (rb.mono xGe) ((Rds.tup hk3 (.cons (.str _) (.cons (rc.mono xG3) (.cons (.int _) .nil)))).kept hx3 kk) (rl.kept hx3 kk) (fun n hn => ?_) ⟨dv, ?_, rn.ext xGe⟩
    · have e : n = "dealer" := by simpa using hn
      rw [e]
      decide +kernel
    · rw [put4_other (by decide +kernel)]
      rfl
  have dl := dealer_of ru
  refine ⟨_, rfl, _, _, _, _, rfl, ruH.kd Z, Z.kk t.kind 4 t.kind_lt (by decide), _, rfl, ?_⟩
  by_cases e4 : t.kind = 4
  · rw [show (t.kind == 4) = true from by simpa using e4]
    obtain ⟨a, da, fa, dv, rfl, ha, hd, rn⟩ := dl.1 e4
    exact itT ⟨_, rfl, a, C 4, da, fa, _, rfl, xG _ _ ha, Z.cls 4 (by decide), Z.no 4 (by decide) _ (by decide +kernel), hd, fin dv rn⟩
  · rw [show (t.kind == 4) = false from by simpa using e4]
    exact itF ⟨_, rfl, fin v (dl.2 e4)⟩
end
end My
set_option Elab.async false
set_option linter.all false
set_option maxRecDepth 100000
set_option maxHeartbeats 1000000
set_option exponentiation.threshold 10000
namespace My
open PySem PySem.W L2
section
variable {P : Program} {w : World} {K : Frag} {mg : Str → Option Value} {base : Heap}
abbrev sRow : Stmt := top 40
def Below (xs ss : List Int) : Prop := ∀ (i : Nat) x s, xs[i]? = some x → ss[i]? = some s → 0 ≤ x ∧ x < s
def spRow (K : Frag) : Sp := fun vs H Q _ => ∃ (c : Int) (p : Addr) (ss : List Int), vs = [.int c, .ref p] ∧ SqL K H p (ss.map V.int) ∧ (∀ s ∈ ss, 0 < s ∧ s ≤ 10 ^ 20) ∧ ss.length ≤ 63 ∧
  ∀ l xs H', Ext H H' → H l = none → H' l = some (.lst (xs.map V.int)) → xs.length = ss.length → Below xs ss → Q (.ref l) H'
abbrev NRw : List Str := ["_law_cell", "_law_sizes", "_law_found", "_law_left", "_law_number_here", "_law_k", "_law_other"]
theorem scRw : FnScope NRw ["_law_cell", "_law_sizes"] (defScope sRow) := ⟨rfl, rfl, rfl, by decide +kernel, rfl, by decide +kernel, by decide +kernel⟩
def tApp (K : Frag) (te : TE) : TS := tDrop (tBM K "list" rAppend (tVar 2) (tCons te tNil))
abbrev oMd (a b : TE) : TE := tOp (rI (fun _ j => 0 < j) fun i j => .int (i % j)) a b
abbrev oMu (a b : TE) : TE := tOp (rI CMul fun i j => .int (i * j)) a b
abbrev oAd (a b : TE) : TE := tOp (rI0 fun i j => .int (i + j)) a b
def tSz (K : Frag) : TE := tOp (rIxL K) (tVar 1) (tVar 5)
def tR1 (K : Frag) : TS := tSeq (tApp K (oMd (tVar 3) (tSz K))) (tAsg (tOp (rI GDiv fun i j => .int (i / j)) (tVar 3) (tSz K)) (gName 3))
def tR2 (K : Frag) : TS := tSeq (tAsg (oMd (oAd (oAd (oMu (tVar 4) (tC (.int 48271))) (oMu (tC (.int 7919)) (tVar 5))) (tC (.int 12345))) (tC (.int 2147483647))) (gName 4))
  (tSeq (tAsg (oMd (oAd (oAd (oMu (tVar 4) (tVar 4)) (oMu (tC (.int 69621)) (tVar 5))) (tC (.int 271))) (tC (.int 2147483629))) (gName 6)) (tApp K (oMd (tVar 6) (tSz K))))
def tRT (K : Frag) : TS := tIfS (tB (tOp (rI0 fun i j => .bl (decide (j ≤ i))) (tVar 3) (tC (.int 0)))) (tR1 K) (tR2 K)
theorem row_der {f : Addr} {cdv : Value} {A : Around} {outer : List Env} {s : Shared} {H : Hp} {E : XK} (mr : mg "range" = none) (ml : mg "len" = none) : PSs (cxOf CX0 P w K mg base NRw "_law_row" (defScope sRow) f cdv A outer s H E).nox (defBody sRow)
    (tSeq (tAsg (tLst tNil) (gName 2)) (tSeq (tAsg (tOp (rI0 fun i j => .int (i - j)) (tVar 0) (tOp (rI CPow fun i j => .int (i ^ j.toNat)) (tC (.int 10)) (tC (.int 18)))) (gName 3)) (tSeq (tAsg (oMd (tVar 0) (tC (.int 2147483647))) (gName 4))
      (tSeq (tFor (iRng1 (tCons (tCB (fun xs H Q => ∃ p ys, xs = [.ref p] ∧ (SqL K H p ys ∨ SqT K H p ys) ∧ Q (.int ys.length) H) (tCons (tVar 1) tNil)) tNil)) (gName 5) (tRT K)) (tRet (tVar 2)))))) := by
  have nd := scRw.nd
  exact pss_cons (ps_set (i := 2) nd rfl (Or.inl rfl) (pe_lst pa_nil))
    (pss_cons (ps_set (i := 3) nd rfl (Or.inl rfl) (pe_op op_sub (pv 0) (pe_op op_pow pe_int pe_int)))
    (pss_cons (ps_set (i := 4) nd rfl (Or.inl rfl) (pe_op op_mod (pv 0) pe_int))
    (pss_cons (ps_for PassesOwn.never rfl (pi_range1 rfl mr (pa_cons (pe_callB call_len_seq rfl ml PySem.boot_len (pa_cons (pv 1) pa_nil)) pa_nil)) (pg_name (i := 5) nd rfl (Or.inl rfl))
      (pss_one (ps_if (pt_cmpR op_ge (pv 3) pe_int (nomark _))
        (pss_cons (ps_expr (pe_bm PySem.F.plainAttrs_list PySem.F.slot_list_append PySem.F.type_list_append mt_append (pv 2) (pa_cons (pe_op op_mod (pv 3) (pe_ix ix_list (pv 1) (pv 5) (fun _ _ => rfl))) pa_nil)))
          (pss_one (ps_set (i := 3) nd rfl (Or.inl rfl) (pe_op op_gdiv (pv 3) (pe_ix ix_list (pv 1) (pv 5) (fun _ _ => rfl))))))
        (pss_cons (ps_set (i := 4) nd rfl (Or.inl rfl) (pe_op op_mod (pe_op op_add (pe_op op_add (pe_op op_mul (pv 4) pe_int) (pe_op op_mul pe_int (pv 5))) pe_int) pe_int))
          (pss_cons (ps_set (i := 6) nd rfl (Or.inl rfl) (pe_op op_mod (pe_op op_add (pe_op op_add (pe_op op_mul (pv 4) (pv 4)) (pe_op op_mul pe_int (pv 5))) pe_int) pe_int))
          (pss_one (ps_expr (pe_bm PySem.F.plainAttrs_list PySem.F.slot_list_append PySem.F.type_list_append mt_append (pv 2) (pa_cons (pe_op op_mod (pv 6) (pe_ix ix_list (pv 1) (pv 5) (fun _ _ => rfl))) pa_nil)))))))))
    (pss_one (ps_ret (pv 2))))))
theorem rd_app {D : Ends} {σ : St} {H : Hp} {te : TE} {l : Addr} {ys : List V} {v : V} (h2 : σ[2]? = some (some (.ref l))) (hl : H l = some (.lst ys)) (len : ys.length < sizeLine) (ht : ∀ Q : VK, Q v H → te σ H Q) (nx : D.nx σ (upd H l (.lst (ys ++ [v])))) : tApp K te D σ H :=
  ⟨_, h2, .inl ⟨rfl, _, SqL.of hl⟩, ht _ ⟨l, _, _, rfl, rfl, hl, len, nx⟩⟩
theorem below_app {xs ss : List Int} {x s : Int} (h : Below xs ss) (hs : ss[xs.length]? = some s) (h0 : 0 ≤ x) (h1 : x < s) : Below (xs ++ [x]) ss := by
  intro i y t hy ht
  rcases Nat.lt_or_ge i xs.length with lt | ge
  · rw [List.getElem?_append_left lt] at hy
    exact h i y t hy ht
  · rw [List.getElem?_append_right ge] at hy
    have i0 : i = xs.length := by
      rcases Nat.lt_or_ge (i - xs.length) 1 with z | z
      · omega
      · rw [List.getElem?_eq_none (by simpa using z)] at hy; cases hy
    subst i0
    rw [Nat.sub_self] at hy
    cases hy
    rw [hs] at ht
    cases ht
    exact ⟨h0, h1⟩
theorem log20 {s : Int} (h0 : 0 < s) (h : s ≤ 10 ^ 20) : s.natAbs.log2 < 9000 := by
  have z : s.natAbs ≠ 0 := by omega
  refine (Nat.log2_lt z).mpr ?_
  have : s.natAbs ≤ 10 ^ 20 := by omega
  exact Nat.lt_of_le_of_lt this (Nat.lt_of_lt_of_le (by decide : 10 ^ 20 < 2 ^ 67) (Nat.pow_le_pow_right (by decide) (by decide)))
theorem rd_rT {D : Ends} {H0 H : Hp} {p l : Addr} {ss xs : List Int} {c lf nb : Int} {o6 : Option V} {s : Int} {i : Nat} (hp0 : SqL K H0 p (ss.map V.int)) (x0 : Ext H0 H) (h0l : H0 l = none) (hl : H l = some (.lst (xs.map V.int))) (ei : xs.length = i) (hs : ss[i]? = some s) (s0 : 0 < s) (s1 : s ≤ 10 ^ 20) (i63 : i < 63) (n0 : 0 ≤ nb) (n1 : nb < 2147483647) (bl : Below xs ss)
    (nx : ∀ x lf nb o6, 0 ≤ nb → nb < 2147483647 → Below (xs ++ [x]) ss → D.nx [some (.int c), some (.ref p), some (.ref l), some (.int lf), some (.int nb), some (.int (0 + (i : Int))), o6] (upd H l (.lst ((xs ++ [x]).map V.int)))) :
    tRT K D [some (.int c), some (.ref p), some (.ref l), some (.int lf), some (.int nb), some (.int (0 + (i : Int))), o6] H := by
  have hp := My.SqL.ext hp0 x0
  have at_ : atI (ss.map V.int) (0 + (i : Int)) = some (.int s) := by
    rw [Int.zero_add]
    exact atI_nat (by rw [List.getElem?_map, hs]; rfl)
  have len : (xs.map V.int).length < sizeLine := by rw [List.length_map, ei]; exact Nat.lt_trans i63 (by decide)
  have mp : ∀ x : Int, xs.map V.int ++ [V.int x] = (xs ++ [x]).map V.int := fun x => by rw [List.map_append]; rfl
  have hs' : ss[xs.length]? = some s := by rw [ei]; exact hs
  refine ⟨_, rfl, _, _, rfl, rfl, _, rfl, ?_⟩
  refine ite2 (fun c => ?_) (fun c => ?_)
  · refine rd_app (v := .int (lf % s)) rfl hl len (fun Q q => ⟨_, rfl, _, rfl, _, rfl, p, _, _, _, rfl, rfl, hp, at_, _, _, rfl, rfl, s0, q⟩) ?_
    rw [mp]
    refine ⟨_, rfl, _, rfl, _, rfl, p, _, _, _, rfl, rfl, My.SqL.ext hp0 (ext_upd _ x0 h0l), at_, _, _, rfl, rfl, ⟨s0, log20 s0 s1⟩, ?_⟩
    exact nx _ _ _ _ n0 n1 (below_app bl hs' (Int.emod_nonneg _ (by omega)) (Int.emod_lt_of_pos _ s0))
  · have i0 : (0 : Int) ≤ 0 + (i : Int) := by omega
    have i1 : (0 : Int) + (i : Int) < 63 := by omega
    generalize hk : (0 : Int) + (i : Int) = k at i0 i1 at_ nx ⊢
    refine ⟨_, rfl, _, _, rfl, rfl, .inl ⟨by omega, by omega⟩, _, rfl, _, _, rfl, rfl, .inl ⟨by decide, by decide⟩, _, _, rfl, rfl, _, _, rfl, rfl, _, _, rfl, rfl, (by show (0 : Int) < 2147483647; decide), ?_⟩
    have a0 : 0 ≤ (nb * 48271 + 7919 * k + 12345) % 2147483647 := Int.emod_nonneg _ (by decide)
    have a1 : (nb * 48271 + 7919 * k + 12345) % 2147483647 < 2147483647 := Int.emod_lt_of_pos _ (by decide)
    have c2 : CMul ((nb * 48271 + 7919 * k + 12345) % 2147483647) ((nb * 48271 + 7919 * k + 12345) % 2147483647) := .inl ⟨Int.lt_of_lt_of_le (by decide) a0, Int.lt_trans a1 (by decide)⟩
    refine ⟨_, rfl, _, rfl, _, _, rfl, rfl, c2, _, rfl, _, _, rfl, rfl, .inl ⟨by decide, by decide⟩, _, _, rfl, rfl, _, _, rfl, rfl, _, _, rfl, rfl, (by show (0 : Int) < 2147483629; decide), ?_⟩
    refine rd_app rfl hl len (fun Q q => ⟨_, rfl, _, rfl, _, rfl, p, _, _, _, rfl, rfl, hp, at_, _, _, rfl, rfl, s0, q⟩) ?_
    show D.nx _ (upd H l (.lst (xs.map V.int ++ [V.int _])))
    rw [mp]
    exact nx _ _ _ _ a0 a1 (below_app bl hs' (Int.emod_nonneg _ (by omega)) (Int.emod_lt_of_pos _ s0))
theorem ok_row {f : Addr} {fd : FuncData} (F : Fun K "_law_row" "_law_row" sRow f fd) (mr : mg "range" = none) (ml : mg "len" = none) : FnOk P w K mg base CX0 1 f fd ["_law_cell", "_law_sizes"] (spRow K) := by
  refine F.ok scRw (fun vs H Q E h => ?_) (fun cdv A outer s H vs Q E hr h => ?_)
  · obtain ⟨c, p, ss, rfl, _⟩ := h
    rfl
  obtain ⟨c, p, ss, rfl, hp, hs, l63, q⟩ := h
  refine ⟨_, row_der mr ml, ?_⟩
  refine ⟨by show 0 ≤ sizeLine; decide, fun l hl => ?_⟩
  have x1 := Ext.new (o := .lst []) hl
  have f1 : upd H l (.lst []) l = some (.lst []) := upd_same
  generalize upd H l (.lst []) = H1 at x1 f1 ⊢
  refine ⟨_, rfl, _, _, rfl, rfl, ⟨by decide, by decide, by decide⟩, _, _, rfl, rfl, _, rfl, _, _, rfl, rfl, (by show (0 : Int) < 2147483647; decide), ?_⟩
  have n0 : 0 ≤ c % 2147483647 := Int.emod_nonneg _ (by decide)
  have n1 : c % 2147483647 < 2147483647 := Int.emod_lt_of_pos _ (by decide)
  refine ⟨_, rfl, p, _, rfl, .inl (My.SqL.ext hp x1), _, rfl, by rw [List.length_map]; omega, by rw [List.length_map]; omega, ?_⟩
  refine for_range (n := (ss.map V.int).length) (fun i σ H' => ∃ xs : List Int, ∃ lf nb o5 o6, σ = [some (.int c), some (.ref p), some (.ref l), some (.int lf), some (.int nb), o5, o6] ∧ 0 ≤ nb ∧ nb < 2147483647 ∧ xs.length = i ∧ Below xs ss ∧ Ext H H' ∧ H' l = some (.lst (xs.map V.int))) ?_ ?_ ?_
  · exact ⟨[], _, _, _, _, rfl, n0, n1, rfl, fun i x s h => by simp at h, x1, f1⟩
  · rintro i σ H' hi ⟨xs, lf, nb, o5, o6, rfl, n0, n1, ei, bl, x, fl⟩
    rw [List.length_map] at hi
    have e := List.getElem?_eq_getElem hi
    obtain ⟨s0, s1⟩ := hs _ (List.getElem_mem hi)
    refine rd_rT hp x hl fl ei e s0 s1 (by omega) n0 n1 bl fun y lf nb o6 m0 m1 bl' => ?_
    exact ⟨xs ++ [y], _, _, _, _, rfl, m0, m1, by rw [List.length_append, ei]; rfl, bl', ext_upd _ x hl, upd_same⟩
  · rintro σ H' ⟨xs, lf, nb, o5, o6, rfl, n0, n1, ei, bl, x, fl⟩
    rw [List.length_map] at ei
    exact ⟨_, rfl, q l xs H' x hl fl ei bl⟩
end
end My
set_option Elab.async false
set_option linter.all false
set_option maxRecDepth 100000
set_option maxHeartbeats 1000000
namespace My
open PySem PySem.W L2
def KpT (H H' : Hp) : Prop := ∀ b o, H b = some o → (∀ xs, o ≠ .lst xs) → H' b = some o
theorem KpT.trans {H H1 H2 : Hp} (a : KpT H H1) (b : KpT H1 H2) : KpT H H2 := fun x o h n => b x o (a x o h n) n
theorem KpT.refl (H : Hp) : KpT H H := fun _ _ h _ => h
theorem kpT_upd {H : Hp} {D : Addr} {ys : List V} (o : HO) (h : H D = some (.lst ys)) : KpT H (upd H D o) := fun b u e n => by
  rw [upd_ne (fun z => by rw [z, h] at e; cases e; exact n ys rfl)]
  exact e
mutual
def noLst : PyData → Bool
  | .list _ => false
  | .dict _ => false
  | .tuple xs => noLsts xs
  | _ => true
def noLsts : List PyData → Bool
  | [] => true
  | x :: xs => noLst x && noLsts xs
end
theorem noLsts_of : ∀ {ds : List PyData}, (∀ d ∈ ds, noLst d = true) → noLsts ds = true
  | [], _ => by simp [noLsts]
  | x :: xs, h => by
    simp only [noLsts, h x (List.mem_cons_self ..), noLsts_of fun d hd => h d (List.mem_cons_of_mem _ hd), Bool.and_self]
mutual
theorem Rds.keepT {G G' : Hp} (s : KpT G G') : ∀ {v : V} {d : PyData}, noLst d = true → Rds G v d → Rds G' v d
  | _, _, _, .non => .non
  | _, _, _, .bl b => .bl b
  | _, _, _, .int i => .int i
  | _, _, _, .str x => .str x
  | _, _, h, .lst e r => by simp [noLst] at h
  | _, _, h, .tup e r => .tup (s _ _ e (fun _ z => by cases z)) (RdsAll.keepT s (by simpa only [noLst] using h) r)
  | _, _, h, .dic0 e => by simp [noLst] at h
  | _, _, h, .dic e r => by simp [noLst] at h
theorem RdsAll.keepT {G G' : Hp} (s : KpT G G') : ∀ {vs : List V} {ds : List PyData}, noLsts ds = true → RdsAll G vs ds → RdsAll G' vs ds
  | _, _, _, .nil => .nil
  | _, _, h, .cons r t => by
    simp only [noLsts, Bool.and_eq_true] at h
    exact .cons (Rds.keepT s h.1 r) (RdsAll.keepT s h.2 t)
end
theorem R0.nl (r : R0) : noLst r.told = true := by cases r <;> simp [R0.told, noLst, noLsts]
theorem R0.nlB (r : R0) : noLst r.begin = true := by cases r <;> simp [R0.begin, noLst]
theorem Rl.nl : ∀ t : Rl, noLst t.told = true
  | .one r => r.nl
  | .blocks rs => by
    have : noLsts (rs.map R0.told) = true := noLsts_of fun d hd => by
      obtain ⟨r, _, rfl⟩ := List.mem_map.mp hd
      exact r.nl
    simp only [Rl.told, noLst, noLsts, this, Bool.and_self]
  | .first t m => by simp only [Rl.told, noLst, noLsts, t.nl, Bool.and_self]
theorem Rl.nlB : ∀ t : Rl, noLst t.begin = true
  | .one r => r.nlB
  | .blocks [] => by simp [Rl.begin, noLst, noLsts]
  | .blocks (r :: _) => by simp only [Rl.begin, noLst, noLsts, r.nlB, Bool.and_self]
  | .first t _ => t.nlB
theorem nl_ints : ∀ (ns : List Int), noLsts (ns.map PyData.int) = true
  | [] => by simp [noLsts]
  | n :: ns => by simp only [List.map_cons, noLsts, noLst, nl_ints ns, Bool.and_self]
theorem nl_parts (ps : List (List Int)) : noLst (partsD ps) = true := by
  show noLsts (ps.map tupD) = true
  refine noLsts_of fun d hd => ?_
  obtain ⟨p, _, rfl⟩ := List.mem_map.mp hd
  exact nl_ints p
theorem Ob.keepT {C : Addr} {H H' : Hp} {v : V} {fk : Int} {bg tl pt : PyData} {X Y : List (Str × V) → Prop} (h : Ob C H v fk bg tl pt X) (s : KpT H H') (n1 : noLst bg = true) (n2 : noLst tl = true) (n3 : noLst pt = true) (k : ∀ fs, X fs → Y fs) : Ob C H' v fk bg tl pt Y := by
  obtain ⟨a, dx, fs, rfl, ha, h1, ⟨b, h2, r2⟩, ⟨m, h3, r3⟩, ⟨p, h4, r4⟩, h5, h6⟩ := h.ex
  exact ⟨a, dx, fs, rfl, s _ _ ha (fun _ z => by cases z), h1, ⟨b, h2, r2.keepT s n1⟩, ⟨m, h3, r3.keepT s n2⟩, ⟨p, h4, r4.keepT s n3⟩, h5, k fs h6⟩
section
variable {C : Nat → Addr} {H H' : Hp}
theorem nl_coin {a b : Int} : noLst (.tuple [.int a, .int b]) = true := by simp [noLst, noLsts]
theorem Ru0.keepT {r : R0} {v : V} (h : Ru0 C H r v) (s : KpT H H') : Ru0 C H' r v := Ob.keepT h s r.nlB r.nl (nl_parts _) fun fs e => by
  cases r with
  | split _ _ => trivial
  | pairs _ a b =>
    obtain ⟨c, e1, e2⟩ := e
    exact ⟨c, e1, e2.keepT s nl_coin⟩
  | coins _ a b f =>
    obtain ⟨⟨c, e1, e2⟩, e3⟩ := e
    exact ⟨⟨c, e1, e2.keepT s nl_coin⟩, e3⟩
theorem All0.keepT {rs : List R0} {ws : List V} (h : All0 C H rs ws) (s : KpT H H') : All0 C H' rs ws := ⟨h.1, fun i r w a b => Ru0.keepT (h.2 i r w a b) s⟩
theorem RuB.keepT {rs : List R0} {v : V} (h : RuB C H rs v) (s : KpT H H') : RuB C H' rs v := Ob.keepT h s (Rl.nlB _) (Rl.nl _) (nl_parts _) fun fs e => by
  obtain ⟨l, ws, e1, e2, e3⟩ := e
  exact ⟨l, ws, e1, s _ _ e2 (fun _ z => by cases z), e3.keepT s⟩
theorem RuN.keepT {t : Rl} {v : V} (h : RuN C H t v) (s : KpT H H') : RuN C H' t v := by
  cases t with
  | one r => exact Ru0.keepT h s
  | blocks rs => exact RuB.keepT h s
  | first _ _ => exact h.elim
theorem Ru.keepT {t : Rl} {v : V} (h : Ru C H t v) (s : KpT H H') : Ru C H' t v := by
  cases t with
  | one r => exact Ru0.keepT h s
  | blocks rs => exact RuB.keepT h s
  | first t m => exact Ob.keepT h s t.nlB (Rl.nl _) (nl_parts _) fun fs ⟨d, e1, e2⟩ => ⟨d, e1, e2.keepT s⟩
end
theorem made_ext {H : Hp} {x dx : Addr} {u v : HO} (hx : H x = none) (hd : H dx = none) (ne : dx ≠ x) : Ext H (upd (upd H dx u) x v) := by
  have h2 : upd H dx u x = none := by rw [upd_ne ne.symm]; exact hx
  exact (Ext.new hd).trans (Ext.new h2)
end My
set_option Elab.async false
set_option linter.all false
set_option maxRecDepth 100000
set_option maxHeartbeats 1000000
namespace My
open PySem PySem.W L2
open PySem.SeqAt
open AutoSeq1 (wpAny_loadPart')
open MeetsSeq MeetsSeq2 MeetsSeq3 SeqRoads2
theorem tuple_eq_declines_dict (l b : Addr) (items : Array Value) (n : Nat) (dd dd2 : Option Addr) (sl sl2 : Array (Option Value)) (dt : Data) :
    Meets (Builtin.«tuple.__eq__» ⟨[.ref l, .ref b], []⟩) (fun _ R s => s.heap.get? l = some { cls := .type "tuple", dict := dd, data := .seq items n, slots := sl } ∧ s.heap.get? b = some { cls := .type "dict", dict := dd2, data := dt, slots := sl2 } ∧ R (.ok (.ret .notImplemented)) s) :=
  .of_wp fun prog w A R s h => by obtain ⟨hp, g, d, tk, os⟩ := s; obtain ⟨hl, hb, h⟩ := h; have f1 := F.sub_dict_tuple; wp_walk using wpAny_loadPart' hl, wpAny_loadPart' hb; exact ⟨_, rfl, h⟩
theorem dict_eq_declines_tuple (l b : Addr) (items : Array Value) (n : Nat) (dd dd2 : Option Addr) (sl sl2 : Array (Option Value)) (dt : Data) :
    Meets (Builtin.«dict.__eq__» ⟨[.ref b, .ref l], []⟩) (fun _ R s => s.heap.get? l = some { cls := .type "tuple", dict := dd, data := .seq items n, slots := sl } ∧ s.heap.get? b = some { cls := .type "dict", dict := dd2, data := dt, slots := sl2 } ∧ R (.ok (.ret .notImplemented)) s) :=
  .of_wp fun prog w A R s h => by obtain ⟨hp, g, d, tk, os⟩ := s; obtain ⟨hl, hb, h⟩ := h; have f1 := F.sub_tuple_dict; wp_walk using wpAny_loadPart' hl, wpAny_loadPart' hb; exact ⟨_, rfl, h⟩
theorem rcAt_tuple_dict {A : Around} {s : Shared} {l b : Addr} {items : Array Value} {o2 : Obj} (hl : s.heap.IsTuple l items) (hb : s.heap.get? b = some o2) (hc2 : o2.cls = .type "dict") (hu : A.units < cLine) : RcAt A s (.ref l) (.ref b) false := fun prog w E Q h => by
  obtain ⟨⟨cls, dd, data, sl⟩, ho, hc, n, hd⟩ := id hl
  obtain ⟨cls2, dd2, data2, sl2⟩ := o2
  simp only at hc hd hc2
  subst hc hd hc2
  have hne : l ≠ b := fun e => by
    subst e
    rw [ho] at hb
    have z := congrArg Obj.cls (Option.some.inj hb)
    exact absurd z (by simp)
  exact (rc_eq_decline_or (k := false) ⟨_, ho, rfl⟩ ⟨_, hb, rfl⟩ (by decide) F.sub_dict_tuple F.slot_tuple_eq F.slot_dict_eq_refl
    (fun _ hq => call_meets F.slot_tuple_eq ⟨_, ho, rfl⟩ F.entry_tuple_eq (F.args_tuple_eq_2 _ _) (tuple_eq_declines_dict l b items n dd dd2 sl sl2 data2) ⟨ho, hb, hq⟩)
    (fun _ hq => call_meets F.slot_dict_eq_refl ⟨_, hb, rfl⟩ F.entry_dict_eq (F.args_dict_eq_2 _ _) (dict_eq_declines_tuple l b items n dd dd2 sl sl2 data2) ⟨ho, hb, hq⟩)
    (fun _ hq => wpAny_isSame_ref_other' hne ho hb (by simp) hq) (.inr hu) h)
theorem eqAt_tuple_dict {A : Around} {s : Shared} {l b : Addr} {items : Array Value} {o2 : Obj} (hl : s.heap.IsTuple l items) (hb : s.heap.get? b = some o2) (hc2 : o2.cls = .type "dict") (hu : A.units < cLine) : EqAt A s (.ref l) (.ref b) false := by
  refine .of_refs (fun e => ?_) (rcAt_tuple_dict hl hb hc2 hu)
  subst e
  obtain ⟨o, ho, hc, _⟩ := hl
  rw [ho] at hb
  have z := congrArg Obj.cls (Option.some.inj hb)
  rw [hc, hc2] at z
  exact absurd z (by simp)
section
variable {X : Cx}
def EqI (K : Frag) (H : Hp) (y x : V) (b : Bool) : Prop := EqE H 20 y x b ∨ ∃ a es, y = .ref a ∧ H a = some (.tup es) ∧ tyV K "dict" x H ∧ (∃ c, x = .ref c) ∧ b = false
theorem eqI_at {pins : List (Addr × Obj)} {σ : St} {H : Hp} {s : Shared} {A : Around} {x y : V} {b : Bool} {u v : Value} (I : Inv X pins σ H s) (h : EqI X.K H x y b) (hu : A.units + 20 < cLine) (ru : RelV x u) (rv : RelV y v) : EqAt A s u v b := by
  rcases h with h | ⟨a, es, rfl, ha, ty, ⟨c, rfl⟩, rfl⟩
  · exact eqE_at I h hu ru rv
  · cases (show u = Value.ref a from ru)
    cases (show v = Value.ref c from rv)
    obtain ⟨its, _, t, _⟩ := I.tuple (SqT.of (K := X.K) ha)
    obtain ⟨⟨o, h1, h2⟩, _⟩ := tyV_is I rv ty
    exact eqAt_tuple_dict t h1 h2 (by omega)
def rInE (K : Frag) : R2 := fun x y H Q => ∃ p xs, ∃ e : Nat → Bool, y = .ref p ∧ SqL K H p xs ∧ (∀ (j : Nat) a, xs[j]? = some a → EqI K H a x (e j)) ∧ Q (.bl ((List.range xs.length).any e)) H
theorem op_inE (hu : X.A.units + 64 < cLine) : OpR X (compareOp .In) (rInE X.K) := by
  intro pins s σ H x y v u Q I rx ry h
  obtain ⟨p, xs, e, rfl, hq, he, q⟩ := h
  cases ry
  obtain ⟨its, r, pl, hz⟩ := I.list hq
  have ln := r.length
  classical
  refine SeqAt.in_listAt (fun u => decide (∃ j, its[j]? = some u ∧ e j = true)) pl.isList (fun w hw => ?_) ⟨.bl _, H, I, rfl, ?_⟩
  · have hw' : w ∈ its := by simpa using hw
    obtain ⟨j, hj, ej⟩ := List.getElem_of_mem hw'
    have go : ∀ i, its[i]? = some w → EqAt X.A.in1 s w v (e i) := fun i hi => by
      have li : i < its.length := (List.getElem?_eq_some_iff.mp hi).1
      obtain ⟨x', ex, rx'⟩ := get_val r li
      have ew : its[i] = w := (List.getElem?_eq_some_iff.mp hi).2
      rw [ew] at rx'
      exact eqI_at I (he i x' ex) (by have := X.A.in1_units; omega) rx' rx
    by_cases hc : ∃ j, its[j]? = some w ∧ e j = true
    · rw [decide_eq_true hc]
      obtain ⟨i, hi, ei⟩ := hc
      have := go i hi
      rw [ei] at this
      exact this
    · rw [decide_eq_false hc]
      have hj' : its[j]? = some w := by rw [List.getElem?_eq_getElem hj, ej]
      have := go j hj'
      cases eb : e j with
      | true => exact absurd ⟨j, hj', eb⟩ hc
      | false => rw [eb] at this; exact this
  · have : its.toArray.any (fun u => decide (∃ j, its[j]? = some u ∧ e j = true)) = (List.range xs.length).any e := by
      rw [Bool.eq_iff_iff]
      simp only [List.any_toArray, List.any_eq_true, decide_eq_true_eq, List.mem_range]
      constructor
      · rintro ⟨u, _, j, hj, ej⟩
        exact ⟨j, by have := (List.getElem?_eq_some_iff.mp hj).1; omega, ej⟩
      · rintro ⟨j, hj, ej⟩
        have lj : j < its.length := by omega
        exact ⟨its[j], List.getElem_mem lj, j, List.getElem?_eq_getElem lj, ej⟩
    rw [this]
    exact q
end
end My
set_option Elab.async false
set_option linter.all false
set_option maxRecDepth 100000
set_option maxHeartbeats 1000000
namespace My
open PySem PySem.W L2
structure CmpC (K : Frag) (C : Addr) : Prop where
  eq : findIn K (.ref C) "__eq__" = some (some (.builtin "object.__eq__"))
  ne : findIn K (.ref C) "__ne__" = some (some (.builtin "object.__ne__"))
  hm : mroIn K C (.type "object") = some true
section
variable {prog : Program} {w : World} {A : Around} {E : Value → Shared → Prop} {s : Shared} {K : Frag} {x C : Addr} {ox : Obj} {od : Option Obj} {name : Str} {id : String}
theorem ifBound_B {M : Model} {args : List Value} {Q : Option Value → Shared → Prop} (X : K.In s.heap) (I : InstAt s.heap x ox C od) (hs : findIn K (.ref C) name = some (some (.builtin id))) (S : Slot "object" name id)
    (h : wpAny M A (call (.builtin id) (.ref x :: args)) (fun v => Q (some v)) E s) : wpAny M A (callSpecialIfBound? (.ref x) name args) Q E s := by
  simp only [callSpecialIfBound?, bindSpecialIfBound?]
  refine wpAny_holding (wpAny_bind (wpAny_bind (wpAny_bind (I.type.here ((looks_findIn X hs).here ?_)))))
  simp only [S.bind]
  refine wpAny_bind (wpAny_askSetting (wpAny_ite ?_))
  have fin : wpAny M A (call (.builtin id) ([.ref x] ++ args) >>= fun v => pure (some v)) Q E s := wpAny_bind (wpAny_mono h (fun v s' h' => wpAny_pure h') fun _ _ h' => h')
  split
  · exact wpAny_bind (wpAny_pure (wpAny_pure fin))
  · exact wpAny_tryCatch (wpAny_bind (wpAny_pure (wpAny_pure fin)))
theorem call_objEqK {Q : Value → Shared → Prop} (X : K.In s.heap) (I : InstAt s.heap x ox C od) (c : CmpC K C) (hq : Q (.bool true) s) : wpAny (model prog w) A (call (.builtin "object.__eq__") [.ref x, .ref x]) Q E s := by
  have sub : Looks (model prog w) s.heap (isInstance (.ref x) (.type "object")) true := I.type.andThen (looks_mroIn X c.hm)
  refine wpAny_call (codeAny_call_builtin PySem.F.cmp_object.eq.plain PySem.F.cmpEntry_eq (@check_slot (model prog w) _ _ s "object.__eq__" "object" "__eq__" (.ref x) [.ref x] [] _ PySem.F.cmpKind_eq PySem.F.cmpSplit_eq sub (PySem.F.cmpArgs_eq _ _) (objEq_entry_same hq)))
theorem call_objNeK {Q : Value → Shared → Prop} (X : K.In s.heap) (I : InstAt s.heap x ox C od) (c : CmpC K C) (hu : A.units + 1 < cLine) (hq : Q (.bool false) s) : wpAny (model prog w) A (call (.builtin "object.__ne__") [.ref x, .ref x]) Q E s := by
  have sub : Looks (model prog w) s.heap (isInstance (.ref x) (.type "object")) true := I.type.andThen (looks_mroIn X c.hm)
  refine wpAny_call (codeAny_call_builtin PySem.F.cmp_object.ne.plain PySem.F.cmpEntry_ne (@check_slot (model prog w) _ _ s "object.__ne__" "object" "__ne__" (.ref x) [.ref x] [] _ PySem.F.cmpKind_ne PySem.F.cmpSplit_ne sub (PySem.F.cmpArgs_ne _ _) ?_))
  unfold Builtin.«object.__ne__»
  have hu1 : A.in1.units < cLine := by simpa using hu
  repeat (first | with_reducible refine wpAny_cRoomFor hu1 ?_ | with_reducible refine ifBound_B X I c.eq PySem.F.cmp_object.eq (call_objEqK X I c ?_) | wp_step)
  exact hq
theorem rc_neSelf {Q : Value → Shared → Prop} (X : K.In s.heap) (I : InstAt s.heap x ox C od) (c : CmpC K C) (hu : A.units + 1 < cLine) (hq : Q (.bool false) s) : wpAny (model prog w) A (richCompare .NotEq (.ref x) (.ref x)) Q E s := by
  have hu0 : A.units < cLine := Nat.lt_of_succ_lt hu
  have one : wpAny (model prog w) A (tryCompare (.ref x) (cmpInfo .NotEq).2.1 (.ref x)) (fun r s' => ∃ v, r = some v ∧ Q v s') E s := by
    unfold tryCompare
    refine wpAny_bind (ifBound_B X I c.ne PySem.F.cmp_object.ne (call_objNeK X I c hu ?_))
    exact wpAny_pure ⟨_, rfl, hq⟩
  unfold richCompare
  simp only [oneThing_ref]
  refine wpAny_holding (wpAny_bind (wpAny_cRoomFor hu0 ?_))
  refine wpAny_bind (I.type.here (wpAny_bind (I.type.here ?_)))
  rw [if_neg (by simp)]
  refine wpAny_bind (wpAny_pure ?_)
  simp only [Bool.false_eq_true, if_false]
  refine wpAny_bind (wpAny_mono one (fun r s' z => ?_) fun _ _ e => e)
  obtain ⟨v, rfl, hq⟩ := z
  exact wpAny_pure hq
end
section
variable {X : Cx}
def rNeSelf (K : Frag) : R2 := fun x y H Q => ∃ a C dx fs, x = .ref a ∧ y = .ref a ∧ H a = some (.ins C dx fs) ∧ CmpC K C ∧ Q (.bl false) H
theorem op_neSelf (hu : X.A.units + 64 < cLine) : OpR X (compareOp .NotEq) (rNeSelf X.K) := by
  intro pins s σ H x y v u Q I rx ry h
  obtain ⟨a, C, dx, fs, rfl, rfl, ha, c, q⟩ := h
  cases (show v = Value.ref a from rx)
  cases (show u = Value.ref a from ry)
  obtain ⟨mA, O, _⟩ := ins_get I.hok ha
  obtain ⟨od, J, _⟩ := O.look
  exact cmp_ofNotEq (rc_neSelf I.kIn J c (by omega) ⟨.bl false, H, I, rfl, q⟩)
end
end My
set_option Elab.async false
set_option linter.all false
set_option maxRecDepth 100000
set_option maxHeartbeats 1000000
namespace My
open PySem PySem.W L2
section
variable {X : Cx}
def rNeDic : R2 := fun x y H Q => ∃ a, x = .ref a ∧ y = .ref a ∧ H a = some (.dK []) ∧ Q (.bl false) H
theorem op_neDic (hu : X.A.units + 64 < cLine) : OpR X (compareOp .NotEq) rNeDic := by
  intro pins s σ H x y v u Q I rx ry h
  obtain ⟨a, rfl, rfl, ha, q⟩ := h
  cases (show v = Value.ref a from rx)
  cases (show u = Value.ref a from ry)
  obtain ⟨_, na, vs, kv, d⟩ := (show ObjOk X.prog X.w H s.heap a (.dK []) from I.hok a _ ha)
  cases kv
  exact PySem.W.keq_ne (r := true) na na d d (by omega) (fun _ => .nil) ⟨.bl false, H, I, rfl, q⟩
end
end My
set_option Elab.async false
set_option linter.all false
set_option maxRecDepth 100000
set_option maxHeartbeats 1000000
namespace My
open PySem PySem.W L2
section
variable {X : Cx}
def rInsert : V → List V → Hp → VK → Prop := fun x vs H Q => ∃ l xs, ∃ k : Nat, ∃ y, x = .ref l ∧ vs = [.int k, y] ∧ H l = some (.lst xs) ∧ k ≤ xs.length ∧ xs.length < sizeLine ∧ Q .non (upd H l (.lst (xs.take k ++ y :: xs.drop k)))
theorem mt_insert : MtM X "list.insert" rInsert := by
  intro pins s σ H x vs v us Q I rx rv h
  obtain ⟨l, xs, k, y, rfl, rfl, hH, hk, hz, q⟩ := h
  cases rx
  obtain ⟨u1, u2, rfl, r1, r2⟩ := vals2 rv
  obtain ⟨t, rfl⟩ := r1
  obtain ⟨z, its, n, r, hl, e⟩ := I.lstM hH
  have kz : (k : Int) < 2 ^ 63 := by
    have : k < sizeLine := by omega
    rw [sizeLine_eq] at this
    omega
  have fit : ¬(!Builtin.List.listFitsIndex (k : Int)) = true := by
    rw [show Builtin.List.listFitsIndex (k : Int) = true from fitsIndex_both (by omega) kz]
    simp
  have szz : its.toArray.size ≤ sizeLine := by rw [List.size_toArray]; omega
  generalize hki : (k : Int) = ki at fit ⊢
  have M := PySem.AutoSeq1.list_insert_list_int_val_1 l its.toArray n ki t u2 fit szz
  refine call_meets PySem.F.slot_list_insert ⟨_, e, rfl⟩ PySem.F.entry_list_insert (PySem.F.args_list_insert_3 (.ref l) (.int ki t) u2) M ⟨e, ?_⟩
  refine ⟨.non, _, I.lset (its' := its.take k ++ u2 :: its.drop k) hH e ?_ ((r.take k).append (.cons r2 (r.drop k))) ?_, rfl, q⟩
  · show (its.toArray.extract 0 (if ki < 0 then (ki + (its.toArray.size : Int)).toNat else min ki.toNat its.toArray.size)).push u2 ++ its.toArray.extract (if ki < 0 then (ki + (its.toArray.size : Int)).toNat else min ki.toNat its.toArray.size) = _
    rw [if_neg (by omega), List.size_toArray, ← hki, Int.toNat_natCast, Nat.min_eq_left (by omega)]
    exact kl_ins_eq its k u2
  · rw [List.length_append, List.length_take, List.length_cons, List.length_drop]
    omega
end
end My
set_option Elab.async false
set_option linter.all false
set_option maxRecDepth 100000
set_option maxHeartbeats 1000000
set_option exponentiation.threshold 10000
namespace My
open PySem PySem.W L2
def cD (a b : Int) : PyData := .tuple [.int a, .int b]
def good4 : List PyData := [cD 1 2, cD 2 7, cD 99 100, cD 1 100]
def coins24 : List PyData := [cD 1 2, cD 2 7, cD 99 100, cD 1 100, cD 1 101, cD 100 101, cD 0 1, cD 1 1, cD 2 4, cD 1 0, cD 3 2, cD (-1) 2,
  .list [.int 1, .int 2], .tuple [.bool true, .int 2], .tuple [.int 1, .bool true], .tuple [.int 1], .tuple [.int 1, .int 2, .int 3], .str "1/2", .none, .bool false, .int 1, .dict [], .tuple [.str "1", .int 2], .tuple [.int 1, .none]]
def in4 (d : PyData) : Bool := good4.any fun e => eqD e d
def chk24 (d : PyData) : Bool := match d with
  | .tuple (.int _ :: _) => in4 d == coinD d
  | .tuple (.bool _ :: _) => !coinD d
  | _ => !in4 d && !coinD d
theorem coins_chk : ∀ d ∈ coins24, chk24 d = true := by
  have : coins24.all chk24 = true := by decide +kernel
  exact fun d hd => List.all_eq_true.mp this d hd
def plain0 (d : PyData) : Bool := plainD d || (match d with | .dict [] => true | _ => false)
theorem coins_pl : ∀ d ∈ coins24, (plainD d = true ∨ d = .dict []) ∧ d.depth ≤ 2 := by
  have : coins24.all (fun d => plain0 d && decide (d.depth ≤ 2)) = true := by decide +kernel
  intro d hd
  have h := List.all_eq_true.mp this d hd
  rw [Bool.and_eq_true] at h
  refine ⟨?_, of_decide_eq_true h.2⟩
  rcases Bool.or_eq_true_iff.mp h.1 with h | h
  · exact .inl h
  · right
    split at h
    · rfl
    · cases h
section
variable {K : Frag} {H : Hp}
theorem eqI_of {y x : V} {es : List PyData} {d : PyData} (ry : Rds H y (.tuple es)) (py : plainDs es = true) (dp : (PyData.tuple es).depth ≤ 20) (rx : Rds H x d) (h : plainD d = true ∨ d = .dict []) : EqI K H y x (eqD (.tuple es) d) := by
  rcases h with h | rfl
  · exact .inl (.inr ⟨_, d, ry, rx, by simpa only [plainD] using py, h, dp, rfl⟩)
  · obtain ⟨a, xs, rfl, ha, _⟩ := rds_tup ry
    cases rx with
    | dic0 e => exact .inr ⟨a, xs, rfl, ha, .inr (.inr (.inl ⟨rfl, .inl ⟨_, e⟩⟩)), ⟨_, rfl⟩, by simp [eqD]⟩
end
section
variable {P : Program} {w : World} {K : Frag} {mg : Str → Option Value} {base : Heap}
abbrev sLN : Stmt := top 43
theorem scLN : FnScope ["_law_thing", "_law_low", "_law_high"] ["_law_thing", "_law_low", "_law_high"] (defScope sLN) := ⟨rfl, rfl, rfl, by decide +kernel, rfl, by decide +kernel, by decide +kernel⟩
def spLN : Sp := fun vs H Q _ => ∃ v d lo hi, vs = [v, .int lo, .int hi] ∧ Rds H v d ∧ Q (.bl (inD lo hi d)) H
theorem ok_ln {f : Addr} {fd : FuncData} (N : IsT K) (F : Fun K "_law_is_number" "_law_is_number" sLN f fd) (mi : mg "isinstance" = none) (m1 : mg "int" = none) (m2 : mg "bool" = none) : FnOk P w K mg base CX0 1 f fd ["_law_thing", "_law_low", "_law_high"] spLN := by
  refine F.ok scLN (fun vs H Q E h => ?_) (fun cdv A outer s H vs Q E hr h => ?_)
  · obtain ⟨_, _, _, _, rfl, _⟩ := h
    rfl
  obtain ⟨v, d, lo, hi, rfl, rd, q⟩ := h
  rw [← rd.inB] at q
  refine ⟨_, pss_one (ps_ret (pe_and (pe_callB (call_isK N) rfl mi PyProof.Rows.boot_isinstance (pa_cons (pv 0) (pa_cons (pe_ty rfl m1 PyProof.Rows.boot_int) pa_nil)))
    (pe_and (pe_not (pe_callB (call_isK N) rfl mi PyProof.Rows.boot_isinstance (pa_cons (pv 0) (pa_cons (pe_ty rfl m2 PyProof.Rows.boot_bool) pa_nil)))) (pe_one (pe_chain op_le op_le (pv 1) (pv 0) (pv 2)))))), ?_⟩
  rcases rd.th (K := K) with ⟨i, rfl⟩ | ⟨n, t, b1, b2, kd, k1, k2, z⟩
  · refine ⟨_, rfl, _, _, _, _, rfl, .inl (.int i), k_ii, _, rfl, itT ⟨_, rfl, _, _, _, _, rfl, .inl (.int i), k_ib, _, rfl, _, rfl, itT ⟨_, rfl, _, rfl, _, _, rfl, rfl, _, rfl, ?_⟩⟩⟩
    have q' : Q (.bl (decide (lo ≤ i) && decide (i ≤ hi))) H := q
    refine ite2 (fun c => ⟨_, rfl, _, _, rfl, rfl, ?_⟩) (fun c => ?_)
    · rw [decide_eq_true (of_decide_eq_true c), Bool.true_and] at q'
      exact q'
    · rw [decide_eq_false (fun z => c (decide_eq_true z)), Bool.false_and] at q'
      exact q'
  · rw [inB_no n] at q
    refine ⟨_, rfl, _, _, _, _, rfl, kd, k1, _, rfl, ?_⟩
    cases b1 with
    | false => exact itF q
    | true =>
      have e : (!b2) = false := z
      refine itT ⟨_, rfl, _, _, _, _, rfl, kd, k2, _, rfl, _, rfl, ?_⟩
      rw [e]
      exact itF q
abbrev sLC : Stmt := top 44
theorem scLC : FnScope ["_law_thing"] ["_law_thing"] (defScope sLC) := ⟨rfl, rfl, rfl, by decide +kernel, rfl, by decide +kernel, by decide +kernel⟩
def spLC : Sp := fun vs H Q _ => ∃ v d, vs = [v] ∧ Rds H v d ∧ d ∈ coins24 ∧ ∀ H', Ext H H' → Q (.bl (coinD d)) H'
theorem ok_lc {f : Addr} {fd : FuncData} (N : IsT K) (F : Fun K "_law_is_coin" "_law_is_coin" sLC f fd) (mi : mg "isinstance" = none) (m2 : mg "bool" = none) : FnOk P w K mg base CX0 1 f fd ["_law_thing"] spLC := by
  refine F.ok scLC (fun vs H Q E h => ?_) (fun cdv A outer s H vs Q E hr h => ?_)
  · obtain ⟨_, _, rfl, _⟩ := h
    rfl
  obtain ⟨v, d, rfl, rd, md, q⟩ := h
  have hu := hr.units
  refine ⟨_, pss_one (ps_ret (pe_and (pe_cmpR (op_inE hu) (pv 0) (pe_lst (pa_cons (pe_tup (pa_cons pe_int (pa_cons pe_int pa_nil))) (pa_cons (pe_tup (pa_cons pe_int (pa_cons pe_int pa_nil))) (pa_cons (pe_tup (pa_cons pe_int (pa_cons pe_int pa_nil))) (pa_cons (pe_tup (pa_cons pe_int (pa_cons pe_int pa_nil))) pa_nil))))) rfl)
    (pe_one (pe_not (pe_callB (call_isK N) rfl mi PyProof.Rows.boot_isinstance (pa_cons (pe_ix ix_tup (pv 0) pe_int (fun _ _ => rfl)) (pa_cons (pe_ty rfl m2 PyProof.Rows.boot_bool) pa_nil))))))), ?_⟩
  have ck := coins_chk d md
  obtain ⟨pl, dp⟩ := coins_pl d md
  refine ⟨_, rfl, by show 2 ≤ sizeLine; decide, fun a1 h1 => ⟨by show 2 ≤ sizeLine; decide, fun a2 h2 => ⟨by show 2 ≤ sizeLine; decide, fun a3 h3 => ⟨by show 2 ≤ sizeLine; decide, fun a4 h4 => ⟨by show 4 ≤ sizeLine; decide, fun l hl => ?_⟩⟩⟩⟩⟩
  have x1 := Ext.new (o := .tup [.int 1, .int 2]) h1
  have x2 := Ext.new (o := .tup [.int 2, .int 7]) h2
  have x3 := Ext.new (o := .tup [.int 99, .int 100]) h3
  have x4 := Ext.new (o := .tup [.int 1, .int 100]) h4
  have x5 := Ext.new (o := .lst [.ref a1, .ref a2, .ref a3, .ref a4]) hl
  have r1 := (Rds.tup (a := a1) upd_same (.cons (.int 1) (.cons (.int 2) .nil)) : Rds (upd H a1 (.tup [.int 1, .int 2])) (.ref a1) (cD 1 2)).mono (((x2.trans x3).trans x4).trans x5)
  have r2 := (Rds.tup (a := a2) upd_same (.cons (.int 2) (.cons (.int 7) .nil)) : Rds (upd (upd H a1 (.tup [.int 1, .int 2])) a2 (.tup [.int 2, .int 7])) (.ref a2) (cD 2 7)).mono ((x3.trans x4).trans x5)
  have r3 := (Rds.tup (a := a3) upd_same (.cons (.int 99) (.cons (.int 100) .nil)) : Rds (upd (upd (upd H a1 (.tup [.int 1, .int 2])) a2 (.tup [.int 2, .int 7])) a3 (.tup [.int 99, .int 100])) (.ref a3) (cD 99 100)).mono (x4.trans x5)
  have r4 := (Rds.tup (a := a4) upd_same (.cons (.int 1) (.cons (.int 100) .nil)) : Rds (upd (upd (upd (upd H a1 (.tup [.int 1, .int 2])) a2 (.tup [.int 2, .int 7])) a3 (.tup [.int 99, .int 100])) a4 (.tup [.int 1, .int 100])) (.ref a4) (cD 1 100)).mono x5
  have x05 := (((x1.trans x2).trans x3).trans x4).trans x5
  refine ⟨l, [.ref a1, .ref a2, .ref a3, .ref a4], fun j => eqD (good4.getD j .none) d, rfl, SqL.of upd_same, fun j a ha => ?_, ?_⟩
  · match j, ha with
    | 0, ha => cases ha; exact eqI_of r1 rfl (by decide +kernel) (rd.mono x05) pl
    | 1, ha => cases ha; exact eqI_of r2 rfl (by decide +kernel) (rd.mono x05) pl
    | 2, ha => cases ha; exact eqI_of r3 rfl (by decide +kernel) (rd.mono x05) pl
    | 3, ha => cases ha; exact eqI_of r4 rfl (by decide +kernel) (rd.mono x05) pl
  have e4 : (List.range ([.ref a1, .ref a2, .ref a3, .ref a4] : List V).length).any (fun j => eqD (good4.getD j .none) d) = in4 d := by
    show (List.range 4).any _ = _
    simp only [show List.range 4 = [0, 1, 2, 3] from rfl, in4, good4, List.any_cons, List.any_nil]
    rfl
  rw [e4]
  generalize upd (upd (upd (upd (upd H a1 (.tup [.int 1, .int 2])) a2 (.tup [.int 2, .int 7])) a3 (.tup [.int 99, .int 100])) a4 (.tup [.int 1, .int 100])) l (.lst [.ref a1, .ref a2, .ref a3, .ref a4]) = H5 at x05
  have q5 := q H5 x05
  have rd5 := rd.mono x05
  refine ⟨_, rfl, ?_⟩
  cases hin : in4 d with
  | false =>
    have : coinD d = false := by
      unfold chk24 at ck
      split at ck
      · rw [hin] at ck; simpa using ck
      · simpa using ck
      · rw [hin] at ck; simpa using ck
    rw [this] at q5
    exact itF q5
  | true =>
    have ck' := ck
    unfold chk24 at ck'
    split at ck'
    · rename_i i ds
      obtain ⟨a, xs, rfl, ha, ra⟩ := rds_tup rd5
      cases ra with
      | cons r0 ra =>
        cases r0
        rw [hin] at ck'
        have : coinD (.tuple (.int i :: ds)) = true := by simpa using ck'
        rw [this] at q5
        exact itT ⟨_, rfl, a, _, _, _, rfl, rfl, SqT.of ha, atI_nat (j := 0) rfl, _, _, _, _, rfl, .inl (.int i), k_ib, _, rfl, q5⟩
    · rename_i b ds
      obtain ⟨a, xs, rfl, ha, ra⟩ := rds_tup rd5
      cases ra with
      | cons r0 ra =>
        cases r0
        have : coinD (.tuple (.bool b :: ds)) = false := by simpa using ck'
        rw [this] at q5
        exact itT ⟨_, rfl, a, _, _, _, rfl, rfl, SqT.of ha, atI_nat (j := 0) rfl, _, _, _, _, rfl, .inl (.bl b), rfl, _, rfl, q5⟩
    · rw [hin] at ck'
      simp at ck'
end
end My
set_option Elab.async false
set_option linter.all false
set_option maxRecDepth 100000
set_option maxHeartbeats 1000000
namespace My
open PySem PySem.W L2
def GD (H0 : Hp) (σ : St) (te : TE) (d : PyData) : Prop := ∀ (H : Hp) (Q : VK), Ext H0 H → (∀ v H', Ext H H' → Rds H' v d → Q v H') → te σ H Q
def GDs (H0 : Hp) (σ : St) (ta : TA) (ds : List PyData) : Prop := ∀ (H : Hp) (Q : List V → Hp → Prop), Ext H0 H → (∀ vs H', Ext H H' → RdsAll H' vs ds → Q vs H') → ta σ H Q
section
variable {H0 : Hp} {σ : St} {te : TE} {ta : TA} {d : PyData} {ds : List PyData}
theorem GD.int (i : Int) : GD H0 σ (tC (.int i)) (.int i) := fun H Q _ q => q _ H (Ext.refl _) (.int i)
theorem GD.bl (b : Bool) : GD H0 σ (tC (.bl b)) (.bool b) := fun H Q _ q => q _ H (Ext.refl _) (.bl b)
theorem GD.non : GD H0 σ (tC .non) .none := fun H Q _ q => q _ H (Ext.refl _) .non
theorem GD.str (z : Str) : GD H0 σ (tC (.str z)) (.str z) := fun H Q _ q => q _ H (Ext.refl _) (.str z)
theorem GD.var {i : Nat} {v : V} (s : σ[i]? = some (some v)) (r : Rds H0 v d) : GD H0 σ (tVar i) d := fun H Q x q => ⟨v, s, q v H (Ext.refl _) (r.mono x)⟩
theorem GDs.nil : GDs H0 σ tNil [] := fun H Q _ q => q [] H (Ext.refl _) .nil
theorem GDs.cons (h : GD H0 σ te d) (k : GDs H0 σ ta ds) : GDs H0 σ (tCons te ta) (d :: ds) := fun H Q x q =>
  h H _ x fun v H1 x1 r => k H1 _ (x.trans x1) fun vs H2 x2 rs => q (v :: vs) H2 (x1.trans x2) (.cons (r.mono x2) rs)
theorem GD.tup (k : GDs H0 σ ta ds) (hz : ds.length ≤ sizeLine) : GD H0 σ (tTup ta) (.tuple ds) := fun H Q x q =>
  k H _ x fun vs H1 x1 rs => ⟨by rw [rs.length]; exact hz, fun p hp => q _ _ (x1.trans (Ext.new hp)) (.tup upd_same (rs.mono (Ext.new hp)))⟩
theorem GD.lst (k : GDs H0 σ ta ds) (hz : ds.length ≤ sizeLine) : GD H0 σ (tLst ta) (.list ds) := fun H Q x q =>
  k H _ x fun vs H1 x1 rs => ⟨by rw [rs.length]; exact hz, fun p hp => q _ _ (x1.trans (Ext.new hp)) (.lst upd_same (rs.mono (Ext.new hp)))⟩
theorem GD.neg (i : Int) : GD H0 σ (tUn (rU fun i => .int (-i)) (tC (.int i))) (.int (-i)) := fun H Q _ q => ⟨i, rfl, q _ H (Ext.refl _) (.int _)⟩
theorem GD.dic : GD H0 σ tDNewK (.dict []) := fun H Q x q => fun p hp => q _ _ (Ext.new hp) (.dic0 upd_same)
theorem GDs.use {Q : VK} (k : GDs H0 σ ta ds) (hz : ds.length ≤ sizeLine) (q : ∀ l vs H', Ext H0 H' → H0 l = none → H' l = some (.lst vs) → RdsAll H' vs ds → Q (.ref l) H') : tLst ta σ H0 Q :=
  k H0 _ (Ext.refl _) fun vs H1 x1 rs => ⟨by rw [rs.length]; exact hz, fun p hp => q p vs _ (x1.trans (Ext.new hp)) (by
    cases e : H0 p with
    | none => rfl
    | some o => rw [x1 _ _ e] at hp; cases hp) upd_same (rs.mono (Ext.new hp))⟩
end
end My
set_option Elab.async false
set_option linter.all false
set_option maxRecDepth 100000
set_option maxHeartbeats 1000000
set_option exponentiation.threshold 10000
namespace My
open PySem PySem.W L2
def Cks (H : Hp) (ts : List V) (cs : List (Bool × Str × V)) : Prop := ts.length = cs.length ∧ ∀ (i : Nat) t c, ts[i]? = some t → cs[i]? = some c → ∃ a, t = .ref a ∧ H a = some (.tup [.bl c.1, .str c.2.1, c.2.2])
def firstBad : List (Bool × Str × V) → Option (Str × V)
  | [] => none
  | (true, _) :: r => firstBad r
  | (false, w, v) :: _ => some (w, v)
def NumD (d : PyData) : Prop := plainD d = true ∧ d.depth ≤ 1
def tXsM (K : Frag) (i : Nat) (k j : Int) : TE := tOp (rI (fun _ j => 0 < j) fun i j => .int (i % j)) (tOp (rIxL K) (tVar i) (tC (.int k))) (tC (.int j))
section
variable {K : Frag} {H0 : Hp} {σ : St}
theorem GD.xsM {i k : Nat} {p : Addr} {ns : List Int} {n j : Int} (si : σ[i]? = some (some (.ref p))) (hp : H0 p = some (.lst (ns.map V.int))) (hk : ns[k]? = some n) (j0 : 0 < j) : GD H0 σ (tXsM K i k j) (.int (n % j)) := fun H Q x q =>
  ⟨_, si, p, _, _, _, rfl, rfl, SqL.of (x _ _ hp), atI_nat (by rw [List.getElem?_map, hk]; rfl), _, _, rfl, rfl, j0, q _ H (Ext.refl _) (.int _)⟩
theorem GD.pow {i j : Int} (h : CPow i j) : GD H0 σ (tOp (rI CPow fun i j => .int (i ^ j.toNat)) (tC (.int i)) (tC (.int j))) (.int (i ^ j.toNat)) := fun H Q _ q => ⟨_, _, rfl, rfl, h, q _ H (Ext.refl _) (.int _)⟩
end
section
variable {P : Program} {w : World} {K : Frag} {mg : Str → Option Value} {base : Heap}
abbrev sFD : Stmt := top 47
abbrev NFD : List Str := ["_law_checks", "_law_good", "_law_word", "_law_thing"]
theorem scFD : FnScope NFD ["_law_checks"] (defScope sFD) := ⟨rfl, rfl, rfl, by decide +kernel, rfl, by decide +kernel, by decide +kernel⟩
def spFD : Sp := fun vs H Q _ => ∃ (p : Addr) (ts : List V) (cs : List (Bool × Str × V)), vs = [.ref p] ∧ H p = some (.lst ts) ∧ Cks H ts cs ∧ (firstBad cs = none → Q .non H) ∧ ∀ w v, firstBad cs = some (w, v) → ∀ a H', Ext H H' → H' a = some (.tup [.str w, v]) → Q (.ref a) H'
theorem drop_cons {α : Type} {xs : List α} {i : Nat} {x : α} (h : xs[i]? = some x) : xs.drop i = x :: xs.drop (i + 1) := by
  obtain ⟨hi, rfl⟩ := List.getElem?_eq_some_iff.mp h
  exact List.drop_eq_getElem_cons hi
theorem ok_fd {f : Addr} {fd : FuncData} (F : Fun K "_law_first_due" "_law_first_due" sFD f fd) : FnOk P w K mg base CX0 1 f fd ["_law_checks"] spFD := by
  refine F.ok scFD (fun vs H Q E h => ?_) (fun cdv A outer s H vs Q E hr h => ?_)
  · obtain ⟨_, _, _, rfl, _⟩ := h
    rfl
  obtain ⟨p, ts, cs, rfl, hp, ck, q0, q1⟩ := h
  have nd := scFD.nd
  refine ⟨_, pss_cons (ps_for PassesOwn.never rfl (pi_list (pv 0)) (pg_tup rfl (pgs_cons (pg_name (i := 1) nd rfl (Or.inl rfl)) (pgs_cons (pg_name (i := 2) nd rfl (Or.inl rfl)) (pgs_cons (pg_name (i := 3) nd rfl (Or.inl rfl)) pgs_nil))))
    (pss_one (ps_if (pt_not (pt_val (pv 1))) (pss_one (ps_ret (pe_tup (pa_cons (pv 2) (pa_cons (pv 3) pa_nil))))) pss_nil))) (pss_one (ps_ret pe_non)), ?_⟩
  refine ⟨_, rfl, p, rfl, ⟨_, SqL.of hp⟩, for_list (xs := ts) (fun i σ H' => H' = H ∧ firstBad cs = firstBad (cs.drop i) ∧ ∃ o1 o2 o3, σ = [some (.ref p), o1, o2, o3]) ⟨rfl, rfl, _, _, _, rfl⟩ ?_ ?_ ?_⟩
  · rintro i σ H' _ ⟨rfl, _⟩
    exact SqL.of hp
  · rintro i x σ H' ex ⟨rfl, fb, o1, o2, o3, rfl⟩
    have hi : i < cs.length := by have := (List.getElem?_eq_some_iff.mp ex).1; have := ck.1; omega
    have ec := List.getElem?_eq_getElem hi
    obtain ⟨a, rfl, ha⟩ := ck.2 i x _ ex ec
    rw [drop_cons ec] at fb
    obtain ⟨⟨g, wd, th⟩, eg⟩ : ∃ c, cs[i] = c := ⟨_, rfl⟩
    rw [eg] at ha fb
    refine ⟨a, _, rfl, SqT.of ha, rfl, _, _, rfl, _, _, rfl, _, _, rfl, rfl, ?_⟩
    refine ⟨_, rfl, _, rfl, ?_⟩
    cases g with
    | true => exact itF ⟨rfl, fb, _, _, _, rfl⟩
    | false =>
      refine itT ⟨_, rfl, _, rfl, by show 2 ≤ sizeLine; decide, fun b hb => ?_⟩
      exact q1 wd th fb b _ (Ext.new hb) upd_same
  · rintro σ H' ⟨rfl, fb, o1, o2, o3, rfl⟩
    have e : cs.drop ts.length = [] := List.drop_eq_nil_of_le (by have := ck.1; omega)
    rw [e] at fb
    exact q0 fb
abbrev sNu : Stmt := top 41
abbrev NNu : List Str := ["_law_xs", "_law_some"]
theorem scNu : FnScope NNu ["_law_xs"] (defScope sNu) := ⟨rfl, rfl, rfl, by decide +kernel, rfl, by decide +kernel, by decide +kernel⟩
def spNu : Sp := fun vs H Q _ => ∃ (p : Addr) (x y : Int) (ns : List Int), vs = [.ref p] ∧ H p = some (.lst ((x :: y :: ns).map V.int)) ∧ 0 ≤ y ∧ y < 14 ∧ ∀ v d H', Ext H H' → Rds H' v d → NumD d → Q v H'
def tNuA (K : Frag) : TA := tCons (tXsM K 0 0 22) (tCons (tXsM K 0 0 12) (tCons (tC (.int 0)) (tCons (tC (.int 1)) (tCons (tC (.int 20)) (tCons (tC (.int 21)) (tCons (tUn (rU fun i => .int (-i)) (tC (.int 1))) (tCons (tC (.bl true)) (tCons (tC (.bl false)) (tCons (tC .non) (tCons (tC (.str "3")) (tCons (tLst (tCons (tC (.int 3)) tNil)) (tCons (tTup (tCons (tC (.int 3)) tNil)) (tCons (tOp (rI CPow fun i j => .int (i ^ j.toNat)) (tC (.int 10)) (tC (.int 25))) tNil)))))))))))))
def nuD (x : Int) : List PyData := [.int (x % 22), .int (x % 12), .int 0, .int 1, .int 20, .int 21, .int (-1), .bool true, .bool false, .none, .str "3", .list [.int 3], .tuple [.int 3], .int (10 ^ (25 : Int).toNat)]
theorem nuD_ok (x : Int) : ∀ d ∈ nuD x, NumD d := by
  intro d hd
  simp only [nuD, List.mem_cons, List.not_mem_nil, or_false] at hd
  rcases hd with rfl | rfl | rfl | rfl | rfl | rfl | rfl | rfl | rfl | rfl | rfl | rfl | rfl | rfl <;> exact ⟨by simp [plainD, plainDs], by simp [PyData.depth, PyData.depthAll]⟩
def tNu (K : Frag) : TS := tSeq (tAsg (tLst (tNuA K)) (gName 1)) (tRet (tOp (rIxL K) (tVar 1) (tOp (rIxL K) (tVar 0) (tC (.int 1)))))
variable {f : Addr} {cdv : Value} {A : Around} {outer : List Env} {s : Shared} {H : Hp} {E : XK}
theorem nu_der : Bx (PSs (cxOf CX0 P w K mg base NNu "_law_number" (defScope sNu) f cdv A outer s H E).nox (defBody sNu) (tNu K)) := by
  have nd := scNu.nd
  exact bxs_cons (bx_set (i := 1) nd rfl (Or.inl rfl) (bx_lst (bxa_cons ⟨pe_op op_mod (pe_ix ix_list (pv 0) pe_int (fun _ _ => rfl)) pe_int⟩ (bxa_cons ⟨pe_op op_mod (pe_ix ix_list (pv 0) pe_int (fun _ _ => rfl)) pe_int⟩ (bxa_cons ⟨pe_int⟩ (bxa_cons ⟨pe_int⟩ (bxa_cons ⟨pe_int⟩ (bxa_cons ⟨pe_int⟩ (bxa_cons ⟨pe_un un_neg pe_int⟩ (bxa_cons ⟨pe_bl⟩ (bxa_cons ⟨pe_bl⟩ (bxa_cons ⟨pe_non⟩ (bxa_cons ⟨pe_str⟩ (bxa_cons (bx_lst (bxa_cons ⟨pe_int⟩ bxa_nil)) (bxa_cons ⟨pe_tup (pa_cons pe_int pa_nil)⟩ (bxa_cons ⟨pe_op op_pow pe_int pe_int⟩ bxa_nil))))))))))))))))
    (bxs_one ⟨ps_ret (pe_ix ix_list (pv 1) (pe_ix ix_list (pv 0) pe_int (fun _ _ => rfl)) (fun _ _ => rfl))⟩)
theorem ok_nu {fd : FuncData} (F : Fun K "_law_number" "_law_number" sNu f fd) : FnOk P w K mg base CX0 1 f fd ["_law_xs"] spNu := by
  refine F.ok scNu (fun vs H Q E h => ?_) (fun cdv A outer s H vs Q E hr h => ?_)
  · obtain ⟨_, _, _, _, rfl, _⟩ := h
    rfl
  obtain ⟨p, x, y, ns, rfl, hp, y0, y14, q⟩ := h
  obtain ⟨der⟩ := nu_der (f := f) (cdv := cdv) (A := A) (outer := outer) (s := s) (H := H) (E := E) (P := P) (w := w) (base := base) (K := K) (mg := mg)
  refine ⟨_, der, ?_⟩
  have g : GDs H [some (.ref p), none] (tNuA K) (nuD x) :=
    .cons (.xsM (k := 0) rfl hp rfl (by decide)) (.cons (.xsM (k := 0) rfl hp rfl (by decide)) (.cons (.int _) (.cons (.int _) (.cons (.int _) (.cons (.int _) (.cons (.neg 1) (.cons (.bl _) (.cons (.bl _) (.cons .non (.cons (.str _) (.cons (.lst (.cons (.int _) .nil) (by show 1 ≤ sizeLine; decide)) (.cons (.tup (.cons (.int _) .nil) (by show 1 ≤ sizeLine; decide)) (.cons (.pow ⟨by decide, by decide, by decide⟩) .nil)))))))))))))
  refine rd_set (te := tLst (tNuA K)) (i := 1) (D := ⟨_, Q, _, _⟩) (g.use (by show 14 ≤ sizeLine; decide) fun l vs H1 x1 _ hl rs => ?_)
  have hp1 := x1 _ _ hp
  obtain ⟨k, rfl⟩ : ∃ k : Nat, y = (k : Int) := ⟨y.toNat, by omega⟩
  have lv : vs.length = 14 := rs.length
  have hk : k < vs.length := by omega
  obtain ⟨d, hd, rd⟩ := rs.get (List.getElem?_eq_getElem hk)
  refine ⟨_, rfl, _, rfl, p, _, 1, _, rfl, rfl, SqL.of hp1, atI_nat (j := 1) rfl, l, vs, (k : Int), _, rfl, rfl, SqL.of hl, atI_nat (List.getElem?_eq_getElem hk), ?_⟩
  exact q _ d H1 x1 rd (nuD_ok x d (List.mem_of_getElem? hd))
end
end My
set_option Elab.async false
set_option linter.all false
set_option maxRecDepth 100000
set_option maxHeartbeats 1000000
set_option exponentiation.threshold 10000
namespace My
open PySem PySem.W L2
def t2i (a b : Int) : TE := tTup (tCons (tC (.int a)) (tCons (tC (.int b)) tNil))
def tNeg (a : Int) : TE := tUn (rU fun i => .int (-i)) (tC (.int a))
def tCoA : TA := tCons (t2i 1 2) (tCons (t2i 2 7) (tCons (t2i 99 100) (tCons (t2i 1 100) (tCons (t2i 1 101) (tCons (t2i 100 101) (tCons (t2i 0 1) (tCons (t2i 1 1) (tCons (t2i 2 4) (tCons (t2i 1 0) (tCons (t2i 3 2) tNil))))))))))
def tCoM : TA := tCons (tTup (tCons (tNeg 1) (tCons (tC (.int 2)) tNil))) tNil
def tCoB : TA := tCons (tLst (tCons (tC (.int 1)) (tCons (tC (.int 2)) tNil))) (tCons (tTup (tCons (tC (.bl true)) (tCons (tC (.int 2)) tNil))) (tCons (tTup (tCons (tC (.int 1)) (tCons (tC (.bl true)) tNil))) (tCons (tTup (tCons (tC (.int 1)) tNil)) (tCons (tTup (tCons (tC (.int 1)) (tCons (tC (.int 2)) (tCons (tC (.int 3)) tNil)))) (tCons (tC (.str "1/2")) (tCons (tC .non) (tCons (tC (.bl false)) (tCons (tC (.int 1)) (tCons tDNewK (tCons (tTup (tCons (tC (.str "1")) (tCons (tC (.int 2)) tNil))) (tCons (tTup (tCons (tC (.int 1)) (tCons (tC .non) tNil))) tNil)))))))))))
def coA : List PyData := [cD 1 2, cD 2 7, cD 99 100, cD 1 100, cD 1 101, cD 100 101, cD 0 1, cD 1 1, cD 2 4, cD 1 0, cD 3 2]
def coB : List PyData := [.list [.int 1, .int 2], .tuple [.bool true, .int 2], .tuple [.int 1, .bool true], .tuple [.int 1], .tuple [.int 1, .int 2, .int 3], .str "1/2", .none, .bool false, .int 1, .dict [], .tuple [.str "1", .int 2], .tuple [.int 1, .none]]
theorem co_all : (coA ++ [cD (-1) 2]) ++ coB = coins24 := rfl
section
variable {H0 : Hp} {σ : St}
theorem GD.t2 (a b : Int) : GD H0 σ (t2i a b) (cD a b) := .tup (.cons (.int a) (.cons (.int b) .nil)) (by show 2 ≤ sizeLine; decide)
theorem g_coA : GDs H0 σ tCoA coA := .cons (.t2 _ _) (.cons (.t2 _ _) (.cons (.t2 _ _) (.cons (.t2 _ _) (.cons (.t2 _ _) (.cons (.t2 _ _) (.cons (.t2 _ _) (.cons (.t2 _ _) (.cons (.t2 _ _) (.cons (.t2 _ _) (.cons (.t2 _ _) .nil))))))))))
theorem g_coM : GDs H0 σ tCoM [cD (-1) 2] := .cons (.tup (.cons (.neg 1) (.cons (.int 2) .nil)) (by show 2 ≤ sizeLine; decide)) .nil
theorem g_coB : GDs H0 σ tCoB coB := .cons (.lst (.cons (.int 1) (.cons (.int 2) .nil)) (by show 2 ≤ sizeLine; decide)) (.cons (.tup (.cons (.bl _) (.cons (.int 2) .nil)) (by show 2 ≤ sizeLine; decide)) (.cons (.tup (.cons (.int 1) (.cons (.bl _) .nil)) (by show 2 ≤ sizeLine; decide)) (.cons (.tup (.cons (.int 1) .nil) (by show 1 ≤ sizeLine; decide)) (.cons (.tup (.cons (.int 1) (.cons (.int 2) (.cons (.int 3) .nil))) (by show 3 ≤ sizeLine; decide))
  (.cons (.str _) (.cons .non (.cons (.bl _) (.cons (.int 1) (.cons .dic (.cons (.tup (.cons (.str _) (.cons (.int 2) .nil)) (by show 2 ≤ sizeLine; decide)) (.cons (.tup (.cons (.int 1) (.cons .non .nil)) (by show 2 ≤ sizeLine; decide)) .nil)))))))))))
end
section
variable {X : Cx} {op : Operator} {r : R2} {a b : Expr} {ta tb : TE} {pos : Pos}
theorem bx_op (ho : OpR X (binaryOp op) r) (ha : Bx (PE X a ta)) (hb : Bx (PE X b tb)) : Bx (PE X (.BinOp a op b pos) (tOp r ta tb)) := ⟨pe_op ho ha.h hb.h⟩
end
section
variable {P : Program} {w : World} {K : Frag} {mg : Str → Option Value} {base : Heap}
abbrev sCo : Stmt := top 42
abbrev NCo : List Str := ["_law_xs", "_law_some"]
theorem scCoL : FnScope NCo ["_law_xs"] (defScope sCo) := ⟨rfl, rfl, rfl, by decide +kernel, rfl, by decide +kernel, by decide +kernel⟩
def spCo : Sp := fun vs H Q _ => ∃ (p : Addr) (x : Int) (ns : List Int), vs = [.ref p] ∧ H p = some (.lst ((x :: ns).map V.int)) ∧ ∀ v d H', Ext H H' → Rds H' v d → d ∈ coins24 → Q v H'
def tCo0 : TS := tAsg (tLst tCoA) (gName 1)
def tCo1 (K : Frag) : TS := tDrop (tBM K "list" rAppend (tVar 1) tCoM)
def tCo2 : TS := tAsg (tOp rCat (tVar 1) (tLst tCoB)) (gName 1)
def tCo3 (K : Frag) : TS := tRet (tOp (rIxL K) (tVar 1) (tXsM K 0 0 24))
def tCo (K : Frag) : TS := tSeq tCo0 (tSeq (tCo1 K) (tSeq tCo2 (tCo3 K)))
abbrev stCo (i : Nat) : Stmt := (defBody sCo).getD i (.Pass ⟨0, 0, 0, 0⟩)
variable {f : Addr} {cdv : Value} {A : Around} {outer : List Env} {s : Shared} {H : Hp} {E : XK}
theorem co_0 : Bx (PS (cxOf CX0 P w K mg base NCo "_law_coin" (defScope sCo) f cdv A outer s H E).nox (stCo 0) tCo0) := by
  have nd := scCoL.nd
  exact bx_set (i := 1) nd rfl (Or.inl rfl) (bx_lst (bxa_cons ⟨pe_tup (pa_cons pe_int (pa_cons pe_int pa_nil))⟩ (bxa_cons ⟨pe_tup (pa_cons pe_int (pa_cons pe_int pa_nil))⟩ (bxa_cons ⟨pe_tup (pa_cons pe_int (pa_cons pe_int pa_nil))⟩ (bxa_cons ⟨pe_tup (pa_cons pe_int (pa_cons pe_int pa_nil))⟩ (bxa_cons ⟨pe_tup (pa_cons pe_int (pa_cons pe_int pa_nil))⟩ (bxa_cons ⟨pe_tup (pa_cons pe_int (pa_cons pe_int pa_nil))⟩ (bxa_cons ⟨pe_tup (pa_cons pe_int (pa_cons pe_int pa_nil))⟩ (bxa_cons ⟨pe_tup (pa_cons pe_int (pa_cons pe_int pa_nil))⟩ (bxa_cons ⟨pe_tup (pa_cons pe_int (pa_cons pe_int pa_nil))⟩ (bxa_cons ⟨pe_tup (pa_cons pe_int (pa_cons pe_int pa_nil))⟩ (bxa_cons ⟨pe_tup (pa_cons pe_int (pa_cons pe_int pa_nil))⟩ bxa_nil))))))))))))
theorem co_1 : Bx (PS (cxOf CX0 P w K mg base NCo "_law_coin" (defScope sCo) f cdv A outer s H E).nox (stCo 1) (tCo1 K)) :=
  ⟨ps_expr (pe_bm PySem.F.plainAttrs_list PySem.F.slot_list_append PySem.F.type_list_append mt_append (pv 1) (pa_cons (pe_tup (pa_cons (pe_un un_neg pe_int) (pa_cons pe_int pa_nil))) pa_nil))⟩
theorem co_2 : Bx (PS (cxOf CX0 P w K mg base NCo "_law_coin" (defScope sCo) f cdv A outer s H E).nox (stCo 2) tCo2) := by
  have nd := scCoL.nd
  exact bx_set (i := 1) nd rfl (Or.inl rfl) (bx_op op_cat ⟨pv 1⟩ (bx_lst (bxa_cons (bx_lst (bxa_cons ⟨pe_int⟩ (bxa_cons ⟨pe_int⟩ bxa_nil))) (bxa_cons ⟨pe_tup (pa_cons pe_bl (pa_cons pe_int pa_nil))⟩ (bxa_cons ⟨pe_tup (pa_cons pe_int (pa_cons pe_bl pa_nil))⟩ (bxa_cons ⟨pe_tup (pa_cons pe_int pa_nil)⟩ (bxa_cons ⟨pe_tup (pa_cons pe_int (pa_cons pe_int (pa_cons pe_int pa_nil)))⟩ (bxa_cons ⟨pe_str⟩ (bxa_cons ⟨pe_non⟩ (bxa_cons ⟨pe_bl⟩ (bxa_cons ⟨pe_int⟩ (bxa_cons ⟨pe_dnewK⟩ (bxa_cons ⟨pe_tup (pa_cons pe_str (pa_cons pe_int pa_nil))⟩ (bxa_cons ⟨pe_tup (pa_cons pe_int (pa_cons pe_non pa_nil))⟩ bxa_nil))))))))))))))
theorem co_3 : Bx (PS (cxOf CX0 P w K mg base NCo "_law_coin" (defScope sCo) f cdv A outer s H E).nox (stCo 3) (tCo3 K)) :=
  ⟨ps_ret (pe_ix ix_list (pv 1) (pe_op op_mod (pe_ix ix_list (pv 0) pe_int (fun _ _ => rfl)) pe_int) (fun _ _ => rfl))⟩
theorem co_st : defBody sCo = [stCo 0, stCo 1, stCo 2, stCo 3] := rfl
theorem co_der : Bx (PSs (cxOf CX0 P w K mg base NCo "_law_coin" (defScope sCo) f cdv A outer s H E).nox (defBody sCo) (tCo K)) := by
  rw [co_st]
  exact bxs_cons co_0 (bxs_cons co_1 (bxs_cons co_2 (bxs_one co_3)))
theorem nl_coA : noLsts (coA ++ [cD (-1) 2]) = true := by simp [coA, cD, noLsts, noLst]
theorem okBxL {X : Cx} {body : List Stmt} {t : TS} {D : Ends} {σ : St} {H : Hp} (h : Bx (PSs X body t)) (r : Bx (t D σ H)) : ∃ t, PSs X body t ∧ t D σ H := ⟨t, h.h, r.h⟩
theorem rd_co {De : Ends} {p : Addr} {x : Int} {ns : List Int} (hp : H p = some (.lst ((x :: ns).map V.int))) (q : ∀ v d H', Ext H H' → Rds H' v d → d ∈ coins24 → De.rt v H') : Bx (tCo K De [some (.ref p), none] H) := by
  refine ⟨?_⟩
  refine rd_set (te := tLst tCoA) (i := 1) (D := De) (g_coA.use (by show 11 ≤ sizeLine; decide) fun l vs H1 x1 l0 hl rs => ?_)
  have lv : vs.length = 11 := rs.length
  show tSeq (tCo1 K) (tSeq tCo2 (tCo3 K)) De [some (.ref p), some (.ref l)] H1
  refine ⟨_, rfl, .inl ⟨rfl, _, SqL.of hl⟩, g_coM H1 _ (Ext.refl _) fun ys H2 x2 ry => ?_⟩
  have hl2 := x2 _ _ hl
  have rs2 := (rs.mono x2).append ry
  have ly : ys.length = 1 := ry.length
  obtain ⟨y, rfl⟩ : ∃ y, ys = [y] := by
    match ys, ly with
    | [y], _ => exact ⟨y, rfl⟩
  refine ⟨l, vs, y, rfl, rfl, hl2, by rw [lv]; decide, ?_⟩
  have x3 := ext_upd (.lst (vs ++ [y])) (x1.trans x2) l0
  have hl3 : upd H2 l (.lst (vs ++ [y])) l = some (.lst (vs ++ [y])) := upd_same
  have rs3 := RdsAll.keepT (kpT_upd (.lst (vs ++ [y])) hl2) nl_coA rs2
  show tSeq tCo2 (tCo3 K) De [some (.ref p), some (.ref l)] (upd H2 l (.lst (vs ++ [y])))
  generalize upd H2 l (.lst (vs ++ [y])) = H3 at x3 hl3 rs3 ⊢
  refine rd_set (te := tOp rCat (tVar 1) (tLst tCoB)) (i := 1) (D := De) (rd_op ⟨_, rfl, g_coB.use (by show 12 ≤ sizeLine; decide) fun m us H4 x4 _ hm ru => ?_⟩)
  have lu : us.length = 12 := ru.length
  refine ⟨l, m, vs ++ [y], us, rfl, rfl, x4 _ _ hl3, hm, by rw [List.length_append, lv, lu]; show 11 + 1 + 12 ≤ sizeLine; decide, fun k hk => ?_⟩
  have x5 := Ext.new (o := .lst ((vs ++ [y]) ++ us)) hk
  have rs5 := ((rs3.mono x4).append ru).mono x5
  rw [co_all] at rs5
  have x05 := (x3.trans x4).trans x5
  have hk5 : upd H4 k (.lst ((vs ++ [y]) ++ us)) k = some (.lst ((vs ++ [y]) ++ us)) := upd_same
  show tCo3 K De [some (.ref p), some (.ref k)] (upd H4 k (.lst ((vs ++ [y]) ++ us)))
  generalize upd H4 k (.lst ((vs ++ [y]) ++ us)) = H5 at x05 hk5 rs5 ⊢
  have m0 : 0 ≤ x % 24 := Int.emod_nonneg _ (by decide)
  have m1 : x % 24 < 24 := Int.emod_lt_of_pos _ (by decide)
  obtain ⟨i, ei⟩ : ∃ i : Nat, x % 24 = (i : Int) := ⟨(x % 24).toNat, by omega⟩
  have li : i < ((vs ++ [y]) ++ us).length := by rw [List.length_append, List.length_append, lv, lu]; show i < 11 + 1 + 12; omega
  obtain ⟨d, hd, rd⟩ := rs5.get (List.getElem?_eq_getElem li)
  show tOp (rIxL K) (tVar 1) (tXsM K 0 0 24) [some (.ref p), some (.ref k)] H5 De.rt
  have at1 : atI ((vs ++ [y]) ++ us) (x % 24) = some ((vs ++ [y]) ++ us)[i] := by
    rw [ei]
    exact atI_nat (List.getElem?_eq_getElem li)
  exact ⟨_, rfl, _, rfl, p, _, 0, _, rfl, rfl, SqL.of (x05 _ _ hp), atI_nat (j := 0) rfl, x, 24, rfl, rfl, (by show (0 : Int) < 24; decide), k, (vs ++ [y]) ++ us, x % 24, ((vs ++ [y]) ++ us)[i], rfl, rfl, SqL.of hk5, at1, q _ d H5 x05 rd (List.mem_of_getElem? hd)⟩
theorem ok_co {fd : FuncData} (F : Fun K "_law_coin" "_law_coin" sCo f fd) : FnOk P w K mg base CX0 1 f fd ["_law_xs"] spCo := by
  refine F.ok scCoL (fun vs H Q E h => ?_) (fun cdv A outer s H vs Q E hr h => ?_)
  · obtain ⟨_, _, _, rfl, _⟩ := h
    rfl
  obtain ⟨p, x, ns, rfl, hp, q⟩ := h
  exact okBxL co_der (rd_co hp q)
end
end My
set_option Elab.async false
set_option linter.all false
set_option maxRecDepth 100000
set_option maxHeartbeats 1000000
set_option exponentiation.threshold 10000
namespace My
open PySem PySem.W L2
structure Mks (P : Program) (w : World) (K : Frag) (mg : Str → Option Value) (base : Heap) (C : Nat → Addr) (CN CS CT CM : Addr) (f0 f1 f2 f3 f4 : Addr) (e0 e1 e2 e3 e4 : FuncData) : Prop where
  k0 : Mk K (C 0) f0
  k1 : Mk K (C 1) f1
  k2 : Mk K (C 2) f2
  k3 : Mk K (C 3) f3
  k4 : Mk K (C 4) f4
  g0 : FnOk P w K mg base (CXE P w) 4 f0 e0 ["self", "folk", "ones"] (spSpI C CN)
  g1 : FnOk P w K mg base (CXE P w) 6 f1 e1 ["self", "pairs", "coin"] (spPaI C CN CS)
  g2 : FnOk P w K mg base (CXE P w) 6 f2 e2 ["self", "folk", "coin", "far"] (spCoI C CN CS)
  g3 : FnOk P w K mg base (CXE P w) 4 f3 e3 ["self", "rules"] (spBlI K C CT CM)
  g4 : FnOk P w K mg base (CXE P w) 4 f4 e4 ["self", "rule", "many"] (spFiI C CN)
  b0 : Binds K e0 ["self", "folk", "ones"] []
  b1 : Binds K e1 ["self", "pairs", "coin"] []
  b2 : Binds K e2 ["self", "folk", "coin", "far"] []
  b3 : Binds K e3 ["self", "rules"] []
  b4 : Binds K e4 ["self", "rule", "many"] []
  m0 : mg "Split" = some (.ref (C 0))
  m1 : mg "Pairs" = some (.ref (C 1))
  m2 : mg "Coins" = some (.ref (C 2))
  m3 : mg "Blocks" = some (.ref (C 3))
  m4 : mg "First" = some (.ref (C 4))
section
variable {K : Frag} {C : Nat → Addr} {CN CS CT CM : Addr} {H : Hp} {σ : St} {Q : VK} {E : XK}
theorem inD_of {lo hi n : Int} (h1 : lo ≤ n) (h2 : n ≤ hi) : inD lo hi (.int n) = true := by
  show (decide (lo ≤ n) && decide (n ≤ hi)) = true
  rw [decide_eq_true h1, decide_eq_true h2]
  rfl
theorem mk_split {n k : Int} {t : TA} (ht : ∀ R : List V → Hp → Prop, R [.int n, .int k] H → t σ H R) (ok : (R0.split n k).ok) (q : ∀ x H', Ext H H' → Ru C H' (.one (.split n k)) (.ref x) → Q (.ref x) H') : tMake (C 0) (spSpI C CN) [] E0 t σ H Q :=
  ht _ fun x dx hx hd ne => by
    have xe := made_ext (u := .own x) (v := .ins (C 0) dx []) hx hd ne
    obtain ⟨o1, o2, o3, o4⟩ := id ok
    refine ⟨x, _, _, _, _, dx, rfl, upd_same, .int _, .int _, fun h => (by rw [inD_of o1 o2] at h; cases h), fun m e _ _ h => (by cases e; rw [inD_of o3 o4] at h; cases h), fun n' k' e1 e2 _ H' kp ru => ⟨rfl, ?_⟩⟩
    cases e1
    cases e2
    exact q x H' (xe.kp hx kp) ru
theorem mk_pairs {n a b : Int} {c : V} {t : TA} (ht : ∀ R : List V → Hp → Prop, R [.int n, c] H → t σ H R) (rc : Rds H c (.tuple [.int a, .int b])) (ok : (R0.pairs n a b).ok) (q : ∀ x H', Ext H H' → Ru C H' (.one (.pairs n a b)) (.ref x) → Q (.ref x) H') : tMake (C 1) (spPaI C CN CS) [] E0 t σ H Q :=
  ht _ fun x dx hx hd ne => by
    have xe := made_ext (u := .own x) (v := .ins (C 1) dx []) hx hd ne
    obtain ⟨o1, o2, o3⟩ := id ok
    refine ⟨x, _, _, _, _, dx, rfl, upd_same, .int _, rc.mono xe, fun h => (by rw [inD_of o1 o2] at h; cases h), fun _ h => (by rw [o3] at h; cases h), fun n' a' b' e1 e2 _ H' kp ru => ⟨rfl, ?_⟩⟩
    cases e1
    cases e2
    exact q x H' (xe.kp hx kp) ru
theorem mk_coins {n a b f : Int} {c : V} {t : TA} (ht : ∀ R : List V → Hp → Prop, R [.int n, c, .int f] H → t σ H R) (rc : Rds H c (.tuple [.int a, .int b])) (ok : (R0.coins n a b f).ok) (q : ∀ x H', Ext H H' → Ru C H' (.one (.coins n a b f)) (.ref x) → Q (.ref x) H') : tMake (C 2) (spCoI C CN CS) [] E0 t σ H Q :=
  ht _ fun x dx hx hd ne => by
    have xe := made_ext (u := .own x) (v := .ins (C 2) dx []) hx hd ne
    obtain ⟨o1, o2, o3, o4, o5⟩ := id ok
    refine ⟨x, _, _, _, _, _, _, dx, rfl, upd_same, .int _, rc.mono xe, .int _, fun h => (by rw [inD_of o1 o2] at h; cases h), fun _ h => (by rw [o3] at h; cases h), fun _ _ h => (by rw [inD_of o4 o5] at h; cases h), fun n' a' b' f' e1 e2 e3 _ H' kp ru => ⟨rfl, ?_⟩⟩
    cases e1
    cases e2
    cases e3
    exact q x H' (xe.kp hx kp) ru
theorem mk_blocks {l : Addr} {ws : List V} {rs : List R0} {t : TA} (ht : ∀ R : List V → Hp → Prop, R [.ref l] H → t σ H R) (hl : H l = some (.lst ws)) (al : All0 C H rs ws) (ok : (Rl.blocks rs).ok) (q : ∀ x H', Ext H H' → Ru C H' (.blocks rs) (.ref x) → Q (.ref x) H') : tMake (C 3) (spBlI K C CT CM) [] E0 t σ H Q :=
  ht _ fun x dx hx hd ne => by
    have xe := made_ext (u := .own x) (v := .ins (C 3) dx []) hx hd ne
    obtain ⟨o1, o2, o3, o4⟩ := id ok
    exact ⟨x, _, dx, H, rfl, upd_same, xe, hx, .inr (.inr ⟨l, ws, rs, rfl, hl, al, o1, o2, o3, fun h => absurd o4 (by omega), fun _ H' kp ru => ⟨rfl, q x H' (xe.kp hx kp) ru⟩⟩)⟩
theorem mk_first {v : V} {r : Rl} {m : Int} {t : TA} (ht : ∀ R : List V → Hp → Prop, R [v, .int m] H → t σ H R) (ru : Ru C H r v) (ok : (Rl.first r m).ok) (q : ∀ x H', Ext H H' → Ru C H' (.first r m) (.ref x) → Q (.ref x) H') : tMake (C 4) (spFiI C CN) [] E0 t σ H Q :=
  ht _ fun x dx hx hd ne => by
    have xe := made_ext (u := .own x) (v := .ins (C 4) dx []) hx hd ne
    obtain ⟨o1, o2, o3⟩ := id ok
    refine ⟨x, _, _, r, _, dx, H, rfl, upd_same, xe, hx, ru, Rl.sm o1, .int m, fun h => (by rw [inD_of o2 o3] at h; cases h), fun m' e _ _ H' kp ru => ⟨rfl, ?_⟩⟩
    cases e
    exact q x H' (xe.kp hx kp) ru
end
end My
set_option Elab.async false
set_option linter.all false
set_option maxRecDepth 100000
set_option maxHeartbeats 1000000
set_option exponentiation.threshold 10000
namespace My
open PySem PySem.W L2
structure Nx (H : Hp) (p : Addr) (ns : List Int) (k : Nat) : Prop where
  at_ : H p = some (.lst (ns.map V.int))
  len : k ≤ ns.length
  nn : ∀ n ∈ ns, 0 ≤ n
theorem Nx.ext {H H' : Hp} {p : Addr} {ns : List Int} {k : Nat} (h : Nx H p ns k) (x : Ext H H') : Nx H' p ns k := ⟨x _ _ h.at_, h.len, h.nn⟩
theorem Nx.get {H : Hp} {p : Addr} {ns : List Int} {k : Nat} (h : Nx H p ns k) {i : Nat} (hi : i < k) : ∃ n, ns[i]? = some n ∧ 0 ≤ n := by
  have l : i < ns.length := Nat.lt_of_lt_of_le hi h.len
  exact ⟨_, List.getElem?_eq_getElem l, h.nn _ (List.getElem_mem l)⟩
theorem Nx.drop {H : Hp} {p : Addr} {ns : List Int} {k j : Nat} (l : 0 ≤ 0) (h : H p = some (.lst ((ns.drop j).map V.int))) (hk : k + j ≤ ns.length) (nn : ∀ n ∈ ns, 0 ≤ n) : Nx H p (ns.drop j) k :=
  ⟨h, by rw [List.length_drop]; omega, fun n hn => nn n (List.mem_of_mem_drop hn)⟩
def tXs (K : Frag) (i : Nat) (k : Int) : TE := tOp (rIxL K) (tVar i) (tC (.int k))
theorem rd_xs {K : Frag} {H : Hp} {σ : St} {i : Nat} {p : Addr} {ns : List Int} {n : Int} {Q : VK} (k : Nat) (si : σ[i]? = some (some (.ref p))) (hp : H p = some (.lst (ns.map V.int))) (hk : ns[k]? = some n) (q : Q (.int n) H) : tXs K i (k : Nat) σ H Q :=
  ⟨_, si, p, _, _, _, rfl, rfl, SqL.of hp, atI_nat (by rw [List.getElem?_map, hk]; rfl), q⟩
end My
set_option Elab.async false
set_option linter.all false
set_option maxRecDepth 100000
set_option maxHeartbeats 1000000
set_option exponentiation.threshold 10000
namespace My
open PySem PySem.W L2
theorem lookup_two {n m z : Str} {a b c : Addr} (h : List.lookup z [(n, a), (m, b)] = some c) : (z = n ∧ c = a) ∨ (z = m ∧ c = b) := by
  rw [List.lookup_cons] at h
  cases e : z == n with
  | true =>
    rw [e] at h
    exact .inl ⟨beq_iff_eq.mp e, (Option.some.inj h).symm⟩
  | false =>
    rw [e] at h
    exact .inr (lookup_one h)
section
variable {P : Program} {w : World} {K : Frag} {mg : Str → Option Value} {base : Heap} {C : Nat → Addr} {CR CN CS CT CM f0 f1 f2 f3 f4 : Addr} {e0 e1 e2 e3 e4 : FuncData}
abbrev sRs : Stmt := top 45
abbrev NRs : List Str := ["_law_xs", "_law_some", "_law_rules_here", "_law_bad"]
theorem scRs : FnScope NRs ["_law_xs"] (defScope sRs) := ⟨rfl, rfl, rfl, by decide +kernel, rfl, by decide +kernel, by decide +kernel⟩
abbrev stRs (i : Nat) : Stmt := (defBody sRs).getD i (.Pass ⟨0, 0, 0, 0⟩)
abbrev scRsC : Scope := { kind := .function, names := [(".0", .local), ("_law_k", .local), ("_law_some", .free), ("_law_xs", .free)], isGenerator := false, isCoroutine := false }
variable {f : Addr} {cdv : Value} {A : Around} {outer : List Env} {s : Shared} {H : Hp} {E : XK}
theorem compRs : CompG (cxOf CX0 P w K mg base NRs "_law_rules" (defScope sRs) f cdv A outer s H E).nox scRsC [("_law_xs", s.heap.objs.size + 1), ("_law_some", s.heap.objs.size + 2)] ["_law_k"] ["_law_some", "_law_xs"] [1, 0] := by
  refine ⟨rfl, rfl, by decide +kernel, by decide +kernel, by decide +kernel, (fun z c h => ?_), (fun z h => ?_), by decide +kernel, (fun k z h => ?_), rfl⟩
  · rcases lookup_two h with ⟨rfl, rfl⟩ | ⟨rfl, rfl⟩
    · rfl
    · rfl
  · have h' : List.lookup z [((".0" : Str), NameKind.local), (("_law_k" : Str), NameKind.local), (("_law_some" : Str), NameKind.cell), (("_law_xs" : Str), NameKind.cell)] = some .cell ∨ List.lookup z [((".0" : Str), NameKind.local), (("_law_k" : Str), NameKind.local), (("_law_some" : Str), NameKind.cell), (("_law_xs" : Str), NameKind.cell)] = some .free := h
    have e : z = "_law_some" ∨ z = "_law_xs" := by
      simp only [List.lookup_cons, List.lookup_nil] at h'
      repeat' (split at h')
      all_goals first | (simp at h'; done) | (rename_i e; exact .inl (beq_iff_eq.mp e)) | (rename_i e; exact .inr (beq_iff_eq.mp e))
    rcases e with rfl | rfl
    · exact ⟨_, rfl⟩
    · exact ⟨_, rfl⟩
  · match k, h with
    | 0, h => cases h; exact ⟨1, rfl, rfl, .inr (.inl rfl), (by show (defScope sRs).names.lookup ("_law_some" : Str) ≠ some NameKind.local; decide +kernel), .inl rfl⟩
    | 1, h => cases h; exact ⟨0, rfl, rfl, .inr (.inl rfl), (by show (defScope sRs).names.lookup ("_law_xs" : Str) ≠ some NameKind.local; decide +kernel), .inl rfl⟩
theorem ndRs : ((["_law_k"] : List Str) ++ (["_law_some", "_law_xs"] : List Str)).Nodup := by decide +kernel
def tMkS (C : Nat → Addr) (CN : Addr) (a b : Int) : TE := tMake (C 0) (spSpI C CN) [] E0 (tCons (tC (.int a)) (tCons (tC (.int b)) tNil))
def tMkP (C : Nat → Addr) (CN CS : Addr) (n a b : Int) : TE := tMake (C 1) (spPaI C CN CS) [] E0 (tCons (tC (.int n)) (tCons (t2i a b) tNil))
def tMkC (C : Nat → Addr) (CN CS : Addr) (n a b g : Int) : TE := tMake (C 2) (spCoI C CN CS) [] E0 (tCons (tC (.int n)) (tCons (t2i a b) (tCons (tC (.int g)) tNil)))
def tMkB1 (K : Frag) (C : Nat → Addr) (CN CT CM : Addr) (a b : Int) : TE := tMake (C 3) (spBlI K C CT CM) [] E0 (tCons (tLst (tCons (tMkS C CN a b) tNil)) tNil)
def tMkF1 (C : Nat → Addr) (CN : Addr) (a b m : Int) : TE := tMake (C 4) (spFiI C CN) [] E0 (tCons (tMkS C CN a b) (tCons (tC (.int m)) tNil))
def tRs0A (C : Nat → Addr) (CN CS : Addr) : TA := tCons (tMkS C CN 3 1) (tCons (tMkP C CN CS 2 1 3) (tCons (tMkC C CN CS 4 1 2 2) (tCons (tMkS C CN 9 9) (tCons (tMkC C CN CS 20 3 5 1) (tCons (tMkS C CN 1 0) tNil)))))
def tRs0 (C : Nat → Addr) (CN CS : Addr) : TS := tAsg (tLst (tRs0A C CN CS)) (gName 1)
def tPick (K : Frag) : TE := tOp (rIxL K) (tVar 1) (tOp (rI (fun _ j => 0 < j) fun i j => .int (i % j)) (tOp (rIxL K) (tVar 2) (tVar 0)) (tC (.int 6)))
def tRs1 (K : Frag) : TS := tAsg (tLCG (iRng1 (tCons (tXs K 0 6) tNil)) 1 [1, 0] (gName 0) (tPick K)) (gName 2)
def tRs2A (K : Frag) (C : Nat → Addr) (CN CT CM : Addr) : TA := tCons (tC .non) (tCons (tC (.str "split 1 of 2")) (tCons (tMkB1 K C CN CT CM 2 1) (tCons (tMkF1 C CN 2 1 1) (tCons (tTup (tCons (tC (.str "split")) (tCons (tC (.int 2)) (tCons (tC (.int 1)) tNil)))) (tCons (tLst (tCons (tMkS C CN 2 1) tNil)) (tCons (tC (.int 7)) tNil))))))
def tRs2 (K : Frag) (C : Nat → Addr) (CN CT CM : Addr) : TS := tAsg (tLst (tRs2A K C CN CT CM)) (gName 3)
def tLenV (K : Frag) (i : Nat) : TE := tCB (fun xs H Q => ∃ p ys, xs = [.ref p] ∧ (SqL K H p ys ∨ SqT K H p ys) ∧ Q (.int ys.length) H) (tCons (tVar i) tNil)
def tRs3 (K : Frag) : TS := tIfS (tB (tOp (rI0 fun i j => .bl (decide (i < j))) (tXs K 0 7) (tC (.int 7)))) (tDrop (tBM K "list" rInsert (tVar 2) (tCons (tOp (rI (fun _ j => 0 < j) fun i j => .int (i % j)) (tXs K 0 8) (tOp (rI0 fun i j => .int (i + j)) (tLenV K 2) (tC (.int 1)))) (tCons (tOp (rIxL K) (tVar 3) (tXs K 0 7)) tNil)))) tNext
def rTpR (K : Frag) : List V → Hp → VK → Prop := fun xs H Q => ∃ p ys, xs = [.ref p] ∧ ((SqL K H p ys ∧ ∀ l, H l = none → Q (.ref l) (upd H l (.tup ys))) ∨ (SqT K H p ys ∧ Q (.ref p) H))
def tRs4A (K : Frag) (C : Nat → Addr) (CN : Addr) : TA := tCons (tCB (rTpR K) (tCons (tVar 2) tNil)) (tCons (tC .non) (tCons (tMkS C CN 2 1) (tCons tDNewK (tCons (tC (.str "ab")) (tCons (tC (.int 0)) tNil)))))
def tRs4 (K : Frag) (C : Nat → Addr) (CN : Addr) : TS := tIfS (tB (tOp rEq (tXs K 0 9) (tC (.int 0)))) (tRet (tOp (rIxL K) (tLst (tRs4A K C CN)) (tXsM K 0 8 6))) tNext
def tRs5 : TS := tRet (tVar 2)
def tRs (K : Frag) (C : Nat → Addr) (CN CS CT CM : Addr) : TS := tSeq (tRs0 C CN CS) (tSeq (tRs1 K) (tSeq (tRs2 K C CN CT CM) (tSeq (tRs3 K) (tSeq (tRs4 K C CN) tRs5))))
section
variable (L : Mks P w K mg base C CN CS CT CM f0 f1 f2 f3 f4 e0 e1 e2 e3 e4) (hr : Room 7 (A.deeper (PyProof.Rows.envOfC "_law_rules" (defScope sRs) s.heap.objs.size f cdv)))
include L hr
theorem rs_0 : Bx (PS (cxOf CX0 P w K mg base NRs "_law_rules" (defScope sRs) f cdv A outer s H E).nox (stRs 0) (tRs0 C CN CS)) := by
  have hr5 : Room 5 _ := hr.mono (by decide)
  exact bx_set (i := 1) scRs.nd rfl (Or.inr rfl) (bx_lst (bxa_cons ⟨pe_make L.k0 L.g0 hr5 rfl L.m0 L.b0 .nil passN (pa_cons pe_int (pa_cons pe_int pa_nil))⟩ (bxa_cons ⟨pe_make L.k1 L.g1 hr rfl L.m1 L.b1 .nil passN (pa_cons pe_int (pa_cons (pe_tup (pa_cons pe_int (pa_cons pe_int pa_nil))) pa_nil))⟩ (bxa_cons ⟨pe_make L.k2 L.g2 hr rfl L.m2 L.b2 .nil passN (pa_cons pe_int (pa_cons (pe_tup (pa_cons pe_int (pa_cons pe_int pa_nil))) (pa_cons pe_int pa_nil)))⟩
    (bxa_cons ⟨pe_make L.k0 L.g0 hr5 rfl L.m0 L.b0 .nil passN (pa_cons pe_int (pa_cons pe_int pa_nil))⟩ (bxa_cons ⟨pe_make L.k2 L.g2 hr rfl L.m2 L.b2 .nil passN (pa_cons pe_int (pa_cons (pe_tup (pa_cons pe_int (pa_cons pe_int pa_nil))) (pa_cons pe_int pa_nil)))⟩ (bxa_cons ⟨pe_make L.k0 L.g0 hr5 rfl L.m0 L.b0 .nil passN (pa_cons pe_int (pa_cons pe_int pa_nil))⟩ bxa_nil)))))))
theorem rs_2 : Bx (PS (cxOf CX0 P w K mg base NRs "_law_rules" (defScope sRs) f cdv A outer s H E).nox (stRs 2) (tRs2 K C CN CT CM)) := by
  have hr5 : Room 5 _ := hr.mono (by decide)
  exact bx_set (i := 3) scRs.nd rfl (Or.inl rfl) (bx_lst (bxa_cons ⟨pe_non⟩ (bxa_cons ⟨pe_str⟩ (bxa_cons ⟨pe_make L.k3 L.g3 hr5 rfl L.m3 L.b3 .nil passN (pa_cons (pe_lst (pa_cons (pe_make L.k0 L.g0 hr5 rfl L.m0 L.b0 .nil passN (pa_cons pe_int (pa_cons pe_int pa_nil))) pa_nil)) pa_nil)⟩
    (bxa_cons ⟨pe_make L.k4 L.g4 hr5 rfl L.m4 L.b4 .nil passN (pa_cons (pe_make L.k0 L.g0 hr5 rfl L.m0 L.b0 .nil passN (pa_cons pe_int (pa_cons pe_int pa_nil))) (pa_cons pe_int pa_nil))⟩ (bxa_cons ⟨pe_tup (pa_cons pe_str (pa_cons pe_int (pa_cons pe_int pa_nil)))⟩ (bxa_cons (bx_lst (bxa_cons ⟨pe_make L.k0 L.g0 hr5 rfl L.m0 L.b0 .nil passN (pa_cons pe_int (pa_cons pe_int pa_nil))⟩ bxa_nil)) (bxa_cons ⟨pe_int⟩ bxa_nil))))))))
theorem rs_4 (mt : mg "tuple" = none) : Bx (PS (cxOf CX0 P w K mg base NRs "_law_rules" (defScope sRs) f cdv A outer s H E).nox (stRs 4) (tRs4 K C CN)) := by
  have hr5 : Room 5 _ := hr.mono (by decide)
  exact bx_if ⟨pt_cmpR op_eq (pe_ix ix_list (pv 0) pe_int (fun _ _ => rfl)) pe_int (nomark _)⟩ (bxs_one (bx_ret (bx_ix ix_list (bx_lst (bxa_cons ⟨pe_callTy call_tuple_of rfl mt PyProof.Rows.boot_tuple (pa_cons (pv 2) pa_nil)⟩ (bxa_cons ⟨pe_non⟩ (bxa_cons ⟨pe_make L.k0 L.g0 hr5 rfl L.m0 L.b0 .nil passN (pa_cons pe_int (pa_cons pe_int pa_nil))⟩ (bxa_cons ⟨pe_dnewK⟩ (bxa_cons ⟨pe_str⟩ (bxa_cons ⟨pe_int⟩ bxa_nil))))))) ⟨pe_op op_mod (pe_ix ix_list (pv 0) pe_int (fun _ _ => rfl)) pe_int⟩ (fun _ _ => rfl)))) bxs_nil
omit L hr
end
theorem rs_1 (mr : mg "range" = none) : Bx (PS (cxOf CX0 P w K mg base NRs "_law_rules" (defScope sRs) f cdv A outer s H E).nox (stRs 1) (tRs1 K)) :=
  ⟨ps_lcG (iy := 2) (te := tPick K) (g := gName 0) rfl compRs (pi_range1 rfl mr (pa_cons (pe_ix ix_list (pv 0) pe_int (fun _ _ => rfl)) pa_nil)) (fun s H C fp => by exact pg_name (i := 0) ndRs rfl (.inl rfl)) (fun s H C fp => by exact pe_ix ix_list (pv 1) (pe_op op_mod (pe_ix ix_list (pv 2) (pv 0) (fun _ _ => rfl)) pe_int) (fun _ _ => rfl)) scRs.nd rfl (Or.inl rfl) rfl⟩
theorem rs_3 (ml : mg "len" = none) : Bx (PS (cxOf CX0 P w K mg base NRs "_law_rules" (defScope sRs) f cdv A outer s H E).nox (stRs 3) (tRs3 K)) :=
  ⟨ps_if (pt_cmpR op_lt (pe_ix ix_list (pv 0) pe_int (fun _ _ => rfl)) pe_int (nomark _)) (pss_one (ps_expr (pe_bm PySem.F.plainAttrs_list PySem.F.slot_list_insert PySem.F.type_list_insert mt_insert (pv 2) (pa_cons (pe_op op_mod (pe_ix ix_list (pv 0) pe_int (fun _ _ => rfl)) (pe_op op_add (pe_callB call_len_seq rfl ml PySem.boot_len (pa_cons (pv 2) pa_nil)) pe_int)) (pa_cons (pe_ix ix_list (pv 3) (pe_ix ix_list (pv 0) pe_int (fun _ _ => rfl)) (fun _ _ => rfl)) pa_nil))))) pss_nil⟩
theorem rs_st : defBody sRs = [stRs 0, stRs 1, stRs 2, stRs 3, stRs 4, stRs 5] := rfl
theorem rs_der (L : Mks P w K mg base C CN CS CT CM f0 f1 f2 f3 f4 e0 e1 e2 e3 e4) (hr : Room 7 (A.deeper (PyProof.Rows.envOfC "_law_rules" (defScope sRs) s.heap.objs.size f cdv))) (mr : mg "range" = none) (ml : mg "len" = none) (mt : mg "tuple" = none) :
    Bx (PSs (cxOf CX0 P w K mg base NRs "_law_rules" (defScope sRs) f cdv A outer s H E).nox (defBody sRs) (tRs K C CN CS CT CM)) := by
  rw [rs_st]
  exact bxs_cons (rs_0 L hr) (bxs_cons (rs_1 mr) (bxs_cons (rs_2 L hr) (bxs_cons (rs_3 ml) (bxs_cons (rs_4 L hr mt) (bxs_one ⟨ps_ret (pv 2)⟩)))))
end
end My
set_option Elab.async false
set_option linter.all false
set_option maxRecDepth 100000
set_option maxHeartbeats 1000000
namespace My
open PySem PySem.W L2
structure Grows (I : Hp → V → Prop) : Prop where
  ext : ∀ {H H' : Hp} {v : V}, Ext H H' → I H v → I H' v
def GP (I : Hp → V → Prop) (H0 : Hp) (σ : St) (te : TE) : Prop := ∀ (H : Hp) (Q : VK), Ext H0 H → (∀ v H', Ext H H' → I H' v → Q v H') → te σ H Q
def GPs (I : Hp → V → Prop) (H0 : Hp) (σ : St) (ta : TA) (n : Nat) : Prop := ∀ (H : Hp) (Q : List V → Hp → Prop), Ext H0 H → (∀ vs H', Ext H H' → vs.length = n → (∀ v ∈ vs, I H' v) → Q vs H') → ta σ H Q
section
variable {I J : Hp → V → Prop} {H0 : Hp} {σ : St} {te : TE} {ta : TA} {n : Nat} {d : PyData}
theorem GP.weaken (h : GP I H0 σ te) (w : ∀ H v, I H v → J H v) : GP J H0 σ te := fun H Q x q => h H Q x fun v H' x' i => q v H' x' (w H' v i)
theorem GP.of (h : GD H0 σ te d) (w : ∀ H v, Rds H v d → I H v) : GP I H0 σ te := fun H Q x q => h H Q x fun v H' x' r => q v H' x' (w H' v r)
theorem GPs.nil : GPs I H0 σ tNil 0 := fun H Q _ q => q [] H (Ext.refl _) rfl fun _ h => nomatch h
theorem GPs.cons (g : Grows I) (h : GP I H0 σ te) (k : GPs I H0 σ ta n) : GPs I H0 σ (tCons te ta) (n + 1) := fun H Q x q =>
  h H _ x fun v H1 x1 i => k H1 _ (x.trans x1) fun vs H2 x2 l is => q (v :: vs) H2 (x1.trans x2) (by rw [List.length_cons, l]) fun u hu => by
    rcases List.mem_cons.mp hu with rfl | hu
    · exact g.ext x2 i
    · exact is u hu
theorem GPs.use {Q : VK} (g : Grows I) (k : GPs I H0 σ ta n) (hz : n ≤ sizeLine) (q : ∀ l vs H', Ext H0 H' → H0 l = none → H' l = some (.lst vs) → vs.length = n → (∀ v ∈ vs, I H' v) → Q (.ref l) H') : tLst ta σ H0 Q :=
  k H0 _ (Ext.refl _) fun vs H1 x1 l is => ⟨by rw [l]; exact hz, fun p hp => q p vs _ (x1.trans (Ext.new hp)) (by
    cases e : H0 p with
    | none => rfl
    | some o => rw [x1 _ _ e] at hp; cases hp) upd_same l fun v hv => g.ext (Ext.new hp) (is v hv)⟩
end
end My
set_option Elab.async false
set_option linter.all false
set_option maxRecDepth 100000
set_option maxHeartbeats 1000000
set_option exponentiation.threshold 10000
namespace My
open PySem PySem.W L2
def I0 (C : Nat → Addr) (H : Hp) (v : V) : Prop := ∃ r : R0, Ru C H (.one r) v ∧ r.ok
theorem I0.grows {C : Nat → Addr} : Grows (I0 C) := ⟨fun x ⟨r, ru, ok⟩ => ⟨r, ru.ext x, ok⟩⟩
section
variable {K : Frag} {C : Nat → Addr} {CN CS CT CM : Addr} {H0 : Hp} {σ : St}
theorem gp_S {a b : Int} (ok : (R0.split a b).ok) : GP (I0 C) H0 σ (tMkS C CN a b) := fun H Q _ q => mk_split (Q := Q) (fun R r => r) ok fun y H' x' ru => q _ H' x' ⟨_, ru, ok⟩
theorem gp_P {n a b : Int} (ok : (R0.pairs n a b).ok) : GP (I0 C) H0 σ (tMkP C CN CS n a b) := fun H Q x q =>
  (GD.t2 a b : GD H0 σ (t2i a b) (cD a b)) H _ x fun v H1 x1 rd => mk_pairs (Q := Q) (σ := σ) (t := fun _ _ R => R [.int n, v] H1) (fun R r => r) rd ok fun y H' x' ru => q _ H' (x1.trans x') ⟨_, ru, ok⟩
theorem gp_C {n a b g : Int} (ok : (R0.coins n a b g).ok) : GP (I0 C) H0 σ (tMkC C CN CS n a b g) := fun H Q x q =>
  (GD.t2 a b : GD H0 σ (t2i a b) (cD a b)) H _ x fun v H1 x1 rd => mk_coins (Q := Q) (σ := σ) (t := fun _ _ R => R [.int n, v, .int g] H1) (fun R r => r) rd ok fun y H' x' ru => q _ H' (x1.trans x') ⟨_, ru, ok⟩
theorem gp_some : GPs (I0 C) H0 σ (tRs0A C CN CS) 6 :=
  .cons I0.grows (gp_S ⟨by decide, by decide, by decide, by decide⟩) (.cons I0.grows (gp_P ⟨by decide, by decide, by decide +kernel⟩) (.cons I0.grows (gp_C ⟨by decide, by decide, by decide +kernel, by decide, by decide⟩) (.cons I0.grows (gp_S ⟨by decide, by decide, by decide, by decide⟩) (.cons I0.grows (gp_C ⟨by decide, by decide, by decide +kernel, by decide, by decide⟩) (.cons I0.grows (gp_S ⟨by decide, by decide, by decide, by decide⟩) .nil)))))
theorem lc_pick {H1 : Hp} {D p l : Addr} {ns : List Int} {vs : List V} {n : Nat} {Q : Hp → Prop} (nx : Nx H1 p ns 10) (hl : H1 l = some (.lst vs)) (lv : vs.length = 6) (n8 : n ≤ 8) (hD : H1 D = none) (hd : ∀ zs H, Ext H1 H → H D = some (.lst zs) → zs.length = n → (∀ z ∈ zs, z ∈ vs) → Q H) :
    ∃ W : Nat → Nat → List V → Hp → Prop, (∃ m, W 0 m [] (upd H1 D (.lst []))) ∧
      ∀ i m' ys H2, W i m' ys H2 → H2 D = some (.lst ys) ∧ (((Itr 0 n).stop i H2 ∧ Q H2) ∨ ((Itr 0 n).go i H2 ∧ ys.length < sizeLine ∧
        ∀ x H3, (Itr 0 n).yld i H2 x H3 → ∀ os : St, os.length = 1 → gName 0 x (os ++ [some (.ref l), some (.ref p)]) H3 fun σ2 H0 => (∃ os' : St, os'.length = 1 ∧ σ2 = os' ++ [some (.ref l), some (.ref p)]) ∧ tPick K σ2 H0 fun y H4 => H4 D = some (.lst ys) ∧ ∃ m'', m'' < m' ∧ W (i + 1) m'' (ys ++ [y]) (upd H4 D (.lst (ys ++ [y]))))) := by
  refine lcG_range (lo := 0) (n := n) (fun i zs H' => Ext H1 H' ∧ zs.length = i ∧ ∀ z ∈ zs, z ∈ vs) (by rw [sizeLine_eq]; omega) ⟨Ext.new hD, rfl, fun r h => nomatch h⟩ ?_ ?_
  · rintro i zs H' hi lz hDD ⟨x', lr, ok⟩ os los R k
    obtain ⟨o0, rfl⟩ : ∃ o0, os = [o0] := by
      match os, los with
      | [o0], _ => exact ⟨o0, rfl⟩
    have nx' := nx.ext x'
    obtain ⟨x, ex, x0⟩ := nx'.get (i := i) (by omega)
    have m0 : 0 ≤ x % 6 := Int.emod_nonneg _ (by decide)
    have m1 : x % 6 < 6 := Int.emod_lt_of_pos _ (by decide)
    obtain ⟨j, ej⟩ : ∃ j : Nat, x % 6 = (j : Int) := ⟨(x % 6).toNat, by omega⟩
    have lj : j < vs.length := by omega
    have at1 : atI vs (x % 6) = some vs[j] := by
      rw [ej]
      exact atI_nat (List.getElem?_eq_getElem lj)
    have at0 : atI (ns.map V.int) (0 + (i : Int)) = some (.int x) := by
      rw [Int.zero_add]
      exact atI_nat (by rw [List.getElem?_map, ex]; rfl)
    refine ⟨⟨[some (.int (0 + i))], rfl, rfl⟩, ⟨_, rfl, _, rfl, _, rfl, p, _, _, _, rfl, rfl, SqL.of nx'.at_, at0, x, 6, rfl, rfl, (by show (0 : Int) < 6; decide), l, vs, x % 6, vs[j], rfl, rfl, SqL.of (x' _ _ hl), at1, ?_⟩⟩
    refine k _ H' hDD ⟨ext_upd _ x' hD, by rw [List.length_append, lr]; rfl, fun z hz => ?_⟩
    rcases List.mem_append.mp hz with h | h
    · exact ok z h
    · rw [List.mem_singleton.mp h]
      exact List.getElem_mem lj
  · rintro zs H' lz hDD ⟨x', lr, ok⟩
    exact hd zs H' x' hDD lr ok
end
end My
set_option Elab.async false
set_option linter.all false
set_option maxRecDepth 100000
set_option maxHeartbeats 1000000
set_option exponentiation.threshold 10000
namespace My
open PySem PySem.W L2
def KB (K : Frag) (C : Nat → Addr) : Prop := ∀ i, i < 5 → ∀ d : PyData, kitOne K (.type (kindD d)) (.ref (C i)) = some false
def Slf (H : Hp) (v : V) : Prop := (∃ a, v = .ref a) ∨ ∃ d, Rds H v d ∧ plainD d = true ∧ d.depth ≤ 20 ∧ noLst d = true
theorem Slf.ext {H H' : Hp} {v : V} (h : Slf H v) (x : Ext H H') : Slf H' v := by
  rcases h with h | ⟨d, r, p⟩
  · exact .inl h
  · exact .inr ⟨d, r.mono x, p⟩
theorem Slf.eq {H : Hp} {v : V} (h : Slf H v) : EqE H 20 v v true := by
  rcases h with ⟨a, rfl⟩ | ⟨d, r, p, q, _⟩
  · exact .inl ⟨a, rfl, rfl, rfl⟩
  · exact .inr ⟨d, d, r, r, p, p, q, (eqD_refl p).symm⟩
def Item (K : Frag) (C : Nat → Addr) (H : Hp) (v : V) : Prop := I0 C H v ∨ (BlkK K C H v false ∧ Slf H v)
theorem Item.grows {K : Frag} {C : Nat → Addr} : Grows (Item K C) := ⟨fun x h => by
  rcases h with h | ⟨b, s⟩
  · exact .inl (I0.grows.ext x h)
  · exact .inr ⟨b.ext x, s.ext x⟩⟩
section
variable {K : Frag} {C : Nat → Addr} {CR CN CS CT CM : Addr} {H H0 : Hp} {σ : St} {v : V} {d : PyData}
theorem blk_kind (nb : KB K C) (e : PyData) (ty : TyOf K H v (.type (kindD e))) : BlkK K C H v false := ⟨_, ty, kitAny3 (nb 0 (by decide) e) (nb 1 (by decide) e) (nb 2 (by decide) e)⟩
theorem item_data (nb : KB K C) (r : Rds H v d) (p : plainD d = true) (q : d.depth ≤ 20) (n : noLst d = true) : Item K C H v := .inr ⟨blk_kind nb d r.ty, .inr ⟨d, r, p, q, n⟩⟩
theorem item_rule (Z : KR K C CR) {a : Addr} {t : Rl} (ru : Ru C H t (.ref a)) (k : 3 ≤ t.kind) : Item K C H (.ref a) := by
  have b := blk_rule Z ru
  have e : (t.kind == 0 || (t.kind == 1 || t.kind == 2)) = false := by
    have h0 : (t.kind == 0) = false := by simp; omega
    have h1 : (t.kind == 1) = false := by simp; omega
    have h2 : (t.kind == 2) = false := by simp; omega
    rw [h0, h1, h2]
    rfl
  rw [e] at b
  exact .inr ⟨b, .inl ⟨a, rfl⟩⟩
theorem item_list (nb : KB K C) {a : Addr} {xs : List V} (h : H a = some (.lst xs)) : Item K C H (.ref a) := .inr ⟨blk_kind nb (.list []) (.lst h), .inl ⟨a, rfl⟩⟩
theorem ty_updL {D : Addr} {ys zs : List V} {t : Value} (ty : TyOf K H v t) (hD : H D = some (.lst ys)) : TyOf K (upd H D (.lst zs)) v t := by
  have ne : ∀ {a : Addr} {o : HO}, H a = some o → (∀ xs, o ≠ .lst xs) → upd H D (.lst zs) a = some o := fun {a o} h n => by
    rw [upd_ne (fun e => by rw [e, hD] at h; cases h; exact n _ rfl)]
    exact h
  cases ty with
  | non => exact .non
  | bl b => exact .bl b
  | int i => exact .int i
  | str x => exact .str x
  | flt x => exact .flt x
  | @lst a xs e =>
    by_cases z : a = D
    · subst z
      exact .lst upd_same
    · exact .lst (by rw [upd_ne z]; exact e)
  | frz e => exact .frz (ne e (fun _ z => by cases z))
  | tup e => exact .tup (ne e (fun _ z => by cases z))
  | dK e => exact .dK (ne e (fun _ z => by cases z))
  | dT e => exact .dT (ne e (fun _ z => by cases z))
  | ins e c h1 h2 h3 h4 => exact .ins (ne e (fun _ z => by cases z)) c h1 h2 h3 h4
theorem Item.updL {D : Addr} {ys zs : List V} (h : Item K C H v) (hD : H D = some (.lst ys)) : Item K C (upd H D (.lst zs)) v := by
  have kp := kpT_upd (.lst zs) hD
  rcases h with ⟨r, ru, ok⟩ | ⟨⟨t, ty, k⟩, s⟩
  · exact .inl ⟨r, ru.keepT kp, ok⟩
  · refine .inr ⟨⟨t, ty_updL ty hD, k⟩, ?_⟩
    rcases s with s | ⟨d, rd, p, q, n⟩
    · exact .inl s
    · exact .inr ⟨d, rd.keepT kp n, p, q, n⟩
theorem mk1L {te : TE} {c : Addr} {sp : Sp} {Q : VK} (h : te σ H fun v H1 => [v].length ≤ sizeLine ∧ ∀ l, H1 l = none → tMake c sp [] E0 (fun _ _ R => R [.ref l] (upd H1 l (.lst [v]))) σ (upd H1 l (.lst [v])) Q) : tMake c sp [] E0 (tCons (tLst (tCons te tNil)) tNil) σ H Q := h
theorem mk2F {te : TE} {c : Addr} {sp : Sp} {m : Int} {Q : VK} (h : te σ H fun v H1 => tMake c sp [] E0 (fun _ _ R => R [v, .int m] H1) σ H1 Q) : tMake c sp [] E0 (tCons te (tCons (tC (.int m)) tNil)) σ H Q := h
theorem lst1 {te : TE} {Q : VK} (h : te σ H fun v H1 => [v].length ≤ sizeLine ∧ ∀ p, H1 p = none → Q (.ref p) (upd H1 p (.lst [v]))) : tLst (tCons te tNil) σ H Q := h
theorem gp_B (Z : KR K C CR) {a b : Int} (ok : (R0.split a b).ok) : GP (Item K C) H0 σ (tMkB1 K C CN CT CM a b) := fun H Q x q =>
  mk1L (te := tMkS C CN a b) ((gp_S ok : GP (I0 C) H0 σ (tMkS C CN a b)) H _ x fun v H1 x1 ⟨r, ru, ko⟩ => ⟨by show 1 ≤ sizeLine; decide, fun l hl => by
    have x2 := Ext.new (o := .lst [v]) hl
    have f := R0.folk_ok ko
    have al : All0 C (upd H1 l (.lst [v])) [r] [v] := ⟨rfl, fun i r' w hr' hw => by
      match i, hr', hw with
      | 0, hr', hw => cases hr'; cases hw; exact ru.ext x2⟩
    have okB : (Rl.blocks [r]).ok := ⟨Nat.le_refl 1, (by show 1 ≤ 6; decide), (fun r' hr' => by rw [List.mem_singleton.mp hr']; exact ko), (by simp only [List.map_cons, List.map_nil, List.sum_cons, List.sum_nil]; omega)⟩
    exact mk_blocks (K := K) (CT := CT) (CM := CM) (Q := Q) (σ := σ) (t := fun _ _ R => R [.ref l] (upd H1 l (.lst [v]))) (fun R r => r) upd_same al okB fun y H' x' rb => q _ H' ((x1.trans x2).trans x') (item_rule Z rb (Nat.le_refl 3))⟩)
theorem gp_F (Z : KR K C CR) {a b : Int} (ok : (R0.split a b).ok) : GP (Item K C) H0 σ (tMkF1 C CN a b 1) := fun H Q x q =>
  mk2F (te := tMkS C CN a b) ((gp_S ok : GP (I0 C) H0 σ (tMkS C CN a b)) H _ x fun v H1 x1 ⟨r, ru, ko⟩ => by
    have f := R0.folk_ok ko
    have okF : (Rl.first (.one r) 1).ok := ⟨ko, by decide, f.1⟩
    exact mk_first (CN := CN) (Q := Q) (σ := σ) (t := fun _ _ R => R [v, .int 1] H1) (fun R r => r) ru okF fun y H' x' rf => q _ H' (x1.trans x') (item_rule Z rf (by show 3 ≤ 4; decide)))
theorem gp_L (nb : KB K C) {a b : Int} (ok : (R0.split a b).ok) : GP (Item K C) H0 σ (tLst (tCons (tMkS C CN a b) tNil)) := fun H Q x q =>
  lst1 (te := tMkS C CN a b) ((gp_S ok : GP (I0 C) H0 σ (tMkS C CN a b)) H _ x fun v H1 x1 _ => ⟨by show 1 ≤ sizeLine; decide, fun l hl => q _ _ (x1.trans (Ext.new hl)) (item_list nb upd_same)⟩)
theorem gp_bad (Z : KR K C CR) (nb : KB K C) : GPs (Item K C) H0 σ (tRs2A K C CN CT CM) 7 := by
  have o : (R0.split 2 1).ok := ⟨by decide, by decide, by decide, by decide⟩
  exact .cons Item.grows (.of .non fun H v r => item_data nb r rfl (by decide +kernel) rfl) (.cons Item.grows (.of (.str _) fun H v r => item_data nb r rfl (by decide +kernel) rfl) (.cons Item.grows (gp_B Z o) (.cons Item.grows (gp_F Z o)
    (.cons Item.grows (.of (.tup (.cons (.str _) (.cons (.int 2) (.cons (.int 1) .nil))) (by show 3 ≤ sizeLine; decide)) fun H v r => item_data nb r (by simp [plainD, plainDs]) (by simp [PyData.depth, PyData.depthAll]) (by simp [noLst, noLsts]))
    (.cons Item.grows (gp_L nb o) (.cons Item.grows (.of (.int 7) fun H v r => item_data nb r rfl (by decide +kernel) rfl) .nil))))))
end
end My
set_option Elab.async false
set_option linter.all false
set_option maxRecDepth 100000
set_option maxHeartbeats 1000000
set_option exponentiation.threshold 10000
namespace My
open PySem PySem.W L2
def RsTh (K : Frag) (C : Nat → Addr) (H : Hp) (v : V) : Prop :=
  (∃ a ws, v = .ref a ∧ H a = some (.lst ws) ∧ ws.length ≤ 9 ∧ ∀ w ∈ ws, Item K C H w) ∨ (∃ a ws, v = .ref a ∧ H a = some (.tup ws) ∧ ws.length ≤ 9 ∧ ∀ w ∈ ws, Item K C H w) ∨
  I0 C H v ∨ (∃ a, v = .ref a ∧ H a = some (.dK [])) ∨ ∃ d, Rds H v d ∧ plainD d = true ∧ d.depth ≤ 0 ∧ lisB d = false
theorem RsTh.grows {K : Frag} {C : Nat → Addr} : Grows (RsTh K C) := ⟨fun x h => by
  rcases h with ⟨a, ws, e, h, l, i⟩ | ⟨a, ws, e, h, l, i⟩ | h | ⟨a, e, h⟩ | ⟨d, r, p⟩
  · exact .inl ⟨a, ws, e, x _ _ h, l, fun w hw => Item.grows.ext x (i w hw)⟩
  · exact .inr (.inl ⟨a, ws, e, x _ _ h, l, fun w hw => Item.grows.ext x (i w hw)⟩)
  · exact .inr (.inr (.inl (I0.grows.ext x h)))
  · exact .inr (.inr (.inr (.inl ⟨a, e, x _ _ h⟩)))
  · exact .inr (.inr (.inr (.inr ⟨d, r.mono x, p⟩)))⟩
theorem rd_retQ {H : Hp} {De : Ends} {σ : St} {te : TE} (h : te σ H De.rt) : tRet te De σ H := h
section
variable {K : Frag} {C : Nat → Addr} {CR CN CS CT CM : Addr} {H H0 : Hp} {De : Ends}
theorem gp_ends {σ : St} {D : Addr} {ws : List V} (s2 : σ[2]? = some (some (.ref D))) (hD : H0 D = some (.lst ws)) (l9 : ws.length ≤ 9) (it : ∀ w ∈ ws, Item K C H0 w) : GPs (RsTh K C) H0 σ (tRs4A K C CN) 6 := by
  have o : (R0.split 2 1).ok := ⟨by decide, by decide, by decide, by decide⟩
  have t1 : GP (RsTh K C) H0 σ (tCB (rTpR K) (tCons (tVar 2) tNil)) := fun H Q x q => ⟨_, s2, D, ws, rfl, .inl ⟨SqL.of (x _ _ hD), fun l hl => q (.ref l) _ (Ext.new hl) (.inr (.inl ⟨l, ws, rfl, upd_same, l9, fun w hw => Item.grows.ext (x.trans (Ext.new hl)) (it w hw)⟩))⟩⟩
  exact .cons RsTh.grows t1 (.cons RsTh.grows (.of .non fun H v r => .inr (.inr (.inr (.inr ⟨_, r, rfl, by decide +kernel, rfl⟩)))) (.cons RsTh.grows ((gp_S o).weaken fun H v i => .inr (.inr (.inl i)))
    (.cons RsTh.grows (.of .dic fun H v r => by cases r with | dic0 e => exact .inr (.inr (.inr (.inl ⟨_, rfl, e⟩)))) (.cons RsTh.grows (.of (.str _) fun H v r => .inr (.inr (.inr (.inr ⟨_, r, rfl, by decide +kernel, rfl⟩)))) (.cons RsTh.grows (.of (.int 0) fun H v r => .inr (.inr (.inr (.inr ⟨_, r, rfl, by decide +kernel, rfl⟩)))) .nil)))))
theorem rd_rsE {p D : Addr} {ns : List Int} {ws : List V} {o1 o3 : Option V} (nx : Nx H p ns 10) (hD : H D = some (.lst ws)) (l9 : ws.length ≤ 9) (it : ∀ w ∈ ws, Item K C H w) (q : ∀ v H', Ext H H' → RsTh K C H' v → De.rt v H') : tSeq (tRs4 K C CN) tRs5 De [some (.ref p), o1, some (.ref D), o3] H := by
  obtain ⟨x9, e9, n9⟩ := nx.get (i := 9) (by decide)
  obtain ⟨x8, e8, n8⟩ := nx.get (i := 8) (by decide)
  refine rd_xs 9 rfl nx.at_ e9 ⟨rfl, _, rfl, ?_⟩
  refine ite2 (fun c => ?_) (fun c => ⟨_, rfl, q _ H (Ext.refl _) (.inl ⟨D, ws, rfl, hD, l9, it⟩)⟩)
  refine rd_retQ (rd_op ((gp_ends (CN := CN) (σ := [some (.ref p), o1, some (.ref D), o3]) rfl hD l9 it).use RsTh.grows (by show 6 ≤ sizeLine; decide) fun l vs H1 x1 _ hl lv is => ?_))
  have m0 : 0 ≤ x8 % 6 := Int.emod_nonneg _ (by decide)
  have m1 : x8 % 6 < 6 := Int.emod_lt_of_pos _ (by decide)
  obtain ⟨j, ej⟩ : ∃ j : Nat, x8 % 6 = (j : Int) := ⟨(x8 % 6).toNat, by omega⟩
  have lj : j < vs.length := by omega
  have at1 : atI vs (x8 % 6) = some vs[j] := by
    rw [ej]
    exact atI_nat (List.getElem?_eq_getElem lj)
  exact (GD.xsM (K := K) (k := 8) (H0 := H1) rfl (x1 _ _ nx.at_) e8 (by decide) : GD H1 [some (.ref p), o1, some (.ref D), o3] (tXsM K 0 8 6) (.int (x8 % 6))) H1 _ (Ext.refl _) fun v H2 x2 rv => by
    cases rv
    exact ⟨l, vs, x8 % 6, vs[j], rfl, rfl, SqL.of (x2 _ _ hl), at1, q _ H2 (x1.trans x2) (RsTh.grows.ext x2 (is _ (List.getElem_mem lj)))⟩
theorem rd_rs3 {p D b : Addr} {ns : List Int} {ws bs : List V} {o1 : Option V} (nx : Nx H p ns 10) (H0D : H0 D = none) (x0 : Ext H0 H) (hD : H D = some (.lst ws)) (l8 : ws.length ≤ 8) (it : ∀ w ∈ ws, Item K C H w) (hb : H b = some (.lst bs)) (lb : bs.length = 7) (ib : ∀ w ∈ bs, Item K C H w) (np : p ≠ D) (q : ∀ v H', Ext H0 H' → RsTh K C H' v → De.rt v H') :
    tSeq (tRs3 K) (tSeq (tRs4 K C CN) tRs5) De [some (.ref p), o1, some (.ref D), some (.ref b)] H := by
  obtain ⟨x7, e7, n7⟩ := nx.get (i := 7) (by decide)
  obtain ⟨x8, e8, n8⟩ := nx.get (i := 8) (by decide)
  refine rd_xs 7 rfl nx.at_ e7 ⟨_, _, rfl, rfl, _, rfl, ?_⟩
  refine ite2 (fun c => ?_) (fun c => rd_rsE nx hD (by omega) it fun v H' x' => q v H' (x0.trans x'))
  have c7 : x7 < 7 := of_decide_eq_true c
  obtain ⟨j, ej⟩ : ∃ j : Nat, x7 = (j : Int) := ⟨x7.toNat, by omega⟩
  have lj : j < bs.length := by omega
  have at1 : atI bs x7 = some bs[j] := by
    rw [ej]
    exact atI_nat (List.getElem?_eq_getElem lj)
  have k0 : 0 ≤ x8 % ((ws.length : Int) + 1) := Int.emod_nonneg _ (by omega)
  have k1 : x8 % ((ws.length : Int) + 1) < (ws.length : Int) + 1 := Int.emod_lt_of_pos _ (by omega)
  obtain ⟨k, ek⟩ : ∃ k : Nat, x8 % ((ws.length : Int) + 1) = (k : Int) := ⟨(x8 % ((ws.length : Int) + 1)).toNat, by omega⟩
  refine ⟨_, rfl, .inl ⟨rfl, _, SqL.of hD⟩, rd_op (rd_xs 8 rfl nx.at_ e8 (rd_op ⟨_, rfl, D, ws, rfl, .inl (SqL.of hD), _, _, rfl, rfl, _, _, rfl, rfl, (by show (0 : Int) < (ws.length : Int) + 1; omega), ⟨_, rfl, rd_xs 7 rfl nx.at_ e7 ⟨b, bs, x7, bs[j], rfl, rfl, SqL.of hb, at1, ?_⟩⟩⟩))⟩
  refine ⟨D, ws, k, bs[j], rfl, by show [V.int (x8 % ((ws.length : Int) + 1)), bs[j]] = _; rw [ek], hD, by omega, by rw [sizeLine_eq]; omega, ?_⟩
  have it' : ∀ w ∈ ws.take k ++ bs[j] :: ws.drop k, Item K C (upd H D (.lst (ws.take k ++ bs[j] :: ws.drop k))) w := fun w hw => by
    refine Item.updL ?_ hD
    rcases List.mem_append.mp hw with h | h
    · exact it w (List.mem_of_mem_take h)
    · rcases List.mem_cons.mp h with rfl | h
      · exact ib _ (List.getElem_mem lj)
      · exact it w (List.mem_of_mem_drop h)
  have nx' : Nx (upd H D (.lst (ws.take k ++ bs[j] :: ws.drop k))) p ns 10 := ⟨by rw [upd_ne np]; exact nx.at_, nx.len, nx.nn⟩
  have x' : Ext H0 (upd H D (.lst (ws.take k ++ bs[j] :: ws.drop k))) := ext_upd _ x0 H0D
  exact rd_rsE (CN := CN) nx' upd_same (by rw [List.length_append, List.length_take, List.length_cons, List.length_drop]; omega) it' fun v H' x'' => q v H' (x'.trans x'')
theorem rd_rs (Z : KR K C CR) (nb : KB K C) {p : Addr} {ns : List Int} (nx : Nx H p ns 10) (n6 : ∀ n, ns[6]? = some n → n ≤ 8) (q : ∀ v H', Ext H H' → RsTh K C H' v → De.rt v H') : Bx (tRs K C CN CS CT CM De [some (.ref p), none, none, none] H) := by
  refine ⟨?_⟩
  refine rd_set (te := tLst (tRs0A C CN CS)) (i := 1) (D := De) ((gp_some (CN := CN) (CS := CS)).use I0.grows (by show 6 ≤ sizeLine; decide) fun l vs H1 x1 _ hl lv is => ?_)
  show tSeq (tRs1 K) _ De [some (.ref p), some (.ref l), none, none] H1
  have nx1 := nx.ext x1
  obtain ⟨x6, e6, n60⟩ := nx.get (i := 6) (by decide)
  have n68 := n6 x6 e6
  obtain ⟨n, rfl⟩ : ∃ n : Nat, x6 = (n : Int) := ⟨x6.toNat, by omega⟩
  refine rd_set (te := tLCG (iRng1 (tCons (tXs K 0 6) tNil)) 1 [1, 0] (gName 0) (tPick K)) (i := 2) (D := De) ?_
  refine rd_xs 6 rfl nx1.at_ e6 ⟨(n : Int), rfl, by omega, by omega, fun D hD => ?_⟩
  rw [Int.toNat_natCast]
  refine lc_pick (K := K) nx1 hl lv (by omega) hD fun zs H2 x2 h2 lz mem => ?_
  show tSeq (tRs2 K C CN CT CM) _ De [some (.ref p), some (.ref l), some (.ref D), none] H2
  have x02 := x1.trans x2
  refine rd_set (te := tLst (tRs2A K C CN CT CM)) (i := 3) (D := De) ((gp_bad (CN := CN) (CT := CT) (CM := CM) Z nb).use Item.grows (by show 7 ≤ sizeLine; decide) fun b bs H3 x3 _ hb lb ib => ?_)
  have np : p ≠ D := fun e => by
    have := nx1.at_
    rw [e, hD] at this
    cases this
  have h0D : H D = none := by
    cases e : H D with
    | none => rfl
    | some o => rw [x1 _ _ e] at hD; cases hD
  exact rd_rs3 (CN := CN) (nx.ext (x02.trans x3)) h0D (x02.trans x3) (x3 _ _ h2) (by omega) (fun w hw => .inl (I0.grows.ext (x2.trans x3) (is w (mem w hw)))) hb lb ib np q
end
section
variable {P : Program} {w : World} {K : Frag} {mg : Str → Option Value} {base : Heap} {C : Nat → Addr} {CR CN CS CT CM f0 f1 f2 f3 f4 : Addr} {e0 e1 e2 e3 e4 : FuncData}
def spRs (K : Frag) (C : Nat → Addr) : Sp := fun vs H Q _ => ∃ (p : Addr) (ns : List Int), vs = [.ref p] ∧ Nx H p ns 10 ∧ (∀ n, ns[6]? = some n → n ≤ 8) ∧ ∀ v H', Ext H H' → RsTh K C H' v → Q v H'
theorem ok_rs {f : Addr} {fd : FuncData} (Z : KR K C CR) (nb : KB K C) (F : Fun K "_law_rules" "_law_rules" sRs f fd) (L : Mks P w K mg base C CN CS CT CM f0 f1 f2 f3 f4 e0 e1 e2 e3 e4) (mr : mg "range" = none) (ml : mg "len" = none) (mt : mg "tuple" = none) : FnOk P w K mg base CX0 8 f fd ["_law_xs"] (spRs K C) := by
  refine F.ok scRs (fun vs H Q E h => ?_) (fun cdv A outer s H vs Q E hr h => ?_)
  · obtain ⟨_, _, rfl, _⟩ := h
    rfl
  obtain ⟨p, ns, rfl, nx, n6, q⟩ := h
  exact okBxL (rs_der L hr mr ml mt) (rd_rs Z nb nx n6 q)
end
end My
set_option Elab.async false
set_option linter.all false
set_option maxRecDepth 100000
set_option maxHeartbeats 1000000
set_option exponentiation.threshold 10000
namespace My
open PySem PySem.W L2
inductive BD where
  | trials
  | many (n : Int)
  | good (rs : List R0)
def BDx (K : Frag) (C : Nat → Addr) (H : Hp) (v : V) : BD → Prop
  | .trials => NoK K H v "list" ∨ ∃ a xs bs, v = .ref a ∧ H a = some (.lst xs) ∧ xs.length ≤ 9 ∧ BlkAll K C H xs bs ∧ abB xs.length bs = false
  | .many n => ∃ a xs rs, v = .ref a ∧ H a = some (.lst xs) ∧ All0 C H rs xs ∧ 1 ≤ rs.length ∧ rs.length ≤ 6 ∧ (∀ r ∈ rs, r.ok) ∧ 20 < (rs.map R0.folk).sum ∧ n = (rs.map R0.folk).sum
  | .good rs => ∃ a xs, v = .ref a ∧ H a = some (.lst xs) ∧ All0 C H rs xs ∧ 1 ≤ rs.length ∧ rs.length ≤ 6 ∧ (∀ r ∈ rs, r.ok) ∧ (rs.map R0.folk).sum ≤ 20
section
variable {K : Frag} {C : Nat → Addr} {CR : Addr} {H : Hp}
theorem items_of (Z : KR K C CR) : ∀ {ws : List V}, (∀ w ∈ ws, Item K C H w) → ∃ bs, BlkAll K C H ws bs ∧ (bs.all id = true → ∃ rs, All0 C H rs ws ∧ ∀ r ∈ rs, r.ok)
  | [], _ => ⟨[], ⟨rfl, fun i x b h => by simp at h⟩, fun _ => ⟨[], ⟨rfl, fun i r w h => by simp at h⟩, fun r h => nomatch h⟩⟩
  | w :: ws, h => by
    obtain ⟨bs, bk, al⟩ := items_of Z fun u hu => h u (List.mem_cons_of_mem _ hu)
    have cons : ∀ b, BlkK K C H w b → BlkAll K C H (w :: ws) (b :: bs) := fun b hb => ⟨by rw [List.length_cons, List.length_cons, bk.1], fun i x c hx hc => by
      cases i with
      | zero => cases hx; cases hc; exact hb
      | succ i => exact bk.2 i x c hx hc⟩
    rcases h w (List.mem_cons_self ..) with ⟨r, ru, ok⟩ | ⟨b, _⟩
    · have k := blk_rule (t := .one r) Z ru
      have e : ((Rl.one r).kind == 0 || ((Rl.one r).kind == 1 || (Rl.one r).kind == 2)) = true := by
        show (r.kind == 0 || (r.kind == 1 || r.kind == 2)) = true
        cases r <;> rfl
      rw [e] at k
      refine ⟨true :: bs, cons true k, fun a => ?_⟩
      obtain ⟨rs, al', oks⟩ := al (by simpa using a)
      refine ⟨r :: rs, ⟨by rw [List.length_cons, List.length_cons, al'.1], fun i r' w' hr hw => ?_⟩, fun r' hr => ?_⟩
      · cases i with
        | zero => cases hr; cases hw; exact ru
        | succ i => exact al'.2 i r' w' hr hw
      · rcases List.mem_cons.mp hr with rfl | hr
        · exact ok
        · exact oks r' hr
    · exact ⟨false :: bs, cons false b, fun a => by simp at a⟩
theorem bd_of (Z : KR K C CR) {v : V} (h : RsTh K C H v) : ∃ b, BDx K C H v b := by
  rcases h with ⟨a, ws, e, h, l, i⟩ | ⟨a, ws, rfl, h, l, i⟩ | ⟨r, ru, ok⟩ | ⟨a, rfl, h⟩ | ⟨d, r, p, _, nl⟩
  · obtain ⟨bs, bk, al⟩ := items_of Z i
    cases ab : abB ws.length bs with
    | false => exact ⟨.trials, .inr ⟨a, ws, bs, e, h, l, bk, ab⟩⟩
    | true =>
      unfold abB at ab
      rw [Bool.and_eq_true, Bool.and_eq_true] at ab
      obtain ⟨rs, al', oks⟩ := al ab.2
      have l1 := of_decide_eq_true ab.1.1
      have l6 := of_decide_eq_true ab.1.2
      have lx := al'.1
      rcases Int.lt_or_le 20 (rs.map R0.folk).sum with g | g
      · exact ⟨.many _, a, ws, rs, e, h, al', by omega, by omega, oks, g, rfl⟩
      · exact ⟨.good rs, a, ws, e, h, al', by omega, by omega, oks, g⟩
  · exact ⟨.trials, .inl ⟨_, .inl (.tup h), rfl⟩⟩
  · have := ru.kd Z
    exact ⟨.trials, .inl ⟨_, this, Z.kl _ (Rl.kind_lt _)⟩⟩
  · exact ⟨.trials, .inl ⟨_, .inl (.dK h), rfl⟩⟩
  · refine ⟨.trials, .inl ⟨_, r.kd, ?_⟩⟩
    rw [r.isL, nl]
end
end My
set_option Elab.async false
set_option linter.all false
set_option maxRecDepth 100000
set_option maxHeartbeats 1000000
set_option exponentiation.threshold 10000
namespace My
open PySem PySem.W L2
theorem ty_det {K : Frag} {H : Hp} {v : V} {t t' : Value} (h : TyOf K H v t) (h' : TyOf K H v t') : t = t' := by
  cases h <;> cases h' <;> first | rfl | simp_all
theorem blk_det {K : Frag} {C : Nat → Addr} {H : Hp} {v : V} {b b' : Bool} (h : BlkK K C H v b) (h' : BlkK K C H v b') : b = b' := by
  obtain ⟨t, ty, k⟩ := h
  obtain ⟨t', ty', k'⟩ := h'
  cases ty_det ty ty'
  rw [k] at k'
  exact Option.some.inj k'
section
variable {P : Program} {w : World} {K : Frag} {mg : Str → Option Value} {base : Heap} {C : Nat → Addr} {CR : Addr}
abbrev sRd : Stmt := top 46
abbrev NRd : List Str := ["_law_rules_here", "_law_many"]
theorem scRd : FnScope NRd ["_law_rules_here"] (defScope sRd) := ⟨rfl, rfl, rfl, by decide +kernel, rfl, by decide +kernel, by decide +kernel⟩
abbrev scRd1 : Scope := { kind := .function, names := [(".0", .local), ("_law_rule", .local), ("isinstance", .globalImplicit), ("Split", .globalImplicit), ("Pairs", .globalImplicit), ("Coins", .globalImplicit)], isGenerator := false, isCoroutine := false }
abbrev scRd2 : Scope := { kind := .function, names := [(".0", .local), ("_law_rule", .local)], isGenerator := false, isCoroutine := false }
theorem compRd1 {X : Cx} : CompG X scRd1 [] ["_law_rule"] [] [] := by
  refine ⟨rfl, rfl, by decide +kernel, by decide +kernel, by decide +kernel, (fun z c h => nomatch h), (fun z h => ?_), by decide +kernel, (fun k z h => by simp at h), rfl⟩
  exfalso
  have h' : List.lookup z [((".0" : Str), NameKind.local), (("_law_rule" : Str), NameKind.local), (("isinstance" : Str), NameKind.globalImplicit), (("Split" : Str), NameKind.globalImplicit), (("Pairs" : Str), NameKind.globalImplicit), (("Coins" : Str), NameKind.globalImplicit)] = some .cell ∨ List.lookup z [((".0" : Str), NameKind.local), (("_law_rule" : Str), NameKind.local), (("isinstance" : Str), NameKind.globalImplicit), (("Split" : Str), NameKind.globalImplicit), (("Pairs" : Str), NameKind.globalImplicit), (("Coins" : Str), NameKind.globalImplicit)] = some .free := h
  simp only [List.lookup_cons, List.lookup_nil] at h'
  repeat' (split at h')
  all_goals simp at h'
theorem compRd2 {X : Cx} : CompG X scRd2 [] ["_law_rule"] [] [] := by
  refine ⟨rfl, rfl, by decide +kernel, by decide +kernel, by decide +kernel, (fun z c h => nomatch h), (fun z h => ?_), by decide +kernel, (fun k z h => by simp at h), rfl⟩
  exfalso
  have h' : List.lookup z [((".0" : Str), NameKind.local), (("_law_rule" : Str), NameKind.local)] = some .cell ∨ List.lookup z [((".0" : Str), NameKind.local), (("_law_rule" : Str), NameKind.local)] = some .free := h
  simp only [List.lookup_cons, List.lookup_nil] at h'
  repeat' (split at h')
  all_goals simp at h'
theorem ndRd : ((["_law_rule"] : List Str) ++ ([] : List Str)).Nodup := by decide +kernel
def spRd (K : Frag) (C : Nat → Addr) : Sp := fun vs H Q _ => ∃ v b, vs = [v] ∧ BDx K C H v b ∧ (b = .trials → ∀ a H', Ext H H' → H' a = some (.tup [.str "trials", v]) → Q (.ref a) H') ∧ (∀ n, b = .many n → ∀ a H', Ext H H' → H' a = some (.tup [.str "many", .int n]) → Q (.ref a) H') ∧ (∀ rs, b = .good rs → ∀ H', Ext H H' → Q .non H')
def tTri : TS := tRet (tTup (tCons (tC (.str "trials")) (tCons (tVar 0) tNil)))
def tNB (K : Frag) (C : Nat → Addr) : TT := tNot (tB (tCB (rIsOn K) (tCons (tVar 0) (tCons (tTup (tCons (tC (.ref (C 0))) (tCons (tC (.ref (C 1))) (tCons (tC (.ref (C 2))) tNil)))) tNil))))
def tLn9 (K : Frag) : TE := tCB (fun xs H Q => ∃ p ys, xs = [.ref p] ∧ (SqL K H p ys ∨ SqT K H p ys) ∧ Q (.int ys.length) H) (tCons (tVar 0) tNil)
def tRd0 (K : Frag) : TS := tIfS (tOr (tNot (tB (tCB (rIsK K) (tCons (tVar 0) (tCons (tC (.ty "list")) tNil))))) (tNot (tTest (tChain (rI0 fun i j => .bl (decide (i ≤ j))) (rI0 fun i j => .bl (decide (i ≤ j))) (tC (.int 1)) (tLn9 K) (tC (.int 6)))))) tTri tNext
def tRd1 (K : Frag) (C : Nat → Addr) : TS := tIfS (tB (tOp (rNeNil K) (tLCGif (iList K (tVar 0)) 1 [] (gName 0) (tNB K C) (tVar 0)) (tLst tNil))) tTri tNext
def tRd2 (K : Frag) (C : Nat → Addr) : TS := tAsg (tCB (rSumL K) (tCons (tLCG (iList K (tVar 0)) 1 [] (gName 0) (tFk C)) tNil)) (gName 1)
def tRd3 : TS := tIfS (tB (tOp (rI0 fun i j => .bl (decide (i > j))) (tVar 1) (tC (.int 20)))) (tRet (tTup (tCons (tC (.str "many")) (tCons (tVar 1) tNil)))) tNext
def tRd (K : Frag) (C : Nat → Addr) : TS := tSeq (tRd0 K) (tSeq (tRd1 K C) (tSeq (tRd2 K C) (tSeq tRd3 (tRet (tC .non)))))
variable {f : Addr} {cdv : Value} {A : Around} {outer : List Env} {s : Shared} {H : Hp} {E : XK}
theorem rd_der (N : IsT K) (M : Ms P w K mg base C) (m0 : mg "Split" = some (.ref (C 0))) (m1 : mg "Pairs" = some (.ref (C 1))) (m2 : mg "Coins" = some (.ref (C 2))) (mi : mg "isinstance" = none) (ml : mg "list" = none) (mn : mg "len" = none) (ms : mg "sum" = none)
    (hr : Room 1 (A.deeper (PyProof.Rows.envOfC "_law_rules_due" (defScope sRd) s.heap.objs.size f cdv))) : Bx (PSs (cxOf CX0 P w K mg base NRd "_law_rules_due" (defScope sRd) f cdv A outer s H E).nox (defBody sRd) (tRd K C)) := by
  have nd := scRd.nd
  have hu : _ < cLine := Nat.lt_of_le_of_lt (Nat.le_add_right _ 64) hr.units
  exact bxs_cons ⟨ps_if (PW.pt (pw_or (pt_not (pt_val (pe_callB (call_isK N) rfl mi PyProof.Rows.boot_isinstance (pa_cons (pv 0) (pa_cons (pe_ty rfl ml PyProof.Rows.boot_list) pa_nil))))) (pw_or1 (pt_not (pt_chain op_le op_le pe_int (pe_callB call_len_seq rfl mn PySem.boot_len (pa_cons (pv 0) pa_nil)) pe_int))))) (pss_one (ps_ret (pe_tup (pa_cons pe_str (pa_cons (pv 0) pa_nil))))) pss_nil⟩
    (bxs_cons ⟨ps_if (pt_cmpR (op_neNil hu) (pe_lcGI (te := tVar 0) (tt := tNB K C) (g := gName 0) rfl compRd1 (pi_list (pv 0)) (fun s H C fp => by exact pg_name (i := 0) ndRd rfl (.inl rfl)) (fun s H C' fp => by exact pt_not (pt_val (pe_callB call_isOn rfl mi PyProof.Rows.boot_isinstance (pa_cons (pv 0) (pa_cons (pe_tup (pa_cons (pe_glob (v := .ref (C 0)) rfl m0 rfl) (pa_cons (pe_glob (v := .ref (C 1)) rfl m1 rfl) (pa_cons (pe_glob (v := .ref (C 2)) rfl m2 rfl) pa_nil)))) pa_nil))))) (fun s H C fp => by exact pv 0)) (pe_lst pa_nil) (nomark _)) (pss_one (ps_ret (pe_tup (pa_cons pe_str (pa_cons (pv 0) pa_nil))))) pss_nil⟩
    (bxs_cons (bx_set (i := 1) nd rfl (Or.inl rfl) ⟨pe_callB (call_sumL rfl) rfl ms PyProof.Rows.boot_sum (pa_cons (pe_lcG (te := tFk C) (g := gName 0) rfl compRd2 (pi_list (pv 0)) (fun s H C fp => by exact pg_name (i := 0) ndRd rfl (.inl rfl)) (fun s H C fp => by exact pe_methD0 (pv 0) M.folk hr pass0)) pa_nil)⟩)
    (bxs_cons ⟨ps_if (pt_cmpR op_gt (pv 1) pe_int (nomark _)) (pss_one (ps_ret (pe_tup (pa_cons pe_str (pa_cons (pv 1) pa_nil))))) pss_nil⟩ (bxs_one ⟨ps_ret pe_non⟩))))
end
end My
set_option Elab.async false
set_option linter.all false
set_option maxRecDepth 100000
set_option maxHeartbeats 1000000
set_option exponentiation.threshold 10000
namespace My
open PySem PySem.W L2
section
variable {K : Frag} {C : Nat → Addr} {CR : Addr} {H : Hp} {De : Ends}
theorem rd_tri {v : V} {o : Option V} (q : ∀ a H', Ext H H' → H' a = some (.tup [.str "trials", v]) → De.rt (.ref a) H') : tTri De [some v, o] H := ⟨_, rfl, by show 2 ≤ sizeLine; decide, fun a ha => q a _ (Ext.new ha) upd_same⟩
theorem rd_rd0 {a : Addr} {xs : List V} {o : Option V} {u : TS} (ha : H a = some (.lst xs)) (k1 : (decide (1 ≤ xs.length) && decide (xs.length ≤ 6)) = false → tTri De [some (.ref a), o] H) (k2 : (decide (1 ≤ xs.length) && decide (xs.length ≤ 6)) = true → u De [some (.ref a), o] H) : tSeq (tRd0 K) u De [some (.ref a), o] H := by
  refine ⟨_, rfl, _, _, _, _, rfl, .inl (.lst ha), rfl, _, rfl, itF ?_⟩
  refine ⟨_, rfl, a, xs, rfl, .inl (SqL.of ha), _, _, rfl, rfl, _, rfl, ?_⟩
  have e1 : decide ((1 : Int) ≤ (xs.length : Nat)) = decide (1 ≤ xs.length) := decide_eq_decide.mpr (by omega)
  have e2 : decide (((xs.length : Nat) : Int) ≤ 6) = decide (xs.length ≤ 6) := decide_eq_decide.mpr (by omega)
  rw [e1]
  cases h1 : decide (1 ≤ xs.length) with
  | false =>
    rw [h1, Bool.false_and] at k1
    exact itF ⟨_, rfl, itT (k1 rfl)⟩
  | true =>
    rw [h1, Bool.true_and] at k1 k2
    refine itT ⟨_, _, rfl, rfl, _, rfl, ?_⟩
    rw [e2]
    cases h2 : decide (xs.length ≤ 6) with
    | false => exact itT (k1 h2)
    | true => exact itF (k2 h2)
theorem rd_rd1 {a : Addr} {xs : List V} {bs : List Bool} {o : Option V} {u : TS} (ha : H a = some (.lst xs)) (l9 : xs.length ≤ 9) (bk : BlkAll K C H xs bs) (k1 : bs.all id = false → ∀ H', Ext H H' → tTri De [some (.ref a), o] H') (k2 : bs.all id = true → ∀ H', Ext H H' → u De [some (.ref a), o] H') : tSeq (tRd1 K C) u De [some (.ref a), o] H := by
  classical
  let p : V → Bool := fun x => decide (∃ j : Nat, xs[j]? = some x ∧ bs[j]? = some false)
  have hp : ∀ (j : Nat) x b, xs[j]? = some x → bs[j]? = some b → p x = !b := fun j x b hx hb => by
    cases b with
    | false => exact decide_eq_true ⟨j, hx, hb⟩
    | true =>
      refine decide_eq_false fun ⟨i, hi, hf⟩ => ?_
      have := blk_det (bk.2 j x true hx hb) (bk.2 i x false hi hf)
      cases this
  have he : (xs.filter p).isEmpty = bs.all id := by
    rw [Bool.eq_iff_iff]
    constructor
    · intro h
      rw [List.isEmpty_iff, List.filter_eq_nil_iff] at h
      refine List.all_eq_true.mpr fun b hb => ?_
      obtain ⟨j, hj, rfl⟩ := List.getElem_of_mem hb
      have lj : j < xs.length := by have := bk.1; omega
      have z := h xs[j] (List.getElem_mem lj)
      rw [hp j _ _ (List.getElem?_eq_getElem lj) (List.getElem?_eq_getElem hj)] at z
      simpa using z
    · intro h
      rw [List.isEmpty_iff, List.filter_eq_nil_iff]
      intro x hx
      obtain ⟨j, hj, rfl⟩ := List.getElem_of_mem hx
      have lj : j < bs.length := by have := bk.1; omega
      have z := List.all_eq_true.mp h bs[j] (List.getElem_mem lj)
      rw [hp j _ _ (List.getElem?_eq_getElem hj) (List.getElem?_eq_getElem lj)]
      simpa using z
  refine ⟨_, rfl, a, rfl, ⟨_, SqL.of ha⟩, fun D hD => ?_⟩
  refine lcF (xs := xs) (J := Itl K a) p (by rw [sizeLine_eq]; omega) hD (fun j H1 x1 lt => ⟨_, _, SqL.of (x1 _ _ ha), List.getElem?_eq_getElem lt⟩) (fun H1 x1 => ⟨_, SqL.of (x1 _ _ ha), Nat.le_refl _⟩)
    (fun j H1 y H1' x1 ⟨e, hy⟩ => ⟨e, hy _ (SqL.of (x1 _ _ ha))⟩) (fun j y H2 hy x2 R r => ?_) (fun H4 x4 h4 => ?_)
  · have lj : j < bs.length := by have := (List.getElem?_eq_some_iff.mp hy).1; have := bk.1; omega
    have hb := List.getElem?_eq_getElem lj
    refine ⟨_, rfl, by show 3 ≤ sizeLine; decide, fun t ht => ?_⟩
    have x3 := Ext.new (o := .tup [.ref (C 0), .ref (C 1), .ref (C 2)]) ht
    obtain ⟨ty, tyo, ka⟩ := (bk.2 j y _ hy hb).ext (x2.trans x3)
    refine ⟨y, t, [C 0, C 1, C 2], ty, bs[j], rfl, tyo, upd_same, ka, _, rfl, ?_⟩
    have z := r _ x3
    rw [hp j y _ hy hb] at z
    exact z
  refine ⟨by show 0 ≤ sizeLine; decide, fun e hE => ⟨D, e, _, rfl, rfl, SqL.of ((Ext.new hE) _ _ h4), SqL.of upd_same, _, rfl, ?_⟩⟩
  have x5 := x4.trans (Ext.new (o := .lst []) hE)
  rw [he]
  cases hb : bs.all id with
  | false => exact itT (k1 hb _ x5)
  | true => exact itF (k2 hb _ x5)
theorem rd_rd2 {a : Addr} {xs : List V} {rs : List R0} {o : Option V} (ha : H a = some (.lst xs)) (al : All0 C H rs xs) (l6 : rs.length ≤ 6) (qm : 20 < (rs.map R0.folk).sum → ∀ b H', Ext H H' → H' b = some (.tup [.str "many", .int (rs.map R0.folk).sum]) → De.rt (.ref b) H') (qg : (rs.map R0.folk).sum ≤ 20 → ∀ H', Ext H H' → De.rt .non H') : tSeq (tRd2 K C) (tSeq tRd3 (tRet (tC .non))) De [some (.ref a), o] H := by
  have lx := al.1
  refine rd_set (te := tCB (rSumL K) (tCons (tLCG (iList K (tVar 0)) 1 [] (gName 0) (tFk C)) tNil)) (i := 1) ⟨_, rfl, a, rfl, ⟨_, SqL.of ha⟩, fun D hD => ?_⟩
  refine lcG_list (a := a) (xs := xs) (fun i ys H' => Ext H H' ∧ ys = ((rs.take i).map R0.folk).map V.int) (by rw [sizeLine_eq]; omega) ⟨Ext.new hD, rfl⟩ (fun i ys H' pv => SqL.of (pv.1 _ _ ha)) ?_ ?_
  · rintro i v ys H' ev ly hDD ⟨x', rfl⟩ os los R k
    obtain ⟨o0, rfl⟩ : ∃ o0, os = [o0] := by
      match os, los with
      | [o0], _ => exact ⟨o0, rfl⟩
    have hi : i < rs.length := by have := (List.getElem?_eq_some_iff.mp ev).1; omega
    have er := List.getElem?_eq_getElem hi
    have ru := (al.2 i _ v er ev).ext x'
    refine ⟨⟨[some v], rfl, rfl⟩, rd_meth0 (t := .one rs[i]) (by decide +kernel) ru (fun R r => ⟨_, rfl, r⟩) ⟨v, .one rs[i], rfl, ru, k _ H' hDD ⟨ext_upd _ x' hD, ?_⟩⟩⟩
    rw [take_all er, List.map_append, List.map_append]
    rfl
  rintro ys H2 ly hDD ⟨x2, rfl⟩
  rw [← lx, List.take_length] at hDD
  refine ⟨D, _, rfl, SqL.of hDD, ?_⟩
  show tSeq tRd3 (tRet (tC .non)) De [some (.ref a), some (.int (rs.map R0.folk).sum)] H2
  refine ⟨_, rfl, _, _, rfl, rfl, _, rfl, ?_⟩
  refine ite2 (fun c => ⟨_, rfl, by show 2 ≤ sizeLine; decide, fun b hb => qm (of_decide_eq_true c) b _ (x2.trans (Ext.new hb)) upd_same⟩) (fun c => qg ?_ H2 x2)
  have : ¬ ((rs.map R0.folk).sum > 20) := fun z => c (decide_eq_true z)
  omega
theorem rd_rd (Z : KR K C CR) {v : V} {b : BD} (h : BDx K C H v b) (q1 : b = .trials → ∀ a H', Ext H H' → H' a = some (.tup [.str "trials", v]) → De.rt (.ref a) H') (q2 : ∀ n, b = .many n → ∀ a H', Ext H H' → H' a = some (.tup [.str "many", .int n]) → De.rt (.ref a) H') (q3 : ∀ rs, b = .good rs → ∀ H', Ext H H' → De.rt .non H') : Bx (tRd K C De [some v, none] H) := by
  have go : ∀ {a : Addr} {xs : List V} {rs : List R0}, H a = some (.lst xs) → All0 C H rs xs → 1 ≤ rs.length → rs.length ≤ 6 → (20 < (rs.map R0.folk).sum → ∀ b H', Ext H H' → H' b = some (.tup [.str "many", .int (rs.map R0.folk).sum]) → De.rt (.ref b) H') → ((rs.map R0.folk).sum ≤ 20 → ∀ H', Ext H H' → De.rt .non H') → tRd K C De [some (.ref a), none] H := fun {a xs rs} ha al l1 l6 qm qg => by
    have lx := al.1
    refine rd_rd0 ha (fun e => ?_) fun _ => ?_
    · rw [decide_eq_true (show 1 ≤ xs.length by omega), decide_eq_true (show xs.length ≤ 6 by omega)] at e
      cases e
    refine rd_rd1 ha (by omega) (blk_all Z al) (fun e => ?_) fun _ H' x' => ?_
    · rw [List.all_map] at e
      simp at e
    · exact rd_rd2 (x' _ _ ha) (⟨lx, fun i r w h1 h2 => (al.2 i r w h1 h2).ext x'⟩) l6 (fun g b H2 x2 => qm g b H2 (x'.trans x2)) fun g H2 x2 => qg g H2 (x'.trans x2)
  refine ⟨?_⟩
  cases b with
  | trials =>
    rcases h with ⟨t, kd, kt⟩ | ⟨a, xs, bs, rfl, ha, l9, bk, ab⟩
    · exact ⟨_, rfl, _, _, _, _, rfl, kd, kt, _, rfl, itT (itT (rd_tri (q1 rfl)))⟩
    · refine rd_rd0 ha (fun _ => rd_tri (q1 rfl)) fun e => ?_
      unfold abB at ab
      rw [e, Bool.true_and] at ab
      exact rd_rd1 ha l9 bk (fun _ H' x' => rd_tri fun a H2 x2 => q1 rfl a H2 (x'.trans x2)) fun z => by rw [z] at ab; cases ab
  | many n =>
    obtain ⟨a, xs, rs, rfl, ha, al, l1, l6, ok, g, rfl⟩ := h
    exact go ha al l1 l6 (fun _ => q2 _ rfl) fun z => absurd z (by omega)
  | good rs =>
    obtain ⟨a, xs, rfl, ha, al, l1, l6, ok, g⟩ := h
    exact go ha al l1 l6 (fun z => absurd z (by omega)) fun _ => q3 rs rfl
end
section
variable {P : Program} {w : World} {K : Frag} {mg : Str → Option Value} {base : Heap} {C : Nat → Addr} {CR : Addr}
theorem ok_rd {f : Addr} {fd : FuncData} (Z : KR K C CR) (N : IsT K) (F : Fun K "_law_rules_due" "_law_rules_due" sRd f fd) (M : Ms P w K mg base C) (m0 : mg "Split" = some (.ref (C 0))) (m1 : mg "Pairs" = some (.ref (C 1))) (m2 : mg "Coins" = some (.ref (C 2))) (mi : mg "isinstance" = none) (ml : mg "list" = none) (mn : mg "len" = none) (ms : mg "sum" = none) : FnOk P w K mg base CX0 2 f fd ["_law_rules_here"] (spRd K C) := by
  refine F.ok scRd (fun vs H Q E h => ?_) (fun cdv A outer s H vs Q E hr h => ?_)
  · obtain ⟨_, _, rfl, _⟩ := h
    rfl
  obtain ⟨v, b, rfl, bd, q1, q2, q3⟩ := h
  exact okBxL (rd_der N M m0 m1 m2 mi ml mn ms hr) (rd_rd Z bd q1 q2 q3)
end
end My
set_option Elab.async false
set_option linter.all false
set_option maxRecDepth 100000
set_option maxHeartbeats 1000000
set_option exponentiation.threshold 10000
namespace My
open PySem PySem.W L2
def topD : PyData → Int
  | .int n => n
  | _ => 0
inductive Cse where
  | w0 (v1 v2 : V) (d1 d2 : PyData)
  | w1 (v1 c : V) (d1 dc : PyData)
  | w2 (v1 c v3 : V) (d1 dc d3 : PyData)
  | w3 (v : V) (b : BD)
  | w4 (u v2 : V) (t : Rl) (d2 : PyData)
def Cse.way : Cse → Int
  | .w0 .. => 0
  | .w1 .. => 1
  | .w2 .. => 2
  | .w3 .. => 3
  | .w4 .. => 4
def Cse.things : Cse → List V
  | .w0 v1 v2 _ _ => [v1, v2]
  | .w1 v1 c _ _ => [v1, c]
  | .w2 v1 c v3 _ _ _ => [v1, c, v3]
  | .w3 v _ => [v]
  | .w4 u v2 _ _ => [u, v2]
def Cse.ok (K : Frag) (C : Nat → Addr) (H : Hp) : Cse → Prop
  | .w0 v1 v2 d1 d2 => Rds H v1 d1 ∧ NumD d1 ∧ Rds H v2 d2 ∧ NumD d2
  | .w1 v1 c d1 dc => Rds H v1 d1 ∧ NumD d1 ∧ Rds H c dc ∧ dc ∈ coins24
  | .w2 v1 c v3 d1 dc d3 => Rds H v1 d1 ∧ NumD d1 ∧ Rds H c dc ∧ dc ∈ coins24 ∧ Rds H v3 d3 ∧ NumD d3
  | .w3 v b => BDx K C H v b
  | .w4 u v2 t d2 => Ru C H t u ∧ t.ok ∧ Rds H v2 d2 ∧ NumD d2
def Cse.due : Cse → Option (Str × V)
  | .w0 v1 v2 d1 d2 => if inD 1 20 d1 then (if inD 0 (topD d1) d2 then none else some ("number", v2)) else some ("number", v1)
  | .w1 v1 c d1 dc => if inD 1 10 d1 then (if coinD dc then none else some ("share", c)) else some ("number", v1)
  | .w2 v1 c v3 d1 dc d3 => if inD 1 20 d1 then (if coinD dc then (if inD 1 20 d3 then none else some ("number", v3)) else some ("share", c)) else some ("number", v1)
  | .w3 v .trials => some ("trials", v)
  | .w3 _ (.many n) => some ("many", .int n)
  | .w3 _ (.good _) => none
  | .w4 _ v2 t d2 => if inD 0 t.folk d2 then none else some ("number", v2)
section
variable {P : Program} {w : World} {K : Frag} {mg : Str → Option Value} {base : Heap} {C : Nat → Addr} {CR : Addr}
abbrev sDu : Stmt := top 48
abbrev NDu : List Str := ["_law_way", "_law_things", "_law_one", "_law_other", "_law_good", "_law_coin_here", "_law_far", "_law_checks"]
theorem scDu : FnScope NDu ["_law_way", "_law_things"] (defScope sDu) := ⟨rfl, rfl, rfl, by decide +kernel, rfl, by decide +kernel, by decide +kernel⟩
abbrev stDu (i : Nat) : Stmt := (defBody sDu).getD i (.Pass ⟨0, 0, 0, 0⟩)
def spDu (K : Frag) (C : Nat → Addr) : Sp := fun vs H Q _ => ∃ (c : Cse) (p : Addr), vs = [.int c.way, .ref p] ∧ H p = some (.lst c.things) ∧ c.ok K C H ∧ (c.due = none → ∀ H', Ext H H' → Q .non H') ∧ ∀ z v, c.due = some (z, v) → ∀ a H', Ext H H' → H' a = some (.tup [.str z, v]) → Q (.ref a) H'
def tNum (a b c : TE) : TE := tCall spLN [] E0 (tCons a (tCons b (tCons c tNil)))
def tI (i : Int) : TE := tC (.int i)
def tCk (g : TE) (z : Str) (v : TE) : TE := tTup (tCons g (tCons (tC (.str z)) (tCons v tNil)))
def tFst (te : TE) : TE := tCall spFD [] E0 (tCons te tNil)
def tWay (k : Int) : TT := tB (tOp rEq (tVar 0) (tI k))
def tCoi (v : TE) : TE := tCall spLC [] E0 (tCons v tNil)
def tDu0 (K : Frag) : TS := tIfS (tWay 0) (tSeq (tAsg (tVar 1) (gTupL K 2 (gCons (gName 2) (gCons (gName 3) gNil)))) (tSeq (tAsg (tNum (tVar 2) (tI 1) (tI 20)) (gName 4)) (tRet (tFst (tLst (tCons (tCk (tVar 4) "number" (tVar 2)) (tCons (tCk (tAndV (tVar 4) (tNum (tVar 3) (tI 0) (tVar 2))) "number" (tVar 3)) tNil))))))) tNext
def tDu1 (K : Frag) : TS := tIfS (tWay 1) (tSeq (tAsg (tVar 1) (gTupL K 2 (gCons (gName 2) (gCons (gName 5) gNil)))) (tRet (tFst (tLst (tCons (tCk (tNum (tVar 2) (tI 1) (tI 10)) "number" (tVar 2)) (tCons (tCk (tCoi (tVar 5)) "share" (tVar 5)) tNil)))))) tNext
def tDu2 (K : Frag) : TS := tIfS (tWay 2) (tSeq (tAsg (tVar 1) (gTupL K 3 (gCons (gName 2) (gCons (gName 5) (gCons (gName 6) gNil))))) (tSeq (tAsg (tLst (tCons (tCk (tNum (tVar 2) (tI 1) (tI 20)) "number" (tVar 2)) (tCons (tCk (tCoi (tVar 5)) "share" (tVar 5)) tNil))) (gName 7)) (tRet (tFst (tOp rCat (tVar 7) (tLst (tCons (tCk (tNum (tVar 6) (tI 1) (tI 20)) "number" (tVar 6)) tNil))))))) tNext
def tIx1 (K : Frag) (k : Int) : TE := tOp (rIxL K) (tVar 1) (tI k)
def tDu3 (K : Frag) (C : Nat → Addr) : TS := tIfS (tWay 3) (tRet (tCall (spRd K C) [] E0 (tCons (tIx1 K 0) tNil))) tNext
def tDu4 (K : Frag) (C : Nat → Addr) : TS := tRet (tFst (tLst (tCons (tCk (tNum (tIx1 K 1) (tI 0) (tMethD (Is5 C) "folk" (fun _ => spFolk C) E0 (tIx1 K 0) tNil)) "number" (tIx1 K 1)) tNil)))
def tDu (K : Frag) (C : Nat → Addr) : TS := tSeq (tDu0 K) (tSeq (tDu1 K) (tSeq (tDu2 K) (tSeq (tDu3 K C) (tDu4 K C))))
variable {f a1 a2 a3 a4 : Addr} {d1 d2 d3 d4 : FuncData} {cdv : Value} {A : Around} {outer : List Env} {s : Shared} {H : Hp} {E : XK}
section
variable (A1 : Df P w K mg base CX0 1 "_law_is_number" ["_law_thing", "_law_low", "_law_high"] spLN a1 d1) (A2 : Df P w K mg base CX0 1 "_law_first_due" ["_law_checks"] spFD a2 d2) (A3 : Df P w K mg base CX0 1 "_law_is_coin" ["_law_thing"] spLC a3 d3) (A4 : Df P w K mg base CX0 2 "_law_rules_due" ["_law_rules_here"] (spRd K C) a4 d4) (M : Ms P w K mg base C)
  (hr : Room 2 (A.deeper (PyProof.Rows.envOfC "_law_due" (defScope sDu) s.heap.objs.size f cdv)))
include A1 A2 hr
theorem du_0 : Bx (PS (cxOf CX0 P w K mg base NDu "_law_due" (defScope sDu) f cdv A outer s H E).nox (stDu 0) (tDu0 K)) := by
  have nd := scDu.nd
  have hr1 : Room 1 _ := hr.mono (by decide)
  exact ⟨ps_if (pt_cmpR op_eq (pv 0) pe_int (nomark _)) (pss_cons (ps_asg (pv 1) (pg_tupL rfl (pgs_cons (pg_name (i := 2) nd rfl (Or.inl rfl)) (pgs_cons (pg_name (i := 3) nd rfl (Or.inl rfl)) pgs_nil)))) (pss_cons (ps_set (i := 4) nd rfl (Or.inl rfl) (pe_call A1.G hr1 rfl A1.m A1.kp A1.b .nil pass0 (pa_cons (pv 2) (pa_cons pe_int (pa_cons pe_int pa_nil)))))
    (pss_one (ps_ret (pe_call A2.G hr1 rfl A2.m A2.kp A2.b .nil pass0 (pa_cons (pe_lst (pa_cons (pe_tup (pa_cons (pv 4) (pa_cons pe_str (pa_cons (pv 2) pa_nil)))) (pa_cons (pe_tup (pa_cons (pe_and (pv 4) (pe_one (pe_call A1.G hr1 rfl A1.m A1.kp A1.b .nil pass0 (pa_cons (pv 3) (pa_cons pe_int (pa_cons (pv 2) pa_nil)))))) (pa_cons pe_str (pa_cons (pv 3) pa_nil)))) pa_nil))) pa_nil)))))) pss_nil⟩
include M
theorem du_4 : Bx (PS (cxOf CX0 P w K mg base NDu "_law_due" (defScope sDu) f cdv A outer s H E).nox (stDu 4) (tDu4 K C)) := by
  have hr1 : Room 1 _ := hr.mono (by decide)
  exact ⟨ps_ret (pe_call A2.G hr1 rfl A2.m A2.kp A2.b .nil pass0 (pa_cons (pe_lst (pa_cons (pe_tup (pa_cons (pe_call A1.G hr1 rfl A1.m A1.kp A1.b .nil pass0 (pa_cons (pe_ix ix_list (pv 1) pe_int (fun _ _ => rfl)) (pa_cons pe_int (pa_cons (pe_methD0 (pe_ix ix_list (pv 1) pe_int (fun _ _ => rfl)) M.folk hr1 pass0) pa_nil)))) (pa_cons pe_str (pa_cons (pe_ix ix_list (pv 1) pe_int (fun _ _ => rfl)) pa_nil)))) pa_nil)) pa_nil))⟩
omit M
include A3
theorem du_1 : Bx (PS (cxOf CX0 P w K mg base NDu "_law_due" (defScope sDu) f cdv A outer s H E).nox (stDu 1) (tDu1 K)) := by
  have nd := scDu.nd
  have hr1 : Room 1 _ := hr.mono (by decide)
  exact ⟨ps_if (pt_cmpR op_eq (pv 0) pe_int (nomark _)) (pss_cons (ps_asg (pv 1) (pg_tupL rfl (pgs_cons (pg_name (i := 2) nd rfl (Or.inl rfl)) (pgs_cons (pg_name (i := 5) nd rfl (Or.inl rfl)) pgs_nil))))
    (pss_one (ps_ret (pe_call A2.G hr1 rfl A2.m A2.kp A2.b .nil pass0 (pa_cons (pe_lst (pa_cons (pe_tup (pa_cons (pe_call A1.G hr1 rfl A1.m A1.kp A1.b .nil pass0 (pa_cons (pv 2) (pa_cons pe_int (pa_cons pe_int pa_nil)))) (pa_cons pe_str (pa_cons (pv 2) pa_nil)))) (pa_cons (pe_tup (pa_cons (pe_call A3.G hr1 rfl A3.m A3.kp A3.b .nil pass0 (pa_cons (pv 5) pa_nil)) (pa_cons pe_str (pa_cons (pv 5) pa_nil)))) pa_nil))) pa_nil))))) pss_nil⟩
theorem du_2 : Bx (PS (cxOf CX0 P w K mg base NDu "_law_due" (defScope sDu) f cdv A outer s H E).nox (stDu 2) (tDu2 K)) := by
  have nd := scDu.nd
  have hr1 : Room 1 _ := hr.mono (by decide)
  exact ⟨ps_if (pt_cmpR op_eq (pv 0) pe_int (nomark _)) (pss_cons (ps_asg (pv 1) (pg_tupL rfl (pgs_cons (pg_name (i := 2) nd rfl (Or.inl rfl)) (pgs_cons (pg_name (i := 5) nd rfl (Or.inl rfl)) (pgs_cons (pg_name (i := 6) nd rfl (Or.inl rfl)) pgs_nil)))))
    (pss_cons (ps_set (i := 7) nd rfl (Or.inl rfl) (pe_lst (pa_cons (pe_tup (pa_cons (pe_call A1.G hr1 rfl A1.m A1.kp A1.b .nil pass0 (pa_cons (pv 2) (pa_cons pe_int (pa_cons pe_int pa_nil)))) (pa_cons pe_str (pa_cons (pv 2) pa_nil)))) (pa_cons (pe_tup (pa_cons (pe_call A3.G hr1 rfl A3.m A3.kp A3.b .nil pass0 (pa_cons (pv 5) pa_nil)) (pa_cons pe_str (pa_cons (pv 5) pa_nil)))) pa_nil))))
    (pss_one (ps_ret (pe_call A2.G hr1 rfl A2.m A2.kp A2.b .nil pass0 (pa_cons (pe_op op_cat (pv 7) (pe_lst (pa_cons (pe_tup (pa_cons (pe_call A1.G hr1 rfl A1.m A1.kp A1.b .nil pass0 (pa_cons (pv 6) (pa_cons pe_int (pa_cons pe_int pa_nil)))) (pa_cons pe_str (pa_cons (pv 6) pa_nil)))) pa_nil))) pa_nil)))))) pss_nil⟩
omit A1 A2 A3
include A4
theorem du_3 : Bx (PS (cxOf CX0 P w K mg base NDu "_law_due" (defScope sDu) f cdv A outer s H E).nox (stDu 3) (tDu3 K C)) :=
  ⟨ps_if (pt_cmpR op_eq (pv 0) pe_int (nomark _)) (pss_one (ps_ret (pe_call A4.G hr rfl A4.m A4.kp A4.b .nil pass0 (pa_cons (pe_ix ix_list (pv 1) pe_int (fun _ _ => rfl)) pa_nil)))) pss_nil⟩
include A1 A2 A3 M
theorem du_der : Bx (PSs (cxOf CX0 P w K mg base NDu "_law_due" (defScope sDu) f cdv A outer s H E).nox (defBody sDu) (tDu K C)) :=
  bxs_cons (du_0 A1 A2 hr) (bxs_cons (du_1 A1 A2 A3 hr) (bxs_cons (du_2 A1 A2 A3 hr) (bxs_cons (du_3 A4 hr) (bxs_one (du_4 A1 A2 M hr)))))
end
end
end My
set_option Elab.async false
set_option linter.all false
set_option maxRecDepth 100000
set_option maxHeartbeats 1000000
set_option exponentiation.threshold 10000
namespace My
open PySem PySem.W L2
section
variable {K : Frag} {C : Nat → Addr} {CR : Addr} {H : Hp} {De : Ends} {σ : St} {t u : TS}
theorem rd_wayT {k : Int} (s0 : σ[0]? = some (some (.int k))) (h : t De σ H) : tIfS (tWay k) t u De σ H := ⟨_, s0, rfl, _, rfl, by rw [decide_eq_true rfl]; exact itT h⟩
theorem rd_wayF {i k : Int} (s0 : σ[0]? = some (some (.int i))) (ne : i ≠ k) (h : u De σ H) : tIfS (tWay k) t u De σ H := ⟨_, s0, rfl, _, rfl, by rw [decide_eq_false (fun e => ne (V.int.inj e))]; exact itF h⟩
theorem ck_nil : Cks H [] [] := ⟨rfl, fun i t c h => by simp at h⟩
theorem ck_cons {a : Addr} {b : Bool} {z : Str} {v : V} {ts : List V} {cs : List (Bool × Str × V)} (ha : H a = some (.tup [.bl b, .str z, v])) (k : Cks H ts cs) : Cks H (.ref a :: ts) ((b, z, v) :: cs) := ⟨by rw [List.length_cons, List.length_cons, k.1], fun i t c ht hc => by
  cases i with
  | zero => cases ht; cases hc; exact ⟨a, rfl, ha⟩
  | succ i => exact k.2 i t c ht hc⟩
theorem rd_w3 {v : V} {b : BD} {p : Addr} {o : St} (hp : H p = some (.lst [v])) (bd : BDx K C H v b) (q0 : (Cse.w3 v b).due = none → ∀ H', Ext H H' → De.rt .non H') (q1 : ∀ z x, (Cse.w3 v b).due = some (z, x) → ∀ a H', Ext H H' → H' a = some (.tup [.str z, x]) → De.rt (.ref a) H') : tDu K C De (some (.int 3) :: some (.ref p) :: o) H := by
  refine rd_wayF rfl (by decide) (rd_wayF rfl (by decide) (rd_wayF rfl (by decide) (rd_wayT rfl ?_)))
  refine ⟨_, rfl, p, _, 0, _, rfl, rfl, SqL.of hp, atI_nat (j := 0) rfl, v, b, rfl, bd, fun e => ?_, fun n e => ?_, fun rs e => ?_⟩
  · subst e; exact q1 _ _ rfl
  · subst e; exact q1 _ _ rfl
  · subst e; exact q0 rfl
theorem rd_w4 {u v2 : V} {t : Rl} {d2 : PyData} {p : Addr} {o : St} (hp : H p = some (.lst [u, v2])) (ru : Ru C H t u) (r2 : Rds H v2 d2) (q0 : (Cse.w4 u v2 t d2).due = none → ∀ H', Ext H H' → De.rt .non H') (q1 : ∀ z x, (Cse.w4 u v2 t d2).due = some (z, x) → ∀ a H', Ext H H' → H' a = some (.tup [.str z, x]) → De.rt (.ref a) H') : tDu K C De (some (.int 4) :: some (.ref p) :: o) H := by
  refine rd_wayF rfl (by decide) (rd_wayF rfl (by decide) (rd_wayF rfl (by decide) (rd_wayF rfl (by decide) ?_)))
  refine ⟨_, rfl, p, _, 1, _, rfl, rfl, SqL.of hp, atI_nat (j := 1) rfl, rd_meth0 (by decide +kernel) ru (fun R r => ⟨_, rfl, p, _, 0, _, rfl, rfl, SqL.of hp, atI_nat (j := 0) rfl, r⟩) ⟨u, t, rfl, ru, v2, d2, 0, t.folk, rfl, r2, _, rfl, p, _, 1, _, rfl, rfl, SqL.of hp, atI_nat (j := 1) rfl, by show 3 ≤ sizeLine; decide, fun a ha => ⟨by show 1 ≤ sizeLine; decide, fun l hl => ?_⟩⟩⟩
  have x1 := Ext.new (o := .tup [.bl (inD 0 t.folk d2), .str "number", v2]) ha
  have x2 := Ext.new (o := .lst [.ref a]) hl
  refine ⟨l, _, [(inD 0 t.folk d2, "number", v2)], rfl, upd_same, ck_cons (x2 _ _ upd_same) ck_nil, fun e => ?_, fun z x e b H' x' hb => ?_⟩
  · refine q0 ?_ _ (x1.trans x2)
    cases h : inD 0 t.folk d2 with
    | false => rw [h] at e; cases e
    | true => simp [Cse.due, h]
  · refine q1 z x ?_ b H' ((x1.trans x2).trans x') hb
    cases h : inD 0 t.folk d2 with
    | false =>
      rw [h] at e
      simp only [Cse.due, h]
      exact e
    | true => rw [h] at e; cases e
end
end My
set_option Elab.async false
set_option linter.all false
set_option maxRecDepth 100000
set_option maxHeartbeats 1000000
set_option exponentiation.threshold 10000
namespace My
open PySem PySem.W L2
section
variable {K : Frag} {C : Nat → Addr} {CR : Addr} {H : Hp} {De : Ends} {o2 o3 o4 o5 o6 o7 : Option V}
theorem rd_w0 {v1 v2 : V} {d1 d2 : PyData} {p : Addr} (hp : H p = some (.lst [v1, v2])) (r1 : Rds H v1 d1) (r2 : Rds H v2 d2) (q0 : (Cse.w0 v1 v2 d1 d2).due = none → ∀ H', Ext H H' → De.rt .non H') (q1 : ∀ z x, (Cse.w0 v1 v2 d1 d2).due = some (z, x) → ∀ a H', Ext H H' → H' a = some (.tup [.str z, x]) → De.rt (.ref a) H') : tDu K C De [some (.int 0), some (.ref p), o2, o3, o4, o5, o6, o7] H := by
  refine rd_wayT rfl ?_
  refine ⟨_, rfl, p, _, rfl, SqL.of hp, rfl, _, _, rfl, _, _, rfl, rfl, ?_⟩
  refine ⟨_, rfl, v1, d1, 1, 20, rfl, r1, ?_⟩
  show tFst (tLst (tCons (tCk (tVar 4) "number" (tVar 2)) (tCons (tCk (tAndV (tVar 4) (tNum (tVar 3) (tI 0) (tVar 2))) "number" (tVar 3)) tNil))) [some (.int 0), some (.ref p), some v1, some v2, some (.bl (inD 1 20 d1)), o5, o6, o7] H De.rt
  refine ⟨_, rfl, _, rfl, by show 3 ≤ sizeLine; decide, fun a ha => ?_⟩
  have x1 := Ext.new (o := .tup [.bl (inD 1 20 d1), .str "number", v1]) ha
  have h1 : upd H a (.tup [.bl (inD 1 20 d1), .str "number", v1]) a = some (.tup [.bl (inD 1 20 d1), .str "number", v1]) := upd_same
  cases g : inD 1 20 d1 with
  | false =>
    rw [g] at x1 h1
    refine ⟨_, rfl, _, rfl, itF ⟨_, rfl, by show 3 ≤ sizeLine; decide, fun b hb => ⟨by show 2 ≤ sizeLine; decide, fun l hl => ?_⟩⟩⟩
    have x2 := Ext.new (o := .tup [.bl false, .str "number", v2]) hb
    have x3 := Ext.new (o := .lst [.ref a, .ref b]) hl
    refine ⟨l, _, [(false, "number", v1), (false, "number", v2)], rfl, upd_same, ck_cons ((x2.trans x3) _ _ h1) (ck_cons (x3 _ _ upd_same) ck_nil), (fun e => by cases e), fun z x e c H' x' hc => ?_⟩
    refine q1 z x ?_ c H' (((x1.trans x2).trans x3).trans x') hc
    simp only [Cse.due, g]
    exact e
  | true =>
    rw [g] at x1 h1
    obtain ⟨n, rfl, n1, n20⟩ := inD_int g
    cases r1
    refine ⟨_, rfl, _, rfl, itT ⟨_, rfl, _, rfl, v2, d2, 0, n, rfl, r2.mono x1, ⟨_, rfl, by show 3 ≤ sizeLine; decide, fun b hb => ⟨by show 2 ≤ sizeLine; decide, fun l hl => ?_⟩⟩⟩⟩
    have x2 := Ext.new (o := .tup [.bl (inD 0 n d2), .str "number", v2]) hb
    have x3 := Ext.new (o := .lst [.ref a, .ref b]) hl
    refine ⟨l, _, [(true, "number", .int n), (inD 0 n d2, "number", v2)], rfl, upd_same, ck_cons ((x2.trans x3) _ _ h1) (ck_cons (x3 _ _ upd_same) ck_nil), fun e => ?_, fun z x e c H' x' hc => ?_⟩
    · refine q0 ?_ _ ((x1.trans x2).trans x3)
      cases h : inD 0 n d2 with
      | false => rw [h] at e; cases e
      | true => simp [Cse.due, g, topD, h]
    · refine q1 z x ?_ c H' (((x1.trans x2).trans x3).trans x') hc
      cases h : inD 0 n d2 with
      | false =>
        rw [h] at e
        simp only [Cse.due, g, topD, h]
        exact e
      | true => rw [h] at e; cases e
theorem rd_w1 {v1 c : V} {d1 dc : PyData} {p : Addr} (hp : H p = some (.lst [v1, c])) (r1 : Rds H v1 d1) (rc : Rds H c dc) (mc : dc ∈ coins24) (q0 : (Cse.w1 v1 c d1 dc).due = none → ∀ H', Ext H H' → De.rt .non H') (q1 : ∀ z x, (Cse.w1 v1 c d1 dc).due = some (z, x) → ∀ a H', Ext H H' → H' a = some (.tup [.str z, x]) → De.rt (.ref a) H') : tDu K C De [some (.int 1), some (.ref p), o2, o3, o4, o5, o6, o7] H := by
  refine rd_wayF rfl (by decide) (rd_wayT rfl ?_)
  refine ⟨_, rfl, p, _, rfl, SqL.of hp, rfl, _, _, rfl, _, _, rfl, rfl, ?_⟩
  show tFst (tLst (tCons (tCk (tNum (tVar 2) (tI 1) (tI 10)) "number" (tVar 2)) (tCons (tCk (tCoi (tVar 5)) "share" (tVar 5)) tNil))) [some (.int 1), some (.ref p), some v1, o3, o4, some c, o6, o7] H De.rt
  refine ⟨_, rfl, v1, d1, 1, 10, rfl, r1, _, rfl, by show 3 ≤ sizeLine; decide, fun a ha => ?_⟩
  have x1 := Ext.new (o := .tup [.bl (inD 1 10 d1), .str "number", v1]) ha
  have h1 : upd H a (.tup [.bl (inD 1 10 d1), .str "number", v1]) a = some (.tup [.bl (inD 1 10 d1), .str "number", v1]) := upd_same
  refine ⟨_, rfl, c, dc, rfl, rc.mono x1, mc, fun H2 x2 => ⟨_, rfl, by show 3 ≤ sizeLine; decide, fun b hb => ⟨by show 2 ≤ sizeLine; decide, fun l hl => ?_⟩⟩⟩
  have x3 := Ext.new (o := .tup [.bl (coinD dc), .str "share", c]) hb
  have x4 := Ext.new (o := .lst [.ref a, .ref b]) hl
  have x04 := ((x1.trans x2).trans x3).trans x4
  refine ⟨l, _, [(inD 1 10 d1, "number", v1), (coinD dc, "share", c)], rfl, upd_same, ck_cons (((x2.trans x3).trans x4) _ _ h1) (ck_cons (x4 _ _ upd_same) ck_nil), fun e => ?_, fun z x e b' H' x' hc => ?_⟩
  · refine q0 ?_ _ x04
    cases g : inD 1 10 d1 with
    | false => rw [g] at e; cases e
    | true =>
      cases h : coinD dc with
      | false => rw [g, h] at e; cases e
      | true => simp [Cse.due, g, h]
  · refine q1 z x ?_ b' H' (x04.trans x') hc
    cases g : inD 1 10 d1 with
    | false =>
      rw [g] at e
      simp only [Cse.due, g]
      exact e
    | true =>
      cases h : coinD dc with
      | false =>
        rw [g, h] at e
        simp only [Cse.due, g, h]
        exact e
      | true => rw [g, h] at e; cases e
end
end My
set_option Elab.async false
set_option linter.all false
set_option maxRecDepth 100000
set_option maxHeartbeats 1000000
set_option exponentiation.threshold 10000
namespace My
open PySem PySem.W L2
section
variable {K : Frag} {C : Nat → Addr} {CR : Addr} {H : Hp} {De : Ends} {o2 o3 o4 o5 o6 o7 : Option V}
theorem rd_w2 {v1 c v3 : V} {d1 dc d3 : PyData} {p : Addr} (hp : H p = some (.lst [v1, c, v3])) (r1 : Rds H v1 d1) (rc : Rds H c dc) (mc : dc ∈ coins24) (r3 : Rds H v3 d3) (q0 : (Cse.w2 v1 c v3 d1 dc d3).due = none → ∀ H', Ext H H' → De.rt .non H') (q1 : ∀ z x, (Cse.w2 v1 c v3 d1 dc d3).due = some (z, x) → ∀ a H', Ext H H' → H' a = some (.tup [.str z, x]) → De.rt (.ref a) H') : tDu K C De [some (.int 2), some (.ref p), o2, o3, o4, o5, o6, o7] H := by
  refine rd_wayF rfl (by decide) (rd_wayF rfl (by decide) (rd_wayT rfl ?_))
  refine ⟨_, rfl, p, _, rfl, SqL.of hp, rfl, _, _, rfl, _, _, rfl, _, _, rfl, rfl, ?_⟩
  refine ⟨_, rfl, v1, d1, 1, 20, rfl, r1, _, rfl, by show 3 ≤ sizeLine; decide, fun a ha => ?_⟩
  have x1 := Ext.new (o := .tup [.bl (inD 1 20 d1), .str "number", v1]) ha
  have h1 : upd H a (.tup [.bl (inD 1 20 d1), .str "number", v1]) a = some (.tup [.bl (inD 1 20 d1), .str "number", v1]) := upd_same
  refine ⟨_, rfl, c, dc, rfl, rc.mono x1, mc, fun H2 x2 => ⟨_, rfl, by show 3 ≤ sizeLine; decide, fun b hb => ⟨by show 2 ≤ sizeLine; decide, fun l hl => ?_⟩⟩⟩
  have x3 := Ext.new (o := .tup [.bl (coinD dc), .str "share", c]) hb
  have h3 : upd H2 b (.tup [.bl (coinD dc), .str "share", c]) b = some (.tup [.bl (coinD dc), .str "share", c]) := upd_same
  have x4 := Ext.new (o := .lst [.ref a, .ref b]) hl
  have x04 := ((x1.trans x2).trans x3).trans x4
  have h14 := ((x2.trans x3).trans x4) _ _ h1
  have h34 := x4 _ _ h3
  have hl4 : upd (upd H2 b (.tup [.bl (coinD dc), .str "share", c])) l (.lst [.ref a, .ref b]) l = some (.lst [.ref a, .ref b]) := upd_same
  show tFst (tOp rCat (tVar 7) (tLst (tCons (tCk (tNum (tVar 6) (tI 1) (tI 20)) "number" (tVar 6)) tNil))) [some (.int 2), some (.ref p), some v1, o3, o4, some c, some v3, some (.ref l)] (upd (upd H2 b (.tup [.bl (coinD dc), .str "share", c])) l (.lst [.ref a, .ref b])) De.rt
  generalize upd (upd H2 b (.tup [.bl (coinD dc), .str "share", c])) l (.lst [.ref a, .ref b]) = H4 at x4 x04 h14 h34 hl4 ⊢
  refine ⟨_, rfl, _, rfl, v3, d3, 1, 20, rfl, r3.mono x04, _, rfl, by show 3 ≤ sizeLine; decide, fun e he => ⟨by show 1 ≤ sizeLine; decide, fun m hm => ?_⟩⟩
  have x5 := Ext.new (o := .tup [.bl (inD 1 20 d3), .str "number", v3]) he
  have x6 := Ext.new (o := .lst [.ref e]) hm
  refine ⟨l, m, _, _, rfl, rfl, (x5.trans x6) _ _ hl4, upd_same, by show 3 ≤ sizeLine; decide, fun k hk => ?_⟩
  have x7 := Ext.new (o := .lst ([.ref a, .ref b] ++ [.ref e])) hk
  have x47 := (x5.trans x6).trans x7
  refine ⟨k, _, [(inD 1 20 d1, "number", v1), (coinD dc, "share", c), (inD 1 20 d3, "number", v3)], rfl, upd_same, ck_cons (x47 _ _ h14) (ck_cons (x47 _ _ h34) (ck_cons ((x6.trans x7) _ _ upd_same) ck_nil)), fun e => ?_, fun z x e b' H' x' hc => ?_⟩
  · refine q0 ?_ _ (x04.trans x47)
    cases g : inD 1 20 d1 <;> cases h : coinD dc <;> cases i : inD 1 20 d3 <;> rw [g, h, i] at e <;> first | (cases e; done) | simp [Cse.due, g, h, i]
  · refine q1 z x ?_ b' H' ((x04.trans x47).trans x') hc
    cases g : inD 1 20 d1 <;> cases h : coinD dc <;> cases i : inD 1 20 d3 <;> rw [g, h, i] at e <;> simp only [Cse.due, g, h, i] <;> first | exact e | (cases e; done)
end
section
variable {P : Program} {w : World} {K : Frag} {mg : Str → Option Value} {base : Heap} {C : Nat → Addr} {f a1 a2 a3 a4 : Addr} {d1 d2 d3 d4 : FuncData}
theorem ok_du {fd : FuncData} (F : Fun K "_law_due" "_law_due" sDu f fd) (A1 : Df P w K mg base CX0 1 "_law_is_number" ["_law_thing", "_law_low", "_law_high"] spLN a1 d1) (A2 : Df P w K mg base CX0 1 "_law_first_due" ["_law_checks"] spFD a2 d2) (A3 : Df P w K mg base CX0 1 "_law_is_coin" ["_law_thing"] spLC a3 d3) (A4 : Df P w K mg base CX0 2 "_law_rules_due" ["_law_rules_here"] (spRd K C) a4 d4) (M : Ms P w K mg base C) : FnOk P w K mg base CX0 3 f fd ["_law_way", "_law_things"] (spDu K C) := by
  refine F.ok scDu (fun vs H Q E h => ?_) (fun cdv A outer s H vs Q E hr h => ?_)
  · obtain ⟨_, _, rfl, _⟩ := h
    rfl
  obtain ⟨c, p, rfl, hp, ok, q0, q1⟩ := h
  refine okBxL (du_der A1 A2 A3 A4 M hr) ⟨?_⟩
  cases c with
  | w0 v1 v2 d1 d2 => exact rd_w0 hp ok.1 ok.2.2.1 q0 q1
  | w1 v1 c d1 dc => exact rd_w1 hp ok.1 ok.2.2.1 ok.2.2.2 q0 q1
  | w2 v1 c v3 d1 dc d3 => exact rd_w2 hp ok.1 ok.2.2.1 ok.2.2.2.1 ok.2.2.2.2.1 q0 q1
  | w3 v b => exact rd_w3 hp ok q0 q1
  | w4 u v2 t d2 => exact rd_w4 hp ok.1 ok.2.2.1 q0 q1
end
end My
set_option Elab.async false
set_option linter.all false
set_option maxRecDepth 100000
set_option maxHeartbeats 1000000
namespace My
open PySem PySem.W L2
section
variable {X : Cx} {σ : St} {e : Expr} {es : List Expr} {t : TA} {pos p : Pos} {CX : CXT} {k : Nat} {f C : Addr} {fd : FuncData} {ps : List Str} {sp : Sp} {dvs : List V} {ds : List Value} {E : XK} {x : Str}
theorem run_makeX {pins : List (Addr × Obj)} {H : Hp} {s : Shared} {Q : VK} {us : List Value} {vs : List V} (M : Mk X.K C f) (F : FnOk X.prog X.w X.K X.mg X.base CX k f fd ps sp) (hr : Room (k + 1) X.A) (hb : Binds X.K fd ps ds) (hd : Vals dvs ds) (hx : PassX CX X σ E) (I : Inv X pins σ H s) (rv : Vals vs us)
    (h : ∀ x dx, H x = none → H dx = none → dx ≠ x → sp (.ref x :: (vs ++ dvs)) (upd (upd H dx (.own x)) x (.ins C dx [])) (fun v H2 => v = .non ∧ Q (.ref x) H2) E) : wpAny (model X.prog X.w) X.A (call (.ref C) us) (EP X pins σ Q) X.xe s := by
  let a : Addr := s.heap.objs.size + 1
  have J := Inv.made (C := C) I
  have want := h a s.heap.objs.size (I.hok.fresh (Nat.le_succ _)) (I.hok.fresh (Nat.le_refl _)) (Nat.ne_of_lt (Nat.lt_succ_self _))
  have all : Vals (V.ref a :: (vs ++ dvs)) (Value.ref a :: (us ++ ds)) := .cons rfl (rv.append hd)
  have len : (Value.ref a :: us ++ ds).length = ps.length := by
    have z := all.length
    rw [F.len _ _ _ _ want] at z
    exact z.symm
  have ran := F.run _ X.stack _ _ ⟨Value.ref a :: us, []⟩ (Value.ref a :: (us ++ ds)) _ _ E (hr.make C us []) (J.env0.make C us []) (hb _ (Value.ref a :: us) J.kIn len) all want
  refine wpAny_call (make_map (f := f) I.kIn M.makes M.init (beq_iff_eq.mp M.fn) (codeAny_mono ran fun r s' got => ?_))
  match r, got with
  | .error e, got => exact hx pins _ _ e s' J got
  | .ok (.ret u), got =>
    obtain ⟨v, H', I3, ru, ev, q⟩ := J.after got
    subst ev
    exact ⟨ru, V.ref a, H', I3, rfl, q⟩
  | .ok .next, got => exact got.elim
  | .ok .brk, got => exact got.elim
  | .ok .cont, got => exact got.elim
theorem px_make (M : Mk X.K C f) (F : FnOk X.prog X.w X.K X.mg X.base CX k f fd ps sp) (hr : Room (k + 1) X.A) (hg : Gl X x) (hm : X.mg x = some (.ref C)) (hb : Binds X.K fd ps ds) (hd : Vals dvs ds) (hx : PassX CX X σ E)
    (ha : PXA X σ (e :: es) t) (hdb : (x == ("__debug__" : Str)) = false := by decide) (he : starEach (e :: es) X.env = (false, eval e X.env) :: starEach es X.env := by rfl) (hpl : (backTo pos (starEach es X.env)).any (·.1) = false := by rfl) : PX X σ (.Call (.Name x p) (e :: es) [] pos) (tMake C sp dvs E t) := by
  intro pins s H Q I h
  refine wpAny_Call_Name_kw (ld_glob I hg hm ?_ hdb)
  exact PySem.W.callWith_K (h₀ := X.base) I.ok.mod.kin M.kp (thn (ha pos pins s H _ I h) fun us s1 ⟨vs, H1, I1, r, q⟩ => ⟨I1.kIn, run_makeX M F hr hb hd hx I1 r q⟩) he hpl
end
end My
set_option Elab.async false
set_option linter.all false
set_option maxRecDepth 100000
set_option maxHeartbeats 1000000
set_option exponentiation.threshold 10000
namespace My
open PySem PySem.W L2
section
variable {P : Program} {w : World} {K : Frag} {mg : Str → Option Value} {base : Heap} {C : Nat → Addr} {CR CN CS CT CM D f0 f1 f2 f3 f4 : Addr} {e0 e1 e2 e3 e4 : FuncData}
abbrev sTd : Stmt := top 49
abbrev NTd : List Str := ["_law_way", "_law_things", "_law_rule", "e"]
theorem scTd : FnScope NTd ["_law_way", "_law_things"] (defScope sTd) := ⟨rfl, rfl, rfl, by decide +kernel, rfl, by decide +kernel, by decide +kernel⟩
def tbTd (K : Frag) (C : Nat → Addr) (CN CS CT CM : Addr) (E : XK) : TS :=
  tIfS (tWay 0) (tAsg (tMake (C 0) (spSpI C CN) [] E (tCons (tIx1 K 0) (tCons (tIx1 K 1) tNil))) (gName 2))
  (tIfS (tWay 1) (tAsg (tMake (C 1) (spPaI C CN CS) [] E (tCons (tIx1 K 0) (tCons (tIx1 K 1) tNil))) (gName 2))
  (tIfS (tWay 2) (tAsg (tMake (C 2) (spCoI C CN CS) [] E (tCons (tIx1 K 0) (tCons (tIx1 K 1) (tCons (tIx1 K 2) tNil)))) (gName 2))
  (tIfS (tWay 3) (tAsg (tMake (C 3) (spBlI K C CT CM) [] E (tCons (tIx1 K 0) tNil)) (gName 2))
  (tAsg (tMake (C 4) (spFiI C CN) [] E (tCons (tIx1 K 0) (tCons (tIx1 K 1) tNil))) (gName 2)))))
def thW (K : Frag) (z fld : Str) : TS := tRet (tTup (tCons (tC (.str z)) (tCons (tErrFT K (tVar 3) fld) tNil)))
def hTd (K : Frag) (D CN CS CT CM : Addr) : TH := hAs K CN 3 (thW K "number" "found") (hAs K CS 3 (thW K "share" "found") (hAs K CT 3 (thW K "trials" "found") (hAs K CM 3 (thW K "many" "many") (hAs K D 3 (fun _ _ _ => False) hNil))))
def tTdE (C : Nat → Addr) : TS := tRet (tTup (tCons (tC .non) (tCons (tMethD (Is5 C) "told" (fun _ => spTold C) E0 (tVar 2) tNil) tNil)))
variable {f : Addr} {cdv : Value} {A : Around} {outer : List Env} {s : Shared} {H : Hp} {E : XK}
theorem td_der (L : Mks P w K mg base C CN CS CT CM f0 f1 f2 f3 f4 e0 e1 e2 e3 e4) (M : Ms P w K mg base C) (cN : Catch K CN) (cS : Catch K CS) (cT : Catch K CT) (cM : Catch K CM) (cD : Catch K D) (mN : mg "NoNumber" = some (.ref CN)) (mS : mg "NoShare" = some (.ref CS)) (mT : mg "NoTrials" = some (.ref CT)) (mM : mg "TooMany" = some (.ref CM)) (mD : mg "DealError" = some (.ref D))
    (hr : Room 7 (A.deeper (PyProof.Rows.envOfC "_law_tried" (defScope sTd) s.heap.objs.size f cdv))) : Bx (PSs (cxOf CX0 P w K mg base NTd "_law_tried" (defScope sTd) f cdv A outer s H E).nox (defBody sTd) (tSeq (tTryN (tbTd K C CN CS CT CM) (hTd K D CN CS CT CM)) (tTdE C))) := by
  have nd := scTd.nd
  have hr1 : Room 1 _ := hr.mono (by decide)
  have hr5 : Room 5 _ := hr.mono (by decide)
  exact bxs_cons ⟨ps_tryN (tb := tbTd K C CN CS CT CM) (th := hTd K D CN CS CT CM) rfl rfl
      (fun σ E' pn xe hp => pxs_if (pt_cmpR op_eq (pv 0) pe_int (nomark _)) (pxss_one (pxs_set (i := 2) nd rfl (Or.inl rfl) (px_make (E := E') L.k0 L.g0 hr5 rfl L.m0 L.b0 .nil hp (pxa_of (pa_cons (pe_ix ix_list (pv 1) pe_int (fun _ _ => rfl)) (pa_cons (pe_ix ix_list (pv 1) pe_int (fun _ _ => rfl)) pa_nil))))))
        (pxss_one (pxs_if (pt_cmpR op_eq (pv 0) pe_int (nomark _)) (pxss_one (pxs_set (i := 2) nd rfl (Or.inl rfl) (px_make (E := E') L.k1 L.g1 hr rfl L.m1 L.b1 .nil hp (pxa_of (pa_cons (pe_ix ix_list (pv 1) pe_int (fun _ _ => rfl)) (pa_cons (pe_ix ix_list (pv 1) pe_int (fun _ _ => rfl)) pa_nil))))))
        (pxss_one (pxs_if (pt_cmpR op_eq (pv 0) pe_int (nomark _)) (pxss_one (pxs_set (i := 2) nd rfl (Or.inl rfl) (px_make (E := E') L.k2 L.g2 hr rfl L.m2 L.b2 .nil hp (pxa_of (pa_cons (pe_ix ix_list (pv 1) pe_int (fun _ _ => rfl)) (pa_cons (pe_ix ix_list (pv 1) pe_int (fun _ _ => rfl)) (pa_cons (pe_ix ix_list (pv 1) pe_int (fun _ _ => rfl)) pa_nil)))))))
        (pxss_one (pxs_if (pt_cmpR op_eq (pv 0) pe_int (nomark _)) (pxss_one (pxs_set (i := 2) nd rfl (Or.inl rfl) (px_make (E := E') L.k3 L.g3 hr5 rfl L.m3 L.b3 .nil hp (pxa_of (pa_cons (pe_ix ix_list (pv 1) pe_int (fun _ _ => rfl)) pa_nil)))))
        (pxss_one (pxs_set (i := 2) nd rfl (Or.inl rfl) (px_make (E := E') L.k4 L.g4 hr5 rfl L.m4 L.b4 .nil hp (pxa_of (pa_cons (pe_ix ix_list (pv 1) pe_int (fun _ _ => rfl)) (pa_cons (pe_ix ix_list (pv 1) pe_int (fun _ _ => rfl)) pa_nil)))))))))))))
      (phs_as (i := 3) nd rfl rfl cN rfl mN (fun x => pss_one (ps_ret (pe_tup (pa_cons pe_str (pa_cons (pe_errFT (pv 3) rfl) pa_nil)))))
      (phs_as (i := 3) nd rfl rfl cS rfl mS (fun x => pss_one (ps_ret (pe_tup (pa_cons pe_str (pa_cons (pe_errFT (pv 3) rfl) pa_nil)))))
      (phs_as (i := 3) nd rfl rfl cT rfl mT (fun x => pss_one (ps_ret (pe_tup (pa_cons pe_str (pa_cons (pe_errFT (pv 3) rfl) pa_nil)))))
      (phs_as (i := 3) nd rfl rfl cM rfl mM (fun x => pss_one (ps_ret (pe_tup (pa_cons pe_str (pa_cons (pe_errFT (pv 3) rfl) pa_nil)))))
      (phs_as (i := 3) nd rfl rfl cD rfl mD (fun x => pss_one ps_never) phs_nil)))))⟩
    (bxs_one ⟨ps_ret (pe_tup (pa_cons pe_non (pa_cons (pe_methD0 (pv 2) M.told hr1 pass0) pa_nil)))⟩)
end
end My
set_option Elab.async false
set_option linter.all false
set_option maxRecDepth 100000
set_option maxHeartbeats 1000000
set_option exponentiation.threshold 10000
namespace My
open PySem PySem.W L2
structure KitX (K : Frag) (D CN CS CT CM : Addr) : Prop where
  cN : Catch K CN
  cS : Catch K CS
  cT : Catch K CT
  cM : Catch K CM
  cD : Catch K D
  fN : FldOk K CN "found"
  fS : FldOk K CS "found"
  fT : FldOk K CT "found"
  fM : FldOk K CM "many"
  nn : mroIn K CN (.ref CN) = some true
  sn : mroIn K CS (.ref CN) = some false
  ss : mroIn K CS (.ref CS) = some true
  tn : mroIn K CT (.ref CN) = some false
  ts : mroIn K CT (.ref CS) = some false
  tt : mroIn K CT (.ref CT) = some true
  mn : mroIn K CM (.ref CN) = some false
  ms : mroIn K CM (.ref CS) = some false
  mt : mroIn K CM (.ref CT) = some false
  mm : mroIn K CM (.ref CM) = some true
def Cse.word : Cse → Str
  | .w0 .. => "split"
  | .w1 .. => "pairs"
  | .w2 .. => "coins"
  | .w3 .. => "blocks"
  | .w4 .. => "first"
def Pr (H : Hp) (z : Str) (v : V) (Q : VK) : Prop := ∀ a H', Ext H H' → H' a = some (.tup [.str z, v]) → Q (.ref a) H'
theorem Pr.mono {H H' : Hp} {z : Str} {v : V} {Q : VK} (h : Pr H z v Q) (x : Ext H H') : Pr H' z v Q := fun a H2 x2 h2 => h a H2 (x.trans x2) h2
def Gd (H : Hp) (z : Str) (Q : VK) : Prop := ∀ a b ds H', Ext H H' → H' a = some (.tup [.non, b]) → Rds H' b (.tuple (.str z :: ds)) → plainDs ds = true → Q (.ref a) H'
def spTd (K : Frag) (C : Nat → Addr) : Sp := fun vs H Q _ => ∃ (c : Cse) (p : Addr), vs = [.int c.way, .ref p] ∧ H p = some (.lst c.things) ∧ c.ok K C H ∧ (c.due = none → Gd H c.word Q) ∧ ∀ z v, c.due = some (z, v) → Pr H z v Q
section
variable {K : Frag} {C : Nat → Addr} {D CN CS CT CM : Addr} {H : Hp} {De : Ends} {o0 o1 o2 o3 : Option V}
theorem td_w {σ : St} {x Ce dx : Addr} {z fld : Str} {v : V} {Dn : Ends} (F : FldOk K Ce fld) (s3 : σ[3]? = some (some (.ref x))) (fe : H x = some (ErrT x Ce (some dx))) (fd : H dx = some (.xd [(fld, v)])) (q : Pr H z v Dn.rt) : thW K z fld Dn σ H :=
  ⟨_, s3, x, Ce, dx, _, _, rfl, fe, fd, by simp [List.lookup], F.it, F.hd, F.nf, by show 2 ≤ sizeLine; decide, fun l hl => q l _ (Ext.new hl) upd_same⟩
theorem td_N (Z : KitX K D CN CS CT CM) {v : V} (q : Pr H "number" v De.rt) : ErrF CN "found" v H (eTryN (hTd K D CN CS CT CM) De [o0, o1, o2, o3]) :=
  err_at fun e dx H1 x1 fe fd => ⟨e, CN, rfl, rfl, true, Z.nn, itT (td_w Z.fN rfl fe fd (q.mono x1))⟩
theorem td_S (Z : KitX K D CN CS CT CM) {v : V} (q : Pr H "share" v De.rt) : ErrF CS "found" v H (eTryN (hTd K D CN CS CT CM) De [o0, o1, o2, o3]) :=
  err_at fun e dx H1 x1 fe fd => ⟨e, CS, rfl, rfl, false, Z.sn, itF ⟨true, Z.ss, itT (td_w Z.fS rfl fe fd (q.mono x1))⟩⟩
theorem td_T (Z : KitX K D CN CS CT CM) {v : V} (q : Pr H "trials" v De.rt) : ErrF CT "found" v H (eTryN (hTd K D CN CS CT CM) De [o0, o1, o2, o3]) :=
  err_at fun e dx H1 x1 fe fd => ⟨e, CT, rfl, rfl, false, Z.tn, itF ⟨false, Z.ts, itF ⟨true, Z.tt, itT (td_w Z.fT rfl fe fd (q.mono x1))⟩⟩⟩
theorem td_M (Z : KitX K D CN CS CT CM) {v : V} (q : Pr H "many" v De.rt) : ErrF CM "many" v H (eTryN (hTd K D CN CS CT CM) De [o0, o1, o2, o3]) :=
  err_at fun e dx H1 x1 fe fd => ⟨e, CM, rfl, rfl, false, Z.mn, itF ⟨false, Z.ms, itF ⟨false, Z.mt, itF ⟨true, Z.mm, itT (td_w Z.fM rfl fe fd (q.mono x1))⟩⟩⟩⟩
theorem td_E {t : Rl} {x : Addr} {z : Str} {ds : List PyData} (ru : Ru C H t (.ref x)) (et : t.told = .tuple (.str z :: ds)) (q : Gd H z De.rt) : tTdE C De [o0, o1, some (.ref x), o3] H := by
  refine rd_meth0 (by decide +kernel) ru (fun R r => ⟨_, rfl, r⟩) ⟨_, t, H, rfl, Ext.refl _, ru, fun b rb => ⟨by show 2 ≤ sizeLine; decide, fun l hl => ?_⟩⟩
  have x1 := Ext.new (o := .tup [.non, b]) hl
  rw [et] at rb
  have p := t.plain
  rw [et] at p
  exact q l b ds _ x1 upd_same (rb.mono x1) (by simpa [plainD, plainDs] using p)
end
end My
set_option Elab.async false
set_option linter.all false
set_option maxRecDepth 100000
set_option maxHeartbeats 1000000
set_option exponentiation.threshold 10000
namespace My
open PySem PySem.W L2
theorem Gd.mono {H H' : Hp} {z : Str} {Q : VK} (h : Gd H z Q) (x : Ext H H') : Gd H' z Q := fun a b ds H2 x2 => h a b ds H2 (x.trans x2)
section
variable {K : Frag} {C : Nat → Addr} {D CN CS CT CM : Addr} {H : Hp} {De : Ends} {o0 o1 o2 o3 : Option V} {p : Addr}
theorem rd_ixA {σ : St} {xs : List V} {k : Nat} {v : V} {t : TA} {R : List V → Hp → Prop} (s1 : σ[1]? = some (some (.ref p))) (hp : H p = some (.lst xs)) (e : xs[k]? = some v) (h : t σ H fun vs H1 => R (v :: vs) H1) : tCons (tIx1 K k) t σ H R :=
  ⟨_, s1, p, xs, k, v, rfl, rfl, SqL.of hp, atI_nat e, h⟩
theorem td_mk {σ : St} {D' : Ends} {c : Addr} {sp : Sp} {E : XK} {t : TA} {vs : List V} (ht : ∀ R : List V → Hp → Prop, R vs H → t σ H R) (h : ∀ x dx H1, H x = none → Ext H H1 → H1 x = some (.ins c dx []) → sp (.ref x :: (vs ++ [])) H1 (fun v H2 => v = .non ∧ D'.nx (σ.set 2 (some (.ref x))) H2) E) : tAsg (tMake c sp [] E t) (gName 2) D' σ H :=
  ht _ fun x dx hx hd ne => h x dx _ hx (made_ext hx hd ne) upd_same
theorem td_0 (Z : KitX K D CN CS CT CM) {v1 v2 : V} {d1 d2 : PyData} (hp : H p = some (.lst [v1, v2])) (r1 : Rds H v1 d1) (r2 : Rds H v2 d2) (q0 : (Cse.w0 v1 v2 d1 d2).due = none → Gd H "split" De.rt) (q1 : ∀ z v, (Cse.w0 v1 v2 d1 d2).due = some (z, v) → Pr H z v De.rt) :
    tTryN (tbTd K C CN CS CT CM) (hTd K D CN CS CT CM) { De with nx := tTdE C De } [some (.int 0), some (.ref p), o2, o3] H := by
  refine rd_wayT rfl (td_mk (vs := [v1, v2]) (fun R r => rd_ixA (k := 0) rfl hp rfl (rd_ixA (k := 1) rfl hp rfl r)) fun x dx H1 hx x1 h1 => ?_)
  refine ⟨x, v1, v2, d1, d2, dx, rfl, h1, r1.mono x1, r2.mono x1, fun e => td_N Z (Pr.mono (q1 _ _ (by simp [Cse.due, e])) x1), fun n e l1 l2 e2 => td_N Z (Pr.mono (q1 _ _ ?_) x1), fun n k e1 e2 ok H' kp ru => ⟨rfl, td_E (t := .one (.split n k)) ru rfl (Gd.mono (q0 ?_) (x1.kp hx kp))⟩⟩
  · subst e
    simp only [Cse.due, inD_of l1 l2, topD, e2, if_true]
    rfl
  · subst e1
    subst e2
    obtain ⟨a1, a2, a3, a4⟩ := ok
    simp only [Cse.due, inD_of a1 a2, topD, inD_of a3 a4, if_true]
theorem td_1 (Z : KitX K D CN CS CT CM) {v1 c : V} {d1 dc : PyData} (hp : H p = some (.lst [v1, c])) (r1 : Rds H v1 d1) (rc : Rds H c dc) (q0 : (Cse.w1 v1 c d1 dc).due = none → Gd H "pairs" De.rt) (q1 : ∀ z v, (Cse.w1 v1 c d1 dc).due = some (z, v) → Pr H z v De.rt) :
    tTryN (tbTd K C CN CS CT CM) (hTd K D CN CS CT CM) { De with nx := tTdE C De } [some (.int 1), some (.ref p), o2, o3] H := by
  refine rd_wayF rfl (by decide) (rd_wayT rfl (td_mk (vs := [v1, c]) (fun R r => rd_ixA (k := 0) rfl hp rfl (rd_ixA (k := 1) rfl hp rfl r)) fun x dx H1 hx x1 h1 => ?_))
  refine ⟨x, v1, c, d1, dc, dx, rfl, h1, r1.mono x1, rc.mono x1, fun e => td_N Z (Pr.mono (q1 _ _ (by simp [Cse.due, e])) x1), fun e e2 => td_S Z (Pr.mono (q1 _ _ (by simp [Cse.due, e, e2])) x1), fun n a b e1 e2 ok H' kp ru => ⟨rfl, td_E (t := .one (.pairs n a b)) ru rfl (Gd.mono (q0 ?_) (x1.kp hx kp))⟩⟩
  subst e1
  subst e2
  obtain ⟨a1, a2, a3⟩ := ok
  simp only [Cse.due, inD_of a1 a2, a3, if_true]
theorem td_2 (Z : KitX K D CN CS CT CM) {v1 c v3 : V} {d1 dc d3 : PyData} (hp : H p = some (.lst [v1, c, v3])) (r1 : Rds H v1 d1) (rc : Rds H c dc) (r3 : Rds H v3 d3) (q0 : (Cse.w2 v1 c v3 d1 dc d3).due = none → Gd H "coins" De.rt) (q1 : ∀ z v, (Cse.w2 v1 c v3 d1 dc d3).due = some (z, v) → Pr H z v De.rt) :
    tTryN (tbTd K C CN CS CT CM) (hTd K D CN CS CT CM) { De with nx := tTdE C De } [some (.int 2), some (.ref p), o2, o3] H := by
  refine rd_wayF rfl (by decide) (rd_wayF rfl (by decide) (rd_wayT rfl (td_mk (vs := [v1, c, v3]) (fun R r => rd_ixA (k := 0) rfl hp rfl (rd_ixA (k := 1) rfl hp rfl (rd_ixA (k := 2) rfl hp rfl r))) fun x dx H1 hx x1 h1 => ?_)))
  refine ⟨x, v1, c, v3, d1, dc, d3, dx, rfl, h1, r1.mono x1, rc.mono x1, r3.mono x1, fun e => td_N Z (Pr.mono (q1 _ _ (by simp [Cse.due, e])) x1), fun e e2 => td_S Z (Pr.mono (q1 _ _ (by simp [Cse.due, e, e2])) x1), fun e e2 e3 => td_N Z (Pr.mono (q1 _ _ (by simp [Cse.due, e, e2, e3])) x1), fun n a b f e1 e2 e3 ok H' kp ru => ⟨rfl, td_E (t := .one (.coins n a b f)) ru rfl (Gd.mono (q0 ?_) (x1.kp hx kp))⟩⟩
  subst e1
  subst e2
  subst e3
  obtain ⟨a1, a2, a3, a4, a5⟩ := ok
  simp only [Cse.due, inD_of a1 a2, a3, inD_of a4 a5, if_true]
theorem td_3 (Z : KitX K D CN CS CT CM) {v : V} {b : BD} (hp : H p = some (.lst [v])) (bd : BDx K C H v b) (q0 : (Cse.w3 v b).due = none → Gd H "blocks" De.rt) (q1 : ∀ z x, (Cse.w3 v b).due = some (z, x) → Pr H z x De.rt) :
    tTryN (tbTd K C CN CS CT CM) (hTd K D CN CS CT CM) { De with nx := tTdE C De } [some (.int 3), some (.ref p), o2, o3] H := by
  refine rd_wayF rfl (by decide) (rd_wayF rfl (by decide) (rd_wayF rfl (by decide) (rd_wayT rfl (td_mk (vs := [v]) (fun R r => rd_ixA (k := 0) rfl hp rfl r) fun x dx H1 hx x1 h1 => ?_))))
  refine ⟨x, v, dx, H, rfl, h1, x1, hx, ?_⟩
  cases b with
  | trials =>
    rcases bd with nk | ⟨a, xs, bs, rfl, ha, l, bk, ab⟩
    · exact .inl ⟨nk, fun H' x' => td_T Z (Pr.mono (q1 _ _ rfl) (x1.trans x'))⟩
    · exact .inr (.inl ⟨a, xs, bs, rfl, ha, by omega, bk, ab, fun H' x' => td_T Z (Pr.mono (q1 _ _ rfl) (x1.trans x'))⟩)
  | many n =>
    obtain ⟨a, xs, rs, rfl, ha, al, l1, l6, ok, g, rfl⟩ := bd
    exact .inr (.inr ⟨a, xs, rs, rfl, ha, al, l1, l6, ok, fun _ H' x' => td_M Z (Pr.mono (q1 _ _ rfl) (x1.trans x')), fun g' => absurd g (by omega)⟩)
  | good rs =>
    obtain ⟨a, xs, rfl, ha, al, l1, l6, ok, g⟩ := bd
    exact .inr (.inr ⟨a, xs, rs, rfl, ha, al, l1, l6, ok, fun g' => absurd g (by omega), fun _ H' kp ru => ⟨rfl, td_E (t := .blocks rs) ru rfl (Gd.mono (q0 rfl) (x1.kp hx kp))⟩⟩)
theorem td_4 (Z : KitX K D CN CS CT CM) {u v2 : V} {t : Rl} {d2 : PyData} (hp : H p = some (.lst [u, v2])) (ru0 : Ru C H t u) (ok0 : t.ok) (r2 : Rds H v2 d2) (q0 : (Cse.w4 u v2 t d2).due = none → Gd H "first" De.rt) (q1 : ∀ z v, (Cse.w4 u v2 t d2).due = some (z, v) → Pr H z v De.rt) :
    tTryN (tbTd K C CN CS CT CM) (hTd K D CN CS CT CM) { De with nx := tTdE C De } [some (.int 4), some (.ref p), o2, o3] H := by
  refine rd_wayF rfl (by decide) (rd_wayF rfl (by decide) (rd_wayF rfl (by decide) (rd_wayF rfl (by decide) (td_mk (vs := [u, v2]) (fun R r => rd_ixA (k := 0) rfl hp rfl (rd_ixA (k := 1) rfl hp rfl r)) fun x dx H1 hx x1 h1 => ?_))))
  refine ⟨x, u, v2, t, d2, dx, H, rfl, h1, x1, hx, ru0, Rl.sm ok0, r2, fun e => td_N Z (Pr.mono (q1 _ _ (by simp [Cse.due, e])) x1), fun m e l1 l2 H' kp ru => ⟨rfl, td_E (t := .first t m) ru rfl (Gd.mono (q0 ?_) (x1.kp hx kp))⟩⟩
  subst e
  simp only [Cse.due, inD_of l1 l2, if_true]
end
section
variable {P : Program} {w : World} {K : Frag} {mg : Str → Option Value} {base : Heap} {C : Nat → Addr} {CN CS CT CM D f0 f1 f2 f3 f4 f : Addr} {e0 e1 e2 e3 e4 fd : FuncData}
theorem ok_td (F : Fun K "_law_tried" "_law_tried" sTd f fd) (L : Mks P w K mg base C CN CS CT CM f0 f1 f2 f3 f4 e0 e1 e2 e3 e4) (M : Ms P w K mg base C) (Z : KitX K D CN CS CT CM) (mN : mg "NoNumber" = some (.ref CN)) (mS : mg "NoShare" = some (.ref CS)) (mT : mg "NoTrials" = some (.ref CT)) (mM : mg "TooMany" = some (.ref CM)) (mD : mg "DealError" = some (.ref D)) : FnOk P w K mg base CX0 8 f fd ["_law_way", "_law_things"] (spTd K C) := by
  refine F.ok scTd (fun vs H Q E h => ?_) (fun cdv A outer s H vs Q E hr h => ?_)
  · obtain ⟨_, _, rfl, _⟩ := h
    rfl
  obtain ⟨c, p, rfl, hp, ok, q0, q1⟩ := h
  refine okBxL (td_der L M Z.cN Z.cS Z.cT Z.cM Z.cD mN mS mT mM mD hr) ⟨?_⟩
  refine rd_seq ?_
  cases c with
  | w0 v1 v2 d1 d2 => exact td_0 Z hp ok.1 ok.2.2.1 q0 q1
  | w1 v1 c d1 dc => exact td_1 Z hp ok.1 ok.2.2.1 q0 q1
  | w2 v1 c v3 d1 dc d3 => exact td_2 Z hp ok.1 ok.2.2.1 ok.2.2.2.2.1 q0 q1
  | w3 v b => exact td_3 Z hp ok q0 q1
  | w4 u v2 t d2 => exact td_4 Z hp ok.1 ok.2.1 ok.2.2.1 q0 q1
end
end My
set_option Elab.async false
set_option linter.all false
set_option maxRecDepth 100000
set_option maxHeartbeats 1000000
set_option exponentiation.threshold 10000
namespace My
open PySem PySem.W L2
def Sb (K : Frag) (H : Hp) (v : V) : Prop := Slf H v ∧ ∃ t b, Kd K H v t ∧ kitOne K t (.type "bool") = some b
theorem Sb.ext {K : Frag} {H H' : Hp} {v : V} (h : Sb K H v) (x : Ext H H') : Sb K H' v := by
  obtain ⟨s, t, b, k, e⟩ := h
  exact ⟨s.ext x, t, b, k.ext x, e⟩
theorem sb_rds {K : Frag} {H : Hp} {v : V} {d : PyData} (r : Rds H v d) : Sb K H v := by
  refine ⟨?_, _, _, r.kd, r.isB⟩
  cases r with
  | non => exact .inr ⟨_, .non, rfl, by simp [PyData.depth], rfl⟩
  | bl b => exact .inr ⟨_, .bl b, rfl, by simp [PyData.depth], rfl⟩
  | int i => exact .inr ⟨_, .int i, rfl, by simp [PyData.depth], rfl⟩
  | str x => exact .inr ⟨_, .str x, rfl, by simp [PyData.depth], rfl⟩
  | lst _ _ => exact .inl ⟨_, rfl⟩
  | tup _ _ => exact .inl ⟨_, rfl⟩
  | dic0 _ => exact .inl ⟨_, rfl⟩
  | dic _ _ => exact .inl ⟨_, rfl⟩
theorem sb_rs {K : Frag} {C : Nat → Addr} {CR : Addr} {H : Hp} {v : V} (Z : KR K C CR) (h : RsTh K C H v) : Sb K H v := by
  rcases h with ⟨a, ws, rfl, h, l, i⟩ | ⟨a, ws, rfl, h, l, i⟩ | ⟨r, ru, ok⟩ | ⟨a, rfl, h⟩ | ⟨d, r, p, _, nl⟩
  · exact ⟨.inl ⟨a, rfl⟩, _, _, .inl (.lst h), rfl⟩
  · exact ⟨.inl ⟨a, rfl⟩, _, _, .inl (.tup h), rfl⟩
  · obtain ⟨a, rfl⟩ := Ru.ref ru
    exact ⟨.inl ⟨a, rfl⟩, _, _, ru.kd Z, Z.kb _ (Rl.kind_lt _)⟩
  · exact ⟨.inl ⟨a, rfl⟩, _, _, .inl (.dK h), rfl⟩
  · exact sb_rds r
section
variable {P : Program} {w : World} {K : Frag} {mg : Str → Option Value} {base : Heap} {C : Nat → Addr} {CR : Addr}
abbrev sRi : Stmt := top 50
abbrev NRi : List Str := ["_law_way", "_law_things", "_law_due_here", "_law_found"]
theorem scRi : FnScope NRi ["_law_way", "_law_things"] (defScope sRi) := ⟨rfl, rfl, rfl, by decide +kernel, rfl, by decide +kernel, by decide +kernel⟩
def spRi (K : Frag) (C : Nat → Addr) : Sp := fun vs H Q _ => ∃ (c : Cse) (p : Addr), vs = [.int c.way, .ref p] ∧ H p = some (.lst c.things) ∧ c.ok K C H ∧ (∀ z v, c.due = some (z, v) → Sb K H v) ∧ ∀ H', Ext H H' → Q (.bl true) H'
def tIxT (K : Frag) (te : TE) (k : Int) : TE := tOp (rIxT K) te (tI k)
def tWords : TE := tLst (tCons (tC (.str "split")) (tCons (tC (.str "pairs")) (tCons (tC (.str "coins")) (tCons (tC (.str "blocks")) (tCons (tC (.str "first")) tNil)))))
def tRi2 (K : Frag) : TS := tIfS (tB (tIsN (tVar 2))) (tRet (tAndV (tIsN (tIxT K (tVar 3) 0)) (tOp rEq (tIxT K (tIxT K (tVar 3) 1) 0) (tOp (rIxL K) tWords (tVar 0))))) tNext
def tIsB (K : Frag) (i : Nat) : TE := tCB (rIsK K) (tCons (tIxT K (tVar i) 1) (tCons (tC (.ty "bool")) tNil))
def tRi3 (K : Frag) : TS := tRet (tAndV (tOp (rEqR K id) (tVar 3) (tVar 2)) (tOp rEq (tIsB K 3) (tIsB K 2)))
def tRi (K : Frag) (C : Nat → Addr) : TS := tSeq (tAsg (tCall (spDu K C) [] E0 (tCons (tVar 0) (tCons (tVar 1) tNil))) (gName 2)) (tSeq (tAsg (tCall (spTd K C) [] E0 (tCons (tVar 0) (tCons (tVar 1) tNil))) (gName 3)) (tSeq (tRi2 K) (tRi3 K)))
variable {f a1 a2 : Addr} {d1 d2 : FuncData} {cdv : Value} {A : Around} {outer : List Env} {s : Shared} {H : Hp} {E : XK}
theorem ri_der (N : IsT K) (A1 : Df P w K mg base CX0 3 "_law_due" ["_law_way", "_law_things"] (spDu K C) a1 d1) (A2 : Df P w K mg base CX0 8 "_law_tried" ["_law_way", "_law_things"] (spTd K C) a2 d2) (mi : mg "isinstance" = none) (mb : mg "bool" = none)
    (hr : Room 8 (A.deeper (PyProof.Rows.envOfC "_law_right" (defScope sRi) s.heap.objs.size f cdv))) : Bx (PSs (cxOf CX0 P w K mg base NRi "_law_right" (defScope sRi) f cdv A outer s H E).nox (defBody sRi) (tRi K C)) := by
  have nd := scRi.nd
  have hr3 : Room 3 _ := hr.mono (by decide)
  have hu := hr.units
  exact bxs_cons (bx_set (i := 2) nd rfl (Or.inl rfl) ⟨pe_call A1.G hr3 rfl A1.m A1.kp A1.b .nil pass0 (pa_cons (pv 0) (pa_cons (pv 1) pa_nil))⟩)
    (bxs_cons (bx_set (i := 3) nd rfl (Or.inl rfl) ⟨pe_call A2.G hr rfl A2.m A2.kp A2.b .nil pass0 (pa_cons (pv 0) (pa_cons (pv 1) pa_nil))⟩)
    (bxs_cons (bx_if ⟨pt_cmp (pc_isN (pv 2))⟩ (bxs_one (bx_ret ⟨pe_and (pe_cmp (pc_isN (pe_ix ix_tup (pv 3) pe_int (fun _ _ => rfl)))) (pe_one (pe_cmpR op_eq (pe_ix ix_tup (pe_ix ix_tup (pv 3) pe_int (fun _ _ => rfl)) pe_int (fun _ _ => rfl)) (pe_ix ix_list (pe_lst (pa_cons pe_str (pa_cons pe_str (pa_cons pe_str (pa_cons pe_str (pa_cons pe_str pa_nil)))))) (pv 0) (fun _ _ => rfl)) (nomark _)))⟩)) bxs_nil)
    (bxs_one (bx_ret ⟨pe_and (pe_cmpR (op_eqR hu) (pv 3) (pv 2) (nomark _)) (pe_one (pe_cmpR op_eq (pe_callB (call_isK N) rfl mi PyProof.Rows.boot_isinstance (pa_cons (pe_ix ix_tup (pv 3) pe_int (fun _ _ => rfl)) (pa_cons (pe_ty rfl mb PyProof.Rows.boot_bool) pa_nil))) (pe_callB (call_isK N) rfl mi PyProof.Rows.boot_isinstance (pa_cons (pe_ix ix_tup (pv 2) pe_int (fun _ _ => rfl)) (pa_cons (pe_ty rfl mb PyProof.Rows.boot_bool) pa_nil))) (nomark _)))⟩))))
end
end My
set_option Elab.async false
set_option linter.all false
set_option maxRecDepth 100000
set_option maxHeartbeats 1000000
set_option exponentiation.threshold 10000
namespace My
open PySem PySem.W L2
section
variable {K : Frag} {C : Nat → Addr} {H H' : Hp}
theorem BlkAll.ext {xs : List V} {bs : List Bool} (h : BlkAll K C H xs bs) (x : Ext H H') : BlkAll K C H' xs bs := ⟨h.1, fun i v b h1 h2 => (h.2 i v b h1 h2).ext x⟩
theorem BDx.ext {v : V} {b : BD} (h : BDx K C H v b) (x : Ext H H') : BDx K C H' v b := by
  cases b with
  | trials =>
    rcases h with h | ⟨a, xs, bs, e, ha, l, bk, ab⟩
    · exact .inl (h.ext x)
    · exact .inr ⟨a, xs, bs, e, x _ _ ha, l, bk.ext x, ab⟩
  | many n =>
    obtain ⟨a, xs, rs, e, ha, al, r⟩ := h
    exact ⟨a, xs, rs, e, x _ _ ha, al.ext x, r⟩
  | good rs =>
    obtain ⟨a, xs, e, ha, al, r⟩ := h
    exact ⟨a, xs, e, x _ _ ha, al.ext x, r⟩
theorem Cse.ok_ext {c : Cse} (h : c.ok K C H) (x : Ext H H') : c.ok K C H' := by
  cases c with
  | w0 v1 v2 d1 d2 => exact ⟨h.1.mono x, h.2.1, h.2.2.1.mono x, h.2.2.2⟩
  | w1 v1 c d1 dc => exact ⟨h.1.mono x, h.2.1, h.2.2.1.mono x, h.2.2.2⟩
  | w2 v1 c v3 d1 dc d3 => exact ⟨h.1.mono x, h.2.1, h.2.2.1.mono x, h.2.2.2.1, h.2.2.2.2.1.mono x, h.2.2.2.2.2⟩
  | w3 v b => exact BDx.ext h x
  | w4 u v2 t d2 => exact ⟨h.1.ext x, h.2.1, h.2.2.1.mono x, h.2.2.2⟩
theorem way_word (c : Cse) : atI [V.str "split", .str "pairs", .str "coins", .str "blocks", .str "first"] c.way = some (.str c.word) := by
  cases c with
  | w0 => exact atI_nat (j := 0) rfl
  | w1 => exact atI_nat (j := 1) rfl
  | w2 => exact atI_nat (j := 2) rfl
  | w3 => exact atI_nat (j := 3) rfl
  | w4 => exact atI_nat (j := 4) rfl
theorem rd_ri {De : Ends} {c : Cse} {p : Addr} (hp : H p = some (.lst c.things)) (ok : c.ok K C H) (sb : ∀ z v, c.due = some (z, v) → Sb K H v) (q : ∀ H', Ext H H' → De.rt (.bl true) H') : tRi K C De [some (.int c.way), some (.ref p), none, none] H := by
  refine ⟨_, rfl, _, rfl, c, p, rfl, hp, ok, fun e H1 x1 => ?_, fun z v e a1 H1 x1 h1 => ?_⟩
  · refine ⟨_, rfl, _, rfl, c, p, rfl, x1 _ _ hp, Cse.ok_ext ok x1, fun _ a b ds H2 x2 ha rb pl => ?_, fun z v e' => (by rw [e] at e'; cases e')⟩
    obtain ⟨m, xs, rfl, hm, rm⟩ := rds_tup rb
    cases rm with
    | cons r0 rm =>
      cases r0
      refine ⟨_, rfl, _, rfl, itT ⟨_, rfl, a, _, 0, _, rfl, rfl, SqT.of ha, atI_nat (j := 0) rfl, _, rfl, itT ?_⟩⟩
      refine ⟨_, rfl, a, _, 1, _, rfl, rfl, SqT.of ha, atI_nat (j := 1) rfl, m, _, 0, _, rfl, rfl, SqT.of hm, atI_nat (j := 0) rfl, by show 5 ≤ sizeLine; decide, fun l hl => ⟨_, rfl, l, _, c.way, _, rfl, rfl, SqL.of upd_same, way_word c, rfl, ?_⟩⟩
      rw [decide_eq_true rfl]
      exact q _ ((x1.trans x2).trans (Ext.new hl))
  · refine ⟨_, rfl, _, rfl, c, p, rfl, x1 _ _ hp, Cse.ok_ext ok x1, fun e' => (by rw [e] at e'; cases e'), fun z' v' e' a2 H2 x2 h2 => ?_⟩
    rw [e] at e'
    cases e'
    obtain ⟨sl, t, b, kd, eb⟩ := (sb z v e).ext (x1.trans x2)
    have h1' := x2 _ _ h1
    refine ⟨_, rfl, _, rfl, itF ?_⟩
    refine ⟨_, rfl, _, rfl, a2, a1, [.str z, v], [.str z, v], fun _ => true, rfl, rfl, .inl ⟨SqT.of h2, SqT.of h1'⟩, fun j x y hx hy => ?_, true, rfl, itT ?_⟩
    · match j, hx, hy with
      | 0, hx, hy => cases hx; cases hy; exact .inr ⟨.str z, .str z, .str z, .str z, rfl, rfl, by simp [PyData.depth], by simp [eqD]⟩
      | 1, hx, hy => cases hx; cases hy; exact sl.eq
    · refine ⟨_, rfl, a2, _, 1, _, rfl, rfl, SqT.of h2, atI_nat (j := 1) rfl, v, "bool", t, b, rfl, kd, eb, _, rfl, a1, _, 1, _, rfl, rfl, SqT.of h1', atI_nat (j := 1) rfl, v, "bool", t, b, rfl, kd, eb, rfl, ?_⟩
      rw [decide_eq_true rfl]
      exact q _ (x1.trans x2)
end
section
variable {P : Program} {w : World} {K : Frag} {mg : Str → Option Value} {base : Heap} {C : Nat → Addr} {f a1 a2 : Addr} {fd d1 d2 : FuncData}
theorem ok_ri (N : IsT K) (F : Fun K "_law_right" "_law_right" sRi f fd) (A1 : Df P w K mg base CX0 3 "_law_due" ["_law_way", "_law_things"] (spDu K C) a1 d1) (A2 : Df P w K mg base CX0 8 "_law_tried" ["_law_way", "_law_things"] (spTd K C) a2 d2) (mi : mg "isinstance" = none) (mb : mg "bool" = none) : FnOk P w K mg base CX0 9 f fd ["_law_way", "_law_things"] (spRi K C) := by
  refine F.ok scRi (fun vs H Q E h => ?_) (fun cdv A outer s H vs Q E hr h => ?_)
  · obtain ⟨_, _, rfl, _⟩ := h
    rfl
  obtain ⟨c, p, rfl, hp, ok, sb, q⟩ := h
  exact okBxL (ri_der N A1 A2 mi mb hr) ⟨rd_ri hp ok sb q⟩
end
end My
set_option Elab.async false
set_option linter.all false
set_option maxRecDepth 100000
set_option maxHeartbeats 1000000
set_option exponentiation.threshold 10000
namespace My
open PySem PySem.W L2
theorem cut_ints {ns : List Int} {lo hi : Option Int} : ∀ v ∈ cutV (ns.map V.int) lo hi, ∃ i, v = V.int i := by
  intro v hv
  unfold cutV at hv
  have h1 := List.mem_of_mem_drop (List.mem_of_mem_take hv)
  obtain ⟨i, _, rfl⟩ := List.mem_map.mp h1
  exact ⟨i, rfl⟩
def tInts : List Int → TA
  | [] => tNil
  | n :: ns => tCons (tC (.int n)) (tInts ns)
def tRFa : TS := tRet (tC (.bl false))
section
variable {P : Program} {w : World} {K : Frag} {mg : Str → Option Value} {base : Heap} {C : Nat → Addr} {CR : Addr}
abbrev sLaw : Stmt := top 51
abbrev stLw (i : Nat) : Stmt := (defBody sLaw).getD i (.Pass ⟨0, 0, 0, 0⟩)
def forBody : Stmt → List Stmt
  | .For _ _ b _ _ => b
  | _ => []
abbrev stB (i : Nat) : Stmt := (forBody (stLw 0)).getD i (.Pass ⟨0, 0, 0, 0⟩)
abbrev NLw : List Str := ["_law_script", "_law_cell", "_law_xs", "_law_pair", "_law_rules_here", "_law_kept", "_law_blocks", "_law_base", "_law_some", "_law_way"]
theorem scLw : FnScope NLw ["_law_script"] (defScope sLaw) := ⟨rfl, rfl, rfl, by decide +kernel, rfl, by decide +kernel, by decide +kernel⟩
def tCutX (K : Frag) (a b : TO) : TE := tSl (rSlL K) (tVar 2) a b
def tP (i : Int) : TO := tPart (tC (.int i))
def tSzL : TE := tOp rCat (tOp rCat (tLst (tInts [60, 14, 60, 14, 24, 24])) (tOp rRep (tLst (tInts [6])) (tC (.int 6)))) (tLst (tInts [9, 9, 60, 5]))
def tB0 (K : Frag) : TS := tAsg (tCall (spRow K) [] E0 (tCons (tVar 1) (tCons tSzL tNil))) (gName 2)
def tNu2 (K : Frag) (a b : Int) : TE := tCall spNu [] E0 (tCons (tCutX K (tP a) (tP b)) tNil)
def tB1 (K : Frag) : TS := tAsg (tLst (tCons (tNu2 K 0 2) (tCons (tNu2 K 2 4) tNil))) (gName 3)
def tB2 (K : Frag) (C : Nat → Addr) : TS := tAsg (tCall (spRs K C) [] E0 (tCons (tCutX K (tP 6) tNoPart) tNil)) (gName 4)
def rLsO (K : Frag) : List V → Hp → VK → Prop := fun xs H Q => ∃ p ys, xs = [.ref p] ∧ (SqL K H p ys ∨ SqT K H p ys) ∧ ∀ l, H l = none → Q (.ref l) (upd H l (.lst ys))
def tB3 (K : Frag) : TS := tAsg (tIf (tB (tCB (rIsK K) (tCons (tVar 4) (tCons (tC (.ty "list")) tNil)))) (tCB (rLsO K) (tCons (tVar 4) tNil)) (tVar 4)) (gName 5)
def tMkB2 (K : Frag) (C : Nat → Addr) (CN CS CT CM : Addr) : TE := tMake (C 3) (spBlI K C CT CM) [] E0 (tCons (tLst (tCons (tMkS C CN 2 1) (tCons (tMkC C CN CS 3 1 2 1) tNil))) tNil)
def tB4 (K : Frag) (C : Nat → Addr) (CN CS CT CM : Addr) : TS := tAsg (tMkB2 K C CN CS CT CM) (gName 6)
def tBsA (C : Nat → Addr) (CN CS : Addr) : TA := tCons (tMkS C CN 5 2) (tCons (tMkP C CN CS 3 1 2) (tCons (tVar 6) (tCons (tMkF1 C CN 9 4 6) tNil)))
def tB5 (K : Frag) (C : Nat → Addr) (CN CS : Addr) : TS := tAsg (tOp (rIxL K) (tLst (tBsA C CN CS)) (tXsM K 2 4 4)) (gName 7)
def tPr (K : Frag) (k : Int) : TE := tOp (rIxL K) (tVar 3) (tC (.int k))
def tCoX (K : Frag) (k : Int) : TE := tCall spCo [] E0 (tCons (tCutX K (tP k) tNoPart) tNil)
def tB6 (K : Frag) : TS := tAsg (tLst (tCons (tVar 3) (tCons (tLst (tCons (tPr K 0) (tCons (tCoX K 4) tNil))) (tCons (tLst (tCons (tPr K 0) (tCons (tCoX K 5) (tCons (tPr K 1) tNil)))) tNil)))) (gName 8)
def tB7 (K : Frag) : TS := tAsg (tOp rCat (tVar 8) (tLst (tCons (tLst (tCons (tVar 4) tNil)) (tCons (tLst (tCons (tVar 7) (tCons (tPr K 1) tNil))) tNil)))) (gName 8)
def tB8b (K : Frag) (C : Nat → Addr) : TS := tIfS (tNot (tB (tCall (spRi K C) [] E0 (tCons (tVar 9) (tCons (tOp (rIxL K) (tVar 8) (tVar 9)) tNil))))) tRFa tNext
def tB8 (K : Frag) (C : Nat → Addr) : TS := tFor (iRng1 (tCons (tC (.int 5)) tNil)) (gName 9) (tB8b K C)
def rNeA (K : Frag) : R2 := rOr (rEqR K not) (rOr (rEqD not) (rOr (rNeSelf K) rNeDic))
def tB9 (K : Frag) : TS := tIfS (tB (tOp (rNeA K) (tVar 4) (tVar 5))) tRFa tNext
def tBody (K : Frag) (C : Nat → Addr) (CN CS CT CM : Addr) : TS := tSeq (tB0 K) (tSeq (tB1 K) (tSeq (tB2 K C) (tSeq (tB3 K) (tSeq (tB4 K C CN CS CT CM) (tSeq (tB5 K C CN CS) (tSeq (tB6 K) (tSeq (tB7 K) (tSeq (tB8 K C) (tB9 K)))))))))
def tSc (K : Frag) : TE := tOp rCat (tSl (rSlL K) (tVar 0) tNoPart (tPart (tC (.int 20)))) (tLst (tInts [4, 9]))
def tLw (K : Frag) (C : Nat → Addr) (CN CS CT CM : Addr) : TS := tSeq (tFor (iList K (tSc K)) (gName 1) (tBody K C CN CS CT CM)) (tRet (tC (.bl true)))
variable {f : Addr} {cdv : Value} {A : Around} {outer : List Env} {s : Shared} {H : Hp} {E : XK}
variable {CN CS CT CM f0 f1 f2 f3 f4 : Addr} {e0 e1 e2 e3 e4 : FuncData} {a0 a1 a2 a3 a4 : Addr} {d0 d1 d2 d3 d4 : FuncData}
structure Dl (P : Program) (w : World) (K : Frag) (mg : Str → Option Value) (base : Heap) (C : Nat → Addr) (CN CS CT CM f0 f1 f2 f3 f4 : Addr) (e0 e1 e2 e3 e4 : FuncData) (a0 a1 a2 a3 a4 : Addr) (d0 d1 d2 d3 d4 : FuncData) : Prop where
  L : Mks P w K mg base C CN CS CT CM f0 f1 f2 f3 f4 e0 e1 e2 e3 e4
  N : IsT K
  ro : Df P w K mg base CX0 1 "_law_row" ["_law_cell", "_law_sizes"] (spRow K) a0 d0
  nu : Df P w K mg base CX0 1 "_law_number" ["_law_xs"] spNu a1 d1
  rs : Df P w K mg base CX0 8 "_law_rules" ["_law_xs"] (spRs K C) a2 d2
  co : Df P w K mg base CX0 1 "_law_coin" ["_law_xs"] spCo a3 d3
  ri : Df P w K mg base CX0 9 "_law_right" ["_law_way", "_law_things"] (spRi K C) a4 d4
  mi : mg "isinstance" = none
  ml : mg "list" = none
  mr : mg "range" = none
section
variable (D : Dl P w K mg base C CN CS CT CM f0 f1 f2 f3 f4 e0 e1 e2 e3 e4 a0 a1 a2 a3 a4 d0 d1 d2 d3 d4) (hr : Room 9 (A.deeper (PyProof.Rows.envOfC "law" (defScope sLaw) s.heap.objs.size f cdv)))
include D hr
theorem b_0 : Bx (PS (cxOf CX0 P w K mg base NLw "law" (defScope sLaw) f cdv A outer s H E).nox (stB 0) (tB0 K)) := by
  have hr1 : Room 1 _ := hr.mono (by decide)
  exact bx_set (i := 2) scLw.nd rfl (Or.inl rfl) ⟨pe_call D.ro.G hr1 rfl D.ro.m D.ro.kp D.ro.b .nil pass0 (pa_cons (pv 1) (pa_cons (pe_op op_cat (pe_op op_cat (pe_lst (pa_cons pe_int (pa_cons pe_int (pa_cons pe_int (pa_cons pe_int (pa_cons pe_int (pa_cons pe_int pa_nil))))))) (pe_op op_rep (pe_lst (pa_cons pe_int pa_nil)) pe_int)) (pe_lst (pa_cons pe_int (pa_cons pe_int (pa_cons pe_int (pa_cons pe_int pa_nil)))))) pa_nil))⟩
theorem b_1 : Bx (PS (cxOf CX0 P w K mg base NLw "law" (defScope sLaw) f cdv A outer s H E).nox (stB 1) (tB1 K)) := by
  have hr1 : Room 1 _ := hr.mono (by decide)
  exact bx_set (i := 3) scLw.nd rfl (Or.inl rfl) ⟨pe_lst (pa_cons (pe_call D.nu.G hr1 rfl D.nu.m D.nu.kp D.nu.b .nil pass0 (pa_cons (pe_slice sl_list (pv 2) (po_some pe_int) (po_some pe_int)) pa_nil)) (pa_cons (pe_call D.nu.G hr1 rfl D.nu.m D.nu.kp D.nu.b .nil pass0 (pa_cons (pe_slice sl_list (pv 2) (po_some pe_int) (po_some pe_int)) pa_nil)) pa_nil))⟩
theorem b_2 : Bx (PS (cxOf CX0 P w K mg base NLw "law" (defScope sLaw) f cdv A outer s H E).nox (stB 2) (tB2 K C)) := by
  have hr8 : Room 8 _ := hr.mono (by decide)
  exact bx_set (i := 4) scLw.nd rfl (Or.inl rfl) ⟨pe_call D.rs.G hr8 rfl D.rs.m D.rs.kp D.rs.b .nil pass0 (pa_cons (pe_slice sl_list (pv 2) (po_some pe_int) po_none) pa_nil)⟩
theorem b_3 : Bx (PS (cxOf CX0 P w K mg base NLw "law" (defScope sLaw) f cdv A outer s H E).nox (stB 3) (tB3 K)) :=
  bx_set (i := 5) scLw.nd rfl (Or.inl rfl) ⟨pe_ifExp (pt_val (pe_callB (call_isK D.N) rfl D.mi PyProof.Rows.boot_isinstance (pa_cons (pv 4) (pa_cons (pe_ty rfl D.ml PyProof.Rows.boot_list) pa_nil)))) (pe_callTy call_list_of rfl D.ml PyProof.Rows.boot_list (pa_cons (pv 4) pa_nil)) (pv 4)⟩
theorem b_4 : Bx (PS (cxOf CX0 P w K mg base NLw "law" (defScope sLaw) f cdv A outer s H E).nox (stB 4) (tB4 K C CN CS CT CM)) := by
  have hr5 : Room 5 _ := hr.mono (by decide)
  have hr7 : Room 7 _ := hr.mono (by decide)
  exact bx_set (i := 6) scLw.nd rfl (Or.inl rfl) ⟨pe_make D.L.k3 D.L.g3 hr5 rfl D.L.m3 D.L.b3 .nil passN (pa_cons (pe_lst (pa_cons (pe_make D.L.k0 D.L.g0 hr5 rfl D.L.m0 D.L.b0 .nil passN (pa_cons pe_int (pa_cons pe_int pa_nil))) (pa_cons (pe_make D.L.k2 D.L.g2 hr7 rfl D.L.m2 D.L.b2 .nil passN (pa_cons pe_int (pa_cons (pe_tup (pa_cons pe_int (pa_cons pe_int pa_nil))) (pa_cons pe_int pa_nil)))) pa_nil))) pa_nil)⟩
theorem b_5 : Bx (PS (cxOf CX0 P w K mg base NLw "law" (defScope sLaw) f cdv A outer s H E).nox (stB 5) (tB5 K C CN CS)) := by
  have hr5 : Room 5 _ := hr.mono (by decide)
  have hr7 : Room 7 _ := hr.mono (by decide)
  exact bx_set (i := 7) scLw.nd rfl (Or.inl rfl) ⟨pe_ix ix_list (pe_lst (pa_cons (pe_make D.L.k0 D.L.g0 hr5 rfl D.L.m0 D.L.b0 .nil passN (pa_cons pe_int (pa_cons pe_int pa_nil))) (pa_cons (pe_make D.L.k1 D.L.g1 hr7 rfl D.L.m1 D.L.b1 .nil passN (pa_cons pe_int (pa_cons (pe_tup (pa_cons pe_int (pa_cons pe_int pa_nil))) pa_nil))) (pa_cons (pv 6)
    (pa_cons (pe_make D.L.k4 D.L.g4 hr5 rfl D.L.m4 D.L.b4 .nil passN (pa_cons (pe_make D.L.k0 D.L.g0 hr5 rfl D.L.m0 D.L.b0 .nil passN (pa_cons pe_int (pa_cons pe_int pa_nil))) (pa_cons pe_int pa_nil))) pa_nil))))) (pe_op op_mod (pe_ix ix_list (pv 2) pe_int (fun _ _ => rfl)) pe_int) (fun _ _ => rfl)⟩
theorem b_6 : Bx (PS (cxOf CX0 P w K mg base NLw "law" (defScope sLaw) f cdv A outer s H E).nox (stB 6) (tB6 K)) := by
  have hr1 : Room 1 _ := hr.mono (by decide)
  exact bx_set (i := 8) scLw.nd rfl (Or.inl rfl) ⟨pe_lst (pa_cons (pv 3) (pa_cons (pe_lst (pa_cons (pe_ix ix_list (pv 3) pe_int (fun _ _ => rfl)) (pa_cons (pe_call D.co.G hr1 rfl D.co.m D.co.kp D.co.b .nil pass0 (pa_cons (pe_slice sl_list (pv 2) (po_some pe_int) po_none) pa_nil)) pa_nil)))
    (pa_cons (pe_lst (pa_cons (pe_ix ix_list (pv 3) pe_int (fun _ _ => rfl)) (pa_cons (pe_call D.co.G hr1 rfl D.co.m D.co.kp D.co.b .nil pass0 (pa_cons (pe_slice sl_list (pv 2) (po_some pe_int) po_none) pa_nil)) (pa_cons (pe_ix ix_list (pv 3) pe_int (fun _ _ => rfl)) pa_nil)))) pa_nil)))⟩
theorem b_7 : Bx (PS (cxOf CX0 P w K mg base NLw "law" (defScope sLaw) f cdv A outer s H E).nox (stB 7) (tB7 K)) :=
  bx_set (i := 8) scLw.nd rfl (Or.inl rfl) ⟨pe_op op_cat (pv 8) (pe_lst (pa_cons (pe_lst (pa_cons (pv 4) pa_nil)) (pa_cons (pe_lst (pa_cons (pv 7) (pa_cons (pe_ix ix_list (pv 3) pe_int (fun _ _ => rfl)) pa_nil))) pa_nil)))⟩
theorem b_8 : Bx (PS (cxOf CX0 P w K mg base NLw "law" (defScope sLaw) f cdv A outer s H E).nox (stB 8) (tB8 K C)) :=
  ⟨ps_for PassesOwn.never rfl (pi_range1 rfl D.mr (pa_cons pe_int pa_nil)) (pg_name (i := 9) scLw.nd rfl (Or.inl rfl)) (pss_one (ps_if (pt_not (pt_val (pe_call D.ri.G hr rfl D.ri.m D.ri.kp D.ri.b .nil pass0 (pa_cons (pv 9) (pa_cons (pe_ix ix_list (pv 8) (pv 9) (fun _ _ => rfl)) pa_nil))))) (pss_one (ps_ret pe_bl)) pss_nil))⟩
theorem b_9 : Bx (PS (cxOf CX0 P w K mg base NLw "law" (defScope sLaw) f cdv A outer s H E).nox (stB 9) (tB9 K)) := by
  have hu := hr.units
  exact ⟨ps_if (pt_cmpR (op_either (op_neR hu) (op_either (op_neD hu) (op_either (op_neSelf hu) (op_neDic hu)))) (pv 4) (pv 5) (nomark _)) (pss_one (ps_ret pe_bl)) pss_nil⟩
theorem body_der : Bx (PSs (cxOf CX0 P w K mg base NLw "law" (defScope sLaw) f cdv A outer s H E).nox (forBody (stLw 0)) (tBody K C CN CS CT CM)) :=
  bxs_cons (b_0 D hr) (bxs_cons (b_1 D hr) (bxs_cons (b_2 D hr) (bxs_cons (b_3 D hr) (bxs_cons (b_4 D hr) (bxs_cons (b_5 D hr) (bxs_cons (b_6 D hr) (bxs_cons (b_7 D hr) (bxs_cons (b_8 D hr) (bxs_one (b_9 D hr))))))))))
theorem law_0 : Bx (PS (cxOf CX0 P w K mg base NLw "law" (defScope sLaw) f cdv A outer s H E).nox (stLw 0) (tFor (iList K (tSc K)) (gName 1) (tBody K C CN CS CT CM))) := by
  obtain ⟨q⟩ := body_der D hr (f := f) (cdv := cdv) (A := A) (outer := outer) (s := s) (H := H) (E := E)
  exact ⟨ps_for PassesOwn.never rfl (pi_list (pe_op op_cat (pe_slice sl_list (pv 0) po_none (po_some pe_int)) (pe_lst (pa_cons pe_int (pa_cons pe_int pa_nil))))) (pg_name (i := 1) scLw.nd rfl (Or.inl rfl)) q⟩
theorem law_der : Bx (PSs (cxOf CX0 P w K mg base NLw "law" (defScope sLaw) f cdv A outer s H E).nox (defBody sLaw) (tLw K C CN CS CT CM)) :=
  bxs_cons (law_0 D hr) (bxs_one ⟨ps_ret pe_bl⟩)
end
end
end My
set_option Elab.async false
set_option linter.all false
set_option maxRecDepth 100000
set_option maxHeartbeats 1000000
set_option exponentiation.threshold 10000
namespace My
open PySem PySem.W L2
theorem Cse.sb {K : Frag} {C : Nat → Addr} {H : Hp} {c : Cse} (h : c.ok K C H) (h3 : ∀ v b, c = .w3 v b → Sb K H v) : ∀ z v, c.due = some (z, v) → Sb K H v := by
  intro z v e
  cases c with
  | w0 v1 v2 d1 d2 =>
    obtain ⟨r1, _, r2, _⟩ := h
    simp only [Cse.due] at e
    split at e
    · split at e
      · cases e
      · cases e; exact sb_rds r2
    · cases e; exact sb_rds r1
  | w1 v1 c d1 dc =>
    obtain ⟨r1, _, r2, _⟩ := h
    simp only [Cse.due] at e
    split at e
    · split at e
      · cases e
      · cases e; exact sb_rds r2
    · cases e; exact sb_rds r1
  | w2 v1 c v3 d1 dc d3 =>
    obtain ⟨r1, _, r2, _, r3, _⟩ := h
    simp only [Cse.due] at e
    split at e
    · split at e
      · split at e
        · cases e
        · cases e; exact sb_rds r3
      · cases e; exact sb_rds r2
    · cases e; exact sb_rds r1
  | w3 u b =>
    cases b with
    | trials => cases e; exact h3 _ _ rfl
    | many n => cases e; exact sb_rds (.int n)
    | good rs => cases e
  | w4 u v2 t d2 =>
    obtain ⟨_, _, r2, _⟩ := h
    simp only [Cse.due] at e
    split at e
    · cases e
    · cases e; exact sb_rds r2
def KpP (K : Frag) (C : Nat → Addr) (H : Hp) (v u : V) : Prop := (∃ a b ws, v = .ref a ∧ u = .ref b ∧ H a = some (.lst ws) ∧ H b = some (.lst ws) ∧ ∀ x ∈ ws, Item K C H x) ∨ (u = v ∧ RsTh K C H v)
theorem KpP.ext {K : Frag} {C : Nat → Addr} {H H' : Hp} {v u : V} (h : KpP K C H v u) (x : Ext H H') : KpP K C H' v u := by
  rcases h with ⟨a, b, ws, e1, e2, h1, h2, i⟩ | ⟨e, r⟩
  · exact .inl ⟨a, b, ws, e1, e2, x _ _ h1, x _ _ h2, fun w hw => Item.grows.ext x (i w hw)⟩
  · exact .inr ⟨e, RsTh.grows.ext x r⟩
theorem Item.eq {K : Frag} {C : Nat → Addr} {H : Hp} {v : V} (h : Item K C H v) : EqE H 20 v v true := by
  rcases h with ⟨r, ru, _⟩ | ⟨_, s⟩
  · obtain ⟨a, rfl⟩ := Ru.ref ru
    exact .inl ⟨a, rfl, rfl, rfl⟩
  · exact s.eq
theorem all_true (n : Nat) : ((List.range n).all fun _ => true) = true := by rw [List.all_eq_true]; exact fun _ _ => rfl
section
variable {K : Frag} {C : Nat → Addr} {CR CN CS CT CM : Addr} {H : Hp} {De : Ends} {σ : St}
theorem rows_ne {a b : Addr} {ws : List V} {Q : VK} (h : (SqT K H a ws ∧ SqT K H b ws) ∨ (SqL K H a ws ∧ SqL K H b ws)) (i : ∀ x ∈ ws, Item K C H x) (q : Q (.bl false) H) : rEqR K not (.ref a) (.ref b) H Q := by
  refine ⟨a, b, ws, ws, fun _ => true, rfl, rfl, h, fun j x y hx hy => ?_, ?_⟩
  · rw [hx] at hy
    cases hy
    exact (i x (List.mem_of_getElem? hx)).eq
  · rw [all_true]
    simp only [beq_self_eq_true, Bool.and_self, Bool.not_true]
    exact q
theorem rd_neA (cc : ∀ i, i < 5 → CmpC K (C i)) {v u : V} {Q : VK} (h : KpP K C H v u) (q : Q (.bl false) H) : rNeA K v u H Q := by
  rcases h with ⟨a, b, ws, rfl, rfl, h1, h2, i⟩ | ⟨rfl, r⟩
  · exact .inl (rows_ne (.inr ⟨SqL.of h1, SqL.of h2⟩) i q)
  rcases r with ⟨a, ws, rfl, h, l, i⟩ | ⟨a, ws, rfl, h, l, i⟩ | ⟨r, ru, ok⟩ | ⟨a, rfl, h⟩ | ⟨d, r, p, dp, nl⟩
  · exact .inl (rows_ne (.inr ⟨SqL.of h, SqL.of h⟩) i q)
  · exact .inl (rows_ne (.inl ⟨SqT.of h, SqT.of h⟩) i q)
  · obtain ⟨a, dx, fs, rfl, ha, _⟩ := ru.ob.ex
    exact .inr (.inr (.inl ⟨a, _, dx, fs, rfl, rfl, ha, cc _ (Rl.kind_lt _), q⟩))
  · exact .inr (.inr (.inr ⟨a, rfl, rfl, h, q⟩))
  · refine .inr (.inl ⟨d, d, r, r, p, p, by omega, ?_⟩)
    rw [eqD_refl p]
    exact q
theorem rd_b3 (Z : KR K C CR) {v : V} {u : TS} (s4 : σ[4]? = some (some v)) (r : RsTh K C H v) (k : ∀ x H', Ext H H' → KpP K C H' v x → u De (σ.set 5 (some x)) H') : tSeq (tB3 K) u De σ H := by
  refine rd_set (te := tIf (tB (tCB (rIsK K) (tCons (tVar 4) (tCons (tC (.ty "list")) tNil)))) (tCB (rLsO K) (tCons (tVar 4) tNil)) (tVar 4)) (i := 5) ?_
  have no : ∀ t, Kd K H v t → kitOne K t (.type "list") = some false → tIf (tB (tCB (rIsK K) (tCons (tVar 4) (tCons (tC (.ty "list")) tNil)))) (tCB (rLsO K) (tCons (tVar 4) tNil)) (tVar 4) σ H fun x H1 => u De (σ.set 5 (some x)) H1 := fun t kd e =>
    ⟨_, s4, v, "list", t, false, rfl, kd, e, _, rfl, itF ⟨_, s4, k v H (Ext.refl _) (.inr ⟨rfl, r⟩)⟩⟩
  rcases id r with ⟨a, ws, rfl, h, l, i⟩ | ⟨a, ws, rfl, h, l, i⟩ | ⟨r0, ru, ok⟩ | ⟨a, rfl, h⟩ | ⟨d, rd, p, dp, nl⟩
  · refine ⟨_, s4, _, "list", _, true, rfl, .inl (.lst h), rfl, _, rfl, itT ⟨_, s4, a, ws, rfl, .inl (SqL.of h), fun b hb => ?_⟩⟩
    have x1 := Ext.new (o := .lst ws) hb
    exact k _ _ x1 (.inl ⟨a, b, ws, rfl, rfl, x1 _ _ h, upd_same, fun w hw => Item.grows.ext x1 (i w hw)⟩)
  · exact no _ (.inl (.tup h)) rfl
  · exact no _ (ru.kd Z) (Z.kl _ (Rl.kind_lt _))
  · exact no _ (.inl (.dK h)) rfl
  · exact no _ rd.kd (by rw [rd.isL, nl])
theorem rd_turn {i : Nat} {c : Cse} {p l8 : Addr} {xs : List V} (s9 : σ[9]? = some (some (.int (i : Nat)))) (s8 : σ[8]? = some (some (.ref l8))) (h8 : H l8 = some (.lst xs)) (e : xs[i]? = some (.ref p)) (ew : c.way = (i : Nat)) (hp : H p = some (.lst c.things)) (ok : c.ok K C H) (h3 : ∀ v b, c = .w3 v b → Sb K H v) (k : ∀ H', Ext H H' → De.nx σ H') : tB8b K C De σ H :=
  ⟨_, s9, _, s8, _, s9, l8, xs, (i : Nat), .ref p, rfl, rfl, SqL.of h8, atI_nat e, c, p, by rw [ew]; rfl, hp, ok, Cse.sb ok h3, fun H' x' => ⟨_, rfl, itF (k H' x')⟩⟩
end
end My
set_option Elab.async false
set_option linter.all false
set_option maxRecDepth 100000
set_option maxHeartbeats 1000000
set_option exponentiation.threshold 10000
namespace My
open PySem PySem.W L2
def IR (C : Nat → Addr) (H : Hp) (v : V) : Prop := ∃ t, Ru C H t v ∧ t.ok
theorem IR.grows {C : Nat → Addr} : Grows (IR C) := ⟨fun x ⟨t, ru, ok⟩ => ⟨t, ru.ext x, ok⟩⟩
section
variable {K : Frag} {C : Nat → Addr} {CR CN CS CT CM : Addr} {H H0 : Hp} {De : Ends} {σ : St} {p : Addr} {ws : List V}
theorem gq_S {a b : Int} (ok : (R0.split a b).ok) : GP (fun H v => Ru C H (.one (.split a b)) v) H0 σ (tMkS C CN a b) := fun H Q _ q => mk_split (Q := Q) (fun R r => r) ok fun y H' x' ru => q _ H' x' ru
theorem gq_C {n a b g : Int} (ok : (R0.coins n a b g).ok) : GP (fun H v => Ru C H (.one (.coins n a b g)) v) H0 σ (tMkC C CN CS n a b g) := fun H Q x q =>
  (GD.t2 a b : GD H0 σ (t2i a b) (cD a b)) H _ x fun v H1 x1 rd => mk_coins (Q := Q) (σ := σ) (t := fun _ _ R => R [.int n, v, .int g] H1) (fun R r => r) rd ok fun y H' x' ru => q _ H' (x1.trans x') ru
theorem mk2L {ta tb : TE} {c : Addr} {sp : Sp} {Q : VK} (h : ta σ H fun v H1 => tb σ H1 fun u H2 => [v, u].length ≤ sizeLine ∧ ∀ l, H2 l = none → tMake c sp [] E0 (fun _ _ R => R [.ref l] (upd H2 l (.lst [v, u]))) σ (upd H2 l (.lst [v, u])) Q) : tMake c sp [] E0 (tCons (tLst (tCons ta (tCons tb tNil))) tNil) σ H Q := h
theorem rd_b4 {u : TS} (k : ∀ x H', Ext H H' → IR C H' x → u De (σ.set 6 (some x)) H') : tSeq (tB4 K C CN CS CT CM) u De σ H := by
  refine rd_set (te := tMkB2 K C CN CS CT CM) (i := 6) ?_
  have o1 : (R0.split 2 1).ok := ⟨by decide, by decide, by decide, by decide⟩
  have o2 : (R0.coins 3 1 2 1).ok := ⟨by decide, by decide, by decide +kernel, by decide, by decide⟩
  refine mk2L (ta := tMkS C CN 2 1) (tb := tMkC C CN CS 3 1 2 1) ((gq_S o1 : GP _ H σ (tMkS C CN 2 1)) H _ (Ext.refl _) fun v H1 x1 r1 => (gq_C o2 : GP _ H1 σ (tMkC C CN CS 3 1 2 1)) H1 _ (Ext.refl _) fun w H2 x2 r2 => ⟨by show 2 ≤ sizeLine; decide, fun l hl => ?_⟩)
  have x3 := Ext.new (o := .lst [v, w]) hl
  have al : All0 C (upd H2 l (.lst [v, w])) [.split 2 1, .coins 3 1 2 1] [v, w] := ⟨rfl, fun i r' w' hr' hw => by
    match i, hr', hw with
    | 0, hr', hw => cases hr'; cases hw; exact (r1.ext x2).ext x3
    | 1, hr', hw => cases hr'; cases hw; exact r2.ext x3⟩
  have okB : (Rl.blocks [.split 2 1, .coins 3 1 2 1]).ok := ⟨by show 1 ≤ 2; decide, by show 2 ≤ 6; decide, (fun r' hr' => by
    rcases List.mem_cons.mp hr' with rfl | hr'
    · exact o1
    · rw [List.mem_singleton.mp hr']; exact o2), by decide⟩
  exact mk_blocks (K := K) (CT := CT) (CM := CM) (σ := σ) (Q := fun x H1 => u De (σ.set 6 (some x)) H1) (t := fun _ _ R => R [.ref l] (upd H2 l (.lst [v, w]))) (fun R r => r) upd_same al okB fun y H' x' rb => k _ H' (((x1.trans x2).trans x3).trans x') ⟨_, rb, okB⟩
theorem gp_bs {vb : V} (s6 : σ[6]? = some (some vb)) (ib : IR C H0 vb) : GPs (IR C) H0 σ (tBsA C CN CS) 4 := by
  have o1 : (R0.split 5 2).ok := ⟨by decide, by decide, by decide, by decide⟩
  have o2 : (R0.pairs 3 1 2).ok := ⟨by decide, by decide, by decide +kernel⟩
  have o3 : (R0.split 9 4).ok := ⟨by decide, by decide, by decide, by decide⟩
  have oF : (Rl.first (.one (.split 9 4)) 6).ok := ⟨o3, by decide, by decide⟩
  have t3 : GP (IR C) H0 σ (tVar 6) := fun H Q x q => ⟨_, s6, q vb H (Ext.refl _) (IR.grows.ext x ib)⟩
  have t4 : GP (IR C) H0 σ (tMkF1 C CN 9 4 6) := fun H Q x q =>
    mk2F (te := tMkS C CN 9 4) ((gq_S o3 : GP _ H0 σ (tMkS C CN 9 4)) H _ x fun v H1 x1 ru => mk_first (CN := CN) (Q := Q) (σ := σ) (t := fun _ _ R => R [v, .int 6] H1) (fun R r => r) ru oF fun y H' x' rf => q _ H' (x1.trans x') ⟨_, rf, oF⟩)
  exact .cons IR.grows ((gp_S o1).weaken fun H v ⟨r, ru, ok⟩ => ⟨.one r, ru, ok⟩) (.cons IR.grows ((gp_P o2).weaken fun H v ⟨r, ru, ok⟩ => ⟨.one r, ru, ok⟩) (.cons IR.grows t3 (.cons IR.grows t4 .nil)))
theorem rd_b5 {ns : List Int} {x4 : Int} {vb : V} {u : TS} (s2 : σ[2]? = some (some (.ref p))) (hp : H p = some (.lst (ns.map V.int))) (e4 : ns[4]? = some x4) (s6 : σ[6]? = some (some vb)) (ib : IR C H vb) (k : ∀ x H', Ext H H' → IR C H' x → u De (σ.set 7 (some x)) H') : tSeq (tB5 K C CN CS) u De σ H := by
  refine rd_set (te := tOp (rIxL K) (tLst (tBsA C CN CS)) (tXsM K 2 4 4)) (i := 7) (rd_op ((gp_bs (CN := CN) (CS := CS) s6 ib).use IR.grows (by show 4 ≤ sizeLine; decide) fun l vs H1 x1 _ hl lv is => ?_))
  have m0 : 0 ≤ x4 % 4 := Int.emod_nonneg _ (by decide)
  have m1 : x4 % 4 < 4 := Int.emod_lt_of_pos _ (by decide)
  obtain ⟨j, ej⟩ : ∃ j : Nat, x4 % 4 = (j : Int) := ⟨(x4 % 4).toNat, by omega⟩
  have lj : j < vs.length := by omega
  have at1 : atI vs (x4 % 4) = some vs[j] := by
    rw [ej]
    exact atI_nat (List.getElem?_eq_getElem lj)
  exact (GD.xsM (K := K) (k := 4) (H0 := H1) s2 (x1 _ _ hp) e4 (by decide) : GD H1 σ (tXsM K 2 4 4) (.int (x4 % 4))) H1 _ (Ext.refl _) fun v H2 x2 rv => by
    cases rv
    exact ⟨l, vs, x4 % 4, vs[j], rfl, rfl, SqL.of (x2 _ _ hl), at1, k _ H2 (x1.trans x2) (IR.grows.ext x2 (is _ (List.getElem_mem lj)))⟩
theorem rd_nu2 {a b x y : Int} {Q : VK} (s2 : σ[2]? = some (some (.ref p))) (hp : H p = some (.lst ws)) (hc : cutV ws (some a) (some b) = [x, y].map V.int) (y0 : 0 ≤ y) (y14 : y < 14) (q : ∀ v d H', Ext H H' → Rds H' v d → NumD d → Q v H') : tNu2 K a b σ H Q :=
  ⟨_, s2, a, rfl, b, rfl, p, ws, rfl, SqL.of hp, fun l hl => ⟨l, x, y, [], rfl, by rw [hc]; exact upd_same, y0, y14, fun v d H' x' => q v d H' ((Ext.new hl).trans x')⟩⟩
theorem rd_coX {a x : Int} {ns : List Int} {Q : VK} (s2 : σ[2]? = some (some (.ref p))) (hp : H p = some (.lst ws)) (hc : cutV ws (some a) none = (x :: ns).map V.int) (q : ∀ v d H', Ext H H' → Rds H' v d → d ∈ coins24 → Q v H') : tCoX K a σ H Q :=
  ⟨_, s2, a, rfl, p, ws, rfl, SqL.of hp, fun l hl => ⟨l, x, ns, rfl, by rw [hc]; exact upd_same, fun v d H' x' => q v d H' ((Ext.new hl).trans x')⟩⟩
theorem rd_b2 {ns : List Int} {u : TS} (s2 : σ[2]? = some (some (.ref p))) (hp : H p = some (.lst ws)) (hc : cutV ws (some 6) none = ns.map V.int) (l10 : 10 ≤ ns.length) (nn : ∀ n ∈ ns, 0 ≤ n) (n6 : ∀ n, ns[6]? = some n → n ≤ 8) (k : ∀ v H', Ext H H' → RsTh K C H' v → u De (σ.set 4 (some v)) H') : tSeq (tB2 K C) u De σ H := by
  refine rd_set (te := tCall (spRs K C) [] E0 (tCons (tCutX K (tP 6) tNoPart) tNil)) (i := 4) ?_
  exact ⟨_, s2, 6, rfl, p, ws, rfl, SqL.of hp, fun l hl => ⟨l, ns, rfl, ⟨by rw [hc]; exact upd_same, l10, nn⟩, n6, fun v H' x' => k v H' ((Ext.new hl).trans x')⟩⟩
theorem rd_b1 {x0 x1 x2 x3 : Int} {u : TS} (s2 : σ[2]? = some (some (.ref p))) (hp : H p = some (.lst ws)) (c0 : cutV ws (some 0) (some 2) = [x0, x1].map V.int) (c2 : cutV ws (some 2) (some 4) = [x2, x3].map V.int) (a0 : 0 ≤ x1) (a1 : x1 < 14) (b0 : 0 ≤ x3) (b1 : x3 < 14)
    (k : ∀ l v1 v2 d1 d2 H', Ext H H' → H' l = some (.lst [v1, v2]) → Rds H' v1 d1 → NumD d1 → Rds H' v2 d2 → NumD d2 → u De (σ.set 3 (some (.ref l))) H') : tSeq (tB1 K) u De σ H := by
  refine rd_set (te := tLst (tCons (tNu2 K 0 2) (tCons (tNu2 K 2 4) tNil))) (i := 3) ?_
  refine rd_nu2 s2 hp c0 a0 a1 fun v1 d1 H1 y1 r1 n1 => rd_nu2 s2 (y1 _ _ hp) c2 b0 b1 fun v2 d2 H2 y2 r2 n2 => ⟨by show 2 ≤ sizeLine; decide, fun l hl => ?_⟩
  have y3 := Ext.new (o := .lst [v1, v2]) hl
  exact k l v1 v2 d1 d2 _ ((y1.trans y2).trans y3) upd_same (r1.mono (y2.trans y3)) n1 (r2.mono y3) n2
end
end My
set_option Elab.async false
set_option linter.all false
set_option maxRecDepth 100000
set_option maxHeartbeats 1000000
set_option exponentiation.threshold 10000
namespace My
open PySem PySem.W L2
def szs : List Int := [60, 14, 60, 14, 24, 24, 6, 6, 6, 6, 6, 6, 9, 9, 60, 5]
theorem szs_ok : ∀ s ∈ szs, 0 < s ∧ s ≤ 10 ^ 20 := by decide +kernel
section
variable {K : Frag} {C : Nat → Addr} {CR CN CS CT CM : Addr} {H H0 : Hp} {De : Ends} {σ : St} {p : Addr} {ws : List V}
theorem rd_rowL {c : Int} {R : List V → Hp → Prop} (s1 : σ[1]? = some (some (.int c))) (k : ∀ l H', Ext H H' → H' l = some (.lst (szs.map V.int)) → R [.int c, .ref l] H') : tCons (tVar 1) (tCons tSzL tNil) σ H R := by
  refine ⟨_, s1, rd_op (rd_op (rd_lst ⟨by show 6 ≤ sizeLine; decide, fun l1 h1 => rd_op (rd_lst ⟨by show 1 ≤ sizeLine; decide, fun l2 h2 => ?_⟩)⟩))⟩
  have y1 : Ext H (upd H l1 (.lst [V.int 60, V.int 14, V.int 60, V.int 14, V.int 24, V.int 24])) := Ext.new h1
  have g1 : upd H l1 (.lst [V.int 60, V.int 14, V.int 60, V.int 14, V.int 24, V.int 24]) l1 = some (.lst [V.int 60, V.int 14, V.int 60, V.int 14, V.int 24, V.int 24]) := upd_same
  generalize upd H l1 (.lst [V.int 60, V.int 14, V.int 60, V.int 14, V.int 24, V.int 24]) = H1 at y1 g1 h2 ⊢
  have y2 : Ext H1 (upd H1 l2 (.lst [V.int 6])) := Ext.new h2
  have g2 : upd H1 l2 (.lst [V.int 6]) l2 = some (.lst [V.int 6]) := upd_same
  generalize upd H1 l2 (.lst [V.int 6]) = H2 at y2 g2 ⊢
  refine ⟨l2, 6, [V.int 6], rfl, rfl, g2, by decide, by decide, by show 6 ≤ sizeLine; decide, fun l3 h3 => ?_⟩
  have y3 := Ext.new (o := .lst (List.replicate (6 : Int).toNat [V.int 6]).flatten) h3
  have g3 : upd H2 l3 (.lst (List.replicate (6 : Int).toNat [V.int 6]).flatten) l3 = some (.lst (List.replicate (6 : Int).toNat [V.int 6]).flatten) := upd_same
  generalize upd H2 l3 (.lst (List.replicate (6 : Int).toNat [V.int 6]).flatten) = H3 at y3 g3 ⊢
  refine ⟨l1, l3, _, _, rfl, rfl, (y2.trans y3) _ _ g1, g3, by show 12 ≤ sizeLine; decide, fun l4 h4 => ?_⟩
  have y4 := Ext.new (o := .lst ([V.int 60, V.int 14, V.int 60, V.int 14, V.int 24, V.int 24] ++ (List.replicate (6 : Int).toNat [V.int 6]).flatten)) h4
  have g4 : upd H3 l4 (.lst ([V.int 60, V.int 14, V.int 60, V.int 14, V.int 24, V.int 24] ++ (List.replicate (6 : Int).toNat [V.int 6]).flatten)) l4 = some (.lst ([V.int 60, V.int 14, V.int 60, V.int 14, V.int 24, V.int 24] ++ (List.replicate (6 : Int).toNat [V.int 6]).flatten)) := upd_same
  generalize upd H3 l4 (.lst ([V.int 60, V.int 14, V.int 60, V.int 14, V.int 24, V.int 24] ++ (List.replicate (6 : Int).toNat [V.int 6]).flatten)) = H4 at y4 g4 ⊢
  refine rd_lst ⟨by show 4 ≤ sizeLine; decide, fun l5 h5 => ?_⟩
  have y5 : Ext H4 (upd H4 l5 (.lst [V.int 9, V.int 9, V.int 60, V.int 5])) := Ext.new h5
  refine ⟨l4, l5, _, [V.int 9, V.int 9, V.int 60, V.int 5], rfl, rfl, y5 _ _ g4, upd_same, by show 16 ≤ sizeLine; decide, fun l6 h6 => ?_⟩
  exact k l6 _ (((((y1.trans y2).trans y3).trans y4).trans y5).trans (Ext.new h6)) upd_same
theorem rd_b0 {c : Int} {u : TS} (s1 : σ[1]? = some (some (.int c))) (k : ∀ p x0 x1 x2 x3 x4 x5 x6 x7 x8 x9 xa xb xc xd xe xf H', Ext H H' → H' p = some (.lst (([x0, x1, x2, x3, x4, x5, x6, x7, x8, x9, xa, xb, xc, xd, xe, xf] : List Int).map V.int)) → 0 ≤ x1 → x1 < 14 → 0 ≤ x3 → x3 < 14 → (∀ n ∈ [x6, x7, x8, x9, xa, xb, xc, xd, xe, xf], 0 ≤ n) → xc ≤ 8 → u De (σ.set 2 (some (.ref p))) H') : tSeq (tB0 K) u De σ H := by
  refine rd_set (te := tCall (spRow K) [] E0 (tCons (tVar 1) (tCons tSzL tNil))) (i := 2) ?_
  refine rd_rowL s1 fun l H1 y1 hl => ⟨c, l, szs, rfl, SqL.of hl, szs_ok, by decide, fun q xs H2 y2 _ hq lx bl => ?_⟩
  obtain ⟨x0, x1, x2, x3, x4, x5, x6, x7, x8, x9, xa, xb, xc, xd, xe, xf, rfl⟩ : ∃ x0 x1 x2 x3 x4 x5 x6 x7 x8 x9 xa xb xc xd xe xf, xs = [x0, x1, x2, x3, x4, x5, x6, x7, x8, x9, xa, xb, xc, xd, xe, xf] := by
    match xs, lx with
    | [x0, x1, x2, x3, x4, x5, x6, x7, x8, x9, xa, xb, xc, xd, xe, xf], _ => exact ⟨x0, x1, x2, x3, x4, x5, x6, x7, x8, x9, xa, xb, xc, xd, xe, xf, rfl⟩
  have b1 := bl 1 x1 14 rfl rfl
  have b3 := bl 3 x3 14 rfl rfl
  have b6 := bl 6 x6 6 rfl rfl
  have b7 := bl 7 x7 6 rfl rfl
  have b8 := bl 8 x8 6 rfl rfl
  have b9 := bl 9 x9 6 rfl rfl
  have ba := bl 10 xa 6 rfl rfl
  have bb := bl 11 xb 6 rfl rfl
  have bc := bl 12 xc 9 rfl rfl
  have bd := bl 13 xd 9 rfl rfl
  have be := bl 14 xe 60 rfl rfl
  have bf := bl 15 xf 5 rfl rfl
  refine k q x0 x1 x2 x3 x4 x5 x6 x7 x8 x9 xa xb xc xd xe xf H2 (y1.trans y2) hq b1.1 b1.2 b3.1 b3.2 (fun n hn => ?_) (by omega)
  simp only [List.mem_cons, List.not_mem_nil, or_false] at hn
  rcases hn with rfl | rfl | rfl | rfl | rfl | rfl | rfl | rfl | rfl | rfl <;> omega
theorem rd_b67 {v1 v2 v4 v7 : V} {l3 : Addr} {x4 x5 : Int} {n4 n5 : List Int} {u : TS} (lσ : σ.length = 10) (s2 : σ[2]? = some (some (.ref p))) (s3 : σ[3]? = some (some (.ref l3))) (s4 : σ[4]? = some (some v4)) (s7 : σ[7]? = some (some v7)) (hp : H p = some (.lst ws)) (h3 : H l3 = some (.lst [v1, v2])) (c4 : cutV ws (some 4) none = (x4 :: n4).map V.int) (c5 : cutV ws (some 5) none = (x5 :: n5).map V.int)
    (k : ∀ l8 m1 m2 m3 m4 c1 c2 e1 e2 H', Ext H H' → H' l8 = some (.lst [.ref l3, .ref m1, .ref m2, .ref m3, .ref m4]) → H' m1 = some (.lst [v1, c1]) → Rds H' c1 e1 → e1 ∈ coins24 → H' m2 = some (.lst [v1, c2, v2]) → Rds H' c2 e2 → e2 ∈ coins24 → H' m3 = some (.lst [v4]) → H' m4 = some (.lst [v7, v2]) → u De (σ.set 8 (some (.ref l8))) H') : tSeq (tB6 K) (tSeq (tB7 K) u) De σ H := by
  refine rd_set (te := tLst (tCons (tVar 3) (tCons (tLst (tCons (tPr K 0) (tCons (tCoX K 4) tNil))) (tCons (tLst (tCons (tPr K 0) (tCons (tCoX K 5) (tCons (tPr K 1) tNil)))) tNil)))) (i := 8) ?_
  refine ⟨_, s3, _, s3, l3, _, 0, v1, rfl, rfl, SqL.of h3, atI_nat (j := 0) rfl, rd_coX s2 hp c4 fun c1 e1 H1 y1 rc1 me1 => ⟨by show 2 ≤ sizeLine; decide, fun m1 hm1 => ?_⟩⟩
  have y2 := Ext.new (o := .lst [v1, c1]) hm1
  have g1 : upd H1 m1 (.lst [v1, c1]) m1 = some (.lst [v1, c1]) := upd_same
  have rc1' := rc1.mono y2
  generalize upd H1 m1 (.lst [v1, c1]) = H2 at y2 g1 rc1' ⊢
  have y02 := y1.trans y2
  refine ⟨_, s3, l3, _, 0, v1, rfl, rfl, SqL.of (y02 _ _ h3), atI_nat (j := 0) rfl, rd_coX s2 (y02 _ _ hp) c5 fun c2 e2 H3 y3 rc2 me2 => ?_⟩
  have y03 := y02.trans y3
  refine ⟨_, s3, l3, _, 1, v2, rfl, rfl, SqL.of (y03 _ _ h3), atI_nat (j := 1) rfl, by show 3 ≤ sizeLine; decide, fun m2 hm2 => ?_⟩
  have y4 := Ext.new (o := .lst [v1, c2, v2]) hm2
  have g2 : upd H3 m2 (.lst [v1, c2, v2]) m2 = some (.lst [v1, c2, v2]) := upd_same
  have rc2' := rc2.mono y4
  generalize upd H3 m2 (.lst [v1, c2, v2]) = H4 at y4 g2 rc2' ⊢
  refine ⟨by show 3 ≤ sizeLine; decide, fun l hl => ?_⟩
  have y5 := Ext.new (o := .lst [.ref l3, .ref m1, .ref m2]) hl
  have gl : upd H4 l (.lst [.ref l3, .ref m1, .ref m2]) l = some (.lst [.ref l3, .ref m1, .ref m2]) := upd_same
  show tSeq (tB7 K) u De (σ.set 8 (some (.ref l))) (upd H4 l (.lst [.ref l3, .ref m1, .ref m2]))
  generalize upd H4 l (.lst [.ref l3, .ref m1, .ref m2]) = H5 at y5 gl ⊢
  have y05 := (y03.trans y4).trans y5
  have s3' : (σ.set 8 (some (V.ref l)))[3]? = some (some (.ref l3)) := by rw [List.getElem?_set_ne (by decide)]; exact s3
  have s4' : (σ.set 8 (some (V.ref l)))[4]? = some (some v4) := by rw [List.getElem?_set_ne (by decide)]; exact s4
  have s7' : (σ.set 8 (some (V.ref l)))[7]? = some (some v7) := by rw [List.getElem?_set_ne (by decide)]; exact s7
  have s8' : (σ.set 8 (some (V.ref l)))[8]? = some (some (.ref l)) := by rw [List.getElem?_set_self (by omega)]
  refine rd_set (te := tOp rCat (tVar 8) (tLst (tCons (tLst (tCons (tVar 4) tNil)) (tCons (tLst (tCons (tVar 7) (tCons (tPr K 1) tNil))) tNil)))) (i := 8) (rd_op ?_)
  refine ⟨_, s8', _, s4', by show 1 ≤ sizeLine; decide, fun m3 hm3 => ?_⟩
  have y6 := Ext.new (o := .lst [v4]) hm3
  have g3 : upd H5 m3 (.lst [v4]) m3 = some (.lst [v4]) := upd_same
  generalize upd H5 m3 (.lst [v4]) = H6 at y6 g3 ⊢
  have y06 := y05.trans y6
  refine ⟨_, s7', _, s3', l3, _, 1, v2, rfl, rfl, SqL.of (y06 _ _ h3), atI_nat (j := 1) rfl, by show 2 ≤ sizeLine; decide, fun m4 hm4 => ?_⟩
  have y7 := Ext.new (o := .lst [v7, v2]) hm4
  have g4 : upd H6 m4 (.lst [v7, v2]) m4 = some (.lst [v7, v2]) := upd_same
  generalize upd H6 m4 (.lst [v7, v2]) = H7 at y7 g4 ⊢
  refine ⟨by show 2 ≤ sizeLine; decide, fun q hq => ?_⟩
  have y8 := Ext.new (o := .lst [.ref m3, .ref m4]) hq
  have gq : upd H7 q (.lst [.ref m3, .ref m4]) q = some (.lst [.ref m3, .ref m4]) := upd_same
  generalize upd H7 q (.lst [.ref m3, .ref m4]) = H8 at y8 gq ⊢
  refine ⟨l, q, [.ref l3, .ref m1, .ref m2], [.ref m3, .ref m4], rfl, rfl, ((y6.trans y7).trans y8) _ _ gl, gq, by show 5 ≤ sizeLine; decide, fun l8 hl8 => ?_⟩
  have y9 := Ext.new (o := .lst [.ref l3, .ref m1, .ref m2, .ref m3, .ref m4]) hl8
  have g8 : upd H8 l8 (.lst ([.ref l3, .ref m1, .ref m2] ++ [.ref m3, .ref m4])) l8 = some (.lst [.ref l3, .ref m1, .ref m2, .ref m3, .ref m4]) := upd_same
  show u De ((σ.set 8 (some (.ref l))).set 8 (some (.ref l8))) (upd H8 l8 (.lst ([.ref l3, .ref m1, .ref m2] ++ [.ref m3, .ref m4])))
  rw [List.set_set]
  have z79 := y8.trans y9
  have z69 := y7.trans z79
  have z49 := (y5.trans y6).trans z69
  have z29 := (y3.trans y4).trans z49
  exact k l8 m1 m2 m3 m4 c1 c2 e1 e2 _ (y02.trans z29) g8 (z29 _ _ g1) (rc1'.mono z29) me1 (z49 _ _ g2) (rc2'.mono z49) me2 (z69 _ _ g3) (z79 _ _ g4)
end
end My
set_option Elab.async false
set_option linter.all false
set_option maxRecDepth 100000
set_option maxHeartbeats 1000000
set_option exponentiation.threshold 10000
namespace My
open PySem PySem.W L2
section
variable {K : Frag} {C : Nat → Addr} {CR CN CS CT CM : Addr} {H H0 : Hp} {De : Ends} {σ : St} {p : Addr} {ws : List V}
theorem rd_b8 (Z : KR K C CR) {o0 o1 o2 o3 o4 o5 o6 o7 o9 : Option V} {u : TS} {v1 v2 v4 v7 c1 c2 : V} {d1 d2 e1 e2 : PyData} {l3 l8 m1 m2 m3 m4 : Addr} (h8 : H l8 = some (.lst [.ref l3, .ref m1, .ref m2, .ref m3, .ref m4])) (g0 : H l3 = some (.lst [v1, v2])) (g1 : H m1 = some (.lst [v1, c1])) (g2 : H m2 = some (.lst [v1, c2, v2])) (g3 : H m3 = some (.lst [v4])) (g4 : H m4 = some (.lst [v7, v2]))
    (r1 : Rds H v1 d1) (n1 : NumD d1) (r2 : Rds H v2 d2) (n2 : NumD d2) (rc1 : Rds H c1 e1) (k1 : e1 ∈ coins24) (rc2 : Rds H c2 e2) (k2 : e2 ∈ coins24) (r4 : RsTh K C H v4) (i7 : IR C H v7)
    (k : ∀ H' o9, Ext H H' → u De [o0, o1, o2, o3, o4, o5, o6, o7, some (.ref l8), o9] H') : tSeq (tB8 K C) u De [o0, o1, o2, o3, o4, o5, o6, o7, some (.ref l8), o9] H := by
  obtain ⟨b, bx⟩ := bd_of Z r4
  obtain ⟨t, ru, ok⟩ := i7
  refine ⟨5, rfl, by decide, by decide, ?_⟩
  refine for_range (n := 5) (fun i σ H' => Ext H H' ∧ ∃ o9, σ = [o0, o1, o2, o3, o4, o5, o6, o7, some (.ref l8), o9]) ⟨Ext.refl _, _, rfl⟩ ?_ ?_
  · rintro i σ H' hi ⟨x, o9, rfl⟩
    rw [Int.zero_add]
    match i, hi with
    | 0, _ => exact rd_turn (i := 0) (c := .w0 v1 v2 d1 d2) (p := l3) rfl rfl (x _ _ h8) rfl rfl (x _ _ g0) ⟨r1.mono x, n1, r2.mono x, n2⟩ (fun _ _ e => nomatch e) fun H2 x2 => ⟨x.trans x2, _, rfl⟩
    | 1, _ => exact rd_turn (i := 1) (c := .w1 v1 c1 d1 e1) (p := m1) rfl rfl (x _ _ h8) rfl rfl (x _ _ g1) ⟨r1.mono x, n1, rc1.mono x, k1⟩ (fun _ _ e => nomatch e) fun H2 x2 => ⟨x.trans x2, _, rfl⟩
    | 2, _ => exact rd_turn (i := 2) (c := .w2 v1 c2 v2 d1 e2 d2) (p := m2) rfl rfl (x _ _ h8) rfl rfl (x _ _ g2) ⟨r1.mono x, n1, rc2.mono x, k2, r2.mono x, n2⟩ (fun _ _ e => nomatch e) fun H2 x2 => ⟨x.trans x2, _, rfl⟩
    | 3, _ => exact rd_turn (i := 3) (c := .w3 v4 b) (p := m3) rfl rfl (x _ _ h8) rfl rfl (x _ _ g3) (BDx.ext bx x) (fun v b e => (by cases e; exact sb_rs Z (RsTh.grows.ext x r4))) fun H2 x2 => ⟨x.trans x2, _, rfl⟩
    | 4, _ => exact rd_turn (i := 4) (c := .w4 v7 v2 t d2) (p := m4) rfl rfl (x _ _ h8) rfl rfl (x _ _ g4) ⟨ru.ext x, ok, r2.mono x, n2⟩ (fun _ _ e => nomatch e) fun H2 x2 => ⟨x.trans x2, _, rfl⟩
  · rintro σ H' ⟨x, o9, rfl⟩
    exact k H' o9 x
theorem rd_body (Z : KR K C CR) (cc : ∀ i, i < 5 → CmpC K (C i)) {c : Int} {o0 o2 o3 o4 o5 o6 o7 o8 o9 : Option V} (k : ∀ H' p2 p3 p4 p5 p6 p7 p8 p9, Ext H H' → De.nx [o0, some (.int c), p2, p3, p4, p5, p6, p7, p8, p9] H') : tBody K C CN CS CT CM De [o0, some (.int c), o2, o3, o4, o5, o6, o7, o8, o9] H := by
  refine rd_b0 rfl fun p x0 x1 x2 x3 x4 x5 x6 x7 x8 x9 xa xb xc xd xe xf H1 y1 hp a0 a1 b0 b1 nn c8 => ?_
  show tSeq (tB1 K) _ De [o0, some (.int c), some (.ref p), o3, o4, o5, o6, o7, o8, o9] H1
  refine rd_b1 (x0 := x0) (x1 := x1) (x2 := x2) (x3 := x3) rfl hp rfl rfl a0 a1 b0 b1 fun l3 v1 v2 d1 d2 H2 y2 g0 r1 n1 r2 n2 => ?_
  show tSeq (tB2 K C) _ De [o0, some (.int c), some (.ref p), some (.ref l3), o4, o5, o6, o7, o8, o9] H2
  have hp2 := y2 _ _ hp
  refine rd_b2 (ns := [x6, x7, x8, x9, xa, xb, xc, xd, xe, xf]) rfl hp2 rfl (by show 10 ≤ 10; decide) nn (fun n e => (by cases e; exact c8)) fun v4 H3 y3 r4 => ?_
  show tSeq (tB3 K) _ De [o0, some (.int c), some (.ref p), some (.ref l3), some v4, o5, o6, o7, o8, o9] H3
  refine rd_b3 Z rfl r4 fun v5 H4 y4 kp => ?_
  show tSeq (tB4 K C CN CS CT CM) _ De [o0, some (.int c), some (.ref p), some (.ref l3), some v4, some v5, o6, o7, o8, o9] H4
  refine rd_b4 fun v6 H5 y5 i6 => ?_
  show tSeq (tB5 K C CN CS) _ De [o0, some (.int c), some (.ref p), some (.ref l3), some v4, some v5, some v6, o7, o8, o9] H5
  have y25 := (y3.trans y4).trans y5
  have hp5 := y25 _ _ hp2
  refine rd_b5 (x4 := x4) rfl hp5 rfl rfl i6 fun v7 H6 y6 i7 => ?_
  show tSeq (tB6 K) _ De [o0, some (.int c), some (.ref p), some (.ref l3), some v4, some v5, some v6, some v7, o8, o9] H6
  have y26 := y25.trans y6
  refine rd_b67 (x4 := x4) (x5 := x5) (n4 := [x5, x6, x7, x8, x9, xa, xb, xc, xd, xe, xf]) (n5 := [x6, x7, x8, x9, xa, xb, xc, xd, xe, xf]) rfl rfl rfl rfl rfl (y6 _ _ hp5) (y26 _ _ g0) rfl rfl fun l8 m1 m2 m3 m4 c1 c2 e1 e2 H7 y7 h8 g1 rc1 k1 g2 rc2 k2 g3 g4 => ?_
  show tSeq (tB8 K C) _ De [o0, some (.int c), some (.ref p), some (.ref l3), some v4, some v5, some v6, some v7, some (.ref l8), o9] H7
  have y27 := y26.trans y7
  have y37 := ((y4.trans y5).trans y6).trans y7
  refine rd_b8 Z h8 (y27 _ _ g0) g1 g2 g3 g4 (r1.mono y27) n1 (r2.mono y27) n2 rc1 k1 rc2 k2 (RsTh.grows.ext y37 r4) (IR.grows.ext y7 i7) fun H8 p9 y8 => ?_
  have kp8 := kp.ext (((y5.trans y6).trans y7).trans y8)
  refine ⟨_, rfl, _, rfl, rd_neA cc kp8 ⟨_, rfl, itF ?_⟩⟩
  exact k H8 _ _ _ _ _ _ _ _ (((y1.trans y2).trans y27).trans y8)
end
def spLaw (K : Frag) : Sp := fun vs H Q _ => ∃ (a : Addr) (ns : List Int), vs = [.ref a] ∧ SqL K H a (ns.map V.int) ∧ ns.length ≤ 63 ∧ H sysModules = none ∧ ∀ H', Q (.bl true) H'
section
variable {P : Program} {w : World} {K : Frag} {mg : Str → Option Value} {base : Heap} {C : Nat → Addr} {CR : Addr}
variable {CN CS CT CM f0 f1 f2 f3 f4 : Addr} {e0 e1 e2 e3 e4 : FuncData} {a0 a1 a2 a3 a4 : Addr} {d0 d1 d2 d3 d4 : FuncData}
theorem ok_law {f : Addr} {fd : FuncData} (Z : KR K C CR) (cc : ∀ i, i < 5 → CmpC K (C i)) (F : Fun K "law" "law" sLaw f fd) (D : Dl P w K mg base C CN CS CT CM f0 f1 f2 f3 f4 e0 e1 e2 e3 e4 a0 a1 a2 a3 a4 d0 d1 d2 d3 d4) : FnOk P w K mg base CX0 10 f fd ["_law_script"] (spLaw K) := by
  refine F.ok scLw (fun vs H Q E h => ?_) (fun cdv A outer s H vs Q E hr h => ?_)
  · obtain ⟨a, ns, rfl, _⟩ := h
    rfl
  obtain ⟨a, ns, rfl, ha, l63, hz, q⟩ := h
  obtain ⟨der⟩ := law_der D hr (f := f) (cdv := cdv) (A := A) (outer := outer) (s := s) (H := H) (E := E)
  refine ⟨_, der, ?_⟩
  refine ⟨_, rfl, 20, rfl, a, _, rfl, ha, fun l1 h1 => ?_⟩
  have ci := cut_ints (ns := ns) (lo := none) (hi := some 20)
  have cl := cutV_length (ns.map V.int) none (some 20)
  rw [List.length_map] at cl
  generalize cutV (ns.map V.int) none (some 20) = cs at ci cl ⊢
  have xa := Ext.new (o := .lst cs) h1
  have f1 : upd H l1 (.lst cs) l1 = some (.lst cs) := upd_same
  generalize upd H l1 (.lst cs) = H1 at xa f1 ⊢
  refine ⟨by show 2 ≤ sizeLine; decide, fun l2 h2 => ?_⟩
  have xb := Ext.new (o := .lst [V.int 4, V.int 9]) h2
  have f2 : upd H1 l2 (.lst [V.int 4, V.int 9]) l2 = some (.lst [V.int 4, V.int 9]) := upd_same
  generalize upd H1 l2 (.lst [V.int 4, V.int 9]) = H2 at xb f2 ⊢
  refine ⟨l1, l2, cs, [V.int 4, V.int 9], rfl, rfl, xb _ _ f1, f2, ?_, fun l3 h3 => ?_⟩
  · show cs.length + 2 ≤ sizeLine
    exact Nat.le_trans (Nat.add_le_add_right (Nat.le_trans cl l63) 2) (by decide)
  have xc := Ext.new (o := .lst (cs ++ [V.int 4, V.int 9])) h3
  have f3 : upd H2 l3 (.lst (cs ++ [V.int 4, V.int 9])) l3 = some (.lst (cs ++ [V.int 4, V.int 9])) := upd_same
  have ai : ∀ v ∈ cs ++ [V.int 4, V.int 9], ∃ i, v = V.int i := fun v hv => by
    rcases List.mem_append.mp hv with hv | hv
    · exact ci v hv
    · rcases List.mem_cons.mp hv with h | h
      · exact ⟨4, h⟩
      · exact ⟨9, List.mem_singleton.mp h⟩
  generalize upd H2 l3 (.lst (cs ++ [V.int 4, V.int 9])) = H3 at xc f3 ⊢
  generalize cs ++ [V.int 4, V.int 9] = es at f3 ai
  refine ⟨l3, rfl, ⟨_, SqL.of f3⟩, for_list (xs := es) (fun i σ H' => Ext H3 H' ∧ ∃ o1 o2 o3 o4 o5 o6 o7 o8 o9, σ = [some (.ref a), o1, o2, o3, o4, o5, o6, o7, o8, o9]) ⟨Ext.refl _, _, _, _, _, _, _, _, _, _, rfl⟩ ?_ ?_ ?_⟩
  · rintro i σ H' _ ⟨x', _⟩
    exact SqL.of (x' _ _ f3)
  · rintro i x σ H' ex ⟨x', o1, o2, o3, o4, o5, o6, o7, o8, o9, rfl⟩
    obtain ⟨c, rfl⟩ := ai x (List.mem_of_getElem? ex)
    exact rd_body Z cc fun H4 p2 p3 p4 p5 p6 p7 p8 p9 x4 => ⟨x'.trans x4, _, _, _, _, _, _, _, _, _, rfl⟩
  · rintro σ H' ⟨x', o1, o2, o3, o4, o5, o6, o7, o8, o9, rfl⟩
    exact q H'
end
end My
set_option Elab.async false
set_option linter.all false
set_option maxRecDepth 100000
set_option maxHeartbeats 1000000
namespace My
open PySem PySem.W L2
theorem not_own {C : Addr} : ∀ l : List String, (l.map Value.type).contains (.ref C) = false
  | [] => rfl
  | n :: l => by
    rw [List.map_cons, List.contains_cons, not_own l, Bool.or_false]
    exact beq_eq_false_iff_ne.mpr (fun e => by cases e)
theorem mro_own {C : Addr} {n : String} (h : (fastFind? n).isSome = true) : (fastBuiltinMro n).map (·.contains (.ref C)) = some false := by
  unfold fastBuiltinMro
  cases e : fastFind? n with
  | none => rw [e] at h; cases h
  | some r => exact congrArg some (not_own r.mro)
theorem kind_own {K : Frag} {C : Addr} (hc : isClsIn K C = true) (ht : typeIn K (.ref C) = some (.type "type")) (d : PyData) : kitOne K (.type (kindD d)) (.ref C) = some false := by
  unfold kitOne
  rw [if_neg (by intro e; cases beq_iff_eq.mp e)]
  show (if ((clsIn K C).isSome && typeIn K (.ref C) == some (.type "type")) = true then subIn K (.type (kindD d)) (.ref C) else none) = _
  have hc' : (clsIn K C).isSome = true := hc
  rw [hc', ht]
  simp only [beq_self_eq_true, Bool.and_self, if_true]
  show (fastBuiltinMro (kindD d)).map (·.contains (.ref C)) = some false
  refine mro_own ?_
  have a0 : (fastFind? "NoneType").isSome = true := by decide +kernel
  have a1 : (fastFind? "bool").isSome = true := by decide +kernel
  have a2 : (fastFind? "int").isSome = true := by decide +kernel
  have a3 : (fastFind? "str").isSome = true := by decide +kernel
  have a4 : (fastFind? "list").isSome = true := by decide +kernel
  have a5 : (fastFind? "tuple").isSome = true := by decide +kernel
  have a6 : (fastFind? "dict").isSome = true := by decide +kernel
  cases d <;> assumption
end My
set_option Elab.async false
set_option linter.all false
set_option maxRecDepth 100000
set_option maxHeartbeats 4000000
set_option exponentiation.threshold 10000
namespace My
open PySem PySem.W L2
theorem mroC {K : Frag} {D C f : Addr} {nm : Str} (T : ErrC K D nm C f) (b : Value) : mroIn K C b = some ((Value.ref C :: .ref D :: bmV).contains b) := by
  obtain ⟨cd, h1, _, h3⟩ := T.clsIn
  unfold mroIn
  rw [h1, Option.bind_some, h3]
  rfl
theorem neD_of {K : Frag} {D C f : Addr} {nm : Str} (T : ErrC K D nm C f) (B : BaseC K D) : C ≠ D := by
  intro e
  obtain ⟨q, N, bs, sn, sub, ab, col, dd, k0, k1, k2, k3, k5, l⟩ := T.cls
  obtain ⟨nm', q', N', bs', sn', sub', ab', col', dd', k0', k1', k2', k3', k5', l', _⟩ := B.cls
  rw [e, l'] at l
  have z := Option.some.inj l
  injection z with _ _ z _
  injection z with z
  injection z with _ _ z
  cases z
theorem ne_names {K : Frag} {D C f C' f' : Addr} {nm nm' : Str} (T : ErrC K D nm C f) (T' : ErrC K D nm' C' f') (h : nm ≠ nm') : C' ≠ C := by
  intro e
  obtain ⟨q, N, bs, sn, sub, ab, col, dd, k0, k1, k2, k3, k5, l⟩ := T.cls
  obtain ⟨q', N', bs', sn', sub', ab', col', dd', k0', k1', k2', k3', k5', l'⟩ := T'.cls
  rw [e, l] at l'
  have z := Option.some.inj l'
  injection z with _ _ z _
  injection z with z
  injection z with z
  exact h z
theorem baseType {K : Frag} {D : Addr} (B : BaseC K D) : typeIn K (.ref D) = some (.type "type") := by
  obtain ⟨nm', q', N', bs', sn', sub', ab', col', dd', k0', k1', k2', k3', k5', l', _⟩ := B.cls
  show (List.lookup D K).map (·.cls) = _
  rw [l']
  rfl
theorem baseCls {K : Frag} {D : Addr} (B : BaseC K D) : ∃ cd, clsIn K D = some cd := by
  obtain ⟨nm', q', N', bs', sn', sub', ab', col', dd', k0', k1', k2', k3', k5', l', _⟩ := B.cls
  unfold clsIn
  rw [l']
  exact ⟨_, rfl⟩
abbrev sIni2 : Stmt := inClass (top 2) 0
theorem scIni2 : FnScope ["self", "found"] ["self", "found"] (defScope sIni2) := ⟨rfl, rfl, rfl, by decide +kernel, rfl, by decide +kernel, by decide +kernel⟩
theorem one2 {K : Frag} {mg : Str → Option Value} {D C f : Addr} {fd : FuncData} (B : BaseC K D) (T : ErrC K D "NoShare" C f) (mD : mg "DealError" = some (.ref D)) (mC : mg "NoShare" = some (.ref C)) (F : Fun K "__init__" "NoShare.__init__" sIni2 f fd) (tk : takerIn K C "found" = some none) : OneF K mg D "NoShare" "found" C f fd := by
  refine ⟨T, mC, fun P w base => ?_, F.binds fun _ _ _ _ _ _ us hl => match us, hl with | [_, _], _ => rfl⟩
  refine F.ok scIni2 (fun vs H Q E h => ?_) (fun cdv A outer s H vs Q E hr h => ?_)
  · obtain ⟨x, v, rfl, _⟩ := h
    rfl
  obtain ⟨x, v, rfl, hx, q⟩ := h
  refine ⟨_, pss_cons (ps_expr (pe_baseInit B T rfl mD (pv 0) pe_str)) (pss_one (ps_err T (pv 0) (pv 1) rfl)), ?_⟩
  exact ⟨_, rfl, x, rfl, hx, _, rfl, _, rfl, x, rfl, hx, tk, q⟩
abbrev sIni3 : Stmt := inClass (top 3) 0
theorem scIni3 : FnScope ["self", "found"] ["self", "found"] (defScope sIni3) := ⟨rfl, rfl, rfl, by decide +kernel, rfl, by decide +kernel, by decide +kernel⟩
theorem one3 {K : Frag} {mg : Str → Option Value} {D C f : Addr} {fd : FuncData} (B : BaseC K D) (T : ErrC K D "NoNumber" C f) (mD : mg "DealError" = some (.ref D)) (mC : mg "NoNumber" = some (.ref C)) (F : Fun K "__init__" "NoNumber.__init__" sIni3 f fd) (tk : takerIn K C "found" = some none) : OneF K mg D "NoNumber" "found" C f fd := by
  refine ⟨T, mC, fun P w base => ?_, F.binds fun _ _ _ _ _ _ us hl => match us, hl with | [_, _], _ => rfl⟩
  refine F.ok scIni3 (fun vs H Q E h => ?_) (fun cdv A outer s H vs Q E hr h => ?_)
  · obtain ⟨x, v, rfl, _⟩ := h
    rfl
  obtain ⟨x, v, rfl, hx, q⟩ := h
  refine ⟨_, pss_cons (ps_expr (pe_baseInit B T rfl mD (pv 0) pe_str)) (pss_one (ps_err T (pv 0) (pv 1) rfl)), ?_⟩
  exact ⟨_, rfl, x, rfl, hx, _, rfl, _, rfl, x, rfl, hx, tk, q⟩
abbrev sIni5 : Stmt := inClass (top 5) 0
theorem scIni5 : FnScope ["self", "found"] ["self", "found"] (defScope sIni5) := ⟨rfl, rfl, rfl, by decide +kernel, rfl, by decide +kernel, by decide +kernel⟩
theorem one5 {K : Frag} {mg : Str → Option Value} {D C f : Addr} {fd : FuncData} (B : BaseC K D) (T : ErrC K D "NoTrials" C f) (mD : mg "DealError" = some (.ref D)) (mC : mg "NoTrials" = some (.ref C)) (F : Fun K "__init__" "NoTrials.__init__" sIni5 f fd) (tk : takerIn K C "found" = some none) : OneF K mg D "NoTrials" "found" C f fd := by
  refine ⟨T, mC, fun P w base => ?_, F.binds fun _ _ _ _ _ _ us hl => match us, hl with | [_, _], _ => rfl⟩
  refine F.ok scIni5 (fun vs H Q E h => ?_) (fun cdv A outer s H vs Q E hr h => ?_)
  · obtain ⟨x, v, rfl, _⟩ := h
    rfl
  obtain ⟨x, v, rfl, hx, q⟩ := h
  refine ⟨_, pss_cons (ps_expr (pe_baseInit B T rfl mD (pv 0) pe_str)) (pss_one (ps_err T (pv 0) (pv 1) rfl)), ?_⟩
  exact ⟨_, rfl, x, rfl, hx, _, rfl, _, rfl, x, rfl, hx, tk, q⟩
abbrev sIni6 : Stmt := inClass (top 6) 0
theorem scIni6 : FnScope ["self", "many"] ["self", "many"] (defScope sIni6) := ⟨rfl, rfl, rfl, by decide +kernel, rfl, by decide +kernel, by decide +kernel⟩
theorem one6 {K : Frag} {mg : Str → Option Value} {D C f : Addr} {fd : FuncData} (B : BaseC K D) (T : ErrC K D "TooMany" C f) (mD : mg "DealError" = some (.ref D)) (mC : mg "TooMany" = some (.ref C)) (F : Fun K "__init__" "TooMany.__init__" sIni6 f fd) (tk : takerIn K C "many" = some none) : OneF K mg D "TooMany" "many" C f fd := by
  refine ⟨T, mC, fun P w base => ?_, F.binds fun _ _ _ _ _ _ us hl => match us, hl with | [_, _], _ => rfl⟩
  refine F.ok scIni6 (fun vs H Q E h => ?_) (fun cdv A outer s H vs Q E hr h => ?_)
  · obtain ⟨x, v, rfl, _⟩ := h
    rfl
  obtain ⟨x, v, rfl, hx, q⟩ := h
  refine ⟨_, pss_cons (ps_expr (pe_baseInit B T rfl mD (pv 0) pe_str)) (pss_one (ps_err T (pv 0) (pv 1) rfl)), ?_⟩
  exact ⟨_, rfl, x, rfl, hx, _, rfl, _, rfl, x, rfl, hx, tk, q⟩
theorem fld_of {K : Frag} {D C f : Addr} {nm fld : Str} (T : ErrC K D nm C f) (nf : findIn K (.ref C) fld = some none) : FldOk K C fld := by
  obtain ⟨cd, h1, h2, h3⟩ := T.clsIn
  refine ⟨T.it, ?_, nf⟩
  unfold hasDictIn
  rw [h1]
  exact h2
theorem cat_of {K : Frag} {D C f : Addr} {nm : Str} (T : ErrC K D nm C f) : Catch K C := by
  obtain ⟨cd, h1, h2, h3⟩ := T.clsIn
  exact ⟨⟨cd, h1⟩, T.type, T.it.mb⟩
theorem cat_base {K : Frag} {D : Addr} (B : BaseC K D) : Catch K D := ⟨baseCls B, baseType B, B.it.mb⟩
theorem mro_self {K : Frag} {D C f : Addr} {nm : Str} (T : ErrC K D nm C f) : mroIn K C (.ref C) = some true := by
  rw [mroC T, List.contains_cons, beq_self_eq_true]
  rfl
theorem mro_no {K : Frag} {D C f C' f' : Addr} {nm nm' : Str} (B : BaseC K D) (T : ErrC K D nm C f) (T' : ErrC K D nm' C' f') (h : nm ≠ nm') : mroIn K C (.ref C') = some false := by
  have ne := ne_names T T' h
  have nd := neD_of T' B
  rw [mroC T, List.contains_cons, List.contains_cons]
  have n1 : (Value.ref C' == Value.ref C) = false := beq_eq_false_iff_ne.mpr fun z => ne (Value.ref.inj z)
  have n2 : (Value.ref C' == Value.ref D) = false := beq_eq_false_iff_ne.mpr fun z => nd (Value.ref.inj z)
  rw [n1, n2]
  rfl
theorem kit_tyM {K : Frag} {C : Addr} {n : String} {b : Bool} (hm : kitMeta n = true) (h : mroIn K C (.type n) = some b) : kitOne K (.ref C) (.type n) = some b := by
  unfold kitOne
  rw [if_neg (by intro e; cases beq_iff_eq.mp e)]
  show (if kitMeta n = true then subIn K (.ref C) (.type n) else none) = _
  rw [if_pos hm]
  exact h
theorem kit_mro {K : Frag} {C C' : Addr} {b : Bool} (hc : isClsIn K C' = true) (ht : typeIn K (.ref C') = some (.type "type")) (hs : mroIn K C' (.ref C') = some true) (hm : mroIn K C (.ref C') = some b) : kitOne K (.ref C) (.ref C') = some b := by
  unfold kitOne
  by_cases e : C = C'
  · subst e
    rw [hs] at hm
    cases hm
    rw [if_pos (beq_self_eq_true _)]
  · rw [if_neg (by intro z; exact e (Value.ref.inj (beq_iff_eq.mp z)))]
    show (if ((clsIn K C').isSome && typeIn K (.ref C') == some (.type "type")) = true then subIn K (.ref C) (.ref C') else none) = _
    have hc' : (clsIn K C').isSome = true := hc
    rw [hc', ht]
    simp only [beq_self_eq_true, Bool.and_self, if_true]
    exact hm
structure Dm (K : Frag) (nm qual : Str) (st : Stmt) (ps : List Str) (f : Addr) (fd : FuncData) : Prop where
  fn : Fun K nm qual st f fd
  bi : Binds K fd ps []
  kp : keepIn K (.ref f) = true
  isf : isFn K (.ref f) = true
end My
set_option Elab.async false
set_option linter.all false
set_option maxRecDepth 100000
set_option maxHeartbeats 4000000
set_option exponentiation.threshold 10000
namespace My
open PySem PySem.W L2
def keyStr : Value → Bool
  | .str _ _ => true
  | _ => false
theorem strKeys_of {es : Array DictEntry} (h : (es.toList.all fun e => keyStr e.key) = true) : StrKeys es := fun e he => by
  have z := List.all_eq_true.mp h e (by simpa using he)
  cases k : e.key with
  | str n t => exact ⟨n, t, rfl⟩
  | _ => rw [k] at z; cases z
theorem mro_of {K : Frag} {C : Addr} {cd : ClassData} {b : Value} (h : clsIn K C = some cd) (hb : cd.mro.isEmpty = false) (hc : cd.mro.contains b = true) : mroIn K C b = some true := by
  unfold mroIn
  rw [h, Option.bind_some, hb, hc]
  rfl
theorem base_mk {K : Frag} {D N : Addr} {nm q : Str} {bs : List Value} {sn : List Str} {sub : List Value} {ab : Bool} {col : Option Bool} {dd : Option Addr} {k0 k1 k2 k3 k5 : Option Value}
    {cN : Value} {dN : Option Addr} {es : Array DictEntry} {ep : Nat} {sN : Array (Option Value)}
    (lD : K.lookup D = some (excClassObj nm q D N bs bmV true sn sub ab col dd k0 k1 k2 k3 k5 "ValueError.__new__"))
    (lN : K.lookup N = some ⟨cN, dN, .dict es ep, sN⟩) (sk : StrKeys es) (ni : nsFind es "__init__" = none)
    (ga : specialIn K (.ref D) "__getattribute__" = some (some (.builtin "type.__getattribute__"))) (rd : readsIn K D (.type "type") = true)
    (ini : findCls K (.ref D) (.type "type") "__init__" = some (.val (.builtin "ValueError.__init__"))) (fi : findIn K (.ref D) "__init__" = some (some (.builtin "ValueError.__init__"))) (kp : keepIn K (.ref D) = true)
    (gb : findIn K (.ref D) "__getattribute__" = some (some (.builtin bga))) (hk : findIn K (.ref D) "__getattr__" = some none) (ca : findIn K (.ref D) "__class__" = some (some (.builtin "object.__class__"))) : BaseC K D := by
  have hc : clsIn K D = some { name := nm, bases := bs, mro := .ref D :: bmV, ns := N, qualname := q, hasDict := true, slotNames := sn, subclasses := sub, abstract := ab, collection := col, hasDel := false } := by
    unfold clsIn
    rw [lD]
  refine ⟨⟨nm, q, N, bs, sn, sub, ab, col, dd, k0, k1, k2, k3, k5, lD, _, es, ep, lN, rfl, sk, ni⟩, ga, rd, ini, fi, kp, ⟨by rw [hc]; rfl, gb, hk, mro_of hc rfl ?_, mro_of hc rfl ?_, ca⟩⟩
  · show (Value.ref D :: bmV).contains (.type "BaseException") = true
    rw [List.contains_cons]
    rfl
  · show (Value.ref D :: bmV).contains (.type "object") = true
    rw [List.contains_cons]
    rfl
theorem err_mk {K : Frag} {D C N f : Addr} (nm : Str)
    {q : Str} {bs : List Value} {sn : List Str} {sub : List Value} {ab : Bool} {col : Option Bool} {dd : Option Addr} {k0 k1 k2 k3 k5 : Option Value}
    (lC : K.lookup C = some (excClassObj nm q C N bs (.ref D :: bmV) true sn sub ab col dd k0 k1 k2 k3 k5 "ValueError.__new__"))
    (ini : findIn K (.ref C) "__init__" = some (some (.ref f))) (fn : typeIn K (.ref f) = some (.type "function")) (kp : keepIn K (.ref C) = true)
    (sa : findIn K (.ref C) "__setattr__" = some (some (.builtin "object.__setattr__"))) (ga : findIn K (.ref C) "__getattribute__" = some (some (.builtin bga))) (hk : findIn K (.ref C) "__getattr__" = some none)
    (ca : findIn K (.ref C) "__class__" = some (some (.builtin "object.__class__"))) : ErrC K D nm C f := by
  have hc : clsIn K C = some { name := nm, bases := bs, mro := .ref C :: .ref D :: bmV, ns := N, qualname := q, hasDict := true, slotNames := sn, subclasses := sub, abstract := ab, collection := col, hasDel := false } := by
    unfold clsIn
    rw [lC]
  refine ⟨⟨q, N, bs, sn, sub, ab, col, dd, k0, k1, k2, k3, k5, lC⟩, ini, fn, kp, sa, ⟨by rw [hc]; rfl, ga, hk, mro_of hc rfl ?_, mro_of hc rfl ?_, ca⟩⟩
  · show (Value.ref C :: .ref D :: bmV).contains (.type "BaseException") = true
    rw [List.contains_cons, List.contains_cons]
    rfl
  · show (Value.ref C :: .ref D :: bmV).contains (.type "object") = true
    rw [List.contains_cons, List.contains_cons]
    rfl
structure Dn (K : Frag) (mg : Str → Option Value) (nm : Str) (st : Stmt) (ps : List Str) (f : Addr) (fd : FuncData) : Prop where
  fn : Fun K nm nm st f fd
  bi : Binds K fd ps []
  kp : keepIn K (.ref f) = true
  mg : mg nm = some (.ref f)
section
variable {P : Program} {w : World} {K : Frag} {mg : Str → Option Value} {base : Heap}
theorem Dn.df {nm : Str} {st : Stmt} {ps : List Str} {f : Addr} {fd : FuncData} (d : Dn K mg nm st ps f fd) {cx : CXT} {k : Nat} {sp : Sp} (h : FnOk P w K mg base cx k f fd ps sp) : Df P w K mg base cx k nm ps sp f fd := ⟨h, d.bi, d.kp, d.mg⟩
end
def five (a b c d e : Addr) : Nat → Addr
  | 0 => a
  | 1 => b
  | 2 => c
  | 3 => d
  | _ => e
theorem no8 {K : Frag} {c : Addr} (h0 : findIn K (.ref c) "size" = some none) (h1 : findIn K (.ref c) "first_state" = some none) (h2 : findIn K (.ref c) "mark" = some none) (h3 : findIn K (.ref c) "parts" = some none) (h4 : findIn K (.ref c) "coin" = some none) (h5 : findIn K (.ref c) "far" = some none) (h6 : findIn K (.ref c) "rules" = some none) (h7 : findIn K (.ref c) "dealer" = some none) : ∀ f ∈ fNames, NoAttr K c f := by
  intro f hf
  simp only [fNames, List.mem_cons, List.not_mem_nil, or_false] at hf
  rcases hf with rfl | rfl | rfl | rfl | rfl | rfl | rfl | rfl
  · exact h0
  · exact h1
  · exact h2
  · exact h3
  · exact h4
  · exact h5
  · exact h6
  · exact h7
theorem dn_0 {K : Frag} {h : Heap} {mg : Str → Option Value} {g : Addr} {oc kV dc pm cd ct : Value} {od an : Option Addr} {sl : Array (Option Value)} (X : K.In h) (G : h.Ns mainGlobals mg)
    (a : nsIn K mainGlobals "is_number" = some (some (.ref g))) (l : K.lookup g = some ⟨oc, od, .func (fnOf "is_number" "is_number" (defArgs sIsNum) (defBody sIsNum) (defScope sIsNum) .none kV dc pm an cd ct), sl⟩) (c : codeIn K cd "is_number" = true) (k : keepIn K (.ref g) = true) :
    Dn K mg "is_number" sIsNum ["thing"] g (fnOf "is_number" "is_number" (defArgs sIsNum) (defBody sIsNum) (defScope sIsNum) .none kV dc pm an cd ct) := by
  have F := fun_mk (st := sIsNum) l c k
  exact ⟨F, F.binds fun _ _ _ _ _ _ us hl => match us, hl with | [_], _ => rfl, k, mg_of X G a⟩
theorem dn_1 {K : Frag} {h : Heap} {mg : Str → Option Value} {g : Addr} {oc kV dc pm cd ct : Value} {od an : Option Addr} {sl : Array (Option Value)} (X : K.In h) (G : h.Ns mainGlobals mg)
    (a : nsIn K mainGlobals "is_whole" = some (some (.ref g))) (l : K.lookup g = some ⟨oc, od, .func (fnOf "is_whole" "is_whole" (defArgs sIsWh) (defBody sIsWh) (defScope sIsWh) .none kV dc pm an cd ct), sl⟩) (c : codeIn K cd "is_whole" = true) (k : keepIn K (.ref g) = true) :
    Dn K mg "is_whole" sIsWh ["thing", "low", "high"] g (fnOf "is_whole" "is_whole" (defArgs sIsWh) (defBody sIsWh) (defScope sIsWh) .none kV dc pm an cd ct) := by
  have F := fun_mk (st := sIsWh) l c k
  exact ⟨F, F.binds fun _ _ _ _ _ _ us hl => match us, hl with | [_, _, _], _ => rfl, k, mg_of X G a⟩
theorem dn_2 {K : Frag} {h : Heap} {mg : Str → Option Value} {g : Addr} {oc kV dc pm cd ct : Value} {od an : Option Addr} {sl : Array (Option Value)} (X : K.In h) (G : h.Ns mainGlobals mg)
    (a : nsIn K mainGlobals "greatest_common" = some (some (.ref g))) (l : K.lookup g = some ⟨oc, od, .func (fnOf "greatest_common" "greatest_common" (defArgs sGcd) (defBody sGcd) (defScope sGcd) .none kV dc pm an cd ct), sl⟩) (c : codeIn K cd "greatest_common" = true) (k : keepIn K (.ref g) = true) :
    Dn K mg "greatest_common" sGcd ["one", "other"] g (fnOf "greatest_common" "greatest_common" (defArgs sGcd) (defBody sGcd) (defScope sGcd) .none kV dc pm an cd ct) := by
  have F := fun_mk (st := sGcd) l c k
  exact ⟨F, F.binds fun _ _ _ _ _ _ us hl => match us, hl with | [_, _], _ => rfl, k, mg_of X G a⟩
theorem dn_3 {K : Frag} {h : Heap} {mg : Str → Option Value} {g : Addr} {oc kV dc pm cd ct : Value} {od an : Option Addr} {sl : Array (Option Value)} (X : K.In h) (G : h.Ns mainGlobals mg)
    (a : nsIn K mainGlobals "is_part" = some (some (.ref g))) (l : K.lookup g = some ⟨oc, od, .func (fnOf "is_part" "is_part" (defArgs sPart) (defBody sPart) (defScope sPart) .none kV dc pm an cd ct), sl⟩) (c : codeIn K cd "is_part" = true) (k : keepIn K (.ref g) = true) :
    Dn K mg "is_part" sPart ["top", "bottom"] g (fnOf "is_part" "is_part" (defArgs sPart) (defBody sPart) (defScope sPart) .none kV dc pm an cd ct) := by
  have F := fun_mk (st := sPart) l c k
  exact ⟨F, F.binds fun _ _ _ _ _ _ us hl => match us, hl with | [_, _], _ => rfl, k, mg_of X G a⟩
theorem dn_4 {K : Frag} {h : Heap} {mg : Str → Option Value} {g : Addr} {oc kV dc pm cd ct : Value} {od an : Option Addr} {sl : Array (Option Value)} (X : K.In h) (G : h.Ns mainGlobals mg)
    (a : nsIn K mainGlobals "is_share" = some (some (.ref g))) (l : K.lookup g = some ⟨oc, od, .func (fnOf "is_share" "is_share" (defArgs sISh) (defBody sISh) (defScope sISh) .none kV dc pm an cd ct), sl⟩) (c : codeIn K cd "is_share" = true) (k : keepIn K (.ref g) = true) :
    Dn K mg "is_share" sISh ["thing"] g (fnOf "is_share" "is_share" (defArgs sISh) (defBody sISh) (defScope sISh) .none kV dc pm an cd ct) := by
  have F := fun_mk (st := sISh) l c k
  exact ⟨F, F.binds fun _ _ _ _ _ _ us hl => match us, hl with | [_], _ => rfl, k, mg_of X G a⟩
theorem dn_5 {K : Frag} {h : Heap} {mg : Str → Option Value} {g : Addr} {oc kV dc pm cd ct : Value} {od an : Option Addr} {sl : Array (Option Value)} (X : K.In h) (G : h.Ns mainGlobals mg)
    (a : nsIn K mainGlobals "need_number" = some (some (.ref g))) (l : K.lookup g = some ⟨oc, od, .func (fnOf "need_number" "need_number" (defArgs sNN) (defBody sNN) (defScope sNN) .none kV dc pm an cd ct), sl⟩) (c : codeIn K cd "need_number" = true) (k : keepIn K (.ref g) = true) :
    Dn K mg "need_number" sNN ["thing", "low", "high"] g (fnOf "need_number" "need_number" (defArgs sNN) (defBody sNN) (defScope sNN) .none kV dc pm an cd ct) := by
  have F := fun_mk (st := sNN) l c k
  exact ⟨F, F.binds fun _ _ _ _ _ _ us hl => match us, hl with | [_, _, _], _ => rfl, k, mg_of X G a⟩
theorem dn_6 {K : Frag} {h : Heap} {mg : Str → Option Value} {g : Addr} {oc kV dc pm cd ct : Value} {od an : Option Addr} {sl : Array (Option Value)} (X : K.In h) (G : h.Ns mainGlobals mg)
    (a : nsIn K mainGlobals "need_coin" = some (some (.ref g))) (l : K.lookup g = some ⟨oc, od, .func (fnOf "need_coin" "need_coin" (defArgs sNC) (defBody sNC) (defScope sNC) .none kV dc pm an cd ct), sl⟩) (c : codeIn K cd "need_coin" = true) (k : keepIn K (.ref g) = true) :
    Dn K mg "need_coin" sNC ["thing"] g (fnOf "need_coin" "need_coin" (defArgs sNC) (defBody sNC) (defScope sNC) .none kV dc pm an cd ct) := by
  have F := fun_mk (st := sNC) l c k
  exact ⟨F, F.binds fun _ _ _ _ _ _ us hl => match us, hl with | [_], _ => rfl, k, mg_of X G a⟩
theorem dn_7 {K : Frag} {h : Heap} {mg : Str → Option Value} {g : Addr} {oc kV dc pm cd ct : Value} {od an : Option Addr} {sl : Array (Option Value)} (X : K.In h) (G : h.Ns mainGlobals mg)
    (a : nsIn K mainGlobals "one_part" = some (some (.ref g))) (l : K.lookup g = some ⟨oc, od, .func (fnOf "one_part" "one_part" (defArgs sOP) (defBody sOP) (defScope sOP) .none kV dc pm an cd ct), sl⟩) (c : codeIn K cd "one_part" = true) (k : keepIn K (.ref g) = true) :
    Dn K mg "one_part" sOP ["folk"] g (fnOf "one_part" "one_part" (defArgs sOP) (defBody sOP) (defScope sOP) .none kV dc pm an cd ct) := by
  have F := fun_mk (st := sOP) l c k
  exact ⟨F, F.binds fun _ _ _ _ _ _ us hl => match us, hl with | [_], _ => rfl, k, mg_of X G a⟩
theorem dn_8 {K : Frag} {h : Heap} {mg : Str → Option Value} {g : Addr} {oc kV dc pm cd ct : Value} {od an : Option Addr} {sl : Array (Option Value)} (X : K.In h) (G : h.Ns mainGlobals mg)
    (a : nsIn K mainGlobals "may_be_block" = some (some (.ref g))) (l : K.lookup g = some ⟨oc, od, .func (fnOf "may_be_block" "may_be_block" (defArgs sMBk) (defBody sMBk) (defScope sMBk) .none kV dc pm an cd ct), sl⟩) (c : codeIn K cd "may_be_block" = true) (k : keepIn K (.ref g) = true) :
    Dn K mg "may_be_block" sMBk ["thing"] g (fnOf "may_be_block" "may_be_block" (defArgs sMBk) (defBody sMBk) (defScope sMBk) .none kV dc pm an cd ct) := by
  have F := fun_mk (st := sMBk) l c k
  exact ⟨F, F.binds fun _ _ _ _ _ _ us hl => match us, hl with | [_], _ => rfl, k, mg_of X G a⟩
theorem dn_9 {K : Frag} {h : Heap} {mg : Str → Option Value} {g : Addr} {oc kV dc pm cd ct : Value} {od an : Option Addr} {sl : Array (Option Value)} (X : K.In h) (G : h.Ns mainGlobals mg)
    (a : nsIn K mainGlobals "are_block_rules" = some (some (.ref g))) (l : K.lookup g = some ⟨oc, od, .func (fnOf "are_block_rules" "are_block_rules" (defArgs sAB) (defBody sAB) (defScope sAB) .none kV dc pm an cd ct), sl⟩) (c : codeIn K cd "are_block_rules" = true) (k : keepIn K (.ref g) = true) :
    Dn K mg "are_block_rules" sAB ["thing"] g (fnOf "are_block_rules" "are_block_rules" (defArgs sAB) (defBody sAB) (defScope sAB) .none kV dc pm an cd ct) := by
  have F := fun_mk (st := sAB) l c k
  exact ⟨F, F.binds fun _ _ _ _ _ _ us hl => match us, hl with | [_], _ => rfl, k, mg_of X G a⟩
theorem dn_10 {K : Frag} {h : Heap} {mg : Str → Option Value} {g : Addr} {oc kV dc pm cd ct : Value} {od an : Option Addr} {sl : Array (Option Value)} (X : K.In h) (G : h.Ns mainGlobals mg)
    (a : nsIn K mainGlobals "parts_of" = some (some (.ref g))) (l : K.lookup g = some ⟨oc, od, .func (fnOf "parts_of" "parts_of" (defArgs sPO) (defBody sPO) (defScope sPO) .none kV dc pm an cd ct), sl⟩) (c : codeIn K cd "parts_of" = true) (k : keepIn K (.ref g) = true) :
    Dn K mg "parts_of" sPO ["rules"] g (fnOf "parts_of" "parts_of" (defArgs sPO) (defBody sPO) (defScope sPO) .none kV dc pm an cd ct) := by
  have F := fun_mk (st := sPO) l c k
  exact ⟨F, F.binds fun _ _ _ _ _ _ us hl => match us, hl with | [_], _ => rfl, k, mg_of X G a⟩
theorem dn_11 {K : Frag} {h : Heap} {mg : Str → Option Value} {g : Addr} {oc kV dc pm cd ct : Value} {od an : Option Addr} {sl : Array (Option Value)} (X : K.In h) (G : h.Ns mainGlobals mg)
    (a : nsIn K mainGlobals "parts_below" = some (some (.ref g))) (l : K.lookup g = some ⟨oc, od, .func (fnOf "parts_below" "parts_below" (defArgs sPB) (defBody sPB) (defScope sPB) .none kV dc pm an cd ct), sl⟩) (c : codeIn K cd "parts_below" = true) (k : keepIn K (.ref g) = true) :
    Dn K mg "parts_below" sPB ["parts", "many"] g (fnOf "parts_below" "parts_below" (defArgs sPB) (defBody sPB) (defScope sPB) .none kV dc pm an cd ct) := by
  have F := fun_mk (st := sPB) l c k
  exact ⟨F, F.binds fun _ _ _ _ _ _ us hl => match us, hl with | [_, _], _ => rfl, k, mg_of X G a⟩
theorem dn_12 {K : Frag} {h : Heap} {mg : Str → Option Value} {g : Addr} {oc kV dc pm cd ct : Value} {od an : Option Addr} {sl : Array (Option Value)} (X : K.In h) (G : h.Ns mainGlobals mg)
    (a : nsIn K mainGlobals "_law_row" = some (some (.ref g))) (l : K.lookup g = some ⟨oc, od, .func (fnOf "_law_row" "_law_row" (defArgs sRow) (defBody sRow) (defScope sRow) .none kV dc pm an cd ct), sl⟩) (c : codeIn K cd "_law_row" = true) (k : keepIn K (.ref g) = true) :
    Dn K mg "_law_row" sRow ["_law_cell", "_law_sizes"] g (fnOf "_law_row" "_law_row" (defArgs sRow) (defBody sRow) (defScope sRow) .none kV dc pm an cd ct) := by
  have F := fun_mk (st := sRow) l c k
  exact ⟨F, F.binds fun _ _ _ _ _ _ us hl => match us, hl with | [_, _], _ => rfl, k, mg_of X G a⟩
theorem dn_13 {K : Frag} {h : Heap} {mg : Str → Option Value} {g : Addr} {oc kV dc pm cd ct : Value} {od an : Option Addr} {sl : Array (Option Value)} (X : K.In h) (G : h.Ns mainGlobals mg)
    (a : nsIn K mainGlobals "_law_number" = some (some (.ref g))) (l : K.lookup g = some ⟨oc, od, .func (fnOf "_law_number" "_law_number" (defArgs sNu) (defBody sNu) (defScope sNu) .none kV dc pm an cd ct), sl⟩) (c : codeIn K cd "_law_number" = true) (k : keepIn K (.ref g) = true) :
    Dn K mg "_law_number" sNu ["_law_xs"] g (fnOf "_law_number" "_law_number" (defArgs sNu) (defBody sNu) (defScope sNu) .none kV dc pm an cd ct) := by
  have F := fun_mk (st := sNu) l c k
  exact ⟨F, F.binds fun _ _ _ _ _ _ us hl => match us, hl with | [_], _ => rfl, k, mg_of X G a⟩
theorem dn_14 {K : Frag} {h : Heap} {mg : Str → Option Value} {g : Addr} {oc kV dc pm cd ct : Value} {od an : Option Addr} {sl : Array (Option Value)} (X : K.In h) (G : h.Ns mainGlobals mg)
    (a : nsIn K mainGlobals "_law_coin" = some (some (.ref g))) (l : K.lookup g = some ⟨oc, od, .func (fnOf "_law_coin" "_law_coin" (defArgs sCo) (defBody sCo) (defScope sCo) .none kV dc pm an cd ct), sl⟩) (c : codeIn K cd "_law_coin" = true) (k : keepIn K (.ref g) = true) :
    Dn K mg "_law_coin" sCo ["_law_xs"] g (fnOf "_law_coin" "_law_coin" (defArgs sCo) (defBody sCo) (defScope sCo) .none kV dc pm an cd ct) := by
  have F := fun_mk (st := sCo) l c k
  exact ⟨F, F.binds fun _ _ _ _ _ _ us hl => match us, hl with | [_], _ => rfl, k, mg_of X G a⟩
theorem dn_15 {K : Frag} {h : Heap} {mg : Str → Option Value} {g : Addr} {oc kV dc pm cd ct : Value} {od an : Option Addr} {sl : Array (Option Value)} (X : K.In h) (G : h.Ns mainGlobals mg)
    (a : nsIn K mainGlobals "_law_is_number" = some (some (.ref g))) (l : K.lookup g = some ⟨oc, od, .func (fnOf "_law_is_number" "_law_is_number" (defArgs sLN) (defBody sLN) (defScope sLN) .none kV dc pm an cd ct), sl⟩) (c : codeIn K cd "_law_is_number" = true) (k : keepIn K (.ref g) = true) :
    Dn K mg "_law_is_number" sLN ["_law_thing", "_law_low", "_law_high"] g (fnOf "_law_is_number" "_law_is_number" (defArgs sLN) (defBody sLN) (defScope sLN) .none kV dc pm an cd ct) := by
  have F := fun_mk (st := sLN) l c k
  exact ⟨F, F.binds fun _ _ _ _ _ _ us hl => match us, hl with | [_, _, _], _ => rfl, k, mg_of X G a⟩
theorem dn_16 {K : Frag} {h : Heap} {mg : Str → Option Value} {g : Addr} {oc kV dc pm cd ct : Value} {od an : Option Addr} {sl : Array (Option Value)} (X : K.In h) (G : h.Ns mainGlobals mg)
    (a : nsIn K mainGlobals "_law_is_coin" = some (some (.ref g))) (l : K.lookup g = some ⟨oc, od, .func (fnOf "_law_is_coin" "_law_is_coin" (defArgs sLC) (defBody sLC) (defScope sLC) .none kV dc pm an cd ct), sl⟩) (c : codeIn K cd "_law_is_coin" = true) (k : keepIn K (.ref g) = true) :
    Dn K mg "_law_is_coin" sLC ["_law_thing"] g (fnOf "_law_is_coin" "_law_is_coin" (defArgs sLC) (defBody sLC) (defScope sLC) .none kV dc pm an cd ct) := by
  have F := fun_mk (st := sLC) l c k
  exact ⟨F, F.binds fun _ _ _ _ _ _ us hl => match us, hl with | [_], _ => rfl, k, mg_of X G a⟩
theorem dn_17 {K : Frag} {h : Heap} {mg : Str → Option Value} {g : Addr} {oc kV dc pm cd ct : Value} {od an : Option Addr} {sl : Array (Option Value)} (X : K.In h) (G : h.Ns mainGlobals mg)
    (a : nsIn K mainGlobals "_law_rules" = some (some (.ref g))) (l : K.lookup g = some ⟨oc, od, .func (fnOf "_law_rules" "_law_rules" (defArgs sRs) (defBody sRs) (defScope sRs) .none kV dc pm an cd ct), sl⟩) (c : codeIn K cd "_law_rules" = true) (k : keepIn K (.ref g) = true) :
    Dn K mg "_law_rules" sRs ["_law_xs"] g (fnOf "_law_rules" "_law_rules" (defArgs sRs) (defBody sRs) (defScope sRs) .none kV dc pm an cd ct) := by
  have F := fun_mk (st := sRs) l c k
  exact ⟨F, F.binds fun _ _ _ _ _ _ us hl => match us, hl with | [_], _ => rfl, k, mg_of X G a⟩
theorem dn_18 {K : Frag} {h : Heap} {mg : Str → Option Value} {g : Addr} {oc kV dc pm cd ct : Value} {od an : Option Addr} {sl : Array (Option Value)} (X : K.In h) (G : h.Ns mainGlobals mg)
    (a : nsIn K mainGlobals "_law_rules_due" = some (some (.ref g))) (l : K.lookup g = some ⟨oc, od, .func (fnOf "_law_rules_due" "_law_rules_due" (defArgs sRd) (defBody sRd) (defScope sRd) .none kV dc pm an cd ct), sl⟩) (c : codeIn K cd "_law_rules_due" = true) (k : keepIn K (.ref g) = true) :
    Dn K mg "_law_rules_due" sRd ["_law_rules_here"] g (fnOf "_law_rules_due" "_law_rules_due" (defArgs sRd) (defBody sRd) (defScope sRd) .none kV dc pm an cd ct) := by
  have F := fun_mk (st := sRd) l c k
  exact ⟨F, F.binds fun _ _ _ _ _ _ us hl => match us, hl with | [_], _ => rfl, k, mg_of X G a⟩
theorem dn_19 {K : Frag} {h : Heap} {mg : Str → Option Value} {g : Addr} {oc kV dc pm cd ct : Value} {od an : Option Addr} {sl : Array (Option Value)} (X : K.In h) (G : h.Ns mainGlobals mg)
    (a : nsIn K mainGlobals "_law_first_due" = some (some (.ref g))) (l : K.lookup g = some ⟨oc, od, .func (fnOf "_law_first_due" "_law_first_due" (defArgs sFD) (defBody sFD) (defScope sFD) .none kV dc pm an cd ct), sl⟩) (c : codeIn K cd "_law_first_due" = true) (k : keepIn K (.ref g) = true) :
    Dn K mg "_law_first_due" sFD ["_law_checks"] g (fnOf "_law_first_due" "_law_first_due" (defArgs sFD) (defBody sFD) (defScope sFD) .none kV dc pm an cd ct) := by
  have F := fun_mk (st := sFD) l c k
  exact ⟨F, F.binds fun _ _ _ _ _ _ us hl => match us, hl with | [_], _ => rfl, k, mg_of X G a⟩
theorem dn_20 {K : Frag} {h : Heap} {mg : Str → Option Value} {g : Addr} {oc kV dc pm cd ct : Value} {od an : Option Addr} {sl : Array (Option Value)} (X : K.In h) (G : h.Ns mainGlobals mg)
    (a : nsIn K mainGlobals "_law_due" = some (some (.ref g))) (l : K.lookup g = some ⟨oc, od, .func (fnOf "_law_due" "_law_due" (defArgs sDu) (defBody sDu) (defScope sDu) .none kV dc pm an cd ct), sl⟩) (c : codeIn K cd "_law_due" = true) (k : keepIn K (.ref g) = true) :
    Dn K mg "_law_due" sDu ["_law_way", "_law_things"] g (fnOf "_law_due" "_law_due" (defArgs sDu) (defBody sDu) (defScope sDu) .none kV dc pm an cd ct) := by
  have F := fun_mk (st := sDu) l c k
  exact ⟨F, F.binds fun _ _ _ _ _ _ us hl => match us, hl with | [_, _], _ => rfl, k, mg_of X G a⟩
theorem dn_21 {K : Frag} {h : Heap} {mg : Str → Option Value} {g : Addr} {oc kV dc pm cd ct : Value} {od an : Option Addr} {sl : Array (Option Value)} (X : K.In h) (G : h.Ns mainGlobals mg)
    (a : nsIn K mainGlobals "_law_tried" = some (some (.ref g))) (l : K.lookup g = some ⟨oc, od, .func (fnOf "_law_tried" "_law_tried" (defArgs sTd) (defBody sTd) (defScope sTd) .none kV dc pm an cd ct), sl⟩) (c : codeIn K cd "_law_tried" = true) (k : keepIn K (.ref g) = true) :
    Dn K mg "_law_tried" sTd ["_law_way", "_law_things"] g (fnOf "_law_tried" "_law_tried" (defArgs sTd) (defBody sTd) (defScope sTd) .none kV dc pm an cd ct) := by
  have F := fun_mk (st := sTd) l c k
  exact ⟨F, F.binds fun _ _ _ _ _ _ us hl => match us, hl with | [_, _], _ => rfl, k, mg_of X G a⟩
theorem dn_22 {K : Frag} {h : Heap} {mg : Str → Option Value} {g : Addr} {oc kV dc pm cd ct : Value} {od an : Option Addr} {sl : Array (Option Value)} (X : K.In h) (G : h.Ns mainGlobals mg)
    (a : nsIn K mainGlobals "_law_right" = some (some (.ref g))) (l : K.lookup g = some ⟨oc, od, .func (fnOf "_law_right" "_law_right" (defArgs sRi) (defBody sRi) (defScope sRi) .none kV dc pm an cd ct), sl⟩) (c : codeIn K cd "_law_right" = true) (k : keepIn K (.ref g) = true) :
    Dn K mg "_law_right" sRi ["_law_way", "_law_things"] g (fnOf "_law_right" "_law_right" (defArgs sRi) (defBody sRi) (defScope sRi) .none kV dc pm an cd ct) := by
  have F := fun_mk (st := sRi) l c k
  exact ⟨F, F.binds fun _ _ _ _ _ _ us hl => match us, hl with | [_, _], _ => rfl, k, mg_of X G a⟩
theorem dn_23 {K : Frag} {h : Heap} {mg : Str → Option Value} {g : Addr} {oc kV dc pm cd ct : Value} {od an : Option Addr} {sl : Array (Option Value)} (X : K.In h) (G : h.Ns mainGlobals mg)
    (a : nsIn K mainGlobals "law" = some (some (.ref g))) (l : K.lookup g = some ⟨oc, od, .func (fnOf "law" "law" (defArgs sLaw) (defBody sLaw) (defScope sLaw) .none kV dc pm an cd ct), sl⟩) (c : codeIn K cd "law" = true) (k : keepIn K (.ref g) = true) :
    Dn K mg "law" sLaw ["_law_script"] g (fnOf "law" "law" (defArgs sLaw) (defBody sLaw) (defScope sLaw) .none kV dc pm an cd ct) := by
  have F := fun_mk (st := sLaw) l c k
  exact ⟨F, F.binds fun _ _ _ _ _ _ us hl => match us, hl with | [_], _ => rfl, k, mg_of X G a⟩
theorem dm_0 {K : Frag} {g : Addr} {oc kV dc pm cd ct : Value} {od an : Option Addr} {sl : Array (Option Value)}
    (l : K.lookup g = some ⟨oc, od, .func (fnOf "__init__" "Rule.__init__" (defArgs sRuI) (defBody sRuI) (defScope sRuI) .none kV dc pm an cd ct), sl⟩) (c : codeIn K cd "Rule.__init__" = true) (k : keepIn K (.ref g) = true) (f : isFn K (.ref g) = true) :
    Dm K "__init__" "Rule.__init__" sRuI ["self", "size", "first_state", "mark", "parts"] g (fnOf "__init__" "Rule.__init__" (defArgs sRuI) (defBody sRuI) (defScope sRuI) .none kV dc pm an cd ct) := by
  have F := fun_mk (st := sRuI) l c k
  exact ⟨F, F.binds fun _ _ _ _ _ _ us hl => match us, hl with | [_, _, _, _, _], _ => rfl, k, f⟩
theorem dm_1 {K : Frag} {g : Addr} {oc kV dc pm cd ct : Value} {od an : Option Addr} {sl : Array (Option Value)}
    (l : K.lookup g = some ⟨oc, od, .func (fnOf "folk" "Rule.folk" (defArgs sRuF) (defBody sRuF) (defScope sRuF) .none kV dc pm an cd ct), sl⟩) (c : codeIn K cd "Rule.folk" = true) (k : keepIn K (.ref g) = true) (f : isFn K (.ref g) = true) :
    Dm K "folk" "Rule.folk" sRuF ["self"] g (fnOf "folk" "Rule.folk" (defArgs sRuF) (defBody sRuF) (defScope sRuF) .none kV dc pm an cd ct) := by
  have F := fun_mk (st := sRuF) l c k
  exact ⟨F, F.binds fun _ _ _ _ _ _ us hl => match us, hl with | [_], _ => rfl, k, f⟩
theorem dm_2 {K : Frag} {g : Addr} {oc kV dc pm cd ct : Value} {od an : Option Addr} {sl : Array (Option Value)}
    (l : K.lookup g = some ⟨oc, od, .func (fnOf "begin" "Rule.begin" (defArgs sRuB) (defBody sRuB) (defScope sRuB) .none kV dc pm an cd ct), sl⟩) (c : codeIn K cd "Rule.begin" = true) (k : keepIn K (.ref g) = true) (f : isFn K (.ref g) = true) :
    Dm K "begin" "Rule.begin" sRuB ["self"] g (fnOf "begin" "Rule.begin" (defArgs sRuB) (defBody sRuB) (defScope sRuB) .none kV dc pm an cd ct) := by
  have F := fun_mk (st := sRuB) l c k
  exact ⟨F, F.binds fun _ _ _ _ _ _ us hl => match us, hl with | [_], _ => rfl, k, f⟩
theorem dm_3 {K : Frag} {g : Addr} {oc kV dc pm cd ct : Value} {od an : Option Addr} {sl : Array (Option Value)}
    (l : K.lookup g = some ⟨oc, od, .func (fnOf "told" "Rule.told" (defArgs sRuT) (defBody sRuT) (defScope sRuT) .none kV dc pm an cd ct), sl⟩) (c : codeIn K cd "Rule.told" = true) (k : keepIn K (.ref g) = true) (f : isFn K (.ref g) = true) :
    Dm K "told" "Rule.told" sRuT ["self"] g (fnOf "told" "Rule.told" (defArgs sRuT) (defBody sRuT) (defScope sRuT) .none kV dc pm an cd ct) := by
  have F := fun_mk (st := sRuT) l c k
  exact ⟨F, F.binds fun _ _ _ _ _ _ us hl => match us, hl with | [_], _ => rfl, k, f⟩
theorem dm_4 {K : Frag} {g : Addr} {oc kV dc pm cd ct : Value} {od an : Option Addr} {sl : Array (Option Value)}
    (l : K.lookup g = some ⟨oc, od, .func (fnOf "blocks" "Rule.blocks" (defArgs sRuK) (defBody sRuK) (defScope sRuK) .none kV dc pm an cd ct), sl⟩) (c : codeIn K cd "Rule.blocks" = true) (k : keepIn K (.ref g) = true) (f : isFn K (.ref g) = true) :
    Dm K "blocks" "Rule.blocks" sRuK ["self"] g (fnOf "blocks" "Rule.blocks" (defArgs sRuK) (defBody sRuK) (defScope sRuK) .none kV dc pm an cd ct) := by
  have F := fun_mk (st := sRuK) l c k
  exact ⟨F, F.binds fun _ _ _ _ _ _ us hl => match us, hl with | [_], _ => rfl, k, f⟩
theorem dm_5 {K : Frag} {g : Addr} {oc kV dc pm cd ct : Value} {od an : Option Addr} {sl : Array (Option Value)}
    (l : K.lookup g = some ⟨oc, od, .func (fnOf "__init__" "Split.__init__" (defArgs sSpI) (defBody sSpI) (defScope sSpI) .none kV dc pm an cd ct), sl⟩) (c : codeIn K cd "Split.__init__" = true) (k : keepIn K (.ref g) = true) (f : isFn K (.ref g) = true) :
    Dm K "__init__" "Split.__init__" sSpI ["self", "folk", "ones"] g (fnOf "__init__" "Split.__init__" (defArgs sSpI) (defBody sSpI) (defScope sSpI) .none kV dc pm an cd ct) := by
  have F := fun_mk (st := sSpI) l c k
  exact ⟨F, F.binds fun _ _ _ _ _ _ us hl => match us, hl with | [_, _, _], _ => rfl, k, f⟩
theorem dm_6 {K : Frag} {g : Addr} {oc kV dc pm cd ct : Value} {od an : Option Addr} {sl : Array (Option Value)}
    (l : K.lookup g = some ⟨oc, od, .func (fnOf "__init__" "Pairs.__init__" (defArgs sPaI) (defBody sPaI) (defScope sPaI) .none kV dc pm an cd ct), sl⟩) (c : codeIn K cd "Pairs.__init__" = true) (k : keepIn K (.ref g) = true) (f : isFn K (.ref g) = true) :
    Dm K "__init__" "Pairs.__init__" sPaI ["self", "pairs", "coin"] g (fnOf "__init__" "Pairs.__init__" (defArgs sPaI) (defBody sPaI) (defScope sPaI) .none kV dc pm an cd ct) := by
  have F := fun_mk (st := sPaI) l c k
  exact ⟨F, F.binds fun _ _ _ _ _ _ us hl => match us, hl with | [_, _, _], _ => rfl, k, f⟩
theorem dm_7 {K : Frag} {g : Addr} {oc kV dc pm cd ct : Value} {od an : Option Addr} {sl : Array (Option Value)}
    (l : K.lookup g = some ⟨oc, od, .func (fnOf "__init__" "Coins.__init__" (defArgs sCoI) (defBody sCoI) (defScope sCoI) .none kV dc pm an cd ct), sl⟩) (c : codeIn K cd "Coins.__init__" = true) (k : keepIn K (.ref g) = true) (f : isFn K (.ref g) = true) :
    Dm K "__init__" "Coins.__init__" sCoI ["self", "folk", "coin", "far"] g (fnOf "__init__" "Coins.__init__" (defArgs sCoI) (defBody sCoI) (defScope sCoI) .none kV dc pm an cd ct) := by
  have F := fun_mk (st := sCoI) l c k
  exact ⟨F, F.binds fun _ _ _ _ _ _ us hl => match us, hl with | [_, _, _, _], _ => rfl, k, f⟩
theorem dm_8 {K : Frag} {g : Addr} {oc kV dc pm cd ct : Value} {od an : Option Addr} {sl : Array (Option Value)}
    (l : K.lookup g = some ⟨oc, od, .func (fnOf "__init__" "Blocks.__init__" (defArgs sBlI) (defBody sBlI) (defScope sBlI) .none kV dc pm an cd ct), sl⟩) (c : codeIn K cd "Blocks.__init__" = true) (k : keepIn K (.ref g) = true) (f : isFn K (.ref g) = true) :
    Dm K "__init__" "Blocks.__init__" sBlI ["self", "rules"] g (fnOf "__init__" "Blocks.__init__" (defArgs sBlI) (defBody sBlI) (defScope sBlI) .none kV dc pm an cd ct) := by
  have F := fun_mk (st := sBlI) l c k
  exact ⟨F, F.binds fun _ _ _ _ _ _ us hl => match us, hl with | [_, _], _ => rfl, k, f⟩
theorem dm_9 {K : Frag} {g : Addr} {oc kV dc pm cd ct : Value} {od an : Option Addr} {sl : Array (Option Value)}
    (l : K.lookup g = some ⟨oc, od, .func (fnOf "__init__" "First.__init__" (defArgs sFiI) (defBody sFiI) (defScope sFiI) .none kV dc pm an cd ct), sl⟩) (c : codeIn K cd "First.__init__" = true) (k : keepIn K (.ref g) = true) (f : isFn K (.ref g) = true) :
    Dm K "__init__" "First.__init__" sFiI ["self", "rule", "many"] g (fnOf "__init__" "First.__init__" (defArgs sFiI) (defBody sFiI) (defScope sFiI) .none kV dc pm an cd ct) := by
  have F := fun_mk (st := sFiI) l c k
  exact ⟨F, F.binds fun _ _ _ _ _ _ us hl => match us, hl with | [_, _, _], _ => rfl, k, f⟩
theorem dm_10 {K : Frag} {g : Addr} {oc kV dc pm cd ct : Value} {od an : Option Addr} {sl : Array (Option Value)}
    (l : K.lookup g = some ⟨oc, od, .func (fnOf "state_ahead" "Blocks.state_ahead" (defArgs sSA) (defBody sSA) (defScope sSA) .none kV dc pm an cd ct), sl⟩) (c : codeIn K cd "Blocks.state_ahead" = true) (k : keepIn K (.ref g) = true) (f : isFn K (.ref g) = true) :
    Dm K "state_ahead" "Blocks.state_ahead" sSA ["self", "number"] g (fnOf "state_ahead" "Blocks.state_ahead" (defArgs sSA) (defBody sSA) (defScope sSA) .none kV dc pm an cd ct) := by
  have F := fun_mk (st := sSA) l c k
  exact ⟨F, F.binds fun _ _ _ _ _ _ us hl => match us, hl with | [_, _], _ => rfl, k, f⟩
theorem all_mk {l : OpenLaw} {w : World} {K : Frag} {h : Heap} {mg : Str → Option Value} {fa D CE2 fE2 CE3 fE3 CE5 fE5 CE6 fE6 g0 g1 g2 g3 g4 g5 g6 g7 g8 g9 g10 g11 g12 g13 g14 g15 g16 g17 g18 g19 g20 g21 g22 g23 m0 m1 m2 m3 m4 m5 m6 m7 m8 m9 m10 R C0 C1 C2 C3 C4 : Addr} {d0 d1 d2 d3 d4 d5 d6 d7 d8 d9 d10 d11 d12 d13 d14 d15 d16 d17 d18 d19 d20 d21 d22 d23 x0 x1 x2 x3 x4 x5 x6 x7 x8 x9 x10 : FuncData} (X : K.In h) (G : h.Ns mainGlobals mg) (hfa : mg "law" = some (.ref fa))
    {oc2 kV2 dc2 pm2 cd2 ct2 oc3 kV3 dc3 pm3 cd3 ct3 oc5 kV5 dc5 pm5 cd5 ct5 oc6 kV6 dc6 pm6 cd6 ct6 : Value} {od2 an2 od3 an3 od5 an5 od6 an6 : Option Addr} {sl2 sl3 sl5 sl6 : Array (Option Value)}
    {t_MOST_FOLK t_MOST_PAIRS t_MOST_FAR t_MOST_RULES t_MOST_BOTTOM : Tok}
    (B : BaseC K D) (eE2 : ErrC K D "NoShare" CE2 fE2) (eE3 : ErrC K D "NoNumber" CE3 fE3) (eE5 : ErrC K D "NoTrials" CE5 fE5) (eE6 : ErrC K D "TooMany" CE6 fE6)
    (aD : nsIn K mainGlobals "DealError" = some (some (.ref D)))
    (a2 : nsIn K mainGlobals "NoShare" = some (some (.ref CE2)))
    (a3 : nsIn K mainGlobals "NoNumber" = some (some (.ref CE3)))
    (a5 : nsIn K mainGlobals "NoTrials" = some (some (.ref CE5)))
    (a6 : nsIn K mainGlobals "TooMany" = some (some (.ref CE6)))
    (lf2 : K.lookup fE2 = some ⟨oc2, od2, .func (fnOf "__init__" "NoShare.__init__" (defArgs sIni2) (defBody sIni2) (defScope sIni2) .none kV2 dc2 pm2 an2 cd2 ct2), sl2⟩)
    (cf2 : codeIn K cd2 "NoShare.__init__" = true)
    (kf2 : keepIn K (.ref fE2) = true)
    (tk2 : takerIn K CE2 "found" = some none)
    (nf2 : findIn K (.ref CE2) "found" = some none)
    (lf3 : K.lookup fE3 = some ⟨oc3, od3, .func (fnOf "__init__" "NoNumber.__init__" (defArgs sIni3) (defBody sIni3) (defScope sIni3) .none kV3 dc3 pm3 an3 cd3 ct3), sl3⟩)
    (cf3 : codeIn K cd3 "NoNumber.__init__" = true)
    (kf3 : keepIn K (.ref fE3) = true)
    (tk3 : takerIn K CE3 "found" = some none)
    (nf3 : findIn K (.ref CE3) "found" = some none)
    (lf5 : K.lookup fE5 = some ⟨oc5, od5, .func (fnOf "__init__" "NoTrials.__init__" (defArgs sIni5) (defBody sIni5) (defScope sIni5) .none kV5 dc5 pm5 an5 cd5 ct5), sl5⟩)
    (cf5 : codeIn K cd5 "NoTrials.__init__" = true)
    (kf5 : keepIn K (.ref fE5) = true)
    (tk5 : takerIn K CE5 "found" = some none)
    (nf5 : findIn K (.ref CE5) "found" = some none)
    (lf6 : K.lookup fE6 = some ⟨oc6, od6, .func (fnOf "__init__" "TooMany.__init__" (defArgs sIni6) (defBody sIni6) (defScope sIni6) .none kV6 dc6 pm6 an6 cd6 ct6), sl6⟩)
    (cf6 : codeIn K cd6 "TooMany.__init__" = true)
    (kf6 : keepIn K (.ref fE6) = true)
    (tk6 : takerIn K CE6 "many" = some none)
    (nf6 : findIn K (.ref CE6) "many" = some none)
    (ns_R : nsIn K mainGlobals "Rule" = some (some (.ref R)))
    (sga_R : specialIn K (.ref R) "__getattribute__" = some (some (.builtin "type.__getattribute__")))
    (srd_R : readsIn K R (.type "type") = true)
    (sat_R_init : findCls K (.ref R) (.type "type") "__init__" = some (.val (.ref m0)))
    (ic_R : isClsIn K R = true)
    (ty_R : typeIn K (.ref R) = some (.type "type"))
    (ss_R : mroIn K R (.ref R) = some true)
    (nc_C0 : nsIn K mainGlobals "Split" = some (some (.ref C0)))
    (pg_C0 : plainGet K C0 Str.empty = true)
    (hd_C0 : hasDictIn K C0 = true)
    (po_C0 : plainOver K C0 = true)
    (sa_C0 : findIn K (.ref C0) "__setattr__" = some (some (.builtin "object.__setattr__")))
    (mks_C0 : makesIn K C0 = true)
    (kp_C0 : keepIn K (.ref C0) = true)
    (ca_C0 : findIn K (.ref C0) "__class__" = some (some (.builtin "object.__class__")))
    (hm_C0 : mroIn K C0 (.type "object") = some true)
    (icl_C0 : isClsIn K C0 = true)
    (tyl_C0 : typeIn K (.ref C0) = some (.type "type"))
    (no_C0_size : findIn K (.ref C0) "size" = some none)
    (no_C0_first_state : findIn K (.ref C0) "first_state" = some none)
    (no_C0_mark : findIn K (.ref C0) "mark" = some none)
    (no_C0_parts : findIn K (.ref C0) "parts" = some none)
    (no_C0_coin : findIn K (.ref C0) "coin" = some none)
    (no_C0_far : findIn K (.ref C0) "far" = some none)
    (no_C0_rules : findIn K (.ref C0) "rules" = some none)
    (no_C0_dealer : findIn K (.ref C0) "dealer" = some none)
    (fi_C0_init : findIn K (.ref C0) "__init__" = some (some (.ref m5)))
    (fi_C0_folk : findIn K (.ref C0) "folk" = some (some (.ref m1)))
    (fi_C0_begin : findIn K (.ref C0) "begin" = some (some (.ref m2)))
    (fi_C0_told : findIn K (.ref C0) "told" = some (some (.ref m3)))
    (fi_C0_blocks : findIn K (.ref C0) "blocks" = some (some (.ref m4)))
    (mr_C0_C0 : mroIn K C0 (.ref C0) = some true)
    (mr_C0_C1 : mroIn K C0 (.ref C1) = some false)
    (mr_C0_C2 : mroIn K C0 (.ref C2) = some false)
    (mr_C0_C3 : mroIn K C0 (.ref C3) = some false)
    (mr_C0_C4 : mroIn K C0 (.ref C4) = some false)
    (mr_C0_R : mroIn K C0 (.ref R) = some true)
    (mr_C0_tuple : mroIn K C0 (.type "tuple") = some false)
    (mr_C0_list : mroIn K C0 (.type "list") = some false)
    (mr_C0_int : mroIn K C0 (.type "int") = some false)
    (mr_C0_bool : mroIn K C0 (.type "bool") = some false)
    (nc_C1 : nsIn K mainGlobals "Pairs" = some (some (.ref C1)))
    (pg_C1 : plainGet K C1 Str.empty = true)
    (hd_C1 : hasDictIn K C1 = true)
    (po_C1 : plainOver K C1 = true)
    (sa_C1 : findIn K (.ref C1) "__setattr__" = some (some (.builtin "object.__setattr__")))
    (mks_C1 : makesIn K C1 = true)
    (kp_C1 : keepIn K (.ref C1) = true)
    (ca_C1 : findIn K (.ref C1) "__class__" = some (some (.builtin "object.__class__")))
    (hm_C1 : mroIn K C1 (.type "object") = some true)
    (icl_C1 : isClsIn K C1 = true)
    (tyl_C1 : typeIn K (.ref C1) = some (.type "type"))
    (no_C1_size : findIn K (.ref C1) "size" = some none)
    (no_C1_first_state : findIn K (.ref C1) "first_state" = some none)
    (no_C1_mark : findIn K (.ref C1) "mark" = some none)
    (no_C1_parts : findIn K (.ref C1) "parts" = some none)
    (no_C1_coin : findIn K (.ref C1) "coin" = some none)
    (no_C1_far : findIn K (.ref C1) "far" = some none)
    (no_C1_rules : findIn K (.ref C1) "rules" = some none)
    (no_C1_dealer : findIn K (.ref C1) "dealer" = some none)
    (fi_C1_init : findIn K (.ref C1) "__init__" = some (some (.ref m6)))
    (fi_C1_folk : findIn K (.ref C1) "folk" = some (some (.ref m1)))
    (fi_C1_begin : findIn K (.ref C1) "begin" = some (some (.ref m2)))
    (fi_C1_told : findIn K (.ref C1) "told" = some (some (.ref m3)))
    (fi_C1_blocks : findIn K (.ref C1) "blocks" = some (some (.ref m4)))
    (mr_C1_C0 : mroIn K C1 (.ref C0) = some false)
    (mr_C1_C1 : mroIn K C1 (.ref C1) = some true)
    (mr_C1_C2 : mroIn K C1 (.ref C2) = some false)
    (mr_C1_C3 : mroIn K C1 (.ref C3) = some false)
    (mr_C1_C4 : mroIn K C1 (.ref C4) = some false)
    (mr_C1_R : mroIn K C1 (.ref R) = some true)
    (mr_C1_tuple : mroIn K C1 (.type "tuple") = some false)
    (mr_C1_list : mroIn K C1 (.type "list") = some false)
    (mr_C1_int : mroIn K C1 (.type "int") = some false)
    (mr_C1_bool : mroIn K C1 (.type "bool") = some false)
    (nc_C2 : nsIn K mainGlobals "Coins" = some (some (.ref C2)))
    (pg_C2 : plainGet K C2 Str.empty = true)
    (hd_C2 : hasDictIn K C2 = true)
    (po_C2 : plainOver K C2 = true)
    (sa_C2 : findIn K (.ref C2) "__setattr__" = some (some (.builtin "object.__setattr__")))
    (mks_C2 : makesIn K C2 = true)
    (kp_C2 : keepIn K (.ref C2) = true)
    (ca_C2 : findIn K (.ref C2) "__class__" = some (some (.builtin "object.__class__")))
    (hm_C2 : mroIn K C2 (.type "object") = some true)
    (icl_C2 : isClsIn K C2 = true)
    (tyl_C2 : typeIn K (.ref C2) = some (.type "type"))
    (no_C2_size : findIn K (.ref C2) "size" = some none)
    (no_C2_first_state : findIn K (.ref C2) "first_state" = some none)
    (no_C2_mark : findIn K (.ref C2) "mark" = some none)
    (no_C2_parts : findIn K (.ref C2) "parts" = some none)
    (no_C2_coin : findIn K (.ref C2) "coin" = some none)
    (no_C2_far : findIn K (.ref C2) "far" = some none)
    (no_C2_rules : findIn K (.ref C2) "rules" = some none)
    (no_C2_dealer : findIn K (.ref C2) "dealer" = some none)
    (fi_C2_init : findIn K (.ref C2) "__init__" = some (some (.ref m7)))
    (fi_C2_folk : findIn K (.ref C2) "folk" = some (some (.ref m1)))
    (fi_C2_begin : findIn K (.ref C2) "begin" = some (some (.ref m2)))
    (fi_C2_told : findIn K (.ref C2) "told" = some (some (.ref m3)))
    (fi_C2_blocks : findIn K (.ref C2) "blocks" = some (some (.ref m4)))
    (mr_C2_C0 : mroIn K C2 (.ref C0) = some false)
    (mr_C2_C1 : mroIn K C2 (.ref C1) = some false)
    (mr_C2_C2 : mroIn K C2 (.ref C2) = some true)
    (mr_C2_C3 : mroIn K C2 (.ref C3) = some false)
    (mr_C2_C4 : mroIn K C2 (.ref C4) = some false)
    (mr_C2_R : mroIn K C2 (.ref R) = some true)
    (mr_C2_tuple : mroIn K C2 (.type "tuple") = some false)
    (mr_C2_list : mroIn K C2 (.type "list") = some false)
    (mr_C2_int : mroIn K C2 (.type "int") = some false)
    (mr_C2_bool : mroIn K C2 (.type "bool") = some false)
    (nc_C3 : nsIn K mainGlobals "Blocks" = some (some (.ref C3)))
    (pg_C3 : plainGet K C3 Str.empty = true)
    (hd_C3 : hasDictIn K C3 = true)
    (po_C3 : plainOver K C3 = true)
    (sa_C3 : findIn K (.ref C3) "__setattr__" = some (some (.builtin "object.__setattr__")))
    (mks_C3 : makesIn K C3 = true)
    (kp_C3 : keepIn K (.ref C3) = true)
    (ca_C3 : findIn K (.ref C3) "__class__" = some (some (.builtin "object.__class__")))
    (hm_C3 : mroIn K C3 (.type "object") = some true)
    (icl_C3 : isClsIn K C3 = true)
    (tyl_C3 : typeIn K (.ref C3) = some (.type "type"))
    (no_C3_size : findIn K (.ref C3) "size" = some none)
    (no_C3_first_state : findIn K (.ref C3) "first_state" = some none)
    (no_C3_mark : findIn K (.ref C3) "mark" = some none)
    (no_C3_parts : findIn K (.ref C3) "parts" = some none)
    (no_C3_coin : findIn K (.ref C3) "coin" = some none)
    (no_C3_far : findIn K (.ref C3) "far" = some none)
    (no_C3_rules : findIn K (.ref C3) "rules" = some none)
    (no_C3_dealer : findIn K (.ref C3) "dealer" = some none)
    (fi_C3_init : findIn K (.ref C3) "__init__" = some (some (.ref m8)))
    (fi_C3_folk : findIn K (.ref C3) "folk" = some (some (.ref m1)))
    (fi_C3_begin : findIn K (.ref C3) "begin" = some (some (.ref m2)))
    (fi_C3_told : findIn K (.ref C3) "told" = some (some (.ref m3)))
    (fi_C3_blocks : findIn K (.ref C3) "blocks" = some (some (.ref m4)))
    (fi_C3_state_ahead : findIn K (.ref C3) "state_ahead" = some (some (.ref m10)))
    (mr_C3_C0 : mroIn K C3 (.ref C0) = some false)
    (mr_C3_C1 : mroIn K C3 (.ref C1) = some false)
    (mr_C3_C2 : mroIn K C3 (.ref C2) = some false)
    (mr_C3_C3 : mroIn K C3 (.ref C3) = some true)
    (mr_C3_C4 : mroIn K C3 (.ref C4) = some false)
    (mr_C3_R : mroIn K C3 (.ref R) = some true)
    (mr_C3_tuple : mroIn K C3 (.type "tuple") = some false)
    (mr_C3_list : mroIn K C3 (.type "list") = some false)
    (mr_C3_int : mroIn K C3 (.type "int") = some false)
    (mr_C3_bool : mroIn K C3 (.type "bool") = some false)
    (nc_C4 : nsIn K mainGlobals "First" = some (some (.ref C4)))
    (pg_C4 : plainGet K C4 Str.empty = true)
    (hd_C4 : hasDictIn K C4 = true)
    (po_C4 : plainOver K C4 = true)
    (sa_C4 : findIn K (.ref C4) "__setattr__" = some (some (.builtin "object.__setattr__")))
    (mks_C4 : makesIn K C4 = true)
    (kp_C4 : keepIn K (.ref C4) = true)
    (ca_C4 : findIn K (.ref C4) "__class__" = some (some (.builtin "object.__class__")))
    (hm_C4 : mroIn K C4 (.type "object") = some true)
    (icl_C4 : isClsIn K C4 = true)
    (tyl_C4 : typeIn K (.ref C4) = some (.type "type"))
    (no_C4_size : findIn K (.ref C4) "size" = some none)
    (no_C4_first_state : findIn K (.ref C4) "first_state" = some none)
    (no_C4_mark : findIn K (.ref C4) "mark" = some none)
    (no_C4_parts : findIn K (.ref C4) "parts" = some none)
    (no_C4_coin : findIn K (.ref C4) "coin" = some none)
    (no_C4_far : findIn K (.ref C4) "far" = some none)
    (no_C4_rules : findIn K (.ref C4) "rules" = some none)
    (no_C4_dealer : findIn K (.ref C4) "dealer" = some none)
    (fi_C4_init : findIn K (.ref C4) "__init__" = some (some (.ref m9)))
    (fi_C4_folk : findIn K (.ref C4) "folk" = some (some (.ref m1)))
    (fi_C4_begin : findIn K (.ref C4) "begin" = some (some (.ref m2)))
    (fi_C4_told : findIn K (.ref C4) "told" = some (some (.ref m3)))
    (fi_C4_blocks : findIn K (.ref C4) "blocks" = some (some (.ref m4)))
    (mr_C4_C0 : mroIn K C4 (.ref C0) = some false)
    (mr_C4_C1 : mroIn K C4 (.ref C1) = some false)
    (mr_C4_C2 : mroIn K C4 (.ref C2) = some false)
    (mr_C4_C3 : mroIn K C4 (.ref C3) = some false)
    (mr_C4_C4 : mroIn K C4 (.ref C4) = some true)
    (mr_C4_R : mroIn K C4 (.ref R) = some true)
    (mr_C4_tuple : mroIn K C4 (.type "tuple") = some false)
    (mr_C4_list : mroIn K C4 (.type "list") = some false)
    (mr_C4_int : mroIn K C4 (.type "int") = some false)
    (mr_C4_bool : mroIn K C4 (.type "bool") = some false)
    (i_MOST_FOLK : nsIn K mainGlobals "MOST_FOLK" = some (some (.int (20) t_MOST_FOLK)))
    (i_MOST_PAIRS : nsIn K mainGlobals "MOST_PAIRS" = some (some (.int (10) t_MOST_PAIRS)))
    (i_MOST_FAR : nsIn K mainGlobals "MOST_FAR" = some (some (.int (20) t_MOST_FAR)))
    (i_MOST_RULES : nsIn K mainGlobals "MOST_RULES" = some (some (.int (6) t_MOST_RULES)))
    (i_MOST_BOTTOM : nsIn K mainGlobals "MOST_BOTTOM" = some (some (.int (100) t_MOST_BOTTOM)))
    (gt : specialIn K (.builtin "object.__class__") "__get__" = some (some (.builtin "getset_descriptor.__get__")))
    (tkT : takesIn K (.builtin "object.__class__") = some true)
    (eq_C0 : findIn K (.ref C0) "__eq__" = some (some (.builtin "object.__eq__")))
    (ne_C0 : findIn K (.ref C0) "__ne__" = some (some (.builtin "object.__ne__")))
    (eq_C1 : findIn K (.ref C1) "__eq__" = some (some (.builtin "object.__eq__")))
    (ne_C1 : findIn K (.ref C1) "__ne__" = some (some (.builtin "object.__ne__")))
    (eq_C2 : findIn K (.ref C2) "__eq__" = some (some (.builtin "object.__eq__")))
    (ne_C2 : findIn K (.ref C2) "__ne__" = some (some (.builtin "object.__ne__")))
    (eq_C3 : findIn K (.ref C3) "__eq__" = some (some (.builtin "object.__eq__")))
    (ne_C3 : findIn K (.ref C3) "__ne__" = some (some (.builtin "object.__ne__")))
    (eq_C4 : findIn K (.ref C4) "__eq__" = some (some (.builtin "object.__eq__")))
    (ne_C4 : findIn K (.ref C4) "__ne__" = some (some (.builtin "object.__ne__")))
    (z_isinstance : nsIn K mainGlobals "isinstance" = some none)
    (z_int : nsIn K mainGlobals "int" = some none)
    (z_bool : nsIn K mainGlobals "bool" = some none)
    (z_len : nsIn K mainGlobals "len" = some none)
    (z_range : nsIn K mainGlobals "range" = some none)
    (z_tuple : nsIn K mainGlobals "tuple" = some none)
    (z_list : nsIn K mainGlobals "list" = some none)
    (z_sum : nsIn K mainGlobals "sum" = some none)
    (z_all : nsIn K mainGlobals "all" = some none)
    (z_max : nsIn K mainGlobals "max" = some none)
    (e0 : Dn K mg "is_number" sIsNum ["thing"] g0 d0)
    (e1 : Dn K mg "is_whole" sIsWh ["thing", "low", "high"] g1 d1)
    (e2 : Dn K mg "greatest_common" sGcd ["one", "other"] g2 d2)
    (e3 : Dn K mg "is_part" sPart ["top", "bottom"] g3 d3)
    (e4 : Dn K mg "is_share" sISh ["thing"] g4 d4)
    (e5 : Dn K mg "need_number" sNN ["thing", "low", "high"] g5 d5)
    (e6 : Dn K mg "need_coin" sNC ["thing"] g6 d6)
    (e7 : Dn K mg "one_part" sOP ["folk"] g7 d7)
    (e8 : Dn K mg "may_be_block" sMBk ["thing"] g8 d8)
    (e9 : Dn K mg "are_block_rules" sAB ["thing"] g9 d9)
    (e10 : Dn K mg "parts_of" sPO ["rules"] g10 d10)
    (e11 : Dn K mg "parts_below" sPB ["parts", "many"] g11 d11)
    (e12 : Dn K mg "_law_row" sRow ["_law_cell", "_law_sizes"] g12 d12)
    (e13 : Dn K mg "_law_number" sNu ["_law_xs"] g13 d13)
    (e14 : Dn K mg "_law_coin" sCo ["_law_xs"] g14 d14)
    (e15 : Dn K mg "_law_is_number" sLN ["_law_thing", "_law_low", "_law_high"] g15 d15)
    (e16 : Dn K mg "_law_is_coin" sLC ["_law_thing"] g16 d16)
    (e17 : Dn K mg "_law_rules" sRs ["_law_xs"] g17 d17)
    (e18 : Dn K mg "_law_rules_due" sRd ["_law_rules_here"] g18 d18)
    (e19 : Dn K mg "_law_first_due" sFD ["_law_checks"] g19 d19)
    (e20 : Dn K mg "_law_due" sDu ["_law_way", "_law_things"] g20 d20)
    (e21 : Dn K mg "_law_tried" sTd ["_law_way", "_law_things"] g21 d21)
    (e22 : Dn K mg "_law_right" sRi ["_law_way", "_law_things"] g22 d22)
    (e23 : Dn K mg "law" sLaw ["_law_script"] g23 d23)
    (y0 : Dm K "__init__" "Rule.__init__" sRuI ["self", "size", "first_state", "mark", "parts"] m0 x0)
    (y1 : Dm K "folk" "Rule.folk" sRuF ["self"] m1 x1)
    (y2 : Dm K "begin" "Rule.begin" sRuB ["self"] m2 x2)
    (y3 : Dm K "told" "Rule.told" sRuT ["self"] m3 x3)
    (y4 : Dm K "blocks" "Rule.blocks" sRuK ["self"] m4 x4)
    (y5 : Dm K "__init__" "Split.__init__" sSpI ["self", "folk", "ones"] m5 x5)
    (y6 : Dm K "__init__" "Pairs.__init__" sPaI ["self", "pairs", "coin"] m6 x6)
    (y7 : Dm K "__init__" "Coins.__init__" sCoI ["self", "folk", "coin", "far"] m7 x7)
    (y8 : Dm K "__init__" "Blocks.__init__" sBlI ["self", "rules"] m8 x8)
    (y9 : Dm K "__init__" "First.__init__" sFiI ["self", "rule", "many"] m9 x9)
    (y10 : Dm K "state_ahead" "Blocks.state_ahead" sSA ["self", "number"] m10 x10)
    (hb : ∀ (s : Shared) (v : Value), BindsTo s d23 ⟨[v], []⟩ [("_law_script", v)])
    : ∃ fd : FuncData, (∀ (s : Shared) (v : Value), BindsTo s fd ⟨[v], []⟩ [("_law_script", v)]) ∧ ∀ base : Heap, K.In base → base.Ns mainGlobals mg → FnOk l.prog w K mg base CX0 10 fa fd ["_law_script"] (spLaw K) := by
  have e := hfa.symm.trans e23.mg
  cases e
  refine ⟨_, hb, fun base _ _ => ?_⟩
  have m_isinstance := mg_none_of X G z_isinstance
  have m_int := mg_none_of X G z_int
  have m_bool := mg_none_of X G z_bool
  have m_len := mg_none_of X G z_len
  have m_range := mg_none_of X G z_range
  have m_tuple := mg_none_of X G z_tuple
  have m_list := mg_none_of X G z_list
  have m_sum := mg_none_of X G z_sum
  have m_all := mg_none_of X G z_all
  have m_max := mg_none_of X G z_max
  have T : IsT K := ⟨gt, tkT⟩
  have mD := mg_of X G aD
  have o2 := one2 B eE2 mD (mg_of X G a2) (fun_mk (st := sIni2) lf2 cf2 kf2) tk2
  have o3 := one3 B eE3 mD (mg_of X G a3) (fun_mk (st := sIni3) lf3 cf3 kf3) tk3
  have o5 := one5 B eE5 mD (mg_of X G a5) (fun_mk (st := sIni5) lf5 cf5 kf5) tk5
  have o6 := one6 B eE6 mD (mg_of X G a6) (fun_mk (st := sIni6) lf6 cf6 kf6) tk6
  have n_MOST_FOLK := mg_of X G i_MOST_FOLK
  have n_MOST_PAIRS := mg_of X G i_MOST_PAIRS
  have n_MOST_FAR := mg_of X G i_MOST_FAR
  have n_MOST_RULES := mg_of X G i_MOST_RULES
  have n_MOST_BOTTOM := mg_of X G i_MOST_BOTTOM
  have mB_R := mg_of X G ns_R
  have CF_R_init : ClsFn K R "__init__" m0 := ⟨sga_R, srd_R, sat_R_init, y0.kp⟩
  have mC_C0 := mg_of X G nc_C0
  have cls_C0 : Cls K C0 := ⟨pg_C0, hd_C0, po_C0, sa_C0⟩
  have mk_C0 : Mk K C0 m5 := ⟨mks_C0, fi_C0_init, y5.isf, kp_C0⟩
  have mC_C1 := mg_of X G nc_C1
  have cls_C1 : Cls K C1 := ⟨pg_C1, hd_C1, po_C1, sa_C1⟩
  have mk_C1 : Mk K C1 m6 := ⟨mks_C1, fi_C1_init, y6.isf, kp_C1⟩
  have mC_C2 := mg_of X G nc_C2
  have cls_C2 : Cls K C2 := ⟨pg_C2, hd_C2, po_C2, sa_C2⟩
  have mk_C2 : Mk K C2 m7 := ⟨mks_C2, fi_C2_init, y7.isf, kp_C2⟩
  have mC_C3 := mg_of X G nc_C3
  have cls_C3 : Cls K C3 := ⟨pg_C3, hd_C3, po_C3, sa_C3⟩
  have mk_C3 : Mk K C3 m8 := ⟨mks_C3, fi_C3_init, y8.isf, kp_C3⟩
  have mC_C4 := mg_of X G nc_C4
  have cls_C4 : Cls K C4 := ⟨pg_C4, hd_C4, po_C4, sa_C4⟩
  have mk_C4 : Mk K C4 m9 := ⟨mks_C4, fi_C4_init, y9.isf, kp_C4⟩
  have GN_ := ok_isnum (P := l.prog) (w := w) (mg := mg) (base := base) T e0.fn m_isinstance m_int m_bool
  have GN := (e0.df GN_)
  have GW_ := ok_iswh e1.fn GN_ e0.bi e0.kp e0.mg
  have GW := (e1.df GW_)
  have GG_ := ok_gcd (P := l.prog) (w := w) (mg := mg) (base := base) e2.fn
  have GG := (e2.df GG_)
  have GPa_ := ok_part e3.fn GN_ e0.bi e0.kp e0.mg GW_ e1.bi e1.kp e1.mg
  have GPa := (e3.df GPa_)
  have GSh_ := ok_ish T e4.fn GPa GG m_isinstance m_tuple m_len
  have GSh := (e4.df GSh_)
  have GM_ := ok_nn e5.fn B o3 GW
  have GM := (e5.df GM_)
  have GC_ := ok_nc e6.fn B o2 GW GSh n_MOST_BOTTOM
  have GC := (e6.df GC_)
  have GP_ := ok_op (P := l.prog) (w := w) (mg := mg) (base := base) e7.fn m_tuple m_range
  have GP := (e7.df GP_)
  have Z : KR K (five C0 C1 C2 C3 C4) R := {
    cls := fun i hi => match i, hi with
      | 0, _ => cls_C0
      | 1, _ => cls_C1
      | 2, _ => cls_C2
      | 3, _ => cls_C3
      | 4, _ => cls_C4
    no := fun i hi => match i, hi with
      | 0, _ => no8 no_C0_size no_C0_first_state no_C0_mark no_C0_parts no_C0_coin no_C0_far no_C0_rules no_C0_dealer
      | 1, _ => no8 no_C1_size no_C1_first_state no_C1_mark no_C1_parts no_C1_coin no_C1_far no_C1_rules no_C1_dealer
      | 2, _ => no8 no_C2_size no_C2_first_state no_C2_mark no_C2_parts no_C2_coin no_C2_far no_C2_rules no_C2_dealer
      | 3, _ => no8 no_C3_size no_C3_first_state no_C3_mark no_C3_parts no_C3_coin no_C3_far no_C3_rules no_C3_dealer
      | 4, _ => no8 no_C4_size no_C4_first_state no_C4_mark no_C4_parts no_C4_coin no_C4_far no_C4_rules no_C4_dealer
    ha := fun i hi => match i, hi with
      | 0, _ => ca_C0
      | 1, _ => ca_C1
      | 2, _ => ca_C2
      | 3, _ => ca_C3
      | 4, _ => ca_C4
    hn := gt
    htk := tkT
    hm := fun i hi => match i, hi with
      | 0, _ => hm_C0
      | 1, _ => hm_C1
      | 2, _ => hm_C2
      | 3, _ => hm_C3
      | 4, _ => hm_C4
    kk := fun i j hi hj => match i, j, hi, hj with
      | 0, 0, _, _ => kit_mro icl_C0 tyl_C0 mr_C0_C0 mr_C0_C0
      | 0, 1, _, _ => kit_mro icl_C1 tyl_C1 mr_C1_C1 mr_C0_C1
      | 0, 2, _, _ => kit_mro icl_C2 tyl_C2 mr_C2_C2 mr_C0_C2
      | 0, 3, _, _ => kit_mro icl_C3 tyl_C3 mr_C3_C3 mr_C0_C3
      | 0, 4, _, _ => kit_mro icl_C4 tyl_C4 mr_C4_C4 mr_C0_C4
      | 1, 0, _, _ => kit_mro icl_C0 tyl_C0 mr_C0_C0 mr_C1_C0
      | 1, 1, _, _ => kit_mro icl_C1 tyl_C1 mr_C1_C1 mr_C1_C1
      | 1, 2, _, _ => kit_mro icl_C2 tyl_C2 mr_C2_C2 mr_C1_C2
      | 1, 3, _, _ => kit_mro icl_C3 tyl_C3 mr_C3_C3 mr_C1_C3
      | 1, 4, _, _ => kit_mro icl_C4 tyl_C4 mr_C4_C4 mr_C1_C4
      | 2, 0, _, _ => kit_mro icl_C0 tyl_C0 mr_C0_C0 mr_C2_C0
      | 2, 1, _, _ => kit_mro icl_C1 tyl_C1 mr_C1_C1 mr_C2_C1
      | 2, 2, _, _ => kit_mro icl_C2 tyl_C2 mr_C2_C2 mr_C2_C2
      | 2, 3, _, _ => kit_mro icl_C3 tyl_C3 mr_C3_C3 mr_C2_C3
      | 2, 4, _, _ => kit_mro icl_C4 tyl_C4 mr_C4_C4 mr_C2_C4
      | 3, 0, _, _ => kit_mro icl_C0 tyl_C0 mr_C0_C0 mr_C3_C0
      | 3, 1, _, _ => kit_mro icl_C1 tyl_C1 mr_C1_C1 mr_C3_C1
      | 3, 2, _, _ => kit_mro icl_C2 tyl_C2 mr_C2_C2 mr_C3_C2
      | 3, 3, _, _ => kit_mro icl_C3 tyl_C3 mr_C3_C3 mr_C3_C3
      | 3, 4, _, _ => kit_mro icl_C4 tyl_C4 mr_C4_C4 mr_C3_C4
      | 4, 0, _, _ => kit_mro icl_C0 tyl_C0 mr_C0_C0 mr_C4_C0
      | 4, 1, _, _ => kit_mro icl_C1 tyl_C1 mr_C1_C1 mr_C4_C1
      | 4, 2, _, _ => kit_mro icl_C2 tyl_C2 mr_C2_C2 mr_C4_C2
      | 4, 3, _, _ => kit_mro icl_C3 tyl_C3 mr_C3_C3 mr_C4_C3
      | 4, 4, _, _ => kit_mro icl_C4 tyl_C4 mr_C4_C4 mr_C4_C4
    kR := fun i hi => match i, hi with
      | 0, _ => kit_mro ic_R ty_R ss_R mr_C0_R
      | 1, _ => kit_mro ic_R ty_R ss_R mr_C1_R
      | 2, _ => kit_mro ic_R ty_R ss_R mr_C2_R
      | 3, _ => kit_mro ic_R ty_R ss_R mr_C3_R
      | 4, _ => kit_mro ic_R ty_R ss_R mr_C4_R
    kl := fun i hi => match i, hi with
      | 0, _ => kit_tyM (by decide +kernel) mr_C0_list
      | 1, _ => kit_tyM (by decide +kernel) mr_C1_list
      | 2, _ => kit_tyM (by decide +kernel) mr_C2_list
      | 3, _ => kit_tyM (by decide +kernel) mr_C3_list
      | 4, _ => kit_tyM (by decide +kernel) mr_C4_list
    kt := fun i hi => match i, hi with
      | 0, _ => kit_tyM (by decide +kernel) mr_C0_tuple
      | 1, _ => kit_tyM (by decide +kernel) mr_C1_tuple
      | 2, _ => kit_tyM (by decide +kernel) mr_C2_tuple
      | 3, _ => kit_tyM (by decide +kernel) mr_C3_tuple
      | 4, _ => kit_tyM (by decide +kernel) mr_C4_tuple
    ki := fun i hi => match i, hi with
      | 0, _ => kit_tyM (by decide +kernel) mr_C0_int
      | 1, _ => kit_tyM (by decide +kernel) mr_C1_int
      | 2, _ => kit_tyM (by decide +kernel) mr_C2_int
      | 3, _ => kit_tyM (by decide +kernel) mr_C3_int
      | 4, _ => kit_tyM (by decide +kernel) mr_C4_int
    kb := fun i hi => match i, hi with
      | 0, _ => kit_tyM (by decide +kernel) mr_C0_bool
      | 1, _ => kit_tyM (by decide +kernel) mr_C1_bool
      | 2, _ => kit_tyM (by decide +kernel) mr_C2_bool
      | 3, _ => kit_tyM (by decide +kernel) mr_C3_bool
      | 4, _ => kit_tyM (by decide +kernel) mr_C4_bool
  }
  have I0 := ok_rui (P := l.prog) (w := w) (mg := mg) (base := base) Z y0.fn
  have I1 := ok_ruf (P := l.prog) (w := w) (mg := mg) (base := base) Z y1.fn
  have I2 := ok_rub (P := l.prog) (w := w) (mg := mg) (base := base) Z y2.fn
  have I3 := ok_rut (P := l.prog) (w := w) (mg := mg) (base := base) Z y3.fn
  have I4 := ok_ruk (P := l.prog) (w := w) (mg := mg) (base := base) Z y4.fn m_list
  have M_folk : MethS l.prog w K mg base CX0 1 "folk" ["self"] (Is5 (five C0 C1 C2 C3 C4)) (fun _ => spFolk (five C0 C1 C2 C3 C4)) := by
    rintro c ⟨i, hi, rfl⟩
    match i, hi with
    | 0, _ => exact ⟨cls_C0, m1, x1, ⟨fi_C0_folk, y1.isf, y1.kp⟩, I1, y1.bi⟩
    | 1, _ => exact ⟨cls_C1, m1, x1, ⟨fi_C1_folk, y1.isf, y1.kp⟩, I1, y1.bi⟩
    | 2, _ => exact ⟨cls_C2, m1, x1, ⟨fi_C2_folk, y1.isf, y1.kp⟩, I1, y1.bi⟩
    | 3, _ => exact ⟨cls_C3, m1, x1, ⟨fi_C3_folk, y1.isf, y1.kp⟩, I1, y1.bi⟩
    | 4, _ => exact ⟨cls_C4, m1, x1, ⟨fi_C4_folk, y1.isf, y1.kp⟩, I1, y1.bi⟩
  have M_begin : MethS l.prog w K mg base CX0 1 "begin" ["self"] (Is5 (five C0 C1 C2 C3 C4)) (fun _ => spBegin (five C0 C1 C2 C3 C4)) := by
    rintro c ⟨i, hi, rfl⟩
    match i, hi with
    | 0, _ => exact ⟨cls_C0, m2, x2, ⟨fi_C0_begin, y2.isf, y2.kp⟩, I2, y2.bi⟩
    | 1, _ => exact ⟨cls_C1, m2, x2, ⟨fi_C1_begin, y2.isf, y2.kp⟩, I2, y2.bi⟩
    | 2, _ => exact ⟨cls_C2, m2, x2, ⟨fi_C2_begin, y2.isf, y2.kp⟩, I2, y2.bi⟩
    | 3, _ => exact ⟨cls_C3, m2, x2, ⟨fi_C3_begin, y2.isf, y2.kp⟩, I2, y2.bi⟩
    | 4, _ => exact ⟨cls_C4, m2, x2, ⟨fi_C4_begin, y2.isf, y2.kp⟩, I2, y2.bi⟩
  have M_told : MethS l.prog w K mg base CX0 1 "told" ["self"] (Is5 (five C0 C1 C2 C3 C4)) (fun _ => spTold (five C0 C1 C2 C3 C4)) := by
    rintro c ⟨i, hi, rfl⟩
    match i, hi with
    | 0, _ => exact ⟨cls_C0, m3, x3, ⟨fi_C0_told, y3.isf, y3.kp⟩, I3, y3.bi⟩
    | 1, _ => exact ⟨cls_C1, m3, x3, ⟨fi_C1_told, y3.isf, y3.kp⟩, I3, y3.bi⟩
    | 2, _ => exact ⟨cls_C2, m3, x3, ⟨fi_C2_told, y3.isf, y3.kp⟩, I3, y3.bi⟩
    | 3, _ => exact ⟨cls_C3, m3, x3, ⟨fi_C3_told, y3.isf, y3.kp⟩, I3, y3.bi⟩
    | 4, _ => exact ⟨cls_C4, m3, x3, ⟨fi_C4_told, y3.isf, y3.kp⟩, I3, y3.bi⟩
  have M_blocks : MethS l.prog w K mg base CX0 1 "blocks" ["self"] (Is5 (five C0 C1 C2 C3 C4)) (fun _ => spBlk (five C0 C1 C2 C3 C4)) := by
    rintro c ⟨i, hi, rfl⟩
    match i, hi with
    | 0, _ => exact ⟨cls_C0, m4, x4, ⟨fi_C0_blocks, y4.isf, y4.kp⟩, I4, y4.bi⟩
    | 1, _ => exact ⟨cls_C1, m4, x4, ⟨fi_C1_blocks, y4.isf, y4.kp⟩, I4, y4.bi⟩
    | 2, _ => exact ⟨cls_C2, m4, x4, ⟨fi_C2_blocks, y4.isf, y4.kp⟩, I4, y4.bi⟩
    | 3, _ => exact ⟨cls_C3, m4, x4, ⟨fi_C3_blocks, y4.isf, y4.kp⟩, I4, y4.bi⟩
    | 4, _ => exact ⟨cls_C4, m4, x4, ⟨fi_C4_blocks, y4.isf, y4.kp⟩, I4, y4.bi⟩
  have Mm : Ms l.prog w K mg base (five C0 C1 C2 C3 C4) := ⟨M_folk, M_begin, M_told, M_blocks⟩
  have I10 := ok_sa Z y10.fn Mm m_len
  have MA : MethS l.prog w K mg base CX0 2 "state_ahead" ["self", "number"] (fun c => c = (five C0 C1 C2 C3 C4) 3) (fun _ => spSA (five C0 C1 C2 C3 C4)) := by
    rintro c rfl
    exact ⟨cls_C3, m10, x10, ⟨fi_C3_state_ahead, y10.isf, y10.kp⟩, I10, y10.bi⟩
  have GMB_ := ok_mbk (P := l.prog) (w := w) (mg := mg) (base := base) (K := K) (C := five C0 C1 C2 C3 C4) e8.fn mC_C0 mC_C1 mC_C2 m_isinstance
  have GMB := (e8.df GMB_)
  have GAB_ := ok_ab T e9.fn GMB GW n_MOST_RULES m_isinstance m_list m_len m_all
  have GAB := (e9.df GAB_)
  have GPO_ := ok_po e10.fn Mm m_tuple m_range
  have GPO := (e10.df GPO_)
  have GPB_ := ok_pb (P := l.prog) (w := w) (mg := mg) (base := base) e11.fn m_tuple m_len
  have GPB := (e11.df GPB_)
  have I5 := ok_spi y5.fn CF_R_init I0 y0.bi mB_R GM GP n_MOST_FOLK
  have I6 := ok_pai Z y6.fn CF_R_init I0 y0.bi mB_R GM GP GC n_MOST_PAIRS
  have I7 := ok_coi Z y7.fn CF_R_init I0 y0.bi mB_R GM GP GC n_MOST_FOLK n_MOST_FAR
  have I8 := ok_bli Z y8.fn Mm MA B o5 o6 CF_R_init I0 y0.bi mB_R GAB GPO n_MOST_FOLK m_sum m_tuple
  have I9 := ok_fii T Z y9.fn Mm CF_R_init I0 y0.bi mB_R GM GPB mC_C4 m_isinstance
  have Lk : Mks l.prog w K mg base (five C0 C1 C2 C3 C4) CE3 CE2 CE5 CE6 m5 m6 m7 m8 m9 x5 x6 x7 x8 x9 := ⟨mk_C0, mk_C1, mk_C2, mk_C3, mk_C4, I5, I6, I7, I8, I9, y5.bi, y6.bi, y7.bi, y8.bi, y9.bi, mC_C0, mC_C1, mC_C2, mC_C3, mC_C4⟩
  have nb : KB K (five C0 C1 C2 C3 C4) := fun i hi => match i, hi with
    | 0, _ => fun d => kind_own icl_C0 tyl_C0 d
    | 1, _ => fun d => kind_own icl_C1 tyl_C1 d
    | 2, _ => fun d => kind_own icl_C2 tyl_C2 d
    | 3, _ => fun d => kind_own icl_C3 tyl_C3 d
    | 4, _ => fun d => kind_own icl_C4 tyl_C4 d
  have cc : ∀ i, i < 5 → CmpC K (five C0 C1 C2 C3 C4 i) := fun i hi => match i, hi with
    | 0, _ => ⟨eq_C0, ne_C0, hm_C0⟩
    | 1, _ => ⟨eq_C1, ne_C1, hm_C1⟩
    | 2, _ => ⟨eq_C2, ne_C2, hm_C2⟩
    | 3, _ => ⟨eq_C3, ne_C3, hm_C3⟩
    | 4, _ => ⟨eq_C4, ne_C4, hm_C4⟩
  have Zx : KitX K D CE3 CE2 CE5 CE6 := ⟨cat_of eE3, cat_of eE2, cat_of eE5, cat_of eE6, cat_base B, fld_of eE3 nf3, fld_of eE2 nf2, fld_of eE5 nf5, fld_of eE6 nf6, mro_self eE3, mro_no B eE2 eE3 (by decide +kernel), mro_self eE2, mro_no B eE5 eE3 (by decide +kernel), mro_no B eE5 eE2 (by decide +kernel), mro_self eE5, mro_no B eE6 eE3 (by decide +kernel), mro_no B eE6 eE2 (by decide +kernel), mro_no B eE6 eE5 (by decide +kernel), mro_self eE6⟩
  have Lr_ := ok_row (P := l.prog) (w := w) (mg := mg) (base := base) e12.fn m_range m_len
  have Lr := (e12.df Lr_)
  have Ln_ := ok_nu (P := l.prog) (w := w) (mg := mg) (base := base) e13.fn
  have Ln := (e13.df Ln_)
  have Lc_ := ok_co (P := l.prog) (w := w) (mg := mg) (base := base) e14.fn
  have Lc := (e14.df Lc_)
  have Li_ := ok_ln (P := l.prog) (w := w) (mg := mg) (base := base) T e15.fn m_isinstance m_int m_bool
  have Li := (e15.df Li_)
  have Lj_ := ok_lc (P := l.prog) (w := w) (mg := mg) (base := base) T e16.fn m_isinstance m_bool
  have Lj := (e16.df Lj_)
  have Ls_ := ok_rs Z nb e17.fn Lk m_range m_len m_tuple
  have Ls := (e17.df Ls_)
  have Ld_ := ok_rd Z T e18.fn Mm mC_C0 mC_C1 mC_C2 m_isinstance m_list m_len m_sum
  have Ld := (e18.df Ld_)
  have Lf_ := ok_fd (P := l.prog) (w := w) (mg := mg) (base := base) e19.fn
  have Lf := (e19.df Lf_)
  have Lu_ := ok_du e20.fn Li Lf Lj Ld Mm
  have Lu := (e20.df Lu_)
  have Lt_ := ok_td e21.fn Lk Mm Zx (mg_of X G a3) (mg_of X G a2) (mg_of X G a5) (mg_of X G a6) mD
  have Lt := (e21.df Lt_)
  have Lg_ := ok_ri T e22.fn Lu Lt m_isinstance m_bool
  have Lg := (e22.df Lg_)
  exact ok_law Z cc e23.fn ⟨Lk, T, Lr, Ln, Ls, Lc, Lg, m_isinstance, m_list, m_range⟩
theorem walk {l : OpenLaw} {q : Program} {loose : List Str} {XP : (Str → Option Value) → Heap → Prop} {YP : World → Heap → Prop} {d : DefRec} {K : Params → Frag} (hn : l.most = some 63) (hdf : d.params.defaults = [])
    (hY : ∀ (w : World) (h : Heap), YP w h → (K w.params).In h)
    (F : ∀ (w : World) (mg : Str → Option Value) (fa : Addr) (h : Heap), (K w.params).In h → h.Ns mainGlobals mg → mg d.name = some (.ref fa) →
      ∃ fd : FuncData, (∀ (s : Shared) (u : Value), BindsTo s fd ⟨[u], []⟩ [("_law_script", u)]) ∧ ∀ base : Heap, (K w.params).In base → base.Ns mainGlobals mg → FnOk l.prog w (K w.params) mg base CX0 10 fa fd ["_law_script"] (spLaw (K w.params))) :
    WalkO q loose XP YP l.row.toRowW d [] (fun f vs => PySem.call f vs) :=
  L2.walk_ofS (n := 63) (k := 10) (x := "_law_script") (CX := fun _ => CX0) (sp := fun w => spLaw (K w.params)) hn (by decide) hdf ⟨rfl, by decide, by decide, rfl⟩ hY F (fun _ _ a ns hl _ hS hz => ⟨a, ns, rfl, hS, hl, hz, fun _ => rfl⟩) fun _ _ _ _ _ z => z
end My
open PySem PySem.W PyProof.Rows
set_option Elab.async false
def PySem.W.Fast.tw1852835485795770711 : Unit := ()
def PySem.W.Fast.tw1043637753723210450 : Unit := ()
def PySem.W.Fast.tw1703463108399009148 : Unit := ()
def PySem.W.Fast.tw12763105337612574184 : Unit := ()
def PySem.W.Fast.tw16496347169390313714 : Unit := ()
def PySem.W.Fast.tw621361843308769380 : Unit := ()
def PySem.W.Fast.tw3706357064724331626 : Unit := ()
def PySem.W.Fast.tw9228083615178725891 : Unit := ()
def PySem.W.Fast.tw10701622287099750478 : Unit := ()
def PySem.W.Fast.tw1270250796589477315 : Unit := ()
def PySem.W.Fast.tw18014743190005721562 : Unit := ()
def PySem.W.Fast.tw3357351349946459462 : Unit := ()
set_option maxRecDepth 100000 in
set_option maxHeartbeats 0 in
theorem PySem.Challenge.cw_trialdeal_k07_rules_refused_holds : PySem.Challenge.rw_trialdeal_k07_rules_refused.Holds := by
  w_on; o_law; k_head; (case hw => w_witness2)
  k_fill
  refine My.walk (l := PySem.Challenge.rw_trialdeal_k07_rules_refused) rfl rfl (fun w h Y => PySem.W.kIn_of Y) ?F
  case F =>
    intro w mg fa h KX G hmg
    refine' My.all_mk KX G hmg (My.base_mk ?my_lD ?my_lN ?my_sk ?my_ni ?my_gaD ?my_rdD ?my_inD ?my_fiD ?my_kpD ?my_gbD ?my_hkD ?my_caD)
      (My.err_mk "NoShare" ?my_l2 ?my_i2 ?my_t2 ?my_k2 ?my_s2 ?my_g2 ?my_h2 ?my_c2)
      (My.err_mk "NoNumber" ?my_l3 ?my_i3 ?my_t3 ?my_k3 ?my_s3 ?my_g3 ?my_h3 ?my_c3)
      (My.err_mk "NoTrials" ?my_l5 ?my_i5 ?my_t5 ?my_k5 ?my_s5 ?my_g5 ?my_h5 ?my_c5)
      (My.err_mk "TooMany" ?my_l6 ?my_i6 ?my_t6 ?my_k6 ?my_s6 ?my_g6 ?my_h6 ?my_c6)
      ?my_f_aD ?my_f_a2 ?my_f_a3 ?my_f_a5 ?my_f_a6 ?my_f_lf2 ?my_f_cf2 ?my_f_kf2 ?my_f_tk2 ?my_f_nf2 ?my_f_lf3 ?my_f_cf3 ?my_f_kf3 ?my_f_tk3 ?my_f_nf3 ?my_f_lf5 ?my_f_cf5 ?my_f_kf5 ?my_f_tk5 ?my_f_nf5 ?my_f_lf6 ?my_f_cf6 ?my_f_kf6 ?my_f_tk6 ?my_f_nf6 ?my_f_ns_R ?my_f_sga_R ?my_f_srd_R ?my_f_sat_R_init ?my_f_ic_R ?my_f_ty_R ?my_f_ss_R ?my_f_nc_C0 ?my_f_pg_C0 ?my_f_hd_C0 ?my_f_po_C0 ?my_f_sa_C0 ?my_f_mks_C0 ?my_f_kp_C0 ?my_f_ca_C0 ?my_f_hm_C0 ?my_f_icl_C0 ?my_f_tyl_C0 ?my_f_no_C0_size ?my_f_no_C0_first_state ?my_f_no_C0_mark ?my_f_no_C0_parts ?my_f_no_C0_coin ?my_f_no_C0_far ?my_f_no_C0_rules ?my_f_no_C0_dealer ?my_f_fi_C0_init ?my_f_fi_C0_folk ?my_f_fi_C0_begin ?my_f_fi_C0_told ?my_f_fi_C0_blocks ?my_f_mr_C0_C0 ?my_f_mr_C0_C1 ?my_f_mr_C0_C2 ?my_f_mr_C0_C3 ?my_f_mr_C0_C4 ?my_f_mr_C0_R ?my_f_mr_C0_tuple ?my_f_mr_C0_list ?my_f_mr_C0_int ?my_f_mr_C0_bool ?my_f_nc_C1 ?my_f_pg_C1 ?my_f_hd_C1 ?my_f_po_C1 ?my_f_sa_C1 ?my_f_mks_C1 ?my_f_kp_C1 ?my_f_ca_C1 ?my_f_hm_C1 ?my_f_icl_C1 ?my_f_tyl_C1 ?my_f_no_C1_size ?my_f_no_C1_first_state ?my_f_no_C1_mark ?my_f_no_C1_parts ?my_f_no_C1_coin ?my_f_no_C1_far ?my_f_no_C1_rules ?my_f_no_C1_dealer ?my_f_fi_C1_init ?my_f_fi_C1_folk ?my_f_fi_C1_begin ?my_f_fi_C1_told ?my_f_fi_C1_blocks ?my_f_mr_C1_C0 ?my_f_mr_C1_C1 ?my_f_mr_C1_C2 ?my_f_mr_C1_C3 ?my_f_mr_C1_C4 ?my_f_mr_C1_R ?my_f_mr_C1_tuple ?my_f_mr_C1_list ?my_f_mr_C1_int ?my_f_mr_C1_bool ?my_f_nc_C2 ?my_f_pg_C2 ?my_f_hd_C2 ?my_f_po_C2 ?my_f_sa_C2 ?my_f_mks_C2 ?my_f_kp_C2 ?my_f_ca_C2 ?my_f_hm_C2 ?my_f_icl_C2 ?my_f_tyl_C2 ?my_f_no_C2_size ?my_f_no_C2_first_state ?my_f_no_C2_mark ?my_f_no_C2_parts ?my_f_no_C2_coin ?my_f_no_C2_far ?my_f_no_C2_rules ?my_f_no_C2_dealer ?my_f_fi_C2_init ?my_f_fi_C2_folk ?my_f_fi_C2_begin ?my_f_fi_C2_told ?my_f_fi_C2_blocks ?my_f_mr_C2_C0 ?my_f_mr_C2_C1 ?my_f_mr_C2_C2 ?my_f_mr_C2_C3 ?my_f_mr_C2_C4 ?my_f_mr_C2_R ?my_f_mr_C2_tuple ?my_f_mr_C2_list ?my_f_mr_C2_int ?my_f_mr_C2_bool ?my_f_nc_C3 ?my_f_pg_C3 ?my_f_hd_C3 ?my_f_po_C3 ?my_f_sa_C3 ?my_f_mks_C3 ?my_f_kp_C3 ?my_f_ca_C3 ?my_f_hm_C3 ?my_f_icl_C3 ?my_f_tyl_C3 ?my_f_no_C3_size ?my_f_no_C3_first_state ?my_f_no_C3_mark ?my_f_no_C3_parts ?my_f_no_C3_coin ?my_f_no_C3_far ?my_f_no_C3_rules ?my_f_no_C3_dealer ?my_f_fi_C3_init ?my_f_fi_C3_folk ?my_f_fi_C3_begin ?my_f_fi_C3_told ?my_f_fi_C3_blocks ?my_f_fi_C3_state_ahead ?my_f_mr_C3_C0 ?my_f_mr_C3_C1 ?my_f_mr_C3_C2 ?my_f_mr_C3_C3 ?my_f_mr_C3_C4 ?my_f_mr_C3_R ?my_f_mr_C3_tuple ?my_f_mr_C3_list ?my_f_mr_C3_int ?my_f_mr_C3_bool ?my_f_nc_C4 ?my_f_pg_C4 ?my_f_hd_C4 ?my_f_po_C4 ?my_f_sa_C4 ?my_f_mks_C4 ?my_f_kp_C4 ?my_f_ca_C4 ?my_f_hm_C4 ?my_f_icl_C4 ?my_f_tyl_C4 ?my_f_no_C4_size ?my_f_no_C4_first_state ?my_f_no_C4_mark ?my_f_no_C4_parts ?my_f_no_C4_coin ?my_f_no_C4_far ?my_f_no_C4_rules ?my_f_no_C4_dealer ?my_f_fi_C4_init ?my_f_fi_C4_folk ?my_f_fi_C4_begin ?my_f_fi_C4_told ?my_f_fi_C4_blocks ?my_f_mr_C4_C0 ?my_f_mr_C4_C1 ?my_f_mr_C4_C2 ?my_f_mr_C4_C3 ?my_f_mr_C4_C4 ?my_f_mr_C4_R ?my_f_mr_C4_tuple ?my_f_mr_C4_list ?my_f_mr_C4_int ?my_f_mr_C4_bool ?my_f_i_MOST_FOLK ?my_f_i_MOST_PAIRS ?my_f_i_MOST_FAR ?my_f_i_MOST_RULES ?my_f_i_MOST_BOTTOM ?my_f_gt ?my_f_tkT ?my_f_eq_C0 ?my_f_ne_C0 ?my_f_eq_C1 ?my_f_ne_C1 ?my_f_eq_C2 ?my_f_ne_C2 ?my_f_eq_C3 ?my_f_ne_C3 ?my_f_eq_C4 ?my_f_ne_C4 ?my_f_z_isinstance ?my_f_z_int ?my_f_z_bool ?my_f_z_len ?my_f_z_range ?my_f_z_tuple ?my_f_z_list ?my_f_z_sum ?my_f_z_all ?my_f_z_max
      (My.dn_0 KX G ?my_A0 ?my_L0 ?my_C0 ?my_K0)
      (My.dn_1 KX G ?my_A1 ?my_L1 ?my_C1 ?my_K1)
      (My.dn_2 KX G ?my_A2 ?my_L2 ?my_C2 ?my_K2)
      (My.dn_3 KX G ?my_A3 ?my_L3 ?my_C3 ?my_K3)
      (My.dn_4 KX G ?my_A4 ?my_L4 ?my_C4 ?my_K4)
      (My.dn_5 KX G ?my_A5 ?my_L5 ?my_C5 ?my_K5)
      (My.dn_6 KX G ?my_A6 ?my_L6 ?my_C6 ?my_K6)
      (My.dn_7 KX G ?my_A7 ?my_L7 ?my_C7 ?my_K7)
      (My.dn_8 KX G ?my_A8 ?my_L8 ?my_C8 ?my_K8)
      (My.dn_9 KX G ?my_A9 ?my_L9 ?my_C9 ?my_K9)
      (My.dn_10 KX G ?my_A10 ?my_L10 ?my_C10 ?my_K10)
      (My.dn_11 KX G ?my_A11 ?my_L11 ?my_C11 ?my_K11)
      (My.dn_12 KX G ?my_A12 ?my_L12 ?my_C12 ?my_K12)
      (My.dn_13 KX G ?my_A13 ?my_L13 ?my_C13 ?my_K13)
      (My.dn_14 KX G ?my_A14 ?my_L14 ?my_C14 ?my_K14)
      (My.dn_15 KX G ?my_A15 ?my_L15 ?my_C15 ?my_K15)
      (My.dn_16 KX G ?my_A16 ?my_L16 ?my_C16 ?my_K16)
      (My.dn_17 KX G ?my_A17 ?my_L17 ?my_C17 ?my_K17)
      (My.dn_18 KX G ?my_A18 ?my_L18 ?my_C18 ?my_K18)
      (My.dn_19 KX G ?my_A19 ?my_L19 ?my_C19 ?my_K19)
      (My.dn_20 KX G ?my_A20 ?my_L20 ?my_C20 ?my_K20)
      (My.dn_21 KX G ?my_A21 ?my_L21 ?my_C21 ?my_K21)
      (My.dn_22 KX G ?my_A22 ?my_L22 ?my_C22 ?my_K22)
      (My.dn_23 KX G ?my_A23 ?my_L23 ?my_C23 ?my_K23)
      (My.dm_0 ?my_ML0 ?my_MC0 ?my_MK0 ?my_MF0)
      (My.dm_1 ?my_ML1 ?my_MC1 ?my_MK1 ?my_MF1)
      (My.dm_2 ?my_ML2 ?my_MC2 ?my_MK2 ?my_MF2)
      (My.dm_3 ?my_ML3 ?my_MC3 ?my_MK3 ?my_MF3)
      (My.dm_4 ?my_ML4 ?my_MC4 ?my_MK4 ?my_MF4)
      (My.dm_5 ?my_ML5 ?my_MC5 ?my_MK5 ?my_MF5)
      (My.dm_6 ?my_ML6 ?my_MC6 ?my_MK6 ?my_MF6)
      (My.dm_7 ?my_ML7 ?my_MC7 ?my_MK7 ?my_MF7)
      (My.dm_8 ?my_ML8 ?my_MC8 ?my_MK8 ?my_MF8)
      (My.dm_9 ?my_ML9 ?my_MC9 ?my_MK9 ?my_MF9)
      (My.dm_10 ?my_ML10 ?my_MC10 ?my_MK10 ?my_MF10)
      (fun s v => .of_eq rfl)
    (case my_f_aD => k_is); (case my_f_a2 => k_is); (case my_f_a3 => k_is); (case my_f_a5 => k_is); (case my_f_a6 => k_is); (case my_lD => k_is); (case my_lN => k_is)
    (case my_sk => exact My.strKeys_of rfl)
    (case my_ni => first | rfl | decide +kernel)
    (case my_gaD => k_is); (case my_rdD => k_is); (case my_inD => k_is); (case my_fiD => k_is); (case my_kpD => k_is); (case my_gbD => k_is); (case my_hkD => k_is); (case my_caD => k_is)
    (case my_l2 => k_is); (case my_i2 => k_is); (case my_t2 => k_is); (case my_k2 => k_is); (case my_s2 => k_is); (case my_g2 => k_is); (case my_h2 => k_is); (case my_c2 => k_is)
    (case my_l3 => k_is); (case my_i3 => k_is); (case my_t3 => k_is); (case my_k3 => k_is); (case my_s3 => k_is); (case my_g3 => k_is); (case my_h3 => k_is); (case my_c3 => k_is)
    (case my_l5 => k_is); (case my_i5 => k_is); (case my_t5 => k_is); (case my_k5 => k_is); (case my_s5 => k_is); (case my_g5 => k_is); (case my_h5 => k_is); (case my_c5 => k_is)
    (case my_l6 => k_is); (case my_i6 => k_is); (case my_t6 => k_is); (case my_k6 => k_is); (case my_s6 => k_is); (case my_g6 => k_is); (case my_h6 => k_is); (case my_c6 => k_is)
    (case my_f_ns_R => k_is); (case my_f_nc_C0 => k_is); (case my_f_nc_C1 => k_is); (case my_f_nc_C2 => k_is); (case my_f_nc_C3 => k_is); (case my_f_nc_C4 => k_is)
    (case my_f_sat_R_init => k_is); (case my_f_fi_C0_init => k_is); (case my_f_fi_C0_folk => k_is); (case my_f_fi_C0_begin => k_is); (case my_f_fi_C0_told => k_is); (case my_f_fi_C0_blocks => k_is); (case my_f_fi_C1_init => k_is); (case my_f_fi_C1_folk => k_is); (case my_f_fi_C1_begin => k_is); (case my_f_fi_C1_told => k_is); (case my_f_fi_C1_blocks => k_is); (case my_f_fi_C2_init => k_is); (case my_f_fi_C2_folk => k_is); (case my_f_fi_C2_begin => k_is); (case my_f_fi_C2_told => k_is); (case my_f_fi_C2_blocks => k_is); (case my_f_fi_C3_init => k_is); (case my_f_fi_C3_folk => k_is); (case my_f_fi_C3_begin => k_is); (case my_f_fi_C3_told => k_is); (case my_f_fi_C3_blocks => k_is); (case my_f_fi_C3_state_ahead => k_is); (case my_f_fi_C4_init => k_is); (case my_f_fi_C4_folk => k_is); (case my_f_fi_C4_begin => k_is); (case my_f_fi_C4_told => k_is); (case my_f_fi_C4_blocks => k_is)
    (case my_f_lf2 => k_is); (case my_f_cf2 => k_is); (case my_f_kf2 => k_is); (case my_f_tk2 => k_is); (case my_f_nf2 => k_is); (case my_f_lf3 => k_is); (case my_f_cf3 => k_is); (case my_f_kf3 => k_is)
    (case my_f_tk3 => k_is); (case my_f_nf3 => k_is); (case my_f_lf5 => k_is); (case my_f_cf5 => k_is); (case my_f_kf5 => k_is); (case my_f_tk5 => k_is); (case my_f_nf5 => k_is); (case my_f_lf6 => k_is)
    (case my_f_cf6 => k_is); (case my_f_kf6 => k_is); (case my_f_tk6 => k_is); (case my_f_nf6 => k_is); (case my_f_sga_R => k_is); (case my_f_srd_R => k_is); (case my_f_ic_R => k_is); (case my_f_ty_R => k_is)
    (case my_f_ss_R => k_is); (case my_f_pg_C0 => k_is); (case my_f_hd_C0 => k_is); (case my_f_po_C0 => k_is); (case my_f_sa_C0 => k_is); (case my_f_mks_C0 => k_is); (case my_f_kp_C0 => k_is); (case my_f_ca_C0 => k_is)
    (case my_f_hm_C0 => k_is); (case my_f_icl_C0 => k_is); (case my_f_tyl_C0 => k_is); (case my_f_no_C0_size => k_is); (case my_f_no_C0_first_state => k_is); (case my_f_no_C0_mark => k_is); (case my_f_no_C0_parts => k_is); (case my_f_no_C0_coin => k_is)
    (case my_f_no_C0_far => k_is); (case my_f_no_C0_rules => k_is); (case my_f_no_C0_dealer => k_is); (case my_f_mr_C0_C0 => k_is); (case my_f_mr_C0_C1 => k_is); (case my_f_mr_C0_C2 => k_is); (case my_f_mr_C0_C3 => k_is); (case my_f_mr_C0_C4 => k_is)
    (case my_f_mr_C0_R => k_is); (case my_f_mr_C0_tuple => k_is); (case my_f_mr_C0_list => k_is); (case my_f_mr_C0_int => k_is); (case my_f_mr_C0_bool => k_is); (case my_f_pg_C1 => k_is); (case my_f_hd_C1 => k_is); (case my_f_po_C1 => k_is)
    (case my_f_sa_C1 => k_is); (case my_f_mks_C1 => k_is); (case my_f_kp_C1 => k_is); (case my_f_ca_C1 => k_is); (case my_f_hm_C1 => k_is); (case my_f_icl_C1 => k_is); (case my_f_tyl_C1 => k_is); (case my_f_no_C1_size => k_is)
    (case my_f_no_C1_first_state => k_is); (case my_f_no_C1_mark => k_is); (case my_f_no_C1_parts => k_is); (case my_f_no_C1_coin => k_is); (case my_f_no_C1_far => k_is); (case my_f_no_C1_rules => k_is); (case my_f_no_C1_dealer => k_is); (case my_f_mr_C1_C0 => k_is)
    (case my_f_mr_C1_C1 => k_is); (case my_f_mr_C1_C2 => k_is); (case my_f_mr_C1_C3 => k_is); (case my_f_mr_C1_C4 => k_is); (case my_f_mr_C1_R => k_is); (case my_f_mr_C1_tuple => k_is); (case my_f_mr_C1_list => k_is); (case my_f_mr_C1_int => k_is)
    (case my_f_mr_C1_bool => k_is); (case my_f_pg_C2 => k_is); (case my_f_hd_C2 => k_is); (case my_f_po_C2 => k_is); (case my_f_sa_C2 => k_is); (case my_f_mks_C2 => k_is); (case my_f_kp_C2 => k_is); (case my_f_ca_C2 => k_is)
    (case my_f_hm_C2 => k_is); (case my_f_icl_C2 => k_is); (case my_f_tyl_C2 => k_is); (case my_f_no_C2_size => k_is); (case my_f_no_C2_first_state => k_is); (case my_f_no_C2_mark => k_is); (case my_f_no_C2_parts => k_is); (case my_f_no_C2_coin => k_is)
    (case my_f_no_C2_far => k_is); (case my_f_no_C2_rules => k_is); (case my_f_no_C2_dealer => k_is); (case my_f_mr_C2_C0 => k_is); (case my_f_mr_C2_C1 => k_is); (case my_f_mr_C2_C2 => k_is); (case my_f_mr_C2_C3 => k_is); (case my_f_mr_C2_C4 => k_is)
    (case my_f_mr_C2_R => k_is); (case my_f_mr_C2_tuple => k_is); (case my_f_mr_C2_list => k_is); (case my_f_mr_C2_int => k_is); (case my_f_mr_C2_bool => k_is); (case my_f_pg_C3 => k_is); (case my_f_hd_C3 => k_is); (case my_f_po_C3 => k_is)
    (case my_f_sa_C3 => k_is); (case my_f_mks_C3 => k_is); (case my_f_kp_C3 => k_is); (case my_f_ca_C3 => k_is); (case my_f_hm_C3 => k_is); (case my_f_icl_C3 => k_is); (case my_f_tyl_C3 => k_is); (case my_f_no_C3_size => k_is)
    (case my_f_no_C3_first_state => k_is); (case my_f_no_C3_mark => k_is); (case my_f_no_C3_parts => k_is); (case my_f_no_C3_coin => k_is); (case my_f_no_C3_far => k_is); (case my_f_no_C3_rules => k_is); (case my_f_no_C3_dealer => k_is); (case my_f_mr_C3_C0 => k_is)
    (case my_f_mr_C3_C1 => k_is); (case my_f_mr_C3_C2 => k_is); (case my_f_mr_C3_C3 => k_is); (case my_f_mr_C3_C4 => k_is); (case my_f_mr_C3_R => k_is); (case my_f_mr_C3_tuple => k_is); (case my_f_mr_C3_list => k_is); (case my_f_mr_C3_int => k_is)
    (case my_f_mr_C3_bool => k_is); (case my_f_pg_C4 => k_is); (case my_f_hd_C4 => k_is); (case my_f_po_C4 => k_is); (case my_f_sa_C4 => k_is); (case my_f_mks_C4 => k_is); (case my_f_kp_C4 => k_is); (case my_f_ca_C4 => k_is)
    (case my_f_hm_C4 => k_is); (case my_f_icl_C4 => k_is); (case my_f_tyl_C4 => k_is); (case my_f_no_C4_size => k_is); (case my_f_no_C4_first_state => k_is); (case my_f_no_C4_mark => k_is); (case my_f_no_C4_parts => k_is); (case my_f_no_C4_coin => k_is)
    (case my_f_no_C4_far => k_is); (case my_f_no_C4_rules => k_is); (case my_f_no_C4_dealer => k_is); (case my_f_mr_C4_C0 => k_is); (case my_f_mr_C4_C1 => k_is); (case my_f_mr_C4_C2 => k_is); (case my_f_mr_C4_C3 => k_is); (case my_f_mr_C4_C4 => k_is)
    (case my_f_mr_C4_R => k_is); (case my_f_mr_C4_tuple => k_is); (case my_f_mr_C4_list => k_is); (case my_f_mr_C4_int => k_is); (case my_f_mr_C4_bool => k_is); (case my_f_i_MOST_FOLK => k_is); (case my_f_i_MOST_PAIRS => k_is); (case my_f_i_MOST_FAR => k_is)
    (case my_f_i_MOST_RULES => k_is); (case my_f_i_MOST_BOTTOM => k_is); (case my_f_gt => k_is); (case my_f_tkT => k_is); (case my_f_eq_C0 => k_is); (case my_f_ne_C0 => k_is); (case my_f_eq_C1 => k_is); (case my_f_ne_C1 => k_is)
    (case my_f_eq_C2 => k_is); (case my_f_ne_C2 => k_is); (case my_f_eq_C3 => k_is); (case my_f_ne_C3 => k_is); (case my_f_eq_C4 => k_is); (case my_f_ne_C4 => k_is); (case my_f_z_isinstance => k_is); (case my_f_z_int => k_is)
    (case my_f_z_bool => k_is); (case my_f_z_len => k_is); (case my_f_z_range => k_is); (case my_f_z_tuple => k_is); (case my_f_z_list => k_is); (case my_f_z_sum => k_is); (case my_f_z_all => k_is); (case my_f_z_max => k_is)
    (case my_A0 => k_is); (case my_L0 => k_is); (case my_C0 => k_is); (case my_K0 => k_is)
    (case my_A1 => k_is); (case my_L1 => k_is); (case my_C1 => k_is); (case my_K1 => k_is)
    (case my_A2 => k_is); (case my_L2 => k_is); (case my_C2 => k_is); (case my_K2 => k_is)
    (case my_A3 => k_is); (case my_L3 => k_is); (case my_C3 => k_is); (case my_K3 => k_is)
    (case my_A4 => k_is); (case my_L4 => k_is); (case my_C4 => k_is); (case my_K4 => k_is)
    (case my_A5 => k_is); (case my_L5 => k_is); (case my_C5 => k_is); (case my_K5 => k_is)
    (case my_A6 => k_is); (case my_L6 => k_is); (case my_C6 => k_is); (case my_K6 => k_is)
    (case my_A7 => k_is); (case my_L7 => k_is); (case my_C7 => k_is); (case my_K7 => k_is)
    (case my_A8 => k_is); (case my_L8 => k_is); (case my_C8 => k_is); (case my_K8 => k_is)
    (case my_A9 => k_is); (case my_L9 => k_is); (case my_C9 => k_is); (case my_K9 => k_is)
    (case my_A10 => k_is); (case my_L10 => k_is); (case my_C10 => k_is); (case my_K10 => k_is)
    (case my_A11 => k_is); (case my_L11 => k_is); (case my_C11 => k_is); (case my_K11 => k_is)
    (case my_A12 => k_is); (case my_L12 => k_is); (case my_C12 => k_is); (case my_K12 => k_is)
    (case my_A13 => k_is); (case my_L13 => k_is); (case my_C13 => k_is); (case my_K13 => k_is)
    (case my_A14 => k_is); (case my_L14 => k_is); (case my_C14 => k_is); (case my_K14 => k_is)
    (case my_A15 => k_is); (case my_L15 => k_is); (case my_C15 => k_is); (case my_K15 => k_is)
    (case my_A16 => k_is); (case my_L16 => k_is); (case my_C16 => k_is); (case my_K16 => k_is)
    (case my_A17 => k_is); (case my_L17 => k_is); (case my_C17 => k_is); (case my_K17 => k_is)
    (case my_A18 => k_is); (case my_L18 => k_is); (case my_C18 => k_is); (case my_K18 => k_is)
    (case my_A19 => k_is); (case my_L19 => k_is); (case my_C19 => k_is); (case my_K19 => k_is)
    (case my_A20 => k_is); (case my_L20 => k_is); (case my_C20 => k_is); (case my_K20 => k_is)
    (case my_A21 => k_is); (case my_L21 => k_is); (case my_C21 => k_is); (case my_K21 => k_is)
    (case my_A22 => k_is); (case my_L22 => k_is); (case my_C22 => k_is); (case my_K22 => k_is)
    (case my_A23 => k_is); (case my_L23 => k_is); (case my_C23 => k_is); (case my_K23 => k_is)
    (case my_ML0 => k_is); (case my_MC0 => k_is); (case my_MK0 => k_is); (case my_MF0 => k_is)
    (case my_ML1 => k_is); (case my_MC1 => k_is); (case my_MK1 => k_is); (case my_MF1 => k_is)
    (case my_ML2 => k_is); (case my_MC2 => k_is); (case my_MK2 => k_is); (case my_MF2 => k_is)
    (case my_ML3 => k_is); (case my_MC3 => k_is); (case my_MK3 => k_is); (case my_MF3 => k_is)
    (case my_ML4 => k_is); (case my_MC4 => k_is); (case my_MK4 => k_is); (case my_MF4 => k_is)
    (case my_ML5 => k_is); (case my_MC5 => k_is); (case my_MK5 => k_is); (case my_MF5 => k_is)
    (case my_ML6 => k_is); (case my_MC6 => k_is); (case my_MK6 => k_is); (case my_MF6 => k_is)
    (case my_ML7 => k_is); (case my_MC7 => k_is); (case my_MK7 => k_is); (case my_MF7 => k_is)
    (case my_ML8 => k_is); (case my_MC8 => k_is); (case my_MK8 => k_is); (case my_MF8 => k_is)
    (case my_ML9 => k_is); (case my_MC9 => k_is); (case my_MK9 => k_is); (case my_MF9 => k_is)
    (case my_ML10 => k_is); (case my_MC10 => k_is); (case my_MK10 => k_is); (case my_MF10 => k_is)
