import PyProof.Rows.All
import Wide.All
import OpenK.AllK
import Wide.FinOn
import Lean
import PyProof.EqAt
import PyProof.EqKinds
import PyProof.TupleCall
import PyProof.ExcClass2
import PyProof.InstStoreFacts
import PyProof.ExcArgs
import PyProof.ExcInit
import PyProof.ExcBaseAll.ValueError
import KE.KIsAll
import PyProof.RulesRaise
import PyProof.RulesAs
import PyProof.RaisesMany
import PyProof.NeKinds
import PyProof.EnumFor
import PyProof.EnumStmt
import PyProof.EnumMake
import PyProof.Rows.EnumRows
import PyProof.CompFree
import KE.KIntText
import PyProof.StrBlockG
import PyProof.StrBlockH
import PyProof.StrWalks
import PyProof.Rows.StrNews2
import PyProof.Rows.StrOr
import PyProof.Rows.Digits
import PyProof.StrBlockL
import PyProof.MeetsStr2
import PyProof.CompMap
import KE.IntTextLaws
import PyProof.Rows.StrPartPair
import PyProof.StrLawsTight
import PyProof.StrLawsChain
import PyProof.Rows.StrIntSpec
import PyProof.Rows.StrItems
import PyProof.ReprRoads
import PyProof.ReprBulk
import PyProof.FitsInt
import PyProof.CallFns
import PyProof.Rows.FactsT3
import PyProof.ListRange
import PyProof.TupleOfSeq
import PyProof.TupleOfGen
import PyProof.ConsumeWalk
import PyProof.Rows.SeqGen
import PyProof.CompUse
import KE.KUnpack
import PyProof.Draws
import PyProof.Rows.RuleB_bool
import PyProof.WalkInts
import PyProof.SeqI3
import KE.KRevSl
import KE.BitLaws
import PyProof.Rows.SumAny
import OpenK.KTop
import PyProof.Rows.FStr
import PySem.Challenge.RW_trialdeal_k12_rules_as_texts
set_option Elab.async false
set_option linter.all false
set_option maxRecDepth 100000
namespace L2
open PySem PySem.Spec PyProof.Rows
abbrev Key := Sum Int Str
def keyIs : Key → Value → Bool
  | .inl k, v => Value.isInt k v
  | .inr x, v => Value.isStrOf x v
def keyH (w : World) : Key → Int
  | .inl k => hashInt k
  | .inr x => hashStr w x
theorem keyIs_shape : ∀ {k : Key} {v : Value}, keyIs k v = true → (∃ i t, k = Sum.inl i ∧ v = Value.int i t) ∨ (∃ x t, k = Sum.inr x ∧ v = Value.str x t)
  | .inl i, v, h => by
    obtain ⟨t, e⟩ := Value.isInt_shape (k := i) (v := v) h
    exact .inl ⟨i, t, rfl, e⟩
  | .inr x, v, h => by
    obtain ⟨t, e⟩ := Value.isStrOf_shape (x := x) (v := v) h
    exact .inr ⟨x, t, rfl, e⟩
theorem key_ll (a b : Int) : decide ((Sum.inl a : Key) = Sum.inl b) = (a == b) := by
  by_cases e : a = b
  · subst e; simp
  · have h : ¬ (Sum.inl a : Key) = Sum.inl b := fun q => e (Sum.inl.inj q)
    rw [decide_eq_false h]
    exact (beq_eq_false_iff_ne.mpr e).symm
theorem key_rr (a b : Str) : decide ((Sum.inr a : Key) = Sum.inr b) = decide (a = b) := by
  by_cases e : a = b
  · subst e; simp
  · have h : ¬ (Sum.inr a : Key) = Sum.inr b := fun q => e (Sum.inr.inj q)
    rw [decide_eq_false h, decide_eq_false e]
theorem key_lr (a : Int) (b : Str) : decide ((Sum.inl a : Key) = Sum.inr b) = false := decide_eq_false (fun q => nomatch q)
theorem key_rl (a : Str) (b : Int) : decide ((Sum.inr a : Key) = Sum.inl b) = false := decide_eq_false (fun q => nomatch q)
def mixKind (prog : Program) (w : World) : PySem.KeyKind prog w Key where
  is := keyIs
  hash := keyH w
  inj := fun v a b ha hb => by
    rcases keyIs_shape ha with ⟨i, t, rfl, rfl⟩ | ⟨x, t, rfl, rfl⟩
    · rcases keyIs_shape hb with ⟨j, u, rfl, e⟩ | ⟨y, u, rfl, e⟩
      · injection e with e1 _; rw [e1]
      · exact nomatch e
    · rcases keyIs_shape hb with ⟨j, u, rfl, e⟩ | ⟨y, u, rfl, e⟩
      · exact nomatch e
      · injection e with e1 _; rw [e1]
  byValue := fun k v h => by
    rcases keyIs_shape h with ⟨i, t, rfl, rfl⟩ | ⟨x, t, rfl, rfl⟩ <;> rfl
  pyHash := fun hv h => by
    rcases keyIs_shape hv with ⟨i, t, rfl, rfl⟩ | ⟨x, t, rfl, rfl⟩
    · exact wpAny_pyHash_int h
    · exact wpAny_pyHash_str h
  eqBool := fun hu hv h => by
    rcases keyIs_shape hu with ⟨i, t, rfl, rfl⟩ | ⟨x, t, rfl, rfl⟩
    · rcases keyIs_shape hv with ⟨j, u, rfl, rfl⟩ | ⟨y, u, rfl, rfl⟩
      · rw [key_ll] at h; exact wpAny_eqBool_int h
      · rw [key_lr] at h; exact SeqAt.EqAt.int_str i t y u _ _ _ _ h
    · rcases keyIs_shape hv with ⟨j, u, rfl, rfl⟩ | ⟨y, u, rfl, rfl⟩
      · rw [key_rl] at h; exact SeqAt.EqAt.str_int x t j u _ _ _ _ h
      · rw [key_rr] at h; exact wpAny_eqBool_str h
  «strs» := fun k x t v h => by
    rcases keyIs_shape h with ⟨i, u, rfl, e⟩ | ⟨y, u, rfl, e⟩
    · exact nomatch e
    · injection e with e1 _
      subst e1
      cases v <;> rfl
theorem mixKind_is (prog : Program) (w : World) (k : Key) (v : Value) : (mixKind prog w).is k v = keyIs k v := rfl
end L2
namespace L2
open PySem PySem.Spec PyProof.Rows
inductive V where
  | non | bl (b : Bool) | int (i : Int) | str (x : Str) | byt (b : Array UInt8) | flt (b : UInt64) | ref (a : Addr) | ty (n : String)
  deriving DecidableEq
def RelV : V → Value → Prop
  | .non, u => u = Value.none
  | .bl b, u => u = Value.bool b
  | .int i, u => ∃ t, u = Value.int i t
  | .str x, u => ∃ t, u = Value.str x t
  | .byt b, u => ∃ t, u = Value.bytes b t
  | .flt b, u => ∃ t, u = Value.float b t
  | .ref a, u => u = Value.ref a
  | .ty n, u => u = Value.type n
abbrev Vals : List V → List Value → Prop := Paired RelV
theorem Vals.length {xs : List V} {us : List Value} (r : Vals xs us) : xs.length = us.length := Paired.length r
theorem Vals.get : ∀ {xs : List V} {us : List Value} {i : Nat} {x : V}, Vals xs us → xs[i]? = some x → ∃ u, us[i]? = some u ∧ RelV x u
  | _, _, _, _, .nil, e => by simp at e
  | _, _, 0, _, .cons r _, e => by simp at e; subst e; exact ⟨_, rfl, r⟩
  | _, _, i + 1, x, .cons _ t, e => by
    obtain ⟨u, h1, h2⟩ := Vals.get (i := i) (x := x) t (by simpa using e)
    exact ⟨u, by simpa using h1, h2⟩
theorem Vals.set {x : V} {u : Value} (r : RelV x u) : ∀ {xs : List V} {us : List Value} (i : Nat), Vals xs us → Vals (xs.set i x) (us.set i u)
  | _, _, _, .nil => .nil
  | _, _, 0, .cons _ t => .cons r t
  | _, _, i + 1, .cons q t => .cons q (Vals.set r i t)
theorem Vals.append : ∀ {xs ys : List V} {us ws : List Value}, Vals xs us → Vals ys ws → Vals (xs ++ ys) (us ++ ws)
  | _, _, _, _, .nil, s => s
  | _, _, _, _, .cons r t, s => .cons r (Vals.append t s)
theorem Vals.take : ∀ {xs : List V} {us : List Value} (n : Nat), Vals xs us → Vals (xs.take n) (us.take n)
  | _, _, 0, _ => .nil
  | _, _, _ + 1, .nil => .nil
  | _, _, n + 1, .cons r t => .cons r (Vals.take n t)
theorem Vals.drop : ∀ {xs : List V} {us : List Value} (n : Nat), Vals xs us → Vals (xs.drop n) (us.drop n)
  | _, _, 0, r => r
  | _, _, _ + 1, .nil => .nil
  | _, _, n + 1, .cons _ t => Vals.drop n t
theorem Vals.none_of : ∀ {xs : List V} {us : List Value} {i : Nat}, Vals xs us → xs[i]? = none → us[i]? = none := fun {xs us i} r e => by
  have h1 := r.length
  have h2 : xs.length ≤ i := List.getElem?_eq_none_iff.mp e
  exact List.getElem?_eq_none_iff.mpr (by omega)
def RelO : Option V → Option Value → Prop
  | some v, some u => RelV v u
  | none, none => True
  | _, _ => False
def KV {κ : Type} : List (κ × V) → List (κ × Value) → Prop := Paired fun (p : κ × V) (q : κ × Value) => p.1 = q.1 ∧ RelV p.2 q.2
def kV : Key → V
  | .inl i => .int i
  | .inr x => .str x
inductive HO where
  | lst (xs : List V)
  | tup (xs : List V)
  | dK (kvs : List (Key × V)) | dT (kvs : List (List Key × V))
  | set (S : Int → Bool) (n : Nat)
  | ins (C dx : Addr) (fs : List (Str × V))
  | own (x : Addr)
  | xd (fs : List (Str × V))
  | met (f x : Addr)
  | rng (lo hi : Int)
  | frz (o : Obj) (u : HO)
  | tbl (ps : Array Value)
  | ext (φ : Heap → Prop)
abbrev Hp := Addr → Option HO
def upd (H : Hp) (a : Addr) (o : HO) : Hp := fun b => if b = a then some o else H b
theorem upd_same {H : Hp} {a : Addr} {o : HO} : upd H a o a = some o := by unfold upd; rw [if_pos rfl]
theorem upd_ne {H : Hp} {a b : Addr} {o : HO} (h : b ≠ a) : upd H a o b = H b := by unfold upd; rw [if_neg h]
theorem upd_upd {H : Hp} {a : Addr} {o u : HO} : upd (upd H a o) a u = upd H a u := by
  funext b; unfold upd; split <;> rfl
theorem ne_of_none {H : Hp} {a b : Addr} {o : HO} (h : H a = some o) (h' : H b = none) : a ≠ b := by
  intro e; subst e; rw [h] at h'; cases h'
section
variable (P : Program) (w : World)
def ObjOk (H : Hp) (h : Heap) (a : Addr) : HO → Prop
  | .lst xs => xs.length ≤ sizeLine ∧ ∃ (its : List Value) (n : Nat), Vals xs its ∧ h.get? a = some { cls := .type "list", data := .seq its.toArray n }
  | .tup xs => xs.length ≤ sizeLine ∧ ∃ its : List Value, Vals xs its ∧ IsTup h a its.toArray
  | .dK kvs => kvs.length ≤ sizeLine ∧ (a == sysModules) = false ∧ ∃ vs, KV kvs vs ∧ h.DictOf (mixKind P w) a vs
  | .dT kvs => kvs.length ≤ sizeLine ∧ (a == sysModules) = false ∧ ∃ xs : List (List Key × Addr × Value),
      Paired (fun (p : List Key × V) (q : List Key × Addr × Value) => p.1 = q.1 ∧ H q.2.1 = some (.tup (p.1.map kV)) ∧ RelV p.2 q.2.2) kvs xs ∧
      ∃ o es ep, h.get? a = some o ∧ o.ExactDict ∧ o.data = .dict es ep ∧ es.toList = xs.map (entryOfKey (tupleKind (mixKind P w))) ∧ (xs.map (·.1)).Nodup
  | .set S n => h.SetOf (intKind P w) a S n
  | .ins C dx fs => H dx = some (.own a) ∧ fs.length ≤ 1000 ∧ dx ≠ a ∧ h.get? a = some (PySem.W.instObj C dx) ∧
      ∃ mA, h.Ns1 dx mA ∧ (∀ f, RelO (fs.lookup f) (mA f)) ∧ PySem.Within mA (fs.map (·.1))
  | .own _ => ∃ o, h.get? a = some o
  | .xd fs => ∃ mA, h.Ns1 a mA ∧ ∀ f, RelO (fs.lookup f) (mA f)
  | .rng lo hi => ∃ t u v, h.get? a = some { cls := .type "range", data := .fields #[.int lo t, .int hi u, .int 1 v] }
  | .frz o u => h.get? a = some o ∧ ObjOk H h a u
  | .tbl ps => h.get? a = some { cls := .none, data := .fields ps }
  | .met f x => h.get? a = some (PySem.W.methodObj (.ref f) (.ref x))
  | .ext φ => φ h ∧ (∃ o, h.get? a = some o) ∧ ∀ h1 h2 : Heap, φ h1 → (∀ o, h1.get? a = some o → h2.get? a = some o) → φ h2
def HOk (H : Hp) (h : Heap) : Prop := ∀ a o, H a = some o → ObjOk P w H h a o
end
section
variable {P : Program} {w : World} {H H' : Hp} {h h' : Heap} {a : Addr} {o : HO}
theorem ObjOk.lt (x : ObjOk P w H h a o) : a < h.objs.size := by
  cases o with
  | lst xs => obtain ⟨_, _, _, _, e⟩ := x; exact Heap.lt_size e
  | tup xs => obtain ⟨_, _, _, p⟩ := x; exact p.lt
  | dK kvs => obtain ⟨_, _, _, _, o, _, _, e, _⟩ := x; exact Heap.lt_size e
  | dT kvs => obtain ⟨_, _, _, _, o, _, _, e, _⟩ := x; exact Heap.lt_size e
  | set S n => obtain ⟨o, _, _, _, e, _⟩ := x; exact Heap.lt_size e
  | ins C dx fs => obtain ⟨_, _, _, e, _⟩ := x; exact Heap.lt_size e
  | own y => obtain ⟨_, e⟩ := x; exact Heap.lt_size e
  | xd fs => obtain ⟨_, ⟨_, _, _, e, _⟩, _⟩ := x; exact Heap.lt_size e
  | rng lo hi => obtain ⟨_, _, _, e⟩ := x; exact Heap.lt_size e
  | frz ob u => obtain ⟨e, _⟩ := x; exact Heap.lt_size e
  | tbl ps => exact Heap.lt_size (show h.get? a = some _ from x)
  | met f y => exact Heap.lt_size (show h.get? a = some _ from x)
  | ext φ => obtain ⟨_, ⟨_, e⟩, _⟩ := x; exact Heap.lt_size e
theorem Paired.mapP {α β : Type} {F G : α → β → Prop} : ∀ {l₁ : List α} {l₂ : List β}, Paired F l₁ l₂ → (∀ a b, F a b → G a b) → Paired G l₁ l₂
  | _, _, .nil, _ => .nil
  | _, _, .cons r t, f => .cons (f _ _ r) (Paired.mapP t f)
theorem ObjOk.stay (x : ObjOk P w H h a o) (k : ∀ b u, (b = a ∨ H b = some (.own a)) → h.get? b = some u → h'.get? b = some u)
    (ho : ∀ b, H b = some (.own a) → H' b = some (.own a)) (ht : ∀ b xs, H b = some (.tup xs) → H' b = some (.tup xs)) : ObjOk P w H' h' a o := by
  induction o with
  | lst xs => obtain ⟨z, its, n, r, e⟩ := x; exact ⟨z, its, n, r, k _ _ (.inl rfl) e⟩
  | tup xs => obtain ⟨z, its, r, ob, e, c⟩ := x; exact ⟨z, its, r, ob, k _ _ (.inl rfl) e, c⟩
  | dK kvs => obtain ⟨z, y, vs, r, ob, es, ep, e, c⟩ := x; exact ⟨z, y, vs, r, ob, es, ep, k _ _ (.inl rfl) e, c⟩
  | dT kvs =>
    obtain ⟨z, y, xs, r, ob, es, ep, e, c⟩ := x
    exact ⟨z, y, xs, Paired.mapP r fun p q z => ⟨z.1, ht _ _ z.2.1, z.2.2⟩, ob, es, ep, k _ _ (.inl rfl) e, c⟩
  | set S n => obtain ⟨ob, es, ep, t, e, c⟩ := x; exact ⟨ob, es, ep, t, k _ _ (.inl rfl) e, c⟩
  | ins C dx fs =>
    obtain ⟨d, z, ne, e, mA, ⟨od, es, ep, e2, c⟩, r⟩ := x
    exact ⟨ho _ d, z, ne, k _ _ (.inl rfl) e, mA, ⟨od, es, ep, k _ _ (.inr d) e2, c⟩, r⟩
  | own y => obtain ⟨ob, e⟩ := x; exact ⟨ob, k _ _ (.inl rfl) e⟩
  | xd fs => obtain ⟨mA, ⟨od, es, ep, e, c⟩, r⟩ := x; exact ⟨mA, ⟨od, es, ep, k _ _ (.inl rfl) e, c⟩, r⟩
  | rng lo hi => obtain ⟨t, u, v, e⟩ := x; exact ⟨t, u, v, k _ _ (.inl rfl) e⟩
  | frz ob u ih => obtain ⟨e, q⟩ := x; exact ⟨k _ _ (.inl rfl) e, ih q⟩
  | tbl ps =>
    have e : h.get? a = some { cls := .none, data := .fields ps } := x
    show h'.get? a = some { cls := .none, data := .fields ps }
    exact k a _ (.inl rfl) e
  | met f y =>
    have e : h.get? a = some (PySem.W.methodObj (.ref f) (.ref y)) := x
    show h'.get? a = some (PySem.W.methodObj (.ref f) (.ref y))
    exact k a _ (.inl rfl) e
  | ext φ => obtain ⟨p, ⟨o, e⟩, st⟩ := x; exact ⟨st _ _ p fun o q => k _ _ (.inl rfl) q, ⟨o, k _ _ (.inl rfl) e⟩, st⟩
theorem HOk.lt (x : HOk P w H h) (e : H a = some o) : a < h.objs.size := (x a o e).lt
theorem HOk.fresh (x : HOk P w H h) (e : h.objs.size ≤ a) : H a = none := by
  cases q : H a with
  | none => rfl
  | some u => exact absurd (Nat.lt_of_lt_of_le (x.lt q) e) (Nat.lt_irrefl _)
theorem HOk.kept (x : HOk P w H h) (k : ∀ b u, h.get? b = some u → h'.get? b = some u) : HOk P w H h' := fun a o e =>
  (x a o e).stay (fun b u _ q => k b u q) (fun _ q => q) fun _ _ q => q
theorem HOk.laid (x : HOk P w H h) (k : ∀ b u, h.get? b = some u → h'.get? b = some u) (hp : h.objs.size ≤ a) (new : ObjOk P w (upd H a o) h' a o) : HOk P w (upd H a o) h' := fun b u e => by
  have hn := x.fresh hp
  by_cases hb : b = a
  · subst hb; rw [upd_same] at e; cases e; exact new
  · rw [upd_ne hb] at e
    exact (x b u e).stay (fun c v _ q => k c v q) (fun c q => by rw [upd_ne (ne_of_none q hn)]; exact q) fun c xs q => by rw [upd_ne (ne_of_none q hn)]; exact q
end
def Rd (H : Hp) (a : Addr) (u : HO) : Prop := H a = some u ∨ ∃ o, H a = some (.frz o u)
theorem Rd.of {H : Hp} {a : Addr} {u : HO} (h : H a = some u) : Rd H a u := .inl h
theorem Rd.ok {P : Program} {w : World} {H : Hp} {h : Heap} {a : Addr} {u : HO} (r : Rd H a u) (x : HOk P w H h) : ObjOk P w H h a u := by
  rcases r with r | ⟨o, r⟩
  · exact x a u r
  · obtain ⟨_, q⟩ := x a _ r
    exact q
def Mut : Option HO → Prop
  | some (.lst _) => True
  | some (.dK _) => True
  | some (.dT _) => True
  | some (.set _ _) => True
  | some (.ins _ _ _) => True
  | some (.ext _) => True
  | _ => False
section
variable {P : Program} {w : World} {H : Hp} {h h' : Heap} {x e : Addr} {o' : HO}
theorem HOk.write (ok : HOk P w H h) (mu : Mut (H x)) (he : e = x ∨ H e = some (.own x)) (k : ∀ b u, b ≠ e → h.get? b = some u → h'.get? b = some u) (heo : ∃ u, h'.get? e = some u)
    (new : ObjOk P w (upd H x o') h' x o') : HOk P w (upd H x o') h' := fun b u q => by
  have nown : ∀ c y, H c = some (.own y) → c ≠ x := fun c y r z => by subst z; rw [r] at mu; exact mu
  have ntup : ∀ c xs, H c = some (.tup xs) → c ≠ x := fun c xs r z => by subst z; rw [r] at mu; exact mu
  by_cases hb : b = x
  · subst hb; rw [upd_same] at q; cases q; exact new
  · rw [upd_ne hb] at q
    by_cases hbe : b = e
    · have q' : H b = some (.own x) := by
        rcases he with z | z
        · exact absurd (hbe.trans z) hb
        · rw [hbe]; exact z
      rw [q] at q'; cases q'
      obtain ⟨v, hv⟩ := heo
      exact ⟨v, by rw [hbe]; exact hv⟩
    · refine (ok b u q).stay (fun c v hc r => k c v ?_ r) (fun c r => by rw [upd_ne (nown c b r)]; exact r) fun c xs r => by rw [upd_ne (ntup c xs r)]; exact r
      rcases hc with rfl | hc
      · exact hbe
      · rintro rfl
        rcases he with z | z
        · exact nown c b hc z
        · rw [hc] at z; cases z; exact hb rfl
end
structure Un (fs ex : List Addr) (H H' : Hp) (h h' : Heap) : Prop where
  keep : ∀ b o, h.get? b = some o → H b = none → b ∉ fs → b ∉ ex → h'.get? b = some o
  slot : ∀ b o, h.get? b = some o → H b = none → b ∈ fs → b ∉ ex → ∃ sl, h'.get? b = some { o with slots := sl }
  free : ∀ b o, h.get? b = some o → H b = none → b ∉ ex → H' b = none
  there : ∀ b o, h.get? b = some o → b ∉ ex → ∃ o', h'.get? b = some o'
  tups : ∀ b xs, H b = some (.tup xs) → H' b = some (.tup xs)
  frzs : ∀ b o u, H b = some (.frz o u) → H' b = some (.frz o u)
  tbls : ∀ b ps, H b = some (.tbl ps) → ∃ more, H' b = some (.tbl (ps ++ more))
  sys : H sysModules = none → H' sysModules = none
section
variable {fs fs' ex ex' : List Addr} {H H1 H2 : Hp} {h h1 h2 h' : Heap} {a x e : Addr} {o : HO}
theorem Un.any (u : Un fs ex H H1 h h1) {b : Addr} {ob : Obj} (q : h.get? b = some ob) (n : H b = none) (hx : b ∉ ex) : ∃ sl, h1.get? b = some { ob with slots := sl } := by
  by_cases hb : b ∈ fs
  · exact u.slot b ob q n hb hx
  · exact ⟨ob.slots, u.keep b ob q n hb hx⟩
theorem Un.trans (a : Un fs ex H H1 h h1) (b : Un fs ex H1 H2 h1 h2) : Un fs ex H H2 h h2 where
  keep := fun c ob q n hc hx => b.keep c ob (a.keep c ob q n hc hx) (a.free c ob q n hx) hc hx
  slot := fun c ob q n hc hx => by
    obtain ⟨sl, e1⟩ := a.slot c ob q n hc hx
    obtain ⟨sl', e2⟩ := b.slot c _ e1 (a.free c ob q n hx) hc hx
    exact ⟨sl', e2⟩
  free := fun c ob q n hx => by
    obtain ⟨o', e1⟩ := a.there c ob q hx
    exact b.free c o' e1 (a.free c ob q n hx) hx
  there := fun c ob q hx => by
    obtain ⟨o', e1⟩ := a.there c ob q hx
    exact b.there c o' e1 hx
  tups := fun c xs q => b.tups c xs (a.tups c xs q)
  frzs := fun c ob xs q => b.frzs c ob xs (a.frzs c ob xs q)
  tbls := fun c ps q => by
    obtain ⟨m1, e1⟩ := a.tbls c ps q
    obtain ⟨m2, e2⟩ := b.tbls c _ e1
    exact ⟨m1 ++ m2, by rw [e2, Array.append_assoc]⟩
  sys := fun q => b.sys (a.sys q)
theorem Un.kept (k : ∀ b u, h.get? b = some u → h'.get? b = some u) : Un fs ex H H h h' :=
  ⟨fun b ob q _ _ _ => k b ob q, fun b ob q _ _ _ => ⟨ob.slots, k b ob q⟩, fun _ _ _ n _ => n, fun b ob q _ => ⟨ob, k b ob q⟩, fun _ _ q => q, fun _ _ _ q => q, fun _ ps q => ⟨#[], by rw [q]; simp⟩, fun q => q⟩
theorem Un.refl : Un fs ex H H h h := Un.kept fun _ _ q => q
theorem Un.laid (k : ∀ b u, h.get? b = some u → h'.get? b = some u) (hp : h.objs.size ≤ a) (hn : H a = none) (hz : sysModules < h.objs.size) : Un fs ex H (upd H a o) h h' where
  sys := fun q => by rw [upd_ne (Nat.ne_of_lt (Nat.lt_of_lt_of_le hz hp))]; exact q
  keep := fun b u q _ _ _ => k b u q
  slot := fun b u q _ _ _ => ⟨u.slots, k b u q⟩
  free := fun b u q n _ => by rw [upd_ne (Nat.ne_of_lt (Nat.lt_of_lt_of_le (Heap.lt_size q) hp))]; exact n
  there := fun b u q _ => ⟨u, k b u q⟩
  tups := fun b xs q => by rw [upd_ne (ne_of_none q hn)]; exact q
  frzs := fun b u xs q => by rw [upd_ne (ne_of_none q hn)]; exact q
  tbls := fun b ps q => ⟨#[], by rw [upd_ne (ne_of_none q hn), q]; simp⟩
theorem Un.write (mu : Mut (H x)) (he : e = x ∨ H e = some (.own x)) (k : ∀ b u, b ≠ e → h.get? b = some u → h'.get? b = some u) (heo : ∃ u, h'.get? e = some u) : Un fs ex H (upd H x o) h h' := by
  have hx : ∀ b, H b = none → b ≠ x := fun b n z => by subst z; rw [n] at mu; exact mu
  have hb : ∀ b, H b = none → b ≠ e := fun b n z => by
    subst z
    rcases he with r | r
    · exact hx b n r
    · rw [n] at r; cases r
  have hm : ∀ b u, H b = some u → ¬ Mut (some u) → b ≠ x := fun b u q nm z => by subst z; rw [q] at mu; exact nm mu
  refine ⟨fun b u q n _ _ => k b u (hb b n) q, fun b u q n _ _ => ⟨u.slots, k b u (hb b n) q⟩, fun b u q n _ => by rw [upd_ne (hx b n)]; exact n, fun b u q _ => ?_,
    fun b xs q => by rw [upd_ne (hm b _ q fun z => z)]; exact q, fun b u xs q => by rw [upd_ne (hm b _ q fun z => z)]; exact q, fun b ps q => ⟨#[], by rw [upd_ne (hm b _ q fun z => z), q]; simp⟩, fun q => by rw [upd_ne (hx _ q)]; exact q⟩
  by_cases hbe : b = e
  · subst hbe; exact heo
  · exact ⟨u, k b u hbe q⟩
theorem Un.mono (u : Un fs ex H H1 h h1) (hs : ∀ b ∈ fs, b ∈ fs') (hx : ∀ b ∈ ex, b ∈ ex') : Un fs' ex' H H1 h h1 :=
  ⟨fun b ob q n hb he => u.keep b ob q n (fun z => hb (hs b z)) fun z => he (hx b z), fun _ _ q n _ he => u.any q n fun z => he (hx _ z), fun b ob q n he => u.free b ob q n fun z => he (hx b z), fun b ob q he => u.there b ob q fun z => he (hx b z), u.tups, u.frzs, u.tbls, u.sys⟩
end
def trk (h : Heap) (H : Hp) : List Addr := (List.range h.objs.size).filter fun a => (H a).isSome
def hidT (h : Heap) (H : Hp) : Heap := PySem.W.hideAll h (trk h H)
theorem hidT_size (h : Heap) (H : Hp) : (hidT h H).objs.size = h.objs.size := PySem.W.hideAll_size _ _
theorem hidT_get {h : Heap} {H : Hp} {b : Addr} {o : Obj} (e : h.get? b = some o) (n : H b = none) : (hidT h H).get? b = some o :=
  PySem.W.hideAll_get _ e fun hm => by
    have q : (H b).isSome = true := (List.mem_filter.mp hm).2
    rw [n] at q; simp at q
theorem of_hidT {h : Heap} {H : Hp} {b : Addr} {o : Obj} (e : (hidT h H).get? b = some o) : h.get? b = some o ∧ H b = none := by
  have e' : h.get? b = some o := PySem.W.of_hideAll (trk h H) e
  refine ⟨e', ?_⟩
  cases q : H b with
  | none => rfl
  | some x =>
    have hm : b ∈ trk h H := List.mem_filter.mpr ⟨List.mem_range.mpr (Heap.lt_size e'), by simp [q]⟩
    have z : (hidT h H).get? b = none := PySem.W.hideAll_none (trk h H) hm
    rw [z] at e; cases e
def allNews (g h : Heap) (L : Addr) : List (Addr × Obj) := (List.range h.objs.size).filterMap fun a => if a = L ∨ (g.get? a).isSome = true then none else (h.get? a).map fun o => (a, o)
def rest (g h : Heap) (L d : Addr) : List (Addr × Obj) := (allNews g h L).filter fun p => decide (p.1 ≠ d)
end L2
namespace L2
open PySem PySem.Spec PyProof.Rows
structure Mod (K : PySem.W.Frag) (mg : Str → Option Value) (base : Heap) : Prop where
  kin : K.In base
  glob : base.Ns mainGlobals mg
  blt : ∃ mb, base.Ns builtinsNs mb ∧ ∀ x : Str, x ≠ "__name__" → mb x = bootBuiltins x
  nolimit : base.NoLimit
structure Cx where
  prog : Program
  w : World
  K : PySem.W.Frag
  mg : Str → Option Value
  base : Heap
  A : Around
  N : List Str
  s₀ : Shared
  H₀ : Hp
  env : Env
  outer : List Env
  stack : List Env
  ex : List Addr
  fn : Str → Bool
  calm : Bool
  pn : List (Addr × Obj)
  xe : Value → Shared → Prop
def frs (l : List Env) : List Addr := l.filterMap (·.frame)
abbrev Cx.fs (X : Cx) : List Addr := frs X.outer
def Vis (sc : Scope) (x : Str) : Prop := sc.names.lookup x = some .local ∨ sc.names.lookup x = some .cell ∨ sc.names.lookup x = some .free
def Loc (sc : Scope) (x : Str) : Prop := sc.names.lookup x = some .local ∨ sc.names.lookup x = some .cell
def Look (env : Env) (h : Heap) (m : Str → Option Value) (x : Str) (u : Value) : Prop :=
  (env.kindOf x = some .local ∧ m x = some u) ∨ ((env.kindOf x = some .cell ∨ env.kindOf x = some .free) ∧ ∃ c, env.cells.lookup x = some c ∧ h.IsCell c (some u))
structure Cx.Ok (X : Cx) : Prop where
  mod : Mod X.K X.mg X.base
  kind : X.env.scope.kind = .function
  glob : X.env.globals = mainGlobals
  blt : X.env.builtins = builtinsNs
  above : X.s₀.heap.objs.size ≤ X.env.locals
  inj : ∀ x y c, X.env.cells.lookup x = some c → X.env.cells.lookup y = some c → x = y
  has : ∀ x, (X.env.kindOf x = some .cell ∨ X.env.kindOf x = some .free) → ∃ c, X.env.cells.lookup x = some c
  cab : ∀ x c, X.fn x = true → X.env.cells.lookup x = some c → X.s₀.heap.objs.size ≤ c
  hd : X.calm = true → X.A.handled = none
  frames : X.A.frames = some X.stack
  stk : X.stack = X.outer ∨ (X.stack = X.env :: X.outer ∧ X.env.frame = some X.env.locals)
  exf : ∀ b ∈ X.ex, b ≠ X.env.locals ∧ ∀ x c, X.env.cells.lookup x = some c → c ≠ b
  bs : ∀ b o, X.base.get? b = some o → X.s₀.heap.get? b = some o ∧ X.H₀ b = none
  bsz : X.base.objs.size ≤ X.s₀.heap.objs.size
  noex : ∀ b o, X.base.get? b = some o → b ∉ X.ex
  exfs : ∀ b ∈ X.ex, b ∉ X.fs
  funs : X.s₀.heap.FunFrames X.base X.outer
  frf : ∀ b ∈ X.fs, X.H₀ b = none
structure Inv (X : Cx) (pins : List (Addr × Obj)) (σ : List (Option V)) (H : Hp) (s : Shared) : Prop where
  ok : X.Ok
  os : s.os = X.s₀.os
  bare : AllBare s.gens
  base : Un X.fs X.ex X.H₀ H X.s₀.heap s.heap
  loc : ∃ m, s.heap.Ns X.env.locals m ∧ ∀ (i : Nat) (x : Str) (v : V), X.N[i]? = some x → σ[i]? = some (some v) → Vis X.env.scope x → ∃ u, RelV v u ∧ Look X.env s.heap m x u
  cell : ∀ x c, X.env.cells.lookup x = some c → ∃ v, s.heap.IsCell c v
  free : H X.env.locals = none
  freeC : ∀ x c, X.env.cells.lookup x = some c → H c = none
  pin : ∀ p ∈ X.pn ++ pins, s.heap.get? p.1 = some p.2 ∧ H p.1 = none ∧ p.1 ≠ X.env.locals ∧ p.1 ∉ X.fs ∧ ∀ v, p.2.data ≠ .cell v
  hok : HOk X.prog X.w H s.heap
  len : σ.length = X.N.length
section
variable {X : Cx} {pins : List (Addr × Obj)} {σ : List (Option V)} {H H' : Hp} {s : Shared} {h' : Heap}
theorem Cx.Ok.nofr (ok : X.Ok) {b : Addr} {o : Obj} (e : X.base.get? b = some o) : b ∉ X.fs := fun hb => by
  have := (ok.funs.mem hb).1
  rw [e] at this; cases this
theorem Inv.bs (I : Inv X pins σ H s) : ∀ b o, X.base.get? b = some o → s.heap.get? b = some o ∧ H b = none := fun b o e =>
  ⟨I.base.keep b o (I.ok.bs b o e).1 (I.ok.bs b o e).2 (I.ok.nofr e) (I.ok.noex b o e), I.base.free b o (I.ok.bs b o e).1 (I.ok.bs b o e).2 (I.ok.noex b o e)⟩
theorem Inv.bk (I : Inv X pins σ H s) : ∀ b o, X.base.get? b = some o → s.heap.get? b = some o := fun b o e => (I.bs b o e).1
theorem Inv.mod (I : Inv X pins σ H s) : Mod X.K X.mg X.base := I.ok.mod
theorem Inv.kIn (I : Inv X pins σ H s) : X.K.In s.heap := I.ok.mod.kin.keeps I.bk
theorem Inv.nolimit (I : Inv X pins σ H s) : s.heap.NoLimit := I.ok.mod.nolimit.keeps I.bk
theorem Inv.fr (I : Inv X pins σ H s) : ∃ m, Fr X.base X.env.locals s.heap m :=
  let ⟨m, hn, _⟩ := I.loc
  ⟨m, hn, I.bk, Nat.le_trans I.ok.bsz I.ok.above⟩
theorem Inv.lt (I : Inv X pins σ H s) : X.env.locals < s.heap.objs.size := let ⟨_, hn, _⟩ := I.loc; hn.lt
theorem Inv.sz (I : Inv X pins σ H s) : X.s₀.heap.objs.size ≤ s.heap.objs.size := Nat.le_trans I.ok.above (Nat.le_of_lt I.lt)
theorem Inv.nofs (I : Inv X pins σ H s) {a : Addr} (h : s.heap.objs.size ≤ a) : a ∉ X.fs := fun hb => by
  obtain ⟨_, o, ho, _⟩ := I.ok.funs.mem hb
  exact absurd (Nat.lt_of_lt_of_le (Heap.lt_size ho) (Nat.le_trans I.sz h)) (Nat.lt_irrefl _)
theorem Inv.cne (I : Inv X pins σ H s) : ∀ x c, X.env.cells.lookup x = some c → c ≠ X.env.locals := fun x c e z => by
  obtain ⟨v, o, ho, hd⟩ := I.cell x c e
  obtain ⟨m, ⟨o', es, ep, ho', hd', _⟩, _⟩ := I.loc
  rw [z, ho'] at ho; cases ho; rw [hd'] at hd; cases hd
theorem Inv.funs (I : Inv X pins σ H s) : s.heap.FunFrames X.base X.outer := by
  have all : ∀ (l : List Env), (∀ b ∈ frs l, b ∈ X.fs) → X.s₀.heap.FunFrames X.base l → s.heap.FunFrames X.base l := by
    intro l
    induction l with
    | nil => intro _ _; trivial
    | cons env r ih =>
      intro hs hl
      obtain ⟨hk, ⟨L, o, hf, hn, ho, hd⟩, hr⟩ := hl
      have hL : L ∈ X.fs := hs L (by unfold frs; rw [List.filterMap_cons, hf]; exact List.mem_cons_self)
      obtain ⟨sl, e⟩ := I.base.slot L o ho (I.ok.frf L hL) hL fun z => I.ok.exfs L z hL
      exact ⟨hk, ⟨L, _, hf, hn, e, hd⟩, ih (fun b hb => hs b (by unfold frs; rw [List.filterMap_cons, hf]; exact List.mem_cons_of_mem _ hb)) hr⟩
  exact all X.outer (fun _ hb => hb) I.ok.funs
theorem Inv.stack (I : Inv X pins σ H s) : s.heap.FunFrames X.base X.stack := by
  rcases I.ok.stk with e | ⟨e, hf⟩
  · rw [e]; exact I.funs
  · rw [e]
    obtain ⟨m, hn, _⟩ := I.loc
    refine .cons (by rw [I.ok.kind]; decide) hf hn ?_ I.funs
    exact Heap.get?_none_of_le (Nat.le_trans I.ok.bsz I.ok.above)
theorem Inv.stkSub (I : Inv X pins σ H s) : ∀ b ∈ frs X.stack, b ∈ X.env.locals :: X.fs := fun b hb => by
  rcases I.ok.stk with e | ⟨e, hf⟩
  · rw [e] at hb; exact List.mem_cons_of_mem _ hb
  · rw [e] at hb
    unfold frs at hb
    rw [List.filterMap_cons, hf] at hb
    exact hb
theorem Inv.stkFree (I : Inv X pins σ H s) : ∀ b ∈ frs X.stack, H b = none := fun b hb => by
  rcases List.mem_cons.mp (I.stkSub b hb) with e | hb
  · rw [e]; exact I.free
  · obtain ⟨_, o, ho, _⟩ := I.ok.funs.mem hb
    exact I.base.free b o ho (I.ok.frf b hb) fun z => I.ok.exfs b z hb
theorem Inv.step {g' : Array GenState} {t' : Nat} {d' : Drawn} {ch : List Addr} (I : Inv X pins σ H s)
    (hch : ∀ b ∈ ch, (b ∈ X.ex ∨ X.s₀.heap.objs.size ≤ b) ∧ b ≠ X.env.locals ∧ (∀ x c, X.env.cells.lookup x = some c → c ≠ b) ∧ ∀ p ∈ X.pn ++ pins, p.1 ≠ b)
    (keep : ∀ b o, b ≠ X.env.locals → b ∉ X.fs → b ∉ ch → s.heap.get? b = some o → H b = none → h'.get? b = some o)
    (slot : ∀ b o, b ≠ X.env.locals → b ∈ X.fs → b ∉ ch → s.heap.get? b = some o → H b = none → ∃ sl, h'.get? b = some { o with slots := sl }) (free : ∀ b o, b ∉ ch → s.heap.get? b = some o → H b = none → H' b = none)
    (there : ∀ b o, b ∉ ch → s.heap.get? b = some o → ∃ o', h'.get? b = some o')
    (tups : ∀ b xs, H b = some (.tup xs) → H' b = some (.tup xs)) (frzs : ∀ b o u, H b = some (.frz o u) → H' b = some (.frz o u)) (tbls : ∀ b ps, H b = some (.tbl ps) → ∃ more, H' b = some (.tbl (ps ++ more))) (sys : H sysModules = none → H' sysModules = none)
    (ns : ∀ m, s.heap.Ns X.env.locals m → h'.Ns X.env.locals m) (hok : HOk X.prog X.w H' h') (hg : AllBare g') :
    Inv X pins σ H' { s with heap := h', gens := g', drawn := d', toks := t' } := by
  have neL : ∀ b o, X.s₀.heap.get? b = some o → b ≠ X.env.locals := fun b o e => Nat.ne_of_lt (Nat.lt_of_lt_of_le (Heap.lt_size e) I.ok.above)
  have neC : ∀ b o, X.s₀.heap.get? b = some o → b ∉ X.ex → b ∉ ch := fun b o e hx hb => by
    rcases (hch b hb).1 with z | z
    · exact hx z
    · exact absurd (Nat.lt_of_lt_of_le (Heap.lt_size e) z) (Nat.lt_irrefl _)
  have cellK : ∀ x c, X.env.cells.lookup x = some c → ∀ v, s.heap.IsCell c v → h'.IsCell c v := fun x c e v ⟨o, ho, hd⟩ => by
    have nch : c ∉ ch := fun z => (hch c z).2.2.1 x c e rfl
    by_cases hc : c ∈ X.fs
    · obtain ⟨sl, q⟩ := slot c o (I.cne x c e) hc nch ho (I.freeC x c e)
      exact ⟨_, q, hd⟩
    · exact ⟨o, keep c o (I.cne x c e) hc nch ho (I.freeC x c e), hd⟩
  refine ⟨I.ok, I.os, hg, ⟨fun b o e n hb hx => ?_, fun b o e n hb hx => ?_, fun b o e n hx => ?_, fun b o e hx => ?_, fun b xs e => tups b xs (I.base.tups b xs e), fun b o xs e => frzs b o xs (I.base.frzs b o xs e), fun b ps e => ?_, fun q => sys (I.base.sys q)⟩, ?_, fun x c e => ?_, ?_, fun x c e => ?_, fun p hp => ?_, hok, I.len⟩
  · exact keep b o (neL b o e) hb (neC b o e hx) (I.base.keep b o e n hb hx) (I.base.free b o e n hx)
  · obtain ⟨sl, e1⟩ := I.base.slot b o e n hb hx
    obtain ⟨sl', e2⟩ := slot b _ (neL b o e) hb (neC b o e hx) e1 (I.base.free b o e n hx)
    exact ⟨sl', e2⟩
  · obtain ⟨o', e1⟩ := I.base.there b o e hx
    exact free b o' (neC b o e hx) e1 (I.base.free b o e n hx)
  · obtain ⟨o', e1⟩ := I.base.there b o e hx
    exact there b o' (neC b o e hx) e1
  · obtain ⟨m1, e1⟩ := I.base.tbls b ps e
    obtain ⟨m2, e2⟩ := tbls b _ e1
    exact ⟨m1 ++ m2, by rw [e2, Array.append_assoc]⟩
  · obtain ⟨m, hn, hl⟩ := I.loc
    refine ⟨m, ns m hn, fun i x v e1 e2 e3 => ?_⟩
    obtain ⟨u, r, l⟩ := hl i x v e1 e2 e3
    refine ⟨u, r, ?_⟩
    rcases l with l | ⟨k, c, e, z⟩
    · exact .inl l
    · exact .inr ⟨k, c, e, cellK x c e _ z⟩
  · obtain ⟨v, z⟩ := I.cell x c e
    exact ⟨v, cellK x c e v z⟩
  · obtain ⟨m, ⟨o, _, _, ho, _⟩, _⟩ := I.loc
    exact free _ o (fun z => (hch _ z).2.1 rfl) ho I.free
  · obtain ⟨v, o, ho, hd⟩ := I.cell x c e
    exact free c o (fun z => (hch c z).2.2.1 x c e rfl) ho (I.freeC x c e)
  · obtain ⟨e, n, ne, nf, d⟩ := I.pin p hp
    have nch : p.1 ∉ ch := fun z => (hch p.1 z).2.2.2 p hp rfl
    exact ⟨keep p.1 p.2 ne nf nch e n, free p.1 p.2 nch e n, ne, nf, d⟩
theorem Inv.un {t' : Nat} (I : Inv X pins σ H s) (u : Un X.fs [] H H' s.heap h') (hok : HOk X.prog X.w H' h') : Inv X pins σ H' { s with heap := h', toks := t' } := by
  obtain ⟨m, ⟨o, es, ep, ho, r⟩, _⟩ := id I.loc
  obtain ⟨sl, hL⟩ := u.any ho I.free (by simp)
  exact I.step (g' := s.gens) (d' := s.drawn) (ch := []) (fun _ z => nomatch z) (fun b o _ hb _ e n => u.keep b o e n hb (by simp)) (fun b o _ hb _ e n => u.slot b o e n hb (by simp)) (fun b o _ e n => u.free b o e n (by simp)) (fun b o _ e => u.there b o e (by simp)) u.tups u.frzs u.tbls u.sys (fun m' hm => by
    obtain ⟨o', es', ep', ho', r'⟩ := hm
    rw [ho] at ho'; cases ho'
    exact ⟨_, es', ep', hL, r'⟩) hok I.bare
theorem Inv.call {g' : Array GenState} {t' : Nat} {d' : Drawn} {ch : List Addr} (I : Inv X pins σ H s) (u : Un (frs X.stack) ch H H' s.heap h') (hok : HOk X.prog X.w H' h') (hg : AllBare g')
    (hch : ∀ b ∈ ch, (b ∈ X.ex ∨ X.s₀.heap.objs.size ≤ b) ∧ b ≠ X.env.locals ∧ (∀ x c, X.env.cells.lookup x = some c → c ≠ b) ∧ ∀ p ∈ X.pn ++ pins, p.1 ≠ b) :
    Inv X pins σ H' { s with heap := h', gens := g', drawn := d', toks := t' } := by
  obtain ⟨m, ⟨o, es, ep, ho, r⟩, _⟩ := id I.loc
  obtain ⟨sl, hL⟩ := u.any ho I.free fun z => (hch _ z).2.1 rfl
  exact I.step (ch := ch) hch (fun b o hL hb hc e n => u.keep b o e n (fun z => (List.mem_cons.mp (I.stkSub b z)).elim hL hb) hc) (fun b o _ _ hc e n => u.any e n hc) (fun b o hc e n => u.free b o e n hc) (fun b o hc e => u.there b o e hc) u.tups u.frzs u.tbls u.sys (fun m' hm => by
    obtain ⟨o', es', ep', ho', r'⟩ := hm
    rw [ho] at ho'; cases ho'
    exact ⟨_, es', ep', hL, r'⟩) hok hg
theorem Inv.turned {t' : Nat} {it : Addr} (I : Inv X pins σ H s) (k : ∀ b o, b ≠ it → s.heap.get? b = some o → h'.get? b = some o) (hn : H it = none) (hL : it ≠ X.env.locals)
    (h1 : it ∈ X.ex ∨ X.s₀.heap.objs.size ≤ it) (h2 : ∀ x c, X.env.cells.lookup x = some c → c ≠ it) (h3 : ∀ p ∈ X.pn ++ pins, p.1 ≠ it) : Inv X pins σ H { s with heap := h', toks := t' } := by
  have nit : ∀ b u, H b = some u → b ≠ it := fun b u e z => by rw [z, hn] at e; cases e
  refine I.step (g' := s.gens) (d' := s.drawn) (ch := [it]) (fun b hb => ?_) (fun b o _ _ hc e _ => k b o (fun z => hc (by simp [z])) e) (fun b o _ _ hc e _ => ⟨o.slots, k b o (fun z => hc (by simp [z])) e⟩) (fun _ _ _ _ n => n)
    (fun b o hc e => ⟨o, k b o (fun z => hc (by simp [z])) e⟩) (fun _ _ e => e) (fun _ _ _ e => e) (fun b ps e => ⟨#[], by rw [e]; simp⟩) (fun q => q) (fun m hm => ?_) (fun b u e => ?_) I.bare
  · have e : b = it := by simpa using hb
    subst e
    exact ⟨h1, hL, h2, h3⟩
  · obtain ⟨o, es, ep, ho, r⟩ := hm
    exact ⟨o, es, ep, k _ o (Ne.symm hL) ho, r⟩
  · refine (I.hok b u e).stay (fun c v hc q => k c v ?_ q) (fun _ q => q) fun _ _ q => q
    rcases hc with z | z
    · rw [z]; exact nit b u e
    · exact nit c _ z
theorem Inv.tok (I : Inv X pins σ H s) (t : Nat) : Inv X pins σ H { s with toks := t } := I.un (h' := s.heap) (t' := t) Un.refl I.hok
theorem Inv.kept {t' : Nat} (I : Inv X pins σ H s) (k : ∀ b u, s.heap.get? b = some u → h'.get? b = some u) : Inv X pins σ H { s with heap := h', toks := t' } := I.un (Un.kept k) (I.hok.kept k)
theorem Inv.laid {a : Addr} {o : HO} {t' : Nat} (I : Inv X pins σ H s) (k : ∀ b u, s.heap.get? b = some u → h'.get? b = some u) (hp : s.heap.objs.size ≤ a) (new : ObjOk X.prog X.w (upd H a o) h' a o) :
    Inv X pins σ (upd H a o) { s with heap := h', toks := t' } := I.un (Un.laid k hp (I.hok.fresh hp) (Nat.lt_trans (by decide : sysModules < mainGlobals) (I.mod.glob.keeps I.bk).lt)) (I.hok.laid k hp new)
theorem Inv.write {x e : Addr} {o : HO} {t' : Nat} (I : Inv X pins σ H s) (mu : Mut (H x)) (he : e = x ∨ H e = some (.own x)) (k : ∀ b u, b ≠ e → s.heap.get? b = some u → h'.get? b = some u) (heo : ∃ u, h'.get? e = some u)
    (new : ObjOk X.prog X.w (upd H x o) h' x o) : Inv X pins σ (upd H x o) { s with heap := h', toks := t' } := I.un (Un.write mu he k heo) (I.hok.write mu he k heo new)
theorem Inv.pins_of {pins' : List (Addr × Obj)} (I : Inv X pins σ H s) (h : ∀ p ∈ pins', s.heap.get? p.1 = some p.2 ∧ H p.1 = none ∧ p.1 ≠ X.env.locals ∧ p.1 ∉ X.fs ∧ ∀ v, p.2.data ≠ .cell v) : Inv X pins' σ H s :=
  ⟨I.ok, I.os, I.bare, I.base, I.loc, I.cell, I.free, I.freeC, fun p hp => (List.mem_append.mp hp).elim (fun z => I.pin p (List.mem_append_left _ z)) (h p), I.hok, I.len⟩
theorem nodup_ix {N : List Str} (hN : N.Nodup) {i j : Nat} {x : Str} (a : N[i]? = some x) (b : N[j]? = some x) : i = j := by
  obtain ⟨h1, e1⟩ := List.getElem?_eq_some_iff.mp a
  obtain ⟨h2, e2⟩ := List.getElem?_eq_some_iff.mp b
  exact (List.getElem_inj hN).mp (e1.trans e2.symm)
theorem store_ok2 {M : Model} {A : Around} {E : Value → Shared → Prop} {i : Nat} {x : Str} {v : V} {u : Value} {Q : Unit → Shared → Prop} (I : Inv X pins σ H s) (hN : X.N.Nodup) (hi : X.N[i]? = some x) (hx : Loc X.env.scope x) (r : RelV v u)
    (h : ∀ s', Inv X pins (σ.set i (some v)) H s' → (∃ a, Heap.SameBut a s.heap s'.heap ∧ (a = X.env.locals ∨ X.env.cells.lookup x = some a)) → Q () s') (hf : X.fn x = true ∨ X.env.scope.names.lookup x = some .local := by first | exact .inl rfl | exact .inr rfl | assumption) : wpAny M A (storeName X.env x u) Q E s := by
  obtain ⟨m, hn, hl⟩ := id I.loc
  have hcls : (X.env.scope.kind == .class || (X.env.scope.kind == .module && X.env.locals != X.env.globals)) = false := by rw [I.ok.kind]; rfl
  have hiσ : i < σ.length := by rw [I.len]; exact (List.getElem?_eq_some_iff.mp hi).1
  have cne := I.cne
  have tracked : ∀ {a : Addr} {h' : Heap}, (∃ o, s.heap.get? a = some o ∧ H a = none) → Heap.SameBut a s.heap h' → HOk X.prog X.w H h' := fun {a h'} ha hs b ob e => by
    obtain ⟨_, _, hfree⟩ := ha
    refine (I.hok b ob e).stay (fun c w' hc q => (hs.2 c ?_).trans q) (fun _ q => q) fun _ _ q => q
    rintro rfl
    rcases hc with rfl | hc
    · rw [hfree] at e; cases e
    · rw [hfree] at hc; cases hc
  rcases hx with hk | hk
  · refine wpAny_storeName_local hk hn (fun h' hn' hs => ?_) hcls
    obtain ⟨oL, _, _, hoL, _⟩ := id hn
    refine h _ ⟨I.ok, I.os, I.bare, ⟨fun b o e n hb hx => ?_, fun b o e n hb hx => ?_, I.base.free, fun b o e hx => ?_, I.base.tups, I.base.frzs, I.base.tbls, I.base.sys⟩, ⟨_, hn', fun j y v' e1 e2 e3 => ?_⟩, fun y c e => ?_, I.free, I.freeC, fun p hp => ?_, tracked ⟨oL, hoL, I.free⟩ hs, by simpa using I.len⟩ ⟨_, hs, .inl rfl⟩
    · exact (hs.2 b (Nat.ne_of_lt (Nat.lt_of_lt_of_le (Heap.lt_size e) I.ok.above))).trans (I.base.keep b o e n hb hx)
    · obtain ⟨sl, e1⟩ := I.base.slot b o e n hb hx
      exact ⟨sl, (hs.2 b (Nat.ne_of_lt (Nat.lt_of_lt_of_le (Heap.lt_size e) I.ok.above))).trans e1⟩
    · obtain ⟨o', e1⟩ := I.base.there b o e hx
      exact ⟨o', (hs.2 b (Nat.ne_of_lt (Nat.lt_of_lt_of_le (Heap.lt_size e) I.ok.above))).trans e1⟩
    · by_cases hj : j = i
      · subst hj
        rw [hi] at e1; cases e1
        rw [List.getElem?_set_self hiσ] at e2
        cases e2
        exact ⟨u, r, .inl ⟨hk, by simp⟩⟩
      · rw [List.getElem?_set_ne (Ne.symm hj)] at e2
        obtain ⟨u', r', q⟩ := hl j y v' e1 e2 e3
        refine ⟨u', r', ?_⟩
        rcases q with ⟨k, e⟩ | ⟨k, c, e, z⟩
        · refine .inl ⟨k, ?_⟩
          have : y ≠ x := fun e => hj (nodup_ix hN e1 (e ▸ hi))
          simp [this, e]
        · exact .inr ⟨k, c, e, z.sameBut hs (cne y c e)⟩
    · obtain ⟨w', z⟩ := I.cell y c e
      exact ⟨w', z.sameBut hs (cne y c e)⟩
    · obtain ⟨e, n, ne, nf, d⟩ := I.pin p hp
      exact ⟨(hs.2 p.1 ne).trans e, n, ne, nf, d⟩
  · have hfn : X.fn x = true := by
      rcases hf with z | z
      · exact z
      · rw [z] at hk; cases hk
    obtain ⟨c, hc⟩ := I.ok.has x (.inl hk)
    obtain ⟨w', z⟩ := I.cell x c hc
    refine wpAny_storeName_cell I.ok.kind hk hc z (fun h' hc' hs => ?_)
    obtain ⟨oc, hoc, hocd⟩ := id z
    refine h { s with heap := h' } ⟨I.ok, I.os, I.bare, ⟨fun b o e n hb hx => ?_, fun b o e n hb hx => ?_, I.base.free, fun b o e hx => ?_, I.base.tups, I.base.frzs, I.base.tbls, I.base.sys⟩, ⟨m, hn.sameBut hs (Ne.symm (cne x c hc)), fun j y v' e1 e2 e3 => ?_⟩, fun y c' e => ?_, I.free, I.freeC, fun p hp => ?_, tracked ⟨oc, hoc, I.freeC x c hc⟩ hs, by simpa using I.len⟩ ⟨c, hs, .inr hc⟩
    · exact (hs.2 b (Nat.ne_of_lt (Nat.lt_of_lt_of_le (Heap.lt_size e) (I.ok.cab x c hfn hc)))).trans (I.base.keep b o e n hb hx)
    · obtain ⟨sl, e1⟩ := I.base.slot b o e n hb hx
      exact ⟨sl, (hs.2 b (Nat.ne_of_lt (Nat.lt_of_lt_of_le (Heap.lt_size e) (I.ok.cab x c hfn hc)))).trans e1⟩
    · obtain ⟨o', e1⟩ := I.base.there b o e hx
      exact ⟨o', (hs.2 b (Nat.ne_of_lt (Nat.lt_of_lt_of_le (Heap.lt_size e) (I.ok.cab x c hfn hc)))).trans e1⟩
    · by_cases hj : j = i
      · subst hj
        rw [hi] at e1; cases e1
        rw [List.getElem?_set_self hiσ] at e2
        cases e2
        exact ⟨u, r, .inr ⟨.inl hk, c, hc, hc'⟩⟩
      · rw [List.getElem?_set_ne (Ne.symm hj)] at e2
        obtain ⟨u', r', q⟩ := hl j y v' e1 e2 e3
        refine ⟨u', r', ?_⟩
        rcases q with q | ⟨k, c', e, z'⟩
        · exact .inl q
        · refine .inr ⟨k, c', e, z'.sameBut hs ?_⟩
          rintro rfl
          exact hj (nodup_ix hN e1 (I.ok.inj _ _ _ e hc ▸ hi))
    · by_cases hcc : c' = c
      · subst hcc; exact ⟨_, hc'⟩
      · obtain ⟨w2, z2⟩ := I.cell y c' e
        exact ⟨w2, z2.sameBut hs hcc⟩
    · obtain ⟨e, n, ne, nf, d⟩ := I.pin p hp
      refine ⟨(hs.2 p.1 ?_).trans e, n, ne, nf, d⟩
      intro q
      rw [q, hoc] at e
      have q' : oc = p.2 := Option.some.inj e
      exact d w' (by rw [← q']; exact hocd)
theorem store_ok {M : Model} {A : Around} {E : Value → Shared → Prop} {i : Nat} {x : Str} {v : V} {u : Value} {Q : Unit → Shared → Prop} (I : Inv X pins σ H s) (hN : X.N.Nodup) (hi : X.N[i]? = some x) (hx : Loc X.env.scope x) (r : RelV v u)
    (h : ∀ s', Inv X pins (σ.set i (some v)) H s' → Q () s') (hf : X.fn x = true ∨ X.env.scope.names.lookup x = some .local := by first | exact .inl rfl | exact .inr rfl | assumption) : wpAny M A (storeName X.env x u) Q E s :=
  store_ok2 I hN hi hx r (fun s' I' _ => h s' I') hf
theorem Inv.call' {s' : Shared} {ch : List Addr} (I : Inv X pins σ H s) (ho : s'.os = s.os) (u : Un (frs X.stack) ch H H' s.heap s'.heap) (hok : HOk X.prog X.w H' s'.heap) (hg : AllBare s'.gens)
    (hch : ∀ b ∈ ch, (b ∈ X.ex ∨ X.s₀.heap.objs.size ≤ b) ∧ b ≠ X.env.locals ∧ (∀ x c, X.env.cells.lookup x = some c → c ≠ b) ∧ ∀ p ∈ X.pn ++ pins, p.1 ≠ b) : Inv X pins σ H' s' := by
  obtain ⟨h', g', d', t', o'⟩ := s'
  have e : o' = s.os := ho
  subst e
  exact I.call (g' := g') (t' := t') (d' := d') u hok hg hch
end
abbrev XK := Value → Option Addr → Hp → Prop
abbrev St := List (Option V)
abbrev VK := V → Hp → Prop
abbrev TE := St → Hp → VK → Prop
abbrev TT := St → Hp → (Bool → Hp → Prop) → Prop
abbrev TA := St → Hp → (List V → Hp → Prop) → Prop
structure Ends where
  nx : St → Hp → Prop
  rt : VK
  bk : St → Hp → Prop := fun _ _ => False
  ct : St → Hp → Prop := fun _ _ => False
abbrev TS := Ends → St → Hp → Prop
def EP (X : Cx) (pins : List (Addr × Obj)) (σ : St) (Q : VK) (u : Value) (s' : Shared) : Prop := ∃ v H', Inv X pins σ H' s' ∧ RelV v u ∧ Q v H'
def TP (X : Cx) (pins : List (Addr × Obj)) (σ : St) (Q : Bool → Hp → Prop) (b : Bool) (s' : Shared) : Prop := ∃ H', Inv X pins σ H' s' ∧ Q b H'
def AP (X : Cx) (pins : List (Addr × Obj)) (σ : St) (Q : List V → Hp → Prop) (us : List Value) (s' : Shared) : Prop := ∃ vs H', Inv X pins σ H' s' ∧ Vals vs us ∧ Q vs H'
def SP (X : Cx) (pins : List (Addr × Obj)) (D : Ends) (f : Flow) (s' : Shared) : Prop :=
  match f with
  | .next => ∃ σ' H', Inv X pins σ' H' s' ∧ D.nx σ' H'
  | .brk => ∃ σ' H', Inv X pins σ' H' s' ∧ D.bk σ' H'
  | .cont => ∃ σ' H', Inv X pins σ' H' s' ∧ D.ct σ' H'
  | .ret u => ∃ v σ' H', Inv X pins σ' H' s' ∧ RelV v u ∧ D.rt v H'
def PE (X : Cx) (e : Expr) (t : TE) : Prop :=
  ∀ (pins : List (Addr × Obj)) (s : Shared) (σ : St) (H : Hp) (Q : VK), Inv X pins σ H s → t σ H Q → wpAny (model X.prog X.w) X.A (eval e X.env) (EP X pins σ Q) X.xe s
def PT (X : Cx) (e : Expr) (t : TT) : Prop :=
  ∀ (pins : List (Addr × Obj)) (s : Shared) (σ : St) (H : Hp) (Q : Bool → Hp → Prop), Inv X pins σ H s → t σ H Q → wpAny (model X.prog X.w) X.A (isTrue e X.env (eval e X.env)) (TP X pins σ Q) X.xe s
def PW (X : Cx) (e : Expr) (t : TT) : Prop :=
  ∀ (whole : Sem Value) (pins : List (Addr × Obj)) (s : Shared) (σ : St) (H : Hp) (Q : Bool → Hp → Prop), Inv X pins σ H s → t σ H Q → wpAny (model X.prog X.w) X.A (isTrue e X.env whole) (TP X pins σ Q) X.xe s
theorem PW.pt {X : Cx} {e : Expr} {t : TT} (h : PW X e t) : PT X e t := h _
def PA (X : Cx) (es : List Expr) (t : TA) : Prop :=
  ∀ (pos : Pos) (pins : List (Addr × Obj)) (s : Shared) (σ : St) (H : Hp) (Q : List V → Hp → Prop), Inv X pins σ H s → t σ H Q → wpAny (model X.prog X.w) X.A (spliced (backTo pos (starEach es X.env))) (AP X pins σ Q) X.xe s
def PS (X : Cx) (st : Stmt) (t : TS) : Prop :=
  ∀ (pins : List (Addr × Obj)) (s : Shared) (σ : St) (H : Hp) (D : Ends), Inv X pins σ H s → t D σ H → wpAny (model X.prog X.w) X.A (exec st X.env) (SP X pins D) X.xe s
def PSs (X : Cx) (st : List Stmt) (t : TS) : Prop :=
  ∀ (pins : List (Addr × Obj)) (s : Shared) (σ : St) (H : Hp) (D : Ends), Inv X pins σ H s → t D σ H → wpAny (model X.prog X.w) X.A (execs st X.env) (SP X pins D) X.xe s
theorem thn {α : Type} {t : Sem α} {Q Q' : α → Shared → Prop} {M : Model} {A : Around} {E : Value → Shared → Prop} {s : Shared} (h : wpAny M A t Q E s) (hQ : ∀ a s, Q a s → Q' a s) : wpAny M A t Q' E s := wpAny_mono h hQ fun _ _ x => x
end L2
namespace L2
open PySem PySem.Spec PyProof.Rows
section
variable {X : Cx}
def tVar (i : Nat) : TE := fun σ H Q => ∃ v, σ[i]? = some (some v) ∧ Q v H
def tC (v : V) : TE := fun _ H Q => Q v H
theorem pe_var {i : Nat} {x : Str} {pos : Pos} (hN : X.N[i]? = some x) (hv : Vis X.env.scope x) (hd : (x == ("__debug__" : Str)) = false := by decide) (hcd : (x == ("__classdict__" : Str)) = false := by decide) : PE X (.Name x pos) (tVar i) := by
  intro pins s σ H Q I h
  obtain ⟨v, e, h⟩ := h
  obtain ⟨m, hn, hl⟩ := I.loc
  obtain ⟨u, r, l⟩ := hl i x v hN e hv
  have fin : EP X pins σ Q u s := ⟨v, H, I, r, h⟩
  rcases l with ⟨hk, hm⟩ | ⟨hk, c, hc, hcell⟩
  · exact wpAny_Name (wpAny_loadName_local I.ok.kind hk hn hm fin) hd
  · rcases hk with hk | hk
    · exact wpAny_Name (wpAny_loadName_cell I.ok.kind hk hc hcell fin) hd
    · exact wpAny_Name (wpAny_loadName_free I.ok.kind hk hc hcell fin hcd) hd
theorem pe_int {i j pos} : PE X (.Constant (.int i) j pos) (tC (.int i)) := fun _ _ _ H _ I h => wpAny_Constant_int ⟨.int i, H, I.tok _, ⟨_, rfl⟩, h⟩
theorem pe_bl {b j pos} : PE X (.Constant (.bool b) j pos) (tC (.bl b)) := fun _ _ _ H _ I h => Constant_bool ⟨.bl b, H, I, rfl, h⟩
theorem pe_non {j pos} : PE X (.Constant .none j pos) (tC .non) := fun _ _ _ H _ I h => Constant_none ⟨.non, H, I, rfl, h⟩
theorem pe_str {x j pos} : PE X (.Constant (.str x) j pos) (tC (.str x)) := fun _ _ _ H _ I h => Calls.Constant_str ⟨.str x, H, I.tok _, ⟨_, rfl⟩, h⟩
def Gl (X : Cx) (x : Str) : Prop := X.env.kindOf x = some .globalImplicit
theorem ld_glob {E : Value → Shared → Prop} {pins : List (Addr × Obj)} {s : Shared} {σ : St} {H : Hp} {x : Str} {u : Value} {pos : Pos} {Q : Value → Shared → Prop} (I : Inv X pins σ H s) (hg : Gl X x) (hm : X.mg x = some u) (h : Q u s)
    (hd : (x == ("__debug__" : Str)) = false := by decide) : wpAny (model X.prog X.w) X.A (eval (.Name x pos) X.env) Q E s :=
  Calls.Name_function_global I.ok.kind hg (Calls.loadGlobal_global (by rw [I.ok.glob]; exact I.mod.glob.keeps I.bk) hm h) hd
theorem ld_blt {E : Value → Shared → Prop} {pins : List (Addr × Obj)} {s : Shared} {σ : St} {H : Hp} {x : Str} {u : Value} {pos : Pos} {Q : Value → Shared → Prop} (I : Inv X pins σ H s) (hg : Gl X x) (hm : X.mg x = none) (hv : bootBuiltins x = some u) (h : Q u s)
    (hn : x ≠ "__name__" := by decide) (hd : (x == ("__debug__" : Str)) = false := by decide) : wpAny (model X.prog X.w) X.A (eval (.Name x pos) X.env) Q E s := by
  obtain ⟨mb, h1, h2⟩ := I.mod.blt
  exact Calls.Name_function_global I.ok.kind hg (Calls.loadGlobal_builtin (by rw [I.ok.glob]; exact I.mod.glob.keeps I.bk) hm (by rw [I.ok.blt]; exact h1.keeps I.bk) ((h2 x hn).trans hv) h) hd
theorem pe_glob {x : Str} {v : V} {u : Value} {pos : Pos} (hg : Gl X x) (hm : X.mg x = some u) (r : RelV v u) (hd : (x == ("__debug__" : Str)) = false := by decide) : PE X (.Name x pos) (tC v) :=
  fun _ _ _ H _ I h => ld_glob I hg hm ⟨v, H, I, r, h⟩ hd
theorem pe_bltn {x : Str} {v : V} {u : Value} {pos : Pos} (hg : Gl X x) (hm : X.mg x = none) (hv : bootBuiltins x = some u) (r : RelV v u) (hn : x ≠ "__name__" := by decide) (hd : (x == ("__debug__" : Str)) = false := by decide) : PE X (.Name x pos) (tC v) :=
  fun _ _ _ H _ I h => ld_blt I hg hm hv ⟨v, H, I, r, h⟩ hn hd
def t2I (ta tb : TE) (k : Int → Int → Hp → Prop) : St → Hp → Prop := fun σ H => ta σ H fun x H1 => tb σ H1 fun y H2 => ∃ i j, x = .int i ∧ y = .int j ∧ k i j H2
def tAdd (ta tb : TE) : TE := fun σ H Q => t2I ta tb (fun i j H2 => Q (.int (i + j)) H2) σ H
def tSub (ta tb : TE) : TE := fun σ H Q => t2I ta tb (fun i j H2 => Q (.int (i - j)) H2) σ H
def tMul (ta tb : TE) : TE := fun σ H Q => t2I ta tb (fun i j H2 => (-(2 ^ 64) < i ∧ i < 2 ^ 64) ∧ Q (.int (i * j)) H2) σ H
variable {a b : Expr} {ta tb : TE} {pos : Pos}
def PC (X : Cx) (op : CmpOp) (a b : Expr) (t : TE) : Prop :=
  ∀ (pins : List (Addr × Obj)) (s : Shared) (σ : St) (H : Hp) (Q : VK), Inv X pins σ H s → t σ H Q →
    wpAny (model X.prog X.w) X.A (eval a X.env) (fun v s₁ => wpAny (model X.prog X.w) X.A (eval b X.env) (fun u s₂ => wpAny (model X.prog X.w) X.A (compareOp op v u) (EP X pins σ Q) X.xe s₂) X.xe s₁) X.xe s
theorem nobehind (b : Expr) {op : CmpOp} (h : op ≠ .In) (h2 : op ≠ .NotIn) : behindInMarks op b = false := by
  have e1 : (op == CmpOp.In) = false := by cases op <;> first | rfl | exact absurd rfl h
  have e2 : (op == CmpOp.NotIn) = false := by cases op <;> first | rfl | exact absurd rfl h2
  cases b <;> simp [behindInMarks, e1, e2]
def tCmp (p : Int → Int → Bool) (ta tb : TE) : TE := fun σ H Q => t2I ta tb (fun i j H2 => Q (.bl (p i j)) H2) σ H
abbrev tLt : TE → TE → TE := tCmp fun i j => decide (i < j)
abbrev tLe : TE → TE → TE := tCmp fun i j => decide (i ≤ j)
abbrev tGt : TE → TE → TE := tCmp fun i j => decide (j < i)
abbrev tGe : TE → TE → TE := tCmp fun i j => decide (j ≤ i)
abbrev tEqI : TE → TE → TE := tCmp fun i j => decide (i = j)
abbrev tNeI : TE → TE → TE := tCmp fun i j => !decide (i = j)
def tIsN (ta : TE) : TE := fun σ H Q => ta σ H fun x H1 => Q (.bl (decide (x = .non))) H1
def tNotN (ta : TE) : TE := fun σ H Q => ta σ H fun x H1 => Q (.bl (!decide (x = .non))) H1
theorem RelV.none_iff {x : V} {v : Value} (r : RelV x v) : (v == Value.none) = decide (x = .non) := by
  cases x with
  | non => cases r; rfl
  | bl _ => cases r; rfl
  | int _ => obtain ⟨t, rfl⟩ := r; rfl
  | str _ => obtain ⟨t, rfl⟩ := r; rfl
  | byt _ => obtain ⟨t, rfl⟩ := r; rfl
  | flt _ => obtain ⟨t, rfl⟩ := r; rfl
  | ref _ => cases r; rfl
  | ty _ => cases r; rfl
theorem pc_isN {j pos'} (ha : PE X a ta) : PC X .Is a (.Constant .none j pos') (tIsN ta) := by
  intro pins s σ H Q I h
  refine thn (ha pins s σ H _ I h) fun v s1 ⟨x, H1, I1, r1, q1⟩ => ?_
  exact Constant_none (is_none_gen ⟨.bl _, H1, I1, by rw [r1.none_iff]; rfl, q1⟩)
def tB (t : TE) : TT := fun σ H Q => t σ H fun x H1 => ∃ c, x = .bl c ∧ Q c H1
theorem pt_cmp {op : CmpOp} {t : TE} (h : PC X op a b t) (h1 : behindInMarks op b = false := by first | exact nobehind _ (by decide) (by decide) | rfl) : PT X (.Compare a [op] [b] pos) (tB t) := by
  intro pins s σ H Q I hw
  refine wpAny_isTrue_Compare1 (thn (h pins s σ H _ I hw) fun v s1 h1 => thn h1 fun u s2 h2 => thn h2 fun c s3 ⟨x, H1, I1, r1, q1⟩ => ?_) h1
  obtain ⟨d, rfl, q⟩ := q1
  cases r1
  exact wpAny_truthy_bool ⟨H1, I1, q⟩
theorem pt_val {e : Expr} {t : TE} (h : PE X e t) (he : ∀ whole, isTrue e X.env whole = (do let v ← whole; standAt e.pos; holding [v] (truthy v)) := by intro _; rfl) : PT X e (tB t) := by
  intro pins s σ H Q I hw
  refine isTrue_plain (thn (h pins s σ H _ I hw) fun v s1 ⟨x, H1, I1, r1, q1⟩ => ?_) (he _)
  obtain ⟨d, rfl, q⟩ := q1
  cases r1
  exact wpAny_truthy_bool ⟨H1, I1, q⟩
variable {tA tB' : TT} {rest : List Expr}
def tAnd (t u : TT) : TT := fun σ H Q => t σ H fun c H1 => if c = true then u σ H1 Q else Q false H1
def tOr (t u : TT) : TT := fun σ H Q => t σ H fun c H1 => if c = true then Q true H1 else u σ H1 Q
def tNot (t : TT) : TT := fun σ H Q => t σ H fun c H1 => Q (!c) H1
theorem pw_and1 (ha : PT X a tA) : PW X (.BoolOp .And [a] pos) tA := by
  intro wh pins s σ H Q I h
  refine isTrue_and (thn (ha pins s σ H Q I h) fun c s1 e => ?_)
  cases c with
  | true => exact isTrue_and_nil e
  | false => exact e
theorem pw_or1 (ha : PT X a tA) : PW X (.BoolOp .Or [a] pos) tA := by
  intro wh pins s σ H Q I h
  refine isTrue_or (thn (ha pins s σ H Q I h) fun c s1 e => ?_)
  cases c with
  | false => exact isTrue_or_nil e
  | true => exact e
theorem pw_and (ha : PT X a tA) (hb : PW X (.BoolOp .And (b :: rest) pos) tB') : PW X (.BoolOp .And (a :: b :: rest) pos) (tAnd tA tB') := by
  intro wh pins s σ H Q I h
  refine isTrue_and (thn (ha pins s σ H _ I h) fun c s1 ⟨H1, I1, q1⟩ => ?_)
  cases c with
  | true => exact hb wh pins s1 σ H1 Q I1 q1
  | false => exact ⟨H1, I1, q1⟩
theorem pw_or (ha : PT X a tA) (hb : PW X (.BoolOp .Or (b :: rest) pos) tB') : PW X (.BoolOp .Or (a :: b :: rest) pos) (tOr tA tB') := by
  intro wh pins s σ H Q I h
  refine isTrue_or (thn (ha pins s σ H _ I h) fun c s1 ⟨H1, I1, q1⟩ => ?_)
  cases c with
  | true => exact ⟨H1, I1, q1⟩
  | false => exact hb wh pins s1 σ H1 Q I1 q1
theorem pt_not (ha : PT X a tA) : PT X (.UnaryOp .Not a pos) (tNot tA) := by
  intro pins s σ H Q I h
  exact isTrue_not (ha pins s σ H (fun c H1 => Q (!c) H1) I h)
def tAndV (ta tb : TE) : TE := fun σ H Q => ta σ H fun x H1 => ∃ c, x = .bl c ∧ if c = true then tb σ H1 Q else Q (.bl false) H1
def tOrV (ta tb : TE) : TE := fun σ H Q => ta σ H fun x H1 => ∃ c, x = .bl c ∧ if c = true then Q (.bl true) H1 else tb σ H1 Q
def tNotV (ta : TE) : TE := fun σ H Q => ta σ H fun x H1 => ∃ c, x = .bl c ∧ Q (.bl (!c)) H1
theorem pe_one {op} {t : TE} (h : PE X a t) : PE X (.BoolOp op [a] pos) t := fun pins s σ H Q I hw => BoolOp_one (h pins s σ H Q I hw)
theorem pe_and (ha : PE X a ta) (hb : PE X (.BoolOp .And (b :: rest) pos) tb) : PE X (.BoolOp .And (a :: b :: rest) pos) (tAndV ta tb) := by
  intro pins s σ H Q I h
  refine BoolOp_and (thn (ha pins s σ H _ I h) fun v s1 ⟨x, H1, I1, r1, q1⟩ => ?_)
  obtain ⟨c, rfl, q1⟩ := q1
  cases r1
  refine wpAny_truthy_bool ?_
  cases c with
  | true => exact hb pins s1 σ H1 Q I1 q1
  | false => exact ⟨.bl false, H1, I1, rfl, q1⟩
theorem pe_not (ha : PE X a ta) : PE X (.UnaryOp .Not a pos) (tNotV ta) := by
  intro pins s σ H Q I h
  refine UnaryOp_ (thn (ha pins s σ H _ I h) fun v s1 ⟨x, H1, I1, r1, q1⟩ => ?_)
  obtain ⟨c, rfl, q1⟩ := q1
  cases r1
  exact not_of (wpAny_truthy_bool ⟨.bl (!c), H1, I1, rfl, q1⟩)
def tIf (t : TT) (ta tb : TE) : TE := fun σ H Q => t σ H fun c H1 => if c = true then ta σ H1 Q else tb σ H1 Q
theorem pe_ifExp {c : Expr} (hc : PT X c tA) (ha : PE X a ta) (hb : PE X b tb) : PE X (.IfExp c a b pos) (tIf tA ta tb) := by
  intro pins s σ H Q I h
  refine wpAny_IfExp (thn (hc pins s σ H _ I h) fun d s1 ⟨H1, I1, q1⟩ => ?_)
  cases d with
  | true => exact ha pins s1 σ H1 Q I1 q1
  | false => exact hb pins s1 σ H1 Q I1 q1
end
end L2
namespace L2
open PySem PySem.Spec PyProof.Rows
def SqL (K : PySem.W.Frag) (H : Hp) (a : Addr) (xs : List V) : Prop :=
  Rd H a (.lst xs) ∨
    ∃ (o : Obj) (its : Array Value) (n : Nat), K.lookup a = some o ∧ o.cls = .type "list" ∧ o.dict = none ∧ o.data = .seq its n ∧ its.size ≤ sizeLine ∧ Vals xs its.toList
def SqT (K : PySem.W.Frag) (H : Hp) (a : Addr) (xs : List V) : Prop :=
  Rd H a (.tup xs) ∨
    ∃ (o : Obj) (its : Array Value) (n : Nat), K.lookup a = some o ∧ o.cls = .type "tuple" ∧ o.data = .seq its n ∧ its.size ≤ sizeLine ∧ Vals xs its.toList
def absV : Value → Option V
  | .none => some .non
  | .bool b => some (.bl b)
  | .int i _ => some (.int i)
  | .str x _ => some (.str x)
  | .bytes b _ => some (.byt b)
  | .float b _ => some (.flt b)
  | .ref a => some (.ref a)
  | .type n => some (.ty n)
  | _ => none
theorem RelV.abs {x : V} {u : Value} (r : RelV x u) : absV u = some x := by
  cases x with
  | non => cases r; rfl
  | bl _ => cases r; rfl
  | int _ => obtain ⟨t, rfl⟩ := r; rfl
  | str _ => obtain ⟨t, rfl⟩ := r; rfl
  | byt _ => obtain ⟨t, rfl⟩ := r; rfl
  | flt _ => obtain ⟨t, rfl⟩ := r; rfl
  | ref _ => cases r; rfl
  | ty _ => cases r; rfl
theorem RelV.inj {x y : V} {u : Value} (r : RelV x u) (q : RelV y u) : x = y := Option.some.inj (r.abs.symm.trans q.abs)
theorem Vals.inj : ∀ {xs ys : List V} {us : List Value}, Vals xs us → Vals ys us → xs = ys
  | _, _, _, .nil, .nil => rfl
  | _, _, _, .cons r t, .cons r' t' => by rw [r.inj r', Vals.inj t t']
section
variable {X : Cx} {pins : List (Addr × Obj)} {σ : St} {H : Hp} {s : Shared} {a : Addr} {xs ys : List V}
theorem SqL.of {K : PySem.W.Frag} (h : H a = some (.lst xs)) : SqL K H a xs := .inl (.inl h)
theorem SqT.of {K : PySem.W.Frag} (h : H a = some (.tup xs)) : SqT K H a xs := .inl (.inl h)
theorem Inv.list (I : Inv X pins σ H s) (h : SqL X.K H a xs) : ∃ its : List Value, Vals xs its ∧ PlainL s.heap a its.toArray ∧ xs.length ≤ sizeLine := by
  rcases h with h | ⟨o, its, n, hk, hc, hd, hs, hz, r⟩
  · obtain ⟨z, its, n, r, e⟩ := h.ok I.hok
    exact ⟨its, r, ⟨_, n, e, rfl, rfl, rfl⟩, z⟩
  · refine ⟨its.toList, r, ⟨o, n, I.kIn a o hk, hc, hd, by simpa using hs⟩, ?_⟩
    have e := r.length
    simp only [Array.length_toList] at e
    omega
theorem Inv.tuple (I : Inv X pins σ H s) (h : SqT X.K H a xs) : ∃ its : List Value, Vals xs its ∧ IsTup s.heap a its.toArray ∧ xs.length ≤ sizeLine := by
  rcases h with h | ⟨o, its, n, hk, hc, hs, hz, r⟩
  · obtain ⟨z, its, r, p⟩ := h.ok I.hok
    exact ⟨its, r, p, z⟩
  · refine ⟨its.toList, r, ⟨o, I.kIn a o hk, hc, n, by simpa using hs⟩, ?_⟩
    have e := r.length
    simp only [Array.length_toList] at e
    omega
theorem Inv.list_inj (I : Inv X pins σ H s) (h : SqL X.K H a xs) (h' : SqL X.K H a ys) : xs = ys := by
  obtain ⟨its, r, ⟨o, n, e, _, _, d⟩, _⟩ := I.list h
  obtain ⟨its', r', ⟨o', n', e', _, _, d'⟩, _⟩ := I.list h'
  rw [e] at e'; cases e'
  rw [d] at d'
  injection d' with d1 _
  have : its = its' := by simpa using congrArg Array.toList d1
  subst this
  exact r.inj r'
theorem Inv.tuple_inj (I : Inv X pins σ H s) (h : SqT X.K H a xs) (h' : SqT X.K H a ys) : xs = ys := by
  obtain ⟨its, r, ⟨o, e, _, n, d⟩, _⟩ := I.tuple h
  obtain ⟨its', r', ⟨o', e', _, n', d'⟩, _⟩ := I.tuple h'
  rw [e] at e'; cases e'
  rw [d] at d'
  injection d' with d1 _
  have : its = its' := by simpa using congrArg Array.toList d1
  subst this
  exact r.inj r'
end
abbrev Cx.wish (X : Cx) (E : Value → Shared → Prop) : Cx := { X with xe := E }
abbrev Cx.nox (X : Cx) : Cx := X.wish fun _ _ => False
theorem Cx.Ok.wish {X : Cx} (ok : X.Ok) (E : Value → Shared → Prop) : (X.wish E).Ok :=
  ⟨ok.mod, ok.kind, ok.glob, ok.blt, ok.above, ok.inj, ok.has, ok.cab, ok.hd, ok.frames, ok.stk, ok.exf, ok.bs, ok.bsz, ok.noex, ok.exfs, ok.funs, ok.frf⟩
theorem Cx.Ok.unwish {X : Cx} {E : Value → Shared → Prop} (ok : (X.wish E).Ok) : X.Ok :=
  ⟨ok.mod, ok.kind, ok.glob, ok.blt, ok.above, ok.inj, ok.has, ok.cab, ok.hd, ok.frames, ok.stk, ok.exf, ok.bs, ok.bsz, ok.noex, ok.exfs, ok.funs, ok.frf⟩
section
variable {X : Cx} {pins : List (Addr × Obj)} {σ : St} {H : Hp} {s : Shared} {E : Value → Shared → Prop}
theorem Inv.wish (I : Inv X pins σ H s) (E : Value → Shared → Prop) : Inv (X.wish E) pins σ H s := ⟨I.ok.wish E, I.os, I.bare, I.base, I.loc, I.cell, I.free, I.freeC, I.pin, I.hok, I.len⟩
theorem Inv.unwish (I : Inv (X.wish E) pins σ H s) : Inv X pins σ H s := ⟨I.ok.unwish, I.os, I.bare, I.base, I.loc, I.cell, I.free, I.freeC, I.pin, I.hok, I.len⟩
theorem SP.unwish {D : Ends} {f : Flow} {s' : Shared} (h : SP (X.wish E) pins D f s') : SP X pins D f s' := by
  cases f with
  | next => obtain ⟨σ', H', I, q⟩ := h; exact ⟨σ', H', I.unwish, q⟩
  | brk => obtain ⟨σ', H', I, q⟩ := h; exact ⟨σ', H', I.unwish, q⟩
  | cont => obtain ⟨σ', H', I, q⟩ := h; exact ⟨σ', H', I.unwish, q⟩
  | ret u => obtain ⟨v, σ', H', I, r, q⟩ := h; exact ⟨v, σ', H', I.unwish, r, q⟩
theorem PE.nox {e : Expr} {t : TE} (h : PE X.nox e t) : PE X e t := fun pins s σ H Q I hw =>
  wpAny_mono (h pins s σ H Q (I.wish _) hw) (fun _ _ ⟨v, H', I', r, q⟩ => ⟨v, H', I'.unwish, r, q⟩) fun _ _ z => False.elim z
theorem PT.nox {e : Expr} {t : TT} (h : PT X.nox e t) : PT X e t := fun pins s σ H Q I hw =>
  wpAny_mono (h pins s σ H Q (I.wish _) hw) (fun _ _ ⟨H', I', q⟩ => ⟨H', I'.unwish, q⟩) fun _ _ z => False.elim z
theorem PSs.nox {st : List Stmt} {t : TS} (h : PSs X.nox st t) : PSs X st t := fun pins s σ H D I hw =>
  wpAny_mono (h pins s σ H D (I.wish _) hw) (fun _ _ q => q.unwish) fun _ _ z => False.elim z
end
section
variable {X : Cx} {st : Stmt} {rest : List Stmt} {t u : TS} {e : Expr} {te : TE} {pos : Pos}
def tNext : TS := fun D σ H => D.nx σ H
def tSeq (t u : TS) : TS := fun D σ H => t { D with nx := u D } σ H
theorem pss_nil : PSs X [] tNext := fun _ _ σ H _ I h => wpAny_execs_nil ⟨σ, H, I, h⟩
theorem pss_cons (h1 : PS X st t) (h2 : PSs X rest u) : PSs X (st :: rest) (tSeq t u) := by
  intro pins s σ H D I h
  refine wpAny_execs_cons (thn (h1 pins s σ H { D with nx := u D } I h) fun f s1 q => ?_)
  cases f with
  | next =>
    obtain ⟨σ', H', I', q⟩ := q
    exact h2 pins s1 σ' H' D I' q
  | ret v => exact q
  | brk => exact q
  | cont => exact q
theorem pss_one (h1 : PS X st t) : PSs X [st] t := by
  intro pins s σ H D I h
  refine wpAny_execs_cons (thn (h1 pins s σ H D I h) fun f s1 q => ?_)
  cases f with
  | next => exact wpAny_execs_nil q
  | ret v => exact q
  | brk => exact q
  | cont => exact q
def tBreak : TS := fun D σ H => D.bk σ H
def tCont : TS := fun D σ H => D.ct σ H
theorem Inv.quiet {pins : List (Addr × Obj)} {σ : St} {H : Hp} {s : Shared} (I : Inv X pins σ H s) : interactive X.env = false := by simp [interactive, I.ok.kind]
def tDrop (te : TE) : TS := fun D σ H => te σ H fun _ H1 => D.nx σ H1
theorem ps_expr (he : PE X e te) (hs : swapsWith e none pos.line X.env = pure false := by rfl) : PS X (.Expr e pos) (tDrop te) := by
  intro pins s σ H D I h
  exact wpAny_Expr_any (thn (he pins s σ H _ I h) fun v s1 ⟨x, H1, I1, r1, q1⟩ => ⟨σ, H1, I1, q1⟩) I.quiet hs
def tRet (te : TE) : TS := fun D σ H => te σ H D.rt
theorem ps_ret (he : PE X e te) : PS X (.Return (some e) pos) (tRet te) := by
  intro pins s σ H D I h
  exact wpAny_Return_some (thn (he pins s σ H _ I h) fun v s1 ⟨x, H1, I1, r1, q1⟩ => ⟨x, σ, H1, I1, r1, q1⟩)
def tRetN : TS := fun D _ H => D.rt .non H
def tIfS (c : TT) (t u : TS) : TS := fun D σ H => c σ H fun b H1 => if b = true then t D σ H1 else u D σ H1
theorem ps_if {c : Expr} {a b : List Stmt} {tc : TT} (hc : PT X c tc) (ha : PSs X a t) (hb : PSs X b u) : PS X (.If c a b pos) (tIfS tc t u) := by
  intro pins s σ H D I h
  refine wpAny_If (thn (hc pins s σ H _ I h) fun d s1 ⟨H1, I1, q1⟩ => ?_)
  cases d with
  | true => exact ha pins s1 σ H1 D I1 q1
  | false => exact hb pins s1 σ H1 D I1 q1
def tNever : TS := fun _ _ _ => False
theorem ps_never : PS X st tNever := fun _ _ _ _ _ _ h => h.elim
end
abbrev TG := V → St → Hp → (St → Hp → Prop) → Prop
abbrev TGs := List V → St → Hp → (St → Hp → Prop) → Prop
def PG (X : Cx) (target : Expr) (t : TG) : Prop :=
  ∀ (pins : List (Addr × Obj)) (s : Shared) (σ : St) (H : Hp) (v : V) (u : Value) (Q : St → Hp → Prop), Inv X pins σ H s → RelV v u → t v σ H Q →
    wpAny (model X.prog X.w) X.A (assign target X.env u) (fun _ s' => ∃ σ' H', Inv X pins σ' H' s' ∧ Q σ' H') X.xe s
def PGs (X : Cx) (ts : List Expr) (t : TGs) : Prop :=
  ∀ (pins : List (Addr × Obj)) (s : Shared) (σ : St) (H : Hp) (vs : List V) (us : List Value) (Q : St → Hp → Prop), Inv X pins σ H s → Vals vs us → t vs σ H Q →
    wpAny (model X.prog X.w) X.A (assignInOrder ((assignEach ts X.env).map (·.2)) us) (fun _ s' => ∃ σ' H', Inv X pins σ' H' s' ∧ Q σ' H') X.xe s
abbrev TSet := V → V → V → Hp → (Hp → Prop) → Prop
def PSet (X : Cx) (t : TSet) : Prop :=
  ∀ (pins : List (Addr × Obj)) (s : Shared) (σ : St) (H : Hp) (o i v : V) (ov iv u : Value) (Q : Hp → Prop), Inv X pins σ H s → RelV o ov → RelV i iv → RelV v u → t o i v H Q →
    wpAny (model X.prog X.w) X.A (setItem ov iv u) (fun _ s' => ∃ H', Inv X pins σ H' s' ∧ Q H') X.xe s
abbrev TIp := V → V → Hp → VK → Prop
def PIp (X : Cx) (op : Operator) (t : TIp) : Prop :=
  ∀ (pins : List (Addr × Obj)) (s : Shared) (σ : St) (H : Hp) (x y : V) (v u : Value) (Q : VK), Inv X pins σ H s → RelV x v → RelV y u → t x y H Q →
    wpAny (model X.prog X.w) X.A (inplaceOp op v u) (EP X pins σ Q) X.xe s
section
variable {X : Cx} {pos : Pos}
def gName (i : Nat) : TG := fun v σ H Q => Q (σ.set i (some v)) H
theorem pg_name {i : Nat} {x : Str} (hN : X.N.Nodup) (hi : X.N[i]? = some x) (hx : Loc X.env.scope x) (hf : X.fn x = true ∨ X.env.scope.names.lookup x = some .local := by first | exact .inl rfl | exact .inr rfl | assumption) : PG X (.Name x pos) (gName i) := by
  intro pins s σ H v u Q I r h
  exact wpAny_assign_Name (store_ok I hN hi hx r (fun s' I' => ⟨_, H, I', h⟩) hf)
def gNil : TGs := fun vs σ H Q => vs = [] ∧ Q σ H
def gCons (t : TG) (u : TGs) : TGs := fun vs σ H Q => ∃ v r, vs = v :: r ∧ t v σ H fun σ' H' => u r σ' H' Q
theorem pgs_nil : PGs X [] gNil := by
  intro pins s σ H vs us Q I r h
  obtain ⟨e, h⟩ := h
  subst e
  cases r
  exact assignInOrder_nil ⟨σ, H, I, h⟩
theorem pgs_cons {e : Expr} {es : List Expr} {t : TG} {u : TGs} (h1 : PG X e t) (h2 : PGs X es u)
    (hs : (assignEach (e :: es) X.env).map (·.2) = assign e X.env :: (assignEach es X.env).map (·.2) := by rfl) : PGs X (e :: es) (gCons t u) := by
  intro pins s σ H vs us Q I r h
  obtain ⟨v, vr, e1, h⟩ := h
  subst e1
  cases r with
  | cons r rr =>
    rw [hs]
    refine assignInOrder_cons (thn (h1 pins s σ H _ _ _ I r h) fun _ s1 ⟨σ1, H1, I1, q1⟩ => ?_)
    exact h2 pins s1 σ1 H1 _ _ Q I1 rr q1
def gTup (K : PySem.W.Frag) (n : Nat) (t : TGs) : TG := fun v σ H Q => ∃ a xs, v = .ref a ∧ SqT K H a xs ∧ xs.length = n ∧ t xs σ H Q
theorem pg_tup {es : List Expr} {k : Nat} {t : TGs} {n : Nat} (hc : X.calm = true) (h : PGs X es t)
    (hn : (assignEach es X.env).length = n := by rfl) (hst : (assignEach es X.env).findIdx? (·.1) = none := by rfl) : PG X (.Tuple es k pos) (gTup X.K n t) := by
  intro pins s σ H v u Q I r hw
  obtain ⟨a, xs, e1, hq, hl, hw⟩ := hw
  subst e1
  cases r
  obtain ⟨its, rv, ht, hz⟩ := I.tuple hq
  refine assign_Tuple_tuple (I.ok.hd hc) ht (by simp [hn, ← hl, rv.length]) hst fun h' hx => ?_
  have I1 : Inv X pins σ H { s with heap := h' } := I.kept (t' := s.toks) fun b o e => hx b o (Nat.ne_of_lt (Heap.lt_size e)) e
  exact h pins _ σ H xs _ Q I1 (by simpa using rv) hw
def gSub (to ti : TE) (t : TSet) : TG := fun v σ H Q => to σ H fun o H1 => ti σ H1 fun i H2 => t o i v H2 fun H3 => Q σ H3
def tAsg (te : TE) (g : TG) : TS := fun D σ H => te σ H fun x H1 => g x σ H1 D.nx
theorem ps_asg {tg e : Expr} {te : TE} {g : TG} (he : PE X e te) (hg : PG X tg g) (hs : swapsWithSole [tg] e pos.line X.env = pure false := by rfl) (hw : swappedStores [tg] e X.env = pure none := by rfl)
    (h1 : (assignEach [tg] X.env).map (·.2) = [assign tg X.env] := by rfl) : PS X (.Assign [tg] e pos) (tAsg te g) := by
  intro pins s σ H D I h
  refine wpAny_Assign_stores (thn (he pins s σ H _ I h) fun v s1 ⟨x, H1, I1, r1, q1⟩ => ?_) hs hw
  rw [h1]
  exact thn (hg pins s1 σ H1 x v _ I1 r1 q1) fun _ s2 q => q
theorem ps_set {i : Nat} {x : Str} {e : Expr} {te : TE} {pos' : Pos} (hN : X.N.Nodup) (hi : X.N[i]? = some x) (hx : Loc X.env.scope x) (he : PE X e te) (hs : swapsWith e (some (.Name x pos')) pos.line X.env = pure false := by rfl) (hf : X.fn x = true ∨ X.env.scope.names.lookup x = some .local := by first | exact .inl rfl | exact .inr rfl | assumption) :
    PS X (.Assign [.Name x pos'] e pos) (tAsg te (gName i)) := by
  intro pins s σ H D I h
  refine wpAny_Assign_Name (thn (he pins s σ H _ I h) fun v s1 ⟨y, H1, I1, r1, q1⟩ => ?_) hs
  exact store_ok I1 hN hi hx r1 (fun s2 I2 => ⟨_, H1, I2, q1⟩) hf
def tPar (i j : Nat) (ta : TA) : TS := fun D σ H => ta σ H fun vs H1 => ∃ v w, vs = [v, w] ∧ D.nx ((σ.set i (some v)).set j (some w)) H1
theorem ps_par {i j : Nat} {x y : Str} {a b : Expr} {ta : TA} {px py pt : Pos} {kt k2 pt2} (hc : X.calm = true) (hN : X.N.Nodup) (hi : X.N[i]? = some x) (hj : X.N[j]? = some y) (hij : i ≠ j)
    (hx : X.env.scope.names.lookup x = some .local) (hy : X.env.scope.names.lookup y = some .local) (ha : PA X [a, b] ta)
    (hw : swappedStores [.Tuple [.Name x px, .Name y py] kt pt] (.Tuple [a, b] k2 pt2) X.env = pure (some [x, y]))
    (hs : swapsWithSole [.Tuple [.Name x px, .Name y py] kt pt] (.Tuple [a, b] k2 pt2) pos.line X.env = pure false := by rfl) :
    PS X (.Assign [.Tuple [.Name x px, .Name y py] kt pt] (.Tuple [a, b] k2 pt2) pos) (tPar i j ta) := by
  intro pins s σ H D I h
  rw [exec_Assign_arm]
  refine wpAny_bind (wpAny_standAt ?_)
  rw [hs]
  refine wpAny_bind (wpAny_pure ?_)
  rw [if_neg (by decide)]
  refine wpAny_bind (Tuple_ (thn (ha _ pins s σ H _ I h) fun us s1 ⟨vs, H1, I1, r1, q1⟩ => ?_))
  obtain ⟨v, w, e1, q1⟩ := q1
  subst e1
  obtain ⟨u1, u2, rfl, rv, rw'⟩ : ∃ u1 u2, us = [u1, u2] ∧ RelV v u1 ∧ RelV w u2 := by
    cases r1 with
    | cons p q =>
      cases q with
      | cons p' q' =>
        cases q'
        exact ⟨_, _, rfl, p, p'⟩
  refine wpAny_newObj_type ?_ (by show 2 ≤ sizeLine; decide)
  have I2 : Inv X pins σ H1 { s1 with heap := s1.heap.push { cls := .type "tuple", data := .seq [u1, u2].toArray } } := I1.kept (t' := s1.toks) fun b o e => Heap.get?_push_of_some _ e
  rw [hw]
  refine wpAny_bind (wpAny_pure ?_)
  show wpAny (model X.prog X.w) X.A (do rule "assign.swapped-stores"; let items ← unpackItems (.ref s1.heap.objs.size) 2 none; assignInOrder [fun v => bindName X.env y v, fun v => bindName X.env x v] items.reverse; pure Flow.next) _ _ _
  refine wpAny_bind (wpAny_rule (wpAny_bind (unpackItems_tuple (items := #[u1, u2]) (I.ok.hd hc) (IsTup.new s1.heap _) fun h' hx' => ?_)))
  have I3 := I2.kept (h' := h') (t' := s1.toks) fun b o e => hx' b o (Nat.ne_of_lt (Heap.lt_size e)) e
  show wpAny _ _ (assignInOrder [fun v => bindName X.env y v, fun v => bindName X.env x v] [u2, u1] >>= fun _ => pure Flow.next) _ _ _
  refine wpAny_bind (assignInOrder_cons (wpAny_bindName (store_ok I3 hN hj (.inl hy) rw' (fun s2 I4 => ?_) (.inr hy))))
  refine assignInOrder_cons (wpAny_bindName (store_ok I4 hN hi (.inl hx) rv (fun s3 I5 => assignInOrder_nil (wpAny_pure ?_)) (.inr hx)))
  rw [List.set_comm _ _ (Ne.symm hij)] at I5
  exact ⟨_, H1, I5, q1⟩
def tAug (i : Nat) (te : TE) (ti : TIp) : TS := fun D σ H => ∃ x, σ[i]? = some (some x) ∧ te σ H fun y H1 => ti x y H1 fun z H2 => D.nx (σ.set i (some z)) H2
theorem ps_aug {i : Nat} {x : Str} {e : Expr} {te : TE} {op : Operator} {ti : TIp} {pos' : Pos} (hN : X.N.Nodup) (hi : X.N[i]? = some x) (hx : Loc X.env.scope x) (he : PE X e te) (ho : PIp X op ti) (hf : X.fn x = true ∨ X.env.scope.names.lookup x = some .local := by first | exact .inl rfl | exact .inr rfl | assumption) :
    PS X (.AugAssign (.Name x pos') op e pos) (tAug i te ti) := by
  intro pins s σ H D I h
  obtain ⟨v, e1, h⟩ := h
  obtain ⟨m, hn, hl⟩ := I.loc
  have vis : Vis X.env.scope x := by rcases hx with k | k; exact .inl k; exact .inr (.inl k)
  obtain ⟨u, r, l⟩ := hl i x v hi e1 vis
  refine wpAny_AugAssign_Name ?_
  have go : wpAny (model X.prog X.w) X.A (eval e X.env) (fun w s₂ => wpAny (model X.prog X.w) X.A (inplaceOp op u w) (fun r s₃ => wpAny (model X.prog X.w) X.A (storeName X.env x r) (fun _ => SP X pins D .next) X.xe s₃) X.xe s₂) X.xe s := by
    refine thn (he pins s σ H _ I h) fun w s1 ⟨y, H1, I1, r1, q1⟩ => ?_
    refine thn (ho pins s1 σ H1 v y u w _ I1 r r1 q1) fun z s2 ⟨zv, H2, I2, r2, q2⟩ => ?_
    exact store_ok I2 hN hi hx r2 (fun s3 I3 => ⟨_, H2, I3, q2⟩) hf
  rcases l with ⟨hk, hm⟩ | ⟨hk, c, hc, hcell⟩
  · exact wpAny_loadName_local I.ok.kind hk hn hm go
  · rcases hk with hk | hk
    · exact wpAny_loadName_cell I.ok.kind hk hc hcell go
    · rcases hx with k | k
      · have : X.env.scope.names.lookup x = some .free := hk
        rw [k] at this; cases this
      · have : X.env.scope.names.lookup x = some .free := hk
        rw [k] at this; cases this
def tAugS (to ti te : TE) (tget : V → V → Hp → VK → Prop) (tip : TIp) (tset : TSet) : TS := fun D σ H => to σ H fun o H1 => ti σ H1 fun i H2 => tget o i H2 fun x H3 => te σ H3 fun y H4 => tip x y H4 fun z H5 => tset o i z H5 fun H6 => D.nx σ H6
def PGet (X : Cx) (t : V → V → Hp → VK → Prop) : Prop :=
  ∀ (pins : List (Addr × Obj)) (s : Shared) (σ : St) (H : Hp) (o i : V) (ov iv : Value) (Q : VK), Inv X pins σ H s → RelV o ov → RelV i iv → t o i H Q →
    wpAny (model X.prog X.w) X.A (getItem ov iv) (EP X pins σ Q) X.xe s
def ipI (f : Int → Int → Int) : TIp := fun x y H Q => ∃ i j, x = .int i ∧ y = .int j ∧ Q (.int (f i j)) H
theorem ip_add : PIp X .Add (ipI fun i j => i + j) := by
  intro pins s σ H x y v u Q I r1 r2 h
  obtain ⟨i, j, e1, e2, q⟩ := h
  subst e1; subst e2
  obtain ⟨t, rfl⟩ := r1
  obtain ⟨t', rfl⟩ := r2
  exact iadd_int ⟨.int _, H, I.tok _, ⟨_, rfl⟩, q⟩
end
section
variable {X : Cx} {pos : Pos}
def tWhile (c : TT) (tb : TS) : TS := fun D σ H => ∃ W : Nat → St → Hp → Prop, (∃ m, W m σ H) ∧ ∀ m σ H, W m σ H →
  c σ H fun b H1 => if b = true then ∃ N : St → Hp → Prop, (∀ σ' H', N σ' H' → ∃ m', m' < m ∧ W m' σ' H') ∧ tb { D with nx := N, ct := N, bk := D.nx } σ H1 else D.nx σ H1
theorem ps_while {c : Expr} {body : List Stmt} {tc : TT} {tb : TS} (hp : PassesOwn (model X.prog X.w) X.A X.env X.xe) (hc : PT X c tc) (hb : PSs X body tb) : PS X (.While c body [] pos) (tWhile tc tb) := by
  intro pins s σ H D I h
  obtain ⟨W, ⟨m0, w0⟩, turn⟩ := h
  refine wpAny_While (codeAny_whileLoop (fun n s' => ∃ σ' H', Inv X pins σ' H' s' ∧ W n σ' H') ?_ m0 ⟨σ, H, I, w0⟩)
  rintro n s1 ⟨σ1, H1, I1, w1⟩
  refine wpAny_passesOwn hp (thn (hc pins s1 σ1 H1 _ I1 (turn n σ1 H1 w1)) fun b s2 ⟨H2, I2, q2⟩ => ?_)
  cases b with
  | true =>
    obtain ⟨N, hN, q2⟩ := q2
    rw [if_pos rfl]
    refine wpAny_passesOwn hp (thn (hb pins s2 σ1 H2 _ I2 q2) fun f s3 q3 => ?_)
    cases f with
    | next =>
      obtain ⟨σ3, H3, I3, n3⟩ := q3
      obtain ⟨m', hm, w3⟩ := hN σ3 H3 n3
      exact ⟨m', hm, σ3, H3, I3, w3⟩
    | cont =>
      obtain ⟨σ3, H3, I3, n3⟩ := q3
      obtain ⟨m', hm, w3⟩ := hN σ3 H3 n3
      exact ⟨m', hm, σ3, H3, I3, w3⟩
    | brk => exact q3
    | ret v => exact q3
  | false =>
    rw [if_neg Bool.false_ne_true]
    exact wpAny_execs_nil ⟨σ1, H2, I2, q2⟩
end
structure It where
  go : Nat → Hp → Prop
  yld : Nat → Hp → V → Hp → Prop
  stop : Nat → Hp → Prop
def FpOk (X : Cx) (pins : List (Addr × Obj)) (H : Hp) (b : Addr) : Prop :=
  H b = none ∧ b ≠ X.env.locals ∧ b ∉ X.fs ∧ (b ∈ X.ex ∨ X.s₀.heap.objs.size ≤ b) ∧ (∀ x c, X.env.cells.lookup x = some c → c ≠ b) ∧ ∀ p ∈ X.pn ++ pins, p.1 ≠ b
theorem Inv.fpOk {X : Cx} {pins : List (Addr × Obj)} {σ : St} {H H' : Hp} {s : Shared} {b : Addr} (I : Inv X pins σ H s) (hb : s.heap.objs.size ≤ b) (hn : H' b = none) : FpOk X pins H' b := by
  refine ⟨hn, Nat.ne_of_gt (Nat.lt_of_lt_of_le I.lt hb), I.nofs hb, .inr (Nat.le_trans I.sz hb), fun x c e z => ?_, fun p hp z => ?_⟩
  · obtain ⟨v, q⟩ := I.cell x c e
    exact absurd (Nat.lt_of_lt_of_le q.lt (by rw [z]; exact hb)) (Nat.lt_irrefl _)
  · exact absurd (Nat.lt_of_lt_of_le (Heap.lt_size (I.pin p hp).1) (by rw [z]; exact hb)) (Nat.lt_irrefl _)
structure Turn (P : Program) (w : World) (K : PySem.W.Frag) (tg : Expr) (J : It) (fp : List Addr) (it : Addr) (tn : Nat → Heap → Prop) : Prop where
  mem : it ∈ fp
  obj : ∀ i h, tn i h → ∀ b ∈ fp, ∃ o, h.get? b = some o ∧ ∀ v, o.data ≠ .cell v
  keep : ∀ i h h', tn i h → (∀ b ∈ fp, ∀ o, h.get? b = some o → h'.get? b = some o) → tn i h'
  item : ∀ (X : Cx), X.prog = P → X.w = w → X.K = K → X.calm = true → ∀ (i : Nat) (pins : List (Addr × Obj)) (s : Shared) (σ : St) (H : Hp) (E : Value → Shared → Prop), Inv X pins σ H s → (∀ b ∈ fp, FpOk X pins H b) → tn i s.heap → J.go i H →
    wpAny (model P w) X.A (pyNext (.ref it)) (fun r s1 => ∃ u, r = some u ∧
      wpAny (model P w) X.A (letOwnedTupleGo tg (.ref it) u) (fun _ s2 => ∃ x H', Inv X pins σ H' s2 ∧ RelV x u ∧ J.yld i H x H' ∧ tn (i + 1) s2.heap ∧ ∀ b ∈ fp, H' b = none) E s1) E s
  done : ∀ (X : Cx), X.prog = P → X.w = w → X.K = K → X.calm = true → ∀ (i : Nat) (pins : List (Addr × Obj)) (s : Shared) (σ : St) (H : Hp) (E : Value → Shared → Prop), Inv X pins σ H s → (∀ b ∈ fp, FpOk X pins H b) → tn i s.heap → J.stop i H →
    wpAny (model P w) X.A (pyNext (.ref it)) (fun r s1 => r = none ∧ Inv X pins σ H s1) E s
  self : ∀ (A : Around) (i : Nat) (s : Shared) (Q : Value → Shared → Prop) (E : Value → Shared → Prop), tn i s.heap → Q (.ref it) s → wpAny (model P w) A (pyIter (.ref it)) Q E s
abbrev TI := St → Hp → (It → Hp → Prop) → Prop
def PIE (X : Cx) (pins : List (Addr × Obj)) (σ : St) (tg : Expr) (R : It → Hp → Prop) (itv : Value) (s2 : Shared) : Prop :=
  ∃ (it : Addr) (fp : List Addr) (tn : Nat → Heap → Prop) (J : It) (H' : Hp), itv = .ref it ∧ Inv X pins σ H' s2 ∧ Turn X.prog X.w X.K tg J fp it tn ∧ tn 0 s2.heap ∧ (∀ b ∈ fp, FpOk X pins H' b) ∧ R J H'
def PI (X : Cx) (tg iter : Expr) (wi : TI) : Prop :=
  ∀ (pins : List (Addr × Obj)) (s : Shared) (σ : St) (H : Hp) (R : It → Hp → Prop), Inv X pins σ H s → wi σ H R →
    wpAny (model X.prog X.w) X.A (eval iter X.env) (fun v s1 => wpAny (model X.prog X.w) X.A (pyIter v) (PIE X pins σ tg R) X.xe s1) X.xe s
theorem go_of {M : Model} {A : Around} {E : Value → Shared → Prop} {s : Shared} {tg : Expr} {it : Addr} {u : Value} {o : Obj} {n : String} {vs : Array Value} {Q : Unit → Shared → Prop} (ho : s.heap.get? it = some o) (hc : o.cls = .type n) (hd : o.data = .fields vs)
    (hn : ["enumerate", "zip", "dict_itemiterator", "dict_reverseitemiterator", "odict_iterator", "itertools.zip_longest", "itertools.pairwise"].contains n = false) (hQ : Q () s) : wpAny M A (letOwnedTupleGo tg (.ref it) u) Q E s := by
  unfold letOwnedTupleGo
  cases tg <;> first
    | exact wpAny_pure hQ
    | (cases u <;> first
        | exact wpAny_pure hQ
        | (refine wpAny_bind (wpAny_load ho ?_)
           rw [hc, hd]
           show wpAny M A (if (["enumerate", "zip", "dict_itemiterator", "dict_reverseitemiterator", "odict_iterator", "itertools.zip_longest", "itertools.pairwise"].contains n && vs[0]? == some (rawInt _)) = true then _ else _) Q E s
           rw [if_neg (by intro h; rw [hn, Bool.false_and] at h; cases h)]
           exact wpAny_pure hQ))
def Itl (K : PySem.W.Frag) (a : Addr) : It :=
  ⟨fun i H => ∃ xs x, SqL K H a xs ∧ xs[i]? = some x, fun i H x H' => H' = H ∧ ∀ xs, SqL K H a xs → xs[i]? = some x, fun i H => ∃ xs, SqL K H a xs ∧ xs.length ≤ i⟩
def Itt (K : PySem.W.Frag) (a : Addr) : It :=
  ⟨fun i H => ∃ xs x, SqT K H a xs ∧ xs[i]? = some x, fun i H x H' => H' = H ∧ ∀ xs, SqT K H a xs → xs[i]? = some x, fun i H => ∃ xs, SqT K H a xs ∧ xs.length ≤ i⟩
def Itr (lo : Int) (n : Nat) : It := ⟨fun i _ => i < n, fun i H x H' => H' = H ∧ x = .int (lo + i), fun i _ => n ≤ i⟩
theorem turn_list {P : Program} {w : World} {K : PySem.W.Frag} {tg : Expr} (a it : Addr) : Turn P w K tg (Itl K a) [it] it (fun i h => h.IsListIter it a i) where
  mem := by simp
  obj := fun i h st b hb => by
    have e : b = it := by simpa using hb
    subst e
    obtain ⟨o, e, c, d⟩ := st
    exact ⟨o, e, fun v z => by rw [d] at z; cases z⟩
  keep := fun i h h' st k => st.at fun o e => k it (by simp) o e
  item := by
    intro X hP hw hK hc i pins s σ H E I hf st hg
    subst hP hw hK
    obtain ⟨xs, x, hq, hx⟩ := hg
    obtain ⟨its, rv, p, hz⟩ := I.list hq
    obtain ⟨u, hu, ru⟩ := rv.get hx
    obtain ⟨f0, f1, f2, f3, f4, f5⟩ := hf it (by simp)
    refine wpAny_pyNext_list_item st p.isList (x := u) (by simpa using hu) fun h' st' sb => ?_
    have I1 : Inv X pins σ H { s with heap := h' } := I.turned (t' := s.toks) (fun b o hb e => (sb.2 b hb).trans e) f0 f1 f3 f4 f5
    obtain ⟨o, e, c, d⟩ := id st'
    exact ⟨u, rfl, go_of (s := { s with heap := h' }) e c d (by decide) ⟨x, H, I1, ru, ⟨rfl, fun ys hy => by rw [I.list_inj hy hq]; exact hx⟩, st', fun b hb => (hf b hb).1⟩⟩
  done := by
    intro X hP hw hK hc i pins s σ H E I hf st hg
    subst hP hw hK
    obtain ⟨xs, hq, hx⟩ := hg
    obtain ⟨its, rv, p, hz⟩ := I.list hq
    obtain ⟨f0, f1, f2, f3, f4, f5⟩ := hf it (by simp)
    have hl := rv.length
    exact wpAny_pyNext_list_end (I.ok.hd hc) st p.isList (by simp; omega) fun h' eb => ⟨rfl, I.turned (t' := s.toks) (fun b o hb e => eb b o hb e) f0 f1 f3 f4 f5⟩
  self := fun _ _ _ _ _ st h => wpAny_pyIter_listiter st h
theorem turn_tuple {P : Program} {w : World} {K : PySem.W.Frag} {tg : Expr} (a it : Addr) : Turn P w K tg (Itt K a) [it] it (fun i h => h.IsTupleIter it a i) where
  mem := by simp
  obj := fun i h st b hb => by
    have e : b = it := by simpa using hb
    subst e
    obtain ⟨o, e, c, d⟩ := st
    exact ⟨o, e, fun v z => by rw [d] at z; cases z⟩
  keep := fun i h h' st k => st.at fun o e => k it (by simp) o e
  item := by
    intro X hP hw hK hc i pins s σ H E I hf st hg
    subst hP hw hK
    obtain ⟨xs, x, hq, hx⟩ := hg
    obtain ⟨its, rv, p, hz⟩ := I.tuple hq
    obtain ⟨u, hu, ru⟩ := rv.get hx
    obtain ⟨f0, f1, f2, f3, f4, f5⟩ := hf it (by simp)
    refine wpAny_pyNext_tuple_item st (show s.heap.IsTuple a its.toArray from p) (x := u) (by simpa using hu) fun h' st' sb => ?_
    have I1 : Inv X pins σ H { s with heap := h' } := I.turned (t' := s.toks) (fun b o hb e => (sb.2 b hb).trans e) f0 f1 f3 f4 f5
    obtain ⟨o, e, c, d⟩ := id st'
    exact ⟨u, rfl, go_of (s := { s with heap := h' }) e c d (by decide) ⟨x, H, I1, ru, ⟨rfl, fun ys hy => by rw [I.tuple_inj hy hq]; exact hx⟩, st', fun b hb => (hf b hb).1⟩⟩
  done := by
    intro X hP hw hK hc i pins s σ H E I hf st hg
    subst hP hw hK
    obtain ⟨xs, hq, hx⟩ := hg
    obtain ⟨its, rv, p, hz⟩ := I.tuple hq
    obtain ⟨f0, f1, f2, f3, f4, f5⟩ := hf it (by simp)
    have hl := rv.length
    exact wpAny_pyNext_tuple_end (I.ok.hd hc) st (show s.heap.IsTuple a its.toArray from p) (by simp; omega) fun h' eb => ⟨rfl, I.turned (t' := s.toks) (fun b o hb e => eb b o hb e) f0 f1 f3 f4 f5⟩
  self := fun _ _ _ _ _ st h => wpAny_pyIter_tupleiter st h
theorem turn_range {P : Program} {w : World} {K : PySem.W.Frag} {tg : Expr} (it : Addr) (lo : Int) (n : Nat) : Turn P w K tg (Itr lo n) [it] it (fun i h => IsRangeIter h it (lo + (i : Nat) * 1) ((n : Int) - (i : Nat)) 1) where
  mem := by simp
  obj := fun i h st b hb => by
    have e : b = it := by simpa using hb
    subst e
    exact ⟨_, st, fun v z => by
      have z' : Data.fields _ = Data.cell v := z
      cases z'⟩
  keep := fun i h h' st k => k it (by simp) _ st
  item := by
    intro X hP hw hK hc i pins s σ H E I hf st hg
    subst hP hw hK
    obtain ⟨f0, f1, f2, f3, f4, f5⟩ := hf it (by simp)
    have W := Walks.range (prog := X.prog) (w := X.w) (I.ok.hd hc) it lo 1 n
    refine W.item i s _ _ hg st fun v h' tk hv st' kk => ?_
    obtain ⟨t, rfl⟩ := hv
    have I1 : Inv X pins σ H { s with heap := h', toks := tk } := I.turned (fun b o hb e => kk b o (by simpa using hb) e) f0 f1 f3 f4 f5
    refine ⟨_, rfl, go_of (s := { s with heap := h', toks := tk }) (n := "range_iterator") st' rfl rfl (by decide) ⟨.int (lo + i), H, I1, ⟨t, ?_⟩, ⟨rfl, rfl⟩, st', fun b hb => (hf b hb).1⟩⟩
    rw [Int.mul_one]
  done := by
    intro X hP hw hK hc i pins s σ H E I hf st hg
    subst hP hw hK
    obtain ⟨f0, f1, f2, f3, f4, f5⟩ := hf it (by simp)
    exact wpAny_pyNext_range_end (I.ok.hd hc) st (by have : n ≤ i := hg; omega) fun h' eb => ⟨rfl, I.turned (t' := s.toks) (fun b o hb e => eb b o hb e) f0 f1 f3 f4 f5⟩
  self := fun _ _ _ _ _ st h => wpAny_pyIter_rangeiter st h
end L2
namespace L2
open PySem PySem.Spec PyProof.Rows
section
variable {X : Cx} {tg : Expr}
def iList (K : PySem.W.Frag) (tl : TE) : TI := fun σ H R => tl σ H fun x H1 => ∃ a, x = .ref a ∧ (∃ xs, SqL K H1 a xs) ∧ R (Itl K a) H1
def iTup (K : PySem.W.Frag) (tl : TE) : TI := fun σ H R => tl σ H fun x H1 => ∃ a, x = .ref a ∧ (∃ xs, SqT K H1 a xs) ∧ R (Itt K a) H1
theorem pi_list {l : Expr} {tl : TE} (hl : PE X l tl) : PI X tg l (iList X.K tl) := by
  intro pins s σ H R I h
  refine thn (hl pins s σ H _ I h) fun v s1 ⟨x, H1, I1, r1, q1⟩ => ?_
  obtain ⟨a, e, ⟨xs, hq⟩, q⟩ := q1
  subst e
  cases r1
  obtain ⟨its, rv, p, hz⟩ := I1.list hq
  refine wpAny_pyIter_list p.isList ?_
  refine ⟨s1.heap.objs.size, [s1.heap.objs.size], _, _, H1, rfl, I1.kept (t' := s1.toks) fun b o e => Heap.get?_push_of_some _ e, turn_list a _, ⟨_, Heap.get?_push_size _ rfl, rfl, rfl⟩, fun b hb => ?_, q⟩
  have e : b = s1.heap.objs.size := by simpa using hb
  subst e
  exact I1.fpOk (Nat.le_refl _) (I1.hok.fresh (Nat.le_refl _))
theorem pi_tup {l : Expr} {tl : TE} (hl : PE X l tl) : PI X tg l (iTup X.K tl) := by
  intro pins s σ H R I h
  refine thn (hl pins s σ H _ I h) fun v s1 ⟨x, H1, I1, r1, q1⟩ => ?_
  obtain ⟨a, e, ⟨xs, hq⟩, q⟩ := q1
  subst e
  cases r1
  obtain ⟨its, rv, p, hz⟩ := I1.tuple hq
  refine wpAny_pyIter_tuple (show s1.heap.IsTuple a its.toArray from p) ?_
  refine ⟨s1.heap.objs.size, [s1.heap.objs.size], _, _, H1, rfl, I1.kept (t' := s1.toks) fun b o e => Heap.get?_push_of_some _ e, turn_tuple a _, ⟨_, Heap.get?_push_size _ rfl, rfl, rfl⟩, fun b hb => ?_, q⟩
  have e : b = s1.heap.objs.size := by simpa using hb
  subst e
  exact I1.fpOk (Nat.le_refl _) (I1.hok.fresh (Nat.le_refl _))
theorem range_it {pins : List (Addr × Obj)} {σ : St} {H : Hp} {s : Shared} {R : It → Hp → Prop} {E : Value → Shared → Prop} {lo hi : Int} {t u v : Tok} {tk : Nat} (I : Inv X pins σ H s) (h1 : -(2 ^ 62) ≤ lo) (h2 : lo < 2 ^ 62) (h3 : -(2 ^ 62) ≤ hi) (h4 : hi < 2 ^ 62)
    (q : R (Itr lo (hi - lo).toNat) H) : wpAny (model X.prog X.w) X.A (pyIter (.ref s.heap.objs.size)) (PIE X pins σ tg R) E { s with heap := s.heap.push { cls := .type "range", data := .fields #[.int lo t, .int hi u, .int 1 v] }, toks := tk } := by
  refine wpAny_pyIter_range (IsRange.new ..) (small_one h1 h2 h3 h4) ?_
  have I1 : Inv X pins σ H { s with heap := s.heap.push { cls := .type "range", data := .fields #[.int lo t, .int hi u, .int 1 v] }, toks := tk } := I.kept fun b o e => Heap.get?_push_of_some _ e
  refine ⟨(s.heap.push { cls := .type "range", data := .fields #[.int lo t, .int hi u, .int 1 v] }).objs.size, [(s.heap.push { cls := .type "range", data := .fields #[.int lo t, .int hi u, .int 1 v] }).objs.size], _, _, H, rfl,
    I1.kept (t' := tk) fun b o e => Heap.get?_push_of_some _ e, turn_range _ lo (hi - lo).toNat, ?_, fun b hb => ?_, q⟩
  · have e1 : lo + ((0 : Nat) : Int) * 1 = lo := by simp
    have e2 : (((hi - lo).toNat : Nat) : Int) - ((0 : Nat) : Int) = Builtin.Range.rangeSize lo hi 1 := by rw [rangeSize_one]; split <;> omega
    show IsRangeIter _ _ (lo + ((0 : Nat) : Int) * 1) ((((hi - lo).toNat : Nat) : Int) - ((0 : Nat) : Int)) 1
    rw [e1, e2]
    exact Heap.get?_push_size _ rfl
  · have e : b = (s.heap.push { cls := .type "range", data := .fields #[.int lo t, .int hi u, .int 1 v] }).objs.size := by simpa using hb
    subst e
    exact I1.fpOk (Nat.le_refl _) (I1.hok.fresh (Nat.le_refl _))
def iRng1 (ta : TA) : TI := fun σ H R => ta σ H fun vs H1 => ∃ j : Int, vs = [.int j] ∧ -(2 ^ 62) ≤ j ∧ j < 2 ^ 62 ∧ R (Itr 0 j.toNat) H1
def iRng2 (ta : TA) : TI := fun σ H R => ta σ H fun vs H1 => ∃ i j : Int, vs = [.int i, .int j] ∧ (-(2 ^ 62) ≤ i ∧ i < 2 ^ 62 ∧ -(2 ^ 62) ≤ j ∧ j < 2 ^ 62) ∧ R (Itr i (j - i).toNat) H1
theorem pi_range1 {a : Expr} {ta : TA} {p pos : Pos} (hg : Gl X "range") (hm : X.mg "range" = none) (ha : PA X [a] ta) (hs : starEach [a] X.env = [(false, eval a X.env)] := by rfl) : PI X tg (.Call (.Name "range" p) [a] [] pos) (iRng1 ta) := by
  intro pins s σ H R I h
  refine Call_ (ld_blt I hg hm boot_range (PyProof.Rows.callWith_type1 (thn (ha pos pins s σ H _ I h) fun us s1 ⟨vs, H1, I1, r1, q1⟩ => ?_) hs rfl))
  obtain ⟨j, e, q1, q2, q⟩ := q1
  subst e
  cases r1 with
  | cons r rr =>
    cases rr
    obtain ⟨t, rfl⟩ := r
    exact call_range_1 (range_it I1 (by omega) (by omega) q1 q2 (by simpa using q))
def tFor (wi : TI) (g : TG) (tb : TS) : TS := fun D σ H => wi σ H fun J H1 => ∃ W : Nat → Nat → St → Hp → Prop, (∃ m, W 0 m σ H1) ∧ ∀ i m σ H, W i m σ H →
  (J.stop i H ∧ D.nx σ H) ∨ (J.go i H ∧ ∃ N : St → Hp → Prop, (∀ σ' H', N σ' H' → ∃ m', m' < m ∧ W (i + 1) m' σ' H') ∧ ∀ x H', J.yld i H x H' → g x σ H' fun σ2 H2 => tb { D with nx := N, ct := N, bk := D.nx } σ2 H2)
def pinsAt (fp : List Addr) (h : Heap) : List (Addr × Obj) := fp.filterMap fun b => (h.get? b).map fun o => (b, o)
theorem mem_pinsAt {fp : List Addr} {h : Heap} {b : Addr} {o : Obj} (hb : b ∈ fp) (e : h.get? b = some o) : (b, o) ∈ pinsAt fp h := List.mem_filterMap.mpr ⟨b, hb, by rw [e]; rfl⟩
theorem of_pinsAt {fp : List Addr} {h : Heap} {p : Addr × Obj} (hp : p ∈ pinsAt fp h) : p.1 ∈ fp ∧ h.get? p.1 = some p.2 := by
  obtain ⟨b, hb, e⟩ := List.mem_filterMap.mp hp
  cases q : h.get? b with
  | none => rw [q] at e; cases e
  | some o =>
    rw [q] at e
    have e' : (b, o) = p := Option.some.inj e
    subst e'
    exact ⟨hb, q⟩
theorem Inv.pinned {pins : List (Addr × Obj)} {σ : St} {H : Hp} {s : Shared} {fp : List Addr} (I : Inv X pins σ H s) (hf : ∀ b ∈ fp, FpOk X pins H b) (ho : ∀ b ∈ fp, ∃ o, s.heap.get? b = some o ∧ ∀ v, o.data ≠ .cell v) : Inv X (pins ++ pinsAt fp s.heap) σ H s :=
  I.pins_of fun p hp => (List.mem_append.mp hp).elim (fun z => I.pin p (List.mem_append_right _ z)) fun z => by
    obtain ⟨hb, e⟩ := of_pinsAt z
    obtain ⟨f0, f1, f2, _⟩ := hf p.1 hb
    obtain ⟨o, e', d⟩ := ho p.1 hb
    rw [e] at e'; cases e'
    exact ⟨e, f0, f1, f2, d⟩
theorem Inv.unpinned {pins pl : List (Addr × Obj)} {σ : St} {H : Hp} {s : Shared} (I : Inv X (pins ++ pl) σ H s) : Inv X pins σ H s := I.pins_of fun p hp => I.pin p (List.mem_append_right _ (List.mem_append_left _ hp))
theorem ps_for {iter : Expr} {body : List Stmt} {wi : TI} {g : TG} {tb : TS} {pos : Pos} (hp : PassesOwn (model X.prog X.w) X.A X.env X.xe) (hc : X.calm = true) (hi : PI X tg iter wi) (hg : PG X tg g) (hb : PSs X body tb)
    (hs : ∀ x, foldedSetIterable iter X.env x = pure x := by intro _; rfl) : PS X (.For tg iter body [] pos) (tFor wi g tb) := by
  intro pins s σ H D I h
  refine wpAny_For (thn (hi pins s σ H _ I h) fun v s1 h1 => thn h1 fun itv s2 h2 => ?_) hs
  obtain ⟨it, fp, tn, J, H2, e, I2, T, st2, f2, W, ⟨m0, w0⟩, turn⟩ := h2
  subst e
  have stat : ∀ {H' : Hp}, (∀ b ∈ fp, H' b = none) → ∀ b ∈ fp, FpOk X pins H' b := fun hn b hb => ⟨hn b hb, (f2 b hb).2⟩
  refine codeAny_forLoop_any (fun n s' => ∃ i σ' H', Inv X pins σ' H' s' ∧ tn i s'.heap ∧ (∀ b ∈ fp, H' b = none) ∧ W i n σ' H') ?_ m0 ⟨0, σ, H2, I2, st2, fun b hb => (f2 b hb).1, w0⟩
  rintro n s3 ⟨i, σ3, H3, I3, st3, fr3, w3⟩
  rcases turn i n σ3 H3 w3 with ⟨stop, qn⟩ | ⟨go, N, hN, step⟩
  · refine wpAny_passesOwn hp (thn (T.done X rfl rfl rfl hc i pins s3 σ3 H3 X.xe I3 (stat fr3) st3 stop) fun r s4 ⟨hr, I4⟩ => ?_)
    subst hr
    exact wpAny_execs_nil ⟨σ3, H3, I4, qn⟩
  · refine wpAny_passesOwn hp (thn (T.item X rfl rfl rfl hc i pins s3 σ3 H3 X.xe I3 (stat fr3) st3 go) fun r s4 ⟨u, hr, h4⟩ => ?_)
    subst hr
    refine wpAny_passesOwn hp (thn h4 fun _ s5 ⟨x, H5, I5, r5, y5, st5, fr5⟩ => ?_)
    have I5' := I5.pinned (stat fr5) (T.obj _ _ st5)
    refine wpAny_passesOwn hp (thn (hg _ s5 σ3 H5 x u _ I5' r5 (step x H5 y5)) fun _ s6 ⟨σ6, H6, I6, q6⟩ => ?_)
    refine wpAny_passesOwn hp (thn (hb _ s6 σ6 H6 _ I6 q6) fun f s7 q7 => ?_)
    have again : ∀ {σ7 : St} {H7 : Hp}, Inv X (pins ++ pinsAt fp s5.heap) σ7 H7 s7 → N σ7 H7 → ∃ m, m < n ∧ ∃ i σ' H', Inv X pins σ' H' s7 ∧ tn i s7.heap ∧ (∀ b ∈ fp, H' b = none) ∧ W i m σ' H' := fun {σ7 H7} I7 n7 => by
      obtain ⟨m', hm, w7⟩ := hN σ7 H7 n7
      refine ⟨m', hm, i + 1, σ7, H7, I7.unpinned, T.keep _ _ _ st5 fun b hb o e => (I7.pin (b, o) (List.mem_append_right _ (List.mem_append_right _ (mem_pinsAt hb e)))).1, fun b hb => ?_, w7⟩
      obtain ⟨o, e, d⟩ := T.obj _ _ st5 b hb
      exact (I7.pin (b, o) (List.mem_append_right _ (List.mem_append_right _ (mem_pinsAt hb e)))).2.1
    cases f with
    | next => obtain ⟨σ7, H7, I7, n7⟩ := q7; exact again I7 n7
    | cont => obtain ⟨σ7, H7, I7, n7⟩ := q7; exact again I7 n7
    | brk => obtain ⟨σ7, H7, I7, q7⟩ := q7; exact ⟨σ7, H7, I7.unpinned, q7⟩
    | ret v => obtain ⟨x7, σ7, H7, I7, r7, q7⟩ := q7; exact ⟨x7, σ7, H7, I7.unpinned, r7, q7⟩
end
theorem for_list {K : PySem.W.Frag} {a : Addr} {xs : List V} {g : TG} {tb : TS} {D : Ends} {σ : St} {H : Hp} (Pv : Nat → St → Hp → Prop) (h0 : Pv 0 σ H) (hl : ∀ i σ H, i ≤ xs.length → Pv i σ H → SqL K H a xs)
    (hs : ∀ i x σ H, xs[i]? = some x → Pv i σ H → g x σ H fun σ2 H2 => tb { D with nx := Pv (i + 1), ct := Pv (i + 1), bk := D.nx } σ2 H2) (hd : ∀ σ H, Pv xs.length σ H → D.nx σ H) :
    ∃ W : Nat → Nat → St → Hp → Prop, (∃ m, W 0 m σ H) ∧ ∀ i m σ H, W i m σ H →
      ((Itl K a).stop i H ∧ D.nx σ H) ∨ ((Itl K a).go i H ∧ ∃ N : St → Hp → Prop, (∀ σ' H', N σ' H' → ∃ m', m' < m ∧ W (i + 1) m' σ' H') ∧ ∀ x H', (Itl K a).yld i H x H' → g x σ H' fun σ2 H2 => tb { D with nx := N, ct := N, bk := D.nx } σ2 H2) := by
  refine ⟨fun i m σ H => m = xs.length - i ∧ i ≤ xs.length ∧ Pv i σ H, ⟨xs.length, by simp, Nat.zero_le _, h0⟩, ?_⟩
  rintro i m σ H ⟨rfl, hi, p⟩
  have q := hl i σ H hi p
  by_cases hlt : i < xs.length
  · refine .inr ⟨⟨xs, xs[i], q, by simp [hlt]⟩, Pv (i + 1), fun σ' H' p' => ⟨xs.length - (i + 1), by omega, rfl, hlt, p'⟩, fun x H' y => ?_⟩
    obtain ⟨e, y⟩ := y
    subst e
    exact hs i x σ _ (y xs q) p
  · have e : i = xs.length := by omega
    subst e
    exact .inl ⟨⟨xs, q, Nat.le_refl _⟩, hd σ H p⟩
theorem for_range {lo : Int} {n : Nat} {g : TG} {tb : TS} {D : Ends} {σ : St} {H : Hp} (Pv : Nat → St → Hp → Prop) (h0 : Pv 0 σ H)
    (hs : ∀ i σ H, i < n → Pv i σ H → g (.int (lo + i)) σ H fun σ2 H2 => tb { D with nx := Pv (i + 1), ct := Pv (i + 1), bk := D.nx } σ2 H2) (hd : ∀ σ H, Pv n σ H → D.nx σ H) :
    ∃ W : Nat → Nat → St → Hp → Prop, (∃ m, W 0 m σ H) ∧ ∀ i m σ H, W i m σ H →
      ((Itr lo n).stop i H ∧ D.nx σ H) ∨ ((Itr lo n).go i H ∧ ∃ N : St → Hp → Prop, (∀ σ' H', N σ' H' → ∃ m', m' < m ∧ W (i + 1) m' σ' H') ∧ ∀ x H', (Itr lo n).yld i H x H' → g x σ H' fun σ2 H2 => tb { D with nx := N, ct := N, bk := D.nx } σ2 H2) := by
  refine ⟨fun i m σ H => m = n - i ∧ i ≤ n ∧ Pv i σ H, ⟨n, by simp, Nat.zero_le _, h0⟩, ?_⟩
  rintro i m σ H ⟨rfl, hi, p⟩
  by_cases hlt : i < n
  · refine .inr ⟨hlt, Pv (i + 1), fun σ' H' p' => ⟨n - (i + 1), by omega, rfl, hlt, p'⟩, fun x H' y => ?_⟩
    obtain ⟨e, y⟩ := y
    subst e y
    exact hs i σ _ hlt p
  · have e : i = n := by omega
    subst e
    exact .inl ⟨Nat.le_refl _, hd σ H p⟩
theorem while_by {c : TT} {tb : TS} {D : Ends} {σ : St} {H : Hp} (Pv : St → Hp → Prop) (μ : St → Hp → Nat) (h0 : Pv σ H)
    (hs : ∀ σ H, Pv σ H → c σ H fun b H1 => if b = true then tb { D with nx := fun σ' H' => Pv σ' H' ∧ μ σ' H' < μ σ H, ct := fun σ' H' => Pv σ' H' ∧ μ σ' H' < μ σ H, bk := D.nx } σ H1 else D.nx σ H1)
    (mono : ∀ σ H Q Q', (∀ b H1, Q b H1 → Q' b H1) → c σ H Q → c σ H Q') : tWhile c tb D σ H := by
  refine ⟨fun m σ H => m = μ σ H ∧ Pv σ H, ⟨_, rfl, h0⟩, ?_⟩
  rintro m σ H ⟨rfl, p⟩
  refine mono σ H _ _ (fun b H1 q => ?_) (hs σ H p)
  cases b with
  | true => exact ⟨_, fun σ' H' ⟨p', l⟩ => ⟨_, l, rfl, p'⟩, q⟩
  | false => exact q
end L2
namespace L2
open PySem PySem.Spec PyProof.Rows
abbrev R2 := V → V → Hp → VK → Prop
def OpR (X : Cx) (f : Value → Value → Sem Value) (r : R2) : Prop :=
  ∀ (pins : List (Addr × Obj)) (s : Shared) (σ : St) (H : Hp) (x y : V) (v u : Value) (Q : VK), Inv X pins σ H s → RelV x v → RelV y u → r x y H Q →
    wpAny (model X.prog X.w) X.A (f v u) (EP X pins σ Q) X.xe s
def UnR (X : Cx) (f : Value → Sem Value) (r : V → Hp → VK → Prop) : Prop :=
  ∀ (pins : List (Addr × Obj)) (s : Shared) (σ : St) (H : Hp) (x : V) (v : Value) (Q : VK), Inv X pins σ H s → RelV x v → r x H Q →
    wpAny (model X.prog X.w) X.A (f v) (EP X pins σ Q) X.xe s
def CallR (X : Cx) (f : Value) (r : List V → Hp → VK → Prop) : Prop :=
  ∀ (pins : List (Addr × Obj)) (s : Shared) (σ : St) (H : Hp) (xs : List V) (us : List Value) (Q : VK), Inv X pins σ H s → Vals xs us → r xs H Q →
    wpAny (model X.prog X.w) X.A (call f us) (EP X pins σ Q) X.xe s
def TruR (X : Cx) (r : V → Hp → (Bool → Hp → Prop) → Prop) : Prop :=
  ∀ (pins : List (Addr × Obj)) (s : Shared) (σ : St) (H : Hp) (x : V) (v : Value) (Q : Bool → Hp → Prop), Inv X pins σ H s → RelV x v → r x H Q →
    wpAny (model X.prog X.w) X.A (truthy v) (TP X pins σ Q) X.xe s
def tOp (r : R2) (ta tb : TE) : TE := fun σ H Q => ta σ H fun x H1 => tb σ H1 fun y H2 => r x y H2 Q
def tUn (r : V → Hp → VK → Prop) (ta : TE) : TE := fun σ H Q => ta σ H fun x H1 => r x H1 Q
def rI (C : Int → Int → Prop) (g : Int → Int → V) : R2 := fun x y H Q => ∃ i j, x = .int i ∧ y = .int j ∧ C i j ∧ Q (g i j) H
def rI0 (g : Int → Int → V) : R2 := fun x y H Q => ∃ i j, x = .int i ∧ y = .int j ∧ Q (g i j) H
def rU (g : Int → V) : V → Hp → VK → Prop := fun x H Q => ∃ i, x = .int i ∧ Q (g i) H
section
variable {X : Cx} {a b c : Expr} {ta tb tc : TE} {pos : Pos}
theorem binT (ha : PE X a ta) (hb : PE X b tb) {pins : List (Addr × Obj)} {s : Shared} {σ : St} {H : Hp} {R : V → V → Hp → Prop} (I : Inv X pins σ H s)
    (h : ta σ H fun x H1 => tb σ H1 fun y H2 => R x y H2) {Q : Value → Shared → Prop} {f : Value → Value → Sem Value}
    (hf : ∀ v u s2 x y H2, Inv X pins σ H2 s2 → RelV x v → RelV y u → R x y H2 → wpAny (model X.prog X.w) X.A (f v u) Q X.xe s2) :
    wpAny (model X.prog X.w) X.A (eval a X.env) (fun v s₁ => wpAny (model X.prog X.w) X.A (eval b X.env) (fun u s₂ => wpAny (model X.prog X.w) X.A (f v u) Q X.xe s₂) X.xe s₁) X.xe s := by
  refine thn (ha pins s σ H _ I h) fun v s1 ⟨x, H1, I1, r1, q1⟩ => ?_
  refine thn (hb pins s1 σ H1 _ I1 q1) fun u s2 ⟨y, H2, I2, r2, q2⟩ => ?_
  exact hf v u s2 x y H2 I2 r1 r2 q2
theorem pe_op {op : Operator} {r : R2} (ho : OpR X (binaryOp op) r) (ha : PE X a ta) (hb : PE X b tb) : PE X (.BinOp a op b pos) (tOp r ta tb) := by
  intro pins s σ H Q I h
  exact wpAny_BinOp (binT ha hb I h fun v u s2 x y H2 I2 rx ry q => ho pins s2 σ H2 x y v u Q I2 rx ry q)
theorem pe_un {op : UnaryOp} {r : V → Hp → VK → Prop} (ho : UnR X (unaryOp op) r) (ha : PE X a ta) : PE X (.UnaryOp op a pos) (tUn r ta) := by
  intro pins s σ H Q I h
  exact UnaryOp_ (thn (ha pins s σ H _ I h) fun v s1 ⟨x, H1, I1, r1, q1⟩ => ho pins s1 σ H1 x v Q I1 r1 q1)
theorem opI {f : Value → Value → Sem Value} {C : Int → Int → Prop} {g : Int → Int → Int}
    (rule : ∀ (i j : Int) (t u : Tok) (s : Shared) (Q : Value → Shared → Prop) (E : Value → Shared → Prop), C i j → Q (.int (g i j) s.toks) { s with toks := s.toks + 1 } → wpAny (model X.prog X.w) X.A (f (.int i t) (.int j u)) Q E s) :
    OpR X f (rI C fun i j => .int (g i j)) := by
  intro pins s σ H x y v u Q I rx ry h
  obtain ⟨i, j, rfl, rfl, hc, q⟩ := h
  obtain ⟨t, rfl⟩ := rx
  obtain ⟨t', rfl⟩ := ry
  exact rule i j t t' s _ _ hc ⟨.int (g i j), H, I.tok _, ⟨_, rfl⟩, q⟩
theorem opI0 {f : Value → Value → Sem Value} {g : Int → Int → Int}
    (rule : ∀ (i j : Int) (t u : Tok) (s : Shared) (Q : Value → Shared → Prop) (E : Value → Shared → Prop), Q (.int (g i j) s.toks) { s with toks := s.toks + 1 } → wpAny (model X.prog X.w) X.A (f (.int i t) (.int j u)) Q E s) :
    OpR X f (rI0 fun i j => .int (g i j)) := by
  intro pins s σ H x y v u Q I rx ry h
  obtain ⟨i, j, rfl, rfl, q⟩ := h
  obtain ⟨t, rfl⟩ := rx
  obtain ⟨t', rfl⟩ := ry
  exact rule i j t t' s _ _ ⟨.int (g i j), H, I.tok _, ⟨_, rfl⟩, q⟩
theorem opB0 {f : Value → Value → Sem Value} {g : Int → Int → Bool}
    (rule : ∀ (i j : Int) (t u : Tok) (s : Shared) (Q : Value → Shared → Prop) (E : Value → Shared → Prop), Q (.bool (g i j)) s → wpAny (model X.prog X.w) X.A (f (.int i t) (.int j u)) Q E s) :
    OpR X f (rI0 fun i j => .bl (g i j)) := by
  intro pins s σ H x y v u Q I rx ry h
  obtain ⟨i, j, rfl, rfl, q⟩ := h
  obtain ⟨t, rfl⟩ := rx
  obtain ⟨t', rfl⟩ := ry
  exact rule i j t t' s _ _ ⟨.bl (g i j), H, I, rfl, q⟩
def CDiv (i j : Int) : Prop := 0 < j ∧ j < 1073741824
def CDivN (i j : Int) : Prop := j ≠ 0 ∧ j.natAbs < 1073741824
def CPow (i j : Int) : Prop := 0 ≤ j ∧ j ≤ 1000000 ∧ i.natAbs < 2 ^ 64
def CMul (i j : Int) : Prop := (-(2 ^ 64) < i ∧ i < 2 ^ 64) ∨ (-(2 ^ 64) < j ∧ j < 2 ^ 64)
theorem CMul.ok {i j : Int} (h : CMul i j) : IntMulOk i j := by
  rcases h with ⟨h1, h2⟩ | ⟨h1, h2⟩
  · exact .of_left (intBits_le_64 h1 h2)
  · exact .of_right (intBits_le_64 h1 h2)
theorem op_add : OpR X (binaryOp .Add) (rI0 fun i j => .int (i + j)) := opI0 fun _ _ _ _ _ _ _ q => add_int q
theorem op_sub : OpR X (binaryOp .Sub) (rI0 fun i j => .int (i - j)) := opI0 fun _ _ _ _ _ _ _ q => sub_int q
theorem op_mul : OpR X (binaryOp .Mult) (rI CMul fun i j => .int (i * j)) := opI fun _ _ _ _ _ _ _ hc q => mul_int q hc.ok
theorem op_fdiv : OpR X (binaryOp .FloorDiv) (rI CDiv fun i j => .int (i / j)) := opI fun i j _ _ _ _ _ hc q => by
  have h1 : (0 : Int) < j := hc.1
  have h2 : j < 1073741824 := hc.2
  exact floordiv_int (by omega) (by rw [Int.fdiv_eq_ediv_of_nonneg i (by omega)]; exact q) (.inl (PyProof.noPylong_small (by omega)))
theorem op_mod : OpR X (binaryOp .Mod) (rI (fun _ j => 0 < j) fun i j => .int (i % j)) := opI fun i j _ _ _ _ _ hc q => by
  have h1 : (0 : Int) < j := hc
  exact mod_int' (by omega) (by rw [Int.fmod_eq_emod_of_nonneg i (by omega)]; exact q)
theorem op_pow : OpR X (binaryOp .Pow) (rI CPow fun i j => .int (i ^ j.toNat)) := opI fun _ _ _ _ _ _ _ hc q => pow_int_small hc.1 hc.2.1 hc.2.2 q
theorem unI {f : Value → Sem Value} {g : Int → Int}
    (rule : ∀ (i : Int) (t : Tok) (s : Shared) (Q : Value → Shared → Prop) (E : Value → Shared → Prop), Q (.int (g i) s.toks) { s with toks := s.toks + 1 } → wpAny (model X.prog X.w) X.A (f (.int i t)) Q E s) :
    UnR X f (rU fun i => .int (g i)) := by
  intro pins s σ H x v Q I rx h
  obtain ⟨i, rfl, q⟩ := h
  obtain ⟨t, rfl⟩ := rx
  exact rule i t s _ _ ⟨.int (g i), H, I.tok _, ⟨_, rfl⟩, q⟩
theorem un_neg : UnR X (unaryOp .USub) (rU fun i => .int (-i)) := unI fun _ _ _ _ _ q => neg_int q
end
def scal : V → V → Bool
  | .non, .non => true | .non, .int _ => true | .int _, .non => true | .non, .bl _ => true | .bl _, .non => true | .non, .str _ => true | .str _, .non => true
  | .int _, .int _ => true | .bl _, .bl _ => true | .str _, .str _ => true | .byt _, .byt _ => true
  | .int _, .str _ => true | .str _, .int _ => true | .bl _, .str _ => true | .str _, .bl _ => true
  | _, _ => false
def rEq : R2 := fun x y H Q => scal x y = true ∧ Q (.bl (decide (x = y))) H
def rNe : R2 := fun x y H Q => scal x y = true ∧ Q (.bl (!decide (x = y))) H
theorem dec_int {i j : Int} : decide (V.int i = V.int j) = (i == j) := by
  rw [Bool.eq_iff_iff]
  simp
theorem dec_bl {i j : Bool} : decide (V.bl i = V.bl j) = (i == j) := by
  rw [Bool.eq_iff_iff]
  simp
theorem dec_str {i j : Str} : decide (V.str i = V.str j) = (i == j) := by
  rw [Bool.eq_iff_iff]
  simp
theorem dec_byt {i j : Array UInt8} : decide (V.byt i = V.byt j) = (i.toList == j.toList) := by
  rw [Bool.eq_iff_iff]
  cases i
  cases j
  simp
section
variable {X : Cx} {a b c : Expr} {ta tb tc : TE} {pos : Pos}
theorem fin_bl {pins : List (Addr × Obj)} {σ : St} {H : Hp} {s : Shared} {Q : VK} {k k' : Bool} (I : Inv X pins σ H s) (q : Q (.bl k) H) (e : k = k') : EP X pins σ Q (.bool k') s := by
  subst e
  exact ⟨.bl k, H, I, rfl, q⟩
theorem op_eq : OpR X (compareOp .Eq) rEq := by
  intro pins s σ H x y v u Q I rx ry h
  obtain ⟨hs, q⟩ := h
  cases x with
  | non =>
    cases rx
    cases y with
    | non => cases ry; exact PySem.EqNone.eq_none_none (fin_bl I q (by simp))
    | bl j => cases ry; exact PySem.EqNone.eq_none_bool (fin_bl I q (by simp))
    | int j => obtain ⟨t', rfl⟩ := ry; exact PySem.EqNone.eq_none_int (fin_bl I q (by simp))
    | str j => obtain ⟨t', rfl⟩ := ry; exact PySem.EqNone.eq_none_str (fin_bl I q (by simp))
    | _ => exact absurd (show false = true from hs) Bool.false_ne_true
  | bl i =>
    cases rx
    cases y with
    | non => cases ry; exact PySem.EqNone.eq_bool_none (fin_bl I q (by simp))
    | bl j => cases ry; exact eq_bool (fin_bl I q dec_bl)
    | str j => obtain ⟨t', rfl⟩ := ry; exact PySem.EqMixed.eq_bool_str (fin_bl I q (by simp))
    | _ => exact absurd (show false = true from hs) Bool.false_ne_true
  | int i =>
    obtain ⟨t, rfl⟩ := rx
    cases y with
    | non => cases ry; exact PySem.EqNone.eq_int_none (fin_bl I q (by simp))
    | int j => obtain ⟨t', rfl⟩ := ry; exact eq_int (fin_bl I q dec_int)
    | str j => obtain ⟨t', rfl⟩ := ry; exact PySem.EqMixed.eq_int_str (fin_bl I q (by simp))
    | _ => exact absurd (show false = true from hs) Bool.false_ne_true
  | str i =>
    obtain ⟨t, rfl⟩ := rx
    cases y with
    | non => cases ry; exact PySem.EqNone.eq_str_none (fin_bl I q (by simp))
    | bl j => cases ry; exact PySem.EqMixed.eq_str_bool (fin_bl I q (by simp))
    | int j => obtain ⟨t', rfl⟩ := ry; exact PySem.EqMixed.eq_str_int (fin_bl I q (by simp))
    | str j => obtain ⟨t', rfl⟩ := ry; exact eq_str (fin_bl I q dec_str)
    | _ => exact absurd (show false = true from hs) Bool.false_ne_true
  | byt i =>
    obtain ⟨t, rfl⟩ := rx
    cases y with
    | byt j => obtain ⟨t', rfl⟩ := ry; exact PySem.W.eq_bytes (fin_bl I q dec_byt)
    | _ => exact absurd (show false = true from hs) Bool.false_ne_true
  | _ => cases y <;> exact absurd (show false = true from hs) Bool.false_ne_true
theorem op_ne : OpR X (compareOp .NotEq) rNe := by
  intro pins s σ H x y v u Q I rx ry h
  obtain ⟨hs, q⟩ := h
  cases x with
  | non =>
    cases rx
    cases y with
    | non => cases ry; exact PySem.EqNone.ne_none_none (fin_bl I q (by simp))
    | bl j => cases ry; exact PySem.EqNone.ne_none_bool (fin_bl I q (by simp))
    | int j => obtain ⟨t', rfl⟩ := ry; exact PySem.EqNone.ne_none_int (fin_bl I q (by simp))
    | str j => obtain ⟨t', rfl⟩ := ry; exact PySem.EqNone.ne_none_str (fin_bl I q (by simp))
    | _ => exact absurd (show false = true from hs) Bool.false_ne_true
  | bl i =>
    cases rx
    cases y with
    | non => cases ry; exact PySem.EqNone.ne_bool_none (fin_bl I q (by simp))
    | bl j => cases ry; exact ne_bool (fin_bl I q (congrArg not dec_bl))
    | str j => obtain ⟨t', rfl⟩ := ry; exact PySem.EqMixed.ne_bool_str (fin_bl I q (by simp))
    | _ => exact absurd (show false = true from hs) Bool.false_ne_true
  | int i =>
    obtain ⟨t, rfl⟩ := rx
    cases y with
    | non => cases ry; exact PySem.EqNone.ne_int_none (fin_bl I q (by simp))
    | int j => obtain ⟨t', rfl⟩ := ry; exact ne_int (fin_bl I q (congrArg not dec_int))
    | str j => obtain ⟨t', rfl⟩ := ry; exact PySem.EqMixed.ne_int_str (fin_bl I q (by simp))
    | _ => exact absurd (show false = true from hs) Bool.false_ne_true
  | str i =>
    obtain ⟨t, rfl⟩ := rx
    cases y with
    | non => cases ry; exact PySem.EqNone.ne_str_none (fin_bl I q (by simp))
    | bl j => cases ry; exact PySem.EqMixed.ne_str_bool (fin_bl I q (by simp))
    | int j => obtain ⟨t', rfl⟩ := ry; exact PySem.EqMixed.ne_str_int (fin_bl I q (by simp))
    | str j => obtain ⟨t', rfl⟩ := ry; exact ne_str (fin_bl I q (congrArg not dec_str))
    | _ => exact absurd (show false = true from hs) Bool.false_ne_true
  | byt i =>
    obtain ⟨t, rfl⟩ := rx
    cases y with
    | byt j => obtain ⟨t', rfl⟩ := ry; exact PySem.W.ne_bytes (fin_bl I q (congrArg not dec_byt))
    | _ => exact absurd (show false = true from hs) Bool.false_ne_true
  | _ => cases y <;> exact absurd (show false = true from hs) Bool.false_ne_true
theorem op_lt : OpR X (compareOp .Lt) (rI0 fun i j => .bl (decide (i < j))) := opB0 fun _ _ _ _ _ _ _ q => lt_int q
theorem op_le : OpR X (compareOp .LtE) (rI0 fun i j => .bl (decide (i ≤ j))) := opB0 fun _ _ _ _ _ _ _ q => le_int q
theorem op_gt : OpR X (compareOp .Gt) (rI0 fun i j => .bl (decide (j < i))) := opB0 fun _ _ _ _ _ _ _ q => gt_int q
theorem op_ge : OpR X (compareOp .GtE) (rI0 fun i j => .bl (decide (j ≤ i))) := opB0 fun _ _ _ _ _ _ _ q => ge_int q
def isObj : HO → Bool
  | .lst _ => true
  | .ins _ _ _ => true
  | _ => false
theorem nomark (b : Expr) {op : CmpOp} (h : op ≠ .In := by decide) (h2 : op ≠ .NotIn := by decide) : behindInMarks op b = false := by
  have e1 : (op == CmpOp.In) = false := by cases op <;> first | rfl | exact absurd rfl h
  have e2 : (op == CmpOp.NotIn) = false := by cases op <;> first | rfl | exact absurd rfl h2
  cases b <;> simp [behindInMarks, e1, e2]
theorem pe_cmpR {op : CmpOp} {r : R2} (ho : OpR X (compareOp op) r) (ha : PE X a ta) (hb : PE X b tb) (hm : behindInMarks op b = false) : PE X (.Compare a [op] [b] pos) (tOp r ta tb) := by
  intro pins s σ H Q I h
  exact wpAny_Compare1 (binT ha hb I h fun v u s2 x y H2 I2 rx ry q => ho pins s2 σ H2 x y v u Q I2 rx ry q) hm
def tTest (t : TE) : TT := fun σ H Q => t σ H fun x H' => ∃ k, x = .bl k ∧ Q k H'
theorem pt_cmpR {op : CmpOp} {r : R2} (ho : OpR X (compareOp op) r) (ha : PE X a ta) (hb : PE X b tb) (hm : behindInMarks op b = false) : PT X (.Compare a [op] [b] pos) (tTest (tOp r ta tb)) := by
  intro pins s σ H Q I h
  refine wpAny_isTrue_Compare1 (thn (ha pins s σ H _ I h) fun v s1 ⟨x, H1, I1, r1, q1⟩ => thn (hb pins s1 σ H1 _ I1 q1) fun u s2 ⟨y, H2, I2, r2, q2⟩ =>
    thn (ho pins s2 σ H2 x y v u _ I2 r1 r2 q2) fun c s3 ⟨z, H3, I3, r3, k, e, q3⟩ => ?_) hm
  subst e
  cases r3
  exact wpAny_truthy_bool ⟨H3, I3, q3⟩
def tChain (r r' : R2) (ta tb tc : TE) : TE := fun σ H Q => ta σ H fun x H1 => tb σ H1 fun y H2 => r x y H2 fun z H3 => ∃ k, z = .bl k ∧
  (if k = true then tc σ H3 fun w' H4 => r' y w' H4 Q else Q (.bl false) H3)
def TruV (K : PySem.W.Frag) (x : V) (H : Hp) (k : Bool) : Prop :=
  match x with
  | .non => k = false
  | .bl b => k = b
  | .int i => k = (i != 0)
  | .str y => y.length ≤ sizeLine ∧ k = ((y.length : Int) != 0)
  | .byt y => y.size ≤ sizeLine ∧ k = ((y.size : Int) != 0)
  | .ref p => (∃ xs, SqL K H p xs ∧ k = !xs.isEmpty) ∨ (∃ xs, SqT K H p xs ∧ k = !xs.isEmpty) ∨ ∃ kvs, H p = some (.dK kvs) ∧ k = !kvs.isEmpty
  | _ => False
theorem line63 : (sizeLine : Nat) < 2 ^ 63 := by rw [sizeLine_eq]; decide
theorem op_add_str : OpR X (binaryOp .Add) (fun x y H Q => ∃ i j, x = .str i ∧ y = .str j ∧ i.length + j.length ≤ sizeLine ∧ Q (.str (i ++ j)) H) := by
  intro pins s σ H x y v u Q I rx ry h
  obtain ⟨i, j, rfl, rfl, hz, q⟩ := h
  obtain ⟨t, rfl⟩ := rx
  obtain ⟨t', rfl⟩ := ry
  exact add_str (fun t' tk => ⟨.str (i ++ j), H, I.tok _, ⟨_, rfl⟩, q⟩) hz
def PlainIxT (b : Expr) : Prop := ∀ o i, subscripted b false o i = operate [o, i] (getItem o i)
theorem vals1 {x : V} {us : List Value} (r : Vals [x] us) : ∃ u, us = [u] ∧ RelV x u := by
  cases r with
  | cons r1 r2 => cases r2; exact ⟨_, rfl, r1⟩
theorem vals2 {x y : V} {us : List Value} (r : Vals [x, y] us) : ∃ u w', us = [u, w'] ∧ RelV x u ∧ RelV y w' := by
  cases r with
  | cons r1 r2 =>
    cases r2 with
    | cons r3 r4 => cases r4; exact ⟨_, _, rfl, r1, r3⟩
theorem call_max2 (hc : X.calm = true) : CallR X (.builtin "max") (fun xs H Q => ∃ i j, xs = [.int i, .int j] ∧ Q (.int (if j > i then j else i)) H) := by
  intro pins s σ H xs us Q I r h
  obtain ⟨i, j, rfl, q⟩ := h
  obtain ⟨u, w', rfl, ⟨t, rfl⟩, ⟨t', rfl⟩⟩ := vals2 r
  refine max_two_ints (I.ok.hd hc) fun h' tk k => ⟨_, H, I.kept k, ?_, q⟩
  by_cases hj : j > i
  · rw [if_pos hj, if_pos hj]; exact ⟨_, rfl⟩
  · rw [if_neg hj, if_neg hj]; exact ⟨_, rfl⟩
theorem call_int1 : CallR X (.type "int") (fun xs H Q => (∃ i, xs = [.int i] ∧ Q (.int i) H) ∨ ∃ k, xs = [.bl k] ∧ Q (.int (if k then 1 else 0)) H) := by
  intro pins s σ H xs us Q I r h
  rcases h with ⟨i, rfl, q⟩ | ⟨k, rfl, q⟩
  · obtain ⟨u, rfl, t, rfl⟩ := vals1 r
    exact call_int_int ⟨.int i, H, I, ⟨_, rfl⟩, q⟩
  · obtain ⟨u, rfl, r1⟩ := vals1 r
    cases r1
    exact call_int_bool ⟨.int (if k then 1 else 0), H, I.tok _, ⟨_, rfl⟩, q⟩
def LenV (K : PySem.W.Frag) (x : V) (H : Hp) (n : Nat) : Prop :=
  match x with
  | .str y => y.length ≤ sizeLine ∧ n = y.length
  | .byt y => y.size ≤ sizeLine ∧ n = y.size
  | .ref p => (∃ xs, SqL K H p xs ∧ n = xs.length) ∨ ∃ xs, SqT K H p xs ∧ n = xs.length
  | _ => False
end
end L2
namespace L2
open PySem PySem.Spec PyProof.Rows
structure ObjM (h : Heap) (x dx C : Addr) (mA : Str → Option Value) : Prop where
  obj : h.get? x = some (PySem.W.instObj C dx)
  ns : h.Ns1 dx mA
  ne : dx ≠ x
theorem lookIn_ns {h : Heap} {dx : Addr} {mA : Str → Option Value} (n : h.Ns1 dx mA) : ∃ od, h.get? dx = some od ∧ ∀ name, PySem.W.lookIn name od = some (mA name) := by
  obtain ⟨o, es, ep, ho, hd, hk, _, hm⟩ := n
  refine ⟨o, ho, fun name => ?_⟩
  have e := hm name
  unfold nsFind findBy at e
  rw [← Array.find?_toList] at e
  unfold PySem.W.lookIn
  rw [hd]
  dsimp only
  split
  · rename_i y q
    rw [q] at e
    exact congrArg some e
  · rename_i q
    rw [q] at e
    have a : es.toList.any (·.refKey) = false := by
      rw [List.any_eq_false]
      intro y hy
      obtain ⟨z, t, hkey⟩ := hk y (Array.mem_toList_iff.mp hy)
      simp [DictEntry.refKey, hkey]
    have a' : ¬ es.toList.any (·.refKey) = true := by rw [a]; exact Bool.false_ne_true
    rw [if_neg a']
    exact congrArg some e
theorem ObjM.look {h : Heap} {x dx C : Addr} {mA : Str → Option Value} (I : ObjM h x dx C mA) : ∃ od, PySem.W.InstAt h x (PySem.W.instObj C dx) C (some od) ∧ ∀ name, PySem.W.lookIn name od = some (mA name) :=
  let ⟨od, ho, hl⟩ := lookIn_ns I.ns
  ⟨od, ⟨I.obj, rfl, rfl, ho⟩, hl⟩
section
variable {prog : Program} {w : World} {A : Around} {E : Value → Shared → Prop} {s : Shared} {K : PySem.W.Frag} {x dx C f : Addr} {mA : Str → Option Value} {name : Str} {v : Value}
theorem get_map {expr : Bool} {Q : Value → Shared → Prop} (X : K.In s.heap) (I : ObjM s.heap x dx C mA) (hg : PySem.W.plainGet K C name = true) (hh : PySem.W.hasDictIn K C = true)
    (ha : PySem.W.findIn K (.ref C) name = some none) (hv : mA name = some v) (hv' : PySem.W.handedIn v = true) (h : Q v { s with toks := s.toks + 1 }) :
    wpAny (model prog w) A (getAttr (.ref x) name expr) Q E s := by
  obtain ⟨od, J, hl⟩ := I.look
  exact PySem.W.get_value X J (PySem.W.plainGet_of hg).1 (PySem.W.findObj_own hh ha rfl (by rw [hl, hv])) hv' h
theorem get_meth {pl : Sem Bool} {Q : Value × List Value → Shared → Prop} (X : K.In s.heap) (I : ObjM s.heap x dx C mA) (hg : PySem.W.plainGet K C name = true)
    (hf : PySem.W.findIn K (.ref C) name = some (some (.ref f))) (ht : PySem.W.isFn K (.ref f) = true) (hv : mA name = none) (h : Q (.ref f, [.ref x]) s) :
    wpAny (model prog w) A (getMethod (.ref x) name pl) Q E s := by
  obtain ⟨od, J, hl⟩ := I.look
  exact PySem.W.method_fn X J (PySem.W.plainGet_of hg).1 (PySem.W.plainGet_of hg).2 hf (beq_iff_eq.mp ht) (by show (PySem.W.lookIn name od).map (·.isSome) = some false; rw [hl, hv]; rfl) h
theorem set_map {ns : List Str} {Q : Unit → Shared → Prop} (X : K.In s.heap) (I : ObjM s.heap x dx C mA)
    (hs : PySem.W.findIn K (.ref C) "__setattr__" = some (some (.builtin "object.__setattr__"))) (hp : PySem.W.plainOver K C = true) (ht : PySem.W.takerIn K C name = some none) (hh : PySem.W.hasDictIn K C = true)
    (hw : PySem.Within mA ns) (hsz : ns.length ≤ sizeLine)
    (h : ∀ h', ObjM h' x dx C (fun y => if y = name then some v else mA y) → Heap.SameBut dx s.heap h' → Q () { s with heap := h', toks := s.toks + 2 }) :
    wpAny (model prog w) A (setAttr (.ref x) name v) Q E s := by
  obtain ⟨od, J, hl⟩ := I.look
  refine PySem.W.set_plain X J hs (PySem.W.osa_open (s := { s with toks := s.toks + 1 }) (r := none) X J hp ht fun b => ?_)
  obtain ⟨cd, hc, hd'⟩ := PySem.W.any_some hh
  have hx : s.heap.get? x = some ⟨.ref C, some dx, .plain, #[]⟩ := I.obj
  refine wpAny_bind (wpAny_pure (wpAny_bind (wpAny_bind (wpAny_loadPart hx (wpAny_bind (PySem.W.Looks.here (s := { s with toks := s.toks + 1 }) (PySem.W.looks_clsIn X hc) ?_))))))
  rw [hd']
  refine wpAny_pure (a := some dx) (wpAny_bind (wpAny_pure (wpAny_bind ?_)))
  refine wpAny_nsSet1 (s := { s with toks := s.toks + 1 }) I.ns fun h' hn2 hs2 => ?_
  obtain ⟨oD, esD, epD, hoD, hdD, hcD⟩ := hn2.count (PySem.Within.cons name v hw)
  refine wpAny_bind (wpAny_lookBehind hoD (by rw [hdD]; exact pastItsLine_dict (Nat.le_trans hcD (by rw [List.length_cons]; omega))) ?_)
  exact wpAny_pure (h _ ⟨(hs2.2 _ (Ne.symm I.ne)).trans I.obj, hn2, I.ne⟩ hs2)
theorem make_map {R : Result → Shared → Prop} {vs : List Value} {kw : List (Str × Value)} (X : K.In s.heap) (hm : PySem.W.makesIn K C = true)
    (hi : PySem.W.findIn K (.ref C) "__init__" = some (some (.ref f))) (hf : PySem.W.typeIn K (.ref f) = some (.type "function"))
    (h : codeAny (model prog w) (A.under (.builtin "type.__call__" ⟨.ref C :: vs, kw⟩)) (.call (.ref f) ⟨.ref (s.heap.objs.size + 1) :: vs, kw⟩) (PySem.W.InitBack (s.heap.objs.size + 1) R)
      { s with heap := (s.heap.push PySem.W.emptyDict).push (PySem.W.instObj C s.heap.objs.size) }) :
    codeAny (model prog w) A (.call (.ref C) ⟨vs, kw⟩) R s := by
  obtain ⟨hh, g, d, t, os⟩ := s
  exact PySem.W.make_core (PySem.W.makes_of X hm) (PySem.W.looks_findIn X hi) (fun self => PySem.W.bind_fn X self hf) (.inl rfl) h
end
def putF (f : Str) (v : V) : List (Str × V) → List (Str × V)
  | [] => [(f, v)]
  | (g, x) :: r => if g = f then (g, v) :: r else (g, x) :: putF f v r
theorem lookup_putF (f g : Str) (v : V) : ∀ fs : List (Str × V), (putF f v fs).lookup g = if g = f then some v else fs.lookup g
  | [] => by
    show List.lookup g [(f, v)] = _
    by_cases h : g = f
    · have hb : (g == f) = true := beq_iff_eq.mpr h
      simp only [List.lookup, hb, if_pos h]
    · have hb : (g == f) = false := beq_eq_false_iff_ne.mpr h
      simp only [List.lookup, hb, if_neg h]
  | (k, x) :: r => by
    have ih := lookup_putF f g v r
    rw [show putF f v ((k, x) :: r) = (if k = f then (k, v) :: r else (k, x) :: putF f v r) from rfl]
    by_cases hk : k = f
    · rw [if_pos hk]
      by_cases h : g = k
      · have hb : (g == k) = true := beq_iff_eq.mpr h
        simp only [List.lookup, hb, if_pos (h.trans hk)]
      · have hb : (g == k) = false := beq_eq_false_iff_ne.mpr h
        simp only [List.lookup, hb, if_neg (fun e : g = f => h (e.trans hk.symm))]
    · rw [if_neg hk]
      by_cases h : g = k
      · have hb : (g == k) = true := beq_iff_eq.mpr h
        simp only [List.lookup, hb, if_neg (fun e : g = f => hk (h.symm.trans e))]
      · have hb : (g == k) = false := beq_eq_false_iff_ne.mpr h
        simp only [List.lookup, hb]
        exact ih
theorem keys_putF (f : Str) (v : V) : ∀ fs : List (Str × V), f ∈ (putF f v fs).map (·.1) ∧ ∀ g, g ∈ fs.map (·.1) → g ∈ (putF f v fs).map (·.1)
  | [] => ⟨by simp [putF], fun g h => by simp at h⟩
  | (k, x) :: r => by
    obtain ⟨i1, i2⟩ := keys_putF f v r
    rw [show putF f v ((k, x) :: r) = (if k = f then (k, v) :: r else (k, x) :: putF f v r) from rfl]
    by_cases hk : k = f
    · rw [if_pos hk]
      subst hk
      exact ⟨by simp, fun g h => by simpa using h⟩
    · rw [if_neg hk]
      refine ⟨?_, fun g h => ?_⟩
      · rw [List.map_cons]
        exact List.mem_cons_of_mem _ i1
      · rw [List.map_cons] at h ⊢
        rcases List.mem_cons.mp h with e | e
        · exact List.mem_cons.mpr (.inl e)
        · exact List.mem_cons_of_mem _ (i2 g e)
theorem length_putF (f : Str) (v : V) : ∀ fs : List (Str × V), (putF f v fs).length ≤ fs.length + 1
  | [] => by simp [putF]
  | (k, x) :: r => by
    have ih := length_putF f v r
    rw [show putF f v ((k, x) :: r) = (if k = f then (k, v) :: r else (k, x) :: putF f v r) from rfl]
    by_cases hk : k = f
    · rw [if_pos hk, List.length_cons, List.length_cons]; omega
    · rw [if_neg hk, List.length_cons, List.length_cons]; omega
theorem RelO.some_of {v : V} {o : Option Value} (r : RelO (some v) o) : ∃ u, o = some u ∧ RelV v u := by
  cases o with
  | none => exact (show False from r).elim
  | some u => exact ⟨u, rfl, r⟩
theorem RelO.none_of {o : Option Value} (r : RelO none o) : o = none := by
  cases o with
  | none => rfl
  | some u => exact (show False from r).elim
theorem handed_of {v : V} {u : Value} (r : RelV v u) : PySem.W.handedIn u = true := by
  cases v with
  | non => cases (show u = Value.none from r); rfl
  | bl b => cases (show u = Value.bool b from r); rfl
  | int i => obtain ⟨t, e⟩ := (show ∃ t, u = Value.int i t from r); cases e; rfl
  | str x => obtain ⟨t, e⟩ := (show ∃ t, u = Value.str x t from r); cases e; rfl
  | byt b => obtain ⟨t, e⟩ := (show ∃ t, u = Value.bytes b t from r); cases e; rfl
  | flt b => obtain ⟨t, e⟩ := (show ∃ t, u = Value.float b t from r); cases e; rfl
  | ref a => cases (show u = Value.ref a from r); rfl
  | ty n => cases (show u = Value.type n from r); rfl
section
variable {P : Program} {w : World} {H H' : Hp} {h h' : Heap} {a C dx : Addr} {fs fs' : List (Str × V)}
theorem ins_get (hok : HOk P w H h) (e : H a = some (.ins C dx fs)) : ∃ mA, ObjM h a dx C mA ∧ (∀ f, RelO (fs.lookup f) (mA f)) ∧ PySem.Within mA (fs.map (·.1)) ∧ fs.length ≤ 1000 ∧ H dx = some (.own a) := by
  obtain ⟨d, z, ne, ob, mA, n, r, q⟩ := (show ObjOk P w H h a (.ins C dx fs) from hok a _ e)
  exact ⟨mA, ⟨ob, n, ne⟩, r, q, z, d⟩
end
structure Cls (K : PySem.W.Frag) (C : Addr) : Prop where
  pg : PySem.W.plainGet K C Str.empty = true
  hd : PySem.W.hasDictIn K C = true
  po : PySem.W.plainOver K C = true
  sa : PySem.W.findIn K (.ref C) "__setattr__" = some (some (.builtin "object.__setattr__"))
theorem Cls.get {K : PySem.W.Frag} {C : Addr} (c : Cls K C) (f : Str) : PySem.W.plainGet K C f = true := c.pg
def NoAttr (K : PySem.W.Frag) (C : Addr) (f : Str) : Prop := PySem.W.findIn K (.ref C) f = some none
theorem NoAttr.taker {K : PySem.W.Frag} {C : Addr} {f : Str} (n : NoAttr K C f) : PySem.W.takerIn K C f = some none := by
  unfold PySem.W.takerIn
  rw [show PySem.W.findIn K (.ref C) f = some none from n]
  rfl
structure Con (K : PySem.W.Frag) (C : Addr) (f : Str) (v : V) (u : Value) : Prop where
  at_ : PySem.W.findIn K (.ref C) f = some (some u)
  rel : RelV v u
  get : PySem.W.specialIn K u "__get__" = some none
  cp : PySem.W.copiedNames.contains f = false
structure Meth (K : PySem.W.Frag) (C : Addr) (m : Str) (f : Addr) : Prop where
  at_ : PySem.W.findIn K (.ref C) m = some (some (.ref f))
  fn : PySem.W.isFn K (.ref f) = true
  kp : PySem.W.keepIn K (.ref f) = true
section
variable {X : Cx} {pins : List (Addr × Obj)} {σ : St} {H : Hp} {s : Shared} {a C dx : Addr} {fs : List (Str × V)} {f : Str} {v : V} {A : Around} {E : Value → Shared → Prop}
theorem getattr_ok {b : Bool} {Q : Value → Shared → Prop} (I : Inv X pins σ H s) (e : H a = some (.ins C dx fs)) (c : Cls X.K C) (n : NoAttr X.K C f) (l : fs.lookup f = some v)
    (h : ∀ u s', Inv X pins σ H s' → RelV v u → Q u s') : wpAny (model X.prog X.w) A (getAttr (.ref a) f b) Q E s := by
  obtain ⟨mA, O, r, _, _, _⟩ := ins_get I.hok e
  obtain ⟨u, hu, ru⟩ := RelO.some_of (v := v) (o := mA f) (by rw [← l]; exact r f)
  exact get_map I.kIn O (c.get f) c.hd n hu (handed_of ru) (h u _ (I.tok _) ru)
theorem getmeth_ok {m : Str} {g : Addr} {pl : Sem Bool} {Q : Value × List Value → Shared → Prop} (I : Inv X pins σ H s) (e : H a = some (.ins C dx fs)) (c : Cls X.K C) (k : Meth X.K C m g) (l : fs.lookup m = none)
    (h : Q (.ref g, [.ref a]) s) : wpAny (model X.prog X.w) A (getMethod (.ref a) m pl) Q E s := by
  obtain ⟨mA, O, r, _, _, _⟩ := ins_get I.hok e
  have hn : mA m = none := RelO.none_of (by rw [← l]; exact r m)
  exact get_meth I.kIn O (c.get m) k.at_ k.fn hn h
theorem setattr_ok {y : V} {u : Value} {Q : Unit → Shared → Prop} (I : Inv X pins σ H s) (e : H a = some (.ins C dx fs)) (c : Cls X.K C) (n : NoAttr X.K C f) (hl : fs.length < 1000) (ry : RelV y u)
    (h : ∀ s', Inv X pins σ (upd H a (.ins C dx (putF f y fs))) s' → Q () s') : wpAny (model X.prog X.w) A (setAttr (.ref a) f u) Q E s := by
  obtain ⟨mA, O, r, wi, _, ho⟩ := ins_get I.hok e
  have hz : (fs.map (·.1)).length ≤ sizeLine := by rw [List.length_map, sizeLine_eq]; omega
  refine set_map I.kIn O c.sa c.po n.taker c.hd wi hz fun h' O' sb => h _ ?_
  have hd : ∃ o, h'.get? dx = some o := let ⟨o, _, _, e', _⟩ := O'.ns; ⟨o, e'⟩
  refine I.write (x := a) (e := dx) (by rw [e]; exact True.intro) (.inr ho) (fun b q hb z => (sb.2 b hb).trans z) hd ?_
  refine ⟨by rw [upd_ne O.ne]; exact ho, ?_, O.ne, O'.obj, _, O'.ns, fun g => ?_, fun g hg => ?_⟩
  · have := length_putF f y fs; omega
  · show RelO ((putF f y fs).lookup g) (if g = f then some u else mA g)
    rw [lookup_putF]
    by_cases q : g = f
    · rw [if_pos q, if_pos q]; exact ry
    · rw [if_neg q, if_neg q]; exact r g
  · by_cases q : g = f
    · rw [q]; exact (keys_putF f y fs).1
    · refine (keys_putF f y fs).2 g (wi g fun z => hg ?_)
      show (if g = f then some u else mA g) = none
      rw [if_neg q]; exact z
theorem Inv.made (I : Inv X pins σ H s) : Inv X pins σ (upd (upd H s.heap.objs.size (.own (s.heap.objs.size + 1))) (s.heap.objs.size + 1) (.ins C s.heap.objs.size []))
    { s with heap := (s.heap.push PySem.W.emptyDict).push (PySem.W.instObj C s.heap.objs.size) } := by
  have e1 : (s.heap.push PySem.W.emptyDict).get? s.heap.objs.size = some PySem.W.emptyDict := Heap.get?_push_size s.heap rfl
  have e2 : ((s.heap.push PySem.W.emptyDict).push (PySem.W.instObj C s.heap.objs.size)).get? (s.heap.objs.size + 1) = some (PySem.W.instObj C s.heap.objs.size) := by
    have := Heap.get?_push_size (s.heap.push PySem.W.emptyDict) (o := PySem.W.instObj C s.heap.objs.size) rfl
    rwa [Heap.size_push] at this
  have e3 : (s.heap.push PySem.W.emptyDict).Ns s.heap.objs.size (fun _ => none) := ⟨PySem.W.emptyDict, #[], _, e1, rfl, (fun e he => absurd he (by simp)), fun _ => rfl⟩
  have I1 := I.laid (a := s.heap.objs.size) (o := .own (s.heap.objs.size + 1)) (h' := s.heap.push PySem.W.emptyDict) (t' := s.toks) (fun b u q => Heap.get?_push_of_some _ q) (Nat.le_refl _) ⟨_, e1⟩
  refine I1.laid (a := s.heap.objs.size + 1) (o := .ins C s.heap.objs.size []) (t' := s.toks) (fun b u q => Heap.get?_push_of_some _ q) (Nat.le_of_eq (Heap.size_push _ _)) ?_
  have ne : s.heap.objs.size ≠ s.heap.objs.size + 1 := Nat.ne_of_lt (Nat.lt_succ_self _)
  refine ⟨by rw [upd_ne ne, upd_same], Nat.zero_le _, ne, e2, fun _ => none, (Heap.Ns1.of_empty e3).at fun o q => Heap.get?_push_of_some _ q, fun _ => True.intro, fun y hy => absurd rfl hy⟩
theorem attr_of {prog : Program} {w : World} {env : Env} {e : Expr} {f : Str} {pos : Pos} {s : Shared} {Q : Value → Shared → Prop} (hb : attributeBase e f env (eval e env) = eval e env)
    (h : wpAny (model prog w) A (eval e env) (fun o s₁ => wpAny (model prog w) A (getAttr o f true) Q E s₁) E s) : wpAny (model prog w) A (eval (.Attribute e f pos) env) Q E s :=
  Attribute_any_ h (by rw [arm_eval_Attribute, hb])
end
def tFld (K : PySem.W.Frag) (ta : TE) (f : Str) : TE := fun σ H Q => ta σ H fun x H1 => ∃ a C dx fs v, x = .ref a ∧ H1 a = some (.ins C dx fs) ∧ Cls K C ∧ NoAttr K C f ∧ fs.lookup f = some v ∧ Q v H1
def tCon (K : PySem.W.Frag) (ta : TE) (f : Str) : TE := fun σ H Q => ta σ H fun x H1 => ∃ a C dx fs v u, x = .ref a ∧ H1 a = some (.ins C dx fs) ∧ Cls K C ∧ Con K C f v u ∧ fs.lookup f = none ∧ Q v H1
def sFld (K : PySem.W.Frag) (ta tv : TE) (f : Str) : TS := fun D σ H => tv σ H fun y H1 => ta σ H1 fun x H2 => ∃ a C dx fs, x = .ref a ∧ H2 a = some (.ins C dx fs) ∧ Cls K C ∧ NoAttr K C f ∧ fs.length < 1000 ∧
  D.nx σ (upd H2 a (.ins C dx (putF f y fs)))
def InOp (X : Cx) (op : Operator) (rd : V → V → Hp → VK → Prop) : Prop :=
  ∀ (pins : List (Addr × Obj)) (s : Shared) (σ : St) (H : Hp) (x y : V) (u v : Value) (Q : VK), Inv X pins σ H s → RelV x u → RelV y v → rd x y H Q → wpAny (model X.prog X.w) X.A (inplaceOp op u v) (EP X pins σ Q) X.xe s
def sFldAug (K : PySem.W.Frag) (ta tv : TE) (rd : V → V → Hp → VK → Prop) (f : Str) : TS := fun D σ H => ta σ H fun x H1 => ∃ a C dx fs v, x = .ref a ∧ H1 a = some (.ins C dx fs) ∧ Cls K C ∧ NoAttr K C f ∧ fs.lookup f = some v ∧
  tv σ H1 fun y H2 => rd v y H2 fun z H3 => ∃ dx' fs', H3 a = some (.ins C dx' fs') ∧ fs'.length < 1000 ∧ D.nx σ (upd H3 a (.ins C dx' (putF f z fs')))
section
variable {X : Cx} {o e value : Expr} {f : Str} {pos pos' tpos : Pos} {ta tv : TE}
theorem pe_fld (he : PE X e ta) (hb : attributeBase e f X.env (eval e X.env) = eval e X.env) : PE X (.Attribute e f pos) (tFld X.K ta f) := by
  intro pins s σ H Q I h
  refine attr_of hb (thn (he pins s σ H _ I h) fun u s1 ⟨x, H1, I1, rx, a, C, dx, fs, v, ex, ea, c, n, l, q⟩ => ?_)
  subst ex
  obtain rfl : u = Value.ref a := rx
  exact getattr_ok I1 ea c n l fun u' s2 I2 ru => ⟨v, H1, I2, ru, q⟩
theorem ps_fld (ha : PE X o ta) (hv : PE X value tv) (hs : swapsWith value (some (.Attribute o f pos')) pos.line X.env = pure false) : PS X (.Assign [.Attribute o f pos'] value pos) (sFld X.K ta tv f) := by
  intro pins s σ H D I h
  refine plainObj_wpAny_Assign_Attribute (thn (hv pins s σ H _ I h) fun u s1 ⟨y, H1, I1, ry, q⟩ => thn (ha pins s1 σ H1 _ I1 q) fun ov s2 ⟨x, H2, I2, rx, a, C, dx, fs, ex, ea, c, n, l, q2⟩ => ?_) hs
  subst ex
  obtain rfl : ov = Value.ref a := rx
  exact setattr_ok I2 ea c n l ry fun s3 I3 => ⟨σ, _, I3, q2⟩
def rAdd : V → V → Hp → VK → Prop := fun x y H Q => ∃ i j, x = .int i ∧ y = .int j ∧ Q (.int (i + j)) H
def rSub : V → V → Hp → VK → Prop := fun x y H Q => ∃ i j, x = .int i ∧ y = .int j ∧ Q (.int (i - j)) H
end
section
variable {X : Cx} {pins : List (Addr × Obj)} {σ : St} {H : Hp} {s : Shared} {A : Around} {E : Value → Shared → Prop} {Q : Value → Shared → Prop} {c : Value} {b : Bool}
inductive TyOf (K : PySem.W.Frag) (H : Hp) : V → Value → Prop where
  | non : TyOf K H .non (.type "NoneType")
  | bl (x : Bool) : TyOf K H (.bl x) (.type "bool")
  | int (i : Int) : TyOf K H (.int i) (.type "int")
  | str (x : Str) : TyOf K H (.str x) (.type "str")
  | flt (x : UInt64) : TyOf K H (.flt x) (.type "float")
  | lst {a : Addr} {xs : List V} (e : H a = some (.lst xs)) : TyOf K H (.ref a) (.type "list")
  | frz {a : Addr} {o : Obj} {xs : List V} (e : H a = some (.frz o (.lst xs))) : TyOf K H (.ref a) (.type "list")
  | tup {a : Addr} {xs : List V} (e : H a = some (.tup xs)) : TyOf K H (.ref a) (.type "tuple")
  | dK {a : Addr} {kvs : List (Key × V)} (e : H a = some (.dK kvs)) : TyOf K H (.ref a) (.type "dict")
  | dT {a : Addr} {kvs : List (List Key × V)} (e : H a = some (.dT kvs)) : TyOf K H (.ref a) (.type "dict")
  | ins {a C dx : Addr} {fs : List (Str × V)} (e : H a = some (.ins C dx fs)) (cl : Cls K C) (ha : PySem.W.findIn K (.ref C) "__class__" = some (some (.builtin "object.__class__")))
      (hn : PySem.W.specialIn K (.builtin "object.__class__") "__get__" = some (some (.builtin "getset_descriptor.__get__"))) (htk : PySem.W.takesIn K (.builtin "object.__class__") = some true)
      (hm : PySem.W.mroIn K C (.type "object") = some true) : TyOf K H (.ref a) (.ref C)
theorem isinst_ok {x : V} {u t : Value} (I : Inv X pins σ H s) (rx : RelV x u) (ty : TyOf X.K H x t) (e : PySem.W.kitOne X.K t c = some b) (h : ∀ tk, Q (.bool b) { s with toks := tk }) :
    wpAny (model X.prog X.w) A (call (.builtin "isinstance") [u, c]) Q E s := by
  cases ty with
  | non => cases (show u = Value.none from rx); exact PySem.W.kia_one PySem.W.kitx_none I.kIn True.intro e (fun z => nomatch z) h
  | bl y => cases (show u = Value.bool y from rx); exact PySem.W.kia_one PySem.W.kitx_bool I.kIn True.intro e (fun z => nomatch z) h
  | int i => obtain ⟨t, q⟩ := (show ∃ t, u = Value.int i t from rx); cases q; exact PySem.W.kia_one PySem.W.kitx_int I.kIn True.intro e (fun z => nomatch z) h
  | str y => obtain ⟨t, q⟩ := (show ∃ t, u = Value.str y t from rx); cases q; exact PySem.W.kia_one PySem.W.kitx_str I.kIn True.intro e (fun z => nomatch z) h
  | flt y => obtain ⟨t, q⟩ := (show ∃ t, u = Value.float y t from rx); cases q; exact PySem.W.kia_one PySem.W.kitx_float I.kIn True.intro e (fun z => nomatch z) h
  | @lst a xs ea =>
    cases (show u = Value.ref a from rx)
    obtain ⟨_, _, n, _, h1⟩ := (show ObjOk X.prog X.w H s.heap a (.lst xs) from I.hok a _ ea)
    exact PySem.W.kia_one PySem.W.kitx_list I.kIn ⟨_, h1, rfl⟩ e (fun z => nomatch z) h
  | @frz a ob xs ea =>
    cases (show u = Value.ref a from rx)
    obtain ⟨_, _, _, n, _, h1⟩ := (show ObjOk X.prog X.w H s.heap a (.frz ob (.lst xs)) from I.hok a _ ea)
    exact PySem.W.kia_one PySem.W.kitx_list I.kIn ⟨_, h1, rfl⟩ e (fun z => nomatch z) h
  | @tup a xs ea =>
    cases (show u = Value.ref a from rx)
    obtain ⟨_, _, _, p⟩ := (show ObjOk X.prog X.w H s.heap a (.tup xs) from I.hok a _ ea)
    obtain ⟨o, h1, h2, _⟩ := p
    exact PySem.W.kia_one PySem.W.kitx_tuple I.kIn ⟨o, h1, h2⟩ e (fun z => nomatch z) h
  | @dK a kvs ea =>
    cases (show u = Value.ref a from rx)
    obtain ⟨_, _, vs, _, p⟩ := (show ObjOk X.prog X.w H s.heap a (.dK kvs) from I.hok a _ ea)
    obtain ⟨o, es, ep, h1, h2, _⟩ := p
    exact PySem.W.kia_one PySem.W.kitx_dict I.kIn ⟨o, h1, h2.1⟩ e (fun z => nomatch z) h
  | @dT a kvs ea =>
    cases (show u = Value.ref a from rx)
    obtain ⟨_, _, xs, _, o, es, ep, h1, h2, _⟩ := (show ObjOk X.prog X.w H s.heap a (.dT kvs) from I.hok a _ ea)
    exact PySem.W.kia_one PySem.W.kitx_dict I.kIn ⟨o, h1, h2.1⟩ e (fun z => nomatch z) h
  | @ins a C dx fs ea cl ha hn htk hm =>
    cases (show u = Value.ref a from rx)
    obtain ⟨mA, O, _⟩ := ins_get I.hok ea
    obtain ⟨od, J, _⟩ := O.look
    exact PySem.W.kia_one (PySem.W.kitx_own (cl.get _) cl.hd ha hn htk hm) I.kIn J e (fun z => nomatch z) h
end
end L2
namespace L2
open PySem PySem.Spec PyProof.Rows
structure Room (k : Nat) (A : Around) : Prop where
  hd : A.handled = none
  dp : A.depth + 3 * k + 5 < recursionLimit
  un : A.units + 16 * k + 200 < cLine
  gd : A.guards = some []
theorem Room.mono {j k : Nat} {A : Around} (r : Room k A) (h : j ≤ k) : Room j A := ⟨r.hd, by have := r.dp; omega, by have := r.un; omega, r.gd⟩
theorem Room.deeper {k : Nat} {A : Around} (r : Room (k + 1) A) (env : Env) : Room k (A.deeper env) :=
  ⟨r.hd, by have := r.dp; show A.depth + 1 + 3 * k + 5 < _; omega, by have := r.un; show A.units + 3 + 16 * k + 200 < _; omega, r.gd⟩
theorem Room.in1 {k : Nat} {A : Around} (r : Room (k + 1) A) : Room k A.in1 :=
  ⟨r.hd, by have := r.dp; show A.depth + 3 * k + 5 < _; omega, by have := r.un; show A.units + 1 + 16 * k + 200 < _; omega, r.gd⟩
theorem make_depth {A : Around} {C : Addr} {us : List Value} {kw : List (Str × Value)} : (A.under (.builtin "type.__call__" ⟨.ref C :: us, kw⟩)).depth = A.depth + 1 := by
  first | rfl | simp [Around.under, Code.weight, Code.isCreation, Code.isGuard, Code.isCaller, Code.frames, Code.isFrame, guardIds]
theorem make_units {A : Around} {C : Addr} {us : List Value} {kw : List (Str × Value)} : (A.under (.builtin "type.__call__" ⟨.ref C :: us, kw⟩)).units = A.units + 1 := by
  first | rfl | simp [Around.under, Code.cUnits, Code.frames, Code.isFrame]
theorem Room.make {k : Nat} {A : Around} (r : Room (k + 1) A) (C : Addr) (us : List Value) (kw : List (Str × Value)) : Room k (A.under (.builtin "type.__call__" ⟨.ref C :: us, kw⟩)) :=
  ⟨r.hd, by have := r.dp; rw [make_depth]; omega, by have := r.un; rw [make_units]; omega, by have h := r.gd; first | (simp only [Around.under]; rw [h]; rfl) | simp [Around.under, h, pushGuards, Code.guards, Code.isGuard, guardIds]⟩
theorem Room.depth {k : Nat} {A : Around} (r : Room k A) : A.depth < recursionLimit := by have := r.dp; omega
theorem Room.units {k : Nat} {A : Around} (r : Room k A) : A.units + 64 < cLine := by have := r.un; omega
theorem Room.units0 {k : Nat} {A : Around} (r : Room k A) : A.units < cLine := by have := r.un; omega
def tNil : TA := fun _ H Q => Q [] H
def tCons (ta : TE) (tr : TA) : TA := fun σ H Q => ta σ H fun x H1 => tr σ H1 fun xs H2 => Q (x :: xs) H2
section
variable {X : Cx} {e : Expr} {es : List Expr} {te : TE} {t : TA} {pos : Pos}
theorem pa_nil : PA X [] tNil := fun _ _ _ _ H Q I h => Calls.spliced_nil ⟨[], H, I, .nil, h⟩
theorem pa_cons (ha : PE X e te) (hr : PA X es t) (hs : starEach (e :: es) X.env = (false, eval e X.env) :: starEach es X.env := by rfl) : PA X (e :: es) (tCons te t) := by
  intro pos pins s σ H Q I h
  rw [hs]
  show wpAny _ _ (spliced ((false, eval e X.env) :: backTo pos (starEach es X.env))) _ _ s
  refine Calls.spliced_cons (thn (ha pins s σ H _ I h) fun u s1 ⟨x, H1, I1, r1, q1⟩ => ?_)
  exact thn (hr pos pins s1 σ H1 _ I1 q1) fun us s2 ⟨xs, H2, I2, r2, q2⟩ => ⟨x :: xs, H2, I2, .cons r1 r2, q2⟩
def tTup (t : TA) : TE := fun σ H Q => t σ H fun xs H1 => xs.length ≤ sizeLine ∧ ∀ p, H1 p = none → Q (.ref p) (upd H1 p (.tup xs))
def tLst (t : TA) : TE := fun σ H Q => t σ H fun xs H1 => xs.length ≤ sizeLine ∧ ∀ p, H1 p = none → Q (.ref p) (upd H1 p (.lst xs))
theorem pe_tup {x1} (h : PA X es t) : PE X (.Tuple es x1 pos) (tTup t) := by
  intro pins s σ H Q I hq
  refine wpAny_Tuple_spliced (thn (h pos pins s σ H _ I hq) fun us s1 ⟨xs, H1, I1, r, z, q⟩ => ⟨by rw [← r.length]; exact z, ?_⟩)
  have hf : H1 s1.heap.objs.size = none := I1.hok.fresh (Nat.le_refl _)
  refine ⟨.ref s1.heap.objs.size, upd H1 s1.heap.objs.size (.tup xs), I1.laid (t' := s1.toks) (fun b u e => Heap.get?_push_of_some _ e) (Nat.le_refl _) ?_, rfl, q _ hf⟩
  exact ⟨z, us, r, ⟨_, Heap.get?_push_size _ rfl, rfl, _, rfl⟩⟩
theorem pe_lst (h : PA X es t) : PE X (.List es pos) (tLst t) := by
  intro pins s σ H Q I hq
  refine wpAny_List_spliced (thn (h pos pins s σ H _ I hq) fun us s1 ⟨xs, H1, I1, r, z, q⟩ => ⟨by rw [← r.length]; exact z, ?_⟩)
  have hf : H1 s1.heap.objs.size = none := I1.hok.fresh (Nat.le_refl _)
  refine ⟨.ref s1.heap.objs.size, upd H1 s1.heap.objs.size (.lst xs), I1.laid (t' := s1.toks) (fun b u e => Heap.get?_push_of_some _ e) (Nat.le_refl _) ?_, rfl, q _ hf⟩
  exact ⟨z, us, 0, r, Heap.get?_push_size _ rfl⟩
end
abbrev Sp := List V → Hp → VK → XK → Prop
abbrev CXT := List Env → Hp → Shared → XK → Value → Shared → Prop
structure Env0 (P : Program) (w : World) (K : PySem.W.Frag) (mg : Str → Option Value) (base : Heap) (A : Around) (outer : List Env) (s : Shared) (H : Hp) : Prop where
  frames : A.frames = some outer
  mod : Mod K mg base
  bs : ∀ b o, base.get? b = some o → s.heap.get? b = some o ∧ H b = none
  bsz : base.objs.size ≤ s.heap.objs.size
  funs : s.heap.FunFrames base outer
  frf : ∀ b ∈ frs outer, H b = none
  hok : HOk P w H s.heap
  bare : AllBare s.gens
def CE (outer : List Env) (P : Program) (w : World) (H : Hp) (s : Shared) (Q : VK) (u : Value) (s' : Shared) : Prop :=
  ∃ v H', s'.os = s.os ∧ AllBare s'.gens ∧ Un (frs outer) [] H H' s.heap s'.heap ∧ HOk P w H' s'.heap ∧ RelV v u ∧ Q v H'
def CR (CX : CXT) (outer : List Env) (P : Program) (w : World) (H : Hp) (s : Shared) (Q : VK) (E : XK) (r : Result) (s' : Shared) : Prop :=
  match r with
  | .ok (.ret u) => CE outer P w H s Q u s'
  | .ok _ => False
  | .error e => CX outer H s E e s'
structure FnOk (P : Program) (w : World) (K : PySem.W.Frag) (mg : Str → Option Value) (base : Heap) (CX : CXT) (k : Nat) (f : Addr) (fd : FuncData) (ps : List Str) (sp : Sp) : Prop where
  len : ∀ vs H Q E, sp vs H Q E → vs.length = ps.length
  run : ∀ (A : Around) (outer : List Env) (s : Shared) (H : Hp) (args : Args) (us : List Value) (vs : List V) (Q : VK) (E : XK), Room k A → Env0 P w K mg base A outer s H → BindsTo s fd args (ps.zip us) → Vals vs us → sp vs H Q E →
    codeAny (model P w) A (.call (.ref f) args) (CR CX outer P w H s Q E) s
theorem FnOk.mono {P : Program} {w : World} {K : PySem.W.Frag} {mg : Str → Option Value} {base : Heap} {CX : CXT} {j k : Nat} {f : Addr} {fd : FuncData} {ps : List Str} {sp : Sp} (F : FnOk P w K mg base CX j f fd ps sp) (h : j ≤ k) :
    FnOk P w K mg base CX k f fd ps sp := ⟨F.len, fun A outer s H args us vs Q E hr => F.run A outer s H args us vs Q E (hr.mono h)⟩
theorem Env0.make {P : Program} {w : World} {K : PySem.W.Frag} {mg : Str → Option Value} {base : Heap} {A : Around} {outer : List Env} {s : Shared} {H : Hp} (e : Env0 P w K mg base A outer s H) (C : Addr) (us : List Value) (kw : List (Str × Value)) :
    Env0 P w K mg base (A.under (.builtin "type.__call__" ⟨.ref C :: us, kw⟩)) outer s H := ⟨by first | exact e.frames | (simpa [Around.under, Code.envs, Code.isFrame, pushEnvs] using e.frames), e.mod, e.bs, e.bsz, e.funs, e.frf, e.hok, e.bare⟩
theorem Env0.in1 {P : Program} {w : World} {K : PySem.W.Frag} {mg : Str → Option Value} {base : Heap} {A : Around} {outer : List Env} {s : Shared} {H : Hp} (e : Env0 P w K mg base A outer s H) :
    Env0 P w K mg base A.in1 outer s H := ⟨e.frames, e.mod, e.bs, e.bsz, e.funs, e.frf, e.hok, e.bare⟩
section
variable {X : Cx} {pins : List (Addr × Obj)} {σ : St} {H : Hp} {s s' : Shared}
theorem Inv.env0 (I : Inv X pins σ H s) : Env0 X.prog X.w X.K X.mg X.base X.A X.stack s H :=
  ⟨I.ok.frames, I.ok.mod, I.bs, Nat.le_trans I.ok.bsz I.sz, I.stack, I.stkFree, I.hok, I.bare⟩
theorem Inv.after {Q : VK} {u : Value} (I : Inv X pins σ H s) (h : CE X.stack X.prog X.w H s Q u s') : EP X pins σ Q u s' := by
  obtain ⟨v, H', os, bare, un, hok, r, q⟩ := h
  obtain ⟨hh, g, d, t, os'⟩ := s'
  obtain rfl : os' = s.os := os
  exact ⟨v, H', I.call (h' := hh) (g' := g) (d' := d) (t' := t) (ch := []) un hok bare (fun b z => absurd z (by simp)), r, q⟩
end
def tCall (sp : Sp) (dvs : List V) (E : XK) (t : TA) : TE := fun σ H Q => t σ H fun vs H1 => sp (vs ++ dvs) H1 Q E
def tMeth (C : Addr) (m : Str) (sp : Sp) (dvs : List V) (E : XK) (ta : TE) (t : TA) : TE := fun σ H Q => ta σ H fun x H1 => ∃ a dx fs, x = .ref a ∧ H1 a = some (.ins C dx fs) ∧ fs.lookup m = none ∧
  t σ H1 fun vs H2 => sp (x :: (vs ++ dvs)) H2 Q E
def tMake (C : Addr) (sp : Sp) (dvs : List V) (E : XK) (t : TA) : TE := fun σ H Q => t σ H fun vs H1 => ∀ x dx, H1 x = none → H1 dx = none → dx ≠ x →
  sp (.ref x :: (vs ++ dvs)) (upd (upd H1 dx (.own x)) x (.ins C dx [])) (fun v H2 => v = .non ∧ Q (.ref x) H2) E
def Binds (K : PySem.W.Frag) (fd : FuncData) (ps : List Str) (ds : List Value) : Prop :=
  ∀ (s : Shared) (us : List Value), K.In s.heap → (us ++ ds).length = ps.length → BindsTo s fd ⟨us, []⟩ (ps.zip (us ++ ds))
theorem Binds.all {K : PySem.W.Frag} {fd : FuncData} {ps : List Str} (h : ∀ us : List Value, us.length = ps.length → bindArgs fd ⟨us, []⟩ = pure (ps.zip us)) : Binds K fd ps [] := fun s us _ hl => by
  rw [List.append_nil] at hl ⊢
  exact .of_eq (h us hl)
def Passes (CX : CXT) (X : Cx) (E : XK) : Prop := ∀ (pins : List (Addr × Obj)) (σ : St) (H : Hp) (s : Shared) (e : Value) (s' : Shared), Inv X pins σ H s → CX X.stack H s E e s' → X.xe e s'
section
variable {X : Cx} {CX : CXT} {k : Nat} {f C : Addr} {fd : FuncData} {ps : List Str} {sp : Sp} {dvs : List V} {ds : List Value} {E : XK} {x m : Str} {p pos apos : Pos} {e o : Expr} {es : List Expr} {ta : TE} {t : TA}
theorem run_fn {pins : List (Addr × Obj)} {σ : St} {H : Hp} {s : Shared} {Q : VK} {us : List Value} {vs : List V} (F : FnOk X.prog X.w X.K X.mg X.base CX k f fd ps sp) (hr : Room k X.A) (hb : Binds X.K fd ps ds) (hd : Vals dvs ds) (hx : Passes CX X E)
    (I : Inv X pins σ H s) (r : Vals vs us) (h : sp (vs ++ dvs) H Q E) : wpAny (model X.prog X.w) X.A (call (.ref f) us) (EP X pins σ Q) X.xe s := by
  have r2 : Vals (vs ++ dvs) (us ++ ds) := r.append hd
  have hl : (us ++ ds).length = ps.length := by rw [← r2.length]; exact F.len _ _ _ _ h
  refine wpAny_call (codeAny_mono (F.run X.A X.stack s H ⟨us, []⟩ (us ++ ds) (vs ++ dvs) Q E hr I.env0 (hb s us I.kIn hl) r2 h) fun r s' hq => ?_)
  cases r with
  | error e => exact hx pins σ H s e s' I hq
  | ok fl =>
    cases fl with
    | ret u => exact I.after hq
    | next => exact False.elim hq
    | brk => exact False.elim hq
    | cont => exact False.elim hq
theorem pe_call (F : FnOk X.prog X.w X.K X.mg X.base CX k f fd ps sp) (hr : Room k X.A) (hg : Gl X x) (hm : X.mg x = some (.ref f)) (hk : PySem.W.keepIn X.K (.ref f) = true) (hb : Binds X.K fd ps ds) (hd : Vals dvs ds) (hx : Passes CX X E)
    (ha : PA X (e :: es) t) (hdb : (x == ("__debug__" : Str)) = false := by decide) (he : starEach (e :: es) X.env = (false, eval e X.env) :: starEach es X.env := by rfl) (hpl : (backTo pos (starEach es X.env)).any (·.1) = false := by rfl) :
    PE X (.Call (.Name x p) (e :: es) [] pos) (tCall sp dvs E t) := by
  intro pins s σ H Q I h
  refine wpAny_Call_Name_kw (ld_glob I hg hm ?_ hdb)
  refine PySem.W.callWith_K (h₀ := X.base) I.ok.mod.kin hk (thn (ha pos pins s σ H _ I h) fun us s1 ⟨vs, H1, I1, r, q⟩ => ⟨I1.kIn, ?_⟩) he hpl
  exact run_fn F hr hb hd hx I1 r q
structure Mk (K : PySem.W.Frag) (C f : Addr) : Prop where
  makes : PySem.W.makesIn K C = true
  init : PySem.W.findIn K (.ref C) "__init__" = some (some (.ref f))
  fn : PySem.W.isFn K (.ref f) = true
  kp : PySem.W.keepIn K (.ref C) = true
theorem run_make {pins : List (Addr × Obj)} {σ : St} {H : Hp} {s : Shared} {Q : VK} {us : List Value} {vs : List V} (M : Mk X.K C f) (F : FnOk X.prog X.w X.K X.mg X.base CX k f fd ps sp) (hr : Room (k + 1) X.A) (hb : Binds X.K fd ps ds) (hd : Vals dvs ds)
    (hx : Passes CX X E) (I : Inv X pins σ H s) (r : Vals vs us)
    (h : ∀ x dx, H x = none → H dx = none → dx ≠ x → sp (.ref x :: (vs ++ dvs)) (upd (upd H dx (.own x)) x (.ins C dx [])) (fun v H2 => v = .non ∧ Q (.ref x) H2) E) :
    wpAny (model X.prog X.w) X.A (call (.ref C) us) (EP X pins σ Q) X.xe s := by
  have hq := h (s.heap.objs.size + 1) s.heap.objs.size (I.hok.fresh (Nat.le_succ _)) (I.hok.fresh (Nat.le_refl _)) (Nat.ne_of_lt (Nat.lt_succ_self _))
  have I2 := Inv.made (C := C) I
  have r2 : Vals (V.ref (s.heap.objs.size + 1) :: (vs ++ dvs)) (Value.ref (s.heap.objs.size + 1) :: (us ++ ds)) := .cons rfl (r.append hd)
  have hl : (Value.ref (s.heap.objs.size + 1) :: us ++ ds).length = ps.length := by
    have e := r2.length
    rw [F.len _ _ _ _ hq] at e
    exact e.symm
  refine wpAny_call (make_map (f := f) I.kIn M.makes M.init (beq_iff_eq.mp M.fn) (codeAny_mono (F.run _ X.stack _ _ ⟨Value.ref (s.heap.objs.size + 1) :: us, []⟩ (Value.ref (s.heap.objs.size + 1) :: (us ++ ds)) _ _ E (hr.make C us [])
    (I2.env0.make C us []) (hb _ (Value.ref (s.heap.objs.size + 1) :: us) I2.kIn hl) r2 hq) fun r s' hq' => ?_))
  cases r with
  | error e => exact hx pins σ _ _ e s' I2 hq'
  | ok fl =>
    cases fl with
    | ret u =>
      obtain ⟨v, H', I3, rv, ev, q3⟩ := I2.after hq'
      subst ev
      exact ⟨rv, ⟨V.ref (s.heap.objs.size + 1), H', I3, rfl, q3⟩⟩
    | next => exact False.elim hq'
    | brk => exact False.elim hq'
    | cont => exact False.elim hq'
theorem pe_make (M : Mk X.K C f) (F : FnOk X.prog X.w X.K X.mg X.base CX k f fd ps sp) (hr : Room (k + 1) X.A) (hg : Gl X x) (hm : X.mg x = some (.ref C)) (hb : Binds X.K fd ps ds) (hd : Vals dvs ds) (hx : Passes CX X E)
    (ha : PA X (e :: es) t) (hdb : (x == ("__debug__" : Str)) = false := by decide) (he : starEach (e :: es) X.env = (false, eval e X.env) :: starEach es X.env := by rfl) (hpl : (backTo pos (starEach es X.env)).any (·.1) = false := by rfl) :
    PE X (.Call (.Name x p) (e :: es) [] pos) (tMake C sp dvs E t) := by
  intro pins s σ H Q I h
  refine wpAny_Call_Name_kw (ld_glob I hg hm ?_ hdb)
  refine PySem.W.callWith_K (h₀ := X.base) I.ok.mod.kin M.kp (thn (ha pos pins s σ H _ I h) fun us s1 ⟨vs, H1, I1, r, q⟩ => ⟨I1.kIn, ?_⟩) he hpl
  exact run_make M F hr hb hd hx I1 r q
end
def PK (X : Cx) (kws : List Keyword) (t : TA) : Prop :=
  ∀ (pos : Pos) (pins : List (Addr × Obj)) (s : Shared) (σ : St) (H : Hp) (Q : List V → Hp → Prop), Inv X pins σ H s → t σ H Q → wpAny (model X.prog X.w) X.A (evalAll ((backToKw pos (keywordEach kws X.env)).map (·.2))) (AP X pins σ Q) X.xe s
section
variable {X : Cx} {CX : CXT} {k : Nat} {f C : Addr} {fd : FuncData} {ps ks : List Str} {sp : Sp} {E : XK} {x m : Str} {p pos apos kpos : Pos} {e o : Expr} {es : List Expr} {kws : List Keyword} {te ta : TE} {t tk : TA} {nm : Option Str}
structure KBinds (K : PySem.W.Frag) (fd : FuncData) (ps ks : List Str) (g : List Value → List Value → List Value) (gV : List V → List V → List V) : Prop where
  to : ∀ (s : Shared) (us ws : List Value), K.In s.heap → (g us ws).length = ps.length → BindsTo s fd ⟨us, ks.zip ws⟩ (ps.zip (g us ws))
  rel : ∀ {vs : List V} {us : List Value} {zs : List V} {ws : List Value}, Vals vs us → Vals zs ws → Vals (gV vs zs) (g us ws)
def tCallK (sp : Sp) (gV : List V → List V → List V) (E : XK) (t tk : TA) : TE := fun σ H Q => t σ H fun vs H1 => tk σ H1 fun zs H2 => sp (gV vs zs) H2 Q E
variable {g : List Value → List Value → List Value} {gV : List V → List V → List V}
end
structure FnScope (N P : List Str) (sc : Scope) : Prop where
  kind : sc.kind = .function
  co : sc.isCoroutine = false
  gen : sc.isGenerator = false
  nd : N.Nodup
  pre : N.take P.length = P
  par : ∀ x ∈ P, sc.names.lookup x = some .local ∨ sc.names.lookup x = some .cell
  nofree : ∀ y ∈ sc.names, y.2 ≠ .free
theorem bindL_out {kindOf : Str → Option NameKind} {x : Str} : ∀ {binds : List (Str × Value)} {m : Str → Option Value}, (∀ v, (x, v) ∉ binds) → bindL kindOf binds m x = m x
  | [], _, _ => rfl
  | (n, v) :: r, m, h => by
    unfold bindL
    rw [bindL_out fun w hw => h w (List.mem_cons_of_mem _ hw)]
    split
    · have : x ≠ n := by rintro rfl; exact h v List.mem_cons_self
      simp [this]
    · rfl
theorem bindC_out {kindOf : Str → Option NameKind} {x : Str} : ∀ {binds : List (Str × Value)} {m : Str → Option Value}, (∀ v, (x, v) ∉ binds) → bindC kindOf binds m x = m x
  | [], _, _ => rfl
  | (n, v) :: r, m, h => by
    unfold bindC
    rw [bindC_out fun w hw => h w (List.mem_cons_of_mem _ hw)]
    split
    · rfl
    · have : x ≠ n := by rintro rfl; exact h v List.mem_cons_self
      simp [this]
theorem bindL_get {kindOf : Str → Option NameKind} {x : Str} {v : Value} : ∀ {P : List Str} {vs : List Value} {i : Nat} {m : Str → Option Value}, P.Nodup → P[i]? = some x → vs[i]? = some v → kindOf x = some .local →
    bindL kindOf (P.zip vs) m x = some v
  | [], _, _, _, _, h, _, _ => by simp at h
  | _ :: _, [], _, _, _, _, h, _ => by simp at h
  | p :: P, w :: vs, 0, m, nd, h1, h2, hk => by
    simp at h1 h2; subst h1; subst h2
    show bindL kindOf ((p, w) :: P.zip vs) m p = _
    unfold bindL
    rw [bindL_out fun v hv => (List.nodup_cons.mp nd).1 (List.of_mem_zip hv).1, if_pos hk]
    simp
  | p :: P, w :: vs, i + 1, m, nd, h1, h2, hk => by
    show bindL kindOf ((p, w) :: P.zip vs) m x = _
    unfold bindL
    exact bindL_get (i := i) (List.nodup_cons.mp nd).2 (by simpa using h1) (by simpa using h2) hk
theorem bindC_get {kindOf : Str → Option NameKind} {x : Str} {v : Value} : ∀ {P : List Str} {vs : List Value} {i : Nat} {m : Str → Option Value}, P.Nodup → P[i]? = some x → vs[i]? = some v → kindOf x ≠ some .local →
    bindC kindOf (P.zip vs) m x = some v
  | [], _, _, _, _, h, _, _ => by simp at h
  | _ :: _, [], _, _, _, _, h, _ => by simp at h
  | p :: P, w :: vs, 0, m, nd, h1, h2, hk => by
    simp at h1 h2; subst h1; subst h2
    show bindC kindOf ((p, w) :: P.zip vs) m p = _
    unfold bindC
    rw [bindC_out fun v hv => (List.nodup_cons.mp nd).1 (List.of_mem_zip hv).1, if_neg hk]
    simp
  | p :: P, w :: vs, i + 1, m, nd, h1, h2, hk => by
    show bindC kindOf ((p, w) :: P.zip vs) m x = _
    unfold bindC
    exact bindC_get (i := i) (List.nodup_cons.mp nd).2 (by simpa using h1) (by simpa using h2) hk
def start (N : List Str) (vs : List V) : St := vs.map some ++ List.replicate (N.length - vs.length) none
def cxOf (CX : CXT) (P : Program) (w : World) (K : PySem.W.Frag) (mg : Str → Option Value) (base : Heap) (N : List Str) (qual : Str) (scope : Scope) (f : Addr) (cd : Value) (A : Around) (outer : List Env) (s : Shared) (H : Hp) (E : XK) : Cx where
  prog := P
  w := w
  K := K
  mg := mg
  base := base
  A := A.deeper (envOfC qual scope s.heap.objs.size f cd)
  N := N
  s₀ := s
  H₀ := H
  env := envOfC qual scope s.heap.objs.size f cd
  outer := outer
  stack := envOfC qual scope s.heap.objs.size f cd :: outer
  ex := []
  calm := true
  fn := fun _ => true
  pn := []
  xe := fun e s' => wpAny (model P w) (A.deeper (envOfC qual scope s.heap.objs.size f cd)) (leaving (envOfC qual scope s.heap.objs.size f cd) e) (fun _ s'' => CX outer H s E e s'') (fun e' s'' => CX outer H s E e' s'') s'
theorem cell_has {sc : Scope} {n : Nat} {x : Str} (h : sc.names.lookup x = some .cell) : ∃ c, (cellsFrom n sc.names []).lookup x = some c := by
  have q := PySem.W.cellsFrom_some sc.names n [] (.inl h)
  exact Option.isSome_iff_exists.mp q
theorem inv_start {CX : CXT} {P : Program} {w : World} {K : PySem.W.Frag} {mg : Str → Option Value} {base : Heap} {N ps : List Str} {qual : Str} {scope : Scope} {f : Addr} {cd : Value} {A : Around} {outer : List Env} {s s1 : Shared} {H : Hp} {E : XK} {us : List Value} {vs : List V}
    (S : FnScope N ps scope) (hd : A.handled = none) (e0 : Env0 P w K mg base A outer s H) (hl : vs.length = ps.length) (r : Vals vs us)
    (x : InCallC s s.heap.objs.size (bindL (envOfC qual scope s.heap.objs.size f cd).kindOf (ps.zip us) fun _ => none) (cellsFrom (s.heap.objs.size + 1) scope.names []) (bindC (envOfC qual scope s.heap.objs.size f cd).kindOf (ps.zip us) fun _ => none) s1) :
    Inv (cxOf CX P w K mg base N qual scope f cd A outer s H E) [] (start N vs) H s1 := by
  have hpl : ps.length ≤ N.length := by have := congrArg List.length S.pre; rw [List.length_take] at this; omega
  obtain ⟨h1, tk, rfl, hk⟩ := x.done
  have noA : ∀ b : Addr, b ∉ (cxOf CX P w K mg base N qual scope f cd A outer s H E).ex := fun b z => absurd (show b ∈ ([] : List Addr) from z) (by simp)
  refine ⟨⟨e0.mod, S.kind, rfl, rfl, Nat.le_refl _, fun y z c h1 h2 => ?_, fun y hy => ?_, fun y c _ h => ?_, fun _ => hd, Around.frames_deeper e0.frames, .inr ⟨rfl, rfl⟩, fun b z => absurd z (noA b), e0.bs, e0.bsz, fun b _ _ => noA b, fun b z => absurd z (noA b), e0.funs, e0.frf⟩,
    rfl, e0.bare, Un.kept hk, ⟨_, x.toInCall.ns, fun i y v h1 h2 h3 => ?_⟩, fun y c h => ⟨_, x.cell y c h⟩, e0.hok.fresh (Nat.le_refl _), fun y c h => ?_, fun p hp => absurd (show p ∈ ([] : List (Addr × Obj)) from hp) (by simp), e0.hok.kept hk, ?_⟩
  · exact name_of_addr x.apart (PySem.mem_of_lookup h1) (PySem.mem_of_lookup h2)
  · have hy : scope.names.lookup y = some .cell ∨ scope.names.lookup y = some .free := hy
    rcases hy with hy | hy
    · exact cell_has hy
    · exact absurd rfl (S.nofree _ (PySem.mem_of_lookup hy))
  · exact Nat.le_of_lt (x.above y c (PySem.mem_of_lookup h))
  · have hi : i < vs.length := by
      unfold start at h2
      by_cases hi : i < vs.length
      · exact hi
      · rw [List.getElem?_append_right (by simpa using hi)] at h2
        rw [List.getElem?_replicate] at h2
        split at h2 <;> cases h2
    have ha : vs[i]? = some v := by
      unfold start at h2
      rw [List.getElem?_append_left (by simpa using hi), List.getElem?_map] at h2
      cases e : vs[i]? with
      | none => rw [e] at h2; cases h2
      | some a => rw [e] at h2; cases h2; rfl
    obtain ⟨u, hu, rv⟩ := r.get ha
    have hp : ps[i]? = some y := by
      rw [← S.pre, List.getElem?_take_of_lt (by omega)]; exact h1
    have ndP : ps.Nodup := by rw [← S.pre]; exact S.nd.sublist (List.take_sublist _ _)
    refine ⟨u, rv, ?_⟩
    rcases S.par y (List.mem_of_getElem? hp) with k | k
    · exact .inl ⟨k, bindL_get ndP hp hu k⟩
    · obtain ⟨c, e⟩ := cell_has (n := s.heap.objs.size + 1) k
      refine .inr ⟨.inl k, c, e, ?_⟩
      have q := x.cell y c e
      rw [bindC_get ndP hp hu (by show scope.names.lookup y ≠ _; rw [k]; decide)] at q
      exact q
  · exact e0.hok.fresh (Nat.le_of_lt (x.above y c (PySem.mem_of_lookup h)))
  · unfold start
    show _ = N.length
    rw [List.length_append, List.length_map, List.length_replicate]
    omega
theorem fn_of {CX : CXT} {P : Program} {w : World} {K : PySem.W.Frag} {mg : Str → Option Value} {base : Heap} {k : Nat} {f : Addr} {name qual : Str} {params : Arguments} {body : List Stmt} {scope : Scope} {dV kV doc pm cdv ct oc : Value} {an od : Option Addr}
    {osl : Array (Option Value)} {N ps : List Str} {sp : Sp} (lk : K.lookup f = some ⟨oc, od, .func (PySem.W.fnOf name qual params body scope dV kV doc pm an cdv ct), osl⟩) (hcd : PySem.W.codeIn K cdv qual = true) (S : FnScope N ps scope)
    (len : ∀ vs H Q E, sp vs H Q E → vs.length = ps.length)
    (hbody : ∀ (A : Around) (outer : List Env) (s : Shared) (H : Hp) (vs : List V) (Q : VK) (E : XK), Room k (A.deeper (envOfC qual scope s.heap.objs.size f cdv)) → sp vs H Q E →
      ∃ t, PSs (cxOf CX P w K mg base N qual scope f cdv A outer s H E) body t ∧ t { nx := fun _ H' => Q .non H', rt := Q } (start N vs) H) :
    FnOk P w K mg base CX (k + 1) f (PySem.W.fnOf name qual params body scope dV kV doc pm an cdv ct) ps sp := by
  refine ⟨len, fun A outer s H args us vs Q E hr e0 hb r hsp => ?_⟩
  have hl := len _ _ _ _ hsp
  have KX : K.In s.heap := e0.mod.kin.keeps fun b o e => (e0.bs b o e).1
  have lim : s.heap.NoLimit := e0.mod.nolimit.keeps fun b o e => (e0.bs b o e).1
  have hkind : ∀ y ∈ ps.zip us, scope.names.lookup y.1 = some .local ∨ (scope.names.lookup y.1 = some .cell ∧ ((cellsFrom (s.heap.objs.size + 1) scope.names []).lookup y.1).isSome = true) := fun ⟨n, v⟩ hy => by
    rcases S.par n (List.of_mem_zip hy).1 with q | q
    · exact .inl q
    · exact .inr ⟨q, PySem.W.cellsFrom_some _ _ _ (.inl q)⟩
  refine codeAny_call_function hr.depth (KX _ _ lk) rfl S.co S.gen rfl (PySem.W.codeRec_of KX hcd) (hb _ _ _ _ ?_)
  refine wpAny_newFunctionEnv_cells S.kind hkind fun env he s1 x => ?_
  subst he
  refine ⟨lim.keeps x.toInCall.keep, codeAny_func ?_⟩
  obtain ⟨t, ht, hq⟩ := hbody A outer s H vs Q E (hr.deeper _) hsp
  have I : Inv (cxOf CX P w K mg base N qual scope f cdv A outer s H E) [] (start N vs) H s1 := inv_start S hr.hd e0 hl r x
  refine wpAny_mono (ht [] s1 (start N vs) H _ I hq) (fun fl s' hs => ?_) fun e s' hs => hs
  have fin : ∀ {σ' : St} {H' : Hp} {v : V} {u : Value}, Inv (cxOf CX P w K mg base N qual scope f cdv A outer s H E) [] σ' H' s' → RelV v u → Q v H' → CE outer P w H s Q u s' :=
    fun {σ' H' v u} J rv q => ⟨v, H', J.os, J.bare, J.base, J.hok, rv, q⟩
  cases fl with
  | ret u =>
    obtain ⟨v, σ', H', J, rv, q⟩ := hs
    exact fin J rv q
  | next =>
    obtain ⟨σ', H', J, q⟩ := hs
    exact fin (v := V.non) (u := Value.none) J rfl q
  | brk =>
    obtain ⟨_, _, _, q⟩ := hs
    exact False.elim q
  | cont =>
    obtain ⟨_, _, _, q⟩ := hs
    exact False.elim q
end L2
namespace L2
open PySem PySem.Spec PyProof.Rows
section
variable {X : Cx} {x : Str} {p pos : Pos} {e : Expr} {es : List Expr} {t : TA} {id T : String} {r : List V → Hp → VK → Prop}
def tCB (r : List V → Hp → VK → Prop) (t : TA) : TE := fun σ H Q => t σ H fun vs H1 => r vs H1 Q
theorem pe_callB (hc : CallR X (.builtin id) r) (hg : Gl X x) (hm : X.mg x = none) (hv : bootBuiltins x = some (.builtin id)) (ha : PA X (e :: es) t) (hn : x ≠ "__name__" := by decide) (hdb : (x == ("__debug__" : Str)) = false := by decide)
    (he : starEach (e :: es) X.env = (false, eval e X.env) :: starEach es X.env := by rfl) (hpl : (backTo pos (starEach es X.env)).any (·.1) = false := by rfl) : PE X (.Call (.Name x p) (e :: es) [] pos) (tCB r t) := by
  intro pins s σ H Q I h
  refine wpAny_Call_Name_kw (ld_blt I hg hm hv ?_ hn hdb)
  exact PyProof.Rows.callWith_builtin1 (thn (ha pos pins s σ H _ I h) fun us s1 ⟨vs, H1, I1, r1, q1⟩ => hc pins s1 σ H1 vs us Q I1 r1 q1) he hpl
theorem pe_callTy (hc : CallR X (.type T) r) (hg : Gl X x) (hm : X.mg x = none) (hv : bootBuiltins x = some (.type T)) (ha : PA X (e :: es) t) (hn : x ≠ "__name__" := by decide) (hdb : (x == ("__debug__" : Str)) = false := by decide)
    (he : starEach (e :: es) X.env = (false, eval e X.env) :: starEach es X.env := by rfl) (hpl : (backTo pos (starEach es X.env)).any (·.1) = false := by rfl) : PE X (.Call (.Name x p) (e :: es) [] pos) (tCB r t) := by
  intro pins s σ H Q I h
  refine wpAny_Call_Name_kw (ld_blt I hg hm hv ?_ hn hdb)
  exact PyProof.Rows.callWith_type1 (thn (ha pos pins s σ H _ I h) fun us s1 ⟨vs, H1, I1, r1, q1⟩ => hc pins s1 σ H1 vs us Q I1 r1 q1) he hpl
end
end L2
namespace HT
open PySem PyProof.Rows
def lexLt : List Int → List Int → Bool
  | [], [] => false
  | [], _ :: _ => true
  | _ :: _, [] => false
  | x :: xs, y :: ys => if x = y then lexLt xs ys else decide (x < y)
section
open PySem.SeqAt
open PySem.AutoSeq1 (wpAny_loadPart')
open PySem.MeetsSeq PySem.MeetsSeq2 PySem.MeetsSeq3
end
section
variable {prog : Program} {w : World} {A : Around} {E : Value → Shared → Prop} {s : Shared}
def sIx (n d : Nat) : Option Int → Nat
  | none => d
  | some v => if v < 0 then (v + (n : Int)).toNat else min v.toNat n
theorem sIx_none (n d : Nat) : sIx n d none = d := rfl
theorem sIx_nat (n d k : Nat) : sIx n d (some (k : Int)) = min k n := by
  show (if (k : Int) < 0 then ((k : Int) + (n : Int)).toNat else min (k : Int).toNat n) = min k n
  rw [if_neg (by omega), Int.toNat_natCast]
end
end HT
namespace L2
open PySem PySem.Spec PyProof.Rows
abbrev TO := St → Hp → (Option Int → Hp → Prop) → Prop
def PO (X : Cx) (e : Option Expr) (t : TO) : Prop :=
  ∀ (pins : List (Addr × Obj)) (s : Shared) (σ : St) (H : Hp) (Q : Option Int → Hp → Prop), Inv X pins σ H s → t σ H Q →
    wpAny (model X.prog X.w) X.A (evalPart e X.env) (fun u s' => ∃ o H', Inv X pins σ H' s' ∧ IsPart u o ∧ Q o H') X.xe s
def tNoPart : TO := fun _ H Q => Q none H
def tPart (t : TE) : TO := fun σ H Q => t σ H fun x H1 => ∃ i, x = .int i ∧ Q (some i) H1
section
variable {X : Cx} {e : Expr} {te : TE} {lo hi : Option Expr} {tl th : TO} {pos p2 : Pos}
theorem po_none : PO X none tNoPart := by
  intro pins s σ H Q I h
  rw [evalPart_none]
  exact wpAny_pure ⟨none, H, I, .none, h⟩
theorem po_some (h : PE X e te) : PO X (some e) (tPart te) := by
  intro pins s σ H Q I hw
  rw [evalPart_some]
  refine thn (h pins s σ H _ I hw) fun u s1 ⟨x, H1, I1, r1, q1⟩ => ?_
  obtain ⟨i, rfl, q⟩ := q1
  obtain ⟨t, rfl⟩ := r1
  exact ⟨some i, H1, I1, .int i t, q⟩
def SlR (X : Cx) (r : V → Option Int → Option Int → Hp → VK → Prop) : Prop :=
  ∀ (pins : List (Addr × Obj)) (s : Shared) (σ : St) (H : Hp) (x : V) (v vl vu : Value) (lo hi : Option Int) (sl : Addr) (Q : VK), Inv X pins σ H s → RelV x v → s.heap.IsSliceOf sl vl vu .none → IsPart vl lo → IsPart vu hi → r x lo hi H Q →
    ∃ T id, typeLookup (.type T) "__getitem__" = pure (some (.builtin id)) ∧ s.TypeIs v T ∧ wpAny (model X.prog X.w) X.A (getItem v (.ref sl)) (EP X pins σ Q) X.xe s
def tSl (r : V → Option Int → Option Int → Hp → VK → Prop) (te : TE) (tl th : TO) : TE := fun σ H Q => te σ H fun x H1 => tl σ H1 fun l H2 => th σ H2 fun u H3 => r x l u H3 Q
theorem pe_slice {r : V → Option Int → Option Int → Hp → VK → Prop} (hr : SlR X r) (he : PE X e te) (hl : PO X lo tl) (hu : PO X hi th) : PE X (.Subscript e (.Slice lo hi none p2) pos) (tSl r te tl th) := by
  intro pins s σ H Q I h
  refine Subscript_ (thn (he pins s σ H _ I h) fun v s1 ⟨x, H1, I1, r1, q1⟩ => ?_)
  refine wpAny_Slice (thn (hl pins s1 σ H1 _ I1 q1) fun vl s2 ⟨l, H2, I2, pl, q2⟩ => thn (hu pins s2 σ H2 _ I2 q2) fun vu s3 ⟨u, H3, I3, pu, q3⟩ => ?_)
  rw [evalPart_none]
  refine wpAny_pure ?_
  have I4 : Inv X pins σ H3 { s3 with heap := s3.heap.push { cls := .type "slice", data := .fields #[vl, vu, .none] } } := I3.kept (t' := s3.toks) fun b ob q => Heap.get?_push_of_some _ q
  obtain ⟨T, id, hT, ht, hg⟩ := hr pins { s3 with heap := s3.heap.push { cls := .type "slice", data := .fields #[vl, vu, .none] } } σ H3 x v vl vu l u s3.heap.objs.size Q I4 r1 (Heap.IsSliceOf.new ..) pl pu q3
  show wpAny (model X.prog X.w) X.A (subscriptTail e (.Slice lo hi none p2) v (.ref s3.heap.objs.size)) (EP X pins σ Q) X.xe { s3 with heap := s3.heap.push { cls := .type "slice", data := .fields #[vl, vu, .none] } }
  exact tail_any (ops := [.ref s3.heap.objs.size, v]) ht hT hg (by with_unfolding_all rfl)
def cutV (xs : List V) (lo hi : Option Int) : List V := (xs.drop (HT.sIx xs.length 0 lo)).take (HT.sIx xs.length xs.length hi - HT.sIx xs.length 0 lo)
theorem cutV_length (xs : List V) (lo hi : Option Int) : (cutV xs lo hi).length ≤ xs.length := by
  unfold cutV
  rw [List.length_take, List.length_drop]
  omega
def rSlT (K : PySem.W.Frag) : V → Option Int → Option Int → Hp → VK → Prop := fun x lo hi H Q => ∃ a xs, x = .ref a ∧ SqT K H a xs ∧
  ¬ (HT.sIx xs.length 0 lo = 0 ∧ HT.sIx xs.length xs.length hi = xs.length) ∧ ∀ p, H p = none → Q (.ref p) (upd H p (.tup (cutV xs lo hi)))
def rLtT (K : PySem.W.Frag) : R2 := fun x y H Q => ∃ a b ns ms, x = .ref a ∧ y = .ref b ∧ SqT K H a (ns.map V.int) ∧ SqT K H b (ms.map V.int) ∧ Q (.bl (HT.lexLt ns ms)) H
def rCatT (K : PySem.W.Frag) : R2 := fun x y H Q => ∃ a b xs ys, x = .ref a ∧ y = .ref b ∧ SqT K H a xs ∧ SqT K H b ys ∧ xs ≠ [] ∧ xs.length + ys.length ≤ sizeLine ∧
  (ys = [] → Q (.ref a) H) ∧ (ys ≠ [] → ∀ p, H p = none → Q (.ref p) (upd H p (.tup (xs ++ ys))))
end
end L2
namespace L2
open PySem PySem.Spec PyProof.Rows
def ixN (n : Nat) (i : Int) : Option Nat := if 0 ≤ i then (if i < n then some i.toNat else none) else if -(n : Int) ≤ i then some (i + n).toNat else none
def atI {α : Type} (xs : List α) (i : Int) : Option α := (ixN xs.length i).bind fun j => xs[j]?
theorem ixN_seq {n : Nat} {i : Int} {j : Nat} (h : ixN n i = some j) : seqIndex? i n = some j ∧ j < n ∧ -(n : Int) ≤ i ∧ i < n := by
  unfold ixN at h
  by_cases h0 : 0 ≤ i
  · rw [if_pos h0] at h
    by_cases h1 : i < n
    · rw [if_pos h1] at h
      have e : i.toNat = j := Option.some.inj h
      exact ⟨by rw [seqIndex_of h0 h1, e], by omega, by omega, h1⟩
    · rw [if_neg h1] at h; cases h
  · rw [if_neg h0] at h
    by_cases h1 : -(n : Int) ≤ i
    · rw [if_pos h1] at h
      have e : (i + n).toNat = j := Option.some.inj h
      exact ⟨by rw [seqIndex_neg (by omega) h1, e], by omega, h1, by omega⟩
    · rw [if_neg h1] at h; cases h
theorem atI_get {α : Type} {xs : List α} {i : Int} {v : α} (h : atI xs i = some v) : ∃ j, seqIndex? i xs.length = some j ∧ xs[j]? = some v ∧ j < xs.length ∧ -(xs.length : Int) ≤ i ∧ i < xs.length := by
  unfold atI at h
  cases e : ixN xs.length i with
  | none => rw [e] at h; cases h
  | some j =>
    rw [e] at h
    obtain ⟨h1, h2, h3, h4⟩ := ixN_seq e
    exact ⟨j, h1, h, h2, h3, h4⟩
theorem atI_nat {α : Type} {xs : List α} {j : Nat} {v : α} (h : xs[j]? = some v) : atI xs (j : Int) = some v := by
  have hj : j < xs.length := (List.getElem?_eq_some_iff.mp h).1
  have e : ixN xs.length (j : Int) = some j := by
    unfold ixN
    rw [if_pos (by omega), if_pos (by omega)]; simp
  unfold atI; rw [e]; exact h
def PlainIx (b : Expr) : Prop := ∀ o i, subscripted b false o i = operate [o, i] (getItem o i)
def IxR (X : Cx) (r : R2) : Prop :=
  ∀ (value slice : Expr) (pins : List (Addr × Obj)) (s : Shared) (σ : St) (H : Hp) (x y : V) (v u : Value) (Q : VK), Inv X pins σ H s → RelV x v → RelV y u → r x y H Q →
    subscripted slice false v u = operate [v, u] (getItem v u) → wpAny (model X.prog X.w) X.A (subscriptTail value slice v u) (EP X pins σ Q) X.xe s
def MtR (X : Cx) (id : String) (r : V → List V → Hp → VK → Prop) : Prop :=
  ∀ (pins : List (Addr × Obj)) (s : Shared) (σ : St) (H : Hp) (x : V) (xs : List V) (v : Value) (us : List Value) (Q : VK), Inv X pins σ H s → RelV x v → Vals xs us → r x xs H Q →
    wpAny (model X.prog X.w) X.A (call (.builtin id) (v :: us)) (EP X pins σ Q) X.xe s
section
variable {X : Cx} {a b : Expr} {ta tb : TE} {pos : Pos}
theorem pe_ix {r : R2} (hr : IxR X r) (ha : PE X a ta) (hb : PE X b tb) (hs : PlainIx b) : PE X (.Subscript a b pos) (tOp r ta tb) := by
  intro pins s σ H Q I h
  exact Subscript_ (binT ha hb I h fun v u s2 x y H2 I2 rx ry q => hr a b pins s2 σ H2 x y v u Q I2 rx ry q (hs _ _))
def rIxL (K : PySem.W.Frag) : R2 := fun x y H Q => ∃ p xs i v, x = .ref p ∧ y = .int i ∧ SqL K H p xs ∧ atI xs i = some v ∧ Q v H
def rIxT (K : PySem.W.Frag) : R2 := fun x y H Q => ∃ p xs i v, x = .ref p ∧ y = .int i ∧ SqT K H p xs ∧ atI xs i = some v ∧ Q v H
def rIxS : R2 := fun x y H Q => ∃ z i c, x = .str z ∧ y = .int i ∧ z.length ≤ sizeLine ∧ atI z.cps.toList i = some c ∧ Q (.str ⟨#[c]⟩) H
theorem ix_list : IxR X (rIxL X.K) := by
  intro value slice pins s σ H x y v u Q I rx ry h hs
  obtain ⟨p, xs, i, z, rfl, rfl, hq, he, q⟩ := h
  cases rx
  obtain ⟨t, rfl⟩ := ry
  obtain ⟨its, r, pl, hz⟩ := I.list hq
  obtain ⟨j, h1, h2, h3, h4, h5⟩ := atI_get he
  obtain ⟨w, ew, rw'⟩ := r.get h2
  have hl := r.length
  have hn := line63
  have fin : EP X pins σ Q w s := ⟨z, H, I, rw', q⟩
  by_cases h0 : 0 ≤ i
  · have hj : i.toNat = j := by
      rw [seqIndex_of h0 h5] at h1
      exact Option.some.inj h1
    exact item_listR pl.isList h0 (by omega) (by rw [hj]; simpa using ew) fin hs
  · have hj : (i + (its.toArray.size : Int)).toNat = j := by
      rw [seqIndex_neg (by omega) h4] at h1
      rw [List.size_toArray, ← hl]
      exact Option.some.inj h1
    exact subscriptTail_builtinR (x := w) pl.isList.typeIs slot_list_getitem.lookup
      (wpAny_getItem_list_neg (Q := fun r s' => r = w ∧ EP X pins σ Q r s') pl.isList (by omega) (by rw [List.size_toArray] <;> omega) (by omega) (by rw [hj]; simpa using ew) ⟨rfl, fin⟩) hs
theorem ix_tup : IxR X (rIxT X.K) := by
  intro value slice pins s σ H x y v u Q I rx ry h hs
  obtain ⟨p, xs, i, z, rfl, rfl, hq, he, q⟩ := h
  cases rx
  obtain ⟨t, rfl⟩ := ry
  obtain ⟨its, r, pl, hz⟩ := I.tuple hq
  obtain ⟨j, h1, h2, h3, h4, h5⟩ := atI_get he
  obtain ⟨w, ew, rw'⟩ := r.get h2
  have hl := r.length
  have hn := line63
  have fin : EP X pins σ Q w s := ⟨z, H, I, rw', q⟩
  exact subscriptTail_builtinR (x := w) pl.typeIs slot_tuple_getitem.lookup
    (getItem_tuple (j := j) (Q := fun r s' => r = w ∧ EP X pins σ Q r s') pl (by omega) (by omega) (by rw [List.size_toArray, ← hl]; exact h1) (by simpa using ew) ⟨rfl, fin⟩) hs
def rIx (K : PySem.W.Frag) : R2 := fun x y H Q => rIxL K x y H Q ∨ rIxT K x y H Q ∨ rIxS x y H Q
theorem Inv.lst {pins : List (Addr × Obj)} {σ : St} {H : Hp} {s : Shared} {p : Addr} {xs : List V} (I : Inv X pins σ H s) (h : H p = some (.lst xs)) :
    ∃ (its : List Value) (n : Nat), Vals xs its ∧ s.heap.get? p = some { cls := .type "list", data := .seq its.toArray n } ∧ xs.length ≤ sizeLine := by
  obtain ⟨z, its, n, r, e⟩ := I.hok p _ h
  exact ⟨its, n, r, e, z⟩
def rSetL : V → V → V → Hp → (Hp → Prop) → Prop := fun o i v H Q => ∃ p xs k j, o = .ref p ∧ i = .int k ∧ H p = some (.lst xs) ∧ ixN xs.length k = some j ∧ Q (upd H p (.lst (xs.set j v)))
theorem slice_bounds (lo hi : Option Int) (n : Nat) : (sliceBounds lo hi none n).1 = ((HT.sIx n 0 lo : Nat) : Int) ∧ (sliceBounds lo hi none n).2.1 = ((HT.sIx n n hi : Nat) : Int) ∧ (sliceBounds lo hi none n).2.2 = 1 := by
  refine ⟨?_, ?_, rfl⟩
  · cases lo with
    | none => simp [sliceBounds, HT.sIx]
    | some i =>
      simp only [sliceBounds, HT.sIx, Option.getD_none, show (1 : Int) > 0 by decide, if_true]
      by_cases h : i < 0
      · simp only [h, if_true] <;> omega
      · simp only [h, if_false] <;> omega
  · cases hi with
    | none => simp [sliceBounds, HT.sIx]
    | some i =>
      simp only [sliceBounds, HT.sIx, Option.getD_none, show (1 : Int) > 0 by decide, if_true]
      by_cases h : i < 0
      · simp only [h, if_true] <;> omega
      · simp only [h, if_false] <;> omega
theorem slicePick_cut (its : List Value) (lo hi : Option Int) : slicePick its.toArray lo hi none = ((its.drop (HT.sIx its.length 0 lo)).take (HT.sIx its.length its.length hi - HT.sIx its.length 0 lo)).toArray := by
  obtain ⟨h1, h2, h3⟩ := slice_bounds lo hi its.toArray.size
  unfold slicePick
  rw [h1, h2, h3]
  simp only [sliceRange_one, pick_run, List.size_toArray] <;> rfl
def rSlL (K : PySem.W.Frag) : V → Option Int → Option Int → Hp → VK → Prop := fun x lo hi H Q => ∃ a xs, x = .ref a ∧ SqL K H a xs ∧ ∀ p, H p = none → Q (.ref p) (upd H p (.lst (cutV xs lo hi)))
theorem sl_list : SlR X (rSlL X.K) := by
  intro pins s σ H x v vl vu lo hi sl Q I rx hs pl pu h
  obtain ⟨a, xs, rfl, hx, q⟩ := h
  cases rx
  obtain ⟨its, r, ht, hz⟩ := I.list hx
  have hlen := r.length
  refine ⟨"list", _, slot_list_getitem.lookup, ht.isList.typeIs, ?_⟩
  refine wpAny_getItem_list_slice ht.isList hs pl pu .none (by simp) ?_ (by rw [List.size_toArray] <;> omega)
  rw [slicePick_cut, ← hlen]
  refine ⟨.ref s.heap.objs.size, _, I.laid (t' := s.toks) (o := .lst (cutV xs lo hi)) (fun b ob q => Heap.get?_push_of_some _ q) (Nat.le_refl _) ?_, rfl, q _ (I.hok.fresh (Nat.le_refl _))⟩
  exact ⟨Nat.le_trans (cutV_length xs lo hi) hz, _, 0, (r.drop (HT.sIx xs.length 0 lo)).take (HT.sIx xs.length xs.length hi - HT.sIx xs.length 0 lo), Heap.get?_push_size _ rfl⟩
def flatV : V → Bool
  | .non => true
  | .bl _ => true
  | .int _ => true
  | .str _ => true
  | _ => false
def eqV : V → V → Bool
  | .non, .non => true
  | .bl a, .bl b => a == b
  | .bl a, .int b => (if a then 1 else 0) == b
  | .int a, .bl b => a == (if b then 1 else 0)
  | .int a, .int b => a == b
  | .str a, .str b => a == b
  | _, _ => false
theorem eqAt_V {A : Around} {s : Shared} {y x : V} {u v : Value} (ry : RelV y u) (rx : RelV x v) (fy : flatV y = true) (fx : flatV x = true) : SeqAt.EqAt A s u v (eqV y x) := by
  cases y with
  | non =>
    cases ry
    cases x with
    | non => cases rx; exact SeqAt.EqAt.same _
    | bl b => cases rx; exact SeqAt.EqAt.none_bool b
    | int b => obtain ⟨t, rfl⟩ := rx; exact SeqAt.EqAt.none_int b t
    | str b => obtain ⟨t, rfl⟩ := rx; exact SeqAt.EqAt.none_str b t
    | _ => exact absurd (show false = true from fx) Bool.false_ne_true
  | bl a =>
    cases ry
    cases x with
    | non => cases rx; exact SeqAt.EqAt.bool_none a
    | bl b => cases rx; exact SeqAt.EqAt.bool_bool a b
    | int b => obtain ⟨t, rfl⟩ := rx; exact SeqAt.EqAt.bool_int a b t
    | str b => obtain ⟨t, rfl⟩ := rx; exact SeqAt.EqAt.bool_str a b t
    | _ => exact absurd (show false = true from fx) Bool.false_ne_true
  | int a =>
    obtain ⟨t', rfl⟩ := ry
    cases x with
    | non => cases rx; exact SeqAt.EqAt.int_none a t'
    | bl b => cases rx; exact SeqAt.EqAt.int_bool a t' b
    | int b => obtain ⟨t, rfl⟩ := rx; exact SeqAt.EqAt.int_int a t' b t
    | str b => obtain ⟨t, rfl⟩ := rx; exact SeqAt.EqAt.int_str a t' b t
    | _ => exact absurd (show false = true from fx) Bool.false_ne_true
  | str a =>
    obtain ⟨t', rfl⟩ := ry
    cases x with
    | non => cases rx; exact SeqAt.EqAt.str_none a t'
    | bl b => cases rx; exact SeqAt.EqAt.str_bool a t' b
    | int b => obtain ⟨t, rfl⟩ := rx; exact SeqAt.EqAt.str_int a t' b t
    | str b => obtain ⟨t, rfl⟩ := rx; exact SeqAt.EqAt.str_str a t' b t
    | _ => exact absurd (show false = true from fx) Bool.false_ne_true
  | _ => exact absurd (show false = true from fy) Bool.false_ne_true
def eqU (x : V) (u : Value) : Bool := match u with
  | .none => eqV .non x
  | .bool b => eqV (.bl b) x
  | .int i _ => eqV (.int i) x
  | .str z _ => eqV (.str z) x
  | _ => false
def inV (x : V) (xs : List V) : Bool := xs.any fun y => eqV y x
def rIn (K : PySem.W.Frag) (neg : Bool) : R2 := fun x y H Q => ∃ p xs, y = .ref p ∧ (SqL K H p xs ∨ SqT K H p xs) ∧ flatV x = true ∧ xs.all flatV = true ∧ Q (.bl (if neg then !inV x xs else inV x xs)) H
theorem call_len_seq : CallR X (.builtin "len") (fun xs H Q => ∃ p ys, xs = [.ref p] ∧ (SqL X.K H p ys ∨ SqT X.K H p ys) ∧ Q (.int ys.length) H) := by
  intro pins s σ H xs us Q I r h
  obtain ⟨p, ys, rfl, hq, q⟩ := h
  obtain ⟨u, rfl, rx⟩ := vals1 r
  cases rx
  have hn := line63
  rcases hq with hq | hq
  · obtain ⟨its, r', pl, hz⟩ := I.list hq
    have hlen := r'.length
    exact Calls.call_len_list pl.isList (by simp only [List.size_toArray] <;> omega) ⟨.int ys.length, H, I.tok _, ⟨s.toks + 1, by rw [List.size_toArray, hlen]⟩, q⟩
  · obtain ⟨its, r', pl, hz⟩ := I.tuple hq
    have hlen := r'.length
    exact len_tuple pl (by simp only [List.size_toArray] <;> omega) ⟨.int ys.length, H, I.tok _, ⟨s.toks + 1, by rw [List.size_toArray, hlen]⟩, q⟩
theorem call_list_of : CallR X (.type "list") (fun xs H Q => ∃ p ys, xs = [.ref p] ∧ (SqL X.K H p ys ∨ SqT X.K H p ys) ∧ ∀ l, H l = none → Q (.ref l) (upd H l (.lst ys))) := by
  intro pins s σ H xs us Q I r h
  obtain ⟨p, ys, rfl, hq, q⟩ := h
  obtain ⟨u, rfl, rx⟩ := vals1 r
  cases rx
  have fin : ∀ (its : List Value), Vals ys its → ys.length ≤ sizeLine → ∀ (h' : Heap) (c' : Nat), (∀ b o', s.heap.get? b = some o' → h'.get? b = some o') →
      h'.get? s.heap.objs.size = some { cls := .type "list", dict := none, data := .seq its.toArray c', slots := #[] } → EP X pins σ Q (.ref s.heap.objs.size) { s with heap := h' } := fun its r' hz h' c' kp e =>
    ⟨.ref s.heap.objs.size, _, I.laid (t' := s.toks) kp (Nat.le_refl _) (show ObjOk X.prog X.w _ h' _ (.lst ys) from ⟨hz, its, c', r', e⟩), rfl, q _ (I.hok.fresh (Nat.le_refl _))⟩
  rcases hq with hq | hq
  · obtain ⟨its, r', pl, hz⟩ := I.list hq
    have hlen := r'.length
    obtain ⟨o, ho, hc, n, hd⟩ := pl.isList
    exact call_list_seq p (.inl rfl) ho hc hd (fun h' c' kp e => fin its r' hz h' c' kp e) (by simp only [List.size_toArray] <;> omega)
  · obtain ⟨its, r', pl, hz⟩ := I.tuple hq
    have hlen := r'.length
    obtain ⟨o, ho, hc, n, hd⟩ := pl
    exact call_list_seq p (.inr rfl) ho hc hd (fun h' c' kp e => fin its r' hz h' c' kp e) (by simp only [List.size_toArray] <;> omega)
theorem call_tuple_of : CallR X (.type "tuple") (fun xs H Q => ∃ p ys, xs = [.ref p] ∧ ((SqL X.K H p ys ∧ ∀ l, H l = none → Q (.ref l) (upd H l (.tup ys))) ∨ (SqT X.K H p ys ∧ Q (.ref p) H))) := by
  intro pins s σ H xs us Q I r h
  obtain ⟨p, ys, rfl, h⟩ := h
  obtain ⟨u, rfl, rx⟩ := vals1 r
  cases rx
  rcases h with ⟨hq, q⟩ | ⟨hq, q⟩
  · obtain ⟨its, r', pl, hz⟩ := I.list hq
    have hlen := r'.length
    refine call_tuple_list pl.isList (fun h' kp => ?_) (by simp only [List.size_toArray] <;> omega)
    have I1 : Inv X pins σ H { s with heap := h' } := I.kept (t' := s.toks) kp
    have I2 : Inv X pins σ (upd H h'.objs.size (.tup ys)) { s with heap := h'.push { cls := .type "tuple", data := .seq its.toArray } } :=
      I1.laid (t' := s.toks) (fun b o e => Heap.get?_push_of_some _ e) (Nat.le_refl _) (show ObjOk X.prog X.w _ _ _ (.tup ys) from ⟨hz, its, r', IsTup.new _ _⟩)
    exact ⟨.ref h'.objs.size, _, I2, rfl, q _ (I1.hok.fresh (Nat.le_refl _))⟩
  · obtain ⟨its, r', pl, hz⟩ := I.tuple hq
    exact call_tuple_same pl ⟨.ref p, H, I, rfl, q⟩
def tyV (K : PySem.W.Frag) (T : String) (x : V) (H : Hp) : Prop := match x with
  | .str _ => T = "str"
  | .int _ => T = "int"
  | .ref p => (T = "list" ∧ ∃ xs, SqL K H p xs) ∨ (T = "tuple" ∧ ∃ o, K.lookup p = some o ∧ o.cls = .type "tuple" ∧ o.dict = none) ∨
      (T = "dict" ∧ ((∃ kvs, H p = some (.dK kvs)) ∨ ∃ kvs, H p = some (.dT kvs))) ∨ (T = "set" ∧ ∃ S n, H p = some (.set S n))
  | _ => False
theorem tyV_is {pins : List (Addr × Obj)} {σ : St} {H : Hp} {s : Shared} {T : String} {x : V} {v : Value} (I : Inv X pins σ H s) (r : RelV x v) (ty : tyV X.K T x H) :
    s.TypeIs v T ∧ ∀ a, v = .ref a → ∃ ob, s.heap.get? a = some ob ∧ ob.dict = none := by
  cases x with
  | str z =>
    obtain ⟨t, rfl⟩ := r
    cases (show T = "str" from ty)
    exact ⟨typeIs_str s z t, fun _ e => nomatch e⟩
  | int i =>
    obtain ⟨t, rfl⟩ := r
    cases (show T = "int" from ty)
    exact ⟨typeIs_int s i t, fun _ e => nomatch e⟩
  | ref p =>
    cases r
    rcases ty with ⟨rfl, xs, hq⟩ | ⟨rfl, o, hk, hc, hd⟩ | ⟨rfl, hk⟩ | ⟨rfl, S, n, hk⟩
    · obtain ⟨its, _, pl, _⟩ := I.list hq
      refine ⟨pl.isList.typeIs, fun a e => ?_⟩
      cases e
      obtain ⟨o, n, e, c, hd, _⟩ := pl
      exact ⟨o, e, hd⟩
    · refine ⟨⟨o, I.kIn p o hk, hc⟩, fun a e => ?_⟩
      cases e
      exact ⟨o, I.kIn _ o hk, hd⟩
    · have z : ∃ o, s.heap.get? p = some o ∧ o.ExactDict := by
        rcases hk with ⟨kvs, hk⟩ | ⟨kvs, hk⟩
        · obtain ⟨_, _, _, _, o, _, _, e, ex, _⟩ := I.hok p _ hk
          exact ⟨o, e, ex⟩
        · obtain ⟨_, _, _, _, o, _, _, e, ex, _⟩ := I.hok p _ hk
          exact ⟨o, e, ex⟩
      obtain ⟨o, e, ex⟩ := z
      refine ⟨⟨o, e, ex.1⟩, fun a e2 => ?_⟩
      cases e2
      exact ⟨o, e, ex.2.1⟩
    · obtain ⟨o, _, _, _, e, ex, _⟩ := I.hok p _ hk
      refine ⟨⟨o, e, ex.1⟩, fun a e2 => ?_⟩
      cases e2
      exact ⟨o, e, ex.2.1⟩
  | _ => exact False.elim ty
def tBM0 (K : PySem.W.Frag) (T : String) (r : V → List V → Hp → VK → Prop) (to : TE) : TE := fun σ H Q => to σ H fun x H1 => tyV K T x H1 ∧ r x [] H1 Q
def tBM (K : PySem.W.Frag) (T : String) (r : V → List V → Hp → VK → Prop) (to : TE) (t : TA) : TE := fun σ H Q => to σ H fun x H1 => tyV K T x H1 ∧ t σ H1 fun xs H2 => r x xs H2 Q
variable {o e : Expr} {es : List Expr} {to : TE} {t : TA} {name : Str} {apos cpos : Pos} {T id : String} {r : V → List V → Hp → VK → Prop}
theorem pe_bm (pa : PlainAttrs T) (slot : Slot T name id) (hty : typeOf (.builtin id) = pure (.type "method_descriptor")) (hm : MtR X id r) (ho : PE X o to) (ha : PA X (e :: es) t)
    (hbase : attributeBase o name X.env (eval o X.env) = eval o X.env := by rfl)
    (hfew : ((backTo cpos (starEach (e :: es) X.env)).all (fun x => !x.1) && (backToKw cpos (keywordEach [] X.env)).all (fun x => x.1.isSome)
      && decide ((e :: es).length + ([] : List Keyword).length + (if ([] : List Keyword).isEmpty then 0 else 1) < 30)) = true := by rfl)
    (hline : (apos.endLine == cpos.line) = true := by rfl) (hs : starEach (e :: es) X.env = (false, eval e X.env) :: starEach es X.env := by rfl) (hplain : (backTo cpos (starEach es X.env)).any (·.1) = false := by rfl) :
    PE X (.Call (.Attribute o name apos) (e :: es) [] cpos) (tBM X.K T r to t) := by
  intro pins s σ H Q I h
  refine wpAny_Call_method_late hbase hfew hline rfl (thn (ho pins s σ H _ I h) fun v s1 ⟨x, H1, I1, r1, ty, q1⟩ => ?_)
  obtain ⟨h1, h2⟩ := tyV_is I1 r1 ty
  refine ⟨T, id, pa, slot, hty, h1, h2, ?_⟩
  have hA := ha cpos pins s1 σ H1 _ I1 q1
  rw [hs] at hA ⊢
  refine Calls.callWith_builtin (by show (false || (backTo cpos (starEach es X.env)).any (·.1)) = false; rw [hplain] <;> rfl) (Calls.evalArgs_plain ?_)
  exact thn hA fun us s2 ⟨vs, H2, I2, r2, q2⟩ => hm pins s2 σ H2 x vs v us Q I2 r1 r2 q2
end
end L2
namespace L2
open PySem PySem.Spec PyProof.Rows
def MtM (X : Cx) (id : String) (r : V → List V → Hp → VK → Prop) : Prop :=
  ∀ (pins : List (Addr × Obj)) (s : Shared) (σ : St) (H : Hp) (x : V) (xs : List V) (v : Value) (us : List Value) (Q : VK), Inv X pins σ H s → RelV x v → Vals xs us → r x xs H Q →
    wpAny (model X.prog X.w) X.A (call (.builtin id) (v :: us)) (EP X pins σ Q) X.xe s
theorem Vals.one : ∀ {x : V} {us : List Value}, Vals [x] us → ∃ u, us = [u] ∧ RelV x u
  | _, _, .cons r .nil => ⟨_, rfl, r⟩
theorem Vals.two : ∀ {x y : V} {us : List Value}, Vals [x, y] us → ∃ u v, us = [u, v] ∧ RelV x u ∧ RelV y v
  | _, _, _, .cons r (.cons q .nil) => ⟨_, _, rfl, r, q⟩
theorem Vals.zero : ∀ {us : List Value}, Vals [] us → us = []
  | _, .nil => rfl
theorem Vals.dropLast {xs : List V} {us : List Value} (h : Vals xs us) : Vals xs.dropLast us.dropLast := by
  induction h with
  | nil => exact .nil
  | cons r t ih =>
    cases t with
    | nil => exact .nil
    | cons q t' => exact .cons r ih
theorem Vals.eraseIdx : ∀ {xs : List V} {us : List Value} (i : Nat), Vals xs us → Vals (xs.eraseIdx i) (us.eraseIdx i)
  | _, _, _, .nil => .nil
  | _, _, 0, .cons _ t => t
  | _, _, i + 1, .cons r t => .cons r (Vals.eraseIdx i t)
theorem Vals.reverse {xs : List V} {us : List Value} (h : Vals xs us) : Vals xs.reverse us.reverse := by
  induction h with
  | nil => exact .nil
  | cons r t ih => rw [List.reverse_cons, List.reverse_cons]; exact Vals.append ih (.cons r .nil)
theorem Vals.rep {xs : List V} {us : List Value} (h : Vals xs us) : ∀ k : Nat, Vals (List.replicate k xs).flatten (List.replicate k us).flatten
  | 0 => .nil
  | k + 1 => by
    rw [List.replicate_succ, List.replicate_succ, List.flatten_cons, List.flatten_cons]
    exact Vals.append h (Vals.rep h k)
theorem foldl_rep (its : List Value) : ∀ (k : Nat) (acc : List Value),
    List.foldl (fun x1 x2 => x1 ++ x2) acc.toArray (List.replicate k its.toArray) = (acc ++ (List.replicate k its).flatten).toArray
  | 0, acc => by simp
  | k + 1, acc => by
    have e : acc.toArray ++ its.toArray = (acc ++ its).toArray := by simp
    have e2 : (acc ++ its) ++ (List.replicate k its).flatten = acc ++ (List.replicate (k + 1) its).flatten := by
      rw [List.replicate_succ, List.flatten_cons, List.append_assoc]
    rw [← e2, ← foldl_rep its k (acc ++ its), ← e, List.replicate_succ, List.foldl_cons]
section
variable {X : Cx} {pins : List (Addr × Obj)} {σ : St} {H : Hp} {s : Shared} {l b : Addr} {xs ys zs : List V}
theorem Inv.lset {its its' : List Value} {n : Nat} {f : Array Value → Array Value} {t' : Nat} (I : Inv X pins σ H s) (hH : H l = some (.lst xs))
    (e : s.heap.get? l = some { cls := .type "list", data := .seq its.toArray n }) (hf : f its.toArray = its'.toArray) (hv : Vals ys its') (hz : ys.length ≤ sizeLine) :
    Inv X pins σ (upd H l (.lst ys)) { s with heap := s.heap.update l (Obj.mapSeq f), toks := t' } := by
  have q := PySem.IsL.update e f
  rw [hf] at q
  refine I.write (x := l) (e := l) (by rw [hH]; exact trivial) (.inl rfl) (fun b' u hb hu => (Heap.get?_update_other s.heap (Obj.mapSeq f) (Ne.symm hb)).trans hu) ⟨_, q⟩ ?_
  exact ⟨hz, its', _, hv, q⟩
theorem Inv.lnew {its : List Value} {t' : Nat} (I : Inv X pins σ H s) (hv : Vals ys its) (hz : ys.length ≤ sizeLine) :
    Inv X pins σ (upd H s.heap.objs.size (.lst ys)) { s with heap := s.heap.push { cls := .type "list", data := .seq its.toArray }, toks := t' } :=
  I.laid (fun _ _ q => Heap.get?_push_of_some _ q) (Nat.le_refl _) ⟨hz, its, 0, hv, Heap.get?_push_size _ rfl⟩
theorem Inv.fresh (I : Inv X pins σ H s) : H s.heap.objs.size = none := I.hok.fresh (Nat.le_refl _)
theorem Inv.lstM (I : Inv X pins σ H s) (hH : H l = some (.lst xs)) : xs.length ≤ sizeLine ∧ ∃ (its : List Value) (n : Nat), Vals xs its ∧ xs.length = its.length ∧ s.heap.get? l = some { cls := .type "list", data := .seq its.toArray n } := by
  obtain ⟨z, its, n, r, e⟩ := I.hok l _ hH
  exact ⟨z, its, n, r, r.length, e⟩
theorem notLongL {n : Nat} (h : n ≤ sizeLine) : Builtin.List.listTooLong n = false := by
  unfold Builtin.List.listTooLong
  exact decide_eq_false (by omega)
end
section
variable {X : Cx}
def rAppend : V → List V → Hp → VK → Prop := fun x vs H Q => ∃ l xs y, x = .ref l ∧ vs = [y] ∧ H l = some (.lst xs) ∧ xs.length < sizeLine ∧ Q .non (upd H l (.lst (xs ++ [y])))
theorem mt_append : MtM X "list.append" rAppend := by
  intro pins s σ H x vs v us Q I rx rv h
  obtain ⟨l, xs, y, rfl, rfl, hH, hz, q⟩ := h
  cases rx
  obtain ⟨u, rfl, ru⟩ := rv.one
  obtain ⟨z, its, n, r, hl, e⟩ := I.lstM hH
  refine call_meets F.slot_list_append ⟨_, e, rfl⟩ F.entry_list_append (F.args_list_append_2 _ _) (PySem.list_append l its.toArray n u (by rw [List.size_toArray]; omega)) ⟨e, ?_⟩
  refine ⟨.non, _, I.lset (its' := its ++ [u]) hH e (by simp) (r.append (.cons ru .nil)) ?_, rfl, q⟩
  rw [List.length_append, List.length_singleton]
  omega
def rExtend : V → List V → Hp → VK → Prop := fun x vs H Q => ∃ l b xs zs, x = .ref l ∧ vs = [.ref b] ∧ H l = some (.lst xs) ∧ H b = some (.lst zs) ∧ xs.length + zs.length ≤ sizeLine ∧ Q .non (upd H l (.lst (xs ++ zs)))
def rPop : V → List V → Hp → VK → Prop := fun x vs H Q => ∃ l xs y, x = .ref l ∧ vs = [] ∧ H l = some (.lst xs) ∧ xs[xs.length - 1]? = some y ∧ Q y (upd H l (.lst xs.dropLast))
def rPopAt : V → List V → Hp → VK → Prop := fun x vs H Q => ∃ l xs i k y, x = .ref l ∧ vs = [.int i] ∧ H l = some (.lst xs) ∧ -(2 ^ 63) ≤ i ∧ i < 2 ^ 63 ∧ seqIndex? i xs.length = some k ∧ xs[k]? = some y ∧ Q y (upd H l (.lst (xs.eraseIdx k)))
def rReverse : V → List V → Hp → VK → Prop := fun x vs H Q => ∃ l xs, x = .ref l ∧ vs = [] ∧ H l = some (.lst xs) ∧ Q .non (upd H l (.lst xs.reverse))
def rClear : V → List V → Hp → VK → Prop := fun x vs H Q => ∃ l xs, x = .ref l ∧ vs = [] ∧ H l = some (.lst xs) ∧ Q .non (upd H l (.lst []))
def rCat : R2 := fun x y H Q => ∃ l b xs zs, x = .ref l ∧ y = .ref b ∧ H l = some (.lst xs) ∧ H b = some (.lst zs) ∧ xs.length + zs.length ≤ sizeLine ∧ ∀ p, H p = none → Q (.ref p) (upd H p (.lst (xs ++ zs)))
theorem op_cat : OpR X (binaryOp .Add) rCat := by
  intro pins s σ H x y v u Q I rx ry h
  obtain ⟨l, b, xs, zs, rfl, rfl, hH, hB, hz, q⟩ := h
  cases rx
  cases ry
  obtain ⟨z, its, n, r, hl, e⟩ := I.lstM hH
  obtain ⟨z2, its2, n2, r2, hl2, e2⟩ := I.lstM hB
  refine PySem.P.add_list e e2 ?_ (by rw [List.size_toArray, List.size_toArray]; omega)
  have ea : its.toArray ++ its2.toArray = (its ++ its2).toArray := by simp
  rw [ea]
  exact ⟨.ref _, _, I.lnew (t' := s.toks) (r.append r2) (by rw [List.length_append]; omega), rfl, q _ I.fresh⟩
def rRep : R2 := fun x y H Q => ∃ l k xs, x = .ref l ∧ y = .int k ∧ H l = some (.lst xs) ∧ -(2 ^ 63) ≤ k ∧ k < 2 ^ 63 ∧ xs.length * k.toNat ≤ sizeLine ∧
  ∀ p, H p = none → Q (.ref p) (upd H p (.lst (List.replicate k.toNat xs).flatten))
theorem len_rep {α : Type} (xs : List α) (k : Nat) : (List.replicate k xs).flatten.length = k * xs.length := by
  induction k with
  | zero => simp
  | succ k ih => rw [List.replicate_succ, List.flatten_cons, List.length_append, ih, Nat.succ_mul, Nat.add_comm]
theorem op_rep : OpR X (binaryOp .Mult) rRep := by
  intro pins s σ H x y v u Q I rx ry h
  obtain ⟨l, k, xs, rfl, rfl, hH, h1, h2, hz, q⟩ := h
  cases rx
  obtain ⟨t, rfl⟩ := ry
  obtain ⟨z, its, n, r, hl, e⟩ := I.lstM hH
  have hlen : its.toArray.size * k.toNat ≤ sizeLine := by rw [List.size_toArray, ← hl]; exact hz
  have hcap : ¬ its.toArray.size * k.toNat > (2 ^ 63 - 1) / 8 := by
    have : (sizeLine : Nat) ≤ (2 ^ 63 - 1) / 8 := by decide
    omega
  have hfit : ¬ (!Builtin.List.listFitsIndex k) = true := by
    rw [fitsIndex_both h1 h2]
    exact Bool.false_ne_true
  have hlong : ¬ Builtin.List.listTooLong (its.toArray.size * k.toNat) = true := by
    rw [notLongL hlen]
    exact Bool.false_ne_true
  have hnew : List.foldl (fun x1 x2 => x1 ++ x2) #[] (List.replicate (if its.toArray.isEmpty = true then 0 else k.toNat) its.toArray) = (List.replicate k.toNat its).flatten.toArray := by
    have f0 : ∀ m : Nat, List.foldl (fun x1 x2 => x1 ++ x2) #[] (List.replicate m its.toArray) = (List.replicate m its).flatten.toArray := fun m => by
      have := foldl_rep its m []
      rw [List.nil_append] at this
      exact this
    rw [f0]
    cases its with
    | nil => simp
    | cons a r' => rw [if_neg (by simp)]
  refine wpAny_binaryOp_repeat_ref (T := "list") (U := "int") (by decide) ⟨_, e, rfl⟩ (fun s' => typeIs_int s' k t) noFill_list_mul F.fills_int_mul F.slot_int_rmul repeat_list F.slot_int_index.lookup
    (call_meets F.slot_int_rmul (typeIs_int s k t) F.entry_int_rmul (F.args_int_rmul_2 _ _) (int___rmul___int_list k t l its.toArray n)
      ⟨e, rfl, ⟨_, e, rfl⟩, call_meets F.slot_list_mul ⟨_, e, rfl⟩ F.entry_list_mul (F.args_list_mul_2 _ _) (AutoListH.list___mul___list_int_3 l its.toArray n k t hfit hcap hlong) ⟨e, ?_⟩⟩)
  rw [hnew]
  exact ⟨.ref _, _, I.lnew (t' := s.toks) (r.rep k.toNat) (by rw [len_rep, Nat.mul_comm]; exact hz), rfl, q _ I.fresh⟩
end
section
variable {prog : Program} {w : World} {A : Around} {E : Value → Shared → Prop} {s : Shared}
end
section
variable {X : Cx}
end
end L2
namespace L2
open PySem PySem.Spec PyProof.Rows
section
variable {κ : Type} [DecidableEq κ]
def valV (kvs : List (κ × V)) (k : κ) : Option V := (kvs.find? fun kv => decide (kv.1 = k)).map (·.2)
def putK (kvs : List (κ × V)) (k : κ) (v : V) : List (κ × V) :=
  if (kvs.any fun kv => decide (kv.1 = k)) = true then kvs.map (fun kv => if kv.1 = k then (kv.1, v) else kv) else kvs ++ [(k, v)]
def dropK (kvs : List (κ × V)) (k : κ) : List (κ × V) := kvs.filter fun kv => decide (kv.1 ≠ k)
theorem valV_pos {p : κ × V} {r : List (κ × V)} {k : κ} (e : p.1 = k) : valV (p :: r) k = some p.2 := by simp [valV, List.find?_cons, e]
theorem valV_neg {p : κ × V} {r : List (κ × V)} {k : κ} (e : ¬ p.1 = k) : valV (p :: r) k = valV r k := by simp [valV, List.find?_cons, e]
theorem RelO.getD {o : Option V} {u : Option Value} {d : V} {d' : Value} (r : RelO o u) (rd : RelV d d') : RelV (o.getD d) (u.getD d') := by
  cases o with
  | none => cases u with
    | none => exact rd
    | some _ => exact (show False from r).elim
  | some _ => cases u with
    | none => exact (show False from r).elim
    | some _ => exact r
theorem KV.val {kvs : List (κ × V)} {vs : List (κ × Value)} (r : KV kvs vs) (k : κ) : RelO (valV kvs k) (valueAt vs k) := by
  unfold KV at r
  induction r with
  | nil => exact True.intro
  | @cons p q ps qs h t ih =>
    obtain ⟨h1, h2⟩ := h
    by_cases e : p.1 = k
    · have e' : q.1 = k := h1.symm.trans e
      have b : valueAt (q :: qs) k = some q.2 := by simp [valueAt, List.find?_cons, e']
      rw [valV_pos e, b]; exact h2
    · have e' : ¬ q.1 = k := fun z => e (h1.trans z)
      have b : valueAt (q :: qs) k = valueAt qs k := by simp [valueAt, List.find?_cons, e']
      rw [valV_neg e, b]; exact ih
theorem KV.any {kvs : List (κ × V)} {vs : List (κ × Value)} (r : KV kvs vs) (k : κ) : (kvs.any fun kv => decide (kv.1 = k)) = vs.any fun kv => decide (kv.1 = k) := by
  unfold KV at r
  induction r with
  | nil => rfl
  | cons h t ih => rw [List.any_cons, List.any_cons, ih, h.1]
theorem KV.drop {kvs : List (κ × V)} {vs : List (κ × Value)} (r : KV kvs vs) (k : κ) : KV (dropK kvs k) (without vs k) := by
  unfold KV at r ⊢
  unfold dropK without
  induction r with
  | nil => exact .nil
  | @cons p q ps qs h t ih =>
    obtain ⟨h1, h2⟩ := h
    rw [List.filter_cons, List.filter_cons]
    by_cases e : p.1 = k
    · have a : ¬ decide (p.1 ≠ k) = true := by simp [e]
      have b : ¬ decide (q.1 ≠ k) = true := by simp [h1.symm.trans e]
      rw [if_neg a, if_neg b]; exact ih
    · have e' : ¬ q.1 = k := fun z => e (h1.trans z)
      have a : decide (p.1 ≠ k) = true := by simp [e]
      have b : decide (q.1 ≠ k) = true := by simp [e']
      rw [if_pos a, if_pos b]; exact .cons ⟨h1, h2⟩ ih
theorem KV.keys {kvs : List (κ × V)} {vs : List (κ × Value)} (r : KV kvs vs) : kvs.map (·.1) = vs.map (·.1) := by
  unfold KV at r
  induction r with
  | nil => rfl
  | cons h t ih => rw [List.map_cons, List.map_cons, ih, h.1]
theorem KV.length {kvs : List (κ × V)} {vs : List (κ × Value)} (r : KV kvs vs) : kvs.length = vs.length := Paired.length r
end
abbrev KT (H : Hp) : List (List Key × V) → List (List Key × Addr × Value) → Prop := Paired fun p q => p.1 = q.1 ∧ H q.2.1 = some (.tup (p.1.map kV)) ∧ RelV p.2 q.2.2
theorem KT.val {H : Hp} {kvs : List (List Key × V)} {xs : List (List Key × Addr × Value)} (r : KT H kvs xs) (k : List Key) : RelO (valV kvs k) ((atKey xs k).map (·.2)) := by
  induction r with
  | nil => exact True.intro
  | @cons p q ps qs h t ih =>
    obtain ⟨h1, _, h2⟩ := h
    by_cases e : p.1 = k
    · have e' : q.1 = k := h1.symm.trans e
      have b : atKey (q :: qs) k = some q.2 := by simp [atKey, List.find?_cons, e']
      rw [valV_pos e, b]; exact h2
    · have e' : ¬ q.1 = k := fun z => e (h1.trans z)
      have b : atKey (q :: qs) k = atKey qs k := by simp [atKey, List.find?_cons, e']
      rw [valV_neg e, b]; exact ih
theorem KT.keeps {H H' : Hp} {kvs : List (List Key × V)} {xs : List (List Key × Addr × Value)} (r : KT H kvs xs) (ht : ∀ b ys, H b = some (.tup ys) → H' b = some (.tup ys)) : KT H' kvs xs :=
  Paired.mapP r fun _ _ z => ⟨z.1, ht _ _ z.2.1, z.2.2⟩
section
variable {P : Program} {w : World} {H : Hp} {h : Heap} {a : Addr}
end
def DGet (H : Hp) (a : Addr) (y : V) (r : Option V) : Prop :=
  (∃ kvs k, Rd H a (.dK kvs) ∧ y = kV k ∧ r = valV kvs k) ∨ ∃ kvs k b, Rd H a (.dT kvs) ∧ y = .ref b ∧ H b = some (.tup (k.map kV)) ∧ r = valV kvs k
def DPut (H : Hp) (a : Addr) (y v : V) (H' : Hp) : Prop :=
  (∃ kvs k, H a = some (.dK kvs) ∧ y = kV k ∧ kvs.length < sizeLine ∧ H' = upd H a (.dK (putK kvs k v))) ∨
  ∃ kvs k b, H a = some (.dT kvs) ∧ y = .ref b ∧ H b = some (.tup (k.map kV)) ∧ kvs.length < sizeLine ∧ H' = upd H a (.dT (putK kvs k v))
theorem DGet.k {H : Hp} {a : Addr} {kvs : List (Key × V)} {k : Key} (e : H a = some (.dK kvs)) : DGet H a (kV k) (valV kvs k) := .inl ⟨kvs, k, .inl e, rfl, rfl⟩
theorem DGet.t {H : Hp} {a b : Addr} {kvs : List (List Key × V)} {k : List Key} (e : H a = some (.dT kvs)) (eb : H b = some (.tup (k.map kV))) : DGet H a (.ref b) (valV kvs k) := .inr ⟨kvs, k, b, .inl e, rfl, eb, rfl⟩
theorem DPut.k {H : Hp} {a : Addr} {kvs : List (Key × V)} {k : Key} {v : V} (e : H a = some (.dK kvs)) (hl : kvs.length < sizeLine) : DPut H a (kV k) v (upd H a (.dK (putK kvs k v))) := .inl ⟨kvs, k, e, rfl, hl, rfl⟩
theorem DPut.t {H : Hp} {a b : Addr} {kvs : List (List Key × V)} {k : List Key} {v : V} (e : H a = some (.dT kvs)) (eb : H b = some (.tup (k.map kV))) (hl : kvs.length < sizeLine) :
    DPut H a (.ref b) v (upd H a (.dT (putK kvs k v))) := .inr ⟨kvs, k, b, e, rfl, eb, hl, rfl⟩
section
variable {X : Cx} {pins : List (Addr × Obj)} {σ : St} {H : Hp} {s : Shared} {a : Addr} {y v : V} {u r : Value} {o : Option V} {A : Around} {E : Value → Shared → Prop}
theorem Inv.big (I : Inv X pins σ H s) : sysModules < s.heap.objs.size := by
  have h : mainGlobals < s.heap.objs.size := (I.mod.glob.keeps I.bk).lt
  exact Nat.lt_trans (by decide) h
end
section
variable {X : Cx} {pins : List (Addr × Obj)} {σ : St} {H : Hp} {s : Shared} {a : Addr} {kvs : List (Key × V)} {k : Key} {u : Value} {A : Around} {E : Value → Shared → Prop}
end
def NoSl (i : Expr) : Prop := ∀ ov iv, subscripted i false ov iv = operate [ov, iv] (getItem ov iv)
def tDGet (td ty : TE) : TE := fun σ H Q => td σ H fun x H1 => ty σ H1 fun y H2 => ∃ a v, x = .ref a ∧ DGet H2 a y (some v) ∧ Q v H2
def tDIn (ty td : TE) : TE := fun σ H Q => ty σ H fun y H1 => td σ H1 fun x H2 => ∃ a o, x = .ref a ∧ DGet H2 a y o ∧ Q (.bl o.isSome) H2
def tDNotIn (ty td : TE) : TE := fun σ H Q => ty σ H fun y H1 => td σ H1 fun x H2 => ∃ a o, x = .ref a ∧ DGet H2 a y o ∧ Q (.bl (!o.isSome)) H2
def sDPut (td ty tv : TE) : TS := fun D σ H => tv σ H fun v H1 => td σ H1 fun x H2 => ty σ H2 fun y H3 => ∃ a H4, x = .ref a ∧ DPut H3 a y v H4 ∧ D.nx σ H4
def sDAug (td ty tv : TE) (rd : V → V → Hp → VK → Prop) : TS := fun D σ H => td σ H fun x H1 => ty σ H1 fun y H2 => ∃ a v, x = .ref a ∧ DGet H2 a y (some v) ∧
  tv σ H2 fun y2 H3 => rd v y2 H3 fun z H4 => ∃ H5, DPut H4 a y z H5 ∧ D.nx σ H5
def sDDel (td ty : TE) : TS := fun D σ H => td σ H fun x H1 => ty σ H1 fun y H2 => ∃ a kvs k, x = .ref a ∧ H2 a = some (.dK kvs) ∧ y = kV k ∧ (valV kvs k).isSome = true ∧ D.nx σ (upd H2 a (.dK (dropK kvs k)))
section
variable {X : Cx} {o i e value : Expr} {pos pos' tpos : Pos} {td ty tv : TE}
end
def tDNewK : TE := fun _ H Q => ∀ p, H p = none → Q (.ref p) (upd H p (.dK []))
def tDNewT : TE := fun _ H Q => ∀ p, H p = none → Q (.ref p) (upd H p (.dT []))
section
variable {X : Cx} {pos : Pos}
end
def tPairs : List (TE × TE) → St → Hp → (List (V × V) → Hp → Prop) → Prop
  | [], _, H, Q => Q [] H
  | (tk, tv) :: r, σ, H, Q => tk σ H fun x H1 => tv σ H1 fun y H2 => tPairs r σ H2 fun ps H3 => Q ((x, y) :: ps) H3
abbrev VV : List (V × V) → List (Value × Value) → Prop := Paired fun p q => RelV p.1 q.1 ∧ RelV p.2 q.2
def PPs (X : Cx) (pos : Pos) (keys : List (Option Expr)) (values : List Expr) (trs : List (TE × TE)) : Prop :=
  ∀ (pins : List (Addr × Obj)) (s : Shared) (σ : St) (H : Hp) (Q : List (V × V) → Hp → Prop), Inv X pins σ H s → tPairs trs σ H Q →
    wpAny (model X.prog X.w) X.A (evalPairs (pairTrees keys values X.env pos)) (fun vs s' => ∃ ps H', Inv X pins σ H' s' ∧ VV ps vs ∧ Q ps H') X.xe s
def mergeK (kvs more : List (Key × V)) : List (Key × V) := more.foldl (fun acc kv => putK acc kv.1 kv.2) kvs
def tDisp (trs : List (TE × TE)) : TE := fun σ H Q => ∀ p, H p = none → tPairs trs σ (upd H p (.dK [])) fun ps H2 => H2 p = some (.dK []) ∧ ∃ kvs : List (Key × V), ps = kvs.map (fun kv => (kV kv.1, kv.2)) ∧ kvs.length ≤ 15 ∧ Q (.ref p) (upd H2 p (.dK (mergeK [] kvs)))
structure M1 (X : Cx) (o : Expr) (m : Str) (apos : Pos) (e : Expr) (cpos : Pos) : Prop where
  base : attributeBase o m X.env (eval o X.env) = eval o X.env
  few : ((backTo cpos (starEach [e] X.env)).all (fun x => !x.1) && (backToKw cpos (keywordEach [] X.env)).all (fun x => x.1.isSome)
    && decide (([e] : List Expr).length + ([] : List Keyword).length + (if ([] : List Keyword).isEmpty then 0 else 1) < 30)) = true
  line : (apos.endLine == cpos.line) = true
  trees : backTo cpos (starEach [e] X.env) = [(false, eval e X.env)]
structure M2 (X : Cx) (o : Expr) (m : Str) (apos : Pos) (e f : Expr) (cpos : Pos) : Prop where
  base : attributeBase o m X.env (eval o X.env) = eval o X.env
  few : ((backTo cpos (starEach [e, f] X.env)).all (fun x => !x.1) && (backToKw cpos (keywordEach [] X.env)).all (fun x => x.1.isSome)
    && decide (([e, f] : List Expr).length + ([] : List Keyword).length + (if ([] : List Keyword).isEmpty then 0 else 1) < 30)) = true
  line : (apos.endLine == cpos.line) = true
  trees : backTo cpos (starEach [e, f] X.env) = [(false, eval e X.env), (false, eval f X.env)]
def IsD (H : Hp) (a : Addr) : Prop := (∃ kvs, Rd H a (.dK kvs)) ∨ ∃ kvs, Rd H a (.dT kvs)
section
variable {X : Cx} {pins : List (Addr × Obj)} {σ : St} {H : Hp} {s : Shared} {a : Addr} {y d : V} {u r : Value} {o : Option V} {A : Around} {E : Value → Shared → Prop}
end
def tDGet1 (td ty : TE) : TE := fun σ H Q => td σ H fun x H1 => ∃ a, x = .ref a ∧ IsD H1 a ∧ ty σ H1 fun y H2 => ∃ o, DGet H2 a y o ∧ Q (o.getD .non) H2
def tDGet2 (td ty tx : TE) : TE := fun σ H Q => td σ H fun x H1 => ∃ a, x = .ref a ∧ IsD H1 a ∧ ty σ H1 fun y H2 => tx σ H2 fun z H3 => ∃ o, DGet H3 a y o ∧ Q (o.getD z) H3
def tDPop1 (td ty : TE) : TE := fun σ H Q => td σ H fun x H1 => ∃ a, x = .ref a ∧ IsD H1 a ∧ ty σ H1 fun y H2 => ∃ kvs k v, H2 a = some (.dK kvs) ∧ y = kV k ∧ valV kvs k = some v ∧ Q v (upd H2 a (.dK (dropK kvs k)))
def tDPop2 (td ty tx : TE) : TE := fun σ H Q => td σ H fun x H1 => ∃ a, x = .ref a ∧ IsD H1 a ∧ ty σ H1 fun y H2 => tx σ H2 fun z H3 => ∃ kvs k, H3 a = some (.dK kvs) ∧ y = kV k ∧
  (∀ v, valV kvs k = some v → Q v (upd H3 a (.dK (dropK kvs k)))) ∧ (valV kvs k = none → Q z H3)
section
variable {X : Cx} {o e f : Expr} {apos cpos : Pos} {td ty tx : TE}
end
section
variable {X : Cx} {pins : List (Addr × Obj)} {σ : St} {H : Hp} {s : Shared} {a : Addr} {kvs : List (Key × V)} {A : Around} {E : Value → Shared → Prop}
end
section
variable {X : Cx} {pins : List (Addr × Obj)} {σ : St} {H : Hp} {s : Shared} {a : Addr} {y : V} {u : Value} {A : Around} {E : Value → Shared → Prop}
end
end L2
namespace Att
open PySem PySem.W PySem.Calls PyProof.Rows
theorem ints_of_wellAll {P : Params} {h : Heap} : ∀ (ns : List Int) (vs : List Value), WellAll P h vs (ns.map WData.int) → IntsAre vs ns := by
  intro ns
  induction ns with
  | nil =>
    intro vs w
    rw [List.map_nil] at w
    cases w
    exact .nil
  | cons n ns ih =>
    intro vs w
    rw [List.map_cons] at w
    cases w with
    | cons a b =>
      cases a
      exact .cons _ _ (ih _ b)
theorem script_of {l : OpenLaw} {n : Nat} (hn : l.most = some n) {P : Params} {h : Heap} {args : List WData} {vals : List Value}
    (hpre : l.row.toRowW.claim.pre args = true) (hwl : WellAll P h vals args) :
    ∃ a vs ns, vals = [Value.ref a] ∧ args = [WData.list (ns.map WData.int)] ∧ h.get? a = some { cls := .type "list", data := .seq vs.toArray } ∧ IntsAre vs ns ∧ ns.length ≤ n := by
  have hsh : WShape.hasAll [] args [.list .int] = true := (pre_splitW hpre).1
  have hc : l.pre.holds [] { args := args } = true := (pre_splitW hpre).2
  obtain ⟨d, r, rfl, h1, h2⟩ := hasAllW_cons hsh
  obtain rfl := hasAllW_nil h2
  obtain ⟨xs, rfl, h3⟩ := hasW_list h1
  obtain ⟨ns, rfl⟩ := items_int h3
  have hlen : ns.length ≤ n := by
    unfold OpenLaw.pre at hc
    have h4 : (WTm.not (.lt (.lit (.int (n : Int))) (.len (.arg 0)))).holds [] { args := [.list (ns.map .int)] } = true := by
      have h4 := (holds_andW hc).1
      rw [hn] at h4
      exact h4
    have h5 := condW_of h4 (w_not (w_lt w_lit (w_len_list (w_arg rfl))))
    rw [List.length_map] at h5
    refine Nat.le_of_not_lt fun q => ?_
    have q' : (n : Int) < ((ns.length : Nat) : Int) := by omega
    first
      | (rw [decide_eq_true q'] at h5; exact absurd h5 (by decide))
      | (simp at h5; omega)
  cases hwl with
  | cons w1 w2 =>
    cases w2
    cases w1 with
    | list ho hall => exact ⟨_, _, ns, rfl, rfl, ho, ints_of_wellAll ns _ hall, hlen⟩
theorem post_true (l : OpenLaw) (args : List WData) : l.row.toRowW.claim.post args (.bool true) args = true :=
  postW_of (r := l.row.toRowW) (X := (true == true))
    (show WShape.has [] (.bool true) .bool = true by first | rfl | decide | simp [WShape.has, WShape.arms, WShape.armsAll])
    (show (WTm.eq .res (.lit (.bool true))).value [] { args := args, res := some (.bool true), after := args } = some (.bool (true == true)) from w_eq_bool (w_res rfl) w_lit) rfl
section
variable {prog : Program} {w : World} {A : Around} {E : Value → Shared → Prop} {s : Shared} {K : Frag}
def noObjs (h : Heap) : Heap := { h with objs := #[] }
def ledger (h : Heap) (L d : Addr) : List (Addr × Obj) := (List.range h.objs.size).filterMap fun a => if a = L ∨ a = d then none else (h.get? a).map fun o => (a, o)
end
end Att
namespace L2
open PySem PySem.Spec PyProof.Rows
theorem vals_ints : ∀ {vs : List Value} {ns : List Int}, IntsAre vs ns → Vals (ns.map V.int) vs
  | _, _, .nil => .nil
  | _, _, .cons n t h => .cons ⟨t, rfl⟩ (vals_ints h)
def Only (H : Hp) : Prop := ∀ b, H b = none ∨ ∃ o xs, H b = some (.frz o (.lst xs))
end L2
namespace L2
open PySem PySem.Spec PyProof.Rows
abbrev KOf {K : PySem.W.Frag} {h : Heap} (_ : K.In h) : PySem.W.Frag := K
end L2
namespace L2
open PySem PySem.Spec PyProof.Rows
def inClass (s : Stmt) (j : Nat) : Stmt := match s with
  | .ClassDef _ _ _ body _ _ _ _ _ _ _ => body.getD j (.Pass ⟨0, 0, 0, 0⟩)
  | _ => .Pass ⟨0, 0, 0, 0⟩
def defArgs (s : Stmt) : Arguments := match s with
  | .FunctionDef _ a _ _ _ _ _ _ _ _ => a
  | _ => { posonlyargs := [], args := [], vararg := none, kwonlyargs := [], kw_defaults := [], kwarg := none, defaults := [] }
def defBody (s : Stmt) : List Stmt := match s with
  | .FunctionDef _ _ b _ _ _ _ _ _ _ => b
  | _ => []
def defScope (s : Stmt) : Scope := match s with
  | .FunctionDef _ _ _ _ _ _ sc _ _ _ => sc
  | _ => { kind := .function, names := [], isGenerator := false, isCoroutine := false }
abbrev CX0 : CXT := fun _ _ _ _ _ _ => False
abbrev E0 : XK := fun _ _ _ => False
theorem pass0 {X : Cx} : Passes CX0 X E0 := fun _ _ _ _ _ _ _ h => h.elim
structure Fun (K : PySem.W.Frag) (x qual : Str) (st : Stmt) (f : Addr) (fd : FuncData) : Prop where
  ex : ∃ (oc : Value) (od : Option Addr) (kV doc pm : Value) (an : Option Addr) (cdv ct : Value) (osl : Array (Option Value)),
    fd = PySem.W.fnOf x qual (defArgs st) (defBody st) (defScope st) .none kV doc pm an cdv ct ∧ K.lookup f = some ⟨oc, od, .func fd, osl⟩ ∧ PySem.W.codeIn K cdv qual = true
  kp : PySem.W.keepIn K (.ref f) = true
section
variable {P : Program} {w : World} {K : PySem.W.Frag} {mg : Str → Option Value} {base : Heap}
theorem Fun.ok {x qual : Str} {st : Stmt} {f : Addr} {fd : FuncData} {N ps : List Str} {k : Nat} {sp : Sp} (F : Fun K x qual st f fd) (S : FnScope N ps (defScope st)) (len : ∀ vs H Q E, sp vs H Q E → vs.length = ps.length)
    (hbody : ∀ (cdv : Value) (A : Around) (outer : List Env) (s : Shared) (H : Hp) (vs : List V) (Q : VK) (E : XK), Room k (A.deeper (envOfC qual (defScope st) s.heap.objs.size f cdv)) → sp vs H Q E →
      ∃ t, PSs (cxOf CX0 P w K mg base N qual (defScope st) f cdv A outer s H E).nox (defBody st) t ∧ t { nx := fun _ H' => Q .non H', rt := Q } (start N vs) H) : FnOk P w K mg base CX0 (k + 1) f fd ps sp := by
  obtain ⟨oc, od, kV, doc, pm, an, cdv, ct, osl, rfl, lk, hcd⟩ := F.ex
  refine fn_of lk hcd S len fun A outer s H vs Q E hr hsp => ?_
  obtain ⟨t, h, q⟩ := hbody cdv A outer s H vs Q E hr hsp
  exact ⟨t, h.nox, q⟩
theorem Fun.binds {x qual : Str} {st : Stmt} {f : Addr} {fd : FuncData} {ps : List Str} (F : Fun K x qual st f fd)
    (h : ∀ (kV doc pm : Value) (an : Option Addr) (cdv ct : Value) (us : List Value), us.length = ps.length → bindArgs (PySem.W.fnOf x qual (defArgs st) (defBody st) (defScope st) .none kV doc pm an cdv ct) ⟨us, []⟩ = pure (ps.zip us)) : Binds K fd ps [] := by
  obtain ⟨oc, od, kV, doc, pm, an, cdv, ct, osl, rfl, lk, hcd⟩ := F.ex
  exact .all (h kV doc pm an cdv ct)
theorem fun_mk {x qual : Str} {st : Stmt} {f : Addr} {oc : Value} {od an : Option Addr} {osl : Array (Option Value)} {kV doc pm cdv ct : Value} (l : K.lookup f = some ⟨oc, od, .func (PySem.W.fnOf x qual (defArgs st) (defBody st) (defScope st) .none kV doc pm an cdv ct), osl⟩)
    (c : PySem.W.codeIn K cdv qual = true) (k : PySem.W.keepIn K (.ref f) = true) : Fun K x qual st f (PySem.W.fnOf x qual (defArgs st) (defBody st) (defScope st) .none kV doc pm an cdv ct) := ⟨⟨oc, od, kV, doc, pm, an, cdv, ct, osl, rfl, l, c⟩, k⟩
end
section
variable {X : Cx}
theorem pv (i : Nat) {x : Str} {pos : Pos} (hN : X.N[i]? = some x := by rfl) (hv : Vis X.env.scope x := by first | exact Or.inl rfl | exact Or.inr (Or.inl rfl) | exact Or.inr (Or.inr rfl)) (hd : (x == ("__debug__" : Str)) = false := by decide)
    (hcd : (x == ("__classdict__" : Str)) = false := by decide) : PE X (.Name x pos) (tVar i) := pe_var hN hv hd hcd
end
theorem ite2 {c A B : Prop} [Decidable c] (h1 : c → A) (h2 : ¬ c → B) : if c then A else B := by
  by_cases h : c
  · rw [if_pos h]
    exact h1 h
  · rw [if_neg h]
    exact h2 h
def Same (H H' : Hp) : Prop := ∀ b o, H b = some o → H' b = some o
theorem Same.refl (H : Hp) : Same H H := fun _ _ h => h
theorem Same.trans {H H1 H2 : Hp} (a : Same H H1) (b : Same H1 H2) : Same H H2 := fun c o h => b c o (a c o h)
theorem Same.free {H H' : Hp} (e : Same H H') {l : Addr} (h : H' l = Option.none) : H l = Option.none := by
  cases q : H l with
  | none => rfl
  | some o =>
    rw [e l o q] at h
    cases h
theorem Same.seq {K : PySem.W.Frag} {H H' : Hp} {a : Addr} {xs : List V} (e : Same H H') (h : SqL K H a xs) : SqL K H' a xs := by
  rcases h with (h | ⟨o, h⟩) | h
  · exact .inl (.inl (e _ _ h))
  · exact .inl (.inr ⟨o, e _ _ h⟩)
  · exact .inr h
section
variable {X : Cx}
end
section
variable {κ : Type} [DecidableEq κ]
end
end L2
set_option Elab.async false
set_option linter.all false
set_option maxRecDepth 100000
set_option maxHeartbeats 4000000
namespace Att
open PySem PySem.W PySem.Calls PyProof.Rows
theorem script_low {R : WRecords} {cl : Str → Option Addr} {h : Heap} {a : Addr} {ds : List WData} {as : List Addr} (r : ReadsAllW R cl h [.ref a] [.list ds] as) : a ∈ as := by
  cases r with
  | cons r1 r2 =>
    cases r1 with
    | list => simp
theorem attach_callS {l : OpenLaw} {n : Nat} {q : Program} {loose : List Str} {XP : (Str → Option Value) → Heap → Prop} {YP : World → Heap → Prop} {d : DefRec}
    (hn : l.most = some n) (hdf : d.params.defaults = [])
    (call : ∀ (w : World) (s₀ s₁ : Shared) (mg mb : Str → Option Value) (fa : Addr) (o : Obj) (pm cd doc : Value) (a : Addr) (vs : List Value) (ns : List Int),
      Ground q loose [] XP w s₀ mg mb s₁.heap → YP w s₁.heap →
      s₁.heap.get? fa = some o → o.data = .func (docDef d.name d.params d.body d.scope pm cd doc) → s₁.heap.CodeRec cd d.name → mg d.name = some (.ref fa) →
      s₁.heap.get? a = some { cls := .type "list", data := .seq vs.toArray } → IntsAre vs ns → ns.length ≤ n → s₁.gens = #[] → a ≠ sysModules →
      codeAny (model l.prog w) callerA (.call (.ref fa) ⟨[.ref a], []⟩) (fun r s' => r = .ok (.ret (.bool true)) ∧ OldK s₁.heap s'.heap ∧ s'.os = s₁.os ∧ AllBare s'.gens) s₁) :
    WalkO q loose XP YP l.row.toRowW d [] (fun f vs => PySem.call f vs) := by
  intro w s₀ s₁ mg mb G Y fa o pm cd doc dV kV ho hd hcd hD hmg hg args vals as hpre hlay hrd hwl hlo
  obtain rfl : dV = .none := Dflts.none hD hdf
  obtain rfl : kV = .none := Dflts.noKw hD
  obtain ⟨a, vs, ns, rfl, rfl, hobj, hints, hlen⟩ := script_of hn hpre hwl
  have low : a ≠ sysModules := beq_eq_false_iff_ne.mp (hlo a (script_low hrd))
  refine enter_call (codeAny_mono (call w s₀ s₁ mg mb fa o pm cd doc a vs ns G Y ho (fd_plain hd) hcd hmg hobj hints hlen hg low) fun r s' hq => ?_)
  obtain ⟨rfl, h2, h3, h4⟩ := hq
  exact ⟨.inl ⟨.bool true, .bool true, [], rfl, fun _ => rfl, .bool true, post_true l _, fun _ => ⟨List.Pairwise.nil, fun _ hm => (nomatch hm)⟩⟩, h2, h3, h4⟩
end Att
namespace L2
open PySem PySem.Spec PyProof.Rows
theorem law_callS {P : Program} {w : World} {K : PySem.W.Frag} {mg mb : Str → Option Value} {CX : CXT} {k : Nat} {fa a : Addr} {fd : FuncData} {x : Str} {sp : Sp} {s₁ : Shared} {vs : List Value} {ns : List Int}
    (KX : K.In s₁.heap) (hns : s₁.heap.Ns mainGlobals mg) (hb : s₁.heap.Ns builtinsNs mb) (hbb : ∀ x : Str, x ≠ "__name__" → mb x = bootBuiltins x) (hlim : s₁.heap.NoLimit) (hg : s₁.gens = #[])
    (ha : s₁.heap.get? a = some { cls := .type "list", data := .seq vs.toArray }) (hi : IntsAre vs ns) (hl : ns.length ≤ sizeLine) (hr : Room k callerA) (low : a ≠ sysModules)
    (F : ∀ base : Heap, K.In base → base.Ns mainGlobals mg → FnOk P w K mg base CX k fa fd [x] sp) (hbind : ∀ (s : Shared) (u : Value), BindsTo s fd ⟨[u], []⟩ [(x, u)])
    (hsp : ∀ H : Hp, Only H → SqL K H a (ns.map V.int) → H sysModules = none → sp [.ref a] H (fun v _ => v = .bl true) fun _ _ _ => False)
    (hCX : ∀ H e s', CX [] H s₁ (fun _ _ _ => False) e s' → False) :
    codeAny (model P w) callerA (.call (.ref fa) ⟨[.ref a], []⟩) (fun r s' => r = .ok (.ret (.bool true)) ∧ OldK s₁.heap s'.heap ∧ s'.os = s₁.os ∧ AllBare s'.gens) s₁ := by
  have rv := vals_ints hi
  have lenV := hi.length
  have core : ∀ H : Hp, Only H → SqL K H a (ns.map V.int) → HOk P w H s₁.heap → (∀ b, H b ≠ none → b = a) → (H a ≠ none → K.lookup a = none) →
      codeAny (model P w) callerA (.call (.ref fa) ⟨[.ref a], []⟩) (fun r s' => r = .ok (.ret (.bool true)) ∧ OldK s₁.heap s'.heap ∧ s'.os = s₁.os ∧ AllBare s'.gens) s₁ := by
    intro H hO hS hok hA hK
    have hz : H sysModules = none := by
      cases q : H sysModules with
      | none => rfl
      | some u => exact absurd (hA _ (by rw [q]; simp)).symm low
    have base_of : ∀ {b : Addr} {o : Obj}, s₁.heap.get? b = some o → H b = none → (hidT s₁.heap H).get? b = some o := fun e n => hidT_get e n
    have noA : ∀ {b : Addr} {o : Obj} {es : Array DictEntry} {ep : Nat}, s₁.heap.get? b = some o → o.data = .dict es ep → H b = none := fun {b o es ep} e d => by
      cases q : H b with
      | none => rfl
      | some u =>
        have e' : b = a := hA b (by rw [q]; simp)
        subst e'
        rw [ha] at e; cases e
        have d' : Data.seq vs.toArray _ = Data.dict es ep := d
        cases d'
    have nsK : ∀ {b : Addr} {m : Str → Option Value}, s₁.heap.Ns b m → (hidT s₁.heap H).Ns b m := fun {b m} ⟨o, es, ep, e, d, r⟩ => ⟨o, es, ep, base_of e (noA e d), d, r⟩
    have hKb : K.In (hidT s₁.heap H) := fun b o e => base_of (KX b o e) (by
      cases q : H b with
      | none => rfl
      | some u =>
        have e' : b = a := hA b (by rw [q]; simp)
        subst e'
        rw [hK (by rw [q]; simp)] at e; cases e)
    have hM : Mod K mg (hidT s₁.heap H) := ⟨hKb, nsK hns, ⟨mb, nsK hb, hbb⟩, let ⟨mc, h1, h2⟩ := hlim; ⟨mc, nsK h1, h2⟩⟩
    have e0 : Env0 P w K mg (hidT s₁.heap H) callerA [] s₁ H := ⟨rfl, hM, fun b o e => of_hidT e, Nat.le_of_eq (hidT_size _ _), trivial, fun b hb => absurd (show b ∈ ([] : List Addr) from hb) (by simp), hok, .of_eq hg⟩
    refine codeAny_mono ((F _ hKb (nsK hns)).run callerA [] s₁ H ⟨[.ref a], []⟩ [.ref a] [.ref a] _ _ hr e0 (hbind s₁ (.ref a)) (.cons rfl .nil) (hsp H hO hS hz)) fun r s' h => ?_
    cases r with
    | error e => exact (hCX H e s' h).elim
    | ok fl =>
      cases fl with
      | next => exact False.elim h
      | brk => exact False.elim h
      | cont => exact False.elim h
      | ret u =>
        obtain ⟨v, H', os, bare, un, hok', r', q⟩ := h
        have q' : v = .bl true := q
        subst q'
        obtain rfl : u = Value.bool true := r'
        refine ⟨rfl, OldK.of_keep fun b o e => ?_, os, bare⟩
        cases q : H b with
        | none => exact un.keep b o e q (by intro z; exact absurd (show b ∈ ([] : List Addr) from z) (by simp)) (by simp)
        | some u =>
          rcases hO b with z | ⟨ob, xs, z⟩
          · rw [q] at z; cases z
          · have z2 := un.frzs b ob _ z
            obtain ⟨e1, _⟩ := hok b _ z
            obtain ⟨e2, _⟩ := hok' b _ z2
            rw [e] at e1; cases e1
            exact e2
  cases hk : K.lookup a with
  | some o =>
    have e := KX a o hk
    rw [ha] at e
    cases e
    refine core (fun _ => none) (fun _ => .inl rfl) (.inr ⟨_, vs.toArray, _, hk, rfl, rfl, rfl, by rw [List.size_toArray, lenV]; exact hl, by simpa using rv⟩) (fun b u z => by have z' : (none : Option HO) = some u := z; cases z') (fun b z => absurd rfl z) fun z => absurd rfl z
  | none =>
    refine core (fun b => if b = a then some (.frz { cls := .type "list", data := .seq vs.toArray } (.lst (ns.map V.int))) else none) (fun b => ?_) (.inl (.inr ⟨{ cls := .type "list", data := .seq vs.toArray }, if_pos rfl⟩)) (fun b u z => ?_) (fun b z => ?_) fun _ => hk
    · by_cases hb : b = a
      · exact .inr ⟨_, _, if_pos hb⟩
      · exact .inl (if_neg hb)
    · by_cases hb : b = a
      · have z' := (if_pos hb).symm.trans z
        cases z'
        subst hb
        exact ⟨ha, by rw [List.length_map]; exact hl, vs, _, rv, ha⟩
      · have z' := (if_neg hb).symm.trans z
        cases z'
    · by_cases hb : b = a
      · exact hb
      · exact absurd (if_neg hb) z
theorem walk_ofS {l : PySem.W.OpenLaw} {n k : Nat} {q : Program} {loose : List Str} {XP : (Str → Option Value) → Heap → Prop} {YP : World → Heap → Prop} {d : DefRec} {K : Params → PySem.W.Frag} {CX : World → CXT} {sp : World → Sp} {x : Str}
    (hn : l.most = some n) (hn2 : n ≤ sizeLine) (hdf : d.params.defaults = []) (hr : Room k callerA)
    (hY : ∀ (w : World) (h : Heap), YP w h → (K w.params).In h)
    (F : ∀ (w : World) (mg : Str → Option Value) (fa : Addr) (h : Heap), (K w.params).In h → h.Ns mainGlobals mg → mg d.name = some (.ref fa) →
      ∃ fd : FuncData, (∀ (s : Shared) (u : Value), BindsTo s fd ⟨[u], []⟩ [(x, u)]) ∧
        ∀ base : Heap, (K w.params).In base → base.Ns mainGlobals mg → FnOk l.prog w (K w.params) mg base (CX w) k fa fd [x] (sp w))
    (hsp : ∀ (w : World) (H : Hp) (a : Addr) (ns : List Int), ns.length ≤ n → Only H → SqL (K w.params) H a (ns.map V.int) → H sysModules = none → sp w [.ref a] H (fun v _ => v = .bl true) fun _ _ _ => False)
    (hCX : ∀ (w : World) (H : Hp) (s : Shared) (e : Value) (s' : Shared), CX w [] H s (fun _ _ _ => False) e s' → False) :
    PySem.W.WalkO q loose XP YP l.row.toRowW d [] (fun f vs => PySem.call f vs) := by
  refine Att.attach_callS hn hdf fun w s₀ s₁ mg mb fa o pm cd doc a vs ns G Y ho hd hcd hmg hobj hints hlen hg low => ?_
  have KX := hY w _ Y
  obtain ⟨fd, hb, hF⟩ := F w mg fa _ KX G.T.g hmg
  exact law_callS KX G.T.g G.T.b G.T.builtins G.T.nolimit hg hobj hints (Nat.le_trans hlen hn2) hr low hF hb (fun H hO hS hz => hsp w H a ns hlen hO hS hz) fun H e s' => hCX w H s₁ e s'
end L2
set_option Elab.async false
set_option linter.all false
set_option maxRecDepth 100000
set_option maxHeartbeats 4000000
namespace My
open PySem L2
def top (i : Nat) : Stmt := PySem.Challenge.pw_trialdeal_k12_rules_as_texts.main.body.getD i (.Pass ⟨0, 0, 0, 0⟩)
end My
set_option Elab.async false
set_option linter.all false
set_option maxRecDepth 100000
set_option maxHeartbeats 4000000
namespace My
open PySem
section
variable {prog : Program} {w : World} {A : Around} {h : Heap} {g : Array GenState} {d : Drawn} {tk : Nat} {os : OsState} {C N e t0 : Addr}
variable {nm q : Str} {bs bm bmB : List Value} {hdct ab : Bool} {sn : List Str} {sub : List Value} {col : Option Bool} {dd : Option Addr}
variable {k0 k1 k2 k3 k5 : Option Value} {B newId initId : String}
abbrev excAt (C t : Addr) : Obj := { cls := .ref C, data := .fields #[.ref t, .none, .none, .none, .bool false, .none] }
theorem viCall {R : Result → Shared → Prop} {v : Value} (F : ExcBaseFacts B newId initId bmB) (T : OwnTail h bmB bm)
    (hC : h.get? C = some (excClassObj nm q C N bs bm hdct sn sub ab col dd k0 k1 k2 k3 k5 newId)) (he : h.get? e = some (excAt C t0))
    (hR : ∀ h', h'.get? e = some (excAt C h.objs.size) → (∀ b o, b ≠ e → h.get? b = some o → h'.get? b = some o) → R (.ok (.ret .none)) ⟨h', g, d, tk, os⟩) :
    codeAny (model prog w) A (.call (.builtin initId) ⟨[.ref e, v], []⟩) R ⟨h, g, d, tk, os⟩ := by
  refine codeAny_call_builtin F.init.plain F.initEntry (wpAny_check_init_subT F T hC he rfl ?_)
  wp_walk
  refine hR _ ?_ fun b o hb eb => ?_
  · exact Heap.get?_update_self _ (Heap.get?_push_of_some _ he) rfl
  · exact (Heap.get?_update_ne _ _ _ _ hb).trans (Heap.get?_push_of_some _ eb)
end
end My
set_option Elab.async false
set_option linter.all false
set_option maxRecDepth 100000
set_option maxHeartbeats 4000000
namespace My
open PySem PySem.W Builtin Builtin.ObjectAttr
section
variable {prog : Program} {w : World} {A : Around} {s : Shared} {K : Frag} {C x : Addr}
theorem osaPass {R : Result → Shared → Prop} {ox : Obj} {od : Option Obj} {name : Str} {tk : Tok} {v : Value} {cd : ClassData} (X : K.In s.heap) (I : InstAt s.heap x ox C od)
    (hc : clsIn K C = some cd) (hp : refuseLoop (.ref x) "__setattr__" cd.mro = pure ()) (hm0 : mroIn K C (.type "object") = some true) (ht : takerIn K C name = some none)
    (h : ∀ b, wpAny (model prog w) A.in1 (storeInOwnDict (.ref x) (.ref C) (.str name tk) name v b)
      (fun fin s' => match fin with | .done f => R (.ok f) s' | .again c' => c'.quiet = true ∧ codeAny (model prog w) A c' R s') (fun e s' => R (.error e) s') s) :
    codeAny (model prog w) A (.call (.builtin "object.__setattr__") ⟨[.ref x, .str name tk, v], []⟩) R s := by
  have SF := PySem.F.store_object
  have sub : Looks (model prog w) s.heap (isInstance (.ref x) (.type "object")) true := I.type.andThen (looks_mroIn X hm0)
  refine codeAny_call_builtin SF.slot.plain SF.entry (@check_slot (model prog w) _ _ s "object.__setattr__" "object" "__setattr__" (.ref x) [.str name tk, v] [] _ SF.kind SF.split sub (SF.args _ _ _) ?_)
  obtain ⟨attr, ha, hr⟩ := Option.bind_eq_some_iff.mp ht
  have hm : Looks (model prog w) s.heap (mroOf (.ref C)) cd.mro := (looks_clsIn X hc).andThen .now
  have L3 : Looks (model prog w) s.heap (storeTaker? attr) none := by
    cases attr with
    | none => exact .now
    | some a =>
      obtain ⟨b, hb, e⟩ := Option.map_eq_some_iff.mp hr
      refine (looks_takesIn X hb).andThen ?_
      cases b
      · exact .now
      · cases e
  rw [osa_eq, refuse_eq]
  refine wpAny_bind (wpAny_bind (I.type.here (wpAny_bind (hm.here ?_))))
  rw [hp]
  refine wpAny_pure (wpAny_bind (I.type.here (wpAny_bind ((looks_findIn X ha).here (wpAny_bind (L3.here ?_))))))
  exact h _
end
end My
set_option Elab.async false
set_option linter.all false
set_option maxRecDepth 100000
set_option maxHeartbeats 4000000
namespace My
open PySem PySem.W Builtin Builtin.ObjectAttr
section
variable {prog : Program} {w : World} {A : Around} {E : Value → Shared → Prop} {s : Shared} {K : Frag} {C x : Addr}
theorem setExc {fs : Array Value} {sl : Array (Option Value)} {name : Str} {v : Value} {cd : ClassData} {Q : Unit → Shared → Prop} (X : K.In s.heap) (hx : s.heap.get? x = some ⟨.ref C, none, .fields fs, sl⟩)
    (hs : findIn K (.ref C) "__setattr__" = some (some (.builtin "object.__setattr__"))) (hc : clsIn K C = some cd) (hd : cd.hasDict = true)
    (hp : refuseLoop (.ref x) "__setattr__" cd.mro = pure ()) (hm0 : mroIn K C (.type "object") = some true) (ht : takerIn K C name = some none)
    (h : ∀ h' tk, h'.get? x = some ⟨.ref C, some s.heap.objs.size, .fields fs, sl⟩ → h'.Ns1 s.heap.objs.size (fun y => if y = name then some v else none) →
      (∀ b o, b ≠ x → s.heap.get? b = some o → h'.get? b = some o) → Q () { s with heap := h', toks := tk }) : wpAny (model prog w) A (setAttr (.ref x) name v) Q E s := by
  have J : InstAt s.heap x ⟨.ref C, none, .fields fs, sl⟩ C none := ⟨hx, rfl, rfl, True.intro⟩
  refine set_plain X J hs (osaPass (s := { s with toks := s.toks + 1 }) X J hc hp hm0 ht fun b => ?_)
  refine wpAny_bind (wpAny_pure (wpAny_bind (wpAny_bind (wpAny_loadPart hx (wpAny_bind (Looks.here (s := { s with toks := s.toks + 1 }) (looks_clsIn X hc) ?_))))))
  rw [hd]
  have hx1 : (s.heap.push { cls := .type "dict", data := .dict #[] }).get? x = some ⟨.ref C, none, .fields fs, sl⟩ := Heap.get?_push_of_some _ hx
  have hxs : x ≠ s.heap.objs.size := Nat.ne_of_lt (Heap.lt_size hx)
  refine wpAny_bind (wpAny_alloc' ?_)
  refine wpAny_bind (wpAny_update' hx1 ?_)
  refine wpAny_pure ?_
  generalize eU : ((s.heap.push { cls := .type "dict", data := .dict #[] }).update x fun o => { cls := o.cls, dict := some s.heap.objs.size, data := o.data, slots := o.slots } : Heap) = hU
  have gd : hU.get? s.heap.objs.size = some { cls := .type "dict", data := .dict #[] } := by
    rw [← eU]
    exact (Heap.get?_update_ne _ _ _ _ hxs.symm).trans (Heap.get?_push_at rfl rfl)
  have gx : hU.get? x = some ⟨.ref C, some s.heap.objs.size, .fields fs, sl⟩ := by
    rw [← eU]
    exact Heap.get?_update_self _ hx1 rfl
  have nd : hU.Ns s.heap.objs.size (fun _ => none) := ⟨_, #[], _, gd, rfl, fun e he => absurd he (by simp), fun _ => rfl⟩
  show wpAny _ _ (storeInDict s.heap.objs.size (.str name _) name v) _ _ _
  unfold storeInDict newKeyGuard
  refine wpAny_bind (wpAny_pure (wpAny_bind (wpAny_nsSet1 (Heap.Ns1.of_empty nd) fun h' hn' hsb => ?_)))
  obtain ⟨oD, esD, epD, hoD, hdD, hcD⟩ := hn'.count (Within.cons name v Within.nil)
  refine wpAny_bind (wpAny_lookBehind hoD (by
    rw [hdD]
    exact pastItsLine_dict (Nat.le_trans hcD (by rw [List.length_cons, List.length_nil, sizeLine_eq]; omega))) ?_)
  refine wpAny_pure ?_
  refine h h' _ ((hsb.2 x hxs).trans gx) hn' fun b o hb e => ?_
  refine (hsb.2 b (Nat.ne_of_lt (Heap.lt_size e))).trans ?_
  rw [← eU]
  exact (Heap.get?_update_ne _ _ _ _ hb).trans (Heap.get?_push_of_some _ e)
end
end My
set_option Elab.async false
set_option linter.all false
set_option maxRecDepth 100000
set_option maxHeartbeats 4000000
namespace My
open PySem PySem.W Builtin Builtin.ObjectAttr
section
variable {prog : Program} {w : World} {A : Around} {E : Value → Shared → Prop} {s : Shared} {K : Frag} {C x dx : Addr}
abbrev bga : String := "BaseException.__getattribute__"
end
end My
set_option Elab.async false
set_option linter.all false
set_option maxRecDepth 100000
set_option maxHeartbeats 4000000
namespace My
open PySem PySem.W
section
variable {prog : Program} {w : World} {A : Around} {E : Value → Shared → Prop} {h : Heap} {g : Array GenState}
variable {d : Drawn} {t : Nat} {os : OsState} {nm q : Str} {C N : Addr} {bs bm bmB : List Value} {hdct ab : Bool}
variable {sn : List Str} {sub : List Value} {col : Option Bool} {dd : Option Addr}
variable {k0 k1 k2 k3 k5 : Option Value} {B newId initId : String} {K : Frag}
abbrev tupO (vs : List Value) : Obj := { cls := .type "tuple", data := .seq vs.toArray }
theorem tcallK (X : K.In h) (F : ExcBaseFacts B newId initId bmB) (T : OwnTail h bmB bm) {rest : List Value}
    {fI : Addr} {Q : Fin → Shared → Prop}
    (hC : h.get? C = some (excClassObj nm q C N bs bm hdct sn sub ab col dd k0 k1 k2 k3 k5 newId))
    (hi : findIn K (.ref C) "__init__" = some (some (.ref fI))) (hfI : typeIn K (.ref fI) = some (.type "function"))
    (hq : wpAny (model prog w) A (call (.ref fI) (.ref (h.objs.size + 1) :: rest))
      (fun r s' => r = .none ∧ Q (.done (.ret (.ref (h.objs.size + 1)))) s') E ⟨(h.push (tupO rest)).push (excAt C h.objs.size), g, d, t, os⟩)
    (hrest : rest.length ≤ sizeLine) :
    wpAny (model prog w) A (Builtin.«type.__call__» ⟨.ref C :: rest, []⟩) Q E ⟨h, g, d, t, os⟩ := by
  repeat (first
    | with_reducible refine wpAny_loadPart_at hC ?_
    | with_reducible refine wpAny_madeBy_exc hC ?_
    | wp_step)
  refine codeAny_call_builtin_code (Code.quiet_builtin _ F.quiet) (wpAny_check_new_subT F T hC ?_)
  refine codeAny_exc_new_subT F T hC ?_ hrest
  show wpAny _ _ _ _ _ _
  have up : ∀ b o, h.get? b = some o → ((h.push (tupO rest)).push (excAt C h.objs.size)).get? b = some o :=
    fun b o e => Heap.get?_push_of_some _ (Heap.get?_push_of_some _ e)
  have hC1 := up _ _ hC
  have X1 : K.In ((h.push (tupO rest)).push (excAt C h.objs.size)) := X.keeps up
  have hg1 : ((h.push (tupO rest)).push (excAt C h.objs.size)).get? (h.objs.size + 1) = some (excAt C h.objs.size) := by heap_get
  have hcC : (Value.ref C :: bm).contains (.ref C) = true := by simp
  unfold isInstance
  repeat (first
    | with_reducible refine wpAny_loadPart_at hg1 ?_
    | (with_reducible refine wpAny_isSubtype_exc hC1 ?_; rw [hcC])
    | wp_step)
  show wpAny _ _ (typeLookup (.ref C) _) _ _ _
  refine Looks.here (s := ⟨(h.push (tupO rest)).push (excAt C h.objs.size), g, d, t, os⟩) (looks_findIn X1 hi) ?_
  refine wpAny_holding (wpAny_bind ?_)
  unfold bindSpecial
  refine wpAny_bind (Looks.here (s := ⟨(h.push (tupO rest)).push (excAt C h.objs.size), g, d, t, os⟩) (looks_typeIn X1 hfI) ?_)
  rw [if_pos (by decide)]
  refine wpAny_pure (wpAny_bind (wpAny_mono hq (fun r s' hr => ?_) fun _ _ x => x))
  obtain ⟨rfl, hQ⟩ := hr
  wp_walk
  exact hQ
theorem callK (X : K.In h) (F : ExcBaseFacts B newId initId bmB) (T : OwnTail h bmB bm) {rest : List Value}
    {fI : Addr} {Q : Value → Shared → Prop}
    (hC : h.get? C = some (excClassObj nm q C N bs bm hdct sn sub ab col dd k0 k1 k2 k3 k5 newId))
    (hi : findIn K (.ref C) "__init__" = some (some (.ref fI))) (hfI : typeIn K (.ref fI) = some (.type "function"))
    (hq : wpAny (model prog w) (A.under (.builtin "type.__call__" ⟨.ref C :: rest, []⟩))
      (call (.ref fI) (.ref (h.objs.size + 1) :: rest)) (fun r s' => r = .none ∧ Q (.ref (h.objs.size + 1)) s') E ⟨(h.push (tupO rest)).push (excAt C h.objs.size), g, d, t, os⟩)
    (hrest : rest.length ≤ sizeLine) : wpAny (model prog w) A (call (.ref C) rest) Q E ⟨h, g, d, t, os⟩ := by
  have f1 := tc_lookup
  have f2 := tc_bind (.ref C)
  have hT : Shared.TypeIs ⟨h, g, d, t, os⟩ (.ref C) "type" := ⟨_, hC, rfl⟩
  refine wpAny_call (codeAny_of_tree ?_)
  show wpAny _ _ (callAny (.ref C) _) _ _ _
  repeat (any_goals (first
    | assumption
    | with_reducible refine wpAny_loadPart_at hC ?_
    | wp_step))
  refine ⟨rfl, ?_⟩
  refine codeAny_call_builtin_at (Code.quiet_builtin _ (by decide +kernel)) entry_typeCall (wpAny_check_type_call_sub hC ?_)
  exact tcallK X F T hC hi hfI hq hrest
end
section
variable {prog : Program} {w : World} {A : Around} {E : Value → Shared → Prop} {s : Shared} {K : Frag} {x C : Addr} {ox : Obj} {od : Option Obj}
theorem findData {a g : Value} {name : Str} (hc : (clsIn K C).isSome = true) (ha : findIn K (.ref C) name = some (some a)) (hg : specialIn K a "__get__" = some (some g)) (ht : takesIn K a = some true) : findObj K C od name = some (.bind g a) := by
  obtain ⟨cd, hc⟩ := Option.isSome_iff_exists.mp hc
  unfold findObj
  rw [hc, Option.bind_some, ha, Option.bind_some]
  simp [hg, ht]
theorem bgaBind {R : Result → Shared → Prop} {name : Str} {tk : Tok} {a g : Value} (X : K.In s.heap) (I : InstAt s.heap x ox C od)
    (hm0 : mroIn K C (.type "BaseException") = some true) (hf : findObj K C od name = some (.bind g a))
    (h : wpAny (model prog w) A.in1 (call g [a, .ref x, .ref C]) (fun v s' => R (.ok (.ret v)) s') (fun e s' => R (.error e) s') s) :
    codeAny (model prog w) A (.call (.builtin bga) ⟨[.ref x, .str name tk], []⟩) R s := by
  have sub : Looks (model prog w) s.heap (isInstance (.ref x) (.type "BaseException")) true := I.type.andThen (looks_mroIn X hm0)
  have L1 := looks_find (M := model prog w) X I hf
  refine codeAny_call_builtin PySem.F.excAttr_ValueError.ga.plain PySem.F.entry_bexc_ga (@check_slot (model prog w) _ _ s bga "BaseException" "__getattribute__" (.ref x) [.str name tk] [] _ (by decide +kernel) (by decide +kernel) sub (PySem.F.args_bexc_ga _ _) ?_)
  refine wpAny_bind (wpAny_pure (wpAny_bind (wpAny_pure (wpAny_bind (I.type.here (wpAny_bind (L1.here ?_)))))))
  show wpAny _ _ (holding [a] (call g [a, .ref x, .ref C]) >>= ret) _ _ _
  exact wpAny_bind (wpAny_holding (wpAny_mono h (fun v s' z => wpAny_pure z) fun _ _ z => z))
structure ErrI (K : Frag) (C : Addr) : Prop where
  cls : (clsIn K C).isSome = true
  ga : findIn K (.ref C) "__getattribute__" = some (some (.builtin bga))
  hk : findIn K (.ref C) "__getattr__" = some none
  mb : mroIn K C (.type "BaseException") = some true
  mo : mroIn K C (.type "object") = some true
  ca : findIn K (.ref C) "__class__" = some (some (.builtin "object.__class__"))
theorem errClass {Q : Option Value → Shared → Prop} (T : ErrI K C) (hn : specialIn K (.builtin "object.__class__") "__get__" = some (some (.builtin "getset_descriptor.__get__"))) (htk : takesIn K (.builtin "object.__class__") = some true)
    (X : K.In s.heap) (I : InstAt s.heap x ox C od) (h : Q (some (.ref C)) { s with toks := s.toks + 1 }) : wpAny (model prog w) A (getAttr? (.ref x) "__class__") Q E s := by
  have hf : findObj K C od "__class__" = some (.bind (.builtin "getset_descriptor.__get__") (.builtin "object.__class__")) := findData T.cls T.ca hn htk
  have L0 := I.type (M := model prog w)
  have L1 := looks_findIn (M := model prog w) X T.ga
  have L2 := looks_findIn (M := model prog w) X T.hk
  have f3 := PySem.F.excAttr_ValueError.ga.bind (.ref x)
  unfold getAttr? getAttrBy? getAttrBy
  refine wpAny_bind (wpAny_mkText (wpAny_bind (wpAny_attempt (wpAny_holding (wpAny_bind (Looks.here (s := { s with toks := s.toks + 1 }) L0 (wpAny_bind (Looks.here (s := { s with toks := s.toks + 1 }) L1 ?_))))))))
  have hx1 : (onTheHeap (Value.ref C) && Value.builtin bga == Value.builtin "object.__getattribute__") = false := by
    rw [show (Value.builtin bga == Value.builtin "object.__getattribute__") = false from by decide +kernel]
    rfl
  show wpAny _ _ (if (onTheHeap (Value.ref C) && Value.builtin bga == Value.builtin "object.__getattribute__") = true then _ else _) _ _ _
  rw [if_neg (by rw [hx1]; decide)]
  unfold getAttrByItsOwn
  refine wpAny_bind ?_
  show wpAny _ _ (typeLookup (.ref C) "__getattr__") _ _ _
  refine Looks.here (s := { s with toks := s.toks + 1 }) L2 ?_
  refine wpAny_bind (wpAny_attempt (wpAny_holding ?_))
  unfold callGetattribute
  rw [if_neg (by decide)]
  unfold boundAndCalled
  rw [f3]
  refine wpAny_bind (wpAny_pure ?_)
  refine wpAny_call (bgaBind (s := { s with toks := s.toks + 1 }) X I T.mb hf ?_)
  refine wpAny_call (class_get (s := { s with toks := s.toks + 1 }) (ox := ox) (od := od) X I T.mo ?_)
  show wpAny _ _ (handedOut (.ref C)) _ _ _
  rw [handedOut_of rfl]
  exact wpAny_pure (wpAny_pure h)
theorem kitErr (T : ErrI K C) (hn : specialIn K (.builtin "object.__class__") "__get__" = some (some (.builtin "getset_descriptor.__get__"))) (htk : takesIn K (.builtin "object.__class__") = some true) :
    KitX K (.ref x) (.ref C) (fun h => ∃ ox od, InstAt h x ox C od) where
  ty := fun _ _ _ ⟨_, _, I⟩ => I.type
  it := fun _ _ X _ => by
    obtain ⟨cdD, hcD⟩ := Option.isSome_iff_exists.mp T.cls
    unfold clsIn at hcD
    split at hcD
    · rename_i c' d' cd' sl' ho
      intro A' Q' E' s' k q
      unfold isType loadHead
      exact wpAny_bind (wpAny_loadPart (k _ _ (X _ _ ho)) (wpAny_pure q))
    · cases hcD
  ne := fun h tp dd its n sl X htp => by
    obtain ⟨cdD, hcD⟩ := Option.isSome_iff_exists.mp T.cls
    refine Bool.eq_false_iff.mpr fun q => ?_
    have e : C = tp := Value.ref.inj (beq_iff_eq.mp q)
    subst e
    unfold clsIn at hcD
    split at hcD
    · rename_i c' d' cd' sl' ho
      have z := (X _ _ ho).symm.trans htp
      cases z
    · cases hcD
  ca := fun X ⟨_, _, I⟩ k => errClass T hn htk X I k
end
end My
set_option Elab.async false
set_option linter.all false
set_option maxRecDepth 100000
set_option maxHeartbeats 4000000
namespace My
open PySem PySem.W L2
abbrev bmV : List Value := [.type "ValueError", .type "Exception", .type "BaseException", .type "object"]
abbrev errAt (C : Addr) (d : Option Addr) (t : Addr) : Obj := { cls := .ref C, dict := d, data := .fields #[.ref t, .none, .none, .none, .bool false, .none] }
def ErrO (x C : Addr) (d : Option Addr) : HO := .ext fun h => ∃ t, h.get? x = some (errAt C d t)
theorem errO_ok {P : Program} {w : World} {H : Hp} {h : Heap} {x C : Addr} {d : Option Addr} {t : Addr} (e : h.get? x = some (errAt C d t)) : ObjOk P w H h x (ErrO x C d) :=
  ⟨⟨t, e⟩, ⟨_, e⟩, fun _ _ ⟨t', e'⟩ k => ⟨t', k _ e'⟩⟩
theorem errO_at {P : Program} {w : World} {H : Hp} {h : Heap} {x C : Addr} {d : Option Addr} (ok : HOk P w H h) (e : H x = some (ErrO x C d)) : ∃ t, h.get? x = some (errAt C d t) := (ok x _ e).1
theorem upd_id {H : Hp} {a : Addr} {o : HO} (h : H a = some o) : upd H a o = H := by
  funext b
  unfold upd
  split
  · rename_i e; rw [e, h]
  · rfl
structure BaseC (K : Frag) (D : Addr) : Prop where
  cls : ∃ nm q N bs sn sub ab col dd k0 k1 k2 k3 k5, K.lookup D = some (excClassObj nm q D N bs bmV true sn sub ab col dd k0 k1 k2 k3 k5 "ValueError.__new__") ∧
     ∃ o es ep, K.lookup N = some o ∧ o.data = .dict es ep ∧ StrKeys es ∧ nsFind es "__init__" = none
  ga : specialIn K (.ref D) "__getattribute__" = some (some (.builtin "type.__getattribute__"))
  reads : readsIn K D (.type "type") = true
  ini : findCls K (.ref D) (.type "type") "__init__" = some (.val (.builtin "ValueError.__init__"))
  fi : findIn K (.ref D) "__init__" = some (some (.builtin "ValueError.__init__"))
  kp : keepIn K (.ref D) = true
  it : ErrI K D
theorem BaseC.tail {K : Frag} {D : Addr} (B : BaseC K D) {h : Heap} (X : K.In h) : OwnTail h bmV (.ref D :: bmV) := by
  obtain ⟨nm, q, N, bs, sn, sub, ab, col, dd, k0, k1, k2, k3, k5, l, o, es, ep, lN, hd, hs, hn⟩ := B.cls
  exact .own (X _ _ l) ⟨o, es, ep, X _ _ lN, hd, hs, fun _ => rfl⟩ hn .base
structure ErrC (K : Frag) (D : Addr) (nm : Str) (C f : Addr) : Prop where
  cls : ∃ q N bs sn sub ab col dd k0 k1 k2 k3 k5, K.lookup C = some (excClassObj nm q C N bs (.ref D :: bmV) true sn sub ab col dd k0 k1 k2 k3 k5 "ValueError.__new__")
  init : findIn K (.ref C) "__init__" = some (some (.ref f))
  fn : typeIn K (.ref f) = some (.type "function")
  kp : keepIn K (.ref C) = true
  sa : findIn K (.ref C) "__setattr__" = some (some (.builtin "object.__setattr__"))
  it : ErrI K C
theorem ErrC.clsIn {K : Frag} {D C f : Addr} {nm : Str} (T : ErrC K D nm C f) : ∃ cd, PySem.W.clsIn K C = some cd ∧ cd.hasDict = true ∧ cd.mro = .ref C :: .ref D :: bmV := by
  obtain ⟨q, N, bs, sn, sub, ab, col, dd, k0, k1, k2, k3, k5, l⟩ := T.cls
  unfold PySem.W.clsIn
  rw [l]
  exact ⟨_, rfl, rfl, rfl⟩
theorem ErrC.refuse {K : Frag} {D C f : Addr} {nm : Str} (T : ErrC K D nm C f) (x : Addr) : ∃ cd, PySem.W.clsIn K C = some cd ∧ cd.hasDict = true ∧ refuseLoop (.ref x) "__setattr__" cd.mro = pure () := by
  obtain ⟨cd, h1, h2, h3⟩ := T.clsIn
  refine ⟨cd, h1, h2, ?_⟩
  rw [h3, refuseLoop_ref, refuseLoop_ref]
  exact PySem.F.store_ValueError.passes _
section
variable {X : Cx} {pins : List (Addr × Obj)} {σ : St} {H : Hp} {s : Shared}
def spErr (C : Addr) (fld : Str) : Sp := fun vs H Q _ => ∃ x v, vs = [.ref x, v] ∧ H x = some (ErrO x C none) ∧ ∀ dx, H dx = none → dx ≠ x → Q .non (upd (upd H dx (.xd [(fld, v)])) x (ErrO x C (some dx)))
def tErr (C : Addr) (fld : Str) (te : TE) : TE := fun σ H Q => te σ H fun v H1 => ∀ x dx, H1 x = none → H1 dx = none → dx ≠ x → Q (.ref x) (upd (upd H1 dx (.xd [(fld, v)])) x (ErrO x C (some dx)))
theorem upd3 {H : Hp} {x dx : Addr} {a b c : HO} (n : dx ≠ x) : upd (upd (upd H x a) dx b) x c = upd (upd H dx b) x c := by
  funext z
  unfold upd
  by_cases h1 : z = x
  · rw [if_pos h1, if_pos h1]
  · rw [if_neg h1, if_neg h1]
    by_cases h2 : z = dx
    · rw [if_pos h2, if_neg h1]
    · rw [if_neg h2, if_neg h1]
theorem make_err {D C f : Addr} {nm fld : Str} {k : Nat} {fd : FuncData} {ps : List Str} {u : Value} {v : V} {Q : VK} (B : BaseC X.K D) (T : ErrC X.K D nm C f) (F : FnOk X.prog X.w X.K X.mg X.base CX0 k f fd ps (spErr C fld)) (hr : Room (k + 1) X.A) (hb : Binds X.K fd ps [])
    (I : Inv X pins σ H s) (r : RelV v u) (h : ∀ x dx, H x = none → H dx = none → dx ≠ x → Q (.ref x) (upd (upd H dx (.xd [(fld, v)])) x (ErrO x C (some dx)))) :
    wpAny (model X.prog X.w) X.A (call (.ref C) [u]) (EP X pins σ Q) X.xe s := by
  obtain ⟨hp, g, dr, tk, os⟩ := s
  obtain ⟨q, N, bs, sn, sub, ab, col, dd, k0, k1, k2, k3, k5, l⟩ := T.cls
  refine callK (C := C) I.kIn PySem.F.excBase_ValueError (B.tail I.kIn) (I.kIn _ _ l) T.init T.fn ?_ (by rw [List.length_cons, List.length_nil, sizeLine_eq]; omega)
  have f0 : H hp.objs.size = none := I.fresh
  have I1 : Inv X pins σ H ⟨hp.push (tupO [u]), g, dr, tk, os⟩ := I.kept (h' := hp.push (tupO [u])) (t' := tk) fun b o e => Heap.get?_push_of_some _ e
  have sz : (hp.push (tupO [u])).objs.size = hp.objs.size + 1 := Heap.size_push _ _
  have fx : H (hp.objs.size + 1) = none := by rw [← sz]; exact I1.fresh
  have I2 : Inv X pins σ (upd H (hp.objs.size + 1) (ErrO (hp.objs.size + 1) C none)) ⟨(hp.push (tupO [u])).push (excAt C hp.objs.size), g, dr, tk, os⟩ :=
    I1.laid (h' := (hp.push (tupO [u])).push (excAt C hp.objs.size)) (t' := tk) (a := hp.objs.size + 1) (fun b o e => Heap.get?_push_of_some _ e) (Nat.le_of_eq sz)
      (errO_ok (t := hp.objs.size) (Heap.get?_push_at sz.symm rfl))
  generalize (⟨(hp.push (tupO [u])).push (excAt C hp.objs.size), g, dr, tk, os⟩ : Shared) = s2 at I2 ⊢
  generalize hp.objs.size + 1 = x at fx I2 ⊢
  have r2 : Vals [V.ref x, v] [Value.ref x, u] := .cons rfl (.cons r .nil)
  have hsp : spErr C fld [V.ref x, v] (upd H x (ErrO x C none)) (fun y H2 => y = .non ∧ Q (.ref x) H2) E0 :=
    ⟨x, v, rfl, upd_same, fun dx hd nd => ⟨rfl, by
      rw [upd3 nd]
      rw [upd_ne nd] at hd
      exact h x dx fx hd nd⟩⟩
  have hl : ([Value.ref x, u] ++ [] : List Value).length = ps.length := by
    rw [List.append_nil, ← r2.length]
    exact F.len _ _ _ _ hsp
  have hbd := hb s2 [Value.ref x, u] I2.kIn hl
  rw [List.append_nil] at hbd
  refine wpAny_call (codeAny_mono (F.run _ X.stack s2 _ ⟨[Value.ref x, u], []⟩ [Value.ref x, u] _ _ E0 (hr.make C [u] []) (I2.env0.make C [u] []) hbd r2 hsp) fun r s' hq' => ?_)
  cases r with
  | error e => exact False.elim hq'
  | ok fl =>
    cases fl with
    | ret u' =>
      obtain ⟨y, H', I3, ry, ey, q3⟩ := I2.after hq'
      subst ey
      exact ⟨ry, V.ref x, H', I3, rfl, q3⟩
    | next => exact False.elim hq'
    | brk => exact False.elim hq'
    | cont => exact False.elim hq'
end
end My
set_option Elab.async false
set_option linter.all false
set_option maxRecDepth 100000
set_option maxHeartbeats 1000000
namespace My
open PySem PySem.W L2
def Head (h : Heap) (e : Addr) (vs : Array Value) : Prop := vs[1]? = some .none ∨ ∃ T oT ts, vs[1]? = some (.ref T) ∧ T ≠ e ∧ h.get? T = some oT ∧ oT.data = .fields ts ∧ ts[3]? = some .none
structure LeftX (fr : List Addr) (e T : Addr) (oe : Obj) (h h' : Heap) (r : Value) : Prop where
  keep : ∀ b o, b ≠ e → b ∉ fr → h.get? b = some o → h'.get? b = some o
  slot : ∀ b o, b ≠ e → h.get? b = some o → ∃ sl, h'.get? b = some { o with slots := sl }
  new : h.objs.size ≤ T
  exc : h'.get? e = some (oe.mapFields (fun x => x.setIfInBounds 1 (.ref T)))
  trc : ∃ oT ts, h'.get? T = some oT ∧ oT.data = .fields ts ∧ ts[3]? = some r ∧ T ≠ e
theorem set_same {vs : Array Value} {i : Nat} {v : Value} (h : vs[i]? = some v) : vs.setIfInBounds i v = vs := by
  obtain ⟨hi, e⟩ := Array.getElem?_eq_some_iff.mp h
  apply Array.ext
  · simp
  · intro j h1 h2
    simp only [Array.size_setIfInBounds] at h1
    rw [Array.getElem_setIfInBounds h1]
    split
    · rename_i z; subst z; exact e.symm
    · rfl
theorem mapF {o : Obj} {vs : Array Value} (hd : o.data = .fields vs) (f : Array Value → Array Value) : o.mapFields f = { o with data := .fields (f vs) } := by
  obtain ⟨c, d, dt, sl⟩ := o
  have e : dt = .fields vs := hd
  subst e
  rfl
theorem wp_newFields {M : Model} {A : Around} {E : Value → Shared → Prop} {s : Shared} {c : String} {vs : List Value} {Q : Value → Shared → Prop} (hl : vs.length ≤ sizeLine + 2)
    (q : Q (.ref s.heap.objs.size) { s with heap := s.heap.push { cls := .type c, data := .fields vs.toArray } }) : wpAny M A (newFields c vs) Q E s := by
  unfold newFields newObj
  refine wpAny_ite_false (decide_eq_false (by rw [List.size_toArray]; omega)) ?_
  unfold newObjAsIs
  exact wpAny_bind (wpAny_alloc (wpAny_pure q))
theorem place_len {pl : List Value} (h : IsPlace pl) : pl.length ≤ 6 := by
  rcases h with rfl | ⟨a, b, c, d, c9, b10, _, rfl⟩
  · decide
  · exact Nat.le_refl _
section
variable {M : Model} {A : Around} {E : Value → Shared → Prop} {s : Shared} {base : Heap} {env : Env} {outer : List Env} {L e : Addr} {oe : Obj} {vs : Array Value} {Q : Unit → Shared → Prop}
theorem note_jp {head : Value} {hn : Bool} (hA : A.frames = some (env :: outer)) (hF : s.heap.FunFrames base (env :: outer)) (hL : env.frame = some L) (he : s.heap.get? e = some oe) (hd : oe.data = .fields vs) (h1 : 1 < vs.size)
    (q : ∀ h' T, LeftX (frs (env :: outer)) e T oe s.heap h' (rawInt ↑L) → Q () { s with heap := h' }) :
    wpAny M A (do
      let a ← frameOf env
      let pl ← entryPlaceOf L hn
      let b ← EntryCells.newEntry head a .none (rawInt ↑L) .none pl
      setField (.ref e) 1 b) Q E s := by
  have nfr : e ∉ frs (env :: outer) := fun z => by
    obtain ⟨_, o, ho, hn⟩ := hF.mem z
    rw [he] at ho; cases ho
    exact hn vs hd
  refine wpAny_bind (wpAny_frameOf_fun hA hF hL fun h1' so => ?_)
  refine wpAny_bind (wpAny_entryPlaceOf fun pl hpl => ?_)
  refine wpAny_bind ?_
  unfold EntryCells.newEntry
  refine wp_newFields ?_ ?_
  · have := place_len hpl
    have b : 100 ≤ sizeLine := by decide
    rw [List.length_append]
    split
    · rw [List.length_replicate]; show 5 + 6 ≤ _; omega
    · show 5 + pl.length ≤ _; omega
  have e1 : h1'.get? e = some oe := by rw [so.2.1 e nfr]; exact he
  have lt := Heap.lt_size e1
  generalize hob : ({ cls := .type "traceback", data := .fields ([head, Value.ref L, .none, rawInt ↑L, .none] ++ if pl.isEmpty = true then List.replicate 6 Value.none else pl).toArray } : Obj) = ob
  have e2 : (h1'.push ob).get? e = some oe := Heap.get?_push_of_some _ e1
  refine wpAny_setField e2 hd h1 ?_
  refine q _ h1'.objs.size ⟨fun b o nb nf hb => ?_, fun b o nb hb => ?_, Nat.le_of_eq so.1.symm, ?_, ?_⟩
  · rw [Heap.get?_update_ne _ _ _ _ nb]
    exact Heap.get?_push_of_some _ (by rw [so.2.1 b nf]; exact hb)
  · obtain ⟨sl, z⟩ := so.2.2 b o hb
    exact ⟨sl, by rw [Heap.get?_update_ne _ _ _ _ nb]; exact Heap.get?_push_of_some _ z⟩
  · exact Heap.get?_update_self _ e2 (by rw [mapF hd]; rfl)
  · have nT : h1'.objs.size ≠ e := Ne.symm (Nat.ne_of_lt lt)
    refine ⟨ob, _, ?_, by rw [← hob], ?_, nT⟩
    · rw [Heap.get?_update_ne _ _ _ _ nT]
      exact Heap.get?_push_at rfl (by rw [← hob]; rfl)
    · rfl
theorem note_exact (hA : A.frames = some (env :: outer)) (hF : s.heap.FunFrames base (env :: outer)) (hL : env.frame = some L) (he : s.heap.get? e = some oe) (hd : oe.data = .fields vs) (hv : Head s.heap e vs)
    (q : ∀ h' T, LeftX (frs (env :: outer)) e T oe s.heap h' (rawInt ↑L) → Q () { s with heap := h' }) : wpAny M A (noteFrame (.ref e) env) Q E s := by
  unfold noteFrame
  rw [hL]
  rcases hv with hv | ⟨T, oT, ts, hv, nT, hT, hTd, h3⟩
  · have h1 : 1 < vs.size := (Array.getElem?_eq_some_iff.mp hv).1
    refine wpAny_bind (wpAny_field he hd hv ?_)
    refine wpAny_ite_false rfl ?_
    exact note_jp hA hF hL he hd h1 q
  · have h1 : 1 < vs.size := (Array.getElem?_eq_some_iff.mp hv).1
    have h3' : 3 < ts.size := (Array.getElem?_eq_some_iff.mp h3).1
    refine wpAny_bind (wpAny_field he hd hv ?_)
    refine wpAny_ite_true rfl ?_
    refine wpAny_bind (wpAny_field hT hTd h3 ?_)
    refine wpAny_ite_false rfl ?_
    refine wpAny_bind (wpAny_setField hT hTd h3' ?_)
    have g : ∀ b, (s.heap.update T (Obj.mapFields fun x => x.setIfInBounds 3 Value.none)).get? b = s.heap.get? b := fun b => by
      by_cases z : b = T
      · subst z
        rw [Heap.get?_update_self _ hT (by rw [mapF hTd]; rfl), hT, mapF hTd, set_same h3, ← hTd]
      · exact Heap.get?_update_ne _ _ _ _ z
    have sz : (s.heap.update T (Obj.mapFields fun x => x.setIfInBounds 3 Value.none)).objs.size = s.heap.objs.size := Heap.size_update _ _ _
    generalize s.heap.update T (Obj.mapFields fun x => x.setIfInBounds 3 Value.none) = h0 at g sz
    have hF0 : h0.FunFrames base (env :: outer) := Heap.FunFrames.of_keeps (fun b o hb _ => ⟨o, by rw [g]; exact hb, rfl⟩) hF
    refine note_jp (s := { s with heap := h0 }) hA hF0 hL (by show h0.get? e = _; rw [g]; exact he) hd h1 fun h' T' x => ?_
    exact q h' T' ⟨fun b o nb nf hb => x.keep b o nb nf (by show h0.get? b = _; rw [g]; exact hb), fun b o nb hb => x.slot b o nb (by show h0.get? b = _; rw [g]; exact hb), by rw [← sz]; exact x.new, x.exc, x.trc⟩
theorem LeftX.flight {fr : List Addr} {T : Addr} {h h' : Heap} {r : Value} (x : LeftX fr e T oe h h' r) (hd : oe.data = .fields vs) (h1 : 1 < vs.size) (s' : Shared) (es : s'.heap = h')
    (q : ∀ h2, LeftX fr e T oe h h2 .none → Q () { s' with heap := h2 }) : wpAny M A (setFlight (.ref e) none) Q E s' := by
  subst es
  obtain ⟨oT, ts, hT, hTd, h3, nT⟩ := x.trc
  have h3' : 3 < ts.size := (Array.getElem?_eq_some_iff.mp h3).1
  have e1 : (oe.mapFields (fun x => x.setIfInBounds 1 (.ref T))).data = .fields (vs.setIfInBounds 1 (.ref T)) := Obj.data_mapFields hd _
  have e2 : (vs.setIfInBounds 1 (Value.ref T))[1]? = some (.ref T) := by simp [h1]
  refine wpAny_setFlight_none x.exc e1 e2 hT hTd h3' (q _ ⟨fun b o nb nf hb => ?_, fun b o nb hb => ?_, x.new, ?_, ?_⟩)
  · have z := x.keep b o nb nf hb
    rw [Heap.get?_update_ne _ _ _ _ (fun w => ?_)]
    · exact z
    · rw [w] at hb
      exact absurd (Nat.lt_of_lt_of_le (Heap.lt_size hb) x.new) (Nat.lt_irrefl _)
  · obtain ⟨sl, z⟩ := x.slot b o nb hb
    refine ⟨sl, ?_⟩
    rw [Heap.get?_update_ne _ _ _ _ (fun w => ?_)]
    · exact z
    · rw [w] at hb
      exact absurd (Nat.lt_of_lt_of_le (Heap.lt_size hb) x.new) (Nat.lt_irrefl _)
  · rw [Heap.get?_update_ne _ _ _ _ nT.symm]
    exact x.exc
  · refine ⟨_, _, Heap.get?_update_self _ hT (by rw [mapF hTd]; rfl), Obj.data_mapFields hTd _, ?_, nT⟩
    simp [h3']
theorem leave_exact (hA : A.frames = some (env :: outer)) (hF : s.heap.FunFrames base (env :: outer)) (hL : env.frame = some L) (he : s.heap.get? e = some oe) (hd : oe.data = .fields vs) (hv : Head s.heap e vs)
    (q : ∀ h' T, LeftX (frs (env :: outer)) e T oe s.heap h' .none → Q () { s with heap := h' }) : wpAny M A (leaving env (.ref e)) Q E s := by
  have h1 : 1 < vs.size := by
    rcases hv with hv | ⟨T, oT, ts, hv, _⟩
    · exact (Array.getElem?_eq_some_iff.mp hv).1
    · exact (Array.getElem?_eq_some_iff.mp hv).1
  unfold leaving
  exact wpAny_bind (note_exact hA hF hL he hd hv fun h' T x => x.flight hd h1 _ rfl fun h2 x2 => q h2 T x2)
end
end My
set_option Elab.async false
set_option linter.all false
set_option maxRecDepth 100000
set_option maxHeartbeats 4000000
namespace My
open PySem PySem.W L2
def one (P : V → Hp → Prop) (vs : List V) (H : Hp) : Prop := match vs with
  | [v] => P v H
  | _ => False
theorem one_of {P : V → Hp → Prop} {vs : List V} {H : Hp} (h : one P vs H) : ∃ v, vs = [v] ∧ P v H := by
  cases vs with
  | nil => exact h.elim
  | cons v r =>
    cases r with
    | nil => exact ⟨v, rfl, h⟩
    | cons _ _ => exact h.elim
def two (P : V → V → Hp → Prop) (vs : List V) (H : Hp) : Prop := match vs with
  | [v, u] => P v u H
  | _ => False
theorem two_of {P : V → V → Hp → Prop} {vs : List V} {H : Hp} (h : two P vs H) : ∃ v u, vs = [v, u] ∧ P v u H := by
  match vs, h with
  | [v, u], h => exact ⟨v, u, rfl, h⟩
section
variable {X : Cx} {pins : List (Addr × Obj)} {σ : St} {H : Hp} {s : Shared}
theorem pe_err {D C f : Addr} {nm fld x : Str} {k : Nat} {fd : FuncData} {ps : List Str} {e : Expr} {te : TE} {p pos : Pos} (B : BaseC X.K D) (T : ErrC X.K D nm C f) (F : FnOk X.prog X.w X.K X.mg X.base CX0 k f fd ps (spErr C fld)) (hr : Room (k + 1) X.A) (hb : Binds X.K fd ps [])
    (hg : Gl X x) (hm : X.mg x = some (.ref C)) (ha : PE X e te) (hdb : (x == ("__debug__" : Str)) = false := by decide) (he : starEach [e] X.env = (false, eval e X.env) :: starEach [] X.env := by rfl) (hpl : (backTo pos (starEach [] X.env)).any (·.1) = false := by rfl) :
    PE X (.Call (.Name x p) [e] [] pos) (tErr C fld te) := by
  intro pins s σ H Q I h
  refine wpAny_Call_Name_kw (ld_glob I hg hm ?_ hdb)
  have pa : PA X [e] (tCons te tNil) := pa_cons ha pa_nil he
  have h' : tCons te tNil σ H (one fun v H1 => ∀ x dx, H1 x = none → H1 dx = none → dx ≠ x → Q (.ref x) (upd (upd H1 dx (.xd [(fld, v)])) x (ErrO x C (some dx)))) := h
  refine PySem.W.callWith_K (h₀ := X.base) I.ok.mod.kin T.kp (thn (pa pos pins s σ H _ I h') fun us s1 ⟨vs, H1, I1, r, q⟩ => ⟨I1.kIn, ?_⟩) he hpl
  obtain ⟨v, rfl, q⟩ := one_of q
  obtain ⟨u, rfl, ru⟩ := vals1 r
  exact make_err B T F hr hb I1 ru q
def tBI (ts tt : TE) (C : Addr) : TE := fun σ H Q => ts σ H fun x H1 => tt σ H1 fun v H2 => ∃ a, x = .ref a ∧ H2 a = some (ErrO a C none) ∧ Q .non H2
theorem pe_baseInit {D C f : Addr} {nm x : Str} {o e : Expr} {ts tt : TE} {p apos pos : Pos} {pl : Sem Bool} (B : BaseC X.K D) (T : ErrC X.K D nm C f) (hg : Gl X x) (hm : X.mg x = some (.ref D)) (hs : PE X o ts) (ht : PE X e tt) (hdb : (x == ("__debug__" : Str)) = false := by decide)
    (hst : starEach [o, e] X.env = (false, eval o X.env) :: starEach [e] X.env := by rfl) (hst2 : starEach [e] X.env = (false, eval e X.env) :: starEach [] X.env := by rfl) (hpl : (backTo pos (starEach [e] X.env)).any (·.1) = false := by rfl)
    (htr : eval (.Call (.Attribute (.Name x p) "__init__" apos) [o, e] [] pos) X.env = (do
      let ov ← eval (.Name x p) X.env
      standAt apos.atName
      let (f, first) ← holding [ov] (getMethod ov "__init__" pl)
      callWith pos f first (backTo pos (starEach [o, e] X.env)) (backToKw pos (keywordEach [] X.env))) := by rfl) :
    PE X (.Call (.Attribute (.Name x p) "__init__" apos) [o, e] [] pos) (tBI ts tt C) := by
  intro pins s σ H Q I h
  refine PySem.W.methodCall_KW (pl := pl) (ld_glob I hg hm ?_ hdb) htr
  refine method_cls I.kIn B.ga (cls_value I.kIn B.reads B.ini rfl ?_)
  have I0 : Inv X pins σ H { s with toks := s.toks + 1 } := I.tok _
  have pa : PA X [o, e] (tCons ts (tCons tt tNil)) := pa_cons hs (pa_cons ht pa_nil hst2) hst
  have h' : tCons ts (tCons tt tNil) σ H (two fun x v H2 => ∃ a, x = .ref a ∧ H2 a = some (ErrO a C none) ∧ Q .non H2) := h
  refine PyProof.Rows.callWith_builtin1 (thn (pa pos pins _ σ H _ I0 h') fun us s1 ⟨vs, H1, I1, r, q⟩ => ?_) hst hpl
  obtain ⟨_, v, rfl, a, rfl, ha, q⟩ := two_of q
  obtain ⟨u, u', rfl, ru, ru'⟩ := vals2 r
  cases (show u = Value.ref a from ru)
  obtain ⟨t0, hx⟩ := errO_at I1.hok ha
  obtain ⟨q', N, bs, sn, sub, ab, col, dd, k0, k1, k2, k3, k5, l⟩ := T.cls
  obtain ⟨hp, g, dr, tk, os⟩ := s1
  refine wpAny_call (viCall (C := C) PySem.F.excBase_ValueError (B.tail I1.kIn) (I1.kIn _ _ l) hx fun h' hx' hk => ?_)
  have I2 : Inv X pins σ (upd H1 a (ErrO a C none)) ⟨h', g, dr, tk, os⟩ := I1.write (h' := h') (t' := tk) (x := a) (e := a) (by rw [ha]; exact True.intro) (.inl rfl) (fun b o hb e => hk b o hb e) ⟨_, hx'⟩ (errO_ok hx')
  rw [upd_id ha] at I2
  exact ⟨.non, H1, I2, rfl, q⟩
def sErr (K : Frag) (C : Addr) (ta tv : TE) (f : Str) : TS := fun D σ H => tv σ H fun y H1 => ta σ H1 fun x H2 => ∃ a, x = .ref a ∧ H2 a = some (ErrO a C none) ∧ takerIn K C f = some none ∧ ∀ dx, H2 dx = none → dx ≠ a → D.nx σ (upd (upd H2 dx (.xd [(f, y)])) a (ErrO a C (some dx)))
theorem ps_err {D C fI : Addr} {nm f : Str} {o value : Expr} {ta tv : TE} {pos pos' : Pos} (T : ErrC X.K D nm C fI) (ha : PE X o ta) (hv : PE X value tv) (hs : swapsWith value (some (.Attribute o f pos')) pos.line X.env = pure false) :
    PS X (.Assign [.Attribute o f pos'] value pos) (sErr X.K C ta tv f) := by
  intro pins s σ H D' I h
  refine plainObj_wpAny_Assign_Attribute (thn (hv pins s σ H _ I h) fun u s1 ⟨y, H1, I1, ry, q⟩ => thn (ha pins s1 σ H1 _ I1 q) fun ov s2 ⟨x, H2, I2, rx, a, ex, ea, tk, q2⟩ => ?_) hs
  subst ex
  obtain rfl : ov = Value.ref a := rx
  obtain ⟨t0, hx⟩ := errO_at I2.hok ea
  obtain ⟨cd, hc, hd, hp⟩ := T.refuse a
  refine setExc I2.kIn hx T.sa hc hd hp T.it.mo tk fun h' tk' hx' hn' hk => ?_
  have fr : H2 s2.heap.objs.size = none := I2.fresh
  have nz : s2.heap.objs.size ≠ a := fun z => by rw [← z, fr] at ea; cases ea
  obtain ⟨oD, es, ep, hoD, rD⟩ := id hn'
  have nf : oD.isFreed = false := Obj.isFreed_of_dict rD.1
  have I3 : Inv X pins σ (upd H2 s2.heap.objs.size (.xd [(f, y)])) { s2 with heap := s2.heap.push oD, toks := s2.toks } := by
    refine I2.laid (h' := s2.heap.push oD) (t' := s2.toks) (a := s2.heap.objs.size) (fun b o e => Heap.get?_push_of_some _ e) (Nat.le_refl _) ⟨_, ⟨oD, es, ep, Heap.get?_push_at rfl nf, rD⟩, fun g => ?_⟩
    by_cases e : g = f
    · subst e
      rw [if_pos rfl, List.lookup_cons_self]
      exact ry
    · rw [if_neg e, List.lookup_cons, beq_eq_false_iff_ne.mpr e]
      exact True.intro
  have ea3 : upd H2 s2.heap.objs.size (.xd [(f, y)]) a = some (ErrO a C none) := by rw [upd_ne nz.symm]; exact ea
  have I4 : Inv X pins σ (upd (upd H2 s2.heap.objs.size (.xd [(f, y)])) a (ErrO a C (some s2.heap.objs.size))) { s2 with heap := h', toks := tk' } := by
    refine I3.write (h' := h') (t' := tk') (x := a) (e := a) (by rw [ea3]; exact True.intro) (.inl rfl) (fun b o hb e => ?_) ⟨_, hx'⟩ (errO_ok (t := t0) hx')
    by_cases z : b = s2.heap.objs.size
    · subst z
      have e' : (s2.heap.push oD).get? s2.heap.objs.size = some o := e
      rw [Heap.get?_push_at rfl nf] at e'
      cases e'
      exact hoD
    · have e' : (s2.heap.push oD).get? b = some o := e
      exact hk b o hb (by rw [← Heap.get?_push_ne _ _ oD z]; exact e')
  exact ⟨σ, _, I4, q2 _ fr nz⟩
end
end My
set_option Elab.async false
set_option linter.all false
set_option maxRecDepth 100000
set_option maxHeartbeats 4000000
namespace My
open PySem PySem.W L2
theorem ErrC.hasDict {K : Frag} {D C f : Addr} {nm : Str} (T : ErrC K D nm C f) : hasDictIn K C = true := by
  obtain ⟨cd, h1, h2, _⟩ := T.clsIn
  unfold hasDictIn
  rw [h1]
  exact h2
section
variable {prog : Program} {w : World} {A : Around} {E : Value → Shared → Prop} {h : Heap} {g : Array GenState}
variable {d : Drawn} {t : Nat} {os : OsState} {nm q : Str} {C N : Addr} {bs bm bmB : List Value} {hdct ab : Bool}
variable {sn : List Str} {sub : List Value} {col : Option Bool} {dd : Option Addr}
variable {k0 k1 k2 k3 k5 : Option Value} {B newId initId : String} {K : Frag}
end
section
variable {X : Cx} {pins : List (Addr × Obj)} {σ : St} {H : Hp} {s : Shared}
theorem err_inst {P : Program} {w : World} {H : Hp} {h : Heap} {a C dx : Addr} {fs : List (Str × V)} (ok : HOk P w H h) (ea : H a = some (ErrO a C (some dx))) (ed : H dx = some (.xd fs)) :
    ∃ (ox od : Obj), InstAt h a ox C (some od) ∧ ∃ mA : Str → Option Value, (∀ f, RelO (fs.lookup f) (mA f)) ∧ ∀ name, lookIn name od = some (mA name) := by
  obtain ⟨t, hx⟩ := errO_at ok ea
  obtain ⟨mA, hn, hr⟩ := (show ObjOk P w H h dx (.xd fs) from ok dx _ ed)
  obtain ⟨od, hod, hl⟩ := lookIn_ns hn
  exact ⟨_, od, ⟨hx, rfl, rfl, hod⟩, mA, hr, hl⟩
def tErrF (K : Frag) (ta : TE) (f : Str) : TE := fun σ H Q => ta σ H fun x H1 => ∃ a C dx fs v, x = .ref a ∧ H1 a = some (ErrO a C (some dx)) ∧ H1 dx = some (.xd fs) ∧ fs.lookup f = some v ∧ ErrI K C ∧ hasDictIn K C = true ∧ findIn K (.ref C) f = some none ∧ Q v H1
structure IsT (K : Frag) : Prop where
  gt : specialIn K (.builtin "object.__class__") "__get__" = some (some (.builtin "getset_descriptor.__get__"))
  tk : takesIn K (.builtin "object.__class__") = some true
def ErrAt (H : Hp) (a C : Addr) : Prop := H a = some (ErrO a C none) ∨ ∃ dx fs, H a = some (ErrO a C (some dx)) ∧ H dx = some (.xd fs)
theorem ErrAt.inst {P : Program} {w : World} {H : Hp} {h : Heap} {a C : Addr} (E : ErrAt H a C) (ok : HOk P w H h) : ∃ ox od, InstAt h a ox C od := by
  rcases E with e | ⟨dx, fs, ea, ed⟩
  · obtain ⟨t, hx⟩ := errO_at ok e
    exact ⟨_, none, ⟨hx, rfl, rfl, True.intro⟩⟩
  · obtain ⟨ox, od, J, _⟩ := err_inst ok ea ed
    exact ⟨ox, some od, J⟩
def isV : V → Value
  | .ref a => .ref a
  | .ty n => .type n
  | _ => .none
def rIsi (K : Frag) : List V → Hp → VK → Prop := fun vs H Q => ∃ a C c b, vs = [.ref a, c] ∧ ErrAt H a C ∧ ErrI K C ∧ ((∃ z, c = .ref z) ∨ ∃ n, c = .ty n) ∧ kitOne K (.ref C) (isV c) = some b ∧ Q (.bl b) H
def tBase (D : Addr) (te : TE) : TE := fun σ H Q => te σ H fun v H1 => ∀ x, H1 x = none → Q (.ref x) (upd H1 x (ErrO x D none))
end
end My
set_option Elab.async false
set_option linter.all false
set_option maxRecDepth 100000
set_option maxHeartbeats 1000000
namespace My
open PySem PySem.W L2
open PyProof.Rows (AllBare)
abbrev errW (C : Addr) (d : Option Addr) (t : Addr) (v : Value) : Obj := { cls := .ref C, dict := d, data := .fields #[.ref t, v, .none, .none, .bool false, .none] }
def ErrT (x C : Addr) (d : Option Addr) : HO := .ext fun h => ∃ t v, h.get? x = some (errW C d t v)
theorem errT_ok {P : Program} {w : World} {H : Hp} {h : Heap} {x C : Addr} {d : Option Addr} {t : Addr} {v : Value} (e : h.get? x = some (errW C d t v)) : ObjOk P w H h x (ErrT x C d) :=
  ⟨⟨t, v, e⟩, ⟨_, e⟩, fun _ _ ⟨t', v', e'⟩ k => ⟨t', v', k _ e'⟩⟩
def Fly (n : Nat) (H : Hp) (h : Heap) (x C : Addr) (d : Option Addr) : Prop := ∃ t T oT ts, h.get? x = some (errW C d t (.ref T)) ∧ T ≠ x ∧ n ≤ T ∧ H T = none ∧ h.get? T = some oT ∧ oT.data = .fields ts ∧ ts[3]? = some Value.none
def CXE (P : Program) (w : World) : CXT := fun outer H s E e s' => ∃ x C dx fs H', e = .ref x ∧ s'.os = s.os ∧ AllBare s'.gens ∧ Un (frs outer) [] H H' s.heap s'.heap ∧ HOk P w H' s'.heap ∧ H' x = some (ErrT x C (some dx)) ∧ H' dx = some (.xd fs) ∧ Fly s.heap.objs.size H' s'.heap x C (some dx) ∧ E (.ref C) (some x) H'
section
variable {X : Cx} {pins : List (Addr × Obj)} {σ : St} {H : Hp} {s : Shared}
theorem Inv.left {x C : Addr} {d : Option Addr} {t T : Addr} {v r : Value} {h' : Heap} {o : HO} (I : Inv X pins σ H s) (hS : X.stack = X.env :: X.outer) (hx : H x = some o) (ho : (∃ φ, o = .ext φ)) (he : s.heap.get? x = some (errW C d t v))
    (l : LeftX (frs (X.env :: X.outer)) x T (errW C d t v) s.heap h' r) : Inv X pins σ (upd H x (ErrT x C d)) { s with heap := h' } := by
  obtain ⟨φ, rfl⟩ := ho
  have nx : ∀ b u, H b = some u → (∀ φ, u ≠ .ext φ) → b ≠ x := fun b u e n z => by
    subst z
    rw [hx] at e
    exact n φ (Option.some.inj e).symm
  have fr0 : ∀ b ∈ frs (X.env :: X.outer), H b = none := fun b hb => I.stkFree b (by rw [hS]; exact hb)
  have nfr : ∀ b u, H b = some u → b ∉ frs (X.env :: X.outer) := fun b u e z => by rw [fr0 b z] at e; cases e
  have exc : h'.get? x = some (errW C d t (.ref T)) := l.exc
  have sub : ∀ b, b ∈ frs (X.env :: X.outer) → b = X.env.locals ∨ b ∈ X.fs := fun b hb => List.mem_cons.mp (I.stkSub b (by rw [hS]; exact hb))
  refine I.step (g' := s.gens) (d' := s.drawn) (t' := s.toks) (ch := []) (fun _ z => nomatch z) (fun b o hL hf _ e n => ?_) (fun b o hL hf _ e n => ?_) (fun b o _ e n => ?_) (fun b o _ e => ?_) (fun b xs e => ?_) (fun b o u e => ?_) (fun b ps e => ⟨#[], ?_⟩) (fun e => ?_) (fun m hm => ?_) (fun b u e => ?_) I.bare
  · refine l.keep b o (fun z => by rw [z, hx] at n; cases n) (fun z => ?_) e
    rcases sub b z with q | q
    · exact hL q
    · exact hf q
  · exact l.slot b o (fun z => by rw [z, hx] at n; cases n) e
  · rw [upd_ne (fun z => by rw [z, hx] at n; cases n)]; exact n
  · by_cases z : b = x
    · subst z; exact ⟨_, exc⟩
    · obtain ⟨sl, q⟩ := l.slot b o z e
      exact ⟨_, q⟩
  · rw [upd_ne (nx b _ e fun _ => by intro z; cases z)]; exact e
  · rw [upd_ne (nx b _ e fun _ => by intro z; cases z)]; exact e
  · rw [upd_ne (nx b _ e fun _ => by intro z; cases z), e]; simp
  · rw [upd_ne (fun z => by rw [z, hx] at e; cases e)]; exact e
  · obtain ⟨o, es, ep, ho, r⟩ := hm
    obtain ⟨sl, q⟩ := l.slot _ o (fun z => by have := I.free; rw [z, hx] at this; cases this) ho
    exact ⟨_, es, ep, q, r⟩
  · by_cases z : b = x
    · subst z
      rw [upd_same] at e
      cases e
      exact errT_ok exc
    · rw [upd_ne z] at e
      refine (I.hok b u e).stay (fun c o' hc q => ?_) (fun c q => ?_) fun c xs q => ?_
      · rcases hc with rfl | hc
        · exact l.keep c o' z (nfr c u e) q
        · exact l.keep c o' (nx c _ hc fun _ => by intro w; cases w) (nfr c _ hc) q
      · rw [upd_ne (nx c _ q fun _ => by intro w; cases w)]; exact q
      · rw [upd_ne (nx c _ q fun _ => by intro w; cases w)]; exact q
end
section
variable {P : Program} {w : World} {K : Frag} {mg : Str → Option Value} {base : Heap} {N : List Str} {qual : Str} {scope : Scope} {f : Addr} {cd : Value} {A : Around} {outer : List Env} {s0 : Shared} {H0 : Hp} {E : XK} {pins : List (Addr × Obj)} {σ : St} {H : Hp} {s : Shared}
theorem xe_of {x C dx : Addr} {t : Addr} {v : Value} {o : HO} {fs : List (Str × V)} (I : Inv (cxOf (CXE P w) P w K mg base N qual scope f cd A outer s0 H0 E) pins σ H s) (hx : H x = some o) (ho : (∃ φ, o = .ext φ)) (hdx : H dx = some (.xd fs)) (he : s.heap.get? x = some (errW C (some dx) t v))
    (hv : Head s.heap x #[.ref t, v, .none, .none, .bool false, .none]) (q : E (.ref C) (some x) (upd H x (ErrT x C (some dx)))) : (cxOf (CXE P w) P w K mg base N qual scope f cd A outer s0 H0 E).xe (.ref x) s := by
  have hA := I.ok.frames
  refine leave_exact hA I.stack rfl he rfl hv fun h' T l => ?_
  have J := Inv.left I rfl hx ho he l
  have nT : H T = none := I.hok.fresh l.new
  obtain ⟨oT, ts, h1, h2, h3, h4⟩ := l.trc
  have nd : dx ≠ x := fun z => by
    obtain ⟨φ, rfl⟩ := ho
    rw [z, hx] at hdx; cases hdx
  refine ⟨x, C, dx, fs, _, rfl, J.os, J.bare, J.base, J.hok, upd_same, by rw [upd_ne nd]; exact hdx, ⟨t, T, oT, ts, l.exc, h4, Nat.le_trans I.sz l.new, ?_, h1, h2, h3⟩, q⟩
  rw [upd_ne h4]; exact nT
theorem passE : Passes (CXE P w) (cxOf (CXE P w) P w K mg base N qual scope f cd A outer s0 H0 E) E := by
  intro pins σ H s e s' I h
  obtain ⟨x, C, dx, fs, H', rfl, os, bare, un, hok, hx, hdx, ⟨t, T, oT, ts, h1, h2, _, h4, h5, h6, h7⟩, q⟩ := h
  have J := I.call' os un hok bare (fun b z => absurd z (by simp))
  refine xe_of J hx ⟨_, rfl⟩ hdx h1 (.inr ⟨T, oT, ts, rfl, h2, h5, h6, h7⟩) ?_
  rw [upd_id hx]
  exact q
end
end My
set_option Elab.async false
set_option linter.all false
set_option maxRecDepth 100000
set_option maxHeartbeats 1000000
namespace My
open PySem PySem.W L2
open PyProof.Rows (AllBare)
section
variable {prog : Program} {w : World} {A : Around} {E : Value → Shared → Prop} {s : Shared} {env : Env} {x : Sem Value} {Q : Flow → Shared → Prop} {K : Frag} {C : Addr}
theorem wp_raise (T : ErrI K C) (ht : typeIn K (.ref C) = some (.type "type")) (hA : A.handled = none)
    (hx : wpAny (model prog w) A x (fun v s1 => ∃ e t d od, v = .ref e ∧ InstAt s1.heap e (errAt C d t) C od ∧ K.In s1.heap ∧ E (.ref e) s1) E s) : wpAny (model prog w) A (raiseStmt env (some x) none) Q E s := by
  unfold raiseStmt
  refine wpAny_bind (wpAny_mono hx (fun v s1 h => ?_) (fun _ _ z => z))
  obtain ⟨e, t, d, od, rfl, I, KX, q⟩ := h
  obtain ⟨hp, g, dr, tk, os⟩ := s1
  have noC : ∀ c : ClassData, (errAt C d t).data ≠ Data.cls c := fun c z => by cases z
  refine wpAny_bind (wpAny_pure ?_)
  refine wpAny_bind ?_
  show wpAny _ _ (excFromValue (.ref e) _) _ _ _
  unfold excFromValue
  refine wpAny_bind ?_
  unfold isExcClass
  refine wpAny_bind (ks_wpAny_isType_inst I.at_ noC ?_)
  refine wpAny_ite_false rfl (wpAny_pure ?_)
  refine wpAny_ite_false rfl ?_
  refine wpAny_bind ?_
  have sub : Looks (model prog w) hp (isInstance (.ref e) (.type "BaseException")) true := I.type.andThen (looks_mroIn KX T.mb)
  refine Looks.here (s := ⟨hp, g, dr, tk, os⟩) sub ?_
  refine wpAny_ite_true rfl (wpAny_pure ?_)
  refine wpAny_bind (ks_wpAny_isType_inst I.at_ noC ?_)
  refine wpAny_ite_false rfl ?_
  refine wpAny_bind ?_
  unfold raisedInstance
  refine wpAny_bind (Looks.here (s := ⟨hp, g, dr, tk, os⟩) I.type ?_)
  refine wpAny_bind (Looks.here (s := ⟨hp, g, dr, tk, os⟩) (looks_typeIn KX ht) ?_)
  refine wpAny_ite_true rfl (wpAny_pure ?_)
  refine wpAny_bind ?_
  unfold setFlight
  refine wpAny_bind (wpAny_field I.at_ rfl rfl ?_)
  refine wpAny_ite_false rfl (wpAny_pure ?_)
  exact wpAny_raiseNew_none hA q
end
theorem ErrC.type {K : Frag} {D : Addr} {nm : Str} {C f : Addr} (T : ErrC K D nm C f) : typeIn K (.ref C) = some (.type "type") := by
  obtain ⟨q, N, bs, sn, sub, ab, col, dd, k0, k1, k2, k3, k5, l⟩ := T.cls
  show (K.lookup C).map (fun o => o.cls) = _
  rw [l]
  rfl
def qR (E : XK) (C : Addr) : VK := fun y H' => ∃ x dx fs, y = .ref x ∧ H' x = some (ErrO x C (some dx)) ∧ H' dx = some (.xd fs) ∧ E (.ref C) (some x) (upd H' x (ErrT x C (some dx)))
def tRaise (E : XK) (C : Addr) (fld : Str) (te : TE) : TS := fun _ σ H => tErr C fld te σ H (qR E C)
theorem upd_upd {H : Hp} {x : Addr} {a b : HO} : upd (upd H x a) x b = upd H x b := by
  funext z
  unfold upd
  by_cases h : z = x
  · rw [if_pos h, if_pos h]
  · rw [if_neg h, if_neg h, if_neg h]
section
variable {P : Program} {w : World} {K : Frag} {mg : Str → Option Value} {base : Heap} {N : List Str} {qual : Str} {scope : Scope} {f : Addr} {cd : Value} {A : Around} {outer : List Env} {s0 : Shared} {H0 : Hp} {E : XK}
abbrev cxE (P : Program) (w : World) (K : Frag) (mg : Str → Option Value) (base : Heap) (N : List Str) (qual : Str) (scope : Scope) (f : Addr) (cd : Value) (A : Around) (outer : List Env) (s0 : Shared) (H0 : Hp) (E : XK) : Cx := cxOf (CXE P w) P w K mg base N qual scope f cd A outer s0 H0 E
theorem ps_raise {D C fI : Addr} {nm fld x : Str} {k : Nat} {fd : FuncData} {ps : List Str} {e : Expr} {te : TE} {p pos pos' : Pos} (B : BaseC K D) (T : ErrC K D nm C fI) (F : FnOk P w K mg base CX0 k fI fd ps (spErr C fld)) (hr : Room (k + 1) (cxE P w K mg base N qual scope f cd A outer s0 H0 E).A) (hb : Binds K fd ps [])
    (hg : Gl (cxE P w K mg base N qual scope f cd A outer s0 H0 E) x) (hm : mg x = some (.ref C)) (ha : PE (cxE P w K mg base N qual scope f cd A outer s0 H0 E) e te)
    (hdb : (x == ("__debug__" : Str)) = false := by decide) (he : starEach [e] (cxE P w K mg base N qual scope f cd A outer s0 H0 E).env = (false, eval e (cxE P w K mg base N qual scope f cd A outer s0 H0 E).env) :: starEach [] (cxE P w K mg base N qual scope f cd A outer s0 H0 E).env := by rfl) (hpl : (backTo pos (starEach [] (cxE P w K mg base N qual scope f cd A outer s0 H0 E).env)).any (·.1) = false := by rfl) :
    PS (cxE P w K mg base N qual scope f cd A outer s0 H0 E) (.Raise (some (.Call (.Name x p) [e] [] pos)) none pos') (tRaise E C fld te) := by
  intro pins s σ H D' I h
  have pe := pe_err (X := cxE P w K mg base N qual scope f cd A outer s0 H0 E) (p := p) (pos := pos) B T F hr hb hg hm ha hdb he hpl
  have hd : (cxE P w K mg base N qual scope f cd A outer s0 H0 E).A.handled = none := I.ok.hd rfl
  rw [arm_exec_Raise]
  refine wpAny_bind (wpAny_standAt ?_)
  refine wp_raise T.it T.type hd ?_
  refine wpAny_bind (thn (pe pins s σ H (qR E C) I h) fun u s1 h1 => ?_)
  obtain ⟨y, H1, I1, ry, x, dx, fs, rfl, e1, e2, q⟩ := h1
  refine wpAny_bind (wpAny_standAt (wpAny_pure ?_))
  obtain ⟨t, ht⟩ := errO_at I1.hok e1
  obtain ⟨ox, od, J, _⟩ := err_inst I1.hok e1 e2
  have eo : ox = errAt C (some dx) t := Option.some.inj (J.at_.symm.trans ht)
  subst eo
  exact ⟨x, t, some dx, some od, ry, J, I1.kIn, xe_of I1 e1 ⟨_, rfl⟩ e2 ht (.inl rfl) q⟩
theorem qR_of {C x dx : Addr} {fld : Str} {v : V} {H1 : Hp} (nd : dx ≠ x) (q : E (.ref C) (some x) (upd (upd H1 dx (.xd [(fld, v)])) x (ErrT x C (some dx)))) : qR E C (.ref x) (upd (upd H1 dx (.xd [(fld, v)])) x (ErrO x C (some dx))) :=
  ⟨x, dx, _, rfl, upd_same, by rw [upd_ne nd, upd_same], by rw [upd_upd]; exact q⟩
theorem okE {x qual : Str} {st : Stmt} {f : Addr} {fd : FuncData} {N ps : List Str} {k : Nat} {sp : Sp} (F : Fun K x qual st f fd) (S : FnScope N ps (defScope st)) (len : ∀ vs H Q E, sp vs H Q E → vs.length = ps.length)
    (hbody : ∀ (cdv : Value) (A : Around) (outer : List Env) (s : Shared) (H : Hp) (vs : List V) (Q : VK) (E : XK), Room k (A.deeper (PyProof.Rows.envOfC qual (defScope st) s.heap.objs.size f cdv)) → sp vs H Q E →
      ∃ t, PSs (cxE P w K mg base N qual (defScope st) f cdv A outer s H E) (defBody st) t ∧ t { nx := fun _ H' => Q .non H', rt := Q } (start N vs) H) : FnOk P w K mg base (CXE P w) (k + 1) f fd ps sp := by
  obtain ⟨oc, od, kV, doc, pm, an, cdv, ct, osl, rfl, lk, hcd⟩ := F.ex
  refine fn_of lk hcd S len fun A outer s H vs Q E hr hsp => ?_
  obtain ⟨t, h, q⟩ := hbody cdv A outer s H vs Q E hr hsp
  exact ⟨t, h, q⟩
theorem ps_never {X : Cx} {st : Stmt} : PS X st (fun _ _ _ => False) := fun _ _ _ _ _ _ h => h.elim
end
end My
set_option Elab.async false
set_option linter.all false
set_option maxRecDepth 100000
set_option maxHeartbeats 1000000
namespace My
open PySem PySem.W L2
open PyProof.Rows (AllBare)
def PX (X : Cx) (σ : St) (e : Expr) (t : TE) : Prop := ∀ (pins : List (Addr × Obj)) (s : Shared) (H : Hp) (Q : VK), Inv X pins σ H s → t σ H Q → wpAny (model X.prog X.w) X.A (eval e X.env) (EP X pins σ Q) X.xe s
def PXA (X : Cx) (σ : St) (es : List Expr) (t : TA) : Prop := ∀ (pos : Pos) (pins : List (Addr × Obj)) (s : Shared) (H : Hp) (Q : List V → Hp → Prop), Inv X pins σ H s → t σ H Q → wpAny (model X.prog X.w) X.A (spliced (backTo pos (starEach es X.env))) (AP X pins σ Q) X.xe s
section
variable {X : Cx} {σ : St} {e : Expr} {es : List Expr} {te : TE} {t : TA} {pos : Pos}
def PassX (CX : CXT) (X : Cx) (σ : St) (E : XK) : Prop := ∀ (pins : List (Addr × Obj)) (H : Hp) (s : Shared) (e : Value) (s' : Shared), Inv X pins σ H s → CX X.stack H s E e s' → X.xe e s'
variable {CX : CXT} {k : Nat} {f C : Addr} {fd : FuncData} {ps : List Str} {sp : Sp} {dvs : List V} {ds : List Value} {E : XK} {x : Str} {p : Pos}
end
section
variable {prog : Program} {w : World} {A : Around} {E : Value → Shared → Prop} {s : Shared} {K : Frag} {C D e : Addr} {Q : Bool → Shared → Prop} {ox : Obj} {od : Option Obj} {b : Bool}
end
end My
set_option Elab.async false
set_option linter.all false
set_option maxRecDepth 100000
set_option maxHeartbeats 1000000
namespace My
open PySem PySem.W L2
open PyProof.Rows (AllBare)
def PXS (X : Cx) (σ : St) (st : Stmt) (t : TS) : Prop := ∀ (pins : List (Addr × Obj)) (s : Shared) (H : Hp) (D : Ends), Inv X pins σ H s → t D σ H → wpAny (model X.prog X.w) X.A (exec st X.env) (SP X pins D) X.xe s
section
variable {X : Cx} {σ : St} {e : Expr} {te : TE} {pos : Pos}
end
abbrev tryCx (X : Cx) (pn : List (Addr × Obj)) (xe : Value → Shared → Prop) : Cx := { X with pn := pn, xe := xe }
abbrev exCx (X : Cx) (x : Addr) : Cx := { X with A := X.A.mark (some (.ref x)), calm := false, xe := fun _ _ => False }
section
variable {X : Cx} {pins pins' pn : List (Addr × Obj)} {σ : St} {H : Hp} {s : Shared} {xe : Value → Shared → Prop} {x : Addr}
end
structure Catch (K : Frag) (D : Addr) : Prop where
  cls : ∃ cd, clsIn K D = some cd
  ty : typeIn K (.ref D) = some (.type "type")
  mb : mroIn K D (.type "BaseException") = some true
def unEnds (D : Ends) (i : Nat) : Ends := ⟨fun σ H => D.nx (σ.set i none) H, D.rt, fun σ H => D.bk (σ.set i none) H, fun σ H => D.ct (σ.set i none) H⟩
def eTry (K : Frag) (B : Addr) (i : Nat) (th : TS) (D : Ends) (σ : St) : XK := fun c o H' => ∃ x C, c = .ref C ∧ o = some x ∧ mroIn K C (.ref B) = some true ∧ th (unEnds D i) (σ.set i (some (.ref x))) H'
def tTry (K : Frag) (B : Addr) (i : Nat) (tb : XK → TS) (th : TS) : TS := fun D σ H => tb (eTry K B i th D σ) D σ H
end My
set_option Elab.async false
set_option linter.all false
set_option maxRecDepth 100000
set_option maxHeartbeats 1000000
namespace My
open PySem PySem.W L2
open PyProof.Rows (AllBare)
section
variable {X : Cx} {pins : List (Addr × Obj)} {σ : St} {H : Hp} {s : Shared}
end
section
variable {X : Cx} {pins : List (Addr × Obj)} {σ : St} {H : Hp} {s : Shared}
def tErrFT (K : Frag) (ta : TE) (f : Str) : TE := fun σ H Q => ta σ H fun x H1 => ∃ a C dx fs v, x = .ref a ∧ H1 a = some (ErrT a C (some dx)) ∧ H1 dx = some (.xd fs) ∧ fs.lookup f = some v ∧ ErrI K C ∧ hasDictIn K C = true ∧ findIn K (.ref C) f = some none ∧ Q v H1
def rIsT1 (K : Frag) : List V → Hp → VK → Prop := fun vs H Q => ∃ a C dx fs c b, vs = [.ref a, c] ∧ H a = some (ErrT a C (some dx)) ∧ H dx = some (.xd fs) ∧ ErrI K C ∧ ((∃ z, c = .ref z) ∨ ∃ n, c = .ty n) ∧ kitOne K (.ref C) (isV c) = some b ∧ Q (.bl b) H
def rIsTn (K : Frag) : List V → Hp → VK → Prop := fun vs H Q => ∃ (a C dx : Addr) (fs : List (Str × V)) (p : Addr) (cs : List Addr) (b : Bool), vs = [.ref a, .ref p] ∧ H a = some (ErrT a C (some dx)) ∧ H dx = some (.xd fs) ∧ ErrI K C ∧ H p = some (.tup (cs.map V.ref)) ∧ kitAny K (.ref C) (cs.map Value.ref) = some b ∧ Q (.bl b) H
theorem vals_refs : ∀ {cs : List Addr} {us : List Value}, Vals (cs.map V.ref) us → us = cs.map Value.ref
  | [], _, .nil => rfl
  | c :: cs, _, .cons r t => by
    rw [vals_refs t]
    cases (show _ = Value.ref c from r)
    rfl
end
end My
set_option Elab.async false
set_option linter.all false
set_option maxRecDepth 100000
set_option maxHeartbeats 1000000
namespace My
open PySem PySem.W L2
open PyProof.Rows (AllBare)
structure Caught (X : Cx) (pins : List (Addr × Obj)) (σ : St) (H : Hp) (s : Shared) (x C : Addr) : Prop where
  inv : Inv X pins σ H s
  err : ∃ dx fs, H x = some (ErrT x C (some dx)) ∧ H dx = some (.xd fs)
  fl : ∃ dx t T oT ts, s.heap.get? x = some (errW C dx t (.ref T)) ∧ s.heap.get? T = some oT ∧ oT.data = .fields ts ∧ ts[3]? = some Value.none
abbrev TH := Addr → Addr → TS
def PHs (X : Cx) (hs : List ExceptHandler) (th : TH) : Prop := ∀ (pins : List (Addr × Obj)) (s : Shared) (σ : St) (H : Hp) (D : Ends) (x C : Addr), Caught X pins σ H s x C → th x C D σ H → wpAny (model X.prog X.w) X.A (handleBy (.ref x) X.env hs) (SP X pins D) X.xe s
def hNil : TH := fun _ _ _ _ _ => False
def hAs (K : Frag) (B : Addr) (i : Nat) (th : TS) (rest : TH) : TH := fun x C D σ H => ∃ b, mroIn K C (.ref B) = some b ∧ if b = true then th (unEnds D i) (σ.set i (some (.ref x))) H else rest x C D σ H
def hNo (K : Frag) (B : Addr) (th : TS) (rest : TH) : TH := fun x C D σ H => ∃ b, mroIn K C (.ref B) = some b ∧ if b = true then th D σ H else rest x C D σ H
section
variable {X : Cx} {hs : List ExceptHandler} {rest : TH}
end
def eTryN (th : TH) (D : Ends) (σ : St) : XK := fun c o H' => ∃ x C, c = .ref C ∧ o = some x ∧ th x C D σ H'
def tTryN (tb : XK → TS) (th : TH) : TS := fun D σ H => tb (eTryN th D σ) D σ H
section
variable {X : Cx} {σ : St} {e : Expr} {te : TE} {pos : Pos}
end
end My
set_option Elab.async false
set_option linter.all false
set_option maxRecDepth 100000
set_option maxHeartbeats 4000000
namespace My
open PySem L2
section
variable {X : Cx}
def eqVs : List V → List V → Bool
  | [], [] => true
  | x :: xs, y :: ys => eqV x y && eqVs xs ys
  | _, _ => false
theorem eqVs_all : ∀ (xs ys : List V), ((List.range (min xs.length ys.length)).all (fun j => eqV (xs.getD j .non) (ys.getD j .non)) && xs.length == ys.length) = eqVs xs ys
  | [], [] => rfl
  | [], y :: ys => by simp [eqVs]
  | x :: xs, [] => by simp [eqVs]
  | x :: xs, y :: ys => by
    have ih := eqVs_all xs ys
    show _ = (eqV x y && eqVs xs ys)
    rw [← ih, List.length_cons, List.length_cons, Nat.succ_min_succ, List.range_succ_eq_map, List.all_cons, List.all_map, Bool.and_assoc]
    congr 1
    rw [show (xs.length + 1 == ys.length + 1) = (xs.length == ys.length) from by simp]
    rfl
theorem tup_eqs {pins : List (Addr × Obj)} {σ : St} {H : Hp} {s : Shared} {A : Around} {xs ys : List V} {its jts : List Value} (r1 : Vals xs its) (r2 : Vals ys jts) (f1 : xs.all flatV = true) (f2 : ys.all flatV = true) :
    ∀ j (h1 : j < its.toArray.size) (h2 : j < jts.toArray.size), SeqAt.EqAt A s its.toArray[j] jts.toArray[j] (eqV (xs.getD j .non) (ys.getD j .non)) := by
  intro j h1 h2
  have h1' : j < its.length := by simpa using h1
  have h2' : j < jts.length := by simpa using h2
  have k1 : j < xs.length := by rw [r1.length]; exact h1'
  have k2 : j < ys.length := by rw [r2.length]; exact h2'
  obtain ⟨u1, e1, q1⟩ := r1.get (List.getElem?_eq_getElem k1)
  obtain ⟨u2, e2, q2⟩ := r2.get (List.getElem?_eq_getElem k2)
  have a1 : its.toArray[j] = u1 := by
    have := List.getElem?_eq_getElem h1'
    rw [e1] at this
    simpa using (Option.some.inj this).symm
  have a2 : jts.toArray[j] = u2 := by
    have := List.getElem?_eq_getElem h2'
    rw [e2] at this
    simpa using (Option.some.inj this).symm
  have z1 : xs.getD j .non = xs[j] := by simp [k1]
  have z2 : ys.getD j .non = ys[j] := by simp [k2]
  rw [a1, a2, z1, z2]
  exact eqAt_V q1 q2 (List.all_eq_true.mp f1 _ (List.getElem_mem k1)) (List.all_eq_true.mp f2 _ (List.getElem_mem k2))
def rTT (K : PySem.W.Frag) (g : Bool → Bool) : R2 := fun x y H Q => ∃ p q xs ys, x = .ref p ∧ y = .ref q ∧ SqT K H p xs ∧ SqT K H q ys ∧ xs.all flatV = true ∧ ys.all flatV = true ∧ Q (.bl (g (eqVs xs ys))) H
theorem op_eqT (hu : X.A.units < cLine) : OpR X (compareOp .Eq) (rTT X.K id) := by
  intro pins s σ H x y v u Q I rx ry h
  obtain ⟨p, q, xs, ys, rfl, rfl, hp, hq, f1, f2, k⟩ := h
  cases rx
  cases ry
  obtain ⟨its, r1, t1, _⟩ := I.tuple hp
  obtain ⟨jts, r2, t2, _⟩ := I.tuple hq
  refine SeqAt.eq_tupleAt t1 t2 hu (tup_eqs (pins := pins) (σ := σ) (H := H) r1 r2 f1 f2) ?_
  refine ⟨.bl _, H, I, ?_, k⟩
  have z := eqVs_all xs ys
  rw [r1.length, r2.length] at z
  show Value.bool _ = Value.bool _
  rw [id, ← z]
  simp
def rNil (K : PySem.W.Frag) : R2 := fun x y H Q => ∃ p q xs, x = .ref p ∧ y = .ref q ∧ SqL K H p xs ∧ SqL K H q [] ∧ Q (.bl xs.isEmpty) H
end
end My
set_option Elab.async false
set_option linter.all false
set_option maxRecDepth 100000
set_option maxHeartbeats 1000000
namespace My
open PySem L2
section
variable {X : Cx}
def plainV : V → Bool
  | .ref _ => true
  | v => flatV v
def rSameT (K : PySem.W.Frag) : R2 := fun x y H Q => ∃ p q xs, x = .ref p ∧ y = .ref q ∧ SqT K H p xs ∧ SqT K H q xs ∧ xs.all plainV = true ∧ Q (.bl true) H
def rSameL (K : PySem.W.Frag) : R2 := fun x y H Q => ∃ p q xs, x = .ref p ∧ y = .ref q ∧ SqL K H p xs ∧ SqL K H q xs ∧ xs.all plainV = true ∧ Q (.bl true) H
end
end My
set_option Elab.async false
set_option linter.all false
set_option maxRecDepth 100000
set_option maxHeartbeats 1000000
namespace My
open PySem L2
section
variable {X : Cx}
def Flats (x y : V) : Prop := flatV x = true ∧ flatV y = true ∧ eqV x y = true
def Alike (K : PySem.W.Frag) (H : Hp) : Nat → V → V → Prop
  | 0, x, y => (∃ a, x = .ref a ∧ y = .ref a) ∨ Flats x y
  | n + 1, x, y => ((∃ a, x = .ref a ∧ y = .ref a) ∨ Flats x y) ∨
    ∃ p q xs ys, x = .ref p ∧ y = .ref q ∧ ((SqT K H p xs ∧ SqT K H q ys) ∨ (SqL K H p xs ∧ SqL K H q ys)) ∧ xs.length = ys.length ∧ ∀ (i : Nat) x y, xs[i]? = some x → ys[i]? = some y → Alike K H n x y
theorem Alike.same {K : PySem.W.Frag} {H : Hp} {n : Nat} {x y : V} (h : (∃ a, x = .ref a ∧ y = .ref a) ∨ Flats x y) : Alike K H n x y := by
  cases n with
  | zero => exact h
  | succ n => exact .inl h
theorem in1_units {A : Around} : A.in1.units = A.units + 1 := rfl
def rAlike (K : PySem.W.Frag) (n : Nat) (b : Bool) : R2 := fun x y H Q => ∃ p q xs ys, x = .ref p ∧ y = .ref q ∧ ((SqT K H p xs ∧ SqT K H q ys) ∨ (SqL K H p xs ∧ SqL K H q ys)) ∧ xs.length = ys.length ∧ (∀ (i : Nat) x y, xs[i]? = some x → ys[i]? = some y → Alike K H n x y) ∧ Q (.bl b) H
def rCount (K : PySem.W.Frag) : V → List V → Hp → VK → Prop := fun x vs H Q => ∃ l xs y, x = .ref l ∧ vs = [y] ∧ SqL K H l xs ∧ xs.all flatV = true ∧ flatV y = true ∧ Q (.int (xs.countP fun z => eqV z y : Nat)) H
end
end My
set_option Elab.async false
set_option linter.all false
set_option maxRecDepth 100000
set_option maxHeartbeats 1000000
namespace My
open PySem PySem.W L2
open PyProof.Rows (Call_ boot_enumerate)
section
variable {X : Cx} {pins : List (Addr × Obj)} {σ : St} {H : Hp} {s : Shared} {h' : Heap}
theorem turned2 {t' : Nat} {i1 i2 : Addr} (I : Inv X pins σ H s) (k : ∀ b o, b ≠ i1 → b ≠ i2 → s.heap.get? b = some o → h'.get? b = some o) (F1 : FpOk X pins H i1) (F2 : FpOk X pins H i2) : Inv X pins σ H { s with heap := h', toks := t' } := by
  obtain ⟨n1, L1, _, a1, b1, c1⟩ := F1
  obtain ⟨n2, L2, _, a2, b2, c2⟩ := F2
  have ni1 : ∀ b u, H b = some u → b ≠ i1 := fun b u e z => by rw [z, n1] at e; cases e
  have ni2 : ∀ b u, H b = some u → b ≠ i2 := fun b u e z => by rw [z, n2] at e; cases e
  refine I.step (g' := s.gens) (d' := s.drawn) (ch := [i1, i2]) (fun b hb => ?_) (fun b o _ _ hc e _ => k b o (fun z => hc (by simp [z])) (fun z => hc (by simp [z])) e) (fun b o _ _ hc e _ => ⟨o.slots, k b o (fun z => hc (by simp [z])) (fun z => hc (by simp [z])) e⟩) (fun _ _ _ _ n => n)
    (fun b o hc e => ⟨o, k b o (fun z => hc (by simp [z])) (fun z => hc (by simp [z])) e⟩) (fun _ _ e => e) (fun _ _ _ e => e) (fun b ps e => ⟨#[], by rw [e]; simp⟩) (fun q => q) (fun m hm => ?_) (fun b u e => ?_) I.bare
  · have e : b = i1 ∨ b = i2 := by simpa using hb
    rcases e with rfl | rfl
    · exact ⟨a1, L1, b1, c1⟩
    · exact ⟨a2, L2, b2, c2⟩
  · obtain ⟨o, es, ep, ho, r⟩ := hm
    exact ⟨o, es, ep, k _ o (Ne.symm L1) (Ne.symm L2) ho, r⟩
  · refine (I.hok b u e).stay (fun c v hc q => k c v ?_ ?_ q) (fun _ q => q) fun _ _ q => q
    · rcases hc with z | z
      · rw [z]; exact ni1 b u e
      · exact ni1 c _ z
    · rcases hc with z | z
      · rw [z]; exact ni2 b u e
      · exact ni2 c _ z
end
theorem nofree {o : Obj} {vs : Array Value} (d : o.data = .fields vs) : o.isFreed = false := by
  obtain ⟨c, dd, dt, sl⟩ := o
  cases d
  rfl
def Ite (K : Frag) (a : Addr) : It :=
  ⟨fun i H => ∃ xs x, SqL K H a xs ∧ xs[i]? = some x, fun i H x H' => ∃ p y, x = .ref p ∧ H p = none ∧ H' = upd H p (.tup [.int i, y]) ∧ ∀ xs, SqL K H a xs → xs[i]? = some y, fun i H => ∃ xs, SqL K H a xs ∧ xs.length ≤ i⟩
theorem turn_enum {P : Program} {w : World} {K : Frag} {elts : List Expr} {x1} {pos : Pos} (a e it : Addr) (ne : e ≠ it) : Turn P w K (.Tuple elts x1 pos) (Ite K a) [e, it] e (fun i h => (∃ old, IsEnum h e it i old) ∧ h.IsListIter it a i) where
  mem := by simp
  obj := fun i h st b hb => by
    obtain ⟨⟨old, h1⟩, o, h2, c, d⟩ := st
    have e : b = e ∨ b = it := by simpa using hb
    rcases e with rfl | rfl
    · exact ⟨_, h1, fun v z => by cases z⟩
    · exact ⟨o, h2, fun v z => by rw [d] at z; cases z⟩
  keep := fun i h h' st k => ⟨⟨_, k e (by simp) _ st.1.choose_spec⟩, st.2.at fun o z => k it (by simp) o z⟩
  item := by
    intro X hP hw hK hc i pins s σ H E I hf st hg
    subst hP hw hK
    obtain ⟨xs, x, hq, hx⟩ := hg
    obtain ⟨its, rv, p, hz⟩ := I.list hq
    obtain ⟨u, hu, ru⟩ := rv.get hx
    obtain ⟨⟨old, he⟩, hi⟩ := st
    have Fe := hf e (by simp)
    have Fi := hf it (by simp)
    refine wpAny_pyNext_enum_item he hi p.isList (x := u) (by simpa using hu) ne fun h1 eo hi1 ht hs1 kk => ?_
    refine ⟨_, rfl, wpAny_letOwnedTupleGo_enum (s := { s with heap := h1, toks := s.toks + 1 }) eo fun h2 he2 sb => ?_⟩
    have sb' : Heap.SameBut e h1 h2 := sb
    have ne2 : s.heap.objs.size ≠ e := Nat.ne_of_gt (Heap.lt_size he)
    have ht2 : h2.get? s.heap.objs.size = some { cls := .type "tuple", data := .seq #[.int i s.toks, u] } := (sb'.2 _ ne2).trans ht
    obtain ⟨oi, hoi, ci, di⟩ := hi
    obtain ⟨oi1, hoi1, ci1, di1⟩ := id hi1
    have hoi2 : h2.get? it = some oi1 := (sb'.2 _ (Ne.symm ne)).trans hoi1
    let hA : Heap := (s.heap.update e fun _ => { cls := .type "enumerate", dict := none, data := .fields #[.none, .bool false, .ref it, rawInt ((i : Int) + 1), .none, u], slots := #[] }).update it fun _ => oi1
    have IA : Inv X pins σ H { s with heap := hA, toks := s.toks } := turned2 I (fun b o z1 z2 q => by
      show hA.get? b = some o
      rw [Heap.get?_update_ne _ _ _ _ z2, Heap.get?_update_ne _ _ _ _ z1]
      exact q) Fe Fi
    have szA : hA.objs.size = s.heap.objs.size := by
      show ((s.heap.update e _).update it _).objs.size = _
      rw [Heap.size_update, Heap.size_update]
    refine ⟨.ref s.heap.objs.size, upd H s.heap.objs.size (.tup [.int i, x]), ?_, rfl, ⟨_, x, rfl, I.hok.fresh (Nat.le_refl _), rfl, fun ys hy => by rw [I.list_inj hy hq]; exact hx⟩, ⟨⟨u, he2⟩, oi1, hoi2, ci1, di1⟩, fun b hb => ?_⟩
    · refine IA.laid (t' := s.toks + 1) (fun b v q => ?_) (Nat.le_of_eq szA) ?_
      · have q' : hA.get? b = some v := q
        by_cases z2 : b = it
        · subst z2
          have hg : (s.heap.update e fun _ => { cls := .type "enumerate", dict := none, data := .fields #[.none, .bool false, .ref b, rawInt ((i : Int) + 1), .none, u], slots := #[] }).get? b = some oi := by
            rw [Heap.get?_update_ne _ _ _ _ (Ne.symm ne)]; exact hoi
          rw [Heap.get?_update_self _ hg (nofree di1)] at q'
          cases q'
          exact hoi2
        · rw [Heap.get?_update_ne _ _ _ _ z2] at q'
          by_cases z1 : b = e
          · subst z1
            rw [Heap.get?_update_self _ he rfl] at q'
            cases q'
            exact he2
          · rw [Heap.get?_update_ne _ _ _ _ z1] at q'
            exact (sb'.2 b z1).trans (kk b v z1 z2 q')
      · exact ⟨by show 2 ≤ sizeLine; decide, [.int i s.toks, u], .cons ⟨_, rfl⟩ (.cons ru .nil), ⟨_, ht2, rfl, _, rfl⟩⟩
    · have nb : b ≠ s.heap.objs.size := by
        have e' : b = e ∨ b = it := by simpa using hb
        rcases e' with rfl | rfl
        · exact Nat.ne_of_lt (Heap.lt_size he)
        · exact Nat.ne_of_lt (Heap.lt_size hoi)
      rw [upd_ne nb]
      exact (hf b hb).1
  done := by
    intro X hP hw hK hc i pins s σ H E I hf st hg
    subst hP hw hK
    obtain ⟨xs, hq, hx⟩ := hg
    obtain ⟨its, rv, p, hz⟩ := I.list hq
    obtain ⟨⟨old, he⟩, hi⟩ := st
    obtain ⟨f0, f1, f2, f3, f4, f5⟩ := hf it (by simp)
    have hl := rv.length
    exact wpAny_pyNext_enum_end (I.ok.hd hc) he hi p.isList (by simp; omega) fun h' eb => ⟨rfl, I.turned (t' := s.toks) (fun b o hb e => eb b o hb e) f0 f1 f3 f4 f5⟩
  self := fun _ _ _ _ _ st h => wpAny_pyIter_enum st.1.choose_spec h
section
variable {X : Cx}
def iEnum (K : Frag) (ta : TA) : TI := fun σ H R => ta σ H fun vs H1 => ∃ a, vs = [.ref a] ∧ (∃ xs, SqL K H1 a xs) ∧ R (Ite K a) H1
theorem pi_enum {elts : List Expr} {x1} {pt : Pos} {a : Expr} {ta : TA} {p pos : Pos} (hg : Gl X "enumerate") (hm : X.mg "enumerate" = none) (ha : PA X [a] ta) (hs : starEach [a] X.env = [(false, eval a X.env)] := by rfl) : PI X (.Tuple elts x1 pt) (.Call (.Name "enumerate" p) [a] [] pos) (iEnum X.K ta) := by
  intro pins s σ H R I h
  refine Call_ (ld_blt I hg hm boot_enumerate (PyProof.Rows.callWith_type1 (thn (ha pos pins s σ H _ I h) fun us s1 ⟨vs, H1, I1, r1, q1⟩ => ?_) hs rfl))
  obtain ⟨l, rfl, ⟨xs, hq⟩, q⟩ := q1
  cases r1 with
  | cons r rr =>
    cases rr
    cases r
    obtain ⟨its, rv, p', hz⟩ := I1.list hq
    refine call_enumerate_list p'.isList fun h' he hi hsz kk => ?_
    refine wpAny_pyIter_enum he ?_
    refine ⟨s1.heap.objs.size + 1, [s1.heap.objs.size + 1, s1.heap.objs.size], _, _, H1, rfl, I1.kept (t' := s1.toks) kk, turn_enum l _ _ (Nat.succ_ne_self _), ⟨⟨_, he⟩, hi⟩, fun b hb => ?_, q⟩
    have e : b = s1.heap.objs.size + 1 ∨ b = s1.heap.objs.size := by simpa using hb
    have le : s1.heap.objs.size ≤ b := by
      rcases e with rfl | rfl
      · exact Nat.le_succ _
      · exact Nat.le_refl _
    exact I1.fpOk le (I1.hok.fresh le)
end
theorem for_enum {K : Frag} {a : Addr} {xs : List V} {g : TG} {tb : TS} {D : Ends} {σ : St} {H : Hp} (Pv : Nat → St → Hp → Prop) (h0 : Pv 0 σ H) (hl : ∀ i σ H, i ≤ xs.length → Pv i σ H → SqL K H a xs)
    (hs : ∀ i x σ H p, xs[i]? = some x → Pv i σ H → H p = none → g (.ref p) σ (upd H p (.tup [.int i, x])) fun σ2 H2 => tb { D with nx := Pv (i + 1), ct := Pv (i + 1), bk := D.nx } σ2 H2) (hd : ∀ σ H, Pv xs.length σ H → D.nx σ H) :
    ∃ W : Nat → Nat → St → Hp → Prop, (∃ m, W 0 m σ H) ∧ ∀ i m σ H, W i m σ H →
      ((Ite K a).stop i H ∧ D.nx σ H) ∨ ((Ite K a).go i H ∧ ∃ N : St → Hp → Prop, (∀ σ' H', N σ' H' → ∃ m', m' < m ∧ W (i + 1) m' σ' H') ∧ ∀ x H', (Ite K a).yld i H x H' → g x σ H' fun σ2 H2 => tb { D with nx := N, ct := N, bk := D.nx } σ2 H2) := by
  refine ⟨fun i m σ H => m = xs.length - i ∧ i ≤ xs.length ∧ Pv i σ H, ⟨xs.length, by simp, Nat.zero_le _, h0⟩, ?_⟩
  rintro i m σ H ⟨rfl, hi, p⟩
  have q := hl i σ H hi p
  by_cases hlt : i < xs.length
  · refine .inr ⟨⟨xs, xs[i], q, List.getElem?_eq_getElem hlt⟩, Pv (i + 1), fun σ' H' n => ⟨xs.length - (i + 1), by omega, rfl, hlt, n⟩, ?_⟩
    rintro x H' ⟨p', y, rfl, hp, rfl, hy⟩
    exact hs i y σ H p' (hy xs q) p hp
  · have e : i = xs.length := by omega
    subst e
    exact .inl ⟨⟨xs, q, Nat.le_refl _⟩, hd σ H p⟩
end My
set_option Elab.async false
set_option linter.all false
set_option maxRecDepth 100000
set_option maxHeartbeats 4000000
namespace My
open PySem L2
section
variable {prog : Program} {w : World} {A : Around} {R : Result → Shared → Prop} {s : Shared}
theorem compLoopT {elt target iter : Expr} {scope : Scope} {pos : Pos} {it acc : Value} {env : Env} (J : Nat → Shared → Prop)
    (turn : ∀ n s, J n s → wpAny (model prog w) A (pyNext it) (fun r s₁ => match r with
      | none => R (.ok .next) s₁
      | some v => wpAny (model prog w) A (letOwnedTupleGo target it v) (fun _ s₂ => wpAny (model prog w) A (assign target env v) (fun _ s₃ => wpAny (model prog w) A (eval elt env)
          (fun x s₄ => wpAny (model prog w) A (call (.builtin "list.append") [acc, x]) (fun _ s₅ => ∃ m, m < n ∧ J m s₅) (fun _ _ => False) s₄) (fun _ _ => False) s₃) (fun _ _ => False) s₂) (fun _ _ => False) s₁) (fun _ _ => False) s)
    (n : Nat) (h : J n s) : codeAny (model prog w) A (.compLoop (.ListComp elt [⟨target, iter, [], 0⟩] scope pos) 0 it acc env) R s := by
  refine codeAny_loop rfl J (fun n s hJ => ?_) n h
  show wpAny _ _ (Sem.onRaise (compTurn (.ListComp elt [⟨target, iter, [], 0⟩] scope pos) 0 it acc env) (fun x => do noteFrame x env; theTreesLotGoes x)) _ _ s
  refine wpAny_noted ?_
  rw [compTurn_list1]
  refine wpAny_bind (wpAny_standAt (wpAny_bind (wpAny_mono (turn n s hJ) (fun r s₁ h₁ => ?_) fun _ _ z => z.elim)))
  cases r with
  | none => exact wpAny_pure h₁
  | some v =>
    refine wpAny_bind (wpAny_mono h₁ (fun _ s₂ h₂ => ?_) fun _ _ z => z.elim)
    refine wpAny_bind (wpAny_mono h₂ (fun _ s₃ h₃ => ?_) fun _ _ z => z.elim)
    refine wpAny_bind (wpAny_bind (wpAny_mono h₃ (fun x s₄ h₄ => ?_) fun _ _ z => z.elim))
    refine wpAny_bind (wpAny_mono h₄ (fun _ s₅ h₅ => wpAny_pure (wpAny_pure ⟨rfl, h₅⟩)) fun _ _ z => z.elim)
end
def compCx (X : Cx) (sc : Scope) (cl : List (Str × Addr)) (N : List Str) (s : Shared) (H : Hp) (C : Addr) (fp : List Addr) : Cx where
  prog := X.prog
  w := X.w
  K := X.K
  mg := X.mg
  base := X.base
  A := X.A
  N := N
  s₀ := s
  H₀ := H
  env := compEnvC sc cl C X.env
  outer := X.stack
  stack := X.stack
  ex := fp
  fn := fun _ => false
  calm := X.calm
  pn := []
  xe := fun _ _ => False
structure CompSc (X : Cx) (sc : Scope) (cl : List (Str × Addr)) (x : Str) (zs : List Str) (js : List Nat) : Prop where
  clos : closureFor sc X.env = pure cl
  kind : sc.kind = .function
  noCell : ∀ y ∈ sc.names, y.2 ≠ .cell
  names : ∀ y ∈ sc.names, y.2 = .local → sc.names.lookup y.1 = some .local
  var : sc.names.lookup x = some .local
  sub : ∀ z c, cl.lookup z = some c → X.env.cells.lookup z = some c
  has : ∀ z, ((relabel sc X.env).names.lookup z = some .cell ∨ (relabel sc X.env).names.lookup z = some .free) → ∃ c, cl.lookup z = some c
  nd : (x :: zs).Nodup
  cap : ∀ (k : Nat) (z : Str), zs[k]? = some z → ∃ j : Nat, js[k]? = some j ∧ X.N[j]? = some z ∧ Vis X.env.scope z ∧ X.env.kindOf z ≠ some .local ∧
    ((relabel sc X.env).names.lookup z = some .cell ∨ (relabel sc X.env).names.lookup z = some .free)
  len : js.length = zs.length
def capS (js : List Nat) (σ : St) : St := js.map fun j => (σ[j]?).join
def tLC (wi : TI) (js : List Nat) (te : TE) : TE := fun σ H Q => wi σ H fun J H1 => ∀ D, H1 D = none → ∃ W : Nat → Nat → List V → Hp → Prop, (∃ m, W 0 m [] (upd H1 D (.lst []))) ∧
  ∀ i m ys H2, W i m ys H2 → H2 D = some (.lst ys) ∧ ((J.stop i H2 ∧ Q (.ref D) H2) ∨ (J.go i H2 ∧ ys.length < sizeLine ∧
    ∀ x H3, J.yld i H2 x H3 → te (some x :: capS js σ) H3 fun y H4 => H4 D = some (.lst ys) ∧ ∃ m', m' < m ∧ W (i + 1) m' (ys ++ [y]) (upd H4 D (.lst (ys ++ [y])))))
section
variable {X : Cx} {pins : List (Addr × Obj)} {σ : St} {H : Hp} {s : Shared} {sc : Scope} {cl : List (Str × Addr)} {x : Str} {zs : List Str} {js : List Nat} {C : Addr} {fp : List Addr}
end
section
variable {X : Cx} {sc : Scope} {cl : List (Str × Addr)} {x : Str} {zs : List Str} {js : List Nat} {elt iter : Expr} {px pos : Pos} {wi : TI} {te : TE}
end
end My
set_option Elab.async false
set_option linter.all false
set_option maxRecDepth 100000
set_option maxHeartbeats 1000000
namespace My
open PySem PySem.W L2
section
variable {K : Frag} {te : TE} {cap : St} {D : Addr} {H1 : Hp} {Q : Hp → Prop}
end
end My
set_option Elab.async false
set_option linter.all false
set_option maxRecDepth 100000
set_option maxHeartbeats 4000000
namespace My
open PySem L2 PySem.Calls PyProof.Rows
open PySem.Builtin.Str (occurrences partsBetween strSub)
section
variable {X : Cx}
def GDiv (i j : Int) : Prop := 0 < j ∧ j.natAbs.log2 < 9000
theorem op_gdiv : OpR X (binaryOp .FloorDiv) (rI GDiv fun i j => .int (i / j)) := opI fun i j _ _ _ _ _ hc q => by
  have z := hc.1
  exact floordiv_int (by omega) (by rw [Int.fdiv_eq_ediv_of_nonneg i (Int.le_of_lt z)]; exact q) (.inl (PyProof.noPylong_of_log2 hc.2))
def GMul (i j : Int) : Prop := Builtin.Int.intBits i + Builtin.Int.intBits j ≤ 1000000
theorem GMul.ok {i j : Int} (h : GMul i j) : IntMulOk i j := by
  unfold IntMulOk
  have z : Builtin.Int.intTooBig (Builtin.Int.intBits i + Builtin.Int.intBits j) = false := by
    unfold Builtin.Int.intTooBig
    refine decide_eq_false ?_
    have h' : Builtin.Int.intBits i + Builtin.Int.intBits j ≤ 1000000 := h
    have hb : (1000000 : Int) ≤ bitsLine := by decide +kernel
    omega
  rw [z]; simp
theorem mt_starts : MtR X "str.startswith" (fun x xs H Q => ∃ a b, x = .str a ∧ xs = [.str b] ∧ Q (.bl (Txt.startswith a b)) H) := by
  intro pins s σ H x xs v us Q I rx rs h
  obtain ⟨a, b, rfl, rfl, q⟩ := h
  obtain ⟨t, rfl⟩ := rx
  obtain ⟨u, rfl, t', rfl⟩ := vals1 rs
  exact call_gives F.slot_str_startswith (typeIs_str _ _ _) F.entry_str_startswith (F.args_str_startswith_2 _ _) (gives_str_startswith a b t t') ⟨.bl _, H, I, rfl, q⟩
theorem mt_find : MtR X "str.find" (fun x xs H Q => ∃ a b, x = .str a ∧ xs = [.str b] ∧ Q (.int (Txt.find a b)) H) := by
  intro pins s σ H x xs v us Q I rx rs h
  obtain ⟨a, b, rfl, rfl, q⟩ := h
  obtain ⟨t, rfl⟩ := rx
  obtain ⟨u, rfl, t', rfl⟩ := vals1 rs
  exact call_gives F.slot_str_find (typeIs_str _ _ _) F.entry_str_find (F.args_str_find_2 _ _) (gives_str_find a b t t') ⟨.int _, H, I.tok _, ⟨_, rfl⟩, q⟩
theorem three (a b c : Str) (t u v : Tok) : Vals [.str a, .str b, .str c] [.str a t, .str b u, .str c v] := .cons (⟨t, rfl⟩ : RelV (.str a) _) (.cons (⟨u, rfl⟩ : RelV (.str b) _) (.cons (⟨v, rfl⟩ : RelV (.str c) _) .nil))
def rPart : V → List V → Hp → VK → Prop := fun x xs H Q => ∃ a b, x = .str a ∧ xs = [.str b] ∧ (b.length == 0) = false ∧ a.length ≤ sizeLine ∧
  ∀ p, H p = none → Q (.ref p) (upd H p (.tup [.str (Txt.partition a b).1, .str (Txt.partition a b).2.1, .str (Txt.partition a b).2.2]))
theorem mt_part : MtR X "str.partition" rPart := by
  intro pins s σ H x xs v us Q I rx rs h
  obtain ⟨a, b, rfl, rfl, hb, ha, q⟩ := h
  obtain ⟨t, rfl⟩ := rx
  obtain ⟨u, rfl, t', rfl⟩ := vals1 rs
  refine call_meets F.slot_str_partition (typeIs_str _ _ _) F.entry_str_partition (F.args_str_partition_2 _ _) (meets_str_partition a b t t' hb ha) ?_
  have q' := q s.heap.objs.size (I.hok.fresh (Nat.le_refl _))
  unfold Txt.partition at q'
  revert q'
  cases occurrences a b 0 a.length 1 with
  | nil =>
    intro q'
    exact ⟨.ref _, _, I.laid (t' := s.toks + 1) (fun b o e => Heap.get?_push_of_some _ e) (Nat.le_refl _) (show ObjOk X.prog X.w _ _ _ (.tup _) from ⟨(by show 3 ≤ sizeLine; decide), _, three _ _ _ _ _ _, IsTup.new _ _⟩), rfl, q'⟩
  | cons i r =>
    intro q'
    exact ⟨.ref _, _, I.laid (t' := s.toks + 1 + 1) (fun b o e => Heap.get?_push_of_some _ e) (Nat.le_refl _) (show ObjOk X.prog X.w _ _ _ (.tup _) from ⟨(by show 3 ≤ sizeLine; decide), _, three _ _ _ _ _ _, IsTup.new _ _⟩), rfl, q'⟩
def rSplit : V → List V → Hp → VK → Prop := fun x xs H Q => ∃ a b, x = .str a ∧ xs = [.str b] ∧ (b.length == 0) = false ∧ a.length ≤ sizeLine ∧
  (partsBetween a (occurrences a b 0 a.length (a.length + 1)) b.length).length ≤ sizeLine ∧ ∀ p, H p = none → Q (.ref p) (upd H p (.lst ((Txt.split a b).map V.str)))
theorem vals_strs : ∀ (l : List (Str × Tok)), Vals (l.map fun z => V.str z.1) (strValues l)
  | [] => .nil
  | z :: l => .cons (⟨z.2, rfl⟩ : RelV (.str z.1) _) (vals_strs l)
theorem mt_split : MtR X "str.split" rSplit := by
  intro pins s σ H x xs v us Q I rx rs h
  obtain ⟨a, b, rfl, rfl, hb, ha, hn, q⟩ := h
  obtain ⟨t, rfl⟩ := rx
  obtain ⟨u, rfl, t', rfl⟩ := vals1 rs
  have q' := q s.heap.objs.size (I.hok.fresh (Nat.le_refl _))
  have one : ∀ (l : List (Str × Tok)) (k : Nat), Txt.split a b = l.map (·.1) → l.length ≤ sizeLine → EP X pins σ Q (.ref s.heap.objs.size) { s with heap := s.heap.push { cls := .type "list", data := .seq (strValues l).toArray }, toks := k } := by
    intro l k e hl
    rw [e, List.map_map] at q'
    exact ⟨.ref _, _, I.laid (t' := k) (fun b o e => Heap.get?_push_of_some _ e) (Nat.le_refl _) (show ObjOk X.prog X.w _ _ _ (.lst _) from ⟨by rw [List.length_map]; exact hl, _, _, vals_strs l, Heap.get?_push_size _ rfl⟩), rfl, q'⟩
  cases h1 : (decide (a.length < b.length) || decide (Builtin.Str.strKind a < Builtin.Str.strKind b))
  · cases hf : (occurrences a b 0 a.length (a.length + 1)).isEmpty
    · refine call_meets F.slot_str_split (typeIs_str _ _ _) F.entry_str_split (F.args_str_split_2 _ _) (meets_str_split_sep a b t t' h1 hb hf ha hn) ?_
      have z : Txt.split a b = (numbered s.toks (partsBetween a (occurrences a b 0 a.length (a.length + 1)) b.length)).map (·.1) := by
        rw [numbered_texts]; unfold Txt.split; rw [if_neg (by rw [h1]; decide), if_neg (by rw [hf]; decide)]
      have y := one _ (s.toks + (partsBetween a (occurrences a b 0 a.length (a.length + 1)) b.length).length) z (by rw [← List.length_map (f := (·.1)), numbered_texts]; exact hn)
      rw [← strsFrom_eq] at y
      exact y
    · refine call_meets F.slot_str_split (typeIs_str _ _ _) F.entry_str_split (F.args_str_split_2 _ _) (meets_str_split_not_found a b t t' h1 hb hf) ?_
      exact one [(a, t)] s.toks (by unfold Txt.split; rw [if_neg (by rw [h1]; decide), if_pos hf]; rfl) (by show 1 ≤ sizeLine; decide)
  · refine call_meets F.slot_str_split (typeIs_str _ _ _) F.entry_str_split (F.args_str_split_2 _ _) (meets_str_split_cannot_occur a b t t' h1) ?_
    exact one [(a, t)] s.toks (by unfold Txt.split; rw [if_pos h1]; rfl) (by show 1 ≤ sizeLine; decide)
def tFieldI (te : TE) : TE := fun σ H Q => te σ H fun x H1 => ∃ i, x = .int i ∧ i.natAbs < 10 ^ 4300 ∧ Q (.str (toString i)) H1
def Its (z : Str) : It := ⟨fun i _ => i < z.cps.size, fun i H x H' => H' = H ∧ ∃ c, z.cps[i]? = some c ∧ x = .str ⟨#[c]⟩, fun i _ => z.cps.size ≤ i⟩
section
variable {P : Program} {w : World} {K : PySem.W.Frag} {tg : Expr}
theorem itObj {h : Heap} {it : Addr} {ty : String} {z : Str} {t : Tok} {i : Nat} (st : h.IsStrIter it ty z t i) : ∀ b ∈ [it], ∃ o, h.get? b = some o ∧ ∀ v, o.data ≠ .cell v := by
  intro b hb
  obtain ⟨o, e, _, d⟩ := st
  cases List.mem_singleton.mp hb
  exact ⟨o, e, fun v y => by rw [d] at y; cases y⟩
theorem turn_signsA (z : Str) (t : Tok) (it : Addr) : Turn P w K tg (Its z) [it] it (fun i h => h.IsStrIter it "str_ascii_iterator" z t i) where
  mem := List.mem_singleton.mpr rfl
  obj := fun _ _ st => itObj st
  keep := fun _ _ _ ⟨o, e, r⟩ k => ⟨o, k it (List.mem_singleton.mpr rfl) o e, r⟩
  item := by
    intro X hP hw hK hc i pins s σ H E I hf st hg
    subst hP hw hK
    have hg' : i < z.cps.size := hg
    obtain ⟨f0, f1, f2, f3, f4, f5⟩ := hf it (List.mem_singleton.mpr rfl)
    have hx : z.cps[i]? = some z.cps[i] := Array.getElem?_eq_getElem hg'
    refine wpAny_pyNext_ascii_item st hx fun h' st' sb => ?_
    have I1 : Inv X pins σ H { s with heap := h', toks := s.toks + 1 } := I.turned (t' := s.toks + 1) (fun b o hb e => (sb.2 b hb).trans e) f0 f1 f3 f4 f5
    obtain ⟨o, e, c, d⟩ := id st'
    exact ⟨_, rfl, go_of (s := { s with heap := h', toks := s.toks + 1 }) e c d (by decide) ⟨.str _, H, I1, ⟨_, rfl⟩, ⟨rfl, _, hx, rfl⟩, st', fun b hb => (hf b hb).1⟩⟩
  done := by
    intro X hP hw hK hc i pins s σ H E I hf st hg
    subst hP hw hK
    have hg' : z.cps.size ≤ i := hg
    obtain ⟨f0, f1, f2, f3, f4, f5⟩ := hf it (List.mem_singleton.mpr rfl)
    exact wpAny_pyNext_ascii_end (I.ok.hd hc) st (Array.getElem?_eq_none hg') fun h' eb => ⟨rfl, I.turned (t' := s.toks) (fun b o hb e => eb b o hb e) f0 f1 f3 f4 f5⟩
  self := fun _ _ _ _ _ st h => wpAny_pyIter_striter_ascii st h
theorem turn_signsW (z : Str) (t : Tok) (it : Addr) : Turn P w K tg (Its z) [it] it (fun i h => h.IsStrIter it "str_iterator" z t i) where
  mem := List.mem_singleton.mpr rfl
  obj := fun _ _ st => itObj st
  keep := fun _ _ _ ⟨o, e, r⟩ k => ⟨o, k it (List.mem_singleton.mpr rfl) o e, r⟩
  item := by
    intro X hP hw hK hc i pins s σ H E I hf st hg
    subst hP hw hK
    have hg' : i < z.cps.size := hg
    obtain ⟨f0, f1, f2, f3, f4, f5⟩ := hf it (List.mem_singleton.mpr rfl)
    have hx : z.cps[i]? = some z.cps[i] := Array.getElem?_eq_getElem hg'
    refine wpAny_pyNext_wide_item st hx fun h' st' sb => ?_
    have I1 : Inv X pins σ H { s with heap := h', toks := s.toks + 1 } := I.turned (t' := s.toks + 1) (fun b o hb e => (sb.2 b hb).trans e) f0 f1 f3 f4 f5
    obtain ⟨o, e, c, d⟩ := id st'
    exact ⟨_, rfl, go_of (s := { s with heap := h', toks := s.toks + 1 }) e c d (by decide) ⟨.str _, H, I1, ⟨_, rfl⟩, ⟨rfl, _, hx, rfl⟩, st', fun b hb => (hf b hb).1⟩⟩
  done := by
    intro X hP hw hK hc i pins s σ H E I hf st hg
    subst hP hw hK
    have hg' : z.cps.size ≤ i := hg
    obtain ⟨f0, f1, f2, f3, f4, f5⟩ := hf it (List.mem_singleton.mpr rfl)
    exact wpAny_pyNext_wide_end (I.ok.hd hc) st (Array.getElem?_eq_none hg') fun h' eb => ⟨rfl, I.turned (t' := s.toks) (fun b o hb e => eb b o hb e) f0 f1 f3 f4 f5⟩
  self := fun _ _ _ _ _ st h => wpAny_pyIter_striter_wide st h
end
def iStr (tl : TE) : TI := fun σ H R => tl σ H fun x H1 => ∃ z, x = .str z ∧ R (Its z) H1
theorem pi_str {tg l : Expr} {tl : TE} (hl : PE X l tl) : PI X tg l (iStr tl) := by
  intro pins s σ H R I h
  refine thn (hl pins s σ H _ I h) fun v s1 ⟨x, H1, I1, r1, q1⟩ => ?_
  obtain ⟨z, e, q⟩ := q1
  subst e
  obtain ⟨t, rfl⟩ := r1
  have fr : ∀ b ∈ [s1.heap.objs.size], FpOk X pins H1 b := fun b hb => by
    cases List.mem_singleton.mp hb
    exact I1.fpOk (Nat.le_refl _) (I1.hok.fresh (Nat.le_refl _))
  cases ha : z.cps.all (· < 128)
  · exact wpAny_pyIter_wide ha ⟨_, [s1.heap.objs.size], _, _, H1, rfl, I1.kept (t' := s1.toks) fun b o e => Heap.get?_push_of_some _ e, turn_signsW z t _, ⟨_, Heap.get?_push_size _ rfl, rfl, rfl⟩, fr, q⟩
  · exact wpAny_pyIter_ascii ha ⟨_, [s1.heap.objs.size], _, _, H1, rfl, I1.kept (t' := s1.toks) fun b o e => Heap.get?_push_of_some _ e, turn_signsA z t _, ⟨_, Heap.get?_push_size _ rfl, rfl, rfl⟩, fr, q⟩
def tJoin3 (ta tb tc : TE) : TE := fun σ H Q => ta σ H fun x H1 => ∃ a, x = .str a ∧ a.length ≤ sizeLine ∧ tb σ H1 fun y H2 => ∃ b, y = .str b ∧ (a ++ b).length ≤ sizeLine ∧
  tc σ H2 fun z H3 => ∃ c, z = .str c ∧ (a ++ b ++ c).length ≤ sizeLine ∧ Q (.str (a ++ b ++ c)) H3
theorem emptyApp (a : Str) : Str.empty ++ a = a := by
  show (⟨#[] ++ a.cps⟩ : Str) = a
  rw [Array.empty_append]
end
end My
set_option Elab.async false
set_option linter.all false
set_option maxRecDepth 100000
set_option maxHeartbeats 4000000
namespace My
open PySem L2
section
variable {prog : Program} {w : World} {A : Around} {R : Result → Shared → Prop} {s : Shared}
end
def tLCif (wi : TI) (js : List Nat) (tt : TT) (te : TE) : TE := fun σ H Q => wi σ H fun J H1 => ∀ D, H1 D = none → ∃ W : Nat → Nat → List V → Hp → Prop, (∃ m, W 0 m [] (upd H1 D (.lst []))) ∧
  ∀ i m ys H2, W i m ys H2 → H2 D = some (.lst ys) ∧ ((J.stop i H2 ∧ Q (.ref D) H2) ∨ (J.go i H2 ∧ ys.length < sizeLine ∧
    ∀ x H3, J.yld i H2 x H3 → tt (some x :: capS js σ) H3 fun k H0 => (k = false → ∃ m', m' < m ∧ W (i + 1) m' ys H0) ∧
      (k = true → te (some x :: capS js σ) H0 fun y H4 => H4 D = some (.lst ys) ∧ ∃ m', m' < m ∧ W (i + 1) m' (ys ++ [y]) (upd H4 D (.lst (ys ++ [y]))))))
section
variable {X : Cx} {sc : Scope} {cl : List (Str × Addr)} {x : Str} {zs : List Str} {js : List Nat} {elt iter c : Expr} {px pos : Pos} {wi : TI} {te : TE} {tt : TT}
end
end My
set_option Elab.async false
set_option linter.all false
set_option maxRecDepth 100000
set_option maxHeartbeats 4000000
namespace My
open PySem L2
structure CompG (X : Cx) (sc : Scope) (cl : List (Str × Addr)) (ts zs : List Str) (js : List Nat) : Prop where
  clos : closureFor sc X.env = pure cl
  kind : sc.kind = .function
  noCell : ∀ y ∈ sc.names, y.2 ≠ .cell
  names : ∀ y ∈ sc.names, y.2 = .local → sc.names.lookup y.1 = some .local
  var : ∀ x ∈ ts, sc.names.lookup x = some .local
  sub : ∀ z c, cl.lookup z = some c → X.env.cells.lookup z = some c
  has : ∀ z, ((relabel sc X.env).names.lookup z = some .cell ∨ (relabel sc X.env).names.lookup z = some .free) → ∃ c, cl.lookup z = some c
  nd : (ts ++ zs).Nodup
  cap : ∀ (k : Nat) (z : Str), zs[k]? = some z → ∃ j : Nat, js[k]? = some j ∧ X.N[j]? = some z ∧ Vis X.env.scope z ∧ X.env.kindOf z ≠ some .local ∧
    ((relabel sc X.env).names.lookup z = some .cell ∨ (relabel sc X.env).names.lookup z = some .free)
  len : js.length = zs.length
def tLCG (wi : TI) (k : Nat) (js : List Nat) (g : TG) (te : TE) : TE := fun σ H Q => wi σ H fun J H1 => ∀ D, H1 D = none → ∃ W : Nat → Nat → List V → Hp → Prop, (∃ m, W 0 m [] (upd H1 D (.lst []))) ∧
  ∀ i m ys H2, W i m ys H2 → H2 D = some (.lst ys) ∧ ((J.stop i H2 ∧ Q (.ref D) H2) ∨ (J.go i H2 ∧ ys.length < sizeLine ∧
    ∀ x H3, J.yld i H2 x H3 → ∀ os : St, os.length = k → g x (os ++ capS js σ) H3 fun σ2 H0 => (∃ os' : St, os'.length = k ∧ σ2 = os' ++ capS js σ) ∧ te σ2 H0 fun y H4 => H4 D = some (.lst ys) ∧ ∃ m', m' < m ∧ W (i + 1) m' (ys ++ [y]) (upd H4 D (.lst (ys ++ [y])))))
def tLCGif (wi : TI) (k : Nat) (js : List Nat) (g : TG) (tt : TT) (te : TE) : TE := fun σ H Q => wi σ H fun J H1 => ∀ D, H1 D = none → ∃ W : Nat → Nat → List V → Hp → Prop, (∃ m, W 0 m [] (upd H1 D (.lst []))) ∧
  ∀ i m ys H2, W i m ys H2 → H2 D = some (.lst ys) ∧ ((J.stop i H2 ∧ Q (.ref D) H2) ∨ (J.go i H2 ∧ ys.length < sizeLine ∧
    ∀ x H3, J.yld i H2 x H3 → ∀ os : St, os.length = k → g x (os ++ capS js σ) H3 fun σ2 H0 => (∃ os' : St, os'.length = k ∧ σ2 = os' ++ capS js σ) ∧ tt σ2 H0 fun b H5 => (b = false → ∃ m', m' < m ∧ W (i + 1) m' ys H5) ∧
      (b = true → te σ2 H5 fun y H4 => H4 D = some (.lst ys) ∧ ∃ m', m' < m ∧ W (i + 1) m' (ys ++ [y]) (upd H4 D (.lst (ys ++ [y]))))))
section
variable {X : Cx} {pins : List (Addr × Obj)} {σ : St} {H : Hp} {s : Shared} {sc : Scope} {cl : List (Str × Addr)} {ts zs : List Str} {js : List Nat} {C : Addr} {fp : List Addr}
theorem compG_ok (I : Inv X pins σ H s) (S : CompG X sc cl ts zs js) (hf : ∀ b ∈ fp, FpOk X pins H b ∧ b < s.heap.objs.size) (hC : s.heap.objs.size ≤ C) : (compCx X sc cl (ts ++ zs) s H C fp).Ok := by
  refine ⟨I.ok.mod, S.kind, I.ok.glob, I.ok.blt, hC, fun y z c h1 h2 => I.ok.inj y z c (S.sub _ _ h1) (S.sub _ _ h2), fun z h => S.has z h, (fun _ _ h => nomatch h), I.ok.hd, I.ok.frames, .inl rfl, fun b hb => ?_, I.bs, ?_, fun b o e hb => ?_, fun b hb hs => ?_, I.stack, I.stkFree⟩
  · obtain ⟨⟨_, h1, _, _, h4, _⟩, h6⟩ := hf b hb
    exact ⟨fun e => absurd h6 (Nat.not_lt.mpr (by rw [show b = C from e]; exact hC)), fun z c e => h4 z c (S.sub _ _ e)⟩
  · exact Nat.le_trans I.ok.bsz I.sz
  · obtain ⟨⟨_, _, _, h3, _⟩, _⟩ := hf b hb
    rcases h3 with h | h
    · exact I.ok.noex b o e h
    · exact absurd (Heap.lt_size e) (Nat.not_lt.mpr (Nat.le_trans I.ok.bsz h))
  · obtain ⟨⟨_, h1, h2, _⟩, _⟩ := hf b hb
    rcases List.mem_cons.mp (I.stkSub b hs) with e | e
    · exact h1 e
    · exact h2 e
theorem compG_start {s1 : Shared} (I : Inv X pins σ H s) (S : CompG X sc cl ts zs js) (hf : ∀ b ∈ fp, FpOk X pins H b ∧ b < s.heap.objs.size) (hC : s.heap.objs.size ≤ C) (ho : s1.os = s.os) (hg : s1.gens = s.gens)
    (hk : ∀ b o, s.heap.get? b = some o → s1.heap.get? b = some o) {m : Str → Option Value} (hn : s1.heap.Ns C m) : Inv (compCx X sc cl (ts ++ zs) s H C fp) [] (List.replicate ts.length none ++ capS js σ) H s1 := by
  refine ⟨compG_ok I S hf hC, ho, by rw [hg]; exact I.bare, Un.kept hk, ⟨m, hn, fun i y v h1 h2 h3 => ?_⟩, fun z c e => ?_, I.hok.fresh hC, fun z c e => I.freeC z c (S.sub _ _ e), fun p hp => absurd (show p ∈ ([] : List (Addr × Obj)) from hp) (by simp), I.hok.kept hk, ?_⟩
  · rcases Nat.lt_or_ge i ts.length with lt | ge
    · rw [List.getElem?_append_left (by rw [List.length_replicate]; exact lt), List.getElem?_replicate, if_pos lt] at h2
      cases h2
    · have h1' : zs[i - ts.length]? = some y := by
        have h1'' : (ts ++ zs)[i]? = some y := h1
        rw [List.getElem?_append_right ge] at h1''
        exact h1''
      obtain ⟨j, hj, hN, hv, nl, k'⟩ := S.cap _ y h1'
      have h2' : (capS js σ)[i - ts.length]? = some (some v) := by
        rw [List.getElem?_append_right (by rw [List.length_replicate]; exact ge), List.length_replicate] at h2
        exact h2
      have h5 : σ[j]? = some (some v) := by
        unfold capS at h2'
        rw [List.getElem?_map, hj] at h2'
        have h6 : (σ[j]?).join = some v := Option.some.inj h2'
        cases e : σ[j]? with
        | none => rw [e] at h6; cases h6
        | some o => rw [e] at h6; exact congrArg some h6
      obtain ⟨m0, hn0, hl⟩ := I.loc
      obtain ⟨u, ru, lk⟩ := hl j y v hN h5 hv
      refine ⟨u, ru, ?_⟩
      rcases lk with ⟨k1, _⟩ | ⟨_, c, ec, hc⟩
      · exact absurd k1 nl
      · obtain ⟨c', ec'⟩ := S.has y k'
        have e2 := S.sub _ _ ec'
        rw [ec] at e2
        cases e2
        exact .inr ⟨k', c, ec', hc.keeps hk⟩
  · obtain ⟨v, hv⟩ := I.cell z c (S.sub _ _ e)
    exact ⟨v, hv.keeps hk⟩
  · show (List.replicate ts.length none ++ capS js σ : St).length = (ts ++ zs).length
    unfold capS
    rw [List.length_append, List.length_append, List.length_map, List.length_replicate, S.len]
theorem compG_end {s1 : Shared} {σ' : St} {H' : Hp} {h' : Heap} (I : Inv X pins σ H s) (hf : ∀ b ∈ fp, FpOk X pins H b ∧ b < s.heap.objs.size) (hC : s.heap.objs.size ≤ C) (J : Inv (compCx X sc cl (ts ++ zs) s H C fp) [] σ' H' s1)
    (hs : Heap.SameBut C s1.heap h') : Inv X pins σ H' { s1 with heap := h' } := by
  have old : ∀ b o, s1.heap.get? b = some o → b ≠ C → h'.get? b = some o := fun b o e n => (hs.2 b n).trans e
  have lt : ∀ {b o}, s.heap.get? b = some o → b ≠ C := fun {b o} e z => by
    have q := Heap.lt_size e
    rw [z] at q
    exact absurd q (Nat.not_lt.mpr hC)
  have B := J.base
  refine I.call' (s' := { s1 with heap := h' }) (ch := fp) J.os ⟨fun b o e n hb hx => old b o (B.keep b o e n hb hx) (lt e), fun b o e n hb hx => ?_, B.free, fun b o e hx => ?_, B.tups, B.frzs, B.tbls, B.sys⟩ (fun b o e => ?_) J.bare fun b hb => ?_
  · obtain ⟨sl, q⟩ := B.slot b o e n hb hx
    exact ⟨sl, old _ _ q (lt e)⟩
  · obtain ⟨o', q⟩ := B.there b o e hx
    exact ⟨o', old _ _ q (lt e)⟩
  · have nC : ∀ c u, H' c = some u → c ≠ C := fun c u q z => by
      have f : H' C = none := J.free
      rw [z, f] at q; cases q
    refine (J.hok b o e).stay (fun c v hc q => old c v q ?_) (fun _ q => q) fun _ _ q => q
    rcases hc with rfl | hc
    · exact nC _ _ e
    · exact nC _ _ hc
  · obtain ⟨⟨_, h1, _, h3, h4, h5⟩, _⟩ := hf b hb
    exact ⟨h3, h1, h4, h5⟩
end
section
variable {X : Cx} {sc : Scope} {cl : List (Str × Addr)} {ts zs : List Str} {js : List Nat} {elt iter : Expr} {pos : Pos} {tg : Expr} {g : TG} {wi : TI} {te : TE}
theorem pe_lcG (hc : X.calm = true) (S : CompG X sc cl ts zs js) (hi : PI X tg iter wi) (hg : ∀ s H C fp, PG (compCx X sc cl (ts ++ zs) s H C fp) tg g) (he : ∀ s H C fp, PE (compCx X sc cl (ts ++ zs) s H C fp) elt te)
    (hs : ∀ v, foldedSetIterable iter X.env v = pure v := by intro _; rfl) : PE X (.ListComp elt [⟨tg, iter, [], 0⟩] sc pos) (tLCG wi ts.length js g te) := by
  intro pins s σ H Q I h
  rw [eval_ListComp]
  refine wpAny_comprehension_free (use := none) rfl hs S.clos S.kind S.names (thn (hi pins s σ H _ I h) fun v s1 h1 => thn h1 fun itv s2 h2 => ?_)
  obtain ⟨it, fp, tn, J, H2, e, I2, T, st2, f2, body⟩ := h2
  subst e
  have fr2 : H2 s2.heap.objs.size = none := I2.fresh
  obtain ⟨W, ⟨m0, w0⟩, turn⟩ := body _ fr2
  refine wpAny_newObj_type ?_
  have I3 : Inv X pins σ (upd H2 s2.heap.objs.size (.lst [])) { s2 with heap := s2.heap.push { cls := .type "list", data := .seq ([] : List Value).toArray } } := I2.lnew (t' := s2.toks) (ys := []) (its := []) .nil (Nat.zero_le _)
  refine wpAny_newFunctionEnv S.noCell (by intro y hy; simp at hy) (fun h₁ hn hsb => ?_) S.kind
  generalize hs3 : ({ s2 with heap := s2.heap.push { cls := .type "list", data := .seq ([] : List Value).toArray } } : Shared) = s3 at I3 hn hsb ⊢
  have fpl : ∀ b ∈ fp, FpOk X pins (upd H2 s2.heap.objs.size (.lst [])) b ∧ b < s3.heap.objs.size := fun b hb => by
    obtain ⟨o, ho, _⟩ := T.obj _ _ st2 b hb
    have hl := Heap.lt_size ho
    have hne : b ≠ s2.heap.objs.size := Nat.ne_of_lt hl
    obtain ⟨z1, z2⟩ := f2 b hb
    refine ⟨⟨by rw [upd_ne hne]; exact z1, z2⟩, ?_⟩
    rw [← hs3]
    show b < (s2.heap.push _).objs.size
    rw [Heap.size_push]
    exact Nat.lt_succ_of_lt hl
  have old : ∀ b o, s3.heap.get? b = some o → h₁.get? b = some o := fun b o e => hsb.extBut b o (Nat.ne_of_lt (Heap.lt_size e)) (Heap.get?_push_of_some _ e)
  have loop : ∀ sS : Shared, sS.heap = h₁ → sS.os = s3.os → sS.gens = s3.gens → codeAny (model X.prog X.w) X.A (.compLoop (.ListComp elt [⟨tg, iter, [], 0⟩] sc pos) 0 (.ref it) (.ref s2.heap.objs.size) (compEnvC sc cl s3.heap.objs.size X.env))
      (compPost (model X.prog X.w) X.A X.xe none (EP X pins σ Q) (.ref s2.heap.objs.size) s3.heap.objs.size) sS := by
    intro sS eh eo eg
    subst eh
    have J0 : Inv (compCx X sc cl (ts ++ zs) s3 (upd H2 s2.heap.objs.size (.lst [])) s3.heap.objs.size fp) [] (List.replicate ts.length none ++ capS js σ) (upd H2 s2.heap.objs.size (.lst [])) sS := compG_start I3 S fpl (Nat.le_refl _) eo eg old hn
    generalize hX : compCx X sc cl (ts ++ zs) s3 (upd H2 s2.heap.objs.size (.lst [])) s3.heap.objs.size fp = X' at J0
    have stat : ∀ {H' : Hp}, (∀ b ∈ fp, H' b = none) → ∀ b ∈ fp, FpOk X' [] H' b := fun {H'} hn b hb => by
      subst hX
      obtain ⟨⟨_, z1, z2, z3, z4, z5⟩, z6⟩ := fpl b hb
      refine ⟨hn b hb, Nat.ne_of_lt z6, fun q => ?_, .inl hb, fun y c e => z4 y c (S.sub _ _ e), fun p hp => absurd (show p ∈ ([] : List (Addr × Obj)) from hp) (by simp)⟩
      rcases List.mem_cons.mp (I3.stkSub b q) with e | e
      · exact z1 e
      · exact z2 e
    have st3 : tn 0 sS.heap := T.keep _ _ _ st2 fun b hb o e => old b o (by rw [← hs3]; exact Heap.get?_push_of_some _ e)
    refine compLoopT (fun n s' => ∃ i ys os H', os.length = ts.length ∧ Inv X' [] (os ++ capS js σ) H' s' ∧ tn i s'.heap ∧ (∀ b ∈ fp, H' b = none) ∧ W i n ys H') ?_ m0 ⟨0, [], _, _, List.length_replicate, J0, st3, fun b hb => (fpl b hb).1.1, w0⟩
    rintro n s' ⟨i, ys, os, H', los, Iv, st, fr, w⟩
    obtain ⟨hD, alt⟩ := turn i n ys H' w
    have eP : X'.prog = X.prog := by subst hX; rfl
    have eW : X'.w = X.w := by subst hX; rfl
    have eK : X'.K = X.K := by subst hX; rfl
    have eC : X'.calm = true := by subst hX; exact hc
    have eA : X'.A = X.A := by subst hX; rfl
    have eE : X'.env = compEnvC sc cl s3.heap.objs.size X.env := by subst hX; rfl
    have eX : X'.xe = fun _ _ => False := by subst hX; rfl
    rcases alt with ⟨stop, q⟩ | ⟨go, hlen, step⟩
    · have d := T.done X' eP eW eK eC i [] s' _ H' (fun _ _ => False) Iv (stat fr) st stop
      rw [eA] at d
      refine thn d fun r s4 ⟨hr, I4⟩ => ?_
      subst hr
      obtain ⟨m, hm, _⟩ := id I4.loc
      rw [eE] at hm
      subst hX
      exact ⟨m, hm, fun h' hs' => ⟨.ref s2.heap.objs.size, H', compG_end I3 fpl (Nat.le_refl _) I4 hs', rfl, q⟩⟩
    · have d := T.item X' eP eW eK eC i [] s' _ H' (fun _ _ => False) Iv (stat fr) st go
      rw [eA] at d
      refine thn d fun r s4 ⟨u, hr, h4⟩ => ?_
      subst hr
      refine thn h4 fun _ s5 ⟨y, H5, I5, r5, y5, st5, fr5⟩ => ?_
      have I5' := I5.pinned (stat fr5) (T.obj _ _ st5)
      have hg' : PG X' tg g := by subst hX; exact hg _ _ _ _
      have g6 := hg' _ s5 _ H5 y u _ I5' r5 (step y H5 y5 os los)
      rw [eP, eW, eA, eE, eX] at g6
      refine thn g6 fun _ s6 ⟨σ6, H6, I6, ⟨os', los', e6⟩, st6⟩ => ?_
      subst e6
      have he' : PE X' elt te := by subst hX; exact he _ _ _ _
      have g7 := he' _ s6 _ H6 _ I6 st6
      rw [eP, eW, eA, eE, eX] at g7
      refine thn g7 fun uv s7 ⟨v7, H7, I7, r7, hD7, m', hm', w7⟩ => ?_
      have g8 := (mt_append (X := X')) _ s7 _ H7 (.ref s2.heap.objs.size) [v7] (.ref s2.heap.objs.size) [uv] (fun _ H8 => H8 = upd H7 s2.heap.objs.size (.lst (ys ++ [v7]))) I7 rfl (.cons r7 .nil) ⟨_, ys, v7, rfl, rfl, hD7, hlen, rfl⟩
      rw [eP, eW, eA, eX] at g8
      refine thn g8 fun _ s8 ⟨_, H8, I8, _, e8⟩ => ?_
      subst e8
      refine ⟨m', hm', i + 1, ys ++ [v7], os', _, los', I8.unpinned, T.keep _ _ _ st5 fun b hb o e => (I8.pin (b, o) (List.mem_append_right _ (List.mem_append_right _ (mem_pinsAt hb e)))).1, fun b hb => ?_, w7⟩
      obtain ⟨o', e', _⟩ := T.obj _ _ st5 b hb
      exact (I8.pin (b, o') (List.mem_append_right _ (List.mem_append_right _ (mem_pinsAt hb e')))).2.1
  have st1 : tn 0 h₁ := T.keep _ _ _ st2 fun b hb o e => old b o (by rw [← hs3]; exact Heap.get?_push_of_some _ e)
  exact codeAny_compStart_list (loop _ rfl rfl rfl) (T.self _ 0 _ _ _ st1 (loop _ rfl rfl rfl))
end
section
variable {X : Cx} {sc : Scope} {cl : List (Str × Addr)} {ts zs : List Str} {js : List Nat} {elt iter c : Expr} {pos : Pos} {tg : Expr} {g : TG} {wi : TI} {te : TE} {tt : TT}
end
end My
set_option Elab.async false
set_option linter.all false
set_option maxRecDepth 100000
set_option maxHeartbeats 1000000
namespace My
open PySem PySem.W L2
structure ClsFn (K : Frag) (D : Addr) (m : Str) (f : Addr) : Prop where
  ga : specialIn K (.ref D) "__getattribute__" = some (some (.builtin "type.__getattribute__"))
  reads : readsIn K D (.type "type") = true
  at_ : findCls K (.ref D) (.type "type") m = some (.val (.ref f))
  kp : keepIn K (.ref f) = true
section
variable {X : Cx} {CX : CXT} {k : Nat} {f D : Addr} {fd : FuncData} {ps : List Str} {sp : Sp} {E : XK} {x m : Str} {p pos apos : Pos} {e : Expr} {es : List Expr} {t : TA} {dvs : List V} {ds : List Value}
theorem pe_clsCall {pl : Sem Bool} (C : ClsFn X.K D m f) (F : FnOk X.prog X.w X.K X.mg X.base CX k f fd ps sp) (hr : Room k X.A) (hg : Gl X x) (hm : X.mg x = some (.ref D)) (hb : Binds X.K fd ps ds) (hd : Vals dvs ds) (hx : Passes CX X E) (ha : PA X (e :: es) t)
    (hdb : (x == ("__debug__" : Str)) = false := by decide) (hst : starEach (e :: es) X.env = (false, eval e X.env) :: starEach es X.env := by rfl) (hpl : (backTo pos (starEach es X.env)).any (·.1) = false := by rfl)
    (htr : eval (.Call (.Attribute (.Name x p) m apos) (e :: es) [] pos) X.env = (do
      let ov ← eval (.Name x p) X.env
      standAt apos.atName
      let (f, first) ← holding [ov] (getMethod ov m pl)
      callWith pos f first (backTo pos (starEach (e :: es) X.env)) (backToKw pos (keywordEach [] X.env))) := by rfl) :
    PE X (.Call (.Attribute (.Name x p) m apos) (e :: es) [] pos) (tCall sp dvs E t) := by
  intro pins s σ H Q I h
  refine PySem.W.methodCall_KW (pl := pl) (ld_glob I hg hm ?_ hdb) htr
  refine method_cls I.kIn C.ga (cls_value I.kIn C.reads C.at_ rfl ?_)
  have I0 : Inv X pins σ H { s with toks := s.toks + 1 } := I.tok _
  refine PySem.W.callWith_K (h₀ := X.base) I.ok.mod.kin C.kp (thn (ha pos pins _ σ H _ I0 h) fun us s1 ⟨vs, H1, I1, r, q⟩ => ⟨I1.kIn, ?_⟩) hst hpl
  exact run_fn F hr hb hd hx I1 r q
end
end My
set_option Elab.async false
set_option linter.all false
set_option maxRecDepth 100000
set_option maxHeartbeats 4000000
namespace My
open PySem L2
open PySem.Builtin.Str (occurrences partsBetween strSub)
def fig (c : Nat) : Bool := decide (48 ≤ c) && decide (c ≤ 57)
def figs (L : List Nat) : Bool := !L.isEmpty && !(L.head? == some 48 && L != [48]) && L.all fig
abbrev cs (z : Str) : List Nat := z.cps.toList
theorem fig_iff {c : Nat} : fig c = true ↔ 48 ≤ c ∧ c ≤ 57 := by simp [fig]
theorem figs_all {L : List Nat} (h : figs L = true) : L.all fig = true := by
  unfold figs at h
  simp only [Bool.and_eq_true] at h
  exact h.2
theorem figs_ne {L : List Nat} (h : figs L = true) : L ≠ [] := by
  intro e
  subst e
  cases h
abbrev val (L : List Nat) : Nat := NumText.digitsVal L
theorem str_ext {a b : Str} (h : cs a = cs b) : a = b := by
  cases a; cases b
  exact congrArg Str.mk (Array.toList_inj.mp h)
theorem cs_app (a b : Str) : cs (a ++ b) = cs a ++ cs b := by
  show (a.cps ++ b.cps).toList = _
  exact Array.toList_append
theorem part_at {z : Str} {A R : List Nat} (h : cs z = A ++ 47 :: R) (hA : 47 ∉ A) : Txt.partition z ⟨#[47]⟩ = (⟨A.toArray⟩, ⟨#[47]⟩, ⟨R.toArray⟩) := by
  have h' : z.cps.toList = A ++ 47 :: R := h
  have hz : z.length = A.length + 1 + R.length := by
    show z.cps.size = _
    rw [← Array.length_toList, h']
    simp
    omega
  rcases PyProof.Rows.partition_whole z ⟨#[47]⟩ with ⟨_, hn⟩ | ⟨i, hp, hi, hn⟩
  · exfalso
    have m : 47 ∈ cs z := by rw [h]; simp
    obtain ⟨i, hi⟩ := (PyProof.Rows.mem_iff_at z 47).mp m
    exact hn i hi
  · have gi : (cs z)[i]? = some 47 := (StrLaws.subAt_one z 47 i).mp hi
    have e : i = A.length := by
      rcases Nat.lt_trichotomy i A.length with l | l | l
      · exfalso
        rw [h, List.getElem?_append_left l] at gi
        exact hA (List.mem_of_getElem? gi)
      · exact l
      · exfalso
        refine hn A.length l ((StrLaws.subAt_one z 47 A.length).mpr ?_)
        show (cs z)[A.length]? = some 47
        rw [h]
        simp
    subst e
    rw [hp]
    have e1 : strSub z 0 A.length = ⟨A.toArray⟩ := str_ext (by
      show (z.cps.extract 0 A.length).toList = _
      rw [Array.toList_extract, h']
      simp)
    have e2 : strSub z (A.length + (⟨#[47]⟩ : Str).length) z.length = ⟨R.toArray⟩ := str_ext (by
      show (z.cps.extract (A.length + 1) z.length).toList = _
      rw [Array.toList_extract, h', hz]
      rw [List.extract_eq_take_drop, show A ++ 47 :: R = (A ++ [47]) ++ R from by simp, show A.length + 1 = (A ++ [47]).length from by simp, List.drop_left, List.take_of_length_le (by simp)])
    rw [e1, e2]
theorem part_none {z : Str} (h : 47 ∉ cs z) : Txt.partition z ⟨#[47]⟩ = (z, Str.empty, Str.empty) := by
  rcases PyProof.Rows.partition_whole z ⟨#[47]⟩ with ⟨hp, _⟩ | ⟨i, _, hi, _⟩
  · exact hp
  · exact absurd ((PyProof.Rows.mem_iff_at z 47).mpr ⟨i, hi⟩) h
theorem split_cases (z : Str) : (Txt.split z ⟨#[47]⟩ = [z] ∧ 47 ∉ cs z) ∨ (∃ a b, Txt.split z ⟨#[47]⟩ = [a, b] ∧ cs z = cs a ++ 47 :: cs b ∧ 47 ∉ cs a ∧ 47 ∉ cs b) ∨
    (2 < (Txt.split z ⟨#[47]⟩).length ∧ ∃ A R, cs z = A ++ 47 :: R ∧ 47 ∉ A ∧ 47 ∈ R) := by
  have hj := StrLaws.join_split z ⟨#[47]⟩
  have hf := StrLaws.split_free z 47
  have hp := PyProof.Rows.split_pos z ⟨#[47]⟩
  generalize hl : Txt.split z ⟨#[47]⟩ = l at hj hf hp
  match l, hj, hf, hp with
  | [], _, _, hp => exact absurd hp (by decide)
  | [a], hj, hf, _ =>
    have e : a = z := hj
    subst e
    exact .inl ⟨rfl, hf _ (by simp)⟩
  | [a, b], hj, hf, _ =>
    refine .inr (.inl ⟨a, b, rfl, ?_, hf _ (by simp), hf _ (by simp)⟩)
    have e : a ++ ⟨#[47]⟩ ++ b = z := hj
    rw [← e, cs_app, cs_app]
    show cs a ++ [47] ++ cs b = _
    simp
  | a :: b :: c :: r, hj, hf, _ =>
    refine .inr (.inr ⟨by simp, cs a, cs (Str.join ⟨#[47]⟩ (b :: c :: r)), ?_, hf _ (by simp), ?_⟩)
    · have e : a ++ ⟨#[47]⟩ ++ Str.join ⟨#[47]⟩ (b :: c :: r) = z := hj
      rw [← e, cs_app, cs_app]
      show cs a ++ [47] ++ _ = _
      simp
    · have e : Str.join ⟨#[47]⟩ (b :: c :: r) = b ++ ⟨#[47]⟩ ++ Str.join ⟨#[47]⟩ (c :: r) := rfl
      rw [e, cs_app, cs_app]
      show 47 ∈ cs b ++ [47] ++ _
      simp
theorem fig_no (L : List Nat) (h : 47 ∈ L) : figs L = false := by
  cases e : figs L with
  | false => rfl
  | true =>
    have a := List.all_eq_true.mp (figs_all e) 47 h
    cases a
def okS (a b : List Nat) : Bool := figs a && figs b && decide (2 ≤ val b) && decide (1 ≤ val a) && decide (val a < val b) && decide (Nat.gcd (val a) (val b) = 1)
def rd (z : Str) : Option (Nat × Nat) :=
  if z = "0" then some (0, 1) else if z = "1" then some (1, 1) else
    match Txt.split z ⟨#[47]⟩ with
    | [a, b] => if okS (cs a) (cs b) = true then some (val (cs a), val (cs b)) else none
    | _ => none
theorem rd_part {z : Str} (h0 : z ≠ "0") (h1 : z ≠ "1") : rd z = (if okS (cs (Txt.partition z ⟨#[47]⟩).1) (cs (Txt.partition z ⟨#[47]⟩).2.2) = true then
    some (val (cs (Txt.partition z ⟨#[47]⟩).1), val (cs (Txt.partition z ⟨#[47]⟩).2.2)) else none) := by
  unfold rd
  rw [if_neg h0, if_neg h1]
  rcases split_cases z with ⟨e, hn⟩ | ⟨a, b, e, hz, ha, hb⟩ | ⟨hl, A, R, hz, hA, hR⟩
  · rw [e, part_none hn]
    have e2 : figs (cs Str.empty) = false := rfl
    unfold okS
    rw [e2]
    simp
  · rw [e, part_at hz ha]
  · rw [part_at hz hA]
    have e2 : figs (cs ⟨R.toArray⟩) = false := fig_no R hR
    have e3 : okS (cs ⟨A.toArray⟩) (cs ⟨R.toArray⟩) = false := by unfold okS; rw [e2]; simp
    show _ = if okS (cs ⟨A.toArray⟩) (cs ⟨R.toArray⟩) = true then _ else none
    rw [e3]
    generalize Txt.split z ⟨#[47]⟩ = l at hl
    match l, hl with
    | a :: b :: c :: r, _ => rfl
abbrev tx (n : Nat) : Str := Str.ofString (toString ((n : Nat) : Int))
theorem tx_cs (n : Nat) : cs (tx n) = (Nat.toDigits 10 n).map Char.toNat := by
  exact PySem.W.KIN.signs_num n
theorem tx_val (n : Nat) : val (cs (tx n)) = n := by rw [tx_cs]; exact PySem.W.KIN.val_back n
theorem dig_fig : ∀ d : Nat, d < 10 → fig (Nat.digitChar d).toNat = true := by decide
theorem dig_one : ∀ d : Nat, d < 10 → figs [(Nat.digitChar d).toNat] = true := by decide
theorem tx_figs (n : Nat) : figs (cs (tx n)) = true := by
  rw [tx_cs]
  induction n using Nat.strongRecOn with
  | _ n ih =>
    by_cases h : n < 10
    · rw [Nat.toDigits_of_lt_base h]
      exact dig_one n h
    · have hm : n % 10 < 10 := Nat.mod_lt n (by decide)
      have t : Nat.toDigits 10 (n / 10) ++ Nat.toDigits 10 (n % 10) = Nat.toDigits 10 (10 * (n / 10) + n % 10) := Nat.toDigits_append_toDigits (by decide) (by omega) hm
      rw [Nat.div_add_mod] at t
      rw [← t, List.map_append, Nat.toDigits_of_lt_base hm]
      have i1 := ih (n / 10) (by omega)
      have v1 := PySem.W.KIN.val_back (n / 10)
      generalize (Nat.toDigits 10 (n / 10)).map Char.toNat = L at i1 v1
      show figs (L ++ [(Nat.digitChar (n % 10)).toNat]) = true
      have a1 := figs_all i1
      cases L with
      | nil => exact absurd rfl (figs_ne i1)
      | cons c L =>
        have hc : c ≠ 48 := by
          intro e
          subst e
          have : (48 :: L) = [48] := by
            unfold figs at i1
            simp only [Bool.and_eq_true, Bool.not_eq_true', List.head?_cons, beq_self_eq_true, Bool.true_and] at i1
            have := i1.1.2
            simpa using this
          rw [this] at v1
          have v0 : NumText.digitsVal [48] = 0 := rfl
          rw [v0] at v1
          omega
        unfold figs
        rw [List.all_append, a1]
        simp [hc, dig_fig _ hm]
theorem tx_free (n : Nat) : 47 ∉ cs (tx n) := fun h => by
  have e := fig_no _ h
  rw [tx_figs] at e
  cases e
def shT (t b : Nat) : Str := if b = 1 then tx t else tx t ++ "/" ++ tx b
theorem shT_cs (t b : Nat) : cs (tx t ++ "/" ++ tx b) = cs (tx t) ++ 47 :: cs (tx b) := by
  rw [cs_app, cs_app]
  show cs (tx t) ++ [47] ++ _ = _
  simp
theorem rd_str {t b : Nat} : rd (tx t ++ "/" ++ tx b) = if (2 ≤ b ∧ 1 ≤ t ∧ t < b ∧ Nat.gcd t b = 1) then some (t, b) else none := by
  have h := shT_cs t b
  have m : 47 ∈ cs (tx t ++ "/" ++ tx b) := by rw [h]; simp
  have n0 : tx t ++ "/" ++ tx b ≠ "0" := fun e => by rw [e] at m; exact absurd m (by decide +kernel)
  have n1 : tx t ++ "/" ++ tx b ≠ "1" := fun e => by rw [e] at m; exact absurd m (by decide +kernel)
  rw [rd_part n0 n1, part_at h (tx_free t)]
  show (if okS (cs (tx t)) (cs (tx b)) = true then some (val (cs (tx t)), val (cs (tx b))) else none) = _
  unfold okS
  rw [tx_figs, tx_figs, tx_val, tx_val]
  by_cases c : 2 ≤ b ∧ 1 ≤ t ∧ t < b ∧ Nat.gcd t b = 1
  · rw [if_pos c, if_pos]
    simp [c]
  · rw [if_neg c, if_neg]
    simp
    omega
def Low (t b : Nat) : Prop := 1 ≤ b ∧ t ≤ b ∧ Nat.gcd t b = 1
theorem Low.cases {t b : Nat} (h : Low t b) : (b = 1 ∧ (t = 0 ∨ t = 1)) ∨ (2 ≤ b ∧ 1 ≤ t ∧ t < b ∧ Nat.gcd t b = 1) := by
  obtain ⟨h1, h2, h3⟩ := h
  by_cases e : b = 1
  · left; omega
  · right
    refine ⟨by omega, ?_, ?_, h3⟩
    · rcases Nat.eq_zero_or_pos t with z | z
      · subst z; rw [Nat.gcd_zero_left] at h3; omega
      · exact z
    · rcases Nat.lt_or_eq_of_le h2 with l | l
      · exact l
      · subst l; rw [Nat.gcd_self] at h3; omega
end My
set_option Elab.async false
set_option linter.all false
set_option maxRecDepth 100000
set_option maxHeartbeats 1000000
namespace My
open PySem PySem.W L2
theorem itT {A B : Prop} (h : A) : if true = true then A else B := by rw [if_pos rfl]; exact h
theorem itF {A B : Prop} (h : B) : if false = true then A else B := by rw [if_neg (by decide)]; exact h
def Ext (H H' : Hp) : Prop := ∀ b o, H b = some o → H' b = some o
theorem Ext.refl (H : Hp) : Ext H H := fun _ _ h => h
theorem Ext.trans {H H1 H2 : Hp} (a : Ext H H1) (b : Ext H1 H2) : Ext H H2 := fun x o h => b x o (a x o h)
theorem Ext.new {H : Hp} {p : Addr} {o : HO} (h : H p = none) : Ext H (upd H p o) := fun b u e => by rw [upd_ne (ne_of_none e h)]; exact e
theorem SqT.ext {K : Frag} {H H' : Hp} {p : Addr} {xs : List V} (h : SqT K H p xs) (e : Ext H H') : SqT K H' p xs := by
  rcases h with h | h
  · left
    rcases h with h | ⟨o, h⟩
    · exact .inl (e _ _ h)
    · exact .inr ⟨o, e _ _ h⟩
  · exact .inr h
theorem SqL.ext {K : Frag} {H H' : Hp} {s : Addr} {xs : List V} (h : SqL K H s xs) (x : Ext H H') : SqL K H' s xs := by
  rcases h with h | h
  · rcases h with h | ⟨o, h⟩
    · exact .inl (.inl (x _ _ h))
    · exact .inl (.inr ⟨o, x _ _ h⟩)
  · exact .inr h
theorem pe_ty {X : Cx} {x : Str} {n : String} {pos : Pos} (hg : Gl X x) (hm : X.mg x = none) (hv : bootBuiltins x = some (.type n)) (hn : x ≠ "__name__" := by decide +kernel) (hd : (x == ("__debug__" : Str)) = false := by decide) : PE X (.Name x pos) (tC (.ty n)) :=
  pe_bltn hg hm hv (show RelV (.ty n) (.type n) from rfl) hn hd
def Kd (K : Frag) (H : Hp) (x : V) (t : Value) : Prop := TyOf K H x t ∨ (∃ p xs, x = .ref p ∧ SqT K H p xs ∧ t = .type "tuple") ∨ (∃ a C, x = .ref a ∧ ErrAt H a C ∧ ErrI K C ∧ t = .ref C)
def rIsK (K : Frag) : List V → Hp → VK → Prop := fun vs H Q => ∃ x n t b, vs = [x, .ty n] ∧ Kd K H x t ∧ kitOne K t (.type n) = some b ∧ Q (.bl b) H
theorem call_isK {X : Cx} (N : IsT X.K) : CallR X (.builtin "isinstance") (rIsK X.K) := by
  intro pins s σ H xs us Q I r h
  obtain ⟨x, n, t, b, rfl, kd, e, q⟩ := h
  obtain ⟨u, u', rfl, ru, ru'⟩ := vals2 r
  cases (show u' = Value.type n from ru')
  rcases kd with ty | ⟨p, ys, rfl, hq, rfl⟩ | ⟨a, C, rfl, ea, T, rfl⟩
  · exact isinst_ok I ru ty e fun tk => ⟨.bl b, H, I.tok _, rfl, q⟩
  · cases (show u = Value.ref p from ru)
    obtain ⟨its, _, ⟨o, h1, h2, _⟩, _⟩ := I.tuple hq
    exact kia_one kitx_tuple I.kIn ⟨o, h1, h2⟩ e (fun z => nomatch z) fun tk => ⟨.bl b, H, I.tok _, rfl, q⟩
  · cases (show u = Value.ref a from ru)
    exact kia_one (kitErr T N.gt N.tk) I.kIn (ea.inst I.hok) e (fun z => nomatch z) fun tk => ⟨.bl b, H, I.tok _, rfl, q⟩
theorem ErrAt.ext {H H' : Hp} {a C : Addr} (e : ErrAt H a C) (x : Ext H H') : ErrAt H' a C := by
  rcases e with e | ⟨dx, fs, e1, e2⟩
  · exact .inl (x _ _ e)
  · exact .inr ⟨dx, fs, x _ _ e1, x _ _ e2⟩
theorem TyOf.ext {K : Frag} {H H' : Hp} {x : V} {t : Value} (h : TyOf K H x t) (e : Ext H H') : TyOf K H' x t := by
  cases h with
  | non => exact .non
  | bl b => exact .bl b
  | int i => exact .int i
  | str z => exact .str z
  | flt z => exact .flt z
  | lst q => exact .lst (e _ _ q)
  | frz q => exact .frz (e _ _ q)
  | tup q => exact .tup (e _ _ q)
  | dK q => exact .dK (e _ _ q)
  | dT q => exact .dT (e _ _ q)
  | ins q cl ha hn htk hm => exact .ins (e _ _ q) cl ha hn htk hm
theorem Kd.ext {K : Frag} {H H' : Hp} {x : V} {t : Value} (h : Kd K H x t) (e : Ext H H') : Kd K H' x t := by
  rcases h with ty | ⟨p, ys, rfl, hq, rfl⟩ | ⟨a, C, rfl, ea, T, rfl⟩
  · exact .inl (My.TyOf.ext ty e)
  · exact .inr (.inl ⟨p, ys, rfl, My.SqT.ext hq e, rfl⟩)
  · exact .inr (.inr ⟨a, C, rfl, ea.ext e, T, rfl⟩)
def NoInt (K : Frag) (H : Hp) (x : V) : Prop := (∀ i, x ≠ .int i) ∧ ∃ t b1 b2, Kd K H x t ∧ kitOne K t (.type "int") = some b1 ∧ kitOne K t (.type "bool") = some b2 ∧ (b1 && !b2) = false
def Th (K : Frag) (H : Hp) (x : V) : Prop := (∃ i, x = .int i) ∨ NoInt K H x
theorem Th.ext {K : Frag} {H H' : Hp} {x : V} (h : Th K H x) (e : Ext H H') : Th K H' x := by
  rcases h with h | ⟨n, t, b1, b2, kd, k1, k2, z⟩
  · exact .inl h
  · exact .inr ⟨n, t, b1, b2, kd.ext e, k1, k2, z⟩
def numB : V → Bool
  | .int _ => true
  | _ => false
def inB (lo hi : Int) : V → Bool
  | .int i => decide (lo ≤ i) && decide (i ≤ hi)
  | _ => false
theorem numB_no {x : V} (h : ∀ i, x ≠ .int i) : numB x = false := by
  cases x with
  | int i => exact absurd rfl (h i)
  | _ => rfl
theorem inB_no {lo hi : Int} {x : V} (h : ∀ i, x ≠ .int i) : inB lo hi x = false := by
  cases x with
  | int i => exact absurd rfl (h i)
  | _ => rfl
section
variable {P : Program} {w : World} {K : Frag} {mg : Str → Option Value} {base : Heap}
theorem k_ii : kitOne K (.type "int") (.type "int") = some true := rfl
theorem k_ib : kitOne K (.type "int") (.type "bool") = some false := rfl
end
end My
set_option Elab.async false
set_option linter.all false
set_option maxRecDepth 100000
set_option maxHeartbeats 4000000
set_option exponentiation.threshold 5000
namespace My
open PySem PySem.W L2
def keyD : Key → PyData
  | .inl i => .int i
  | .inr x => .str x
mutual
inductive Rds (G : Hp) : V → PyData → Prop
  | non : Rds G .non .none
  | bl (b : Bool) : Rds G (.bl b) (.bool b)
  | int (i : Int) : Rds G (.int i) (.int i)
  | str (x : Str) : Rds G (.str x) (.str x)
  | lst {a : Addr} {xs : List V} {ds : List PyData} : G a = some (.lst xs) → RdsAll G xs ds → Rds G (.ref a) (.list ds)
  | tup {a : Addr} {xs : List V} {ds : List PyData} : G a = some (.tup xs) → RdsAll G xs ds → Rds G (.ref a) (.tuple ds)
  | dic0 {a : Addr} : G a = some (.dK []) → Rds G (.ref a) (.dict [])
  | dic {a : Addr} {k : Key} {v : V} {d : PyData} : G a = some (.dK [(k, v)]) → Rds G v d → Rds G (.ref a) (.dict [(keyD k, d)])
inductive RdsAll (G : Hp) : List V → List PyData → Prop
  | nil : RdsAll G [] []
  | cons {v : V} {vs : List V} {d : PyData} {ds : List PyData} : Rds G v d → RdsAll G vs ds → RdsAll G (v :: vs) (d :: ds)
end
mutual
theorem Rds.mono {G G' : Hp} (s : Ext G G') : ∀ {v : V} {d : PyData}, Rds G v d → Rds G' v d
  | _, _, .non => .non
  | _, _, .bl b => .bl b
  | _, _, .int i => .int i
  | _, _, .str x => .str x
  | _, _, .lst e r => .lst (s _ _ e) (RdsAll.mono s r)
  | _, _, .tup e r => .tup (s _ _ e) (RdsAll.mono s r)
  | _, _, .dic0 e => .dic0 (s _ _ e)
  | _, _, .dic e r => .dic (s _ _ e) (Rds.mono s r)
theorem RdsAll.mono {G G' : Hp} (s : Ext G G') : ∀ {vs : List V} {ds : List PyData}, RdsAll G vs ds → RdsAll G' vs ds
  | _, _, .nil => .nil
  | _, _, .cons r t => .cons (Rds.mono s r) (RdsAll.mono s t)
end
theorem RdsAll.length {G : Hp} : ∀ {vs : List V} {ds : List PyData}, RdsAll G vs ds → vs.length = ds.length
  | _, _, .nil => rfl
  | _, _, .cons _ t => by rw [List.length_cons, List.length_cons, t.length]
theorem RdsAll.append {G : Hp} : ∀ {vs ws : List V} {ds es : List PyData}, RdsAll G vs ds → RdsAll G ws es → RdsAll G (vs ++ ws) (ds ++ es)
  | _, _, _, _, .nil, s => s
  | _, _, _, _, .cons r t, s => .cons r (t.append s)
theorem RdsAll.set {G : Hp} {v : V} {d : PyData} (r : Rds G v d) : ∀ {vs : List V} {ds : List PyData} (i : Nat), RdsAll G vs ds → RdsAll G (vs.set i v) (ds.set i d)
  | _, _, _, .nil => .nil
  | _, _, 0, .cons _ t => .cons r t
  | _, _, i + 1, .cons q t => .cons q (RdsAll.set r i t)
section
variable {P : Program} {w : World} {H : Hp} {h : Heap}
theorem key_reads {k : Key} {u : Value} (r : (mixKind P w).is k u = true) : Reads h u (keyD k) [] := by
  rw [mixKind_is] at r
  rcases keyIs_shape r with ⟨i, t, rfl, rfl⟩ | ⟨x, t, rfl, rfl⟩
  · exact .int i t
  · exact .str x t
theorem pairs0 {es : List DictEntry} (ps : Pairs (mixKind P w) es ([] : List (Key × Value))) : es = [] := by
  cases ps
  rfl
theorem pairs1 {es : List DictEntry} {k : Key} {u : Value} (ps : Pairs (mixKind P w) es [(k, u)]) : ∃ e, es = [e] ∧ (mixKind P w).is k e.key = true ∧ e.val = u := by
  cases ps with
  | cons h1 h2 h3 =>
    cases h3
    exact ⟨_, rfl, h1, h2⟩
mutual
theorem reads_of (ok : HOk P w H h) (z : H sysModules = none) : ∀ {v : V} {d : PyData} {u : Value}, Rds H v d → RelV v u → ∃ as, Reads h u d as ∧ sysModules ∉ as
  | _, _, _, .non, r => by cases r; exact ⟨[], .none, by simp⟩
  | _, _, _, .bl b, r => by cases r; exact ⟨[], .bool b, by simp⟩
  | _, _, _, .int i, r => by obtain ⟨t, rfl⟩ := r; exact ⟨[], .int i t, by simp⟩
  | _, _, _, .str x, r => by obtain ⟨t, rfl⟩ := r; exact ⟨[], .str x t, by simp⟩
  | _, _, _, .lst (a := a) e t, r => by
    cases r
    obtain ⟨_, its, n, rv, ho⟩ := (show ObjOk P w H h _ (.lst _) from ok _ _ e)
    obtain ⟨as, ra, na⟩ := readsAll_of ok z t rv
    refine ⟨a :: as, .list ho rfl rfl (by simpa using ra), ?_⟩
    intro m
    rcases List.mem_cons.mp m with m | m
    · rw [← m, z] at e; cases e
    · exact na m
  | _, _, _, .tup (a := a) e t, r => by
    cases r
    obtain ⟨_, its, rv, o, ho, hc, n, hd⟩ := (show ObjOk P w H h _ (.tup _) from ok _ _ e)
    obtain ⟨as, ra, na⟩ := readsAll_of ok z t rv
    exact ⟨as, .tuple ho hc hd (by simpa using ra), na⟩
  | _, _, _, .dic0 (a := a) e, r => by
    cases r
    obtain ⟨_, hs, vs, kv, o, es, ep, ho, hx, hd, hks, hps, hnd⟩ := (show ObjOk P w H h _ (.dK _) from ok _ _ e)
    cases kv
    have ee : es.toList = [] := pairs0 hps
    refine ⟨a :: [] ++ [], .dict (kvs := []) ho hx.1 hd (by rw [ee]; exact .nil) (by rw [ee]; exact .nil), ?_⟩
    intro m
    have m' : sysModules = a := by simpa using m
    rw [← m', z] at e; cases e
  | _, _, _, .dic (a := a) (k := k) e t, r => by
    cases r
    obtain ⟨_, hs, vs, kv, o, es, ep, ho, hx, hd, hks, hps, hnd⟩ := (show ObjOk P w H h _ (.dK _) from ok _ _ e)
    cases kv with
    | cons q q' =>
      cases q'
      obtain ⟨hq1, hq2⟩ := q
      obtain ⟨e0, ee, ek, ev⟩ := pairs1 hps
      rw [← ev] at hq2
      rw [← hq1] at ek
      obtain ⟨as, ra, na⟩ := reads_of ok z t hq2
      have rk : ReadsAll h [e0.key] [keyD k] ([] ++ []) := .cons (key_reads ek) .nil
      have rv : ReadsAll h [e0.val] [_] (as ++ []) := .cons ra .nil
      refine ⟨a :: ([] ++ []) ++ (as ++ []), .dict (kvs := [(keyD k, _)]) ho hx.1 hd (by rw [ee]; exact rk) (by rw [ee]; exact rv), ?_⟩
      intro m
      rw [List.append_nil, List.append_nil] at m
      rcases List.mem_cons.mp m with m | m
      · rw [← m, z] at e; cases e
      · exact na (by simpa using m)
theorem readsAll_of (ok : HOk P w H h) (z : H sysModules = none) : ∀ {vs : List V} {ds : List PyData} {us : List Value}, RdsAll H vs ds → Vals vs us → ∃ as, ReadsAll h us ds as ∧ sysModules ∉ as
  | _, _, _, .nil, r => by cases r; exact ⟨[], .nil, by simp⟩
  | _, _, _, .cons r t, rv => by
    cases rv with
    | cons q qs =>
      obtain ⟨as, ra, na⟩ := reads_of ok z r q
      obtain ⟨bs, rb, nb⟩ := readsAll_of ok z t qs
      refine ⟨as ++ bs, .cons ra rb, fun m => ?_⟩
      rcases List.mem_append.mp m with m | m
      · exact na m
      · exact nb m
end
end
structure Show (d : PyData) : Prop where
  sh : d.showable = true
  dp : d.depth ≤ 10
  sz : d.shown.length ≤ sizeLine
section
variable {X : Cx}
def rRepr : List V → Hp → VK → Prop := fun vs H Q => ∃ v d, vs = [v] ∧ Rds H v d ∧ Show d ∧ Q (.str d.shown) H
end
def kindD : PyData → String
  | .none => "NoneType"
  | .bool _ => "bool"
  | .int _ => "int"
  | .str _ => "str"
  | .list _ => "list"
  | .tuple _ => "tuple"
  | _ => "dict"
def tupB : PyData → Bool
  | .tuple _ => true
  | _ => false
def lisB : PyData → Bool
  | .list _ => true
  | _ => false
def booB : PyData → Bool
  | .bool _ => true
  | _ => false
def inD (lo hi : Int) : PyData → Bool
  | .int i => decide (lo ≤ i) && decide (i ≤ hi)
  | _ => false
section
variable {K : Frag} {H : Hp} {v : V} {d : PyData}
theorem Rds.ty (r : Rds H v d) : TyOf K H v (.type (kindD d)) := by
  cases r with
  | non => exact .non
  | bl b => exact .bl b
  | int i => exact .int i
  | str x => exact .str x
  | lst e _ => exact .lst e
  | tup e _ => exact .tup e
  | dic0 e => exact .dK e
  | dic e _ => exact .dK e
theorem Rds.kd (r : Rds H v d) : Kd K H v (.type (kindD d)) := .inl r.ty
theorem Rds.isT (r : Rds H v d) : kitOne K (.type (kindD d)) (.type "tuple") = some (tupB d) := by cases r <;> rfl
theorem Rds.th (r : Rds H v d) : Th K H v := by
  cases r with
  | int i => exact .inl ⟨i, rfl⟩
  | non => exact .inr ⟨fun i z => (by cases z), _, _, _, .inl .non, rfl, rfl, rfl⟩
  | bl b => exact .inr ⟨fun i z => (by cases z), _, _, _, .inl (.bl b), rfl, rfl, rfl⟩
  | str x => exact .inr ⟨fun i z => (by cases z), _, _, _, .inl (.str x), rfl, rfl, rfl⟩
  | lst e _ => exact .inr ⟨fun i z => (by cases z), _, _, _, .inl (.lst e), rfl, rfl, rfl⟩
  | tup e _ => exact .inr ⟨fun i z => (by cases z), _, _, _, .inl (.tup e), rfl, rfl, rfl⟩
  | dic0 e => exact .inr ⟨fun i z => (by cases z), _, _, _, .inl (.dK e), rfl, rfl, rfl⟩
  | dic e _ => exact .inr ⟨fun i z => (by cases z), _, _, _, .inl (.dK e), rfl, rfl, rfl⟩
theorem Rds.inB (r : Rds H v d) (lo hi : Int) : My.inB lo hi v = inD lo hi d := by cases r <;> rfl
theorem rds_tup (r : Rds H v (.tuple ds)) : ∃ a xs, v = .ref a ∧ H a = some (.tup xs) ∧ RdsAll H xs ds := by
  cases r with
  | tup e t => exact ⟨_, _, rfl, e, t⟩
theorem RdsAll.get {xs : List V} {ds : List PyData} (r : RdsAll H xs ds) : ∀ {i : Nat} {x : V}, xs[i]? = some x → ∃ d, ds[i]? = some d ∧ Rds H x d := by
  induction xs generalizing ds with
  | nil => intro i x h; simp at h
  | cons y ys ih =>
    cases r with
    | cons q t =>
      intro i x h
      cases i with
      | zero => cases h; exact ⟨_, rfl, q⟩
      | succ i => exact ih t h
end
end My
set_option Elab.async false
set_option linter.all false
set_option maxRecDepth 100000
set_option maxHeartbeats 1000000
namespace My
open PySem L2
structure Bx (p : Prop) : Prop where
  h : p
section
variable {X : Cx} {e a b : Expr} {es : List Expr} {te ta tb : TE} {t : TA} {pos : Pos} {st : Stmt} {rest : List Stmt} {ts u v : TS}
theorem bxa_nil : Bx (PA X [] tNil) := ⟨pa_nil⟩
theorem bxa_cons (ha : Bx (PE X e te)) (hr : Bx (PA X es t)) (hs : starEach (e :: es) X.env = (false, eval e X.env) :: starEach es X.env := by rfl) : Bx (PA X (e :: es) (tCons te t)) := ⟨pa_cons ha.h hr.h hs⟩
theorem bx_lst (h : Bx (PA X es t)) : Bx (PE X (.List es pos) (tLst t)) := ⟨pe_lst h.h⟩
theorem bxs_one (h : Bx (PS X st ts)) : Bx (PSs X [st] ts) := ⟨pss_one h.h⟩
theorem bxs_cons (h : Bx (PS X st ts)) (k : Bx (PSs X rest u)) : Bx (PSs X (st :: rest) (tSeq ts u)) := ⟨pss_cons h.h k.h⟩
theorem bx_set {i : Nat} {x : Str} {pos' : Pos} (hN : X.N.Nodup) (hi : X.N[i]? = some x) (hx : Loc X.env.scope x) (he : Bx (PE X e te)) (hs : swapsWith e (some (.Name x pos')) pos.line X.env = pure false := by rfl) (hf : X.fn x = true ∨ X.env.scope.names.lookup x = some .local := by first | exact .inl rfl | exact .inr rfl | assumption) :
    Bx (PS X (.Assign [.Name x pos'] e pos) (tAsg te (gName i))) := ⟨ps_set hN hi hx he.h hs hf⟩
end
end My
set_option Elab.async false
set_option linter.all false
set_option maxRecDepth 100000
set_option maxHeartbeats 1000000
namespace My
open PySem PySem.W L2
open AutoSeq1 (wpAny_loadPart')
section
variable {prog : Program} {w : World} {A : Around} {E : Value → Shared → Prop} {s : Shared} {r : Addr} {a b c : Int} {t u v : Tok} {n : Nat}
theorem collect_range {Q : List Value → Shared → Prop} (hh : A.handled = none) (hr : IsRange s.heap r a b c t u v) (hsmall : Builtin.Range.small a b c = true) (hn : Builtin.Range.rangeSize a b c = n) (hlen : n ≤ 2 ^ 24)
    (hQ : ∀ h' tk acc, (∀ b o, s.heap.get? b = some o → h'.get? b = some o) → ItemsOf (fun i v => ∃ t, v = .int (a + i * c) t) acc n → Q acc.toList { s with heap := h', toks := tk }) :
    wpAny (model prog w) A (collect (.ref r)) Q E s := by
  unfold collect
  refine wpAny_bind (wpAny_runValue (codeAny_builtin F.entry_proto_collect ?_))
  rw [Around.under_plainId F.plain_proto_collect _]
  show wpAny _ A.in1 (newList [] >>= fun l => again (.builtin "list.__iadd__" ⟨[l, .ref r], []⟩)) _ _ s
  refine wpAny_bind (wpAny_newObj_type ?_)
  refine wpAny_pure ⟨plainId_quiet F.plain_list_iadd _, codeAny_builtin F.entry_list_iadd ?_⟩
  rw [Around.under_plainId F.plain_list_iadd _]
  show wpAny _ A.in1 (Builtin.List.listExtendWith (.ref s.heap.objs.size) (.ref r) (.ref s.heap.objs.size)) _ _ _
  have hS : (s.heap.push { cls := .type "list", data := .seq ([] : List Value).toArray }).get? s.heap.objs.size = some { cls := .type "list", data := .seq #[] 0 } := Heap.get?_push_size _ rfl
  refine wpAny_mono (wpAny_extend_range (A := A) (R := fun x s' => ∃ h' tk acc c', x = .ok (.ret (.ref s.heap.objs.size)) ∧ s' = { s with heap := h', toks := tk } ∧ (∀ b o, s.heap.get? b = some o → h'.get? b = some o) ∧ h'.get? s.heap.objs.size = some { cls := .type "list", dict := none, data := .seq acc c', slots := #[] } ∧ ItemsOf (fun i v => ∃ t, v = .int (a + i * c) t) acc n)
    (s := { s with heap := s.heap.push { cls := .type "list", data := .seq ([] : List Value).toArray } }) hh (Heap.get?_push_of_some _ hr) hsmall hn hlen s.heap.objs.size (.ref s.heap.objs.size) 0 hS (fun h' tk acc c' hk hS' hacc => ⟨h', tk, acc, c', rfl, rfl, fun b o e => hk b o (Nat.ne_of_lt (Heap.lt_size e)) (Heap.get?_push_of_some _ e), hS', hacc⟩)) (fun fin s' h => ?_) (fun e s' h => ?_)
  · have fin' : ∀ s'', (∃ h' tk acc c', s'' = { s with heap := h', toks := tk } ∧ (∀ b o, s.heap.get? b = some o → h'.get? b = some o) ∧ h'.get? s.heap.objs.size = some { cls := .type "list", dict := none, data := .seq acc c', slots := #[] } ∧ ItemsOf (fun i v => ∃ t, v = .int (a + i * c) t) acc n) → wpAny (model prog w) A (match Value.ref s.heap.objs.size with
      | Value.ref a => do
        match (← load a).data with
          | Data.seq xs _ => pure xs.toList
          | _ => unsupported "internal:collect"
      | _ => unsupported "internal:collect") Q E s'' := fun s'' hx => by
      obtain ⟨h', tk, acc, c', rfl, hk, hS', hacc⟩ := hx
      show wpAny _ A (load s.heap.objs.size >>= _) _ _ _
      refine wpAny_bind (wpAny_load hS' ?_)
      exact wpAny_pure (hQ h' tk acc hk hacc)
    cases fin with
    | done f =>
      obtain ⟨h', tk, acc, c', e, h⟩ := h
      cases e
      exact fin' _ ⟨h', tk, acc, c', h⟩
    | again c' => exact ⟨h.1, codeAny_mono h.2 fun x s'' hr => by obtain ⟨h', tk, acc, c', rfl, hr⟩ := hr; exact fin' _ ⟨h', tk, acc, c', hr⟩⟩
  · obtain ⟨_, _, _, _, e, _⟩ := h
    cases e
end
theorem meets_tuple_new_range (r : Addr) (a b c : Int) (t u v : Tok) (n : Nat) (hsmall : Builtin.Range.small a b c = true) (hn : Builtin.Range.rangeSize a b c = n) (hlen : n ≤ 2 ^ 24) :
    Meets (Builtin.«tuple.__new__» ⟨[.type "tuple", .ref r], []⟩)
      (fun A R s => A.handled = none ∧ IsRange s.heap r a b c t u v ∧ ∀ (h' : Heap) (tk : Nat) (acc : Array Value), (∀ b o', s.heap.get? b = some o' → h'.get? b = some o') → ItemsOf (fun i v => ∃ t, v = .int (a + i * c) t) acc n → R (.ok (.ret (.ref h'.objs.size))) { s with heap := h'.push { cls := .type "tuple", data := .seq acc }, toks := tk }) :=
  .of_wp fun prog w A R s h => by
    obtain ⟨hh, hr, h⟩ := h
    have hsub := sub_tuple_self
    have hinit := init_tuple_lookup
    have hmh := madeHere_tuple
    have hT : s.TypeIs (.ref r) "range" := ⟨_, hr, rfl⟩
    have hh1 : A.in1.handled = none := hh
    wp_walk using wpAny_typeOf hT, collect_range hh1 hr hsmall hn hlen
    intro h' tk acc hk hacc
    show wpAny _ _ (Builtin.Tuple.tupleExact acc.toList.toArray >>= fun v => ret v) _ _ _
    unfold Builtin.Tuple.tupleExact
    refine wpAny_bind (wpAny_newObj_type ?_ (show acc.toList.toArray.size ≤ sizeLine by simp only [Array.toArray_toList]; rw [hacc.1, sizeLine_eq]; omega))
    refine wpAny_pure ⟨_, rfl, ?_⟩
    have e : acc.toList.toArray = acc := by simp
    rw [e]
    exact h h' tk acc hk hacc
theorem call_tuple_range {prog : Program} {w : World} {A : Around} {E : Value → Shared → Prop} {s : Shared} {r : Addr} {a b c : Int} {t u v : Tok} {n : Nat} {Q : Value → Shared → Prop} (hh : A.handled = none) (hr : IsRange s.heap r a b c t u v) (hsmall : Builtin.Range.small a b c = true) (hn : Builtin.Range.rangeSize a b c = n) (hlen : n ≤ 2 ^ 24)
    (h : ∀ (h' : Heap) (tk : Nat) (acc : Array Value), (∀ b o', s.heap.get? b = some o' → h'.get? b = some o') → ItemsOf (fun i v => ∃ t, v = .int (a + i * c) t) acc n → Q (.ref h'.objs.size) { s with heap := h'.push { cls := .type "tuple", data := .seq acc }, toks := tk }) :
    wpAny (model prog w) A (call (.type "tuple") [.ref r]) Q E s :=
  callType_new F.called_tuple (by decide) (F.typeCall_tuple_1 _) (F.newCall_tuple_1 _) (fun obj => F.args_object_init_2 obj _) F.entry_tuple_new
    (meets_tuple_new_range r a b c t u v n hsmall hn hlen) ⟨hh, hr, fun h' tk acc hk hacc => ⟨⟨_, Heap.get?_push_size _ rfl, rfl⟩, h h' tk acc hk hacc⟩⟩
def upL (lo : Int) (n : Nat) : List V := (List.range n).map fun i => V.int (lo + (i : Nat))
theorem upL_length (lo : Int) (n : Nat) : (upL lo n).length = n := by unfold upL; simp
theorem upL_vals {lo : Int} {n : Nat} {acc : Array Value} (h : ItemsOf (fun i v => ∃ t, v = Value.int (lo + i * 1) t) acc n) : Vals (upL lo n) acc.toList := by
  have gen : ∀ (xs : List V) (us : List Value), xs.length = us.length → (∀ (i : Nat) x u, xs[i]? = some x → us[i]? = some u → RelV x u) → Vals xs us := by
    intro xs
    induction xs with
    | nil => intro us l _; cases us with | nil => exact .nil | cons _ _ => cases l
    | cons x xs ih =>
      intro us l g
      cases us with
      | nil => cases l
      | cons u us => exact .cons (g 0 x u rfl rfl) (ih us (by simpa using l) fun i x' u' h1 h2 => g (i + 1) x' u' h1 h2)
  refine gen _ _ (by rw [upL_length]; simp [h.1]) fun i x u hx hu => ?_
  unfold upL at hx
  rw [List.getElem?_map] at hx
  obtain ⟨j, hj, rfl⟩ := Option.map_eq_some_iff.mp hx
  have ej : i = j := by
    have := List.getElem?_eq_some_iff.mp hj
    simpa using this.2
  subst ej
  obtain ⟨t, e⟩ := h.2 i u (by simpa using hu)
  refine ⟨t, ?_⟩
  rw [e, Int.mul_one]
section
variable {X : Cx}
def rRng1 : List V → Hp → VK → Prop := fun vs H Q => ∃ j : Int, vs = [.int j] ∧ ∀ r, H r = none → Q (.ref r) (upd H r (.rng 0 j))
theorem call_rng1 : CallR X (.type "range") rRng1 := by
  intro pins s σ H xs us Q I r h
  obtain ⟨j, rfl, q⟩ := h
  obtain ⟨u, rfl, t, rfl⟩ := vals1 r
  refine call_range_1 ⟨.ref s.heap.objs.size, _, I.laid (t' := s.toks + 1 + 1) (o := .rng 0 j) (fun b o e => Heap.get?_push_of_some _ e) (Nat.le_refl _) ?_, rfl, q _ (I.hok.fresh (Nat.le_refl _))⟩
  exact ⟨_, _, _, Heap.get?_push_size _ rfl⟩
def rTupR : List V → Hp → VK → Prop := fun vs H Q => ∃ (p : Addr) (lo hi : Int), vs = [.ref p] ∧ H p = some (.rng lo hi) ∧ (-(2 ^ 62) ≤ lo ∧ lo < 2 ^ 62 ∧ -(2 ^ 62) ≤ hi ∧ hi < 2 ^ 62) ∧ (hi - lo).toNat ≤ 2 ^ 24 ∧ ∀ l, H l = none → Q (.ref l) (upd H l (.tup (upL lo (hi - lo).toNat)))
theorem call_tupR (hc : X.calm = true) : CallR X (.type "tuple") rTupR := by
  intro pins s σ H xs us Q I r h
  obtain ⟨p, lo, hi, rfl, hp, ⟨b1, b2, b3, b4⟩, hl, q⟩ := h
  obtain ⟨u, rfl, rx⟩ := vals1 r
  cases (show u = Value.ref p from rx)
  obtain ⟨t, u, v, e⟩ := (show ObjOk X.prog X.w H s.heap p (.rng lo hi) from I.hok p _ hp)
  have en : Builtin.Range.rangeSize lo hi 1 = (((hi - lo).toNat : Nat) : Int) := by rw [rangeSize_one]; split <;> omega
  refine call_tuple_range (I.ok.hd hc) e (small_one b1 b2 b3 b4) en hl fun h' tk acc kp hacc => ?_
  have I1 : Inv X pins σ H { s with heap := h' } := I.kept (t' := s.toks) kp
  have ha : acc.toList.toArray = acc := by simp
  have I2 : Inv X pins σ (upd H h'.objs.size (.tup (upL lo (hi - lo).toNat))) { s with heap := h'.push { cls := .type "tuple", data := .seq acc }, toks := tk } :=
    I1.laid (t' := tk) (fun b o e => Heap.get?_push_of_some _ e) (Nat.le_refl _) (show ObjOk X.prog X.w _ _ _ (.tup _) from ⟨by rw [upL_length, sizeLine_eq]; omega, acc.toList, upL_vals hacc, by rw [ha]; exact PyProof.Rows.IsTup.new _ _⟩)
  exact ⟨.ref h'.objs.size, _, I2, rfl, q _ (I1.hok.fresh (Nat.le_refl _))⟩
def rLstR : List V → Hp → VK → Prop := fun vs H Q => ∃ (p : Addr) (lo hi : Int), vs = [.ref p] ∧ H p = some (.rng lo hi) ∧ (-(2 ^ 62) ≤ lo ∧ lo < 2 ^ 62 ∧ -(2 ^ 62) ≤ hi ∧ hi < 2 ^ 62) ∧ (hi - lo).toNat ≤ 2 ^ 24 ∧ ∀ l, H l = none → Q (.ref l) (upd H l (.lst (upL lo (hi - lo).toNat)))
end
end My
set_option Elab.async false
set_option linter.all false
set_option maxRecDepth 100000
set_option maxHeartbeats 1000000
namespace My
open PySem L2
section
variable {X : Cx}
theorem all_range : ∀ (xs : List Bool), (List.range xs.length).all (fun i => xs.getD i false) = xs.all id
  | [] => rfl
  | x :: xs => by
    have ih := all_range xs
    rw [List.length_cons, List.range_succ_eq_map, List.all_cons, List.all_map, List.all_cons, ← ih]
    rfl
def rAll (K : PySem.W.Frag) : List V → Hp → VK → Prop := fun vs H Q => ∃ (l : Addr) (xs : List Bool), vs = [.ref l] ∧ SqL K H l (xs.map V.bl) ∧ Q (.bl (xs.all id)) H
theorem call_all (hc : X.calm = true) : CallR X (.builtin "all") (rAll X.K) := by
  intro pins s σ H vs us Q I r h
  obtain ⟨l, xs, rfl, hl, q⟩ := h
  obtain ⟨u, rfl, ru⟩ := vals1 r
  cases (show u = Value.ref l from ru)
  obtain ⟨its, rv, t, hz⟩ := I.list hl
  have ll : l < s.heap.objs.size := by obtain ⟨_, e, _⟩ := t.isList; exact Heap.lt_size e
  have len := rv.length
  rw [List.length_map] at len
  refine call_all_walk (wpAny_pyIter_list t.isList ?_)
  refine ⟨s.heap.objs.size, [s.heap.objs.size, l], [s.heap.objs.size], its.toArray.size, (fun i v => its.toArray[i]? = some v), _, fun i => xs.getD i false, rfl, Walks.list (A := X.A.in1) (I.ok.hd hc) s.heap.objs.size l (Nat.ne_of_lt ll) its.toArray,
    ⟨⟨_, Heap.get?_push_size _ rfl, rfl, rfl⟩, t.isList.push _⟩, fun i v s' Q' E' hv hq => ?_, fun h' tk hk => ⟨.bl _, H, I.kept (h' := h') (t' := tk) (fun b o e => hk b o (fun m => ?_) (Heap.get?_push_of_some _ e)), ?_, q⟩⟩
  · have hv' : its[i]? = some v := by simpa using hv
    have lt : i < its.length := (List.getElem?_eq_some_iff.mp hv').1
    have lt2 : i < xs.length := by omega
    obtain ⟨u1, e1, q1⟩ := rv.get (i := i) (x := V.bl xs[i]) (by rw [List.getElem?_map, List.getElem?_eq_getElem lt2]; rfl)
    rw [hv'] at e1
    cases e1
    cases (show v = Value.bool xs[i] from q1)
    refine wpAny_truthy_bool ?_
    have e : xs.getD i false = xs[i] := by simp [lt2]
    rw [← e]
    exact hq
  · rcases List.mem_cons.mp m with e2 | m
    · exact absurd (Heap.lt_size e) (by rw [e2]; exact Nat.lt_irrefl _)
    · cases m
  · show Value.bool _ = Value.bool _
    have e := all_range xs
    rw [← e, List.size_toArray, ← len]
def rCountT (K : PySem.W.Frag) : V → List V → Hp → VK → Prop := fun x vs H Q => ∃ (l q : Addr) (as : List (Addr × List V)) (ys : List V), x = .ref l ∧ vs = [.ref q] ∧ SqL K H l (as.map fun z => V.ref z.1) ∧ (∀ z ∈ as, SqT K H z.1 z.2 ∧ z.2.all flatV = true) ∧ SqT K H q ys ∧ ys.all flatV = true ∧ Q (.int (as.countP fun z => eqVs z.2 ys : Nat)) H
end
section
variable {X : Cx} {σ : St}
def PXSs (X : Cx) (σ : St) (sts : List Stmt) (t : TS) : Prop := ∀ (pins : List (Addr × Obj)) (s : Shared) (H : Hp) (D : Ends), Inv X pins σ H s → t D σ H → wpAny (model X.prog X.w) X.A (execs sts X.env) (SP X pins D) X.xe s
def tSeqX (σ : St) (t u : TS) : TS := fun D σ' H => t { D with nx := fun σ1 H1 => σ1 = σ ∧ u D σ1 H1 } σ' H
end
end My
set_option Elab.async false
set_option linter.all false
set_option maxRecDepth 100000
set_option maxHeartbeats 1000000
namespace My
open PySem PySem.W L2
section
variable {K : Frag} {te : TE} {tt : TT} {g : TG} {k : Nat} {cap : St} {D : Addr} {H1 : Hp} {Q : Hp → Prop} {a : Addr} {xs : List V}
theorem lcG_list (Pv : Nat → List V → Hp → Prop) (hz : xs.length < sizeLine) (h0 : Pv 0 [] (upd H1 D (.lst [])))
    (hl : ∀ i ys H, Pv i ys H → SqL K H a xs)
    (hs : ∀ i x ys H, xs[i]? = some x → ys.length = i → H D = some (.lst ys) → Pv i ys H → ∀ os : St, os.length = k → ∀ R : VK, (∀ y H4, H4 D = some (.lst ys) → Pv (i + 1) (ys ++ [y]) (upd H4 D (.lst (ys ++ [y]))) → R y H4) → g x (os ++ cap) H fun σ2 H0 => (∃ os' : St, os'.length = k ∧ σ2 = os' ++ cap) ∧ te σ2 H0 R)
    (hd : ∀ ys H, ys.length = xs.length → H D = some (.lst ys) → Pv xs.length ys H → Q H) :
    ∃ W : Nat → Nat → List V → Hp → Prop, (∃ m, W 0 m [] (upd H1 D (.lst []))) ∧
      ∀ i m ys H2, W i m ys H2 → H2 D = some (.lst ys) ∧ (((Itl K a).stop i H2 ∧ Q H2) ∨ ((Itl K a).go i H2 ∧ ys.length < sizeLine ∧
        ∀ x H3, (Itl K a).yld i H2 x H3 → ∀ os : St, os.length = k → g x (os ++ cap) H3 fun σ2 H0 => (∃ os' : St, os'.length = k ∧ σ2 = os' ++ cap) ∧ te σ2 H0 fun y H4 => H4 D = some (.lst ys) ∧ ∃ m', m' < m ∧ W (i + 1) m' (ys ++ [y]) (upd H4 D (.lst (ys ++ [y]))))) := by
  refine ⟨fun i m ys H => m = xs.length - i ∧ i ≤ xs.length ∧ ys.length = i ∧ H D = some (.lst ys) ∧ Pv i ys H, ⟨xs.length, by simp, Nat.zero_le _, rfl, upd_same, h0⟩, ?_⟩
  rintro i m ys H ⟨rfl, hi, hy, hD, p⟩
  refine ⟨hD, ?_⟩
  have q := hl i ys H p
  by_cases hlt : i < xs.length
  · refine .inr ⟨⟨xs, xs[i], q, by simp [hlt]⟩, by omega, fun x H' y => ?_⟩
    obtain ⟨e, y⟩ := y
    subst e
    exact fun os los => hs i x ys _ (y xs q) hy hD p os los _ fun z H4 hD4 p4 => ⟨hD4, xs.length - (i + 1), by omega, rfl, hlt, by rw [List.length_append, hy]; rfl, upd_same, p4⟩
  · have e : i = xs.length := by omega
    subst e
    exact .inl ⟨⟨xs, q, Nat.le_refl _⟩, hd ys H hy hD p⟩
end
end My
set_option Elab.async false
set_option linter.all false
set_option maxRecDepth 100000
set_option maxHeartbeats 4000000
namespace My
open PySem L2
section
variable {X : Cx} {sc : Scope} {cl : List (Str × Addr)} {ts zs : List Str} {js : List Nat} {elt iter c : Expr} {pos : Pos} {tg : Expr} {g : TG} {wi : TI} {te : TE} {tt : TT}
end
section
variable {X : Cx} {sc : Scope} {cl : List (Str × Addr)} {ts zs : List Str} {js : List Nat} {elt iter c : Expr} {pos : Pos} {tg : Expr} {g : TG} {wi : TI} {te : TE} {tt : TT}
end
end My
set_option Elab.async false
set_option linter.all false
set_option maxRecDepth 100000
set_option maxHeartbeats 1000000
namespace My
open PySem PySem.W L2
def gTupL (K : PySem.W.Frag) (n : Nat) (t : TGs) : TG := fun v σ H Q => ∃ a xs, v = .ref a ∧ SqL K H a xs ∧ xs.length = n ∧ t xs σ H Q
section
variable {X : Cx} {pos : Pos}
end
section
variable {K : Frag} {te : TE} {g : TG} {k : Nat} {cap : St} {D : Addr} {H1 : Hp} {Q : Hp → Prop}
theorem lcG_range {lo : Int} {n : Nat} (Pv : Nat → List V → Hp → Prop) (hz : n < sizeLine) (h0 : Pv 0 [] (upd H1 D (.lst [])))
    (hs : ∀ i ys H, i < n → ys.length = i → H D = some (.lst ys) → Pv i ys H → ∀ os : St, os.length = k → ∀ R : VK, (∀ y H4, H4 D = some (.lst ys) → Pv (i + 1) (ys ++ [y]) (upd H4 D (.lst (ys ++ [y]))) → R y H4) → g (.int (lo + i)) (os ++ cap) H fun σ2 H0 => (∃ os' : St, os'.length = k ∧ σ2 = os' ++ cap) ∧ te σ2 H0 R)
    (hd : ∀ ys H, ys.length = n → H D = some (.lst ys) → Pv n ys H → Q H) :
    ∃ W : Nat → Nat → List V → Hp → Prop, (∃ m, W 0 m [] (upd H1 D (.lst []))) ∧
      ∀ i m ys H2, W i m ys H2 → H2 D = some (.lst ys) ∧ (((Itr lo n).stop i H2 ∧ Q H2) ∨ ((Itr lo n).go i H2 ∧ ys.length < sizeLine ∧
        ∀ x H3, (Itr lo n).yld i H2 x H3 → ∀ os : St, os.length = k → g x (os ++ cap) H3 fun σ2 H0 => (∃ os' : St, os'.length = k ∧ σ2 = os' ++ cap) ∧ te σ2 H0 fun y H4 => H4 D = some (.lst ys) ∧ ∃ m', m' < m ∧ W (i + 1) m' (ys ++ [y]) (upd H4 D (.lst (ys ++ [y]))))) := by
  refine ⟨fun i m ys H => m = n - i ∧ i ≤ n ∧ ys.length = i ∧ H D = some (.lst ys) ∧ Pv i ys H, ⟨n, by simp, Nat.zero_le _, rfl, upd_same, h0⟩, ?_⟩
  rintro i m ys H ⟨rfl, hi, hy, hD, p⟩
  refine ⟨hD, ?_⟩
  by_cases hlt : i < n
  · refine .inr ⟨hlt, by omega, fun x H' y => ?_⟩
    obtain ⟨e, y⟩ := y
    subst e y
    exact fun os los => hs i ys _ hlt hy hD p os los _ fun z H4 hD4 p4 => ⟨hD4, n - (i + 1), by omega, rfl, hlt, by rw [List.length_append, hy]; rfl, upd_same, p4⟩
  · have e : i = n := by omega
    subst e
    exact .inl ⟨Nat.le_refl _, hd ys H hy hD p⟩
end
end My
set_option Elab.async false
set_option linter.all false
set_option maxRecDepth 100000
set_option maxHeartbeats 1000000
namespace My
open PySem PySem.W L2
section
variable {X : Cx}
abbrev b2i := PyProof.Rows.b2i
def rBB : R2 := fun x y H Q => ∃ p q, x = .bl p ∧ y = .bl q ∧ Q (.int (b2i p - b2i q)) H
theorem ints_items : ∀ {ns : List Int} {its : List Value}, Vals (ns.map V.int) its → ∃ xs : List (Int × Tok), its = xs.map (fun p => Value.int p.1 p.2) ∧ ns = xs.map (·.1)
  | [], _, r => by cases r; exact ⟨[], rfl, rfl⟩
  | n :: ns, _, r => by
    rw [List.map_cons] at r
    cases r with
    | cons r1 r2 =>
      obtain ⟨t, rfl⟩ := r1
      obtain ⟨xs, e1, e2⟩ := ints_items r2
      exact ⟨(n, t) :: xs, by rw [e1]; rfl, by rw [e2]; rfl⟩
theorem numAt_get {xs : List (Int × Tok)} {i : Nat} (h : i < xs.length) : numAt xs.toArray i = (xs.map (·.1))[i]'(by rw [List.length_map]; exact h) := by
  simp [numAt, h]
def rMinL (K : Frag) : List V → Hp → VK → Prop := fun vs H Q => ∃ (l : Addr) (ns : List Int) (m : Int), vs = [.ref l] ∧ SqL K H l (ns.map V.int) ∧ m ∈ ns ∧ (∀ a ∈ ns, m ≤ a) ∧ Q (.int m) H
def rMaxL (K : Frag) : List V → Hp → VK → Prop := fun vs H Q => ∃ (l : Addr) (ns : List Int) (m : Int), vs = [.ref l] ∧ SqL K H l (ns.map V.int) ∧ m ∈ ns ∧ (∀ a ∈ ns, a ≤ m) ∧ Q (.int m) H
end
end My
set_option Elab.async false
set_option linter.all false
set_option maxRecDepth 100000
set_option maxHeartbeats 1000000
namespace My
open PySem PySem.W L2
open Sem (wp)
open AutoSeq1 (wpAny_loadPart')
open PyProof.Rows (Call_ boot_enumerate)
section
variable {prog : Program} {w : World} {A : Around} {E : Value → Shared → Prop} {s : Shared}
end
def IteT (K : Frag) (a : Addr) : It :=
  ⟨fun i H => ∃ xs x, SqT K H a xs ∧ xs[i]? = some x, fun i H x H' => ∃ p y, x = .ref p ∧ H p = none ∧ H' = upd H p (.tup [.int i, y]) ∧ ∀ xs, SqT K H a xs → xs[i]? = some y, fun i H => ∃ xs, SqT K H a xs ∧ xs.length ≤ i⟩
section
variable {X : Cx}
def iEnumT (K : Frag) (ta : TA) : TI := fun σ H R => ta σ H fun vs H1 => ∃ a, vs = [.ref a] ∧ (∃ xs, SqT K H1 a xs) ∧ R (IteT K a) H1
end
end My
set_option Elab.async false
set_option linter.all false
set_option maxRecDepth 100000
set_option maxHeartbeats 1000000
namespace My
open PySem PySem.W L2 PyProof.Rows
section
variable {X : Cx} {e : Expr} {te : TE} {pos p1 p2 p3 : Pos}
def tRev (K : Frag) (te : TE) : TE := fun σ H Q => te σ H fun x H1 => ∃ a xs, x = .ref a ∧ SqL K H1 a xs ∧ ∀ p, H1 p = none → Q (.ref p) (upd H1 p (.lst xs.reverse))
def rIsNotB : R2 := fun x y H Q => ∃ c d, x = .bl c ∧ y = .bl d ∧ Q (.bl (c != d)) H
def PXT (X : Cx) (σ : L2.St) (c : Expr) (t : TT) : Prop := ∀ (pins : List (Addr × Obj)) (s : Shared) (H : Hp) (Q : Bool → Hp → Prop), Inv X pins σ H s → t σ H Q → wpAny (model X.prog X.w) X.A (isTrue c X.env (eval c X.env)) (TP X pins σ Q) X.xe s
end
end My
set_option Elab.async false
set_option linter.all false
set_option maxRecDepth 100000
set_option maxHeartbeats 1000000
namespace My
open PySem PySem.W L2
structure OneF (K : Frag) (mg : Str → Option Value) (D : Addr) (nm fld : Str) (C f : Addr) (fd : FuncData) : Prop where
  cls : ErrC K D nm C f
  mgC : mg nm = some (.ref C)
  ok : ∀ (P : Program) (w : World) (base : Heap), FnOk P w K mg base CX0 1 f fd ["self", fld] (spErr C fld)
  bi : Binds K fd ["self", fld] []
structure Df (P : Program) (w : World) (K : Frag) (mg : Str → Option Value) (base : Heap) (cx : CXT) (k : Nat) (nm : Str) (ps : List Str) (sp : Sp) (g : Addr) (gd : FuncData) : Prop where
  G : FnOk P w K mg base cx k g gd ps sp
  b : Binds K gd ps []
  kp : keepIn K (.ref g) = true
  m : mg nm = some (.ref g)
theorem passN {P : Program} {w : World} {X : Cx} : Passes (CXE P w) X E0 := fun _ _ _ _ _ _ _ h => by
  obtain ⟨_, _, _, _, _, _, _, _, _, _, _, _, _, h⟩ := h
  exact h.elim
def ErrF (C : Addr) (fld : Str) (x : V) (H : Hp) (E : XK) : Prop := ∀ e dx, H e = none → H dx = none → dx ≠ e → E (.ref C) (some e) (upd (upd H dx (.xd [(fld, x)])) e (ErrT e C (some dx)))
def NoK (K : Frag) (H : Hp) (v : V) (n : String) : Prop := ∃ t, Kd K H v t ∧ kitOne K t (.type n) = some false
theorem NoK.ext {K : Frag} {H H' : Hp} {v : V} {n : String} (h : NoK K H v n) (x : Ext H H') : NoK K H' v n := by
  obtain ⟨t, k, e⟩ := h
  exact ⟨t, k.ext x, e⟩
theorem inD_int {lo hi : Int} {d : PyData} (h : inD lo hi d = true) : ∃ i, d = .int i ∧ lo ≤ i ∧ i ≤ hi := by
  cases d with
  | int i =>
    have h' : (decide (lo ≤ i) && decide (i ≤ hi)) = true := h
    rw [Bool.and_eq_true, decide_eq_true_iff, decide_eq_true_iff] at h'
    exact ⟨i, rfl, h'.1, h'.2⟩
  | _ => cases h
def FirstB (bs : List Bool) (i : Nat) : Prop := (∀ j b, j < i → bs[j]? = some b → b = true) ∧ bs[i]? = some false
section
variable {P : Program} {w : World} {K : Frag} {mg : Str → Option Value} {base : Heap}
theorem Ext.err {H : Hp} {C e dx : Addr} {fld : Str} {v : V} (h1 : H e = none) (h2 : H dx = none) (ne : dx ≠ e) : Ext H (upd (upd H dx (.xd [(fld, v)])) e (ErrT e C (some dx))) := by
  have x2 := Ext.new (o := .xd [(fld, v)]) h2
  have he2 : upd H dx (.xd [(fld, v)]) e = none := by rw [upd_ne ne.symm]; exact h1
  exact x2.trans (Ext.new (o := ErrT e C (some dx)) he2)
end
theorem ext_upd {H0 H : Hp} {l : Addr} (o : HO) (x : Ext H0 H) (h : H0 l = none) : Ext H0 (upd H l o) := fun b u e => by
  rw [upd_ne (fun z => by rw [z, h] at e; cases e)]
  exact x b u e
theorem take_all {α : Type} {xs : List α} {i : Nat} {x : α} (h : xs[i]? = some x) : xs.take (i + 1) = xs.take i ++ [x] := by
  rw [List.take_succ, h]
  rfl
def Kept (H H' : Hp) (p : Addr) : Prop := ∀ b o, H b = some o → b ≠ p → H' b = some o
theorem Kept.refl (H : Hp) (p : Addr) : Kept H H p := fun _ _ h _ => h
theorem Kept.trans {H H1 H2 : Hp} {p : Addr} (x : Kept H H1 p) (y : Kept H1 H2 p) : Kept H H2 p := fun b o h n => y b o (x b o h n) n
theorem Ext.kept {H H' : Hp} (x : Ext H H') (p : Addr) : Kept H H' p := fun b o h _ => x b o h
def wo (H : Hp) (p : Addr) : Hp := fun b => if b = p then none else H b
theorem wo_ext (H : Hp) (p : Addr) : Ext (wo H p) H := fun b o e => by
  unfold wo at e
  split at e
  · cases e
  · exact e
theorem wo_at {H : Hp} {p b : Addr} {o : HO} (n : b ≠ p) (e : H b = some o) : wo H p b = some o := by unfold wo; rw [if_neg n]; exact e
theorem wo_kept {H H' : Hp} {p : Addr} (k : Kept H H' p) : Ext (wo H p) (wo H' p) := fun b o e => by
  unfold wo at e
  split at e
  · cases e
  · rename_i n
    exact wo_at n (k b o e n)
structure BoxAt (H : Hp) (p : Addr) : Prop where
  ex : ∃ a b c : Int, H p = some (.lst [.int a, .int b, .int c]) ∧ 0 ≤ a ∧ 0 ≤ b ∧ 0 ≤ c ∧ c < 2147483647
theorem BoxAt.ext {H H' : Hp} {p : Addr} (h : BoxAt H p) (x : Ext H H') : BoxAt H' p := by
  obtain ⟨a, b, c, e, r⟩ := h.ex
  exact ⟨a, b, c, x _ _ e, r⟩
theorem BoxAt.ne {H : Hp} {p q : Addr} (h : BoxAt H p) (e : H q = none) : q ≠ p := fun z => by
  obtain ⟨a, b, c, f, _⟩ := h.ex
  rw [z, f] at e
  cases e
def tCallZ (sp : Sp) (E : XK) (t : TA) : TE := fun σ H Q => t σ H fun vs H1 => H1 sysModules = none → sp vs H1 Q E
section
variable {X : Cx} {CX : CXT} {k : Nat} {f : Addr} {fd : FuncData} {ps : List Str} {sp : Sp} {E : XK} {x : Str} {p pos : Pos} {e : Expr} {es : List Expr} {t : TA} {σ : St}
end
structure Fi (k n : Nat) (d : PyData) : Prop where
  sh : d.showable = true
  dp : d.depth ≤ k
  lv : d.leavesShort 64 = true
  bk : d.bulk ≤ n
structure Fis (k n : Nat) (ds : List PyData) : Prop where
  sh : PyData.showableAll ds = true
  dp : PyData.depthAll ds ≤ k
  lv : PyData.leavesShortAll 64 ds = true
  bk : PyData.bulkAll ds ≤ (n + 1) * ds.length
theorem Fi.mono {k k' n n' : Nat} {d : PyData} (f : Fi k n d) (h1 : k ≤ k') (h2 : n ≤ n') : Fi k' n' d := ⟨f.sh, Nat.le_trans f.dp h1, f.lv, Nat.le_trans f.bk h2⟩
theorem Fis.of {k n : Nat} : ∀ {ds : List PyData}, (∀ d ∈ ds, Fi k n d) → Fis k n ds
  | [], _ => ⟨by simp [PyData.showableAll], by simp [PyData.depthAll], by simp [PyData.leavesShortAll], by simp [PyData.bulkAll]⟩
  | d :: ds, h => by
    have f := h d (List.mem_cons_self ..)
    have g := Fis.of (ds := ds) fun x hx => h x (List.mem_cons_of_mem _ hx)
    refine ⟨?_, ?_, ?_, ?_⟩
    · simp only [PyData.showableAll, f.sh, g.sh, Bool.and_self]
    · have h1 := f.dp; have h2 := g.dp
      simp only [PyData.depthAll]; omega
    · simp only [PyData.leavesShortAll, f.lv, g.lv, Bool.and_self]
    · have h1 := f.bk; have h2 := g.bk
      simp only [PyData.bulkAll, List.length_cons, Nat.mul_add]; omega
theorem fi_tuple {k n m : Nat} {ds : List PyData} (h : ∀ d ∈ ds, Fi k n d) (hl : ds.length ≤ m) : Fi (k + 1) ((n + 1) * m + 1) (.tuple ds) := by
  have f := Fis.of h
  refine ⟨by simp only [PyData.showable, f.sh], ?_, by simp only [PyData.leavesShort, f.lv], ?_⟩
  · have := f.dp
    simp only [PyData.depth]; omega
  · have := f.bk
    have h2 := Nat.mul_le_mul_left (n + 1) hl
    simp only [PyData.bulk]; omega
theorem Fi.show {k n : Nat} {d : PyData} (f : Fi k n d) (hk : k ≤ 10) (hn : n ≤ 200000) : Show d := by
  refine ⟨f.sh, Nat.le_trans f.dp hk, ?_⟩
  have e := PyData.shown_le_bulk 64 (by decide) d f.lv
  have e2 : (64 + 2) * d.bulk ≤ 66 * 200000 := Nat.mul_le_mul_left _ (Nat.le_trans f.bk hn)
  rw [sizeLine_eq]
  omega
theorem fi_int {i : Int} (h : i.natAbs < 10 ^ 30) : Fi 0 2 (.int i) := by
  refine ⟨?_, by simp [PyData.depth], ?_, by simp [PyData.bulk]⟩
  · simp only [PyData.showable, decide_eq_true_eq]
    by_cases z : i.natAbs = 0
    · rw [z]; decide
    · exact (Nat.log2_lt z).mpr (Nat.lt_trans h (by decide +kernel))
  · have e := int_text_length_le10 (k := 30) (by decide) h
    simp only [PyData.leavesShort, PyData.shown]
    refine decide_eq_true (show (Str.ofString (toString i)).length ≤ 64 from ?_)
    rw [ofString_length]
    omega
theorem fi_small {i : Int} (h1 : -1000000000 ≤ i) (h2 : i ≤ 1000000000) : Fi 0 2 (.int i) := fi_int (Nat.lt_of_le_of_lt (show i.natAbs ≤ 1000000000 by omega) (by decide))
section
variable {X : Cx} {σ : St} {e : Expr} {es : List Expr} {t : TA} {p pos : Pos} {x : Str} {r : List V → Hp → VK → Prop}
end
structure FldOk (K : Frag) (C : Addr) (fld : Str) : Prop where
  it : ErrI K C
  hd : hasDictIn K C = true
  nf : findIn K (.ref C) fld = some none
section
variable {K : Frag} {H : Hp} {D : Ends} {σ : St} {p : Addr}
theorem BoxAt.neL {t : Addr} {xs : List V} (b : BoxAt H p) (h : H t = some (.lst xs)) (n : xs.length ≠ 3) : t ≠ p := fun e => by
  subst e
  obtain ⟨_, _, _, hp, _⟩ := b
  rw [h] at hp
  cases hp
  exact n rfl
theorem rd_op {r : R2} {ta tb : TE} {Q : VK} (h : ta σ H fun x H1 => tb σ H1 fun y H2 => r x y H2 Q) : tOp r ta tb σ H Q := h
theorem BoxAt.up {l : Addr} {o : HO} (b : BoxAt H p) (n : l ≠ p) : BoxAt (upd H l o) p := by
  obtain ⟨x, y, z, hp, r⟩ := b
  exact ⟨x, y, z, by rw [upd_ne n.symm]; exact hp, r⟩
theorem rd_set {te : TE} {i : Nat} {u : TS} (h : te σ H fun v H1 => u D (σ.set i (some v)) H1) : tSeq (tAsg te (gName i)) u D σ H := h
end
def Small (d : PyData) : Prop := ∀ ds, d = .list ds → ds.length < 10000
def RdF (G : Hp) (xs : List V) (n : Nat) : Prop := ∃ ds, RdsAll G xs ds ∧ ds.length ≤ n ∧ ∀ d ∈ ds, Fi 2 60 d
section
variable {G G' : Hp} {xs ys : List V} {n m : Nat}
theorem RdF.mono (h : RdF G xs n) (x : Ext G G') : RdF G' xs n := by
  obtain ⟨ds, r, l, f⟩ := h
  exact ⟨ds, RdsAll.mono x r, l, f⟩
theorem RdF.le (h : RdF G xs n) (l : n ≤ m) : RdF G xs m := by
  obtain ⟨ds, r, l', f⟩ := h
  exact ⟨ds, r, Nat.le_trans l' l, f⟩
theorem RdF.app (h : RdF G xs n) (k : RdF G ys m) : RdF G (xs ++ ys) (n + m) := by
  obtain ⟨ds, r, l, f⟩ := h
  obtain ⟨es, r', l', f'⟩ := k
  refine ⟨ds ++ es, r.append r', by rw [List.length_append]; omega, fun d hd => ?_⟩
  rcases List.mem_append.mp hd with hd | hd
  · exact f d hd
  · exact f' d hd
theorem RdF.nil : RdF G [] 0 := ⟨[], .nil, Nat.le_refl _, (fun _ h => nomatch h)⟩
theorem RdF.one {v : V} {d : PyData} (r : Rds G v d) (f : Fi 2 60 d) : RdF G [v] 1 := ⟨[d], .cons r .nil, Nat.le_refl _, fun e he => by cases List.mem_singleton.mp he; exact f⟩
theorem RdsAll.drop : ∀ {xs : List V} {ds : List PyData} (i : Nat), RdsAll G xs ds → RdsAll G (xs.drop i) (ds.drop i)
  | _, _, 0, h => h
  | _, _, i + 1, .nil => .nil
  | _, _, i + 1, .cons _ t => RdsAll.drop i t
theorem RdsAll.take : ∀ {xs : List V} {ds : List PyData} (i : Nat), RdsAll G xs ds → RdsAll G (xs.take i) (ds.take i)
  | _, _, 0, h => .nil
  | _, _, i + 1, .nil => .nil
  | _, _, i + 1, .cons r t => .cons r (RdsAll.take i t)
theorem RdF.rep (h : RdF G xs n) : ∀ k : Nat, RdF G (List.replicate k xs).flatten (k * n)
  | 0 => by rw [Nat.zero_mul]; exact RdF.nil
  | k + 1 => by
    rw [List.replicate_succ, List.flatten_cons, Nat.succ_mul, Nat.add_comm]
    exact h.app (RdF.rep h k)
theorem RdF.len (h : RdF G xs n) : xs.length ≤ n := by
  obtain ⟨ds, r, l, f⟩ := h
  rw [r.length]
  exact l
theorem RdF.get (h : RdF G xs n) {i : Nat} {v : V} (e : xs[i]? = some v) : ∃ d, Rds G v d ∧ Fi 2 60 d := by
  obtain ⟨ds, r, l, f⟩ := h
  obtain ⟨d, ed, rd⟩ := r.get e
  exact ⟨d, rd, f d (List.mem_of_getElem? ed)⟩
end
def wt (H : Hp) (p t : Addr) : Hp := wo (wo H p) t
def Tg (G : Hp) (v : V) : Prop := ∃ d, Rds G v d ∧ Fi 3 30000 d ∧ Small d
theorem Tg.mono {G G' : Hp} {v : V} (h : Tg G v) (x : Ext G G') : Tg G' v := by
  obtain ⟨d, r, f⟩ := h
  exact ⟨d, r.mono x, f⟩
theorem wo_ne {H : Hp} {p a : Addr} {o : HO} (h : wo H p a = some o) : a ≠ p := fun e => by
  unfold wo at h
  rw [if_pos e] at h
  cases h
theorem wo_ex {H H' : Hp} (x : Ext H H') (p : Addr) : Ext (wo H p) (wo H' p) := wo_kept (x.kept p)
structure GE (p : Addr) (k m : Nat) (te : TE) : Prop where
  h : ∀ (σ : St) (H : Hp) (Q : VK), BoxAt H p → (∀ v H', Ext H H' → (∃ d, Rds (wo H' p) v d ∧ Fi k m d) → Q v H') → te σ H Q
structure GA (p : Addr) (k m n : Nat) (t : TA) : Prop where
  h : ∀ (σ : St) (H : Hp) (Q : List V → Hp → Prop), BoxAt H p → (∀ vs H', Ext H H' → (∃ ds, RdsAll (wo H' p) vs ds ∧ ds.length = n ∧ ∀ d ∈ ds, Fi k m d) → Q vs H') → t σ H Q
section
variable {p : Addr} {k m k' m' n : Nat} {te ta tb : TE} {t : TA}
theorem GE.mono (h : GE p k m te) (h1 : k ≤ k') (h2 : m ≤ m') : GE p k' m' te := ⟨fun σ H Q bx q => h.h σ H Q bx fun v H' x ⟨d, r, f⟩ => q v H' x ⟨d, r, f.mono h1 h2⟩⟩
theorem ge_leaf {v : V} {d : PyData} (r : ∀ G, Rds G v d) (f : Fi k m d) : GE p k m (tC v) := ⟨fun σ H Q bx q => q v H (Ext.refl _) ⟨d, r _, f⟩⟩
theorem ge_int {i : Int} (h1 : -1000000000 ≤ i) (h2 : i ≤ 1000000000) : GE p 0 2 (tC (.int i)) := ge_leaf (fun _ => .int _) (fi_small h1 h2)
end
section
variable {X : Cx}
def rNeNil (K : Frag) : R2 := fun x y H Q => ∃ p q xs, x = .ref p ∧ y = .ref q ∧ SqL K H p xs ∧ SqL K H q [] ∧ Q (.bl (!xs.isEmpty)) H
def rOr (r1 r2 : R2) : R2 := fun x y H Q => r1 x y H Q ∨ r2 x y H Q
end
theorem rd_lst {t : TA} {σ : St} {H : Hp} {Q : VK} (h : t σ H fun xs H1 => xs.length ≤ sizeLine ∧ ∀ p, H1 p = none → Q (.ref p) (upd H1 p (.lst xs))) : tLst t σ H Q := h
def tNegC (i : Int) : TE := tUn (rU fun i => .int (-i)) (tC (.int i))
structure Pt (G : Hp → Hp) (H : Hp) : Prop where
  mono : ∀ {H1 H2 : Hp}, Ext H1 H2 → Ext (G H1) (G H2)
  new : ∀ {H1 : Hp} {a : Addr} {o : HO}, Ext H H1 → H1 a = none → G (upd H1 a o) a = some o
theorem Pt.ext {G : Hp → Hp} {H H' : Hp} (h : Pt G H) (x : Ext H H') : Pt G H' := ⟨h.mono, fun y => h.new (x.trans y)⟩
theorem BoxAt.some {H : Hp} {p : Addr} (b : BoxAt H p) : ∃ u, H p = some u := by
  obtain ⟨_, _, _, h, _⟩ := b.ex
  exact ⟨_, h⟩
structure GF (G : Hp → Hp) (σ : St) (H0 : Hp) (k m : Nat) (te : TE) : Prop where
  h : ∀ (H : Hp) (Q : VK), Pt G H → Ext H0 H → (∀ v H', Ext H H' → (∃ d, Rds (G H') v d ∧ Fi k m d) → Q v H') → te σ H Q
structure GB (G : Hp → Hp) (σ : St) (H0 : Hp) (k m n : Nat) (t : TA) : Prop where
  h : ∀ (H : Hp) (Q : List V → Hp → Prop), Pt G H → Ext H0 H → (∀ vs H', Ext H H' → (∃ ds, RdsAll (G H') vs ds ∧ ds.length = n ∧ ∀ d ∈ ds, Fi k m d) → Q vs H') → t σ H Q
section
variable {G : Hp → Hp} {σ : St} {H0 : Hp} {k m k' m' n : Nat} {te ta tb : TE} {t : TA}
theorem GF.mono (h : GF G σ H0 k m te) (h1 : k ≤ k') (h2 : m ≤ m') : GF G σ H0 k' m' te := ⟨fun H Q bx e q => h.h H Q bx e fun v H' x ⟨d, r, f⟩ => q v H' x ⟨d, r, f.mono h1 h2⟩⟩
end
section
variable {H : Hp}
end
section
variable {K : Frag} {H : Hp}
def tLstN (K : Frag) (t : TA) : TE := fun σ H Q => t σ H fun xs H1 => xs.length ≤ sizeLine ∧ ∀ p, H1 p = none → K.lookup p = none → Q (.ref p) (upd H1 p (.lst xs))
end
section
variable {H : Hp} {De : Ends}
theorem rd_seq {σ : St} {t u : TS} (h : t { De with nx := u De } σ H) : tSeq t u De σ H := h
theorem rd_ifOr {σ : St} {a b : TT} {t u : TS} (h : a σ H fun c H1 => if c = true then (if true = true then t De σ H1 else u De σ H1) else b σ H1 fun c' H2 => if c' = true then t De σ H2 else u De σ H2) : tIfS (tOr a b) t u De σ H := h
end
def rGetL (K : Frag) : V → V → Hp → VK → Prop := fun o i H Q => ∃ (p : Addr) (xs : List V) (k : Nat) (v : V), o = .ref p ∧ i = .int (k : Nat) ∧ SqL K H p xs ∧ xs[k]? = some v ∧ Q v H
theorem SqL.kp {K : Frag} {H H' : Hp} {a p : Addr} {xs : List V} (h : SqL K H a xs) (k : Kept H H' p) (n : a ≠ p) : SqL K H' a xs := by
  rcases h with (h | ⟨o, h⟩) | h
  · exact .inl (.inl (k _ _ h n))
  · exact .inl (.inr ⟨o, k _ _ h n⟩)
  · exact .inr h
end My
set_option Elab.async false
set_option linter.all false
set_option maxRecDepth 100000
set_option maxHeartbeats 1000000
namespace My
open PySem PySem.W L2
theorem preSum_take (val : Nat → Int) (ns : List Int) (h : ∀ (i : Nat) (hi : i < ns.length), val i = ns[i]) : ∀ k, k ≤ ns.length → preSum val k = (ns.take k).sum
  | 0, _ => by simp [preSum]
  | k + 1, hk => by
    have ih := preSum_take val ns h k (by omega)
    have e : ns.take (k + 1) = ns.take k ++ [ns[k]] := take_all (List.getElem?_eq_getElem (by omega))
    show preSum val k + val k = _
    rw [ih, h k (by omega), e, List.sum_append]
    simp
section
variable {X : Cx}
def rSumL (K : Frag) : List V → Hp → VK → Prop := fun vs H Q => ∃ (l : Addr) (ns : List Int), vs = [.ref l] ∧ SqL K H l (ns.map V.int) ∧ Q (.int ns.sum) H
theorem call_sumL (hc : X.calm = true) : CallR X (.builtin "sum") (rSumL X.K) := by
  intro pins s σ H xs us Q I r h
  obtain ⟨l, ns, rfl, hl, q⟩ := h
  obtain ⟨u, rfl, ru⟩ := vals1 r
  cases (show u = Value.ref l from ru)
  obtain ⟨its, rv, p, hz⟩ := I.list hl
  obtain ⟨xs, rfl, rfl⟩ := ints_items rv
  have e : (xs.map fun p => Value.int p.1 p.2).toArray = intItems xs.toArray := by simp [intItems]
  have hL : s.heap.IsList l (intItems xs.toArray) := by rw [← e]; exact p.isList
  refine sum_intListG (I.ok.hd hc) hL fun h' tk t' hk => ?_
  have es : preSum (numAt xs.toArray) xs.toArray.size = (xs.map (·.1)).sum := by
    have := preSum_take (numAt xs.toArray) (xs.map (·.1)) (fun i hi => numAt_get (by simpa using hi)) xs.toArray.size (by simp)
    rw [this, List.take_of_length_le (by simp)]
  rw [es]
  exact ⟨.int _, H, I.kept hk, ⟨t', rfl⟩, q⟩
end
section
variable {X : Cx}
def rIsO (K : Frag) : List V → Hp → VK → Prop := fun vs H Q => ∃ x S t b, vs = [x, .ref S] ∧ Kd K H x t ∧ kitOne K t (.ref S) = some b ∧ Q (.bl b) H
theorem call_isO (N : IsT X.K) : CallR X (.builtin "isinstance") (rIsO X.K) := by
  intro pins s σ H xs us Q I r h
  obtain ⟨x, S, t, b, rfl, kd, e, q⟩ := h
  obtain ⟨u, u', rfl, ru, ru'⟩ := vals2 r
  cases (show u' = Value.ref S from ru')
  rcases kd with ty | ⟨p, ys, rfl, hq, rfl⟩ | ⟨a, C, rfl, ea, T, rfl⟩
  · exact isinst_ok I ru ty e fun tk => ⟨.bl b, H, I.tok _, rfl, q⟩
  · cases (show u = Value.ref p from ru)
    obtain ⟨its, _, ⟨o, h1, h2, _⟩, _⟩ := I.tuple hq
    exact kia_one kitx_tuple I.kIn ⟨o, h1, h2⟩ e (fun z => nomatch z) fun tk => ⟨.bl b, H, I.tok _, rfl, q⟩
  · cases (show u = Value.ref a from ru)
    exact kia_one (kitErr T N.gt N.tk) I.kIn (ea.inst I.hok) e (fun z => nomatch z) fun tk => ⟨.bl b, H, I.tok _, rfl, q⟩
end
mutual
def eqD : PyData → PyData → Bool
  | .list xs, .list ys => eqDs xs ys
  | .tuple xs, .tuple ys => eqDs xs ys
  | .none, .none => true
  | .bool a, .bool b => a == b
  | .bool a, .int j => (if a then (1 : Int) else 0) == j
  | .int i, .bool b => i == (if b then (1 : Int) else 0)
  | .int i, .int j => i == j
  | .str x, .str y => x == y
  | _, _ => false
def eqDs : List PyData → List PyData → Bool
  | [], [] => true
  | x :: xs, y :: ys => eqD x y && eqDs xs ys
  | _, _ => false
end
mutual
def plainD : PyData → Bool
  | .list xs => plainDs xs
  | .tuple xs => plainDs xs
  | .dict _ => false
  | _ => true
def plainDs : List PyData → Bool
  | [] => true
  | x :: xs => plainD x && plainDs xs
end
theorem plainDs_of : ∀ {ds : List PyData}, (∀ d ∈ ds, plainD d = true) → plainDs ds = true
  | [], _ => by simp [plainDs]
  | x :: xs, h => by
    simp only [plainDs, h x (List.mem_cons_self ..), plainDs_of fun d hd => h d (List.mem_cons_of_mem _ hd), Bool.and_self]
mutual
theorem eqD_refl : ∀ {d : PyData}, plainD d = true → eqD d d = true
  | .none, _ => by simp [eqD]
  | .bool b, _ => by simp [eqD]
  | .int i, _ => by simp [eqD]
  | .str x, _ => by simp [eqD]
  | .list xs, h => by simp only [eqD]; exact eqDs_refl (by simpa only [plainD] using h)
  | .tuple xs, h => by simp only [eqD]; exact eqDs_refl (by simpa only [plainD] using h)
  | .dict _, h => by simp [plainD] at h
theorem eqDs_refl : ∀ {ds : List PyData}, plainDs ds = true → eqDs ds ds = true
  | [], _ => by simp [eqDs]
  | d :: ds, h => by
    simp only [plainDs, Bool.and_eq_true] at h
    simp only [eqDs, eqD_refl h.1, eqDs_refl h.2, Bool.and_self]
end
mutual
theorem Rds.det {G : Hp} : ∀ {v : V} {d e : PyData}, Rds G v d → Rds G v e → d = e
  | _, _, _, .non, r => by cases r; rfl
  | _, _, _, .bl b, r => by cases r; rfl
  | _, _, _, .int i, r => by cases r; rfl
  | _, _, _, .str x, r => by cases r; rfl
  | _, _, _, .lst h t, r => by
    cases r with
    | lst h' t' => rw [h] at h'; cases h'; rw [RdsAll.det t t']
    | tup h' _ => rw [h] at h'; cases h'
    | dic0 h' => rw [h] at h'; cases h'
    | dic h' _ => rw [h] at h'; cases h'
  | _, _, _, .tup h t, r => by
    cases r with
    | lst h' _ => rw [h] at h'; cases h'
    | tup h' t' => rw [h] at h'; cases h'; rw [RdsAll.det t t']
    | dic0 h' => rw [h] at h'; cases h'
    | dic h' _ => rw [h] at h'; cases h'
  | _, _, _, .dic0 h, r => by
    cases r with
    | lst h' _ => rw [h] at h'; cases h'
    | tup h' _ => rw [h] at h'; cases h'
    | dic0 h' => rfl
    | dic h' _ => rw [h] at h'; cases h'
  | _, _, _, .dic h t, r => by
    cases r with
    | lst h' _ => rw [h] at h'; cases h'
    | tup h' _ => rw [h] at h'; cases h'
    | dic0 h' => rw [h] at h'; cases h'
    | dic h' t' => rw [h] at h'; cases h'; rw [Rds.det t t']
theorem RdsAll.det {G : Hp} : ∀ {vs : List V} {ds es : List PyData}, RdsAll G vs ds → RdsAll G vs es → ds = es
  | _, _, _, .nil, r => by cases r; rfl
  | _, _, _, .cons h t, r => by
    cases r with
    | cons h' t' => rw [Rds.det h h', RdsAll.det t t']
end
theorem eqDs_all : ∀ (xs ys : List PyData), ((List.range (min xs.length ys.length)).all (fun j => eqD (xs.getD j .none) (ys.getD j .none)) && xs.length == ys.length) = eqDs xs ys
  | [], [] => by simp [eqDs]
  | [], y :: ys => by simp [eqDs]
  | x :: xs, [] => by simp [eqDs]
  | x :: xs, y :: ys => by
    have ih := eqDs_all xs ys
    simp only [eqDs]
    rw [← ih, List.length_cons, List.length_cons, Nat.succ_min_succ, List.range_succ_eq_map, List.all_cons, List.all_map, Bool.and_assoc]
    congr 1
    rw [show (xs.length + 1 == ys.length + 1) = (xs.length == ys.length) from by simp]
    rfl
section
variable {X : Cx}
def EqE (H : Hp) (n : Nat) (x y : V) (b : Bool) : Prop := (∃ a, x = .ref a ∧ y = .ref a ∧ b = true) ∨ ∃ d e, Rds H x d ∧ Rds H y e ∧ plainD d = true ∧ plainD e = true ∧ d.depth ≤ n ∧ b = eqD d e
structure Rc2 (A : Around) (s : Shared) (u v : Value) (b : Bool) : Prop where
  eq : SeqAt.RcAt A s u v b
  ne : SeqAt.RcNeAt A s u v (!b)
structure Rc3 (A : Around) (s : Shared) (u v : Value) (b : Bool) : Prop where
  eq : SeqAt.RcAt A s u v b
  ne : SeqAt.RcNeAt A s u v (!b)
  at_ : SeqAt.EqAt A s u v b
theorem tups_rc {A : Around} {s : Shared} {p q : Addr} {its jts : List Value} (hu : A.units < cLine) (t1 : s.heap.IsTuple p its.toArray) (t2 : s.heap.IsTuple q jts.toArray) (e : Nat → Bool) (he : ∀ j (h1 : j < its.length) (h2 : j < jts.length), SeqAt.EqAt A.in1 s its[j] jts[j] (e j)) :
    Rc2 A s (.ref p) (.ref q) ((List.range (min its.length jts.length)).all e && its.length == jts.length) := by
  have h' : ∀ j (h1 : j < its.toArray.size) (h2 : j < jts.toArray.size), SeqAt.EqAt A.in1 s its.toArray[j] jts.toArray[j] (e j) := fun j h1 h2 => by
    simpa using he j (by simpa using h1) (by simpa using h2)
  have a := SeqAt.RcAt.tuples (e := e) t1 t2 hu h'
  have b := SeqAt.RcNeAt.tuples (e := e) t1 t2 hu h'
  rw [List.size_toArray, List.size_toArray] at a b
  exact ⟨a, b⟩
theorem lsts_rc {A : Around} {s : Shared} {p q : Addr} {its jts : List Value} (hu : A.units < cLine) (t1 : s.heap.IsList p its.toArray) (t2 : s.heap.IsList q jts.toArray) (e : Nat → Bool) (he : ∀ j (h1 : j < its.length) (h2 : j < jts.length), SeqAt.EqAt A.in1 s its[j] jts[j] (e j)) :
    Rc2 A s (.ref p) (.ref q) ((List.range (min its.length jts.length)).all e && its.length == jts.length) := by
  have h' : ∀ j (h1 : j < its.toArray.size) (h2 : j < jts.toArray.size), SeqAt.EqAt A.in1 s its.toArray[j] jts.toArray[j] (e j) := fun j h1 h2 => by
    simpa using he j (by simpa using h1) (by simpa using h2)
  by_cases sz : its.length = jts.length
  · have a := SeqAt.RcAt.lists (e := e) t1 t2 (by simpa using sz) hu h'
    have b := SeqAt.RcNeAt.lists (e := e) t1 t2 (by simpa using sz) hu h'
    rw [List.size_toArray] at a b
    have z : ((List.range (min its.length jts.length)).all e && its.length == jts.length) = (List.range its.length).all e := by
      rw [sz, Nat.min_self]
      simp
    rw [z]
    exact ⟨a, b⟩
  · have z : ((List.range (min its.length jts.length)).all e && its.length == jts.length) = false := by
      rw [show (its.length == jts.length) = false from by simpa using sz]
      simp
    rw [z]
    exact ⟨SeqAt.RcAt.lists_lengths t1 t2 (by simpa using sz) hu, SeqAt.RcNeAt.lists_lengths t1 t2 (by simpa using sz) hu⟩
mutual
theorem eqD_rc {pins : List (Addr × Obj)} {σ : St} {H : Hp} {s : Shared} (I : Inv X pins σ H s) : ∀ {x : V} {d : PyData}, Rds H x d → ∀ {A : Around} {y : V} {e : PyData} {u v : Value}, Rds H y e → plainD d = true → plainD e = true → A.units + d.depth < cLine → RelV x u → RelV y v → Rc3 A s u v (eqD d e)
  | _, _, .non, A, y, e, u, v, ry, pd, pe, hu, ru, rv => by
    have h0 : A.units < cLine := by omega
    cases ru
    cases ry with
    | non => cases rv; simp only [eqD]; exact ⟨.none_none, .none_none, .same _⟩
    | bl b => cases rv; simp only [eqD]; exact ⟨.none_bool _, .none_bool _, .none_bool _⟩
    | int j => obtain ⟨t, rfl⟩ := rv; simp only [eqD]; exact ⟨.none_int _ _, .none_int _ _, .none_int _ _⟩
    | str z => obtain ⟨t, rfl⟩ := rv; simp only [eqD]; exact ⟨.none_str _ _, .none_str _ _, .none_str _ _⟩
    | lst h _ => cases rv; obtain ⟨its, _, t, _⟩ := I.list (SqL.of (K := X.K) h); simp only [eqD]; exact ⟨.none_list t.isList h0, .none_list t.isList h0, .none_list t.isList h0⟩
    | tup h _ => cases rv; obtain ⟨its, _, t, _⟩ := I.tuple (SqT.of (K := X.K) h); simp only [eqD]; exact ⟨.none_tuple t h0, .none_tuple t h0, .none_tuple t h0⟩
    | dic0 _ => simp [plainD] at pe
    | dic _ _ => simp [plainD] at pe
  | _, _, .bl a, A, y, e, u, v, ry, pd, pe, hu, ru, rv => by
    have h0 : A.units < cLine := by omega
    cases ru
    cases ry with
    | non => cases rv; simp only [eqD]; exact ⟨.bool_none _, .bool_none _, .bool_none _⟩
    | bl b => cases rv; simp only [eqD]; exact ⟨.bool_bool _ _, .bool_bool _ _, .bool_bool _ _⟩
    | int j => obtain ⟨t, rfl⟩ := rv; simp only [eqD]; exact ⟨.bool_int _ _ _, .bool_int _ _ _, .bool_int _ _ _⟩
    | str z => obtain ⟨t, rfl⟩ := rv; simp only [eqD]; exact ⟨.bool_str _ _ _, .bool_str _ _ _, .bool_str _ _ _⟩
    | lst h _ => cases rv; obtain ⟨its, _, t, _⟩ := I.list (SqL.of (K := X.K) h); simp only [eqD]; exact ⟨.bool_list _ t.isList h0, .bool_list _ t.isList h0, .bool_list _ t.isList h0⟩
    | tup h _ => cases rv; obtain ⟨its, _, t, _⟩ := I.tuple (SqT.of (K := X.K) h); simp only [eqD]; exact ⟨.bool_tuple _ t h0, .bool_tuple _ t h0, .bool_tuple _ t h0⟩
    | dic0 _ => simp [plainD] at pe
    | dic _ _ => simp [plainD] at pe
  | _, _, .int i, A, y, e, u, v, ry, pd, pe, hu, ru, rv => by
    have h0 : A.units < cLine := by omega
    obtain ⟨tu, rfl⟩ := ru
    cases ry with
    | non => cases rv; simp only [eqD]; exact ⟨.int_none _ _, .int_none _ _, .int_none _ _⟩
    | bl b => cases rv; simp only [eqD]; exact ⟨.int_bool _ _ _, .int_bool _ _ _, .int_bool _ _ _⟩
    | int j => obtain ⟨t, rfl⟩ := rv; simp only [eqD]; exact ⟨.int_int _ _ _ _, .int_int _ _ _ _, .int_int _ _ _ _⟩
    | str z => obtain ⟨t, rfl⟩ := rv; simp only [eqD]; exact ⟨.int_str _ _ _ _, .int_str _ _ _ _, .int_str _ _ _ _⟩
    | lst h _ => cases rv; obtain ⟨its, _, t, _⟩ := I.list (SqL.of (K := X.K) h); simp only [eqD]; exact ⟨.int_list _ _ t.isList h0, .int_list _ _ t.isList h0, .int_list _ _ t.isList h0⟩
    | tup h _ => cases rv; obtain ⟨its, _, t, _⟩ := I.tuple (SqT.of (K := X.K) h); simp only [eqD]; exact ⟨.int_tuple _ _ t h0, .int_tuple _ _ t h0, .int_tuple _ _ t h0⟩
    | dic0 _ => simp [plainD] at pe
    | dic _ _ => simp [plainD] at pe
  | _, _, .str x, A, y, e, u, v, ry, pd, pe, hu, ru, rv => by
    have h0 : A.units < cLine := by omega
    obtain ⟨tu, rfl⟩ := ru
    cases ry with
    | non => cases rv; simp only [eqD]; exact ⟨.str_none _ _, .str_none _ _, .str_none _ _⟩
    | bl b => cases rv; simp only [eqD]; exact ⟨.str_bool _ _ _, .str_bool _ _ _, .str_bool _ _ _⟩
    | int j => obtain ⟨t, rfl⟩ := rv; simp only [eqD]; exact ⟨.str_int _ _ _ _, .str_int _ _ _ _, .str_int _ _ _ _⟩
    | str z => obtain ⟨t, rfl⟩ := rv; simp only [eqD]; exact ⟨.str_str _ _ _ _, .str_str _ _ _ _, .str_str _ _ _ _⟩
    | lst h _ => cases rv; obtain ⟨its, _, t, _⟩ := I.list (SqL.of (K := X.K) h); simp only [eqD]; exact ⟨.str_list _ _ t.isList h0, .str_list _ _ t.isList h0, .str_list _ _ t.isList h0⟩
    | tup h _ => cases rv; obtain ⟨its, _, t, _⟩ := I.tuple (SqT.of (K := X.K) h); simp only [eqD]; exact ⟨.str_tuple _ _ t h0, .str_tuple _ _ t h0, .str_tuple _ _ t h0⟩
    | dic0 _ => simp [plainD] at pe
    | dic _ _ => simp [plainD] at pe
  | _, _, .lst (a := a') (xs := xs) (ds := ds) h rs, A, y, e, u, v, ry, pd, pe, hu, ru, rv => by
    have h0 : A.units < cLine := by omega
    cases ru
    obtain ⟨its, r1, t1, _⟩ := I.list (SqL.of (K := X.K) h)
    cases ry with
    | non => cases rv; simp only [eqD]; exact ⟨.list_none t1.isList h0, .list_none t1.isList h0, .list_none t1.isList h0⟩
    | bl b => cases rv; simp only [eqD]; exact ⟨.list_bool _ t1.isList h0, .list_bool _ t1.isList h0, .list_bool _ t1.isList h0⟩
    | int j => obtain ⟨t, rfl⟩ := rv; simp only [eqD]; exact ⟨.list_int _ _ t1.isList h0, .list_int _ _ t1.isList h0, .list_int _ _ t1.isList h0⟩
    | str z => obtain ⟨t, rfl⟩ := rv; simp only [eqD]; exact ⟨.list_str _ _ t1.isList h0, .list_str _ _ t1.isList h0, .list_str _ _ t1.isList h0⟩
    | @lst b' ys es h' ts =>
      cases rv
      obtain ⟨jts, r2, t2, _⟩ := I.list (SqL.of (K := X.K) h')
      have pds : plainDs ds = true := by simpa only [plainD] using pd
      have pes : plainDs es = true := by simpa only [plainD] using pe
      have dd : A.in1.units + PyData.depthAll ds < cLine := by rw [in1_units]; simp only [PyData.depth] at hu; omega
      have k := lsts_rc h0 t1.isList t2.isList (fun j => eqD (ds.getD j .none) (es.getD j .none)) (fun j h1 h2 => eqDs_at I rs ts pds pes dd r1 r2 h1 h2)
      rw [← r1.length, ← r2.length, rs.length, ts.length, eqDs_all] at k
      simp only [eqD]
      refine ⟨k.eq, k.ne, ?_⟩
      by_cases e : a' = b'
      · subst e
        rw [h] at h'
        cases h'
        have := RdsAll.det rs ts
        subst this
        rw [eqDs_refl pds]
        exact SeqAt.EqAt.same _
      · exact .of_refs e k.eq
    | tup h' _ => cases rv; obtain ⟨jts, _, t, _⟩ := I.tuple (SqT.of (K := X.K) h'); simp only [eqD]; exact ⟨.list_tuple t1.isList t h0, .list_tuple t1.isList t h0, .list_tuple t1.isList t h0⟩
    | dic0 _ => simp [plainD] at pe
    | dic _ _ => simp [plainD] at pe
  | _, _, .tup (a := a') (xs := xs) (ds := ds) h rs, A, y, e, u, v, ry, pd, pe, hu, ru, rv => by
    have h0 : A.units < cLine := by omega
    cases ru
    obtain ⟨its, r1, t1, _⟩ := I.tuple (SqT.of (K := X.K) h)
    cases ry with
    | non => cases rv; simp only [eqD]; exact ⟨.tuple_none t1 h0, .tuple_none t1 h0, .tuple_none t1 h0⟩
    | bl b => cases rv; simp only [eqD]; exact ⟨.tuple_bool _ t1 h0, .tuple_bool _ t1 h0, .tuple_bool _ t1 h0⟩
    | int j => obtain ⟨t, rfl⟩ := rv; simp only [eqD]; exact ⟨.tuple_int _ _ t1 h0, .tuple_int _ _ t1 h0, .tuple_int _ _ t1 h0⟩
    | str z => obtain ⟨t, rfl⟩ := rv; simp only [eqD]; exact ⟨.tuple_str _ _ t1 h0, .tuple_str _ _ t1 h0, .tuple_str _ _ t1 h0⟩
    | @tup b' ys es h' ts =>
      cases rv
      obtain ⟨jts, r2, t2, _⟩ := I.tuple (SqT.of (K := X.K) h')
      have pds : plainDs ds = true := by simpa only [plainD] using pd
      have pes : plainDs es = true := by simpa only [plainD] using pe
      have dd : A.in1.units + PyData.depthAll ds < cLine := by rw [in1_units]; simp only [PyData.depth] at hu; omega
      have k := tups_rc h0 t1 t2 (fun j => eqD (ds.getD j .none) (es.getD j .none)) (fun j h1 h2 => eqDs_at I rs ts pds pes dd r1 r2 h1 h2)
      rw [← r1.length, ← r2.length, rs.length, ts.length, eqDs_all] at k
      simp only [eqD]
      refine ⟨k.eq, k.ne, ?_⟩
      by_cases e : a' = b'
      · subst e
        rw [h] at h'
        cases h'
        have := RdsAll.det rs ts
        subst this
        rw [eqDs_refl pds]
        exact SeqAt.EqAt.same _
      · exact .of_refs e k.eq
    | lst h' _ => cases rv; obtain ⟨jts, _, t, _⟩ := I.list (SqL.of (K := X.K) h'); simp only [eqD]; exact ⟨.tuple_list t1 t.isList h0, .tuple_list t1 t.isList h0, .tuple_list t1 t.isList h0⟩
    | dic0 _ => simp [plainD] at pe
    | dic _ _ => simp [plainD] at pe
  | _, _, .dic0 _, _, _, _, _, _, _, pd, _, _, _, _ => by simp [plainD] at pd
  | _, _, .dic _ _, _, _, _, _, _, _, pd, _, _, _, _ => by simp [plainD] at pd
theorem eqDs_at {pins : List (Addr × Obj)} {σ : St} {H : Hp} {s : Shared} (I : Inv X pins σ H s) : ∀ {xs : List V} {ds : List PyData}, RdsAll H xs ds → ∀ {A : Around} {ys : List V} {es : List PyData} {its jts : List Value}, RdsAll H ys es → plainDs ds = true → plainDs es = true → A.units + PyData.depthAll ds < cLine → Vals xs its → Vals ys jts →
    ∀ {j : Nat} (h1 : j < its.length) (h2 : j < jts.length), SeqAt.EqAt A s its[j] jts[j] (eqD (ds.getD j .none) (es.getD j .none))
  | _, _, .nil, A, ys, es, its, jts, ts, pd, pe, hu, r1, r2, j, h1, h2 => by cases r1; exact absurd h1 (Nat.not_lt_zero _)
  | _, _, .cons (v := x) (d := d) r rs, A, ys, es, its, jts, ts, pd, pe, hu, r1, r2, j, h1, h2 => by
    cases ts with
    | nil => cases r2; exact absurd h2 (Nat.not_lt_zero _)
    | cons r' ts =>
      cases r1 with
      | cons q1 r1 =>
        cases r2 with
        | cons q2 r2 =>
          simp only [plainDs, Bool.and_eq_true] at pd pe
          simp only [PyData.depthAll] at hu
          cases j with
          | zero =>
            exact (eqD_rc I r (A := A) r' pd.1 pe.1 (by omega) q1 q2).at_
          | succ j => exact eqDs_at I rs (A := A) ts pd.2 pe.2 (by omega) r1 r2 (by simpa using h1) (by simpa using h2)
end
def rEqD (g : Bool → Bool) : R2 := fun x y H Q => ∃ d e, Rds H x d ∧ Rds H y e ∧ plainD d = true ∧ plainD e = true ∧ d.depth ≤ 20 ∧ Q (.bl (g (eqD d e))) H
theorem op_neD (hu : X.A.units + 64 < cLine) : OpR X (compareOp .NotEq) (rEqD not) := by
  intro pins s σ H x y v u Q I rx ry h
  obtain ⟨d, e, r1, r2, p1, p2, dd, k⟩ := h
  exact (eqD_rc I r1 r2 p1 p2 (by omega) rx ry).ne X.prog X.w X.xe _ ⟨.bl _, H, I, rfl, k⟩
def rEqR (K : Frag) (g : Bool → Bool) : R2 := fun x y H Q => ∃ p q xs ys, ∃ e : Nat → Bool, x = .ref p ∧ y = .ref q ∧ ((SqT K H p xs ∧ SqT K H q ys) ∨ (SqL K H p xs ∧ SqL K H q ys)) ∧ (∀ (j : Nat) a b, xs[j]? = some a → ys[j]? = some b → EqE H 20 a b (e j)) ∧
  Q (.bl (g ((List.range (min xs.length ys.length)).all e && xs.length == ys.length))) H
end
end My
set_option Elab.async false
set_option linter.all false
set_option maxRecDepth 100000
set_option maxHeartbeats 1000000
namespace My
open PySem PySem.W L2
def MethS (P : Program) (w : World) (K : Frag) (mg : Str → Option Value) (base : Heap) (CX : CXT) (k : Nat) (m : Str) (ps : List Str) (S : Addr → Prop) (sp : Addr → Sp) : Prop :=
  ∀ C, S C → Cls K C ∧ ∃ f fd, Meth K C m f ∧ FnOk P w K mg base CX k f fd ps (sp C) ∧ Binds K fd ps []
def tMethD (S : Addr → Prop) (m : Str) (sp : Addr → Sp) (E : XK) (ta : TE) (t : TA) : TE := fun σ H Q => ta σ H fun x H1 => ∃ a C dx fs, x = .ref a ∧ S C ∧ H1 a = some (.ins C dx fs) ∧ fs.lookup m = none ∧
  t σ H1 fun vs H2 => sp C (x :: vs) H2 Q E
section
variable {X : Cx} {CX : CXT} {k : Nat} {S : Addr → Prop} {ps : List Str} {sp : Addr → Sp} {E : XK} {x m : Str} {p pos apos : Pos} {e o : Expr} {es : List Expr} {ta : TE} {t : TA} {σ : St}
theorem pe_methD {pl : Sem Bool} (he : PE X o ta) (M : MethS X.prog X.w X.K X.mg X.base CX k m ps S sp) (hr : Room k X.A) (hx : Passes CX X E) (ha : PA X (e :: es) t)
    (hst : starEach (e :: es) X.env = (false, eval e X.env) :: starEach es X.env := by rfl) (hpl : (backTo pos (starEach es X.env)).any (·.1) = false := by rfl)
    (ht : eval (.Call (.Attribute o m apos) (e :: es) [] pos) X.env = (do
      let ov ← eval o X.env
      standAt apos.atName
      let (f, first) ← holding [ov] (getMethod ov m pl)
      callWith pos f first (backTo pos (starEach (e :: es) X.env)) (backToKw pos (keywordEach [] X.env))) := by rfl) :
    PE X (.Call (.Attribute o m apos) (e :: es) [] pos) (tMethD S m sp E ta t) := by
  intro pins s σ H Q I h
  refine PySem.W.methodCall_KW (pl := pl) (thn (he pins s σ H _ I h) fun u s1 ⟨x, H1, I1, rx, a, C, dx, fs, ex, hS, ea, l, q⟩ => ?_) ht
  subst ex
  obtain ⟨c, f, fd, hm, F, hb⟩ := M C hS
  obtain rfl : u = Value.ref a := rx
  refine getmeth_ok I1 ea c hm l ?_
  refine PySem.W.callWith_K (first := [.ref a]) (h₀ := X.base) I.ok.mod.kin hm.kp (thn (ha pos pins s1 σ H1 _ I1 q) fun us s2 ⟨vs, H2, I2, r, q2⟩ => ⟨I2.kIn, ?_⟩) hst hpl
  exact run_fn (us := .ref a :: us) (vs := .ref a :: vs) (dvs := []) F hr hb .nil hx I2 (.cons rfl r) (by rw [List.append_nil]; exact q2)
theorem pe_methD0 {pl : Sem Bool} (he : PE X o ta) (M : MethS X.prog X.w X.K X.mg X.base CX k m ps S sp) (hr : Room k X.A) (hx : Passes CX X E)
    (ht : eval (.Call (.Attribute o m apos) [] [] pos) X.env = (do
      let ov ← eval o X.env
      standAt apos.atName
      let (f, first) ← holding [ov] (getMethod ov m pl)
      callWith pos f first (backTo pos (starEach [] X.env)) (backToKw pos (keywordEach [] X.env))) := by rfl) :
    PE X (.Call (.Attribute o m apos) [] [] pos) (tMethD S m sp E ta tNil) := by
  intro pins s σ H Q I h
  refine PySem.W.methodCall_KW (pl := pl) (thn (he pins s σ H _ I h) fun u s1 ⟨x, H1, I1, rx, a, C, dx, fs, ex, hS, ea, l, q⟩ => ?_) ht
  subst ex
  obtain ⟨c, f, fd, hm, F, hb⟩ := M C hS
  obtain rfl : u = Value.ref a := rx
  refine getmeth_ok I1 ea c hm l ?_
  exact PySem.W.callWith_K0 (first := [.ref a]) I1.kIn hm.kp (run_fn (us := [.ref a]) (vs := [.ref a]) (dvs := []) F hr hb .nil hx I1 (.cons rfl .nil) q)
end
end My
set_option Elab.async false
set_option linter.all false
set_option maxRecDepth 100000
set_option maxHeartbeats 1000000
namespace My
open PySem PySem.W L2
section
variable {K : Frag} {te : TE} {tt : TT} {g : TG} {k : Nat} {cap : St} {D : Addr} {H1 : Hp} {Q : Hp → Prop} {a : Addr} {xs : List V}
theorem lcG_tup (Pv : Nat → List V → Hp → Prop) (hz : xs.length < sizeLine) (h0 : Pv 0 [] (upd H1 D (.lst [])))
    (hl : ∀ i ys H, Pv i ys H → SqT K H a xs)
    (hs : ∀ i x ys H, xs[i]? = some x → ys.length = i → H D = some (.lst ys) → Pv i ys H → ∀ os : St, os.length = k → ∀ R : VK, (∀ y H4, H4 D = some (.lst ys) → Pv (i + 1) (ys ++ [y]) (upd H4 D (.lst (ys ++ [y]))) → R y H4) → g x (os ++ cap) H fun σ2 H0 => (∃ os' : St, os'.length = k ∧ σ2 = os' ++ cap) ∧ te σ2 H0 R)
    (hd : ∀ ys H, ys.length = xs.length → H D = some (.lst ys) → Pv xs.length ys H → Q H) :
    ∃ W : Nat → Nat → List V → Hp → Prop, (∃ m, W 0 m [] (upd H1 D (.lst []))) ∧
      ∀ i m ys H2, W i m ys H2 → H2 D = some (.lst ys) ∧ (((Itt K a).stop i H2 ∧ Q H2) ∨ ((Itt K a).go i H2 ∧ ys.length < sizeLine ∧
        ∀ x H3, (Itt K a).yld i H2 x H3 → ∀ os : St, os.length = k → g x (os ++ cap) H3 fun σ2 H0 => (∃ os' : St, os'.length = k ∧ σ2 = os' ++ cap) ∧ te σ2 H0 fun y H4 => H4 D = some (.lst ys) ∧ ∃ m', m' < m ∧ W (i + 1) m' (ys ++ [y]) (upd H4 D (.lst (ys ++ [y]))))) := by
  refine ⟨fun i m ys H => m = xs.length - i ∧ i ≤ xs.length ∧ ys.length = i ∧ H D = some (.lst ys) ∧ Pv i ys H, ⟨xs.length, by simp, Nat.zero_le _, rfl, upd_same, h0⟩, ?_⟩
  rintro i m ys H ⟨rfl, hi, hy, hD, p⟩
  refine ⟨hD, ?_⟩
  have q := hl i ys H p
  by_cases hlt : i < xs.length
  · refine .inr ⟨⟨xs, xs[i], q, by simp [hlt]⟩, by omega, fun x H' y => ?_⟩
    obtain ⟨e, y⟩ := y
    subst e
    exact fun os los => hs i x ys _ (y xs q) hy hD p os los _ fun z H4 hD4 p4 => ⟨hD4, xs.length - (i + 1), by omega, rfl, hlt, by rw [List.length_append, hy]; rfl, upd_same, p4⟩
  · have e : i = xs.length := by omega
    subst e
    exact .inl ⟨⟨xs, q, Nat.le_refl _⟩, hd ys H hy hD p⟩
end
theorem keptUpd {H : Hp} {p : Addr} (o : HO) : Kept H (upd H p o) p := fun b u h n => by rw [upd_ne n]; exact h
def shareD : PyData → Bool
  | .tuple [.int a, .int b] => (decide (1 ≤ b) && (decide (0 ≤ a) && decide (a ≤ b))) && decide (Nat.gcd a.toNat b.toNat = 1)
  | _ => false
def coinD : PyData → Bool
  | .tuple [.int a, .int b] => shareD (.tuple [.int a, .int b]) && (decide (2 ≤ b) && decide (b ≤ 100))
  | _ => false
def upI (lo : Int) (n : Nat) : List Int := (List.range n).map fun k => lo + (k : Nat)
def tupD (p : List Int) : PyData := .tuple (p.map .int)
def lstD (p : List Int) : PyData := .list (p.map .int)
theorem upL_eq (lo : Int) (n : Nat) : upL lo n = (upI lo n).map V.int := by unfold upL upI; rw [List.map_map]; rfl
theorem rds_intsD (G : Hp) : ∀ (ns : List Int), RdsAll G (ns.map V.int) (ns.map PyData.int)
  | [] => .nil
  | n :: ns => .cons (.int _) (rds_intsD G ns)
theorem ints_of {G : Hp} : ∀ {p : List Int} {ys : List V}, RdsAll G ys (p.map PyData.int) → ys = p.map V.int
  | [], _, h => by cases h; rfl
  | n :: p, _, h => by
    cases h with
    | cons r t =>
      cases r
      rw [ints_of t]
      rfl
theorem rds_tups {G : Hp} {ps : List (List Int)} {xs : List V} (rs : RdsAll G xs (ps.map tupD)) {i : Nat} {x : V} {p : List Int} (hx : xs[i]? = some x) (hp : ps[i]? = some p) : ∃ a, x = .ref a ∧ G a = some (.tup (p.map V.int)) := by
  obtain ⟨d, ed, rd⟩ := rs.get hx
  rw [List.getElem?_map, hp] at ed
  cases ed
  obtain ⟨a, ys, rfl, ha, ry⟩ := rds_tup rd
  refine ⟨a, rfl, ?_⟩
  rw [← ints_of ry]
  exact ha
def dataO : HO → Bool
  | .lst _ => true
  | .tup _ => true
  | .dK _ => true
  | _ => false
mutual
theorem Rds.keep {G G' : Hp} (s : ∀ b o, G b = some o → dataO o = true → G' b = some o) : ∀ {v : V} {d : PyData}, Rds G v d → Rds G' v d
  | _, _, .non => .non
  | _, _, .bl b => .bl b
  | _, _, .int i => .int i
  | _, _, .str x => .str x
  | _, _, .lst e r => .lst (s _ _ e rfl) (RdsAll.keep s r)
  | _, _, .tup e r => .tup (s _ _ e rfl) (RdsAll.keep s r)
  | _, _, .dic0 e => .dic0 (s _ _ e rfl)
  | _, _, .dic e r => .dic (s _ _ e rfl) (Rds.keep s r)
theorem RdsAll.keep {G G' : Hp} (s : ∀ b o, G b = some o → dataO o = true → G' b = some o) : ∀ {vs : List V} {ds : List PyData}, RdsAll G vs ds → RdsAll G' vs ds
  | _, _, .nil => .nil
  | _, _, .cons r t => .cons (Rds.keep s r) (RdsAll.keep s t)
end
theorem Rds.kept {H H' : Hp} {x : Addr} {v : V} {d : PyData} {C dx : Addr} {fs : List (Str × V)} (r : Rds H v d) (hx : H x = some (.ins C dx fs)) (k : Kept H H' x) : Rds H' v d :=
  r.keep fun b o e h => k b o e fun z => by rw [z, hx] at e; cases e; cases h
inductive R0 where
  | split (n k : Int)
  | pairs (n a b : Int)
  | coins (n a b f : Int)
def R0.folk : R0 → Int
  | .split n _ => n
  | .pairs n _ _ => 2 * n
  | .coins n _ _ _ => n
def R0.begin : R0 → PyData
  | .split _ k => .int k
  | .pairs _ _ _ => .none
  | .coins _ _ _ _ => .int 0
def R0.told : R0 → PyData
  | .split n k => .tuple [.str "split", .int n, .int k]
  | .pairs n a b => .tuple [.str "pairs", .int n, .tuple [.int a, .int b]]
  | .coins n a b f => .tuple [.str "coins", .int n, .tuple [.int a, .int b], .int f]
def R0.kind : R0 → Nat
  | .split _ _ => 0
  | .pairs _ _ _ => 1
  | .coins _ _ _ _ => 2
def R0.ok : R0 → Prop
  | .split n k => 1 ≤ n ∧ n ≤ 20 ∧ 0 ≤ k ∧ k ≤ n
  | .pairs n a b => 1 ≤ n ∧ n ≤ 10 ∧ coinD (.tuple [.int a, .int b]) = true
  | .coins n a b f => 1 ≤ n ∧ n ≤ 20 ∧ coinD (.tuple [.int a, .int b]) = true ∧ 1 ≤ f ∧ f ≤ 20
theorem R0.folk_ok {r : R0} (h : r.ok) : 1 ≤ r.folk ∧ r.folk ≤ 20 := by
  cases r <;> simp only [R0.ok, R0.folk] at * <;> omega
def secs : Int → List Int → List (List Int)
  | _, [] => []
  | s, n :: ns => upI s n.toNat :: secs (s + n) ns
def cutP (m : Int) (ps : List (List Int)) : List (List Int) := (ps.map (·.filter fun x => decide (x < m))).filter fun p => decide (0 < p.length)
inductive Rl where
  | one (r : R0)
  | blocks (rs : List R0)
  | first (t : Rl) (m : Int)
def Rl.folk : Rl → Int
  | .one r => r.folk
  | .blocks rs => (rs.map R0.folk).sum
  | .first _ m => m
def Rl.begin : Rl → PyData
  | .one r => r.begin
  | .blocks [] => .tuple [.int 0, .none]
  | .blocks (r :: _) => .tuple [.int 0, r.begin]
  | .first t _ => t.begin
def Rl.told : Rl → PyData
  | .one r => r.told
  | .blocks rs => .tuple [.str "blocks", .tuple (rs.map R0.told)]
  | .first t m => .tuple [.str "first", t.told, .int m]
def Rl.parts : Rl → List (List Int)
  | .one r => [upI 0 r.folk.toNat]
  | .blocks rs => secs 0 (rs.map R0.folk)
  | .first t m => cutP m t.parts
def Rl.kind : Rl → Nat
  | .one r => r.kind
  | .blocks _ => 3
  | .first _ _ => 3
def Rl.inner : Rl → Rl
  | .first t _ => t.inner
  | t => t
def partsD (ps : List (List Int)) : PyData := .tuple (ps.map tupD)
def blocksD (ps : List (List Int)) : PyData := .list (ps.map lstD)
def Rl.ok : Rl → Prop
  | .one r => r.ok
  | .blocks rs => 1 ≤ rs.length ∧ rs.length ≤ 6 ∧ (∀ r ∈ rs, r.ok) ∧ (rs.map R0.folk).sum ≤ 20
  | .first t m => t.ok ∧ 0 ≤ m ∧ m ≤ t.folk
theorem sum_nonneg : ∀ {ns : List Int}, (∀ n ∈ ns, 0 ≤ n) → 0 ≤ ns.sum
  | [], _ => by simp
  | n :: ns, h => by
    have := h n (List.mem_cons_self ..)
    have := sum_nonneg fun x hx => h x (List.mem_cons_of_mem _ hx)
    simp only [List.sum_cons]
    omega
theorem Rl.folk_ok : ∀ {t : Rl}, t.ok → 0 ≤ t.folk ∧ t.folk ≤ 20
  | .one r, h => by have := R0.folk_ok h; simp only [Rl.folk]; omega
  | .blocks rs, h => by
    obtain ⟨_, _, h3, h4⟩ := h
    refine ⟨sum_nonneg fun n hn => ?_, h4⟩
    obtain ⟨r, hr, rfl⟩ := List.mem_map.mp hn
    have := R0.folk_ok (h3 r hr)
    omega
  | .first t m, h => by
    obtain ⟨h1, h2, h3⟩ := h
    have := Rl.folk_ok h1
    simp only [Rl.folk]
    omega
def mNames : List Str := ["folk", "begin", "steps", "told", "blocks", "state_ahead", "state_behind"]
structure Ob (C : Addr) (H : Hp) (v : V) (fk : Int) (bg tl pt : PyData) (X : List (Str × V) → Prop) : Prop where
  ex : ∃ a dx fs, v = .ref a ∧ H a = some (.ins C dx fs) ∧ fs.lookup ("size" : Str) = some (.int fk) ∧ (∃ b, fs.lookup ("first_state" : Str) = some b ∧ Rds H b bg) ∧ (∃ m, fs.lookup ("mark" : Str) = some m ∧ Rds H m tl) ∧ (∃ p, fs.lookup ("parts" : Str) = some p ∧ Rds H p pt) ∧ (∀ m ∈ mNames, fs.lookup m = none) ∧ X fs
def R0.extra (H : Hp) : R0 → List (Str × V) → Prop
  | .split _ _, _ => True
  | .pairs _ a b, fs => ∃ c, fs.lookup ("coin" : Str) = some c ∧ Rds H c (.tuple [.int a, .int b])
  | .coins _ a b f, fs => (∃ c, fs.lookup ("coin" : Str) = some c ∧ Rds H c (.tuple [.int a, .int b])) ∧ fs.lookup ("far" : Str) = some (.int f)
def Ru0 (C : Nat → Addr) (H : Hp) (r : R0) (v : V) : Prop := Ob (C r.kind) H v r.folk r.begin r.told (partsD [upI 0 r.folk.toNat]) (r.extra H)
def All0 (C : Nat → Addr) (H : Hp) (rs : List R0) (ws : List V) : Prop := rs.length = ws.length ∧ ∀ (i : Nat) r w, rs[i]? = some r → ws[i]? = some w → Ru0 C H r w
def RuB (C : Nat → Addr) (H : Hp) (rs : List R0) (v : V) : Prop := Ob (C 3) H v (Rl.blocks rs).folk (Rl.blocks rs).begin (Rl.blocks rs).told (partsD (Rl.blocks rs).parts) (fun fs => ∃ l ws, fs.lookup ("rules" : Str) = some (.ref l) ∧ H l = some (.tup ws) ∧ All0 C H rs ws)
def RuN (C : Nat → Addr) (H : Hp) : Rl → V → Prop
  | .one r, v => Ru0 C H r v
  | .blocks rs, v => RuB C H rs v
  | .first _ _, _ => False
def Ru (C : Nat → Addr) (H : Hp) : Rl → V → Prop
  | .one r, v => Ru0 C H r v
  | .blocks rs, v => RuB C H rs v
  | .first _ _, _ => False
theorem Ob.mono {C : Addr} {H H' : Hp} {v : V} {fk : Int} {bg tl pt : PyData} {X Y : List (Str × V) → Prop} (h : Ob C H v fk bg tl pt X) (x : Ext H H') (k : ∀ fs, X fs → Y fs) : Ob C H' v fk bg tl pt Y := by
  obtain ⟨a, dx, fs, rfl, ha, h1, ⟨b, h2, r2⟩, ⟨m, h3, r3⟩, ⟨p, h4, r4⟩, h5, h6⟩ := h.ex
  exact ⟨a, dx, fs, rfl, x _ _ ha, h1, ⟨b, h2, r2.mono x⟩, ⟨m, h3, r3.mono x⟩, ⟨p, h4, r4.mono x⟩, h5, k fs h6⟩
section
variable {C : Nat → Addr} {H H' : Hp}
theorem Ru0.ext {r : R0} {v : V} (h : Ru0 C H r v) (x : Ext H H') : Ru0 C H' r v := Ob.mono h x fun fs e => by
  cases r with
  | split _ _ => trivial
  | pairs _ a b =>
    obtain ⟨c, e1, e2⟩ := e
    exact ⟨c, e1, e2.mono x⟩
  | coins _ a b f =>
    obtain ⟨⟨c, e1, e2⟩, e3⟩ := e
    exact ⟨⟨c, e1, e2.mono x⟩, e3⟩
theorem All0.ext {rs : List R0} {ws : List V} (h : All0 C H rs ws) (x : Ext H H') : All0 C H' rs ws := ⟨h.1, fun i r w a b => Ru0.ext (h.2 i r w a b) x⟩
theorem RuB.ext {rs : List R0} {v : V} (h : RuB C H rs v) (x : Ext H H') : RuB C H' rs v := Ob.mono h x fun fs e => by
  obtain ⟨l, ws, e1, e2, e3⟩ := e
  exact ⟨l, ws, e1, x _ _ e2, e3.ext x⟩
theorem RuN.ext {t : Rl} {v : V} (h : RuN C H t v) (x : Ext H H') : RuN C H' t v := by
  cases t with
  | one r => exact Ru0.ext h x
  | blocks rs => exact RuB.ext h x
  | first _ _ => exact h.elim
theorem Ru.ext {t : Rl} {v : V} (h : Ru C H t v) (x : Ext H H') : Ru C H' t v := by
  cases t with
  | one r => exact Ru0.ext h x
  | blocks rs => exact RuB.ext h x
  | first t m => exact h.elim
theorem Ru.ob {t : Rl} {v : V} (h : Ru C H t v) : Ob (C t.kind) H v t.folk t.begin t.told (partsD t.parts) (fun _ => True) := by
  cases t with
  | one r => exact Ob.mono h (Ext.refl _) fun _ _ => trivial
  | blocks rs => exact Ob.mono h (Ext.refl _) fun _ _ => trivial
  | first t m => exact False.elim h
theorem RuN.ru {t : Rl} {v : V} (h : RuN C H t v) : Ru C H t v := by
  cases t with
  | one r => exact h
  | blocks rs => exact h
  | first _ _ => exact h.elim
theorem Ru.ref {t : Rl} {v : V} (h : Ru C H t v) : ∃ a, v = .ref a := by
  obtain ⟨a, _, _, e, _⟩ := h.ob.ex
  exact ⟨a, e⟩
end
theorem R0.kind_lt (r : R0) : r.kind < 3 := by cases r <;> simp [R0.kind]
theorem Rl.kind_lt (t : Rl) : t.kind < 4 := by
  cases t with
  | one r => have := r.kind_lt; show r.kind < 4; omega
  | blocks _ => show 3 < 4; decide
  | first _ _ => show 3 < 4; decide
def fNames : List Str := ["size", "first_state", "mark", "parts", "coin", "far", "rules", "dealer"]
structure KR (K : Frag) (C : Nat → Addr) (CR : Addr) : Prop where
  cls : ∀ i, i < 4 → Cls K (C i)
  no : ∀ i, i < 4 → ∀ f ∈ fNames, NoAttr K (C i) f
  ha : ∀ i, i < 4 → PySem.W.findIn K (.ref (C i)) "__class__" = some (some (.builtin "object.__class__"))
  hn : PySem.W.specialIn K (.builtin "object.__class__") "__get__" = some (some (.builtin "getset_descriptor.__get__"))
  htk : PySem.W.takesIn K (.builtin "object.__class__") = some true
  hm : ∀ i, i < 4 → PySem.W.mroIn K (C i) (.type "object") = some true
  kk : ∀ i j, i < 4 → j < 4 → kitOne K (.ref (C i)) (.ref (C j)) = some (i == j)
  kR : ∀ i, i < 4 → kitOne K (.ref (C i)) (.ref CR) = some true
  kl : ∀ i, i < 4 → kitOne K (.ref (C i)) (.type "list") = some false
  kt : ∀ i, i < 4 → kitOne K (.ref (C i)) (.type "tuple") = some false
  ki : ∀ i, i < 4 → kitOne K (.ref (C i)) (.type "int") = some false
  kb : ∀ i, i < 4 → kitOne K (.ref (C i)) (.type "bool") = some false
def Is5 (C : Nat → Addr) (c : Addr) : Prop := ∃ i, i < 4 ∧ c = C i
section
variable {K : Frag} {C : Nat → Addr} {CR : Addr} {H : Hp}
theorem Ob.kd {i : Nat} {v : V} {fk : Int} {bg tl pt : PyData} {X : List (Str × V) → Prop} (Z : KR K C CR) (hi : i < 4) (h : Ob (C i) H v fk bg tl pt X) : Kd K H v (.ref (C i)) := by
  obtain ⟨a, dx, fs, rfl, ha, _⟩ := h.ex
  exact .inl (.ins ha (Z.cls i hi) (Z.ha i hi) Z.hn Z.htk (Z.hm i hi))
theorem Ru.kd {t : Rl} {v : V} (Z : KR K C CR) (h : Ru C H t v) : Kd K H v (.ref (C t.kind)) := h.ob.kd Z t.kind_lt
theorem rd_meth0 {m : Str} {sp : Addr → Sp} {E : XK} {ta : TE} {σ : St} {Q : VK} {t : Rl} {v : V} (hm : m ∈ mNames) (h : Ru C H t v) (ht : ∀ R : VK, R v H → ta σ H R) (q : sp (C t.kind) [v] H Q E) : tMethD (Is5 C) m sp E ta tNil σ H Q := by
  obtain ⟨a, dx, fs, rfl, ha, _, _, _, _, h5, _⟩ := h.ob.ex
  exact ht _ ⟨a, C t.kind, dx, fs, rfl, ⟨_, t.kind_lt, rfl⟩, ha, h5 m hm, q⟩
end
theorem R0.plain (r : R0) : plainD r.told = true := by cases r <;> simp [R0.told, plainD, plainDs]
theorem Rl.plain : ∀ t : Rl, plainD t.told = true
  | .one r => r.plain
  | .blocks rs => by
    have : plainDs (rs.map R0.told) = true := plainDs_of fun d hd => by
      obtain ⟨r, _, rfl⟩ := List.mem_map.mp hd
      exact r.plain
    simp only [Rl.told, plainD, plainDs, this, Bool.and_self]
  | .first t m => by simp only [Rl.told, plainD, plainDs, t.plain, Bool.and_self]
end My
set_option Elab.async false
set_option linter.all false
set_option maxRecDepth 100000
set_option maxHeartbeats 1000000
set_option exponentiation.threshold 5000
namespace My
open PySem PySem.W L2
def partV : V → V → Bool
  | x, .int j => decide (1 ≤ j) && inB 0 j x
  | _, _ => false
theorem partV_no {x y : V} (h : ∀ i, y ≠ .int i) : partV x y = false := by
  cases y with
  | int i => exact absurd rfl (h i)
  | _ => rfl
section
variable {P : Program} {w : World} {K : Frag} {mg : Str → Option Value} {base : Heap}
abbrev sIsNum : Stmt := top 10
def spIsNum (K : Frag) : Sp := fun vs H Q _ => ∃ x, vs = [x] ∧ Th K H x ∧ Q (.bl (numB x)) H
theorem scIN : FnScope ["thing"] ["thing"] (defScope sIsNum) := ⟨rfl, rfl, rfl, by decide +kernel, rfl, by decide +kernel, by decide +kernel⟩
theorem ok_isnum {f : Addr} {fd : FuncData} (N : IsT K) (F : Fun K "is_number" "is_number" sIsNum f fd) (mi : mg "isinstance" = none) (m1 : mg "int" = none) (m2 : mg "bool" = none) : FnOk P w K mg base CX0 1 f fd ["thing"] (spIsNum K) := by
  refine F.ok scIN (fun vs H Q E h => ?_) (fun cdv A outer s H vs Q E hr h => ?_)
  · obtain ⟨c, rfl, _⟩ := h
    rfl
  obtain ⟨x, rfl, th, q⟩ := h
  refine ⟨_, pss_one (ps_ret (pe_and (pe_callB (call_isK N) rfl mi PyProof.Rows.boot_isinstance (pa_cons (pv 0) (pa_cons (pe_ty rfl m1 PyProof.Rows.boot_int) pa_nil)))
    (pe_one (pe_not (pe_callB (call_isK N) rfl mi PyProof.Rows.boot_isinstance (pa_cons (pv 0) (pa_cons (pe_ty rfl m2 PyProof.Rows.boot_bool) pa_nil))))))), ?_⟩
  rcases th with ⟨i, rfl⟩ | ⟨n, t, b1, b2, kd, k1, k2, z⟩
  · exact ⟨_, rfl, _, _, _, _, rfl, .inl (.int i), k_ii, _, rfl, ⟨_, rfl, _, _, _, _, rfl, .inl (.int i), k_ib, _, rfl, q⟩⟩
  · rw [numB_no n] at q
    refine ⟨_, rfl, _, _, _, _, rfl, kd, k1, _, rfl, ?_⟩
    cases b1 with
    | false => exact itF q
    | true =>
      refine itT ⟨_, rfl, _, _, _, _, rfl, kd, k2, _, rfl, ?_⟩
      have e : (!b2) = false := z
      rw [e]
      exact q
abbrev sIsWh : Stmt := top 11
def spIsWh (K : Frag) : Sp := fun vs H Q _ => ∃ x lo hi, vs = [x, .int lo, .int hi] ∧ Th K H x ∧ Q (.bl (inB lo hi x)) H
theorem scIW : FnScope ["thing", "low", "high"] ["thing", "low", "high"] (defScope sIsWh) := ⟨rfl, rfl, rfl, by decide +kernel, rfl, by decide +kernel, by decide +kernel⟩
theorem ok_iswh {f g : Addr} {fd gd : FuncData} (F : Fun K "is_whole" "is_whole" sIsWh f fd) (G : FnOk P w K mg base CX0 1 g gd ["thing"] (spIsNum K)) (bG : Binds K gd ["thing"] []) (kG : keepIn K (.ref g) = true) (mG : mg "is_number" = some (.ref g)) :
    FnOk P w K mg base CX0 2 f fd ["thing", "low", "high"] (spIsWh K) := by
  refine F.ok scIW (fun vs H Q E h => ?_) (fun cdv A outer s H vs Q E hr h => ?_)
  · obtain ⟨c, lo, hi, rfl, _⟩ := h
    rfl
  obtain ⟨x, lo, hi, rfl, th, q⟩ := h
  refine ⟨_, pss_one (ps_ret (pe_and (pe_call G hr rfl mG kG bG .nil pass0 (pa_cons (pv 0) pa_nil)) (pe_and (pe_cmpR op_le (pv 1) (pv 0) (nomark _)) (pe_one (pe_cmpR op_le (pv 0) (pv 2) (nomark _)))))), ?_⟩
  refine ⟨_, rfl, x, rfl, th, _, rfl, ?_⟩
  rcases th with ⟨i, rfl⟩ | ⟨n, _⟩
  · refine itT ⟨_, rfl, _, rfl, _, _, rfl, rfl, _, rfl, ?_⟩
    refine ite2 (fun c => ?_) (fun c => ?_)
    · refine ⟨_, rfl, _, rfl, _, _, rfl, rfl, ?_⟩
      have q' : Q (.bl (decide (lo ≤ i) && decide (i ≤ hi))) H := q
      rw [decide_eq_true (of_decide_eq_true c), Bool.true_and] at q'
      exact q'
    · have q' : Q (.bl (decide (lo ≤ i) && decide (i ≤ hi))) H := q
      rw [decide_eq_false (fun z => c (decide_eq_true z)), Bool.false_and] at q'
      exact q'
  · rw [numB_no n]
    rw [inB_no n] at q
    exact itF q
abbrev sGcd : Stmt := top 16
def spGcd : Sp := fun vs H Q _ => ∃ a b : Nat, vs = [.int a, .int b] ∧ Q (.int (Nat.gcd a b)) H
theorem scG : FnScope ["one", "other"] ["one", "other"] (defScope sGcd) := ⟨rfl, rfl, rfl, by decide +kernel, rfl, by decide +kernel, by decide +kernel⟩
def secN : St → Nat
  | [_, some (.int b)] => b.toNat
  | _ => 0
theorem ok_gcd {f : Addr} {fd : FuncData} (F : Fun K "greatest_common" "greatest_common" sGcd f fd) : FnOk P w K mg base CX0 1 f fd ["one", "other"] spGcd := by
  refine F.ok scG (fun vs H Q E h => ?_) (fun cdv A outer s H vs Q E hr h => ?_)
  · obtain ⟨c, lo, rfl, _⟩ := h
    rfl
  obtain ⟨a, b, rfl, q⟩ := h
  have nd := scG.nd
  refine ⟨_, pss_cons (ps_while PassesOwn.never (pt_cmpR op_gt (pv 1) pe_int (nomark _)) (pss_one (ps_par (i := 0) (j := 1) rfl nd rfl rfl (by decide) rfl rfl (pa_cons (pv 1) (pa_cons (pe_op op_mod (pv 0) (pv 1)) pa_nil)) rfl))) (pss_one (ps_ret (pv 0))), ?_⟩
  refine while_by (fun σ H' => H' = H ∧ ∃ x y : Nat, σ = [some (.int x), some (.int y)] ∧ Nat.gcd x y = Nat.gcd a b) (fun σ _ => secN σ) ⟨rfl, a, b, rfl, rfl⟩ ?_ ?_
  · rintro σ H' ⟨rfl, x, y, rfl, e⟩
    refine ⟨_, rfl, _, _, rfl, rfl, _, rfl, ?_⟩
    refine ite2 (fun c => ?_) (fun c => ?_)
    · have c' : (0 : Int) < (y : Int) := of_decide_eq_true c
      refine ⟨_, rfl, _, rfl, _, rfl, _, _, rfl, rfl, c', _, _, rfl, ⟨rfl, y, x % y, ?_, ?_⟩, ?_⟩
      · show [some (V.int y), some (V.int ((x : Int) % (y : Int)))] = _
        rw [show ((x : Int) % (y : Int)) = ((x % y : Nat) : Int) from by simp]
      · rw [← e, Nat.gcd_comm x y, Nat.gcd_rec y x, Nat.gcd_comm]
      · show ((x : Int) % (y : Int)).toNat < (y : Int).toNat
        have := Int.emod_lt_of_pos (x : Int) c'
        omega
    · have c' : ¬ (0 : Int) < (y : Int) := fun z => c (decide_eq_true z)
      have y0 : y = 0 := by omega
      subst y0
      rw [Nat.gcd_zero_right] at e
      refine ⟨_, rfl, ?_⟩
      rw [e]
      exact q
  · rintro σ H Q Q' m ⟨x, e, i, j, h1, h2, b, hb, q⟩
    exact ⟨x, e, i, j, h1, h2, b, hb, m _ _ q⟩
abbrev sPart : Stmt := top 17
def spPart (K : Frag) : Sp := fun vs H Q _ => ∃ x y, vs = [x, y] ∧ Th K H x ∧ Th K H y ∧ Q (.bl (partV x y)) H
theorem scPt : FnScope ["top", "bottom"] ["top", "bottom"] (defScope sPart) := ⟨rfl, rfl, rfl, by decide +kernel, rfl, by decide +kernel, by decide +kernel⟩
theorem ok_part {f g k : Addr} {fd gd kd : FuncData} (F : Fun K "is_part" "is_part" sPart f fd) (G : FnOk P w K mg base CX0 1 g gd ["thing"] (spIsNum K)) (bG : Binds K gd ["thing"] []) (kG : keepIn K (.ref g) = true) (mG : mg "is_number" = some (.ref g))
    (W : FnOk P w K mg base CX0 2 k kd ["thing", "low", "high"] (spIsWh K)) (bW : Binds K kd ["thing", "low", "high"] []) (kW : keepIn K (.ref k) = true) (mW : mg "is_whole" = some (.ref k)) : FnOk P w K mg base CX0 3 f fd ["top", "bottom"] (spPart K) := by
  refine F.ok scPt (fun vs H Q E h => ?_) (fun cdv A outer s H vs Q E hr h => ?_)
  · obtain ⟨x, y, rfl, _⟩ := h
    rfl
  obtain ⟨x, y, rfl, tx, ty, q⟩ := h
  have hr1 := hr.mono (show 1 ≤ 2 by decide)
  refine ⟨_, pss_one (ps_ret (pe_and (pe_call G hr1 rfl mG kG bG .nil pass0 (pa_cons (pv 1) pa_nil)) (pe_and (pe_cmpR op_ge (pv 1) pe_int (nomark _)) (pe_one (pe_call W hr rfl mW kW bW .nil pass0 (pa_cons (pv 0) (pa_cons pe_int (pa_cons (pv 1) pa_nil)))))))), ?_⟩
  refine ⟨_, rfl, y, rfl, ty, _, rfl, ?_⟩
  rcases ty with ⟨j, rfl⟩ | ⟨n, _⟩
  · refine itT ⟨_, rfl, _, _, rfl, rfl, _, rfl, ?_⟩
    have q' : Q (.bl (decide (1 ≤ j) && inB 0 j x)) H := q
    refine ite2 (fun c => ?_) (fun c => ?_)
    · rw [decide_eq_true (of_decide_eq_true c), Bool.true_and] at q'
      exact ⟨_, rfl, _, rfl, x, 0, j, rfl, tx, q'⟩
    · rw [decide_eq_false (fun z => c (decide_eq_true z)), Bool.false_and] at q'
      exact q'
  · rw [numB_no n]
    rw [partV_no n] at q
    exact itF q
abbrev sISh : Stmt := top 19
def spISh : Sp := fun vs H Q _ => ∃ x d, vs = [x] ∧ Rds H x d ∧ Q (.bl (shareD d)) H
theorem scISh : FnScope ["thing", "top", "bottom"] ["thing"] (defScope sISh) := ⟨rfl, rfl, rfl, by decide +kernel, rfl, by decide +kernel, by decide +kernel⟩
theorem shareD_two {d1 d2 : PyData} {H : Hp} {u v : V} (r1 : Rds H u d1) (r2 : Rds H v d2) : partV u v = false → shareD (.tuple [d1, d2]) = false := by
  intro h
  cases r1 with
  | int i =>
    cases r2 with
    | int j =>
      have h' : (decide (1 ≤ j) && (decide (0 ≤ i) && decide (i ≤ j))) = false := h
      show ((decide (1 ≤ j) && (decide (0 ≤ i) && decide (i ≤ j))) && _) = false
      rw [h']
      rfl
    | _ => rfl
  | _ => cases r2 <;> rfl
theorem part_nat {x y : V} (h : partV x y = true) : ∃ a b : Nat, x = .int a ∧ y = .int b ∧ 1 ≤ b ∧ a ≤ b := by
  cases y with
  | int j =>
    have h' : (decide (1 ≤ j) && inB 0 j x) = true := h
    rw [Bool.and_eq_true, decide_eq_true_iff] at h'
    obtain ⟨h1, h2⟩ := h'
    cases x with
    | int i =>
      have h3 : (decide (0 ≤ i) && decide (i ≤ j)) = true := h2
      rw [Bool.and_eq_true, decide_eq_true_iff, decide_eq_true_iff] at h3
      refine ⟨i.toNat, j.toNat, ?_, ?_, by omega, by omega⟩
      · congr 1; omega
      · congr 1; omega
    | _ => cases h2
  | _ => cases h
theorem ok_ish {f a1 a2 : Addr} {fd d1 d2 : FuncData} (N : IsT K) (F : Fun K "is_share" "is_share" sISh f fd) (A1 : Df P w K mg base CX0 3 "is_part" ["top", "bottom"] (spPart K) a1 d1) (A2 : Df P w K mg base CX0 1 "greatest_common" ["one", "other"] spGcd a2 d2)
    (mi : mg "isinstance" = none) (mt : mg "tuple" = none) (ml : mg "len" = none) : FnOk P w K mg base CX0 4 f fd ["thing"] spISh := by
  refine F.ok scISh (fun vs H Q E h => ?_) (fun cdv A outer s H vs Q E hr h => ?_)
  · obtain ⟨v, d, rfl, _⟩ := h
    rfl
  obtain ⟨v, d, rfl, rd, q⟩ := h
  have nd := scISh.nd
  have hr1 : Room 1 _ := hr.mono (by decide)
  refine ⟨_, pss_cons (ps_if (PW.pt (pw_or (pt_not (pt_val (pe_callB (call_isK N) rfl mi PyProof.Rows.boot_isinstance (pa_cons (pv 0) (pa_cons (pe_ty rfl mt PyProof.Rows.boot_tuple) pa_nil))))) (pw_or1 (pt_cmpR op_ne (pe_callB call_len_seq rfl ml PySem.boot_len (pa_cons (pv 0) pa_nil)) pe_int (nomark _))))) (pss_one (ps_ret pe_bl)) pss_nil)
    (pss_cons (ps_asg (pv 0) (pg_tup rfl (pgs_cons (pg_name (i := 1) nd rfl (Or.inl rfl)) (pgs_cons (pg_name (i := 2) nd rfl (Or.inl rfl)) pgs_nil))))
    (pss_one (ps_ret (pe_and (pe_call A1.G hr rfl A1.m A1.kp A1.b .nil pass0 (pa_cons (pv 1) (pa_cons (pv 2) pa_nil))) (pe_one (pe_cmpR op_eq (pe_call A2.G hr1 rfl A2.m A2.kp A2.b .nil pass0 (pa_cons (pv 1) (pa_cons (pv 2) pa_nil))) pe_int (nomark _))))))), ?_⟩
  refine ⟨_, rfl, _, _, _, _, rfl, rd.kd, rd.isT, _, rfl, ?_⟩
  cases e : tupB d with
  | false =>
    refine itT (itT ?_)
    have z : shareD d = false := by cases d <;> first | rfl | cases e
    rw [z] at q
    exact q
  | true =>
    obtain ⟨ds, rfl⟩ : ∃ ds, d = .tuple ds := by cases d <;> first | exact ⟨_, rfl⟩ | cases e
    obtain ⟨a, xs, rfl, ha, rs⟩ := rds_tup rd
    refine itF ⟨_, rfl, a, _, rfl, .inr (SqT.of ha), rfl, _, rfl, ?_⟩
    have len := rs.length
    by_cases l2 : xs.length = 2
    · obtain ⟨u, v, rfl⟩ : ∃ u v, xs = [u, v] := by
        match xs, l2 with
        | [u, v], _ => exact ⟨u, v, rfl⟩
      cases rs with
      | cons r1 rs =>
        cases rs with
        | cons r2 rs =>
          cases rs
          refine itF ⟨_, rfl, a, _, rfl, SqT.of ha, rfl, _, _, rfl, _, _, rfl, rfl, ?_⟩
          refine ⟨_, rfl, _, rfl, u, v, rfl, r1.th, r2.th, _, rfl, ?_⟩
          cases pv : partV u v with
          | false =>
            rw [shareD_two r1 r2 pv] at q
            exact itF q
          | true =>
            obtain ⟨x, y, rfl, rfl, y1, xy⟩ := part_nat pv
            cases r1
            cases r2
            refine itT ⟨_, rfl, _, rfl, x, y, rfl, rfl, ?_⟩
            have q' : Q (.bl ((decide ((1 : Int) ≤ (y : Int)) && (decide ((0 : Int) ≤ (x : Int)) && decide ((x : Int) ≤ (y : Int)))) && decide (Nat.gcd (x : Int).toNat (y : Int).toNat = 1))) H := q
            rw [decide_eq_true (show (1 : Int) ≤ (y : Int) by omega), decide_eq_true (show (0 : Int) ≤ (x : Int) by omega), decide_eq_true (show (x : Int) ≤ (y : Int) by omega), Int.toNat_natCast, Int.toNat_natCast, Bool.and_self, Bool.and_self, Bool.true_and] at q'
            have ee : decide (V.int ((Nat.gcd x y : Nat) : Int) = V.int 1) = decide (Nat.gcd x y = 1) := by
              by_cases g : Nat.gcd x y = 1
              · rw [decide_eq_true g, g]; rfl
              · rw [decide_eq_false g, decide_eq_false]
                intro z
                injection z with z
                omega
            rw [ee]
            exact q'
    · have e1 : (!decide (V.int (xs.length : Nat) = V.int 2)) = true := by
        rw [decide_eq_false]
        · rfl
        · intro h
          injection h with h
          omega
      rw [e1]
      refine itT ?_
      have z : shareD (.tuple ds) = false := by
        match ds, len, l2 with
        | [], _, _ => rfl
        | [_], _, _ => simp [shareD]
        | [_, _], l, n => exact absurd l n
        | _ :: _ :: _ :: _, _, _ => simp [shareD]
      rw [z] at q
      exact q
abbrev sNN : Stmt := top 31
def spNN (CN : Addr) : Sp := fun vs H Q E => ∃ x d lo hi, vs = [x, .int lo, .int hi] ∧ Rds H x d ∧ (inD lo hi d = true → Q .non H) ∧ (inD lo hi d = false → ErrF CN "found" x H E)
theorem scNN : FnScope ["thing", "low", "high"] ["thing", "low", "high"] (defScope sNN) := ⟨rfl, rfl, rfl, by decide +kernel, rfl, by decide +kernel, by decide +kernel⟩
theorem ok_nn {f a1 D CN fC : Addr} {fd d1 fdC : FuncData} (F : Fun K "need_number" "need_number" sNN f fd) (B : BaseC K D) (T : OneF K mg D "NoNumber" "found" CN fC fdC) (A1 : Df P w K mg base CX0 2 "is_whole" ["thing", "low", "high"] (spIsWh K) a1 d1) : FnOk P w K mg base (CXE P w) 3 f fd ["thing", "low", "high"] (spNN CN) := by
  refine okE F scNN (fun vs H Q E h => ?_) (fun cdv A outer s H vs Q E hr h => ?_)
  · obtain ⟨_, _, _, _, rfl, _⟩ := h
    rfl
  obtain ⟨x, d, lo, hi, rfl, rd, q1, q2⟩ := h
  refine ⟨_, pss_one (ps_if (pt_not (pt_val (pe_call A1.G hr rfl A1.m A1.kp A1.b .nil pass0 (pa_cons (pv 0) (pa_cons (pv 1) (pa_cons (pv 2) pa_nil)))))) (pss_one (ps_raise B T.cls (T.ok P w base) hr T.bi rfl T.mgC (pv 0))) pss_nil), ?_⟩
  refine ⟨_, rfl, _, rfl, _, rfl, x, lo, hi, rfl, rd.th, _, rfl, ?_⟩
  rw [rd.inB]
  cases e : inD lo hi d with
  | true => exact itF (q1 e)
  | false => exact itT ⟨_, rfl, fun e' dx h1 h2 nd => qR_of nd (q2 e e' dx h1 h2 nd)⟩
abbrev sNC : Stmt := top 32
def spNC (CS : Addr) : Sp := fun vs H Q E => ∃ x d, vs = [x] ∧ Rds H x d ∧ (coinD d = true → Q .non H) ∧ (coinD d = false → ErrF CS "found" x H E)
theorem scNC : FnScope ["thing"] ["thing"] (defScope sNC) := ⟨rfl, rfl, rfl, by decide +kernel, rfl, by decide +kernel, by decide +kernel⟩
theorem share_shape {d : PyData} (h : shareD d = true) : ∃ a b, d = .tuple [.int a, .int b] := by
  match d, h with
  | .tuple [.int a, .int b], _ => exact ⟨a, b, rfl⟩
theorem ok_nc {f a1 a2 D CS fC : Addr} {fd d1 d2 fdC : FuncData} {t : Tok} (F : Fun K "need_coin" "need_coin" sNC f fd) (B : BaseC K D) (T : OneF K mg D "NoShare" "found" CS fC fdC) (A1 : Df P w K mg base CX0 2 "is_whole" ["thing", "low", "high"] (spIsWh K) a1 d1) (A2 : Df P w K mg base CX0 4 "is_share" ["thing"] spISh a2 d2) (mB : mg "MOST_BOTTOM" = some (.int 100 t)) :
    FnOk P w K mg base (CXE P w) 5 f fd ["thing"] (spNC CS) := by
  refine okE F scNC (fun vs H Q E h => ?_) (fun cdv A outer s H vs Q E hr h => ?_)
  · obtain ⟨_, _, rfl, _⟩ := h
    rfl
  obtain ⟨x, d, rfl, rd, q1, q2⟩ := h
  have hr2 : Room 2 _ := hr.mono (by decide)
  refine ⟨_, pss_one (ps_if (PW.pt (pw_or (pt_not (pt_val (pe_call A2.G hr rfl A2.m A2.kp A2.b .nil pass0 (pa_cons (pv 0) pa_nil)))) (pw_or1 (pt_not (pt_val (pe_call A1.G hr2 rfl A1.m A1.kp A1.b .nil pass0 (pa_cons (pe_ix ix_tup (pv 0) pe_int (fun _ _ => rfl)) (pa_cons pe_int (pa_cons (pe_glob (v := .int 100) rfl mB ⟨_, rfl⟩) pa_nil)))))))))
    (pss_one (ps_raise B T.cls (T.ok P w base) hr2 T.bi rfl T.mgC (pv 0))) pss_nil), ?_⟩
  refine ⟨_, rfl, x, d, rfl, rd, _, rfl, ?_⟩
  cases e : shareD d with
  | false =>
    have z : coinD d = false := by
      match d, e with
      | .tuple [.int a, .int b], e => show (shareD (.tuple [.int a, .int b]) && _) = false; rw [e]; rfl
      | .none, _ | .bool _, _ | .int _, _ | .str _, _ | .list _, _ | .dict _, _ => rfl
      | .tuple [], _ => rfl
      | .tuple [_], _ => simp [coinD]
      | .tuple (_ :: _ :: _ :: _), _ => simp [coinD]
      | .tuple [.int _, .none], _ | .tuple [.int _, .bool _], _ | .tuple [.int _, .str _], _ | .tuple [.int _, .list _], _ | .tuple [.int _, .tuple _], _ | .tuple [.int _, .dict _], _ => rfl
      | .tuple [.none, _], _ | .tuple [.bool _, _], _ | .tuple [.str _, _], _ | .tuple [.list _, _], _ | .tuple [.tuple _, _], _ | .tuple [.dict _, _], _ => rfl
    exact itT (itT ⟨_, rfl, fun e' dx h1 h2 nd => qR_of nd (q2 z e' dx h1 h2 nd)⟩)
  | true =>
    obtain ⟨a, b, rfl⟩ := share_shape e
    obtain ⟨p, xs, rfl, hp, rs⟩ := rds_tup rd
    cases rs with
    | cons r1 rs =>
      cases rs with
      | cons r2 rs =>
        cases rs
        cases r1
        cases r2
        refine itF ⟨_, rfl, p, _, _, _, rfl, rfl, SqT.of hp, atI_nat (j := 1) rfl, _, 2, 100, rfl, .inl ⟨b, rfl⟩, _, rfl, ?_⟩
        have ec : coinD (.tuple [.int a, .int b]) = inB 2 100 (.int b) := by
          show (shareD (.tuple [.int a, .int b]) && (decide (2 ≤ b) && decide (b ≤ 100))) = _
          rw [e, Bool.true_and]
          rfl
        cases z : inB 2 100 (.int b) with
        | true => exact itF (q1 (by rw [ec, z]))
        | false => exact itT ⟨_, rfl, fun e' dx h1 h2 nd => qR_of nd (q2 (by rw [ec, z]) e' dx h1 h2 nd)⟩
abbrev sOP : Stmt := top 33
def spOP : Sp := fun vs H Q _ => ∃ i : Int, vs = [.int i] ∧ 0 ≤ i ∧ i ≤ 20 ∧ ∀ l H', Ext H H' → Rds H' (.ref l) (partsD [upI 0 i.toNat]) → Q (.ref l) H'
theorem scOP : FnScope ["folk"] ["folk"] (defScope sOP) := ⟨rfl, rfl, rfl, by decide +kernel, rfl, by decide +kernel, by decide +kernel⟩
theorem ok_op {f : Addr} {fd : FuncData} (F : Fun K "one_part" "one_part" sOP f fd) (mt : mg "tuple" = none) (mr : mg "range" = none) : FnOk P w K mg base CX0 1 f fd ["folk"] spOP := by
  refine F.ok scOP (fun vs H Q E h => ?_) (fun cdv A outer s H vs Q E hr h => ?_)
  · obtain ⟨_, rfl, _⟩ := h
    rfl
  obtain ⟨i, rfl, h1, h2, q⟩ := h
  refine ⟨_, pss_one (ps_ret (pe_tup (pa_cons (pe_callTy (call_tupR rfl) rfl mt PyProof.Rows.boot_tuple (pa_cons (pe_callTy call_rng1 rfl mr PyProof.Rows.boot_range (pa_cons (pv 0) pa_nil)) pa_nil)) pa_nil))), ?_⟩
  refine ⟨_, rfl, i, rfl, fun r hr => ⟨r, 0, i, rfl, upd_same, ⟨by omega, by omega, by omega, by omega⟩, by omega, fun l hl => ⟨by show 1 ≤ sizeLine; decide, fun m hm => ?_⟩⟩⟩
  have x2 := Ext.new (o := .tup [.ref l]) hm
  refine q m _ (((Ext.new hr).trans (Ext.new hl)).trans x2) (.tup upd_same (.cons (.tup (x2 _ _ upd_same) ?_) .nil))
  rw [Int.sub_zero, upL_eq]
  exact rds_intsD _ _
end
end My
set_option Elab.async false
set_option linter.all false
set_option maxRecDepth 100000
set_option maxHeartbeats 1000000
namespace My
open PySem PySem.W L2
structure FD (K : Frag) (P : Params) (a : Addr) : Prop where
  ex : ∃ es n, K.lookup a = some ⟨.type "dict", none, .dict es n, #[]⟩ ∧ KeysLit P es.toList
  lo : (a == sysModules) = false
def rFD (K : Frag) (P : Params) : R2 := fun x y H Q => ∃ a z g, x = .ref a ∧ y = .str z ∧ FD K P a ∧ nsIn K a z = some (some (.ref g)) ∧ Q (.ref g) H
def rNotFD (K : Frag) (P : Params) : R2 := fun x y H Q => ∃ a z r, x = .str z ∧ y = .ref a ∧ FD K P a ∧ nsIn K a z = some r ∧ Q (.bl (!r.isSome)) H
section
variable {X : Cx}
theorem ix_fd : IxR X (rFD X.K X.w.params) := by
  intro value slice pins s σ H x y v u Q I rx ry h hs
  obtain ⟨a, z, g, rfl, rfl, F, e, q⟩ := h
  cases rx
  obtain ⟨t, rfl⟩ := ry
  obtain ⟨es, n, hl, hk⟩ := F.ex
  have hm := mapOf_K (prog := X.prog) (w := X.w) I.kIn hl hk
  exact PyProof.Rows.tail_any hm.typeIs PySem.F.slot_dict_getitem.lookup (wpAny_getItem_of (strKind_is X.prog X.w z t) hm (find_K hl e) ⟨.ref g, H, I.tok _, rfl, q⟩) hs
theorem op_notFD : OpR X (compareOp .NotIn) (rNotFD X.K X.w.params) := by
  intro pins s σ H x y v u Q I rx ry h
  obtain ⟨a, z, r, rfl, rfl, F, e, q⟩ := h
  cases ry
  obtain ⟨t, rfl⟩ := rx
  obtain ⟨es, n, hl, hk⟩ := F.ex
  have hm := mapOf_K (prog := X.prog) (w := X.w) I.kIn hl hk
  exact wpAny_notIn_of (strKind_is X.prog X.w z t) F.lo hm (by rw [find_K hl e]; exact ⟨.bl _, H, I.tok _, rfl, q⟩)
end
def FnS (P : Program) (w : World) (K : Frag) (mg : Str → Option Value) (base : Heap) (CX : CXT) (k : Nat) (ps : List Str) (W : Nat → Addr) (S : Nat → Prop) (sp : Nat → Sp) : Prop :=
  ∀ i, S i → keepIn K (.ref (W i)) = true ∧ ∃ fd, FnOk P w K mg base CX k (W i) fd ps (sp i) ∧ Binds K fd ps []
def tCallV (W : Nat → Addr) (S : Nat → Prop) (sp : Nat → Sp) (E : XK) (ta : TE) (t : TA) : TE := fun σ H Q => ta σ H fun x H1 => ∃ i, x = .ref (W i) ∧ S i ∧ t σ H1 fun vs H2 => sp i vs H2 Q E
section
variable {X : Cx} {CX : CXT} {k : Nat} {W : Nat → Addr} {S : Nat → Prop} {ps : List Str} {sp : Nat → Sp} {E : XK} {x : Str} {p pos : Pos} {e : Expr} {es : List Expr} {ta : TE} {t : TA} {σ : St}
theorem pe_callV (hv : PE X (.Name x p) ta) (M : FnS X.prog X.w X.K X.mg X.base CX k ps W S sp) (hr : Room k X.A) (hx : Passes CX X E) (ha : PA X (e :: es) t)
    (he : starEach (e :: es) X.env = (false, eval e X.env) :: starEach es X.env := by rfl) (hpl : (backTo pos (starEach es X.env)).any (·.1) = false := by rfl) : PE X (.Call (.Name x p) (e :: es) [] pos) (tCallV W S sp E ta t) := by
  intro pins s σ H Q I h
  refine wpAny_Call_Name_kw (thn (hv pins s σ H _ I h) fun u s1 ⟨x, H1, I1, rx, i, ex, hS, q⟩ => ?_)
  subst ex
  obtain rfl : u = Value.ref (W i) := rx
  obtain ⟨kp, fd, F, hb⟩ := M i hS
  refine PySem.W.callWith_K (h₀ := X.base) I.ok.mod.kin kp (thn (ha pos pins s1 σ H1 _ I1 q) fun us s2 ⟨vs, H2, I2, r, q2⟩ => ⟨I2.kIn, ?_⟩) he hpl
  exact run_fn (dvs := []) F hr hb .nil hx I2 r (by rw [List.append_nil]; exact q2)
end
theorem ps_tryQ {X : Cx} {st : Stmt} {t : TS} {h₀ : ExceptHandler} {hs : List ExceptHandler} {pos : Pos} (hb : PS X.nox st t) : PS X (.Try [st] (h₀ :: hs) [] [] pos) t := by
  intro pins s σ H D I h
  refine wpAny_Try_except ?_
  refine wpAny_execs_cons (wpAny_mono (hb pins s σ H D (I.wish _) h) (fun f s1 q => ?_) (fun _ _ z => False.elim z))
  cases f with
  | next => exact wpAny_execs_nil (wpAny_execs_nil q.unwish)
  | ret v => exact q.unwish
  | brk => exact q.unwish
  | cont => exact q.unwish
theorem strs_of : ∀ {ts : List Str} {its : List Value}, Vals (ts.map V.str) its → ∃ l : List (Str × Tok), its = strValues l ∧ l.map (·.1) = ts
  | [], _, h => by cases h; exact ⟨[], rfl, rfl⟩
  | z :: ts, _, h => by
    cases h with
    | cons r t =>
      obtain ⟨k, rfl⟩ := r
      obtain ⟨l, rfl, e⟩ := strs_of t
      exact ⟨(z, k) :: l, rfl, by rw [List.map_cons, e]⟩
def rJoin (K : Frag) : V → List V → Hp → VK → Prop := fun x xs H Q => ∃ z l ts, x = .str z ∧ xs = [.ref l] ∧ SqL K H l (ts.map V.str) ∧ JoinOk z ts = true ∧ Q (.str (Txt.join z ts)) H
theorem mt_join {X : Cx} : MtR X "str.join" (rJoin X.K) := by
  intro pins s σ H x xs v us Q I rx rs h
  obtain ⟨z, l, ts, rfl, rfl, hl, ok, q⟩ := h
  obtain ⟨t, rfl⟩ := rx
  obtain ⟨u, rfl, ru⟩ := vals1 rs
  cases (show u = Value.ref l from ru)
  obtain ⟨its, r, pl, _⟩ := I.list hl
  obtain ⟨ps, rfl, e⟩ := strs_of r
  exact SC.join pl.isList e ok fun t' k => ⟨.str _, H, I.tok _, ⟨_, rfl⟩, q⟩
def tFieldS (te : TE) : TE := fun σ H Q => te σ H fun x H1 => ∃ z, x = .str z ∧ z.length ≤ sizeLine ∧ Q (.str z) H1
def tFieldN (te : TE) : TE := fun σ H Q => te σ H fun x H1 => ∃ i, x = .int i ∧ i.natAbs.log2 < 1920 ∧ Q (.str (toString i)) H1
abbrev TJ := Str → St → Hp → (Str → Hp → Prop) → Prop
def PJ (X : Cx) (es : List Expr) (tj : TJ) : Prop := ∀ (acc : Str) (pins : List (Addr × Obj)) (s : Shared) (σ : St) (H : Hp) (Q : Str → Hp → Prop), Inv X pins σ H s → tj acc σ H Q →
  Joins (model X.prog X.w) X.A X.xe (evalEach es X.env) acc (fun out s1 => out.length ≤ sizeLine ∧ ∃ H1, Inv X pins σ H1 s1 ∧ Q out H1) s
def jNil : TJ := fun acc σ H Q => acc.length ≤ sizeLine ∧ Q acc H
def jCons (te : TE) (tj : TJ) : TJ := fun acc σ H Q => te σ H fun x H1 => ∃ y, x = .str y ∧ (acc ++ y).length ≤ sizeLine ∧ tj (acc ++ y) σ H1 Q
def tJoinN (tj : TJ) : TE := fun σ H Q => tj Str.empty σ H fun z H1 => Q (.str z) H1
theorem joins_mono {M : Model} {A : Around} {E : Value → Shared → Prop} {Q R : Str → Shared → Prop} (h : ∀ z s, Q z s → R z s) : ∀ (l : List (Sem Value)) (acc : Str) (s : Shared), Joins M A E l acc Q s → Joins M A E l acc R s
  | [], _, _, q => h _ _ q
  | _ :: l, _, _, q => wpAny_mono q (fun v s1 ⟨y, t, e, z, r⟩ => ⟨y, t, e, z, joins_mono h l _ _ r⟩) fun _ _ e => e
section
variable {X : Cx} {e a b : Expr} {es : List Expr} {te : TE} {tj : TJ} {pos : Pos}
theorem pe_fieldS (he : PE X e te) : PE X (.FormattedValue e (-1) none pos) (tFieldS te) := by
  intro pins s σ H Q I h
  refine wpAny_FormattedValue_plain (thn (he pins s σ H _ I h) fun v s1 ⟨x, H1, I1, r1, z, e1, hz, q⟩ => ?_)
  subst e1
  obtain ⟨t, rfl⟩ := r1
  exact PyProof.Rows.formatField_str (fun _ _ => ⟨.str _, H1, I1.tok _, ⟨_, rfl⟩, q⟩) hz
theorem pe_fieldN (he : PE X e te) : PE X (.FormattedValue e (-1) none pos) (tFieldN te) := by
  intro pins s σ H Q I h
  refine wpAny_FormattedValue_plain (thn (he pins s σ H _ I h) fun v s1 ⟨x, H1, I1, r1, i, e1, hz, q⟩ => ?_)
  subst e1
  obtain ⟨t, rfl⟩ := r1
  exact PyProof.Rows.formatField_int_small hz ⟨.str _, H1, I1.tok _, ⟨_, rfl⟩, q⟩
theorem pj_nil : PJ X [] jNil := fun acc pins s σ H Q I ⟨z, q⟩ => ⟨z, H, I, q⟩
theorem pj_cons (he : PE X e te) (hr : PJ X es tj) : PJ X (e :: es) (jCons te tj) := by
  intro acc pins s σ H Q I h
  refine thn (he pins s σ H _ I h) fun v s1 ⟨x, H1, I1, r1, y, e1, hz, q⟩ => ?_
  subst e1
  obtain ⟨t, rfl⟩ := r1
  exact ⟨y, t, rfl, hz, hr (acc ++ y) pins s1 σ H1 Q I1 q⟩
theorem pe_joinN (h : PJ X (a :: b :: es) tj) : PE X (.JoinedStr (a :: b :: es) pos) (tJoinN tj) := by
  intro pins s σ H Q I hw
  exact wpAny_JoinedStr (joins_mono (fun z s1 ⟨hz, H1, I1, q⟩ => ⟨hz, .str z, H1, I1.tok _, ⟨_, rfl⟩, q⟩) _ _ _ (h Str.empty pins s σ H _ I hw))
end
theorem cs_join1 (c : Nat) (p q : Str) (r : List Str) : cs (Str.join ⟨#[c]⟩ (p :: q :: r)) = cs p ++ c :: cs (Str.join ⟨#[c]⟩ (q :: r)) := by
  have e : Str.join ⟨#[c]⟩ (p :: q :: r) = p ++ ⟨#[c]⟩ ++ Str.join ⟨#[c]⟩ (q :: r) := rfl
  rw [e, cs_app, cs_app]
  show cs p ++ [c] ++ _ = _
  simp
theorem cut_first {c : Nat} : ∀ {A B R S : List Nat}, c ∉ A → c ∉ B → A ++ c :: R = B ++ c :: S → A = B ∧ R = S
  | [], [], _, _, _, _, h => by cases h; exact ⟨rfl, rfl⟩
  | [], b :: B, _, _, _, hb, h => by
    injection h with h1 h2
    exact absurd (by rw [h1]; exact List.mem_cons_self ..) hb
  | a :: A, [], _, _, ha, _, h => by
    injection h with h1 h2
    exact absurd (by rw [h1]; exact List.mem_cons_self ..) ha
  | a :: A, b :: B, _, _, ha, hb, h => by
    injection h with h1 h2
    subst h1
    obtain ⟨e1, e2⟩ := cut_first (fun z => ha (List.mem_cons_of_mem _ z)) (fun z => hb (List.mem_cons_of_mem _ z)) h2
    exact ⟨by rw [e1], e2⟩
theorem join_inj (c : Nat) : ∀ {ps qs : List Str}, ps ≠ [] → qs ≠ [] → (∀ p ∈ ps, c ∉ cs p) → (∀ q ∈ qs, c ∉ cs q) → Str.join ⟨#[c]⟩ ps = Str.join ⟨#[c]⟩ qs → ps = qs
  | [], _, h, _, _, _, _ => absurd rfl h
  | _ :: _, [], _, h, _, _, _ => absurd rfl h
  | [p], [q], _, _, _, _, e => by
    have e' : p = q := e
    rw [e']
  | [p], q :: q' :: qs, _, _, hp, _, e => by
    have e' : cs p = _ := congrArg cs (show p = Str.join ⟨#[c]⟩ (q :: q' :: qs) from e)
    rw [cs_join1] at e'
    exact absurd (by rw [e']; simp) (hp p (List.mem_cons_self ..))
  | p :: p' :: ps, [q], _, _, _, hq, e => by
    have e' : _ = cs q := congrArg cs (show Str.join ⟨#[c]⟩ (p :: p' :: ps) = q from e)
    rw [cs_join1] at e'
    exact absurd (by rw [← e']; simp) (hq q (List.mem_cons_self ..))
  | p :: p' :: ps, q :: q' :: qs, _, _, hp, hq, e => by
    have e' := congrArg cs e
    rw [cs_join1, cs_join1] at e'
    obtain ⟨e1, e2⟩ := cut_first (hp p (List.mem_cons_self ..)) (hq q (List.mem_cons_self ..)) e'
    have ih := join_inj c (ps := p' :: ps) (qs := q' :: qs) (by simp) (by simp) (fun x hx => hp x (List.mem_cons_of_mem _ hx)) (fun x hx => hq x (List.mem_cons_of_mem _ hx)) (str_ext e2)
    rw [str_ext e1, ih]
theorem split_join {c : Nat} {ps : List Str} (h : ps ≠ []) (hp : ∀ p ∈ ps, c ∉ cs p) : Txt.split (Str.join ⟨#[c]⟩ ps) ⟨#[c]⟩ = ps := by
  have n := PyProof.Rows.split_pos (Str.join ⟨#[c]⟩ ps) ⟨#[c]⟩
  refine join_inj c (fun e => ?_) h (StrLaws.split_free _ c) hp (StrLaws.join_split _ _)
  rw [e] at n
  exact absurd n (by decide)
theorem parts_len (x y : Str) (h : x.length + 2 ≤ sizeLine) : (Builtin.Str.partsBetween x (Builtin.Str.occurrences x y 0 x.length (x.length + 1)) y.length).length ≤ sizeLine := by
  have e1 := StrLaws.occ_length_le x y 0 x.length (x.length + 1)
  rw [length_partsBetween]; omega
end My
set_option Elab.async false
set_option linter.all false
set_option maxRecDepth 100000
set_option maxHeartbeats 1000000
namespace My
open PySem PySem.W L2
abbrev FIG : Str := "0123456789"
theorem fig_at : ∀ i, i < 10 → (cs FIG)[i]? = some (48 + i) := by decide +kernel
theorem fig_find (c : Nat) : Txt.find FIG ⟨#[c]⟩ = if fig c = true then ((c - 48 : Nat) : Int) else -1 := by
  rcases PyProof.Rows.find_whole FIG ⟨#[c]⟩ with ⟨e, hn⟩ | ⟨i, e, hi, _⟩
  · rw [e, if_neg]
    intro hc
    have h := fig_iff.mp hc
    have a := fig_at (c - 48) (by omega)
    rw [show 48 + (c - 48) = c from by omega] at a
    exact hn (c - 48) ((StrLaws.subAt_one FIG c (c - 48)).mpr a)
  · have g : (cs FIG)[i]? = some c := (StrLaws.subAt_one FIG c i).mp hi
    have l : i < 10 := by
      have := (List.getElem?_eq_some_iff.mp g).1
      exact this
    rw [fig_at i l] at g
    have ec : 48 + i = c := Option.some.inj g
    rw [e, if_pos (fig_iff.mpr (by omega))]
    omega
theorem for_signs {z : Str} {g : TG} {tb : TS} {D : Ends} {σ : St} {H : Hp} (Pv : Nat → St → Hp → Prop) (h0 : Pv 0 σ H)
    (hs : ∀ i c σ H, (cs z)[i]? = some c → Pv i σ H → g (.str ⟨#[c]⟩) σ H fun σ2 H2 => tb { D with nx := Pv (i + 1), ct := Pv (i + 1), bk := D.nx } σ2 H2) (hd : ∀ σ H, Pv (cs z).length σ H → D.nx σ H) :
    ∃ W : Nat → Nat → St → Hp → Prop, (∃ m, W 0 m σ H) ∧ ∀ i m σ H, W i m σ H →
      ((Its z).stop i H ∧ D.nx σ H) ∨ ((Its z).go i H ∧ ∃ N : St → Hp → Prop, (∀ σ' H', N σ' H' → ∃ m', m' < m ∧ W (i + 1) m' σ' H') ∧ ∀ x H', (Its z).yld i H x H' → g x σ H' fun σ2 H2 => tb { D with nx := N, ct := N, bk := D.nx } σ2 H2) := by
  have hl : (cs z).length = z.cps.size := Array.length_toList
  refine ⟨fun i m σ H => m = (cs z).length - i ∧ i ≤ (cs z).length ∧ Pv i σ H, ⟨(cs z).length, by simp, Nat.zero_le _, h0⟩, ?_⟩
  rintro i m σ H ⟨rfl, hi, p⟩
  by_cases l : i < (cs z).length
  · refine .inr ⟨(by show i < z.cps.size; omega), Pv (i + 1), fun σ' H' p' => ⟨(cs z).length - (i + 1), by omega, rfl, l, p'⟩, fun x H' y => ?_⟩
    obtain ⟨rfl, c, hc, rfl⟩ := y
    exact hs i c σ _ (by rw [← hc]; exact Array.getElem?_toList) p
  · have e : i = (cs z).length := by omega
    subst e
    exact .inl ⟨(by show z.cps.size ≤ _; omega), hd σ H p⟩
theorem starts0 (z : Str) : Txt.startswith z "0" = ((cs z).head? == some 48) := by
  have h := StrLaws.subAt_one z 48 0
  have e : ("0" : Str) = ⟨#[48]⟩ := by decide +kernel
  rw [e, Bool.eq_iff_iff]
  unfold Txt.startswith
  rw [Bool.and_eq_true, decide_eq_true_iff, beq_iff_eq, List.head?_eq_getElem?]
  exact h
theorem isZero (z : Str) : decide (V.str z = V.str "0") = (cs z == [48]) := by
  rw [Bool.eq_iff_iff, decide_eq_true_iff, beq_iff_eq]
  constructor
  · intro h
    injection h with h
    rw [h]
    decide +kernel
  · intro h
    exact congrArg V.str (str_ext (h.trans (by decide +kernel)))
theorem isNil (z : Str) : decide (V.str z = V.str "") = (cs z).isEmpty := by
  rw [Bool.eq_iff_iff, decide_eq_true_iff, List.isEmpty_iff]
  constructor
  · intro h
    injection h with h
    rw [h]
    decide +kernel
  · intro h
    exact congrArg V.str (str_ext (h.trans (by decide +kernel)))
theorem take_val (L : List Nat) (i : Nat) (c : Nat) (h : L[i]? = some c) : val (L.take (i + 1)) = val (L.take i) * 10 + (c - 48) := by
  have e : L.take (i + 1) = L.take i ++ [c] := by
    rw [List.take_succ, h]
    rfl
  rw [e]
  exact NumText.digitsVal_snoc _ _
def TupK (K : Frag) (a : Addr) (xs : List V) : Prop := ∃ (o : Obj) (its : Array Value) (n : Nat), K.lookup a = some o ∧ o.cls = .type "tuple" ∧ o.data = .seq its n ∧ its.size ≤ sizeLine ∧ Vals xs its.toList
def oV : Option Nat → V
  | some n => .int n
  | none => .non
def oD : Option Nat → PyData
  | some n => .int n
  | none => .none
theorem rds_o {G : Hp} (o : Option Nat) : Rds G (oV o) (oD o) := by
  cases o with
  | none => exact .non
  | some n => exact .int _
theorem eqVs2 (a b c d : Nat) : eqVs [.int a, .int b] [.int c, .int d] = (decide (a = c) && decide (b = d)) := by
  show (((a : Int) == (c : Int)) && (((b : Int) == (d : Int)) && true)) = _
  rw [Bool.and_true, Bool.eq_iff_iff, Bool.and_eq_true, Bool.and_eq_true, beq_iff_eq, beq_iff_eq, decide_eq_true_iff, decide_eq_true_iff]
  omega
structure Two (K : Frag) (mg : Str → Option Value) (n0 n1 : Addr) : Prop where
  m0 : mg "NONE" = some (.ref n0)
  m1 : mg "ALL" = some (.ref n1)
  t0 : TupK K n0 [.int (0 : Nat), .int (1 : Nat)]
  t1 : TupK K n1 [.int (1 : Nat), .int (1 : Nat)]
theorem eqVsO (x y : Option Nat) (c d : Nat) : eqVs [oV x, oV y] [.int c, .int d] = decide (x = some c ∧ y = some d) := by
  cases x with
  | none => rw [decide_eq_false (fun h => nomatch h.1)]; rfl
  | some a =>
    cases y with
    | none =>
      rw [decide_eq_false (fun h => nomatch h.2)]
      show (((a : Int) == (c : Int)) && (false && true)) = false
      simp
    | some b =>
      rw [show eqVs [oV (some a), oV (some b)] [.int c, .int d] = eqVs [.int a, .int b] [.int c, .int d] from rfl, eqVs2]
      rw [Bool.eq_iff_iff, Bool.and_eq_true, decide_eq_true_iff, decide_eq_true_iff, decide_eq_true_iff]
      simp
theorem flatO (x : Option Nat) : flatV (oV x) = true := by cases x <;> rfl
def oN (L : List Nat) : Option Nat := if figs L = true then some (val L) else none
theorem k_ss {K : Frag} : kitOne K (.type "str") (.type "str") = some true := rfl
theorem small_log {n : Int} (h0 : -1000 ≤ n) (h1 : n ≤ 1000) : n.natAbs.log2 < 1920 := by
  by_cases z : n.natAbs = 0
  · rw [z]; decide
  · have h2 : n.natAbs ≤ 1000 := by omega
    exact (Nat.log2_lt z).mpr (Nat.lt_of_le_of_lt h2 (Nat.lt_of_lt_of_le (by decide : 1000 < 2 ^ 10) (Nat.pow_le_pow_right (by decide) (by decide))))
theorem tx_small {n : Nat} (h : n < 10000) : (tx n).length ≤ 5 := by
  have e := PySem.int_text_length_le10 (a := ((n : Nat) : Int)) (k := 4) (by decide) (by rw [Int.natAbs_natCast]; exact h)
  rw [show (tx n).length = (toString ((n : Nat) : Int)).length from ofString_length _]
  omega
end My
set_option Elab.async false
set_option linter.all false
set_option maxRecDepth 100000
set_option maxHeartbeats 1000000
set_option exponentiation.threshold 10000
namespace My
open PySem PySem.W L2
theorem okS_sh (a b : List Nat) : okS a b = (shareD (.tuple [oD (oN a), oD (oN b)]) && (!decide (oN a = some 0 ∧ oN b = some 1) && !decide (oN a = some 1 ∧ oN b = some 1))) := by
  unfold oN okS
  cases figs a with
  | false =>
    cases figs b with
    | false => simp [oD, shareD]
    | true => simp [oD, shareD]
  | true =>
    cases figs b with
    | false => simp [oD, shareD]
    | true =>
      generalize val a = t
      generalize val b = u
      simp only [if_true, Bool.and_self, Bool.true_and, Option.some.injEq]
      rw [Bool.eq_iff_iff]
      show _ ↔ (((decide ((1 : Int) ≤ (u : Nat)) && (decide ((0 : Int) ≤ (t : Nat)) && decide (((t : Nat) : Int) ≤ (u : Nat)))) && decide (Nat.gcd ((t : Nat) : Int).toNat ((u : Nat) : Int).toNat = 1)) && _) = true
      rw [Int.toNat_natCast, Int.toNat_natCast]
      simp only [Bool.and_eq_true, decide_eq_true_iff, Bool.not_eq_true', decide_eq_false_iff_not]
      constructor
      · rintro ⟨⟨⟨h1, h2⟩, h3⟩, h4⟩
        exact ⟨⟨⟨by omega, by omega, by omega⟩, h4⟩, by omega, by omega⟩
      · rintro ⟨⟨⟨h1, h0, h2⟩, h3⟩, h4, h5⟩
        rcases (show Low t u from ⟨by omega, by omega, h3⟩).cases with ⟨rfl, h⟩ | h
        · omega
        · exact ⟨⟨⟨h.1, h.2.1⟩, h.2.2.1⟩, h.2.2.2⟩
def rdD (z : Str) : PyData := match rd z with
  | none => .none
  | some (t, b) => .tuple [.int (t : Nat), .int (b : Nat)]
section
variable {P : Program} {w : World} {K : Frag} {mg : Str → Option Value} {base : Heap}
abbrev sCount : Stmt := top 12
def spCnt : Sp := fun vs H Q _ => ∃ z, vs = [.str z] ∧ Q (oV (oN (cs z))) H
theorem scCt : FnScope ["text", "number", "sign", "worth"] ["text"] (defScope sCount) := ⟨rfl, rfl, rfl, by decide +kernel, rfl, by decide +kernel, by decide +kernel⟩
theorem ok_count {f : Addr} {fd : FuncData} {tF : Tok} (F : Fun K "count_in" "count_in" sCount f fd) (mF : mg "FIGURES" = some (.str FIG tF)) : FnOk P w K mg base CX0 1 f fd ["text"] spCnt := by
  refine F.ok scCt (fun vs H Q E h => ?_) (fun cdv A outer s H vs Q E hr h => ?_)
  · obtain ⟨c, rfl, _⟩ := h
    rfl
  obtain ⟨z, rfl, q⟩ := h
  have q1 : figs (cs z) = true → Q (.int (val (cs z))) H := fun e => by
    have e2 : oN (cs z) = some (val (cs z)) := by unfold oN; rw [e]; rfl
    rw [e2] at q; exact q
  have q0 : figs (cs z) = false → Q .non H := fun e => by
    have e2 : oN (cs z) = none := by unfold oN; rw [e]; rfl
    rw [e2] at q; exact q
  have nd := scCt.nd
  refine ⟨_, pss_cons (ps_if (PW.pt (pw_or (pt_cmpR op_eq (pv 0) pe_str (nomark _)) (pw_or1 (PW.pt (pw_and (pt_val (pe_bm PySem.F.plainAttrs_str PySem.F.slot_str_startswith PySem.F.type_str_startswith mt_starts (pv 0) (pa_cons pe_str pa_nil))) (pw_and1 (pt_cmpR op_ne (pv 0) pe_str (nomark _)))))))) (pss_one (ps_ret pe_non)) pss_nil)
    (pss_cons (ps_set (i := 1) nd rfl (Or.inl rfl) pe_int)
    (pss_cons (ps_for PassesOwn.never rfl (pi_str (pv 0)) (pg_name (i := 2) nd rfl (Or.inl rfl))
      (pss_cons (ps_set (i := 3) nd rfl (Or.inl rfl) (pe_bm PySem.F.plainAttrs_str PySem.F.slot_str_find PySem.F.type_str_find mt_find (pe_glob (v := .str FIG) rfl mF ⟨_, rfl⟩) (pa_cons (pv 2) pa_nil)))
      (pss_cons (ps_if (pt_cmpR op_lt (pv 3) pe_int (nomark _)) (pss_one (ps_ret pe_non)) pss_nil)
      (pss_one (ps_set (i := 1) nd rfl (Or.inl rfl) (pe_op op_add (pe_op op_mul (pv 1) pe_int) (pv 3)))))))
    (pss_one (ps_ret (pv 1))))), ?_⟩
  have loop : ∀ (hb : figs (cs z) = (cs z).all fig), tSeq (tFor (iStr (tVar 0)) (gName 2) (tSeq (tAsg (tBM K "str" (fun x xs H Q => ∃ a b, x = .str a ∧ xs = [.str b] ∧ Q (.int (Txt.find a b)) H) (tC (.str FIG)) (tCons (tVar 2) tNil)) (gName 3))
      (tSeq (tIfS (tTest (tOp (rI0 fun i j => .bl (decide (i < j))) (tVar 3) (tC (.int 0)))) (tRet (tC .non)) tNext) (tAsg (tOp (rI0 fun i j => .int (i + j)) (tOp (rI CMul fun i j => .int (i * j)) (tVar 1) (tC (.int 10))) (tVar 3)) (gName 1)))))
      (tRet (tVar 1)) { nx := fun _ H' => Q .non H', rt := Q } [some (.str z), some (.int 0), none, none] H := by
    intro hb
    refine ⟨_, rfl, z, rfl, for_signs (fun i σ H' => H' = H ∧ (∃ b c, σ = [some (.str z), some (.int (val ((cs z).take i))), b, c]) ∧ ((cs z).take i).all fig = true) ⟨rfl, ⟨none, none, rfl⟩, rfl⟩ ?_ ?_⟩
    · rintro i c σ H' hc ⟨rfl, ⟨b, d, rfl⟩, ha⟩
      refine ⟨(rfl : ("str" : String) = "str"), _, rfl, _, _, rfl, rfl, ?_⟩
      refine ⟨_, rfl, _, _, rfl, rfl, _, rfl, ?_⟩
      rw [fig_find]
      cases hf : fig c with
      | false =>
        refine ite2 (fun _ => ?_) (fun n => absurd (by rw [if_neg (by decide)]; decide) n)
        refine q0 ?_
        rw [hb]
        cases e : (cs z).all fig with
        | false => rfl
        | true =>
          have := List.all_eq_true.mp e c (List.mem_of_getElem? hc)
          rw [hf] at this
          cases this
      | true =>
        have h48 := fig_iff.mp hf
        refine ite2 (fun n => ?_) (fun _ => ?_)
        · exfalso
          have n' : ((c - 48 : Nat) : Int) < 0 := of_decide_eq_true n
          omega
        · refine ⟨_, rfl, _, _, rfl, rfl, .inr ⟨by decide, by decide⟩, _, rfl, _, _, rfl, rfl, ?_⟩
          refine ⟨rfl, ⟨some (.str ⟨#[c]⟩), some (.int ((c - 48 : Nat) : Int)), ?_⟩, ?_⟩
          · rw [if_pos rfl]
            show [some (V.str z), some (V.int (((val ((cs z).take i) : Nat) : Int) * 10 + ((c - 48 : Nat) : Int))), some (.str ⟨#[c]⟩), some (.int ((c - 48 : Nat) : Int))] = _
            rw [take_val (cs z) i c hc]
            simp only [Int.natCast_add, Int.natCast_mul]
            rfl
          · rw [List.take_succ, hc, List.all_append, ha]
            simp [hf]
    · rintro σ H' ⟨rfl, ⟨b, d, rfl⟩, ha⟩
      refine ⟨_, rfl, ?_⟩
      rw [List.take_length] at ha ⊢
      exact q1 (by rw [hb]; exact ha)
  refine ⟨_, rfl, rfl, _, rfl, ?_⟩
  rw [isNil]
  cases hn : (cs z).isEmpty with
  | true =>
    refine itT (itT (q0 ?_))
    rw [List.isEmpty_iff] at hn
    rw [hn]
    rfl
  | false =>
    refine itF ⟨_, rfl, (rfl : ("str" : String) = "str"), _, _, rfl, rfl, _, rfl, ?_⟩
    rw [starts0]
    cases hh : (cs z).head? == some 48 with
    | false =>
      refine itF (itF (loop ?_))
      unfold figs
      rw [hn, hh]
      simp
    | true =>
      refine itT ⟨_, rfl, rfl, _, rfl, ?_⟩
      rw [isZero]
      cases h0 : cs z == [48] with
      | false =>
        refine itT (q0 ?_)
        unfold figs
        rw [hn, hh]
        simp only [bne, h0]
        rfl
      | true =>
        refine itF (loop ?_)
        unfold figs
        rw [hn, hh]
        simp only [bne, h0]
        rfl
abbrev sShIn : Stmt := top 24
def spShIn : Sp := fun vs H Q _ => ∃ z, vs = [.str z] ∧ z ≠ "0" ∧ z ≠ "1" ∧ z.length ≤ sizeLine ∧ ∀ v H', Ext H H' → Rds H' v (rdD z) → Q v H'
theorem scSI : FnScope ["thing", "top", "stroke", "bottom", "share"] ["thing"] (defScope sShIn) := ⟨rfl, rfl, rfl, by decide +kernel, rfl, by decide +kernel, by decide +kernel⟩
theorem ok_shin {f a1 a2 n0 n1 : Addr} {fd d1 d2 : FuncData} (F : Fun K "share_in" "share_in" sShIn f fd) (T : Two K mg n0 n1) (N : IsT K)
    (A1 : Df P w K mg base CX0 1 "count_in" ["text"] spCnt a1 d1) (A2 : Df P w K mg base CX0 4 "is_share" ["thing"] spISh a2 d2)
    (mi : mg "isinstance" = none) (ms : mg "str" = none) : FnOk P w K mg base CX0 5 f fd ["thing"] spShIn := by
  refine F.ok scSI (fun vs H Q E h => ?_) (fun cdv A outer s H vs Q E hr h => ?_)
  · obtain ⟨x, rfl, _⟩ := h
    rfl
  obtain ⟨z, rfl, n0', n1', hz, q⟩ := h
  have nd := scSI.nd
  have hr1 := hr.mono (show 1 ≤ 4 by decide)
  have hu : (A.deeper (PyProof.Rows.envOfC "share_in" (defScope sShIn) s.heap.objs.size f cdv)).units < cLine := hr.units0
  refine ⟨_, pss_cons (ps_if (pt_not (pt_val (pe_callB (call_isK N) rfl mi PyProof.Rows.boot_isinstance (pa_cons (pv 0) (pa_cons (pe_ty rfl ms PyProof.Rows.boot_str) pa_nil))))) (pss_one (ps_ret pe_non)) pss_nil)
    (pss_cons (ps_if (pt_cmpR op_eq (pv 0) pe_str (nomark _)) (pss_one (ps_ret (pe_glob (v := .ref n0) rfl T.m0 rfl))) pss_nil)
    (pss_cons (ps_if (pt_cmpR op_eq (pv 0) pe_str (nomark _)) (pss_one (ps_ret (pe_glob (v := .ref n1) rfl T.m1 rfl))) pss_nil)
    (pss_cons (ps_asg (pe_bm PySem.F.plainAttrs_str PySem.F.slot_str_partition PySem.F.type_str_partition mt_part (pv 0) (pa_cons pe_str pa_nil)) (pg_tup rfl (pgs_cons (pg_name (i := 1) nd rfl (Or.inl rfl)) (pgs_cons (pg_name (i := 2) nd rfl (Or.inl rfl)) (pgs_cons (pg_name (i := 3) nd rfl (Or.inl rfl)) pgs_nil)))))
    (pss_cons (ps_set (i := 4) nd rfl (Or.inl rfl) (pe_tup (pa_cons (pe_call A1.G hr1 rfl A1.m A1.kp A1.b .nil pass0 (pa_cons (pv 1) pa_nil)) (pa_cons (pe_call A1.G hr1 rfl A1.m A1.kp A1.b .nil pass0 (pa_cons (pv 3) pa_nil)) pa_nil))))
    (pss_cons (ps_if (PW.pt (pw_or (pt_not (pt_val (pe_call A2.G hr rfl A2.m A2.kp A2.b .nil pass0 (pa_cons (pv 4) pa_nil)))) (pw_or (pt_cmpR (op_eqT hu) (pv 4) (pe_glob (v := .ref n0) rfl T.m0 rfl) (nomark _)) (pw_or1 (pt_cmpR (op_eqT hu) (pv 4) (pe_glob (v := .ref n1) rfl T.m1 rfl) (nomark _)))))) (pss_one (ps_ret pe_non)) pss_nil)
    (pss_one (ps_ret (pv 4)))))))), ?_⟩
  refine ⟨_, rfl, _, _, _, _, rfl, .inl (.str z), k_ss, _, rfl, itF ?_⟩
  refine ⟨_, rfl, rfl, _, rfl, ?_⟩
  refine ite2 (fun c => absurd (V.str.inj (of_decide_eq_true c)) n0') (fun _ => ?_)
  refine ⟨_, rfl, rfl, _, rfl, ?_⟩
  refine ite2 (fun c => absurd (V.str.inj (of_decide_eq_true c)) n1') (fun _ => ?_)
  have hrd := rd_part n0' n1'
  refine ⟨_, rfl, (rfl : ("str" : String) = "str"), _, _, rfl, rfl, (by decide +kernel), hz, fun p hp => ?_⟩
  rw [show (("/" : String) : Str) = ⟨#[47]⟩ from by decide +kernel]
  generalize Txt.partition z ⟨#[47]⟩ = R at hrd
  obtain ⟨a, st, b⟩ := R
  refine ⟨p, _, rfl, SqT.of upd_same, rfl, _, _, rfl, _, _, rfl, _, _, rfl, rfl, ?_⟩
  refine ⟨_, rfl, a, rfl, ?_⟩
  refine ⟨_, rfl, b, rfl, ?_⟩
  refine ⟨by show 2 ≤ sizeLine; decide, fun sp hsp => ?_⟩
  have x1 : Ext H (upd (upd H p (.tup [.str a, .str st, .str b])) sp (.tup [oV (oN (cs a)), oV (oN (cs b))])) := (Ext.new hp).trans (Ext.new hsp)
  have hs0 : upd (upd H p (.tup [.str a, .str st, .str b])) sp (.tup [oV (oN (cs a)), oV (oN (cs b))]) sp = some (.tup [oV (oN (cs a)), oV (oN (cs b))]) := upd_same
  have hs : SqT K (upd (upd H p (.tup [.str a, .str st, .str b])) sp (.tup [oV (oN (cs a)), oV (oN (cs b))])) sp [oV (oN (cs a)), oV (oN (cs b))] := SqT.of upd_same
  have rs : Rds (upd (upd H p (.tup [.str a, .str st, .str b])) sp (.tup [oV (oN (cs a)), oV (oN (cs b))])) (.ref sp) (.tuple [oD (oN (cs a)), oD (oN (cs b))]) := .tup hs0 (.cons (rds_o _) (.cons (rds_o _) .nil))
  have hq : rd z = (if okS (cs a) (cs b) = true then some (val (cs a), val (cs b)) else none) := hrd
  have fl : [oV (oN (cs a)), oV (oN (cs b))].all flatV = true := by
    show (flatV _ && (flatV _ && true)) = true
    rw [flatO, flatO]; rfl
  have ek := okS_sh (cs a) (cs b)
  have none_ : okS (cs a) (cs b) = false → Q .non (upd (upd H p (.tup [.str a, .str st, .str b])) sp (.tup [oV (oN (cs a)), oV (oN (cs b))])) := fun e => q .non _ x1 (by
    rw [e, if_neg (by decide)] at hq
    unfold rdD
    rw [hq]
    exact .non)
  refine ⟨_, rfl, _, _, rfl, rs, _, rfl, ?_⟩
  cases e1 : shareD (.tuple [oD (oN (cs a)), oD (oN (cs b))]) with
  | false =>
    rw [e1, Bool.false_and] at ek
    exact itT (itT (none_ ek))
  | true =>
    rw [e1, Bool.true_and] at ek
    refine itF ⟨_, rfl, sp, n0, _, _, rfl, rfl, hs, .inr T.t0, fl, rfl, _, rfl, ?_⟩
    rw [show id (eqVs [oV (oN (cs a)), oV (oN (cs b))] [.int (0 : Nat), .int (1 : Nat)]) = decide (oN (cs a) = some 0 ∧ oN (cs b) = some 1) from eqVsO _ _ _ _]
    cases e2 : decide (oN (cs a) = some 0 ∧ oN (cs b) = some 1) with
    | true =>
      rw [e2] at ek
      exact itT (itT (none_ ek))
    | false =>
      rw [e2] at ek
      refine itF ⟨_, rfl, sp, n1, _, _, rfl, rfl, hs, .inr T.t1, fl, rfl, _, rfl, ?_⟩
      rw [show id (eqVs [oV (oN (cs a)), oV (oN (cs b))] [.int (1 : Nat), .int (1 : Nat)]) = decide (oN (cs a) = some 1 ∧ oN (cs b) = some 1) from eqVsO _ _ _ _]
      cases e3 : decide (oN (cs a) = some 1 ∧ oN (cs b) = some 1) with
      | true =>
        rw [e3] at ek
        exact itT (none_ ek)
      | false =>
        rw [e3] at ek
        have ek' : okS (cs a) (cs b) = true := ek
        rw [ek', if_pos rfl] at hq
        have fa : figs (cs a) = true := by
          unfold okS at ek'
          simp only [Bool.and_eq_true] at ek'
          exact ek'.1.1.1.1.1
        have fb : figs (cs b) = true := by
          unfold okS at ek'
          simp only [Bool.and_eq_true] at ek'
          exact ek'.1.1.1.1.2
        have ea : oN (cs a) = some (val (cs a)) := by unfold oN; rw [fa]; rfl
        have eb : oN (cs b) = some (val (cs b)) := by unfold oN; rw [fb]; rfl
        refine itF ⟨_, rfl, q _ _ x1 ?_⟩
        unfold rdD
        rw [hq]
        have e2 : (.tuple [oD (oN (cs a)), oD (oN (cs b))] : PyData) = .tuple [.int (val (cs a) : Nat), .int (val (cs b) : Nat)] := by rw [ea, eb]; rfl
        rw [e2] at rs
        exact rs
end
end My
set_option Elab.async false
set_option linter.all false
set_option maxRecDepth 100000
set_option maxHeartbeats 1000000
set_option exponentiation.threshold 5000
namespace My
open PySem PySem.W L2
section
variable {P : Program} {w : World} {K : Frag} {mg : Str → Option Value} {base : Heap} {C : Nat → Addr} {CR : Addr}
abbrev sRuI : Stmt := inClass (top 36) 0
abbrev sRuF : Stmt := inClass (top 36) 1
abbrev sRuB : Stmt := inClass (top 36) 2
abbrev sRuT : Stmt := inClass (top 36) 4
abbrev sRuK : Stmt := inClass (top 36) 5
def put4 (v1 v2 v3 v4 : V) (fs : List (Str × V)) : List (Str × V) := putF "parts" v4 (putF "mark" v3 (putF "first_state" v2 (putF "size" v1 fs)))
def spRuI (C : Nat → Addr) : Sp := fun vs H Q _ => ∃ x v1 v2 v3 v4 i dx fs, vs = [.ref x, v1, v2, v3, v4] ∧ i < 4 ∧ H x = some (.ins (C i) dx fs) ∧ fs.length ≤ 5 ∧ Q .non (upd H x (.ins (C i) dx (put4 v1 v2 v3 v4 fs)))
theorem scRuI : FnScope ["self", "size", "first_state", "mark", "parts"] ["self", "size", "first_state", "mark", "parts"] (defScope sRuI) := ⟨rfl, rfl, rfl, by decide +kernel, rfl, by decide +kernel, by decide +kernel⟩
theorem putF_len (f : Str) (v : V) : ∀ fs : List (Str × V), (putF f v fs).length ≤ fs.length + 1
  | [] => Nat.le_refl _
  | (g, x) :: r => by
    have := putF_len f v r
    show (if g = f then (g, v) :: r else (g, x) :: putF f v r).length ≤ _
    split <;> simp only [List.length_cons] <;> omega
theorem ok_rui {f : Addr} {fd : FuncData} (Z : KR K C CR) (F : Fun K "__init__" "Rule.__init__" sRuI f fd) : FnOk P w K mg base CX0 1 f fd ["self", "size", "first_state", "mark", "parts"] (spRuI C) := by
  refine F.ok scRuI (fun vs H Q E h => ?_) (fun cdv A outer s H vs Q E hr h => ?_)
  · obtain ⟨_, _, _, _, _, _, _, _, rfl, _⟩ := h
    rfl
  obtain ⟨x, v1, v2, v3, v4, i, dx, fs, rfl, hi, hx, l5, q⟩ := h
  refine ⟨_, pss_cons (ps_fld (pv 0) (pv 1) rfl) (pss_cons (ps_fld (pv 0) (pv 2) rfl) (pss_cons (ps_fld (pv 0) (pv 3) rfl) (pss_one (ps_fld (pv 0) (pv 4) rfl)))), ?_⟩
  have c := Z.cls i hi
  have n := Z.no i hi
  have k1 := putF_len "size" v1 fs
  have k2 := putF_len "first_state" v2 (putF "size" v1 fs)
  have k3 := putF_len "mark" v3 (putF "first_state" v2 (putF "size" v1 fs))
  refine ⟨_, rfl, _, rfl, x, C i, dx, fs, rfl, hx, c, n _ (by decide +kernel), by omega, ?_⟩
  refine ⟨_, rfl, _, rfl, x, C i, dx, _, rfl, upd_same, c, n _ (by decide +kernel), by omega, ?_⟩
  rw [upd_upd]
  refine ⟨_, rfl, _, rfl, x, C i, dx, _, rfl, upd_same, c, n _ (by decide +kernel), by omega, ?_⟩
  rw [upd_upd]
  refine ⟨_, rfl, _, rfl, x, C i, dx, _, rfl, upd_same, c, n _ (by decide +kernel), by omega, ?_⟩
  rw [upd_upd]
  exact q
def spFolk (C : Nat → Addr) : Sp := fun vs H Q _ => ∃ v t, vs = [v] ∧ Ru C H t v ∧ Q (.int t.folk) H
theorem scRuF : FnScope ["self"] ["self"] (defScope sRuF) := ⟨rfl, rfl, rfl, by decide +kernel, rfl, by decide +kernel, by decide +kernel⟩
theorem ok_ruf {f : Addr} {fd : FuncData} (Z : KR K C CR) (F : Fun K "folk" "Rule.folk" sRuF f fd) : FnOk P w K mg base CX0 1 f fd ["self"] (spFolk C) := by
  refine F.ok scRuF (fun vs H Q E h => ?_) (fun cdv A outer s H vs Q E hr h => ?_)
  · obtain ⟨_, _, rfl, _⟩ := h
    rfl
  obtain ⟨v, t, rfl, ru, q⟩ := h
  obtain ⟨a, dx, fs, rfl, ha, h1, _⟩ := ru.ob.ex
  exact ⟨_, pss_one (ps_ret (pe_fld (pv 0) rfl)), _, rfl, a, _, dx, fs, _, rfl, ha, Z.cls _ t.kind_lt, Z.no _ t.kind_lt _ (by decide +kernel), h1, q⟩
def spBegin (C : Nat → Addr) : Sp := fun vs H Q _ => ∃ v t G, vs = [v] ∧ Ext G H ∧ Ru C G t v ∧ ∀ b, Rds G b t.begin → Q b H
theorem scRuB : FnScope ["self"] ["self"] (defScope sRuB) := ⟨rfl, rfl, rfl, by decide +kernel, rfl, by decide +kernel, by decide +kernel⟩
theorem ok_rub {f : Addr} {fd : FuncData} (Z : KR K C CR) (F : Fun K "begin" "Rule.begin" sRuB f fd) : FnOk P w K mg base CX0 1 f fd ["self"] (spBegin C) := by
  refine F.ok scRuB (fun vs H Q E h => ?_) (fun cdv A outer s H vs Q E hr h => ?_)
  · obtain ⟨_, _, _, rfl, _⟩ := h
    rfl
  obtain ⟨v, t, G, rfl, xG, ru, q⟩ := h
  obtain ⟨a, dx, fs, rfl, ha, _, ⟨b, h2, r2⟩, _⟩ := ru.ob.ex
  exact ⟨_, pss_one (ps_ret (pe_fld (pv 0) rfl)), _, rfl, a, _, dx, fs, _, rfl, xG _ _ ha, Z.cls _ t.kind_lt, Z.no _ t.kind_lt _ (by decide +kernel), h2, q b r2⟩
def spTold (C : Nat → Addr) : Sp := fun vs H Q _ => ∃ v t G, vs = [v] ∧ Ext G H ∧ Ru C G t v ∧ ∀ b, Rds G b t.told → Q b H
theorem scRuT : FnScope ["self"] ["self"] (defScope sRuT) := ⟨rfl, rfl, rfl, by decide +kernel, rfl, by decide +kernel, by decide +kernel⟩
theorem ok_rut {f : Addr} {fd : FuncData} (Z : KR K C CR) (F : Fun K "told" "Rule.told" sRuT f fd) : FnOk P w K mg base CX0 1 f fd ["self"] (spTold C) := by
  refine F.ok scRuT (fun vs H Q E h => ?_) (fun cdv A outer s H vs Q E hr h => ?_)
  · obtain ⟨_, _, _, rfl, _⟩ := h
    rfl
  obtain ⟨v, t, G, rfl, xG, ru, q⟩ := h
  obtain ⟨a, dx, fs, rfl, ha, _, _, ⟨b, h2, r2⟩, _⟩ := ru.ob.ex
  exact ⟨_, pss_one (ps_ret (pe_fld (pv 0) rfl)), _, rfl, a, _, dx, fs, _, rfl, xG _ _ ha, Z.cls _ t.kind_lt, Z.no _ t.kind_lt _ (by decide +kernel), h2, q b r2⟩
def spBlk (C : Nat → Addr) : Sp := fun vs H Q _ => ∃ v t, vs = [v] ∧ Ru C H t v ∧ t.parts.length ≤ 20 ∧ (∀ p ∈ t.parts, p.length ≤ 20) ∧ ∀ (l : Addr) (bs : List Addr) (H' : Hp), Ext H H' → H l = none → H' l = some (.lst (bs.map V.ref)) → l ∉ bs → (∀ b ∈ bs, H b = none) → bs.length = t.parts.length → (∀ (i : Nat) b p, bs[i]? = some b → t.parts[i]? = some p → H' b = some (.lst (p.map V.int))) → Q (.ref l) H'
theorem scRuK : FnScope ["self"] ["self"] (defScope sRuK) := ⟨rfl, rfl, rfl, by decide +kernel, rfl, by decide +kernel, by decide +kernel⟩
abbrev scRuKC : Scope := { kind := .function, names := [(".0", .local), ("part", .local), ("list", .globalImplicit)], isGenerator := false, isCoroutine := false }
theorem compK {X : Cx} : CompG X scRuKC [] ["part"] [] [] := by
  refine ⟨rfl, rfl, by decide +kernel, by decide +kernel, by decide +kernel, (fun z c h => nomatch h), (fun z h => ?_), by decide +kernel, (fun k z h => by simp at h), rfl⟩
  exfalso
  have h' : List.lookup z [((".0" : Str), NameKind.local), (("part" : Str), NameKind.local), (("list" : Str), NameKind.globalImplicit)] = some .cell ∨ List.lookup z [((".0" : Str), NameKind.local), (("part" : Str), NameKind.local), (("list" : Str), NameKind.globalImplicit)] = some .free := h
  simp only [List.lookup_cons, List.lookup_nil] at h'
  repeat' (split at h')
  all_goals simp at h'
theorem ndK : ((["part"] : List Str) ++ ([] : List Str)).Nodup := by decide +kernel
def rListOf (K : Frag) : List V → Hp → VK → Prop := fun xs H Q => ∃ p ys, xs = [.ref p] ∧ (SqL K H p ys ∨ SqT K H p ys) ∧ ∀ l, H l = none → Q (.ref l) (upd H l (.lst ys))
theorem ok_ruk {f : Addr} {fd : FuncData} (Z : KR K C CR) (F : Fun K "blocks" "Rule.blocks" sRuK f fd) (ml : mg "list" = none) : FnOk P w K mg base CX0 1 f fd ["self"] (spBlk C) := by
  refine F.ok scRuK (fun vs H Q E h => ?_) (fun cdv A outer s H vs Q E hr h => ?_)
  · obtain ⟨_, _, rfl, _⟩ := h
    rfl
  obtain ⟨v, t, rfl, ru, l20, p20, q⟩ := h
  obtain ⟨a, dx, fs, rfl, ha, _, _, _, ⟨b, h2, r2⟩, _⟩ := ru.ob.ex
  refine ⟨_, pss_one (ps_ret (pe_lcG (te := tCB (rListOf K) (tCons (tVar 0) tNil)) (g := gName 0) rfl compK (pi_tup (pe_fld (pv 0) rfl)) (fun s H C fp => by exact pg_name (i := 0) ndK rfl (.inl rfl)) (fun s H C fp => by exact pe_callTy call_list_of rfl ml PyProof.Rows.boot_list (pa_cons (pv 0) pa_nil)))), ?_⟩
  obtain ⟨p, xs, rfl, hp, rs⟩ := rds_tup r2
  have lx := rs.length
  rw [List.length_map] at lx
  refine ⟨_, rfl, a, _, dx, fs, _, rfl, ha, Z.cls _ t.kind_lt, Z.no _ t.kind_lt _ (by decide +kernel), h2, p, rfl, ⟨_, SqT.of hp⟩, fun D hD => ?_⟩
  refine lcG_tup (a := p) (xs := xs) (fun i ys H' => Ext H H' ∧ ∃ bs : List Addr, ys = bs.map V.ref ∧ D ∉ bs ∧ (∀ b ∈ bs, H b = none) ∧ ∀ (j : Nat) b q, bs[j]? = some b → t.parts[j]? = some q → H' b = some (.lst (q.map V.int))) (by rw [sizeLine_eq]; omega) ⟨Ext.new hD, [], rfl, by simp, by simp, by simp⟩ (fun i ys H' pv => SqT.of (pv.1 _ _ hp)) ?_ ?_
  · rintro i x ys H' ex ly hDD ⟨x', bs, rfl, nD, fr, ct⟩ os los R k
    obtain ⟨o0, rfl⟩ : ∃ o0, os = [o0] := by
      match os, los with
      | [o0], _ => exact ⟨o0, rfl⟩
    have hi : i < t.parts.length := by have := (List.getElem?_eq_some_iff.mp ex).1; omega
    obtain ⟨c, rfl, hc⟩ := rds_tups rs ex (List.getElem?_eq_getElem hi)
    refine ⟨⟨[some (.ref c)], rfl, rfl⟩, _, rfl, c, _, rfl, .inr (SqT.of (x' _ _ hc)), fun m hm => ?_⟩
    have x2 := Ext.new (o := .lst ((t.parts[i]).map V.int)) hm
    have nm : m ≠ D := fun e => by rw [e, hDD] at hm; cases hm
    have hm0 : H m = none := by
      cases e : H m with
      | none => rfl
      | some o => rw [x' _ _ e] at hm; cases hm
    have hDD2 := x2 _ _ hDD
    have lb : bs.length = i := by rw [List.length_map] at ly; exact ly
    refine k _ _ hDD2 ⟨ext_upd _ (x'.trans x2) hD, bs ++ [m], by rw [List.map_append]; rfl, ?_, fun b hb => ?_, fun j b q hb hq => ?_⟩
    · intro hmem
      rcases List.mem_append.mp hmem with h | h
      · exact nD h
      · exact nm (List.mem_singleton.mp h).symm
    · rcases List.mem_append.mp hb with h | h
      · exact fr b h
      · rw [List.mem_singleton.mp h]; exact hm0
    · rcases Nat.lt_or_ge j bs.length with lt | ge
      · rw [List.getElem?_append_left lt] at hb
        have nb : b ≠ D := fun e => nD (e ▸ List.mem_of_getElem? hb)
        rw [upd_ne nb]
        exact x2 _ _ (ct j b q hb hq)
      · rw [List.getElem?_append_right ge] at hb
        have j0 : j = bs.length := by
          rcases Nat.lt_or_ge (j - bs.length) 1 with z | z
          · omega
          · rw [List.getElem?_eq_none (by simpa using z)] at hb; cases hb
        subst j0
        rw [Nat.sub_self] at hb
        cases hb
        rw [lb, List.getElem?_eq_getElem hi] at hq
        cases hq
        rw [upd_ne nm]
        exact upd_same
  · rintro ys H' ly hDD ⟨x', bs, rfl, nD, fr, ct⟩
    rw [List.length_map] at ly
    exact q D bs H' x' hD hDD nD fr (by omega) ct
end
end My
set_option Elab.async false
set_option linter.all false
set_option maxRecDepth 100000
set_option maxHeartbeats 1000000
set_option exponentiation.threshold 5000
namespace My
open PySem PySem.W L2
theorem lk_put {f g : Str} {v : V} {fs : List (Str × V)} : (putF f v fs).lookup g = if g = f then some v else fs.lookup g := lookup_putF f g v fs
section
variable {v1 v2 v3 v4 : V} {fs : List (Str × V)}
theorem put4_size : (put4 v1 v2 v3 v4 fs).lookup ("size" : Str) = some v1 := by
  unfold put4
  rw [lk_put, if_neg (by decide +kernel), lk_put, if_neg (by decide +kernel), lk_put, if_neg (by decide +kernel), lk_put, if_pos rfl]
theorem put4_fst : (put4 v1 v2 v3 v4 fs).lookup ("first_state" : Str) = some v2 := by
  unfold put4
  rw [lk_put, if_neg (by decide +kernel), lk_put, if_neg (by decide +kernel), lk_put, if_pos rfl]
theorem put4_mark : (put4 v1 v2 v3 v4 fs).lookup ("mark" : Str) = some v3 := by
  unfold put4
  rw [lk_put, if_neg (by decide +kernel), lk_put, if_pos rfl]
theorem put4_parts : (put4 v1 v2 v3 v4 fs).lookup ("parts" : Str) = some v4 := by
  unfold put4
  rw [lk_put, if_pos rfl]
theorem put4_other {g : Str} (h : g ≠ "size" ∧ g ≠ "first_state" ∧ g ≠ "mark" ∧ g ≠ "parts") : (put4 v1 v2 v3 v4 fs).lookup g = fs.lookup g := by
  unfold put4
  rw [lk_put, if_neg h.2.2.2, lk_put, if_neg h.2.2.1, lk_put, if_neg h.2.1, lk_put, if_neg h.1]
theorem mN_other {g : Str} (h : g ∈ mNames) : g ≠ "size" ∧ g ≠ "first_state" ∧ g ≠ "mark" ∧ g ≠ "parts" := by
  have : ∀ g ∈ mNames, g ≠ "size" ∧ g ≠ "first_state" ∧ g ≠ "mark" ∧ g ≠ "parts" := by decide +kernel
  exact this g h
theorem mN_nil {g : Str} {ns : List Str} (h : g ∈ mNames) (hn : ∀ n ∈ fs.map (·.1), n ∈ fNames) : fs.lookup g = none := by
  have nf : ∀ g ∈ mNames, ∀ n ∈ fNames, g ≠ n := by decide +kernel
  cases e : fs.lookup g with
  | none => rfl
  | some v =>
    exfalso
    have : ∀ (l : List (Str × V)), l.lookup g = some v → g ∈ l.map (·.1) := by
      intro l
      induction l with
      | nil => intro h; cases h
      | cons y l ih =>
        intro h
        obtain ⟨k, x⟩ := y
        rw [List.lookup_cons] at h
        cases e : g == k with
        | true => rw [beq_iff_eq.mp e]; exact List.mem_cons_self ..
        | false => rw [e] at h; exact List.mem_cons_of_mem _ (ih h)
    exact nf g h g (hn g (this fs e)) rfl
theorem ob_put4 {Cl a dx : Addr} {H : Hp} {fk : Int} {bg tl pt : PyData} {X : List (Str × V) → Prop} (ha : H a = some (.ins Cl dx (put4 (.int fk) v2 v3 v4 fs))) (r2 : Rds H v2 bg) (r3 : Rds H v3 tl) (r4 : Rds H v4 pt) (hn : ∀ n ∈ fs.map (·.1), n ∈ fNames) (hx : X (put4 (.int fk) v2 v3 v4 fs)) : Ob Cl H (.ref a) fk bg tl pt X :=
  ⟨a, dx, _, rfl, ha, put4_size, ⟨_, put4_fst, r2⟩, ⟨_, put4_mark, r3⟩, ⟨_, put4_parts, r4⟩, fun m hm => by rw [put4_other (mN_other hm)]; exact mN_nil (ns := []) hm hn, hx⟩
end
section
variable {P : Program} {w : World} {K : Frag} {mg : Str → Option Value} {base : Heap} {C : Nat → Addr} {CR CN CS : Addr}
abbrev sSpI : Stmt := inClass (top 37) 0
abbrev sPaI : Stmt := inClass (top 38) 0
abbrev sCoI : Stmt := inClass (top 39) 0
def spSpI (C : Nat → Addr) (CN : Addr) : Sp := fun vs H Q E => ∃ x u1 u2 d1 d2 dx, vs = [.ref x, u1, u2] ∧ H x = some (.ins (C 0) dx []) ∧ Rds H u1 d1 ∧ Rds H u2 d2 ∧ (inD 1 20 d1 = false → ErrF CN "found" u1 H E) ∧ (∀ n, d1 = .int n → 1 ≤ n → n ≤ 20 → inD 0 n d2 = false → ErrF CN "found" u2 H E) ∧
  ∀ n k, d1 = .int n → d2 = .int k → (R0.split n k).ok → ∀ H', Kept H H' x → Ru0 C H' (.split n k) (.ref x) → Q .non H'
theorem scSpI : FnScope ["self", "folk", "ones"] ["self", "folk", "ones"] (defScope sSpI) := ⟨rfl, rfl, rfl, by decide +kernel, rfl, by decide +kernel, by decide +kernel⟩
variable {S g a1 a2 a3 : Addr} {gd d1 d2 d3 : FuncData} {t : Tok}
theorem ok_spi {f : Addr} {fd : FuncData} (F : Fun K "__init__" "Split.__init__" sSpI f fd) (Cf : ClsFn K S "__init__" g) (G : FnOk P w K mg base CX0 1 g gd ["self", "size", "first_state", "mark", "parts"] (spRuI C)) (bG : Binds K gd ["self", "size", "first_state", "mark", "parts"] []) (mS : mg "Rule" = some (.ref S))
    (A1 : Df P w K mg base (CXE P w) 3 "need_number" ["thing", "low", "high"] (spNN CN) a1 d1) (A2 : Df P w K mg base CX0 1 "one_part" ["folk"] spOP a2 d2) (mF : mg "MOST_FOLK" = some (.int 20 t)) : FnOk P w K mg base (CXE P w) 4 f fd ["self", "folk", "ones"] (spSpI C CN) := by
  refine okE F scSpI (fun vs H Q E h => ?_) (fun cdv A outer s H vs Q E hr h => ?_)
  · obtain ⟨_, _, _, _, _, _, rfl, _⟩ := h
    rfl
  obtain ⟨x, u1, u2, e1, e2, dx, rfl, hx, r1, r2, q1, q2, q⟩ := h
  have hr1 : Room 1 _ := hr.mono (by decide)
  refine ⟨_, pss_cons (ps_expr (pe_call A1.G hr rfl A1.m A1.kp A1.b .nil passE (pa_cons (pv 1) (pa_cons pe_int (pa_cons (pe_glob (v := .int 20) rfl mF ⟨_, rfl⟩) pa_nil))))) (pss_cons (ps_expr (pe_call A1.G hr rfl A1.m A1.kp A1.b .nil passE (pa_cons (pv 2) (pa_cons pe_int (pa_cons (pv 1) pa_nil)))))
    (pss_one (ps_expr (pe_clsCall Cf G hr1 rfl mS bG .nil pass0 (pa_cons (pv 0) (pa_cons (pv 1) (pa_cons (pv 2) (pa_cons (pe_tup (pa_cons pe_str (pa_cons (pv 1) (pa_cons (pv 2) pa_nil)))) (pa_cons (pe_call A2.G hr1 rfl A2.m A2.kp A2.b .nil pass0 (pa_cons (pv 1) pa_nil)) pa_nil))))))))), ?_⟩
  refine ⟨_, rfl, u1, e1, 1, 20, rfl, r1, fun h1 => ?_, fun h1 => q1 h1⟩
  obtain ⟨n, rfl, n1, n20⟩ := inD_int h1
  cases r1
  refine ⟨_, rfl, _, rfl, u2, e2, 0, n, rfl, r2, fun h2 => ?_, fun h2 => q2 n rfl n1 n20 h2⟩
  obtain ⟨k, rfl, k0, kn⟩ := inD_int h2
  cases r2
  refine ⟨_, rfl, _, rfl, _, rfl, _, rfl, _, rfl, by show 3 ≤ sizeLine; decide, fun m hm => ⟨_, rfl, n, rfl, by omega, n20, fun l H2 x2 rl => ?_⟩⟩
  have xm := Ext.new (o := .tup [.str "split", .int n, .int k]) hm
  have x12 := xm.trans x2
  have hm2 := x2 _ _ (show upd H m (.tup [.str "split", .int n, .int k]) m = _ from upd_same)
  have hx2 := x12 _ _ hx
  refine ⟨x, _, _, _, _, 0, dx, [], rfl, by decide, hx2, by decide, q n k rfl rfl ⟨n1, n20, k0, kn⟩ _ ((x12.kept x).trans (keptUpd _)) ?_⟩
  have kk : Kept H2 (upd H2 x (.ins (C 0) dx (put4 (.int n) (.int k) (.ref m) (.ref l) []))) x := keptUpd _
  exact ob_put4 upd_same (.int _) ((Rds.tup hm2 (.cons (.str _) (.cons (.int _) (.cons (.int _) .nil)))).kept hx2 kk) (rl.kept hx2 kk) (by simp) trivial
def spPaI (C : Nat → Addr) (CN CS : Addr) : Sp := fun vs H Q E => ∃ x u1 u2 d1 d2 dx, vs = [.ref x, u1, u2] ∧ H x = some (.ins (C 1) dx []) ∧ Rds H u1 d1 ∧ Rds H u2 d2 ∧ (inD 1 10 d1 = false → ErrF CN "found" u1 H E) ∧ (inD 1 10 d1 = true → coinD d2 = false → ErrF CS "found" u2 H E) ∧
  ∀ n a b, d1 = .int n → d2 = .tuple [.int a, .int b] → (R0.pairs n a b).ok → ∀ H', Kept H H' x → Ru0 C H' (.pairs n a b) (.ref x) → Q .non H'
theorem scPaI : FnScope ["self", "pairs", "coin"] ["self", "pairs", "coin"] (defScope sPaI) := ⟨rfl, rfl, rfl, by decide +kernel, rfl, by decide +kernel, by decide +kernel⟩
theorem coin_shape {d : PyData} (h : coinD d = true) : ∃ a b, d = .tuple [.int a, .int b] := by
  match d, h with
  | .tuple [.int a, .int b], _ => exact ⟨a, b, rfl⟩
theorem ok_pai {f : Addr} {fd : FuncData} (Z : KR K C CR) (F : Fun K "__init__" "Pairs.__init__" sPaI f fd) (Cf : ClsFn K S "__init__" g) (G : FnOk P w K mg base CX0 1 g gd ["self", "size", "first_state", "mark", "parts"] (spRuI C)) (bG : Binds K gd ["self", "size", "first_state", "mark", "parts"] []) (mS : mg "Rule" = some (.ref S))
    (A1 : Df P w K mg base (CXE P w) 3 "need_number" ["thing", "low", "high"] (spNN CN) a1 d1) (A2 : Df P w K mg base CX0 1 "one_part" ["folk"] spOP a2 d2) (A3 : Df P w K mg base (CXE P w) 5 "need_coin" ["thing"] (spNC CS) a3 d3) (mF : mg "MOST_PAIRS" = some (.int 10 t)) : FnOk P w K mg base (CXE P w) 6 f fd ["self", "pairs", "coin"] (spPaI C CN CS) := by
  refine okE F scPaI (fun vs H Q E h => ?_) (fun cdv A outer s H vs Q E hr h => ?_)
  · obtain ⟨_, _, _, _, _, _, rfl, _⟩ := h
    rfl
  obtain ⟨x, u1, u2, e1, e2, dx, rfl, hx, r1, r2, q1, q2, q⟩ := h
  have hr1 : Room 1 _ := hr.mono (by decide)
  have hr3 : Room 3 _ := hr.mono (by decide)
  refine ⟨_, pss_cons (ps_expr (pe_call A1.G hr3 rfl A1.m A1.kp A1.b .nil passE (pa_cons (pv 1) (pa_cons pe_int (pa_cons (pe_glob (v := .int 10) rfl mF ⟨_, rfl⟩) pa_nil))))) (pss_cons (ps_expr (pe_call A3.G hr rfl A3.m A3.kp A3.b .nil passE (pa_cons (pv 2) pa_nil))) (pss_cons (ps_fld (pv 0) (pv 2) rfl)
    (pss_one (ps_expr (pe_clsCall Cf G hr1 rfl mS bG .nil pass0 (pa_cons (pv 0) (pa_cons (pe_op op_mul pe_int (pv 1)) (pa_cons pe_non (pa_cons (pe_tup (pa_cons pe_str (pa_cons (pv 1) (pa_cons (pv 2) pa_nil)))) (pa_cons (pe_call A2.G hr1 rfl A2.m A2.kp A2.b .nil pass0 (pa_cons (pe_op op_mul pe_int (pv 1)) pa_nil)) pa_nil)))))))))), ?_⟩
  refine ⟨_, rfl, u1, e1, 1, 10, rfl, r1, fun h1 => ?_, fun h1 => q1 h1⟩
  refine ⟨_, rfl, u2, e2, rfl, r2, fun h2 => ?_, fun h2 => q2 h1 h2⟩
  obtain ⟨n, rfl, n1, n10⟩ := inD_int h1
  obtain ⟨a, b, rfl⟩ := coin_shape h2
  cases r1
  refine ⟨_, rfl, _, rfl, x, C 1, dx, [], rfl, hx, Z.cls 1 (by decide), Z.no 1 (by decide) _ (by decide +kernel), by decide, ?_⟩
  have k1 : Kept H (upd H x (.ins (C 1) dx (putF "coin" u2 []))) x := keptUpd _
  have r2' := r2.kept hx k1
  have hx1 : upd H x (.ins (C 1) dx (putF "coin" u2 [])) x = some (.ins (C 1) dx [("coin", u2)]) := upd_same
  generalize upd H x (.ins (C 1) dx (putF "coin" u2 [])) = H1 at k1 r2' hx1 ⊢
  have cm : CMul 2 n := .inl ⟨by decide, by decide⟩
  refine ⟨_, rfl, _, rfl, _, _, rfl, rfl, cm, _, rfl, _, rfl, by show 3 ≤ sizeLine; decide, fun m hm => ⟨_, rfl, _, _, rfl, rfl, cm, 2 * n, rfl, by omega, by omega, fun l H2 x2 rl => ?_⟩⟩
  have xm := Ext.new (o := .tup [.str "pairs", .int n, u2]) hm
  have x12 := xm.trans x2
  have hm2 := x2 _ _ (show upd H1 m (.tup [.str "pairs", .int n, u2]) m = _ from upd_same)
  have hx2 := x12 _ _ hx1
  have r22 := r2'.mono x12
  refine ⟨x, _, _, _, _, 1, dx, [("coin", u2)], rfl, by decide, hx2, (by show 1 ≤ 5; decide), q n a b rfl rfl ⟨n1, n10, h2⟩ _ ((k1.trans (x12.kept x)).trans (keptUpd _)) ?_⟩
  have kk : Kept H2 (upd H2 x (.ins (C 1) dx (put4 (.int (2 * n)) .non (.ref m) (.ref l) [("coin", u2)]))) x := keptUpd _
  refine ob_put4 upd_same .non ((Rds.tup hm2 (.cons (.str _) (.cons (.int _) (.cons r22 .nil)))).kept hx2 kk) (rl.kept hx2 kk) (fun n hn => ?_) ⟨u2, ?_, r22.kept hx2 kk⟩
  · have e : n = "coin" := by simpa using hn
    rw [e]
    decide +kernel
  · rw [put4_other (by decide +kernel)]
    rfl
def spCoI (C : Nat → Addr) (CN CS : Addr) : Sp := fun vs H Q E => ∃ x u1 u2 u3 d1 d2 d3 dx, vs = [.ref x, u1, u2, u3] ∧ H x = some (.ins (C 2) dx []) ∧ Rds H u1 d1 ∧ Rds H u2 d2 ∧ Rds H u3 d3 ∧ (inD 1 20 d1 = false → ErrF CN "found" u1 H E) ∧ (inD 1 20 d1 = true → coinD d2 = false → ErrF CS "found" u2 H E) ∧ (inD 1 20 d1 = true → coinD d2 = true → inD 1 20 d3 = false → ErrF CN "found" u3 H E) ∧
  ∀ n a b f, d1 = .int n → d2 = .tuple [.int a, .int b] → d3 = .int f → (R0.coins n a b f).ok → ∀ H', Kept H H' x → Ru0 C H' (.coins n a b f) (.ref x) → Q .non H'
theorem scCoI : FnScope ["self", "folk", "coin", "far"] ["self", "folk", "coin", "far"] (defScope sCoI) := ⟨rfl, rfl, rfl, by decide +kernel, rfl, by decide +kernel, by decide +kernel⟩
theorem ok_coi {f : Addr} {fd : FuncData} {t2 : Tok} (Z : KR K C CR) (F : Fun K "__init__" "Coins.__init__" sCoI f fd) (Cf : ClsFn K S "__init__" g) (G : FnOk P w K mg base CX0 1 g gd ["self", "size", "first_state", "mark", "parts"] (spRuI C)) (bG : Binds K gd ["self", "size", "first_state", "mark", "parts"] []) (mS : mg "Rule" = some (.ref S))
    (A1 : Df P w K mg base (CXE P w) 3 "need_number" ["thing", "low", "high"] (spNN CN) a1 d1) (A2 : Df P w K mg base CX0 1 "one_part" ["folk"] spOP a2 d2) (A3 : Df P w K mg base (CXE P w) 5 "need_coin" ["thing"] (spNC CS) a3 d3) (mF : mg "MOST_FOLK" = some (.int 20 t)) (mR : mg "MOST_FAR" = some (.int 20 t2)) : FnOk P w K mg base (CXE P w) 6 f fd ["self", "folk", "coin", "far"] (spCoI C CN CS) := by
  refine okE F scCoI (fun vs H Q E h => ?_) (fun cdv A outer s H vs Q E hr h => ?_)
  · obtain ⟨_, _, _, _, _, _, _, _, rfl, _⟩ := h
    rfl
  obtain ⟨x, u1, u2, u3, e1, e2, e3, dx, rfl, hx, r1, r2, r3, q1, q2, q3, q⟩ := h
  have hr1 : Room 1 _ := hr.mono (by decide)
  have hr3 : Room 3 _ := hr.mono (by decide)
  refine ⟨_, pss_cons (ps_expr (pe_call A1.G hr3 rfl A1.m A1.kp A1.b .nil passE (pa_cons (pv 1) (pa_cons pe_int (pa_cons (pe_glob (v := .int 20) rfl mF ⟨_, rfl⟩) pa_nil))))) (pss_cons (ps_expr (pe_call A3.G hr rfl A3.m A3.kp A3.b .nil passE (pa_cons (pv 2) pa_nil))) (pss_cons (ps_expr (pe_call A1.G hr3 rfl A1.m A1.kp A1.b .nil passE (pa_cons (pv 3) (pa_cons pe_int (pa_cons (pe_glob (v := .int 20) rfl mR ⟨_, rfl⟩) pa_nil)))))
    (pss_cons (ps_fld (pv 0) (pv 2) rfl) (pss_cons (ps_fld (pv 0) (pv 3) rfl)
    (pss_one (ps_expr (pe_clsCall Cf G hr1 rfl mS bG .nil pass0 (pa_cons (pv 0) (pa_cons (pv 1) (pa_cons pe_int (pa_cons (pe_tup (pa_cons pe_str (pa_cons (pv 1) (pa_cons (pv 2) (pa_cons (pv 3) pa_nil))))) (pa_cons (pe_call A2.G hr1 rfl A2.m A2.kp A2.b .nil pass0 (pa_cons (pv 1) pa_nil)) pa_nil)))))))))))), ?_⟩
  refine ⟨_, rfl, u1, e1, 1, 20, rfl, r1, fun h1 => ?_, fun h1 => q1 h1⟩
  refine ⟨_, rfl, u2, e2, rfl, r2, fun h2 => ?_, fun h2 => q2 h1 h2⟩
  refine ⟨_, rfl, u3, e3, 1, 20, rfl, r3, fun h3 => ?_, fun h3 => q3 h1 h2 h3⟩
  obtain ⟨n, rfl, n1, n20⟩ := inD_int h1
  obtain ⟨a, b, rfl⟩ := coin_shape h2
  obtain ⟨k, rfl, k1', k20⟩ := inD_int h3
  cases r1
  cases r3
  refine ⟨_, rfl, _, rfl, x, C 2, dx, [], rfl, hx, Z.cls 2 (by decide), Z.no 2 (by decide) _ (by decide +kernel), by decide, ?_⟩
  have k1 : Kept H (upd H x (.ins (C 2) dx (putF "coin" u2 []))) x := keptUpd _
  have r2' := r2.kept hx k1
  have hx1 : upd H x (.ins (C 2) dx (putF "coin" u2 [])) x = some (.ins (C 2) dx [("coin", u2)]) := upd_same
  generalize upd H x (.ins (C 2) dx (putF "coin" u2 [])) = H1 at k1 r2' hx1 ⊢
  refine ⟨_, rfl, _, rfl, x, C 2, dx, [("coin", u2)], rfl, hx1, Z.cls 2 (by decide), Z.no 2 (by decide) _ (by decide +kernel), (by show 1 < 1000; decide), ?_⟩
  have ef : putF "far" (.int k) [(("coin" : Str), u2)] = [(("coin" : Str), u2), (("far" : Str), .int k)] := by
    show (if ("coin" : Str) = "far" then _ else _) = _
    rw [if_neg (by decide +kernel)]
    rfl
  rw [ef]
  have kf : Kept H1 (upd H1 x (.ins (C 2) dx [("coin", u2), ("far", .int k)])) x := keptUpd _
  have r2'' := r2'.kept hx1 kf
  have hx1' : upd H1 x (.ins (C 2) dx [("coin", u2), ("far", .int k)]) x = some (.ins (C 2) dx [("coin", u2), ("far", .int k)]) := upd_same
  generalize upd H1 x (.ins (C 2) dx [("coin", u2), ("far", .int k)]) = H1' at kf r2'' hx1' ⊢
  refine ⟨_, rfl, _, rfl, _, rfl, _, rfl, _, rfl, by show 4 ≤ sizeLine; decide, fun m hm => ⟨_, rfl, n, rfl, by omega, n20, fun l H2 x2 rl => ?_⟩⟩
  have xm := Ext.new (o := .tup [.str "coins", .int n, u2, .int k]) hm
  have x12 := xm.trans x2
  have hm2 := x2 _ _ (show upd H1' m (.tup [.str "coins", .int n, u2, .int k]) m = _ from upd_same)
  have hx2 := x12 _ _ hx1'
  have r22 := r2''.mono x12
  refine ⟨x, _, _, _, _, 2, dx, [("coin", u2), ("far", .int k)], rfl, by decide, hx2, (by show 2 ≤ 5; decide), q n a b k rfl rfl rfl ⟨n1, n20, h2, k1', k20⟩ _ (((k1.trans kf).trans (x12.kept x)).trans (keptUpd _)) ?_⟩
  have kk : Kept H2 (upd H2 x (.ins (C 2) dx (put4 (.int n) (.int 0) (.ref m) (.ref l) [("coin", u2), ("far", .int k)]))) x := keptUpd _
  refine ob_put4 upd_same (.int _) ((Rds.tup hm2 (.cons (.str _) (.cons (.int _) (.cons r22 (.cons (.int _) .nil))))).kept hx2 kk) (rl.kept hx2 kk) (fun n hn => ?_) ⟨⟨u2, ?_, r22.kept hx2 kk⟩, ?_⟩
  · have e : n = "coin" ∨ n = "far" := by simpa using hn
    rcases e with e | e <;> rw [e] <;> decide +kernel
  · rw [put4_other (by decide +kernel)]
    rfl
  · rw [put4_other (by decide +kernel)]
    rfl
end
end My
set_option Elab.async false
set_option linter.all false
set_option maxRecDepth 100000
set_option maxHeartbeats 1000000
namespace My
open PySem PySem.W L2
theorem wo_up {H : Hp} {p : Addr} {o : HO} : Ext (wo H p) (wo (upd H p o) p) := fun b u e => by
  have n := wo_ne e
  exact wo_at n (by rw [upd_ne n]; exact wo_ext H p _ _ e)
theorem Ext.kp {G H H' : Hp} {x : Addr} (e : Ext G H) (n : G x = none) (k : Kept H H' x) : Ext G H' := fun b o h => k b o (e b o h) fun z => by rw [z, n] at h; cases h
theorem Ext.wo {G H : Hp} {x : Addr} (e : Ext G H) (n : G x = none) : Ext G (wo H x) := fun b o h => wo_at (fun z => by rw [z, n] at h; cases h) (e b o h)
section
variable {X : Cx}
def rRng2 : List V → Hp → VK → Prop := fun vs H Q => ∃ i j : Int, vs = [.int i, .int j] ∧ ∀ r, H r = none → Q (.ref r) (upd H r (.rng i j))
theorem call_rng2 : CallR X (.type "range") rRng2 := by
  intro pins s σ H xs us Q I r h
  obtain ⟨i, j, rfl, q⟩ := h
  obtain ⟨u, v, rfl, ⟨t, rfl⟩, t', rfl⟩ := vals2 r
  refine call_range_2 ⟨.ref s.heap.objs.size, _, I.laid (t' := s.toks + 1) (o := .rng i j) (fun b o e => Heap.get?_push_of_some _ e) (Nat.le_refl _) ?_, rfl, q _ (I.hok.fresh (Nat.le_refl _))⟩
  exact ⟨_, _, _, Heap.get?_push_size _ rfl⟩
end
section
variable {X : Cx} {pins : List (Addr × Obj)} {σ : St} {H : Hp} {s : Shared} {A : Around} {Q : Value → Shared → Prop} {E : Value → Shared → Prop} {b : Bool} {tp : Addr} {dd : Option Addr} {its : List Value} {n : Nat} {sl : Array (Option Value)}
theorem isinst_tup {x : V} {u t : Value} (I : Inv X pins σ H s) (rx : RelV x u) (ty : TyOf X.K H x t) (htp : s.heap.get? tp = some ⟨.type "tuple", dd, .seq its.toArray n, sl⟩) (e : PySem.W.kitAny X.K t its = some b) (h : ∀ tk, Q (.bool b) { s with toks := tk }) :
    wpAny (model X.prog X.w) A (call (.builtin "isinstance") [u, .ref tp]) Q E s := by
  cases ty with
  | non => cases (show u = Value.none from rx); exact PySem.W.kia_tup PySem.W.kitx_none I.kIn True.intro htp e (fun z => nomatch z) h
  | bl y => cases (show u = Value.bool y from rx); exact PySem.W.kia_tup PySem.W.kitx_bool I.kIn True.intro htp e (fun z => nomatch z) h
  | int i => obtain ⟨t, q⟩ := (show ∃ t, u = Value.int i t from rx); cases q; exact PySem.W.kia_tup PySem.W.kitx_int I.kIn True.intro htp e (fun z => nomatch z) h
  | str y => obtain ⟨t, q⟩ := (show ∃ t, u = Value.str y t from rx); cases q; exact PySem.W.kia_tup PySem.W.kitx_str I.kIn True.intro htp e (fun z => nomatch z) h
  | flt y => obtain ⟨t, q⟩ := (show ∃ t, u = Value.float y t from rx); cases q; exact PySem.W.kia_tup PySem.W.kitx_float I.kIn True.intro htp e (fun z => nomatch z) h
  | @lst a xs ea =>
    cases (show u = Value.ref a from rx)
    obtain ⟨_, _, n, _, h1⟩ := (show ObjOk X.prog X.w H s.heap a (.lst xs) from I.hok a _ ea)
    exact PySem.W.kia_tup PySem.W.kitx_list I.kIn ⟨_, h1, rfl⟩ htp e (fun z => nomatch z) h
  | @frz a ob xs ea =>
    cases (show u = Value.ref a from rx)
    obtain ⟨_, _, _, n, _, h1⟩ := (show ObjOk X.prog X.w H s.heap a (.frz ob (.lst xs)) from I.hok a _ ea)
    exact PySem.W.kia_tup PySem.W.kitx_list I.kIn ⟨_, h1, rfl⟩ htp e (fun z => nomatch z) h
  | @tup a xs ea =>
    cases (show u = Value.ref a from rx)
    obtain ⟨_, _, _, p⟩ := (show ObjOk X.prog X.w H s.heap a (.tup xs) from I.hok a _ ea)
    obtain ⟨o, h1, h2, _⟩ := p
    exact PySem.W.kia_tup PySem.W.kitx_tuple I.kIn ⟨o, h1, h2⟩ htp e (fun z => nomatch z) h
  | @dK a kvs ea =>
    cases (show u = Value.ref a from rx)
    obtain ⟨_, _, vs, _, p⟩ := (show ObjOk X.prog X.w H s.heap a (.dK kvs) from I.hok a _ ea)
    obtain ⟨o, es, ep, h1, h2, _⟩ := p
    exact PySem.W.kia_tup PySem.W.kitx_dict I.kIn ⟨o, h1, h2.1⟩ htp e (fun z => nomatch z) h
  | @dT a kvs ea =>
    cases (show u = Value.ref a from rx)
    obtain ⟨_, _, xs, _, o, es, ep, h1, h2, _⟩ := (show ObjOk X.prog X.w H s.heap a (.dT kvs) from I.hok a _ ea)
    exact PySem.W.kia_tup PySem.W.kitx_dict I.kIn ⟨o, h1, h2.1⟩ htp e (fun z => nomatch z) h
  | @ins a C dx fs ea cl ha hn htk hm =>
    cases (show u = Value.ref a from rx)
    obtain ⟨mA, O, _⟩ := ins_get I.hok ea
    obtain ⟨od, J, _⟩ := O.look
    exact PySem.W.kia_tup (PySem.W.kitx_own (cl.get _) cl.hd ha hn htk hm) I.kIn J htp e (fun z => nomatch z) h
end
section
variable {X : Cx}
def rIsOn (K : Frag) : List V → Hp → VK → Prop := fun vs H Q => ∃ (x : V) (p : Addr) (cs : List Addr) (t : Value) (b : Bool), vs = [x, .ref p] ∧ TyOf K H x t ∧ H p = some (.tup (cs.map V.ref)) ∧ kitAny K t (cs.map Value.ref) = some b ∧ Q (.bl b) H
theorem call_isOn : CallR X (.builtin "isinstance") (rIsOn X.K) := by
  intro pins s σ H xs us Q I r h
  obtain ⟨x, p, cs, t, b, rfl, ty, hp, e, q⟩ := h
  obtain ⟨u, u', rfl, ru, ru'⟩ := vals2 r
  cases (show u' = Value.ref p from ru')
  obtain ⟨_, its, rv, ⟨o, h1, h2, n, h3⟩⟩ := (show ObjOk X.prog X.w H s.heap p (.tup (cs.map V.ref)) from I.hok p _ hp)
  have ei := vals_refs rv
  subst ei
  obtain ⟨c0, d0, dt0, sl0⟩ := o
  have hc0 : c0 = .type "tuple" := h2
  have hd0 : dt0 = .seq (cs.map Value.ref).toArray n := h3
  subst hc0
  subst hd0
  exact isinst_tup I ru ty h1 e fun tk => ⟨.bl b, H, I.tok _, rfl, q⟩
end
def BlkK (K : Frag) (C : Nat → Addr) (H : Hp) (v : V) (b : Bool) : Prop := ∃ t, TyOf K H v t ∧ kitAny K t [.ref (C 0), .ref (C 1), .ref (C 2)] = some b
theorem BlkK.ext {K : Frag} {C : Nat → Addr} {H H' : Hp} {v : V} {b : Bool} (h : BlkK K C H v b) (x : Ext H H') : BlkK K C H' v b := by
  obtain ⟨t, k, e⟩ := h
  exact ⟨t, My.TyOf.ext k x, e⟩
theorem kitAny3 {K : Frag} {t a b c : Value} {x y z : Bool} (h1 : kitOne K t a = some x) (h2 : kitOne K t b = some y) (h3 : kitOne K t c = some z) : kitAny K t [a, b, c] = some (x || (y || z)) := by
  cases x <;> cases y <;> cases z <;> simp [kitAny, h1, h2, h3]
theorem Ob.ty {K : Frag} {C : Nat → Addr} {CR : Addr} {H : Hp} {i : Nat} {v : V} {fk : Int} {bg tl pt : PyData} {X : List (Str × V) → Prop} (Z : KR K C CR) (hi : i < 4) (h : Ob (C i) H v fk bg tl pt X) : TyOf K H v (.ref (C i)) := by
  obtain ⟨a, dx, fs, rfl, ha, _⟩ := h.ex
  exact .ins ha (Z.cls i hi) (Z.ha i hi) Z.hn Z.htk (Z.hm i hi)
theorem blk_rule {K : Frag} {C : Nat → Addr} {CR : Addr} {H : Hp} {t : Rl} {v : V} (Z : KR K C CR) (h : Ru C H t v) : BlkK K C H v (t.kind == 0 || (t.kind == 1 || t.kind == 2)) :=
  ⟨_, h.ob.ty Z t.kind_lt, kitAny3 (Z.kk _ 0 t.kind_lt (by decide)) (Z.kk _ 1 t.kind_lt (by decide)) (Z.kk _ 2 t.kind_lt (by decide))⟩
theorem RdsAll.filter {G : Hp} {α : Type} {f : α → PyData} {p : α → Bool} {pv : V → Bool} : ∀ {ys : List V} {qs : List α}, RdsAll G ys (qs.map f) → (∀ (i : Nat) y q, ys[i]? = some y → qs[i]? = some q → pv y = p q) → RdsAll G (ys.filter pv) ((qs.filter p).map f)
  | [], [], _, _ => .nil
  | [], _ :: _, h, _ => by cases h
  | _ :: _, [], h, _ => by cases h
  | y :: ys, q :: qs, h, k => by
    cases h with
    | cons r t =>
      have e0 := k 0 y q rfl rfl
      have ih := RdsAll.filter t fun i y' q' a b => k (i + 1) y' q' a b
      cases e : p q with
      | true => rw [List.filter_cons_of_pos (by rw [e0]; exact e), List.filter_cons_of_pos e]; exact .cons r ih
      | false => rw [List.filter_cons_of_neg (by rw [e0, e]; decide), List.filter_cons_of_neg (by rw [e]; decide)]; exact ih
def Sm (ps : List (List Int)) : Prop := ps.length ≤ 20 ∧ ∀ p ∈ ps, p.length ≤ 20
theorem secs_app (n : Int) : ∀ (ns : List Int) (s : Int), secs s (ns ++ [n]) = secs s ns ++ [upI (s + ns.sum) n.toNat]
  | [], s => by simp [secs]
  | m :: ns, s => by
    show upI s m.toNat :: secs (s + m) (ns ++ [n]) = _
    rw [secs_app n ns (s + m), List.sum_cons, Int.add_assoc]
    rfl
end My
set_option Elab.async false
set_option linter.all false
set_option maxRecDepth 100000
set_option maxHeartbeats 1000000
set_option exponentiation.threshold 5000
namespace My
open PySem PySem.W L2
structure Ms (P : Program) (w : World) (K : Frag) (mg : Str → Option Value) (base : Heap) (C : Nat → Addr) : Prop where
  folk : MethS P w K mg base CX0 1 "folk" ["self"] (Is5 C) (fun _ => spFolk C)
  begin : MethS P w K mg base CX0 1 "begin" ["self"] (Is5 C) (fun _ => spBegin C)
  told : MethS P w K mg base CX0 1 "told" ["self"] (Is5 C) (fun _ => spTold C)
  blocks : MethS P w K mg base CX0 1 "blocks" ["self"] (Is5 C) (fun _ => spBlk C)
section
variable {P : Program} {w : World} {K : Frag} {mg : Str → Option Value} {base : Heap} {C : Nat → Addr} {CR : Addr}
abbrev sMBk : Stmt := top 40
def spMBk (K : Frag) (C : Nat → Addr) : Sp := fun vs H Q _ => ∃ v b, vs = [v] ∧ BlkK K C H v b ∧ ∀ H', Ext H H' → Q (.bl b) H'
theorem scMBk : FnScope ["thing"] ["thing"] (defScope sMBk) := ⟨rfl, rfl, rfl, by decide +kernel, rfl, by decide +kernel, by decide +kernel⟩
theorem ok_mbk {f : Addr} {fd : FuncData} (F : Fun K "may_be_block" "may_be_block" sMBk f fd) (m0 : mg "Split" = some (.ref (C 0))) (m1 : mg "Pairs" = some (.ref (C 1))) (m2 : mg "Coins" = some (.ref (C 2))) (mi : mg "isinstance" = none) : FnOk P w K mg base CX0 1 f fd ["thing"] (spMBk K C) := by
  refine F.ok scMBk (fun vs H Q E h => ?_) (fun cdv A outer s H vs Q E hr h => ?_)
  · obtain ⟨_, _, rfl, _⟩ := h
    rfl
  obtain ⟨v, b, rfl, bk, q⟩ := h
  refine ⟨_, pss_one (ps_ret (pe_callB call_isOn rfl mi PyProof.Rows.boot_isinstance (pa_cons (pv 0) (pa_cons (pe_tup (pa_cons (pe_glob (v := .ref (C 0)) rfl m0 rfl) (pa_cons (pe_glob (v := .ref (C 1)) rfl m1 rfl) (pa_cons (pe_glob (v := .ref (C 2)) rfl m2 rfl) pa_nil)))) pa_nil)))), ?_⟩
  refine ⟨_, rfl, by show 3 ≤ sizeLine; decide, fun p hp => ?_⟩
  have x1 := Ext.new (o := .tup [.ref (C 0), .ref (C 1), .ref (C 2)]) hp
  obtain ⟨t, ty, ka⟩ := bk.ext x1
  exact ⟨v, p, [C 0, C 1, C 2], t, b, rfl, ty, upd_same, ka, q _ x1⟩
abbrev sAB : Stmt := top 41
def BlkAll (K : Frag) (C : Nat → Addr) (H : Hp) (xs : List V) (bs : List Bool) : Prop := xs.length = bs.length ∧ ∀ (i : Nat) x b, xs[i]? = some x → bs[i]? = some b → BlkK K C H x b
def abB (n : Nat) (bs : List Bool) : Bool := (decide (1 ≤ n) && decide (n ≤ 6)) && bs.all id
def spAB (K : Frag) (C : Nat → Addr) : Sp := fun vs H Q _ => ∃ v, vs = [v] ∧ ((NoK K H v "list" ∧ ∀ H', Ext H H' → Q (.bl false) H') ∨ ∃ a xs bs, v = .ref a ∧ H a = some (.lst xs) ∧ xs.length < 1000 ∧ BlkAll K C H xs bs ∧ ∀ H', Ext H H' → Q (.bl (abB xs.length bs)) H')
theorem scAB : FnScope ["thing"] ["thing"] (defScope sAB) := ⟨rfl, rfl, rfl, by decide +kernel, rfl, by decide +kernel, by decide +kernel⟩
abbrev scABC : Scope := { kind := .function, names := [(".0", .local), ("rule", .local), ("may_be_block", .globalImplicit)], isGenerator := false, isCoroutine := false }
theorem compAB {X : Cx} : CompG X scABC [] ["rule"] [] [] := by
  refine ⟨rfl, rfl, by decide +kernel, by decide +kernel, by decide +kernel, (fun z c h => nomatch h), (fun z h => ?_), by decide +kernel, (fun k z h => by simp at h), rfl⟩
  exfalso
  have h' : List.lookup z [((".0" : Str), NameKind.local), (("rule" : Str), NameKind.local), (("may_be_block" : Str), NameKind.globalImplicit)] = some .cell ∨ List.lookup z [((".0" : Str), NameKind.local), (("rule" : Str), NameKind.local), (("may_be_block" : Str), NameKind.globalImplicit)] = some .free := h
  simp only [List.lookup_cons, List.lookup_nil] at h'
  repeat' (split at h')
  all_goals simp at h'
theorem ndAB : ((["rule"] : List Str) ++ ([] : List Str)).Nodup := by decide +kernel
theorem ok_ab {f a1 a2 : Addr} {fd d1 d2 : FuncData} {t : Tok} (N : IsT K) (F : Fun K "are_block_rules" "are_block_rules" sAB f fd) (A1 : Df P w K mg base CX0 1 "may_be_block" ["thing"] (spMBk K C) a1 d1) (A2 : Df P w K mg base CX0 2 "is_whole" ["thing", "low", "high"] (spIsWh K) a2 d2) (mR : mg "MOST_RULES" = some (.int 6 t))
    (mi : mg "isinstance" = none) (ml : mg "list" = none) (mn : mg "len" = none) (ma : mg "all" = none) : FnOk P w K mg base CX0 3 f fd ["thing"] (spAB K C) := by
  refine F.ok scAB (fun vs H Q E h => ?_) (fun cdv A outer s H vs Q E hr h => ?_)
  · obtain ⟨_, rfl, _⟩ := h
    rfl
  obtain ⟨v, rfl, h⟩ := h
  have hr1 : Room 1 _ := hr.mono (by decide)
  refine ⟨_, pss_cons (ps_if (PW.pt (pw_or (pt_not (pt_val (pe_callB (call_isK N) rfl mi PyProof.Rows.boot_isinstance (pa_cons (pv 0) (pa_cons (pe_ty rfl ml PyProof.Rows.boot_list) pa_nil))))) (pw_or1 (pt_not (pt_val (pe_call A2.G hr rfl A2.m A2.kp A2.b .nil pass0 (pa_cons (pe_callB call_len_seq rfl mn PySem.boot_len (pa_cons (pv 0) pa_nil)) (pa_cons pe_int (pa_cons (pe_glob (v := .int 6) rfl mR ⟨_, rfl⟩) pa_nil))))))))) (pss_one (ps_ret pe_bl)) pss_nil)
    (pss_one (ps_ret (pe_callB (call_all rfl) rfl ma PyProof.Rows.boot_all (pa_cons (pe_lcG (te := tCall (spMBk K C) [] E0 (tCons (tVar 0) tNil)) (g := gName 0) rfl compAB (pi_list (pv 0)) (fun s H C fp => by exact pg_name (i := 0) ndAB rfl (.inl rfl)) (fun s H C fp => by exact pe_call A1.G hr1 rfl A1.m A1.kp A1.b .nil pass0 (pa_cons (pv 0) pa_nil))) pa_nil)))), ?_⟩
  rcases h with ⟨⟨t, kd, kt⟩, q⟩ | ⟨a, xs, bs, rfl, ha, l1000, ⟨lb, bk⟩, q⟩
  · exact ⟨_, rfl, _, _, _, _, rfl, kd, kt, _, rfl, itT (itT (q H (Ext.refl _)))⟩
  refine ⟨_, rfl, _, _, _, _, rfl, .inl (.lst ha), rfl, _, rfl, itF ?_⟩
  refine ⟨_, rfl, a, xs, rfl, .inl (SqL.of ha), _, 1, 6, rfl, .inl ⟨_, rfl⟩, _, rfl, ?_⟩
  have ei : inB 1 6 (.int (xs.length : Nat)) = (decide (1 ≤ xs.length) && decide (xs.length ≤ 6)) := by
    show (decide ((1 : Int) ≤ (xs.length : Nat)) && decide (((xs.length : Nat) : Int) ≤ 6)) = _
    congr 1 <;> exact decide_eq_decide.mpr (by omega)
  rw [ei]
  unfold abB at q
  cases e : decide (1 ≤ xs.length) && decide (xs.length ≤ 6) with
  | false =>
    rw [e, Bool.false_and] at q
    exact itT (q H (Ext.refl _))
  | true =>
    rw [e, Bool.true_and] at q
    refine itF ⟨_, rfl, a, rfl, ⟨_, SqL.of ha⟩, fun D hD => ?_⟩
    refine lcG_list (a := a) (xs := xs) (fun i ys H' => Ext H H' ∧ ys = (bs.take i).map V.bl) (by rw [sizeLine_eq]; omega) ⟨Ext.new hD, rfl⟩ (fun i ys H' pv => SqL.of (pv.1 _ _ ha)) ?_ ?_
    · rintro i x ys H' ex ly hDD ⟨x', rfl⟩ os los R k
      obtain ⟨o0, rfl⟩ : ∃ o0, os = [o0] := by
        match os, los with
        | [o0], _ => exact ⟨o0, rfl⟩
      have hi : i < bs.length := by have := (List.getElem?_eq_some_iff.mp ex).1; omega
      refine ⟨⟨[some x], rfl, rfl⟩, _, rfl, x, _, rfl, (bk i x _ ex (List.getElem?_eq_getElem hi)).ext x', fun H4 x4 => k _ H4 (x4 _ _ hDD) ⟨ext_upd _ (x'.trans x4) hD, ?_⟩⟩
      rw [take_all (List.getElem?_eq_getElem hi), List.map_append]
      rfl
    · rintro ys H' ly hDD ⟨x', rfl⟩
      rw [lb, List.take_length] at hDD
      exact ⟨D, bs, rfl, SqL.of hDD, q H' x'⟩
abbrev sPO : Stmt := top 34
def spPO (C : Nat → Addr) : Sp := fun vs H Q _ => ∃ (a : Addr) (xs : List V) (rs : List R0), vs = [.ref a] ∧ H a = some (.lst xs) ∧ All0 C H rs xs ∧ rs.length ≤ 6 ∧ (∀ r ∈ rs, r.ok) ∧ ∀ l H', Ext H H' → Rds H' (.ref l) (partsD (secs 0 (rs.map R0.folk))) → Q (.ref l) H'
abbrev NPO : List Str := ["rules", "parts", "start", "rule", "behind"]
theorem scPO : FnScope NPO ["rules"] (defScope sPO) := ⟨rfl, rfl, rfl, by decide +kernel, rfl, by decide +kernel, by decide +kernel⟩
theorem sum_take {ns : List Int} {i : Nat} {n : Int} (h : ns[i]? = some n) : (ns.take (i + 1)).sum = (ns.take i).sum + n := by
  rw [take_all h, List.sum_append]
  simp
theorem folk_bound {rs : List R0} (h6 : rs.length ≤ 6) (ok : ∀ r ∈ rs, r.ok) : ∀ i, 0 ≤ (((rs.take i).map R0.folk).sum) ∧ ((rs.take i).map R0.folk).sum ≤ 120 := by
  have gen : ∀ (l : List R0), (∀ r ∈ l, r.ok) → 0 ≤ (l.map R0.folk).sum ∧ (l.map R0.folk).sum ≤ 20 * (l.length : Int) := by
    intro l
    induction l with
    | nil => intro _; simp
    | cons r l ih =>
      intro h
      have h1 := R0.folk_ok (h r (List.mem_cons_self ..))
      have h2 := ih fun x hx => h x (List.mem_cons_of_mem _ hx)
      simp only [List.map_cons, List.sum_cons, List.length_cons]
      omega
  intro i
  have := gen (rs.take i) fun r hr => ok r (List.mem_of_mem_take hr)
  have l : (rs.take i).length ≤ 6 := by rw [List.length_take]; omega
  omega
theorem ok_po {f : Addr} {fd : FuncData} (F : Fun K "parts_of" "parts_of" sPO f fd) (M : Ms P w K mg base C) (mt : mg "tuple" = none) (mr : mg "range" = none) : FnOk P w K mg base CX0 2 f fd ["rules"] (spPO C) := by
  refine F.ok scPO (fun vs H Q E h => ?_) (fun cdv A outer s H vs Q E hr h => ?_)
  · obtain ⟨_, _, _, rfl, _⟩ := h
    rfl
  obtain ⟨a, xs, rs, rfl, ha, al, l6, ok, q⟩ := h
  have nd := scPO.nd
  refine ⟨_, pss_cons (ps_set (i := 1) nd rfl (Or.inl rfl) (pe_lst pa_nil)) (pss_cons (ps_set (i := 2) nd rfl (Or.inl rfl) pe_int)
    (pss_cons (ps_for PassesOwn.never rfl (pi_list (pv 0)) (pg_name (i := 3) nd rfl (Or.inl rfl)) (pss_cons (ps_set (i := 4) nd rfl (Or.inl rfl) (pe_op op_add (pv 2) (pe_methD0 (pv 3) M.folk hr pass0)))
      (pss_cons (ps_expr (pe_bm PySem.F.plainAttrs_list PySem.F.slot_list_append PySem.F.type_list_append mt_append (pv 1) (pa_cons (pe_callTy (call_tupR rfl) rfl mt PyProof.Rows.boot_tuple (pa_cons (pe_callTy call_rng2 rfl mr PyProof.Rows.boot_range (pa_cons (pv 2) (pa_cons (pv 4) pa_nil))) pa_nil)) pa_nil)))
      (pss_one (ps_set (i := 2) nd rfl (Or.inl rfl) (pv 4))))))
    (pss_one (ps_ret (pe_callTy call_tuple_of rfl mt PyProof.Rows.boot_tuple (pa_cons (pv 1) pa_nil)))))), ?_⟩
  refine ⟨by show 0 ≤ sizeLine; decide, fun p hp => ?_⟩
  have x1 := Ext.new (o := .lst []) hp
  have f1 : upd H p (.lst []) p = some (.lst []) := upd_same
  generalize upd H p (.lst []) = H1 at x1 f1 ⊢
  have ap : a ≠ p := fun e => by rw [← e, ha] at hp; cases hp
  refine ⟨_, rfl, a, rfl, ⟨_, SqL.of (x1 _ _ ha)⟩, for_list (xs := xs) (fun i σ H' => Ext H H' ∧ (∃ qs, H' p = some (.lst qs) ∧ RdsAll (wo H' p) qs ((secs 0 ((rs.take i).map R0.folk)).map tupD)) ∧ ∃ o3 o4, σ = [some (.ref a), some (.ref p), some (.int ((rs.take i).map R0.folk).sum), o3, o4]) ⟨x1, ⟨[], f1, .nil⟩, _, _, rfl⟩ ?_ ?_ ?_⟩
  · rintro i σ H' _ ⟨x', _⟩
    exact SqL.of (x' _ _ ha)
  · rintro i v σ H' ev ⟨x', ⟨qs, hq, rq⟩, o3, o4, rfl⟩
    have hi : i < rs.length := by have := (List.getElem?_eq_some_iff.mp ev).1; rw [al.1]; exact this
    have er := List.getElem?_eq_getElem hi
    have ru := (al.2 i _ v er ev).ext x'
    have em : (rs.map R0.folk)[i]? = some rs[i].folk := by rw [List.getElem?_map, er]; rfl
    have st : ((rs.take (i + 1)).map R0.folk).sum = ((rs.take i).map R0.folk).sum + rs[i].folk := by
      rw [List.map_take, List.map_take]
      exact sum_take em
    have b1 := folk_bound l6 ok i
    have b2 := R0.folk_ok (ok _ (List.getElem_mem hi))
    have lq : qs.length ≤ 6 := by
      have := rq.length
      rw [List.length_map] at this
      have sl : ∀ (ns : List Int) (s : Int), (secs s ns).length = ns.length := by
        intro ns
        induction ns with
        | nil => intro s; rfl
        | cons n ns ih => intro s; show (secs (s + n) ns).length + 1 = _; rw [ih]; rfl
      rw [sl, List.length_map, List.length_take] at this
      omega
    refine ⟨_, rfl, rd_meth0 (t := .one rs[i]) (by decide +kernel) ru (fun R r => ⟨_, rfl, r⟩) ⟨v, .one rs[i], rfl, ru, _, _, rfl, rfl, ?_⟩⟩
    refine ⟨_, rfl, .inl ⟨rfl, _, SqL.of hq⟩, _, rfl, _, rfl, _, _, rfl, fun r hr => ⟨r, _, _, rfl, upd_same, ⟨by show -(2 ^ 62) ≤ _; omega, by omega, by show -(2 ^ 62) ≤ _ + R0.folk _; omega, by show _ + R0.folk _ < _; omega⟩, by show (_ + R0.folk _ - _).toNat ≤ _; omega, fun l hl => ?_⟩⟩
    have xr := Ext.new (o := .rng ((rs.take i).map R0.folk).sum (((rs.take i).map R0.folk).sum + rs[i].folk)) hr
    have ed : (((rs.take i).map R0.folk).sum + rs[i].folk - ((rs.take i).map R0.folk).sum).toNat = rs[i].folk.toNat := by congr 1; omega
    have ed' : (((rs.take i).map R0.folk).sum + (Rl.one rs[i]).folk - ((rs.take i).map R0.folk).sum).toNat = rs[i].folk.toNat := ed
    rw [ed', upL_eq]
    have hl' : upd H' r (.rng ((rs.take i).map R0.folk).sum (((rs.take i).map R0.folk).sum + rs[i].folk)) l = none := hl
    have xl := Ext.new (o := .tup ((upI ((rs.take i).map R0.folk).sum rs[i].folk.toNat).map V.int)) hl'
    have x2 := xr.trans xl
    have hq2 := x2 _ _ hq
    have np : l ≠ p := fun e => by rw [e, xr _ _ hq] at hl'; cases hl'
    have hl2 : upd (upd H' r (.rng ((rs.take i).map R0.folk).sum (((rs.take i).map R0.folk).sum + rs[i].folk))) l (.tup ((upI ((rs.take i).map R0.folk).sum rs[i].folk.toNat).map V.int)) l = some (.tup ((upI ((rs.take i).map R0.folk).sum rs[i].folk.toNat).map V.int)) := upd_same
    refine ⟨p, qs, .ref l, rfl, rfl, hq2, by rw [sizeLine_eq]; omega, ?_⟩
    show tAsg (tVar 4) (gName 2) _ [some (.ref a), some (.ref p), some (.int ((rs.take i).map R0.folk).sum), some v, some (.int (((rs.take i).map R0.folk).sum + rs[i].folk))] (upd (upd (upd H' r (.rng ((rs.take i).map R0.folk).sum (((rs.take i).map R0.folk).sum + rs[i].folk))) l (.tup ((upI ((rs.take i).map R0.folk).sum rs[i].folk.toNat).map V.int))) p (.lst (qs ++ [.ref l])))
    generalize upd (upd H' r (.rng ((rs.take i).map R0.folk).sum (((rs.take i).map R0.folk).sum + rs[i].folk))) l (.tup ((upI ((rs.take i).map R0.folk).sum rs[i].folk.toNat).map V.int)) = H2 at x2 hq2 hl2 ⊢
    refine ⟨_, rfl, ext_upd _ (x'.trans x2) hp, ⟨_, upd_same, ?_⟩, _, _, by rw [st]; rfl⟩
    have e1 : (secs 0 ((rs.take (i + 1)).map R0.folk)).map tupD = (secs 0 ((rs.take i).map R0.folk)).map tupD ++ [tupD (upI ((rs.take i).map R0.folk).sum rs[i].folk.toNat)] := by
      rw [take_all er, List.map_append, List.map_cons, List.map_nil, secs_app, List.map_append, Int.zero_add]
      rfl
    rw [e1]
    refine ((RdsAll.mono (wo_ex x2 p) rq).append (.cons (.tup (wo_at np hl2) (rds_intsD _ _)) .nil) |> RdsAll.mono wo_up)
  · rintro σ H' ⟨x', ⟨qs, hq, rq⟩, o3, o4, rfl⟩
    have lr : xs.length = rs.length := al.1.symm
    rw [lr, List.take_length] at rq
    refine ⟨_, rfl, p, qs, rfl, .inl ⟨SqL.of hq, fun l hl => ?_⟩⟩
    have xl := Ext.new (o := .tup qs) hl
    exact q l _ (x'.trans xl) (.tup upd_same (RdsAll.mono ((wo_ext H' p).trans xl) rq))
end
end My
set_option Elab.async false
set_option linter.all false
set_option maxRecDepth 100000
set_option maxHeartbeats 1000000
set_option exponentiation.threshold 10000
namespace My
open PySem PySem.W L2
def tIxT (K : Frag) (i : Nat) (k : Int) : TE := tOp (rIxT K) (tVar i) (tC (.int k))
def tW (K : Frag) (i : Nat) (z : Str) : TT := tB (tOp rEq (tIxT K i 0) (tC (.str z)))
section
variable {K : Frag} {H : Hp} {σ : St} {De : Ends} {i : Nat} {a : Addr} {xs : List V} {w z : Str} {t u : TS}
theorem rd_ixT {v : V} {Q : VK} (k : Nat) (si : σ[i]? = some (some (.ref a))) (ha : H a = some (.tup xs)) (hk : xs[k]? = some v) (q : Q v H) : tIxT K i (k : Nat) σ H Q := ⟨_, si, a, _, _, _, rfl, rfl, SqT.of ha, atI_nat hk, q⟩
theorem rd_w {Q : Bool → Hp → Prop} (si : σ[i]? = some (some (.ref a))) (ha : H a = some (.tup (.str w :: xs))) (q : Q (decide (V.str w = V.str z)) H) : tW K i z σ H Q := rd_ixT 0 si ha rfl ⟨rfl, _, rfl, q⟩
theorem rd_ifT (si : σ[i]? = some (some (.ref a))) (ha : H a = some (.tup (.str z :: xs))) (h : t De σ H) : tIfS (tW K i z) t u De σ H := rd_w si ha (by rw [decide_eq_true rfl]; exact itT h)
theorem rd_ifF (ne : w ≠ z) (si : σ[i]? = some (some (.ref a))) (ha : H a = some (.tup (.str w :: xs))) (h : u De σ H) : tIfS (tW K i z) t u De σ H := rd_w si ha (by rw [decide_eq_false (fun e => ne (V.str.inj e))]; exact itF h)
end
section
variable {H : Hp} {v : V}
theorem tl_split {n k : Int} (r : Rds H v (R0.split n k).told) : ∃ a, v = .ref a ∧ H a = some (.tup [.str "split", .int n, .int k]) := by
  obtain ⟨a, xs, rfl, ha, rs⟩ := rds_tup r
  cases rs with | cons r1 rs => cases rs with | cons r2 rs => cases rs with | cons r3 rs => cases rs; cases r1; cases r2; cases r3; exact ⟨a, rfl, ha⟩
theorem tl_pairs {n x y : Int} (r : Rds H v (R0.pairs n x y).told) : ∃ a c, v = .ref a ∧ H a = some (.tup [.str "pairs", .int n, c]) ∧ Rds H c (.tuple [.int x, .int y]) := by
  obtain ⟨a, xs, rfl, ha, rs⟩ := rds_tup r
  cases rs with | cons r1 rs => cases rs with | cons r2 rs => cases rs with | cons r3 rs => cases rs; cases r1; cases r2; exact ⟨a, _, rfl, ha, r3⟩
theorem tl_coins {n x y f : Int} (r : Rds H v (R0.coins n x y f).told) : ∃ a c, v = .ref a ∧ H a = some (.tup [.str "coins", .int n, c, .int f]) ∧ Rds H c (.tuple [.int x, .int y]) := by
  obtain ⟨a, xs, rfl, ha, rs⟩ := rds_tup r
  cases rs with | cons r1 rs => cases rs with | cons r2 rs => cases rs with | cons r3 rs => cases rs with | cons r4 rs => cases rs; cases r1; cases r2; cases r4; exact ⟨a, _, rfl, ha, r3⟩
theorem tl_blocks {rs0 : List R0} (r : Rds H v (Rl.blocks rs0).told) : ∃ a b ys, v = .ref a ∧ H a = some (.tup [.str "blocks", .ref b]) ∧ H b = some (.tup ys) ∧ RdsAll H ys (rs0.map R0.told) := by
  obtain ⟨a, xs, rfl, ha, rs⟩ := rds_tup r
  cases rs with | cons r1 rs => cases rs with | cons r2 rs => cases rs; cases r1; obtain ⟨b, ys, rfl, hb, ry⟩ := rds_tup r2; exact ⟨a, b, ys, rfl, ha, hb, ry⟩
end
end My
set_option Elab.async false
set_option linter.all false
set_option maxRecDepth 100000
set_option maxHeartbeats 1000000
set_option exponentiation.threshold 10000
namespace My
open PySem PySem.W L2
abbrev txI (i : Int) : Str := Str.ofString (toString i)
def coT (a b : Int) : Str := txI a ++ "/" ++ txI b
def lineT : R0 → Str
  | .split n k => "split " ++ txI k ++ " of " ++ txI n
  | .pairs n a b => "pairs " ++ txI n ++ " by " ++ coT a b
  | .coins n a b f => "coins " ++ txI n ++ " by " ++ coT a b ++ " far " ++ txI f
theorem txI_len {i : Int} (h0 : 0 ≤ i) (h1 : i ≤ 100) : (txI i).length ≤ 5 := by
  obtain ⟨n, rfl⟩ : ∃ n : Nat, i = (n : Int) := ⟨i.toNat, by omega⟩
  exact tx_small (by omega)
theorem coin_bounds {a b : Int} (h : coinD (.tuple [.int a, .int b]) = true) : 0 ≤ a ∧ a ≤ 100 ∧ 2 ≤ b ∧ b ≤ 100 ∧ a ≤ b ∧ Nat.gcd a.toNat b.toNat = 1 := by
  have h' : (((decide (1 ≤ b) && (decide (0 ≤ a) && decide (a ≤ b))) && decide (Nat.gcd a.toNat b.toNat = 1)) && (decide (2 ≤ b) && decide (b ≤ 100))) = true := h
  simp only [Bool.and_eq_true, decide_eq_true_iff] at h'
  obtain ⟨⟨⟨h1, h2, h3⟩, h4⟩, h5, h6⟩ := h'
  exact ⟨h2, by omega, h5, h6, h3, h4⟩
theorem strApp_len (a b : Str) : (a ++ b).length = a.length + b.length := strLen_append a b
theorem coT_len {a b : Int} (h : coinD (.tuple [.int a, .int b]) = true) : (coT a b).length ≤ 11 := by
  obtain ⟨a0, a1, b0, b1, _⟩ := coin_bounds h
  have := txI_len a0 a1
  have := txI_len (show 0 ≤ b by omega) b1
  have : (("/" : String) : Str).length = 1 := by decide +kernel
  unfold coT
  rw [strApp_len, strApp_len]
  omega
theorem line_len {r : R0} (ok : r.ok) : (lineT r).length ≤ 60 := by
  have s0 : (("split " : String) : Str).length = 6 := by decide +kernel
  have s1 : ((" of " : String) : Str).length = 4 := by decide +kernel
  have s2 : (("pairs " : String) : Str).length = 6 := by decide +kernel
  have s3 : ((" by " : String) : Str).length = 4 := by decide +kernel
  have s4 : (("coins " : String) : Str).length = 6 := by decide +kernel
  have s5 : ((" far " : String) : Str).length = 5 := by decide +kernel
  cases r with
  | split n k =>
    obtain ⟨h1, h2, h3, h4⟩ := ok
    have := txI_len (show 0 ≤ n by omega) (by omega)
    have := txI_len h3 (by omega)
    simp only [lineT, strApp_len]
    omega
  | pairs n a b =>
    obtain ⟨h1, h2, h3⟩ := ok
    have := txI_len (show 0 ≤ n by omega) (by omega)
    have := coT_len h3
    simp only [lineT, strApp_len]
    omega
  | coins n a b f =>
    obtain ⟨h1, h2, h3, h4, h5⟩ := ok
    have := txI_len (show 0 ≤ n by omega) (by omega)
    have := txI_len (show 0 ≤ f by omega) (by omega)
    have := coT_len h3
    simp only [lineT, strApp_len]
    omega
theorem line60 : 100 ≤ sizeLine := by decide
theorem pre_le {a b : Str} (h : (a ++ b).length ≤ sizeLine) : a.length ≤ sizeLine := by
  rw [strApp_len] at h
  omega
theorem line_le {r : R0} (ok : r.ok) : (lineT r).length ≤ sizeLine := Nat.le_trans (line_len ok) (by decide)
section
variable {P : Program} {w : World} {K : Frag} {mg : Str → Option Value} {base : Heap}
abbrev sShT : Stmt := top 23
def spShT : Sp := fun vs H Q _ => ∃ c a b, vs = [c] ∧ Rds H c (.tuple [.int a, .int b]) ∧ coinD (.tuple [.int a, .int b]) = true ∧ Q (.str (coT a b)) H
theorem scST : FnScope ["share"] ["share"] (defScope sShT) := ⟨rfl, rfl, rfl, by decide +kernel, rfl, by decide +kernel, by decide +kernel⟩
theorem ok_sht {f n0 n1 : Addr} {fd : FuncData} (F : Fun K "share_text" "share_text" sShT f fd) (T : Two K mg n0 n1) : FnOk P w K mg base CX0 1 f fd ["share"] spShT := by
  refine F.ok scST (fun vs H Q E h => ?_) (fun cdv A outer s H vs Q E hr h => ?_)
  · obtain ⟨c, a, b, rfl, _⟩ := h
    rfl
  obtain ⟨c, a, b, rfl, rc, cn, q⟩ := h
  have hu : (A.deeper (PyProof.Rows.envOfC "share_text" (defScope sShT) s.heap.objs.size f cdv)).units < cLine := hr.units0
  refine ⟨_, pss_cons (ps_if (pt_cmpR (op_eqT hu) (pv 0) (pe_glob (v := .ref n0) rfl T.m0 rfl) (nomark _)) (pss_one (ps_ret pe_str)) pss_nil)
    (pss_cons (ps_if (pt_cmpR (op_eqT hu) (pv 0) (pe_glob (v := .ref n1) rfl T.m1 rfl) (nomark _)) (pss_one (ps_ret pe_str)) pss_nil)
    (pss_one (ps_ret (pe_joinN (pj_cons (pe_fieldN (pe_ix ix_tup (pv 0) pe_int (fun _ _ => rfl))) (pj_cons pe_str (pj_cons (pe_fieldN (pe_ix ix_tup (pv 0) pe_int (fun _ _ => rfl))) pj_nil))))))), ?_⟩
  obtain ⟨p, xs, rfl, hp, r⟩ := rds_tup rc
  obtain rfl : xs = [.int a, .int b] := ints_of (p := [a, b]) r
  obtain ⟨a0, a1, b0, b1, _⟩ := coin_bounds cn
  obtain ⟨x, rfl⟩ : ∃ x : Nat, a = (x : Int) := ⟨a.toNat, by omega⟩
  obtain ⟨y, rfl⟩ : ∃ y : Nat, b = (y : Int) := ⟨b.toNat, by omega⟩
  have cl := coT_len cn
  have l60 := line60
  have L : (txI (x : Int) ++ "/" ++ txI (y : Int)).length ≤ sizeLine := by show (coT x y).length ≤ sizeLine; omega
  refine ⟨_, rfl, p, n0, _, _, rfl, rfl, SqT.of hp, .inr T.t0, rfl, rfl, _, rfl, ?_⟩
  show if (eqVs [.int x, .int y] [.int (0 : Nat), .int (1 : Nat)]) = true then _ else _
  rw [eqVs2, show decide (y = 1) = false from decide_eq_false (by omega), Bool.and_false]
  refine itF ⟨_, rfl, p, n1, _, _, rfl, rfl, SqT.of hp, .inr T.t1, rfl, rfl, _, rfl, ?_⟩
  show if (eqVs [.int x, .int y] [.int (1 : Nat), .int (1 : Nat)]) = true then _ else _
  rw [eqVs2, show decide (y = 1) = false from decide_eq_false (by omega), Bool.and_false]
  refine itF ⟨_, rfl, p, _, 0, _, rfl, rfl, SqT.of hp, atI_nat (j := 0) rfl, _, rfl, small_log (by omega) (by omega), _, rfl, ?_, _, rfl, ?_, _, rfl, p, _, 1, _, rfl, rfl, SqT.of hp, atI_nat (j := 1) rfl, _, rfl, small_log (by omega) (by omega), _, rfl, ?_, ?_, ?_⟩
  · rw [emptyApp]; exact pre_le (pre_le L)
  · rw [emptyApp]; exact pre_le L
  · rw [emptyApp]; show (coT x y).length ≤ sizeLine; omega
  · rw [emptyApp]; show (coT x y).length ≤ sizeLine; omega
  · rw [emptyApp]; exact q
abbrev sW0 : Stmt := top 44
abbrev sW1 : Stmt := top 45
abbrev sW2 : Stmt := top 46
def spW (i : Nat) : Sp := fun vs H Q _ => ∃ v r, vs = [v] ∧ Rds H v (R0.told r) ∧ r.ok ∧ r.kind = i ∧ Q (.str (lineT r)) H
theorem scW0 : FnScope ["mark"] ["mark"] (defScope sW0) := ⟨rfl, rfl, rfl, by decide +kernel, rfl, by decide +kernel, by decide +kernel⟩
theorem scW1 : FnScope ["mark"] ["mark"] (defScope sW1) := ⟨rfl, rfl, rfl, by decide +kernel, rfl, by decide +kernel, by decide +kernel⟩
theorem scW2 : FnScope ["mark"] ["mark"] (defScope sW2) := ⟨rfl, rfl, rfl, by decide +kernel, rfl, by decide +kernel, by decide +kernel⟩
theorem ok_w0 {f : Addr} {fd : FuncData} (F : Fun K "split_line" "split_line" sW0 f fd) : FnOk P w K mg base CX0 2 f fd ["mark"] (spW 0) := by
  refine F.ok scW0 (fun vs H Q E h => ?_) (fun cdv A outer s H vs Q E hr h => ?_)
  · obtain ⟨v, r, rfl, _⟩ := h
    rfl
  obtain ⟨v, r, rfl, rd, ok, ek, q⟩ := h
  refine ⟨_, pss_one (ps_ret (pe_joinN (pj_cons pe_str (pj_cons (pe_fieldN (pe_ix ix_tup (pv 0) pe_int (fun _ _ => rfl))) (pj_cons pe_str (pj_cons (pe_fieldN (pe_ix ix_tup (pv 0) pe_int (fun _ _ => rfl))) pj_nil)))))), ?_⟩
  cases r with
  | pairs _ _ _ => cases ek
  | coins _ _ _ _ => cases ek
  | split n k =>
    obtain ⟨a, rfl, ha⟩ := tl_split rd
    have L := line_le ok
    have l60 := line60
    simp only [lineT] at L
    obtain ⟨h1, h2, h3, h4⟩ := ok
    refine ⟨_, rfl, ?_, _, rfl, a, _, 2, _, rfl, rfl, SqT.of ha, atI_nat (j := 2) rfl, _, rfl, small_log (by omega) (by omega), _, rfl, ?_, _, rfl, ?_, _, rfl, a, _, 1, _, rfl, rfl, SqT.of ha, atI_nat (j := 1) rfl, _, rfl, small_log (by omega) (by omega), _, rfl, ?_, ?_, ?_⟩
    · rw [emptyApp]; exact (pre_le (pre_le (pre_le L)))
    · rw [emptyApp]; exact (pre_le (pre_le L))
    · rw [emptyApp]; exact (pre_le L)
    · rw [emptyApp]; exact L
    · rw [emptyApp]; exact L
    · rw [emptyApp]; exact q
theorem ok_w1 {f a1 : Addr} {fd d1 : FuncData} (F : Fun K "pairs_line" "pairs_line" sW1 f fd) (A1 : Df P w K mg base CX0 1 "share_text" ["share"] spShT a1 d1) : FnOk P w K mg base CX0 2 f fd ["mark"] (spW 1) := by
  refine F.ok scW1 (fun vs H Q E h => ?_) (fun cdv A outer s H vs Q E hr h => ?_)
  · obtain ⟨v, r, rfl, _⟩ := h
    rfl
  obtain ⟨v, r, rfl, rd, ok, ek, q⟩ := h
  refine ⟨_, pss_one (ps_ret (pe_joinN (pj_cons pe_str (pj_cons (pe_fieldN (pe_ix ix_tup (pv 0) pe_int (fun _ _ => rfl))) (pj_cons pe_str (pj_cons (pe_fieldS (pe_call A1.G hr rfl A1.m A1.kp A1.b .nil pass0 (pa_cons (pe_ix ix_tup (pv 0) pe_int (fun _ _ => rfl)) pa_nil))) pj_nil)))))), ?_⟩
  cases r with
  | split _ _ => cases ek
  | coins _ _ _ _ => cases ek
  | pairs n a b =>
    obtain ⟨p, c, rfl, ha, rc⟩ := tl_pairs rd
    have L := line_le ok
    have l60 := line60
    simp only [lineT] at L
    obtain ⟨h1, h2, h3⟩ := ok
    have cl := coT_len h3
    refine ⟨_, rfl, ?_, _, rfl, p, _, 1, _, rfl, rfl, SqT.of ha, atI_nat (j := 1) rfl, _, rfl, small_log (by omega) (by omega), _, rfl, ?_, _, rfl, ?_, _, rfl, p, _, 2, _, rfl, rfl, SqT.of ha, atI_nat (j := 2) rfl, c, a, b, rfl, rc, h3, _, rfl, ?_, _, rfl, ?_, ?_, ?_⟩
    · rw [emptyApp]; exact (pre_le (pre_le (pre_le L)))
    · rw [emptyApp]; exact (pre_le (pre_le L))
    · rw [emptyApp]; exact (pre_le L)
    · omega
    · rw [emptyApp]; exact L
    · rw [emptyApp]; exact L
    · rw [emptyApp]; exact q
theorem ok_w2 {f a1 : Addr} {fd d1 : FuncData} (F : Fun K "coins_line" "coins_line" sW2 f fd) (A1 : Df P w K mg base CX0 1 "share_text" ["share"] spShT a1 d1) : FnOk P w K mg base CX0 2 f fd ["mark"] (spW 2) := by
  refine F.ok scW2 (fun vs H Q E h => ?_) (fun cdv A outer s H vs Q E hr h => ?_)
  · obtain ⟨v, r, rfl, _⟩ := h
    rfl
  obtain ⟨v, r, rfl, rd, ok, ek, q⟩ := h
  refine ⟨_, pss_one (ps_ret (pe_joinN (pj_cons pe_str (pj_cons (pe_fieldN (pe_ix ix_tup (pv 0) pe_int (fun _ _ => rfl))) (pj_cons pe_str (pj_cons (pe_fieldS (pe_call A1.G hr rfl A1.m A1.kp A1.b .nil pass0 (pa_cons (pe_ix ix_tup (pv 0) pe_int (fun _ _ => rfl)) pa_nil))) (pj_cons pe_str (pj_cons (pe_fieldN (pe_ix ix_tup (pv 0) pe_int (fun _ _ => rfl))) pj_nil)))))))), ?_⟩
  cases r with
  | split _ _ => cases ek
  | pairs _ _ _ => cases ek
  | coins n a b g =>
    obtain ⟨p, c, rfl, ha, rc⟩ := tl_coins rd
    have L := line_le ok
    have l60 := line60
    simp only [lineT] at L
    obtain ⟨h1, h2, h3, h4, h5⟩ := ok
    have cl := coT_len h3
    refine ⟨_, rfl, ?_, _, rfl, p, _, 1, _, rfl, rfl, SqT.of ha, atI_nat (j := 1) rfl, _, rfl, small_log (by omega) (by omega), _, rfl, ?_, _, rfl, ?_, _, rfl, p, _, 2, _, rfl, rfl, SqT.of ha, atI_nat (j := 2) rfl, c, a, b, rfl, rc, h3, _, rfl, ?_, _, rfl, ?_, _, rfl, ?_, _, rfl, p, _, 3, _, rfl, rfl, SqT.of ha, atI_nat (j := 3) rfl, _, rfl, small_log (by omega) (by omega), _, rfl, ?_, ?_, ?_⟩
    · rw [emptyApp]; exact (pre_le (pre_le (pre_le (pre_le (pre_le L)))))
    · rw [emptyApp]; exact (pre_le (pre_le (pre_le (pre_le L))))
    · rw [emptyApp]; exact (pre_le (pre_le (pre_le L)))
    · omega
    · rw [emptyApp]; exact (pre_le (pre_le L))
    · rw [emptyApp]; exact (pre_le L)
    · rw [emptyApp]; exact L
    · rw [emptyApp]; exact L
    · rw [emptyApp]; exact q
end
end My
set_option Elab.async false
set_option linter.all false
set_option maxRecDepth 100000
set_option maxHeartbeats 1000000
set_option exponentiation.threshold 10000
namespace My
open PySem PySem.W L2
def R0.word : R0 → Str
  | .split _ _ => "split"
  | .pairs _ _ _ => "pairs"
  | .coins _ _ _ _ => "coins"
structure KW (K : Frag) (P : Params) (mg : Str → Option Value) (nm : Str) (Wd : Addr) (W : Nat → Addr) : Prop where
  m : mg nm = some (.ref Wd)
  d : FD K P Wd
  n0 : nsIn K Wd "split" = some (some (.ref (W 0)))
  n1 : nsIn K Wd "pairs" = some (some (.ref (W 1)))
  n2 : nsIn K Wd "coins" = some (some (.ref (W 2)))
theorem KW.at_ {K : Frag} {P : Params} {mg : Str → Option Value} {nm : Str} {Wd : Addr} {W : Nat → Addr} (k : KW K P mg nm Wd W) (r : R0) : nsIn K Wd r.word = some (some (.ref (W r.kind))) := by
  cases r with
  | split _ _ => exact k.n0
  | pairs _ _ _ => exact k.n1
  | coins _ _ _ _ => exact k.n2
theorem tl_w0 {H : Hp} {v : V} {r : R0} (h : Rds H v r.told) : ∃ a xs, v = .ref a ∧ H a = some (.tup (.str r.word :: xs)) := by
  cases r with
  | split n k => obtain ⟨a, e, h⟩ := tl_split h; exact ⟨a, _, e, h⟩
  | pairs n x y => obtain ⟨a, c, e, h, _⟩ := tl_pairs h; exact ⟨a, _, e, h⟩
  | coins n x y g => obtain ⟨a, c, e, h, _⟩ := tl_coins h; exact ⟨a, _, e, h⟩
theorem word_nb (r : R0) : r.word ≠ "blocks" := by cases r <;> simp only [R0.word] <;> decide +kernel
def rowsT (rs : List R0) : Str := Str.join ⟨#[10]⟩ (rs.map lineT)
def Rl.rows : Rl → List R0
  | .one r => [r]
  | .blocks rs => rs
  | .first _ _ => []
theorem nl10 : (("\n" : String) : Str) = ⟨#[10]⟩ := by decide +kernel
theorem rows_join {rs : List R0} (ok : ∀ r ∈ rs, r.ok) (l : rs.length ≤ 6) : JoinOk ("\n" : String) (rs.map lineT) = true ∧ Txt.join ("\n" : String) (rs.map lineT) = rowsT rs := by
  refine ⟨?_, ?_⟩
  · unfold JoinOk
    rw [Bool.not_eq_true']
    refine StrLaws.joinFits (B := 60) (fun y hy => ?_) ?_
    · obtain ⟨r, hr, rfl⟩ := List.mem_map.mp hy
      exact line_len (ok r hr)
    · rw [List.length_map, nl10]
      show rs.length * 60 + rs.length * 1 ≤ 16777216
      omega
  · rw [nl10]
    exact StrLaws.glued_eq_join _ _
section
variable {P : Program} {w : World} {K : Frag} {mg : Str → Option Value} {base : Heap} {C W : Nat → Addr} {CR Wd f : Addr} {fd : FuncData}
abbrev sLn : Stmt := top 48
theorem scLn : FnScope ["mark", "writer"] ["mark"] (defScope sLn) := ⟨rfl, rfl, rfl, by decide +kernel, rfl, by decide +kernel, by decide +kernel⟩
def spLn : Sp := fun vs H Q _ => ∃ v r, vs = [v] ∧ Rds H v (R0.told r) ∧ r.ok ∧ Q (.str (lineT r)) H
theorem ok_lnO (F : Fun K "line_of" "line_of" sLn f fd) (kw : KW K w.params mg "WRITERS" Wd W) (M : FnS P w K mg base CX0 2 ["mark"] W (fun i => i < 3) spW) : FnOk P w K mg base CX0 3 f fd ["mark"] spLn := by
  refine F.ok scLn (fun vs H Q E h => ?_) (fun cdv A outer s H vs Q E hr h => ?_)
  · obtain ⟨v, r, rfl, _⟩ := h
    rfl
  obtain ⟨v, r, rfl, rd, ok, q⟩ := h
  have nd := scLn.nd
  refine ⟨_, pss_cons (ps_set (i := 1) nd rfl (Or.inl rfl) (pe_ix ix_fd (pe_glob (v := .ref Wd) rfl kw.m rfl) (pe_ix ix_tup (pv 0) pe_int (fun _ _ => rfl)) (fun _ _ => rfl)))
    (pss_one (ps_ret (pe_callV (pv 1) M hr pass0 (pa_cons (pv 0) pa_nil)))), ?_⟩
  obtain ⟨a, xs, rfl, ha⟩ := tl_w0 rd
  exact ⟨_, rfl, a, _, 0, _, rfl, rfl, SqT.of ha, atI_nat (j := 0) rfl, Wd, r.word, W r.kind, rfl, rfl, kw.d, kw.at_ r, _, rfl, r.kind, rfl, r.kind_lt, _, rfl, _, r, rfl, rd, ok, rfl, q⟩
abbrev sRt : Stmt := top 49
abbrev NRt : List Str := ["rule", "mark", "marks"]
theorem scRt : FnScope NRt ["rule"] (defScope sRt) := ⟨rfl, rfl, rfl, by decide +kernel, rfl, by decide +kernel, by decide +kernel⟩
def spRt (C : Nat → Addr) : Sp := fun vs H Q _ => ∃ v t, vs = [v] ∧ Ru C H t v ∧ t.ok ∧ (∀ u m, t ≠ .first u m) ∧ ∀ H', Ext H H' → Q (.str (rowsT t.rows)) H'
abbrev scRtC : Scope := { kind := .function, names := [(".0", .local), ("each", .local), ("line_of", .globalImplicit)], isGenerator := false, isCoroutine := false }
theorem compRt {X : Cx} : CompG X scRtC [] ["each"] [] [] := by
  refine ⟨rfl, rfl, by decide +kernel, by decide +kernel, by decide +kernel, (fun z c h => nomatch h), (fun z h => ?_), by decide +kernel, (fun k z h => by simp at h), rfl⟩
  exfalso
  have h' : List.lookup z [((".0" : Str), NameKind.local), (("each" : Str), NameKind.local), (("line_of" : Str), NameKind.globalImplicit)] = some .cell ∨ List.lookup z [((".0" : Str), NameKind.local), (("each" : Str), NameKind.local), (("line_of" : Str), NameKind.globalImplicit)] = some .free := h
  simp only [List.lookup_cons, List.lookup_nil] at h'
  repeat' (split at h')
  all_goals simp at h'
theorem ndEa : (["each"] : List Str).Nodup := by decide +kernel
theorem lc_lines {K : Frag} {H1 : Hp} {D b : Addr} {ys : List V} {rs : List R0} {Q : Hp → Prop} (hb : H1 b = some (.tup ys)) (ry : RdsAll H1 ys (rs.map R0.told)) (ok : ∀ r ∈ rs, r.ok) (l6 : rs.length ≤ 6) (hD : H1 D = none) (hd : ∀ H, Ext H1 H → H D = some (.lst ((rs.map lineT).map V.str)) → Q H) :
    ∃ W : Nat → Nat → List V → Hp → Prop, (∃ m, W 0 m [] (upd H1 D (.lst []))) ∧
      ∀ i m ys H2, W i m ys H2 → H2 D = some (.lst ys) ∧ (((Itt K b).stop i H2 ∧ Q H2) ∨ ((Itt K b).go i H2 ∧ ys.length < sizeLine ∧
        ∀ x H3, (Itt K b).yld i H2 x H3 → ∀ os : St, os.length = 1 → gName 0 x (os ++ []) H3 fun σ2 H0 => (∃ os' : St, os'.length = 1 ∧ σ2 = os' ++ []) ∧ tCall spLn [] E0 (tCons (tVar 0) tNil) σ2 H0 fun y H4 => H4 D = some (.lst ys) ∧ ∃ m', m' < m ∧ W (i + 1) m' (ys ++ [y]) (upd H4 D (.lst (ys ++ [y]))))) := by
  have ly := ry.length
  rw [List.length_map] at ly
  refine lcG_tup (a := b) (xs := ys) (fun i zs H' => Ext H1 H' ∧ zs = ((rs.take i).map lineT).map V.str) (by rw [sizeLine_eq]; omega) ⟨Ext.new hD, rfl⟩ (fun i zs H' pv => SqT.of (pv.1 _ _ hb)) ?_ ?_
  · rintro i x zs H' ex lz hDD ⟨x', rfl⟩ os los R k
    obtain ⟨o0, rfl⟩ : ∃ o0, os = [o0] := by
      match os, los with
      | [o0], _ => exact ⟨o0, rfl⟩
    have hi : i < rs.length := by have := (List.getElem?_eq_some_iff.mp ex).1; omega
    have er := List.getElem?_eq_getElem hi
    obtain ⟨d, ed, rd⟩ := ry.get ex
    rw [List.getElem?_map, er] at ed
    cases ed
    refine ⟨⟨[some x], rfl, rfl⟩, _, rfl, x, rs[i], rfl, rd.mono x', ok _ (List.getElem_mem hi), k _ H' hDD ⟨ext_upd _ x' hD, ?_⟩⟩
    rw [take_all er, List.map_append, List.map_append]
    rfl
  · rintro zs H' lz hDD ⟨x', rfl⟩
    rw [ly, List.take_length] at hDD
    exact hd H' x' hDD
theorem ok_rt {a1 : Addr} {d1 : FuncData} (F : Fun K "rule_text" "rule_text" sRt f fd) (M : Ms P w K mg base C) (A1 : Df P w K mg base CX0 3 "line_of" ["mark"] spLn a1 d1) : FnOk P w K mg base CX0 4 f fd ["rule"] (spRt C) := by
  refine F.ok scRt (fun vs H Q E h => ?_) (fun cdv A outer s H vs Q E hr h => ?_)
  · obtain ⟨v, t, rfl, _⟩ := h
    rfl
  obtain ⟨v, t, rfl, ru, ok, nf, q⟩ := h
  have nd := scRt.nd
  have hr1 : Room 1 _ := hr.mono (by decide)
  refine ⟨tSeq (tAsg (tMethD (Is5 C) "told" (fun _ => spTold C) E0 (tVar 0) tNil) (gName 1)) (tSeq (tAsg (tIf (tW K 1 "blocks") (tIxT K 1 1) (tTup (tCons (tVar 1) tNil))) (gName 2)) (tRet (tBM K "str" (rJoin K) (tC (.str "\n")) (tCons (tLCG (iTup K (tVar 2)) 1 [] (gName 0) (tCall spLn [] E0 (tCons (tVar 0) tNil))) tNil)))),
    pss_cons (ps_set (i := 1) nd rfl (Or.inl rfl) (pe_methD0 (pv 0) M.told hr1 pass0))
    (pss_cons (ps_set (i := 2) nd rfl (Or.inl rfl) (pe_ifExp (pt_cmpR op_eq (pe_ix ix_tup (pv 1) pe_int (fun _ _ => rfl)) pe_str (nomark _)) (pe_ix ix_tup (pv 1) pe_int (fun _ _ => rfl)) (pe_tup (pa_cons (pv 1) pa_nil))))
    (pss_one (ps_ret (pe_bm PySem.F.plainAttrs_str PySem.F.slot_str_join PySem.F.type_str_join mt_join pe_str (pa_cons (pe_lcG (te := tCall spLn [] E0 (tCons (tVar 0) tNil)) (g := gName 0) rfl compRt (pi_tup (pv 2)) (fun s H C fp => by exact pg_name (i := 0) ndEa rfl (.inl rfl)) (fun s H C fp => by exact pe_call A1.G hr rfl A1.m A1.kp A1.b .nil pass0 (pa_cons (pv 0) pa_nil))) pa_nil))))), ?_⟩
  refine rd_set (i := 1) (D := ⟨_, Q, _, _⟩) (rd_meth0 (by decide +kernel) ru (fun R r => ⟨_, rfl, r⟩) ⟨_, t, H, rfl, Ext.refl _, ru, fun b rb => ?_⟩)
  show tSeq (tAsg (tIf (tW K 1 "blocks") (tIxT K 1 1) (tTup (tCons (tVar 1) tNil))) (gName 2)) _ _ [some v, some b, none] H
  have fin : ∀ (l : Addr) (ys : List V) (rs : List R0) (H1 : Hp), Ext H H1 → H1 l = some (.tup ys) → RdsAll H1 ys (rs.map R0.told) → (∀ r ∈ rs, r.ok) → rs.length ≤ 6 → t.rows = rs → tRet (tBM K "str" (rJoin K) (tC (.str "\n")) (tCons (tLCG (iTup K (tVar 2)) 1 [] (gName 0) (tCall spLn [] E0 (tCons (tVar 0) tNil))) tNil)) ⟨fun _ H' => Q .non H', Q, fun _ _ => False, fun _ _ => False⟩ [some v, some b, some (.ref l)] H1 := by
    intro l ys rs H1 x1 hl ry oks l6 et
    refine ⟨(rfl : ("str" : String) = "str"), _, rfl, l, rfl, ⟨_, SqT.of hl⟩, fun D hD => lc_lines hl ry oks l6 hD fun H2 x2 h2 => ?_⟩
    obtain ⟨j1, j2⟩ := rows_join oks l6
    refine ⟨_, D, rs.map lineT, rfl, rfl, SqL.of h2, j1, ?_⟩
    rw [j2, ← et]
    exact q H2 (x1.trans x2)
  cases t with
  | one r =>
    obtain ⟨a, xs, rfl, ha⟩ := tl_w0 rb
    refine rd_set (i := 2) (rd_w rfl ha ?_)
    rw [decide_eq_false (fun e => word_nb r (V.str.inj e))]
    refine itF ⟨_, rfl, by show 1 ≤ sizeLine; decide, fun l hl => ?_⟩
    have x1 := Ext.new (o := .tup [V.ref a]) hl
    exact fin l [.ref a] [r] _ x1 upd_same (.cons (rb.mono x1) .nil) (fun r' hr' => by rw [List.mem_singleton.mp hr']; exact ok) (by show 1 ≤ 6; decide) rfl
  | blocks rs =>
    obtain ⟨a, b', ys, rfl, ha, hb, ry⟩ := tl_blocks rb
    obtain ⟨o1, o6, oo, _⟩ := ok
    refine rd_set (i := 2) (rd_w rfl ha ?_)
    rw [decide_eq_true rfl]
    exact itT (rd_ixT 1 rfl ha rfl (fin b' ys rs H (Ext.refl _) hb ry oo o6 rfl))
  | first u m => exact absurd rfl (nf u m)
end
end My
set_option Elab.async false
set_option linter.all false
set_option maxRecDepth 100000
set_option maxHeartbeats 1000000
set_option exponentiation.threshold 10000
namespace My
open PySem PySem.W L2
def wordsT : R0 → List Str
  | .split n k => ["split", txI k, "of", txI n]
  | .pairs n a b => ["pairs", txI n, "by", coT a b]
  | .coins n a b f => ["coins", txI n, "by", coT a b, "far", txI f]
theorem cs_split_ : cs ("split " : String) = cs ("split" : String) ++ [32] := by decide +kernel
theorem cs_pairs_ : cs ("pairs " : String) = cs ("pairs" : String) ++ [32] := by decide +kernel
theorem cs_coins_ : cs ("coins " : String) = cs ("coins" : String) ++ [32] := by decide +kernel
theorem cs_of_ : cs (" of " : String) = [32] ++ cs ("of" : String) ++ [32] := by decide +kernel
theorem cs_by_ : cs (" by " : String) = [32] ++ cs ("by" : String) ++ [32] := by decide +kernel
theorem cs_far_ : cs (" far " : String) = [32] ++ cs ("far" : String) ++ [32] := by decide +kernel
theorem line_words (r : R0) : lineT r = Str.join ⟨#[32]⟩ (wordsT r) := by
  refine str_ext ?_
  cases r with
  | split n k =>
    simp only [wordsT, lineT, cs_join1, cs_app, cs_split_, cs_of_]
    show _ = cs ("split" : String) ++ 32 :: (cs (txI k) ++ 32 :: (cs ("of" : String) ++ 32 :: cs (txI n)))
    simp
  | pairs n a b =>
    simp only [wordsT, lineT, cs_join1, cs_app, cs_pairs_, cs_by_]
    show _ = cs ("pairs" : String) ++ 32 :: (cs (txI n) ++ 32 :: (cs ("by" : String) ++ 32 :: cs (coT a b)))
    simp
  | coins n a b f =>
    simp only [wordsT, lineT, cs_join1, cs_app, cs_coins_, cs_by_, cs_far_]
    show _ = cs ("coins" : String) ++ 32 :: (cs (txI n) ++ 32 :: (cs ("by" : String) ++ 32 :: (cs (coT a b) ++ 32 :: (cs ("far" : String) ++ 32 :: cs (txI f)))))
    simp
def Cl (z : Str) : Prop := ∀ c ∈ cs z, c ≠ 32 ∧ c ≠ 10
theorem cl_tx {i : Int} (h : 0 ≤ i) : Cl (txI i) := fun c hc => by
  obtain ⟨n, rfl⟩ : ∃ n : Nat, i = (n : Int) := ⟨i.toNat, by omega⟩
  have := fig_iff.mp (List.all_eq_true.mp (figs_all (tx_figs n)) c hc)
  omega
theorem cl_app {a b : Str} (ha : Cl a) (hb : Cl b) : Cl (a ++ b) := fun c hc => by
  rw [cs_app] at hc
  rcases List.mem_append.mp hc with h | h
  · exact ha c h
  · exact hb c h
theorem cl_sl : Cl ("/" : String) := by
  have : (cs ("/" : String)).all (fun c => decide (c ≠ 32 ∧ c ≠ 10)) = true := by decide +kernel
  exact fun c hc => of_decide_eq_true (List.all_eq_true.mp this c hc)
theorem cl_co {a b : Int} (h : coinD (.tuple [.int a, .int b]) = true) : Cl (coT a b) := by
  obtain ⟨a0, a1, b0, b1, _⟩ := coin_bounds h
  exact cl_app (cl_app (cl_tx a0) cl_sl) (cl_tx (by omega))
theorem cl_all {ws : List Str} (h : ws.all (fun w => (cs w).all fun c => decide (c ≠ 32 ∧ c ≠ 10)) = true) : ∀ w ∈ ws, Cl w := fun w hw c hc => of_decide_eq_true (List.all_eq_true.mp (List.all_eq_true.mp h w hw) c hc)
theorem cl_words {r : R0} (ok : r.ok) : ∀ w ∈ wordsT r, Cl w := by
  have fx := cl_all (ws := ["split", "pairs", "coins", "of", "by", "far"]) (by decide +kernel)
  cases r with
  | split n k =>
    obtain ⟨h1, h2, h3, h4⟩ := ok
    intro w hw
    simp only [wordsT, List.mem_cons, List.not_mem_nil, or_false] at hw
    rcases hw with rfl | rfl | rfl | rfl
    · exact fx _ (by simp)
    · exact cl_tx h3
    · exact fx _ (by simp)
    · exact cl_tx (by omega)
  | pairs n a b =>
    obtain ⟨h1, h2, h3⟩ := ok
    intro w hw
    simp only [wordsT, List.mem_cons, List.not_mem_nil, or_false] at hw
    rcases hw with rfl | rfl | rfl | rfl
    · exact fx _ (by simp)
    · exact cl_tx (by omega)
    · exact fx _ (by simp)
    · exact cl_co h3
  | coins n a b f =>
    obtain ⟨h1, h2, h3, h4, h5⟩ := ok
    intro w hw
    simp only [wordsT, List.mem_cons, List.not_mem_nil, or_false] at hw
    rcases hw with rfl | rfl | rfl | rfl | rfl | rfl
    · exact fx _ (by simp)
    · exact cl_tx (by omega)
    · exact fx _ (by simp)
    · exact cl_co h3
    · exact fx _ (by simp)
    · exact cl_tx (by omega)
theorem words_ne (r : R0) : wordsT r ≠ [] := by cases r <;> simp [wordsT]
theorem split_line_w {r : R0} (ok : r.ok) : Txt.split (lineT r) ⟨#[32]⟩ = wordsT r := by
  rw [line_words]
  exact split_join (words_ne r) fun w hw h => (cl_words ok w hw 32 h).1 rfl
theorem join_free {d : Nat} : ∀ {ws : List Str} {c : Nat}, d ≠ c → (∀ w ∈ ws, d ∉ cs w) → d ∉ cs (Str.join ⟨#[c]⟩ ws)
  | [], _, _, _ => by simp [Str.join, cs, Str.empty]
  | [w], _, _, h => h w (List.mem_cons_self ..)
  | w :: u :: ws, c, n, h => by
    rw [cs_join1]
    intro hm
    rcases List.mem_append.mp hm with q | q
    · exact h w (List.mem_cons_self ..) q
    · rcases List.mem_cons.mp q with q | q
      · exact n q
      · exact join_free n (fun x hx => h x (List.mem_cons_of_mem _ hx)) q
theorem line_free {r : R0} (ok : r.ok) : 10 ∉ cs (lineT r) := by
  rw [line_words]
  exact join_free (by decide) fun w hw h => (cl_words ok w hw 10 h).2 rfl
theorem split_rows {rs : List R0} (h1 : 1 ≤ rs.length) (ok : ∀ r ∈ rs, r.ok) : Txt.split (rowsT rs) ⟨#[10]⟩ = rs.map lineT := by
  refine split_join (fun e => ?_) fun z hz => ?_
  · have : rs = [] := List.map_eq_nil_iff.mp e
    rw [this] at h1
    exact absurd h1 (by decide)
  · obtain ⟨r, hr, rfl⟩ := List.mem_map.mp hz
    exact line_free (ok r hr)
theorem rows_len {rs : List R0} (ok : ∀ r ∈ rs, r.ok) (l : rs.length ≤ 6) : (rowsT rs).length + 2 ≤ sizeLine := by
  have h := StrLaws.join_length_le ⟨#[10]⟩ (rs.map lineT)
  have h2 := StrLaws.sumLen_le (B := 60) (rs.map lineT) (fun y hy => by
    obtain ⟨r, hr, rfl⟩ := List.mem_map.mp hy
    exact line_len (ok r hr))
  rw [List.length_map] at h h2
  have h3 : (⟨#[10]⟩ : Str).length = 1 := rfl
  rw [h3] at h
  unfold rowsT
  have : 1000 ≤ sizeLine := by decide
  omega
theorem cnt_tx {i : Int} (h : 0 ≤ i) : oV (oN (cs (txI i))) = .int i := by
  obtain ⟨n, rfl⟩ : ∃ n : Nat, i = (n : Int) := ⟨i.toNat, by omega⟩
  have e : oN (cs (tx n)) = some n := by
    unfold oN
    rw [if_pos (tx_figs n)]
    exact congrArg some (tx_val n)
  rw [show txI ((n : Nat) : Int) = tx n from rfl, e]
  rfl
theorem co_ne {a b : Int} : coT a b ≠ "0" ∧ coT a b ≠ "1" := by
  have h : 47 ∈ cs (coT a b) := by
    unfold coT
    rw [cs_app, cs_app, show cs ("/" : String) = [47] from by decide +kernel]
    simp
  have n0 : 47 ∉ cs ("0" : String) := by decide +kernel
  have n1 : 47 ∉ cs ("1" : String) := by decide +kernel
  exact ⟨fun e => n0 (by rw [← e]; exact h), fun e => n1 (by rw [← e]; exact h)⟩
theorem co_rd {a b : Int} (h : coinD (.tuple [.int a, .int b]) = true) : rdD (coT a b) = .tuple [.int a, .int b] := by
  obtain ⟨a0, a1, b0, b1, ab, g⟩ := coin_bounds h
  obtain ⟨x, rfl⟩ : ∃ x : Nat, a = (x : Int) := ⟨a.toNat, by omega⟩
  obtain ⟨y, rfl⟩ : ∃ y : Nat, b = (y : Int) := ⟨b.toNat, by omega⟩
  rw [Int.toNat_natCast, Int.toNat_natCast] at g
  have x1 : 1 ≤ x := by
    rcases Nat.eq_zero_or_pos x with z | z
    · rw [z, Nat.gcd_zero_left] at g; omega
    · exact z
  have xy : x < y := by
    rcases Nat.lt_or_ge x y with z | z
    · exact z
    · have : x = y := by omega
      rw [this, Nat.gcd_self] at g; omega
  have e : rd (coT (x : Nat) (y : Nat)) = some (x, y) := by
    show rd (tx x ++ "/" ++ tx y) = _
    rw [rd_str, if_pos ⟨by omega, x1, xy, g⟩]
  unfold rdD
  rw [e]
end My
set_option Elab.async false
set_option linter.all false
set_option maxRecDepth 100000
set_option maxHeartbeats 1000000
set_option exponentiation.threshold 5000
namespace My
open PySem PySem.W L2
def aheadD (rs : List R0) (n : Nat) : PyData := match rs[n]? with
  | none => .tuple [.int (n : Nat), .none]
  | some r => .tuple [.int (n : Nat), r.begin]
theorem ahead0 (rs : List R0) : aheadD rs 0 = (Rl.blocks rs).begin := by cases rs <;> rfl
section
variable {P : Program} {w : World} {K : Frag} {mg : Str → Option Value} {base : Heap} {C : Nat → Addr} {CR : Addr}
abbrev sSA : Stmt := inClass (top 42) 1
def spSA (C : Nat → Addr) : Sp := fun vs H Q _ => ∃ (x : Addr) (n : Nat) (dx : Addr) (fs : List (Str × V)) (l : Addr) (ws : List V) (rs : List R0), vs = [.ref x, .int (n : Nat)] ∧ H x = some (.ins (C 3) dx fs) ∧ fs.lookup ("rules" : Str) = some (.ref l) ∧ H l = some (.tup ws) ∧ All0 C H rs ws ∧ n ≤ rs.length ∧ ∀ m H', Ext H H' → Rds H' (.ref m) (aheadD rs n) → Q (.ref m) H'
theorem scSA : FnScope ["self", "number"] ["self", "number"] (defScope sSA) := ⟨rfl, rfl, rfl, by decide +kernel, rfl, by decide +kernel, by decide +kernel⟩
theorem ok_sa {f : Addr} {fd : FuncData} (Z : KR K C CR) (F : Fun K "state_ahead" "Blocks.state_ahead" sSA f fd) (M : Ms P w K mg base C) (ml : mg "len" = none) : FnOk P w K mg base CX0 2 f fd ["self", "number"] (spSA C) := by
  refine F.ok scSA (fun vs H Q E h => ?_) (fun cdv A outer s H vs Q E hr h => ?_)
  · obtain ⟨_, _, _, _, _, _, _, rfl, _⟩ := h
    rfl
  obtain ⟨x, n, dx, fs, l, ws, rs, rfl, hx, hr', hl, al, nl, q⟩ := h
  refine ⟨_, pss_cons (ps_if (pt_cmpR op_eq (pv 1) (pe_callB call_len_seq rfl ml PySem.boot_len (pa_cons (pe_fld (pv 0) rfl) pa_nil)) (nomark _)) (pss_one (ps_ret (pe_tup (pa_cons (pv 1) (pa_cons pe_non pa_nil))))) pss_nil)
    (pss_one (ps_ret (pe_tup (pa_cons (pv 1) (pa_cons (pe_methD0 (pe_ix ix_tup (pe_fld (pv 0) rfl) (pv 1) (fun _ _ => rfl)) M.begin hr pass0) pa_nil))))), ?_⟩
  have c := Z.cls 3 (by decide)
  have no := Z.no 3 (by decide) "rules" (by decide +kernel)
  refine ⟨_, rfl, _, rfl, x, C 3, dx, fs, _, rfl, hx, c, no, hr', l, ws, rfl, .inr (SqT.of hl), rfl, _, rfl, ?_⟩
  have lw := al.1
  by_cases e : n = rs.length
  · rw [decide_eq_true (by rw [← lw, e])]
    refine itT ⟨_, rfl, by show 2 ≤ sizeLine; decide, fun m hm => q m _ (Ext.new hm) ?_⟩
    have ea : aheadD rs n = .tuple [.int (n : Nat), .none] := by unfold aheadD; rw [List.getElem?_eq_none (by omega)]
    rw [ea]
    exact .tup upd_same (.cons (.int _) (.cons .non .nil))
  · rw [decide_eq_false (by intro z; injection z with z; omega)]
    have hn : n < rs.length := by omega
    have hw : n < ws.length := by omega
    have ru := al.2 n _ _ (List.getElem?_eq_getElem hn) (List.getElem?_eq_getElem hw)
    refine itF ⟨_, rfl, rd_meth0 (t := .one rs[n]) (v := ws[n]) (by decide +kernel) ru (fun R r => ⟨_, rfl, x, C 3, dx, fs, _, rfl, hx, c, no, hr', _, rfl, l, ws, _, _, rfl, rfl, SqT.of hl, atI_nat (List.getElem?_eq_getElem hw), r⟩) ⟨_, .one rs[n], H, rfl, Ext.refl _, ru, fun b rb => ⟨by show 2 ≤ sizeLine; decide, fun m hm => q m _ (Ext.new hm) ?_⟩⟩⟩
    have ea : aheadD rs n = .tuple [.int (n : Nat), rs[n].begin] := by unfold aheadD; rw [List.getElem?_eq_getElem hn]
    rw [ea]
    exact .tup upd_same (.cons (.int _) (.cons (rb.mono (Ext.new hm)) .nil))
abbrev sBlI : Stmt := inClass (top 42) 0
abbrev NBl : List Str := ["self", "rules", "size", "mark"]
theorem scBl : FnScope NBl ["self", "rules"] (defScope sBlI) := ⟨rfl, rfl, rfl, by decide +kernel, rfl, by decide +kernel, by decide +kernel⟩
abbrev scBlC : Scope := { kind := .function, names := [(".0", .local), ("rule", .local)], isGenerator := false, isCoroutine := false }
theorem compBl {X : Cx} : CompG X scBlC [] ["rule"] [] [] := by
  refine ⟨rfl, rfl, by decide +kernel, by decide +kernel, by decide +kernel, (fun z c h => nomatch h), (fun z h => ?_), by decide +kernel, (fun k z h => by simp at h), rfl⟩
  exfalso
  have h' : List.lookup z [((".0" : Str), NameKind.local), (("rule" : Str), NameKind.local)] = some .cell ∨ List.lookup z [((".0" : Str), NameKind.local), (("rule" : Str), NameKind.local)] = some .free := h
  simp only [List.lookup_cons, List.lookup_nil] at h'
  repeat' (split at h')
  all_goals simp at h'
def spBlI (K : Frag) (C : Nat → Addr) (CT CM : Addr) : Sp := fun vs H Q E => ∃ (x : Addr) (v : V) (dx : Addr) (G : Hp), vs = [.ref x, v] ∧ H x = some (.ins (C 3) dx []) ∧ Ext G H ∧ G x = none ∧ ((NoK K G v "list" ∧ ∀ H', Ext H H' → ErrF CT "found" v H' E) ∨
  (∃ a xs bs, v = .ref a ∧ G a = some (.lst xs) ∧ xs.length < 1000 ∧ BlkAll K C G xs bs ∧ abB xs.length bs = false ∧ ∀ H', Ext H H' → ErrF CT "found" v H' E) ∨
  ∃ a xs rs, v = .ref a ∧ G a = some (.lst xs) ∧ All0 C G rs xs ∧ 1 ≤ rs.length ∧ rs.length ≤ 6 ∧ (∀ r ∈ rs, r.ok) ∧ (20 < (rs.map R0.folk).sum → ∀ H', Ext H H' → ErrF CM "many" (.int (rs.map R0.folk).sum) H' E) ∧ ((rs.map R0.folk).sum ≤ 20 → ∀ H', Kept H H' x → RuB C H' rs (.ref x) → Q .non H'))
theorem blk_all {G : Hp} {rs : List R0} {xs : List V} (Z : KR K C CR) (al : All0 C G rs xs) : BlkAll K C G xs (rs.map fun _ => true) := by
  refine ⟨by rw [List.length_map, al.1], fun i x b hx hb => ?_⟩
  have hi : i < rs.length := by have := (List.getElem?_eq_some_iff.mp hx).1; rw [al.1]; exact this
  rw [List.getElem?_map, List.getElem?_eq_getElem hi] at hb
  cases hb
  have k := blk_rule (t := .one rs[i]) Z (al.2 i _ x (List.getElem?_eq_getElem hi) hx)
  have e : ((Rl.one rs[i]).kind == 0 || ((Rl.one rs[i]).kind == 1 || (Rl.one rs[i]).kind == 2)) = true := by
    show (rs[i].kind == 0 || (rs[i].kind == 1 || rs[i].kind == 2)) = true
    cases rs[i] <;> rfl
  rw [e] at k
  exact k
theorem ab_true {n : Nat} (h1 : 1 ≤ n) (h6 : n ≤ 6) {rs : List R0} : abB n (rs.map fun _ => true) = true := by
  unfold abB
  rw [decide_eq_true h1, decide_eq_true h6, List.all_map]
  simp
variable {S g a1 a2 D CT CM fT fM : Addr} {gd d1 d2 eT eM : FuncData} {t : Tok}
def tAB (K : Frag) (C : Nat → Addr) : TE := tCall (spAB K C) [] E0 (tCons (tVar 1) tNil)
def tFk (C : Nat → Addr) : TE := tMethD (Is5 C) "folk" (fun _ => spFolk C) E0 (tVar 0) tNil
def tTd (C : Nat → Addr) : TE := tMethD (Is5 C) "told" (fun _ => spTold C) E0 (tVar 0) tNil
theorem ok_bli {f : Addr} {fd : FuncData} (Z : KR K C CR) (F : Fun K "__init__" "Blocks.__init__" sBlI f fd) (M : Ms P w K mg base C) (MA : MethS P w K mg base CX0 2 "state_ahead" ["self", "number"] (fun c => c = C 3) (fun _ => spSA C)) (B : BaseC K D) (T1 : OneF K mg D "NoTrials" "found" CT fT eT) (T2 : OneF K mg D "TooMany" "many" CM fM eM)
    (Cf : ClsFn K S "__init__" g) (G' : FnOk P w K mg base CX0 1 g gd ["self", "size", "first_state", "mark", "parts"] (spRuI C)) (bG : Binds K gd ["self", "size", "first_state", "mark", "parts"] []) (mS : mg "Rule" = some (.ref S))
    (A1 : Df P w K mg base CX0 3 "are_block_rules" ["thing"] (spAB K C) a1 d1) (A2 : Df P w K mg base CX0 2 "parts_of" ["rules"] (spPO C) a2 d2) (mF : mg "MOST_FOLK" = some (.int 20 t)) (ms : mg "sum" = none) (mt : mg "tuple" = none) : FnOk P w K mg base (CXE P w) 4 f fd ["self", "rules"] (spBlI K C CT CM) := by
  refine okE F scBl (fun vs H Q E h => ?_) (fun cdv A outer s H vs Q E hr h => ?_)
  · obtain ⟨_, _, _, _, rfl, _⟩ := h
    rfl
  obtain ⟨x, v, dx, G, rfl, hx, xG, nG, h⟩ := h
  have nd := scBl.nd
  have hr1 : Room 1 _ := hr.mono (by decide)
  have hr2 : Room 2 _ := hr.mono (by decide)
  refine ⟨_, pss_cons (ps_if (pt_not (pt_val (pe_call A1.G hr rfl A1.m A1.kp A1.b .nil pass0 (pa_cons (pv 1) pa_nil)))) (pss_one (ps_raise B T1.cls (T1.ok P w base) hr2 T1.bi rfl T1.mgC (pv 1))) pss_nil)
    (pss_cons (ps_set (i := 2) nd rfl (Or.inl rfl) (pe_callB (call_sumL rfl) rfl ms PyProof.Rows.boot_sum (pa_cons (pe_lcG (te := tFk C) (g := gName 0) rfl compBl (pi_list (pv 1)) (fun s H C fp => by exact pg_name (i := 0) ndAB rfl (.inl rfl)) (fun s H C fp => by exact pe_methD0 (pv 0) M.folk hr1 pass0)) pa_nil)))
    (pss_cons (ps_if (pt_cmpR op_gt (pv 2) (pe_glob (v := .int 20) rfl mF ⟨_, rfl⟩) (nomark _)) (pss_one (ps_raise B T2.cls (T2.ok P w base) hr2 T2.bi rfl T2.mgC (pv 2))) pss_nil)
    (pss_cons (ps_fld (pv 0) (pe_callTy call_tuple_of rfl mt PyProof.Rows.boot_tuple (pa_cons (pv 1) pa_nil)) rfl)
    (pss_cons (ps_set (i := 3) nd rfl (Or.inl rfl) (pe_tup (pa_cons pe_str (pa_cons (pe_callTy call_tuple_of rfl mt PyProof.Rows.boot_tuple (pa_cons (pe_lcG (te := tTd C) (g := gName 0) rfl compBl (pi_list (pv 1)) (fun s H C fp => by exact pg_name (i := 0) ndAB rfl (.inl rfl)) (fun s H C fp => by exact pe_methD0 (pv 0) M.told hr1 pass0)) pa_nil)) pa_nil))))
    (pss_one (ps_expr (pe_clsCall Cf G' hr1 rfl mS bG .nil pass0 (pa_cons (pv 0) (pa_cons (pv 2) (pa_cons (pe_methD (pv 0) MA hr2 pass0 (pa_cons pe_int pa_nil)) (pa_cons (pv 3) (pa_cons (pe_call A2.G hr2 rfl A2.m A2.kp A2.b .nil pass0 (pa_cons (pv 1) pa_nil)) pa_nil)))))))))))), ?_⟩
  rcases h with ⟨nk, q⟩ | ⟨a, xs, bs, rfl, ha, l1, bk, bad, q⟩ | ⟨a, xs, rs, rfl, ha, al, l1, l6, ok, qm, q⟩
  · refine ⟨_, rfl, v, rfl, .inl ⟨nk.ext xG, fun H1 x1 => ⟨_, rfl, itT ⟨_, rfl, fun e' de h1 h2 nd => qR_of nd (q H1 x1 e' de h1 h2 nd)⟩⟩⟩⟩
  · refine ⟨_, rfl, _, rfl, .inr ⟨a, xs, bs, rfl, xG _ _ ha, l1, ⟨bk.1, fun i x b h1 h2 => (bk.2 i x b h1 h2).ext xG⟩, fun H1 x1 => ⟨_, rfl, ?_⟩⟩⟩
    rw [bad]
    exact itT ⟨_, rfl, fun e' de h1 h2 nd => qR_of nd (q H1 x1 e' de h1 h2 nd)⟩
  have bk := blk_all Z al
  have lx := al.1
  refine ⟨_, rfl, _, rfl, .inr ⟨a, xs, _, rfl, xG _ _ ha, by omega, ⟨bk.1, fun i x b h1 h2 => (bk.2 i x b h1 h2).ext xG⟩, fun H1 x1 => ⟨_, rfl, ?_⟩⟩⟩
  rw [← lx, ab_true l1 l6]
  refine itF ?_
  have xG1 := xG.trans x1
  refine ⟨_, rfl, a, rfl, ⟨_, SqL.of (xG1 _ _ ha)⟩, fun D hD => ?_⟩
  refine lcG_list (a := a) (xs := xs) (fun i ys H' => Ext H1 H' ∧ ys = ((rs.take i).map R0.folk).map V.int) (by rw [sizeLine_eq]; omega) ⟨Ext.new hD, rfl⟩ (fun i ys H' pv => SqL.of ((xG1.trans pv.1) _ _ ha)) ?_ ?_
  · rintro i v ys H' ev ly hDD ⟨x', rfl⟩ os los R k
    obtain ⟨o0, rfl⟩ : ∃ o0, os = [o0] := by
      match os, los with
      | [o0], _ => exact ⟨o0, rfl⟩
    have hi : i < rs.length := by have := (List.getElem?_eq_some_iff.mp ev).1; omega
    have er := List.getElem?_eq_getElem hi
    have ru := (al.2 i _ v er ev).ext (xG1.trans x')
    refine ⟨⟨[some v], rfl, rfl⟩, rd_meth0 (t := .one rs[i]) (by decide +kernel) ru (fun R r => ⟨_, rfl, r⟩) ⟨v, .one rs[i], rfl, ru, k _ H' hDD ⟨ext_upd _ x' hD, ?_⟩⟩⟩
    rw [take_all er, List.map_append, List.map_append]
    rfl
  rintro ys H2 ly hDD ⟨x2, rfl⟩
  rw [← lx, List.take_length] at hDD
  refine ⟨D, _, rfl, SqL.of hDD, ?_⟩
  refine ⟨_, rfl, _, _, rfl, rfl, _, rfl, ?_⟩
  refine ite2 (fun c => ?_) (fun c => ?_)
  · exact ⟨_, rfl, fun e' de h1 h2 nd => qR_of nd (qm (of_decide_eq_true c) H2 (x1.trans x2) e' de h1 h2 nd)⟩
  have s20 : (rs.map R0.folk).sum ≤ 20 := by
    have : ¬ ((rs.map R0.folk).sum > 20) := fun z => c (decide_eq_true z)
    omega
  have x12 := x1.trans x2
  have xG2 := xG.trans x12
  refine ⟨_, rfl, a, xs, rfl, .inl ⟨SqL.of (xG2 _ _ ha), fun l hl => ?_⟩⟩
  have x3 := Ext.new (o := .tup xs) hl
  have hl3 : upd H2 l (.tup xs) l = some (.tup xs) := upd_same
  have hx3 := x3 _ _ (x12 _ _ hx)
  have hl0 : G l = none := by
    cases e : G l with
    | none => rfl
    | some o => rw [xG2 _ _ e] at hl; cases hl
  generalize upd H2 l (.tup xs) = H3 at x3 hl3 hx3 ⊢
  have x03 := x12.trans x3
  refine ⟨_, rfl, x, C 3, dx, [], rfl, hx3, Z.cls 3 (by decide), Z.no 3 (by decide) _ (by decide +kernel), by decide, ?_⟩
  have k4 : Kept H3 (upd H3 x (.ins (C 3) dx (putF "rules" (.ref l) []))) x := keptUpd _
  have hx4 : upd H3 x (.ins (C 3) dx (putF "rules" (.ref l) [])) x = some (.ins (C 3) dx [("rules", .ref l)]) := upd_same
  have xl : l ≠ x := fun e => by rw [e, hx3] at hl3; cases hl3
  have hl4 := k4 _ _ hl3 xl
  generalize upd H3 x (.ins (C 3) dx (putF "rules" (.ref l) [])) = H4 at k4 hx4 hl4 ⊢
  have kk4 : Kept H H4 x := (x03.kept x).trans k4
  have xG4 := xG.kp nG kk4
  refine ⟨_, rfl, a, rfl, ⟨_, SqL.of (xG4 _ _ ha)⟩, fun D2 hD2 => ?_⟩
  refine lcG_list (a := a) (xs := xs) (fun i ys H' => Ext H4 H' ∧ RdsAll G ys ((rs.take i).map R0.told)) (by rw [sizeLine_eq]; omega) ⟨Ext.new hD2, .nil⟩ (fun i ys H' pv => SqL.of ((xG4.trans pv.1) _ _ ha)) ?_ ?_
  · rintro i v ys H' ev ly hDD ⟨x', ry⟩ os los R k
    obtain ⟨o0, rfl⟩ : ∃ o0, os = [o0] := by
      match os, los with
      | [o0], _ => exact ⟨o0, rfl⟩
    have hi : i < rs.length := by have := (List.getElem?_eq_some_iff.mp ev).1; omega
    have er := List.getElem?_eq_getElem hi
    have ru0 := al.2 i _ v er ev
    have xg := xG4.trans x'
    have ru := ru0.ext xg
    refine ⟨⟨[some v], rfl, rfl⟩, rd_meth0 (t := .one rs[i]) (by decide +kernel) ru (fun R r => ⟨_, rfl, r⟩) ⟨v, .one rs[i], G, rfl, xg, ru0, fun b rb => k b H' hDD ⟨ext_upd _ x' hD2, ?_⟩⟩⟩
    rw [take_all er, List.map_append]
    exact ry.append (.cons rb .nil)
  rintro ys H5 ly hDD2 ⟨x5, ry⟩
  rw [← lx, List.take_length] at ry
  refine ⟨D2, ys, rfl, .inl ⟨SqL.of hDD2, fun m hm => ⟨by show 2 ≤ sizeLine; decide, fun k hk => ?_⟩⟩⟩
  have x6 := Ext.new (o := .tup ys) hm
  have hm6 : upd H5 m (.tup ys) m = some (.tup ys) := upd_same
  generalize upd H5 m (.tup ys) = H6 at x6 hm6 hk ⊢
  have x7 := Ext.new (o := .tup [.str "blocks", .ref m]) hk
  have hk7 : upd H6 k (.tup [.str "blocks", .ref m]) k = some (.tup [.str "blocks", .ref m]) := upd_same
  generalize upd H6 k (.tup [.str "blocks", .ref m]) = H7 at x7 hk7 ⊢
  have x47 := (x5.trans x6).trans x7
  have xG7 := xG4.trans x47
  have hx7 := x47 _ _ hx4
  have hl7 := x47 _ _ hl4
  have rk7 : Rds H7 (.ref k) (Rl.blocks rs).told := .tup hk7 (.cons (.str _) (.cons (.tup (x7 _ _ hm6) (RdsAll.mono xG7 ry)) .nil))
  have al7 := al.ext xG7
  refine ⟨_, rfl, _, rfl, _, rfl, x, C 3, dx, _, rfl, rfl, hx7, rfl, ⟨x, 0, dx, _, l, xs, rs, rfl, hx7, rfl, hl7, al7, Nat.zero_le _, fun b H8 x8 rb => ?_⟩⟩
  rw [ahead0] at rb
  refine ⟨_, rfl, _, rfl, a, xs, rs, rfl, (xG7.trans x8) _ _ ha, al7.ext x8, l6, ok, fun pr H9 x9 rp => ?_⟩
  have x79 := x8.trans x9
  have hx9 := x79 _ _ hx7
  have hl9 := x79 _ _ hl7
  refine ⟨x, _, _, _, _, 3, dx, [("rules", .ref l)], rfl, by decide, hx9, (by show 1 ≤ 5; decide), q s20 _ ((kk4.trans ((x47.trans x79).kept x)).trans (keptUpd _)) ?_⟩
  have kk : Kept H9 (upd H9 x (.ins (C 3) dx (put4 (.int (rs.map R0.folk).sum) (.ref b) (.ref k) (.ref pr) [("rules", .ref l)]))) x := keptUpd _
  have xGe := (xG7.trans x79).kp nG kk
  refine ob_put4 upd_same ((rb.mono x9).kept hx9 kk) ((rk7.mono x79).kept hx9 kk) (rp.kept hx9 kk) (fun n hn => ?_) ⟨l, xs, ?_, ?_, al.ext xGe⟩
  · have e : n = "rules" := by simpa using hn
    rw [e]
    decide +kernel
  · rw [put4_other (by decide +kernel)]
    rfl
  · exact kk _ _ hl9 xl
end
end My
set_option Elab.async false
set_option linter.all false
set_option maxRecDepth 100000
set_option maxHeartbeats 1000000
namespace My
open PySem PySem.W L2
def KpT (H H' : Hp) : Prop := ∀ b o, H b = some o → (∀ xs, o ≠ .lst xs) → H' b = some o
theorem KpT.trans {H H1 H2 : Hp} (a : KpT H H1) (b : KpT H1 H2) : KpT H H2 := fun x o h n => b x o (a x o h n) n
theorem KpT.refl (H : Hp) : KpT H H := fun _ _ h _ => h
theorem kpT_upd {H : Hp} {D : Addr} {ys : List V} (o : HO) (h : H D = some (.lst ys)) : KpT H (upd H D o) := fun b u e n => by
  rw [upd_ne (fun z => by rw [z, h] at e; cases e; exact n ys rfl)]
  exact e
mutual
def noLst : PyData → Bool
  | .list _ => false
  | .dict _ => false
  | .tuple xs => noLsts xs
  | _ => true
def noLsts : List PyData → Bool
  | [] => true
  | x :: xs => noLst x && noLsts xs
end
theorem noLsts_of : ∀ {ds : List PyData}, (∀ d ∈ ds, noLst d = true) → noLsts ds = true
  | [], _ => by simp [noLsts]
  | x :: xs, h => by
    simp only [noLsts, h x (List.mem_cons_self ..), noLsts_of fun d hd => h d (List.mem_cons_of_mem _ hd), Bool.and_self]
mutual
theorem Rds.keepT {G G' : Hp} (s : KpT G G') : ∀ {v : V} {d : PyData}, noLst d = true → Rds G v d → Rds G' v d
  | _, _, _, .non => .non
  | _, _, _, .bl b => .bl b
  | _, _, _, .int i => .int i
  | _, _, _, .str x => .str x
  | _, _, h, .lst e r => by simp [noLst] at h
  | _, _, h, .tup e r => .tup (s _ _ e (fun _ z => by cases z)) (RdsAll.keepT s (by simpa only [noLst] using h) r)
  | _, _, h, .dic0 e => by simp [noLst] at h
  | _, _, h, .dic e r => by simp [noLst] at h
theorem RdsAll.keepT {G G' : Hp} (s : KpT G G') : ∀ {vs : List V} {ds : List PyData}, noLsts ds = true → RdsAll G vs ds → RdsAll G' vs ds
  | _, _, _, .nil => .nil
  | _, _, h, .cons r t => by
    simp only [noLsts, Bool.and_eq_true] at h
    exact .cons (Rds.keepT s h.1 r) (RdsAll.keepT s h.2 t)
end
theorem R0.nl (r : R0) : noLst r.told = true := by cases r <;> simp [R0.told, noLst, noLsts]
theorem R0.nlB (r : R0) : noLst r.begin = true := by cases r <;> simp [R0.begin, noLst]
theorem Rl.nl : ∀ t : Rl, noLst t.told = true
  | .one r => r.nl
  | .blocks rs => by
    have : noLsts (rs.map R0.told) = true := noLsts_of fun d hd => by
      obtain ⟨r, _, rfl⟩ := List.mem_map.mp hd
      exact r.nl
    simp only [Rl.told, noLst, noLsts, this, Bool.and_self]
  | .first t m => by simp only [Rl.told, noLst, noLsts, t.nl, Bool.and_self]
theorem Rl.nlB : ∀ t : Rl, noLst t.begin = true
  | .one r => r.nlB
  | .blocks [] => by simp [Rl.begin, noLst, noLsts]
  | .blocks (r :: _) => by simp only [Rl.begin, noLst, noLsts, r.nlB, Bool.and_self]
  | .first t _ => t.nlB
theorem nl_ints : ∀ (ns : List Int), noLsts (ns.map PyData.int) = true
  | [] => by simp [noLsts]
  | n :: ns => by simp only [List.map_cons, noLsts, noLst, nl_ints ns, Bool.and_self]
theorem nl_parts (ps : List (List Int)) : noLst (partsD ps) = true := by
  show noLsts (ps.map tupD) = true
  refine noLsts_of fun d hd => ?_
  obtain ⟨p, _, rfl⟩ := List.mem_map.mp hd
  exact nl_ints p
theorem Ob.keepT {C : Addr} {H H' : Hp} {v : V} {fk : Int} {bg tl pt : PyData} {X Y : List (Str × V) → Prop} (h : Ob C H v fk bg tl pt X) (s : KpT H H') (n1 : noLst bg = true) (n2 : noLst tl = true) (n3 : noLst pt = true) (k : ∀ fs, X fs → Y fs) : Ob C H' v fk bg tl pt Y := by
  obtain ⟨a, dx, fs, rfl, ha, h1, ⟨b, h2, r2⟩, ⟨m, h3, r3⟩, ⟨p, h4, r4⟩, h5, h6⟩ := h.ex
  exact ⟨a, dx, fs, rfl, s _ _ ha (fun _ z => by cases z), h1, ⟨b, h2, r2.keepT s n1⟩, ⟨m, h3, r3.keepT s n2⟩, ⟨p, h4, r4.keepT s n3⟩, h5, k fs h6⟩
section
variable {C : Nat → Addr} {H H' : Hp}
theorem nl_coin {a b : Int} : noLst (.tuple [.int a, .int b]) = true := by simp [noLst, noLsts]
theorem Ru0.keepT {r : R0} {v : V} (h : Ru0 C H r v) (s : KpT H H') : Ru0 C H' r v := Ob.keepT h s r.nlB r.nl (nl_parts _) fun fs e => by
  cases r with
  | split _ _ => trivial
  | pairs _ a b =>
    obtain ⟨c, e1, e2⟩ := e
    exact ⟨c, e1, e2.keepT s nl_coin⟩
  | coins _ a b f =>
    obtain ⟨⟨c, e1, e2⟩, e3⟩ := e
    exact ⟨⟨c, e1, e2.keepT s nl_coin⟩, e3⟩
theorem All0.keepT {rs : List R0} {ws : List V} (h : All0 C H rs ws) (s : KpT H H') : All0 C H' rs ws := ⟨h.1, fun i r w a b => Ru0.keepT (h.2 i r w a b) s⟩
theorem RuB.keepT {rs : List R0} {v : V} (h : RuB C H rs v) (s : KpT H H') : RuB C H' rs v := Ob.keepT h s (Rl.nlB _) (Rl.nl _) (nl_parts _) fun fs e => by
  obtain ⟨l, ws, e1, e2, e3⟩ := e
  exact ⟨l, ws, e1, s _ _ e2 (fun _ z => by cases z), e3.keepT s⟩
theorem RuN.keepT {t : Rl} {v : V} (h : RuN C H t v) (s : KpT H H') : RuN C H' t v := by
  cases t with
  | one r => exact Ru0.keepT h s
  | blocks rs => exact RuB.keepT h s
  | first _ _ => exact h.elim
theorem Ru.keepT {t : Rl} {v : V} (h : Ru C H t v) (s : KpT H H') : Ru C H' t v := by
  cases t with
  | one r => exact Ru0.keepT h s
  | blocks rs => exact RuB.keepT h s
  | first t m => exact h.elim
theorem all0_app {rs : List R0} {ws : List V} {r : R0} {v : V} (h : All0 C H rs ws) (k : Ru0 C H r v) : All0 C H (rs ++ [r]) (ws ++ [v]) := by
  refine ⟨by rw [List.length_append, List.length_append, h.1]; rfl, fun i r' w' hr hw => ?_⟩
  rcases Nat.lt_or_ge i rs.length with lt | ge
  · rw [List.getElem?_append_left lt] at hr
    rw [List.getElem?_append_left (by rw [← h.1]; exact lt)] at hw
    exact h.2 i r' w' hr hw
  · rw [List.getElem?_append_right ge] at hr
    rw [List.getElem?_append_right (by rw [← h.1]; exact ge)] at hw
    have i0 : i = rs.length := by
      rcases Nat.lt_or_ge (i - rs.length) 1 with z | z
      · omega
      · rw [List.getElem?_eq_none (by simpa using z)] at hr; cases hr
    subst i0
    rw [Nat.sub_self] at hr
    rw [h.1, Nat.sub_self] at hw
    cases hr
    cases hw
    exact k
end
theorem made_ext {H : Hp} {x dx : Addr} {u v : HO} (hx : H x = none) (hd : H dx = none) (ne : dx ≠ x) : Ext H (upd (upd H dx u) x v) := by
  have h2 : upd H dx u x = none := by rw [upd_ne ne.symm]; exact hx
  exact (Ext.new hd).trans (Ext.new h2)
end My
set_option Elab.async false
set_option linter.all false
set_option maxRecDepth 100000
set_option maxHeartbeats 1000000
set_option exponentiation.threshold 10000
namespace My
open PySem PySem.W L2
structure Mks (P : Program) (w : World) (K : Frag) (mg : Str → Option Value) (base : Heap) (C : Nat → Addr) (CN CS CT CM : Addr) (f0 f1 f2 f3 : Addr) (e0 e1 e2 e3 : FuncData) : Prop where
  k0 : Mk K (C 0) f0
  k1 : Mk K (C 1) f1
  k2 : Mk K (C 2) f2
  k3 : Mk K (C 3) f3
  g0 : FnOk P w K mg base (CXE P w) 4 f0 e0 ["self", "folk", "ones"] (spSpI C CN)
  g1 : FnOk P w K mg base (CXE P w) 6 f1 e1 ["self", "pairs", "coin"] (spPaI C CN CS)
  g2 : FnOk P w K mg base (CXE P w) 6 f2 e2 ["self", "folk", "coin", "far"] (spCoI C CN CS)
  g3 : FnOk P w K mg base (CXE P w) 4 f3 e3 ["self", "rules"] (spBlI K C CT CM)
  b0 : Binds K e0 ["self", "folk", "ones"] []
  b1 : Binds K e1 ["self", "pairs", "coin"] []
  b2 : Binds K e2 ["self", "folk", "coin", "far"] []
  b3 : Binds K e3 ["self", "rules"] []
  m0 : mg "Split" = some (.ref (C 0))
  m1 : mg "Pairs" = some (.ref (C 1))
  m2 : mg "Coins" = some (.ref (C 2))
  m3 : mg "Blocks" = some (.ref (C 3))
section
variable {K : Frag} {C : Nat → Addr} {CN CS CT CM : Addr} {H : Hp} {σ : St} {Q : VK} {E : XK}
theorem inD_of {lo hi n : Int} (h1 : lo ≤ n) (h2 : n ≤ hi) : inD lo hi (.int n) = true := by
  show (decide (lo ≤ n) && decide (n ≤ hi)) = true
  rw [decide_eq_true h1, decide_eq_true h2]
  rfl
theorem mk_split {n k : Int} {t : TA} (ht : ∀ R : List V → Hp → Prop, R [.int n, .int k] H → t σ H R) (ok : (R0.split n k).ok) (q : ∀ x H', Ext H H' → Ru C H' (.one (.split n k)) (.ref x) → Q (.ref x) H') : tMake (C 0) (spSpI C CN) [] E0 t σ H Q :=
  ht _ fun x dx hx hd ne => by
    have xe := made_ext (u := .own x) (v := .ins (C 0) dx []) hx hd ne
    obtain ⟨o1, o2, o3, o4⟩ := id ok
    refine ⟨x, _, _, _, _, dx, rfl, upd_same, .int _, .int _, fun h => (by rw [inD_of o1 o2] at h; cases h), fun m e _ _ h => (by cases e; rw [inD_of o3 o4] at h; cases h), fun n' k' e1 e2 _ H' kp ru => ⟨rfl, ?_⟩⟩
    cases e1
    cases e2
    exact q x H' (xe.kp hx kp) ru
theorem mk_pairs {n a b : Int} {c : V} {t : TA} (ht : ∀ R : List V → Hp → Prop, R [.int n, c] H → t σ H R) (rc : Rds H c (.tuple [.int a, .int b])) (ok : (R0.pairs n a b).ok) (q : ∀ x H', Ext H H' → Ru C H' (.one (.pairs n a b)) (.ref x) → Q (.ref x) H') : tMake (C 1) (spPaI C CN CS) [] E0 t σ H Q :=
  ht _ fun x dx hx hd ne => by
    have xe := made_ext (u := .own x) (v := .ins (C 1) dx []) hx hd ne
    obtain ⟨o1, o2, o3⟩ := id ok
    refine ⟨x, _, _, _, _, dx, rfl, upd_same, .int _, rc.mono xe, fun h => (by rw [inD_of o1 o2] at h; cases h), fun _ h => (by rw [o3] at h; cases h), fun n' a' b' e1 e2 _ H' kp ru => ⟨rfl, ?_⟩⟩
    cases e1
    cases e2
    exact q x H' (xe.kp hx kp) ru
theorem mk_coins {n a b f : Int} {c : V} {t : TA} (ht : ∀ R : List V → Hp → Prop, R [.int n, c, .int f] H → t σ H R) (rc : Rds H c (.tuple [.int a, .int b])) (ok : (R0.coins n a b f).ok) (q : ∀ x H', Ext H H' → Ru C H' (.one (.coins n a b f)) (.ref x) → Q (.ref x) H') : tMake (C 2) (spCoI C CN CS) [] E0 t σ H Q :=
  ht _ fun x dx hx hd ne => by
    have xe := made_ext (u := .own x) (v := .ins (C 2) dx []) hx hd ne
    obtain ⟨o1, o2, o3, o4, o5⟩ := id ok
    refine ⟨x, _, _, _, _, _, _, dx, rfl, upd_same, .int _, rc.mono xe, .int _, fun h => (by rw [inD_of o1 o2] at h; cases h), fun _ h => (by rw [o3] at h; cases h), fun _ _ h => (by rw [inD_of o4 o5] at h; cases h), fun n' a' b' f' e1 e2 e3 _ H' kp ru => ⟨rfl, ?_⟩⟩
    cases e1
    cases e2
    cases e3
    exact q x H' (xe.kp hx kp) ru
theorem mk_blocks {l : Addr} {ws : List V} {rs : List R0} {t : TA} (ht : ∀ R : List V → Hp → Prop, R [.ref l] H → t σ H R) (hl : H l = some (.lst ws)) (al : All0 C H rs ws) (ok : (Rl.blocks rs).ok) (q : ∀ x H', Ext H H' → Ru C H' (.blocks rs) (.ref x) → Q (.ref x) H') : tMake (C 3) (spBlI K C CT CM) [] E0 t σ H Q :=
  ht _ fun x dx hx hd ne => by
    have xe := made_ext (u := .own x) (v := .ins (C 3) dx []) hx hd ne
    obtain ⟨o1, o2, o3, o4⟩ := id ok
    exact ⟨x, _, dx, H, rfl, upd_same, xe, hx, .inr (.inr ⟨l, ws, rs, rfl, hl, al, o1, o2, o3, fun h => absurd o4 (by omega), fun _ H' kp ru => ⟨rfl, q x H' (xe.kp hx kp) ru⟩⟩)⟩
end
end My
set_option Elab.async false
set_option linter.all false
set_option maxRecDepth 100000
set_option maxHeartbeats 1000000
set_option exponentiation.threshold 10000
namespace My
open PySem PySem.W L2
section
variable {P : Program} {w : World} {K : Frag} {mg : Str → Option Value} {base : Heap} {C W : Nat → Addr} {CR CN CS CT CM Wd f f0 f1 f2 f3 a1 a2 : Addr} {fd e0 e1 e2 e3 d1 d2 : FuncData}
abbrev sI0 : Stmt := top 50
abbrev sI1 : Stmt := top 51
abbrev sI2 : Stmt := top 52
def spI (C : Nat → Addr) (i : Nat) : Sp := fun vs H Q _ => ∃ l r, vs = [.ref l] ∧ H l = some (.lst ((wordsT r).map V.str)) ∧ r.ok ∧ r.kind = i ∧ ∀ x H', Ext H H' → Ru C H' (.one r) (.ref x) → Q (.ref x) H'
theorem scI0 : FnScope ["words"] ["words"] (defScope sI0) := ⟨rfl, rfl, rfl, by decide +kernel, rfl, by decide +kernel, by decide +kernel⟩
theorem scI1 : FnScope ["words"] ["words"] (defScope sI1) := ⟨rfl, rfl, rfl, by decide +kernel, rfl, by decide +kernel, by decide +kernel⟩
theorem scI2 : FnScope ["words"] ["words"] (defScope sI2) := ⟨rfl, rfl, rfl, by decide +kernel, rfl, by decide +kernel, by decide +kernel⟩
theorem ok_i0 (F : Fun K "split_in" "split_in" sI0 f fd) (L : Mks P w K mg base C CN CS CT CM f0 f1 f2 f3 e0 e1 e2 e3) (A1 : Df P w K mg base CX0 1 "count_in" ["text"] spCnt a1 d1) (ml : mg "len" = none) : FnOk P w K mg base CX0 8 f fd ["words"] (spI C 0) := by
  refine F.ok scI0 (fun vs H Q E h => ?_) (fun cdv A outer s H vs Q E hr h => ?_)
  · obtain ⟨l, r, rfl, _⟩ := h
    rfl
  obtain ⟨l, r, rfl, hl, ok, ek, q⟩ := h
  have hr1 : Room 1 _ := hr.mono (by decide)
  have hr5 : Room 5 _ := hr.mono (by decide)
  refine ⟨_, pss_cons (ps_if (PW.pt (pw_or (pt_cmpR op_ne (pe_callB call_len_seq rfl ml PySem.boot_len (pa_cons (pv 0) pa_nil)) pe_int (nomark _)) (pw_or1 (pt_cmpR op_ne (pe_ix ix_list (pv 0) pe_int (fun _ _ => rfl)) pe_str (nomark _))))) (pss_one (ps_ret pe_non)) pss_nil)
    (pss_one (ps_ret (pe_make L.k0 L.g0 hr5 rfl L.m0 L.b0 .nil passN (pa_cons (pe_call A1.G hr1 rfl A1.m A1.kp A1.b .nil pass0 (pa_cons (pe_ix ix_list (pv 0) pe_int (fun _ _ => rfl)) pa_nil)) (pa_cons (pe_call A1.G hr1 rfl A1.m A1.kp A1.b .nil pass0 (pa_cons (pe_ix ix_list (pv 0) pe_int (fun _ _ => rfl)) pa_nil)) pa_nil))))), ?_⟩
  cases r with
  | pairs _ _ _ => cases ek
  | coins _ _ _ _ => cases ek
  | split n k =>
    obtain ⟨h1, h2, h3, h4⟩ := id ok
    refine ⟨_, rfl, l, _, rfl, .inl (SqL.of hl), rfl, _, rfl, itF ?_⟩
    refine ⟨_, rfl, l, _, 2, _, rfl, rfl, SqL.of hl, atI_nat (j := 2) rfl, rfl, _, rfl, ?_⟩
    rw [decide_eq_true rfl]
    refine itF ⟨_, rfl, l, _, 3, _, rfl, rfl, SqL.of hl, atI_nat (j := 3) rfl, _, rfl, ?_⟩
    refine ⟨_, rfl, l, _, 1, _, rfl, rfl, SqL.of hl, atI_nat (j := 1) rfl, _, rfl, ?_⟩
    rw [cnt_tx h3, cnt_tx (show 0 ≤ n by omega)]
    exact mk_split (Q := Q) (σ := [some (.ref l)]) (t := fun _ H R => R [.int n, .int k] H) (fun R r => r) ok fun x H' x' ru => q x H' x' ru
theorem ok_i1 (F : Fun K "pairs_in" "pairs_in" sI1 f fd) (L : Mks P w K mg base C CN CS CT CM f0 f1 f2 f3 e0 e1 e2 e3) (A1 : Df P w K mg base CX0 1 "count_in" ["text"] spCnt a1 d1) (A2 : Df P w K mg base CX0 5 "share_in" ["thing"] spShIn a2 d2) (ml : mg "len" = none) : FnOk P w K mg base CX0 8 f fd ["words"] (spI C 1) := by
  refine F.ok scI1 (fun vs H Q E h => ?_) (fun cdv A outer s H vs Q E hr h => ?_)
  · obtain ⟨l, r, rfl, _⟩ := h
    rfl
  obtain ⟨l, r, rfl, hl, ok, ek, q⟩ := h
  have hr1 : Room 1 _ := hr.mono (by decide)
  have hr5 : Room 5 _ := hr.mono (by decide)
  refine ⟨_, pss_cons (ps_if (PW.pt (pw_or (pt_cmpR op_ne (pe_callB call_len_seq rfl ml PySem.boot_len (pa_cons (pv 0) pa_nil)) pe_int (nomark _)) (pw_or1 (pt_cmpR op_ne (pe_ix ix_list (pv 0) pe_int (fun _ _ => rfl)) pe_str (nomark _))))) (pss_one (ps_ret pe_non)) pss_nil)
    (pss_one (ps_ret (pe_make L.k1 L.g1 hr rfl L.m1 L.b1 .nil passN (pa_cons (pe_call A1.G hr1 rfl A1.m A1.kp A1.b .nil pass0 (pa_cons (pe_ix ix_list (pv 0) pe_int (fun _ _ => rfl)) pa_nil)) (pa_cons (pe_call A2.G hr5 rfl A2.m A2.kp A2.b .nil pass0 (pa_cons (pe_ix ix_list (pv 0) pe_int (fun _ _ => rfl)) pa_nil)) pa_nil))))), ?_⟩
  cases r with
  | split _ _ => cases ek
  | coins _ _ _ _ => cases ek
  | pairs n a b =>
    obtain ⟨h1, h2, h3⟩ := id ok
    have cl := coT_len h3
    have l60 := line60
    refine ⟨_, rfl, l, _, rfl, .inl (SqL.of hl), rfl, _, rfl, itF ?_⟩
    refine ⟨_, rfl, l, _, 2, _, rfl, rfl, SqL.of hl, atI_nat (j := 2) rfl, rfl, _, rfl, ?_⟩
    rw [decide_eq_true rfl]
    refine itF ⟨_, rfl, l, _, 1, _, rfl, rfl, SqL.of hl, atI_nat (j := 1) rfl, _, rfl, ?_⟩
    rw [cnt_tx (show 0 ≤ n by omega)]
    refine ⟨_, rfl, l, _, 3, _, rfl, rfl, SqL.of hl, atI_nat (j := 3) rfl, _, rfl, co_ne.1, co_ne.2, by omega, fun c H1 x1 rc => ?_⟩
    rw [co_rd h3] at rc
    exact mk_pairs (Q := Q) (σ := [some (.ref l)]) (t := fun _ _ R => R [.int n, c] H1) (fun R r => r) rc ok fun x H' x' ru => q x H' (x1.trans x') ru
theorem ok_i2 (F : Fun K "coins_in" "coins_in" sI2 f fd) (L : Mks P w K mg base C CN CS CT CM f0 f1 f2 f3 e0 e1 e2 e3) (A1 : Df P w K mg base CX0 1 "count_in" ["text"] spCnt a1 d1) (A2 : Df P w K mg base CX0 5 "share_in" ["thing"] spShIn a2 d2) (ml : mg "len" = none) : FnOk P w K mg base CX0 8 f fd ["words"] (spI C 2) := by
  refine F.ok scI2 (fun vs H Q E h => ?_) (fun cdv A outer s H vs Q E hr h => ?_)
  · obtain ⟨l, r, rfl, _⟩ := h
    rfl
  obtain ⟨l, r, rfl, hl, ok, ek, q⟩ := h
  have hr1 : Room 1 _ := hr.mono (by decide)
  have hr5 : Room 5 _ := hr.mono (by decide)
  refine ⟨_, pss_cons (ps_if (PW.pt (pw_or (pt_cmpR op_ne (pe_callB call_len_seq rfl ml PySem.boot_len (pa_cons (pv 0) pa_nil)) pe_int (nomark _)) (pw_or (pt_cmpR op_ne (pe_ix ix_list (pv 0) pe_int (fun _ _ => rfl)) pe_str (nomark _)) (pw_or1 (pt_cmpR op_ne (pe_ix ix_list (pv 0) pe_int (fun _ _ => rfl)) pe_str (nomark _)))))) (pss_one (ps_ret pe_non)) pss_nil)
    (pss_one (ps_ret (pe_make L.k2 L.g2 hr rfl L.m2 L.b2 .nil passN (pa_cons (pe_call A1.G hr1 rfl A1.m A1.kp A1.b .nil pass0 (pa_cons (pe_ix ix_list (pv 0) pe_int (fun _ _ => rfl)) pa_nil)) (pa_cons (pe_call A2.G hr5 rfl A2.m A2.kp A2.b .nil pass0 (pa_cons (pe_ix ix_list (pv 0) pe_int (fun _ _ => rfl)) pa_nil)) (pa_cons (pe_call A1.G hr1 rfl A1.m A1.kp A1.b .nil pass0 (pa_cons (pe_ix ix_list (pv 0) pe_int (fun _ _ => rfl)) pa_nil)) pa_nil)))))), ?_⟩
  cases r with
  | split _ _ => cases ek
  | pairs _ _ _ => cases ek
  | coins n a b g =>
    obtain ⟨h1, h2, h3, h4, h5⟩ := id ok
    have cl := coT_len h3
    have l60 := line60
    refine ⟨_, rfl, l, _, rfl, .inl (SqL.of hl), rfl, _, rfl, itF ?_⟩
    refine ⟨_, rfl, l, _, 2, _, rfl, rfl, SqL.of hl, atI_nat (j := 2) rfl, rfl, _, rfl, ?_⟩
    rw [decide_eq_true rfl]
    refine itF ⟨_, rfl, l, _, 4, _, rfl, rfl, SqL.of hl, atI_nat (j := 4) rfl, rfl, _, rfl, ?_⟩
    rw [decide_eq_true rfl]
    refine itF ⟨_, rfl, l, _, 1, _, rfl, rfl, SqL.of hl, atI_nat (j := 1) rfl, _, rfl, ?_⟩
    rw [cnt_tx (show 0 ≤ n by omega)]
    refine ⟨_, rfl, l, _, 3, _, rfl, rfl, SqL.of hl, atI_nat (j := 3) rfl, _, rfl, co_ne.1, co_ne.2, by omega, fun c H1 x1 rc => ?_⟩
    rw [co_rd h3] at rc
    refine ⟨_, rfl, l, _, 5, _, rfl, rfl, SqL.of (x1 _ _ hl), atI_nat (j := 5) rfl, _, rfl, ?_⟩
    rw [cnt_tx (show 0 ≤ g by omega)]
    exact mk_coins (Q := Q) (σ := [some (.ref l)]) (t := fun _ _ R => R [.int n, c, .int g] H1) (fun R r => r) rc ok fun x H' x' ru => q x H' (x1.trans x') ru
abbrev sRu : Stmt := top 54
theorem scRu : FnScope ["line", "words", "reader"] ["line"] (defScope sRu) := ⟨rfl, rfl, rfl, by decide +kernel, rfl, by decide +kernel, by decide +kernel⟩
def spRu (C : Nat → Addr) : Sp := fun vs H Q _ => ∃ r, vs = [.str (lineT r)] ∧ r.ok ∧ ∀ x H', Ext H H' → Ru C H' (.one r) (.ref x) → Q (.ref x) H'
theorem bl32 : ((" " : String) : Str) = ⟨#[32]⟩ := by decide +kernel
theorem word_at (r : R0) : ∃ ws, (wordsT r).map V.str = .str r.word :: ws := by
  cases r <;> exact ⟨_, rfl⟩
theorem ok_ru (F : Fun K "rule_in" "rule_in" sRu f fd) (kw : KW K w.params mg "READERS" Wd W) (M : FnS P w K mg base CX0 8 ["words"] W (fun i => i < 3) (spI C)) : FnOk P w K mg base CX0 9 f fd ["line"] (spRu C) := by
  refine F.ok scRu (fun vs H Q E h => ?_) (fun cdv A outer s H vs Q E hr h => ?_)
  · obtain ⟨r, rfl, _⟩ := h
    rfl
  obtain ⟨r, rfl, ok, q⟩ := h
  have nd := scRu.nd
  refine ⟨_, pss_cons (ps_set (i := 1) nd rfl (Or.inl rfl) (pe_bm PySem.F.plainAttrs_str PySem.F.slot_str_split PySem.F.type_str_split mt_split (pv 0) (pa_cons pe_str pa_nil)))
    (pss_cons (ps_if (pt_cmpR op_notFD (pe_ix ix_list (pv 1) pe_int (fun _ _ => rfl)) (pe_glob (v := .ref Wd) rfl kw.m rfl) rfl) (pss_one (ps_ret pe_non)) pss_nil)
    (pss_cons (ps_set (i := 2) nd rfl (Or.inl rfl) (pe_ix ix_fd (pe_glob (v := .ref Wd) rfl kw.m rfl) (pe_ix ix_list (pv 1) pe_int (fun _ _ => rfl)) (fun _ _ => rfl)))
    (pss_one (ps_tryQ (ps_ret (pe_callV (pv 2) M hr pass0 (pa_cons (pv 1) pa_nil))))))), ?_⟩
  have ll := line_len ok
  have l60 := line60
  refine ⟨_, rfl, (rfl : ("str" : String) = "str"), _, _, rfl, rfl, by decide +kernel, by omega, parts_len _ _ (by omega), fun l hl => ?_⟩
  rw [bl32, split_line_w ok]
  obtain ⟨ws, ew⟩ := word_at r
  have hl1 : upd H l (.lst ((wordsT r).map V.str)) l = some (.lst (.str r.word :: ws)) := by rw [← ew]; exact upd_same
  have hl2 : upd H l (.lst ((wordsT r).map V.str)) l = some (.lst ((wordsT r).map V.str)) := upd_same
  refine ⟨_, rfl, l, _, 0, _, rfl, rfl, SqL.of hl1, atI_nat (j := 0) rfl, Wd, r.word, _, rfl, rfl, kw.d, kw.at_ r, _, rfl, itF ?_⟩
  refine ⟨_, rfl, l, _, 0, _, rfl, rfl, SqL.of hl1, atI_nat (j := 0) rfl, Wd, r.word, W r.kind, rfl, rfl, kw.d, kw.at_ r, ?_⟩
  exact ⟨_, rfl, r.kind, rfl, r.kind_lt, _, rfl, l, r, rfl, hl2, ok, rfl, fun x H' x' ru => q x H' ((Ext.new hl).trans x') ru⟩
end
end My
set_option Elab.async false
set_option linter.all false
set_option maxRecDepth 100000
set_option maxHeartbeats 1000000
set_option exponentiation.threshold 10000
namespace My
open PySem PySem.W L2
def asRl : List R0 → Rl
  | [r] => .one r
  | rs => .blocks rs
theorem fk_nn {rs : List R0} (ok : ∀ r ∈ rs, r.ok) : ∀ n ∈ rs.map R0.folk, 0 ≤ n := fun n hn => by
  obtain ⟨r, hr, rfl⟩ := List.mem_map.mp hn
  have := R0.folk_ok (ok r hr)
  omega
theorem sumTk {ns : List Int} (h : ∀ n ∈ ns, 0 ≤ n) (i : Nat) : (ns.take i).sum ≤ ns.sum := by
  have e : ns.sum = (ns.take i).sum + (ns.drop i).sum := by rw [← List.sum_append, List.take_append_drop]
  have := sum_nonneg (ns := ns.drop i) fun n hn => h n (List.mem_of_mem_drop hn)
  omega
section
variable {P : Program} {w : World} {K : Frag} {mg : Str → Option Value} {base : Heap} {C : Nat → Addr} {CR CN CS CT CM f f0 f1 f2 f3 a1 : Addr} {fd e0 e1 e2 e3 d1 : FuncData} {t1 t2 : Tok}
abbrev sRR : Stmt := top 55
abbrev NRR : List Str := ["text", "rules", "folk", "number", "line", "rule"]
theorem scRR : FnScope NRR ["text"] (defScope sRR) := ⟨rfl, rfl, rfl, by decide +kernel, rfl, by decide +kernel, by decide +kernel⟩
def spRR (C : Nat → Addr) : Sp := fun vs H Q _ => ∃ rs, vs = [.str (rowsT rs)] ∧ (Rl.blocks rs).ok ∧ ∀ x H', Ext H H' → Ru C H' (asRl rs) (.ref x) → Q (.ref x) H'
def tRRa (C : Nat → Addr) : TS := tAsg (tCall (spRu C) [] E0 (tCons (tVar 4) tNil)) (gName 5)
def tRRb : TS := tIfS (tOr (tB (tIsN (tVar 5))) (tB (tOp rEq (tVar 3) (tC (.int 6))))) (fun _ _ _ => False) tNext
def tRRc (C : Nat → Addr) : TS := tAug 2 (tMethD (Is5 C) "folk" (fun _ => spFolk C) E0 (tVar 5) tNil) (ipI fun i j => i + j)
def tRRd : TS := tIfS (tB (tOp (rI0 fun i j => .bl (decide (i > j))) (tVar 2) (tC (.int 20)))) (fun _ _ _ => False) tNext
def tRRe (K : Frag) : TS := tDrop (tBM K "list" rAppend (tVar 1) (tCons (tVar 5) tNil))
def tRRT (K : Frag) (C : Nat → Addr) : TS := tSeq (tRRa C) (tSeq tRRb (tSeq (tRRc C) (tSeq tRRd (tRRe K))))
def tRR0 (K : Frag) : TS := tIfS (tNot (tB (tCB (rIsK K) (tCons (tVar 0) (tCons (tC (.ty "str")) tNil))))) (fun _ _ _ => False) tNext
def tRRF (K : Frag) (C : Nat → Addr) : TS := tFor (iEnum K (tCons (tBM K "str" rSplit (tVar 0) (tCons (tC (.str "\n")) tNil)) tNil)) (gTup K 2 (gCons (gName 3) (gCons (gName 4) gNil))) (tRRT K C)
def tRRZ (K : Frag) (C : Nat → Addr) (CT CM : Addr) : TS := tRet (tIf (tB (tOp rEq (tCB (fun xs H Q => ∃ p ys, xs = [.ref p] ∧ (SqL K H p ys ∨ SqT K H p ys) ∧ Q (.int ys.length) H) (tCons (tVar 1) tNil)) (tC (.int 1)))) (tOp (rIxL K) (tVar 1) (tC (.int 0))) (tMake (C 3) (spBlI K C CT CM) [] E0 (tCons (tVar 1) tNil)))
variable {cdv : Value} {A : Around} {outer : List Env} {s : Shared} {H : Hp} {E : XK}
theorem rr_der (N : IsT K) (L : Mks P w K mg base C CN CS CT CM f0 f1 f2 f3 e0 e1 e2 e3) (M : Ms P w K mg base C) (A1 : Df P w K mg base CX0 9 "rule_in" ["line"] (spRu C) a1 d1) (mi : mg "isinstance" = none) (ms : mg "str" = none) (me : mg "enumerate" = none) (ml : mg "len" = none) (m6 : mg "MOST_RULES" = some (.int 6 t1)) (m20 : mg "MOST_FOLK" = some (.int 20 t2))
    (hr : Room 9 (A.deeper (PyProof.Rows.envOfC "read_rule" (defScope sRR) s.heap.objs.size f cdv))) : Bx (PSs (cxOf CX0 P w K mg base NRR "read_rule" (defScope sRR) f cdv A outer s H E).nox (defBody sRR) (tSeq (tRR0 K) (tSeq (tAsg (tLst tNil) (gName 1)) (tSeq (tAsg (tC (.int 0)) (gName 2)) (tSeq (tRRF K C) (tRRZ K C CT CM)))))) := by
  have nd := scRR.nd
  have hr1 : Room 1 _ := hr.mono (by decide)
  have hr5 : Room 5 _ := hr.mono (by decide)
  exact bxs_cons ⟨ps_if (pt_not (pt_val (pe_callB (call_isK N) rfl mi PyProof.Rows.boot_isinstance (pa_cons (pv 0) (pa_cons (pe_ty rfl ms PyProof.Rows.boot_str) pa_nil))))) (pss_one ps_never) pss_nil⟩
    (bxs_cons (bx_set (i := 1) nd rfl (Or.inl rfl) ⟨pe_lst pa_nil⟩)
    (bxs_cons (bx_set (i := 2) nd rfl (Or.inl rfl) ⟨pe_int⟩)
    (bxs_cons ⟨ps_for PassesOwn.never rfl (pi_enum rfl me (pa_cons (pe_bm PySem.F.plainAttrs_str PySem.F.slot_str_split PySem.F.type_str_split mt_split (pv 0) (pa_cons pe_str pa_nil)) pa_nil)) (pg_tup rfl (pgs_cons (pg_name (i := 3) nd rfl (Or.inl rfl)) (pgs_cons (pg_name (i := 4) nd rfl (Or.inl rfl)) pgs_nil)))
      (pss_cons (ps_set (i := 5) nd rfl (Or.inl rfl) (pe_call A1.G hr rfl A1.m A1.kp A1.b .nil pass0 (pa_cons (pv 4) pa_nil)))
      (pss_cons (ps_if (PW.pt (pw_or (pt_cmp (pc_isN (pv 5))) (pw_or1 (pt_cmpR op_eq (pv 3) (pe_glob (v := .int 6) rfl m6 ⟨_, rfl⟩) (nomark _))))) (pss_one ps_never) pss_nil)
      (pss_cons (ps_aug (i := 2) nd rfl (Or.inl rfl) (pe_methD0 (pv 5) M.folk hr1 pass0) ip_add)
      (pss_cons (ps_if (pt_cmpR op_gt (pv 2) (pe_glob (v := .int 20) rfl m20 ⟨_, rfl⟩) (nomark _)) (pss_one ps_never) pss_nil)
      (pss_one (ps_expr (pe_bm PySem.F.plainAttrs_list PySem.F.slot_list_append PySem.F.type_list_append mt_append (pv 1) (pa_cons (pv 5) pa_nil))))))))⟩
    (bxs_one ⟨ps_ret (pe_ifExp (pt_cmpR op_eq (pe_callB call_len_seq rfl ml PySem.boot_len (pa_cons (pv 1) pa_nil)) pe_int (nomark _)) (pe_ix ix_list (pv 1) pe_int (fun _ _ => rfl)) (pe_make L.k3 L.g3 hr5 rfl L.m3 L.b3 .nil passN (pa_cons (pv 1) pa_nil)))⟩))))
theorem rd_rr {De : Ends} {rs : List R0} (ok : (Rl.blocks rs).ok) (q : ∀ x H', Ext H H' → Ru C H' (asRl rs) (.ref x) → De.rt (.ref x) H') : tSeq (tRR0 K) (tSeq (tAsg (tLst tNil) (gName 1)) (tSeq (tAsg (tC (.int 0)) (gName 2)) (tSeq (tRRF K C) (tRRZ K C CT CM)))) De [some (.str (rowsT rs)), none, none, none, none, none] H := by
  obtain ⟨o1, o6, oo, o20⟩ := id ok
  have rl := rows_len oo o6
  have nn := fk_nn oo
  refine ⟨_, rfl, _, _, _, _, rfl, .inl (.str _), k_ss, _, rfl, itF ?_⟩
  refine ⟨by show 0 ≤ sizeLine; decide, fun l hl => ?_⟩
  have x1 := Ext.new (o := .lst []) hl
  have gl : upd H l (.lst []) l = some (.lst []) := upd_same
  show tSeq (tRRF K C) (tRRZ K C CT CM) De [some (.str (rowsT rs)), some (.ref l), some (.int 0), none, none, none] (upd H l (.lst []))
  generalize upd H l (.lst []) = H1 at x1 gl ⊢
  refine rd_seq ⟨_, rfl, (rfl : ("str" : String) = "str"), _, _, rfl, rfl, by decide +kernel, by omega, parts_len _ _ rl, fun p hp => ?_⟩
  rw [nl10, split_rows o1 oo]
  have x2 := Ext.new (o := .lst ((rs.map lineT).map V.str)) hp
  have gp : upd H1 p (.lst ((rs.map lineT).map V.str)) p = some (.lst ((rs.map lineT).map V.str)) := upd_same
  have gl2 := x2 _ _ gl
  have lp : l ≠ p := ne_of_none gl hp
  generalize upd H1 p (.lst ((rs.map lineT).map V.str)) = H2 at x2 gp gl2 ⊢
  refine ⟨p, rfl, ⟨_, SqL.of gp⟩, ?_⟩
  refine for_enum (xs := (rs.map lineT).map V.str) (fun i σ H' => Ext H H' ∧ H' p = some (.lst ((rs.map lineT).map V.str)) ∧ ∃ ws o3 o4 o5, H' l = some (.lst ws) ∧ All0 C H' (rs.take i) ws ∧ σ = [some (.str (rowsT rs)), some (.ref l), some (.int ((rs.take i).map R0.folk).sum), o3, o4, o5])
    ⟨x1.trans x2, gp, [], none, none, none, gl2, ⟨rfl, fun i r w h => by simp at h⟩, rfl⟩ (fun i σ H' _ pv => SqL.of pv.2.1) ?_ ?_
  · rintro i x σ H' p' ex ⟨xe, hp', ws, o3, o4, o5, hl', al, rfl⟩ np
    rw [List.getElem?_map, List.getElem?_map] at ex
    have hi : i < rs.length := by
      rcases Nat.lt_or_ge i rs.length with z | z
      · exact z
      · rw [List.getElem?_eq_none z] at ex; cases ex
    have er := List.getElem?_eq_getElem hi
    rw [er] at ex
    cases ex
    have y1 := Ext.new (o := .tup [.int (i : Nat), .str (lineT rs[i])]) np
    refine ⟨p', _, rfl, SqT.of upd_same, rfl, _, _, rfl, _, _, rfl, rfl, ?_⟩
    show tRRT K C _ [some (.str (rowsT rs)), some (.ref l), some (.int ((rs.take i).map R0.folk).sum), some (.int (i : Nat)), some (.str (lineT rs[i])), o5] (upd H' p' (.tup [.int (i : Nat), .str (lineT rs[i])]))
    generalize upd H' p' (.tup [.int (i : Nat), .str (lineT rs[i])]) = H3 at y1 ⊢
    refine ⟨_, rfl, rs[i], rfl, oo _ (List.getElem_mem hi), fun y H4 y4 ru => ?_⟩
    have y14 := y1.trans y4
    have hp4 := y14 _ _ hp'
    have hl4 := y14 _ _ hl'
    have al4 := al.ext y14
    have lw := al.1
    rw [List.length_take, Nat.min_eq_left (by omega)] at lw
    have es : ((rs.take (i + 1)).map R0.folk).sum = ((rs.take i).map R0.folk).sum + rs[i].folk := by
      rw [take_all er, List.map_append, List.sum_append]
      simp
    have le20 : ((rs.take (i + 1)).map R0.folk).sum ≤ 20 := by
      rw [List.map_take]
      exact Int.le_trans (sumTk nn _) o20
    refine ⟨_, rfl, _, rfl, itF ⟨_, rfl, rfl, _, rfl, ?_⟩⟩
    rw [decide_eq_false (fun e => by injection e with e; omega)]
    refine itF ⟨_, rfl, rd_meth0 (t := .one rs[i]) (by decide +kernel) ru (fun R r => ⟨_, rfl, r⟩) ⟨_, .one rs[i], rfl, ru, _, _, rfl, rfl, ?_⟩⟩
    refine ⟨_, rfl, _, _, rfl, rfl, _, rfl, ?_⟩
    rw [show decide (((rs.take i).map R0.folk).sum + (Rl.one rs[i]).folk > 20) = false from decide_eq_false (by show ¬ (((rs.take i).map R0.folk).sum + rs[i].folk > 20); omega)]
    refine itF ⟨_, rfl, .inl ⟨rfl, _, SqL.of hl4⟩, _, rfl, l, ws, .ref y, rfl, rfl, hl4, by rw [← lw, sizeLine_eq]; omega, ?_⟩
    refine ⟨ext_upd _ (xe.trans y14) (by
      cases e : H l with
      | none => rfl
      | some o => rw [e] at hl; cases hl), by rw [upd_ne lp.symm]; exact hp4, ws ++ [.ref y], some (.int (i : Nat)), some (.str (lineT rs[i])), some (.ref y), upd_same, ?_, ?_⟩
    · rw [take_all er]
      exact (all0_app al4 ru).keepT (kpT_upd _ hl4)
    · rw [es]
      rfl
  · rintro σ H' ⟨xe, hp', ws, o3, o4, o5, hl', al, rfl⟩
    rw [List.length_map, List.length_map, List.take_length] at al
    have lw := al.1
    show tRRZ K C CT CM De [some (.str (rowsT rs)), some (.ref l), some (.int ((rs.take ((rs.map lineT).map V.str).length).map R0.folk).sum), o3, o4, o5] H'
    refine ⟨_, rfl, l, ws, rfl, .inl (SqL.of hl'), rfl, _, rfl, ?_⟩
    match rs, ok, al, lw, o1, q with
    | [], _, _, _, o1, _ => exact absurd o1 (by decide)
    | [r], ok, al, lw, o1, q =>
      obtain ⟨u, rfl⟩ : ∃ u, ws = [u] := by
        match ws, lw with
        | [u], _ => exact ⟨u, rfl⟩
      have ru : Ru C H' (.one r) u := al.2 0 r u rfl rfl
      obtain ⟨a, rfl⟩ := Ru.ref ru
      refine itT ⟨_, rfl, l, _, 0, _, rfl, rfl, SqL.of hl', atI_nat (j := 0) rfl, q a H' xe ru⟩
    | r :: r' :: rs', ok, al, lw, o1, q =>
      have ne : decide (V.int (ws.length : Nat) = V.int 1) = false := decide_eq_false (fun e => by
        injection e with e
        rw [← lw] at e
        simp at e
        omega)
      rw [ne]
      exact itF (mk_blocks (K := K) (CT := CT) (CM := CM) (Q := De.rt) (σ := [some (.str (rowsT (r :: r' :: rs'))), some (.ref l), _, o3, o4, o5]) (t := tCons (tVar 1) tNil) (fun R h => ⟨_, rfl, h⟩) hl' al ok fun x H'' x' rb => q x H'' (xe.trans x') rb)
theorem ok_rr (F : Fun K "read_rule" "read_rule" sRR f fd) (N : IsT K) (L : Mks P w K mg base C CN CS CT CM f0 f1 f2 f3 e0 e1 e2 e3) (M : Ms P w K mg base C) (A1 : Df P w K mg base CX0 9 "rule_in" ["line"] (spRu C) a1 d1) (mi : mg "isinstance" = none) (ms : mg "str" = none) (me : mg "enumerate" = none) (ml : mg "len" = none) (m6 : mg "MOST_RULES" = some (.int 6 t1)) (m20 : mg "MOST_FOLK" = some (.int 20 t2)) : FnOk P w K mg base CX0 10 f fd ["text"] (spRR C) := by
  refine F.ok scRR (fun vs H Q E h => ?_) (fun cdv A outer s H vs Q E hr h => ?_)
  · obtain ⟨rs, rfl, _⟩ := h
    rfl
  obtain ⟨rs, rfl, ok, q⟩ := h
  obtain ⟨der⟩ := rr_der N L M A1 mi ms me ml m6 m20 hr (f := f) (cdv := cdv) (A := A) (outer := outer) (s := s) (H := H) (E := E)
  exact ⟨_, der, rd_rr ok q⟩
end
end My
set_option Elab.async false
set_option linter.all false
set_option maxRecDepth 100000
set_option maxHeartbeats 1000000
set_option exponentiation.threshold 10000
namespace My
open PySem PySem.W L2
def Rl.hgt : Rl → Nat
  | .one _ => 0
  | .blocks _ => 1
  | .first t _ => t.hgt + 2
theorem ndFo : ((["_law_one_here"] : List Str) ++ ([] : List Str)).Nodup := by decide +kernel
section
variable {P : Program} {w : World} {K : Frag} {mg : Str → Option Value} {base : Heap} {C : Nat → Addr} {CR CN CS CT CM f0 f1 f2 f3 : Addr} {e0 e1 e2 e3 : FuncData}
abbrev sMd : Stmt := top 62
theorem scMd : FnScope ["_law_told"] ["_law_told"] (defScope sMd) := ⟨rfl, rfl, rfl, by decide +kernel, rfl, by decide +kernel, by decide +kernel⟩
def spMd (C : Nat → Addr) (n : Nat) : Sp := fun vs H Q _ => ∃ v t, vs = [v] ∧ Rds H v (Rl.told t) ∧ t.ok ∧ t.hgt ≤ n ∧ ∀ x H', Ext H H' → Ru C H' t (.ref x) → Q (.ref x) H'
abbrev stMd (i : Nat) : Stmt := (defBody sMd).getD i (.Pass ⟨0, 0, 0, 0⟩)
def tMd0 (K : Frag) (C : Nat → Addr) (CN : Addr) : TS := tIfS (tW K 0 "split") (tRet (tMake (C 0) (spSpI C CN) [] E0 (tCons (tIxT K 0 1) (tCons (tIxT K 0 2) tNil)))) tNext
def tMd1 (K : Frag) (C : Nat → Addr) (CN CS : Addr) : TS := tIfS (tW K 0 "pairs") (tRet (tMake (C 1) (spPaI C CN CS) [] E0 (tCons (tIxT K 0 1) (tCons (tIxT K 0 2) tNil)))) tNext
def tMd2 (K : Frag) (C : Nat → Addr) (CN CS : Addr) : TS := tIfS (tW K 0 "coins") (tRet (tMake (C 2) (spCoI C CN CS) [] E0 (tCons (tIxT K 0 1) (tCons (tIxT K 0 2) (tCons (tIxT K 0 3) tNil))))) tNext
variable {f : Addr} {cdv : Value} {A : Around} {outer : List Env} {s : Shared} {H : Hp} {E : XK}
section
variable (L : Mks P w K mg base C CN CS CT CM f0 f1 f2 f3 e0 e1 e2 e3) (hr : Room 7 (A.deeper (PyProof.Rows.envOfC "_law_made" (defScope sMd) s.heap.objs.size f cdv)))
include L hr
theorem md_0 : Bx (PS (cxOf CX0 P w K mg base ["_law_told"] "_law_made" (defScope sMd) f cdv A outer s H E).nox (stMd 0) (tMd0 K C CN)) := by
  have hr5 : Room 5 _ := hr.mono (by decide)
  exact ⟨ps_if (pt_cmpR op_eq (pe_ix ix_tup (pv 0) pe_int (fun _ _ => rfl)) pe_str (nomark _)) (pss_one (ps_ret (pe_make L.k0 L.g0 hr5 rfl L.m0 L.b0 .nil passN (pa_cons (pe_ix ix_tup (pv 0) pe_int (fun _ _ => rfl)) (pa_cons (pe_ix ix_tup (pv 0) pe_int (fun _ _ => rfl)) pa_nil))))) pss_nil⟩
theorem md_1 : Bx (PS (cxOf CX0 P w K mg base ["_law_told"] "_law_made" (defScope sMd) f cdv A outer s H E).nox (stMd 1) (tMd1 K C CN CS)) :=
  ⟨ps_if (pt_cmpR op_eq (pe_ix ix_tup (pv 0) pe_int (fun _ _ => rfl)) pe_str (nomark _)) (pss_one (ps_ret (pe_make L.k1 L.g1 hr rfl L.m1 L.b1 .nil passN (pa_cons (pe_ix ix_tup (pv 0) pe_int (fun _ _ => rfl)) (pa_cons (pe_ix ix_tup (pv 0) pe_int (fun _ _ => rfl)) pa_nil))))) pss_nil⟩
theorem md_2 : Bx (PS (cxOf CX0 P w K mg base ["_law_told"] "_law_made" (defScope sMd) f cdv A outer s H E).nox (stMd 2) (tMd2 K C CN CS)) :=
  ⟨ps_if (pt_cmpR op_eq (pe_ix ix_tup (pv 0) pe_int (fun _ _ => rfl)) pe_str (nomark _)) (pss_one (ps_ret (pe_make L.k2 L.g2 hr rfl L.m2 L.b2 .nil passN (pa_cons (pe_ix ix_tup (pv 0) pe_int (fun _ _ => rfl)) (pa_cons (pe_ix ix_tup (pv 0) pe_int (fun _ _ => rfl)) (pa_cons (pe_ix ix_tup (pv 0) pe_int (fun _ _ => rfl)) pa_nil)))))) pss_nil⟩
omit L hr
end
theorem rd_md {De : Ends} {v : V} {r : R0} {t3 : TS} (rd : Rds H v r.told) (ok : r.ok) (q : ∀ x H', Ext H H' → Ru C H' (.one r) (.ref x) → De.rt (.ref x) H') : tSeq (tMd0 K C CN) (tSeq (tMd1 K C CN CS) (tSeq (tMd2 K C CN CS) t3)) De [some v] H := by
  cases r with
  | split n k =>
    obtain ⟨a, rfl, ha⟩ := tl_split rd
    exact rd_ifT rfl ha (mk_split (fun R r => rd_ixT 1 rfl ha rfl (rd_ixT 2 rfl ha rfl r)) ok q)
  | pairs n x y =>
    obtain ⟨a, c, rfl, ha, rc⟩ := tl_pairs rd
    exact rd_ifF (by decide +kernel) rfl ha (rd_ifT rfl ha (mk_pairs (fun R r => rd_ixT 1 rfl ha rfl (rd_ixT 2 rfl ha rfl r)) rc ok q))
  | coins n x y g =>
    obtain ⟨a, c, rfl, ha, rc⟩ := tl_coins rd
    exact rd_ifF (by decide +kernel) rfl ha (rd_ifF (by decide +kernel) rfl ha (rd_ifT rfl ha (mk_coins (fun R r => rd_ixT 1 rfl ha rfl (rd_ixT 2 rfl ha rfl (rd_ixT 3 rfl ha rfl r))) rc ok q)))
theorem ok_md0 {fd : FuncData} (F : Fun K "_law_made" "_law_made" sMd f fd) (L : Mks P w K mg base C CN CS CT CM f0 f1 f2 f3 e0 e1 e2 e3) : FnOk P w K mg base CX0 8 f fd ["_law_told"] (spMd C 0) := by
  refine F.ok scMd (fun vs H Q E h => ?_) (fun cdv A outer s H vs Q E hr h => ?_)
  · obtain ⟨_, _, rfl, _⟩ := h
    rfl
  obtain ⟨v, t, rfl, rd, ok, hg, q⟩ := h
  obtain ⟨q0⟩ := md_0 L hr (f := f) (cdv := cdv) (A := A) (outer := outer) (s := s) (H := H) (E := E)
  obtain ⟨q1⟩ := md_1 L hr (f := f) (cdv := cdv) (A := A) (outer := outer) (s := s) (H := H) (E := E)
  obtain ⟨q2⟩ := md_2 L hr (f := f) (cdv := cdv) (A := A) (outer := outer) (s := s) (H := H) (E := E)
  refine ⟨_, pss_cons q0 (pss_cons q1 (pss_cons q2 (pss_one ps_never))), ?_⟩
  cases t with
  | one r => exact rd_md (De := ⟨_, Q, _, _⟩) rd ok q
  | blocks rs => exact absurd hg (by show ¬ 1 ≤ 0; decide)
  | first t m => exact absurd hg (by show ¬ t.hgt + 2 ≤ 0; omega)
abbrev scMdC : Scope := { kind := .function, names := [(".0", .local), ("_law_one_here", .local), ("_law_made", .globalImplicit)], isGenerator := false, isCoroutine := false }
theorem compMd {X : Cx} : CompG X scMdC [] ["_law_one_here"] [] [] := by
  refine ⟨rfl, rfl, by decide +kernel, by decide +kernel, by decide +kernel, (fun z c h => nomatch h), (fun z h => ?_), by decide +kernel, (fun k z h => by simp at h), rfl⟩
  exfalso
  have h' : List.lookup z [((".0" : Str), NameKind.local), (("_law_one_here" : Str), NameKind.local), (("_law_made" : Str), NameKind.globalImplicit)] = some .cell ∨ List.lookup z [((".0" : Str), NameKind.local), (("_law_one_here" : Str), NameKind.local), (("_law_made" : Str), NameKind.globalImplicit)] = some .free := h
  simp only [List.lookup_cons, List.lookup_nil] at h'
  repeat' (split at h')
  all_goals simp at h'
theorem lc_made {K : Frag} {H1 : Hp} {D b : Addr} {ys : List V} {rs : List R0} {n : Nat} {Q : Hp → Prop} (hb : H1 b = some (.tup ys)) (ry : RdsAll H1 ys (rs.map R0.told)) (ok : ∀ r ∈ rs, r.ok) (l6 : rs.length ≤ 6) (hD : H1 D = none) (hd : ∀ ws H, Ext H1 H → H D = some (.lst ws) → All0 C H rs ws → Q H) :
    ∃ W : Nat → Nat → List V → Hp → Prop, (∃ m, W 0 m [] (upd H1 D (.lst []))) ∧
      ∀ i m ys H2, W i m ys H2 → H2 D = some (.lst ys) ∧ (((Itt K b).stop i H2 ∧ Q H2) ∨ ((Itt K b).go i H2 ∧ ys.length < sizeLine ∧
        ∀ x H3, (Itt K b).yld i H2 x H3 → ∀ os : St, os.length = 1 → gName 0 x (os ++ []) H3 fun σ2 H0 => (∃ os' : St, os'.length = 1 ∧ σ2 = os' ++ []) ∧ tCall (spMd C n) [] E0 (tCons (tVar 0) tNil) σ2 H0 fun y H4 => H4 D = some (.lst ys) ∧ ∃ m', m' < m ∧ W (i + 1) m' (ys ++ [y]) (upd H4 D (.lst (ys ++ [y]))))) := by
  have ly := ry.length
  rw [List.length_map] at ly
  refine lcG_tup (a := b) (xs := ys) (fun i zs H' => Ext H1 H' ∧ All0 C H' (rs.take i) zs) (by rw [sizeLine_eq]; omega) ⟨Ext.new hD, rfl, fun i r w h => by simp at h⟩ (fun i zs H' pv => SqT.of (pv.1 _ _ hb)) ?_ ?_
  · rintro i x zs H' ex lz hDD ⟨x', al⟩ os los R k
    obtain ⟨o0, rfl⟩ : ∃ o0, os = [o0] := by
      match os, los with
      | [o0], _ => exact ⟨o0, rfl⟩
    have hi : i < rs.length := by have := (List.getElem?_eq_some_iff.mp ex).1; omega
    have er := List.getElem?_eq_getElem hi
    obtain ⟨d, ed, rd⟩ := ry.get ex
    rw [List.getElem?_map, er] at ed
    cases ed
    refine ⟨⟨[some x], rfl, rfl⟩, _, rfl, x, .one rs[i], rfl, rd.mono x', ok _ (List.getElem_mem hi), Nat.zero_le _, fun y H4 x4 ru => k _ H4 (x4 _ _ hDD) ⟨ext_upd _ (x'.trans x4) hD, ?_⟩⟩
    rw [take_all er]
    exact (all0_app (al.ext x4) ru).keepT (kpT_upd _ (x4 _ _ hDD))
  · rintro zs H' lz hDD ⟨x', al⟩
    rw [ly, List.take_length] at al
    exact hd zs H' x' hDD al
theorem ok_md {fd : FuncData} (F : Fun K "_law_made" "_law_made" sMd f fd) (L : Mks P w K mg base C CN CS CT CM f0 f1 f2 f3 e0 e1 e2 e3) (A1 : Df P w K mg base CX0 8 "_law_made" ["_law_told"] (spMd C 0) f fd) : FnOk P w K mg base CX0 9 f fd ["_law_told"] (spMd C 1) := by
  refine F.ok scMd (fun vs H Q E h => ?_) (fun cdv A outer s H vs Q E hr h => ?_)
  · obtain ⟨_, _, rfl, _⟩ := h
    rfl
  obtain ⟨v, t, rfl, rd, ok, hg, q⟩ := h
  have hr7 : Room 7 _ := hr.mono (by decide)
  have hr5 : Room 5 _ := hr.mono (by decide)
  obtain ⟨q0⟩ := md_0 L hr7 (f := f) (cdv := cdv) (A := A) (outer := outer) (s := s) (H := H) (E := E)
  obtain ⟨q1⟩ := md_1 L hr7 (f := f) (cdv := cdv) (A := A) (outer := outer) (s := s) (H := H) (E := E)
  obtain ⟨q2⟩ := md_2 L hr7 (f := f) (cdv := cdv) (A := A) (outer := outer) (s := s) (H := H) (E := E)
  refine ⟨tSeq (tMd0 K C CN) (tSeq (tMd1 K C CN CS) (tSeq (tMd2 K C CN CS) (tRet (tMake (C 3) (spBlI K C CT CM) [] E0 (tCons (tLCG (iTup K (tIxT K 0 1)) 1 [] (gName 0) (tCall (spMd C 0) [] E0 (tCons (tVar 0) tNil))) tNil))))),
    pss_cons q0 (pss_cons q1 (pss_cons q2 (pss_one (ps_ret (pe_make L.k3 L.g3 hr5 rfl L.m3 L.b3 .nil passN (pa_cons (pe_lcG (te := tCall (spMd C 0) [] E0 (tCons (tVar 0) tNil)) (g := gName 0) rfl compMd (pi_tup (pe_ix ix_tup (pv 0) pe_int (fun _ _ => rfl))) (fun s H C fp => by exact pg_name (i := 0) ndFo rfl (.inl rfl)) (fun s H C fp => by exact pe_call A1.G hr rfl A1.m A1.kp A1.b .nil pass0 (pa_cons (pv 0) pa_nil))) pa_nil)))))), ?_⟩
  cases t with
  | one r => exact rd_md (De := ⟨_, Q, _, _⟩) rd ok q
  | blocks rs =>
    obtain ⟨a, b, ys, rfl, ha, hb, ry⟩ := tl_blocks rd
    obtain ⟨o1, o6, oo, o20⟩ := id ok
    refine rd_ifF (by decide +kernel) rfl ha (rd_ifF (by decide +kernel) rfl ha (rd_ifF (by decide +kernel) rfl ha ?_))
    refine rd_ixT 1 rfl ha rfl ⟨b, rfl, ⟨_, SqT.of hb⟩, fun D hD => lc_made hb ry oo o6 hD fun ws H2 x2 h2 al => ?_⟩
    exact mk_blocks (σ := [some (.ref a)]) (t := fun _ _ R => R [.ref D] H2) (fun R r => r) h2 al ok fun x H' x' ru => q x H' (x2.trans x') ru
  | first t m =>
    have : t.hgt + 2 ≤ 1 := hg
    omega
end
end My
set_option Elab.async false
set_option linter.all false
set_option maxRecDepth 100000
set_option maxHeartbeats 1000000
set_option exponentiation.threshold 10000
namespace My
open PySem PySem.W L2
section
variable {P : Program} {w : World} {K : Frag} {mg : Str → Option Value} {base : Heap}
abbrev sRow : Stmt := top 57
def Below (xs ss : List Int) : Prop := ∀ (i : Nat) x s, xs[i]? = some x → ss[i]? = some s → 0 ≤ x ∧ x < s
def spRow (K : Frag) : Sp := fun vs H Q _ => ∃ (c : Int) (p : Addr) (ss : List Int), vs = [.int c, .ref p] ∧ SqL K H p (ss.map V.int) ∧ (∀ s ∈ ss, 0 < s ∧ s ≤ 10 ^ 20) ∧ ss.length ≤ 63 ∧
  ∀ l xs H', Ext H H' → H l = none → H' l = some (.lst (xs.map V.int)) → xs.length = ss.length → Below xs ss → Q (.ref l) H'
abbrev NRw : List Str := ["_law_cell", "_law_sizes", "_law_found", "_law_left", "_law_number", "_law_k", "_law_other"]
theorem scRw : FnScope NRw ["_law_cell", "_law_sizes"] (defScope sRow) := ⟨rfl, rfl, rfl, by decide +kernel, rfl, by decide +kernel, by decide +kernel⟩
def tApp (K : Frag) (te : TE) : TS := tDrop (tBM K "list" rAppend (tVar 2) (tCons te tNil))
abbrev oMd (a b : TE) : TE := tOp (rI (fun _ j => 0 < j) fun i j => .int (i % j)) a b
abbrev oMu (a b : TE) : TE := tOp (rI CMul fun i j => .int (i * j)) a b
abbrev oAd (a b : TE) : TE := tOp (rI0 fun i j => .int (i + j)) a b
def tSz (K : Frag) : TE := tOp (rIxL K) (tVar 1) (tVar 5)
def tR1 (K : Frag) : TS := tSeq (tApp K (oMd (tVar 3) (tSz K))) (tAsg (tOp (rI GDiv fun i j => .int (i / j)) (tVar 3) (tSz K)) (gName 3))
def tR2 (K : Frag) : TS := tSeq (tAsg (oMd (oAd (oAd (oMu (tVar 4) (tC (.int 48271))) (oMu (tC (.int 7919)) (tVar 5))) (tC (.int 12345))) (tC (.int 2147483647))) (gName 4))
  (tSeq (tAsg (oMd (oAd (oAd (oMu (tVar 4) (tVar 4)) (oMu (tC (.int 69621)) (tVar 5))) (tC (.int 271))) (tC (.int 2147483629))) (gName 6)) (tApp K (oMd (tVar 6) (tSz K))))
def tRT (K : Frag) : TS := tIfS (tB (tOp (rI0 fun i j => .bl (decide (j ≤ i))) (tVar 3) (tC (.int 0)))) (tR1 K) (tR2 K)
theorem row_der {f : Addr} {cdv : Value} {A : Around} {outer : List Env} {s : Shared} {H : Hp} {E : XK} (mr : mg "range" = none) (ml : mg "len" = none) : PSs (cxOf CX0 P w K mg base NRw "_law_row" (defScope sRow) f cdv A outer s H E).nox (defBody sRow)
    (tSeq (tAsg (tLst tNil) (gName 2)) (tSeq (tAsg (tOp (rI0 fun i j => .int (i - j)) (tVar 0) (tOp (rI CPow fun i j => .int (i ^ j.toNat)) (tC (.int 10)) (tC (.int 18)))) (gName 3)) (tSeq (tAsg (oMd (tVar 0) (tC (.int 2147483647))) (gName 4))
      (tSeq (tFor (iRng1 (tCons (tCB (fun xs H Q => ∃ p ys, xs = [.ref p] ∧ (SqL K H p ys ∨ SqT K H p ys) ∧ Q (.int ys.length) H) (tCons (tVar 1) tNil)) tNil)) (gName 5) (tRT K)) (tRet (tVar 2)))))) := by
  have nd := scRw.nd
  exact pss_cons (ps_set (i := 2) nd rfl (Or.inl rfl) (pe_lst pa_nil))
    (pss_cons (ps_set (i := 3) nd rfl (Or.inl rfl) (pe_op op_sub (pv 0) (pe_op op_pow pe_int pe_int)))
    (pss_cons (ps_set (i := 4) nd rfl (Or.inl rfl) (pe_op op_mod (pv 0) pe_int))
    (pss_cons (ps_for PassesOwn.never rfl (pi_range1 rfl mr (pa_cons (pe_callB call_len_seq rfl ml PySem.boot_len (pa_cons (pv 1) pa_nil)) pa_nil)) (pg_name (i := 5) nd rfl (Or.inl rfl))
      (pss_one (ps_if (pt_cmpR op_ge (pv 3) pe_int (nomark _))
        (pss_cons (ps_expr (pe_bm PySem.F.plainAttrs_list PySem.F.slot_list_append PySem.F.type_list_append mt_append (pv 2) (pa_cons (pe_op op_mod (pv 3) (pe_ix ix_list (pv 1) (pv 5) (fun _ _ => rfl))) pa_nil)))
          (pss_one (ps_set (i := 3) nd rfl (Or.inl rfl) (pe_op op_gdiv (pv 3) (pe_ix ix_list (pv 1) (pv 5) (fun _ _ => rfl))))))
        (pss_cons (ps_set (i := 4) nd rfl (Or.inl rfl) (pe_op op_mod (pe_op op_add (pe_op op_add (pe_op op_mul (pv 4) pe_int) (pe_op op_mul pe_int (pv 5))) pe_int) pe_int))
          (pss_cons (ps_set (i := 6) nd rfl (Or.inl rfl) (pe_op op_mod (pe_op op_add (pe_op op_add (pe_op op_mul (pv 4) (pv 4)) (pe_op op_mul pe_int (pv 5))) pe_int) pe_int))
          (pss_one (ps_expr (pe_bm PySem.F.plainAttrs_list PySem.F.slot_list_append PySem.F.type_list_append mt_append (pv 2) (pa_cons (pe_op op_mod (pv 6) (pe_ix ix_list (pv 1) (pv 5) (fun _ _ => rfl))) pa_nil)))))))))
    (pss_one (ps_ret (pv 2))))))
theorem rd_app {D : Ends} {σ : St} {H : Hp} {te : TE} {l : Addr} {ys : List V} {v : V} (h2 : σ[2]? = some (some (.ref l))) (hl : H l = some (.lst ys)) (len : ys.length < sizeLine) (ht : ∀ Q : VK, Q v H → te σ H Q) (nx : D.nx σ (upd H l (.lst (ys ++ [v])))) : tApp K te D σ H :=
  ⟨_, h2, .inl ⟨rfl, _, SqL.of hl⟩, ht _ ⟨l, _, _, rfl, rfl, hl, len, nx⟩⟩
theorem below_app {xs ss : List Int} {x s : Int} (h : Below xs ss) (hs : ss[xs.length]? = some s) (h0 : 0 ≤ x) (h1 : x < s) : Below (xs ++ [x]) ss := by
  intro i y t hy ht
  rcases Nat.lt_or_ge i xs.length with lt | ge
  · rw [List.getElem?_append_left lt] at hy
    exact h i y t hy ht
  · rw [List.getElem?_append_right ge] at hy
    have i0 : i = xs.length := by
      rcases Nat.lt_or_ge (i - xs.length) 1 with z | z
      · omega
      · rw [List.getElem?_eq_none (by simpa using z)] at hy; cases hy
    subst i0
    rw [Nat.sub_self] at hy
    cases hy
    rw [hs] at ht
    cases ht
    exact ⟨h0, h1⟩
theorem log20 {s : Int} (h0 : 0 < s) (h : s ≤ 10 ^ 20) : s.natAbs.log2 < 9000 := by
  have z : s.natAbs ≠ 0 := by omega
  refine (Nat.log2_lt z).mpr ?_
  have : s.natAbs ≤ 10 ^ 20 := by omega
  exact Nat.lt_of_le_of_lt this (Nat.lt_of_lt_of_le (by decide : 10 ^ 20 < 2 ^ 67) (Nat.pow_le_pow_right (by decide) (by decide)))
theorem rd_rT {D : Ends} {H0 H : Hp} {p l : Addr} {ss xs : List Int} {c lf nb : Int} {o6 : Option V} {s : Int} {i : Nat} (hp0 : SqL K H0 p (ss.map V.int)) (x0 : Ext H0 H) (h0l : H0 l = none) (hl : H l = some (.lst (xs.map V.int))) (ei : xs.length = i) (hs : ss[i]? = some s) (s0 : 0 < s) (s1 : s ≤ 10 ^ 20) (i63 : i < 63) (n0 : 0 ≤ nb) (n1 : nb < 2147483647) (bl : Below xs ss)
    (nx : ∀ x lf nb o6, 0 ≤ nb → nb < 2147483647 → Below (xs ++ [x]) ss → D.nx [some (.int c), some (.ref p), some (.ref l), some (.int lf), some (.int nb), some (.int (0 + (i : Int))), o6] (upd H l (.lst ((xs ++ [x]).map V.int)))) :
    tRT K D [some (.int c), some (.ref p), some (.ref l), some (.int lf), some (.int nb), some (.int (0 + (i : Int))), o6] H := by
  have hp := My.SqL.ext hp0 x0
  have at_ : atI (ss.map V.int) (0 + (i : Int)) = some (.int s) := by
    rw [Int.zero_add]
    exact atI_nat (by rw [List.getElem?_map, hs]; rfl)
  have len : (xs.map V.int).length < sizeLine := by rw [List.length_map, ei]; exact Nat.lt_trans i63 (by decide)
  have mp : ∀ x : Int, xs.map V.int ++ [V.int x] = (xs ++ [x]).map V.int := fun x => by rw [List.map_append]; rfl
  have hs' : ss[xs.length]? = some s := by rw [ei]; exact hs
  refine ⟨_, rfl, _, _, rfl, rfl, _, rfl, ?_⟩
  refine ite2 (fun c => ?_) (fun c => ?_)
  · refine rd_app (v := .int (lf % s)) rfl hl len (fun Q q => ⟨_, rfl, _, rfl, _, rfl, p, _, _, _, rfl, rfl, hp, at_, _, _, rfl, rfl, s0, q⟩) ?_
    rw [mp]
    refine ⟨_, rfl, _, rfl, _, rfl, p, _, _, _, rfl, rfl, My.SqL.ext hp0 (ext_upd _ x0 h0l), at_, _, _, rfl, rfl, ⟨s0, log20 s0 s1⟩, ?_⟩
    exact nx _ _ _ _ n0 n1 (below_app bl hs' (Int.emod_nonneg _ (by omega)) (Int.emod_lt_of_pos _ s0))
  · have i0 : (0 : Int) ≤ 0 + (i : Int) := by omega
    have i1 : (0 : Int) + (i : Int) < 63 := by omega
    generalize hk : (0 : Int) + (i : Int) = k at i0 i1 at_ nx ⊢
    refine ⟨_, rfl, _, _, rfl, rfl, .inl ⟨by omega, by omega⟩, _, rfl, _, _, rfl, rfl, .inl ⟨by decide, by decide⟩, _, _, rfl, rfl, _, _, rfl, rfl, _, _, rfl, rfl, (by show (0 : Int) < 2147483647; decide), ?_⟩
    have a0 : 0 ≤ (nb * 48271 + 7919 * k + 12345) % 2147483647 := Int.emod_nonneg _ (by decide)
    have a1 : (nb * 48271 + 7919 * k + 12345) % 2147483647 < 2147483647 := Int.emod_lt_of_pos _ (by decide)
    have c2 : CMul ((nb * 48271 + 7919 * k + 12345) % 2147483647) ((nb * 48271 + 7919 * k + 12345) % 2147483647) := .inl ⟨Int.lt_of_lt_of_le (by decide) a0, Int.lt_trans a1 (by decide)⟩
    refine ⟨_, rfl, _, rfl, _, _, rfl, rfl, c2, _, rfl, _, _, rfl, rfl, .inl ⟨by decide, by decide⟩, _, _, rfl, rfl, _, _, rfl, rfl, _, _, rfl, rfl, (by show (0 : Int) < 2147483629; decide), ?_⟩
    refine rd_app rfl hl len (fun Q q => ⟨_, rfl, _, rfl, _, rfl, p, _, _, _, rfl, rfl, hp, at_, _, _, rfl, rfl, s0, q⟩) ?_
    show D.nx _ (upd H l (.lst (xs.map V.int ++ [V.int _])))
    rw [mp]
    exact nx _ _ _ _ a0 a1 (below_app bl hs' (Int.emod_nonneg _ (by omega)) (Int.emod_lt_of_pos _ s0))
theorem ok_row {f : Addr} {fd : FuncData} (F : Fun K "_law_row" "_law_row" sRow f fd) (mr : mg "range" = none) (ml : mg "len" = none) : FnOk P w K mg base CX0 1 f fd ["_law_cell", "_law_sizes"] (spRow K) := by
  refine F.ok scRw (fun vs H Q E h => ?_) (fun cdv A outer s H vs Q E hr h => ?_)
  · obtain ⟨c, p, ss, rfl, _⟩ := h
    rfl
  obtain ⟨c, p, ss, rfl, hp, hs, l63, q⟩ := h
  refine ⟨_, row_der mr ml, ?_⟩
  refine ⟨by show 0 ≤ sizeLine; decide, fun l hl => ?_⟩
  have x1 := Ext.new (o := .lst []) hl
  have f1 : upd H l (.lst []) l = some (.lst []) := upd_same
  generalize upd H l (.lst []) = H1 at x1 f1 ⊢
  refine ⟨_, rfl, _, _, rfl, rfl, ⟨by decide, by decide, by decide⟩, _, _, rfl, rfl, _, rfl, _, _, rfl, rfl, (by show (0 : Int) < 2147483647; decide), ?_⟩
  have n0 : 0 ≤ c % 2147483647 := Int.emod_nonneg _ (by decide)
  have n1 : c % 2147483647 < 2147483647 := Int.emod_lt_of_pos _ (by decide)
  refine ⟨_, rfl, p, _, rfl, .inl (My.SqL.ext hp x1), _, rfl, by rw [List.length_map]; omega, by rw [List.length_map]; omega, ?_⟩
  refine for_range (n := (ss.map V.int).length) (fun i σ H' => ∃ xs : List Int, ∃ lf nb o5 o6, σ = [some (.int c), some (.ref p), some (.ref l), some (.int lf), some (.int nb), o5, o6] ∧ 0 ≤ nb ∧ nb < 2147483647 ∧ xs.length = i ∧ Below xs ss ∧ Ext H H' ∧ H' l = some (.lst (xs.map V.int))) ?_ ?_ ?_
  · exact ⟨[], _, _, _, _, rfl, n0, n1, rfl, fun i x s h => by simp at h, x1, f1⟩
  · rintro i σ H' hi ⟨xs, lf, nb, o5, o6, rfl, n0, n1, ei, bl, x, fl⟩
    rw [List.length_map] at hi
    have e := List.getElem?_eq_getElem hi
    obtain ⟨s0, s1⟩ := hs _ (List.getElem_mem hi)
    refine rd_rT hp x hl fl ei e s0 s1 (by omega) n0 n1 bl fun y lf nb o6 m0 m1 bl' => ?_
    exact ⟨xs ++ [y], _, _, _, _, rfl, m0, m1, by rw [List.length_append, ei]; rfl, bl', ext_upd _ x hl, upd_same⟩
  · rintro σ H' ⟨xs, lf, nb, o5, o6, rfl, n0, n1, ei, bl, x, fl⟩
    rw [List.length_map] at ei
    exact ⟨_, rfl, q l xs H' x hl fl ei bl⟩
end
end My
set_option Elab.async false
set_option linter.all false
set_option maxRecDepth 100000
set_option maxHeartbeats 1000000
set_option exponentiation.threshold 10000
namespace My
open PySem PySem.W L2
section
variable {P : Program} {w : World} {K : Frag} {mg : Str → Option Value} {base : Heap}
abbrev sCom : Stmt := top 58
theorem scCo : FnScope ["_law_one_here", "_law_other"] ["_law_one_here", "_law_other"] (defScope sCom) := ⟨rfl, rfl, rfl, by decide +kernel, rfl, by decide +kernel, by decide +kernel⟩
theorem ok_com {f : Addr} {fd : FuncData} (F : Fun K "_law_common" "_law_common" sCom f fd) : FnOk P w K mg base CX0 1 f fd ["_law_one_here", "_law_other"] spGcd := by
  refine F.ok scCo (fun vs H Q E h => ?_) (fun cdv A outer s H vs Q E hr h => ?_)
  · obtain ⟨c, lo, rfl, _⟩ := h
    rfl
  obtain ⟨a, b, rfl, q⟩ := h
  have nd := scCo.nd
  refine ⟨_, pss_cons (ps_while PassesOwn.never (pt_cmpR op_gt (pv 1) pe_int (nomark _)) (pss_one (ps_par (i := 0) (j := 1) rfl nd rfl rfl (by decide) rfl rfl (pa_cons (pv 1) (pa_cons (pe_op op_mod (pv 0) (pv 1)) pa_nil)) rfl))) (pss_one (ps_ret (pv 0))), ?_⟩
  refine while_by (fun σ H' => H' = H ∧ ∃ x y : Nat, σ = [some (.int x), some (.int y)] ∧ Nat.gcd x y = Nat.gcd a b) (fun σ _ => secN σ) ⟨rfl, a, b, rfl, rfl⟩ ?_ ?_
  · rintro σ H' ⟨rfl, x, y, rfl, e⟩
    refine ⟨_, rfl, _, _, rfl, rfl, _, rfl, ?_⟩
    refine ite2 (fun c => ?_) (fun c => ?_)
    · have c' : (0 : Int) < (y : Int) := of_decide_eq_true c
      refine ⟨_, rfl, _, rfl, _, rfl, _, _, rfl, rfl, c', _, _, rfl, ⟨rfl, y, x % y, ?_, ?_⟩, ?_⟩
      · show [some (V.int y), some (V.int ((x : Int) % (y : Int)))] = _
        rw [show ((x : Int) % (y : Int)) = ((x % y : Nat) : Int) from by simp]
      · rw [← e, Nat.gcd_comm x y, Nat.gcd_rec y x, Nat.gcd_comm]
      · show ((x : Int) % (y : Int)).toNat < (y : Int).toNat
        have := Int.emod_lt_of_pos (x : Int) c'
        omega
    · have c' : ¬ (0 : Int) < (y : Int) := fun z => c (decide_eq_true z)
      have y0 : y = 0 := by omega
      subst y0
      rw [Nat.gcd_zero_right] at e
      refine ⟨_, rfl, ?_⟩
      rw [e]
      exact q
  · rintro σ H Q Q' m ⟨x, e, i, j, h1, h2, b, hb, q⟩
    exact ⟨x, e, i, j, h1, h2, b, hb, m _ _ q⟩
abbrev sLow : Stmt := top 59
def spLow : Sp := fun vs H Q _ => ∃ a b : Nat, vs = [.int a, .int b] ∧ 1 ≤ b ∧ b < 10 ^ 1000 ∧ ∀ p, H p = none → Q (.ref p) (upd H p (.tup [.int (a / Nat.gcd a b : Nat), .int (b / Nat.gcd a b : Nat)]))
theorem scLo : FnScope ["_law_top", "_law_bottom", "_law_by"] ["_law_top", "_law_bottom"] (defScope sLow) := ⟨rfl, rfl, rfl, by decide +kernel, rfl, by decide +kernel, by decide +kernel⟩
theorem log_lt {n : Nat} (h : n < 10 ^ 1000) : ((n : Nat) : Int).natAbs.log2 < 9000 := by
  rw [Int.natAbs_natCast]
  rcases Nat.eq_zero_or_pos n with z | z
  · subst z; decide
  · refine (Nat.log2_lt (by omega)).mpr (Nat.lt_of_lt_of_le h ?_)
    calc (10 : Nat) ^ 1000 ≤ (2 ^ 4) ^ 1000 := Nat.pow_le_pow_left (by decide) 1000
      _ = 2 ^ 4000 := by rw [← Nat.pow_mul]
      _ ≤ 2 ^ 9000 := Nat.pow_le_pow_right (by decide) (by decide)
theorem ok_low {f g : Addr} {fd gd : FuncData} (F : Fun K "_law_lowest" "_law_lowest" sLow f fd) (G : FnOk P w K mg base CX0 1 g gd ["_law_one_here", "_law_other"] spGcd) (bG : Binds K gd ["_law_one_here", "_law_other"] []) (kG : PySem.W.keepIn K (.ref g) = true) (mG : mg "_law_common" = some (.ref g)) :
    FnOk P w K mg base CX0 2 f fd ["_law_top", "_law_bottom"] spLow := by
  refine F.ok scLo (fun vs H Q E h => ?_) (fun cdv A outer s H vs Q E hr h => ?_)
  · obtain ⟨c, lo, rfl, _⟩ := h
    rfl
  obtain ⟨a, b, rfl, h1, hb, q⟩ := h
  have nd := scLo.nd
  refine ⟨_, pss_cons (ps_set (i := 2) nd rfl (Or.inl rfl) (pe_call G hr rfl mG kG bG .nil pass0 (pa_cons (pv 0) (pa_cons (pv 1) pa_nil))))
    (pss_one (ps_ret (pe_tup (pa_cons (pe_op op_gdiv (pv 0) (pv 2)) (pa_cons (pe_op op_gdiv (pv 1) (pv 2)) pa_nil))))), ?_⟩
  have g0 : 0 < Nat.gcd a b := Nat.gcd_pos_of_pos_right a h1
  have gle : Nat.gcd a b ≤ b := Nat.le_of_dvd h1 (Nat.gcd_dvd_right a b)
  have gi : (0 : Int) < ((Nat.gcd a b : Nat) : Int) := by omega
  have gl := log_lt (Nat.lt_of_le_of_lt gle hb)
  refine ⟨_, rfl, _, rfl, a, b, rfl, ?_⟩
  refine ⟨_, rfl, _, rfl, _, _, rfl, rfl, ⟨gi, gl⟩, _, rfl, _, rfl, _, _, rfl, rfl, ⟨gi, gl⟩, by show 2 ≤ sizeLine; decide, fun p hp => ?_⟩
  have e1 : ((a : Int) / ((Nat.gcd a b : Nat) : Int)) = ((a / Nat.gcd a b : Nat) : Int) := by simp
  have e2 : ((b : Int) / ((Nat.gcd a b : Nat) : Int)) = ((b / Nat.gcd a b : Nat) : Int) := by simp
  show Q (.ref p) (upd H p (.tup [.int ((a : Int) / ((Nat.gcd a b : Nat) : Int)), .int ((b : Int) / ((Nat.gcd a b : Nat) : Int))]))
  rw [e1, e2]
  exact q p hp
theorem low_of {a b : Nat} (h1 : 1 ≤ b) (hab : a ≤ b) : Low (a / Nat.gcd a b) (b / Nat.gcd a b) := by
  have g0 : 0 < Nat.gcd a b := Nat.gcd_pos_of_pos_right a h1
  have gle : Nat.gcd a b ≤ b := Nat.le_of_dvd h1 (Nat.gcd_dvd_right a b)
  refine ⟨(Nat.le_div_iff_mul_le g0).mpr (by omega), Nat.div_le_div_right hab, ?_⟩
  rw [Nat.gcd_div (Nat.gcd_dvd_left a b) (Nat.gcd_dvd_right a b)]; exact Nat.div_self g0
end
end My
set_option Elab.async false
set_option linter.all false
set_option maxRecDepth 100000
set_option maxHeartbeats 1000000
set_option exponentiation.threshold 10000
namespace My
open PySem PySem.W L2
theorem cut_from (xs : List V) (k : Nat) : cutV xs (some (k : Int)) none = xs.drop k := by
  unfold cutV
  rw [HT.sIx_nat, HT.sIx_none]
  rcases Nat.lt_or_ge k xs.length with h | h
  · rw [Nat.min_eq_left (by omega), List.take_of_length_le (by rw [List.length_drop]; exact Nat.le_refl _)]
  · rw [Nat.min_eq_right h, List.drop_eq_nil_of_le h, List.drop_eq_nil_of_le (Nat.le_refl _), List.take_nil]
structure Nx (H : Hp) (p : Addr) (ns : List Int) (k : Nat) : Prop where
  at_ : H p = some (.lst (ns.map V.int))
  len : k ≤ ns.length
  nn : ∀ n ∈ ns, 0 ≤ n
theorem Nx.ext {H H' : Hp} {p : Addr} {ns : List Int} {k : Nat} (h : Nx H p ns k) (x : Ext H H') : Nx H' p ns k := ⟨x _ _ h.at_, h.len, h.nn⟩
theorem Nx.get {H : Hp} {p : Addr} {ns : List Int} {k : Nat} (h : Nx H p ns k) {i : Nat} (hi : i < k) : ∃ n, ns[i]? = some n ∧ 0 ≤ n := by
  have l : i < ns.length := Nat.lt_of_lt_of_le hi h.len
  exact ⟨_, List.getElem?_eq_getElem l, h.nn _ (List.getElem_mem l)⟩
theorem Nx.drop {H : Hp} {p : Addr} {ns : List Int} {k j : Nat} (l : 0 ≤ 0) (h : H p = some (.lst ((ns.drop j).map V.int))) (hk : k + j ≤ ns.length) (nn : ∀ n ∈ ns, 0 ≤ n) : Nx H p (ns.drop j) k :=
  ⟨h, by rw [List.length_drop]; omega, fun n hn => nn n (List.mem_of_mem_drop hn)⟩
def tXs (K : Frag) (i : Nat) (k : Int) : TE := tOp (rIxL K) (tVar i) (tC (.int k))
theorem rd_xs {K : Frag} {H : Hp} {σ : St} {i : Nat} {p : Addr} {ns : List Int} {n : Int} {Q : VK} (k : Nat) (si : σ[i]? = some (some (.ref p))) (hp : H p = some (.lst (ns.map V.int))) (hk : ns[k]? = some n) (q : Q (.int n) H) : tXs K i (k : Nat) σ H Q :=
  ⟨_, si, p, _, _, _, rfl, rfl, SqL.of hp, atI_nat (by rw [List.getElem?_map, hk]; rfl), q⟩
end My
set_option Elab.async false
set_option linter.all false
set_option maxRecDepth 100000
set_option maxHeartbeats 1000000
set_option exponentiation.threshold 10000
namespace My
open PySem PySem.W L2
def rInt1 : List V → Hp → VK → Prop := fun xs H Q => (∃ i, xs = [.int i] ∧ Q (.int i) H) ∨ ∃ k, xs = [.bl k] ∧ Q (.int (if k then 1 else 0)) H
section
variable {P : Program} {w : World} {K : Frag} {mg : Str → Option Value} {base : Heap}
abbrev sCn : Stmt := top 60
theorem scCn : FnScope ["_law_xs", "_law_bottom"] ["_law_xs"] (defScope sCn) := ⟨rfl, rfl, rfl, by decide +kernel, rfl, by decide +kernel, by decide +kernel⟩
def spCn : Sp := fun vs H Q _ => ∃ (p : Addr) (ns : List Int), vs = [.ref p] ∧ Nx H p ns 3 ∧ ∀ t a b H', Ext H H' → H' t = some (.tup [.int a, .int b]) → coinD (.tuple [.int a, .int b]) = true → Q (.ref t) H'
theorem coin_ok {a b : Nat} (h1 : 1 ≤ a) (h2 : a < b) (h3 : b ≤ 100) : coinD (.tuple [.int (a / Nat.gcd a b : Nat), .int (b / Nat.gcd a b : Nat)]) = true := by
  have lo := low_of (a := a) (b := b) (by omega) (by omega)
  have g0 : 0 < Nat.gcd a b := Nat.gcd_pos_of_pos_left b h1
  have da := Nat.gcd_dvd_left a b
  have db := Nat.gcd_dvd_right a b
  have ea := Nat.div_mul_cancel da
  have eb := Nat.div_mul_cancel db
  have a1 : 1 ≤ a / Nat.gcd a b := (Nat.le_div_iff_mul_le g0).mpr (by rw [Nat.one_mul]; exact Nat.le_of_dvd h1 da)
  have b2 : 2 ≤ b / Nat.gcd a b := by
    rcases Nat.lt_or_ge (b / Nat.gcd a b) 2 with lt | ge
    · exfalso
      have hle := lo.2.1
      have e1 : b / Nat.gcd a b = 1 := by have := lo.1; omega
      have e2 : a / Nat.gcd a b = 1 := by omega
      rw [e1] at eb
      rw [e2] at ea
      omega
    · exact ge
  have b100 : b / Nat.gcd a b ≤ 100 := Nat.le_trans (Nat.div_le_self _ _) h3
  show (((decide ((1 : Int) ≤ (b / Nat.gcd a b : Nat)) && (decide ((0 : Int) ≤ (a / Nat.gcd a b : Nat)) && decide (((a / Nat.gcd a b : Nat) : Int) ≤ (b / Nat.gcd a b : Nat)))) && decide (Nat.gcd ((a / Nat.gcd a b : Nat) : Int).toNat ((b / Nat.gcd a b : Nat) : Int).toNat = 1)) && (decide ((2 : Int) ≤ (b / Nat.gcd a b : Nat)) && decide (((b / Nat.gcd a b : Nat) : Int) ≤ 100))) = true
  have h3' := lo.2.1
  rw [decide_eq_true (by omega), decide_eq_true (by omega), decide_eq_true (by omega), Int.toNat_natCast, Int.toNat_natCast, decide_eq_true lo.2.2, decide_eq_true (by omega), decide_eq_true (by omega)]
  rfl
variable {f a1 a2 : Addr} {d1 d2 : FuncData}
theorem ok_cn {fd : FuncData} (F : Fun K "_law_coin" "_law_coin" sCn f fd) (A1 : Df P w K mg base CX0 2 "_law_lowest" ["_law_top", "_law_bottom"] spLow a1 d1) (mi : mg "int" = none) : FnOk P w K mg base CX0 3 f fd ["_law_xs"] spCn := by
  refine F.ok scCn (fun vs H Q E h => ?_) (fun cdv A outer s H vs Q E hr h => ?_)
  · obtain ⟨_, _, rfl, _⟩ := h
    rfl
  obtain ⟨p, ns, rfl, nx, q⟩ := h
  have nd := scCn.nd
  refine ⟨tSeq (tAsg (tOp (rI0 fun i j => .int (i + j)) (tC (.int 2)) (tOp (rI (fun _ j => 0 < j) fun i j => .int (i % j)) (tXs K 0 0) (tOp (rIxL K) (tLst (tCons (tC (.int 6)) (tCons (tC (.int 99)) tNil))) (tCB rInt1 (tCons (tOp rEq (tXs K 0 2) (tC (.int 0))) tNil))))) (gName 1)) (tRet (tCall spLow [] E0 (tCons (tOp (rI0 fun i j => .int (i + j)) (tC (.int 1)) (tOp (rI (fun _ j => 0 < j) fun i j => .int (i % j)) (tXs K 0 1) (tOp (rI0 fun i j => .int (i - j)) (tVar 1) (tC (.int 1))))) (tCons (tVar 1) tNil)))),
    pss_cons (ps_set (i := 1) nd rfl (Or.inl rfl) (pe_op op_add pe_int (pe_op op_mod (pe_ix ix_list (pv 0) pe_int (fun _ _ => rfl)) (pe_ix ix_list (pe_lst (pa_cons pe_int (pa_cons pe_int pa_nil))) (pe_callTy call_int1 rfl mi PyProof.Rows.boot_int (pa_cons (pe_cmpR op_eq (pe_ix ix_list (pv 0) pe_int (fun _ _ => rfl)) pe_int (nomark _)) pa_nil)) (fun _ _ => rfl)))))
    (pss_one (ps_ret (pe_call A1.G hr rfl A1.m A1.kp A1.b .nil pass0 (pa_cons (pe_op op_add pe_int (pe_op op_mod (pe_ix ix_list (pv 0) pe_int (fun _ _ => rfl)) (pe_op op_sub (pv 1) pe_int))) (pa_cons (pv 1) pa_nil))))), ?_⟩
  obtain ⟨x0, e0, n0⟩ := nx.get (i := 0) (by decide)
  obtain ⟨x1, e1, n1⟩ := nx.get (i := 1) (by decide)
  obtain ⟨x2, e2, n2⟩ := nx.get (i := 2) (by decide)
  refine rd_set (i := 1) (D := ⟨_, Q, _, _⟩) (rd_op (rd_op (rd_xs 0 rfl nx.at_ e0 (rd_op (rd_lst ⟨by show 2 ≤ sizeLine; decide, fun l hl => ?_⟩)))))
  have x1' := Ext.new (o := .lst [.int 6, .int 99]) hl
  have hl1 : upd H l (.lst [.int 6, .int 99]) l = some (.lst [.int 6, .int 99]) := upd_same
  generalize upd H l (.lst [.int 6, .int 99]) = H1 at x1' hl1 ⊢
  have nx1 := nx.ext x1'
  have go : ∀ wd : Int, (wd = 6 ∨ wd = 99) → tRet (tCall spLow [] E0 (tCons (tOp (rI0 fun i j => .int (i + j)) (tC (.int 1)) (tOp (rI (fun _ j => 0 < j) fun i j => .int (i % j)) (tXs K 0 1) (tOp (rI0 fun i j => .int (i - j)) (tVar 1) (tC (.int 1))))) (tCons (tVar 1) tNil))) ⟨fun _ H' => Q .non H', Q, fun _ _ => False, fun _ _ => False⟩ [some (.ref p), some (.int (2 + x0 % wd))] H1 := fun wd hw => by
    have m0 : 0 ≤ x0 % wd := Int.emod_nonneg _ (by omega)
    have m1 : x0 % wd < wd := Int.emod_lt_of_pos _ (by omega)
    refine rd_xs 1 rfl nx1.at_ e1 ⟨_, rfl, _, _, rfl, rfl, _, _, rfl, rfl, (by show (0 : Int) < 2 + x0 % wd - 1; omega), _, _, rfl, rfl, _, rfl, ?_⟩
    have k0 : 0 ≤ x1 % (2 + x0 % wd - 1) := Int.emod_nonneg _ (by omega)
    have k1 : x1 % (2 + x0 % wd - 1) < 2 + x0 % wd - 1 := Int.emod_lt_of_pos _ (by omega)
    obtain ⟨a, ea⟩ : ∃ a : Nat, 1 + x1 % (2 + x0 % wd - 1) = (a : Int) := ⟨(1 + x1 % (2 + x0 % wd - 1)).toNat, by omega⟩
    obtain ⟨b, eb⟩ : ∃ b : Nat, 2 + x0 % wd = (b : Int) := ⟨(2 + x0 % wd).toNat, by omega⟩
    refine ⟨a, b, by rw [← ea, ← eb]; rfl, by omega, ?_, fun t ht => q t _ _ _ (x1'.trans (Ext.new ht)) upd_same (coin_ok (by omega) (by omega) (by omega))⟩
    have : b ≤ 100 := by omega
    exact Nat.lt_of_le_of_lt this (by decide +kernel)
  refine rd_xs 2 rfl nx1.at_ e2 ⟨rfl, .inr ⟨_, rfl, ?_⟩⟩
  cases decide (V.int x2 = V.int 0) with
  | true => exact ⟨l, _, _, _, rfl, rfl, SqL.of hl1, atI_nat (j := 1) rfl, _, _, rfl, rfl, (by show (0 : Int) < 99; decide), _, _, rfl, rfl, go 99 (.inr rfl)⟩
  | false => exact ⟨l, _, _, _, rfl, rfl, SqL.of hl1, atI_nat (j := 0) rfl, _, _, rfl, rfl, (by show (0 : Int) < 6; decide), _, _, rfl, rfl, go 6 (.inl rfl)⟩
abbrev sOn : Stmt := top 61
abbrev NOn : List Str := ["_law_xs", "_law_most", "_law_folk"]
theorem scOn : FnScope NOn ["_law_xs", "_law_most"] (defScope sOn) := ⟨rfl, rfl, rfl, by decide +kernel, rfl, by decide +kernel, by decide +kernel⟩
def spOn : Sp := fun vs H Q _ => ∃ (p : Addr) (ns : List Int) (m : Int), vs = [.ref p, .int m] ∧ Nx H p ns 6 ∧ 1 ≤ m ∧ m ≤ 20 ∧ ∀ t r H', Ext H H' → Rds H' (.ref t) (R0.told r) → r.ok → r.folk ≤ m → Q (.ref t) H'
def tCoin (K : Frag) : TE := tCall spCn [] E0 (tCons (tSl (rSlL K) (tVar 0) (tPart (tC (.int 2))) tNoPart) tNil)
def tMd (a b : TE) : TE := tOp (rI (fun _ j => 0 < j) fun i j => .int (i % j)) a b
def tAd (a b : TE) : TE := tOp (rI0 fun i j => .int (i + j)) a b
def tDv (a b : TE) : TE := tOp (rI CDiv fun i j => .int (i / j)) a b
def tOn0 (K : Frag) : TS := tIfS (tAnd (tB (tOp rEq (tXs K 0 0) (tC (.int 0)))) (tB (tOp (rI0 fun i j => .bl (decide (i > j))) (tVar 1) (tC (.int 1))))) (tRet (tTup (tCons (tC (.str "pairs")) (tCons (tAd (tC (.int 1)) (tMd (tXs K 0 1) (tDv (tVar 1) (tC (.int 2))))) (tCons (tCoin K) tNil))))) tNext
def tOn1 (K : Frag) : TS := tAsg (tAd (tC (.int 1)) (tMd (tXs K 0 1) (tVar 1))) (gName 2)
def tFar (K : Frag) : TE := tOp (rIxL K) (tLst (tCons (tC (.int 1)) (tCons (tC (.int 2)) (tCons (tC (.int 3)) (tCons (tAd (tC (.int 1)) (tMd (tDv (tXs K 0 5) (tC (.int 4))) (tC (.int 20)))) tNil))))) (tMd (tXs K 0 5) (tC (.int 4)))
def tOn2 (K : Frag) : TS := tIfS (tB (tOp rEq (tXs K 0 0) (tC (.int 1)))) (tRet (tTup (tCons (tC (.str "coins")) (tCons (tVar 2) (tCons (tCoin K) (tCons (tFar K) tNil)))))) tNext
def tOn3 (K : Frag) : TS := tRet (tTup (tCons (tC (.str "split")) (tCons (tVar 2) (tCons (tMd (tXs K 0 2) (tAd (tVar 2) (tC (.int 1)))) tNil))))
def tOn (K : Frag) : TS := tSeq (tOn0 K) (tSeq (tOn1 K) (tSeq (tOn2 K) (tOn3 K)))
variable {cdv : Value} {A : Around} {outer : List Env} {s : Shared} {H : Hp} {E : XK}
theorem on_der (A1 : Df P w K mg base CX0 3 "_law_coin" ["_law_xs"] spCn a1 d1) (hr : Room 3 (A.deeper (PyProof.Rows.envOfC "_law_one" (defScope sOn) s.heap.objs.size f cdv))) : Bx (PSs (cxOf CX0 P w K mg base NOn "_law_one" (defScope sOn) f cdv A outer s H E).nox (defBody sOn) (tOn K)) := by
  have nd := scOn.nd
  exact bxs_cons ⟨ps_if (PW.pt (pw_and (pt_cmpR op_eq (pe_ix ix_list (pv 0) pe_int (fun _ _ => rfl)) pe_int (nomark _)) (pw_and1 (pt_cmpR op_gt (pv 1) pe_int (nomark _))))) (pss_one (ps_ret (pe_tup (pa_cons pe_str (pa_cons (pe_op op_add pe_int (pe_op op_mod (pe_ix ix_list (pv 0) pe_int (fun _ _ => rfl)) (pe_op op_fdiv (pv 1) pe_int))) (pa_cons (pe_call A1.G hr rfl A1.m A1.kp A1.b .nil pass0 (pa_cons (pe_slice sl_list (pv 0) (po_some pe_int) po_none) pa_nil)) pa_nil)))))) pss_nil⟩
    (bxs_cons (bx_set (i := 2) nd rfl (Or.inl rfl) ⟨pe_op op_add pe_int (pe_op op_mod (pe_ix ix_list (pv 0) pe_int (fun _ _ => rfl)) (pv 1))⟩)
    (bxs_cons ⟨ps_if (pt_cmpR op_eq (pe_ix ix_list (pv 0) pe_int (fun _ _ => rfl)) pe_int (nomark _)) (pss_one (ps_ret (pe_tup (pa_cons pe_str (pa_cons (pv 2) (pa_cons (pe_call A1.G hr rfl A1.m A1.kp A1.b .nil pass0 (pa_cons (pe_slice sl_list (pv 0) (po_some pe_int) po_none) pa_nil))
        (pa_cons (pe_ix ix_list (pe_lst (pa_cons pe_int (pa_cons pe_int (pa_cons pe_int (pa_cons (pe_op op_add pe_int (pe_op op_mod (pe_op op_fdiv (pe_ix ix_list (pv 0) pe_int (fun _ _ => rfl)) pe_int) pe_int)) pa_nil))))) (pe_op op_mod (pe_ix ix_list (pv 0) pe_int (fun _ _ => rfl)) pe_int) (fun _ _ => rfl)) pa_nil))))))) pss_nil⟩
    (bxs_one ⟨ps_ret (pe_tup (pa_cons pe_str (pa_cons (pv 2) (pa_cons (pe_op op_mod (pe_ix ix_list (pv 0) pe_int (fun _ _ => rfl)) (pe_op op_add (pv 2) pe_int)) pa_nil))))⟩)))
theorem rd_coin {σ : St} {p : Addr} {ns : List Int} {Q : VK} (s0 : σ[0]? = some (some (.ref p))) (nx : Nx H p ns 6) (q : ∀ t a b H', Ext H H' → H' t = some (.tup [.int a, .int b]) → coinD (.tuple [.int a, .int b]) = true → Q (.ref t) H') : tCoin K σ H Q := by
  refine ⟨_, s0, 2, rfl, p, _, rfl, SqL.of nx.at_, fun l hl => ?_⟩
  have x1 := Ext.new (o := .lst (cutV (ns.map V.int) (some 2) none)) hl
  have hl1 : upd H l (.lst (cutV (ns.map V.int) (some 2) none)) l = some (.lst (cutV (ns.map V.int) (some 2) none)) := upd_same
  have ec : cutV (ns.map V.int) (some 2) none = (ns.drop 2).map V.int := by rw [List.map_drop]; exact cut_from _ 2
  generalize upd H l (.lst (cutV (ns.map V.int) (some 2) none)) = H1 at x1 hl1 ⊢
  rw [ec] at hl1
  have := nx.len
  exact ⟨l, ns.drop 2, rfl, Nx.drop (Nat.le_refl _) hl1 (by omega) nx.nn, fun t a b H' x' ht c => q t a b H' (x1.trans x') ht c⟩
theorem ok_on {fd : FuncData} (F : Fun K "_law_one" "_law_one" sOn f fd) (A1 : Df P w K mg base CX0 3 "_law_coin" ["_law_xs"] spCn a1 d1) : FnOk P w K mg base CX0 4 f fd ["_law_xs", "_law_most"] spOn := by
  refine F.ok scOn (fun vs H Q E h => ?_) (fun cdv A outer s H vs Q E hr h => ?_)
  · obtain ⟨_, _, _, rfl, _⟩ := h
    rfl
  obtain ⟨p, ns, m, rfl, nx, m1, m20, q⟩ := h
  obtain ⟨der⟩ := on_der A1 hr (f := f) (cdv := cdv) (A := A) (outer := outer) (s := s) (H := H) (E := E) (P := P) (w := w) (base := base)
  refine ⟨_, der, ?_⟩
  obtain ⟨x0, e0, n0⟩ := nx.get (i := 0) (by decide)
  obtain ⟨x1, e1, n1⟩ := nx.get (i := 1) (by decide)
  obtain ⟨x2, e2, n2⟩ := nx.get (i := 2) (by decide)
  obtain ⟨x5, e5, n5⟩ := nx.get (i := 5) (by decide)
  have rest : tSeq (tOn1 K) (tSeq (tOn2 K) (tOn3 K)) ⟨fun _ H' => Q .non H', Q, fun _ _ => False, fun _ _ => False⟩ [some (.ref p), some (.int m), none] H := by
    refine rd_set (te := tAd (tC (.int 1)) (tMd (tXs K 0 1) (tVar 1))) (i := 2) (D := ⟨_, Q, _, _⟩) (rd_op (rd_op (rd_xs 1 rfl nx.at_ e1 ⟨_, rfl, _, _, rfl, rfl, (by show (0 : Int) < m; omega), _, _, rfl, rfl, ?_⟩)))
    have f0 : 0 ≤ x1 % m := Int.emod_nonneg _ (by omega)
    have f1 : x1 % m < m := Int.emod_lt_of_pos _ (by omega)
    show tSeq (tOn2 K) (tOn3 K) _ [some (.ref p), some (.int m), some (.int (1 + x1 % m))] H
    generalize hf : 1 + x1 % m = fk
    have g1 : 1 ≤ fk := by omega
    have gm : fk ≤ m := by omega
    refine rd_xs 0 rfl nx.at_ e0 ⟨rfl, _, rfl, ?_⟩
    refine ite2 (fun c => ?_) (fun c => ?_)
    · refine ⟨_, rfl, rd_coin rfl nx fun t a b H1 x1' ht cn => ?_⟩
      have nx1 := nx.ext x1'
      refine rd_op (rd_lst (rd_xs 5 rfl nx1.at_ e5 ⟨_, _, rfl, rfl, ⟨(by show (0 : Int) < 4; decide), (by show (4 : Int) < 1073741824; decide)⟩, _, _, rfl, rfl, (by show (0 : Int) < 20; decide), _, _, rfl, rfl, by show 4 ≤ sizeLine; decide, fun l hl => ?_⟩))
      have d0 : 0 ≤ x5 / 4 % 20 := Int.emod_nonneg _ (by decide)
      have d1 : x5 / 4 % 20 < 20 := Int.emod_lt_of_pos _ (by decide)
      have x2' := Ext.new (o := .lst [.int 1, .int 2, .int 3, .int (1 + x5 / 4 % 20)]) hl
      have hl2 : upd H1 l (.lst [.int 1, .int 2, .int 3, .int (1 + x5 / 4 % 20)]) l = some (.lst [.int 1, .int 2, .int 3, .int (1 + x5 / 4 % 20)]) := upd_same
      show tMd (tXs K 0 5) (tC (.int 4)) _ (upd H1 l (.lst [.int 1, .int 2, .int 3, .int (1 + x5 / 4 % 20)])) _
      generalize upd H1 l (.lst [.int 1, .int 2, .int 3, .int (1 + x5 / 4 % 20)]) = H2 at x2' hl2 ⊢
      have ht2 := x2' _ _ ht
      have r0 : 0 ≤ x5 % 4 := Int.emod_nonneg _ (by decide)
      have r1 : x5 % 4 < 4 := Int.emod_lt_of_pos _ (by decide)
      refine rd_op (rd_xs 5 rfl (nx1.ext x2').at_ e5 ⟨_, _, rfl, rfl, (by show (0 : Int) < 4; decide), ?_⟩)
      have fin : ∀ fr : Int, 1 ≤ fr → fr ≤ 20 → ([V.str "coins", V.int fk, V.ref t, V.int fr].length ≤ sizeLine ∧ ∀ k, H2 k = none → Q (.ref k) (upd H2 k (.tup [.str "coins", .int fk, .ref t, .int fr]))) := fun fr h1 h2 => ⟨by show 4 ≤ sizeLine; decide, fun k hk => by
        have x3 := Ext.new (o := .tup [.str "coins", .int fk, .ref t, .int fr]) hk
        exact q k (.coins fk a b fr) _ ((x1'.trans x2').trans x3) (.tup upd_same (.cons (.str _) (.cons (.int _) (.cons (.tup (x3 _ _ ht2) (.cons (.int _) (.cons (.int _) .nil))) (.cons (.int _) .nil))))) ⟨g1, by omega, cn, h1, h2⟩ gm⟩
      obtain ⟨fr, at4, h1, h2⟩ : ∃ fr : Int, atI [V.int 1, V.int 2, V.int 3, V.int (1 + x5 / 4 % 20)] (x5 % 4) = some (V.int fr) ∧ 1 ≤ fr ∧ fr ≤ 20 := by
        have : x5 % 4 = 0 ∨ x5 % 4 = 1 ∨ x5 % 4 = 2 ∨ x5 % 4 = 3 := by omega
        rcases this with e | e | e | e <;> rw [e]
        · exact ⟨1, atI_nat (j := 0) rfl, by decide, by decide⟩
        · exact ⟨2, atI_nat (j := 1) rfl, by decide, by decide⟩
        · exact ⟨3, atI_nat (j := 2) rfl, by decide, by decide⟩
        · exact ⟨_, atI_nat (j := 3) rfl, by omega, by omega⟩
      exact ⟨l, _, _, _, rfl, rfl, SqL.of hl2, at4, fin fr h1 h2⟩
    · refine ⟨_, rfl, rd_op (rd_xs 2 rfl nx.at_ e2 ⟨_, rfl, _, _, rfl, rfl, _, _, rfl, rfl, (by show (0 : Int) < fk + 1; omega), by show 3 ≤ sizeLine; decide, fun k hk => ?_⟩)⟩
      have k0 : 0 ≤ x2 % (fk + 1) := Int.emod_nonneg _ (by omega)
      have k1 : x2 % (fk + 1) < fk + 1 := Int.emod_lt_of_pos _ (by omega)
      exact q k (.split fk (x2 % (fk + 1))) _ (Ext.new hk) (.tup upd_same (.cons (.str _) (.cons (.int _) (.cons (.int _) .nil)))) ⟨g1, by omega, k0, by omega⟩ gm
  refine rd_xs 0 rfl nx.at_ e0 ⟨rfl, _, rfl, ?_⟩
  refine ite2 (fun c => ?_) (fun c => itF rest)
  refine ⟨_, rfl, _, _, rfl, rfl, _, rfl, ?_⟩
  refine ite2 (fun c2 => ?_) (fun c2 => rest)
  have mm : m > 1 := of_decide_eq_true c2
  have h0 : 0 < m / 2 := by omega
  refine rd_op (rd_op (rd_xs 1 rfl nx.at_ e1 ⟨_, rfl, _, _, rfl, rfl, ⟨(by show (0 : Int) < 2; decide), (by show (2 : Int) < 1073741824; decide)⟩, _, _, rfl, rfl, h0, _, _, rfl, rfl, ?_⟩))
  have f0 : 0 ≤ x1 % (m / 2) := Int.emod_nonneg _ (by omega)
  have f1 : x1 % (m / 2) < m / 2 := Int.emod_lt_of_pos _ h0
  refine rd_coin rfl nx fun t a b H1 x1' ht cn => ⟨by show 3 ≤ sizeLine; decide, fun k hk => ?_⟩
  have x3 := Ext.new (o := .tup [.str "pairs", .int (1 + x1 % (m / 2)), .ref t]) hk
  exact q k (.pairs (1 + x1 % (m / 2)) a b) _ (x1'.trans x3) (.tup upd_same (.cons (.str _) (.cons (.int _) (.cons (.tup (x3 _ _ ht) (.cons (.int _) (.cons (.int _) .nil))) .nil)))) ⟨by omega, by omega, cn⟩ (by show 2 * (1 + x1 % (m / 2)) ≤ m; omega)
end
end My
set_option Elab.async false
set_option linter.all false
set_option maxRecDepth 100000
set_option maxHeartbeats 1000000
namespace My
open PySem PySem.W L2
def rStrN : List V → Hp → VK → Prop := fun xs H Q => (∃ i, xs = [.int i] ∧ i.natAbs.log2 < 1920 ∧ Q (.str (toString i)) H) ∨
  ∃ (a : Addr) (b c : Int), xs = [.ref a] ∧ H a = some (.tup [.int b, .int c]) ∧ -1000000 ≤ b ∧ b ≤ 1000000 ∧ -1000000 ≤ c ∧ c ≤ 1000000 ∧ ∀ z : Str, z.length ≤ 10000 → Q (.str z) H
theorem call_strN {X : Cx} (hg : X.A.guards = some []) (hu : X.A.units + 64 < cLine) : CallR X (.type "str") rStrN := by
  intro pins s σ H xs us Q I r h
  rcases h with ⟨i, rfl, hz, q⟩ | ⟨a, b, c, rfl, ha, b0, b1, c0, c1, q⟩
  · obtain ⟨u, rfl, t, rfl⟩ := vals1 r
    exact PySem.P.str_of_int hz ⟨.str _, H, I.tok _, ⟨_, rfl⟩, q⟩
  · obtain ⟨u, rfl, ru⟩ := vals1 r
    cases (show u = Value.ref a from ru)
    obtain ⟨_, its, rv, o, ho, hc, n, hd⟩ := (show ObjOk X.prog X.w H s.heap _ (.tup _) from I.hok _ _ ha)
    have ra : ∃ as, ReadsAll s.heap its [.int b, .int c] as := by
      cases rv with
      | cons r1 rv =>
        cases rv with
        | cons r2 rv =>
          cases rv
          obtain ⟨t1, rfl⟩ := r1
          obtain ⟨t2, rfl⟩ := r2
          exact ⟨_, .cons (.int b t1) (.cons (.int c t2) .nil)⟩
    obtain ⟨as, ra⟩ := ra
    have f : Fi (0 + 1) ((2 + 1) * 2 + 1) (.tuple [.int b, .int c]) := fi_tuple (fun d hd => by
      simp only [List.mem_cons, List.not_mem_nil, or_false] at hd
      rcases hd with rfl | rfl
      · exact fi_small (by omega) (by omega)
      · exact fi_small (by omega) (by omega)) (Nat.le_refl 2)
    have sz : (PyData.tuple [.int b, .int c]).shown.length ≤ 10000 := by
      have e := PyData.shown_le_bulk 64 (by decide) _ f.lv
      have e2 : (64 + 2) * (PyData.tuple [.int b, .int c]).bulk ≤ 66 * 7 := Nat.mul_le_mul_left _ f.bk
      omega
    have dp := f.dp
    refine str_of_reads (h₀ := s.heap) (.tuple ho hc hd (by simpa using ra)) f.sh (fun e => absurd e (by simp [PyData.hasDict, PyData.hasDictAll])) hg (by omega) (fun _ _ e => e) (fun h' u tk hk => ⟨.str _, H, I.kept (h' := h') (t' := tk) hk, ⟨u, rfl⟩, q _ sz⟩) (Nat.le_trans sz (by decide))
end My
set_option Elab.async false
set_option linter.all false
set_option maxRecDepth 100000
set_option maxHeartbeats 1000000
set_option exponentiation.threshold 10000
namespace My
open PySem PySem.W L2
def rAddS : R2 := fun x y H Q => ∃ i j, x = .str i ∧ y = .str j ∧ i.length + j.length ≤ sizeLine ∧ Q (.str (i ++ j)) H
theorem op_addS {X : Cx} : OpR X (binaryOp .Add) rAddS := op_add_str
def lineP (r : R0) (n a b : Int) : Str := r.word ++ " " ++ txI n ++ " by " ++ txI a ++ "/" ++ txI b
theorem cs_bl : cs (" " : String) = [32] := by decide +kernel
theorem cs_nil : cs ("" : String) = [] := by decide +kernel
theorem lineP_pairs {n a b : Int} : lineP (.pairs n a b) n a b ++ "" = lineT (.pairs n a b) := by
  refine str_ext ?_
  simp only [lineP, lineT, R0.word, coT, cs_app, cs_pairs_, cs_bl, cs_nil]
  simp
theorem lineP_coins {n a b f : Int} : lineP (.coins n a b f) n a b ++ (" far " ++ txI f) = lineT (.coins n a b f) := by
  refine str_ext ?_
  simp only [lineP, lineT, R0.word, coT, cs_app, cs_coins_, cs_bl]
  simp
theorem add_le {a b : Str} (h : (a ++ b).length ≤ sizeLine) : a.length + b.length ≤ sizeLine := by
  rw [strApp_len] at h
  exact h
theorem word_len (r : R0) : r.word.length = 5 := by cases r <;> (simp only [R0.word]; decide +kernel)
section
variable {P : Program} {w : World} {K : Frag} {mg : Str → Option Value} {base : Heap} {C : Nat → Addr} {CR f : Addr} {fd : FuncData}
abbrev sLi : Stmt := top 63
abbrev NLi : List Str := ["_law_told", "_law_line_here"]
theorem scLi : FnScope NLi ["_law_told"] (defScope sLi) := ⟨rfl, rfl, rfl, by decide +kernel, rfl, by decide +kernel, by decide +kernel⟩
def spLi : Sp := fun vs H Q _ => ∃ v r, vs = [v] ∧ Rds H v (R0.told r) ∧ r.ok ∧ ∀ H', Ext H H' → Q (.str (lineT r)) H'
def tStr (te : TE) : TE := tCB rStrN (tCons te tNil)
def tLi0 (K : Frag) : TS := tIfS (tW K 0 "split") (tRet (tOp rAddS (tOp rAddS (tOp rAddS (tC (.str "split ")) (tStr (tIxT K 0 2))) (tC (.str " of "))) (tStr (tIxT K 0 1)))) tNext
def tIx2 (K : Frag) (k : Int) : TE := tOp (rIxT K) (tIxT K 0 2) (tC (.int k))
def tLi1 (K : Frag) : TS := tAsg (tOp rAddS (tOp rAddS (tOp rAddS (tOp rAddS (tOp rAddS (tOp rAddS (tIxT K 0 0) (tC (.str " "))) (tStr (tIxT K 0 1))) (tC (.str " by "))) (tStr (tIx2 K 0))) (tC (.str "/"))) (tStr (tIx2 K 1))) (gName 1)
def tLast (K : Frag) : TE := tOp (rIxT K) (tVar 0) (tUn (rU fun i => .int (-i)) (tC (.int 1)))
def tLi2 (K : Frag) : TS := tRet (tOp rAddS (tVar 1) (tOp (rIxL K) (tLst (tCons (tOp rAddS (tC (.str " far ")) (tStr (tLast K))) (tCons (tC (.str "")) tNil))) (tCB rInt1 (tCons (tOp rEq (tIxT K 0 0) (tC (.str "pairs"))) tNil))))
variable {cdv : Value} {A : Around} {outer : List Env} {s : Shared} {H : Hp} {E : XK}
theorem li_der (ms : mg "str" = none) (mi : mg "int" = none) (hg : (A.deeper (PyProof.Rows.envOfC "_law_line" (defScope sLi) s.heap.objs.size f cdv)).guards = some []) (hu : (A.deeper (PyProof.Rows.envOfC "_law_line" (defScope sLi) s.heap.objs.size f cdv)).units + 64 < cLine) :
    Bx (PSs (cxOf CX0 P w K mg base NLi "_law_line" (defScope sLi) f cdv A outer s H E).nox (defBody sLi) (tSeq (tLi0 K) (tSeq (tLi1 K) (tLi2 K)))) := by
  have nd := scLi.nd
  exact bxs_cons ⟨ps_if (pt_cmpR op_eq (pe_ix ix_tup (pv 0) pe_int (fun _ _ => rfl)) pe_str (nomark _)) (pss_one (ps_ret (pe_op op_addS (pe_op op_addS (pe_op op_addS pe_str (pe_callTy (call_strN hg hu) rfl ms PyProof.Rows.boot_str (pa_cons (pe_ix ix_tup (pv 0) pe_int (fun _ _ => rfl)) pa_nil))) pe_str) (pe_callTy (call_strN hg hu) rfl ms PyProof.Rows.boot_str (pa_cons (pe_ix ix_tup (pv 0) pe_int (fun _ _ => rfl)) pa_nil))))) pss_nil⟩
    (bxs_cons (bx_set (i := 1) nd rfl (Or.inl rfl) ⟨pe_op op_addS (pe_op op_addS (pe_op op_addS (pe_op op_addS (pe_op op_addS (pe_op op_addS (pe_ix ix_tup (pv 0) pe_int (fun _ _ => rfl)) pe_str) (pe_callTy (call_strN hg hu) rfl ms PyProof.Rows.boot_str (pa_cons (pe_ix ix_tup (pv 0) pe_int (fun _ _ => rfl)) pa_nil))) pe_str)
        (pe_callTy (call_strN hg hu) rfl ms PyProof.Rows.boot_str (pa_cons (pe_ix ix_tup (pe_ix ix_tup (pv 0) pe_int (fun _ _ => rfl)) pe_int (fun _ _ => rfl)) pa_nil))) pe_str) (pe_callTy (call_strN hg hu) rfl ms PyProof.Rows.boot_str (pa_cons (pe_ix ix_tup (pe_ix ix_tup (pv 0) pe_int (fun _ _ => rfl)) pe_int (fun _ _ => rfl)) pa_nil))⟩)
    (bxs_one ⟨ps_ret (pe_op op_addS (pv 1) (pe_ix ix_list (pe_lst (pa_cons (pe_op op_addS pe_str (pe_callTy (call_strN hg hu) rfl ms PyProof.Rows.boot_str (pa_cons (pe_ix ix_tup (pv 0) (pe_un un_neg pe_int) (fun _ _ => rfl)) pa_nil))) (pa_cons pe_str pa_nil))) (pe_callTy call_int1 rfl mi PyProof.Rows.boot_int (pa_cons (pe_cmpR op_eq (pe_ix ix_tup (pv 0) pe_int (fun _ _ => rfl)) pe_str (nomark _)) pa_nil)) (fun _ _ => rfl)))⟩))
theorem lineP_len {r : R0} {n a b : Int} (h0 : 0 ≤ n) (h1 : n ≤ 100) (cn : coinD (.tuple [.int a, .int b]) = true) : (lineP r n a b).length ≤ 30 := by
  have := coT_len cn
  have := txI_len h0 h1
  have := word_len r
  have s1 : ((" " : String) : Str).length = 1 := by decide +kernel
  have s2 : ((" by " : String) : Str).length = 4 := by decide +kernel
  have e : (coT a b).length = (txI a).length + (("/" : String) : Str).length + (txI b).length := by unfold coT; rw [strApp_len, strApp_len]
  unfold lineP
  rw [strApp_len, strApp_len, strApp_len, strApp_len, strApp_len, strApp_len]
  omega
theorem rd_li1 {De : Ends} {u : TS} {r : R0} {q c : Addr} {n a b : Int} {xs : List V} {o1 : Option V} (hq : H q = some (.tup (.str r.word :: .int n :: .ref c :: xs))) (hc : H c = some (.tup [.int a, .int b])) (h0 : 0 ≤ n) (h1 : n ≤ 100) (cn : coinD (.tuple [.int a, .int b]) = true) (k : u De [some (.ref q), some (.str (lineP r n a b))] H) : tSeq (tLi1 K) u De [some (.ref q), o1] H := by
  obtain ⟨a0, a1, b0, b1, _⟩ := coin_bounds cn
  have L : (r.word ++ " " ++ txI n ++ " by " ++ txI a ++ "/" ++ txI b).length ≤ sizeLine := Nat.le_trans (lineP_len (r := r) h0 h1 cn) (by decide)
  refine rd_set (te := tOp rAddS (tOp rAddS (tOp rAddS (tOp rAddS (tOp rAddS (tOp rAddS (tIxT K 0 0) (tC (.str " "))) (tStr (tIxT K 0 1))) (tC (.str " by "))) (tStr (tIx2 K 0))) (tC (.str "/"))) (tStr (tIx2 K 1))) (i := 1) ?_
  refine rd_op (rd_op (rd_op (rd_op (rd_op (rd_op (rd_ixT 0 rfl hq rfl ?_))))))
  refine ⟨_, _, rfl, rfl, (add_le (pre_le (pre_le (pre_le (pre_le (pre_le L)))))), ?_⟩
  refine rd_ixT 1 rfl hq rfl (.inl ⟨_, rfl, small_log (by omega) (by omega), _, _, rfl, rfl, (add_le (pre_le (pre_le (pre_le (pre_le L))))), ?_⟩)
  refine ⟨_, _, rfl, rfl, (add_le (pre_le (pre_le (pre_le L)))), ?_⟩
  refine rd_op (rd_ixT 2 rfl hq rfl ⟨c, _, 0, _, rfl, rfl, SqT.of hc, atI_nat (j := 0) rfl, .inl ⟨_, rfl, small_log (by omega) (by omega), _, _, rfl, rfl, (add_le (pre_le (pre_le L))), ?_⟩⟩)
  refine ⟨_, _, rfl, rfl, (add_le (pre_le L)), ?_⟩
  refine rd_op (rd_ixT 2 rfl hq rfl ⟨c, _, 1, _, rfl, rfl, SqT.of hc, atI_nat (j := 1) rfl, .inl ⟨_, rfl, small_log (by omega) (by omega), _, _, rfl, rfl, (add_le L), ?_⟩⟩)
  exact k
theorem rd_li {De : Ends} {v : V} {r : R0} (rd : Rds H v r.told) (ok : r.ok) (q : ∀ H', Ext H H' → De.rt (.str (lineT r)) H') : tSeq (tLi0 K) (tSeq (tLi1 K) (tLi2 K)) De [some v, none] H := by
  have l60 := line60
  cases r with
  | split n k =>
    obtain ⟨a, rfl, ha⟩ := tl_split rd
    have L := line_le ok
    simp only [lineT] at L
    obtain ⟨h1, h2, h3, h4⟩ := ok
    refine rd_ifT rfl ha (rd_op (rd_op (rd_op (rd_ixT 2 rfl ha rfl (.inl ⟨_, rfl, small_log (by omega) (by omega), _, _, rfl, rfl, add_le (pre_le (pre_le L)), ?_⟩)))))
    refine ⟨_, _, rfl, rfl, add_le (pre_le L), ?_⟩
    exact rd_ixT 1 rfl ha rfl (.inl ⟨_, rfl, small_log (by omega) (by omega), _, _, rfl, rfl, add_le L, q H (Ext.refl _)⟩)
  | pairs n a b =>
    obtain ⟨p, c, rfl, ha, rc⟩ := tl_pairs rd
    obtain ⟨c, xs, rfl, hc, r⟩ := rds_tup rc
    obtain rfl : xs = [.int a, .int b] := ints_of (p := [a, b]) r
    have L := line_le ok
    obtain ⟨h1, h2, h3⟩ := ok
    obtain ⟨a0, a1, b0, b1, _⟩ := coin_bounds h3
    refine rd_ifF (by decide +kernel) rfl ha (rd_li1 (r := .pairs n a b) ha hc (by omega) (by omega) h3 ?_)
    refine ⟨_, rfl, rd_op (rd_lst (rd_op ⟨_, rfl, 1, rfl, p, _, -1, _, rfl, rfl, SqT.of ha, rfl, .inr ⟨c, a, b, rfl, hc, by omega, by omega, by omega, by omega, fun z hz => ?_⟩⟩))⟩
    have s5 : ((" far " : String) : Str).length = 5 := by decide +kernel
    refine ⟨_, _, rfl, rfl, by rw [s5, sizeLine_eq]; omega, by show 2 ≤ sizeLine; decide, fun l hl => ?_⟩
    have x1 := Ext.new (o := .lst [V.str (" far " ++ z), V.str ""]) hl
    refine rd_ixT 0 rfl (x1 _ _ ha) rfl ⟨rfl, .inr ⟨_, rfl, ?_⟩⟩
    refine ⟨l, _, 1, _, rfl, rfl, SqL.of upd_same, atI_nat (j := 1) rfl, _, _, rfl, rfl, ?_, ?_⟩
    · rw [← lineP_pairs] at L
      exact add_le L
    · rw [lineP_pairs]
      exact q _ x1
  | coins n a b g =>
    obtain ⟨p, c, rfl, ha, rc⟩ := tl_coins rd
    obtain ⟨c, xs, rfl, hc, r⟩ := rds_tup rc
    obtain rfl : xs = [.int a, .int b] := ints_of (p := [a, b]) r
    have L := line_le ok
    obtain ⟨h1, h2, h3, h4, h5⟩ := ok
    obtain ⟨a0, a1, b0, b1, _⟩ := coin_bounds h3
    refine rd_ifF (by decide +kernel) rfl ha (rd_li1 (r := .coins n a b g) ha hc (by omega) (by omega) h3 ?_)
    have t5 : (txI g).length ≤ 5 := txI_len (by omega) (by omega)
    have s5 : ((" far " : String) : Str).length = 5 := by decide +kernel
    have L2 : (((" far " : String) : Str) ++ txI g).length ≤ sizeLine := by rw [strApp_len, s5]; omega
    refine ⟨_, rfl, rd_op (rd_lst (rd_op ⟨_, rfl, 1, rfl, p, _, -1, _, rfl, rfl, SqT.of ha, rfl, .inl ⟨_, rfl, small_log (by omega) (by omega), _, _, rfl, rfl, add_le L2, by show 2 ≤ sizeLine; decide, fun l hl => ?_⟩⟩))⟩
    have x1 := Ext.new (o := .lst [V.str (" far " ++ txI g), V.str ""]) hl
    refine rd_ixT 0 rfl (x1 _ _ ha) rfl ⟨rfl, .inr ⟨_, rfl, ?_⟩⟩
    rw [decide_eq_false (fun e => absurd (V.str.inj e) (by show ("coins" : Str) ≠ "pairs"; decide +kernel))]
    refine ⟨l, _, 0, _, rfl, rfl, SqL.of upd_same, atI_nat (j := 0) rfl, _, _, rfl, rfl, ?_, ?_⟩
    · rw [← lineP_coins] at L
      exact add_le L
    · show De.rt (.str (lineP (.coins n a b g) n a b ++ (" far " ++ txI g))) _
      rw [lineP_coins]
      exact q _ x1
theorem ok_li (F : Fun K "_law_line" "_law_line" sLi f fd) (ms : mg "str" = none) (mi : mg "int" = none) : FnOk P w K mg base CX0 1 f fd ["_law_told"] spLi := by
  refine F.ok scLi (fun vs H Q E h => ?_) (fun cdv A outer s H vs Q E hr h => ?_)
  · obtain ⟨v, r, rfl, _⟩ := h
    rfl
  obtain ⟨v, r, rfl, rd, ok, q⟩ := h
  obtain ⟨der⟩ := li_der ms mi hr.gd hr.units (f := f) (cdv := cdv) (A := A) (outer := outer) (s := s) (H := H) (E := E) (P := P) (w := w) (base := base) (K := K)
  exact ⟨_, der, rd_li rd ok q⟩
end
end My
set_option Elab.async false
set_option linter.all false
set_option maxRecDepth 100000
set_option maxHeartbeats 1000000
set_option exponentiation.threshold 10000
namespace My
open PySem PySem.W L2
theorem lookup_one {n z : Str} {a c : Addr} (h : List.lookup z [(n, a)] = some c) : z = n ∧ c = a := by
  rw [List.lookup_cons] at h
  cases e : z == n with
  | true =>
    rw [e] at h
    exact ⟨beq_iff_eq.mp e, (Option.some.inj h).symm⟩
  | false => rw [e] at h; cases h
theorem lookup_two {n m z : Str} {a b c : Addr} (h : List.lookup z [(n, a), (m, b)] = some c) : (z = n ∧ c = a) ∨ (z = m ∧ c = b) := by
  rw [List.lookup_cons] at h
  cases e : z == n with
  | true =>
    rw [e] at h
    exact .inl ⟨beq_iff_eq.mp e, (Option.some.inj h).symm⟩
  | false =>
    rw [e] at h
    exact .inr (lookup_one h)
theorem sum_le_of {m : Int} : ∀ {rs : List R0}, (∀ r ∈ rs, r.folk ≤ m) → (rs.map R0.folk).sum ≤ rs.length * m
  | [], _ => by simp
  | r :: rs, h => by
    have h1 := h r (List.mem_cons_self ..)
    have h2 := sum_le_of fun x hx => h x (List.mem_cons_of_mem _ hx)
    simp only [List.map_cons, List.sum_cons, List.length_cons]
    have : ((rs.length + 1 : Nat) : Int) * m = rs.length * m + m := by rw [Int.natCast_add, Int.add_mul]; omega
    omega
section
variable {P : Program} {w : World} {K : Frag} {mg : Str → Option Value} {base : Heap} {C : Nat → Addr} {CR : Addr}
abbrev sSv : Stmt := top 64
abbrev NSv : List Str := ["_law_xs", "_law_many"]
theorem scSv : FnScope NSv ["_law_xs"] (defScope sSv) := ⟨rfl, rfl, rfl, by decide +kernel, rfl, by decide +kernel, by decide +kernel⟩
def spSv : Sp := fun vs H Q _ => ∃ (p : Addr) (ns : List Int), vs = [.ref p] ∧ Nx H p ns 43 ∧ (∀ n, ns[0]? = some n → n ≤ 5) ∧ ∀ a rs H', Ext H H' → Rds H' (.ref a) (Rl.told (.blocks rs)) → (Rl.blocks rs).ok → Q (.ref a) H'
abbrev scSvC : Scope := { kind := .function, names := [(".0", .local), ("_law_k", .local), ("_law_one", .globalImplicit), ("max", .globalImplicit), ("_law_many", .free), ("_law_xs", .free)], isGenerator := false, isCoroutine := false }
variable {f : Addr} {cdv : Value} {A : Around} {outer : List Env} {s : Shared} {H : Hp} {E : XK}
theorem compSv : CompG (cxOf CX0 P w K mg base NSv "_law_several" (defScope sSv) f cdv A outer s H E).nox scSvC [("_law_xs", s.heap.objs.size + 1), ("_law_many", s.heap.objs.size + 2)] ["_law_k"] ["_law_many", "_law_xs"] [1, 0] := by
  refine ⟨rfl, rfl, by decide +kernel, by decide +kernel, by decide +kernel, (fun z c h => ?_), (fun z h => ?_), by decide +kernel, (fun k z h => ?_), rfl⟩
  · rcases lookup_two h with ⟨rfl, rfl⟩ | ⟨rfl, rfl⟩
    · rfl
    · rfl
  · have h' : List.lookup z [((".0" : Str), NameKind.local), (("_law_k" : Str), NameKind.local), (("_law_one" : Str), NameKind.globalImplicit), (("max" : Str), NameKind.globalImplicit), (("_law_many" : Str), NameKind.cell), (("_law_xs" : Str), NameKind.cell)] = some .cell ∨ List.lookup z [((".0" : Str), NameKind.local), (("_law_k" : Str), NameKind.local), (("_law_one" : Str), NameKind.globalImplicit), (("max" : Str), NameKind.globalImplicit), (("_law_many" : Str), NameKind.cell), (("_law_xs" : Str), NameKind.cell)] = some .free := h
    have e : z = "_law_many" ∨ z = "_law_xs" := by
      simp only [List.lookup_cons, List.lookup_nil] at h'
      repeat' (split at h')
      all_goals first | (simp at h'; done) | (rename_i e; exact .inl (beq_iff_eq.mp e)) | (rename_i e; exact .inr (beq_iff_eq.mp e))
    rcases e with rfl | rfl
    · exact ⟨_, rfl⟩
    · exact ⟨_, rfl⟩
  · match k, h with
    | 0, h => cases h; exact ⟨1, rfl, rfl, .inr (.inl rfl), (by show (defScope sSv).names.lookup ("_law_many" : Str) ≠ some NameKind.local; decide +kernel), .inl rfl⟩
    | 1, h => cases h; exact ⟨0, rfl, rfl, .inr (.inl rfl), (by show (defScope sSv).names.lookup ("_law_xs" : Str) ≠ some NameKind.local; decide +kernel), .inl rfl⟩
theorem ndSv : ((["_law_k"] : List Str) ++ (["_law_many", "_law_xs"] : List Str)).Nodup := by decide +kernel
def rMx2 : List V → Hp → VK → Prop := fun xs H Q => ∃ i j, xs = [.int i, .int j] ∧ Q (.int (if j > i then j else i)) H
def rTpO (K : Frag) : List V → Hp → VK → Prop := fun xs H Q => ∃ p ys, xs = [.ref p] ∧ ((SqL K H p ys ∧ ∀ l, H l = none → Q (.ref l) (upd H l (.tup ys))) ∨ (SqT K H p ys ∧ Q (.ref p) H))
def tOnK (K : Frag) : TE := tCall spOn [] E0 (tCons (tSl (rSlL K) (tVar 2) (tPart (tAd (tC (.int 1)) (tOp (rI CMul fun i j => .int (i * j)) (tC (.int 7)) (tVar 0)))) tNoPart) (tCons (tCB rMx2 (tCons (tC (.int 1)) (tCons (tDv (tC (.int 20)) (tVar 1)) tNil))) tNil))
def tSv0 (K : Frag) : TS := tAsg (tAd (tC (.int 1)) (tXs K 0 0)) (gName 1)
def tSv1 (K : Frag) : TS := tRet (tTup (tCons (tC (.str "blocks")) (tCons (tCB (rTpO K) (tCons (tLCG (iRng1 (tCons (tVar 1) tNil)) 1 [1, 0] (gName 0) (tOnK K)) tNil)) tNil)))
variable {a1 : Addr} {d1 : FuncData}
theorem sv_der (A1 : Df P w K mg base CX0 4 "_law_one" ["_law_xs", "_law_most"] spOn a1 d1) (mx : mg "max" = none) (mt : mg "tuple" = none) (mr : mg "range" = none) (hr : Room 4 (A.deeper (PyProof.Rows.envOfC "_law_several" (defScope sSv) s.heap.objs.size f cdv))) : Bx (PSs (cxOf CX0 P w K mg base NSv "_law_several" (defScope sSv) f cdv A outer s H E).nox (defBody sSv) (tSeq (tSv0 K) (tSv1 K))) := by
  have nd := scSv.nd
  exact bxs_cons (bx_set (i := 1) nd rfl (Or.inr rfl) ⟨pe_op op_add pe_int (pe_ix ix_list (pv 0) pe_int (fun _ _ => rfl))⟩)
    (bxs_one ⟨ps_ret (pe_tup (pa_cons pe_str (pa_cons (pe_callTy call_tuple_of rfl mt PyProof.Rows.boot_tuple (pa_cons (pe_lcG (te := tOnK K) (g := gName 0) rfl compSv (pi_range1 rfl mr (pa_cons (pv 1) pa_nil)) (fun s H C fp => by exact pg_name (i := 0) ndSv rfl (.inl rfl)) (fun s H C fp => by exact pe_call A1.G hr rfl A1.m A1.kp A1.b .nil pass0 (pa_cons (pe_slice sl_list (pv 2) (po_some (pe_op op_add pe_int (pe_op op_mul pe_int (pv 0)))) po_none) (pa_cons (pe_callB (call_max2 rfl) rfl mx PyProof.Rows.boot_max (pa_cons pe_int (pa_cons (pe_op op_fdiv pe_int (pv 1)) pa_nil))) pa_nil)))) pa_nil)) pa_nil)))⟩)
theorem lc_ones {H1 : Hp} {D p : Addr} {ns : List Int} {m : Int} {n : Nat} {Q : Hp → Prop} (nx : Nx H1 p ns 43) (n1 : 1 ≤ n) (n6 : n ≤ 6) (em : (if 20 / (n : Int) > 1 then 20 / (n : Int) else 1) = m) (m1 : 1 ≤ m) (m20 : m ≤ 20) (hD : H1 D = none) (hd : ∀ zs rs H, Ext H1 H → H D = some (.lst zs) → RdsAll H zs (List.map R0.told rs) → rs.length = n → (∀ r ∈ rs, r.ok ∧ r.folk ≤ m) → Q H) :
    ∃ W : Nat → Nat → List V → Hp → Prop, (∃ m, W 0 m [] (upd H1 D (.lst []))) ∧
      ∀ i m' ys H2, W i m' ys H2 → H2 D = some (.lst ys) ∧ (((Itr 0 n).stop i H2 ∧ Q H2) ∨ ((Itr 0 n).go i H2 ∧ ys.length < sizeLine ∧
        ∀ x H3, (Itr 0 n).yld i H2 x H3 → ∀ os : St, os.length = 1 → gName 0 x (os ++ [some (.int n), some (.ref p)]) H3 fun σ2 H0 => (∃ os' : St, os'.length = 1 ∧ σ2 = os' ++ [some (.int n), some (.ref p)]) ∧ tOnK K σ2 H0 fun y H4 => H4 D = some (.lst ys) ∧ ∃ m'', m'' < m' ∧ W (i + 1) m'' (ys ++ [y]) (upd H4 D (.lst (ys ++ [y]))))) := by
  refine lcG_range (lo := 0) (n := n) (fun i zs H' => Ext H1 H' ∧ ∃ rs : List R0, RdsAll H' zs (rs.map R0.told) ∧ rs.length = i ∧ ∀ r ∈ rs, r.ok ∧ r.folk ≤ m) (by rw [sizeLine_eq]; omega) ⟨Ext.new hD, [], .nil, rfl, fun r h => nomatch h⟩ ?_ ?_
  · rintro i zs H' hi lz hDD ⟨x', rs, rz, lr, ok⟩ os los R k
    obtain ⟨o0, rfl⟩ : ∃ o0, os = [o0] := by
      match os, los with
      | [o0], _ => exact ⟨o0, rfl⟩
    have nx' := nx.ext x'
    refine ⟨⟨[some (.int (0 + i))], rfl, rfl⟩, ?_⟩
    show tSl (rSlL K) (tVar 2) (tPart (tAd (tC (.int 1)) (tOp (rI CMul fun i j => .int (i * j)) (tC (.int 7)) (tVar 0)))) tNoPart [some (.int (0 + i)), some (.int n), some (.ref p)] H' _
    refine ⟨_, rfl, _, rfl, 7, 0 + (i : Int), rfl, rfl, .inl ⟨by decide, by decide⟩, 1, 7 * (0 + (i : Int)), rfl, rfl, 1 + 7 * (0 + (i : Int)), rfl, p, _, rfl, SqL.of nx'.at_, fun l hl => ?_⟩
    have x1 := Ext.new (o := .lst (cutV (ns.map V.int) (some (1 + 7 * (0 + (i : Int)))) none)) hl
    have hl1 : upd H' l (.lst (cutV (ns.map V.int) (some (1 + 7 * (0 + (i : Int)))) none)) l = some (.lst (cutV (ns.map V.int) (some (1 + 7 * (0 + (i : Int)))) none)) := upd_same
    have ec : cutV (ns.map V.int) (some (1 + 7 * (0 + (i : Int)))) none = (ns.drop (1 + 7 * i)).map V.int := by
      rw [List.map_drop, show (1 + 7 * (0 + (i : Int))) = ((1 + 7 * i : Nat) : Int) from by omega]
      exact cut_from _ _
    generalize upd H' l (.lst (cutV (ns.map V.int) (some (1 + 7 * (0 + (i : Int)))) none)) = H2 at x1 hl1 ⊢
    rw [ec] at hl1
    have := nx.len
    refine ⟨_, rfl, 20, (n : Int), rfl, rfl, ⟨by show (0 : Int) < n; omega, by show (n : Int) < 1073741824; omega⟩, 1, 20 / (n : Int), rfl, ?_⟩
    rw [em]
    refine ⟨l, ns.drop (1 + 7 * i), m, rfl, Nx.drop (Nat.le_refl _) hl1 (by omega) nx.nn, m1, m20, fun t r H4 x4 rt ko fo => ?_⟩
    have hD4 : H4 D = some (.lst zs) := x4 _ _ (x1 _ _ hDD)
    have kp := kpT_upd (.lst (zs ++ [.ref t])) hD4
    refine k _ H4 hD4 ⟨ext_upd _ ((x'.trans x1).trans x4) hD, rs ++ [r], ?_, by rw [List.length_append, lr]; rfl, fun z hz => ?_⟩
    · rw [List.map_append]
      refine RdsAll.append (RdsAll.keepT kp (noLsts_of fun d hd => ?_) (rz.mono (x1.trans x4))) (.cons (rt.keepT kp r.nl) .nil)
      obtain ⟨r', _, rfl⟩ := List.mem_map.mp hd
      exact r'.nl
    · rcases List.mem_append.mp hz with h | h
      · exact ok z h
      · rw [List.mem_singleton.mp h]
        exact ⟨ko, fo⟩
  · rintro zs H' lz hDD ⟨x', rs, rz, lr, ok⟩
    exact hd zs rs H' x' hDD rz lr ok
theorem ok_sv {fd : FuncData} (F : Fun K "_law_several" "_law_several" sSv f fd) (A1 : Df P w K mg base CX0 4 "_law_one" ["_law_xs", "_law_most"] spOn a1 d1) (mx : mg "max" = none) (mt : mg "tuple" = none) (mr : mg "range" = none) : FnOk P w K mg base CX0 5 f fd ["_law_xs"] spSv := by
  refine F.ok scSv (fun vs H Q E h => ?_) (fun cdv A outer s H vs Q E hr h => ?_)
  · obtain ⟨_, _, rfl, _⟩ := h
    rfl
  obtain ⟨p, ns, rfl, nx, n5, q⟩ := h
  obtain ⟨der⟩ := sv_der A1 mx mt mr hr (f := f) (cdv := cdv) (A := A) (outer := outer) (s := s) (H := H) (E := E)
  refine ⟨_, der, ?_⟩
  obtain ⟨x0, e0, n0⟩ := nx.get (i := 0) (by decide)
  have x5 := n5 _ e0
  obtain ⟨n, en⟩ : ∃ n : Nat, 1 + x0 = (n : Int) := ⟨(1 + x0).toNat, by omega⟩
  have h1 : 1 ≤ n := by omega
  have h6 : n ≤ 6 := by omega
  refine rd_set (te := tAd (tC (.int 1)) (tXs K 0 0)) (i := 1) (D := ⟨_, Q, _, _⟩) (rd_op (rd_xs 0 rfl nx.at_ e0 ⟨_, _, rfl, rfl, ?_⟩))
  show tSv1 K _ [some (.ref p), some (.int (1 + x0))] H
  rw [en]
  obtain ⟨m, em, m1, m20, mn⟩ : ∃ m : Int, (if 20 / (n : Int) > 1 then 20 / (n : Int) else 1) = m ∧ 1 ≤ m ∧ m ≤ 20 ∧ (n : Int) * m ≤ 20 := by
    refine ⟨_, rfl, ?_⟩
    match n, h1, h6 with
    | 1, _, _ | 2, _, _ | 3, _, _ | 4, _, _ | 5, _, _ | 6, _, _ => decide
  refine ⟨_, rfl, (n : Int), rfl, by omega, by omega, fun D hD => ?_⟩
  rw [show (n : Int).toNat = n from Int.toNat_natCast n]
  refine lc_ones (K := K) nx h1 h6 em m1 m20 hD fun zs rs H3 x3 h3 rz lr oks => ⟨D, zs, rfl, .inl ⟨SqL.of h3, fun b hb => ⟨by show 2 ≤ sizeLine; decide, fun a ha => ?_⟩⟩⟩
  have x4 := Ext.new (o := .tup zs) hb
  have x5' := Ext.new (o := .tup [.str "blocks", .ref b]) ha
  have hb4 : upd H3 b (.tup zs) b = some (.tup zs) := upd_same
  have sl := sum_le_of fun r hr => (oks r hr).2
  rw [lr] at sl
  exact q a rs _ ((x3.trans x4).trans x5') (.tup upd_same (.cons (.str _) (.cons (.tup (x5' _ _ hb4) (rz.mono (x4.trans x5'))) .nil))) ⟨by omega, by omega, fun r hr => (oks r hr).1, by omega⟩
end
end My
set_option Elab.async false
set_option linter.all false
set_option maxRecDepth 100000
set_option maxHeartbeats 1000000
set_option exponentiation.threshold 10000
namespace My
open PySem PySem.W L2
theorem asRl_rows (rs : List R0) : (asRl rs).rows = rs := by
  match rs with
  | [] => rfl
  | [r] => rfl
  | _ :: _ :: _ => rfl
theorem asRl_ok {rs : List R0} (ok : (Rl.blocks rs).ok) : (asRl rs).ok := by
  match rs, ok with
  | [], ok => exact ok
  | [r], ok => exact ok.2.2.1 r (List.mem_cons_self ..)
  | _ :: _ :: _, ok => exact ok
theorem asRl_nf (rs : List R0) : ∀ u m, asRl rs ≠ .first u m := by
  intro u m
  match rs with
  | [] => intro e; cases e
  | [r] => intro e; cases e
  | _ :: _ :: _ => intro e; cases e
theorem asRl_kind {rs : List R0} (h : 1 ≤ rs.length) : ((asRl rs).kind == 3) = decide ((rs.length : Int) > 1) := by
  match rs, h with
  | [r], _ => cases r <;> rfl
  | _ :: _ :: rs, _ =>
    rw [decide_eq_true (by simp; omega)]
    rfl
theorem dep_R0 (r : R0) : r.told.depth ≤ 2 := by cases r <;> simp [R0.told, PyData.depth, PyData.depthAll]
theorem dep_all : ∀ (rs : List R0), PyData.depthAll (rs.map R0.told) ≤ 2
  | [] => by simp [PyData.depthAll]
  | r :: rs => by
    have h1 := dep_R0 r
    have h2 := dep_all rs
    simp only [List.map_cons, PyData.depthAll]
    omega
theorem dep_as (rs : List R0) : (asRl rs).told.depth ≤ 20 := by
  have hb : ∀ rs : List R0, (Rl.blocks rs).told.depth ≤ 20 := fun rs => by
    have h2 := dep_all rs
    simp only [Rl.told, PyData.depth, PyData.depthAll]
    omega
  match rs with
  | [] => exact hb []
  | [r] => exact Nat.le_trans (dep_R0 r) (by decide)
  | a :: b :: rs => exact hb (a :: b :: rs)
section
variable {P : Program} {w : World} {K : Frag} {mg : Str → Option Value} {base : Heap} {C : Nat → Addr} {CR : Addr}
abbrev sRi : Stmt := top 65
abbrev NRi : List Str := ["_law_told", "_law_rows", "_law_text", "_law_due", "_law_lap", "_law_read"]
theorem scRi : FnScope NRi ["_law_told"] (defScope sRi) := ⟨rfl, rfl, rfl, by decide +kernel, rfl, by decide +kernel, by decide +kernel⟩
def spRi : Sp := fun vs H Q _ => ∃ v t, vs = [v] ∧ Rds H v (Rl.told t) ∧ t.ok ∧ t.hgt ≤ 1 ∧ ∀ H', Ext H H' → Q (.bl true) H'
abbrev scRiC : Scope := { kind := .function, names := [(".0", .local), ("_law_row_here", .local), ("_law_line", .globalImplicit)], isGenerator := false, isCoroutine := false }
theorem compRi {X : Cx} : CompG X scRiC [] ["_law_row_here"] [] [] := by
  refine ⟨rfl, rfl, by decide +kernel, by decide +kernel, by decide +kernel, (fun z c h => nomatch h), (fun z h => ?_), by decide +kernel, (fun k z h => by simp at h), rfl⟩
  exfalso
  have h' : List.lookup z [((".0" : Str), NameKind.local), (("_law_row_here" : Str), NameKind.local), (("_law_line" : Str), NameKind.globalImplicit)] = some .cell ∨ List.lookup z [((".0" : Str), NameKind.local), (("_law_row_here" : Str), NameKind.local), (("_law_line" : Str), NameKind.globalImplicit)] = some .free := h
  simp only [List.lookup_cons, List.lookup_nil] at h'
  repeat' (split at h')
  all_goals simp at h'
theorem ndRi : (["_law_row_here"] : List Str).Nodup := by decide +kernel
def tRFa : TS := tRet (tC (.bl false))
def tLi1c : TE := tCall spLi [] E0 (tCons (tVar 0) tNil)
def tRi0 : TS := tAsg (tLst (tCons (tVar 0) tNil)) (gName 1)
def rLsO (K : Frag) : List V → Hp → VK → Prop := fun xs H Q => ∃ p ys, xs = [.ref p] ∧ (SqL K H p ys ∨ SqT K H p ys) ∧ ∀ l, H l = none → Q (.ref l) (upd H l (.lst ys))
def tRi1 (K : Frag) : TS := tIfS (tW K 0 "blocks") (tAsg (tCB (rLsO K) (tCons (tIxT K 0 1) tNil)) (gName 1)) tNext
def tRi2 (K : Frag) : TS := tAsg (tBM K "str" (rJoin K) (tC (.str "\n")) (tCons (tLCG (iList K (tVar 1)) 1 [] (gName 0) tLi1c) tNil)) (gName 2)
def tRt (C : Nat → Addr) (te : TE) : TE := tCall (spRt C) [] E0 (tCons te tNil)
def tRi3 (C : Nat → Addr) : TS := tIfS (tB (tOp rNe (tRt C (tCall (spMd C 1) [] E0 (tCons (tVar 0) tNil))) (tVar 2))) tRFa tNext
def tRi4 : TS := tAsg (tVar 0) (gName 3)
def tLen (K : Frag) (i : Nat) : TE := tCB (fun xs H Q => ∃ p ys, xs = [.ref p] ∧ (SqL K H p ys ∨ SqT K H p ys) ∧ Q (.int ys.length) H) (tCons (tVar i) tNil)
def tRi5 (K : Frag) : TS := tIfS (tB (tOp rEq (tLen K 1) (tC (.int 1)))) (tAsg (tOp (rIxL K) (tVar 1) (tC (.int 0))) (gName 3)) tNext
def tRi6a (C : Nat → Addr) : TS := tAsg (tCall (spRR C) [] E0 (tCons (tVar 2) tNil)) (gName 5)
def tTdM (C : Nat → Addr) : TE := tMethD (Is5 C) "told" (fun _ => spTold C) E0 (tVar 5) tNil
def tIsO (K : Frag) (C : Nat → Addr) : TE := tCB (rIsO K) (tCons (tVar 5) (tCons (tC (.ref (C 3))) tNil))
def tRi6b (K : Frag) (C : Nat → Addr) : TS := tIfS (tOr (tB (tOp (rEqD not) (tTdM C) (tVar 3))) (tOr (tB (tOp rNe (tIsO K C) (tOp (rI0 fun i j => .bl (decide (i > j))) (tLen K 1) (tC (.int 1))))) (tB (tOp rNe (tRt C (tVar 5)) (tVar 2))))) tRFa tNext
def tRi6 (K : Frag) (C : Nat → Addr) : TS := tFor (iRng1 (tCons (tC (.int 2)) tNil)) (gName 4) (tSeq (tRi6a C) (tRi6b K C))
def tRi (K : Frag) (C : Nat → Addr) : TS := tSeq tRi0 (tSeq (tRi1 K) (tSeq (tRi2 K) (tSeq (tRi3 C) (tSeq tRi4 (tSeq (tRi5 K) (tSeq (tRi6 K C) (tRet (tC (.bl true)))))))))
variable {f a1 a2 a3 a4 : Addr} {d1 d2 d3 d4 : FuncData} {cdv : Value} {A : Around} {outer : List Env} {s : Shared} {H : Hp} {E : XK}
theorem ri_der (N : IsT K) (M : Ms P w K mg base C) (A1 : Df P w K mg base CX0 1 "_law_line" ["_law_told"] spLi a1 d1) (A2 : Df P w K mg base CX0 4 "rule_text" ["rule"] (spRt C) a2 d2) (A3 : Df P w K mg base CX0 9 "_law_made" ["_law_told"] (spMd C 1) a3 d3) (A4 : Df P w K mg base CX0 10 "read_rule" ["text"] (spRR C) a4 d4)
    (m3 : mg "Blocks" = some (.ref (C 3))) (ml : mg "len" = none) (ms : mg "list" = none) (mi : mg "isinstance" = none) (mr : mg "range" = none)
    (hr : Room 10 (A.deeper (PyProof.Rows.envOfC "_law_right" (defScope sRi) s.heap.objs.size f cdv))) : Bx (PSs (cxOf CX0 P w K mg base NRi "_law_right" (defScope sRi) f cdv A outer s H E).nox (defBody sRi) (tRi K C)) := by
  have nd := scRi.nd
  have hr1 : Room 1 _ := hr.mono (by decide)
  have hr4 : Room 4 _ := hr.mono (by decide)
  have hr9 : Room 9 _ := hr.mono (by decide)
  have hu := hr.units
  exact bxs_cons (bx_set (i := 1) nd rfl (Or.inl rfl) ⟨pe_lst (pa_cons (pv 0) pa_nil)⟩)
    (bxs_cons ⟨ps_if (pt_cmpR op_eq (pe_ix ix_tup (pv 0) pe_int (fun _ _ => rfl)) pe_str (nomark _)) (pss_one (ps_set (i := 1) nd rfl (Or.inl rfl) (pe_callTy call_list_of rfl ms PyProof.Rows.boot_list (pa_cons (pe_ix ix_tup (pv 0) pe_int (fun _ _ => rfl)) pa_nil)))) pss_nil⟩
    (bxs_cons (bx_set (i := 2) nd rfl (Or.inl rfl) ⟨pe_bm PySem.F.plainAttrs_str PySem.F.slot_str_join PySem.F.type_str_join mt_join pe_str (pa_cons (pe_lcG (te := tLi1c) (g := gName 0) rfl compRi (pi_list (pv 1)) (fun s H C fp => by exact pg_name (i := 0) ndRi rfl (.inl rfl)) (fun s H C fp => by exact pe_call A1.G hr1 rfl A1.m A1.kp A1.b .nil pass0 (pa_cons (pv 0) pa_nil))) pa_nil)⟩)
    (bxs_cons ⟨ps_if (pt_cmpR op_ne (pe_call A2.G hr4 rfl A2.m A2.kp A2.b .nil pass0 (pa_cons (pe_call A3.G hr9 rfl A3.m A3.kp A3.b .nil pass0 (pa_cons (pv 0) pa_nil)) pa_nil)) (pv 2) (nomark _)) (pss_one (ps_ret pe_bl)) pss_nil⟩
    (bxs_cons (bx_set (i := 3) nd rfl (Or.inl rfl) ⟨pv 0⟩)
    (bxs_cons ⟨ps_if (pt_cmpR op_eq (pe_callB call_len_seq rfl ml PySem.boot_len (pa_cons (pv 1) pa_nil)) pe_int (nomark _)) (pss_one (ps_set (i := 3) nd rfl (Or.inl rfl) (pe_ix ix_list (pv 1) pe_int (fun _ _ => rfl)))) pss_nil⟩
    (bxs_cons ⟨ps_for PassesOwn.never rfl (pi_range1 rfl mr (pa_cons pe_int pa_nil)) (pg_name (i := 4) nd rfl (Or.inl rfl))
      (pss_cons (ps_set (i := 5) nd rfl (Or.inl rfl) (pe_call A4.G hr rfl A4.m A4.kp A4.b .nil pass0 (pa_cons (pv 2) pa_nil)))
      (pss_one (ps_if (PW.pt (pw_or (pt_cmpR (op_neD hu) (pe_methD0 (pv 5) M.told hr1 pass0) (pv 3) (nomark _)) (pw_or (pt_cmpR op_ne (pe_callB (call_isO N) rfl mi PyProof.Rows.boot_isinstance (pa_cons (pv 5) (pa_cons (pe_glob (v := .ref (C 3)) rfl m3 rfl) pa_nil))) (pe_cmpR op_gt (pe_callB call_len_seq rfl ml PySem.boot_len (pa_cons (pv 1) pa_nil)) pe_int (nomark _)) (nomark _))
        (pw_or1 (pt_cmpR op_ne (pe_call A2.G hr4 rfl A2.m A2.kp A2.b .nil pass0 (pa_cons (pv 5) pa_nil)) (pv 2) (nomark _)))))) (pss_one (ps_ret pe_bl)) pss_nil)))⟩
    (bxs_one ⟨ps_ret pe_bl⟩)))))))
end
end My
set_option Elab.async false
set_option linter.all false
set_option maxRecDepth 100000
set_option maxHeartbeats 1000000
set_option exponentiation.threshold 10000
namespace My
open PySem PySem.W L2
section
variable {K : Frag} {C : Nat → Addr} {CR : Addr} {H : Hp} {De : Ends}
theorem lc_liL {H1 : Hp} {D l : Addr} {ws : List V} {rs : List R0} {Q : Hp → Prop} (hl : H1 l = some (.lst ws)) (rw' : RdsAll H1 ws (rs.map R0.told)) (ok : ∀ r ∈ rs, r.ok) (l6 : rs.length ≤ 6) (hD : H1 D = none) (hd : ∀ H, Ext H1 H → H D = some (.lst ((rs.map lineT).map V.str)) → Q H) :
    ∃ W : Nat → Nat → List V → Hp → Prop, (∃ m, W 0 m [] (upd H1 D (.lst []))) ∧
      ∀ i m ys H2, W i m ys H2 → H2 D = some (.lst ys) ∧ (((Itl K l).stop i H2 ∧ Q H2) ∨ ((Itl K l).go i H2 ∧ ys.length < sizeLine ∧
        ∀ x H3, (Itl K l).yld i H2 x H3 → ∀ os : St, os.length = 1 → gName 0 x (os ++ []) H3 fun σ2 H0 => (∃ os' : St, os'.length = 1 ∧ σ2 = os' ++ []) ∧ tLi1c σ2 H0 fun y H4 => H4 D = some (.lst ys) ∧ ∃ m', m' < m ∧ W (i + 1) m' (ys ++ [y]) (upd H4 D (.lst (ys ++ [y]))))) := by
  have ly := rw'.length
  rw [List.length_map] at ly
  refine lcG_list (a := l) (xs := ws) (fun i zs H' => Ext H1 H' ∧ zs = ((rs.take i).map lineT).map V.str) (by rw [sizeLine_eq]; omega) ⟨Ext.new hD, rfl⟩ (fun i zs H' pv => SqL.of (pv.1 _ _ hl)) ?_ ?_
  · rintro i x zs H' ex lz hDD ⟨x', rfl⟩ os los R k
    obtain ⟨o0, rfl⟩ : ∃ o0, os = [o0] := by
      match os, los with
      | [o0], _ => exact ⟨o0, rfl⟩
    have hi : i < rs.length := by have := (List.getElem?_eq_some_iff.mp ex).1; omega
    have er := List.getElem?_eq_getElem hi
    obtain ⟨d, ed, rd⟩ := rw'.get ex
    rw [List.getElem?_map, er] at ed
    cases ed
    refine ⟨⟨[some x], rfl, rfl⟩, _, rfl, x, rs[i], rfl, rd.mono x', ok _ (List.getElem_mem hi), fun H4 x4 => k _ H4 (x4 _ _ hDD) ⟨ext_upd _ (x'.trans x4) hD, ?_⟩⟩
    rw [take_all er, List.map_append, List.map_append]
    rfl
  · rintro zs H' lz hDD ⟨x', rfl⟩
    rw [ly, List.take_length] at hDD
    exact hd H' x' hDD
theorem rd_lap (Z : KR K C CR) {rs : List R0} {v u : V} {l : Addr} {ws : List V} {o4 o5 : Option V} (ok : (Rl.blocks rs).ok) (hl : H l = some (.lst ws)) (lw : ws.length = rs.length) (rd : Rds H u (asRl rs).told)
    (k : ∀ x H', Ext H H' → De.nx [some v, some (.ref l), some (.str (rowsT rs)), some u, o4, some (.ref x)] H') : tSeq (tRi6a C) (tRi6b K C) De [some v, some (.ref l), some (.str (rowsT rs)), some u, o4, o5] H := by
  refine rd_set (te := tCall (spRR C) [] E0 (tCons (tVar 2) tNil)) (i := 5) ⟨_, rfl, rs, rfl, ok, fun x H1 x1 ru => ?_⟩
  show tRi6b K C De [some v, some (.ref l), some (.str (rowsT rs)), some u, o4, some (.ref x)] H1
  have p1 := (asRl rs).plain
  refine rd_ifOr (rd_meth0 (by decide +kernel) ru (fun R r => ⟨_, rfl, r⟩) ⟨_, asRl rs, H1, rfl, Ext.refl _, ru, fun b rb => ⟨_, rfl, _, _, rb, rd.mono x1, p1, p1, dep_as rs, ?_⟩⟩)
  rw [eqD_refl p1]
  refine ⟨_, rfl, itF ?_⟩
  have hk := Z.kk (asRl rs).kind 3 (Rl.kind_lt _) (by decide)
  rw [asRl_kind ok.1] at hk
  refine ⟨_, rfl, _, _, _, _, rfl, ru.kd Z, hk, _, rfl, l, ws, rfl, .inl (SqL.of (x1 _ _ hl)), _, _, rfl, rfl, rfl, _, rfl, ?_⟩
  rw [lw, decide_eq_true rfl]
  refine itF ⟨_, rfl, _, asRl rs, rfl, ru, asRl_ok ok, asRl_nf rs, fun H2 x2 => ⟨_, rfl, rfl, _, rfl, ?_⟩⟩
  rw [asRl_rows, decide_eq_true rfl]
  exact itF (k x H2 (x1.trans x2))
theorem rd_ri2 (Z : KR K C CR) {v : V} {t : Rl} {l : Addr} {ws : List V} {rs : List R0} (rd : Rds H v t.told) (ok : t.ok) (hg : t.hgt ≤ 1) (er : t.rows = rs) (okB : (Rl.blocks rs).ok) (hl : H l = some (.lst ws)) (rw' : RdsAll H ws (rs.map R0.told)) (big : 2 ≤ rs.length → t = .blocks rs) (q : ∀ H', Ext H H' → De.rt (.bl true) H') :
    tSeq (tRi2 K) (tSeq (tRi3 C) (tSeq tRi4 (tSeq (tRi5 K) (tSeq (tRi6 K C) (tRet (tC (.bl true))))))) De [some v, some (.ref l), none, none, none, none] H := by
  obtain ⟨o1, o6, oo, o20⟩ := id okB
  have lw := rw'.length
  rw [List.length_map] at lw
  refine rd_set (te := tBM K "str" (rJoin K) (tC (.str "\n")) (tCons (tLCG (iList K (tVar 1)) 1 [] (gName 0) tLi1c) tNil)) (i := 2) ?_
  refine ⟨(rfl : ("str" : String) = "str"), _, rfl, l, rfl, ⟨_, SqL.of hl⟩, fun D hD => lc_liL hl rw' oo o6 hD fun H1 x1 h1 => ?_⟩
  obtain ⟨j1, j2⟩ := rows_join oo o6
  refine ⟨_, D, rs.map lineT, rfl, rfl, SqL.of h1, j1, ?_⟩
  rw [j2]
  show tSeq (tRi3 C) _ De [some v, some (.ref l), some (.str (rowsT rs)), none, none, none] H1
  have nf : ∀ u m, t ≠ .first u m := fun u m e => by
    rw [e] at hg
    have : u.hgt + 2 ≤ 1 := hg
    omega
  refine rd_seq ⟨_, rfl, v, t, rfl, rd.mono x1, ok, hg, fun x H2 x2 ru => ⟨_, t, rfl, ru, ok, nf, fun H3 x3 => ⟨_, rfl, rfl, _, rfl, ?_⟩⟩⟩
  rw [er, decide_eq_true rfl]
  refine itF ?_
  have x03 := (x1.trans x2).trans x3
  show tSeq tRi4 _ De [some v, some (.ref l), some (.str (rowsT rs)), none, none, none] H3
  refine rd_set (te := tVar 0) (i := 3) ⟨_, rfl, ?_⟩
  show tSeq (tRi5 K) _ De [some v, some (.ref l), some (.str (rowsT rs)), some v, none, none] H3
  have hl3 := x03 _ _ hl
  have fin : ∀ u, Rds H3 u (asRl rs).told → tSeq (tRi6 K C) (tRet (tC (.bl true))) De [some v, some (.ref l), some (.str (rowsT rs)), some u, none, none] H3 := fun u ru => by
    refine ⟨2, rfl, by decide, by decide, ?_⟩
    refine for_range (n := 2) (fun i σ H' => Ext H3 H' ∧ ∃ o4 o5, σ = [some v, some (.ref l), some (.str (rowsT rs)), some u, o4, o5]) ⟨Ext.refl _, _, _, rfl⟩ ?_ ?_
    · rintro i σ H' hi ⟨x', o4, o5, rfl⟩
      exact rd_lap Z okB (x' _ _ hl3) lw (ru.mono x') fun x H4 x4 => ⟨x'.trans x4, _, _, rfl⟩
    · rintro σ H' ⟨x', o4, o5, rfl⟩
      exact q H' (x03.trans x')
  refine rd_seq ⟨_, rfl, l, ws, rfl, .inl (SqL.of hl3), rfl, _, rfl, ?_⟩
  refine ite2 (fun c => ?_) (fun c => ?_)
  · have c1 : ws.length = 1 := by
      have := V.int.inj (of_decide_eq_true c)
      omega
    obtain ⟨r, rfl⟩ : ∃ r, rs = [r] := by
      match rs, lw, c1 with
      | [r], _, _ => exact ⟨r, rfl⟩
      | [], lw, c1 => exact absurd (lw.symm.trans c1) (by decide)
      | _ :: _ :: _, lw, c1 => exact absurd (lw.symm.trans c1) (by simp)
    cases rw' with
    | cons ra rb =>
      cases rb
      exact ⟨_, rfl, l, _, 0, _, rfl, rfl, SqL.of hl3, atI_nat (j := 0) rfl, fin _ (ra.mono x03)⟩
  · have c2 : 2 ≤ rs.length := by
      rcases Nat.lt_or_ge rs.length 2 with z | z
      · exact absurd (decide_eq_true (show V.int (ws.length : Nat) = V.int 1 by rw [lw, show rs.length = 1 by omega]; rfl)) c
      · exact z
    refine fin v ?_
    have e : asRl rs = t := by
      rw [big c2]
      match rs, c2 with
      | _ :: _ :: _, _ => rfl
    rw [e]
    exact rd.mono x03
theorem rd_ri (Z : KR K C CR) {v : V} {t : Rl} (rd : Rds H v t.told) (ok : t.ok) (hg : t.hgt ≤ 1) (q : ∀ H', Ext H H' → De.rt (.bl true) H') : tRi K C De [some v, none, none, none, none, none] H := by
  refine rd_set (te := tLst (tCons (tVar 0) tNil)) (i := 1) ⟨_, rfl, by show 1 ≤ sizeLine; decide, fun l hl => ?_⟩
  have x1 := Ext.new (o := .lst [v]) hl
  have h1 : upd H l (.lst [v]) l = some (.lst [v]) := upd_same
  show tSeq (tRi1 K) _ De [some v, some (.ref l), none, none, none, none] (upd H l (.lst [v]))
  generalize upd H l (.lst [v]) = H1 at x1 h1 ⊢
  have rd1 := rd.mono x1
  cases t with
  | one r =>
    have fk := R0.folk_ok ok
    obtain ⟨a, xs, rfl, ha⟩ := tl_w0 rd1
    refine rd_seq (rd_ifF (word_nb r) rfl ha ?_)
    exact rd_ri2 Z (t := .one r) (rs := [r]) rd1 ok hg rfl ⟨by show 1 ≤ 1; decide, by show 1 ≤ 6; decide, fun r' hr' => (by rw [List.mem_singleton.mp hr']; exact ok), by simp only [List.map_cons, List.map_nil, List.sum_cons, List.sum_nil]; omega⟩ h1 (.cons rd1 .nil) (fun h => absurd h (by show ¬ 2 ≤ 1; decide)) fun H' x' => q H' (x1.trans x')
  | blocks rs =>
    obtain ⟨a, b, ys, rfl, ha, hb, ry⟩ := tl_blocks rd1
    refine rd_seq (rd_ifT rfl ha (rd_ixT 1 rfl ha rfl ⟨b, ys, rfl, .inr (SqT.of hb), fun m hm => ?_⟩))
    have x2 := Ext.new (o := .lst ys) hm
    exact rd_ri2 Z (t := .blocks rs) (rs := rs) (rd1.mono x2) ok hg rfl ok upd_same (ry.mono x2) (fun _ => rfl) fun H' x' => q H' ((x1.trans x2).trans x')
  | first u m =>
    have : u.hgt + 2 ≤ 1 := hg
    omega
end
section
variable {P : Program} {w : World} {K : Frag} {mg : Str → Option Value} {base : Heap} {C : Nat → Addr} {CR f a1 a2 a3 a4 : Addr} {fd d1 d2 d3 d4 : FuncData}
theorem ok_ri (Z : KR K C CR) (F : Fun K "_law_right" "_law_right" sRi f fd) (N : IsT K) (M : Ms P w K mg base C) (A1 : Df P w K mg base CX0 1 "_law_line" ["_law_told"] spLi a1 d1) (A2 : Df P w K mg base CX0 4 "rule_text" ["rule"] (spRt C) a2 d2) (A3 : Df P w K mg base CX0 9 "_law_made" ["_law_told"] (spMd C 1) a3 d3) (A4 : Df P w K mg base CX0 10 "read_rule" ["text"] (spRR C) a4 d4)
    (m3 : mg "Blocks" = some (.ref (C 3))) (ml : mg "len" = none) (ms : mg "list" = none) (mi : mg "isinstance" = none) (mr : mg "range" = none) : FnOk P w K mg base CX0 11 f fd ["_law_told"] spRi := by
  refine F.ok scRi (fun vs H Q E h => ?_) (fun cdv A outer s H vs Q E hr h => ?_)
  · obtain ⟨v, t, rfl, _⟩ := h
    rfl
  obtain ⟨v, t, rfl, rd, ok, hg, q⟩ := h
  obtain ⟨der⟩ := ri_der N M A1 A2 A3 A4 m3 ml ms mi mr hr (f := f) (cdv := cdv) (A := A) (outer := outer) (s := s) (H := H) (E := E)
  exact ⟨_, der, rd_ri Z rd ok hg q⟩
end
end My
set_option Elab.async false
set_option linter.all false
set_option maxRecDepth 100000
set_option maxHeartbeats 1000000
set_option exponentiation.threshold 10000
namespace My
open PySem PySem.W L2
theorem cut_ints {ns : List Int} {lo hi : Option Int} : ∀ v ∈ cutV (ns.map V.int) lo hi, ∃ i, v = V.int i := by
  intro v hv
  unfold cutV at hv
  have h1 := List.mem_of_mem_drop (List.mem_of_mem_take hv)
  obtain ⟨i, _, rfl⟩ := List.mem_map.mp h1
  exact ⟨i, rfl⟩
def tInts : List Int → TA
  | [] => tNil
  | n :: ns => tCons (tC (.int n)) (tInts ns)
theorem below_nn {xs ss : List Int} (h : Below xs ss) (l : xs.length = ss.length) : ∀ n ∈ xs, 0 ≤ n := fun n hn => by
  obtain ⟨i, hi, rfl⟩ := List.getElem_of_mem hn
  exact (h i _ _ (List.getElem?_eq_getElem hi) (List.getElem?_eq_getElem (by omega))).1
section
variable {X : Cx} {op : Operator} {r : R2} {a b : Expr} {ta tb : TE} {pos p : Pos} {CX : CXT} {k : Nat} {f : Addr} {fd : FuncData} {ps : List Str} {sp : Sp} {E : XK} {x : Str} {e : Expr} {es : List Expr} {t : TA}
theorem bx_op (ho : OpR X (binaryOp op) r) (ha : Bx (PE X a ta)) (hb : Bx (PE X b tb)) : Bx (PE X (.BinOp a op b pos) (tOp r ta tb)) := ⟨pe_op ho ha.h hb.h⟩
theorem bx_call (F : FnOk X.prog X.w X.K X.mg X.base CX k f fd ps sp) (hr : Room k X.A) (hg : Gl X x) (hm : X.mg x = some (.ref f)) (hk : PySem.W.keepIn X.K (.ref f) = true) (hb : Binds X.K fd ps []) (hx : Passes CX X E)
    (ha : Bx (PA X (e :: es) t)) (hdb : (x == ("__debug__" : Str)) = false := by decide) (he : starEach (e :: es) X.env = (false, eval e X.env) :: starEach es X.env := by rfl) (hpl : (backTo pos (starEach es X.env)).any (·.1) = false := by rfl) :
    Bx (PE X (.Call (.Name x p) (e :: es) [] pos) (tCall sp [] E t)) := ⟨pe_call F hr hg hm hk hb .nil hx ha.h hdb he hpl⟩
end
section
variable {P : Program} {w : World} {K : Frag} {mg : Str → Option Value} {base : Heap} {C : Nat → Addr} {CR : Addr}
abbrev sLaw : Stmt := top 66
abbrev stLw (i : Nat) : Stmt := (defBody sLaw).getD i (.Pass ⟨0, 0, 0, 0⟩)
def forBody : Stmt → List Stmt
  | .For _ _ b _ _ => b
  | _ => []
abbrev stB (i : Nat) : Stmt := (forBody (stLw 0)).getD i (.Pass ⟨0, 0, 0, 0⟩)
abbrev NLw : List Str := ["_law_script", "_law_cell", "_law_xs", "_law_told"]
theorem scLw : FnScope NLw ["_law_script"] (defScope sLaw) := ⟨rfl, rfl, rfl, by decide +kernel, rfl, by decide +kernel, by decide +kernel⟩
def I7 : List Int := [3, 20, 1000, 1000, 8, 80, 5]
def tSzL : TE := tOp rCat (tOp rCat (tOp rCat (tLst (tInts [2])) (tLst (tInts [3, 20, 1000, 1000, 8, 80, 5]))) (tLst (tInts [6]))) (tOp rRep (tLst (tInts [3, 20, 1000, 1000, 8, 80, 5])) (tC (.int 6)))
def tB0 (K : Frag) : TS := tAsg (tCall (spRow K) [] E0 (tCons (tVar 1) (tCons tSzL tNil))) (gName 2)
def tCutF (K : Frag) (k : Int) : TE := tSl (rSlL K) (tVar 2) (tPart (tC (.int k))) tNoPart
def tB1 (K : Frag) : TS := tAsg (tCall spOn [] E0 (tCons (tCutF K 1) (tCons (tC (.int 20)) tNil))) (gName 3)
def tB2 (K : Frag) : TS := tIfS (tB (tOp rEq (tXs K 2 0) (tC (.int 0)))) (tAsg (tCall spSv [] E0 (tCons (tCutF K 8) tNil)) (gName 3)) tNext
def tB3 : TS := tIfS (tNot (tB (tCall spRi [] E0 (tCons (tVar 3) tNil)))) tRFa tNext
def tBody (K : Frag) : TS := tSeq (tB0 K) (tSeq (tB1 K) (tSeq (tB2 K) tB3))
def tSc (K : Frag) : TE := tOp rCat (tSl (rSlL K) (tVar 0) tNoPart (tPart (tC (.int 15)))) (tLst (tInts [4]))
def tLw (K : Frag) : TS := tSeq (tFor (iList K (tSc K)) (gName 1) (tBody K)) (tRet (tC (.bl true)))
variable {f a0 a1 a2 a3 : Addr} {d0 d1 d2 d3 : FuncData} {cdv : Value} {A : Around} {outer : List Env} {s : Shared} {H : Hp} {E : XK}
structure Dl (P : Program) (w : World) (K : Frag) (mg : Str → Option Value) (base : Heap) (a0 a1 a2 a3 : Addr) (d0 d1 d2 d3 : FuncData) : Prop where
  ro : Df P w K mg base CX0 1 "_law_row" ["_law_cell", "_law_sizes"] (spRow K) a0 d0
  on : Df P w K mg base CX0 4 "_law_one" ["_law_xs", "_law_most"] spOn a1 d1
  sv : Df P w K mg base CX0 5 "_law_several" ["_law_xs"] spSv a2 d2
  ri : Df P w K mg base CX0 11 "_law_right" ["_law_told"] spRi a3 d3
section
variable (D : Dl P w K mg base a0 a1 a2 a3 d0 d1 d2 d3) (hr : Room 11 (A.deeper (PyProof.Rows.envOfC "law" (defScope sLaw) s.heap.objs.size f cdv)))
include D hr
theorem b_0 : Bx (PS (cxOf CX0 P w K mg base NLw "law" (defScope sLaw) f cdv A outer s H E).nox (stB 0) (tB0 K)) := by
  have hr1 : Room 1 _ := hr.mono (by decide)
  exact bx_set (i := 2) scLw.nd rfl (Or.inl rfl) (bx_call D.ro.G hr1 rfl D.ro.m D.ro.kp D.ro.b pass0 (bxa_cons ⟨pv 1⟩ (bxa_cons (bx_op op_cat (bx_op op_cat (bx_op op_cat (bx_lst (bxa_cons ⟨pe_int⟩ bxa_nil)) (bx_lst (bxa_cons ⟨pe_int⟩ (bxa_cons ⟨pe_int⟩ (bxa_cons ⟨pe_int⟩ (bxa_cons ⟨pe_int⟩ (bxa_cons ⟨pe_int⟩ (bxa_cons ⟨pe_int⟩ (bxa_cons ⟨pe_int⟩ bxa_nil))))))))) (bx_lst (bxa_cons ⟨pe_int⟩ bxa_nil))) (bx_op op_rep (bx_lst (bxa_cons ⟨pe_int⟩ (bxa_cons ⟨pe_int⟩ (bxa_cons ⟨pe_int⟩ (bxa_cons ⟨pe_int⟩ (bxa_cons ⟨pe_int⟩ (bxa_cons ⟨pe_int⟩ (bxa_cons ⟨pe_int⟩ bxa_nil)))))))) ⟨pe_int⟩)) bxa_nil)))
theorem b_1 : Bx (PS (cxOf CX0 P w K mg base NLw "law" (defScope sLaw) f cdv A outer s H E).nox (stB 1) (tB1 K)) := by
  have hr4 : Room 4 _ := hr.mono (by decide)
  exact bx_set (i := 3) scLw.nd rfl (Or.inl rfl) ⟨pe_call D.on.G hr4 rfl D.on.m D.on.kp D.on.b .nil pass0 (pa_cons (pe_slice sl_list (pv 2) (po_some pe_int) po_none) (pa_cons pe_int pa_nil))⟩
theorem b_2 : Bx (PS (cxOf CX0 P w K mg base NLw "law" (defScope sLaw) f cdv A outer s H E).nox (stB 2) (tB2 K)) := by
  have hr5 : Room 5 _ := hr.mono (by decide)
  exact ⟨ps_if (pt_cmpR op_eq (pe_ix ix_list (pv 2) pe_int (fun _ _ => rfl)) pe_int (nomark _)) (pss_one (ps_set (i := 3) scLw.nd rfl (Or.inl rfl) (pe_call D.sv.G hr5 rfl D.sv.m D.sv.kp D.sv.b .nil pass0 (pa_cons (pe_slice sl_list (pv 2) (po_some pe_int) po_none) pa_nil)))) pss_nil⟩
theorem b_3 : Bx (PS (cxOf CX0 P w K mg base NLw "law" (defScope sLaw) f cdv A outer s H E).nox (stB 3) tB3) :=
  ⟨ps_if (pt_not (pt_val (pe_call D.ri.G hr rfl D.ri.m D.ri.kp D.ri.b .nil pass0 (pa_cons (pv 3) pa_nil)))) (pss_one (ps_ret pe_bl)) pss_nil⟩
theorem body_der : Bx (PSs (cxOf CX0 P w K mg base NLw "law" (defScope sLaw) f cdv A outer s H E).nox (forBody (stLw 0)) (tBody K)) :=
  bxs_cons (b_0 D hr) (bxs_cons (b_1 D hr) (bxs_cons (b_2 D hr) (bxs_one (b_3 D hr))))
theorem law_0 : Bx (PS (cxOf CX0 P w K mg base NLw "law" (defScope sLaw) f cdv A outer s H E).nox (stLw 0) (tFor (iList K (tSc K)) (gName 1) (tBody K))) := by
  obtain ⟨q⟩ := body_der D hr (f := f) (cdv := cdv) (A := A) (outer := outer) (s := s) (H := H) (E := E)
  exact ⟨ps_for PassesOwn.never rfl (pi_list (pe_op op_cat (pe_slice sl_list (pv 0) po_none (po_some pe_int)) (pe_lst (pa_cons pe_int pa_nil)))) (pg_name (i := 1) scLw.nd rfl (Or.inl rfl)) q⟩
theorem law_der : Bx (PSs (cxOf CX0 P w K mg base NLw "law" (defScope sLaw) f cdv A outer s H E).nox (defBody sLaw) (tLw K)) :=
  bxs_cons (law_0 D hr) (bxs_one ⟨ps_ret pe_bl⟩)
end
def szs : List Int := [2] ++ I7 ++ [6] ++ (List.replicate 6 I7).flatten
theorem szs_len : szs.length = 51 := by decide +kernel
theorem szs_ok : ∀ s ∈ szs, 0 < s ∧ s ≤ 10 ^ 20 := by decide +kernel
theorem szs8 : szs[8]? = some 6 := by decide +kernel
def V7 : List V := I7.map V.int
theorem rd_rowL {σ : St} {c : Int} {R : List V → Hp → Prop} (s1 : σ[1]? = some (some (.int c))) (k : ∀ l H', Ext H H' → H' l = some (.lst (szs.map V.int)) → R [.int c, .ref l] H') : tCons (tVar 1) (tCons tSzL tNil) σ H R := by
  refine ⟨_, s1, rd_op (rd_op (rd_op (rd_op (rd_lst ⟨by show 1 ≤ sizeLine; decide, fun l1 h1 => rd_lst ⟨by show 7 ≤ sizeLine; decide, fun l2 h2 => ?_⟩⟩))))⟩
  have y1 : Ext H (upd H l1 (.lst [V.int 2])) := Ext.new h1
  have g1 : upd H l1 (.lst [V.int 2]) l1 = some (.lst [V.int 2]) := upd_same
  have h2' : upd H l1 (.lst [V.int 2]) l2 = none := h2
  show rCat (.ref l1) (.ref l2) (upd (upd H l1 (.lst [V.int 2])) l2 (.lst V7)) _
  generalize upd H l1 (.lst [V.int 2]) = H1 at y1 g1 h2' ⊢
  have y2 := Ext.new (o := .lst V7) h2'
  have g2 : upd H1 l2 (.lst V7) l2 = some (.lst V7) := upd_same
  generalize upd H1 l2 (.lst V7) = H2 at y2 g2 ⊢
  refine ⟨l1, l2, _, _, rfl, rfl, y2 _ _ g1, g2, by show 8 ≤ sizeLine; decide, fun l3 h3 => ?_⟩
  have y3 := Ext.new (o := .lst ([V.int 2] ++ V7)) h3
  have g3 : upd H2 l3 (.lst ([V.int 2] ++ V7)) l3 = some (.lst ([V.int 2] ++ V7)) := upd_same
  generalize upd H2 l3 (.lst ([V.int 2] ++ V7)) = H3 at y3 g3 ⊢
  refine rd_lst ⟨by show 1 ≤ sizeLine; decide, fun l4 h4 => ?_⟩
  have y4 : Ext H3 (upd H3 l4 (.lst [V.int 6])) := Ext.new h4
  have g4 : upd H3 l4 (.lst [V.int 6]) l4 = some (.lst [V.int 6]) := upd_same
  show rCat (.ref l3) (.ref l4) (upd H3 l4 (.lst [V.int 6])) _
  generalize upd H3 l4 (.lst [V.int 6]) = H4 at y4 g4 ⊢
  refine ⟨l3, l4, _, _, rfl, rfl, y4 _ _ g3, g4, by show 9 ≤ sizeLine; decide, fun l5 h5 => ?_⟩
  have y5 := Ext.new (o := .lst (([V.int 2] ++ V7) ++ [V.int 6])) h5
  have g5 : upd H4 l5 (.lst (([V.int 2] ++ V7) ++ [V.int 6])) l5 = some (.lst (([V.int 2] ++ V7) ++ [V.int 6])) := upd_same
  generalize upd H4 l5 (.lst (([V.int 2] ++ V7) ++ [V.int 6])) = H5 at y5 g5 ⊢
  refine rd_op (rd_lst ⟨by show 7 ≤ sizeLine; decide, fun l6 h6 => ?_⟩)
  have y6 : Ext H5 (upd H5 l6 (.lst V7)) := Ext.new h6
  refine ⟨l6, 6, V7, rfl, rfl, upd_same, by decide, by decide, by show 42 ≤ sizeLine; decide, fun l7 h7 => ?_⟩
  have y7 : Ext (upd H5 l6 (.lst V7)) (upd (upd H5 l6 (.lst V7)) l7 (.lst (List.replicate (6 : Int).toNat V7).flatten)) := Ext.new h7
  refine ⟨l5, l7, _, _, rfl, rfl, (y6.trans y7) _ _ g5, upd_same, by show 51 ≤ sizeLine; decide, fun l8 h8 => ?_⟩
  exact k l8 _ ((((((y1.trans y2).trans y3).trans y4).trans y5).trans (y6.trans y7)).trans (Ext.new h8)) upd_same
theorem rd_body {De : Ends} {c : Int} {o0 o2 o3 : Option V} (k : ∀ H' p2 p3, Ext H H' → De.nx [o0, some (.int c), p2, p3] H') : tBody K De [o0, some (.int c), o2, o3] H := by
  refine rd_set (te := tCall (spRow K) [] E0 (tCons (tVar 1) (tCons tSzL tNil))) (i := 2) (rd_rowL rfl fun l H1 y1 hl => ⟨c, l, szs, rfl, SqL.of hl, szs_ok, by rw [szs_len]; decide, fun p xs H2 y2 _ hp lx bl => ?_⟩)
  show tSeq (tB1 K) _ De [o0, some (.int c), some (.ref p), o3] H2
  have nn := below_nn bl lx
  rw [szs_len] at lx
  have nx : Nx H2 p xs 51 := ⟨hp, by omega, nn⟩
  have y02 := y1.trans y2
  obtain ⟨x0, e0, n0⟩ := nx.get (i := 0) (by decide)
  refine rd_set (te := tCall spOn [] E0 (tCons (tCutF K 1) (tCons (tC (.int 20)) tNil))) (i := 3) ⟨_, rfl, 1, rfl, p, _, rfl, SqL.of hp, fun l1 h1 => ?_⟩
  have y3 := Ext.new (o := .lst (cutV (xs.map V.int) (some 1) none)) h1
  have g1 : upd H2 l1 (.lst (cutV (xs.map V.int) (some 1) none)) l1 = some (.lst (cutV (xs.map V.int) (some 1) none)) := upd_same
  have ec : cutV (xs.map V.int) (some 1) none = (xs.drop 1).map V.int := by rw [List.map_drop]; exact cut_from _ 1
  generalize upd H2 l1 (.lst (cutV (xs.map V.int) (some 1) none)) = H3 at y3 g1 ⊢
  rw [ec] at g1
  refine ⟨l1, xs.drop 1, 20, rfl, Nx.drop (Nat.le_refl _) g1 (by omega) nn, by decide, by decide, fun t r H4 y4 rt ko _ => ?_⟩
  show tSeq (tB2 K) tB3 De [o0, some (.int c), some (.ref p), some (.ref t)] H4
  have y24 := y3.trans y4
  have fin : ∀ (v : V) (t : Rl) (H5 : Hp), Ext H H5 → Rds H5 v t.told → t.ok → t.hgt ≤ 1 → tB3 De [o0, some (.int c), some (.ref p), some v] H5 := fun v t H5 x5 rd ok hg => ⟨_, rfl, v, t, rfl, rd, ok, hg, fun H6 x6 => ⟨_, rfl, itF (k H6 _ _ (x5.trans x6))⟩⟩
  refine rd_seq (rd_xs 0 rfl (y24 _ _ hp) e0 ⟨rfl, _, rfl, ?_⟩)
  refine ite2 (fun _ => ?_) (fun _ => fin _ (.one r) H4 (y02.trans y24) rt ko (Nat.zero_le _))
  refine ⟨_, rfl, 8, rfl, p, _, rfl, SqL.of (y24 _ _ hp), fun l2 h2 => ?_⟩
  have y5 := Ext.new (o := .lst (cutV (xs.map V.int) (some 8) none)) h2
  have g2 : upd H4 l2 (.lst (cutV (xs.map V.int) (some 8) none)) l2 = some (.lst (cutV (xs.map V.int) (some 8) none)) := upd_same
  have ec2 : cutV (xs.map V.int) (some 8) none = (xs.drop 8).map V.int := by rw [List.map_drop]; exact cut_from _ 8
  generalize upd H4 l2 (.lst (cutV (xs.map V.int) (some 8) none)) = H5 at y5 g2 ⊢
  rw [ec2] at g2
  refine ⟨l2, xs.drop 8, rfl, Nx.drop (Nat.le_refl _) g2 (by omega) nn, fun n hn => ?_, fun a rs H6 y6 rd ok => fin _ (.blocks rs) H6 (((y02.trans y24).trans y5).trans y6) rd ok (Nat.le_refl _)⟩
  rw [List.getElem?_drop] at hn
  have := bl 8 n 6 hn szs8
  omega
end
def spLaw (K : Frag) : Sp := fun vs H Q _ => ∃ (a : Addr) (ns : List Int), vs = [.ref a] ∧ SqL K H a (ns.map V.int) ∧ ns.length ≤ 63 ∧ H sysModules = none ∧ ∀ H', Q (.bl true) H'
section
variable {P : Program} {w : World} {K : Frag} {mg : Str → Option Value} {base : Heap} {f a0 a1 a2 a3 : Addr} {fd d0 d1 d2 d3 : FuncData}
theorem ok_law (F : Fun K "law" "law" sLaw f fd) (D : Dl P w K mg base a0 a1 a2 a3 d0 d1 d2 d3) : FnOk P w K mg base CX0 12 f fd ["_law_script"] (spLaw K) := by
  refine F.ok scLw (fun vs H Q E h => ?_) (fun cdv A outer s H vs Q E hr h => ?_)
  · obtain ⟨a, ns, rfl, _⟩ := h
    rfl
  obtain ⟨a, ns, rfl, ha, l63, hz, q⟩ := h
  obtain ⟨der⟩ := law_der D hr (f := f) (cdv := cdv) (A := A) (outer := outer) (s := s) (H := H) (E := E)
  refine ⟨_, der, ?_⟩
  refine ⟨_, rfl, 15, rfl, a, _, rfl, ha, fun l1 h1 => ?_⟩
  have ci := cut_ints (ns := ns) (lo := none) (hi := some 15)
  have cl := cutV_length (ns.map V.int) none (some 15)
  rw [List.length_map] at cl
  generalize cutV (ns.map V.int) none (some 15) = cs at ci cl ⊢
  have xa := Ext.new (o := .lst cs) h1
  have f1 : upd H l1 (.lst cs) l1 = some (.lst cs) := upd_same
  generalize upd H l1 (.lst cs) = H1 at xa f1 ⊢
  refine ⟨by show 1 ≤ sizeLine; decide, fun l2 h2 => ?_⟩
  have xb := Ext.new (o := .lst [V.int 4]) h2
  have f2 : upd H1 l2 (.lst [V.int 4]) l2 = some (.lst [V.int 4]) := upd_same
  generalize upd H1 l2 (.lst [V.int 4]) = H2 at xb f2 ⊢
  refine ⟨l1, l2, cs, [V.int 4], rfl, rfl, xb _ _ f1, f2, ?_, fun l3 h3 => ?_⟩
  · show cs.length + 1 ≤ sizeLine
    exact Nat.le_trans (Nat.add_le_add_right (Nat.le_trans cl l63) 1) (by decide)
  have xc := Ext.new (o := .lst (cs ++ [V.int 4])) h3
  have f3 : upd H2 l3 (.lst (cs ++ [V.int 4])) l3 = some (.lst (cs ++ [V.int 4])) := upd_same
  have ai : ∀ v ∈ cs ++ [V.int 4], ∃ i, v = V.int i := fun v hv => by
    rcases List.mem_append.mp hv with hv | hv
    · exact ci v hv
    · exact ⟨4, List.mem_singleton.mp hv⟩
  generalize upd H2 l3 (.lst (cs ++ [V.int 4])) = H3 at xc f3 ⊢
  generalize cs ++ [V.int 4] = es at f3 ai
  refine ⟨l3, rfl, ⟨_, SqL.of f3⟩, for_list (xs := es) (fun i σ H' => Ext H3 H' ∧ ∃ o1 o2 o3, σ = [some (.ref a), o1, o2, o3]) ⟨Ext.refl _, _, _, _, rfl⟩ ?_ ?_ ?_⟩
  · rintro i σ H' _ ⟨x', _⟩
    exact SqL.of (x' _ _ f3)
  · rintro i x σ H' ex ⟨x', o1, o2, o3, rfl⟩
    obtain ⟨c, rfl⟩ := ai x (List.mem_of_getElem? ex)
    exact rd_body fun H4 p2 p3 x4 => ⟨x'.trans x4, _, _, _, rfl⟩
  · rintro σ H' ⟨x', o1, o2, o3, rfl⟩
    exact q H'
end
end My
set_option Elab.async false
set_option linter.all false
set_option maxRecDepth 100000
set_option maxHeartbeats 4000000
set_option exponentiation.threshold 10000
namespace My
open PySem PySem.W L2
abbrev sIni2 : Stmt := inClass (top 2) 0
theorem scIni2 : FnScope ["self", "found"] ["self", "found"] (defScope sIni2) := ⟨rfl, rfl, rfl, by decide +kernel, rfl, by decide +kernel, by decide +kernel⟩
theorem one2 {K : Frag} {mg : Str → Option Value} {D C f : Addr} {fd : FuncData} (B : BaseC K D) (T : ErrC K D "NoShare" C f) (mD : mg "DealError" = some (.ref D)) (mC : mg "NoShare" = some (.ref C)) (F : Fun K "__init__" "NoShare.__init__" sIni2 f fd) (tk : takerIn K C "found" = some none) : OneF K mg D "NoShare" "found" C f fd := by
  refine ⟨T, mC, fun P w base => ?_, F.binds fun _ _ _ _ _ _ us hl => match us, hl with | [_, _], _ => rfl⟩
  refine F.ok scIni2 (fun vs H Q E h => ?_) (fun cdv A outer s H vs Q E hr h => ?_)
  · obtain ⟨x, v, rfl, _⟩ := h
    rfl
  obtain ⟨x, v, rfl, hx, q⟩ := h
  refine ⟨_, pss_cons (ps_expr (pe_baseInit B T rfl mD (pv 0) pe_str)) (pss_one (ps_err T (pv 0) (pv 1) rfl)), ?_⟩
  exact ⟨_, rfl, x, rfl, hx, _, rfl, _, rfl, x, rfl, hx, tk, q⟩
abbrev sIni3 : Stmt := inClass (top 3) 0
theorem scIni3 : FnScope ["self", "found"] ["self", "found"] (defScope sIni3) := ⟨rfl, rfl, rfl, by decide +kernel, rfl, by decide +kernel, by decide +kernel⟩
theorem one3 {K : Frag} {mg : Str → Option Value} {D C f : Addr} {fd : FuncData} (B : BaseC K D) (T : ErrC K D "NoNumber" C f) (mD : mg "DealError" = some (.ref D)) (mC : mg "NoNumber" = some (.ref C)) (F : Fun K "__init__" "NoNumber.__init__" sIni3 f fd) (tk : takerIn K C "found" = some none) : OneF K mg D "NoNumber" "found" C f fd := by
  refine ⟨T, mC, fun P w base => ?_, F.binds fun _ _ _ _ _ _ us hl => match us, hl with | [_, _], _ => rfl⟩
  refine F.ok scIni3 (fun vs H Q E h => ?_) (fun cdv A outer s H vs Q E hr h => ?_)
  · obtain ⟨x, v, rfl, _⟩ := h
    rfl
  obtain ⟨x, v, rfl, hx, q⟩ := h
  refine ⟨_, pss_cons (ps_expr (pe_baseInit B T rfl mD (pv 0) pe_str)) (pss_one (ps_err T (pv 0) (pv 1) rfl)), ?_⟩
  exact ⟨_, rfl, x, rfl, hx, _, rfl, _, rfl, x, rfl, hx, tk, q⟩
abbrev sIni5 : Stmt := inClass (top 5) 0
theorem scIni5 : FnScope ["self", "found"] ["self", "found"] (defScope sIni5) := ⟨rfl, rfl, rfl, by decide +kernel, rfl, by decide +kernel, by decide +kernel⟩
theorem one5 {K : Frag} {mg : Str → Option Value} {D C f : Addr} {fd : FuncData} (B : BaseC K D) (T : ErrC K D "NoTrials" C f) (mD : mg "DealError" = some (.ref D)) (mC : mg "NoTrials" = some (.ref C)) (F : Fun K "__init__" "NoTrials.__init__" sIni5 f fd) (tk : takerIn K C "found" = some none) : OneF K mg D "NoTrials" "found" C f fd := by
  refine ⟨T, mC, fun P w base => ?_, F.binds fun _ _ _ _ _ _ us hl => match us, hl with | [_, _], _ => rfl⟩
  refine F.ok scIni5 (fun vs H Q E h => ?_) (fun cdv A outer s H vs Q E hr h => ?_)
  · obtain ⟨x, v, rfl, _⟩ := h
    rfl
  obtain ⟨x, v, rfl, hx, q⟩ := h
  refine ⟨_, pss_cons (ps_expr (pe_baseInit B T rfl mD (pv 0) pe_str)) (pss_one (ps_err T (pv 0) (pv 1) rfl)), ?_⟩
  exact ⟨_, rfl, x, rfl, hx, _, rfl, _, rfl, x, rfl, hx, tk, q⟩
abbrev sIni7 : Stmt := inClass (top 7) 0
theorem scIni7 : FnScope ["self", "many"] ["self", "many"] (defScope sIni7) := ⟨rfl, rfl, rfl, by decide +kernel, rfl, by decide +kernel, by decide +kernel⟩
theorem one7 {K : Frag} {mg : Str → Option Value} {D C f : Addr} {fd : FuncData} (B : BaseC K D) (T : ErrC K D "TooMany" C f) (mD : mg "DealError" = some (.ref D)) (mC : mg "TooMany" = some (.ref C)) (F : Fun K "__init__" "TooMany.__init__" sIni7 f fd) (tk : takerIn K C "many" = some none) : OneF K mg D "TooMany" "many" C f fd := by
  refine ⟨T, mC, fun P w base => ?_, F.binds fun _ _ _ _ _ _ us hl => match us, hl with | [_, _], _ => rfl⟩
  refine F.ok scIni7 (fun vs H Q E h => ?_) (fun cdv A outer s H vs Q E hr h => ?_)
  · obtain ⟨x, v, rfl, _⟩ := h
    rfl
  obtain ⟨x, v, rfl, hx, q⟩ := h
  refine ⟨_, pss_cons (ps_expr (pe_baseInit B T rfl mD (pv 0) pe_str)) (pss_one (ps_err T (pv 0) (pv 1) rfl)), ?_⟩
  exact ⟨_, rfl, x, rfl, hx, _, rfl, _, rfl, x, rfl, hx, tk, q⟩
theorem kit_tyM {K : Frag} {C : Addr} {n : String} {b : Bool} (hm : kitMeta n = true) (h : mroIn K C (.type n) = some b) : kitOne K (.ref C) (.type n) = some b := by
  unfold kitOne
  rw [if_neg (by intro e; cases beq_iff_eq.mp e)]
  show (if kitMeta n = true then subIn K (.ref C) (.type n) else none) = _
  rw [if_pos hm]
  exact h
theorem kit_mro {K : Frag} {C C' : Addr} {b : Bool} (hc : isClsIn K C' = true) (ht : typeIn K (.ref C') = some (.type "type")) (hs : mroIn K C' (.ref C') = some true) (hm : mroIn K C (.ref C') = some b) : kitOne K (.ref C) (.ref C') = some b := by
  unfold kitOne
  by_cases e : C = C'
  · subst e
    rw [hs] at hm
    cases hm
    rw [if_pos (beq_self_eq_true _)]
  · rw [if_neg (by intro z; exact e (Value.ref.inj (beq_iff_eq.mp z)))]
    show (if ((clsIn K C').isSome && typeIn K (.ref C') == some (.type "type")) = true then subIn K (.ref C) (.ref C') else none) = _
    have hc' : (clsIn K C').isSome = true := hc
    rw [hc', ht]
    simp only [beq_self_eq_true, Bool.and_self, if_true]
    exact hm
structure Dm (K : Frag) (nm qual : Str) (st : Stmt) (ps : List Str) (f : Addr) (fd : FuncData) : Prop where
  fn : Fun K nm qual st f fd
  bi : Binds K fd ps []
  kp : keepIn K (.ref f) = true
  isf : isFn K (.ref f) = true
end My
set_option Elab.async false
set_option linter.all false
set_option maxRecDepth 100000
set_option maxHeartbeats 4000000
set_option exponentiation.threshold 10000
namespace My
open PySem PySem.W L2
def keyStr : Value → Bool
  | .str _ _ => true
  | _ => false
theorem strKeys_of {es : Array DictEntry} (h : (es.toList.all fun e => keyStr e.key) = true) : StrKeys es := fun e he => by
  have z := List.all_eq_true.mp h e (by simpa using he)
  cases k : e.key with
  | str n t => exact ⟨n, t, rfl⟩
  | _ => rw [k] at z; cases z
theorem mro_of {K : Frag} {C : Addr} {cd : ClassData} {b : Value} (h : clsIn K C = some cd) (hb : cd.mro.isEmpty = false) (hc : cd.mro.contains b = true) : mroIn K C b = some true := by
  unfold mroIn
  rw [h, Option.bind_some, hb, hc]
  rfl
theorem base_mk {K : Frag} {D N : Addr} {nm q : Str} {bs : List Value} {sn : List Str} {sub : List Value} {ab : Bool} {col : Option Bool} {dd : Option Addr} {k0 k1 k2 k3 k5 : Option Value}
    {cN : Value} {dN : Option Addr} {es : Array DictEntry} {ep : Nat} {sN : Array (Option Value)}
    (lD : K.lookup D = some (excClassObj nm q D N bs bmV true sn sub ab col dd k0 k1 k2 k3 k5 "ValueError.__new__"))
    (lN : K.lookup N = some ⟨cN, dN, .dict es ep, sN⟩) (sk : StrKeys es) (ni : nsFind es "__init__" = none)
    (ga : specialIn K (.ref D) "__getattribute__" = some (some (.builtin "type.__getattribute__"))) (rd : readsIn K D (.type "type") = true)
    (ini : findCls K (.ref D) (.type "type") "__init__" = some (.val (.builtin "ValueError.__init__"))) (fi : findIn K (.ref D) "__init__" = some (some (.builtin "ValueError.__init__"))) (kp : keepIn K (.ref D) = true)
    (gb : findIn K (.ref D) "__getattribute__" = some (some (.builtin bga))) (hk : findIn K (.ref D) "__getattr__" = some none) (ca : findIn K (.ref D) "__class__" = some (some (.builtin "object.__class__"))) : BaseC K D := by
  have hc : clsIn K D = some { name := nm, bases := bs, mro := .ref D :: bmV, ns := N, qualname := q, hasDict := true, slotNames := sn, subclasses := sub, abstract := ab, collection := col, hasDel := false } := by
    unfold clsIn
    rw [lD]
  refine ⟨⟨nm, q, N, bs, sn, sub, ab, col, dd, k0, k1, k2, k3, k5, lD, _, es, ep, lN, rfl, sk, ni⟩, ga, rd, ini, fi, kp, ⟨by rw [hc]; rfl, gb, hk, mro_of hc rfl ?_, mro_of hc rfl ?_, ca⟩⟩
  · show (Value.ref D :: bmV).contains (.type "BaseException") = true
    rw [List.contains_cons]
    rfl
  · show (Value.ref D :: bmV).contains (.type "object") = true
    rw [List.contains_cons]
    rfl
theorem err_mk {K : Frag} {D C N f : Addr} (nm : Str)
    {q : Str} {bs : List Value} {sn : List Str} {sub : List Value} {ab : Bool} {col : Option Bool} {dd : Option Addr} {k0 k1 k2 k3 k5 : Option Value}
    (lC : K.lookup C = some (excClassObj nm q C N bs (.ref D :: bmV) true sn sub ab col dd k0 k1 k2 k3 k5 "ValueError.__new__"))
    (ini : findIn K (.ref C) "__init__" = some (some (.ref f))) (fn : typeIn K (.ref f) = some (.type "function")) (kp : keepIn K (.ref C) = true)
    (sa : findIn K (.ref C) "__setattr__" = some (some (.builtin "object.__setattr__"))) (ga : findIn K (.ref C) "__getattribute__" = some (some (.builtin bga))) (hk : findIn K (.ref C) "__getattr__" = some none)
    (ca : findIn K (.ref C) "__class__" = some (some (.builtin "object.__class__"))) : ErrC K D nm C f := by
  have hc : clsIn K C = some { name := nm, bases := bs, mro := .ref C :: .ref D :: bmV, ns := N, qualname := q, hasDict := true, slotNames := sn, subclasses := sub, abstract := ab, collection := col, hasDel := false } := by
    unfold clsIn
    rw [lC]
  refine ⟨⟨q, N, bs, sn, sub, ab, col, dd, k0, k1, k2, k3, k5, lC⟩, ini, fn, kp, sa, ⟨by rw [hc]; rfl, ga, hk, mro_of hc rfl ?_, mro_of hc rfl ?_, ca⟩⟩
  · show (Value.ref C :: .ref D :: bmV).contains (.type "BaseException") = true
    rw [List.contains_cons, List.contains_cons]
    rfl
  · show (Value.ref C :: .ref D :: bmV).contains (.type "object") = true
    rw [List.contains_cons, List.contains_cons]
    rfl
structure Dn (K : Frag) (mg : Str → Option Value) (nm : Str) (st : Stmt) (ps : List Str) (f : Addr) (fd : FuncData) : Prop where
  fn : Fun K nm nm st f fd
  bi : Binds K fd ps []
  kp : keepIn K (.ref f) = true
  mg : mg nm = some (.ref f)
section
variable {P : Program} {w : World} {K : Frag} {mg : Str → Option Value} {base : Heap}
theorem Dn.df {nm : Str} {st : Stmt} {ps : List Str} {f : Addr} {fd : FuncData} (d : Dn K mg nm st ps f fd) {cx : CXT} {k : Nat} {sp : Sp} (h : FnOk P w K mg base cx k f fd ps sp) : Df P w K mg base cx k nm ps sp f fd := ⟨h, d.bi, d.kp, d.mg⟩
end
def five (a b c d : Addr) : Nat → Addr
  | 0 => a
  | 1 => b
  | 2 => c
  | _ => d
theorem no8 {K : Frag} {c : Addr} (h0 : findIn K (.ref c) "size" = some none) (h1 : findIn K (.ref c) "first_state" = some none) (h2 : findIn K (.ref c) "mark" = some none) (h3 : findIn K (.ref c) "parts" = some none) (h4 : findIn K (.ref c) "coin" = some none) (h5 : findIn K (.ref c) "far" = some none) (h6 : findIn K (.ref c) "rules" = some none) (h7 : findIn K (.ref c) "dealer" = some none) : ∀ f ∈ fNames, NoAttr K c f := by
  intro f hf
  simp only [fNames, List.mem_cons, List.not_mem_nil, or_false] at hf
  rcases hf with rfl | rfl | rfl | rfl | rfl | rfl | rfl | rfl
  · exact h0
  · exact h1
  · exact h2
  · exact h3
  · exact h4
  · exact h5
  · exact h6
  · exact h7
def threeA (a b c : Addr) : Nat → Addr
  | 0 => a
  | 1 => b
  | _ => c
theorem tup_two {K : Frag} {p : Addr} {i j : Nat} {od : Option Addr} {t u : Tok} {n : Nat} {sl : Array (Option Value)} (l : K.lookup p = some ⟨.type "tuple", od, .seq #[.int i t, .int j u] n, sl⟩) : TupK K p [.int i, .int j] :=
  ⟨_, _, _, l, rfl, rfl, by show 2 ≤ sizeLine; decide, .cons ⟨_, rfl⟩ (.cons ⟨_, rfl⟩ .nil)⟩
theorem dn_0 {K : Frag} {h : Heap} {mg : Str → Option Value} {g : Addr} {oc kV dc pm cd ct : Value} {od an : Option Addr} {sl : Array (Option Value)} (X : K.In h) (G : h.Ns mainGlobals mg)
    (a : nsIn K mainGlobals "is_number" = some (some (.ref g))) (l : K.lookup g = some ⟨oc, od, .func (fnOf "is_number" "is_number" (defArgs sIsNum) (defBody sIsNum) (defScope sIsNum) .none kV dc pm an cd ct), sl⟩) (c : codeIn K cd "is_number" = true) (k : keepIn K (.ref g) = true) :
    Dn K mg "is_number" sIsNum ["thing"] g (fnOf "is_number" "is_number" (defArgs sIsNum) (defBody sIsNum) (defScope sIsNum) .none kV dc pm an cd ct) := by
  have F := fun_mk (st := sIsNum) l c k
  exact ⟨F, F.binds fun _ _ _ _ _ _ us hl => match us, hl with | [_], _ => rfl, k, mg_of X G a⟩
theorem dn_1 {K : Frag} {h : Heap} {mg : Str → Option Value} {g : Addr} {oc kV dc pm cd ct : Value} {od an : Option Addr} {sl : Array (Option Value)} (X : K.In h) (G : h.Ns mainGlobals mg)
    (a : nsIn K mainGlobals "is_whole" = some (some (.ref g))) (l : K.lookup g = some ⟨oc, od, .func (fnOf "is_whole" "is_whole" (defArgs sIsWh) (defBody sIsWh) (defScope sIsWh) .none kV dc pm an cd ct), sl⟩) (c : codeIn K cd "is_whole" = true) (k : keepIn K (.ref g) = true) :
    Dn K mg "is_whole" sIsWh ["thing", "low", "high"] g (fnOf "is_whole" "is_whole" (defArgs sIsWh) (defBody sIsWh) (defScope sIsWh) .none kV dc pm an cd ct) := by
  have F := fun_mk (st := sIsWh) l c k
  exact ⟨F, F.binds fun _ _ _ _ _ _ us hl => match us, hl with | [_, _, _], _ => rfl, k, mg_of X G a⟩
theorem dn_2 {K : Frag} {h : Heap} {mg : Str → Option Value} {g : Addr} {oc kV dc pm cd ct : Value} {od an : Option Addr} {sl : Array (Option Value)} (X : K.In h) (G : h.Ns mainGlobals mg)
    (a : nsIn K mainGlobals "greatest_common" = some (some (.ref g))) (l : K.lookup g = some ⟨oc, od, .func (fnOf "greatest_common" "greatest_common" (defArgs sGcd) (defBody sGcd) (defScope sGcd) .none kV dc pm an cd ct), sl⟩) (c : codeIn K cd "greatest_common" = true) (k : keepIn K (.ref g) = true) :
    Dn K mg "greatest_common" sGcd ["one", "other"] g (fnOf "greatest_common" "greatest_common" (defArgs sGcd) (defBody sGcd) (defScope sGcd) .none kV dc pm an cd ct) := by
  have F := fun_mk (st := sGcd) l c k
  exact ⟨F, F.binds fun _ _ _ _ _ _ us hl => match us, hl with | [_, _], _ => rfl, k, mg_of X G a⟩
theorem dn_3 {K : Frag} {h : Heap} {mg : Str → Option Value} {g : Addr} {oc kV dc pm cd ct : Value} {od an : Option Addr} {sl : Array (Option Value)} (X : K.In h) (G : h.Ns mainGlobals mg)
    (a : nsIn K mainGlobals "is_part" = some (some (.ref g))) (l : K.lookup g = some ⟨oc, od, .func (fnOf "is_part" "is_part" (defArgs sPart) (defBody sPart) (defScope sPart) .none kV dc pm an cd ct), sl⟩) (c : codeIn K cd "is_part" = true) (k : keepIn K (.ref g) = true) :
    Dn K mg "is_part" sPart ["top", "bottom"] g (fnOf "is_part" "is_part" (defArgs sPart) (defBody sPart) (defScope sPart) .none kV dc pm an cd ct) := by
  have F := fun_mk (st := sPart) l c k
  exact ⟨F, F.binds fun _ _ _ _ _ _ us hl => match us, hl with | [_, _], _ => rfl, k, mg_of X G a⟩
theorem dn_4 {K : Frag} {h : Heap} {mg : Str → Option Value} {g : Addr} {oc kV dc pm cd ct : Value} {od an : Option Addr} {sl : Array (Option Value)} (X : K.In h) (G : h.Ns mainGlobals mg)
    (a : nsIn K mainGlobals "is_share" = some (some (.ref g))) (l : K.lookup g = some ⟨oc, od, .func (fnOf "is_share" "is_share" (defArgs sISh) (defBody sISh) (defScope sISh) .none kV dc pm an cd ct), sl⟩) (c : codeIn K cd "is_share" = true) (k : keepIn K (.ref g) = true) :
    Dn K mg "is_share" sISh ["thing"] g (fnOf "is_share" "is_share" (defArgs sISh) (defBody sISh) (defScope sISh) .none kV dc pm an cd ct) := by
  have F := fun_mk (st := sISh) l c k
  exact ⟨F, F.binds fun _ _ _ _ _ _ us hl => match us, hl with | [_], _ => rfl, k, mg_of X G a⟩
theorem dn_5 {K : Frag} {h : Heap} {mg : Str → Option Value} {g : Addr} {oc kV dc pm cd ct : Value} {od an : Option Addr} {sl : Array (Option Value)} (X : K.In h) (G : h.Ns mainGlobals mg)
    (a : nsIn K mainGlobals "need_number" = some (some (.ref g))) (l : K.lookup g = some ⟨oc, od, .func (fnOf "need_number" "need_number" (defArgs sNN) (defBody sNN) (defScope sNN) .none kV dc pm an cd ct), sl⟩) (c : codeIn K cd "need_number" = true) (k : keepIn K (.ref g) = true) :
    Dn K mg "need_number" sNN ["thing", "low", "high"] g (fnOf "need_number" "need_number" (defArgs sNN) (defBody sNN) (defScope sNN) .none kV dc pm an cd ct) := by
  have F := fun_mk (st := sNN) l c k
  exact ⟨F, F.binds fun _ _ _ _ _ _ us hl => match us, hl with | [_, _, _], _ => rfl, k, mg_of X G a⟩
theorem dn_6 {K : Frag} {h : Heap} {mg : Str → Option Value} {g : Addr} {oc kV dc pm cd ct : Value} {od an : Option Addr} {sl : Array (Option Value)} (X : K.In h) (G : h.Ns mainGlobals mg)
    (a : nsIn K mainGlobals "need_coin" = some (some (.ref g))) (l : K.lookup g = some ⟨oc, od, .func (fnOf "need_coin" "need_coin" (defArgs sNC) (defBody sNC) (defScope sNC) .none kV dc pm an cd ct), sl⟩) (c : codeIn K cd "need_coin" = true) (k : keepIn K (.ref g) = true) :
    Dn K mg "need_coin" sNC ["thing"] g (fnOf "need_coin" "need_coin" (defArgs sNC) (defBody sNC) (defScope sNC) .none kV dc pm an cd ct) := by
  have F := fun_mk (st := sNC) l c k
  exact ⟨F, F.binds fun _ _ _ _ _ _ us hl => match us, hl with | [_], _ => rfl, k, mg_of X G a⟩
theorem dn_7 {K : Frag} {h : Heap} {mg : Str → Option Value} {g : Addr} {oc kV dc pm cd ct : Value} {od an : Option Addr} {sl : Array (Option Value)} (X : K.In h) (G : h.Ns mainGlobals mg)
    (a : nsIn K mainGlobals "one_part" = some (some (.ref g))) (l : K.lookup g = some ⟨oc, od, .func (fnOf "one_part" "one_part" (defArgs sOP) (defBody sOP) (defScope sOP) .none kV dc pm an cd ct), sl⟩) (c : codeIn K cd "one_part" = true) (k : keepIn K (.ref g) = true) :
    Dn K mg "one_part" sOP ["folk"] g (fnOf "one_part" "one_part" (defArgs sOP) (defBody sOP) (defScope sOP) .none kV dc pm an cd ct) := by
  have F := fun_mk (st := sOP) l c k
  exact ⟨F, F.binds fun _ _ _ _ _ _ us hl => match us, hl with | [_], _ => rfl, k, mg_of X G a⟩
theorem dn_8 {K : Frag} {h : Heap} {mg : Str → Option Value} {g : Addr} {oc kV dc pm cd ct : Value} {od an : Option Addr} {sl : Array (Option Value)} (X : K.In h) (G : h.Ns mainGlobals mg)
    (a : nsIn K mainGlobals "may_be_block" = some (some (.ref g))) (l : K.lookup g = some ⟨oc, od, .func (fnOf "may_be_block" "may_be_block" (defArgs sMBk) (defBody sMBk) (defScope sMBk) .none kV dc pm an cd ct), sl⟩) (c : codeIn K cd "may_be_block" = true) (k : keepIn K (.ref g) = true) :
    Dn K mg "may_be_block" sMBk ["thing"] g (fnOf "may_be_block" "may_be_block" (defArgs sMBk) (defBody sMBk) (defScope sMBk) .none kV dc pm an cd ct) := by
  have F := fun_mk (st := sMBk) l c k
  exact ⟨F, F.binds fun _ _ _ _ _ _ us hl => match us, hl with | [_], _ => rfl, k, mg_of X G a⟩
theorem dn_9 {K : Frag} {h : Heap} {mg : Str → Option Value} {g : Addr} {oc kV dc pm cd ct : Value} {od an : Option Addr} {sl : Array (Option Value)} (X : K.In h) (G : h.Ns mainGlobals mg)
    (a : nsIn K mainGlobals "are_block_rules" = some (some (.ref g))) (l : K.lookup g = some ⟨oc, od, .func (fnOf "are_block_rules" "are_block_rules" (defArgs sAB) (defBody sAB) (defScope sAB) .none kV dc pm an cd ct), sl⟩) (c : codeIn K cd "are_block_rules" = true) (k : keepIn K (.ref g) = true) :
    Dn K mg "are_block_rules" sAB ["thing"] g (fnOf "are_block_rules" "are_block_rules" (defArgs sAB) (defBody sAB) (defScope sAB) .none kV dc pm an cd ct) := by
  have F := fun_mk (st := sAB) l c k
  exact ⟨F, F.binds fun _ _ _ _ _ _ us hl => match us, hl with | [_], _ => rfl, k, mg_of X G a⟩
theorem dn_10 {K : Frag} {h : Heap} {mg : Str → Option Value} {g : Addr} {oc kV dc pm cd ct : Value} {od an : Option Addr} {sl : Array (Option Value)} (X : K.In h) (G : h.Ns mainGlobals mg)
    (a : nsIn K mainGlobals "parts_of" = some (some (.ref g))) (l : K.lookup g = some ⟨oc, od, .func (fnOf "parts_of" "parts_of" (defArgs sPO) (defBody sPO) (defScope sPO) .none kV dc pm an cd ct), sl⟩) (c : codeIn K cd "parts_of" = true) (k : keepIn K (.ref g) = true) :
    Dn K mg "parts_of" sPO ["rules"] g (fnOf "parts_of" "parts_of" (defArgs sPO) (defBody sPO) (defScope sPO) .none kV dc pm an cd ct) := by
  have F := fun_mk (st := sPO) l c k
  exact ⟨F, F.binds fun _ _ _ _ _ _ us hl => match us, hl with | [_], _ => rfl, k, mg_of X G a⟩
theorem dn_11 {K : Frag} {h : Heap} {mg : Str → Option Value} {g : Addr} {oc kV dc pm cd ct : Value} {od an : Option Addr} {sl : Array (Option Value)} (X : K.In h) (G : h.Ns mainGlobals mg)
    (a : nsIn K mainGlobals "count_in" = some (some (.ref g))) (l : K.lookup g = some ⟨oc, od, .func (fnOf "count_in" "count_in" (defArgs sCount) (defBody sCount) (defScope sCount) .none kV dc pm an cd ct), sl⟩) (c : codeIn K cd "count_in" = true) (k : keepIn K (.ref g) = true) :
    Dn K mg "count_in" sCount ["text"] g (fnOf "count_in" "count_in" (defArgs sCount) (defBody sCount) (defScope sCount) .none kV dc pm an cd ct) := by
  have F := fun_mk (st := sCount) l c k
  exact ⟨F, F.binds fun _ _ _ _ _ _ us hl => match us, hl with | [_], _ => rfl, k, mg_of X G a⟩
theorem dn_12 {K : Frag} {h : Heap} {mg : Str → Option Value} {g : Addr} {oc kV dc pm cd ct : Value} {od an : Option Addr} {sl : Array (Option Value)} (X : K.In h) (G : h.Ns mainGlobals mg)
    (a : nsIn K mainGlobals "share_in" = some (some (.ref g))) (l : K.lookup g = some ⟨oc, od, .func (fnOf "share_in" "share_in" (defArgs sShIn) (defBody sShIn) (defScope sShIn) .none kV dc pm an cd ct), sl⟩) (c : codeIn K cd "share_in" = true) (k : keepIn K (.ref g) = true) :
    Dn K mg "share_in" sShIn ["thing"] g (fnOf "share_in" "share_in" (defArgs sShIn) (defBody sShIn) (defScope sShIn) .none kV dc pm an cd ct) := by
  have F := fun_mk (st := sShIn) l c k
  exact ⟨F, F.binds fun _ _ _ _ _ _ us hl => match us, hl with | [_], _ => rfl, k, mg_of X G a⟩
theorem dn_13 {K : Frag} {h : Heap} {mg : Str → Option Value} {g : Addr} {oc kV dc pm cd ct : Value} {od an : Option Addr} {sl : Array (Option Value)} (X : K.In h) (G : h.Ns mainGlobals mg)
    (a : nsIn K mainGlobals "share_text" = some (some (.ref g))) (l : K.lookup g = some ⟨oc, od, .func (fnOf "share_text" "share_text" (defArgs sShT) (defBody sShT) (defScope sShT) .none kV dc pm an cd ct), sl⟩) (c : codeIn K cd "share_text" = true) (k : keepIn K (.ref g) = true) :
    Dn K mg "share_text" sShT ["share"] g (fnOf "share_text" "share_text" (defArgs sShT) (defBody sShT) (defScope sShT) .none kV dc pm an cd ct) := by
  have F := fun_mk (st := sShT) l c k
  exact ⟨F, F.binds fun _ _ _ _ _ _ us hl => match us, hl with | [_], _ => rfl, k, mg_of X G a⟩
theorem dn_14 {K : Frag} {h : Heap} {mg : Str → Option Value} {g : Addr} {oc kV dc pm cd ct : Value} {od an : Option Addr} {sl : Array (Option Value)} (X : K.In h) (G : h.Ns mainGlobals mg)
    (a : nsIn K mainGlobals "split_line" = some (some (.ref g))) (l : K.lookup g = some ⟨oc, od, .func (fnOf "split_line" "split_line" (defArgs sW0) (defBody sW0) (defScope sW0) .none kV dc pm an cd ct), sl⟩) (c : codeIn K cd "split_line" = true) (k : keepIn K (.ref g) = true) :
    Dn K mg "split_line" sW0 ["mark"] g (fnOf "split_line" "split_line" (defArgs sW0) (defBody sW0) (defScope sW0) .none kV dc pm an cd ct) := by
  have F := fun_mk (st := sW0) l c k
  exact ⟨F, F.binds fun _ _ _ _ _ _ us hl => match us, hl with | [_], _ => rfl, k, mg_of X G a⟩
theorem dn_15 {K : Frag} {h : Heap} {mg : Str → Option Value} {g : Addr} {oc kV dc pm cd ct : Value} {od an : Option Addr} {sl : Array (Option Value)} (X : K.In h) (G : h.Ns mainGlobals mg)
    (a : nsIn K mainGlobals "pairs_line" = some (some (.ref g))) (l : K.lookup g = some ⟨oc, od, .func (fnOf "pairs_line" "pairs_line" (defArgs sW1) (defBody sW1) (defScope sW1) .none kV dc pm an cd ct), sl⟩) (c : codeIn K cd "pairs_line" = true) (k : keepIn K (.ref g) = true) :
    Dn K mg "pairs_line" sW1 ["mark"] g (fnOf "pairs_line" "pairs_line" (defArgs sW1) (defBody sW1) (defScope sW1) .none kV dc pm an cd ct) := by
  have F := fun_mk (st := sW1) l c k
  exact ⟨F, F.binds fun _ _ _ _ _ _ us hl => match us, hl with | [_], _ => rfl, k, mg_of X G a⟩
theorem dn_16 {K : Frag} {h : Heap} {mg : Str → Option Value} {g : Addr} {oc kV dc pm cd ct : Value} {od an : Option Addr} {sl : Array (Option Value)} (X : K.In h) (G : h.Ns mainGlobals mg)
    (a : nsIn K mainGlobals "coins_line" = some (some (.ref g))) (l : K.lookup g = some ⟨oc, od, .func (fnOf "coins_line" "coins_line" (defArgs sW2) (defBody sW2) (defScope sW2) .none kV dc pm an cd ct), sl⟩) (c : codeIn K cd "coins_line" = true) (k : keepIn K (.ref g) = true) :
    Dn K mg "coins_line" sW2 ["mark"] g (fnOf "coins_line" "coins_line" (defArgs sW2) (defBody sW2) (defScope sW2) .none kV dc pm an cd ct) := by
  have F := fun_mk (st := sW2) l c k
  exact ⟨F, F.binds fun _ _ _ _ _ _ us hl => match us, hl with | [_], _ => rfl, k, mg_of X G a⟩
theorem dn_17 {K : Frag} {h : Heap} {mg : Str → Option Value} {g : Addr} {oc kV dc pm cd ct : Value} {od an : Option Addr} {sl : Array (Option Value)} (X : K.In h) (G : h.Ns mainGlobals mg)
    (a : nsIn K mainGlobals "line_of" = some (some (.ref g))) (l : K.lookup g = some ⟨oc, od, .func (fnOf "line_of" "line_of" (defArgs sLn) (defBody sLn) (defScope sLn) .none kV dc pm an cd ct), sl⟩) (c : codeIn K cd "line_of" = true) (k : keepIn K (.ref g) = true) :
    Dn K mg "line_of" sLn ["mark"] g (fnOf "line_of" "line_of" (defArgs sLn) (defBody sLn) (defScope sLn) .none kV dc pm an cd ct) := by
  have F := fun_mk (st := sLn) l c k
  exact ⟨F, F.binds fun _ _ _ _ _ _ us hl => match us, hl with | [_], _ => rfl, k, mg_of X G a⟩
theorem dn_18 {K : Frag} {h : Heap} {mg : Str → Option Value} {g : Addr} {oc kV dc pm cd ct : Value} {od an : Option Addr} {sl : Array (Option Value)} (X : K.In h) (G : h.Ns mainGlobals mg)
    (a : nsIn K mainGlobals "rule_text" = some (some (.ref g))) (l : K.lookup g = some ⟨oc, od, .func (fnOf "rule_text" "rule_text" (defArgs sRt) (defBody sRt) (defScope sRt) .none kV dc pm an cd ct), sl⟩) (c : codeIn K cd "rule_text" = true) (k : keepIn K (.ref g) = true) :
    Dn K mg "rule_text" sRt ["rule"] g (fnOf "rule_text" "rule_text" (defArgs sRt) (defBody sRt) (defScope sRt) .none kV dc pm an cd ct) := by
  have F := fun_mk (st := sRt) l c k
  exact ⟨F, F.binds fun _ _ _ _ _ _ us hl => match us, hl with | [_], _ => rfl, k, mg_of X G a⟩
theorem dn_19 {K : Frag} {h : Heap} {mg : Str → Option Value} {g : Addr} {oc kV dc pm cd ct : Value} {od an : Option Addr} {sl : Array (Option Value)} (X : K.In h) (G : h.Ns mainGlobals mg)
    (a : nsIn K mainGlobals "split_in" = some (some (.ref g))) (l : K.lookup g = some ⟨oc, od, .func (fnOf "split_in" "split_in" (defArgs sI0) (defBody sI0) (defScope sI0) .none kV dc pm an cd ct), sl⟩) (c : codeIn K cd "split_in" = true) (k : keepIn K (.ref g) = true) :
    Dn K mg "split_in" sI0 ["words"] g (fnOf "split_in" "split_in" (defArgs sI0) (defBody sI0) (defScope sI0) .none kV dc pm an cd ct) := by
  have F := fun_mk (st := sI0) l c k
  exact ⟨F, F.binds fun _ _ _ _ _ _ us hl => match us, hl with | [_], _ => rfl, k, mg_of X G a⟩
theorem dn_20 {K : Frag} {h : Heap} {mg : Str → Option Value} {g : Addr} {oc kV dc pm cd ct : Value} {od an : Option Addr} {sl : Array (Option Value)} (X : K.In h) (G : h.Ns mainGlobals mg)
    (a : nsIn K mainGlobals "pairs_in" = some (some (.ref g))) (l : K.lookup g = some ⟨oc, od, .func (fnOf "pairs_in" "pairs_in" (defArgs sI1) (defBody sI1) (defScope sI1) .none kV dc pm an cd ct), sl⟩) (c : codeIn K cd "pairs_in" = true) (k : keepIn K (.ref g) = true) :
    Dn K mg "pairs_in" sI1 ["words"] g (fnOf "pairs_in" "pairs_in" (defArgs sI1) (defBody sI1) (defScope sI1) .none kV dc pm an cd ct) := by
  have F := fun_mk (st := sI1) l c k
  exact ⟨F, F.binds fun _ _ _ _ _ _ us hl => match us, hl with | [_], _ => rfl, k, mg_of X G a⟩
theorem dn_21 {K : Frag} {h : Heap} {mg : Str → Option Value} {g : Addr} {oc kV dc pm cd ct : Value} {od an : Option Addr} {sl : Array (Option Value)} (X : K.In h) (G : h.Ns mainGlobals mg)
    (a : nsIn K mainGlobals "coins_in" = some (some (.ref g))) (l : K.lookup g = some ⟨oc, od, .func (fnOf "coins_in" "coins_in" (defArgs sI2) (defBody sI2) (defScope sI2) .none kV dc pm an cd ct), sl⟩) (c : codeIn K cd "coins_in" = true) (k : keepIn K (.ref g) = true) :
    Dn K mg "coins_in" sI2 ["words"] g (fnOf "coins_in" "coins_in" (defArgs sI2) (defBody sI2) (defScope sI2) .none kV dc pm an cd ct) := by
  have F := fun_mk (st := sI2) l c k
  exact ⟨F, F.binds fun _ _ _ _ _ _ us hl => match us, hl with | [_], _ => rfl, k, mg_of X G a⟩
theorem dn_22 {K : Frag} {h : Heap} {mg : Str → Option Value} {g : Addr} {oc kV dc pm cd ct : Value} {od an : Option Addr} {sl : Array (Option Value)} (X : K.In h) (G : h.Ns mainGlobals mg)
    (a : nsIn K mainGlobals "rule_in" = some (some (.ref g))) (l : K.lookup g = some ⟨oc, od, .func (fnOf "rule_in" "rule_in" (defArgs sRu) (defBody sRu) (defScope sRu) .none kV dc pm an cd ct), sl⟩) (c : codeIn K cd "rule_in" = true) (k : keepIn K (.ref g) = true) :
    Dn K mg "rule_in" sRu ["line"] g (fnOf "rule_in" "rule_in" (defArgs sRu) (defBody sRu) (defScope sRu) .none kV dc pm an cd ct) := by
  have F := fun_mk (st := sRu) l c k
  exact ⟨F, F.binds fun _ _ _ _ _ _ us hl => match us, hl with | [_], _ => rfl, k, mg_of X G a⟩
theorem dn_23 {K : Frag} {h : Heap} {mg : Str → Option Value} {g : Addr} {oc kV dc pm cd ct : Value} {od an : Option Addr} {sl : Array (Option Value)} (X : K.In h) (G : h.Ns mainGlobals mg)
    (a : nsIn K mainGlobals "read_rule" = some (some (.ref g))) (l : K.lookup g = some ⟨oc, od, .func (fnOf "read_rule" "read_rule" (defArgs sRR) (defBody sRR) (defScope sRR) .none kV dc pm an cd ct), sl⟩) (c : codeIn K cd "read_rule" = true) (k : keepIn K (.ref g) = true) :
    Dn K mg "read_rule" sRR ["text"] g (fnOf "read_rule" "read_rule" (defArgs sRR) (defBody sRR) (defScope sRR) .none kV dc pm an cd ct) := by
  have F := fun_mk (st := sRR) l c k
  exact ⟨F, F.binds fun _ _ _ _ _ _ us hl => match us, hl with | [_], _ => rfl, k, mg_of X G a⟩
theorem dn_24 {K : Frag} {h : Heap} {mg : Str → Option Value} {g : Addr} {oc kV dc pm cd ct : Value} {od an : Option Addr} {sl : Array (Option Value)} (X : K.In h) (G : h.Ns mainGlobals mg)
    (a : nsIn K mainGlobals "_law_row" = some (some (.ref g))) (l : K.lookup g = some ⟨oc, od, .func (fnOf "_law_row" "_law_row" (defArgs sRow) (defBody sRow) (defScope sRow) .none kV dc pm an cd ct), sl⟩) (c : codeIn K cd "_law_row" = true) (k : keepIn K (.ref g) = true) :
    Dn K mg "_law_row" sRow ["_law_cell", "_law_sizes"] g (fnOf "_law_row" "_law_row" (defArgs sRow) (defBody sRow) (defScope sRow) .none kV dc pm an cd ct) := by
  have F := fun_mk (st := sRow) l c k
  exact ⟨F, F.binds fun _ _ _ _ _ _ us hl => match us, hl with | [_, _], _ => rfl, k, mg_of X G a⟩
theorem dn_25 {K : Frag} {h : Heap} {mg : Str → Option Value} {g : Addr} {oc kV dc pm cd ct : Value} {od an : Option Addr} {sl : Array (Option Value)} (X : K.In h) (G : h.Ns mainGlobals mg)
    (a : nsIn K mainGlobals "_law_common" = some (some (.ref g))) (l : K.lookup g = some ⟨oc, od, .func (fnOf "_law_common" "_law_common" (defArgs sCom) (defBody sCom) (defScope sCom) .none kV dc pm an cd ct), sl⟩) (c : codeIn K cd "_law_common" = true) (k : keepIn K (.ref g) = true) :
    Dn K mg "_law_common" sCom ["_law_one_here", "_law_other"] g (fnOf "_law_common" "_law_common" (defArgs sCom) (defBody sCom) (defScope sCom) .none kV dc pm an cd ct) := by
  have F := fun_mk (st := sCom) l c k
  exact ⟨F, F.binds fun _ _ _ _ _ _ us hl => match us, hl with | [_, _], _ => rfl, k, mg_of X G a⟩
theorem dn_26 {K : Frag} {h : Heap} {mg : Str → Option Value} {g : Addr} {oc kV dc pm cd ct : Value} {od an : Option Addr} {sl : Array (Option Value)} (X : K.In h) (G : h.Ns mainGlobals mg)
    (a : nsIn K mainGlobals "_law_lowest" = some (some (.ref g))) (l : K.lookup g = some ⟨oc, od, .func (fnOf "_law_lowest" "_law_lowest" (defArgs sLow) (defBody sLow) (defScope sLow) .none kV dc pm an cd ct), sl⟩) (c : codeIn K cd "_law_lowest" = true) (k : keepIn K (.ref g) = true) :
    Dn K mg "_law_lowest" sLow ["_law_top", "_law_bottom"] g (fnOf "_law_lowest" "_law_lowest" (defArgs sLow) (defBody sLow) (defScope sLow) .none kV dc pm an cd ct) := by
  have F := fun_mk (st := sLow) l c k
  exact ⟨F, F.binds fun _ _ _ _ _ _ us hl => match us, hl with | [_, _], _ => rfl, k, mg_of X G a⟩
theorem dn_27 {K : Frag} {h : Heap} {mg : Str → Option Value} {g : Addr} {oc kV dc pm cd ct : Value} {od an : Option Addr} {sl : Array (Option Value)} (X : K.In h) (G : h.Ns mainGlobals mg)
    (a : nsIn K mainGlobals "_law_coin" = some (some (.ref g))) (l : K.lookup g = some ⟨oc, od, .func (fnOf "_law_coin" "_law_coin" (defArgs sCn) (defBody sCn) (defScope sCn) .none kV dc pm an cd ct), sl⟩) (c : codeIn K cd "_law_coin" = true) (k : keepIn K (.ref g) = true) :
    Dn K mg "_law_coin" sCn ["_law_xs"] g (fnOf "_law_coin" "_law_coin" (defArgs sCn) (defBody sCn) (defScope sCn) .none kV dc pm an cd ct) := by
  have F := fun_mk (st := sCn) l c k
  exact ⟨F, F.binds fun _ _ _ _ _ _ us hl => match us, hl with | [_], _ => rfl, k, mg_of X G a⟩
theorem dn_28 {K : Frag} {h : Heap} {mg : Str → Option Value} {g : Addr} {oc kV dc pm cd ct : Value} {od an : Option Addr} {sl : Array (Option Value)} (X : K.In h) (G : h.Ns mainGlobals mg)
    (a : nsIn K mainGlobals "_law_one" = some (some (.ref g))) (l : K.lookup g = some ⟨oc, od, .func (fnOf "_law_one" "_law_one" (defArgs sOn) (defBody sOn) (defScope sOn) .none kV dc pm an cd ct), sl⟩) (c : codeIn K cd "_law_one" = true) (k : keepIn K (.ref g) = true) :
    Dn K mg "_law_one" sOn ["_law_xs", "_law_most"] g (fnOf "_law_one" "_law_one" (defArgs sOn) (defBody sOn) (defScope sOn) .none kV dc pm an cd ct) := by
  have F := fun_mk (st := sOn) l c k
  exact ⟨F, F.binds fun _ _ _ _ _ _ us hl => match us, hl with | [_, _], _ => rfl, k, mg_of X G a⟩
theorem dn_29 {K : Frag} {h : Heap} {mg : Str → Option Value} {g : Addr} {oc kV dc pm cd ct : Value} {od an : Option Addr} {sl : Array (Option Value)} (X : K.In h) (G : h.Ns mainGlobals mg)
    (a : nsIn K mainGlobals "_law_made" = some (some (.ref g))) (l : K.lookup g = some ⟨oc, od, .func (fnOf "_law_made" "_law_made" (defArgs sMd) (defBody sMd) (defScope sMd) .none kV dc pm an cd ct), sl⟩) (c : codeIn K cd "_law_made" = true) (k : keepIn K (.ref g) = true) :
    Dn K mg "_law_made" sMd ["_law_told"] g (fnOf "_law_made" "_law_made" (defArgs sMd) (defBody sMd) (defScope sMd) .none kV dc pm an cd ct) := by
  have F := fun_mk (st := sMd) l c k
  exact ⟨F, F.binds fun _ _ _ _ _ _ us hl => match us, hl with | [_], _ => rfl, k, mg_of X G a⟩
theorem dn_30 {K : Frag} {h : Heap} {mg : Str → Option Value} {g : Addr} {oc kV dc pm cd ct : Value} {od an : Option Addr} {sl : Array (Option Value)} (X : K.In h) (G : h.Ns mainGlobals mg)
    (a : nsIn K mainGlobals "_law_line" = some (some (.ref g))) (l : K.lookup g = some ⟨oc, od, .func (fnOf "_law_line" "_law_line" (defArgs sLi) (defBody sLi) (defScope sLi) .none kV dc pm an cd ct), sl⟩) (c : codeIn K cd "_law_line" = true) (k : keepIn K (.ref g) = true) :
    Dn K mg "_law_line" sLi ["_law_told"] g (fnOf "_law_line" "_law_line" (defArgs sLi) (defBody sLi) (defScope sLi) .none kV dc pm an cd ct) := by
  have F := fun_mk (st := sLi) l c k
  exact ⟨F, F.binds fun _ _ _ _ _ _ us hl => match us, hl with | [_], _ => rfl, k, mg_of X G a⟩
theorem dn_31 {K : Frag} {h : Heap} {mg : Str → Option Value} {g : Addr} {oc kV dc pm cd ct : Value} {od an : Option Addr} {sl : Array (Option Value)} (X : K.In h) (G : h.Ns mainGlobals mg)
    (a : nsIn K mainGlobals "_law_several" = some (some (.ref g))) (l : K.lookup g = some ⟨oc, od, .func (fnOf "_law_several" "_law_several" (defArgs sSv) (defBody sSv) (defScope sSv) .none kV dc pm an cd ct), sl⟩) (c : codeIn K cd "_law_several" = true) (k : keepIn K (.ref g) = true) :
    Dn K mg "_law_several" sSv ["_law_xs"] g (fnOf "_law_several" "_law_several" (defArgs sSv) (defBody sSv) (defScope sSv) .none kV dc pm an cd ct) := by
  have F := fun_mk (st := sSv) l c k
  exact ⟨F, F.binds fun _ _ _ _ _ _ us hl => match us, hl with | [_], _ => rfl, k, mg_of X G a⟩
theorem dn_32 {K : Frag} {h : Heap} {mg : Str → Option Value} {g : Addr} {oc kV dc pm cd ct : Value} {od an : Option Addr} {sl : Array (Option Value)} (X : K.In h) (G : h.Ns mainGlobals mg)
    (a : nsIn K mainGlobals "_law_right" = some (some (.ref g))) (l : K.lookup g = some ⟨oc, od, .func (fnOf "_law_right" "_law_right" (defArgs sRi) (defBody sRi) (defScope sRi) .none kV dc pm an cd ct), sl⟩) (c : codeIn K cd "_law_right" = true) (k : keepIn K (.ref g) = true) :
    Dn K mg "_law_right" sRi ["_law_told"] g (fnOf "_law_right" "_law_right" (defArgs sRi) (defBody sRi) (defScope sRi) .none kV dc pm an cd ct) := by
  have F := fun_mk (st := sRi) l c k
  exact ⟨F, F.binds fun _ _ _ _ _ _ us hl => match us, hl with | [_], _ => rfl, k, mg_of X G a⟩
theorem dn_33 {K : Frag} {h : Heap} {mg : Str → Option Value} {g : Addr} {oc kV dc pm cd ct : Value} {od an : Option Addr} {sl : Array (Option Value)} (X : K.In h) (G : h.Ns mainGlobals mg)
    (a : nsIn K mainGlobals "law" = some (some (.ref g))) (l : K.lookup g = some ⟨oc, od, .func (fnOf "law" "law" (defArgs sLaw) (defBody sLaw) (defScope sLaw) .none kV dc pm an cd ct), sl⟩) (c : codeIn K cd "law" = true) (k : keepIn K (.ref g) = true) :
    Dn K mg "law" sLaw ["_law_script"] g (fnOf "law" "law" (defArgs sLaw) (defBody sLaw) (defScope sLaw) .none kV dc pm an cd ct) := by
  have F := fun_mk (st := sLaw) l c k
  exact ⟨F, F.binds fun _ _ _ _ _ _ us hl => match us, hl with | [_], _ => rfl, k, mg_of X G a⟩
theorem dm_0 {K : Frag} {g : Addr} {oc kV dc pm cd ct : Value} {od an : Option Addr} {sl : Array (Option Value)}
    (l : K.lookup g = some ⟨oc, od, .func (fnOf "__init__" "Rule.__init__" (defArgs sRuI) (defBody sRuI) (defScope sRuI) .none kV dc pm an cd ct), sl⟩) (c : codeIn K cd "Rule.__init__" = true) (k : keepIn K (.ref g) = true) (f : isFn K (.ref g) = true) :
    Dm K "__init__" "Rule.__init__" sRuI ["self", "size", "first_state", "mark", "parts"] g (fnOf "__init__" "Rule.__init__" (defArgs sRuI) (defBody sRuI) (defScope sRuI) .none kV dc pm an cd ct) := by
  have F := fun_mk (st := sRuI) l c k
  exact ⟨F, F.binds fun _ _ _ _ _ _ us hl => match us, hl with | [_, _, _, _, _], _ => rfl, k, f⟩
theorem dm_1 {K : Frag} {g : Addr} {oc kV dc pm cd ct : Value} {od an : Option Addr} {sl : Array (Option Value)}
    (l : K.lookup g = some ⟨oc, od, .func (fnOf "folk" "Rule.folk" (defArgs sRuF) (defBody sRuF) (defScope sRuF) .none kV dc pm an cd ct), sl⟩) (c : codeIn K cd "Rule.folk" = true) (k : keepIn K (.ref g) = true) (f : isFn K (.ref g) = true) :
    Dm K "folk" "Rule.folk" sRuF ["self"] g (fnOf "folk" "Rule.folk" (defArgs sRuF) (defBody sRuF) (defScope sRuF) .none kV dc pm an cd ct) := by
  have F := fun_mk (st := sRuF) l c k
  exact ⟨F, F.binds fun _ _ _ _ _ _ us hl => match us, hl with | [_], _ => rfl, k, f⟩
theorem dm_2 {K : Frag} {g : Addr} {oc kV dc pm cd ct : Value} {od an : Option Addr} {sl : Array (Option Value)}
    (l : K.lookup g = some ⟨oc, od, .func (fnOf "begin" "Rule.begin" (defArgs sRuB) (defBody sRuB) (defScope sRuB) .none kV dc pm an cd ct), sl⟩) (c : codeIn K cd "Rule.begin" = true) (k : keepIn K (.ref g) = true) (f : isFn K (.ref g) = true) :
    Dm K "begin" "Rule.begin" sRuB ["self"] g (fnOf "begin" "Rule.begin" (defArgs sRuB) (defBody sRuB) (defScope sRuB) .none kV dc pm an cd ct) := by
  have F := fun_mk (st := sRuB) l c k
  exact ⟨F, F.binds fun _ _ _ _ _ _ us hl => match us, hl with | [_], _ => rfl, k, f⟩
theorem dm_3 {K : Frag} {g : Addr} {oc kV dc pm cd ct : Value} {od an : Option Addr} {sl : Array (Option Value)}
    (l : K.lookup g = some ⟨oc, od, .func (fnOf "told" "Rule.told" (defArgs sRuT) (defBody sRuT) (defScope sRuT) .none kV dc pm an cd ct), sl⟩) (c : codeIn K cd "Rule.told" = true) (k : keepIn K (.ref g) = true) (f : isFn K (.ref g) = true) :
    Dm K "told" "Rule.told" sRuT ["self"] g (fnOf "told" "Rule.told" (defArgs sRuT) (defBody sRuT) (defScope sRuT) .none kV dc pm an cd ct) := by
  have F := fun_mk (st := sRuT) l c k
  exact ⟨F, F.binds fun _ _ _ _ _ _ us hl => match us, hl with | [_], _ => rfl, k, f⟩
theorem dm_4 {K : Frag} {g : Addr} {oc kV dc pm cd ct : Value} {od an : Option Addr} {sl : Array (Option Value)}
    (l : K.lookup g = some ⟨oc, od, .func (fnOf "blocks" "Rule.blocks" (defArgs sRuK) (defBody sRuK) (defScope sRuK) .none kV dc pm an cd ct), sl⟩) (c : codeIn K cd "Rule.blocks" = true) (k : keepIn K (.ref g) = true) (f : isFn K (.ref g) = true) :
    Dm K "blocks" "Rule.blocks" sRuK ["self"] g (fnOf "blocks" "Rule.blocks" (defArgs sRuK) (defBody sRuK) (defScope sRuK) .none kV dc pm an cd ct) := by
  have F := fun_mk (st := sRuK) l c k
  exact ⟨F, F.binds fun _ _ _ _ _ _ us hl => match us, hl with | [_], _ => rfl, k, f⟩
theorem dm_5 {K : Frag} {g : Addr} {oc kV dc pm cd ct : Value} {od an : Option Addr} {sl : Array (Option Value)}
    (l : K.lookup g = some ⟨oc, od, .func (fnOf "__init__" "Split.__init__" (defArgs sSpI) (defBody sSpI) (defScope sSpI) .none kV dc pm an cd ct), sl⟩) (c : codeIn K cd "Split.__init__" = true) (k : keepIn K (.ref g) = true) (f : isFn K (.ref g) = true) :
    Dm K "__init__" "Split.__init__" sSpI ["self", "folk", "ones"] g (fnOf "__init__" "Split.__init__" (defArgs sSpI) (defBody sSpI) (defScope sSpI) .none kV dc pm an cd ct) := by
  have F := fun_mk (st := sSpI) l c k
  exact ⟨F, F.binds fun _ _ _ _ _ _ us hl => match us, hl with | [_, _, _], _ => rfl, k, f⟩
theorem dm_6 {K : Frag} {g : Addr} {oc kV dc pm cd ct : Value} {od an : Option Addr} {sl : Array (Option Value)}
    (l : K.lookup g = some ⟨oc, od, .func (fnOf "__init__" "Pairs.__init__" (defArgs sPaI) (defBody sPaI) (defScope sPaI) .none kV dc pm an cd ct), sl⟩) (c : codeIn K cd "Pairs.__init__" = true) (k : keepIn K (.ref g) = true) (f : isFn K (.ref g) = true) :
    Dm K "__init__" "Pairs.__init__" sPaI ["self", "pairs", "coin"] g (fnOf "__init__" "Pairs.__init__" (defArgs sPaI) (defBody sPaI) (defScope sPaI) .none kV dc pm an cd ct) := by
  have F := fun_mk (st := sPaI) l c k
  exact ⟨F, F.binds fun _ _ _ _ _ _ us hl => match us, hl with | [_, _, _], _ => rfl, k, f⟩
theorem dm_7 {K : Frag} {g : Addr} {oc kV dc pm cd ct : Value} {od an : Option Addr} {sl : Array (Option Value)}
    (l : K.lookup g = some ⟨oc, od, .func (fnOf "__init__" "Coins.__init__" (defArgs sCoI) (defBody sCoI) (defScope sCoI) .none kV dc pm an cd ct), sl⟩) (c : codeIn K cd "Coins.__init__" = true) (k : keepIn K (.ref g) = true) (f : isFn K (.ref g) = true) :
    Dm K "__init__" "Coins.__init__" sCoI ["self", "folk", "coin", "far"] g (fnOf "__init__" "Coins.__init__" (defArgs sCoI) (defBody sCoI) (defScope sCoI) .none kV dc pm an cd ct) := by
  have F := fun_mk (st := sCoI) l c k
  exact ⟨F, F.binds fun _ _ _ _ _ _ us hl => match us, hl with | [_, _, _, _], _ => rfl, k, f⟩
theorem dm_8 {K : Frag} {g : Addr} {oc kV dc pm cd ct : Value} {od an : Option Addr} {sl : Array (Option Value)}
    (l : K.lookup g = some ⟨oc, od, .func (fnOf "__init__" "Blocks.__init__" (defArgs sBlI) (defBody sBlI) (defScope sBlI) .none kV dc pm an cd ct), sl⟩) (c : codeIn K cd "Blocks.__init__" = true) (k : keepIn K (.ref g) = true) (f : isFn K (.ref g) = true) :
    Dm K "__init__" "Blocks.__init__" sBlI ["self", "rules"] g (fnOf "__init__" "Blocks.__init__" (defArgs sBlI) (defBody sBlI) (defScope sBlI) .none kV dc pm an cd ct) := by
  have F := fun_mk (st := sBlI) l c k
  exact ⟨F, F.binds fun _ _ _ _ _ _ us hl => match us, hl with | [_, _], _ => rfl, k, f⟩
theorem dm_9 {K : Frag} {g : Addr} {oc kV dc pm cd ct : Value} {od an : Option Addr} {sl : Array (Option Value)}
    (l : K.lookup g = some ⟨oc, od, .func (fnOf "state_ahead" "Blocks.state_ahead" (defArgs sSA) (defBody sSA) (defScope sSA) .none kV dc pm an cd ct), sl⟩) (c : codeIn K cd "Blocks.state_ahead" = true) (k : keepIn K (.ref g) = true) (f : isFn K (.ref g) = true) :
    Dm K "state_ahead" "Blocks.state_ahead" sSA ["self", "number"] g (fnOf "state_ahead" "Blocks.state_ahead" (defArgs sSA) (defBody sSA) (defScope sSA) .none kV dc pm an cd ct) := by
  have F := fun_mk (st := sSA) l c k
  exact ⟨F, F.binds fun _ _ _ _ _ _ us hl => match us, hl with | [_, _], _ => rfl, k, f⟩
theorem all_mk {l : OpenLaw} {w : World} {K : Frag} {h : Heap} {mg : Str → Option Value} {fa D CE2 fE2 CE3 fE3 CE5 fE5 CE7 fE7 g0 g1 g2 g3 g4 g5 g6 g7 g8 g9 g10 g11 g12 g13 g14 g15 g16 g17 g18 g19 g20 g21 g22 g23 g24 g25 g26 g27 g28 g29 g30 g31 g32 g33 m0 m1 m2 m3 m4 m5 m6 m7 m8 m9 R C0 C1 C2 C3 : Addr} {d0 d1 d2 d3 d4 d5 d6 d7 d8 d9 d10 d11 d12 d13 d14 d15 d16 d17 d18 d19 d20 d21 d22 d23 d24 d25 d26 d27 d28 d29 d30 d31 d32 d33 x0 x1 x2 x3 x4 x5 x6 x7 x8 x9 : FuncData} (X : K.In h) (G : h.Ns mainGlobals mg) (hfa : mg "law" = some (.ref fa))
    {oc2 kV2 dc2 pm2 cd2 ct2 oc3 kV3 dc3 pm3 cd3 ct3 oc5 kV5 dc5 pm5 cd5 ct5 oc7 kV7 dc7 pm7 cd7 ct7 : Value} {od2 an2 od3 an3 od5 an5 od7 an7 : Option Addr} {sl2 sl3 sl5 sl7 : Array (Option Value)}
    {t_MOST_FOLK t_MOST_PAIRS t_MOST_FAR t_MOST_RULES t_MOST_BOTTOM : Tok}
    {nN nA wW wR : Addr} {odN odA : Option Addr} {tF tN uN tA uA : Tok} {nmN nmA nmW nmR : Nat} {slN slA : Array (Option Value)} {esW esR : Array DictEntry}
    (B : BaseC K D) (eE2 : ErrC K D "NoShare" CE2 fE2) (eE3 : ErrC K D "NoNumber" CE3 fE3) (eE5 : ErrC K D "NoTrials" CE5 fE5) (eE7 : ErrC K D "TooMany" CE7 fE7)
    (aD : nsIn K mainGlobals "DealError" = some (some (.ref D)))
    (a2 : nsIn K mainGlobals "NoShare" = some (some (.ref CE2)))
    (a3 : nsIn K mainGlobals "NoNumber" = some (some (.ref CE3)))
    (a5 : nsIn K mainGlobals "NoTrials" = some (some (.ref CE5)))
    (a7 : nsIn K mainGlobals "TooMany" = some (some (.ref CE7)))
    (lf2 : K.lookup fE2 = some ⟨oc2, od2, .func (fnOf "__init__" "NoShare.__init__" (defArgs sIni2) (defBody sIni2) (defScope sIni2) .none kV2 dc2 pm2 an2 cd2 ct2), sl2⟩)
    (cf2 : codeIn K cd2 "NoShare.__init__" = true)
    (kf2 : keepIn K (.ref fE2) = true)
    (tk2 : takerIn K CE2 "found" = some none)
    (nf2 : findIn K (.ref CE2) "found" = some none)
    (lf3 : K.lookup fE3 = some ⟨oc3, od3, .func (fnOf "__init__" "NoNumber.__init__" (defArgs sIni3) (defBody sIni3) (defScope sIni3) .none kV3 dc3 pm3 an3 cd3 ct3), sl3⟩)
    (cf3 : codeIn K cd3 "NoNumber.__init__" = true)
    (kf3 : keepIn K (.ref fE3) = true)
    (tk3 : takerIn K CE3 "found" = some none)
    (nf3 : findIn K (.ref CE3) "found" = some none)
    (lf5 : K.lookup fE5 = some ⟨oc5, od5, .func (fnOf "__init__" "NoTrials.__init__" (defArgs sIni5) (defBody sIni5) (defScope sIni5) .none kV5 dc5 pm5 an5 cd5 ct5), sl5⟩)
    (cf5 : codeIn K cd5 "NoTrials.__init__" = true)
    (kf5 : keepIn K (.ref fE5) = true)
    (tk5 : takerIn K CE5 "found" = some none)
    (nf5 : findIn K (.ref CE5) "found" = some none)
    (lf7 : K.lookup fE7 = some ⟨oc7, od7, .func (fnOf "__init__" "TooMany.__init__" (defArgs sIni7) (defBody sIni7) (defScope sIni7) .none kV7 dc7 pm7 an7 cd7 ct7), sl7⟩)
    (cf7 : codeIn K cd7 "TooMany.__init__" = true)
    (kf7 : keepIn K (.ref fE7) = true)
    (tk7 : takerIn K CE7 "many" = some none)
    (nf7 : findIn K (.ref CE7) "many" = some none)
    (ns_R : nsIn K mainGlobals "Rule" = some (some (.ref R)))
    (sga_R : specialIn K (.ref R) "__getattribute__" = some (some (.builtin "type.__getattribute__")))
    (srd_R : readsIn K R (.type "type") = true)
    (sat_R_init : findCls K (.ref R) (.type "type") "__init__" = some (.val (.ref m0)))
    (ic_R : isClsIn K R = true)
    (ty_R : typeIn K (.ref R) = some (.type "type"))
    (ss_R : mroIn K R (.ref R) = some true)
    (nc_C0 : nsIn K mainGlobals "Split" = some (some (.ref C0)))
    (pg_C0 : plainGet K C0 Str.empty = true)
    (hd_C0 : hasDictIn K C0 = true)
    (po_C0 : plainOver K C0 = true)
    (sa_C0 : findIn K (.ref C0) "__setattr__" = some (some (.builtin "object.__setattr__")))
    (mks_C0 : makesIn K C0 = true)
    (kp_C0 : keepIn K (.ref C0) = true)
    (ca_C0 : findIn K (.ref C0) "__class__" = some (some (.builtin "object.__class__")))
    (hm_C0 : mroIn K C0 (.type "object") = some true)
    (icl_C0 : isClsIn K C0 = true)
    (tyl_C0 : typeIn K (.ref C0) = some (.type "type"))
    (no_C0_size : findIn K (.ref C0) "size" = some none)
    (no_C0_first_state : findIn K (.ref C0) "first_state" = some none)
    (no_C0_mark : findIn K (.ref C0) "mark" = some none)
    (no_C0_parts : findIn K (.ref C0) "parts" = some none)
    (no_C0_coin : findIn K (.ref C0) "coin" = some none)
    (no_C0_far : findIn K (.ref C0) "far" = some none)
    (no_C0_rules : findIn K (.ref C0) "rules" = some none)
    (no_C0_dealer : findIn K (.ref C0) "dealer" = some none)
    (fi_C0_init : findIn K (.ref C0) "__init__" = some (some (.ref m5)))
    (fi_C0_folk : findIn K (.ref C0) "folk" = some (some (.ref m1)))
    (fi_C0_begin : findIn K (.ref C0) "begin" = some (some (.ref m2)))
    (fi_C0_told : findIn K (.ref C0) "told" = some (some (.ref m3)))
    (fi_C0_blocks : findIn K (.ref C0) "blocks" = some (some (.ref m4)))
    (mr_C0_C0 : mroIn K C0 (.ref C0) = some true)
    (mr_C0_C1 : mroIn K C0 (.ref C1) = some false)
    (mr_C0_C2 : mroIn K C0 (.ref C2) = some false)
    (mr_C0_C3 : mroIn K C0 (.ref C3) = some false)
    (mr_C0_R : mroIn K C0 (.ref R) = some true)
    (mr_C0_tuple : mroIn K C0 (.type "tuple") = some false)
    (mr_C0_list : mroIn K C0 (.type "list") = some false)
    (mr_C0_int : mroIn K C0 (.type "int") = some false)
    (mr_C0_bool : mroIn K C0 (.type "bool") = some false)
    (nc_C1 : nsIn K mainGlobals "Pairs" = some (some (.ref C1)))
    (pg_C1 : plainGet K C1 Str.empty = true)
    (hd_C1 : hasDictIn K C1 = true)
    (po_C1 : plainOver K C1 = true)
    (sa_C1 : findIn K (.ref C1) "__setattr__" = some (some (.builtin "object.__setattr__")))
    (mks_C1 : makesIn K C1 = true)
    (kp_C1 : keepIn K (.ref C1) = true)
    (ca_C1 : findIn K (.ref C1) "__class__" = some (some (.builtin "object.__class__")))
    (hm_C1 : mroIn K C1 (.type "object") = some true)
    (icl_C1 : isClsIn K C1 = true)
    (tyl_C1 : typeIn K (.ref C1) = some (.type "type"))
    (no_C1_size : findIn K (.ref C1) "size" = some none)
    (no_C1_first_state : findIn K (.ref C1) "first_state" = some none)
    (no_C1_mark : findIn K (.ref C1) "mark" = some none)
    (no_C1_parts : findIn K (.ref C1) "parts" = some none)
    (no_C1_coin : findIn K (.ref C1) "coin" = some none)
    (no_C1_far : findIn K (.ref C1) "far" = some none)
    (no_C1_rules : findIn K (.ref C1) "rules" = some none)
    (no_C1_dealer : findIn K (.ref C1) "dealer" = some none)
    (fi_C1_init : findIn K (.ref C1) "__init__" = some (some (.ref m6)))
    (fi_C1_folk : findIn K (.ref C1) "folk" = some (some (.ref m1)))
    (fi_C1_begin : findIn K (.ref C1) "begin" = some (some (.ref m2)))
    (fi_C1_told : findIn K (.ref C1) "told" = some (some (.ref m3)))
    (fi_C1_blocks : findIn K (.ref C1) "blocks" = some (some (.ref m4)))
    (mr_C1_C0 : mroIn K C1 (.ref C0) = some false)
    (mr_C1_C1 : mroIn K C1 (.ref C1) = some true)
    (mr_C1_C2 : mroIn K C1 (.ref C2) = some false)
    (mr_C1_C3 : mroIn K C1 (.ref C3) = some false)
    (mr_C1_R : mroIn K C1 (.ref R) = some true)
    (mr_C1_tuple : mroIn K C1 (.type "tuple") = some false)
    (mr_C1_list : mroIn K C1 (.type "list") = some false)
    (mr_C1_int : mroIn K C1 (.type "int") = some false)
    (mr_C1_bool : mroIn K C1 (.type "bool") = some false)
    (nc_C2 : nsIn K mainGlobals "Coins" = some (some (.ref C2)))
    (pg_C2 : plainGet K C2 Str.empty = true)
    (hd_C2 : hasDictIn K C2 = true)
    (po_C2 : plainOver K C2 = true)
    (sa_C2 : findIn K (.ref C2) "__setattr__" = some (some (.builtin "object.__setattr__")))
    (mks_C2 : makesIn K C2 = true)
    (kp_C2 : keepIn K (.ref C2) = true)
    (ca_C2 : findIn K (.ref C2) "__class__" = some (some (.builtin "object.__class__")))
    (hm_C2 : mroIn K C2 (.type "object") = some true)
    (icl_C2 : isClsIn K C2 = true)
    (tyl_C2 : typeIn K (.ref C2) = some (.type "type"))
    (no_C2_size : findIn K (.ref C2) "size" = some none)
    (no_C2_first_state : findIn K (.ref C2) "first_state" = some none)
    (no_C2_mark : findIn K (.ref C2) "mark" = some none)
    (no_C2_parts : findIn K (.ref C2) "parts" = some none)
    (no_C2_coin : findIn K (.ref C2) "coin" = some none)
    (no_C2_far : findIn K (.ref C2) "far" = some none)
    (no_C2_rules : findIn K (.ref C2) "rules" = some none)
    (no_C2_dealer : findIn K (.ref C2) "dealer" = some none)
    (fi_C2_init : findIn K (.ref C2) "__init__" = some (some (.ref m7)))
    (fi_C2_folk : findIn K (.ref C2) "folk" = some (some (.ref m1)))
    (fi_C2_begin : findIn K (.ref C2) "begin" = some (some (.ref m2)))
    (fi_C2_told : findIn K (.ref C2) "told" = some (some (.ref m3)))
    (fi_C2_blocks : findIn K (.ref C2) "blocks" = some (some (.ref m4)))
    (mr_C2_C0 : mroIn K C2 (.ref C0) = some false)
    (mr_C2_C1 : mroIn K C2 (.ref C1) = some false)
    (mr_C2_C2 : mroIn K C2 (.ref C2) = some true)
    (mr_C2_C3 : mroIn K C2 (.ref C3) = some false)
    (mr_C2_R : mroIn K C2 (.ref R) = some true)
    (mr_C2_tuple : mroIn K C2 (.type "tuple") = some false)
    (mr_C2_list : mroIn K C2 (.type "list") = some false)
    (mr_C2_int : mroIn K C2 (.type "int") = some false)
    (mr_C2_bool : mroIn K C2 (.type "bool") = some false)
    (nc_C3 : nsIn K mainGlobals "Blocks" = some (some (.ref C3)))
    (pg_C3 : plainGet K C3 Str.empty = true)
    (hd_C3 : hasDictIn K C3 = true)
    (po_C3 : plainOver K C3 = true)
    (sa_C3 : findIn K (.ref C3) "__setattr__" = some (some (.builtin "object.__setattr__")))
    (mks_C3 : makesIn K C3 = true)
    (kp_C3 : keepIn K (.ref C3) = true)
    (ca_C3 : findIn K (.ref C3) "__class__" = some (some (.builtin "object.__class__")))
    (hm_C3 : mroIn K C3 (.type "object") = some true)
    (icl_C3 : isClsIn K C3 = true)
    (tyl_C3 : typeIn K (.ref C3) = some (.type "type"))
    (no_C3_size : findIn K (.ref C3) "size" = some none)
    (no_C3_first_state : findIn K (.ref C3) "first_state" = some none)
    (no_C3_mark : findIn K (.ref C3) "mark" = some none)
    (no_C3_parts : findIn K (.ref C3) "parts" = some none)
    (no_C3_coin : findIn K (.ref C3) "coin" = some none)
    (no_C3_far : findIn K (.ref C3) "far" = some none)
    (no_C3_rules : findIn K (.ref C3) "rules" = some none)
    (no_C3_dealer : findIn K (.ref C3) "dealer" = some none)
    (fi_C3_init : findIn K (.ref C3) "__init__" = some (some (.ref m8)))
    (fi_C3_folk : findIn K (.ref C3) "folk" = some (some (.ref m1)))
    (fi_C3_begin : findIn K (.ref C3) "begin" = some (some (.ref m2)))
    (fi_C3_told : findIn K (.ref C3) "told" = some (some (.ref m3)))
    (fi_C3_blocks : findIn K (.ref C3) "blocks" = some (some (.ref m4)))
    (fi_C3_state_ahead : findIn K (.ref C3) "state_ahead" = some (some (.ref m9)))
    (mr_C3_C0 : mroIn K C3 (.ref C0) = some false)
    (mr_C3_C1 : mroIn K C3 (.ref C1) = some false)
    (mr_C3_C2 : mroIn K C3 (.ref C2) = some false)
    (mr_C3_C3 : mroIn K C3 (.ref C3) = some true)
    (mr_C3_R : mroIn K C3 (.ref R) = some true)
    (mr_C3_tuple : mroIn K C3 (.type "tuple") = some false)
    (mr_C3_list : mroIn K C3 (.type "list") = some false)
    (mr_C3_int : mroIn K C3 (.type "int") = some false)
    (mr_C3_bool : mroIn K C3 (.type "bool") = some false)
    (i_MOST_FOLK : nsIn K mainGlobals "MOST_FOLK" = some (some (.int (20) t_MOST_FOLK)))
    (i_MOST_PAIRS : nsIn K mainGlobals "MOST_PAIRS" = some (some (.int (10) t_MOST_PAIRS)))
    (i_MOST_FAR : nsIn K mainGlobals "MOST_FAR" = some (some (.int (20) t_MOST_FAR)))
    (i_MOST_RULES : nsIn K mainGlobals "MOST_RULES" = some (some (.int (6) t_MOST_RULES)))
    (i_MOST_BOTTOM : nsIn K mainGlobals "MOST_BOTTOM" = some (some (.int (100) t_MOST_BOTTOM)))
    (gt : specialIn K (.builtin "object.__class__") "__get__" = some (some (.builtin "getset_descriptor.__get__")))
    (tkT : takesIn K (.builtin "object.__class__") = some true)
    (aF : nsIn K mainGlobals "FIGURES" = some (some (.str FIG tF)))
    (aN : nsIn K mainGlobals "NONE" = some (some (.ref nN)))
    (aA : nsIn K mainGlobals "ALL" = some (some (.ref nA)))
    (lN : K.lookup nN = some ⟨.type "tuple", odN, .seq #[.int 0 tN, .int 1 uN] nmN, slN⟩)
    (lA : K.lookup nA = some ⟨.type "tuple", odA, .seq #[.int 1 tA, .int 1 uA] nmA, slA⟩)
    (aW : nsIn K mainGlobals "WRITERS" = some (some (.ref wW)))
    (lW : K.lookup wW = some ⟨.type "dict", none, .dict esW nmW, #[]⟩)
    (nW0 : nsIn K wW "split" = some (some (.ref g14)))
    (nW1 : nsIn K wW "pairs" = some (some (.ref g15)))
    (nW2 : nsIn K wW "coins" = some (some (.ref g16)))
    (aR : nsIn K mainGlobals "READERS" = some (some (.ref wR)))
    (lR : K.lookup wR = some ⟨.type "dict", none, .dict esR nmR, #[]⟩)
    (nR0 : nsIn K wR "split" = some (some (.ref g19)))
    (nR1 : nsIn K wR "pairs" = some (some (.ref g20)))
    (nR2 : nsIn K wR "coins" = some (some (.ref g21)))
    (kW : KeysLit w.params esW.toList)
    (kR : KeysLit w.params esR.toList)
    (loW : (wW == sysModules) = false)
    (loR : (wR == sysModules) = false)
    (z_isinstance : nsIn K mainGlobals "isinstance" = some none)
    (z_int : nsIn K mainGlobals "int" = some none)
    (z_bool : nsIn K mainGlobals "bool" = some none)
    (z_len : nsIn K mainGlobals "len" = some none)
    (z_range : nsIn K mainGlobals "range" = some none)
    (z_tuple : nsIn K mainGlobals "tuple" = some none)
    (z_list : nsIn K mainGlobals "list" = some none)
    (z_sum : nsIn K mainGlobals "sum" = some none)
    (z_all : nsIn K mainGlobals "all" = some none)
    (z_max : nsIn K mainGlobals "max" = some none)
    (z_str : nsIn K mainGlobals "str" = some none)
    (z_enumerate : nsIn K mainGlobals "enumerate" = some none)
    (e0 : Dn K mg "is_number" sIsNum ["thing"] g0 d0)
    (e1 : Dn K mg "is_whole" sIsWh ["thing", "low", "high"] g1 d1)
    (e2 : Dn K mg "greatest_common" sGcd ["one", "other"] g2 d2)
    (e3 : Dn K mg "is_part" sPart ["top", "bottom"] g3 d3)
    (e4 : Dn K mg "is_share" sISh ["thing"] g4 d4)
    (e5 : Dn K mg "need_number" sNN ["thing", "low", "high"] g5 d5)
    (e6 : Dn K mg "need_coin" sNC ["thing"] g6 d6)
    (e7 : Dn K mg "one_part" sOP ["folk"] g7 d7)
    (e8 : Dn K mg "may_be_block" sMBk ["thing"] g8 d8)
    (e9 : Dn K mg "are_block_rules" sAB ["thing"] g9 d9)
    (e10 : Dn K mg "parts_of" sPO ["rules"] g10 d10)
    (e11 : Dn K mg "count_in" sCount ["text"] g11 d11)
    (e12 : Dn K mg "share_in" sShIn ["thing"] g12 d12)
    (e13 : Dn K mg "share_text" sShT ["share"] g13 d13)
    (e14 : Dn K mg "split_line" sW0 ["mark"] g14 d14)
    (e15 : Dn K mg "pairs_line" sW1 ["mark"] g15 d15)
    (e16 : Dn K mg "coins_line" sW2 ["mark"] g16 d16)
    (e17 : Dn K mg "line_of" sLn ["mark"] g17 d17)
    (e18 : Dn K mg "rule_text" sRt ["rule"] g18 d18)
    (e19 : Dn K mg "split_in" sI0 ["words"] g19 d19)
    (e20 : Dn K mg "pairs_in" sI1 ["words"] g20 d20)
    (e21 : Dn K mg "coins_in" sI2 ["words"] g21 d21)
    (e22 : Dn K mg "rule_in" sRu ["line"] g22 d22)
    (e23 : Dn K mg "read_rule" sRR ["text"] g23 d23)
    (e24 : Dn K mg "_law_row" sRow ["_law_cell", "_law_sizes"] g24 d24)
    (e25 : Dn K mg "_law_common" sCom ["_law_one_here", "_law_other"] g25 d25)
    (e26 : Dn K mg "_law_lowest" sLow ["_law_top", "_law_bottom"] g26 d26)
    (e27 : Dn K mg "_law_coin" sCn ["_law_xs"] g27 d27)
    (e28 : Dn K mg "_law_one" sOn ["_law_xs", "_law_most"] g28 d28)
    (e29 : Dn K mg "_law_made" sMd ["_law_told"] g29 d29)
    (e30 : Dn K mg "_law_line" sLi ["_law_told"] g30 d30)
    (e31 : Dn K mg "_law_several" sSv ["_law_xs"] g31 d31)
    (e32 : Dn K mg "_law_right" sRi ["_law_told"] g32 d32)
    (e33 : Dn K mg "law" sLaw ["_law_script"] g33 d33)
    (y0 : Dm K "__init__" "Rule.__init__" sRuI ["self", "size", "first_state", "mark", "parts"] m0 x0)
    (y1 : Dm K "folk" "Rule.folk" sRuF ["self"] m1 x1)
    (y2 : Dm K "begin" "Rule.begin" sRuB ["self"] m2 x2)
    (y3 : Dm K "told" "Rule.told" sRuT ["self"] m3 x3)
    (y4 : Dm K "blocks" "Rule.blocks" sRuK ["self"] m4 x4)
    (y5 : Dm K "__init__" "Split.__init__" sSpI ["self", "folk", "ones"] m5 x5)
    (y6 : Dm K "__init__" "Pairs.__init__" sPaI ["self", "pairs", "coin"] m6 x6)
    (y7 : Dm K "__init__" "Coins.__init__" sCoI ["self", "folk", "coin", "far"] m7 x7)
    (y8 : Dm K "__init__" "Blocks.__init__" sBlI ["self", "rules"] m8 x8)
    (y9 : Dm K "state_ahead" "Blocks.state_ahead" sSA ["self", "number"] m9 x9)
    (hb : ∀ (s : Shared) (v : Value), BindsTo s d33 ⟨[v], []⟩ [("_law_script", v)])
    : ∃ fd : FuncData, (∀ (s : Shared) (v : Value), BindsTo s fd ⟨[v], []⟩ [("_law_script", v)]) ∧ ∀ base : Heap, K.In base → base.Ns mainGlobals mg → FnOk l.prog w K mg base CX0 12 fa fd ["_law_script"] (spLaw K) := by
  have e := hfa.symm.trans e33.mg
  cases e
  refine ⟨_, hb, fun base _ _ => ?_⟩
  have m_isinstance := mg_none_of X G z_isinstance
  have m_int := mg_none_of X G z_int
  have m_bool := mg_none_of X G z_bool
  have m_len := mg_none_of X G z_len
  have m_range := mg_none_of X G z_range
  have m_tuple := mg_none_of X G z_tuple
  have m_list := mg_none_of X G z_list
  have m_sum := mg_none_of X G z_sum
  have m_all := mg_none_of X G z_all
  have m_max := mg_none_of X G z_max
  have m_str := mg_none_of X G z_str
  have m_enumerate := mg_none_of X G z_enumerate
  have T : IsT K := ⟨gt, tkT⟩
  have mD := mg_of X G aD
  have o2 := one2 B eE2 mD (mg_of X G a2) (fun_mk (st := sIni2) lf2 cf2 kf2) tk2
  have o3 := one3 B eE3 mD (mg_of X G a3) (fun_mk (st := sIni3) lf3 cf3 kf3) tk3
  have o5 := one5 B eE5 mD (mg_of X G a5) (fun_mk (st := sIni5) lf5 cf5 kf5) tk5
  have o7 := one7 B eE7 mD (mg_of X G a7) (fun_mk (st := sIni7) lf7 cf7 kf7) tk7
  have n_MOST_FOLK := mg_of X G i_MOST_FOLK
  have n_MOST_PAIRS := mg_of X G i_MOST_PAIRS
  have n_MOST_FAR := mg_of X G i_MOST_FAR
  have n_MOST_RULES := mg_of X G i_MOST_RULES
  have n_MOST_BOTTOM := mg_of X G i_MOST_BOTTOM
  have mB_R := mg_of X G ns_R
  have CF_R_init : ClsFn K R "__init__" m0 := ⟨sga_R, srd_R, sat_R_init, y0.kp⟩
  have mC_C0 := mg_of X G nc_C0
  have cls_C0 : Cls K C0 := ⟨pg_C0, hd_C0, po_C0, sa_C0⟩
  have mk_C0 : Mk K C0 m5 := ⟨mks_C0, fi_C0_init, y5.isf, kp_C0⟩
  have mC_C1 := mg_of X G nc_C1
  have cls_C1 : Cls K C1 := ⟨pg_C1, hd_C1, po_C1, sa_C1⟩
  have mk_C1 : Mk K C1 m6 := ⟨mks_C1, fi_C1_init, y6.isf, kp_C1⟩
  have mC_C2 := mg_of X G nc_C2
  have cls_C2 : Cls K C2 := ⟨pg_C2, hd_C2, po_C2, sa_C2⟩
  have mk_C2 : Mk K C2 m7 := ⟨mks_C2, fi_C2_init, y7.isf, kp_C2⟩
  have mC_C3 := mg_of X G nc_C3
  have cls_C3 : Cls K C3 := ⟨pg_C3, hd_C3, po_C3, sa_C3⟩
  have mk_C3 : Mk K C3 m8 := ⟨mks_C3, fi_C3_init, y8.isf, kp_C3⟩
  have GN_ := ok_isnum (P := l.prog) (w := w) (mg := mg) (base := base) T e0.fn m_isinstance m_int m_bool
  have GN := (e0.df GN_)
  have GW_ := ok_iswh e1.fn GN_ e0.bi e0.kp e0.mg
  have GW := (e1.df GW_)
  have GG_ := ok_gcd (P := l.prog) (w := w) (mg := mg) (base := base) e2.fn
  have GG := (e2.df GG_)
  have GPa_ := ok_part e3.fn GN_ e0.bi e0.kp e0.mg GW_ e1.bi e1.kp e1.mg
  have GPa := (e3.df GPa_)
  have GSh_ := ok_ish T e4.fn GPa GG m_isinstance m_tuple m_len
  have GSh := (e4.df GSh_)
  have GM_ := ok_nn e5.fn B o3 GW
  have GM := (e5.df GM_)
  have GC_ := ok_nc e6.fn B o2 GW GSh n_MOST_BOTTOM
  have GC := (e6.df GC_)
  have GP_ := ok_op (P := l.prog) (w := w) (mg := mg) (base := base) e7.fn m_tuple m_range
  have GP := (e7.df GP_)
  have Z : KR K (five C0 C1 C2 C3) R := {
    cls := fun i hi => match i, hi with
      | 0, _ => cls_C0
      | 1, _ => cls_C1
      | 2, _ => cls_C2
      | 3, _ => cls_C3
    no := fun i hi => match i, hi with
      | 0, _ => no8 no_C0_size no_C0_first_state no_C0_mark no_C0_parts no_C0_coin no_C0_far no_C0_rules no_C0_dealer
      | 1, _ => no8 no_C1_size no_C1_first_state no_C1_mark no_C1_parts no_C1_coin no_C1_far no_C1_rules no_C1_dealer
      | 2, _ => no8 no_C2_size no_C2_first_state no_C2_mark no_C2_parts no_C2_coin no_C2_far no_C2_rules no_C2_dealer
      | 3, _ => no8 no_C3_size no_C3_first_state no_C3_mark no_C3_parts no_C3_coin no_C3_far no_C3_rules no_C3_dealer
    ha := fun i hi => match i, hi with
      | 0, _ => ca_C0
      | 1, _ => ca_C1
      | 2, _ => ca_C2
      | 3, _ => ca_C3
    hn := gt
    htk := tkT
    hm := fun i hi => match i, hi with
      | 0, _ => hm_C0
      | 1, _ => hm_C1
      | 2, _ => hm_C2
      | 3, _ => hm_C3
    kk := fun i j hi hj => match i, j, hi, hj with
      | 0, 0, _, _ => kit_mro icl_C0 tyl_C0 mr_C0_C0 mr_C0_C0
      | 0, 1, _, _ => kit_mro icl_C1 tyl_C1 mr_C1_C1 mr_C0_C1
      | 0, 2, _, _ => kit_mro icl_C2 tyl_C2 mr_C2_C2 mr_C0_C2
      | 0, 3, _, _ => kit_mro icl_C3 tyl_C3 mr_C3_C3 mr_C0_C3
      | 1, 0, _, _ => kit_mro icl_C0 tyl_C0 mr_C0_C0 mr_C1_C0
      | 1, 1, _, _ => kit_mro icl_C1 tyl_C1 mr_C1_C1 mr_C1_C1
      | 1, 2, _, _ => kit_mro icl_C2 tyl_C2 mr_C2_C2 mr_C1_C2
      | 1, 3, _, _ => kit_mro icl_C3 tyl_C3 mr_C3_C3 mr_C1_C3
      | 2, 0, _, _ => kit_mro icl_C0 tyl_C0 mr_C0_C0 mr_C2_C0
      | 2, 1, _, _ => kit_mro icl_C1 tyl_C1 mr_C1_C1 mr_C2_C1
      | 2, 2, _, _ => kit_mro icl_C2 tyl_C2 mr_C2_C2 mr_C2_C2
      | 2, 3, _, _ => kit_mro icl_C3 tyl_C3 mr_C3_C3 mr_C2_C3
      | 3, 0, _, _ => kit_mro icl_C0 tyl_C0 mr_C0_C0 mr_C3_C0
      | 3, 1, _, _ => kit_mro icl_C1 tyl_C1 mr_C1_C1 mr_C3_C1
      | 3, 2, _, _ => kit_mro icl_C2 tyl_C2 mr_C2_C2 mr_C3_C2
      | 3, 3, _, _ => kit_mro icl_C3 tyl_C3 mr_C3_C3 mr_C3_C3
    kR := fun i hi => match i, hi with
      | 0, _ => kit_mro ic_R ty_R ss_R mr_C0_R
      | 1, _ => kit_mro ic_R ty_R ss_R mr_C1_R
      | 2, _ => kit_mro ic_R ty_R ss_R mr_C2_R
      | 3, _ => kit_mro ic_R ty_R ss_R mr_C3_R
    kl := fun i hi => match i, hi with
      | 0, _ => kit_tyM (by decide +kernel) mr_C0_list
      | 1, _ => kit_tyM (by decide +kernel) mr_C1_list
      | 2, _ => kit_tyM (by decide +kernel) mr_C2_list
      | 3, _ => kit_tyM (by decide +kernel) mr_C3_list
    kt := fun i hi => match i, hi with
      | 0, _ => kit_tyM (by decide +kernel) mr_C0_tuple
      | 1, _ => kit_tyM (by decide +kernel) mr_C1_tuple
      | 2, _ => kit_tyM (by decide +kernel) mr_C2_tuple
      | 3, _ => kit_tyM (by decide +kernel) mr_C3_tuple
    ki := fun i hi => match i, hi with
      | 0, _ => kit_tyM (by decide +kernel) mr_C0_int
      | 1, _ => kit_tyM (by decide +kernel) mr_C1_int
      | 2, _ => kit_tyM (by decide +kernel) mr_C2_int
      | 3, _ => kit_tyM (by decide +kernel) mr_C3_int
    kb := fun i hi => match i, hi with
      | 0, _ => kit_tyM (by decide +kernel) mr_C0_bool
      | 1, _ => kit_tyM (by decide +kernel) mr_C1_bool
      | 2, _ => kit_tyM (by decide +kernel) mr_C2_bool
      | 3, _ => kit_tyM (by decide +kernel) mr_C3_bool
  }
  have I0 := ok_rui (P := l.prog) (w := w) (mg := mg) (base := base) Z y0.fn
  have I1 := ok_ruf (P := l.prog) (w := w) (mg := mg) (base := base) Z y1.fn
  have I2 := ok_rub (P := l.prog) (w := w) (mg := mg) (base := base) Z y2.fn
  have I3 := ok_rut (P := l.prog) (w := w) (mg := mg) (base := base) Z y3.fn
  have I4 := ok_ruk (P := l.prog) (w := w) (mg := mg) (base := base) Z y4.fn m_list
  have M_folk : MethS l.prog w K mg base CX0 1 "folk" ["self"] (Is5 (five C0 C1 C2 C3)) (fun _ => spFolk (five C0 C1 C2 C3)) := by
    rintro c ⟨i, hi, rfl⟩
    match i, hi with
    | 0, _ => exact ⟨cls_C0, m1, x1, ⟨fi_C0_folk, y1.isf, y1.kp⟩, I1, y1.bi⟩
    | 1, _ => exact ⟨cls_C1, m1, x1, ⟨fi_C1_folk, y1.isf, y1.kp⟩, I1, y1.bi⟩
    | 2, _ => exact ⟨cls_C2, m1, x1, ⟨fi_C2_folk, y1.isf, y1.kp⟩, I1, y1.bi⟩
    | 3, _ => exact ⟨cls_C3, m1, x1, ⟨fi_C3_folk, y1.isf, y1.kp⟩, I1, y1.bi⟩
  have M_begin : MethS l.prog w K mg base CX0 1 "begin" ["self"] (Is5 (five C0 C1 C2 C3)) (fun _ => spBegin (five C0 C1 C2 C3)) := by
    rintro c ⟨i, hi, rfl⟩
    match i, hi with
    | 0, _ => exact ⟨cls_C0, m2, x2, ⟨fi_C0_begin, y2.isf, y2.kp⟩, I2, y2.bi⟩
    | 1, _ => exact ⟨cls_C1, m2, x2, ⟨fi_C1_begin, y2.isf, y2.kp⟩, I2, y2.bi⟩
    | 2, _ => exact ⟨cls_C2, m2, x2, ⟨fi_C2_begin, y2.isf, y2.kp⟩, I2, y2.bi⟩
    | 3, _ => exact ⟨cls_C3, m2, x2, ⟨fi_C3_begin, y2.isf, y2.kp⟩, I2, y2.bi⟩
  have M_told : MethS l.prog w K mg base CX0 1 "told" ["self"] (Is5 (five C0 C1 C2 C3)) (fun _ => spTold (five C0 C1 C2 C3)) := by
    rintro c ⟨i, hi, rfl⟩
    match i, hi with
    | 0, _ => exact ⟨cls_C0, m3, x3, ⟨fi_C0_told, y3.isf, y3.kp⟩, I3, y3.bi⟩
    | 1, _ => exact ⟨cls_C1, m3, x3, ⟨fi_C1_told, y3.isf, y3.kp⟩, I3, y3.bi⟩
    | 2, _ => exact ⟨cls_C2, m3, x3, ⟨fi_C2_told, y3.isf, y3.kp⟩, I3, y3.bi⟩
    | 3, _ => exact ⟨cls_C3, m3, x3, ⟨fi_C3_told, y3.isf, y3.kp⟩, I3, y3.bi⟩
  have M_blocks : MethS l.prog w K mg base CX0 1 "blocks" ["self"] (Is5 (five C0 C1 C2 C3)) (fun _ => spBlk (five C0 C1 C2 C3)) := by
    rintro c ⟨i, hi, rfl⟩
    match i, hi with
    | 0, _ => exact ⟨cls_C0, m4, x4, ⟨fi_C0_blocks, y4.isf, y4.kp⟩, I4, y4.bi⟩
    | 1, _ => exact ⟨cls_C1, m4, x4, ⟨fi_C1_blocks, y4.isf, y4.kp⟩, I4, y4.bi⟩
    | 2, _ => exact ⟨cls_C2, m4, x4, ⟨fi_C2_blocks, y4.isf, y4.kp⟩, I4, y4.bi⟩
    | 3, _ => exact ⟨cls_C3, m4, x4, ⟨fi_C3_blocks, y4.isf, y4.kp⟩, I4, y4.bi⟩
  have Mm : Ms l.prog w K mg base (five C0 C1 C2 C3) := ⟨M_folk, M_begin, M_told, M_blocks⟩
  have I9 := ok_sa Z y9.fn Mm m_len
  have MA : MethS l.prog w K mg base CX0 2 "state_ahead" ["self", "number"] (fun c => c = (five C0 C1 C2 C3) 3) (fun _ => spSA (five C0 C1 C2 C3)) := by
    rintro c rfl
    exact ⟨cls_C3, m9, x9, ⟨fi_C3_state_ahead, y9.isf, y9.kp⟩, I9, y9.bi⟩
  have GMB_ := ok_mbk (P := l.prog) (w := w) (mg := mg) (base := base) (K := K) (C := five C0 C1 C2 C3) e8.fn mC_C0 mC_C1 mC_C2 m_isinstance
  have GMB := (e8.df GMB_)
  have GAB_ := ok_ab T e9.fn GMB GW n_MOST_RULES m_isinstance m_list m_len m_all
  have GAB := (e9.df GAB_)
  have GPO_ := ok_po e10.fn Mm m_tuple m_range
  have GPO := (e10.df GPO_)
  have I5 := ok_spi y5.fn CF_R_init I0 y0.bi mB_R GM GP n_MOST_FOLK
  have I6 := ok_pai Z y6.fn CF_R_init I0 y0.bi mB_R GM GP GC n_MOST_PAIRS
  have I7 := ok_coi Z y7.fn CF_R_init I0 y0.bi mB_R GM GP GC n_MOST_FOLK n_MOST_FAR
  have I8 := ok_bli Z y8.fn Mm MA B o5 o7 CF_R_init I0 y0.bi mB_R GAB GPO n_MOST_FOLK m_sum m_tuple
  have Lk : Mks l.prog w K mg base (five C0 C1 C2 C3) CE3 CE2 CE5 CE7 m5 m6 m7 m8 x5 x6 x7 x8 := ⟨mk_C0, mk_C1, mk_C2, mk_C3, I5, I6, I7, I8, y5.bi, y6.bi, y7.bi, y8.bi, mC_C0, mC_C1, mC_C2, mC_C3⟩
  have Tw : Two K mg nN nA := ⟨mg_of X G aN, mg_of X G aA, tup_two lN, tup_two lA⟩
  have mF := mg_of X G aF
  have Gc_ := ok_count (P := l.prog) (w := w) (mg := mg) (base := base) (K := K) e11.fn mF
  have Gc := (e11.df Gc_)
  have Gs_ := ok_shin e12.fn Tw T Gc GSh m_isinstance m_str
  have Gs := (e12.df Gs_)
  have Gt_ := ok_sht (P := l.prog) (w := w) (mg := mg) (base := base) e13.fn Tw
  have Gt := (e13.df Gt_)
  have W0_ := ok_w0 (P := l.prog) (w := w) (mg := mg) (base := base) (K := K) e14.fn
  have W0 := (e14.df W0_)
  have W1_ := ok_w1 e15.fn Gt
  have W1 := (e15.df W1_)
  have W2_ := ok_w2 e16.fn Gt
  have W2 := (e16.df W2_)
  have kwW : KW K w.params mg "WRITERS" wW (threeA g14 g15 g16) := ⟨mg_of X G aW, ⟨⟨_, _, lW, kW⟩, loW⟩, nW0, nW1, nW2⟩
  have FW : FnS l.prog w K mg base CX0 2 ["mark"] (threeA g14 g15 g16) (fun i => i < 3) spW := fun i hi => match i, hi with
    | 0, _ => ⟨e14.kp, _, W0_, e14.bi⟩
    | 1, _ => ⟨e15.kp, _, W1_, e15.bi⟩
    | 2, _ => ⟨e16.kp, _, W2_, e16.bi⟩
  have Gl_ := ok_lnO e17.fn kwW FW
  have Gl := (e17.df Gl_)
  have Gr_ := ok_rt e18.fn Mm Gl
  have Gr := (e18.df Gr_)
  have R0_ := ok_i0 e19.fn Lk Gc m_len
  have R0 := (e19.df R0_)
  have R1_ := ok_i1 e20.fn Lk Gc Gs m_len
  have R1 := (e20.df R1_)
  have R2_ := ok_i2 e21.fn Lk Gc Gs m_len
  have R2 := (e21.df R2_)
  have kwR : KW K w.params mg "READERS" wR (threeA g19 g20 g21) := ⟨mg_of X G aR, ⟨⟨_, _, lR, kR⟩, loR⟩, nR0, nR1, nR2⟩
  have FR : FnS l.prog w K mg base CX0 8 ["words"] (threeA g19 g20 g21) (fun i => i < 3) (spI (five C0 C1 C2 C3)) := fun i hi => match i, hi with
    | 0, _ => ⟨e19.kp, _, R0_, e19.bi⟩
    | 1, _ => ⟨e20.kp, _, R1_, e20.bi⟩
    | 2, _ => ⟨e21.kp, _, R2_, e21.bi⟩
  have Gu_ := ok_ru e22.fn kwR FR
  have Gu := (e22.df Gu_)
  have Gd_ := ok_rr e23.fn T Lk Mm Gu m_isinstance m_str m_enumerate m_len n_MOST_RULES n_MOST_FOLK
  have Gd := (e23.df Gd_)
  have Lr_ := ok_row (P := l.prog) (w := w) (mg := mg) (base := base) e24.fn m_range m_len
  have Lr := (e24.df Lr_)
  have Lm_ := ok_com (P := l.prog) (w := w) (mg := mg) (base := base) e25.fn
  have Lm := (e25.df Lm_)
  have Ll_ := ok_low e26.fn Lm_ e25.bi e25.kp e25.mg
  have Ll := (e26.df Ll_)
  have Lc_ := ok_cn e27.fn Ll m_int
  have Lc := (e27.df Lc_)
  have Lo_ := ok_on e28.fn Lc
  have Lo := (e28.df Lo_)
  have Ld0_ := ok_md0 e29.fn Lk
  have Ld0 := (e29.df Ld0_)
  have Ld_ := ok_md e29.fn Lk Ld0
  have Ld := (e29.df Ld_)
  have Li_ := ok_li (P := l.prog) (w := w) (mg := mg) (base := base) (K := K) e30.fn m_str m_int
  have Li := (e30.df Li_)
  have Ls_ := ok_sv e31.fn Lo m_max m_tuple m_range
  have Ls := (e31.df Ls_)
  have Lg_ := ok_ri Z e32.fn T Mm Li Gr Ld Gd mC_C3 m_len m_list m_isinstance m_range
  have Lg := (e32.df Lg_)
  exact ok_law e33.fn ⟨Lr, Lo, Ls, Lg⟩
theorem walk {l : OpenLaw} {q : Program} {loose : List Str} {XP : (Str → Option Value) → Heap → Prop} {YP : World → Heap → Prop} {d : DefRec} {K : Params → Frag} (hn : l.most = some 63) (hdf : d.params.defaults = [])
    (hY : ∀ (w : World) (h : Heap), YP w h → (K w.params).In h)
    (F : ∀ (w : World) (mg : Str → Option Value) (fa : Addr) (h : Heap), (K w.params).In h → h.Ns mainGlobals mg → mg d.name = some (.ref fa) →
      ∃ fd : FuncData, (∀ (s : Shared) (u : Value), BindsTo s fd ⟨[u], []⟩ [("_law_script", u)]) ∧ ∀ base : Heap, (K w.params).In base → base.Ns mainGlobals mg → FnOk l.prog w (K w.params) mg base CX0 12 fa fd ["_law_script"] (spLaw (K w.params))) :
    WalkO q loose XP YP l.row.toRowW d [] (fun f vs => PySem.call f vs) :=
  L2.walk_ofS (n := 63) (k := 12) (x := "_law_script") (CX := fun _ => CX0) (sp := fun w => spLaw (K w.params)) hn (by decide) hdf ⟨rfl, by decide, by decide, rfl⟩ hY F (fun _ _ a ns hl _ hS hz => ⟨a, ns, rfl, hS, hl, hz, fun _ => rfl⟩) fun _ _ _ _ _ z => z
end My
open PySem PySem.W PyProof.Rows
set_option Elab.async false
def PySem.W.Fast.tw7887148491176485788 : Unit := ()
def PySem.W.Fast.tw10744005669329638238 : Unit := ()
def PySem.W.Fast.tw1955559367382858679 : Unit := ()
def PySem.W.Fast.tw10978918712082372091 : Unit := ()
def PySem.W.Fast.tw12397095349715862022 : Unit := ()
def PySem.W.Fast.tw15046831751053183600 : Unit := ()
def PySem.W.Fast.tw7942686930711331163 : Unit := ()
def PySem.W.Fast.tw5341199572990341594 : Unit := ()
def PySem.W.Fast.tw685128819483832003 : Unit := ()
def PySem.W.Fast.tw2182791828542423883 : Unit := ()
def PySem.W.Fast.tw14836739563461922298 : Unit := ()
def PySem.W.Fast.tw9611028159173026382 : Unit := ()
def PySem.W.Fast.tw10109960453045205512 : Unit := ()
def PySem.W.Fast.tw16940378093900000964 : Unit := ()
set_option maxRecDepth 100000 in
set_option maxHeartbeats 0 in
theorem PySem.Challenge.cw_trialdeal_k12_rules_as_texts_holds : PySem.Challenge.rw_trialdeal_k12_rules_as_texts.Holds := by
  w_on; o_law; k_head; (case hw => w_witness2)
  k_fill
  refine My.walk (l := PySem.Challenge.rw_trialdeal_k12_rules_as_texts) rfl rfl (fun w h Y => PySem.W.kIn_of Y) ?F
  case F =>
    intro w mg fa h KX G hmg
    refine' My.all_mk KX G hmg (My.base_mk ?my_lD ?my_lN ?my_sk ?my_ni ?my_gaD ?my_rdD ?my_inD ?my_fiD ?my_kpD ?my_gbD ?my_hkD ?my_caD)
      (My.err_mk "NoShare" ?my_l2 ?my_i2 ?my_t2 ?my_k2 ?my_s2 ?my_g2 ?my_h2 ?my_c2)
      (My.err_mk "NoNumber" ?my_l3 ?my_i3 ?my_t3 ?my_k3 ?my_s3 ?my_g3 ?my_h3 ?my_c3)
      (My.err_mk "NoTrials" ?my_l5 ?my_i5 ?my_t5 ?my_k5 ?my_s5 ?my_g5 ?my_h5 ?my_c5)
      (My.err_mk "TooMany" ?my_l7 ?my_i7 ?my_t7 ?my_k7 ?my_s7 ?my_g7 ?my_h7 ?my_c7)
      ?my_f_aD ?my_f_a2 ?my_f_a3 ?my_f_a5 ?my_f_a7 ?my_f_lf2 ?my_f_cf2 ?my_f_kf2 ?my_f_tk2 ?my_f_nf2 ?my_f_lf3 ?my_f_cf3 ?my_f_kf3 ?my_f_tk3 ?my_f_nf3 ?my_f_lf5 ?my_f_cf5 ?my_f_kf5 ?my_f_tk5 ?my_f_nf5 ?my_f_lf7 ?my_f_cf7 ?my_f_kf7 ?my_f_tk7 ?my_f_nf7 ?my_f_ns_R ?my_f_sga_R ?my_f_srd_R ?my_f_sat_R_init ?my_f_ic_R ?my_f_ty_R ?my_f_ss_R ?my_f_nc_C0 ?my_f_pg_C0 ?my_f_hd_C0 ?my_f_po_C0 ?my_f_sa_C0 ?my_f_mks_C0 ?my_f_kp_C0 ?my_f_ca_C0 ?my_f_hm_C0 ?my_f_icl_C0 ?my_f_tyl_C0 ?my_f_no_C0_size ?my_f_no_C0_first_state ?my_f_no_C0_mark ?my_f_no_C0_parts ?my_f_no_C0_coin ?my_f_no_C0_far ?my_f_no_C0_rules ?my_f_no_C0_dealer ?my_f_fi_C0_init ?my_f_fi_C0_folk ?my_f_fi_C0_begin ?my_f_fi_C0_told ?my_f_fi_C0_blocks ?my_f_mr_C0_C0 ?my_f_mr_C0_C1 ?my_f_mr_C0_C2 ?my_f_mr_C0_C3 ?my_f_mr_C0_R ?my_f_mr_C0_tuple ?my_f_mr_C0_list ?my_f_mr_C0_int ?my_f_mr_C0_bool ?my_f_nc_C1 ?my_f_pg_C1 ?my_f_hd_C1 ?my_f_po_C1 ?my_f_sa_C1 ?my_f_mks_C1 ?my_f_kp_C1 ?my_f_ca_C1 ?my_f_hm_C1 ?my_f_icl_C1 ?my_f_tyl_C1 ?my_f_no_C1_size ?my_f_no_C1_first_state ?my_f_no_C1_mark ?my_f_no_C1_parts ?my_f_no_C1_coin ?my_f_no_C1_far ?my_f_no_C1_rules ?my_f_no_C1_dealer ?my_f_fi_C1_init ?my_f_fi_C1_folk ?my_f_fi_C1_begin ?my_f_fi_C1_told ?my_f_fi_C1_blocks ?my_f_mr_C1_C0 ?my_f_mr_C1_C1 ?my_f_mr_C1_C2 ?my_f_mr_C1_C3 ?my_f_mr_C1_R ?my_f_mr_C1_tuple ?my_f_mr_C1_list ?my_f_mr_C1_int ?my_f_mr_C1_bool ?my_f_nc_C2 ?my_f_pg_C2 ?my_f_hd_C2 ?my_f_po_C2 ?my_f_sa_C2 ?my_f_mks_C2 ?my_f_kp_C2 ?my_f_ca_C2 ?my_f_hm_C2 ?my_f_icl_C2 ?my_f_tyl_C2 ?my_f_no_C2_size ?my_f_no_C2_first_state ?my_f_no_C2_mark ?my_f_no_C2_parts ?my_f_no_C2_coin ?my_f_no_C2_far ?my_f_no_C2_rules ?my_f_no_C2_dealer ?my_f_fi_C2_init ?my_f_fi_C2_folk ?my_f_fi_C2_begin ?my_f_fi_C2_told ?my_f_fi_C2_blocks ?my_f_mr_C2_C0 ?my_f_mr_C2_C1 ?my_f_mr_C2_C2 ?my_f_mr_C2_C3 ?my_f_mr_C2_R ?my_f_mr_C2_tuple ?my_f_mr_C2_list ?my_f_mr_C2_int ?my_f_mr_C2_bool ?my_f_nc_C3 ?my_f_pg_C3 ?my_f_hd_C3 ?my_f_po_C3 ?my_f_sa_C3 ?my_f_mks_C3 ?my_f_kp_C3 ?my_f_ca_C3 ?my_f_hm_C3 ?my_f_icl_C3 ?my_f_tyl_C3 ?my_f_no_C3_size ?my_f_no_C3_first_state ?my_f_no_C3_mark ?my_f_no_C3_parts ?my_f_no_C3_coin ?my_f_no_C3_far ?my_f_no_C3_rules ?my_f_no_C3_dealer ?my_f_fi_C3_init ?my_f_fi_C3_folk ?my_f_fi_C3_begin ?my_f_fi_C3_told ?my_f_fi_C3_blocks ?my_f_fi_C3_state_ahead ?my_f_mr_C3_C0 ?my_f_mr_C3_C1 ?my_f_mr_C3_C2 ?my_f_mr_C3_C3 ?my_f_mr_C3_R ?my_f_mr_C3_tuple ?my_f_mr_C3_list ?my_f_mr_C3_int ?my_f_mr_C3_bool ?my_f_i_MOST_FOLK ?my_f_i_MOST_PAIRS ?my_f_i_MOST_FAR ?my_f_i_MOST_RULES ?my_f_i_MOST_BOTTOM ?my_f_gt ?my_f_tkT ?my_f_aF ?my_f_aN ?my_f_aA ?my_f_lN ?my_f_lA ?my_f_aW ?my_f_lW ?my_f_nW0 ?my_f_nW1 ?my_f_nW2 ?my_f_aR ?my_f_lR ?my_f_nR0 ?my_f_nR1 ?my_f_nR2 ?my_f_kW ?my_f_kR ?my_f_loW ?my_f_loR ?my_f_z_isinstance ?my_f_z_int ?my_f_z_bool ?my_f_z_len ?my_f_z_range ?my_f_z_tuple ?my_f_z_list ?my_f_z_sum ?my_f_z_all ?my_f_z_max ?my_f_z_str ?my_f_z_enumerate
      (My.dn_0 KX G ?my_A0 ?my_L0 ?my_C0 ?my_K0)
      (My.dn_1 KX G ?my_A1 ?my_L1 ?my_C1 ?my_K1)
      (My.dn_2 KX G ?my_A2 ?my_L2 ?my_C2 ?my_K2)
      (My.dn_3 KX G ?my_A3 ?my_L3 ?my_C3 ?my_K3)
      (My.dn_4 KX G ?my_A4 ?my_L4 ?my_C4 ?my_K4)
      (My.dn_5 KX G ?my_A5 ?my_L5 ?my_C5 ?my_K5)
      (My.dn_6 KX G ?my_A6 ?my_L6 ?my_C6 ?my_K6)
      (My.dn_7 KX G ?my_A7 ?my_L7 ?my_C7 ?my_K7)
      (My.dn_8 KX G ?my_A8 ?my_L8 ?my_C8 ?my_K8)
      (My.dn_9 KX G ?my_A9 ?my_L9 ?my_C9 ?my_K9)
      (My.dn_10 KX G ?my_A10 ?my_L10 ?my_C10 ?my_K10)
      (My.dn_11 KX G ?my_A11 ?my_L11 ?my_C11 ?my_K11)
      (My.dn_12 KX G ?my_A12 ?my_L12 ?my_C12 ?my_K12)
      (My.dn_13 KX G ?my_A13 ?my_L13 ?my_C13 ?my_K13)
      (My.dn_14 KX G ?my_A14 ?my_L14 ?my_C14 ?my_K14)
      (My.dn_15 KX G ?my_A15 ?my_L15 ?my_C15 ?my_K15)
      (My.dn_16 KX G ?my_A16 ?my_L16 ?my_C16 ?my_K16)
      (My.dn_17 KX G ?my_A17 ?my_L17 ?my_C17 ?my_K17)
      (My.dn_18 KX G ?my_A18 ?my_L18 ?my_C18 ?my_K18)
      (My.dn_19 KX G ?my_A19 ?my_L19 ?my_C19 ?my_K19)
      (My.dn_20 KX G ?my_A20 ?my_L20 ?my_C20 ?my_K20)
      (My.dn_21 KX G ?my_A21 ?my_L21 ?my_C21 ?my_K21)
      (My.dn_22 KX G ?my_A22 ?my_L22 ?my_C22 ?my_K22)
      (My.dn_23 KX G ?my_A23 ?my_L23 ?my_C23 ?my_K23)
      (My.dn_24 KX G ?my_A24 ?my_L24 ?my_C24 ?my_K24)
      (My.dn_25 KX G ?my_A25 ?my_L25 ?my_C25 ?my_K25)
      (My.dn_26 KX G ?my_A26 ?my_L26 ?my_C26 ?my_K26)
      (My.dn_27 KX G ?my_A27 ?my_L27 ?my_C27 ?my_K27)
      (My.dn_28 KX G ?my_A28 ?my_L28 ?my_C28 ?my_K28)
      (My.dn_29 KX G ?my_A29 ?my_L29 ?my_C29 ?my_K29)
      (My.dn_30 KX G ?my_A30 ?my_L30 ?my_C30 ?my_K30)
      (My.dn_31 KX G ?my_A31 ?my_L31 ?my_C31 ?my_K31)
      (My.dn_32 KX G ?my_A32 ?my_L32 ?my_C32 ?my_K32)
      (My.dn_33 KX G ?my_A33 ?my_L33 ?my_C33 ?my_K33)
      (My.dm_0 ?my_ML0 ?my_MC0 ?my_MK0 ?my_MF0)
      (My.dm_1 ?my_ML1 ?my_MC1 ?my_MK1 ?my_MF1)
      (My.dm_2 ?my_ML2 ?my_MC2 ?my_MK2 ?my_MF2)
      (My.dm_3 ?my_ML3 ?my_MC3 ?my_MK3 ?my_MF3)
      (My.dm_4 ?my_ML4 ?my_MC4 ?my_MK4 ?my_MF4)
      (My.dm_5 ?my_ML5 ?my_MC5 ?my_MK5 ?my_MF5)
      (My.dm_6 ?my_ML6 ?my_MC6 ?my_MK6 ?my_MF6)
      (My.dm_7 ?my_ML7 ?my_MC7 ?my_MK7 ?my_MF7)
      (My.dm_8 ?my_ML8 ?my_MC8 ?my_MK8 ?my_MF8)
      (My.dm_9 ?my_ML9 ?my_MC9 ?my_MK9 ?my_MF9)
      (fun s v => .of_eq rfl)
    (case my_f_aD => k_is); (case my_f_a2 => k_is); (case my_f_a3 => k_is); (case my_f_a5 => k_is); (case my_f_a7 => k_is); (case my_lD => k_is); (case my_lN => k_is)
    (case my_sk => exact My.strKeys_of rfl)
    (case my_ni => first | rfl | decide +kernel)
    (case my_gaD => k_is); (case my_rdD => k_is); (case my_inD => k_is); (case my_fiD => k_is); (case my_kpD => k_is); (case my_gbD => k_is); (case my_hkD => k_is); (case my_caD => k_is)
    (case my_l2 => k_is); (case my_i2 => k_is); (case my_t2 => k_is); (case my_k2 => k_is); (case my_s2 => k_is); (case my_g2 => k_is); (case my_h2 => k_is); (case my_c2 => k_is)
    (case my_l3 => k_is); (case my_i3 => k_is); (case my_t3 => k_is); (case my_k3 => k_is); (case my_s3 => k_is); (case my_g3 => k_is); (case my_h3 => k_is); (case my_c3 => k_is)
    (case my_l5 => k_is); (case my_i5 => k_is); (case my_t5 => k_is); (case my_k5 => k_is); (case my_s5 => k_is); (case my_g5 => k_is); (case my_h5 => k_is); (case my_c5 => k_is)
    (case my_l7 => k_is); (case my_i7 => k_is); (case my_t7 => k_is); (case my_k7 => k_is); (case my_s7 => k_is); (case my_g7 => k_is); (case my_h7 => k_is); (case my_c7 => k_is)
    (case my_f_ns_R => k_is); (case my_f_nc_C0 => k_is); (case my_f_nc_C1 => k_is); (case my_f_nc_C2 => k_is); (case my_f_nc_C3 => k_is)
    (case my_f_sat_R_init => k_is); (case my_f_fi_C0_init => k_is); (case my_f_fi_C0_folk => k_is); (case my_f_fi_C0_begin => k_is); (case my_f_fi_C0_told => k_is); (case my_f_fi_C0_blocks => k_is); (case my_f_fi_C1_init => k_is); (case my_f_fi_C1_folk => k_is); (case my_f_fi_C1_begin => k_is); (case my_f_fi_C1_told => k_is); (case my_f_fi_C1_blocks => k_is); (case my_f_fi_C2_init => k_is); (case my_f_fi_C2_folk => k_is); (case my_f_fi_C2_begin => k_is); (case my_f_fi_C2_told => k_is); (case my_f_fi_C2_blocks => k_is); (case my_f_fi_C3_init => k_is); (case my_f_fi_C3_folk => k_is); (case my_f_fi_C3_begin => k_is); (case my_f_fi_C3_told => k_is); (case my_f_fi_C3_blocks => k_is); (case my_f_fi_C3_state_ahead => k_is)
    (case my_f_lf2 => k_is); (case my_f_cf2 => k_is); (case my_f_kf2 => k_is); (case my_f_tk2 => k_is); (case my_f_nf2 => k_is); (case my_f_lf3 => k_is); (case my_f_cf3 => k_is); (case my_f_kf3 => k_is)
    (case my_f_tk3 => k_is); (case my_f_nf3 => k_is); (case my_f_lf5 => k_is); (case my_f_cf5 => k_is); (case my_f_kf5 => k_is); (case my_f_tk5 => k_is); (case my_f_nf5 => k_is); (case my_f_lf7 => k_is)
    (case my_f_cf7 => k_is); (case my_f_kf7 => k_is); (case my_f_tk7 => k_is); (case my_f_nf7 => k_is); (case my_f_sga_R => k_is); (case my_f_srd_R => k_is); (case my_f_ic_R => k_is); (case my_f_ty_R => k_is)
    (case my_f_ss_R => k_is); (case my_f_pg_C0 => k_is); (case my_f_hd_C0 => k_is); (case my_f_po_C0 => k_is); (case my_f_sa_C0 => k_is); (case my_f_mks_C0 => k_is); (case my_f_kp_C0 => k_is); (case my_f_ca_C0 => k_is)
    (case my_f_hm_C0 => k_is); (case my_f_icl_C0 => k_is); (case my_f_tyl_C0 => k_is); (case my_f_no_C0_size => k_is); (case my_f_no_C0_first_state => k_is); (case my_f_no_C0_mark => k_is); (case my_f_no_C0_parts => k_is); (case my_f_no_C0_coin => k_is)
    (case my_f_no_C0_far => k_is); (case my_f_no_C0_rules => k_is); (case my_f_no_C0_dealer => k_is); (case my_f_mr_C0_C0 => k_is); (case my_f_mr_C0_C1 => k_is); (case my_f_mr_C0_C2 => k_is); (case my_f_mr_C0_C3 => k_is); (case my_f_mr_C0_R => k_is)
    (case my_f_mr_C0_tuple => k_is); (case my_f_mr_C0_list => k_is); (case my_f_mr_C0_int => k_is); (case my_f_mr_C0_bool => k_is); (case my_f_pg_C1 => k_is); (case my_f_hd_C1 => k_is); (case my_f_po_C1 => k_is); (case my_f_sa_C1 => k_is)
    (case my_f_mks_C1 => k_is); (case my_f_kp_C1 => k_is); (case my_f_ca_C1 => k_is); (case my_f_hm_C1 => k_is); (case my_f_icl_C1 => k_is); (case my_f_tyl_C1 => k_is); (case my_f_no_C1_size => k_is); (case my_f_no_C1_first_state => k_is)
    (case my_f_no_C1_mark => k_is); (case my_f_no_C1_parts => k_is); (case my_f_no_C1_coin => k_is); (case my_f_no_C1_far => k_is); (case my_f_no_C1_rules => k_is); (case my_f_no_C1_dealer => k_is); (case my_f_mr_C1_C0 => k_is); (case my_f_mr_C1_C1 => k_is)
    (case my_f_mr_C1_C2 => k_is); (case my_f_mr_C1_C3 => k_is); (case my_f_mr_C1_R => k_is); (case my_f_mr_C1_tuple => k_is); (case my_f_mr_C1_list => k_is); (case my_f_mr_C1_int => k_is); (case my_f_mr_C1_bool => k_is); (case my_f_pg_C2 => k_is)
    (case my_f_hd_C2 => k_is); (case my_f_po_C2 => k_is); (case my_f_sa_C2 => k_is); (case my_f_mks_C2 => k_is); (case my_f_kp_C2 => k_is); (case my_f_ca_C2 => k_is); (case my_f_hm_C2 => k_is); (case my_f_icl_C2 => k_is)
    (case my_f_tyl_C2 => k_is); (case my_f_no_C2_size => k_is); (case my_f_no_C2_first_state => k_is); (case my_f_no_C2_mark => k_is); (case my_f_no_C2_parts => k_is); (case my_f_no_C2_coin => k_is); (case my_f_no_C2_far => k_is); (case my_f_no_C2_rules => k_is)
    (case my_f_no_C2_dealer => k_is); (case my_f_mr_C2_C0 => k_is); (case my_f_mr_C2_C1 => k_is); (case my_f_mr_C2_C2 => k_is); (case my_f_mr_C2_C3 => k_is); (case my_f_mr_C2_R => k_is); (case my_f_mr_C2_tuple => k_is); (case my_f_mr_C2_list => k_is)
    (case my_f_mr_C2_int => k_is); (case my_f_mr_C2_bool => k_is); (case my_f_pg_C3 => k_is); (case my_f_hd_C3 => k_is); (case my_f_po_C3 => k_is); (case my_f_sa_C3 => k_is); (case my_f_mks_C3 => k_is); (case my_f_kp_C3 => k_is)
    (case my_f_ca_C3 => k_is); (case my_f_hm_C3 => k_is); (case my_f_icl_C3 => k_is); (case my_f_tyl_C3 => k_is); (case my_f_no_C3_size => k_is); (case my_f_no_C3_first_state => k_is); (case my_f_no_C3_mark => k_is); (case my_f_no_C3_parts => k_is)
    (case my_f_no_C3_coin => k_is); (case my_f_no_C3_far => k_is); (case my_f_no_C3_rules => k_is); (case my_f_no_C3_dealer => k_is); (case my_f_mr_C3_C0 => k_is); (case my_f_mr_C3_C1 => k_is); (case my_f_mr_C3_C2 => k_is); (case my_f_mr_C3_C3 => k_is)
    (case my_f_mr_C3_R => k_is); (case my_f_mr_C3_tuple => k_is); (case my_f_mr_C3_list => k_is); (case my_f_mr_C3_int => k_is); (case my_f_mr_C3_bool => k_is); (case my_f_i_MOST_FOLK => k_is); (case my_f_i_MOST_PAIRS => k_is); (case my_f_i_MOST_FAR => k_is)
    (case my_f_i_MOST_RULES => k_is); (case my_f_i_MOST_BOTTOM => k_is); (case my_f_gt => k_is); (case my_f_tkT => k_is); (case my_f_aF => k_is); (case my_f_aN => k_is); (case my_f_aA => k_is); (case my_f_lN => k_is)
    (case my_f_lA => k_is); (case my_f_aW => k_is); (case my_f_lW => k_is); (case my_f_nW0 => k_is); (case my_f_nW1 => k_is); (case my_f_nW2 => k_is); (case my_f_aR => k_is); (case my_f_lR => k_is)
    (case my_f_nR0 => k_is); (case my_f_nR1 => k_is); (case my_f_nR2 => k_is); (case my_f_kW => k_keys); (case my_f_kR => k_keys); (case my_f_loW => decide); (case my_f_loR => decide); (case my_f_z_isinstance => k_is)
    (case my_f_z_int => k_is); (case my_f_z_bool => k_is); (case my_f_z_len => k_is); (case my_f_z_range => k_is); (case my_f_z_tuple => k_is); (case my_f_z_list => k_is); (case my_f_z_sum => k_is); (case my_f_z_all => k_is)
    (case my_f_z_max => k_is); (case my_f_z_str => k_is); (case my_f_z_enumerate => k_is)
    (case my_A0 => k_is); (case my_L0 => k_is); (case my_C0 => k_is); (case my_K0 => k_is)
    (case my_A1 => k_is); (case my_L1 => k_is); (case my_C1 => k_is); (case my_K1 => k_is)
    (case my_A2 => k_is); (case my_L2 => k_is); (case my_C2 => k_is); (case my_K2 => k_is)
    (case my_A3 => k_is); (case my_L3 => k_is); (case my_C3 => k_is); (case my_K3 => k_is)
    (case my_A4 => k_is); (case my_L4 => k_is); (case my_C4 => k_is); (case my_K4 => k_is)
    (case my_A5 => k_is); (case my_L5 => k_is); (case my_C5 => k_is); (case my_K5 => k_is)
    (case my_A6 => k_is); (case my_L6 => k_is); (case my_C6 => k_is); (case my_K6 => k_is)
    (case my_A7 => k_is); (case my_L7 => k_is); (case my_C7 => k_is); (case my_K7 => k_is)
    (case my_A8 => k_is); (case my_L8 => k_is); (case my_C8 => k_is); (case my_K8 => k_is)
    (case my_A9 => k_is); (case my_L9 => k_is); (case my_C9 => k_is); (case my_K9 => k_is)
    (case my_A10 => k_is); (case my_L10 => k_is); (case my_C10 => k_is); (case my_K10 => k_is)
    (case my_A11 => k_is); (case my_L11 => k_is); (case my_C11 => k_is); (case my_K11 => k_is)
    (case my_A12 => k_is); (case my_L12 => k_is); (case my_C12 => k_is); (case my_K12 => k_is)
    (case my_A13 => k_is); (case my_L13 => k_is); (case my_C13 => k_is); (case my_K13 => k_is)
    (case my_A14 => k_is); (case my_L14 => k_is); (case my_C14 => k_is); (case my_K14 => k_is)
    (case my_A15 => k_is); (case my_L15 => k_is); (case my_C15 => k_is); (case my_K15 => k_is)
    (case my_A16 => k_is); (case my_L16 => k_is); (case my_C16 => k_is); (case my_K16 => k_is)
    (case my_A17 => k_is); (case my_L17 => k_is); (case my_C17 => k_is); (case my_K17 => k_is)
    (case my_A18 => k_is); (case my_L18 => k_is); (case my_C18 => k_is); (case my_K18 => k_is)
    (case my_A19 => k_is); (case my_L19 => k_is); (case my_C19 => k_is); (case my_K19 => k_is)
    (case my_A20 => k_is); (case my_L20 => k_is); (case my_C20 => k_is); (case my_K20 => k_is)
    (case my_A21 => k_is); (case my_L21 => k_is); (case my_C21 => k_is); (case my_K21 => k_is)
    (case my_A22 => k_is); (case my_L22 => k_is); (case my_C22 => k_is); (case my_K22 => k_is)
    (case my_A23 => k_is); (case my_L23 => k_is); (case my_C23 => k_is); (case my_K23 => k_is)
    (case my_A24 => k_is); (case my_L24 => k_is); (case my_C24 => k_is); (case my_K24 => k_is)
    (case my_A25 => k_is); (case my_L25 => k_is); (case my_C25 => k_is); (case my_K25 => k_is)
    (case my_A26 => k_is); (case my_L26 => k_is); (case my_C26 => k_is); (case my_K26 => k_is)
    (case my_A27 => k_is); (case my_L27 => k_is); (case my_C27 => k_is); (case my_K27 => k_is)
    (case my_A28 => k_is); (case my_L28 => k_is); (case my_C28 => k_is); (case my_K28 => k_is)
    (case my_A29 => k_is); (case my_L29 => k_is); (case my_C29 => k_is); (case my_K29 => k_is)
    (case my_A30 => k_is); (case my_L30 => k_is); (case my_C30 => k_is); (case my_K30 => k_is)
    (case my_A31 => k_is); (case my_L31 => k_is); (case my_C31 => k_is); (case my_K31 => k_is)
    (case my_A32 => k_is); (case my_L32 => k_is); (case my_C32 => k_is); (case my_K32 => k_is)
    (case my_A33 => k_is); (case my_L33 => k_is); (case my_C33 => k_is); (case my_K33 => k_is)
    (case my_ML0 => k_is); (case my_MC0 => k_is); (case my_MK0 => k_is); (case my_MF0 => k_is)
    (case my_ML1 => k_is); (case my_MC1 => k_is); (case my_MK1 => k_is); (case my_MF1 => k_is)
    (case my_ML2 => k_is); (case my_MC2 => k_is); (case my_MK2 => k_is); (case my_MF2 => k_is)
    (case my_ML3 => k_is); (case my_MC3 => k_is); (case my_MK3 => k_is); (case my_MF3 => k_is)
    (case my_ML4 => k_is); (case my_MC4 => k_is); (case my_MK4 => k_is); (case my_MF4 => k_is)
    (case my_ML5 => k_is); (case my_MC5 => k_is); (case my_MK5 => k_is); (case my_MF5 => k_is)
    (case my_ML6 => k_is); (case my_MC6 => k_is); (case my_MK6 => k_is); (case my_MF6 => k_is)
    (case my_ML7 => k_is); (case my_MC7 => k_is); (case my_MK7 => k_is); (case my_MF7 => k_is)
    (case my_ML8 => k_is); (case my_MC8 => k_is); (case my_MK8 => k_is); (case my_MF8 => k_is)
    (case my_ML9 => k_is); (case my_MC9 => k_is); (case my_MK9 => k_is); (case my_MF9 => k_is)
