import PyProof.Rows.All
import Wide.All
import OpenK.AllK
import Wide.FinOn
import Lean
import PyProof.EqAt
import PyProof.EqKinds
import PyProof.TupleCall
import PyProof.CompFree
import PyProof.ExcClass2
import PyProof.InstStoreFacts
import PyProof.ExcArgs
import PyProof.ExcInit
import PyProof.ExcBaseAll.ValueError
import KE.KIsAll
import KE.KIntText
import PyProof.StrBlockG
import PyProof.StrBlockH
import PyProof.StrWalks
import PyProof.Rows.StrNews2
import PyProof.Rows.StrOr
import PyProof.Rows.Digits
import PyProof.StrBlockL
import PyProof.MeetsStr2
import PyProof.CompMap
import PyProof.NeKinds
import KE.IntTextLaws
import PyProof.Rows.StrPartPair
import PyProof.StrLawsTight
import PyProof.StrLawsChain
import PyProof.Rows.StrIntSpec
import PyProof.Rows.StrItems
import PyProof.RulesRaise
import PyProof.RulesAs
import PyProof.RaisesMany
import PyProof.EnumFor
import PyProof.EnumStmt
import PyProof.EnumMake
import PyProof.Rows.EnumRows
import PyProof.ConsumeWalk
import PyProof.Rows.SeqGen
import PyProof.CompUse
import KE.KUnpack
import PyProof.ReprRoads
import PyProof.ReprBulk
import PyProof.FitsInt
import PyProof.CallFns
import PyProof.Rows.FactsT3
import KE.BitLaws
import PySem.Challenge.RW_trialdeal_k53_rows_and_listings
set_option Elab.async false
set_option linter.all false
set_option maxRecDepth 100000
namespace L2
open PySem PySem.Spec PyProof.Rows
abbrev Key := Sum Int Str
def keyIs : Key → Value → Bool
  | .inl k, v => Value.isInt k v
  | .inr x, v => Value.isStrOf x v
def keyH (w : World) : Key → Int
  | .inl k => hashInt k
  | .inr x => hashStr w x
theorem keyIs_shape : ∀ {k : Key} {v : Value}, keyIs k v = true → (∃ i t, k = Sum.inl i ∧ v = Value.int i t) ∨ (∃ x t, k = Sum.inr x ∧ v = Value.str x t)
  | .inl i, v, h => by
    obtain ⟨t, e⟩ := Value.isInt_shape (k := i) (v := v) h
    exact .inl ⟨i, t, rfl, e⟩
  | .inr x, v, h => by
    obtain ⟨t, e⟩ := Value.isStrOf_shape (x := x) (v := v) h
    exact .inr ⟨x, t, rfl, e⟩
theorem key_ll (a b : Int) : decide ((Sum.inl a : Key) = Sum.inl b) = (a == b) := by
  by_cases e : a = b
  · subst e; simp
  · have h : ¬ (Sum.inl a : Key) = Sum.inl b := fun q => e (Sum.inl.inj q)
    rw [decide_eq_false h]
    exact (beq_eq_false_iff_ne.mpr e).symm
theorem key_rr (a b : Str) : decide ((Sum.inr a : Key) = Sum.inr b) = decide (a = b) := by
  by_cases e : a = b
  · subst e; simp
  · have h : ¬ (Sum.inr a : Key) = Sum.inr b := fun q => e (Sum.inr.inj q)
    rw [decide_eq_false h, decide_eq_false e]
theorem key_lr (a : Int) (b : Str) : decide ((Sum.inl a : Key) = Sum.inr b) = false := decide_eq_false (fun q => nomatch q)
theorem key_rl (a : Str) (b : Int) : decide ((Sum.inr a : Key) = Sum.inl b) = false := decide_eq_false (fun q => nomatch q)
def mixKind (prog : Program) (w : World) : PySem.KeyKind prog w Key where
  is := keyIs
  hash := keyH w
  inj := fun v a b ha hb => by
    rcases keyIs_shape ha with ⟨i, t, rfl, rfl⟩ | ⟨x, t, rfl, rfl⟩
    · rcases keyIs_shape hb with ⟨j, u, rfl, e⟩ | ⟨y, u, rfl, e⟩
      · injection e with e1 _; rw [e1]
      · exact nomatch e
    · rcases keyIs_shape hb with ⟨j, u, rfl, e⟩ | ⟨y, u, rfl, e⟩
      · exact nomatch e
      · injection e with e1 _; rw [e1]
  byValue := fun k v h => by
    rcases keyIs_shape h with ⟨i, t, rfl, rfl⟩ | ⟨x, t, rfl, rfl⟩ <;> rfl
  pyHash := fun hv h => by
    rcases keyIs_shape hv with ⟨i, t, rfl, rfl⟩ | ⟨x, t, rfl, rfl⟩
    · exact wpAny_pyHash_int h
    · exact wpAny_pyHash_str h
  eqBool := fun hu hv h => by
    rcases keyIs_shape hu with ⟨i, t, rfl, rfl⟩ | ⟨x, t, rfl, rfl⟩
    · rcases keyIs_shape hv with ⟨j, u, rfl, rfl⟩ | ⟨y, u, rfl, rfl⟩
      · rw [key_ll] at h; exact wpAny_eqBool_int h
      · rw [key_lr] at h; exact SeqAt.EqAt.int_str i t y u _ _ _ _ h
    · rcases keyIs_shape hv with ⟨j, u, rfl, rfl⟩ | ⟨y, u, rfl, rfl⟩
      · rw [key_rl] at h; exact SeqAt.EqAt.str_int x t j u _ _ _ _ h
      · rw [key_rr] at h; exact wpAny_eqBool_str h
  «strs» := fun k x t v h => by
    rcases keyIs_shape h with ⟨i, u, rfl, e⟩ | ⟨y, u, rfl, e⟩
    · exact nomatch e
    · injection e with e1 _
      subst e1
      cases v <;> rfl
theorem mixKind_is (prog : Program) (w : World) (k : Key) (v : Value) : (mixKind prog w).is k v = keyIs k v := rfl
end L2
namespace L2
open PySem PySem.Spec PyProof.Rows
inductive V where
  | non | bl (b : Bool) | int (i : Int) | str (x : Str) | byt (b : Array UInt8) | flt (b : UInt64) | ref (a : Addr) | ty (n : String)
  deriving DecidableEq
def RelV : V → Value → Prop
  | .non, u => u = Value.none
  | .bl b, u => u = Value.bool b
  | .int i, u => ∃ t, u = Value.int i t
  | .str x, u => ∃ t, u = Value.str x t
  | .byt b, u => ∃ t, u = Value.bytes b t
  | .flt b, u => ∃ t, u = Value.float b t
  | .ref a, u => u = Value.ref a
  | .ty n, u => u = Value.type n
abbrev Vals : List V → List Value → Prop := Paired RelV
theorem Vals.length {xs : List V} {us : List Value} (r : Vals xs us) : xs.length = us.length := Paired.length r
theorem Vals.get : ∀ {xs : List V} {us : List Value} {i : Nat} {x : V}, Vals xs us → xs[i]? = some x → ∃ u, us[i]? = some u ∧ RelV x u
  | _, _, _, _, .nil, e => by simp at e
  | _, _, 0, _, .cons r _, e => by simp at e; subst e; exact ⟨_, rfl, r⟩
  | _, _, i + 1, x, .cons _ t, e => by
    obtain ⟨u, h1, h2⟩ := Vals.get (i := i) (x := x) t (by simpa using e)
    exact ⟨u, by simpa using h1, h2⟩
theorem Vals.set {x : V} {u : Value} (r : RelV x u) : ∀ {xs : List V} {us : List Value} (i : Nat), Vals xs us → Vals (xs.set i x) (us.set i u)
  | _, _, _, .nil => .nil
  | _, _, 0, .cons _ t => .cons r t
  | _, _, i + 1, .cons q t => .cons q (Vals.set r i t)
theorem Vals.append : ∀ {xs ys : List V} {us ws : List Value}, Vals xs us → Vals ys ws → Vals (xs ++ ys) (us ++ ws)
  | _, _, _, _, .nil, s => s
  | _, _, _, _, .cons r t, s => .cons r (Vals.append t s)
theorem Vals.take : ∀ {xs : List V} {us : List Value} (n : Nat), Vals xs us → Vals (xs.take n) (us.take n)
  | _, _, 0, _ => .nil
  | _, _, _ + 1, .nil => .nil
  | _, _, n + 1, .cons r t => .cons r (Vals.take n t)
theorem Vals.drop : ∀ {xs : List V} {us : List Value} (n : Nat), Vals xs us → Vals (xs.drop n) (us.drop n)
  | _, _, 0, r => r
  | _, _, _ + 1, .nil => .nil
  | _, _, n + 1, .cons _ t => Vals.drop n t
def RelO : Option V → Option Value → Prop
  | some v, some u => RelV v u
  | none, none => True
  | _, _ => False
def KV {κ : Type} : List (κ × V) → List (κ × Value) → Prop := Paired fun (p : κ × V) (q : κ × Value) => p.1 = q.1 ∧ RelV p.2 q.2
def kV : Key → V
  | .inl i => .int i
  | .inr x => .str x
inductive HO where
  | lst (xs : List V)
  | tup (xs : List V)
  | dK (kvs : List (Key × V)) | dT (kvs : List (List Key × V))
  | set (S : Int → Bool) (n : Nat)
  | ins (C dx : Addr) (fs : List (Str × V))
  | own (x : Addr)
  | xd (fs : List (Str × V))
  | met (f x : Addr)
  | rng (lo hi : Int)
  | frz (o : Obj) (u : HO)
  | tbl (ps : Array Value)
  | ext (φ : Heap → Prop)
abbrev Hp := Addr → Option HO
def upd (H : Hp) (a : Addr) (o : HO) : Hp := fun b => if b = a then some o else H b
theorem upd_same {H : Hp} {a : Addr} {o : HO} : upd H a o a = some o := by unfold upd; rw [if_pos rfl]
theorem upd_ne {H : Hp} {a b : Addr} {o : HO} (h : b ≠ a) : upd H a o b = H b := by unfold upd; rw [if_neg h]
theorem upd_upd {H : Hp} {a : Addr} {o u : HO} : upd (upd H a o) a u = upd H a u := by
  funext b; unfold upd; split <;> rfl
theorem ne_of_none {H : Hp} {a b : Addr} {o : HO} (h : H a = some o) (h' : H b = none) : a ≠ b := by
  intro e; subst e; rw [h] at h'; cases h'
section
variable (P : Program) (w : World)
def ObjOk (H : Hp) (h : Heap) (a : Addr) : HO → Prop
  | .lst xs => xs.length ≤ sizeLine ∧ ∃ (its : List Value) (n : Nat), Vals xs its ∧ h.get? a = some { cls := .type "list", data := .seq its.toArray n }
  | .tup xs => xs.length ≤ sizeLine ∧ ∃ its : List Value, Vals xs its ∧ IsTup h a its.toArray
  | .dK kvs => kvs.length ≤ sizeLine ∧ (a == sysModules) = false ∧ ∃ vs, KV kvs vs ∧ h.DictOf (mixKind P w) a vs
  | .dT kvs => kvs.length ≤ sizeLine ∧ (a == sysModules) = false ∧ ∃ xs : List (List Key × Addr × Value),
      Paired (fun (p : List Key × V) (q : List Key × Addr × Value) => p.1 = q.1 ∧ H q.2.1 = some (.tup (p.1.map kV)) ∧ RelV p.2 q.2.2) kvs xs ∧
      ∃ o es ep, h.get? a = some o ∧ o.ExactDict ∧ o.data = .dict es ep ∧ es.toList = xs.map (entryOfKey (tupleKind (mixKind P w))) ∧ (xs.map (·.1)).Nodup
  | .set S n => h.SetOf (intKind P w) a S n
  | .ins C dx fs => H dx = some (.own a) ∧ fs.length ≤ 1000 ∧ dx ≠ a ∧ h.get? a = some (PySem.W.instObj C dx) ∧
      ∃ mA, h.Ns1 dx mA ∧ (∀ f, RelO (fs.lookup f) (mA f)) ∧ PySem.Within mA (fs.map (·.1))
  | .own _ => ∃ o, h.get? a = some o
  | .xd fs => ∃ mA, h.Ns1 a mA ∧ ∀ f, RelO (fs.lookup f) (mA f)
  | .rng lo hi => ∃ t u v, h.get? a = some { cls := .type "range", data := .fields #[.int lo t, .int hi u, .int 1 v] }
  | .frz o u => h.get? a = some o ∧ ObjOk H h a u
  | .tbl ps => h.get? a = some { cls := .none, data := .fields ps }
  | .met f x => h.get? a = some (PySem.W.methodObj (.ref f) (.ref x))
  | .ext φ => φ h ∧ (∃ o, h.get? a = some o) ∧ ∀ h1 h2 : Heap, φ h1 → (∀ o, h1.get? a = some o → h2.get? a = some o) → φ h2
def HOk (H : Hp) (h : Heap) : Prop := ∀ a o, H a = some o → ObjOk P w H h a o
end
section
variable {P : Program} {w : World} {H H' : Hp} {h h' : Heap} {a : Addr} {o : HO}
theorem ObjOk.lt (x : ObjOk P w H h a o) : a < h.objs.size := by
  cases o with
  | lst xs => obtain ⟨_, _, _, _, e⟩ := x; exact Heap.lt_size e
  | tup xs => obtain ⟨_, _, _, p⟩ := x; exact p.lt
  | dK kvs => obtain ⟨_, _, _, _, o, _, _, e, _⟩ := x; exact Heap.lt_size e
  | dT kvs => obtain ⟨_, _, _, _, o, _, _, e, _⟩ := x; exact Heap.lt_size e
  | set S n => obtain ⟨o, _, _, _, e, _⟩ := x; exact Heap.lt_size e
  | ins C dx fs => obtain ⟨_, _, _, e, _⟩ := x; exact Heap.lt_size e
  | own y => obtain ⟨_, e⟩ := x; exact Heap.lt_size e
  | xd fs => obtain ⟨_, ⟨_, _, _, e, _⟩, _⟩ := x; exact Heap.lt_size e
  | rng lo hi => obtain ⟨_, _, _, e⟩ := x; exact Heap.lt_size e
  | frz ob u => obtain ⟨e, _⟩ := x; exact Heap.lt_size e
  | tbl ps => exact Heap.lt_size (show h.get? a = some _ from x)
  | met f y => exact Heap.lt_size (show h.get? a = some _ from x)
  | ext φ => obtain ⟨_, ⟨_, e⟩, _⟩ := x; exact Heap.lt_size e
theorem Paired.mapP {α β : Type} {F G : α → β → Prop} : ∀ {l₁ : List α} {l₂ : List β}, Paired F l₁ l₂ → (∀ a b, F a b → G a b) → Paired G l₁ l₂
  | _, _, .nil, _ => .nil
  | _, _, .cons r t, f => .cons (f _ _ r) (Paired.mapP t f)
theorem ObjOk.stay (x : ObjOk P w H h a o) (k : ∀ b u, (b = a ∨ H b = some (.own a)) → h.get? b = some u → h'.get? b = some u)
    (ho : ∀ b, H b = some (.own a) → H' b = some (.own a)) (ht : ∀ b xs, H b = some (.tup xs) → H' b = some (.tup xs)) : ObjOk P w H' h' a o := by
  induction o with
  | lst xs => obtain ⟨z, its, n, r, e⟩ := x; exact ⟨z, its, n, r, k _ _ (.inl rfl) e⟩
  | tup xs => obtain ⟨z, its, r, ob, e, c⟩ := x; exact ⟨z, its, r, ob, k _ _ (.inl rfl) e, c⟩
  | dK kvs => obtain ⟨z, y, vs, r, ob, es, ep, e, c⟩ := x; exact ⟨z, y, vs, r, ob, es, ep, k _ _ (.inl rfl) e, c⟩
  | dT kvs =>
    obtain ⟨z, y, xs, r, ob, es, ep, e, c⟩ := x
    exact ⟨z, y, xs, Paired.mapP r fun p q z => ⟨z.1, ht _ _ z.2.1, z.2.2⟩, ob, es, ep, k _ _ (.inl rfl) e, c⟩
  | set S n => obtain ⟨ob, es, ep, t, e, c⟩ := x; exact ⟨ob, es, ep, t, k _ _ (.inl rfl) e, c⟩
  | ins C dx fs =>
    obtain ⟨d, z, ne, e, mA, ⟨od, es, ep, e2, c⟩, r⟩ := x
    exact ⟨ho _ d, z, ne, k _ _ (.inl rfl) e, mA, ⟨od, es, ep, k _ _ (.inr d) e2, c⟩, r⟩
  | own y => obtain ⟨ob, e⟩ := x; exact ⟨ob, k _ _ (.inl rfl) e⟩
  | xd fs => obtain ⟨mA, ⟨od, es, ep, e, c⟩, r⟩ := x; exact ⟨mA, ⟨od, es, ep, k _ _ (.inl rfl) e, c⟩, r⟩
  | rng lo hi => obtain ⟨t, u, v, e⟩ := x; exact ⟨t, u, v, k _ _ (.inl rfl) e⟩
  | frz ob u ih => obtain ⟨e, q⟩ := x; exact ⟨k _ _ (.inl rfl) e, ih q⟩
  | tbl ps =>
    have e : h.get? a = some { cls := .none, data := .fields ps } := x
    show h'.get? a = some { cls := .none, data := .fields ps }
    exact k a _ (.inl rfl) e
  | met f y =>
    have e : h.get? a = some (PySem.W.methodObj (.ref f) (.ref y)) := x
    show h'.get? a = some (PySem.W.methodObj (.ref f) (.ref y))
    exact k a _ (.inl rfl) e
  | ext φ => obtain ⟨p, ⟨o, e⟩, st⟩ := x; exact ⟨st _ _ p fun o q => k _ _ (.inl rfl) q, ⟨o, k _ _ (.inl rfl) e⟩, st⟩
theorem HOk.lt (x : HOk P w H h) (e : H a = some o) : a < h.objs.size := (x a o e).lt
theorem HOk.fresh (x : HOk P w H h) (e : h.objs.size ≤ a) : H a = none := by
  cases q : H a with
  | none => rfl
  | some u => exact absurd (Nat.lt_of_lt_of_le (x.lt q) e) (Nat.lt_irrefl _)
theorem HOk.kept (x : HOk P w H h) (k : ∀ b u, h.get? b = some u → h'.get? b = some u) : HOk P w H h' := fun a o e =>
  (x a o e).stay (fun b u _ q => k b u q) (fun _ q => q) fun _ _ q => q
theorem HOk.laid (x : HOk P w H h) (k : ∀ b u, h.get? b = some u → h'.get? b = some u) (hp : h.objs.size ≤ a) (new : ObjOk P w (upd H a o) h' a o) : HOk P w (upd H a o) h' := fun b u e => by
  have hn := x.fresh hp
  by_cases hb : b = a
  · subst hb; rw [upd_same] at e; cases e; exact new
  · rw [upd_ne hb] at e
    exact (x b u e).stay (fun c v _ q => k c v q) (fun c q => by rw [upd_ne (ne_of_none q hn)]; exact q) fun c xs q => by rw [upd_ne (ne_of_none q hn)]; exact q
end
def Rd (H : Hp) (a : Addr) (u : HO) : Prop := H a = some u ∨ ∃ o, H a = some (.frz o u)
theorem Rd.of {H : Hp} {a : Addr} {u : HO} (h : H a = some u) : Rd H a u := .inl h
theorem Rd.ok {P : Program} {w : World} {H : Hp} {h : Heap} {a : Addr} {u : HO} (r : Rd H a u) (x : HOk P w H h) : ObjOk P w H h a u := by
  rcases r with r | ⟨o, r⟩
  · exact x a u r
  · obtain ⟨_, q⟩ := x a _ r
    exact q
def Mut : Option HO → Prop
  | some (.lst _) => True
  | some (.dK _) => True
  | some (.dT _) => True
  | some (.set _ _) => True
  | some (.ins _ _ _) => True
  | some (.ext _) => True
  | _ => False
section
variable {P : Program} {w : World} {H : Hp} {h h' : Heap} {x e : Addr} {o' : HO}
theorem HOk.write (ok : HOk P w H h) (mu : Mut (H x)) (he : e = x ∨ H e = some (.own x)) (k : ∀ b u, b ≠ e → h.get? b = some u → h'.get? b = some u) (heo : ∃ u, h'.get? e = some u)
    (new : ObjOk P w (upd H x o') h' x o') : HOk P w (upd H x o') h' := fun b u q => by
  have nown : ∀ c y, H c = some (.own y) → c ≠ x := fun c y r z => by subst z; rw [r] at mu; exact mu
  have ntup : ∀ c xs, H c = some (.tup xs) → c ≠ x := fun c xs r z => by subst z; rw [r] at mu; exact mu
  by_cases hb : b = x
  · subst hb; rw [upd_same] at q; cases q; exact new
  · rw [upd_ne hb] at q
    by_cases hbe : b = e
    · have q' : H b = some (.own x) := by
        rcases he with z | z
        · exact absurd (hbe.trans z) hb
        · rw [hbe]; exact z
      rw [q] at q'; cases q'
      obtain ⟨v, hv⟩ := heo
      exact ⟨v, by rw [hbe]; exact hv⟩
    · refine (ok b u q).stay (fun c v hc r => k c v ?_ r) (fun c r => by rw [upd_ne (nown c b r)]; exact r) fun c xs r => by rw [upd_ne (ntup c xs r)]; exact r
      rcases hc with rfl | hc
      · exact hbe
      · rintro rfl
        rcases he with z | z
        · exact nown c b hc z
        · rw [hc] at z; cases z; exact hb rfl
end
structure Un (fs ex : List Addr) (H H' : Hp) (h h' : Heap) : Prop where
  keep : ∀ b o, h.get? b = some o → H b = none → b ∉ fs → b ∉ ex → h'.get? b = some o
  slot : ∀ b o, h.get? b = some o → H b = none → b ∈ fs → b ∉ ex → ∃ sl, h'.get? b = some { o with slots := sl }
  free : ∀ b o, h.get? b = some o → H b = none → b ∉ ex → H' b = none
  there : ∀ b o, h.get? b = some o → b ∉ ex → ∃ o', h'.get? b = some o'
  tups : ∀ b xs, H b = some (.tup xs) → H' b = some (.tup xs)
  frzs : ∀ b o u, H b = some (.frz o u) → H' b = some (.frz o u)
  tbls : ∀ b ps, H b = some (.tbl ps) → ∃ more, H' b = some (.tbl (ps ++ more))
  sys : H sysModules = none → H' sysModules = none
section
variable {fs fs' ex ex' : List Addr} {H H1 H2 : Hp} {h h1 h2 h' : Heap} {a x e : Addr} {o : HO}
theorem Un.any (u : Un fs ex H H1 h h1) {b : Addr} {ob : Obj} (q : h.get? b = some ob) (n : H b = none) (hx : b ∉ ex) : ∃ sl, h1.get? b = some { ob with slots := sl } := by
  by_cases hb : b ∈ fs
  · exact u.slot b ob q n hb hx
  · exact ⟨ob.slots, u.keep b ob q n hb hx⟩
theorem Un.trans (a : Un fs ex H H1 h h1) (b : Un fs ex H1 H2 h1 h2) : Un fs ex H H2 h h2 where
  keep := fun c ob q n hc hx => b.keep c ob (a.keep c ob q n hc hx) (a.free c ob q n hx) hc hx
  slot := fun c ob q n hc hx => by
    obtain ⟨sl, e1⟩ := a.slot c ob q n hc hx
    obtain ⟨sl', e2⟩ := b.slot c _ e1 (a.free c ob q n hx) hc hx
    exact ⟨sl', e2⟩
  free := fun c ob q n hx => by
    obtain ⟨o', e1⟩ := a.there c ob q hx
    exact b.free c o' e1 (a.free c ob q n hx) hx
  there := fun c ob q hx => by
    obtain ⟨o', e1⟩ := a.there c ob q hx
    exact b.there c o' e1 hx
  tups := fun c xs q => b.tups c xs (a.tups c xs q)
  frzs := fun c ob xs q => b.frzs c ob xs (a.frzs c ob xs q)
  tbls := fun c ps q => by
    obtain ⟨m1, e1⟩ := a.tbls c ps q
    obtain ⟨m2, e2⟩ := b.tbls c _ e1
    exact ⟨m1 ++ m2, by rw [e2, Array.append_assoc]⟩
  sys := fun q => b.sys (a.sys q)
theorem Un.kept (k : ∀ b u, h.get? b = some u → h'.get? b = some u) : Un fs ex H H h h' :=
  ⟨fun b ob q _ _ _ => k b ob q, fun b ob q _ _ _ => ⟨ob.slots, k b ob q⟩, fun _ _ _ n _ => n, fun b ob q _ => ⟨ob, k b ob q⟩, fun _ _ q => q, fun _ _ _ q => q, fun _ ps q => ⟨#[], by rw [q]; simp⟩, fun q => q⟩
theorem Un.refl : Un fs ex H H h h := Un.kept fun _ _ q => q
theorem Un.laid (k : ∀ b u, h.get? b = some u → h'.get? b = some u) (hp : h.objs.size ≤ a) (hn : H a = none) (hz : sysModules < h.objs.size) : Un fs ex H (upd H a o) h h' where
  sys := fun q => by rw [upd_ne (Nat.ne_of_lt (Nat.lt_of_lt_of_le hz hp))]; exact q
  keep := fun b u q _ _ _ => k b u q
  slot := fun b u q _ _ _ => ⟨u.slots, k b u q⟩
  free := fun b u q n _ => by rw [upd_ne (Nat.ne_of_lt (Nat.lt_of_lt_of_le (Heap.lt_size q) hp))]; exact n
  there := fun b u q _ => ⟨u, k b u q⟩
  tups := fun b xs q => by rw [upd_ne (ne_of_none q hn)]; exact q
  frzs := fun b u xs q => by rw [upd_ne (ne_of_none q hn)]; exact q
  tbls := fun b ps q => ⟨#[], by rw [upd_ne (ne_of_none q hn), q]; simp⟩
theorem Un.write (mu : Mut (H x)) (he : e = x ∨ H e = some (.own x)) (k : ∀ b u, b ≠ e → h.get? b = some u → h'.get? b = some u) (heo : ∃ u, h'.get? e = some u) : Un fs ex H (upd H x o) h h' := by
  have hx : ∀ b, H b = none → b ≠ x := fun b n z => by subst z; rw [n] at mu; exact mu
  have hb : ∀ b, H b = none → b ≠ e := fun b n z => by
    subst z
    rcases he with r | r
    · exact hx b n r
    · rw [n] at r; cases r
  have hm : ∀ b u, H b = some u → ¬ Mut (some u) → b ≠ x := fun b u q nm z => by subst z; rw [q] at mu; exact nm mu
  refine ⟨fun b u q n _ _ => k b u (hb b n) q, fun b u q n _ _ => ⟨u.slots, k b u (hb b n) q⟩, fun b u q n _ => by rw [upd_ne (hx b n)]; exact n, fun b u q _ => ?_,
    fun b xs q => by rw [upd_ne (hm b _ q fun z => z)]; exact q, fun b u xs q => by rw [upd_ne (hm b _ q fun z => z)]; exact q, fun b ps q => ⟨#[], by rw [upd_ne (hm b _ q fun z => z), q]; simp⟩, fun q => by rw [upd_ne (hx _ q)]; exact q⟩
  by_cases hbe : b = e
  · subst hbe; exact heo
  · exact ⟨u, k b u hbe q⟩
theorem Un.mono (u : Un fs ex H H1 h h1) (hs : ∀ b ∈ fs, b ∈ fs') (hx : ∀ b ∈ ex, b ∈ ex') : Un fs' ex' H H1 h h1 :=
  ⟨fun b ob q n hb he => u.keep b ob q n (fun z => hb (hs b z)) fun z => he (hx b z), fun _ _ q n _ he => u.any q n fun z => he (hx _ z), fun b ob q n he => u.free b ob q n fun z => he (hx b z), fun b ob q he => u.there b ob q fun z => he (hx b z), u.tups, u.frzs, u.tbls, u.sys⟩
end
def trk (h : Heap) (H : Hp) : List Addr := (List.range h.objs.size).filter fun a => (H a).isSome
def hidT (h : Heap) (H : Hp) : Heap := PySem.W.hideAll h (trk h H)
theorem hidT_size (h : Heap) (H : Hp) : (hidT h H).objs.size = h.objs.size := PySem.W.hideAll_size _ _
theorem hidT_get {h : Heap} {H : Hp} {b : Addr} {o : Obj} (e : h.get? b = some o) (n : H b = none) : (hidT h H).get? b = some o :=
  PySem.W.hideAll_get _ e fun hm => by
    have q : (H b).isSome = true := (List.mem_filter.mp hm).2
    rw [n] at q; simp at q
theorem of_hidT {h : Heap} {H : Hp} {b : Addr} {o : Obj} (e : (hidT h H).get? b = some o) : h.get? b = some o ∧ H b = none := by
  have e' : h.get? b = some o := PySem.W.of_hideAll (trk h H) e
  refine ⟨e', ?_⟩
  cases q : H b with
  | none => rfl
  | some x =>
    have hm : b ∈ trk h H := List.mem_filter.mpr ⟨List.mem_range.mpr (Heap.lt_size e'), by simp [q]⟩
    have z : (hidT h H).get? b = none := PySem.W.hideAll_none (trk h H) hm
    rw [z] at e; cases e
def allNews (g h : Heap) (L : Addr) : List (Addr × Obj) := (List.range h.objs.size).filterMap fun a => if a = L ∨ (g.get? a).isSome = true then none else (h.get? a).map fun o => (a, o)
def rest (g h : Heap) (L d : Addr) : List (Addr × Obj) := (allNews g h L).filter fun p => decide (p.1 ≠ d)
end L2
namespace L2
open PySem PySem.Spec PyProof.Rows
structure Mod (K : PySem.W.Frag) (mg : Str → Option Value) (base : Heap) : Prop where
  kin : K.In base
  glob : base.Ns mainGlobals mg
  blt : ∃ mb, base.Ns builtinsNs mb ∧ ∀ x : Str, x ≠ "__name__" → mb x = bootBuiltins x
  nolimit : base.NoLimit
structure Cx where
  prog : Program
  w : World
  K : PySem.W.Frag
  mg : Str → Option Value
  base : Heap
  A : Around
  N : List Str
  s₀ : Shared
  H₀ : Hp
  env : Env
  outer : List Env
  stack : List Env
  ex : List Addr
  fn : Str → Bool
  calm : Bool
  pn : List (Addr × Obj)
  xe : Value → Shared → Prop
def frs (l : List Env) : List Addr := l.filterMap (·.frame)
abbrev Cx.fs (X : Cx) : List Addr := frs X.outer
def Vis (sc : Scope) (x : Str) : Prop := sc.names.lookup x = some .local ∨ sc.names.lookup x = some .cell ∨ sc.names.lookup x = some .free
def Loc (sc : Scope) (x : Str) : Prop := sc.names.lookup x = some .local ∨ sc.names.lookup x = some .cell
def Look (env : Env) (h : Heap) (m : Str → Option Value) (x : Str) (u : Value) : Prop :=
  (env.kindOf x = some .local ∧ m x = some u) ∨ ((env.kindOf x = some .cell ∨ env.kindOf x = some .free) ∧ ∃ c, env.cells.lookup x = some c ∧ h.IsCell c (some u))
structure Cx.Ok (X : Cx) : Prop where
  mod : Mod X.K X.mg X.base
  kind : X.env.scope.kind = .function
  glob : X.env.globals = mainGlobals
  blt : X.env.builtins = builtinsNs
  above : X.s₀.heap.objs.size ≤ X.env.locals
  inj : ∀ x y c, X.env.cells.lookup x = some c → X.env.cells.lookup y = some c → x = y
  has : ∀ x, (X.env.kindOf x = some .cell ∨ X.env.kindOf x = some .free) → ∃ c, X.env.cells.lookup x = some c
  cab : ∀ x c, X.fn x = true → X.env.cells.lookup x = some c → X.s₀.heap.objs.size ≤ c
  hd : X.calm = true → X.A.handled = none
  frames : X.A.frames = some X.stack
  stk : X.stack = X.outer ∨ (X.stack = X.env :: X.outer ∧ X.env.frame = some X.env.locals)
  exf : ∀ b ∈ X.ex, b ≠ X.env.locals ∧ ∀ x c, X.env.cells.lookup x = some c → c ≠ b
  bs : ∀ b o, X.base.get? b = some o → X.s₀.heap.get? b = some o ∧ X.H₀ b = none
  bsz : X.base.objs.size ≤ X.s₀.heap.objs.size
  noex : ∀ b o, X.base.get? b = some o → b ∉ X.ex
  exfs : ∀ b ∈ X.ex, b ∉ X.fs
  funs : X.s₀.heap.FunFrames X.base X.outer
  frf : ∀ b ∈ X.fs, X.H₀ b = none
structure Inv (X : Cx) (pins : List (Addr × Obj)) (σ : List (Option V)) (H : Hp) (s : Shared) : Prop where
  ok : X.Ok
  os : s.os = X.s₀.os
  bare : AllBare s.gens
  base : Un X.fs X.ex X.H₀ H X.s₀.heap s.heap
  loc : ∃ m, s.heap.Ns X.env.locals m ∧ ∀ (i : Nat) (x : Str) (v : V), X.N[i]? = some x → σ[i]? = some (some v) → Vis X.env.scope x → ∃ u, RelV v u ∧ Look X.env s.heap m x u
  cell : ∀ x c, X.env.cells.lookup x = some c → ∃ v, s.heap.IsCell c v
  free : H X.env.locals = none
  freeC : ∀ x c, X.env.cells.lookup x = some c → H c = none
  pin : ∀ p ∈ X.pn ++ pins, s.heap.get? p.1 = some p.2 ∧ H p.1 = none ∧ p.1 ≠ X.env.locals ∧ p.1 ∉ X.fs ∧ ∀ v, p.2.data ≠ .cell v
  hok : HOk X.prog X.w H s.heap
  len : σ.length = X.N.length
section
variable {X : Cx} {pins : List (Addr × Obj)} {σ : List (Option V)} {H H' : Hp} {s : Shared} {h' : Heap}
theorem Cx.Ok.nofr (ok : X.Ok) {b : Addr} {o : Obj} (e : X.base.get? b = some o) : b ∉ X.fs := fun hb => by
  have := (ok.funs.mem hb).1
  rw [e] at this; cases this
theorem Inv.bs (I : Inv X pins σ H s) : ∀ b o, X.base.get? b = some o → s.heap.get? b = some o ∧ H b = none := fun b o e =>
  ⟨I.base.keep b o (I.ok.bs b o e).1 (I.ok.bs b o e).2 (I.ok.nofr e) (I.ok.noex b o e), I.base.free b o (I.ok.bs b o e).1 (I.ok.bs b o e).2 (I.ok.noex b o e)⟩
theorem Inv.bk (I : Inv X pins σ H s) : ∀ b o, X.base.get? b = some o → s.heap.get? b = some o := fun b o e => (I.bs b o e).1
theorem Inv.mod (I : Inv X pins σ H s) : Mod X.K X.mg X.base := I.ok.mod
theorem Inv.kIn (I : Inv X pins σ H s) : X.K.In s.heap := I.ok.mod.kin.keeps I.bk
theorem Inv.nolimit (I : Inv X pins σ H s) : s.heap.NoLimit := I.ok.mod.nolimit.keeps I.bk
theorem Inv.fr (I : Inv X pins σ H s) : ∃ m, Fr X.base X.env.locals s.heap m :=
  let ⟨m, hn, _⟩ := I.loc
  ⟨m, hn, I.bk, Nat.le_trans I.ok.bsz I.ok.above⟩
theorem Inv.lt (I : Inv X pins σ H s) : X.env.locals < s.heap.objs.size := let ⟨_, hn, _⟩ := I.loc; hn.lt
theorem Inv.sz (I : Inv X pins σ H s) : X.s₀.heap.objs.size ≤ s.heap.objs.size := Nat.le_trans I.ok.above (Nat.le_of_lt I.lt)
theorem Inv.nofs (I : Inv X pins σ H s) {a : Addr} (h : s.heap.objs.size ≤ a) : a ∉ X.fs := fun hb => by
  obtain ⟨_, o, ho, _⟩ := I.ok.funs.mem hb
  exact absurd (Nat.lt_of_lt_of_le (Heap.lt_size ho) (Nat.le_trans I.sz h)) (Nat.lt_irrefl _)
theorem Inv.cne (I : Inv X pins σ H s) : ∀ x c, X.env.cells.lookup x = some c → c ≠ X.env.locals := fun x c e z => by
  obtain ⟨v, o, ho, hd⟩ := I.cell x c e
  obtain ⟨m, ⟨o', es, ep, ho', hd', _⟩, _⟩ := I.loc
  rw [z, ho'] at ho; cases ho; rw [hd'] at hd; cases hd
theorem Inv.funs (I : Inv X pins σ H s) : s.heap.FunFrames X.base X.outer := by
  have all : ∀ (l : List Env), (∀ b ∈ frs l, b ∈ X.fs) → X.s₀.heap.FunFrames X.base l → s.heap.FunFrames X.base l := by
    intro l
    induction l with
    | nil => intro _ _; trivial
    | cons env r ih =>
      intro hs hl
      obtain ⟨hk, ⟨L, o, hf, hn, ho, hd⟩, hr⟩ := hl
      have hL : L ∈ X.fs := hs L (by unfold frs; rw [List.filterMap_cons, hf]; exact List.mem_cons_self)
      obtain ⟨sl, e⟩ := I.base.slot L o ho (I.ok.frf L hL) hL fun z => I.ok.exfs L z hL
      exact ⟨hk, ⟨L, _, hf, hn, e, hd⟩, ih (fun b hb => hs b (by unfold frs; rw [List.filterMap_cons, hf]; exact List.mem_cons_of_mem _ hb)) hr⟩
  exact all X.outer (fun _ hb => hb) I.ok.funs
theorem Inv.stack (I : Inv X pins σ H s) : s.heap.FunFrames X.base X.stack := by
  rcases I.ok.stk with e | ⟨e, hf⟩
  · rw [e]; exact I.funs
  · rw [e]
    obtain ⟨m, hn, _⟩ := I.loc
    refine .cons (by rw [I.ok.kind]; decide) hf hn ?_ I.funs
    exact Heap.get?_none_of_le (Nat.le_trans I.ok.bsz I.ok.above)
theorem Inv.stkSub (I : Inv X pins σ H s) : ∀ b ∈ frs X.stack, b ∈ X.env.locals :: X.fs := fun b hb => by
  rcases I.ok.stk with e | ⟨e, hf⟩
  · rw [e] at hb; exact List.mem_cons_of_mem _ hb
  · rw [e] at hb
    unfold frs at hb
    rw [List.filterMap_cons, hf] at hb
    exact hb
theorem Inv.stkFree (I : Inv X pins σ H s) : ∀ b ∈ frs X.stack, H b = none := fun b hb => by
  rcases List.mem_cons.mp (I.stkSub b hb) with e | hb
  · rw [e]; exact I.free
  · obtain ⟨_, o, ho, _⟩ := I.ok.funs.mem hb
    exact I.base.free b o ho (I.ok.frf b hb) fun z => I.ok.exfs b z hb
theorem Inv.step {g' : Array GenState} {t' : Nat} {d' : Drawn} {ch : List Addr} (I : Inv X pins σ H s)
    (hch : ∀ b ∈ ch, (b ∈ X.ex ∨ X.s₀.heap.objs.size ≤ b) ∧ b ≠ X.env.locals ∧ (∀ x c, X.env.cells.lookup x = some c → c ≠ b) ∧ ∀ p ∈ X.pn ++ pins, p.1 ≠ b)
    (keep : ∀ b o, b ≠ X.env.locals → b ∉ X.fs → b ∉ ch → s.heap.get? b = some o → H b = none → h'.get? b = some o)
    (slot : ∀ b o, b ≠ X.env.locals → b ∈ X.fs → b ∉ ch → s.heap.get? b = some o → H b = none → ∃ sl, h'.get? b = some { o with slots := sl }) (free : ∀ b o, b ∉ ch → s.heap.get? b = some o → H b = none → H' b = none)
    (there : ∀ b o, b ∉ ch → s.heap.get? b = some o → ∃ o', h'.get? b = some o')
    (tups : ∀ b xs, H b = some (.tup xs) → H' b = some (.tup xs)) (frzs : ∀ b o u, H b = some (.frz o u) → H' b = some (.frz o u)) (tbls : ∀ b ps, H b = some (.tbl ps) → ∃ more, H' b = some (.tbl (ps ++ more))) (sys : H sysModules = none → H' sysModules = none)
    (ns : ∀ m, s.heap.Ns X.env.locals m → h'.Ns X.env.locals m) (hok : HOk X.prog X.w H' h') (hg : AllBare g') :
    Inv X pins σ H' { s with heap := h', gens := g', drawn := d', toks := t' } := by
  have neL : ∀ b o, X.s₀.heap.get? b = some o → b ≠ X.env.locals := fun b o e => Nat.ne_of_lt (Nat.lt_of_lt_of_le (Heap.lt_size e) I.ok.above)
  have neC : ∀ b o, X.s₀.heap.get? b = some o → b ∉ X.ex → b ∉ ch := fun b o e hx hb => by
    rcases (hch b hb).1 with z | z
    · exact hx z
    · exact absurd (Nat.lt_of_lt_of_le (Heap.lt_size e) z) (Nat.lt_irrefl _)
  have cellK : ∀ x c, X.env.cells.lookup x = some c → ∀ v, s.heap.IsCell c v → h'.IsCell c v := fun x c e v ⟨o, ho, hd⟩ => by
    have nch : c ∉ ch := fun z => (hch c z).2.2.1 x c e rfl
    by_cases hc : c ∈ X.fs
    · obtain ⟨sl, q⟩ := slot c o (I.cne x c e) hc nch ho (I.freeC x c e)
      exact ⟨_, q, hd⟩
    · exact ⟨o, keep c o (I.cne x c e) hc nch ho (I.freeC x c e), hd⟩
  refine ⟨I.ok, I.os, hg, ⟨fun b o e n hb hx => ?_, fun b o e n hb hx => ?_, fun b o e n hx => ?_, fun b o e hx => ?_, fun b xs e => tups b xs (I.base.tups b xs e), fun b o xs e => frzs b o xs (I.base.frzs b o xs e), fun b ps e => ?_, fun q => sys (I.base.sys q)⟩, ?_, fun x c e => ?_, ?_, fun x c e => ?_, fun p hp => ?_, hok, I.len⟩
  · exact keep b o (neL b o e) hb (neC b o e hx) (I.base.keep b o e n hb hx) (I.base.free b o e n hx)
  · obtain ⟨sl, e1⟩ := I.base.slot b o e n hb hx
    obtain ⟨sl', e2⟩ := slot b _ (neL b o e) hb (neC b o e hx) e1 (I.base.free b o e n hx)
    exact ⟨sl', e2⟩
  · obtain ⟨o', e1⟩ := I.base.there b o e hx
    exact free b o' (neC b o e hx) e1 (I.base.free b o e n hx)
  · obtain ⟨o', e1⟩ := I.base.there b o e hx
    exact there b o' (neC b o e hx) e1
  · obtain ⟨m1, e1⟩ := I.base.tbls b ps e
    obtain ⟨m2, e2⟩ := tbls b _ e1
    exact ⟨m1 ++ m2, by rw [e2, Array.append_assoc]⟩
  · obtain ⟨m, hn, hl⟩ := I.loc
    refine ⟨m, ns m hn, fun i x v e1 e2 e3 => ?_⟩
    obtain ⟨u, r, l⟩ := hl i x v e1 e2 e3
    refine ⟨u, r, ?_⟩
    rcases l with l | ⟨k, c, e, z⟩
    · exact .inl l
    · exact .inr ⟨k, c, e, cellK x c e _ z⟩
  · obtain ⟨v, z⟩ := I.cell x c e
    exact ⟨v, cellK x c e v z⟩
  · obtain ⟨m, ⟨o, _, _, ho, _⟩, _⟩ := I.loc
    exact free _ o (fun z => (hch _ z).2.1 rfl) ho I.free
  · obtain ⟨v, o, ho, hd⟩ := I.cell x c e
    exact free c o (fun z => (hch c z).2.2.1 x c e rfl) ho (I.freeC x c e)
  · obtain ⟨e, n, ne, nf, d⟩ := I.pin p hp
    have nch : p.1 ∉ ch := fun z => (hch p.1 z).2.2.2 p hp rfl
    exact ⟨keep p.1 p.2 ne nf nch e n, free p.1 p.2 nch e n, ne, nf, d⟩
theorem Inv.un {t' : Nat} (I : Inv X pins σ H s) (u : Un X.fs [] H H' s.heap h') (hok : HOk X.prog X.w H' h') : Inv X pins σ H' { s with heap := h', toks := t' } := by
  obtain ⟨m, ⟨o, es, ep, ho, r⟩, _⟩ := id I.loc
  obtain ⟨sl, hL⟩ := u.any ho I.free (by simp)
  exact I.step (g' := s.gens) (d' := s.drawn) (ch := []) (fun _ z => nomatch z) (fun b o _ hb _ e n => u.keep b o e n hb (by simp)) (fun b o _ hb _ e n => u.slot b o e n hb (by simp)) (fun b o _ e n => u.free b o e n (by simp)) (fun b o _ e => u.there b o e (by simp)) u.tups u.frzs u.tbls u.sys (fun m' hm => by
    obtain ⟨o', es', ep', ho', r'⟩ := hm
    rw [ho] at ho'; cases ho'
    exact ⟨_, es', ep', hL, r'⟩) hok I.bare
theorem Inv.call {g' : Array GenState} {t' : Nat} {d' : Drawn} {ch : List Addr} (I : Inv X pins σ H s) (u : Un (frs X.stack) ch H H' s.heap h') (hok : HOk X.prog X.w H' h') (hg : AllBare g')
    (hch : ∀ b ∈ ch, (b ∈ X.ex ∨ X.s₀.heap.objs.size ≤ b) ∧ b ≠ X.env.locals ∧ (∀ x c, X.env.cells.lookup x = some c → c ≠ b) ∧ ∀ p ∈ X.pn ++ pins, p.1 ≠ b) :
    Inv X pins σ H' { s with heap := h', gens := g', drawn := d', toks := t' } := by
  obtain ⟨m, ⟨o, es, ep, ho, r⟩, _⟩ := id I.loc
  obtain ⟨sl, hL⟩ := u.any ho I.free fun z => (hch _ z).2.1 rfl
  exact I.step (ch := ch) hch (fun b o hL hb hc e n => u.keep b o e n (fun z => (List.mem_cons.mp (I.stkSub b z)).elim hL hb) hc) (fun b o _ _ hc e n => u.any e n hc) (fun b o hc e n => u.free b o e n hc) (fun b o hc e => u.there b o e hc) u.tups u.frzs u.tbls u.sys (fun m' hm => by
    obtain ⟨o', es', ep', ho', r'⟩ := hm
    rw [ho] at ho'; cases ho'
    exact ⟨_, es', ep', hL, r'⟩) hok hg
theorem Inv.turned {t' : Nat} {it : Addr} (I : Inv X pins σ H s) (k : ∀ b o, b ≠ it → s.heap.get? b = some o → h'.get? b = some o) (hn : H it = none) (hL : it ≠ X.env.locals)
    (h1 : it ∈ X.ex ∨ X.s₀.heap.objs.size ≤ it) (h2 : ∀ x c, X.env.cells.lookup x = some c → c ≠ it) (h3 : ∀ p ∈ X.pn ++ pins, p.1 ≠ it) : Inv X pins σ H { s with heap := h', toks := t' } := by
  have nit : ∀ b u, H b = some u → b ≠ it := fun b u e z => by rw [z, hn] at e; cases e
  refine I.step (g' := s.gens) (d' := s.drawn) (ch := [it]) (fun b hb => ?_) (fun b o _ _ hc e _ => k b o (fun z => hc (by simp [z])) e) (fun b o _ _ hc e _ => ⟨o.slots, k b o (fun z => hc (by simp [z])) e⟩) (fun _ _ _ _ n => n)
    (fun b o hc e => ⟨o, k b o (fun z => hc (by simp [z])) e⟩) (fun _ _ e => e) (fun _ _ _ e => e) (fun b ps e => ⟨#[], by rw [e]; simp⟩) (fun q => q) (fun m hm => ?_) (fun b u e => ?_) I.bare
  · have e : b = it := by simpa using hb
    subst e
    exact ⟨h1, hL, h2, h3⟩
  · obtain ⟨o, es, ep, ho, r⟩ := hm
    exact ⟨o, es, ep, k _ o (Ne.symm hL) ho, r⟩
  · refine (I.hok b u e).stay (fun c v hc q => k c v ?_ q) (fun _ q => q) fun _ _ q => q
    rcases hc with z | z
    · rw [z]; exact nit b u e
    · exact nit c _ z
theorem Inv.tok (I : Inv X pins σ H s) (t : Nat) : Inv X pins σ H { s with toks := t } := I.un (h' := s.heap) (t' := t) Un.refl I.hok
theorem Inv.kept {t' : Nat} (I : Inv X pins σ H s) (k : ∀ b u, s.heap.get? b = some u → h'.get? b = some u) : Inv X pins σ H { s with heap := h', toks := t' } := I.un (Un.kept k) (I.hok.kept k)
theorem Inv.laid {a : Addr} {o : HO} {t' : Nat} (I : Inv X pins σ H s) (k : ∀ b u, s.heap.get? b = some u → h'.get? b = some u) (hp : s.heap.objs.size ≤ a) (new : ObjOk X.prog X.w (upd H a o) h' a o) :
    Inv X pins σ (upd H a o) { s with heap := h', toks := t' } := I.un (Un.laid k hp (I.hok.fresh hp) (Nat.lt_trans (by decide : sysModules < mainGlobals) (I.mod.glob.keeps I.bk).lt)) (I.hok.laid k hp new)
theorem Inv.write {x e : Addr} {o : HO} {t' : Nat} (I : Inv X pins σ H s) (mu : Mut (H x)) (he : e = x ∨ H e = some (.own x)) (k : ∀ b u, b ≠ e → s.heap.get? b = some u → h'.get? b = some u) (heo : ∃ u, h'.get? e = some u)
    (new : ObjOk X.prog X.w (upd H x o) h' x o) : Inv X pins σ (upd H x o) { s with heap := h', toks := t' } := I.un (Un.write mu he k heo) (I.hok.write mu he k heo new)
theorem Inv.pins_of {pins' : List (Addr × Obj)} (I : Inv X pins σ H s) (h : ∀ p ∈ pins', s.heap.get? p.1 = some p.2 ∧ H p.1 = none ∧ p.1 ≠ X.env.locals ∧ p.1 ∉ X.fs ∧ ∀ v, p.2.data ≠ .cell v) : Inv X pins' σ H s :=
  ⟨I.ok, I.os, I.bare, I.base, I.loc, I.cell, I.free, I.freeC, fun p hp => (List.mem_append.mp hp).elim (fun z => I.pin p (List.mem_append_left _ z)) (h p), I.hok, I.len⟩
theorem nodup_ix {N : List Str} (hN : N.Nodup) {i j : Nat} {x : Str} (a : N[i]? = some x) (b : N[j]? = some x) : i = j := by
  obtain ⟨h1, e1⟩ := List.getElem?_eq_some_iff.mp a
  obtain ⟨h2, e2⟩ := List.getElem?_eq_some_iff.mp b
  exact (List.getElem_inj hN).mp (e1.trans e2.symm)
theorem store_ok2 {M : Model} {A : Around} {E : Value → Shared → Prop} {i : Nat} {x : Str} {v : V} {u : Value} {Q : Unit → Shared → Prop} (I : Inv X pins σ H s) (hN : X.N.Nodup) (hi : X.N[i]? = some x) (hx : Loc X.env.scope x) (r : RelV v u)
    (h : ∀ s', Inv X pins (σ.set i (some v)) H s' → (∃ a, Heap.SameBut a s.heap s'.heap ∧ (a = X.env.locals ∨ X.env.cells.lookup x = some a)) → Q () s') (hf : X.fn x = true ∨ X.env.scope.names.lookup x = some .local := by first | exact .inl rfl | exact .inr rfl | assumption) : wpAny M A (storeName X.env x u) Q E s := by
  obtain ⟨m, hn, hl⟩ := id I.loc
  have hcls : (X.env.scope.kind == .class || (X.env.scope.kind == .module && X.env.locals != X.env.globals)) = false := by rw [I.ok.kind]; rfl
  have hiσ : i < σ.length := by rw [I.len]; exact (List.getElem?_eq_some_iff.mp hi).1
  have cne := I.cne
  have tracked : ∀ {a : Addr} {h' : Heap}, (∃ o, s.heap.get? a = some o ∧ H a = none) → Heap.SameBut a s.heap h' → HOk X.prog X.w H h' := fun {a h'} ha hs b ob e => by
    obtain ⟨_, _, hfree⟩ := ha
    refine (I.hok b ob e).stay (fun c w' hc q => (hs.2 c ?_).trans q) (fun _ q => q) fun _ _ q => q
    rintro rfl
    rcases hc with rfl | hc
    · rw [hfree] at e; cases e
    · rw [hfree] at hc; cases hc
  rcases hx with hk | hk
  · refine wpAny_storeName_local hk hn (fun h' hn' hs => ?_) hcls
    obtain ⟨oL, _, _, hoL, _⟩ := id hn
    refine h _ ⟨I.ok, I.os, I.bare, ⟨fun b o e n hb hx => ?_, fun b o e n hb hx => ?_, I.base.free, fun b o e hx => ?_, I.base.tups, I.base.frzs, I.base.tbls, I.base.sys⟩, ⟨_, hn', fun j y v' e1 e2 e3 => ?_⟩, fun y c e => ?_, I.free, I.freeC, fun p hp => ?_, tracked ⟨oL, hoL, I.free⟩ hs, by simpa using I.len⟩ ⟨_, hs, .inl rfl⟩
    · exact (hs.2 b (Nat.ne_of_lt (Nat.lt_of_lt_of_le (Heap.lt_size e) I.ok.above))).trans (I.base.keep b o e n hb hx)
    · obtain ⟨sl, e1⟩ := I.base.slot b o e n hb hx
      exact ⟨sl, (hs.2 b (Nat.ne_of_lt (Nat.lt_of_lt_of_le (Heap.lt_size e) I.ok.above))).trans e1⟩
    · obtain ⟨o', e1⟩ := I.base.there b o e hx
      exact ⟨o', (hs.2 b (Nat.ne_of_lt (Nat.lt_of_lt_of_le (Heap.lt_size e) I.ok.above))).trans e1⟩
    · by_cases hj : j = i
      · subst hj
        rw [hi] at e1; cases e1
        rw [List.getElem?_set_self hiσ] at e2
        cases e2
        exact ⟨u, r, .inl ⟨hk, by simp⟩⟩
      · rw [List.getElem?_set_ne (Ne.symm hj)] at e2
        obtain ⟨u', r', q⟩ := hl j y v' e1 e2 e3
        refine ⟨u', r', ?_⟩
        rcases q with ⟨k, e⟩ | ⟨k, c, e, z⟩
        · refine .inl ⟨k, ?_⟩
          have : y ≠ x := fun e => hj (nodup_ix hN e1 (e ▸ hi))
          simp [this, e]
        · exact .inr ⟨k, c, e, z.sameBut hs (cne y c e)⟩
    · obtain ⟨w', z⟩ := I.cell y c e
      exact ⟨w', z.sameBut hs (cne y c e)⟩
    · obtain ⟨e, n, ne, nf, d⟩ := I.pin p hp
      exact ⟨(hs.2 p.1 ne).trans e, n, ne, nf, d⟩
  · have hfn : X.fn x = true := by
      rcases hf with z | z
      · exact z
      · rw [z] at hk; cases hk
    obtain ⟨c, hc⟩ := I.ok.has x (.inl hk)
    obtain ⟨w', z⟩ := I.cell x c hc
    refine wpAny_storeName_cell I.ok.kind hk hc z (fun h' hc' hs => ?_)
    obtain ⟨oc, hoc, hocd⟩ := id z
    refine h { s with heap := h' } ⟨I.ok, I.os, I.bare, ⟨fun b o e n hb hx => ?_, fun b o e n hb hx => ?_, I.base.free, fun b o e hx => ?_, I.base.tups, I.base.frzs, I.base.tbls, I.base.sys⟩, ⟨m, hn.sameBut hs (Ne.symm (cne x c hc)), fun j y v' e1 e2 e3 => ?_⟩, fun y c' e => ?_, I.free, I.freeC, fun p hp => ?_, tracked ⟨oc, hoc, I.freeC x c hc⟩ hs, by simpa using I.len⟩ ⟨c, hs, .inr hc⟩
    · exact (hs.2 b (Nat.ne_of_lt (Nat.lt_of_lt_of_le (Heap.lt_size e) (I.ok.cab x c hfn hc)))).trans (I.base.keep b o e n hb hx)
    · obtain ⟨sl, e1⟩ := I.base.slot b o e n hb hx
      exact ⟨sl, (hs.2 b (Nat.ne_of_lt (Nat.lt_of_lt_of_le (Heap.lt_size e) (I.ok.cab x c hfn hc)))).trans e1⟩
    · obtain ⟨o', e1⟩ := I.base.there b o e hx
      exact ⟨o', (hs.2 b (Nat.ne_of_lt (Nat.lt_of_lt_of_le (Heap.lt_size e) (I.ok.cab x c hfn hc)))).trans e1⟩
    · by_cases hj : j = i
      · subst hj
        rw [hi] at e1; cases e1
        rw [List.getElem?_set_self hiσ] at e2
        cases e2
        exact ⟨u, r, .inr ⟨.inl hk, c, hc, hc'⟩⟩
      · rw [List.getElem?_set_ne (Ne.symm hj)] at e2
        obtain ⟨u', r', q⟩ := hl j y v' e1 e2 e3
        refine ⟨u', r', ?_⟩
        rcases q with q | ⟨k, c', e, z'⟩
        · exact .inl q
        · refine .inr ⟨k, c', e, z'.sameBut hs ?_⟩
          rintro rfl
          exact hj (nodup_ix hN e1 (I.ok.inj _ _ _ e hc ▸ hi))
    · by_cases hcc : c' = c
      · subst hcc; exact ⟨_, hc'⟩
      · obtain ⟨w2, z2⟩ := I.cell y c' e
        exact ⟨w2, z2.sameBut hs hcc⟩
    · obtain ⟨e, n, ne, nf, d⟩ := I.pin p hp
      refine ⟨(hs.2 p.1 ?_).trans e, n, ne, nf, d⟩
      intro q
      rw [q, hoc] at e
      have q' : oc = p.2 := Option.some.inj e
      exact d w' (by rw [← q']; exact hocd)
theorem store_ok {M : Model} {A : Around} {E : Value → Shared → Prop} {i : Nat} {x : Str} {v : V} {u : Value} {Q : Unit → Shared → Prop} (I : Inv X pins σ H s) (hN : X.N.Nodup) (hi : X.N[i]? = some x) (hx : Loc X.env.scope x) (r : RelV v u)
    (h : ∀ s', Inv X pins (σ.set i (some v)) H s' → Q () s') (hf : X.fn x = true ∨ X.env.scope.names.lookup x = some .local := by first | exact .inl rfl | exact .inr rfl | assumption) : wpAny M A (storeName X.env x u) Q E s :=
  store_ok2 I hN hi hx r (fun s' I' _ => h s' I') hf
theorem Inv.call' {s' : Shared} {ch : List Addr} (I : Inv X pins σ H s) (ho : s'.os = s.os) (u : Un (frs X.stack) ch H H' s.heap s'.heap) (hok : HOk X.prog X.w H' s'.heap) (hg : AllBare s'.gens)
    (hch : ∀ b ∈ ch, (b ∈ X.ex ∨ X.s₀.heap.objs.size ≤ b) ∧ b ≠ X.env.locals ∧ (∀ x c, X.env.cells.lookup x = some c → c ≠ b) ∧ ∀ p ∈ X.pn ++ pins, p.1 ≠ b) : Inv X pins σ H' s' := by
  obtain ⟨h', g', d', t', o'⟩ := s'
  have e : o' = s.os := ho
  subst e
  exact I.call (g' := g') (t' := t') (d' := d') u hok hg hch
end
abbrev XK := Value → Option Addr → Hp → Prop
abbrev St := List (Option V)
abbrev VK := V → Hp → Prop
abbrev TE := St → Hp → VK → Prop
abbrev TT := St → Hp → (Bool → Hp → Prop) → Prop
abbrev TA := St → Hp → (List V → Hp → Prop) → Prop
structure Ends where
  nx : St → Hp → Prop
  rt : VK
  bk : St → Hp → Prop := fun _ _ => False
  ct : St → Hp → Prop := fun _ _ => False
abbrev TS := Ends → St → Hp → Prop
def EP (X : Cx) (pins : List (Addr × Obj)) (σ : St) (Q : VK) (u : Value) (s' : Shared) : Prop := ∃ v H', Inv X pins σ H' s' ∧ RelV v u ∧ Q v H'
def TP (X : Cx) (pins : List (Addr × Obj)) (σ : St) (Q : Bool → Hp → Prop) (b : Bool) (s' : Shared) : Prop := ∃ H', Inv X pins σ H' s' ∧ Q b H'
def AP (X : Cx) (pins : List (Addr × Obj)) (σ : St) (Q : List V → Hp → Prop) (us : List Value) (s' : Shared) : Prop := ∃ vs H', Inv X pins σ H' s' ∧ Vals vs us ∧ Q vs H'
def SP (X : Cx) (pins : List (Addr × Obj)) (D : Ends) (f : Flow) (s' : Shared) : Prop :=
  match f with
  | .next => ∃ σ' H', Inv X pins σ' H' s' ∧ D.nx σ' H'
  | .brk => ∃ σ' H', Inv X pins σ' H' s' ∧ D.bk σ' H'
  | .cont => ∃ σ' H', Inv X pins σ' H' s' ∧ D.ct σ' H'
  | .ret u => ∃ v σ' H', Inv X pins σ' H' s' ∧ RelV v u ∧ D.rt v H'
def PE (X : Cx) (e : Expr) (t : TE) : Prop :=
  ∀ (pins : List (Addr × Obj)) (s : Shared) (σ : St) (H : Hp) (Q : VK), Inv X pins σ H s → t σ H Q → wpAny (model X.prog X.w) X.A (eval e X.env) (EP X pins σ Q) X.xe s
def PT (X : Cx) (e : Expr) (t : TT) : Prop :=
  ∀ (pins : List (Addr × Obj)) (s : Shared) (σ : St) (H : Hp) (Q : Bool → Hp → Prop), Inv X pins σ H s → t σ H Q → wpAny (model X.prog X.w) X.A (isTrue e X.env (eval e X.env)) (TP X pins σ Q) X.xe s
def PW (X : Cx) (e : Expr) (t : TT) : Prop :=
  ∀ (whole : Sem Value) (pins : List (Addr × Obj)) (s : Shared) (σ : St) (H : Hp) (Q : Bool → Hp → Prop), Inv X pins σ H s → t σ H Q → wpAny (model X.prog X.w) X.A (isTrue e X.env whole) (TP X pins σ Q) X.xe s
theorem PW.pt {X : Cx} {e : Expr} {t : TT} (h : PW X e t) : PT X e t := h _
def PA (X : Cx) (es : List Expr) (t : TA) : Prop :=
  ∀ (pos : Pos) (pins : List (Addr × Obj)) (s : Shared) (σ : St) (H : Hp) (Q : List V → Hp → Prop), Inv X pins σ H s → t σ H Q → wpAny (model X.prog X.w) X.A (spliced (backTo pos (starEach es X.env))) (AP X pins σ Q) X.xe s
def PS (X : Cx) (st : Stmt) (t : TS) : Prop :=
  ∀ (pins : List (Addr × Obj)) (s : Shared) (σ : St) (H : Hp) (D : Ends), Inv X pins σ H s → t D σ H → wpAny (model X.prog X.w) X.A (exec st X.env) (SP X pins D) X.xe s
def PSs (X : Cx) (st : List Stmt) (t : TS) : Prop :=
  ∀ (pins : List (Addr × Obj)) (s : Shared) (σ : St) (H : Hp) (D : Ends), Inv X pins σ H s → t D σ H → wpAny (model X.prog X.w) X.A (execs st X.env) (SP X pins D) X.xe s
theorem thn {α : Type} {t : Sem α} {Q Q' : α → Shared → Prop} {M : Model} {A : Around} {E : Value → Shared → Prop} {s : Shared} (h : wpAny M A t Q E s) (hQ : ∀ a s, Q a s → Q' a s) : wpAny M A t Q' E s := wpAny_mono h hQ fun _ _ x => x
end L2
namespace L2
open PySem PySem.Spec PyProof.Rows
section
variable {X : Cx}
def tVar (i : Nat) : TE := fun σ H Q => ∃ v, σ[i]? = some (some v) ∧ Q v H
def tC (v : V) : TE := fun _ H Q => Q v H
theorem pe_var {i : Nat} {x : Str} {pos : Pos} (hN : X.N[i]? = some x) (hv : Vis X.env.scope x) (hd : (x == ("__debug__" : Str)) = false := by decide) (hcd : (x == ("__classdict__" : Str)) = false := by decide) : PE X (.Name x pos) (tVar i) := by
  intro pins s σ H Q I h
  obtain ⟨v, e, h⟩ := h
  obtain ⟨m, hn, hl⟩ := I.loc
  obtain ⟨u, r, l⟩ := hl i x v hN e hv
  have fin : EP X pins σ Q u s := ⟨v, H, I, r, h⟩
  rcases l with ⟨hk, hm⟩ | ⟨hk, c, hc, hcell⟩
  · exact wpAny_Name (wpAny_loadName_local I.ok.kind hk hn hm fin) hd
  · rcases hk with hk | hk
    · exact wpAny_Name (wpAny_loadName_cell I.ok.kind hk hc hcell fin) hd
    · exact wpAny_Name (wpAny_loadName_free I.ok.kind hk hc hcell fin hcd) hd
theorem pe_int {i j pos} : PE X (.Constant (.int i) j pos) (tC (.int i)) := fun _ _ _ H _ I h => wpAny_Constant_int ⟨.int i, H, I.tok _, ⟨_, rfl⟩, h⟩
theorem pe_bl {b j pos} : PE X (.Constant (.bool b) j pos) (tC (.bl b)) := fun _ _ _ H _ I h => Constant_bool ⟨.bl b, H, I, rfl, h⟩
theorem pe_non {j pos} : PE X (.Constant .none j pos) (tC .non) := fun _ _ _ H _ I h => Constant_none ⟨.non, H, I, rfl, h⟩
theorem pe_str {x j pos} : PE X (.Constant (.str x) j pos) (tC (.str x)) := fun _ _ _ H _ I h => Calls.Constant_str ⟨.str x, H, I.tok _, ⟨_, rfl⟩, h⟩
def Gl (X : Cx) (x : Str) : Prop := X.env.kindOf x = some .globalImplicit
theorem ld_glob {E : Value → Shared → Prop} {pins : List (Addr × Obj)} {s : Shared} {σ : St} {H : Hp} {x : Str} {u : Value} {pos : Pos} {Q : Value → Shared → Prop} (I : Inv X pins σ H s) (hg : Gl X x) (hm : X.mg x = some u) (h : Q u s)
    (hd : (x == ("__debug__" : Str)) = false := by decide) : wpAny (model X.prog X.w) X.A (eval (.Name x pos) X.env) Q E s :=
  Calls.Name_function_global I.ok.kind hg (Calls.loadGlobal_global (by rw [I.ok.glob]; exact I.mod.glob.keeps I.bk) hm h) hd
theorem ld_blt {E : Value → Shared → Prop} {pins : List (Addr × Obj)} {s : Shared} {σ : St} {H : Hp} {x : Str} {u : Value} {pos : Pos} {Q : Value → Shared → Prop} (I : Inv X pins σ H s) (hg : Gl X x) (hm : X.mg x = none) (hv : bootBuiltins x = some u) (h : Q u s)
    (hn : x ≠ "__name__" := by decide) (hd : (x == ("__debug__" : Str)) = false := by decide) : wpAny (model X.prog X.w) X.A (eval (.Name x pos) X.env) Q E s := by
  obtain ⟨mb, h1, h2⟩ := I.mod.blt
  exact Calls.Name_function_global I.ok.kind hg (Calls.loadGlobal_builtin (by rw [I.ok.glob]; exact I.mod.glob.keeps I.bk) hm (by rw [I.ok.blt]; exact h1.keeps I.bk) ((h2 x hn).trans hv) h) hd
theorem pe_glob {x : Str} {v : V} {u : Value} {pos : Pos} (hg : Gl X x) (hm : X.mg x = some u) (r : RelV v u) (hd : (x == ("__debug__" : Str)) = false := by decide) : PE X (.Name x pos) (tC v) :=
  fun _ _ _ H _ I h => ld_glob I hg hm ⟨v, H, I, r, h⟩ hd
theorem pe_bltn {x : Str} {v : V} {u : Value} {pos : Pos} (hg : Gl X x) (hm : X.mg x = none) (hv : bootBuiltins x = some u) (r : RelV v u) (hn : x ≠ "__name__" := by decide) (hd : (x == ("__debug__" : Str)) = false := by decide) : PE X (.Name x pos) (tC v) :=
  fun _ _ _ H _ I h => ld_blt I hg hm hv ⟨v, H, I, r, h⟩ hn hd
def t2I (ta tb : TE) (k : Int → Int → Hp → Prop) : St → Hp → Prop := fun σ H => ta σ H fun x H1 => tb σ H1 fun y H2 => ∃ i j, x = .int i ∧ y = .int j ∧ k i j H2
def tAdd (ta tb : TE) : TE := fun σ H Q => t2I ta tb (fun i j H2 => Q (.int (i + j)) H2) σ H
def tSub (ta tb : TE) : TE := fun σ H Q => t2I ta tb (fun i j H2 => Q (.int (i - j)) H2) σ H
def tMul (ta tb : TE) : TE := fun σ H Q => t2I ta tb (fun i j H2 => (-(2 ^ 64) < i ∧ i < 2 ^ 64) ∧ Q (.int (i * j)) H2) σ H
variable {a b : Expr} {ta tb : TE} {pos : Pos}
def PC (X : Cx) (op : CmpOp) (a b : Expr) (t : TE) : Prop :=
  ∀ (pins : List (Addr × Obj)) (s : Shared) (σ : St) (H : Hp) (Q : VK), Inv X pins σ H s → t σ H Q →
    wpAny (model X.prog X.w) X.A (eval a X.env) (fun v s₁ => wpAny (model X.prog X.w) X.A (eval b X.env) (fun u s₂ => wpAny (model X.prog X.w) X.A (compareOp op v u) (EP X pins σ Q) X.xe s₂) X.xe s₁) X.xe s
def tCmp (p : Int → Int → Bool) (ta tb : TE) : TE := fun σ H Q => t2I ta tb (fun i j H2 => Q (.bl (p i j)) H2) σ H
abbrev tLt : TE → TE → TE := tCmp fun i j => decide (i < j)
abbrev tLe : TE → TE → TE := tCmp fun i j => decide (i ≤ j)
abbrev tGt : TE → TE → TE := tCmp fun i j => decide (j < i)
abbrev tGe : TE → TE → TE := tCmp fun i j => decide (j ≤ i)
abbrev tEqI : TE → TE → TE := tCmp fun i j => decide (i = j)
abbrev tNeI : TE → TE → TE := tCmp fun i j => !decide (i = j)
def tIsN (ta : TE) : TE := fun σ H Q => ta σ H fun x H1 => Q (.bl (decide (x = .non))) H1
def tNotN (ta : TE) : TE := fun σ H Q => ta σ H fun x H1 => Q (.bl (!decide (x = .non))) H1
def tB (t : TE) : TT := fun σ H Q => t σ H fun x H1 => ∃ c, x = .bl c ∧ Q c H1
theorem pt_val {e : Expr} {t : TE} (h : PE X e t) (he : ∀ whole, isTrue e X.env whole = (do let v ← whole; standAt e.pos; holding [v] (truthy v)) := by intro _; rfl) : PT X e (tB t) := by
  intro pins s σ H Q I hw
  refine isTrue_plain (thn (h pins s σ H _ I hw) fun v s1 ⟨x, H1, I1, r1, q1⟩ => ?_) (he _)
  obtain ⟨d, rfl, q⟩ := q1
  cases r1
  exact wpAny_truthy_bool ⟨H1, I1, q⟩
variable {tA tB' : TT} {rest : List Expr}
def tAnd (t u : TT) : TT := fun σ H Q => t σ H fun c H1 => if c = true then u σ H1 Q else Q false H1
def tOr (t u : TT) : TT := fun σ H Q => t σ H fun c H1 => if c = true then Q true H1 else u σ H1 Q
def tNot (t : TT) : TT := fun σ H Q => t σ H fun c H1 => Q (!c) H1
theorem pw_or1 (ha : PT X a tA) : PW X (.BoolOp .Or [a] pos) tA := by
  intro wh pins s σ H Q I h
  refine isTrue_or (thn (ha pins s σ H Q I h) fun c s1 e => ?_)
  cases c with
  | false => exact isTrue_or_nil e
  | true => exact e
theorem pw_or (ha : PT X a tA) (hb : PW X (.BoolOp .Or (b :: rest) pos) tB') : PW X (.BoolOp .Or (a :: b :: rest) pos) (tOr tA tB') := by
  intro wh pins s σ H Q I h
  refine isTrue_or (thn (ha pins s σ H _ I h) fun c s1 ⟨H1, I1, q1⟩ => ?_)
  cases c with
  | true => exact ⟨H1, I1, q1⟩
  | false => exact hb wh pins s1 σ H1 Q I1 q1
theorem pt_not (ha : PT X a tA) : PT X (.UnaryOp .Not a pos) (tNot tA) := by
  intro pins s σ H Q I h
  exact isTrue_not (ha pins s σ H (fun c H1 => Q (!c) H1) I h)
def tAndV (ta tb : TE) : TE := fun σ H Q => ta σ H fun x H1 => ∃ c, x = .bl c ∧ if c = true then tb σ H1 Q else Q (.bl false) H1
def tOrV (ta tb : TE) : TE := fun σ H Q => ta σ H fun x H1 => ∃ c, x = .bl c ∧ if c = true then Q (.bl true) H1 else tb σ H1 Q
def tNotV (ta : TE) : TE := fun σ H Q => ta σ H fun x H1 => ∃ c, x = .bl c ∧ Q (.bl (!c)) H1
theorem pe_one {op} {t : TE} (h : PE X a t) : PE X (.BoolOp op [a] pos) t := fun pins s σ H Q I hw => BoolOp_one (h pins s σ H Q I hw)
theorem pe_and (ha : PE X a ta) (hb : PE X (.BoolOp .And (b :: rest) pos) tb) : PE X (.BoolOp .And (a :: b :: rest) pos) (tAndV ta tb) := by
  intro pins s σ H Q I h
  refine BoolOp_and (thn (ha pins s σ H _ I h) fun v s1 ⟨x, H1, I1, r1, q1⟩ => ?_)
  obtain ⟨c, rfl, q1⟩ := q1
  cases r1
  refine wpAny_truthy_bool ?_
  cases c with
  | true => exact hb pins s1 σ H1 Q I1 q1
  | false => exact ⟨.bl false, H1, I1, rfl, q1⟩
theorem pe_not (ha : PE X a ta) : PE X (.UnaryOp .Not a pos) (tNotV ta) := by
  intro pins s σ H Q I h
  refine UnaryOp_ (thn (ha pins s σ H _ I h) fun v s1 ⟨x, H1, I1, r1, q1⟩ => ?_)
  obtain ⟨c, rfl, q1⟩ := q1
  cases r1
  exact not_of (wpAny_truthy_bool ⟨.bl (!c), H1, I1, rfl, q1⟩)
def tIf (t : TT) (ta tb : TE) : TE := fun σ H Q => t σ H fun c H1 => if c = true then ta σ H1 Q else tb σ H1 Q
end
end L2
namespace L2
open PySem PySem.Spec PyProof.Rows
def SqL (K : PySem.W.Frag) (H : Hp) (a : Addr) (xs : List V) : Prop :=
  Rd H a (.lst xs) ∨
    ∃ (o : Obj) (its : Array Value) (n : Nat), K.lookup a = some o ∧ o.cls = .type "list" ∧ o.dict = none ∧ o.data = .seq its n ∧ its.size ≤ sizeLine ∧ Vals xs its.toList
def SqT (K : PySem.W.Frag) (H : Hp) (a : Addr) (xs : List V) : Prop :=
  Rd H a (.tup xs) ∨
    ∃ (o : Obj) (its : Array Value) (n : Nat), K.lookup a = some o ∧ o.cls = .type "tuple" ∧ o.data = .seq its n ∧ its.size ≤ sizeLine ∧ Vals xs its.toList
def absV : Value → Option V
  | .none => some .non
  | .bool b => some (.bl b)
  | .int i _ => some (.int i)
  | .str x _ => some (.str x)
  | .bytes b _ => some (.byt b)
  | .float b _ => some (.flt b)
  | .ref a => some (.ref a)
  | .type n => some (.ty n)
  | _ => none
theorem RelV.abs {x : V} {u : Value} (r : RelV x u) : absV u = some x := by
  cases x with
  | non => cases r; rfl
  | bl _ => cases r; rfl
  | int _ => obtain ⟨t, rfl⟩ := r; rfl
  | str _ => obtain ⟨t, rfl⟩ := r; rfl
  | byt _ => obtain ⟨t, rfl⟩ := r; rfl
  | flt _ => obtain ⟨t, rfl⟩ := r; rfl
  | ref _ => cases r; rfl
  | ty _ => cases r; rfl
theorem RelV.inj {x y : V} {u : Value} (r : RelV x u) (q : RelV y u) : x = y := Option.some.inj (r.abs.symm.trans q.abs)
theorem Vals.inj : ∀ {xs ys : List V} {us : List Value}, Vals xs us → Vals ys us → xs = ys
  | _, _, _, .nil, .nil => rfl
  | _, _, _, .cons r t, .cons r' t' => by rw [r.inj r', Vals.inj t t']
section
variable {X : Cx} {pins : List (Addr × Obj)} {σ : St} {H : Hp} {s : Shared} {a : Addr} {xs ys : List V}
theorem SqL.of {K : PySem.W.Frag} (h : H a = some (.lst xs)) : SqL K H a xs := .inl (.inl h)
theorem SqT.of {K : PySem.W.Frag} (h : H a = some (.tup xs)) : SqT K H a xs := .inl (.inl h)
theorem Inv.list (I : Inv X pins σ H s) (h : SqL X.K H a xs) : ∃ its : List Value, Vals xs its ∧ PlainL s.heap a its.toArray ∧ xs.length ≤ sizeLine := by
  rcases h with h | ⟨o, its, n, hk, hc, hd, hs, hz, r⟩
  · obtain ⟨z, its, n, r, e⟩ := h.ok I.hok
    exact ⟨its, r, ⟨_, n, e, rfl, rfl, rfl⟩, z⟩
  · refine ⟨its.toList, r, ⟨o, n, I.kIn a o hk, hc, hd, by simpa using hs⟩, ?_⟩
    have e := r.length
    simp only [Array.length_toList] at e
    omega
theorem Inv.tuple (I : Inv X pins σ H s) (h : SqT X.K H a xs) : ∃ its : List Value, Vals xs its ∧ IsTup s.heap a its.toArray ∧ xs.length ≤ sizeLine := by
  rcases h with h | ⟨o, its, n, hk, hc, hs, hz, r⟩
  · obtain ⟨z, its, r, p⟩ := h.ok I.hok
    exact ⟨its, r, p, z⟩
  · refine ⟨its.toList, r, ⟨o, I.kIn a o hk, hc, n, by simpa using hs⟩, ?_⟩
    have e := r.length
    simp only [Array.length_toList] at e
    omega
theorem Inv.list_inj (I : Inv X pins σ H s) (h : SqL X.K H a xs) (h' : SqL X.K H a ys) : xs = ys := by
  obtain ⟨its, r, ⟨o, n, e, _, _, d⟩, _⟩ := I.list h
  obtain ⟨its', r', ⟨o', n', e', _, _, d'⟩, _⟩ := I.list h'
  rw [e] at e'; cases e'
  rw [d] at d'
  injection d' with d1 _
  have : its = its' := by simpa using congrArg Array.toList d1
  subst this
  exact r.inj r'
theorem Inv.tuple_inj (I : Inv X pins σ H s) (h : SqT X.K H a xs) (h' : SqT X.K H a ys) : xs = ys := by
  obtain ⟨its, r, ⟨o, e, _, n, d⟩, _⟩ := I.tuple h
  obtain ⟨its', r', ⟨o', e', _, n', d'⟩, _⟩ := I.tuple h'
  rw [e] at e'; cases e'
  rw [d] at d'
  injection d' with d1 _
  have : its = its' := by simpa using congrArg Array.toList d1
  subst this
  exact r.inj r'
end
abbrev Cx.wish (X : Cx) (E : Value → Shared → Prop) : Cx := { X with xe := E }
abbrev Cx.nox (X : Cx) : Cx := X.wish fun _ _ => False
theorem Cx.Ok.wish {X : Cx} (ok : X.Ok) (E : Value → Shared → Prop) : (X.wish E).Ok :=
  ⟨ok.mod, ok.kind, ok.glob, ok.blt, ok.above, ok.inj, ok.has, ok.cab, ok.hd, ok.frames, ok.stk, ok.exf, ok.bs, ok.bsz, ok.noex, ok.exfs, ok.funs, ok.frf⟩
theorem Cx.Ok.unwish {X : Cx} {E : Value → Shared → Prop} (ok : (X.wish E).Ok) : X.Ok :=
  ⟨ok.mod, ok.kind, ok.glob, ok.blt, ok.above, ok.inj, ok.has, ok.cab, ok.hd, ok.frames, ok.stk, ok.exf, ok.bs, ok.bsz, ok.noex, ok.exfs, ok.funs, ok.frf⟩
section
variable {X : Cx} {pins : List (Addr × Obj)} {σ : St} {H : Hp} {s : Shared} {E : Value → Shared → Prop}
theorem Inv.wish (I : Inv X pins σ H s) (E : Value → Shared → Prop) : Inv (X.wish E) pins σ H s := ⟨I.ok.wish E, I.os, I.bare, I.base, I.loc, I.cell, I.free, I.freeC, I.pin, I.hok, I.len⟩
theorem Inv.unwish (I : Inv (X.wish E) pins σ H s) : Inv X pins σ H s := ⟨I.ok.unwish, I.os, I.bare, I.base, I.loc, I.cell, I.free, I.freeC, I.pin, I.hok, I.len⟩
theorem SP.unwish {D : Ends} {f : Flow} {s' : Shared} (h : SP (X.wish E) pins D f s') : SP X pins D f s' := by
  cases f with
  | next => obtain ⟨σ', H', I, q⟩ := h; exact ⟨σ', H', I.unwish, q⟩
  | brk => obtain ⟨σ', H', I, q⟩ := h; exact ⟨σ', H', I.unwish, q⟩
  | cont => obtain ⟨σ', H', I, q⟩ := h; exact ⟨σ', H', I.unwish, q⟩
  | ret u => obtain ⟨v, σ', H', I, r, q⟩ := h; exact ⟨v, σ', H', I.unwish, r, q⟩
theorem PE.nox {e : Expr} {t : TE} (h : PE X.nox e t) : PE X e t := fun pins s σ H Q I hw =>
  wpAny_mono (h pins s σ H Q (I.wish _) hw) (fun _ _ ⟨v, H', I', r, q⟩ => ⟨v, H', I'.unwish, r, q⟩) fun _ _ z => False.elim z
theorem PT.nox {e : Expr} {t : TT} (h : PT X.nox e t) : PT X e t := fun pins s σ H Q I hw =>
  wpAny_mono (h pins s σ H Q (I.wish _) hw) (fun _ _ ⟨H', I', q⟩ => ⟨H', I'.unwish, q⟩) fun _ _ z => False.elim z
theorem PSs.nox {st : List Stmt} {t : TS} (h : PSs X.nox st t) : PSs X st t := fun pins s σ H D I hw =>
  wpAny_mono (h pins s σ H D (I.wish _) hw) (fun _ _ q => q.unwish) fun _ _ z => False.elim z
end
section
variable {X : Cx} {st : Stmt} {rest : List Stmt} {t u : TS} {e : Expr} {te : TE} {pos : Pos}
def tNext : TS := fun D σ H => D.nx σ H
def tSeq (t u : TS) : TS := fun D σ H => t { D with nx := u D } σ H
theorem pss_nil : PSs X [] tNext := fun _ _ σ H _ I h => wpAny_execs_nil ⟨σ, H, I, h⟩
theorem pss_cons (h1 : PS X st t) (h2 : PSs X rest u) : PSs X (st :: rest) (tSeq t u) := by
  intro pins s σ H D I h
  refine wpAny_execs_cons (thn (h1 pins s σ H { D with nx := u D } I h) fun f s1 q => ?_)
  cases f with
  | next =>
    obtain ⟨σ', H', I', q⟩ := q
    exact h2 pins s1 σ' H' D I' q
  | ret v => exact q
  | brk => exact q
  | cont => exact q
theorem pss_one (h1 : PS X st t) : PSs X [st] t := by
  intro pins s σ H D I h
  refine wpAny_execs_cons (thn (h1 pins s σ H D I h) fun f s1 q => ?_)
  cases f with
  | next => exact wpAny_execs_nil q
  | ret v => exact q
  | brk => exact q
  | cont => exact q
def tBreak : TS := fun D σ H => D.bk σ H
def tCont : TS := fun D σ H => D.ct σ H
theorem Inv.quiet {pins : List (Addr × Obj)} {σ : St} {H : Hp} {s : Shared} (I : Inv X pins σ H s) : interactive X.env = false := by simp [interactive, I.ok.kind]
def tDrop (te : TE) : TS := fun D σ H => te σ H fun _ H1 => D.nx σ H1
theorem ps_expr (he : PE X e te) (hs : swapsWith e none pos.line X.env = pure false := by rfl) : PS X (.Expr e pos) (tDrop te) := by
  intro pins s σ H D I h
  exact wpAny_Expr_any (thn (he pins s σ H _ I h) fun v s1 ⟨x, H1, I1, r1, q1⟩ => ⟨σ, H1, I1, q1⟩) I.quiet hs
def tRet (te : TE) : TS := fun D σ H => te σ H D.rt
theorem ps_ret (he : PE X e te) : PS X (.Return (some e) pos) (tRet te) := by
  intro pins s σ H D I h
  exact wpAny_Return_some (thn (he pins s σ H _ I h) fun v s1 ⟨x, H1, I1, r1, q1⟩ => ⟨x, σ, H1, I1, r1, q1⟩)
def tRetN : TS := fun D _ H => D.rt .non H
def tIfS (c : TT) (t u : TS) : TS := fun D σ H => c σ H fun b H1 => if b = true then t D σ H1 else u D σ H1
theorem ps_if {c : Expr} {a b : List Stmt} {tc : TT} (hc : PT X c tc) (ha : PSs X a t) (hb : PSs X b u) : PS X (.If c a b pos) (tIfS tc t u) := by
  intro pins s σ H D I h
  refine wpAny_If (thn (hc pins s σ H _ I h) fun d s1 ⟨H1, I1, q1⟩ => ?_)
  cases d with
  | true => exact ha pins s1 σ H1 D I1 q1
  | false => exact hb pins s1 σ H1 D I1 q1
def tNever : TS := fun _ _ _ => False
end
abbrev TG := V → St → Hp → (St → Hp → Prop) → Prop
abbrev TGs := List V → St → Hp → (St → Hp → Prop) → Prop
def PG (X : Cx) (target : Expr) (t : TG) : Prop :=
  ∀ (pins : List (Addr × Obj)) (s : Shared) (σ : St) (H : Hp) (v : V) (u : Value) (Q : St → Hp → Prop), Inv X pins σ H s → RelV v u → t v σ H Q →
    wpAny (model X.prog X.w) X.A (assign target X.env u) (fun _ s' => ∃ σ' H', Inv X pins σ' H' s' ∧ Q σ' H') X.xe s
def PGs (X : Cx) (ts : List Expr) (t : TGs) : Prop :=
  ∀ (pins : List (Addr × Obj)) (s : Shared) (σ : St) (H : Hp) (vs : List V) (us : List Value) (Q : St → Hp → Prop), Inv X pins σ H s → Vals vs us → t vs σ H Q →
    wpAny (model X.prog X.w) X.A (assignInOrder ((assignEach ts X.env).map (·.2)) us) (fun _ s' => ∃ σ' H', Inv X pins σ' H' s' ∧ Q σ' H') X.xe s
abbrev TSet := V → V → V → Hp → (Hp → Prop) → Prop
def PSet (X : Cx) (t : TSet) : Prop :=
  ∀ (pins : List (Addr × Obj)) (s : Shared) (σ : St) (H : Hp) (o i v : V) (ov iv u : Value) (Q : Hp → Prop), Inv X pins σ H s → RelV o ov → RelV i iv → RelV v u → t o i v H Q →
    wpAny (model X.prog X.w) X.A (setItem ov iv u) (fun _ s' => ∃ H', Inv X pins σ H' s' ∧ Q H') X.xe s
abbrev TIp := V → V → Hp → VK → Prop
def PIp (X : Cx) (op : Operator) (t : TIp) : Prop :=
  ∀ (pins : List (Addr × Obj)) (s : Shared) (σ : St) (H : Hp) (x y : V) (v u : Value) (Q : VK), Inv X pins σ H s → RelV x v → RelV y u → t x y H Q →
    wpAny (model X.prog X.w) X.A (inplaceOp op v u) (EP X pins σ Q) X.xe s
section
variable {X : Cx} {pos : Pos}
def gName (i : Nat) : TG := fun v σ H Q => Q (σ.set i (some v)) H
theorem pg_name {i : Nat} {x : Str} (hN : X.N.Nodup) (hi : X.N[i]? = some x) (hx : Loc X.env.scope x) (hf : X.fn x = true ∨ X.env.scope.names.lookup x = some .local := by first | exact .inl rfl | exact .inr rfl | assumption) : PG X (.Name x pos) (gName i) := by
  intro pins s σ H v u Q I r h
  exact wpAny_assign_Name (store_ok I hN hi hx r (fun s' I' => ⟨_, H, I', h⟩) hf)
def gNil : TGs := fun vs σ H Q => vs = [] ∧ Q σ H
def gCons (t : TG) (u : TGs) : TGs := fun vs σ H Q => ∃ v r, vs = v :: r ∧ t v σ H fun σ' H' => u r σ' H' Q
theorem pgs_nil : PGs X [] gNil := by
  intro pins s σ H vs us Q I r h
  obtain ⟨e, h⟩ := h
  subst e
  cases r
  exact assignInOrder_nil ⟨σ, H, I, h⟩
theorem pgs_cons {e : Expr} {es : List Expr} {t : TG} {u : TGs} (h1 : PG X e t) (h2 : PGs X es u)
    (hs : (assignEach (e :: es) X.env).map (·.2) = assign e X.env :: (assignEach es X.env).map (·.2) := by rfl) : PGs X (e :: es) (gCons t u) := by
  intro pins s σ H vs us Q I r h
  obtain ⟨v, vr, e1, h⟩ := h
  subst e1
  cases r with
  | cons r rr =>
    rw [hs]
    refine assignInOrder_cons (thn (h1 pins s σ H _ _ _ I r h) fun _ s1 ⟨σ1, H1, I1, q1⟩ => ?_)
    exact h2 pins s1 σ1 H1 _ _ Q I1 rr q1
def gTup (K : PySem.W.Frag) (n : Nat) (t : TGs) : TG := fun v σ H Q => ∃ a xs, v = .ref a ∧ SqT K H a xs ∧ xs.length = n ∧ t xs σ H Q
theorem pg_tup {es : List Expr} {k : Nat} {t : TGs} {n : Nat} (hc : X.calm = true) (h : PGs X es t)
    (hn : (assignEach es X.env).length = n := by rfl) (hst : (assignEach es X.env).findIdx? (·.1) = none := by rfl) : PG X (.Tuple es k pos) (gTup X.K n t) := by
  intro pins s σ H v u Q I r hw
  obtain ⟨a, xs, e1, hq, hl, hw⟩ := hw
  subst e1
  cases r
  obtain ⟨its, rv, ht, hz⟩ := I.tuple hq
  refine assign_Tuple_tuple (I.ok.hd hc) ht (by simp [hn, ← hl, rv.length]) hst fun h' hx => ?_
  have I1 : Inv X pins σ H { s with heap := h' } := I.kept (t' := s.toks) fun b o e => hx b o (Nat.ne_of_lt (Heap.lt_size e)) e
  exact h pins _ σ H xs _ Q I1 (by simpa using rv) hw
def gSub (to ti : TE) (t : TSet) : TG := fun v σ H Q => to σ H fun o H1 => ti σ H1 fun i H2 => t o i v H2 fun H3 => Q σ H3
theorem pg_sub {o i : Expr} {to ti : TE} {t : TSet} (ho : PE X o to) (hi : PE X i ti) (hs : PSet X t)
    (ha : ∀ v, assign (.Subscript o i pos) X.env v = (do
      let ov ← holding [v] (eval o X.env)
      let iv ← holding [v, ov] (eval i X.env)
      standAt pos
      holding [v, ov, iv] (setItem ov iv v)
      release [v, ov, iv] []) := by intro _; rfl) : PG X (.Subscript o i pos) (gSub to ti t) := by
  intro pins s σ H v u Q I r h
  rw [ha]
  refine wpAny_bind (wpAny_holding (thn (ho pins s σ H _ I h) fun ov s1 ⟨x, H1, I1, r1, q1⟩ => ?_))
  refine wpAny_bind (wpAny_holding (thn (hi pins s1 σ H1 _ I1 q1) fun iv s2 ⟨y, H2, I2, r2, q2⟩ => ?_))
  refine wpAny_bind (wpAny_standAt (wpAny_bind (wpAny_holding (thn (hs pins s2 σ H2 x y v ov iv u _ I2 r1 r2 r q2) fun _ s3 ⟨H3, I3, q3⟩ => ?_))))
  exact wpAny_release ⟨σ, H3, I3, q3⟩
def tAsg (te : TE) (g : TG) : TS := fun D σ H => te σ H fun x H1 => g x σ H1 D.nx
theorem ps_asg {tg e : Expr} {te : TE} {g : TG} (he : PE X e te) (hg : PG X tg g) (hs : swapsWithSole [tg] e pos.line X.env = pure false := by rfl) (hw : swappedStores [tg] e X.env = pure none := by rfl)
    (h1 : (assignEach [tg] X.env).map (·.2) = [assign tg X.env] := by rfl) : PS X (.Assign [tg] e pos) (tAsg te g) := by
  intro pins s σ H D I h
  refine wpAny_Assign_stores (thn (he pins s σ H _ I h) fun v s1 ⟨x, H1, I1, r1, q1⟩ => ?_) hs hw
  rw [h1]
  exact thn (hg pins s1 σ H1 x v _ I1 r1 q1) fun _ s2 q => q
theorem ps_set {i : Nat} {x : Str} {e : Expr} {te : TE} {pos' : Pos} (hN : X.N.Nodup) (hi : X.N[i]? = some x) (hx : Loc X.env.scope x) (he : PE X e te) (hs : swapsWith e (some (.Name x pos')) pos.line X.env = pure false := by rfl) (hf : X.fn x = true ∨ X.env.scope.names.lookup x = some .local := by first | exact .inl rfl | exact .inr rfl | assumption) :
    PS X (.Assign [.Name x pos'] e pos) (tAsg te (gName i)) := by
  intro pins s σ H D I h
  refine wpAny_Assign_Name (thn (he pins s σ H _ I h) fun v s1 ⟨y, H1, I1, r1, q1⟩ => ?_) hs
  exact store_ok I1 hN hi hx r1 (fun s2 I2 => ⟨_, H1, I2, q1⟩) hf
def tPar (i j : Nat) (ta : TA) : TS := fun D σ H => ta σ H fun vs H1 => ∃ v w, vs = [v, w] ∧ D.nx ((σ.set i (some v)).set j (some w)) H1
def tAug (i : Nat) (te : TE) (ti : TIp) : TS := fun D σ H => ∃ x, σ[i]? = some (some x) ∧ te σ H fun y H1 => ti x y H1 fun z H2 => D.nx (σ.set i (some z)) H2
def tAugS (to ti te : TE) (tget : V → V → Hp → VK → Prop) (tip : TIp) (tset : TSet) : TS := fun D σ H => to σ H fun o H1 => ti σ H1 fun i H2 => tget o i H2 fun x H3 => te σ H3 fun y H4 => tip x y H4 fun z H5 => tset o i z H5 fun H6 => D.nx σ H6
def PGet (X : Cx) (t : V → V → Hp → VK → Prop) : Prop :=
  ∀ (pins : List (Addr × Obj)) (s : Shared) (σ : St) (H : Hp) (o i : V) (ov iv : Value) (Q : VK), Inv X pins σ H s → RelV o ov → RelV i iv → t o i H Q →
    wpAny (model X.prog X.w) X.A (getItem ov iv) (EP X pins σ Q) X.xe s
def ipI (f : Int → Int → Int) : TIp := fun x y H Q => ∃ i j, x = .int i ∧ y = .int j ∧ Q (.int (f i j)) H
end
section
variable {X : Cx} {pos : Pos}
def tWhile (c : TT) (tb : TS) : TS := fun D σ H => ∃ W : Nat → St → Hp → Prop, (∃ m, W m σ H) ∧ ∀ m σ H, W m σ H →
  c σ H fun b H1 => if b = true then ∃ N : St → Hp → Prop, (∀ σ' H', N σ' H' → ∃ m', m' < m ∧ W m' σ' H') ∧ tb { D with nx := N, ct := N, bk := D.nx } σ H1 else D.nx σ H1
end
structure It where
  go : Nat → Hp → Prop
  yld : Nat → Hp → V → Hp → Prop
  stop : Nat → Hp → Prop
def FpOk (X : Cx) (pins : List (Addr × Obj)) (H : Hp) (b : Addr) : Prop :=
  H b = none ∧ b ≠ X.env.locals ∧ b ∉ X.fs ∧ (b ∈ X.ex ∨ X.s₀.heap.objs.size ≤ b) ∧ (∀ x c, X.env.cells.lookup x = some c → c ≠ b) ∧ ∀ p ∈ X.pn ++ pins, p.1 ≠ b
theorem Inv.fpOk {X : Cx} {pins : List (Addr × Obj)} {σ : St} {H H' : Hp} {s : Shared} {b : Addr} (I : Inv X pins σ H s) (hb : s.heap.objs.size ≤ b) (hn : H' b = none) : FpOk X pins H' b := by
  refine ⟨hn, Nat.ne_of_gt (Nat.lt_of_lt_of_le I.lt hb), I.nofs hb, .inr (Nat.le_trans I.sz hb), fun x c e z => ?_, fun p hp z => ?_⟩
  · obtain ⟨v, q⟩ := I.cell x c e
    exact absurd (Nat.lt_of_lt_of_le q.lt (by rw [z]; exact hb)) (Nat.lt_irrefl _)
  · exact absurd (Nat.lt_of_lt_of_le (Heap.lt_size (I.pin p hp).1) (by rw [z]; exact hb)) (Nat.lt_irrefl _)
structure Turn (P : Program) (w : World) (K : PySem.W.Frag) (tg : Expr) (J : It) (fp : List Addr) (it : Addr) (tn : Nat → Heap → Prop) : Prop where
  mem : it ∈ fp
  obj : ∀ i h, tn i h → ∀ b ∈ fp, ∃ o, h.get? b = some o ∧ ∀ v, o.data ≠ .cell v
  keep : ∀ i h h', tn i h → (∀ b ∈ fp, ∀ o, h.get? b = some o → h'.get? b = some o) → tn i h'
  item : ∀ (X : Cx), X.prog = P → X.w = w → X.K = K → X.calm = true → ∀ (i : Nat) (pins : List (Addr × Obj)) (s : Shared) (σ : St) (H : Hp) (E : Value → Shared → Prop), Inv X pins σ H s → (∀ b ∈ fp, FpOk X pins H b) → tn i s.heap → J.go i H →
    wpAny (model P w) X.A (pyNext (.ref it)) (fun r s1 => ∃ u, r = some u ∧
      wpAny (model P w) X.A (letOwnedTupleGo tg (.ref it) u) (fun _ s2 => ∃ x H', Inv X pins σ H' s2 ∧ RelV x u ∧ J.yld i H x H' ∧ tn (i + 1) s2.heap ∧ ∀ b ∈ fp, H' b = none) E s1) E s
  done : ∀ (X : Cx), X.prog = P → X.w = w → X.K = K → X.calm = true → ∀ (i : Nat) (pins : List (Addr × Obj)) (s : Shared) (σ : St) (H : Hp) (E : Value → Shared → Prop), Inv X pins σ H s → (∀ b ∈ fp, FpOk X pins H b) → tn i s.heap → J.stop i H →
    wpAny (model P w) X.A (pyNext (.ref it)) (fun r s1 => r = none ∧ Inv X pins σ H s1) E s
  self : ∀ (A : Around) (i : Nat) (s : Shared) (Q : Value → Shared → Prop) (E : Value → Shared → Prop), tn i s.heap → Q (.ref it) s → wpAny (model P w) A (pyIter (.ref it)) Q E s
abbrev TI := St → Hp → (It → Hp → Prop) → Prop
def PIE (X : Cx) (pins : List (Addr × Obj)) (σ : St) (tg : Expr) (R : It → Hp → Prop) (itv : Value) (s2 : Shared) : Prop :=
  ∃ (it : Addr) (fp : List Addr) (tn : Nat → Heap → Prop) (J : It) (H' : Hp), itv = .ref it ∧ Inv X pins σ H' s2 ∧ Turn X.prog X.w X.K tg J fp it tn ∧ tn 0 s2.heap ∧ (∀ b ∈ fp, FpOk X pins H' b) ∧ R J H'
def PI (X : Cx) (tg iter : Expr) (wi : TI) : Prop :=
  ∀ (pins : List (Addr × Obj)) (s : Shared) (σ : St) (H : Hp) (R : It → Hp → Prop), Inv X pins σ H s → wi σ H R →
    wpAny (model X.prog X.w) X.A (eval iter X.env) (fun v s1 => wpAny (model X.prog X.w) X.A (pyIter v) (PIE X pins σ tg R) X.xe s1) X.xe s
theorem go_of {M : Model} {A : Around} {E : Value → Shared → Prop} {s : Shared} {tg : Expr} {it : Addr} {u : Value} {o : Obj} {n : String} {vs : Array Value} {Q : Unit → Shared → Prop} (ho : s.heap.get? it = some o) (hc : o.cls = .type n) (hd : o.data = .fields vs)
    (hn : ["enumerate", "zip", "dict_itemiterator", "dict_reverseitemiterator", "odict_iterator", "itertools.zip_longest", "itertools.pairwise"].contains n = false) (hQ : Q () s) : wpAny M A (letOwnedTupleGo tg (.ref it) u) Q E s := by
  unfold letOwnedTupleGo
  cases tg <;> first
    | exact wpAny_pure hQ
    | (cases u <;> first
        | exact wpAny_pure hQ
        | (refine wpAny_bind (wpAny_load ho ?_)
           rw [hc, hd]
           show wpAny M A (if (["enumerate", "zip", "dict_itemiterator", "dict_reverseitemiterator", "odict_iterator", "itertools.zip_longest", "itertools.pairwise"].contains n && vs[0]? == some (rawInt _)) = true then _ else _) Q E s
           rw [if_neg (by intro h; rw [hn, Bool.false_and] at h; cases h)]
           exact wpAny_pure hQ))
def Itl (K : PySem.W.Frag) (a : Addr) : It :=
  ⟨fun i H => ∃ xs x, SqL K H a xs ∧ xs[i]? = some x, fun i H x H' => H' = H ∧ ∀ xs, SqL K H a xs → xs[i]? = some x, fun i H => ∃ xs, SqL K H a xs ∧ xs.length ≤ i⟩
def Itt (K : PySem.W.Frag) (a : Addr) : It :=
  ⟨fun i H => ∃ xs x, SqT K H a xs ∧ xs[i]? = some x, fun i H x H' => H' = H ∧ ∀ xs, SqT K H a xs → xs[i]? = some x, fun i H => ∃ xs, SqT K H a xs ∧ xs.length ≤ i⟩
def Itr (lo : Int) (n : Nat) : It := ⟨fun i _ => i < n, fun i H x H' => H' = H ∧ x = .int (lo + i), fun i _ => n ≤ i⟩
theorem turn_list {P : Program} {w : World} {K : PySem.W.Frag} {tg : Expr} (a it : Addr) : Turn P w K tg (Itl K a) [it] it (fun i h => h.IsListIter it a i) where
  mem := by simp
  obj := fun i h st b hb => by
    have e : b = it := by simpa using hb
    subst e
    obtain ⟨o, e, c, d⟩ := st
    exact ⟨o, e, fun v z => by rw [d] at z; cases z⟩
  keep := fun i h h' st k => st.at fun o e => k it (by simp) o e
  item := by
    intro X hP hw hK hc i pins s σ H E I hf st hg
    subst hP hw hK
    obtain ⟨xs, x, hq, hx⟩ := hg
    obtain ⟨its, rv, p, hz⟩ := I.list hq
    obtain ⟨u, hu, ru⟩ := rv.get hx
    obtain ⟨f0, f1, f2, f3, f4, f5⟩ := hf it (by simp)
    refine wpAny_pyNext_list_item st p.isList (x := u) (by simpa using hu) fun h' st' sb => ?_
    have I1 : Inv X pins σ H { s with heap := h' } := I.turned (t' := s.toks) (fun b o hb e => (sb.2 b hb).trans e) f0 f1 f3 f4 f5
    obtain ⟨o, e, c, d⟩ := id st'
    exact ⟨u, rfl, go_of (s := { s with heap := h' }) e c d (by decide) ⟨x, H, I1, ru, ⟨rfl, fun ys hy => by rw [I.list_inj hy hq]; exact hx⟩, st', fun b hb => (hf b hb).1⟩⟩
  done := by
    intro X hP hw hK hc i pins s σ H E I hf st hg
    subst hP hw hK
    obtain ⟨xs, hq, hx⟩ := hg
    obtain ⟨its, rv, p, hz⟩ := I.list hq
    obtain ⟨f0, f1, f2, f3, f4, f5⟩ := hf it (by simp)
    have hl := rv.length
    exact wpAny_pyNext_list_end (I.ok.hd hc) st p.isList (by simp; omega) fun h' eb => ⟨rfl, I.turned (t' := s.toks) (fun b o hb e => eb b o hb e) f0 f1 f3 f4 f5⟩
  self := fun _ _ _ _ _ st h => wpAny_pyIter_listiter st h
theorem turn_tuple {P : Program} {w : World} {K : PySem.W.Frag} {tg : Expr} (a it : Addr) : Turn P w K tg (Itt K a) [it] it (fun i h => h.IsTupleIter it a i) where
  mem := by simp
  obj := fun i h st b hb => by
    have e : b = it := by simpa using hb
    subst e
    obtain ⟨o, e, c, d⟩ := st
    exact ⟨o, e, fun v z => by rw [d] at z; cases z⟩
  keep := fun i h h' st k => st.at fun o e => k it (by simp) o e
  item := by
    intro X hP hw hK hc i pins s σ H E I hf st hg
    subst hP hw hK
    obtain ⟨xs, x, hq, hx⟩ := hg
    obtain ⟨its, rv, p, hz⟩ := I.tuple hq
    obtain ⟨u, hu, ru⟩ := rv.get hx
    obtain ⟨f0, f1, f2, f3, f4, f5⟩ := hf it (by simp)
    refine wpAny_pyNext_tuple_item st (show s.heap.IsTuple a its.toArray from p) (x := u) (by simpa using hu) fun h' st' sb => ?_
    have I1 : Inv X pins σ H { s with heap := h' } := I.turned (t' := s.toks) (fun b o hb e => (sb.2 b hb).trans e) f0 f1 f3 f4 f5
    obtain ⟨o, e, c, d⟩ := id st'
    exact ⟨u, rfl, go_of (s := { s with heap := h' }) e c d (by decide) ⟨x, H, I1, ru, ⟨rfl, fun ys hy => by rw [I.tuple_inj hy hq]; exact hx⟩, st', fun b hb => (hf b hb).1⟩⟩
  done := by
    intro X hP hw hK hc i pins s σ H E I hf st hg
    subst hP hw hK
    obtain ⟨xs, hq, hx⟩ := hg
    obtain ⟨its, rv, p, hz⟩ := I.tuple hq
    obtain ⟨f0, f1, f2, f3, f4, f5⟩ := hf it (by simp)
    have hl := rv.length
    exact wpAny_pyNext_tuple_end (I.ok.hd hc) st (show s.heap.IsTuple a its.toArray from p) (by simp; omega) fun h' eb => ⟨rfl, I.turned (t' := s.toks) (fun b o hb e => eb b o hb e) f0 f1 f3 f4 f5⟩
  self := fun _ _ _ _ _ st h => wpAny_pyIter_tupleiter st h
theorem turn_range {P : Program} {w : World} {K : PySem.W.Frag} {tg : Expr} (it : Addr) (lo : Int) (n : Nat) : Turn P w K tg (Itr lo n) [it] it (fun i h => IsRangeIter h it (lo + (i : Nat) * 1) ((n : Int) - (i : Nat)) 1) where
  mem := by simp
  obj := fun i h st b hb => by
    have e : b = it := by simpa using hb
    subst e
    exact ⟨_, st, fun v z => by
      have z' : Data.fields _ = Data.cell v := z
      cases z'⟩
  keep := fun i h h' st k => k it (by simp) _ st
  item := by
    intro X hP hw hK hc i pins s σ H E I hf st hg
    subst hP hw hK
    obtain ⟨f0, f1, f2, f3, f4, f5⟩ := hf it (by simp)
    have W := Walks.range (prog := X.prog) (w := X.w) (I.ok.hd hc) it lo 1 n
    refine W.item i s _ _ hg st fun v h' tk hv st' kk => ?_
    obtain ⟨t, rfl⟩ := hv
    have I1 : Inv X pins σ H { s with heap := h', toks := tk } := I.turned (fun b o hb e => kk b o (by simpa using hb) e) f0 f1 f3 f4 f5
    refine ⟨_, rfl, go_of (s := { s with heap := h', toks := tk }) (n := "range_iterator") st' rfl rfl (by decide) ⟨.int (lo + i), H, I1, ⟨t, ?_⟩, ⟨rfl, rfl⟩, st', fun b hb => (hf b hb).1⟩⟩
    rw [Int.mul_one]
  done := by
    intro X hP hw hK hc i pins s σ H E I hf st hg
    subst hP hw hK
    obtain ⟨f0, f1, f2, f3, f4, f5⟩ := hf it (by simp)
    exact wpAny_pyNext_range_end (I.ok.hd hc) st (by have : n ≤ i := hg; omega) fun h' eb => ⟨rfl, I.turned (t' := s.toks) (fun b o hb e => eb b o hb e) f0 f1 f3 f4 f5⟩
  self := fun _ _ _ _ _ st h => wpAny_pyIter_rangeiter st h
end L2
namespace L2
open PySem PySem.Spec PyProof.Rows
section
variable {X : Cx} {tg : Expr}
def iList (K : PySem.W.Frag) (tl : TE) : TI := fun σ H R => tl σ H fun x H1 => ∃ a, x = .ref a ∧ (∃ xs, SqL K H1 a xs) ∧ R (Itl K a) H1
def iTup (K : PySem.W.Frag) (tl : TE) : TI := fun σ H R => tl σ H fun x H1 => ∃ a, x = .ref a ∧ (∃ xs, SqT K H1 a xs) ∧ R (Itt K a) H1
theorem pi_list {l : Expr} {tl : TE} (hl : PE X l tl) : PI X tg l (iList X.K tl) := by
  intro pins s σ H R I h
  refine thn (hl pins s σ H _ I h) fun v s1 ⟨x, H1, I1, r1, q1⟩ => ?_
  obtain ⟨a, e, ⟨xs, hq⟩, q⟩ := q1
  subst e
  cases r1
  obtain ⟨its, rv, p, hz⟩ := I1.list hq
  refine wpAny_pyIter_list p.isList ?_
  refine ⟨s1.heap.objs.size, [s1.heap.objs.size], _, _, H1, rfl, I1.kept (t' := s1.toks) fun b o e => Heap.get?_push_of_some _ e, turn_list a _, ⟨_, Heap.get?_push_size _ rfl, rfl, rfl⟩, fun b hb => ?_, q⟩
  have e : b = s1.heap.objs.size := by simpa using hb
  subst e
  exact I1.fpOk (Nat.le_refl _) (I1.hok.fresh (Nat.le_refl _))
theorem pi_tup {l : Expr} {tl : TE} (hl : PE X l tl) : PI X tg l (iTup X.K tl) := by
  intro pins s σ H R I h
  refine thn (hl pins s σ H _ I h) fun v s1 ⟨x, H1, I1, r1, q1⟩ => ?_
  obtain ⟨a, e, ⟨xs, hq⟩, q⟩ := q1
  subst e
  cases r1
  obtain ⟨its, rv, p, hz⟩ := I1.tuple hq
  refine wpAny_pyIter_tuple (show s1.heap.IsTuple a its.toArray from p) ?_
  refine ⟨s1.heap.objs.size, [s1.heap.objs.size], _, _, H1, rfl, I1.kept (t' := s1.toks) fun b o e => Heap.get?_push_of_some _ e, turn_tuple a _, ⟨_, Heap.get?_push_size _ rfl, rfl, rfl⟩, fun b hb => ?_, q⟩
  have e : b = s1.heap.objs.size := by simpa using hb
  subst e
  exact I1.fpOk (Nat.le_refl _) (I1.hok.fresh (Nat.le_refl _))
theorem range_it {pins : List (Addr × Obj)} {σ : St} {H : Hp} {s : Shared} {R : It → Hp → Prop} {E : Value → Shared → Prop} {lo hi : Int} {t u v : Tok} {tk : Nat} (I : Inv X pins σ H s) (h1 : -(2 ^ 62) ≤ lo) (h2 : lo < 2 ^ 62) (h3 : -(2 ^ 62) ≤ hi) (h4 : hi < 2 ^ 62)
    (q : R (Itr lo (hi - lo).toNat) H) : wpAny (model X.prog X.w) X.A (pyIter (.ref s.heap.objs.size)) (PIE X pins σ tg R) E { s with heap := s.heap.push { cls := .type "range", data := .fields #[.int lo t, .int hi u, .int 1 v] }, toks := tk } := by
  refine wpAny_pyIter_range (IsRange.new ..) (small_one h1 h2 h3 h4) ?_
  have I1 : Inv X pins σ H { s with heap := s.heap.push { cls := .type "range", data := .fields #[.int lo t, .int hi u, .int 1 v] }, toks := tk } := I.kept fun b o e => Heap.get?_push_of_some _ e
  refine ⟨(s.heap.push { cls := .type "range", data := .fields #[.int lo t, .int hi u, .int 1 v] }).objs.size, [(s.heap.push { cls := .type "range", data := .fields #[.int lo t, .int hi u, .int 1 v] }).objs.size], _, _, H, rfl,
    I1.kept (t' := tk) fun b o e => Heap.get?_push_of_some _ e, turn_range _ lo (hi - lo).toNat, ?_, fun b hb => ?_, q⟩
  · have e1 : lo + ((0 : Nat) : Int) * 1 = lo := by simp
    have e2 : (((hi - lo).toNat : Nat) : Int) - ((0 : Nat) : Int) = Builtin.Range.rangeSize lo hi 1 := by rw [rangeSize_one]; split <;> omega
    show IsRangeIter _ _ (lo + ((0 : Nat) : Int) * 1) ((((hi - lo).toNat : Nat) : Int) - ((0 : Nat) : Int)) 1
    rw [e1, e2]
    exact Heap.get?_push_size _ rfl
  · have e : b = (s.heap.push { cls := .type "range", data := .fields #[.int lo t, .int hi u, .int 1 v] }).objs.size := by simpa using hb
    subst e
    exact I1.fpOk (Nat.le_refl _) (I1.hok.fresh (Nat.le_refl _))
def iRng1 (ta : TA) : TI := fun σ H R => ta σ H fun vs H1 => ∃ j : Int, vs = [.int j] ∧ -(2 ^ 62) ≤ j ∧ j < 2 ^ 62 ∧ R (Itr 0 j.toNat) H1
def iRng2 (ta : TA) : TI := fun σ H R => ta σ H fun vs H1 => ∃ i j : Int, vs = [.int i, .int j] ∧ (-(2 ^ 62) ≤ i ∧ i < 2 ^ 62 ∧ -(2 ^ 62) ≤ j ∧ j < 2 ^ 62) ∧ R (Itr i (j - i).toNat) H1
theorem pi_range1 {a : Expr} {ta : TA} {p pos : Pos} (hg : Gl X "range") (hm : X.mg "range" = none) (ha : PA X [a] ta) (hs : starEach [a] X.env = [(false, eval a X.env)] := by rfl) : PI X tg (.Call (.Name "range" p) [a] [] pos) (iRng1 ta) := by
  intro pins s σ H R I h
  refine Call_ (ld_blt I hg hm boot_range (PyProof.Rows.callWith_type1 (thn (ha pos pins s σ H _ I h) fun us s1 ⟨vs, H1, I1, r1, q1⟩ => ?_) hs rfl))
  obtain ⟨j, e, q1, q2, q⟩ := q1
  subst e
  cases r1 with
  | cons r rr =>
    cases rr
    obtain ⟨t, rfl⟩ := r
    exact call_range_1 (range_it I1 (by omega) (by omega) q1 q2 (by simpa using q))
def tFor (wi : TI) (g : TG) (tb : TS) : TS := fun D σ H => wi σ H fun J H1 => ∃ W : Nat → Nat → St → Hp → Prop, (∃ m, W 0 m σ H1) ∧ ∀ i m σ H, W i m σ H →
  (J.stop i H ∧ D.nx σ H) ∨ (J.go i H ∧ ∃ N : St → Hp → Prop, (∀ σ' H', N σ' H' → ∃ m', m' < m ∧ W (i + 1) m' σ' H') ∧ ∀ x H', J.yld i H x H' → g x σ H' fun σ2 H2 => tb { D with nx := N, ct := N, bk := D.nx } σ2 H2)
def pinsAt (fp : List Addr) (h : Heap) : List (Addr × Obj) := fp.filterMap fun b => (h.get? b).map fun o => (b, o)
theorem mem_pinsAt {fp : List Addr} {h : Heap} {b : Addr} {o : Obj} (hb : b ∈ fp) (e : h.get? b = some o) : (b, o) ∈ pinsAt fp h := List.mem_filterMap.mpr ⟨b, hb, by rw [e]; rfl⟩
theorem of_pinsAt {fp : List Addr} {h : Heap} {p : Addr × Obj} (hp : p ∈ pinsAt fp h) : p.1 ∈ fp ∧ h.get? p.1 = some p.2 := by
  obtain ⟨b, hb, e⟩ := List.mem_filterMap.mp hp
  cases q : h.get? b with
  | none => rw [q] at e; cases e
  | some o =>
    rw [q] at e
    have e' : (b, o) = p := Option.some.inj e
    subst e'
    exact ⟨hb, q⟩
theorem Inv.pinned {pins : List (Addr × Obj)} {σ : St} {H : Hp} {s : Shared} {fp : List Addr} (I : Inv X pins σ H s) (hf : ∀ b ∈ fp, FpOk X pins H b) (ho : ∀ b ∈ fp, ∃ o, s.heap.get? b = some o ∧ ∀ v, o.data ≠ .cell v) : Inv X (pins ++ pinsAt fp s.heap) σ H s :=
  I.pins_of fun p hp => (List.mem_append.mp hp).elim (fun z => I.pin p (List.mem_append_right _ z)) fun z => by
    obtain ⟨hb, e⟩ := of_pinsAt z
    obtain ⟨f0, f1, f2, _⟩ := hf p.1 hb
    obtain ⟨o, e', d⟩ := ho p.1 hb
    rw [e] at e'; cases e'
    exact ⟨e, f0, f1, f2, d⟩
theorem Inv.unpinned {pins pl : List (Addr × Obj)} {σ : St} {H : Hp} {s : Shared} (I : Inv X (pins ++ pl) σ H s) : Inv X pins σ H s := I.pins_of fun p hp => I.pin p (List.mem_append_right _ (List.mem_append_left _ hp))
theorem ps_for {iter : Expr} {body : List Stmt} {wi : TI} {g : TG} {tb : TS} {pos : Pos} (hp : PassesOwn (model X.prog X.w) X.A X.env X.xe) (hc : X.calm = true) (hi : PI X tg iter wi) (hg : PG X tg g) (hb : PSs X body tb)
    (hs : ∀ x, foldedSetIterable iter X.env x = pure x := by intro _; rfl) : PS X (.For tg iter body [] pos) (tFor wi g tb) := by
  intro pins s σ H D I h
  refine wpAny_For (thn (hi pins s σ H _ I h) fun v s1 h1 => thn h1 fun itv s2 h2 => ?_) hs
  obtain ⟨it, fp, tn, J, H2, e, I2, T, st2, f2, W, ⟨m0, w0⟩, turn⟩ := h2
  subst e
  have stat : ∀ {H' : Hp}, (∀ b ∈ fp, H' b = none) → ∀ b ∈ fp, FpOk X pins H' b := fun hn b hb => ⟨hn b hb, (f2 b hb).2⟩
  refine codeAny_forLoop_any (fun n s' => ∃ i σ' H', Inv X pins σ' H' s' ∧ tn i s'.heap ∧ (∀ b ∈ fp, H' b = none) ∧ W i n σ' H') ?_ m0 ⟨0, σ, H2, I2, st2, fun b hb => (f2 b hb).1, w0⟩
  rintro n s3 ⟨i, σ3, H3, I3, st3, fr3, w3⟩
  rcases turn i n σ3 H3 w3 with ⟨stop, qn⟩ | ⟨go, N, hN, step⟩
  · refine wpAny_passesOwn hp (thn (T.done X rfl rfl rfl hc i pins s3 σ3 H3 X.xe I3 (stat fr3) st3 stop) fun r s4 ⟨hr, I4⟩ => ?_)
    subst hr
    exact wpAny_execs_nil ⟨σ3, H3, I4, qn⟩
  · refine wpAny_passesOwn hp (thn (T.item X rfl rfl rfl hc i pins s3 σ3 H3 X.xe I3 (stat fr3) st3 go) fun r s4 ⟨u, hr, h4⟩ => ?_)
    subst hr
    refine wpAny_passesOwn hp (thn h4 fun _ s5 ⟨x, H5, I5, r5, y5, st5, fr5⟩ => ?_)
    have I5' := I5.pinned (stat fr5) (T.obj _ _ st5)
    refine wpAny_passesOwn hp (thn (hg _ s5 σ3 H5 x u _ I5' r5 (step x H5 y5)) fun _ s6 ⟨σ6, H6, I6, q6⟩ => ?_)
    refine wpAny_passesOwn hp (thn (hb _ s6 σ6 H6 _ I6 q6) fun f s7 q7 => ?_)
    have again : ∀ {σ7 : St} {H7 : Hp}, Inv X (pins ++ pinsAt fp s5.heap) σ7 H7 s7 → N σ7 H7 → ∃ m, m < n ∧ ∃ i σ' H', Inv X pins σ' H' s7 ∧ tn i s7.heap ∧ (∀ b ∈ fp, H' b = none) ∧ W i m σ' H' := fun {σ7 H7} I7 n7 => by
      obtain ⟨m', hm, w7⟩ := hN σ7 H7 n7
      refine ⟨m', hm, i + 1, σ7, H7, I7.unpinned, T.keep _ _ _ st5 fun b hb o e => (I7.pin (b, o) (List.mem_append_right _ (List.mem_append_right _ (mem_pinsAt hb e)))).1, fun b hb => ?_, w7⟩
      obtain ⟨o, e, d⟩ := T.obj _ _ st5 b hb
      exact (I7.pin (b, o) (List.mem_append_right _ (List.mem_append_right _ (mem_pinsAt hb e)))).2.1
    cases f with
    | next => obtain ⟨σ7, H7, I7, n7⟩ := q7; exact again I7 n7
    | cont => obtain ⟨σ7, H7, I7, n7⟩ := q7; exact again I7 n7
    | brk => obtain ⟨σ7, H7, I7, q7⟩ := q7; exact ⟨σ7, H7, I7.unpinned, q7⟩
    | ret v => obtain ⟨x7, σ7, H7, I7, r7, q7⟩ := q7; exact ⟨x7, σ7, H7, I7.unpinned, r7, q7⟩
end
theorem for_list {K : PySem.W.Frag} {a : Addr} {xs : List V} {g : TG} {tb : TS} {D : Ends} {σ : St} {H : Hp} (Pv : Nat → St → Hp → Prop) (h0 : Pv 0 σ H) (hl : ∀ i σ H, i ≤ xs.length → Pv i σ H → SqL K H a xs)
    (hs : ∀ i x σ H, xs[i]? = some x → Pv i σ H → g x σ H fun σ2 H2 => tb { D with nx := Pv (i + 1), ct := Pv (i + 1), bk := D.nx } σ2 H2) (hd : ∀ σ H, Pv xs.length σ H → D.nx σ H) :
    ∃ W : Nat → Nat → St → Hp → Prop, (∃ m, W 0 m σ H) ∧ ∀ i m σ H, W i m σ H →
      ((Itl K a).stop i H ∧ D.nx σ H) ∨ ((Itl K a).go i H ∧ ∃ N : St → Hp → Prop, (∀ σ' H', N σ' H' → ∃ m', m' < m ∧ W (i + 1) m' σ' H') ∧ ∀ x H', (Itl K a).yld i H x H' → g x σ H' fun σ2 H2 => tb { D with nx := N, ct := N, bk := D.nx } σ2 H2) := by
  refine ⟨fun i m σ H => m = xs.length - i ∧ i ≤ xs.length ∧ Pv i σ H, ⟨xs.length, by simp, Nat.zero_le _, h0⟩, ?_⟩
  rintro i m σ H ⟨rfl, hi, p⟩
  have q := hl i σ H hi p
  by_cases hlt : i < xs.length
  · refine .inr ⟨⟨xs, xs[i], q, by simp [hlt]⟩, Pv (i + 1), fun σ' H' p' => ⟨xs.length - (i + 1), by omega, rfl, hlt, p'⟩, fun x H' y => ?_⟩
    obtain ⟨e, y⟩ := y
    subst e
    exact hs i x σ _ (y xs q) p
  · have e : i = xs.length := by omega
    subst e
    exact .inl ⟨⟨xs, q, Nat.le_refl _⟩, hd σ H p⟩
theorem for_range {lo : Int} {n : Nat} {g : TG} {tb : TS} {D : Ends} {σ : St} {H : Hp} (Pv : Nat → St → Hp → Prop) (h0 : Pv 0 σ H)
    (hs : ∀ i σ H, i < n → Pv i σ H → g (.int (lo + i)) σ H fun σ2 H2 => tb { D with nx := Pv (i + 1), ct := Pv (i + 1), bk := D.nx } σ2 H2) (hd : ∀ σ H, Pv n σ H → D.nx σ H) :
    ∃ W : Nat → Nat → St → Hp → Prop, (∃ m, W 0 m σ H) ∧ ∀ i m σ H, W i m σ H →
      ((Itr lo n).stop i H ∧ D.nx σ H) ∨ ((Itr lo n).go i H ∧ ∃ N : St → Hp → Prop, (∀ σ' H', N σ' H' → ∃ m', m' < m ∧ W (i + 1) m' σ' H') ∧ ∀ x H', (Itr lo n).yld i H x H' → g x σ H' fun σ2 H2 => tb { D with nx := N, ct := N, bk := D.nx } σ2 H2) := by
  refine ⟨fun i m σ H => m = n - i ∧ i ≤ n ∧ Pv i σ H, ⟨n, by simp, Nat.zero_le _, h0⟩, ?_⟩
  rintro i m σ H ⟨rfl, hi, p⟩
  by_cases hlt : i < n
  · refine .inr ⟨hlt, Pv (i + 1), fun σ' H' p' => ⟨n - (i + 1), by omega, rfl, hlt, p'⟩, fun x H' y => ?_⟩
    obtain ⟨e, y⟩ := y
    subst e y
    exact hs i σ _ hlt p
  · have e : i = n := by omega
    subst e
    exact .inl ⟨Nat.le_refl _, hd σ H p⟩
end L2
namespace L2
open PySem PySem.Spec PyProof.Rows
abbrev R2 := V → V → Hp → VK → Prop
def OpR (X : Cx) (f : Value → Value → Sem Value) (r : R2) : Prop :=
  ∀ (pins : List (Addr × Obj)) (s : Shared) (σ : St) (H : Hp) (x y : V) (v u : Value) (Q : VK), Inv X pins σ H s → RelV x v → RelV y u → r x y H Q →
    wpAny (model X.prog X.w) X.A (f v u) (EP X pins σ Q) X.xe s
def UnR (X : Cx) (f : Value → Sem Value) (r : V → Hp → VK → Prop) : Prop :=
  ∀ (pins : List (Addr × Obj)) (s : Shared) (σ : St) (H : Hp) (x : V) (v : Value) (Q : VK), Inv X pins σ H s → RelV x v → r x H Q →
    wpAny (model X.prog X.w) X.A (f v) (EP X pins σ Q) X.xe s
def CallR (X : Cx) (f : Value) (r : List V → Hp → VK → Prop) : Prop :=
  ∀ (pins : List (Addr × Obj)) (s : Shared) (σ : St) (H : Hp) (xs : List V) (us : List Value) (Q : VK), Inv X pins σ H s → Vals xs us → r xs H Q →
    wpAny (model X.prog X.w) X.A (call f us) (EP X pins σ Q) X.xe s
def TruR (X : Cx) (r : V → Hp → (Bool → Hp → Prop) → Prop) : Prop :=
  ∀ (pins : List (Addr × Obj)) (s : Shared) (σ : St) (H : Hp) (x : V) (v : Value) (Q : Bool → Hp → Prop), Inv X pins σ H s → RelV x v → r x H Q →
    wpAny (model X.prog X.w) X.A (truthy v) (TP X pins σ Q) X.xe s
def tOp (r : R2) (ta tb : TE) : TE := fun σ H Q => ta σ H fun x H1 => tb σ H1 fun y H2 => r x y H2 Q
def tUn (r : V → Hp → VK → Prop) (ta : TE) : TE := fun σ H Q => ta σ H fun x H1 => r x H1 Q
def rI (C : Int → Int → Prop) (g : Int → Int → V) : R2 := fun x y H Q => ∃ i j, x = .int i ∧ y = .int j ∧ C i j ∧ Q (g i j) H
def rI0 (g : Int → Int → V) : R2 := fun x y H Q => ∃ i j, x = .int i ∧ y = .int j ∧ Q (g i j) H
def rU (g : Int → V) : V → Hp → VK → Prop := fun x H Q => ∃ i, x = .int i ∧ Q (g i) H
section
variable {X : Cx} {a b c : Expr} {ta tb tc : TE} {pos : Pos}
theorem binT (ha : PE X a ta) (hb : PE X b tb) {pins : List (Addr × Obj)} {s : Shared} {σ : St} {H : Hp} {R : V → V → Hp → Prop} (I : Inv X pins σ H s)
    (h : ta σ H fun x H1 => tb σ H1 fun y H2 => R x y H2) {Q : Value → Shared → Prop} {f : Value → Value → Sem Value}
    (hf : ∀ v u s2 x y H2, Inv X pins σ H2 s2 → RelV x v → RelV y u → R x y H2 → wpAny (model X.prog X.w) X.A (f v u) Q X.xe s2) :
    wpAny (model X.prog X.w) X.A (eval a X.env) (fun v s₁ => wpAny (model X.prog X.w) X.A (eval b X.env) (fun u s₂ => wpAny (model X.prog X.w) X.A (f v u) Q X.xe s₂) X.xe s₁) X.xe s := by
  refine thn (ha pins s σ H _ I h) fun v s1 ⟨x, H1, I1, r1, q1⟩ => ?_
  refine thn (hb pins s1 σ H1 _ I1 q1) fun u s2 ⟨y, H2, I2, r2, q2⟩ => ?_
  exact hf v u s2 x y H2 I2 r1 r2 q2
theorem pe_op {op : Operator} {r : R2} (ho : OpR X (binaryOp op) r) (ha : PE X a ta) (hb : PE X b tb) : PE X (.BinOp a op b pos) (tOp r ta tb) := by
  intro pins s σ H Q I h
  exact wpAny_BinOp (binT ha hb I h fun v u s2 x y H2 I2 rx ry q => ho pins s2 σ H2 x y v u Q I2 rx ry q)
theorem pe_un {op : UnaryOp} {r : V → Hp → VK → Prop} (ho : UnR X (unaryOp op) r) (ha : PE X a ta) : PE X (.UnaryOp op a pos) (tUn r ta) := by
  intro pins s σ H Q I h
  exact UnaryOp_ (thn (ha pins s σ H _ I h) fun v s1 ⟨x, H1, I1, r1, q1⟩ => ho pins s1 σ H1 x v Q I1 r1 q1)
theorem opI {f : Value → Value → Sem Value} {C : Int → Int → Prop} {g : Int → Int → Int}
    (rule : ∀ (i j : Int) (t u : Tok) (s : Shared) (Q : Value → Shared → Prop) (E : Value → Shared → Prop), C i j → Q (.int (g i j) s.toks) { s with toks := s.toks + 1 } → wpAny (model X.prog X.w) X.A (f (.int i t) (.int j u)) Q E s) :
    OpR X f (rI C fun i j => .int (g i j)) := by
  intro pins s σ H x y v u Q I rx ry h
  obtain ⟨i, j, rfl, rfl, hc, q⟩ := h
  obtain ⟨t, rfl⟩ := rx
  obtain ⟨t', rfl⟩ := ry
  exact rule i j t t' s _ _ hc ⟨.int (g i j), H, I.tok _, ⟨_, rfl⟩, q⟩
theorem opI0 {f : Value → Value → Sem Value} {g : Int → Int → Int}
    (rule : ∀ (i j : Int) (t u : Tok) (s : Shared) (Q : Value → Shared → Prop) (E : Value → Shared → Prop), Q (.int (g i j) s.toks) { s with toks := s.toks + 1 } → wpAny (model X.prog X.w) X.A (f (.int i t) (.int j u)) Q E s) :
    OpR X f (rI0 fun i j => .int (g i j)) := by
  intro pins s σ H x y v u Q I rx ry h
  obtain ⟨i, j, rfl, rfl, q⟩ := h
  obtain ⟨t, rfl⟩ := rx
  obtain ⟨t', rfl⟩ := ry
  exact rule i j t t' s _ _ ⟨.int (g i j), H, I.tok _, ⟨_, rfl⟩, q⟩
theorem opB0 {f : Value → Value → Sem Value} {g : Int → Int → Bool}
    (rule : ∀ (i j : Int) (t u : Tok) (s : Shared) (Q : Value → Shared → Prop) (E : Value → Shared → Prop), Q (.bool (g i j)) s → wpAny (model X.prog X.w) X.A (f (.int i t) (.int j u)) Q E s) :
    OpR X f (rI0 fun i j => .bl (g i j)) := by
  intro pins s σ H x y v u Q I rx ry h
  obtain ⟨i, j, rfl, rfl, q⟩ := h
  obtain ⟨t, rfl⟩ := rx
  obtain ⟨t', rfl⟩ := ry
  exact rule i j t t' s _ _ ⟨.bl (g i j), H, I, rfl, q⟩
def CDiv (i j : Int) : Prop := 0 < j ∧ j < 1073741824
def CDivN (i j : Int) : Prop := j ≠ 0 ∧ j.natAbs < 1073741824
def CPow (i j : Int) : Prop := 0 ≤ j ∧ j ≤ 1000000 ∧ i.natAbs < 2 ^ 64
def CMul (i j : Int) : Prop := (-(2 ^ 64) < i ∧ i < 2 ^ 64) ∨ (-(2 ^ 64) < j ∧ j < 2 ^ 64)
theorem CMul.ok {i j : Int} (h : CMul i j) : IntMulOk i j := by
  rcases h with ⟨h1, h2⟩ | ⟨h1, h2⟩
  · exact .of_left (intBits_le_64 h1 h2)
  · exact .of_right (intBits_le_64 h1 h2)
theorem two_pow_nn (k : Nat) : (0 : Int) ≤ 2 ^ k := by
  rw [two_pow_cast]
  exact Int.natCast_nonneg _
theorem op_add : OpR X (binaryOp .Add) (rI0 fun i j => .int (i + j)) := opI0 fun _ _ _ _ _ _ _ q => add_int q
theorem op_sub : OpR X (binaryOp .Sub) (rI0 fun i j => .int (i - j)) := opI0 fun _ _ _ _ _ _ _ q => sub_int q
theorem op_mul : OpR X (binaryOp .Mult) (rI CMul fun i j => .int (i * j)) := opI fun _ _ _ _ _ _ _ hc q => mul_int q hc.ok
theorem op_fdiv : OpR X (binaryOp .FloorDiv) (rI CDiv fun i j => .int (i / j)) := opI fun i j _ _ _ _ _ hc q => by
  have h1 : (0 : Int) < j := hc.1
  have h2 : j < 1073741824 := hc.2
  exact floordiv_int (by omega) (by rw [Int.fdiv_eq_ediv_of_nonneg i (by omega)]; exact q) (.inl (PyProof.noPylong_small (by omega)))
theorem op_mod : OpR X (binaryOp .Mod) (rI (fun _ j => 0 < j) fun i j => .int (i % j)) := opI fun i j _ _ _ _ _ hc q => by
  have h1 : (0 : Int) < j := hc
  exact mod_int' (by omega) (by rw [Int.fmod_eq_emod_of_nonneg i (by omega)]; exact q)
theorem op_pow : OpR X (binaryOp .Pow) (rI CPow fun i j => .int (i ^ j.toNat)) := opI fun _ _ _ _ _ _ _ hc q => pow_int_small hc.1 hc.2.1 hc.2.2 q
theorem op_shl : OpR X (binaryOp .LShift) (rI CPow fun i j => .int (i * 2 ^ j.toNat)) := opI fun _ _ _ _ _ _ _ hc q => lshift_int_small hc.1 hc.2.1 hc.2.2 q
theorem op_shr : OpR X (binaryOp .RShift) (rI (fun _ j => 0 ≤ j) fun i j => .int (i / 2 ^ j.toNat)) := opI fun i j _ _ _ _ _ hc q =>
  rshift_int hc (by rw [Int.fdiv_eq_ediv_of_nonneg i (two_pow_nn _)]; exact q)
theorem op_and : OpR X (binaryOp .BitAnd) (rI0 fun i j => .int (Builtin.bitAnd i j)) := opI0 fun _ _ _ _ _ _ _ q => and_int q
theorem unI {f : Value → Sem Value} {g : Int → Int}
    (rule : ∀ (i : Int) (t : Tok) (s : Shared) (Q : Value → Shared → Prop) (E : Value → Shared → Prop), Q (.int (g i) s.toks) { s with toks := s.toks + 1 } → wpAny (model X.prog X.w) X.A (f (.int i t)) Q E s) :
    UnR X f (rU fun i => .int (g i)) := by
  intro pins s σ H x v Q I rx h
  obtain ⟨i, rfl, q⟩ := h
  obtain ⟨t, rfl⟩ := rx
  exact rule i t s _ _ ⟨.int (g i), H, I.tok _, ⟨_, rfl⟩, q⟩
theorem un_neg : UnR X (unaryOp .USub) (rU fun i => .int (-i)) := unI fun _ _ _ _ _ q => neg_int q
end
def scal : V → V → Bool
  | .non, .non => true | .non, .int _ => true | .int _, .non => true | .non, .bl _ => true | .bl _, .non => true | .non, .str _ => true | .str _, .non => true
  | .int _, .int _ => true | .bl _, .bl _ => true | .str _, .str _ => true | .byt _, .byt _ => true
  | .int _, .str _ => true | .str _, .int _ => true | .bl _, .str _ => true | .str _, .bl _ => true
  | _, _ => false
def rEq : R2 := fun x y H Q => scal x y = true ∧ Q (.bl (decide (x = y))) H
def rNe : R2 := fun x y H Q => scal x y = true ∧ Q (.bl (!decide (x = y))) H
theorem dec_int {i j : Int} : decide (V.int i = V.int j) = (i == j) := by
  rw [Bool.eq_iff_iff]
  simp
theorem dec_bl {i j : Bool} : decide (V.bl i = V.bl j) = (i == j) := by
  rw [Bool.eq_iff_iff]
  simp
theorem dec_str {i j : Str} : decide (V.str i = V.str j) = (i == j) := by
  rw [Bool.eq_iff_iff]
  simp
theorem dec_byt {i j : Array UInt8} : decide (V.byt i = V.byt j) = (i.toList == j.toList) := by
  rw [Bool.eq_iff_iff]
  cases i
  cases j
  simp
section
variable {X : Cx} {a b c : Expr} {ta tb tc : TE} {pos : Pos}
theorem fin_bl {pins : List (Addr × Obj)} {σ : St} {H : Hp} {s : Shared} {Q : VK} {k k' : Bool} (I : Inv X pins σ H s) (q : Q (.bl k) H) (e : k = k') : EP X pins σ Q (.bool k') s := by
  subst e
  exact ⟨.bl k, H, I, rfl, q⟩
theorem op_eq : OpR X (compareOp .Eq) rEq := by
  intro pins s σ H x y v u Q I rx ry h
  obtain ⟨hs, q⟩ := h
  cases x with
  | non =>
    cases rx
    cases y with
    | non => cases ry; exact PySem.EqNone.eq_none_none (fin_bl I q (by simp))
    | bl j => cases ry; exact PySem.EqNone.eq_none_bool (fin_bl I q (by simp))
    | int j => obtain ⟨t', rfl⟩ := ry; exact PySem.EqNone.eq_none_int (fin_bl I q (by simp))
    | str j => obtain ⟨t', rfl⟩ := ry; exact PySem.EqNone.eq_none_str (fin_bl I q (by simp))
    | _ => exact absurd (show false = true from hs) Bool.false_ne_true
  | bl i =>
    cases rx
    cases y with
    | non => cases ry; exact PySem.EqNone.eq_bool_none (fin_bl I q (by simp))
    | bl j => cases ry; exact eq_bool (fin_bl I q dec_bl)
    | str j => obtain ⟨t', rfl⟩ := ry; exact PySem.EqMixed.eq_bool_str (fin_bl I q (by simp))
    | _ => exact absurd (show false = true from hs) Bool.false_ne_true
  | int i =>
    obtain ⟨t, rfl⟩ := rx
    cases y with
    | non => cases ry; exact PySem.EqNone.eq_int_none (fin_bl I q (by simp))
    | int j => obtain ⟨t', rfl⟩ := ry; exact eq_int (fin_bl I q dec_int)
    | str j => obtain ⟨t', rfl⟩ := ry; exact PySem.EqMixed.eq_int_str (fin_bl I q (by simp))
    | _ => exact absurd (show false = true from hs) Bool.false_ne_true
  | str i =>
    obtain ⟨t, rfl⟩ := rx
    cases y with
    | non => cases ry; exact PySem.EqNone.eq_str_none (fin_bl I q (by simp))
    | bl j => cases ry; exact PySem.EqMixed.eq_str_bool (fin_bl I q (by simp))
    | int j => obtain ⟨t', rfl⟩ := ry; exact PySem.EqMixed.eq_str_int (fin_bl I q (by simp))
    | str j => obtain ⟨t', rfl⟩ := ry; exact eq_str (fin_bl I q dec_str)
    | _ => exact absurd (show false = true from hs) Bool.false_ne_true
  | byt i =>
    obtain ⟨t, rfl⟩ := rx
    cases y with
    | byt j => obtain ⟨t', rfl⟩ := ry; exact PySem.W.eq_bytes (fin_bl I q dec_byt)
    | _ => exact absurd (show false = true from hs) Bool.false_ne_true
  | _ => cases y <;> exact absurd (show false = true from hs) Bool.false_ne_true
theorem op_ne : OpR X (compareOp .NotEq) rNe := by
  intro pins s σ H x y v u Q I rx ry h
  obtain ⟨hs, q⟩ := h
  cases x with
  | non =>
    cases rx
    cases y with
    | non => cases ry; exact PySem.EqNone.ne_none_none (fin_bl I q (by simp))
    | bl j => cases ry; exact PySem.EqNone.ne_none_bool (fin_bl I q (by simp))
    | int j => obtain ⟨t', rfl⟩ := ry; exact PySem.EqNone.ne_none_int (fin_bl I q (by simp))
    | str j => obtain ⟨t', rfl⟩ := ry; exact PySem.EqNone.ne_none_str (fin_bl I q (by simp))
    | _ => exact absurd (show false = true from hs) Bool.false_ne_true
  | bl i =>
    cases rx
    cases y with
    | non => cases ry; exact PySem.EqNone.ne_bool_none (fin_bl I q (by simp))
    | bl j => cases ry; exact ne_bool (fin_bl I q (congrArg not dec_bl))
    | str j => obtain ⟨t', rfl⟩ := ry; exact PySem.EqMixed.ne_bool_str (fin_bl I q (by simp))
    | _ => exact absurd (show false = true from hs) Bool.false_ne_true
  | int i =>
    obtain ⟨t, rfl⟩ := rx
    cases y with
    | non => cases ry; exact PySem.EqNone.ne_int_none (fin_bl I q (by simp))
    | int j => obtain ⟨t', rfl⟩ := ry; exact ne_int (fin_bl I q (congrArg not dec_int))
    | str j => obtain ⟨t', rfl⟩ := ry; exact PySem.EqMixed.ne_int_str (fin_bl I q (by simp))
    | _ => exact absurd (show false = true from hs) Bool.false_ne_true
  | str i =>
    obtain ⟨t, rfl⟩ := rx
    cases y with
    | non => cases ry; exact PySem.EqNone.ne_str_none (fin_bl I q (by simp))
    | bl j => cases ry; exact PySem.EqMixed.ne_str_bool (fin_bl I q (by simp))
    | int j => obtain ⟨t', rfl⟩ := ry; exact PySem.EqMixed.ne_str_int (fin_bl I q (by simp))
    | str j => obtain ⟨t', rfl⟩ := ry; exact ne_str (fin_bl I q (congrArg not dec_str))
    | _ => exact absurd (show false = true from hs) Bool.false_ne_true
  | byt i =>
    obtain ⟨t, rfl⟩ := rx
    cases y with
    | byt j => obtain ⟨t', rfl⟩ := ry; exact PySem.W.ne_bytes (fin_bl I q (congrArg not dec_byt))
    | _ => exact absurd (show false = true from hs) Bool.false_ne_true
  | _ => cases y <;> exact absurd (show false = true from hs) Bool.false_ne_true
theorem op_lt : OpR X (compareOp .Lt) (rI0 fun i j => .bl (decide (i < j))) := opB0 fun _ _ _ _ _ _ _ q => lt_int q
theorem op_le : OpR X (compareOp .LtE) (rI0 fun i j => .bl (decide (i ≤ j))) := opB0 fun _ _ _ _ _ _ _ q => le_int q
theorem op_gt : OpR X (compareOp .Gt) (rI0 fun i j => .bl (decide (j < i))) := opB0 fun _ _ _ _ _ _ _ q => gt_int q
theorem op_ge : OpR X (compareOp .GtE) (rI0 fun i j => .bl (decide (j ≤ i))) := opB0 fun _ _ _ _ _ _ _ q => ge_int q
def isObj : HO → Bool
  | .lst _ => true
  | .ins _ _ _ => true
  | _ => false
theorem nomark (b : Expr) {op : CmpOp} (h : op ≠ .In := by decide) (h2 : op ≠ .NotIn := by decide) : behindInMarks op b = false := by
  have e1 : (op == CmpOp.In) = false := by cases op <;> first | rfl | exact absurd rfl h
  have e2 : (op == CmpOp.NotIn) = false := by cases op <;> first | rfl | exact absurd rfl h2
  cases b <;> simp [behindInMarks, e1, e2]
theorem pe_cmpR {op : CmpOp} {r : R2} (ho : OpR X (compareOp op) r) (ha : PE X a ta) (hb : PE X b tb) (hm : behindInMarks op b = false) : PE X (.Compare a [op] [b] pos) (tOp r ta tb) := by
  intro pins s σ H Q I h
  exact wpAny_Compare1 (binT ha hb I h fun v u s2 x y H2 I2 rx ry q => ho pins s2 σ H2 x y v u Q I2 rx ry q) hm
def tTest (t : TE) : TT := fun σ H Q => t σ H fun x H' => ∃ k, x = .bl k ∧ Q k H'
theorem pt_cmpR {op : CmpOp} {r : R2} (ho : OpR X (compareOp op) r) (ha : PE X a ta) (hb : PE X b tb) (hm : behindInMarks op b = false) : PT X (.Compare a [op] [b] pos) (tTest (tOp r ta tb)) := by
  intro pins s σ H Q I h
  refine wpAny_isTrue_Compare1 (thn (ha pins s σ H _ I h) fun v s1 ⟨x, H1, I1, r1, q1⟩ => thn (hb pins s1 σ H1 _ I1 q1) fun u s2 ⟨y, H2, I2, r2, q2⟩ =>
    thn (ho pins s2 σ H2 x y v u _ I2 r1 r2 q2) fun c s3 ⟨z, H3, I3, r3, k, e, q3⟩ => ?_) hm
  subst e
  cases r3
  exact wpAny_truthy_bool ⟨H3, I3, q3⟩
def tChain (r r' : R2) (ta tb tc : TE) : TE := fun σ H Q => ta σ H fun x H1 => tb σ H1 fun y H2 => r x y H2 fun z H3 => ∃ k, z = .bl k ∧
  (if k = true then tc σ H3 fun w' H4 => r' y w' H4 Q else Q (.bl false) H3)
theorem pe_chain {op op' : CmpOp} {r r' : R2} (ho : OpR X (compareOp op) r) (ho' : OpR X (compareOp op') r') (ha : PE X a ta) (hb : PE X b tb) (hc : PE X c tc)
    (hm : lastMarks [op, op'] [b, c] = false := by with_unfolding_all rfl) : PE X (.Compare a [op, op'] [b, c] pos) (tChain r r' ta tb tc) := by
  intro pins s σ H Q I h
  refine Compare_chain (thn (ha pins s σ H _ I h) fun v s1 ⟨x, H1, I1, r1, q1⟩ => chain_link (thn (hb pins s1 σ H1 _ I1 q1) fun u s2 ⟨y, H2, I2, r2, q2⟩ =>
    thn (ho pins s2 σ H2 x y v u _ I2 r1 r2 q2) fun d s3 ⟨z, H3, I3, r3, k, e, q3⟩ => ?_)) hm
  subst e
  cases r3
  refine wpAny_truthy_bool ?_
  cases k with
  | false => exact ite_ff ⟨.bl false, H3, I3, rfl, q3⟩
  | true => exact ite_tt (chain_last (thn (hc pins s3 σ H3 _ I3 q3) fun w' s4 ⟨z', H4, I4, r4, q4⟩ => ho' pins s4 σ H4 y z' u w' Q I4 r2 r4 q4))
theorem pt_chain {op op' : CmpOp} {r r' : R2} (ho : OpR X (compareOp op) r) (ho' : OpR X (compareOp op') r') (ha : PE X a ta) (hb : PE X b tb) (hc : PE X c tc)
    (hm : lastMarks [op, op'] [b, c] = false := by with_unfolding_all rfl) : PT X (.Compare a [op, op'] [b, c] pos) (tTest (tChain r r' ta tb tc)) := by
  intro pins s σ H Q I h
  refine isTrue_chain (thn (ha pins s σ H _ I h) fun v s1 ⟨x, H1, I1, r1, q1⟩ => test_link (thn (hb pins s1 σ H1 _ I1 q1) fun u s2 ⟨y, H2, I2, r2, q2⟩ =>
    thn (ho pins s2 σ H2 x y v u _ I2 r1 r2 q2) fun d s3 ⟨z, H3, I3, r3, k, e, q3⟩ => ?_)) hm
  subst e
  cases r3
  refine wpAny_truthy_bool ?_
  cases k with
  | false =>
    obtain ⟨k', e', q'⟩ := q3
    cases e'
    exact ite_ff ⟨H3, I3, q'⟩
  | true =>
    refine ite_tt (test_last (thn (hc pins s3 σ H3 _ I3 q3) fun w' s4 ⟨z', H4, I4, r4, q4⟩ => thn (ho' pins s4 σ H4 y z' u w' _ I4 r2 r4 q4) fun d' s5 ⟨z2, H5, I5, r5, k2, e2, q5⟩ => ?_))
    subst e2
    cases r5
    exact wpAny_truthy_bool ⟨H5, I5, q5⟩
def TruV (K : PySem.W.Frag) (x : V) (H : Hp) (k : Bool) : Prop :=
  match x with
  | .non => k = false
  | .bl b => k = b
  | .int i => k = (i != 0)
  | .str y => y.length ≤ sizeLine ∧ k = ((y.length : Int) != 0)
  | .byt y => y.size ≤ sizeLine ∧ k = ((y.size : Int) != 0)
  | .ref p => (∃ xs, SqL K H p xs ∧ k = !xs.isEmpty) ∨ (∃ xs, SqT K H p xs ∧ k = !xs.isEmpty) ∨ ∃ kvs, H p = some (.dK kvs) ∧ k = !kvs.isEmpty
  | _ => False
theorem line63 : (sizeLine : Nat) < 2 ^ 63 := by rw [sizeLine_eq]; decide
def PlainIxT (b : Expr) : Prop := ∀ o i, subscripted b false o i = operate [o, i] (getItem o i)
theorem vals1 {x : V} {us : List Value} (r : Vals [x] us) : ∃ u, us = [u] ∧ RelV x u := by
  cases r with
  | cons r1 r2 => cases r2; exact ⟨_, rfl, r1⟩
theorem vals2 {x y : V} {us : List Value} (r : Vals [x, y] us) : ∃ u w', us = [u, w'] ∧ RelV x u ∧ RelV y w' := by
  cases r with
  | cons r1 r2 =>
    cases r2 with
    | cons r3 r4 => cases r4; exact ⟨_, _, rfl, r1, r3⟩
theorem call_max2 (hc : X.calm = true) : CallR X (.builtin "max") (fun xs H Q => ∃ i j, xs = [.int i, .int j] ∧ Q (.int (if j > i then j else i)) H) := by
  intro pins s σ H xs us Q I r h
  obtain ⟨i, j, rfl, q⟩ := h
  obtain ⟨u, w', rfl, ⟨t, rfl⟩, ⟨t', rfl⟩⟩ := vals2 r
  refine max_two_ints (I.ok.hd hc) fun h' tk k => ⟨_, H, I.kept k, ?_, q⟩
  by_cases hj : j > i
  · rw [if_pos hj, if_pos hj]; exact ⟨_, rfl⟩
  · rw [if_neg hj, if_neg hj]; exact ⟨_, rfl⟩
theorem call_min2 (hc : X.calm = true) : CallR X (.builtin "min") (fun xs H Q => ∃ i j, xs = [.int i, .int j] ∧ Q (.int (if j < i then j else i)) H) := by
  intro pins s σ H xs us Q I r h
  obtain ⟨i, j, rfl, q⟩ := h
  obtain ⟨u, w', rfl, ⟨t, rfl⟩, ⟨t', rfl⟩⟩ := vals2 r
  refine min_two_ints (I.ok.hd hc) fun h' tk k => ⟨_, H, I.kept k, ?_, q⟩
  by_cases hj : j < i
  · rw [if_pos hj, if_pos hj]; exact ⟨_, rfl⟩
  · rw [if_neg hj, if_neg hj]; exact ⟨_, rfl⟩
theorem call_int1 : CallR X (.type "int") (fun xs H Q => (∃ i, xs = [.int i] ∧ Q (.int i) H) ∨ ∃ k, xs = [.bl k] ∧ Q (.int (if k then 1 else 0)) H) := by
  intro pins s σ H xs us Q I r h
  rcases h with ⟨i, rfl, q⟩ | ⟨k, rfl, q⟩
  · obtain ⟨u, rfl, t, rfl⟩ := vals1 r
    exact call_int_int ⟨.int i, H, I, ⟨_, rfl⟩, q⟩
  · obtain ⟨u, rfl, r1⟩ := vals1 r
    cases r1
    exact call_int_bool ⟨.int (if k then 1 else 0), H, I.tok _, ⟨_, rfl⟩, q⟩
def LenV (K : PySem.W.Frag) (x : V) (H : Hp) (n : Nat) : Prop :=
  match x with
  | .str y => y.length ≤ sizeLine ∧ n = y.length
  | .byt y => y.size ≤ sizeLine ∧ n = y.size
  | .ref p => (∃ xs, SqL K H p xs ∧ n = xs.length) ∨ ∃ xs, SqT K H p xs ∧ n = xs.length
  | _ => False
end
end L2
namespace L2
open PySem PySem.Spec PyProof.Rows
structure ObjM (h : Heap) (x dx C : Addr) (mA : Str → Option Value) : Prop where
  obj : h.get? x = some (PySem.W.instObj C dx)
  ns : h.Ns1 dx mA
  ne : dx ≠ x
theorem lookIn_ns {h : Heap} {dx : Addr} {mA : Str → Option Value} (n : h.Ns1 dx mA) : ∃ od, h.get? dx = some od ∧ ∀ name, PySem.W.lookIn name od = some (mA name) := by
  obtain ⟨o, es, ep, ho, hd, hk, _, hm⟩ := n
  refine ⟨o, ho, fun name => ?_⟩
  have e := hm name
  unfold nsFind findBy at e
  rw [← Array.find?_toList] at e
  unfold PySem.W.lookIn
  rw [hd]
  dsimp only
  split
  · rename_i y q
    rw [q] at e
    exact congrArg some e
  · rename_i q
    rw [q] at e
    have a : es.toList.any (·.refKey) = false := by
      rw [List.any_eq_false]
      intro y hy
      obtain ⟨z, t, hkey⟩ := hk y (Array.mem_toList_iff.mp hy)
      simp [DictEntry.refKey, hkey]
    have a' : ¬ es.toList.any (·.refKey) = true := by rw [a]; exact Bool.false_ne_true
    rw [if_neg a']
    exact congrArg some e
theorem ObjM.look {h : Heap} {x dx C : Addr} {mA : Str → Option Value} (I : ObjM h x dx C mA) : ∃ od, PySem.W.InstAt h x (PySem.W.instObj C dx) C (some od) ∧ ∀ name, PySem.W.lookIn name od = some (mA name) :=
  let ⟨od, ho, hl⟩ := lookIn_ns I.ns
  ⟨od, ⟨I.obj, rfl, rfl, ho⟩, hl⟩
section
variable {prog : Program} {w : World} {A : Around} {E : Value → Shared → Prop} {s : Shared} {K : PySem.W.Frag} {x dx C f : Addr} {mA : Str → Option Value} {name : Str} {v : Value}
end
def putF (f : Str) (v : V) : List (Str × V) → List (Str × V)
  | [] => [(f, v)]
  | (g, x) :: r => if g = f then (g, v) :: r else (g, x) :: putF f v r
theorem RelO.some_of {v : V} {o : Option Value} (r : RelO (some v) o) : ∃ u, o = some u ∧ RelV v u := by
  cases o with
  | none => exact (show False from r).elim
  | some u => exact ⟨u, rfl, r⟩
theorem handed_of {v : V} {u : Value} (r : RelV v u) : PySem.W.handedIn u = true := by
  cases v with
  | non => cases (show u = Value.none from r); rfl
  | bl b => cases (show u = Value.bool b from r); rfl
  | int i => obtain ⟨t, e⟩ := (show ∃ t, u = Value.int i t from r); cases e; rfl
  | str x => obtain ⟨t, e⟩ := (show ∃ t, u = Value.str x t from r); cases e; rfl
  | byt b => obtain ⟨t, e⟩ := (show ∃ t, u = Value.bytes b t from r); cases e; rfl
  | flt b => obtain ⟨t, e⟩ := (show ∃ t, u = Value.float b t from r); cases e; rfl
  | ref a => cases (show u = Value.ref a from r); rfl
  | ty n => cases (show u = Value.type n from r); rfl
section
variable {P : Program} {w : World} {H H' : Hp} {h h' : Heap} {a C dx : Addr} {fs fs' : List (Str × V)}
theorem ins_get (hok : HOk P w H h) (e : H a = some (.ins C dx fs)) : ∃ mA, ObjM h a dx C mA ∧ (∀ f, RelO (fs.lookup f) (mA f)) ∧ PySem.Within mA (fs.map (·.1)) ∧ fs.length ≤ 1000 ∧ H dx = some (.own a) := by
  obtain ⟨d, z, ne, ob, mA, n, r, q⟩ := (show ObjOk P w H h a (.ins C dx fs) from hok a _ e)
  exact ⟨mA, ⟨ob, n, ne⟩, r, q, z, d⟩
end
structure Cls (K : PySem.W.Frag) (C : Addr) : Prop where
  pg : PySem.W.plainGet K C Str.empty = true
  hd : PySem.W.hasDictIn K C = true
  po : PySem.W.plainOver K C = true
  sa : PySem.W.findIn K (.ref C) "__setattr__" = some (some (.builtin "object.__setattr__"))
theorem Cls.get {K : PySem.W.Frag} {C : Addr} (c : Cls K C) (f : Str) : PySem.W.plainGet K C f = true := c.pg
def NoAttr (K : PySem.W.Frag) (C : Addr) (f : Str) : Prop := PySem.W.findIn K (.ref C) f = some none
structure Con (K : PySem.W.Frag) (C : Addr) (f : Str) (v : V) (u : Value) : Prop where
  at_ : PySem.W.findIn K (.ref C) f = some (some u)
  rel : RelV v u
  get : PySem.W.specialIn K u "__get__" = some none
  cp : PySem.W.copiedNames.contains f = false
structure Meth (K : PySem.W.Frag) (C : Addr) (m : Str) (f : Addr) : Prop where
  at_ : PySem.W.findIn K (.ref C) m = some (some (.ref f))
  fn : PySem.W.isFn K (.ref f) = true
  kp : PySem.W.keepIn K (.ref f) = true
section
variable {X : Cx} {pins : List (Addr × Obj)} {σ : St} {H : Hp} {s : Shared} {a C dx : Addr} {fs : List (Str × V)} {f : Str} {v : V} {A : Around} {E : Value → Shared → Prop}
theorem attr_of {prog : Program} {w : World} {env : Env} {e : Expr} {f : Str} {pos : Pos} {s : Shared} {Q : Value → Shared → Prop} (hb : attributeBase e f env (eval e env) = eval e env)
    (h : wpAny (model prog w) A (eval e env) (fun o s₁ => wpAny (model prog w) A (getAttr o f true) Q E s₁) E s) : wpAny (model prog w) A (eval (.Attribute e f pos) env) Q E s :=
  Attribute_any_ h (by rw [arm_eval_Attribute, hb])
end
def tFld (K : PySem.W.Frag) (ta : TE) (f : Str) : TE := fun σ H Q => ta σ H fun x H1 => ∃ a C dx fs v, x = .ref a ∧ H1 a = some (.ins C dx fs) ∧ Cls K C ∧ NoAttr K C f ∧ fs.lookup f = some v ∧ Q v H1
def tCon (K : PySem.W.Frag) (ta : TE) (f : Str) : TE := fun σ H Q => ta σ H fun x H1 => ∃ a C dx fs v u, x = .ref a ∧ H1 a = some (.ins C dx fs) ∧ Cls K C ∧ Con K C f v u ∧ fs.lookup f = none ∧ Q v H1
def sFld (K : PySem.W.Frag) (ta tv : TE) (f : Str) : TS := fun D σ H => tv σ H fun y H1 => ta σ H1 fun x H2 => ∃ a C dx fs, x = .ref a ∧ H2 a = some (.ins C dx fs) ∧ Cls K C ∧ NoAttr K C f ∧ fs.length < 1000 ∧
  D.nx σ (upd H2 a (.ins C dx (putF f y fs)))
def InOp (X : Cx) (op : Operator) (rd : V → V → Hp → VK → Prop) : Prop :=
  ∀ (pins : List (Addr × Obj)) (s : Shared) (σ : St) (H : Hp) (x y : V) (u v : Value) (Q : VK), Inv X pins σ H s → RelV x u → RelV y v → rd x y H Q → wpAny (model X.prog X.w) X.A (inplaceOp op u v) (EP X pins σ Q) X.xe s
def sFldAug (K : PySem.W.Frag) (ta tv : TE) (rd : V → V → Hp → VK → Prop) (f : Str) : TS := fun D σ H => ta σ H fun x H1 => ∃ a C dx fs v, x = .ref a ∧ H1 a = some (.ins C dx fs) ∧ Cls K C ∧ NoAttr K C f ∧ fs.lookup f = some v ∧
  tv σ H1 fun y H2 => rd v y H2 fun z H3 => ∃ dx' fs', H3 a = some (.ins C dx' fs') ∧ fs'.length < 1000 ∧ D.nx σ (upd H3 a (.ins C dx' (putF f z fs')))
section
variable {X : Cx} {o e value : Expr} {f : Str} {pos pos' tpos : Pos} {ta tv : TE}
def rAdd : V → V → Hp → VK → Prop := fun x y H Q => ∃ i j, x = .int i ∧ y = .int j ∧ Q (.int (i + j)) H
def rSub : V → V → Hp → VK → Prop := fun x y H Q => ∃ i j, x = .int i ∧ y = .int j ∧ Q (.int (i - j)) H
end
section
variable {X : Cx} {pins : List (Addr × Obj)} {σ : St} {H : Hp} {s : Shared} {A : Around} {E : Value → Shared → Prop} {Q : Value → Shared → Prop} {c : Value} {b : Bool}
inductive TyOf (K : PySem.W.Frag) (H : Hp) : V → Value → Prop where
  | non : TyOf K H .non (.type "NoneType")
  | bl (x : Bool) : TyOf K H (.bl x) (.type "bool")
  | int (i : Int) : TyOf K H (.int i) (.type "int")
  | str (x : Str) : TyOf K H (.str x) (.type "str")
  | flt (x : UInt64) : TyOf K H (.flt x) (.type "float")
  | lst {a : Addr} {xs : List V} (e : H a = some (.lst xs)) : TyOf K H (.ref a) (.type "list")
  | frz {a : Addr} {o : Obj} {xs : List V} (e : H a = some (.frz o (.lst xs))) : TyOf K H (.ref a) (.type "list")
  | tup {a : Addr} {xs : List V} (e : H a = some (.tup xs)) : TyOf K H (.ref a) (.type "tuple")
  | dK {a : Addr} {kvs : List (Key × V)} (e : H a = some (.dK kvs)) : TyOf K H (.ref a) (.type "dict")
  | dT {a : Addr} {kvs : List (List Key × V)} (e : H a = some (.dT kvs)) : TyOf K H (.ref a) (.type "dict")
  | ins {a C dx : Addr} {fs : List (Str × V)} (e : H a = some (.ins C dx fs)) (cl : Cls K C) (ha : PySem.W.findIn K (.ref C) "__class__" = some (some (.builtin "object.__class__")))
      (hn : PySem.W.specialIn K (.builtin "object.__class__") "__get__" = some (some (.builtin "getset_descriptor.__get__"))) (htk : PySem.W.takesIn K (.builtin "object.__class__") = some true)
      (hm : PySem.W.mroIn K C (.type "object") = some true) : TyOf K H (.ref a) (.ref C)
theorem isinst_ok {x : V} {u t : Value} (I : Inv X pins σ H s) (rx : RelV x u) (ty : TyOf X.K H x t) (e : PySem.W.kitOne X.K t c = some b) (h : ∀ tk, Q (.bool b) { s with toks := tk }) :
    wpAny (model X.prog X.w) A (call (.builtin "isinstance") [u, c]) Q E s := by
  cases ty with
  | non => cases (show u = Value.none from rx); exact PySem.W.kia_one PySem.W.kitx_none I.kIn True.intro e (fun z => nomatch z) h
  | bl y => cases (show u = Value.bool y from rx); exact PySem.W.kia_one PySem.W.kitx_bool I.kIn True.intro e (fun z => nomatch z) h
  | int i => obtain ⟨t, q⟩ := (show ∃ t, u = Value.int i t from rx); cases q; exact PySem.W.kia_one PySem.W.kitx_int I.kIn True.intro e (fun z => nomatch z) h
  | str y => obtain ⟨t, q⟩ := (show ∃ t, u = Value.str y t from rx); cases q; exact PySem.W.kia_one PySem.W.kitx_str I.kIn True.intro e (fun z => nomatch z) h
  | flt y => obtain ⟨t, q⟩ := (show ∃ t, u = Value.float y t from rx); cases q; exact PySem.W.kia_one PySem.W.kitx_float I.kIn True.intro e (fun z => nomatch z) h
  | @lst a xs ea =>
    cases (show u = Value.ref a from rx)
    obtain ⟨_, _, n, _, h1⟩ := (show ObjOk X.prog X.w H s.heap a (.lst xs) from I.hok a _ ea)
    exact PySem.W.kia_one PySem.W.kitx_list I.kIn ⟨_, h1, rfl⟩ e (fun z => nomatch z) h
  | @frz a ob xs ea =>
    cases (show u = Value.ref a from rx)
    obtain ⟨_, _, _, n, _, h1⟩ := (show ObjOk X.prog X.w H s.heap a (.frz ob (.lst xs)) from I.hok a _ ea)
    exact PySem.W.kia_one PySem.W.kitx_list I.kIn ⟨_, h1, rfl⟩ e (fun z => nomatch z) h
  | @tup a xs ea =>
    cases (show u = Value.ref a from rx)
    obtain ⟨_, _, _, p⟩ := (show ObjOk X.prog X.w H s.heap a (.tup xs) from I.hok a _ ea)
    obtain ⟨o, h1, h2, _⟩ := p
    exact PySem.W.kia_one PySem.W.kitx_tuple I.kIn ⟨o, h1, h2⟩ e (fun z => nomatch z) h
  | @dK a kvs ea =>
    cases (show u = Value.ref a from rx)
    obtain ⟨_, _, vs, _, p⟩ := (show ObjOk X.prog X.w H s.heap a (.dK kvs) from I.hok a _ ea)
    obtain ⟨o, es, ep, h1, h2, _⟩ := p
    exact PySem.W.kia_one PySem.W.kitx_dict I.kIn ⟨o, h1, h2.1⟩ e (fun z => nomatch z) h
  | @dT a kvs ea =>
    cases (show u = Value.ref a from rx)
    obtain ⟨_, _, xs, _, o, es, ep, h1, h2, _⟩ := (show ObjOk X.prog X.w H s.heap a (.dT kvs) from I.hok a _ ea)
    exact PySem.W.kia_one PySem.W.kitx_dict I.kIn ⟨o, h1, h2.1⟩ e (fun z => nomatch z) h
  | @ins a C dx fs ea cl ha hn htk hm =>
    cases (show u = Value.ref a from rx)
    obtain ⟨mA, O, _⟩ := ins_get I.hok ea
    obtain ⟨od, J, _⟩ := O.look
    exact PySem.W.kia_one (PySem.W.kitx_own (cl.get _) cl.hd ha hn htk hm) I.kIn J e (fun z => nomatch z) h
end
end L2
namespace L2
open PySem PySem.Spec PyProof.Rows
structure Room (k : Nat) (A : Around) : Prop where
  hd : A.handled = none
  dp : A.depth + 3 * k + 5 < recursionLimit
  un : A.units + 16 * k + 200 < cLine
  gd : A.guards = some []
theorem Room.mono {j k : Nat} {A : Around} (r : Room k A) (h : j ≤ k) : Room j A := ⟨r.hd, by have := r.dp; omega, by have := r.un; omega, r.gd⟩
theorem Room.deeper {k : Nat} {A : Around} (r : Room (k + 1) A) (env : Env) : Room k (A.deeper env) :=
  ⟨r.hd, by have := r.dp; show A.depth + 1 + 3 * k + 5 < _; omega, by have := r.un; show A.units + 3 + 16 * k + 200 < _; omega, r.gd⟩
theorem Room.in1 {k : Nat} {A : Around} (r : Room (k + 1) A) : Room k A.in1 :=
  ⟨r.hd, by have := r.dp; show A.depth + 3 * k + 5 < _; omega, by have := r.un; show A.units + 1 + 16 * k + 200 < _; omega, r.gd⟩
theorem make_depth {A : Around} {C : Addr} {us : List Value} {kw : List (Str × Value)} : (A.under (.builtin "type.__call__" ⟨.ref C :: us, kw⟩)).depth = A.depth + 1 := by
  first | rfl | simp [Around.under, Code.weight, Code.isCreation, Code.isGuard, Code.isCaller, Code.frames, Code.isFrame, guardIds]
theorem make_units {A : Around} {C : Addr} {us : List Value} {kw : List (Str × Value)} : (A.under (.builtin "type.__call__" ⟨.ref C :: us, kw⟩)).units = A.units + 1 := by
  first | rfl | simp [Around.under, Code.cUnits, Code.frames, Code.isFrame]
theorem Room.make {k : Nat} {A : Around} (r : Room (k + 1) A) (C : Addr) (us : List Value) (kw : List (Str × Value)) : Room k (A.under (.builtin "type.__call__" ⟨.ref C :: us, kw⟩)) :=
  ⟨r.hd, by have := r.dp; rw [make_depth]; omega, by have := r.un; rw [make_units]; omega, by have h := r.gd; first | (simp only [Around.under]; rw [h]; rfl) | simp [Around.under, h, pushGuards, Code.guards, Code.isGuard, guardIds]⟩
theorem Room.depth {k : Nat} {A : Around} (r : Room k A) : A.depth < recursionLimit := by have := r.dp; omega
theorem Room.units {k : Nat} {A : Around} (r : Room k A) : A.units + 64 < cLine := by have := r.un; omega
theorem Room.units0 {k : Nat} {A : Around} (r : Room k A) : A.units < cLine := by have := r.un; omega
def tNil : TA := fun _ H Q => Q [] H
def tCons (ta : TE) (tr : TA) : TA := fun σ H Q => ta σ H fun x H1 => tr σ H1 fun xs H2 => Q (x :: xs) H2
section
variable {X : Cx} {e : Expr} {es : List Expr} {te : TE} {t : TA} {pos : Pos}
theorem pa_nil : PA X [] tNil := fun _ _ _ _ H Q I h => Calls.spliced_nil ⟨[], H, I, .nil, h⟩
theorem pa_cons (ha : PE X e te) (hr : PA X es t) (hs : starEach (e :: es) X.env = (false, eval e X.env) :: starEach es X.env := by rfl) : PA X (e :: es) (tCons te t) := by
  intro pos pins s σ H Q I h
  rw [hs]
  show wpAny _ _ (spliced ((false, eval e X.env) :: backTo pos (starEach es X.env))) _ _ s
  refine Calls.spliced_cons (thn (ha pins s σ H _ I h) fun u s1 ⟨x, H1, I1, r1, q1⟩ => ?_)
  exact thn (hr pos pins s1 σ H1 _ I1 q1) fun us s2 ⟨xs, H2, I2, r2, q2⟩ => ⟨x :: xs, H2, I2, .cons r1 r2, q2⟩
def tTup (t : TA) : TE := fun σ H Q => t σ H fun xs H1 => xs.length ≤ sizeLine ∧ ∀ p, H1 p = none → Q (.ref p) (upd H1 p (.tup xs))
def tLst (t : TA) : TE := fun σ H Q => t σ H fun xs H1 => xs.length ≤ sizeLine ∧ ∀ p, H1 p = none → Q (.ref p) (upd H1 p (.lst xs))
theorem pe_tup {x1} (h : PA X es t) : PE X (.Tuple es x1 pos) (tTup t) := by
  intro pins s σ H Q I hq
  refine wpAny_Tuple_spliced (thn (h pos pins s σ H _ I hq) fun us s1 ⟨xs, H1, I1, r, z, q⟩ => ⟨by rw [← r.length]; exact z, ?_⟩)
  have hf : H1 s1.heap.objs.size = none := I1.hok.fresh (Nat.le_refl _)
  refine ⟨.ref s1.heap.objs.size, upd H1 s1.heap.objs.size (.tup xs), I1.laid (t' := s1.toks) (fun b u e => Heap.get?_push_of_some _ e) (Nat.le_refl _) ?_, rfl, q _ hf⟩
  exact ⟨z, us, r, ⟨_, Heap.get?_push_size _ rfl, rfl, _, rfl⟩⟩
theorem pe_lst (h : PA X es t) : PE X (.List es pos) (tLst t) := by
  intro pins s σ H Q I hq
  refine wpAny_List_spliced (thn (h pos pins s σ H _ I hq) fun us s1 ⟨xs, H1, I1, r, z, q⟩ => ⟨by rw [← r.length]; exact z, ?_⟩)
  have hf : H1 s1.heap.objs.size = none := I1.hok.fresh (Nat.le_refl _)
  refine ⟨.ref s1.heap.objs.size, upd H1 s1.heap.objs.size (.lst xs), I1.laid (t' := s1.toks) (fun b u e => Heap.get?_push_of_some _ e) (Nat.le_refl _) ?_, rfl, q _ hf⟩
  exact ⟨z, us, 0, r, Heap.get?_push_size _ rfl⟩
end
abbrev Sp := List V → Hp → VK → XK → Prop
abbrev CXT := List Env → Hp → Shared → XK → Value → Shared → Prop
structure Env0 (P : Program) (w : World) (K : PySem.W.Frag) (mg : Str → Option Value) (base : Heap) (A : Around) (outer : List Env) (s : Shared) (H : Hp) : Prop where
  frames : A.frames = some outer
  mod : Mod K mg base
  bs : ∀ b o, base.get? b = some o → s.heap.get? b = some o ∧ H b = none
  bsz : base.objs.size ≤ s.heap.objs.size
  funs : s.heap.FunFrames base outer
  frf : ∀ b ∈ frs outer, H b = none
  hok : HOk P w H s.heap
  bare : AllBare s.gens
def CE (outer : List Env) (P : Program) (w : World) (H : Hp) (s : Shared) (Q : VK) (u : Value) (s' : Shared) : Prop :=
  ∃ v H', s'.os = s.os ∧ AllBare s'.gens ∧ Un (frs outer) [] H H' s.heap s'.heap ∧ HOk P w H' s'.heap ∧ RelV v u ∧ Q v H'
def CR (CX : CXT) (outer : List Env) (P : Program) (w : World) (H : Hp) (s : Shared) (Q : VK) (E : XK) (r : Result) (s' : Shared) : Prop :=
  match r with
  | .ok (.ret u) => CE outer P w H s Q u s'
  | .ok _ => False
  | .error e => CX outer H s E e s'
structure FnOk (P : Program) (w : World) (K : PySem.W.Frag) (mg : Str → Option Value) (base : Heap) (CX : CXT) (k : Nat) (f : Addr) (fd : FuncData) (ps : List Str) (sp : Sp) : Prop where
  len : ∀ vs H Q E, sp vs H Q E → vs.length = ps.length
  run : ∀ (A : Around) (outer : List Env) (s : Shared) (H : Hp) (args : Args) (us : List Value) (vs : List V) (Q : VK) (E : XK), Room k A → Env0 P w K mg base A outer s H → BindsTo s fd args (ps.zip us) → Vals vs us → sp vs H Q E →
    codeAny (model P w) A (.call (.ref f) args) (CR CX outer P w H s Q E) s
theorem FnOk.mono {P : Program} {w : World} {K : PySem.W.Frag} {mg : Str → Option Value} {base : Heap} {CX : CXT} {j k : Nat} {f : Addr} {fd : FuncData} {ps : List Str} {sp : Sp} (F : FnOk P w K mg base CX j f fd ps sp) (h : j ≤ k) :
    FnOk P w K mg base CX k f fd ps sp := ⟨F.len, fun A outer s H args us vs Q E hr => F.run A outer s H args us vs Q E (hr.mono h)⟩
theorem Env0.make {P : Program} {w : World} {K : PySem.W.Frag} {mg : Str → Option Value} {base : Heap} {A : Around} {outer : List Env} {s : Shared} {H : Hp} (e : Env0 P w K mg base A outer s H) (C : Addr) (us : List Value) (kw : List (Str × Value)) :
    Env0 P w K mg base (A.under (.builtin "type.__call__" ⟨.ref C :: us, kw⟩)) outer s H := ⟨by first | exact e.frames | (simpa [Around.under, Code.envs, Code.isFrame, pushEnvs] using e.frames), e.mod, e.bs, e.bsz, e.funs, e.frf, e.hok, e.bare⟩
theorem Env0.in1 {P : Program} {w : World} {K : PySem.W.Frag} {mg : Str → Option Value} {base : Heap} {A : Around} {outer : List Env} {s : Shared} {H : Hp} (e : Env0 P w K mg base A outer s H) :
    Env0 P w K mg base A.in1 outer s H := ⟨e.frames, e.mod, e.bs, e.bsz, e.funs, e.frf, e.hok, e.bare⟩
section
variable {X : Cx} {pins : List (Addr × Obj)} {σ : St} {H : Hp} {s s' : Shared}
theorem Inv.env0 (I : Inv X pins σ H s) : Env0 X.prog X.w X.K X.mg X.base X.A X.stack s H :=
  ⟨I.ok.frames, I.ok.mod, I.bs, Nat.le_trans I.ok.bsz I.sz, I.stack, I.stkFree, I.hok, I.bare⟩
theorem Inv.after {Q : VK} {u : Value} (I : Inv X pins σ H s) (h : CE X.stack X.prog X.w H s Q u s') : EP X pins σ Q u s' := by
  obtain ⟨v, H', os, bare, un, hok, r, q⟩ := h
  obtain ⟨hh, g, d, t, os'⟩ := s'
  obtain rfl : os' = s.os := os
  exact ⟨v, H', I.call (h' := hh) (g' := g) (d' := d) (t' := t) (ch := []) un hok bare (fun b z => absurd z (by simp)), r, q⟩
end
def tCall (sp : Sp) (dvs : List V) (E : XK) (t : TA) : TE := fun σ H Q => t σ H fun vs H1 => sp (vs ++ dvs) H1 Q E
def tMeth (C : Addr) (m : Str) (sp : Sp) (dvs : List V) (E : XK) (ta : TE) (t : TA) : TE := fun σ H Q => ta σ H fun x H1 => ∃ a dx fs, x = .ref a ∧ H1 a = some (.ins C dx fs) ∧ fs.lookup m = none ∧
  t σ H1 fun vs H2 => sp (x :: (vs ++ dvs)) H2 Q E
def tMake (C : Addr) (sp : Sp) (dvs : List V) (E : XK) (t : TA) : TE := fun σ H Q => t σ H fun vs H1 => ∀ x dx, H1 x = none → H1 dx = none → dx ≠ x →
  sp (.ref x :: (vs ++ dvs)) (upd (upd H1 dx (.own x)) x (.ins C dx [])) (fun v H2 => v = .non ∧ Q (.ref x) H2) E
def Binds (K : PySem.W.Frag) (fd : FuncData) (ps : List Str) (ds : List Value) : Prop :=
  ∀ (s : Shared) (us : List Value), K.In s.heap → (us ++ ds).length = ps.length → BindsTo s fd ⟨us, []⟩ (ps.zip (us ++ ds))
theorem Binds.all {K : PySem.W.Frag} {fd : FuncData} {ps : List Str} (h : ∀ us : List Value, us.length = ps.length → bindArgs fd ⟨us, []⟩ = pure (ps.zip us)) : Binds K fd ps [] := fun s us _ hl => by
  rw [List.append_nil] at hl ⊢
  exact .of_eq (h us hl)
def Passes (CX : CXT) (X : Cx) (E : XK) : Prop := ∀ (pins : List (Addr × Obj)) (σ : St) (H : Hp) (s : Shared) (e : Value) (s' : Shared), Inv X pins σ H s → CX X.stack H s E e s' → X.xe e s'
section
variable {X : Cx} {CX : CXT} {k : Nat} {f C : Addr} {fd : FuncData} {ps : List Str} {sp : Sp} {dvs : List V} {ds : List Value} {E : XK} {x m : Str} {p pos apos : Pos} {e o : Expr} {es : List Expr} {ta : TE} {t : TA}
theorem run_fn {pins : List (Addr × Obj)} {σ : St} {H : Hp} {s : Shared} {Q : VK} {us : List Value} {vs : List V} (F : FnOk X.prog X.w X.K X.mg X.base CX k f fd ps sp) (hr : Room k X.A) (hb : Binds X.K fd ps ds) (hd : Vals dvs ds) (hx : Passes CX X E)
    (I : Inv X pins σ H s) (r : Vals vs us) (h : sp (vs ++ dvs) H Q E) : wpAny (model X.prog X.w) X.A (call (.ref f) us) (EP X pins σ Q) X.xe s := by
  have r2 : Vals (vs ++ dvs) (us ++ ds) := r.append hd
  have hl : (us ++ ds).length = ps.length := by rw [← r2.length]; exact F.len _ _ _ _ h
  refine wpAny_call (codeAny_mono (F.run X.A X.stack s H ⟨us, []⟩ (us ++ ds) (vs ++ dvs) Q E hr I.env0 (hb s us I.kIn hl) r2 h) fun r s' hq => ?_)
  cases r with
  | error e => exact hx pins σ H s e s' I hq
  | ok fl =>
    cases fl with
    | ret u => exact I.after hq
    | next => exact False.elim hq
    | brk => exact False.elim hq
    | cont => exact False.elim hq
theorem pe_call (F : FnOk X.prog X.w X.K X.mg X.base CX k f fd ps sp) (hr : Room k X.A) (hg : Gl X x) (hm : X.mg x = some (.ref f)) (hk : PySem.W.keepIn X.K (.ref f) = true) (hb : Binds X.K fd ps ds) (hd : Vals dvs ds) (hx : Passes CX X E)
    (ha : PA X (e :: es) t) (hdb : (x == ("__debug__" : Str)) = false := by decide) (he : starEach (e :: es) X.env = (false, eval e X.env) :: starEach es X.env := by rfl) (hpl : (backTo pos (starEach es X.env)).any (·.1) = false := by rfl) :
    PE X (.Call (.Name x p) (e :: es) [] pos) (tCall sp dvs E t) := by
  intro pins s σ H Q I h
  refine wpAny_Call_Name_kw (ld_glob I hg hm ?_ hdb)
  refine PySem.W.callWith_K (h₀ := X.base) I.ok.mod.kin hk (thn (ha pos pins s σ H _ I h) fun us s1 ⟨vs, H1, I1, r, q⟩ => ⟨I1.kIn, ?_⟩) he hpl
  exact run_fn F hr hb hd hx I1 r q
structure Mk (K : PySem.W.Frag) (C f : Addr) : Prop where
  makes : PySem.W.makesIn K C = true
  init : PySem.W.findIn K (.ref C) "__init__" = some (some (.ref f))
  fn : PySem.W.isFn K (.ref f) = true
  kp : PySem.W.keepIn K (.ref C) = true
end
def PK (X : Cx) (kws : List Keyword) (t : TA) : Prop :=
  ∀ (pos : Pos) (pins : List (Addr × Obj)) (s : Shared) (σ : St) (H : Hp) (Q : List V → Hp → Prop), Inv X pins σ H s → t σ H Q → wpAny (model X.prog X.w) X.A (evalAll ((backToKw pos (keywordEach kws X.env)).map (·.2))) (AP X pins σ Q) X.xe s
section
variable {X : Cx} {CX : CXT} {k : Nat} {f C : Addr} {fd : FuncData} {ps ks : List Str} {sp : Sp} {E : XK} {x m : Str} {p pos apos kpos : Pos} {e o : Expr} {es : List Expr} {kws : List Keyword} {te ta : TE} {t tk : TA} {nm : Option Str}
structure KBinds (K : PySem.W.Frag) (fd : FuncData) (ps ks : List Str) (g : List Value → List Value → List Value) (gV : List V → List V → List V) : Prop where
  to : ∀ (s : Shared) (us ws : List Value), K.In s.heap → (g us ws).length = ps.length → BindsTo s fd ⟨us, ks.zip ws⟩ (ps.zip (g us ws))
  rel : ∀ {vs : List V} {us : List Value} {zs : List V} {ws : List Value}, Vals vs us → Vals zs ws → Vals (gV vs zs) (g us ws)
def tCallK (sp : Sp) (gV : List V → List V → List V) (E : XK) (t tk : TA) : TE := fun σ H Q => t σ H fun vs H1 => tk σ H1 fun zs H2 => sp (gV vs zs) H2 Q E
variable {g : List Value → List Value → List Value} {gV : List V → List V → List V}
end
structure FnScope (N P : List Str) (sc : Scope) : Prop where
  kind : sc.kind = .function
  co : sc.isCoroutine = false
  gen : sc.isGenerator = false
  nd : N.Nodup
  pre : N.take P.length = P
  par : ∀ x ∈ P, sc.names.lookup x = some .local ∨ sc.names.lookup x = some .cell
  nofree : ∀ y ∈ sc.names, y.2 ≠ .free
theorem bindL_out {kindOf : Str → Option NameKind} {x : Str} : ∀ {binds : List (Str × Value)} {m : Str → Option Value}, (∀ v, (x, v) ∉ binds) → bindL kindOf binds m x = m x
  | [], _, _ => rfl
  | (n, v) :: r, m, h => by
    unfold bindL
    rw [bindL_out fun w hw => h w (List.mem_cons_of_mem _ hw)]
    split
    · have : x ≠ n := by rintro rfl; exact h v List.mem_cons_self
      simp [this]
    · rfl
theorem bindC_out {kindOf : Str → Option NameKind} {x : Str} : ∀ {binds : List (Str × Value)} {m : Str → Option Value}, (∀ v, (x, v) ∉ binds) → bindC kindOf binds m x = m x
  | [], _, _ => rfl
  | (n, v) :: r, m, h => by
    unfold bindC
    rw [bindC_out fun w hw => h w (List.mem_cons_of_mem _ hw)]
    split
    · rfl
    · have : x ≠ n := by rintro rfl; exact h v List.mem_cons_self
      simp [this]
theorem bindL_get {kindOf : Str → Option NameKind} {x : Str} {v : Value} : ∀ {P : List Str} {vs : List Value} {i : Nat} {m : Str → Option Value}, P.Nodup → P[i]? = some x → vs[i]? = some v → kindOf x = some .local →
    bindL kindOf (P.zip vs) m x = some v
  | [], _, _, _, _, h, _, _ => by simp at h
  | _ :: _, [], _, _, _, _, h, _ => by simp at h
  | p :: P, w :: vs, 0, m, nd, h1, h2, hk => by
    simp at h1 h2; subst h1; subst h2
    show bindL kindOf ((p, w) :: P.zip vs) m p = _
    unfold bindL
    rw [bindL_out fun v hv => (List.nodup_cons.mp nd).1 (List.of_mem_zip hv).1, if_pos hk]
    simp
  | p :: P, w :: vs, i + 1, m, nd, h1, h2, hk => by
    show bindL kindOf ((p, w) :: P.zip vs) m x = _
    unfold bindL
    exact bindL_get (i := i) (List.nodup_cons.mp nd).2 (by simpa using h1) (by simpa using h2) hk
theorem bindC_get {kindOf : Str → Option NameKind} {x : Str} {v : Value} : ∀ {P : List Str} {vs : List Value} {i : Nat} {m : Str → Option Value}, P.Nodup → P[i]? = some x → vs[i]? = some v → kindOf x ≠ some .local →
    bindC kindOf (P.zip vs) m x = some v
  | [], _, _, _, _, h, _, _ => by simp at h
  | _ :: _, [], _, _, _, _, h, _ => by simp at h
  | p :: P, w :: vs, 0, m, nd, h1, h2, hk => by
    simp at h1 h2; subst h1; subst h2
    show bindC kindOf ((p, w) :: P.zip vs) m p = _
    unfold bindC
    rw [bindC_out fun v hv => (List.nodup_cons.mp nd).1 (List.of_mem_zip hv).1, if_neg hk]
    simp
  | p :: P, w :: vs, i + 1, m, nd, h1, h2, hk => by
    show bindC kindOf ((p, w) :: P.zip vs) m x = _
    unfold bindC
    exact bindC_get (i := i) (List.nodup_cons.mp nd).2 (by simpa using h1) (by simpa using h2) hk
def start (N : List Str) (vs : List V) : St := vs.map some ++ List.replicate (N.length - vs.length) none
def cxOf (CX : CXT) (P : Program) (w : World) (K : PySem.W.Frag) (mg : Str → Option Value) (base : Heap) (N : List Str) (qual : Str) (scope : Scope) (f : Addr) (cd : Value) (A : Around) (outer : List Env) (s : Shared) (H : Hp) (E : XK) : Cx where
  prog := P
  w := w
  K := K
  mg := mg
  base := base
  A := A.deeper (envOfC qual scope s.heap.objs.size f cd)
  N := N
  s₀ := s
  H₀ := H
  env := envOfC qual scope s.heap.objs.size f cd
  outer := outer
  stack := envOfC qual scope s.heap.objs.size f cd :: outer
  ex := []
  calm := true
  fn := fun _ => true
  pn := []
  xe := fun e s' => wpAny (model P w) (A.deeper (envOfC qual scope s.heap.objs.size f cd)) (leaving (envOfC qual scope s.heap.objs.size f cd) e) (fun _ s'' => CX outer H s E e s'') (fun e' s'' => CX outer H s E e' s'') s'
theorem cell_has {sc : Scope} {n : Nat} {x : Str} (h : sc.names.lookup x = some .cell) : ∃ c, (cellsFrom n sc.names []).lookup x = some c := by
  have q := PySem.W.cellsFrom_some sc.names n [] (.inl h)
  exact Option.isSome_iff_exists.mp q
theorem inv_start {CX : CXT} {P : Program} {w : World} {K : PySem.W.Frag} {mg : Str → Option Value} {base : Heap} {N ps : List Str} {qual : Str} {scope : Scope} {f : Addr} {cd : Value} {A : Around} {outer : List Env} {s s1 : Shared} {H : Hp} {E : XK} {us : List Value} {vs : List V}
    (S : FnScope N ps scope) (hd : A.handled = none) (e0 : Env0 P w K mg base A outer s H) (hl : vs.length = ps.length) (r : Vals vs us)
    (x : InCallC s s.heap.objs.size (bindL (envOfC qual scope s.heap.objs.size f cd).kindOf (ps.zip us) fun _ => none) (cellsFrom (s.heap.objs.size + 1) scope.names []) (bindC (envOfC qual scope s.heap.objs.size f cd).kindOf (ps.zip us) fun _ => none) s1) :
    Inv (cxOf CX P w K mg base N qual scope f cd A outer s H E) [] (start N vs) H s1 := by
  have hpl : ps.length ≤ N.length := by have := congrArg List.length S.pre; rw [List.length_take] at this; omega
  obtain ⟨h1, tk, rfl, hk⟩ := x.done
  have noA : ∀ b : Addr, b ∉ (cxOf CX P w K mg base N qual scope f cd A outer s H E).ex := fun b z => absurd (show b ∈ ([] : List Addr) from z) (by simp)
  refine ⟨⟨e0.mod, S.kind, rfl, rfl, Nat.le_refl _, fun y z c h1 h2 => ?_, fun y hy => ?_, fun y c _ h => ?_, fun _ => hd, Around.frames_deeper e0.frames, .inr ⟨rfl, rfl⟩, fun b z => absurd z (noA b), e0.bs, e0.bsz, fun b _ _ => noA b, fun b z => absurd z (noA b), e0.funs, e0.frf⟩,
    rfl, e0.bare, Un.kept hk, ⟨_, x.toInCall.ns, fun i y v h1 h2 h3 => ?_⟩, fun y c h => ⟨_, x.cell y c h⟩, e0.hok.fresh (Nat.le_refl _), fun y c h => ?_, fun p hp => absurd (show p ∈ ([] : List (Addr × Obj)) from hp) (by simp), e0.hok.kept hk, ?_⟩
  · exact name_of_addr x.apart (PySem.mem_of_lookup h1) (PySem.mem_of_lookup h2)
  · have hy : scope.names.lookup y = some .cell ∨ scope.names.lookup y = some .free := hy
    rcases hy with hy | hy
    · exact cell_has hy
    · exact absurd rfl (S.nofree _ (PySem.mem_of_lookup hy))
  · exact Nat.le_of_lt (x.above y c (PySem.mem_of_lookup h))
  · have hi : i < vs.length := by
      unfold start at h2
      by_cases hi : i < vs.length
      · exact hi
      · rw [List.getElem?_append_right (by simpa using hi)] at h2
        rw [List.getElem?_replicate] at h2
        split at h2 <;> cases h2
    have ha : vs[i]? = some v := by
      unfold start at h2
      rw [List.getElem?_append_left (by simpa using hi), List.getElem?_map] at h2
      cases e : vs[i]? with
      | none => rw [e] at h2; cases h2
      | some a => rw [e] at h2; cases h2; rfl
    obtain ⟨u, hu, rv⟩ := r.get ha
    have hp : ps[i]? = some y := by
      rw [← S.pre, List.getElem?_take_of_lt (by omega)]; exact h1
    have ndP : ps.Nodup := by rw [← S.pre]; exact S.nd.sublist (List.take_sublist _ _)
    refine ⟨u, rv, ?_⟩
    rcases S.par y (List.mem_of_getElem? hp) with k | k
    · exact .inl ⟨k, bindL_get ndP hp hu k⟩
    · obtain ⟨c, e⟩ := cell_has (n := s.heap.objs.size + 1) k
      refine .inr ⟨.inl k, c, e, ?_⟩
      have q := x.cell y c e
      rw [bindC_get ndP hp hu (by show scope.names.lookup y ≠ _; rw [k]; decide)] at q
      exact q
  · exact e0.hok.fresh (Nat.le_of_lt (x.above y c (PySem.mem_of_lookup h)))
  · unfold start
    show _ = N.length
    rw [List.length_append, List.length_map, List.length_replicate]
    omega
theorem fn_of {CX : CXT} {P : Program} {w : World} {K : PySem.W.Frag} {mg : Str → Option Value} {base : Heap} {k : Nat} {f : Addr} {name qual : Str} {params : Arguments} {body : List Stmt} {scope : Scope} {dV kV doc pm cdv ct oc : Value} {an od : Option Addr}
    {osl : Array (Option Value)} {N ps : List Str} {sp : Sp} (lk : K.lookup f = some ⟨oc, od, .func (PySem.W.fnOf name qual params body scope dV kV doc pm an cdv ct), osl⟩) (hcd : PySem.W.codeIn K cdv qual = true) (S : FnScope N ps scope)
    (len : ∀ vs H Q E, sp vs H Q E → vs.length = ps.length)
    (hbody : ∀ (A : Around) (outer : List Env) (s : Shared) (H : Hp) (vs : List V) (Q : VK) (E : XK), Room k (A.deeper (envOfC qual scope s.heap.objs.size f cdv)) → sp vs H Q E →
      ∃ t, PSs (cxOf CX P w K mg base N qual scope f cdv A outer s H E) body t ∧ t { nx := fun _ H' => Q .non H', rt := Q } (start N vs) H) :
    FnOk P w K mg base CX (k + 1) f (PySem.W.fnOf name qual params body scope dV kV doc pm an cdv ct) ps sp := by
  refine ⟨len, fun A outer s H args us vs Q E hr e0 hb r hsp => ?_⟩
  have hl := len _ _ _ _ hsp
  have KX : K.In s.heap := e0.mod.kin.keeps fun b o e => (e0.bs b o e).1
  have lim : s.heap.NoLimit := e0.mod.nolimit.keeps fun b o e => (e0.bs b o e).1
  have hkind : ∀ y ∈ ps.zip us, scope.names.lookup y.1 = some .local ∨ (scope.names.lookup y.1 = some .cell ∧ ((cellsFrom (s.heap.objs.size + 1) scope.names []).lookup y.1).isSome = true) := fun ⟨n, v⟩ hy => by
    rcases S.par n (List.of_mem_zip hy).1 with q | q
    · exact .inl q
    · exact .inr ⟨q, PySem.W.cellsFrom_some _ _ _ (.inl q)⟩
  refine codeAny_call_function hr.depth (KX _ _ lk) rfl S.co S.gen rfl (PySem.W.codeRec_of KX hcd) (hb _ _ _ _ ?_)
  refine wpAny_newFunctionEnv_cells S.kind hkind fun env he s1 x => ?_
  subst he
  refine ⟨lim.keeps x.toInCall.keep, codeAny_func ?_⟩
  obtain ⟨t, ht, hq⟩ := hbody A outer s H vs Q E (hr.deeper _) hsp
  have I : Inv (cxOf CX P w K mg base N qual scope f cdv A outer s H E) [] (start N vs) H s1 := inv_start S hr.hd e0 hl r x
  refine wpAny_mono (ht [] s1 (start N vs) H _ I hq) (fun fl s' hs => ?_) fun e s' hs => hs
  have fin : ∀ {σ' : St} {H' : Hp} {v : V} {u : Value}, Inv (cxOf CX P w K mg base N qual scope f cdv A outer s H E) [] σ' H' s' → RelV v u → Q v H' → CE outer P w H s Q u s' :=
    fun {σ' H' v u} J rv q => ⟨v, H', J.os, J.bare, J.base, J.hok, rv, q⟩
  cases fl with
  | ret u =>
    obtain ⟨v, σ', H', J, rv, q⟩ := hs
    exact fin J rv q
  | next =>
    obtain ⟨σ', H', J, q⟩ := hs
    exact fin (v := V.non) (u := Value.none) J rfl q
  | brk =>
    obtain ⟨_, _, _, q⟩ := hs
    exact False.elim q
  | cont =>
    obtain ⟨_, _, _, q⟩ := hs
    exact False.elim q
end L2
namespace L2
open PySem PySem.Spec PyProof.Rows
section
variable {X : Cx} {x : Str} {p pos : Pos} {e : Expr} {es : List Expr} {t : TA} {id T : String} {r : List V → Hp → VK → Prop}
def tCB (r : List V → Hp → VK → Prop) (t : TA) : TE := fun σ H Q => t σ H fun vs H1 => r vs H1 Q
theorem pe_callB (hc : CallR X (.builtin id) r) (hg : Gl X x) (hm : X.mg x = none) (hv : bootBuiltins x = some (.builtin id)) (ha : PA X (e :: es) t) (hn : x ≠ "__name__" := by decide) (hdb : (x == ("__debug__" : Str)) = false := by decide)
    (he : starEach (e :: es) X.env = (false, eval e X.env) :: starEach es X.env := by rfl) (hpl : (backTo pos (starEach es X.env)).any (·.1) = false := by rfl) : PE X (.Call (.Name x p) (e :: es) [] pos) (tCB r t) := by
  intro pins s σ H Q I h
  refine wpAny_Call_Name_kw (ld_blt I hg hm hv ?_ hn hdb)
  exact PyProof.Rows.callWith_builtin1 (thn (ha pos pins s σ H _ I h) fun us s1 ⟨vs, H1, I1, r1, q1⟩ => hc pins s1 σ H1 vs us Q I1 r1 q1) he hpl
theorem pe_callTy (hc : CallR X (.type T) r) (hg : Gl X x) (hm : X.mg x = none) (hv : bootBuiltins x = some (.type T)) (ha : PA X (e :: es) t) (hn : x ≠ "__name__" := by decide) (hdb : (x == ("__debug__" : Str)) = false := by decide)
    (he : starEach (e :: es) X.env = (false, eval e X.env) :: starEach es X.env := by rfl) (hpl : (backTo pos (starEach es X.env)).any (·.1) = false := by rfl) : PE X (.Call (.Name x p) (e :: es) [] pos) (tCB r t) := by
  intro pins s σ H Q I h
  refine wpAny_Call_Name_kw (ld_blt I hg hm hv ?_ hn hdb)
  exact PyProof.Rows.callWith_type1 (thn (ha pos pins s σ H _ I h) fun us s1 ⟨vs, H1, I1, r1, q1⟩ => hc pins s1 σ H1 vs us Q I1 r1 q1) he hpl
end
end L2
namespace HT
open PySem PyProof.Rows
def lexLt : List Int → List Int → Bool
  | [], [] => false
  | [], _ :: _ => true
  | _ :: _, [] => false
  | x :: xs, y :: ys => if x = y then lexLt xs ys else decide (x < y)
section
open PySem.SeqAt
open PySem.AutoSeq1 (wpAny_loadPart')
open PySem.MeetsSeq PySem.MeetsSeq2 PySem.MeetsSeq3
end
section
variable {prog : Program} {w : World} {A : Around} {E : Value → Shared → Prop} {s : Shared}
def sIx (n d : Nat) : Option Int → Nat
  | none => d
  | some v => if v < 0 then (v + (n : Int)).toNat else min v.toNat n
end
end HT
namespace L2
open PySem PySem.Spec PyProof.Rows
abbrev TO := St → Hp → (Option Int → Hp → Prop) → Prop
def PO (X : Cx) (e : Option Expr) (t : TO) : Prop :=
  ∀ (pins : List (Addr × Obj)) (s : Shared) (σ : St) (H : Hp) (Q : Option Int → Hp → Prop), Inv X pins σ H s → t σ H Q →
    wpAny (model X.prog X.w) X.A (evalPart e X.env) (fun u s' => ∃ o H', Inv X pins σ H' s' ∧ IsPart u o ∧ Q o H') X.xe s
def tNoPart : TO := fun _ H Q => Q none H
def tPart (t : TE) : TO := fun σ H Q => t σ H fun x H1 => ∃ i, x = .int i ∧ Q (some i) H1
section
variable {X : Cx} {e : Expr} {te : TE} {lo hi : Option Expr} {tl th : TO} {pos p2 : Pos}
theorem po_none : PO X none tNoPart := by
  intro pins s σ H Q I h
  rw [evalPart_none]
  exact wpAny_pure ⟨none, H, I, .none, h⟩
theorem po_some (h : PE X e te) : PO X (some e) (tPart te) := by
  intro pins s σ H Q I hw
  rw [evalPart_some]
  refine thn (h pins s σ H _ I hw) fun u s1 ⟨x, H1, I1, r1, q1⟩ => ?_
  obtain ⟨i, rfl, q⟩ := q1
  obtain ⟨t, rfl⟩ := r1
  exact ⟨some i, H1, I1, .int i t, q⟩
def SlR (X : Cx) (r : V → Option Int → Option Int → Hp → VK → Prop) : Prop :=
  ∀ (pins : List (Addr × Obj)) (s : Shared) (σ : St) (H : Hp) (x : V) (v vl vu : Value) (lo hi : Option Int) (sl : Addr) (Q : VK), Inv X pins σ H s → RelV x v → s.heap.IsSliceOf sl vl vu .none → IsPart vl lo → IsPart vu hi → r x lo hi H Q →
    ∃ T id, typeLookup (.type T) "__getitem__" = pure (some (.builtin id)) ∧ s.TypeIs v T ∧ wpAny (model X.prog X.w) X.A (getItem v (.ref sl)) (EP X pins σ Q) X.xe s
def tSl (r : V → Option Int → Option Int → Hp → VK → Prop) (te : TE) (tl th : TO) : TE := fun σ H Q => te σ H fun x H1 => tl σ H1 fun l H2 => th σ H2 fun u H3 => r x l u H3 Q
theorem pe_slice {r : V → Option Int → Option Int → Hp → VK → Prop} (hr : SlR X r) (he : PE X e te) (hl : PO X lo tl) (hu : PO X hi th) : PE X (.Subscript e (.Slice lo hi none p2) pos) (tSl r te tl th) := by
  intro pins s σ H Q I h
  refine Subscript_ (thn (he pins s σ H _ I h) fun v s1 ⟨x, H1, I1, r1, q1⟩ => ?_)
  refine wpAny_Slice (thn (hl pins s1 σ H1 _ I1 q1) fun vl s2 ⟨l, H2, I2, pl, q2⟩ => thn (hu pins s2 σ H2 _ I2 q2) fun vu s3 ⟨u, H3, I3, pu, q3⟩ => ?_)
  rw [evalPart_none]
  refine wpAny_pure ?_
  have I4 : Inv X pins σ H3 { s3 with heap := s3.heap.push { cls := .type "slice", data := .fields #[vl, vu, .none] } } := I3.kept (t' := s3.toks) fun b ob q => Heap.get?_push_of_some _ q
  obtain ⟨T, id, hT, ht, hg⟩ := hr pins { s3 with heap := s3.heap.push { cls := .type "slice", data := .fields #[vl, vu, .none] } } σ H3 x v vl vu l u s3.heap.objs.size Q I4 r1 (Heap.IsSliceOf.new ..) pl pu q3
  show wpAny (model X.prog X.w) X.A (subscriptTail e (.Slice lo hi none p2) v (.ref s3.heap.objs.size)) (EP X pins σ Q) X.xe { s3 with heap := s3.heap.push { cls := .type "slice", data := .fields #[vl, vu, .none] } }
  exact tail_any (ops := [.ref s3.heap.objs.size, v]) ht hT hg (by with_unfolding_all rfl)
def cutV (xs : List V) (lo hi : Option Int) : List V := (xs.drop (HT.sIx xs.length 0 lo)).take (HT.sIx xs.length xs.length hi - HT.sIx xs.length 0 lo)
theorem cutV_length (xs : List V) (lo hi : Option Int) : (cutV xs lo hi).length ≤ xs.length := by
  unfold cutV
  rw [List.length_take, List.length_drop]
  omega
def rSlT (K : PySem.W.Frag) : V → Option Int → Option Int → Hp → VK → Prop := fun x lo hi H Q => ∃ a xs, x = .ref a ∧ SqT K H a xs ∧
  ¬ (HT.sIx xs.length 0 lo = 0 ∧ HT.sIx xs.length xs.length hi = xs.length) ∧ ∀ p, H p = none → Q (.ref p) (upd H p (.tup (cutV xs lo hi)))
def rLtT (K : PySem.W.Frag) : R2 := fun x y H Q => ∃ a b ns ms, x = .ref a ∧ y = .ref b ∧ SqT K H a (ns.map V.int) ∧ SqT K H b (ms.map V.int) ∧ Q (.bl (HT.lexLt ns ms)) H
def rCatT (K : PySem.W.Frag) : R2 := fun x y H Q => ∃ a b xs ys, x = .ref a ∧ y = .ref b ∧ SqT K H a xs ∧ SqT K H b ys ∧ xs ≠ [] ∧ xs.length + ys.length ≤ sizeLine ∧
  (ys = [] → Q (.ref a) H) ∧ (ys ≠ [] → ∀ p, H p = none → Q (.ref p) (upd H p (.tup (xs ++ ys))))
end
end L2
namespace L2
open PySem PySem.Spec PyProof.Rows
def ixN (n : Nat) (i : Int) : Option Nat := if 0 ≤ i then (if i < n then some i.toNat else none) else if -(n : Int) ≤ i then some (i + n).toNat else none
def atI {α : Type} (xs : List α) (i : Int) : Option α := (ixN xs.length i).bind fun j => xs[j]?
theorem ixN_seq {n : Nat} {i : Int} {j : Nat} (h : ixN n i = some j) : seqIndex? i n = some j ∧ j < n ∧ -(n : Int) ≤ i ∧ i < n := by
  unfold ixN at h
  by_cases h0 : 0 ≤ i
  · rw [if_pos h0] at h
    by_cases h1 : i < n
    · rw [if_pos h1] at h
      have e : i.toNat = j := Option.some.inj h
      exact ⟨by rw [seqIndex_of h0 h1, e], by omega, by omega, h1⟩
    · rw [if_neg h1] at h; cases h
  · rw [if_neg h0] at h
    by_cases h1 : -(n : Int) ≤ i
    · rw [if_pos h1] at h
      have e : (i + n).toNat = j := Option.some.inj h
      exact ⟨by rw [seqIndex_neg (by omega) h1, e], by omega, h1, by omega⟩
    · rw [if_neg h1] at h; cases h
theorem atI_get {α : Type} {xs : List α} {i : Int} {v : α} (h : atI xs i = some v) : ∃ j, seqIndex? i xs.length = some j ∧ xs[j]? = some v ∧ j < xs.length ∧ -(xs.length : Int) ≤ i ∧ i < xs.length := by
  unfold atI at h
  cases e : ixN xs.length i with
  | none => rw [e] at h; cases h
  | some j =>
    rw [e] at h
    obtain ⟨h1, h2, h3, h4⟩ := ixN_seq e
    exact ⟨j, h1, h, h2, h3, h4⟩
theorem atI_nat {α : Type} {xs : List α} {j : Nat} {v : α} (h : xs[j]? = some v) : atI xs (j : Int) = some v := by
  have hj : j < xs.length := (List.getElem?_eq_some_iff.mp h).1
  have e : ixN xs.length (j : Int) = some j := by
    unfold ixN
    rw [if_pos (by omega), if_pos (by omega)]; simp
  unfold atI; rw [e]; exact h
def PlainIx (b : Expr) : Prop := ∀ o i, subscripted b false o i = operate [o, i] (getItem o i)
def IxR (X : Cx) (r : R2) : Prop :=
  ∀ (value slice : Expr) (pins : List (Addr × Obj)) (s : Shared) (σ : St) (H : Hp) (x y : V) (v u : Value) (Q : VK), Inv X pins σ H s → RelV x v → RelV y u → r x y H Q →
    subscripted slice false v u = operate [v, u] (getItem v u) → wpAny (model X.prog X.w) X.A (subscriptTail value slice v u) (EP X pins σ Q) X.xe s
def MtR (X : Cx) (id : String) (r : V → List V → Hp → VK → Prop) : Prop :=
  ∀ (pins : List (Addr × Obj)) (s : Shared) (σ : St) (H : Hp) (x : V) (xs : List V) (v : Value) (us : List Value) (Q : VK), Inv X pins σ H s → RelV x v → Vals xs us → r x xs H Q →
    wpAny (model X.prog X.w) X.A (call (.builtin id) (v :: us)) (EP X pins σ Q) X.xe s
section
variable {X : Cx} {a b : Expr} {ta tb : TE} {pos : Pos}
theorem pe_ix {r : R2} (hr : IxR X r) (ha : PE X a ta) (hb : PE X b tb) (hs : PlainIx b) : PE X (.Subscript a b pos) (tOp r ta tb) := by
  intro pins s σ H Q I h
  exact Subscript_ (binT ha hb I h fun v u s2 x y H2 I2 rx ry q => hr a b pins s2 σ H2 x y v u Q I2 rx ry q (hs _ _))
def rIxL (K : PySem.W.Frag) : R2 := fun x y H Q => ∃ p xs i v, x = .ref p ∧ y = .int i ∧ SqL K H p xs ∧ atI xs i = some v ∧ Q v H
def rIxT (K : PySem.W.Frag) : R2 := fun x y H Q => ∃ p xs i v, x = .ref p ∧ y = .int i ∧ SqT K H p xs ∧ atI xs i = some v ∧ Q v H
def rIxS : R2 := fun x y H Q => ∃ z i c, x = .str z ∧ y = .int i ∧ z.length ≤ sizeLine ∧ atI z.cps.toList i = some c ∧ Q (.str ⟨#[c]⟩) H
theorem ix_list : IxR X (rIxL X.K) := by
  intro value slice pins s σ H x y v u Q I rx ry h hs
  obtain ⟨p, xs, i, z, rfl, rfl, hq, he, q⟩ := h
  cases rx
  obtain ⟨t, rfl⟩ := ry
  obtain ⟨its, r, pl, hz⟩ := I.list hq
  obtain ⟨j, h1, h2, h3, h4, h5⟩ := atI_get he
  obtain ⟨w, ew, rw'⟩ := r.get h2
  have hl := r.length
  have hn := line63
  have fin : EP X pins σ Q w s := ⟨z, H, I, rw', q⟩
  by_cases h0 : 0 ≤ i
  · have hj : i.toNat = j := by
      rw [seqIndex_of h0 h5] at h1
      exact Option.some.inj h1
    exact item_listR pl.isList h0 (by omega) (by rw [hj]; simpa using ew) fin hs
  · have hj : (i + (its.toArray.size : Int)).toNat = j := by
      rw [seqIndex_neg (by omega) h4] at h1
      rw [List.size_toArray, ← hl]
      exact Option.some.inj h1
    exact subscriptTail_builtinR (x := w) pl.isList.typeIs slot_list_getitem.lookup
      (wpAny_getItem_list_neg (Q := fun r s' => r = w ∧ EP X pins σ Q r s') pl.isList (by omega) (by rw [List.size_toArray] <;> omega) (by omega) (by rw [hj]; simpa using ew) ⟨rfl, fin⟩) hs
theorem ix_tup : IxR X (rIxT X.K) := by
  intro value slice pins s σ H x y v u Q I rx ry h hs
  obtain ⟨p, xs, i, z, rfl, rfl, hq, he, q⟩ := h
  cases rx
  obtain ⟨t, rfl⟩ := ry
  obtain ⟨its, r, pl, hz⟩ := I.tuple hq
  obtain ⟨j, h1, h2, h3, h4, h5⟩ := atI_get he
  obtain ⟨w, ew, rw'⟩ := r.get h2
  have hl := r.length
  have hn := line63
  have fin : EP X pins σ Q w s := ⟨z, H, I, rw', q⟩
  exact subscriptTail_builtinR (x := w) pl.typeIs slot_tuple_getitem.lookup
    (getItem_tuple (j := j) (Q := fun r s' => r = w ∧ EP X pins σ Q r s') pl (by omega) (by omega) (by rw [List.size_toArray, ← hl]; exact h1) (by simpa using ew) ⟨rfl, fin⟩) hs
def rIx (K : PySem.W.Frag) : R2 := fun x y H Q => rIxL K x y H Q ∨ rIxT K x y H Q ∨ rIxS x y H Q
theorem mapSeq_set (its : List Value) (n j : Nat) (u : Value) : Obj.mapSeq (·.setIfInBounds j u) { cls := .type "list", data := .seq its.toArray n } = { cls := .type "list", data := .seq (its.set j u).toArray n } := by
  simp [Obj.mapSeq]
theorem Inv.lst {pins : List (Addr × Obj)} {σ : St} {H : Hp} {s : Shared} {p : Addr} {xs : List V} (I : Inv X pins σ H s) (h : H p = some (.lst xs)) :
    ∃ (its : List Value) (n : Nat), Vals xs its ∧ s.heap.get? p = some { cls := .type "list", data := .seq its.toArray n } ∧ xs.length ≤ sizeLine := by
  obtain ⟨z, its, n, r, e⟩ := I.hok p _ h
  exact ⟨its, n, r, e, z⟩
theorem Inv.lstUpd {pins : List (Addr × Obj)} {σ : St} {H : Hp} {s : Shared} {p : Addr} {xs ys : List V} {its its' : List Value} {n n' : Nat} {f : Obj → Obj} (I : Inv X pins σ H s) (h : H p = some (.lst xs))
    (ho : s.heap.get? p = some { cls := .type "list", data := .seq its.toArray n }) (hf : f { cls := .type "list", data := .seq its.toArray n } = { cls := .type "list", data := .seq its'.toArray n' }) (r : Vals ys its') (hz : ys.length ≤ sizeLine) (t : Nat) :
    Inv X pins σ (upd H p (.lst ys)) { s with heap := s.heap.update p f, toks := t } := by
  have e : (s.heap.update p f).get? p = some { cls := .type "list", data := .seq its'.toArray n' } := by
    rw [Heap.get?_update_self f ho (by rw [hf] <;> rfl), hf]
  refine I.write (x := p) (e := p) (by rw [h]; trivial) (.inl rfl) (fun b u hb q => (Heap.get?_update_other _ _ (Ne.symm hb)).trans q) ⟨_, e⟩ ?_
  exact ⟨hz, its', n', r, e⟩
def rSetL : V → V → V → Hp → (Hp → Prop) → Prop := fun o i v H Q => ∃ p xs k j, o = .ref p ∧ i = .int k ∧ H p = some (.lst xs) ∧ ixN xs.length k = some j ∧ Q (upd H p (.lst (xs.set j v)))
theorem set_list : PSet X rSetL := by
  intro pins s σ H o i v ov iv u Q I ro ri rv h
  obtain ⟨p, xs, k, j, rfl, rfl, hp, hj, q⟩ := h
  cases ro
  obtain ⟨t, rfl⟩ := ri
  obtain ⟨its, n, r, ho, hz⟩ := I.lst hp
  obtain ⟨h1, h2, h3, h4⟩ := ixN_seq hj
  have hl := r.length
  have hn := line63
  have I' : Inv X pins σ (upd H p (.lst (xs.set j v))) { s with heap := s.heap.update p (Obj.mapSeq (·.setIfInBounds j u)) } :=
    I.lstUpd hp ho (mapSeq_set its n j u) (r.set rv j) (by rw [List.length_set]; exact hz) s.toks
  by_cases h0 : 0 ≤ k
  · have hk : k.toNat = j := by
      rw [seqIndex_of h0 h4] at h1
      exact Option.some.inj h1
    exact PySem.W.ki_setAt ho h0 (by omega) (by rw [List.size_toArray, ← hl]; exact h4) (by rw [hk]; exact ⟨_, I', q⟩)
  · have hk : (k + (its.toArray.size : Int)).toNat = j := by
      rw [seqIndex_neg (by omega) h3] at h1
      rw [List.size_toArray, ← hl]
      exact Option.some.inj h1
    exact PySem.W.ki_setBack ho (by omega) (by rw [List.size_toArray, ← hl]; exact h3) (by omega) (by rw [hk]; exact ⟨_, I', q⟩)
theorem slice_bounds (lo hi : Option Int) (n : Nat) : (sliceBounds lo hi none n).1 = ((HT.sIx n 0 lo : Nat) : Int) ∧ (sliceBounds lo hi none n).2.1 = ((HT.sIx n n hi : Nat) : Int) ∧ (sliceBounds lo hi none n).2.2 = 1 := by
  refine ⟨?_, ?_, rfl⟩
  · cases lo with
    | none => simp [sliceBounds, HT.sIx]
    | some i =>
      simp only [sliceBounds, HT.sIx, Option.getD_none, show (1 : Int) > 0 by decide, if_true]
      by_cases h : i < 0
      · simp only [h, if_true] <;> omega
      · simp only [h, if_false] <;> omega
  · cases hi with
    | none => simp [sliceBounds, HT.sIx]
    | some i =>
      simp only [sliceBounds, HT.sIx, Option.getD_none, show (1 : Int) > 0 by decide, if_true]
      by_cases h : i < 0
      · simp only [h, if_true] <;> omega
      · simp only [h, if_false] <;> omega
theorem slicePick_cut (its : List Value) (lo hi : Option Int) : slicePick its.toArray lo hi none = ((its.drop (HT.sIx its.length 0 lo)).take (HT.sIx its.length its.length hi - HT.sIx its.length 0 lo)).toArray := by
  obtain ⟨h1, h2, h3⟩ := slice_bounds lo hi its.toArray.size
  unfold slicePick
  rw [h1, h2, h3]
  simp only [sliceRange_one, pick_run, List.size_toArray] <;> rfl
def rSlL (K : PySem.W.Frag) : V → Option Int → Option Int → Hp → VK → Prop := fun x lo hi H Q => ∃ a xs, x = .ref a ∧ SqL K H a xs ∧ ∀ p, H p = none → Q (.ref p) (upd H p (.lst (cutV xs lo hi)))
theorem sl_list : SlR X (rSlL X.K) := by
  intro pins s σ H x v vl vu lo hi sl Q I rx hs pl pu h
  obtain ⟨a, xs, rfl, hx, q⟩ := h
  cases rx
  obtain ⟨its, r, ht, hz⟩ := I.list hx
  have hlen := r.length
  refine ⟨"list", _, slot_list_getitem.lookup, ht.isList.typeIs, ?_⟩
  refine wpAny_getItem_list_slice ht.isList hs pl pu .none (by simp) ?_ (by rw [List.size_toArray] <;> omega)
  rw [slicePick_cut, ← hlen]
  refine ⟨.ref s.heap.objs.size, _, I.laid (t' := s.toks) (o := .lst (cutV xs lo hi)) (fun b ob q => Heap.get?_push_of_some _ q) (Nat.le_refl _) ?_, rfl, q _ (I.hok.fresh (Nat.le_refl _))⟩
  exact ⟨Nat.le_trans (cutV_length xs lo hi) hz, _, 0, (r.drop (HT.sIx xs.length 0 lo)).take (HT.sIx xs.length xs.length hi - HT.sIx xs.length 0 lo), Heap.get?_push_size _ rfl⟩
def flatV : V → Bool
  | .non => true
  | .bl _ => true
  | .int _ => true
  | .str _ => true
  | _ => false
def eqV : V → V → Bool
  | .non, .non => true
  | .bl a, .bl b => a == b
  | .bl a, .int b => (if a then 1 else 0) == b
  | .int a, .bl b => a == (if b then 1 else 0)
  | .int a, .int b => a == b
  | .str a, .str b => a == b
  | _, _ => false
theorem eqAt_V {A : Around} {s : Shared} {y x : V} {u v : Value} (ry : RelV y u) (rx : RelV x v) (fy : flatV y = true) (fx : flatV x = true) : SeqAt.EqAt A s u v (eqV y x) := by
  cases y with
  | non =>
    cases ry
    cases x with
    | non => cases rx; exact SeqAt.EqAt.same _
    | bl b => cases rx; exact SeqAt.EqAt.none_bool b
    | int b => obtain ⟨t, rfl⟩ := rx; exact SeqAt.EqAt.none_int b t
    | str b => obtain ⟨t, rfl⟩ := rx; exact SeqAt.EqAt.none_str b t
    | _ => exact absurd (show false = true from fx) Bool.false_ne_true
  | bl a =>
    cases ry
    cases x with
    | non => cases rx; exact SeqAt.EqAt.bool_none a
    | bl b => cases rx; exact SeqAt.EqAt.bool_bool a b
    | int b => obtain ⟨t, rfl⟩ := rx; exact SeqAt.EqAt.bool_int a b t
    | str b => obtain ⟨t, rfl⟩ := rx; exact SeqAt.EqAt.bool_str a b t
    | _ => exact absurd (show false = true from fx) Bool.false_ne_true
  | int a =>
    obtain ⟨t', rfl⟩ := ry
    cases x with
    | non => cases rx; exact SeqAt.EqAt.int_none a t'
    | bl b => cases rx; exact SeqAt.EqAt.int_bool a t' b
    | int b => obtain ⟨t, rfl⟩ := rx; exact SeqAt.EqAt.int_int a t' b t
    | str b => obtain ⟨t, rfl⟩ := rx; exact SeqAt.EqAt.int_str a t' b t
    | _ => exact absurd (show false = true from fx) Bool.false_ne_true
  | str a =>
    obtain ⟨t', rfl⟩ := ry
    cases x with
    | non => cases rx; exact SeqAt.EqAt.str_none a t'
    | bl b => cases rx; exact SeqAt.EqAt.str_bool a t' b
    | int b => obtain ⟨t, rfl⟩ := rx; exact SeqAt.EqAt.str_int a t' b t
    | str b => obtain ⟨t, rfl⟩ := rx; exact SeqAt.EqAt.str_str a t' b t
    | _ => exact absurd (show false = true from fx) Bool.false_ne_true
  | _ => exact absurd (show false = true from fy) Bool.false_ne_true
def eqU (x : V) (u : Value) : Bool := match u with
  | .none => eqV .non x
  | .bool b => eqV (.bl b) x
  | .int i _ => eqV (.int i) x
  | .str z _ => eqV (.str z) x
  | _ => false
theorem eqU_of {x y : V} {u : Value} (r : RelV y u) (f : flatV y = true) : eqU x u = eqV y x := by
  cases y with
  | non => cases r; rfl
  | bl b => cases r; rfl
  | int i => obtain ⟨t, rfl⟩ := r; rfl
  | str z => obtain ⟨t, rfl⟩ := r; rfl
  | _ => exact absurd (show false = true from f) Bool.false_ne_true
theorem any_eqU {x : V} : ∀ {xs : List V} {us : List Value}, Vals xs us → xs.all flatV = true → us.any (eqU x) = xs.any fun y => eqV y x
  | _, _, .nil, _ => rfl
  | y :: xs, u :: us, .cons r t, f => by
    rw [List.all_cons, Bool.and_eq_true] at f
    rw [List.any_cons, List.any_cons, eqU_of r f.1, any_eqU t f.2]
theorem mem_eqAt {A : Around} {s : Shared} {x : V} {v : Value} (rx : RelV x v) (fx : flatV x = true) : ∀ {xs : List V} {us : List Value}, Vals xs us → xs.all flatV = true → ∀ u ∈ us, SeqAt.EqAt A s u v (eqU x u)
  | _, _, .nil, _ => fun u hu => by cases hu
  | y :: xs, u :: us, .cons r t, f => fun u' hu => by
    rw [List.all_cons, Bool.and_eq_true] at f
    rcases List.mem_cons.mp hu with rfl | hu
    · rw [eqU_of r f.1]; exact eqAt_V r rx f.1 fx
    · exact mem_eqAt rx fx t f.2 u' hu
def inV (x : V) (xs : List V) : Bool := xs.any fun y => eqV y x
def rIn (K : PySem.W.Frag) (neg : Bool) : R2 := fun x y H Q => ∃ p xs, y = .ref p ∧ (SqL K H p xs ∨ SqT K H p xs) ∧ flatV x = true ∧ xs.all flatV = true ∧ Q (.bl (if neg then !inV x xs else inV x xs)) H
theorem op_notIn_seq : OpR X (compareOp .NotIn) (rIn X.K true) := by
  intro pins s σ H x y v u Q I rx ry h
  obtain ⟨p, xs, rfl, hq, fx, fs, q⟩ := h
  cases ry
  rcases hq with hq | hq
  · obtain ⟨its, r, pl, hz⟩ := I.list hq
    refine SeqAt.notIn_listAt (eqU x) pl.isList (fun w hw => mem_eqAt rx fx r fs w (by simpa using hw)) ⟨.bl _, H, I, rfl, ?_⟩
    rw [show its.toArray.any (eqU x) = its.any (eqU x) by simp, any_eqU r fs]
    exact q
  · obtain ⟨its, r, pl, hz⟩ := I.tuple hq
    refine SeqAt.notIn_tupleAt (eqU x) pl (fun w hw => mem_eqAt rx fx r fs w (by simpa using hw)) ⟨.bl _, H, I, rfl, ?_⟩
    rw [show its.toArray.any (eqU x) = its.any (eqU x) by simp, any_eqU r fs]
    exact q
theorem call_len_seq : CallR X (.builtin "len") (fun xs H Q => ∃ p ys, xs = [.ref p] ∧ (SqL X.K H p ys ∨ SqT X.K H p ys) ∧ Q (.int ys.length) H) := by
  intro pins s σ H xs us Q I r h
  obtain ⟨p, ys, rfl, hq, q⟩ := h
  obtain ⟨u, rfl, rx⟩ := vals1 r
  cases rx
  have hn := line63
  rcases hq with hq | hq
  · obtain ⟨its, r', pl, hz⟩ := I.list hq
    have hlen := r'.length
    exact Calls.call_len_list pl.isList (by simp only [List.size_toArray] <;> omega) ⟨.int ys.length, H, I.tok _, ⟨s.toks + 1, by rw [List.size_toArray, hlen]⟩, q⟩
  · obtain ⟨its, r', pl, hz⟩ := I.tuple hq
    have hlen := r'.length
    exact len_tuple pl (by simp only [List.size_toArray] <;> omega) ⟨.int ys.length, H, I.tok _, ⟨s.toks + 1, by rw [List.size_toArray, hlen]⟩, q⟩
theorem call_tuple_of : CallR X (.type "tuple") (fun xs H Q => ∃ p ys, xs = [.ref p] ∧ ((SqL X.K H p ys ∧ ∀ l, H l = none → Q (.ref l) (upd H l (.tup ys))) ∨ (SqT X.K H p ys ∧ Q (.ref p) H))) := by
  intro pins s σ H xs us Q I r h
  obtain ⟨p, ys, rfl, h⟩ := h
  obtain ⟨u, rfl, rx⟩ := vals1 r
  cases rx
  rcases h with ⟨hq, q⟩ | ⟨hq, q⟩
  · obtain ⟨its, r', pl, hz⟩ := I.list hq
    have hlen := r'.length
    refine call_tuple_list pl.isList (fun h' kp => ?_) (by simp only [List.size_toArray] <;> omega)
    have I1 : Inv X pins σ H { s with heap := h' } := I.kept (t' := s.toks) kp
    have I2 : Inv X pins σ (upd H h'.objs.size (.tup ys)) { s with heap := h'.push { cls := .type "tuple", data := .seq its.toArray } } :=
      I1.laid (t' := s.toks) (fun b o e => Heap.get?_push_of_some _ e) (Nat.le_refl _) (show ObjOk X.prog X.w _ _ _ (.tup ys) from ⟨hz, its, r', IsTup.new _ _⟩)
    exact ⟨.ref h'.objs.size, _, I2, rfl, q _ (I1.hok.fresh (Nat.le_refl _))⟩
  · obtain ⟨its, r', pl, hz⟩ := I.tuple hq
    exact call_tuple_same pl ⟨.ref p, H, I, rfl, q⟩
def tyV (K : PySem.W.Frag) (T : String) (x : V) (H : Hp) : Prop := match x with
  | .str _ => T = "str"
  | .int _ => T = "int"
  | .ref p => (T = "list" ∧ ∃ xs, SqL K H p xs) ∨ (T = "tuple" ∧ ∃ o, K.lookup p = some o ∧ o.cls = .type "tuple" ∧ o.dict = none) ∨
      (T = "dict" ∧ ((∃ kvs, H p = some (.dK kvs)) ∨ ∃ kvs, H p = some (.dT kvs))) ∨ (T = "set" ∧ ∃ S n, H p = some (.set S n))
  | _ => False
theorem tyV_is {pins : List (Addr × Obj)} {σ : St} {H : Hp} {s : Shared} {T : String} {x : V} {v : Value} (I : Inv X pins σ H s) (r : RelV x v) (ty : tyV X.K T x H) :
    s.TypeIs v T ∧ ∀ a, v = .ref a → ∃ ob, s.heap.get? a = some ob ∧ ob.dict = none := by
  cases x with
  | str z =>
    obtain ⟨t, rfl⟩ := r
    cases (show T = "str" from ty)
    exact ⟨typeIs_str s z t, fun _ e => nomatch e⟩
  | int i =>
    obtain ⟨t, rfl⟩ := r
    cases (show T = "int" from ty)
    exact ⟨typeIs_int s i t, fun _ e => nomatch e⟩
  | ref p =>
    cases r
    rcases ty with ⟨rfl, xs, hq⟩ | ⟨rfl, o, hk, hc, hd⟩ | ⟨rfl, hk⟩ | ⟨rfl, S, n, hk⟩
    · obtain ⟨its, _, pl, _⟩ := I.list hq
      refine ⟨pl.isList.typeIs, fun a e => ?_⟩
      cases e
      obtain ⟨o, n, e, c, hd, _⟩ := pl
      exact ⟨o, e, hd⟩
    · refine ⟨⟨o, I.kIn p o hk, hc⟩, fun a e => ?_⟩
      cases e
      exact ⟨o, I.kIn _ o hk, hd⟩
    · have z : ∃ o, s.heap.get? p = some o ∧ o.ExactDict := by
        rcases hk with ⟨kvs, hk⟩ | ⟨kvs, hk⟩
        · obtain ⟨_, _, _, _, o, _, _, e, ex, _⟩ := I.hok p _ hk
          exact ⟨o, e, ex⟩
        · obtain ⟨_, _, _, _, o, _, _, e, ex, _⟩ := I.hok p _ hk
          exact ⟨o, e, ex⟩
      obtain ⟨o, e, ex⟩ := z
      refine ⟨⟨o, e, ex.1⟩, fun a e2 => ?_⟩
      cases e2
      exact ⟨o, e, ex.2.1⟩
    · obtain ⟨o, _, _, _, e, ex, _⟩ := I.hok p _ hk
      refine ⟨⟨o, e, ex.1⟩, fun a e2 => ?_⟩
      cases e2
      exact ⟨o, e, ex.2.1⟩
  | _ => exact False.elim ty
def tBM0 (K : PySem.W.Frag) (T : String) (r : V → List V → Hp → VK → Prop) (to : TE) : TE := fun σ H Q => to σ H fun x H1 => tyV K T x H1 ∧ r x [] H1 Q
def tBM (K : PySem.W.Frag) (T : String) (r : V → List V → Hp → VK → Prop) (to : TE) (t : TA) : TE := fun σ H Q => to σ H fun x H1 => tyV K T x H1 ∧ t σ H1 fun xs H2 => r x xs H2 Q
variable {o e : Expr} {es : List Expr} {to : TE} {t : TA} {name : Str} {apos cpos : Pos} {T id : String} {r : V → List V → Hp → VK → Prop}
theorem pe_bm (pa : PlainAttrs T) (slot : Slot T name id) (hty : typeOf (.builtin id) = pure (.type "method_descriptor")) (hm : MtR X id r) (ho : PE X o to) (ha : PA X (e :: es) t)
    (hbase : attributeBase o name X.env (eval o X.env) = eval o X.env := by rfl)
    (hfew : ((backTo cpos (starEach (e :: es) X.env)).all (fun x => !x.1) && (backToKw cpos (keywordEach [] X.env)).all (fun x => x.1.isSome)
      && decide ((e :: es).length + ([] : List Keyword).length + (if ([] : List Keyword).isEmpty then 0 else 1) < 30)) = true := by rfl)
    (hline : (apos.endLine == cpos.line) = true := by rfl) (hs : starEach (e :: es) X.env = (false, eval e X.env) :: starEach es X.env := by rfl) (hplain : (backTo cpos (starEach es X.env)).any (·.1) = false := by rfl) :
    PE X (.Call (.Attribute o name apos) (e :: es) [] cpos) (tBM X.K T r to t) := by
  intro pins s σ H Q I h
  refine wpAny_Call_method_late hbase hfew hline rfl (thn (ho pins s σ H _ I h) fun v s1 ⟨x, H1, I1, r1, ty, q1⟩ => ?_)
  obtain ⟨h1, h2⟩ := tyV_is I1 r1 ty
  refine ⟨T, id, pa, slot, hty, h1, h2, ?_⟩
  have hA := ha cpos pins s1 σ H1 _ I1 q1
  rw [hs] at hA ⊢
  refine Calls.callWith_builtin (by show (false || (backTo cpos (starEach es X.env)).any (·.1)) = false; rw [hplain] <;> rfl) (Calls.evalArgs_plain ?_)
  exact thn hA fun us s2 ⟨vs, H2, I2, r2, q2⟩ => hm pins s2 σ H2 x vs v us Q I2 r1 r2 q2
end
end L2
namespace L2
open PySem PySem.Spec PyProof.Rows
def MtM (X : Cx) (id : String) (r : V → List V → Hp → VK → Prop) : Prop :=
  ∀ (pins : List (Addr × Obj)) (s : Shared) (σ : St) (H : Hp) (x : V) (xs : List V) (v : Value) (us : List Value) (Q : VK), Inv X pins σ H s → RelV x v → Vals xs us → r x xs H Q →
    wpAny (model X.prog X.w) X.A (call (.builtin id) (v :: us)) (EP X pins σ Q) X.xe s
theorem Vals.one : ∀ {x : V} {us : List Value}, Vals [x] us → ∃ u, us = [u] ∧ RelV x u
  | _, _, .cons r .nil => ⟨_, rfl, r⟩
theorem Vals.two : ∀ {x y : V} {us : List Value}, Vals [x, y] us → ∃ u v, us = [u, v] ∧ RelV x u ∧ RelV y v
  | _, _, _, .cons r (.cons q .nil) => ⟨_, _, rfl, r, q⟩
theorem Vals.zero : ∀ {us : List Value}, Vals [] us → us = []
  | _, .nil => rfl
theorem Vals.dropLast {xs : List V} {us : List Value} (h : Vals xs us) : Vals xs.dropLast us.dropLast := by
  induction h with
  | nil => exact .nil
  | cons r t ih =>
    cases t with
    | nil => exact .nil
    | cons q t' => exact .cons r ih
theorem Vals.eraseIdx : ∀ {xs : List V} {us : List Value} (i : Nat), Vals xs us → Vals (xs.eraseIdx i) (us.eraseIdx i)
  | _, _, _, .nil => .nil
  | _, _, 0, .cons _ t => t
  | _, _, i + 1, .cons r t => .cons r (Vals.eraseIdx i t)
theorem Vals.reverse {xs : List V} {us : List Value} (h : Vals xs us) : Vals xs.reverse us.reverse := by
  induction h with
  | nil => exact .nil
  | cons r t ih => rw [List.reverse_cons, List.reverse_cons]; exact Vals.append ih (.cons r .nil)
theorem Vals.rep {xs : List V} {us : List Value} (h : Vals xs us) : ∀ k : Nat, Vals (List.replicate k xs).flatten (List.replicate k us).flatten
  | 0 => .nil
  | k + 1 => by
    rw [List.replicate_succ, List.replicate_succ, List.flatten_cons, List.flatten_cons]
    exact Vals.append h (Vals.rep h k)
theorem foldl_rep (its : List Value) : ∀ (k : Nat) (acc : List Value),
    List.foldl (fun x1 x2 => x1 ++ x2) acc.toArray (List.replicate k its.toArray) = (acc ++ (List.replicate k its).flatten).toArray
  | 0, acc => by simp
  | k + 1, acc => by
    have e : acc.toArray ++ its.toArray = (acc ++ its).toArray := by simp
    have e2 : (acc ++ its) ++ (List.replicate k its).flatten = acc ++ (List.replicate (k + 1) its).flatten := by
      rw [List.replicate_succ, List.flatten_cons, List.append_assoc]
    rw [← e2, ← foldl_rep its k (acc ++ its), ← e, List.replicate_succ, List.foldl_cons]
section
variable {X : Cx} {pins : List (Addr × Obj)} {σ : St} {H : Hp} {s : Shared} {l b : Addr} {xs ys zs : List V}
theorem Inv.lset {its its' : List Value} {n : Nat} {f : Array Value → Array Value} {t' : Nat} (I : Inv X pins σ H s) (hH : H l = some (.lst xs))
    (e : s.heap.get? l = some { cls := .type "list", data := .seq its.toArray n }) (hf : f its.toArray = its'.toArray) (hv : Vals ys its') (hz : ys.length ≤ sizeLine) :
    Inv X pins σ (upd H l (.lst ys)) { s with heap := s.heap.update l (Obj.mapSeq f), toks := t' } := by
  have q := PySem.IsL.update e f
  rw [hf] at q
  refine I.write (x := l) (e := l) (by rw [hH]; exact trivial) (.inl rfl) (fun b' u hb hu => (Heap.get?_update_other s.heap (Obj.mapSeq f) (Ne.symm hb)).trans hu) ⟨_, q⟩ ?_
  exact ⟨hz, its', _, hv, q⟩
theorem Inv.lnew {its : List Value} {t' : Nat} (I : Inv X pins σ H s) (hv : Vals ys its) (hz : ys.length ≤ sizeLine) :
    Inv X pins σ (upd H s.heap.objs.size (.lst ys)) { s with heap := s.heap.push { cls := .type "list", data := .seq its.toArray }, toks := t' } :=
  I.laid (fun _ _ q => Heap.get?_push_of_some _ q) (Nat.le_refl _) ⟨hz, its, 0, hv, Heap.get?_push_size _ rfl⟩
theorem Inv.fresh (I : Inv X pins σ H s) : H s.heap.objs.size = none := I.hok.fresh (Nat.le_refl _)
theorem Inv.lstM (I : Inv X pins σ H s) (hH : H l = some (.lst xs)) : xs.length ≤ sizeLine ∧ ∃ (its : List Value) (n : Nat), Vals xs its ∧ xs.length = its.length ∧ s.heap.get? l = some { cls := .type "list", data := .seq its.toArray n } := by
  obtain ⟨z, its, n, r, e⟩ := I.hok l _ hH
  exact ⟨z, its, n, r, r.length, e⟩
theorem notLongL {n : Nat} (h : n ≤ sizeLine) : Builtin.List.listTooLong n = false := by
  unfold Builtin.List.listTooLong
  exact decide_eq_false (by omega)
end
section
variable {X : Cx}
def rAppend : V → List V → Hp → VK → Prop := fun x vs H Q => ∃ l xs y, x = .ref l ∧ vs = [y] ∧ H l = some (.lst xs) ∧ xs.length < sizeLine ∧ Q .non (upd H l (.lst (xs ++ [y])))
theorem mt_append : MtM X "list.append" rAppend := by
  intro pins s σ H x vs v us Q I rx rv h
  obtain ⟨l, xs, y, rfl, rfl, hH, hz, q⟩ := h
  cases rx
  obtain ⟨u, rfl, ru⟩ := rv.one
  obtain ⟨z, its, n, r, hl, e⟩ := I.lstM hH
  refine call_meets F.slot_list_append ⟨_, e, rfl⟩ F.entry_list_append (F.args_list_append_2 _ _) (PySem.list_append l its.toArray n u (by rw [List.size_toArray]; omega)) ⟨e, ?_⟩
  refine ⟨.non, _, I.lset (its' := its ++ [u]) hH e (by simp) (r.append (.cons ru .nil)) ?_, rfl, q⟩
  rw [List.length_append, List.length_singleton]
  omega
def rExtend : V → List V → Hp → VK → Prop := fun x vs H Q => ∃ l b xs zs, x = .ref l ∧ vs = [.ref b] ∧ H l = some (.lst xs) ∧ H b = some (.lst zs) ∧ xs.length + zs.length ≤ sizeLine ∧ Q .non (upd H l (.lst (xs ++ zs)))
def rPop : V → List V → Hp → VK → Prop := fun x vs H Q => ∃ l xs y, x = .ref l ∧ vs = [] ∧ H l = some (.lst xs) ∧ xs[xs.length - 1]? = some y ∧ Q y (upd H l (.lst xs.dropLast))
def rPopAt : V → List V → Hp → VK → Prop := fun x vs H Q => ∃ l xs i k y, x = .ref l ∧ vs = [.int i] ∧ H l = some (.lst xs) ∧ -(2 ^ 63) ≤ i ∧ i < 2 ^ 63 ∧ seqIndex? i xs.length = some k ∧ xs[k]? = some y ∧ Q y (upd H l (.lst (xs.eraseIdx k)))
def rReverse : V → List V → Hp → VK → Prop := fun x vs H Q => ∃ l xs, x = .ref l ∧ vs = [] ∧ H l = some (.lst xs) ∧ Q .non (upd H l (.lst xs.reverse))
def rClear : V → List V → Hp → VK → Prop := fun x vs H Q => ∃ l xs, x = .ref l ∧ vs = [] ∧ H l = some (.lst xs) ∧ Q .non (upd H l (.lst []))
def rCat : R2 := fun x y H Q => ∃ l b xs zs, x = .ref l ∧ y = .ref b ∧ H l = some (.lst xs) ∧ H b = some (.lst zs) ∧ xs.length + zs.length ≤ sizeLine ∧ ∀ p, H p = none → Q (.ref p) (upd H p (.lst (xs ++ zs)))
theorem op_cat : OpR X (binaryOp .Add) rCat := by
  intro pins s σ H x y v u Q I rx ry h
  obtain ⟨l, b, xs, zs, rfl, rfl, hH, hB, hz, q⟩ := h
  cases rx
  cases ry
  obtain ⟨z, its, n, r, hl, e⟩ := I.lstM hH
  obtain ⟨z2, its2, n2, r2, hl2, e2⟩ := I.lstM hB
  refine PySem.P.add_list e e2 ?_ (by rw [List.size_toArray, List.size_toArray]; omega)
  have ea : its.toArray ++ its2.toArray = (its ++ its2).toArray := by simp
  rw [ea]
  exact ⟨.ref _, _, I.lnew (t' := s.toks) (r.append r2) (by rw [List.length_append]; omega), rfl, q _ I.fresh⟩
def rRep : R2 := fun x y H Q => ∃ l k xs, x = .ref l ∧ y = .int k ∧ H l = some (.lst xs) ∧ -(2 ^ 63) ≤ k ∧ k < 2 ^ 63 ∧ xs.length * k.toNat ≤ sizeLine ∧
  ∀ p, H p = none → Q (.ref p) (upd H p (.lst (List.replicate k.toNat xs).flatten))
theorem len_rep {α : Type} (xs : List α) (k : Nat) : (List.replicate k xs).flatten.length = k * xs.length := by
  induction k with
  | zero => simp
  | succ k ih => rw [List.replicate_succ, List.flatten_cons, List.length_append, ih, Nat.succ_mul, Nat.add_comm]
theorem op_rep : OpR X (binaryOp .Mult) rRep := by
  intro pins s σ H x y v u Q I rx ry h
  obtain ⟨l, k, xs, rfl, rfl, hH, h1, h2, hz, q⟩ := h
  cases rx
  obtain ⟨t, rfl⟩ := ry
  obtain ⟨z, its, n, r, hl, e⟩ := I.lstM hH
  have hlen : its.toArray.size * k.toNat ≤ sizeLine := by rw [List.size_toArray, ← hl]; exact hz
  have hcap : ¬ its.toArray.size * k.toNat > (2 ^ 63 - 1) / 8 := by
    have : (sizeLine : Nat) ≤ (2 ^ 63 - 1) / 8 := by decide
    omega
  have hfit : ¬ (!Builtin.List.listFitsIndex k) = true := by
    rw [fitsIndex_both h1 h2]
    exact Bool.false_ne_true
  have hlong : ¬ Builtin.List.listTooLong (its.toArray.size * k.toNat) = true := by
    rw [notLongL hlen]
    exact Bool.false_ne_true
  have hnew : List.foldl (fun x1 x2 => x1 ++ x2) #[] (List.replicate (if its.toArray.isEmpty = true then 0 else k.toNat) its.toArray) = (List.replicate k.toNat its).flatten.toArray := by
    have f0 : ∀ m : Nat, List.foldl (fun x1 x2 => x1 ++ x2) #[] (List.replicate m its.toArray) = (List.replicate m its).flatten.toArray := fun m => by
      have := foldl_rep its m []
      rw [List.nil_append] at this
      exact this
    rw [f0]
    cases its with
    | nil => simp
    | cons a r' => rw [if_neg (by simp)]
  refine wpAny_binaryOp_repeat_ref (T := "list") (U := "int") (by decide) ⟨_, e, rfl⟩ (fun s' => typeIs_int s' k t) noFill_list_mul F.fills_int_mul F.slot_int_rmul repeat_list F.slot_int_index.lookup
    (call_meets F.slot_int_rmul (typeIs_int s k t) F.entry_int_rmul (F.args_int_rmul_2 _ _) (int___rmul___int_list k t l its.toArray n)
      ⟨e, rfl, ⟨_, e, rfl⟩, call_meets F.slot_list_mul ⟨_, e, rfl⟩ F.entry_list_mul (F.args_list_mul_2 _ _) (AutoListH.list___mul___list_int_3 l its.toArray n k t hfit hcap hlong) ⟨e, ?_⟩⟩)
  rw [hnew]
  exact ⟨.ref _, _, I.lnew (t' := s.toks) (r.rep k.toNat) (by rw [len_rep, Nat.mul_comm]; exact hz), rfl, q _ I.fresh⟩
end
section
variable {prog : Program} {w : World} {A : Around} {E : Value → Shared → Prop} {s : Shared}
end
section
variable {X : Cx}
end
end L2
namespace L2
open PySem PySem.Spec PyProof.Rows
section
variable {κ : Type} [DecidableEq κ]
def valV (kvs : List (κ × V)) (k : κ) : Option V := (kvs.find? fun kv => decide (kv.1 = k)).map (·.2)
def putK (kvs : List (κ × V)) (k : κ) (v : V) : List (κ × V) :=
  if (kvs.any fun kv => decide (kv.1 = k)) = true then kvs.map (fun kv => if kv.1 = k then (kv.1, v) else kv) else kvs ++ [(k, v)]
def dropK (kvs : List (κ × V)) (k : κ) : List (κ × V) := kvs.filter fun kv => decide (kv.1 ≠ k)
theorem valV_pos {p : κ × V} {r : List (κ × V)} {k : κ} (e : p.1 = k) : valV (p :: r) k = some p.2 := by simp [valV, List.find?_cons, e]
theorem valV_neg {p : κ × V} {r : List (κ × V)} {k : κ} (e : ¬ p.1 = k) : valV (p :: r) k = valV r k := by simp [valV, List.find?_cons, e]
theorem valV_any (k : κ) : ∀ kvs : List (κ × V), (kvs.any fun kv => decide (kv.1 = k)) = (valV kvs k).isSome
  | [] => rfl
  | p :: r => by
    rw [List.any_cons]
    by_cases e : p.1 = k
    · simp only [valV_pos e, decide_eq_true e, Bool.true_or, Option.isSome_some]
    · rw [valV_neg e, decide_eq_false e, Bool.false_or]; exact valV_any k r
theorem RelO.isSome_eq {o : Option V} {u : Option Value} (r : RelO o u) : o.isSome = u.isSome := by
  cases o with
  | none => cases u with
    | none => rfl
    | some _ => exact (show False from r).elim
  | some _ => cases u with
    | none => exact (show False from r).elim
    | some _ => rfl
theorem RelO.getD {o : Option V} {u : Option Value} {d : V} {d' : Value} (r : RelO o u) (rd : RelV d d') : RelV (o.getD d) (u.getD d') := by
  cases o with
  | none => cases u with
    | none => exact rd
    | some _ => exact (show False from r).elim
  | some _ => cases u with
    | none => exact (show False from r).elim
    | some _ => exact r
theorem KV.val {kvs : List (κ × V)} {vs : List (κ × Value)} (r : KV kvs vs) (k : κ) : RelO (valV kvs k) (valueAt vs k) := by
  unfold KV at r
  induction r with
  | nil => exact True.intro
  | @cons p q ps qs h t ih =>
    obtain ⟨h1, h2⟩ := h
    by_cases e : p.1 = k
    · have e' : q.1 = k := h1.symm.trans e
      have b : valueAt (q :: qs) k = some q.2 := by simp [valueAt, List.find?_cons, e']
      rw [valV_pos e, b]; exact h2
    · have e' : ¬ q.1 = k := fun z => e (h1.trans z)
      have b : valueAt (q :: qs) k = valueAt qs k := by simp [valueAt, List.find?_cons, e']
      rw [valV_neg e, b]; exact ih
theorem KV.any {kvs : List (κ × V)} {vs : List (κ × Value)} (r : KV kvs vs) (k : κ) : (kvs.any fun kv => decide (kv.1 = k)) = vs.any fun kv => decide (kv.1 = k) := by
  unfold KV at r
  induction r with
  | nil => rfl
  | cons h t ih => rw [List.any_cons, List.any_cons, ih, h.1]
theorem KV.repl {kvs : List (κ × V)} {vs : List (κ × Value)} (r : KV kvs vs) (k : κ) {y : V} {u : Value} (ry : RelV y u) :
    KV (kvs.map fun kv => if kv.1 = k then (kv.1, y) else kv) (vs.map fun kv => if kv.1 = k then (kv.1, u) else kv) := by
  unfold KV at r ⊢
  induction r with
  | nil => exact .nil
  | @cons p q ps qs h t ih =>
    rw [List.map_cons, List.map_cons]
    refine .cons ?_ ih
    obtain ⟨h1, h2⟩ := h
    by_cases e : p.1 = k
    · rw [if_pos e, if_pos (h1.symm.trans e)]; exact ⟨h1, ry⟩
    · rw [if_neg e, if_neg (fun z => e (h1.trans z))]; exact ⟨h1, h2⟩
theorem KV.put {kvs : List (κ × V)} {vs : List (κ × Value)} (r : KV kvs vs) (k : κ) {y : V} {u : Value} (ry : RelV y u) : KV (putK kvs k y) (stored vs k u) := by
  unfold putK stored
  rw [r.any k]
  by_cases e : (vs.any fun kv => decide (kv.1 = k)) = true
  · rw [if_pos e, if_pos e]; exact r.repl k ry
  · rw [if_neg e, if_neg e]; exact Paired.snoc r ⟨rfl, ry⟩
theorem KV.drop {kvs : List (κ × V)} {vs : List (κ × Value)} (r : KV kvs vs) (k : κ) : KV (dropK kvs k) (without vs k) := by
  unfold KV at r ⊢
  unfold dropK without
  induction r with
  | nil => exact .nil
  | @cons p q ps qs h t ih =>
    obtain ⟨h1, h2⟩ := h
    rw [List.filter_cons, List.filter_cons]
    by_cases e : p.1 = k
    · have a : ¬ decide (p.1 ≠ k) = true := by simp [e]
      have b : ¬ decide (q.1 ≠ k) = true := by simp [h1.symm.trans e]
      rw [if_neg a, if_neg b]; exact ih
    · have e' : ¬ q.1 = k := fun z => e (h1.trans z)
      have a : decide (p.1 ≠ k) = true := by simp [e]
      have b : decide (q.1 ≠ k) = true := by simp [e']
      rw [if_pos a, if_pos b]; exact .cons ⟨h1, h2⟩ ih
theorem KV.keys {kvs : List (κ × V)} {vs : List (κ × Value)} (r : KV kvs vs) : kvs.map (·.1) = vs.map (·.1) := by
  unfold KV at r
  induction r with
  | nil => rfl
  | cons h t ih => rw [List.map_cons, List.map_cons, ih, h.1]
theorem KV.length {kvs : List (κ × V)} {vs : List (κ × Value)} (r : KV kvs vs) : kvs.length = vs.length := Paired.length r
end
abbrev KT (H : Hp) : List (List Key × V) → List (List Key × Addr × Value) → Prop := Paired fun p q => p.1 = q.1 ∧ H q.2.1 = some (.tup (p.1.map kV)) ∧ RelV p.2 q.2.2
theorem KT.val {H : Hp} {kvs : List (List Key × V)} {xs : List (List Key × Addr × Value)} (r : KT H kvs xs) (k : List Key) : RelO (valV kvs k) ((atKey xs k).map (·.2)) := by
  induction r with
  | nil => exact True.intro
  | @cons p q ps qs h t ih =>
    obtain ⟨h1, _, h2⟩ := h
    by_cases e : p.1 = k
    · have e' : q.1 = k := h1.symm.trans e
      have b : atKey (q :: qs) k = some q.2 := by simp [atKey, List.find?_cons, e']
      rw [valV_pos e, b]; exact h2
    · have e' : ¬ q.1 = k := fun z => e (h1.trans z)
      have b : atKey (q :: qs) k = atKey qs k := by simp [atKey, List.find?_cons, e']
      rw [valV_neg e, b]; exact ih
theorem KT.repl {H : Hp} {kvs : List (List Key × V)} {xs : List (List Key × Addr × Value)} (r : KT H kvs xs) (k : List Key) {y : V} {u : Value} (ry : RelV y u) :
    KT H (kvs.map fun kv => if kv.1 = k then (kv.1, y) else kv) (xs.map (putAt k u)) := by
  induction r with
  | nil => exact .nil
  | @cons p q ps qs h t ih =>
    rw [List.map_cons, List.map_cons]
    refine .cons ?_ ih
    obtain ⟨h1, h2, h3⟩ := h
    unfold putAt
    by_cases e : p.1 = k
    · rw [if_pos e, if_pos (h1.symm.trans e)]; exact ⟨h1, h2, ry⟩
    · rw [if_neg e, if_neg (fun z => e (h1.trans z))]; exact ⟨h1, h2, h3⟩
theorem KT.put {H : Hp} {kvs : List (List Key × V)} {xs : List (List Key × Addr × Value)} (r : KT H kvs xs) (k : List Key) {b : Addr} {y : V} {u : Value} (hb : H b = some (.tup (k.map kV))) (ry : RelV y u) :
    KT H (putK kvs k y) (storedH xs k b u) := by
  have e : (kvs.any fun kv => decide (kv.1 = k)) = (atKey xs k).isSome := by
    rw [valV_any, (r.val k).isSome_eq, Option.isSome_map]
  unfold putK storedH
  rw [e]
  by_cases q : (atKey xs k).isSome = true
  · rw [if_pos q, if_pos q]; exact r.repl k ry
  · rw [if_neg q, if_neg q]; exact Paired.snoc r ⟨rfl, hb, ry⟩
theorem KT.keeps {H H' : Hp} {kvs : List (List Key × V)} {xs : List (List Key × Addr × Value)} (r : KT H kvs xs) (ht : ∀ b ys, H b = some (.tup ys) → H' b = some (.tup ys)) : KT H' kvs xs :=
  Paired.mapP r fun _ _ z => ⟨z.1, ht _ _ z.2.1, z.2.2⟩
section
variable {P : Program} {w : World} {H : Hp} {h : Heap} {a : Addr}
end
def DGet (H : Hp) (a : Addr) (y : V) (r : Option V) : Prop :=
  (∃ kvs k, Rd H a (.dK kvs) ∧ y = kV k ∧ r = valV kvs k) ∨ ∃ kvs k b, Rd H a (.dT kvs) ∧ y = .ref b ∧ H b = some (.tup (k.map kV)) ∧ r = valV kvs k
def DPut (H : Hp) (a : Addr) (y v : V) (H' : Hp) : Prop :=
  (∃ kvs k, H a = some (.dK kvs) ∧ y = kV k ∧ kvs.length < sizeLine ∧ H' = upd H a (.dK (putK kvs k v))) ∨
  ∃ kvs k b, H a = some (.dT kvs) ∧ y = .ref b ∧ H b = some (.tup (k.map kV)) ∧ kvs.length < sizeLine ∧ H' = upd H a (.dT (putK kvs k v))
theorem DGet.k {H : Hp} {a : Addr} {kvs : List (Key × V)} {k : Key} (e : H a = some (.dK kvs)) : DGet H a (kV k) (valV kvs k) := .inl ⟨kvs, k, .inl e, rfl, rfl⟩
theorem DGet.t {H : Hp} {a b : Addr} {kvs : List (List Key × V)} {k : List Key} (e : H a = some (.dT kvs)) (eb : H b = some (.tup (k.map kV))) : DGet H a (.ref b) (valV kvs k) := .inr ⟨kvs, k, b, .inl e, rfl, eb, rfl⟩
theorem DPut.k {H : Hp} {a : Addr} {kvs : List (Key × V)} {k : Key} {v : V} (e : H a = some (.dK kvs)) (hl : kvs.length < sizeLine) : DPut H a (kV k) v (upd H a (.dK (putK kvs k v))) := .inl ⟨kvs, k, e, rfl, hl, rfl⟩
theorem DPut.t {H : Hp} {a b : Addr} {kvs : List (List Key × V)} {k : List Key} {v : V} (e : H a = some (.dT kvs)) (eb : H b = some (.tup (k.map kV))) (hl : kvs.length < sizeLine) :
    DPut H a (.ref b) v (upd H a (.dT (putK kvs k v))) := .inr ⟨kvs, k, b, e, rfl, eb, hl, rfl⟩
section
variable {X : Cx} {pins : List (Addr × Obj)} {σ : St} {H : Hp} {s : Shared} {a : Addr} {y v : V} {u r : Value} {o : Option V} {A : Around} {E : Value → Shared → Prop}
theorem Inv.big (I : Inv X pins σ H s) : sysModules < s.heap.objs.size := by
  have h : mainGlobals < s.heap.objs.size := (I.mod.glob.keeps I.bk).lt
  exact Nat.lt_trans (by decide) h
end
section
variable {X : Cx} {pins : List (Addr × Obj)} {σ : St} {H : Hp} {s : Shared} {a : Addr} {kvs : List (Key × V)} {k : Key} {u : Value} {A : Around} {E : Value → Shared → Prop}
end
def NoSl (i : Expr) : Prop := ∀ ov iv, subscripted i false ov iv = operate [ov, iv] (getItem ov iv)
def tDGet (td ty : TE) : TE := fun σ H Q => td σ H fun x H1 => ty σ H1 fun y H2 => ∃ a v, x = .ref a ∧ DGet H2 a y (some v) ∧ Q v H2
def tDIn (ty td : TE) : TE := fun σ H Q => ty σ H fun y H1 => td σ H1 fun x H2 => ∃ a o, x = .ref a ∧ DGet H2 a y o ∧ Q (.bl o.isSome) H2
def tDNotIn (ty td : TE) : TE := fun σ H Q => ty σ H fun y H1 => td σ H1 fun x H2 => ∃ a o, x = .ref a ∧ DGet H2 a y o ∧ Q (.bl (!o.isSome)) H2
def sDPut (td ty tv : TE) : TS := fun D σ H => tv σ H fun v H1 => td σ H1 fun x H2 => ty σ H2 fun y H3 => ∃ a H4, x = .ref a ∧ DPut H3 a y v H4 ∧ D.nx σ H4
def sDAug (td ty tv : TE) (rd : V → V → Hp → VK → Prop) : TS := fun D σ H => td σ H fun x H1 => ty σ H1 fun y H2 => ∃ a v, x = .ref a ∧ DGet H2 a y (some v) ∧
  tv σ H2 fun y2 H3 => rd v y2 H3 fun z H4 => ∃ H5, DPut H4 a y z H5 ∧ D.nx σ H5
def sDDel (td ty : TE) : TS := fun D σ H => td σ H fun x H1 => ty σ H1 fun y H2 => ∃ a kvs k, x = .ref a ∧ H2 a = some (.dK kvs) ∧ y = kV k ∧ (valV kvs k).isSome = true ∧ D.nx σ (upd H2 a (.dK (dropK kvs k)))
section
variable {X : Cx} {o i e value : Expr} {pos pos' tpos : Pos} {td ty tv : TE}
end
theorem dk_empty {P : Program} {w : World} {H : Hp} (h : Heap) (hb : sysModules < h.objs.size) : ObjOk P w H (h.push { cls := .type "dict", data := .dict #[] }) h.objs.size (.dK []) :=
  ⟨Nat.zero_le _, beq_eq_false_iff_ne.mpr (Ne.symm (Nat.ne_of_lt hb)), [], .nil, Heap.DictOf.new h⟩
def tDNewK : TE := fun _ H Q => ∀ p, H p = none → Q (.ref p) (upd H p (.dK []))
def tDNewT : TE := fun _ H Q => ∀ p, H p = none → Q (.ref p) (upd H p (.dT []))
section
variable {X : Cx} {pos : Pos}
theorem pe_dnewK : PE X (.Dict [] [] pos) tDNewK := fun pins s σ H Q I h =>
  wpAny_Dict_empty ⟨.ref s.heap.objs.size, _, I.laid (a := s.heap.objs.size) (o := .dK []) (t' := s.toks) (fun _ _ q => Heap.get?_push_of_some _ q) (Nat.le_refl _) (dk_empty s.heap I.big), rfl, h _ (I.hok.fresh (Nat.le_refl _))⟩
end
def tPairs : List (TE × TE) → St → Hp → (List (V × V) → Hp → Prop) → Prop
  | [], _, H, Q => Q [] H
  | (tk, tv) :: r, σ, H, Q => tk σ H fun x H1 => tv σ H1 fun y H2 => tPairs r σ H2 fun ps H3 => Q ((x, y) :: ps) H3
abbrev VV : List (V × V) → List (Value × Value) → Prop := Paired fun p q => RelV p.1 q.1 ∧ RelV p.2 q.2
def PPs (X : Cx) (pos : Pos) (keys : List (Option Expr)) (values : List Expr) (trs : List (TE × TE)) : Prop :=
  ∀ (pins : List (Addr × Obj)) (s : Shared) (σ : St) (H : Hp) (Q : List (V × V) → Hp → Prop), Inv X pins σ H s → tPairs trs σ H Q →
    wpAny (model X.prog X.w) X.A (evalPairs (pairTrees keys values X.env pos)) (fun vs s' => ∃ ps H', Inv X pins σ H' s' ∧ VV ps vs ∧ Q ps H') X.xe s
def mergeK (kvs more : List (Key × V)) : List (Key × V) := more.foldl (fun acc kv => putK acc kv.1 kv.2) kvs
def tDisp (trs : List (TE × TE)) : TE := fun σ H Q => ∀ p, H p = none → tPairs trs σ (upd H p (.dK [])) fun ps H2 => H2 p = some (.dK []) ∧ ∃ kvs : List (Key × V), ps = kvs.map (fun kv => (kV kv.1, kv.2)) ∧ kvs.length ≤ 15 ∧ Q (.ref p) (upd H2 p (.dK (mergeK [] kvs)))
structure M1 (X : Cx) (o : Expr) (m : Str) (apos : Pos) (e : Expr) (cpos : Pos) : Prop where
  base : attributeBase o m X.env (eval o X.env) = eval o X.env
  few : ((backTo cpos (starEach [e] X.env)).all (fun x => !x.1) && (backToKw cpos (keywordEach [] X.env)).all (fun x => x.1.isSome)
    && decide (([e] : List Expr).length + ([] : List Keyword).length + (if ([] : List Keyword).isEmpty then 0 else 1) < 30)) = true
  line : (apos.endLine == cpos.line) = true
  trees : backTo cpos (starEach [e] X.env) = [(false, eval e X.env)]
structure M2 (X : Cx) (o : Expr) (m : Str) (apos : Pos) (e f : Expr) (cpos : Pos) : Prop where
  base : attributeBase o m X.env (eval o X.env) = eval o X.env
  few : ((backTo cpos (starEach [e, f] X.env)).all (fun x => !x.1) && (backToKw cpos (keywordEach [] X.env)).all (fun x => x.1.isSome)
    && decide (([e, f] : List Expr).length + ([] : List Keyword).length + (if ([] : List Keyword).isEmpty then 0 else 1) < 30)) = true
  line : (apos.endLine == cpos.line) = true
  trees : backTo cpos (starEach [e, f] X.env) = [(false, eval e X.env), (false, eval f X.env)]
def IsD (H : Hp) (a : Addr) : Prop := (∃ kvs, Rd H a (.dK kvs)) ∨ ∃ kvs, Rd H a (.dT kvs)
section
variable {X : Cx} {pins : List (Addr × Obj)} {σ : St} {H : Hp} {s : Shared} {a : Addr} {y d : V} {u r : Value} {o : Option V} {A : Around} {E : Value → Shared → Prop}
end
def tDGet1 (td ty : TE) : TE := fun σ H Q => td σ H fun x H1 => ∃ a, x = .ref a ∧ IsD H1 a ∧ ty σ H1 fun y H2 => ∃ o, DGet H2 a y o ∧ Q (o.getD .non) H2
def tDGet2 (td ty tx : TE) : TE := fun σ H Q => td σ H fun x H1 => ∃ a, x = .ref a ∧ IsD H1 a ∧ ty σ H1 fun y H2 => tx σ H2 fun z H3 => ∃ o, DGet H3 a y o ∧ Q (o.getD z) H3
def tDPop1 (td ty : TE) : TE := fun σ H Q => td σ H fun x H1 => ∃ a, x = .ref a ∧ IsD H1 a ∧ ty σ H1 fun y H2 => ∃ kvs k v, H2 a = some (.dK kvs) ∧ y = kV k ∧ valV kvs k = some v ∧ Q v (upd H2 a (.dK (dropK kvs k)))
def tDPop2 (td ty tx : TE) : TE := fun σ H Q => td σ H fun x H1 => ∃ a, x = .ref a ∧ IsD H1 a ∧ ty σ H1 fun y H2 => tx σ H2 fun z H3 => ∃ kvs k, H3 a = some (.dK kvs) ∧ y = kV k ∧
  (∀ v, valV kvs k = some v → Q v (upd H3 a (.dK (dropK kvs k)))) ∧ (valV kvs k = none → Q z H3)
section
variable {X : Cx} {o e f : Expr} {apos cpos : Pos} {td ty tx : TE}
end
section
variable {X : Cx} {pins : List (Addr × Obj)} {σ : St} {H : Hp} {s : Shared} {a : Addr} {kvs : List (Key × V)} {A : Around} {E : Value → Shared → Prop}
end
section
variable {X : Cx} {pins : List (Addr × Obj)} {σ : St} {H : Hp} {s : Shared} {a : Addr} {y : V} {u : Value} {A : Around} {E : Value → Shared → Prop}
end
end L2
namespace Att
open PySem PySem.W PySem.Calls PyProof.Rows
theorem ints_of_wellAll {P : Params} {h : Heap} : ∀ (ns : List Int) (vs : List Value), WellAll P h vs (ns.map WData.int) → IntsAre vs ns := by
  intro ns
  induction ns with
  | nil =>
    intro vs w
    rw [List.map_nil] at w
    cases w
    exact .nil
  | cons n ns ih =>
    intro vs w
    rw [List.map_cons] at w
    cases w with
    | cons a b =>
      cases a
      exact .cons _ _ (ih _ b)
theorem script_of {l : OpenLaw} {n : Nat} (hn : l.most = some n) {P : Params} {h : Heap} {args : List WData} {vals : List Value}
    (hpre : l.row.toRowW.claim.pre args = true) (hwl : WellAll P h vals args) :
    ∃ a vs ns, vals = [Value.ref a] ∧ args = [WData.list (ns.map WData.int)] ∧ h.get? a = some { cls := .type "list", data := .seq vs.toArray } ∧ IntsAre vs ns ∧ ns.length ≤ n := by
  have hsh : WShape.hasAll [] args [.list .int] = true := (pre_splitW hpre).1
  have hc : l.pre.holds [] { args := args } = true := (pre_splitW hpre).2
  obtain ⟨d, r, rfl, h1, h2⟩ := hasAllW_cons hsh
  obtain rfl := hasAllW_nil h2
  obtain ⟨xs, rfl, h3⟩ := hasW_list h1
  obtain ⟨ns, rfl⟩ := items_int h3
  have hlen : ns.length ≤ n := by
    unfold OpenLaw.pre at hc
    have h4 : (WTm.not (.lt (.lit (.int (n : Int))) (.len (.arg 0)))).holds [] { args := [.list (ns.map .int)] } = true := by
      have h4 := (holds_andW hc).1
      rw [hn] at h4
      exact h4
    have h5 := condW_of h4 (w_not (w_lt w_lit (w_len_list (w_arg rfl))))
    rw [List.length_map] at h5
    refine Nat.le_of_not_lt fun q => ?_
    have q' : (n : Int) < ((ns.length : Nat) : Int) := by omega
    first
      | (rw [decide_eq_true q'] at h5; exact absurd h5 (by decide))
      | (simp at h5; omega)
  cases hwl with
  | cons w1 w2 =>
    cases w2
    cases w1 with
    | list ho hall => exact ⟨_, _, ns, rfl, rfl, ho, ints_of_wellAll ns _ hall, hlen⟩
theorem post_true (l : OpenLaw) (args : List WData) : l.row.toRowW.claim.post args (.bool true) args = true :=
  postW_of (r := l.row.toRowW) (X := (true == true))
    (show WShape.has [] (.bool true) .bool = true by first | rfl | decide | simp [WShape.has, WShape.arms, WShape.armsAll])
    (show (WTm.eq .res (.lit (.bool true))).value [] { args := args, res := some (.bool true), after := args } = some (.bool (true == true)) from w_eq_bool (w_res rfl) w_lit) rfl
section
variable {prog : Program} {w : World} {A : Around} {E : Value → Shared → Prop} {s : Shared} {K : Frag}
def noObjs (h : Heap) : Heap := { h with objs := #[] }
def ledger (h : Heap) (L d : Addr) : List (Addr × Obj) := (List.range h.objs.size).filterMap fun a => if a = L ∨ a = d then none else (h.get? a).map fun o => (a, o)
end
end Att
namespace L2
open PySem PySem.Spec PyProof.Rows
theorem vals_ints : ∀ {vs : List Value} {ns : List Int}, IntsAre vs ns → Vals (ns.map V.int) vs
  | _, _, .nil => .nil
  | _, _, .cons n t h => .cons ⟨t, rfl⟩ (vals_ints h)
def Only (H : Hp) : Prop := ∀ b, H b = none ∨ ∃ o xs, H b = some (.frz o (.lst xs))
end L2
namespace L2
open PySem PySem.Spec PyProof.Rows
abbrev KOf {K : PySem.W.Frag} {h : Heap} (_ : K.In h) : PySem.W.Frag := K
end L2
namespace L2
open PySem PySem.Spec PyProof.Rows
def inClass (s : Stmt) (j : Nat) : Stmt := match s with
  | .ClassDef _ _ _ body _ _ _ _ _ _ _ => body.getD j (.Pass ⟨0, 0, 0, 0⟩)
  | _ => .Pass ⟨0, 0, 0, 0⟩
def defArgs (s : Stmt) : Arguments := match s with
  | .FunctionDef _ a _ _ _ _ _ _ _ _ => a
  | _ => { posonlyargs := [], args := [], vararg := none, kwonlyargs := [], kw_defaults := [], kwarg := none, defaults := [] }
def defBody (s : Stmt) : List Stmt := match s with
  | .FunctionDef _ _ b _ _ _ _ _ _ _ => b
  | _ => []
def defScope (s : Stmt) : Scope := match s with
  | .FunctionDef _ _ _ _ _ _ sc _ _ _ => sc
  | _ => { kind := .function, names := [], isGenerator := false, isCoroutine := false }
abbrev CX0 : CXT := fun _ _ _ _ _ _ => False
abbrev E0 : XK := fun _ _ _ => False
theorem pass0 {X : Cx} : Passes CX0 X E0 := fun _ _ _ _ _ _ _ h => h.elim
structure Fun (K : PySem.W.Frag) (x qual : Str) (st : Stmt) (f : Addr) (fd : FuncData) : Prop where
  ex : ∃ (oc : Value) (od : Option Addr) (kV doc pm : Value) (an : Option Addr) (cdv ct : Value) (osl : Array (Option Value)),
    fd = PySem.W.fnOf x qual (defArgs st) (defBody st) (defScope st) .none kV doc pm an cdv ct ∧ K.lookup f = some ⟨oc, od, .func fd, osl⟩ ∧ PySem.W.codeIn K cdv qual = true
  kp : PySem.W.keepIn K (.ref f) = true
section
variable {P : Program} {w : World} {K : PySem.W.Frag} {mg : Str → Option Value} {base : Heap}
theorem Fun.ok {x qual : Str} {st : Stmt} {f : Addr} {fd : FuncData} {N ps : List Str} {k : Nat} {sp : Sp} (F : Fun K x qual st f fd) (S : FnScope N ps (defScope st)) (len : ∀ vs H Q E, sp vs H Q E → vs.length = ps.length)
    (hbody : ∀ (cdv : Value) (A : Around) (outer : List Env) (s : Shared) (H : Hp) (vs : List V) (Q : VK) (E : XK), Room k (A.deeper (envOfC qual (defScope st) s.heap.objs.size f cdv)) → sp vs H Q E →
      ∃ t, PSs (cxOf CX0 P w K mg base N qual (defScope st) f cdv A outer s H E).nox (defBody st) t ∧ t { nx := fun _ H' => Q .non H', rt := Q } (start N vs) H) : FnOk P w K mg base CX0 (k + 1) f fd ps sp := by
  obtain ⟨oc, od, kV, doc, pm, an, cdv, ct, osl, rfl, lk, hcd⟩ := F.ex
  refine fn_of lk hcd S len fun A outer s H vs Q E hr hsp => ?_
  obtain ⟨t, h, q⟩ := hbody cdv A outer s H vs Q E hr hsp
  exact ⟨t, h.nox, q⟩
theorem Fun.binds {x qual : Str} {st : Stmt} {f : Addr} {fd : FuncData} {ps : List Str} (F : Fun K x qual st f fd)
    (h : ∀ (kV doc pm : Value) (an : Option Addr) (cdv ct : Value) (us : List Value), us.length = ps.length → bindArgs (PySem.W.fnOf x qual (defArgs st) (defBody st) (defScope st) .none kV doc pm an cdv ct) ⟨us, []⟩ = pure (ps.zip us)) : Binds K fd ps [] := by
  obtain ⟨oc, od, kV, doc, pm, an, cdv, ct, osl, rfl, lk, hcd⟩ := F.ex
  exact .all (h kV doc pm an cdv ct)
theorem fun_mk {x qual : Str} {st : Stmt} {f : Addr} {oc : Value} {od an : Option Addr} {osl : Array (Option Value)} {kV doc pm cdv ct : Value} (l : K.lookup f = some ⟨oc, od, .func (PySem.W.fnOf x qual (defArgs st) (defBody st) (defScope st) .none kV doc pm an cdv ct), osl⟩)
    (c : PySem.W.codeIn K cdv qual = true) (k : PySem.W.keepIn K (.ref f) = true) : Fun K x qual st f (PySem.W.fnOf x qual (defArgs st) (defBody st) (defScope st) .none kV doc pm an cdv ct) := ⟨⟨oc, od, kV, doc, pm, an, cdv, ct, osl, rfl, l, c⟩, k⟩
end
section
variable {X : Cx}
theorem pv (i : Nat) {x : Str} {pos : Pos} (hN : X.N[i]? = some x := by rfl) (hv : Vis X.env.scope x := by first | exact Or.inl rfl | exact Or.inr (Or.inl rfl) | exact Or.inr (Or.inr rfl)) (hd : (x == ("__debug__" : Str)) = false := by decide)
    (hcd : (x == ("__classdict__" : Str)) = false := by decide) : PE X (.Name x pos) (tVar i) := pe_var hN hv hd hcd
end
theorem ite2 {c A B : Prop} [Decidable c] (h1 : c → A) (h2 : ¬ c → B) : if c then A else B := by
  by_cases h : c
  · rw [if_pos h]
    exact h1 h
  · rw [if_neg h]
    exact h2 h
def Same (H H' : Hp) : Prop := ∀ b o, H b = some o → H' b = some o
theorem Same.refl (H : Hp) : Same H H := fun _ _ h => h
theorem Same.trans {H H1 H2 : Hp} (a : Same H H1) (b : Same H1 H2) : Same H H2 := fun c o h => b c o (a c o h)
theorem Same.free {H H' : Hp} (e : Same H H') {l : Addr} (h : H' l = Option.none) : H l = Option.none := by
  cases q : H l with
  | none => rfl
  | some o =>
    rw [e l o q] at h
    cases h
theorem Same.seq {K : PySem.W.Frag} {H H' : Hp} {a : Addr} {xs : List V} (e : Same H H') (h : SqL K H a xs) : SqL K H' a xs := by
  rcases h with (h | ⟨o, h⟩) | h
  · exact .inl (.inl (e _ _ h))
  · exact .inl (.inr ⟨o, e _ _ h⟩)
  · exact .inr h
section
variable {X : Cx}
end
section
variable {κ : Type} [DecidableEq κ]
end
end L2
set_option Elab.async false
set_option linter.all false
set_option maxRecDepth 100000
set_option maxHeartbeats 4000000
namespace My
open PySem L2
section
variable {prog : Program} {w : World} {A : Around} {R : Result → Shared → Prop} {s : Shared}
theorem compLoopT {elt target iter : Expr} {scope : Scope} {pos : Pos} {it acc : Value} {env : Env} (J : Nat → Shared → Prop)
    (turn : ∀ n s, J n s → wpAny (model prog w) A (pyNext it) (fun r s₁ => match r with
      | none => R (.ok .next) s₁
      | some v => wpAny (model prog w) A (letOwnedTupleGo target it v) (fun _ s₂ => wpAny (model prog w) A (assign target env v) (fun _ s₃ => wpAny (model prog w) A (eval elt env)
          (fun x s₄ => wpAny (model prog w) A (call (.builtin "list.append") [acc, x]) (fun _ s₅ => ∃ m, m < n ∧ J m s₅) (fun _ _ => False) s₄) (fun _ _ => False) s₃) (fun _ _ => False) s₂) (fun _ _ => False) s₁) (fun _ _ => False) s)
    (n : Nat) (h : J n s) : codeAny (model prog w) A (.compLoop (.ListComp elt [⟨target, iter, [], 0⟩] scope pos) 0 it acc env) R s := by
  refine codeAny_loop rfl J (fun n s hJ => ?_) n h
  show wpAny _ _ (Sem.onRaise (compTurn (.ListComp elt [⟨target, iter, [], 0⟩] scope pos) 0 it acc env) (fun x => do noteFrame x env; theTreesLotGoes x)) _ _ s
  refine wpAny_noted ?_
  rw [compTurn_list1]
  refine wpAny_bind (wpAny_standAt (wpAny_bind (wpAny_mono (turn n s hJ) (fun r s₁ h₁ => ?_) fun _ _ z => z.elim)))
  cases r with
  | none => exact wpAny_pure h₁
  | some v =>
    refine wpAny_bind (wpAny_mono h₁ (fun _ s₂ h₂ => ?_) fun _ _ z => z.elim)
    refine wpAny_bind (wpAny_mono h₂ (fun _ s₃ h₃ => ?_) fun _ _ z => z.elim)
    refine wpAny_bind (wpAny_bind (wpAny_mono h₃ (fun x s₄ h₄ => ?_) fun _ _ z => z.elim))
    refine wpAny_bind (wpAny_mono h₄ (fun _ s₅ h₅ => wpAny_pure (wpAny_pure ⟨rfl, h₅⟩)) fun _ _ z => z.elim)
end
def compCx (X : Cx) (sc : Scope) (cl : List (Str × Addr)) (N : List Str) (s : Shared) (H : Hp) (C : Addr) (fp : List Addr) : Cx where
  prog := X.prog
  w := X.w
  K := X.K
  mg := X.mg
  base := X.base
  A := X.A
  N := N
  s₀ := s
  H₀ := H
  env := compEnvC sc cl C X.env
  outer := X.stack
  stack := X.stack
  ex := fp
  fn := fun _ => false
  calm := X.calm
  pn := []
  xe := fun _ _ => False
structure CompSc (X : Cx) (sc : Scope) (cl : List (Str × Addr)) (x : Str) (zs : List Str) (js : List Nat) : Prop where
  clos : closureFor sc X.env = pure cl
  kind : sc.kind = .function
  noCell : ∀ y ∈ sc.names, y.2 ≠ .cell
  names : ∀ y ∈ sc.names, y.2 = .local → sc.names.lookup y.1 = some .local
  var : sc.names.lookup x = some .local
  sub : ∀ z c, cl.lookup z = some c → X.env.cells.lookup z = some c
  has : ∀ z, ((relabel sc X.env).names.lookup z = some .cell ∨ (relabel sc X.env).names.lookup z = some .free) → ∃ c, cl.lookup z = some c
  nd : (x :: zs).Nodup
  cap : ∀ (k : Nat) (z : Str), zs[k]? = some z → ∃ j : Nat, js[k]? = some j ∧ X.N[j]? = some z ∧ Vis X.env.scope z ∧ X.env.kindOf z ≠ some .local ∧
    ((relabel sc X.env).names.lookup z = some .cell ∨ (relabel sc X.env).names.lookup z = some .free)
  len : js.length = zs.length
def capS (js : List Nat) (σ : St) : St := js.map fun j => (σ[j]?).join
def tLC (wi : TI) (js : List Nat) (te : TE) : TE := fun σ H Q => wi σ H fun J H1 => ∀ D, H1 D = none → ∃ W : Nat → Nat → List V → Hp → Prop, (∃ m, W 0 m [] (upd H1 D (.lst []))) ∧
  ∀ i m ys H2, W i m ys H2 → H2 D = some (.lst ys) ∧ ((J.stop i H2 ∧ Q (.ref D) H2) ∨ (J.go i H2 ∧ ys.length < sizeLine ∧
    ∀ x H3, J.yld i H2 x H3 → te (some x :: capS js σ) H3 fun y H4 => H4 D = some (.lst ys) ∧ ∃ m', m' < m ∧ W (i + 1) m' (ys ++ [y]) (upd H4 D (.lst (ys ++ [y])))))
section
variable {X : Cx} {pins : List (Addr × Obj)} {σ : St} {H : Hp} {s : Shared} {sc : Scope} {cl : List (Str × Addr)} {x : Str} {zs : List Str} {js : List Nat} {C : Addr} {fp : List Addr}
theorem comp_ok (I : Inv X pins σ H s) (S : CompSc X sc cl x zs js) (hf : ∀ b ∈ fp, FpOk X pins H b ∧ b < s.heap.objs.size) (hC : s.heap.objs.size ≤ C) : (compCx X sc cl (x :: zs) s H C fp).Ok := by
  refine ⟨I.ok.mod, S.kind, I.ok.glob, I.ok.blt, hC, fun y z c h1 h2 => I.ok.inj y z c (S.sub _ _ h1) (S.sub _ _ h2), fun z h => S.has z h, (fun _ _ h => nomatch h), I.ok.hd, I.ok.frames, .inl rfl, fun b hb => ?_, I.bs, ?_, fun b o e hb => ?_, fun b hb hs => ?_, I.stack, I.stkFree⟩
  · obtain ⟨⟨_, h1, _, _, h4, _⟩, h6⟩ := hf b hb
    exact ⟨fun e => absurd h6 (Nat.not_lt.mpr (by rw [show b = C from e]; exact hC)), fun z c e => h4 z c (S.sub _ _ e)⟩
  · exact Nat.le_trans I.ok.bsz I.sz
  · obtain ⟨⟨_, _, _, h3, _⟩, _⟩ := hf b hb
    rcases h3 with h | h
    · exact I.ok.noex b o e h
    · exact absurd (Heap.lt_size e) (Nat.not_lt.mpr (Nat.le_trans I.ok.bsz h))
  · obtain ⟨⟨_, h1, h2, _⟩, _⟩ := hf b hb
    rcases List.mem_cons.mp (I.stkSub b hs) with e | e
    · exact h1 e
    · exact h2 e
theorem comp_start {s1 : Shared} (I : Inv X pins σ H s) (S : CompSc X sc cl x zs js) (hf : ∀ b ∈ fp, FpOk X pins H b ∧ b < s.heap.objs.size) (hC : s.heap.objs.size ≤ C) (ho : s1.os = s.os) (hg : s1.gens = s.gens)
    (hk : ∀ b o, s.heap.get? b = some o → s1.heap.get? b = some o) {m : Str → Option Value} (hn : s1.heap.Ns C m) : Inv (compCx X sc cl (x :: zs) s H C fp) [] (none :: capS js σ) H s1 := by
  refine ⟨comp_ok I S hf hC, ho, by rw [hg]; exact I.bare, Un.kept hk, ⟨m, hn, fun i y v h1 h2 h3 => ?_⟩, fun z c e => ?_, I.hok.fresh hC, fun z c e => I.freeC z c (S.sub _ _ e), fun p hp => absurd (show p ∈ ([] : List (Addr × Obj)) from hp) (by simp), I.hok.kept hk, ?_⟩
  · cases i with
    | zero => cases h2
    | succ i =>
      have h1' : zs[i]? = some y := h1
      obtain ⟨j, hj, hN, hv, nl, k'⟩ := S.cap i y h1'
      have h2' : (capS js σ)[i]? = some (some v) := h2
      have h5 : σ[j]? = some (some v) := by
        unfold capS at h2'
        rw [List.getElem?_map, hj] at h2'
        have h6 : (σ[j]?).join = some v := Option.some.inj h2'
        cases e : σ[j]? with
        | none => rw [e] at h6; cases h6
        | some o => rw [e] at h6; exact congrArg some h6
      obtain ⟨m0, hn0, hl⟩ := I.loc
      obtain ⟨u, ru, lk⟩ := hl j y v hN h5 hv
      refine ⟨u, ru, ?_⟩
      rcases lk with ⟨k1, _⟩ | ⟨_, c, ec, hc⟩
      · exact absurd k1 nl
      · obtain ⟨c', ec'⟩ := S.has y k'
        have e2 := S.sub _ _ ec'
        rw [ec] at e2
        cases e2
        exact .inr ⟨k', c, ec', hc.keeps hk⟩
  · obtain ⟨v, hv⟩ := I.cell z c (S.sub _ _ e)
    exact ⟨v, hv.keeps hk⟩
  · show ((none :: capS js σ : St)).length = (x :: zs).length
    unfold capS
    rw [List.length_cons, List.length_cons, List.length_map, S.len]
theorem comp_end {s1 : Shared} {σ' : St} {H' : Hp} {h' : Heap} (I : Inv X pins σ H s) (hf : ∀ b ∈ fp, FpOk X pins H b ∧ b < s.heap.objs.size) (hC : s.heap.objs.size ≤ C) (J : Inv (compCx X sc cl (x :: zs) s H C fp) [] σ' H' s1)
    (hs : Heap.SameBut C s1.heap h') : Inv X pins σ H' { s1 with heap := h' } := by
  have old : ∀ b o, s1.heap.get? b = some o → b ≠ C → h'.get? b = some o := fun b o e n => (hs.2 b n).trans e
  have lt : ∀ {b o}, s.heap.get? b = some o → b ≠ C := fun {b o} e z => by
    have q := Heap.lt_size e
    rw [z] at q
    exact absurd q (Nat.not_lt.mpr hC)
  have B := J.base
  refine I.call' (s' := { s1 with heap := h' }) (ch := fp) J.os ⟨fun b o e n hb hx => old b o (B.keep b o e n hb hx) (lt e), fun b o e n hb hx => ?_, B.free, fun b o e hx => ?_, B.tups, B.frzs, B.tbls, B.sys⟩ (fun b o e => ?_) J.bare fun b hb => ?_
  · obtain ⟨sl, q⟩ := B.slot b o e n hb hx
    exact ⟨sl, old _ _ q (lt e)⟩
  · obtain ⟨o', q⟩ := B.there b o e hx
    exact ⟨o', old _ _ q (lt e)⟩
  · have nC : ∀ c u, H' c = some u → c ≠ C := fun c u q z => by
      have f : H' C = none := J.free
      rw [z, f] at q; cases q
    refine (J.hok b o e).stay (fun c v hc q => old c v q ?_) (fun _ q => q) fun _ _ q => q
    rcases hc with rfl | hc
    · exact nC _ _ e
    · exact nC _ _ hc
  · obtain ⟨⟨_, h1, _, h3, h4, h5⟩, _⟩ := hf b hb
    exact ⟨h3, h1, h4, h5⟩
end
section
variable {X : Cx} {sc : Scope} {cl : List (Str × Addr)} {x : Str} {zs : List Str} {js : List Nat} {elt iter : Expr} {px pos : Pos} {wi : TI} {te : TE}
theorem pe_lc (hc : X.calm = true) (S : CompSc X sc cl x zs js) (hi : PI X (.Name x px) iter wi) (he : ∀ s H C fp, PE (compCx X sc cl (x :: zs) s H C fp) elt te)
    (hs : ∀ v, foldedSetIterable iter X.env v = pure v := by intro _; rfl) : PE X (.ListComp elt [⟨.Name x px, iter, [], 0⟩] sc pos) (tLC wi js te) := by
  intro pins s σ H Q I h
  rw [eval_ListComp]
  refine wpAny_comprehension_free (use := none) rfl hs S.clos S.kind S.names (thn (hi pins s σ H _ I h) fun v s1 h1 => thn h1 fun itv s2 h2 => ?_)
  obtain ⟨it, fp, tn, J, H2, e, I2, T, st2, f2, body⟩ := h2
  subst e
  have fr2 : H2 s2.heap.objs.size = none := I2.fresh
  obtain ⟨W, ⟨m0, w0⟩, turn⟩ := body _ fr2
  refine wpAny_newObj_type ?_
  have I3 : Inv X pins σ (upd H2 s2.heap.objs.size (.lst [])) { s2 with heap := s2.heap.push { cls := .type "list", data := .seq ([] : List Value).toArray } } := I2.lnew (t' := s2.toks) (ys := []) (its := []) .nil (Nat.zero_le _)
  refine wpAny_newFunctionEnv S.noCell (by intro y hy; simp at hy) (fun h₁ hn hsb => ?_) S.kind
  generalize hs3 : ({ s2 with heap := s2.heap.push { cls := .type "list", data := .seq ([] : List Value).toArray } } : Shared) = s3 at I3 hn hsb ⊢
  have fpl : ∀ b ∈ fp, FpOk X pins (upd H2 s2.heap.objs.size (.lst [])) b ∧ b < s3.heap.objs.size := fun b hb => by
    obtain ⟨o, ho, _⟩ := T.obj _ _ st2 b hb
    have hl := Heap.lt_size ho
    have hne : b ≠ s2.heap.objs.size := Nat.ne_of_lt hl
    obtain ⟨z1, z2⟩ := f2 b hb
    refine ⟨⟨by rw [upd_ne hne]; exact z1, z2⟩, ?_⟩
    rw [← hs3]
    show b < (s2.heap.push _).objs.size
    rw [Heap.size_push]
    exact Nat.lt_succ_of_lt hl
  have old : ∀ b o, s3.heap.get? b = some o → h₁.get? b = some o := fun b o e => hsb.extBut b o (Nat.ne_of_lt (Heap.lt_size e)) (Heap.get?_push_of_some _ e)
  have loop : ∀ sS : Shared, sS.heap = h₁ → sS.os = s3.os → sS.gens = s3.gens → codeAny (model X.prog X.w) X.A (.compLoop (.ListComp elt [⟨.Name x px, iter, [], 0⟩] sc pos) 0 (.ref it) (.ref s2.heap.objs.size) (compEnvC sc cl s3.heap.objs.size X.env))
      (compPost (model X.prog X.w) X.A X.xe none (EP X pins σ Q) (.ref s2.heap.objs.size) s3.heap.objs.size) sS := by
    intro sS eh eo eg
    subst eh
    have J0 : Inv (compCx X sc cl (x :: zs) s3 (upd H2 s2.heap.objs.size (.lst [])) s3.heap.objs.size fp) [] (none :: capS js σ) (upd H2 s2.heap.objs.size (.lst [])) sS := comp_start I3 S fpl (Nat.le_refl _) eo eg old hn
    generalize hX : compCx X sc cl (x :: zs) s3 (upd H2 s2.heap.objs.size (.lst [])) s3.heap.objs.size fp = X' at J0
    have stat : ∀ {H' : Hp}, (∀ b ∈ fp, H' b = none) → ∀ b ∈ fp, FpOk X' [] H' b := fun {H'} hn b hb => by
      subst hX
      obtain ⟨⟨_, z1, z2, z3, z4, z5⟩, z6⟩ := fpl b hb
      refine ⟨hn b hb, Nat.ne_of_lt z6, fun q => ?_, .inl hb, fun y c e => z4 y c (S.sub _ _ e), fun p hp => absurd (show p ∈ ([] : List (Addr × Obj)) from hp) (by simp)⟩
      rcases List.mem_cons.mp (I3.stkSub b q) with e | e
      · exact z1 e
      · exact z2 e
    have st3 : tn 0 sS.heap := T.keep _ _ _ st2 fun b hb o e => old b o (by rw [← hs3]; exact Heap.get?_push_of_some _ e)
    refine compLoopT (fun n s' => ∃ i ys o H', Inv X' [] (o :: capS js σ) H' s' ∧ tn i s'.heap ∧ (∀ b ∈ fp, H' b = none) ∧ W i n ys H') ?_ m0 ⟨0, [], none, _, J0, st3, fun b hb => (fpl b hb).1.1, w0⟩
    rintro n s' ⟨i, ys, o, H', Iv, st, fr, w⟩
    obtain ⟨hD, alt⟩ := turn i n ys H' w
    have eP : X'.prog = X.prog := by subst hX; rfl
    have eW : X'.w = X.w := by subst hX; rfl
    have eK : X'.K = X.K := by subst hX; rfl
    have eC : X'.calm = true := by subst hX; exact hc
    have eA : X'.A = X.A := by subst hX; rfl
    have eE : X'.env = compEnvC sc cl s3.heap.objs.size X.env := by subst hX; rfl
    have eX : X'.xe = fun _ _ => False := by subst hX; rfl
    rcases alt with ⟨stop, q⟩ | ⟨go, hlen, step⟩
    · have d := T.done X' eP eW eK eC i [] s' _ H' (fun _ _ => False) Iv (stat fr) st stop
      rw [eA] at d
      refine thn d fun r s4 ⟨hr, I4⟩ => ?_
      subst hr
      obtain ⟨m, hm, _⟩ := id I4.loc
      rw [eE] at hm
      subst hX
      exact ⟨m, hm, fun h' hs' => ⟨.ref s2.heap.objs.size, H', comp_end I3 fpl (Nat.le_refl _) I4 hs', rfl, q⟩⟩
    · have d := T.item X' eP eW eK eC i [] s' _ H' (fun _ _ => False) Iv (stat fr) st go
      rw [eA] at d
      refine thn d fun r s4 ⟨u, hr, h4⟩ => ?_
      subst hr
      refine thn h4 fun _ s5 ⟨y, H5, I5, r5, y5, st5, fr5⟩ => ?_
      have I5' := I5.pinned (stat fr5) (T.obj _ _ st5)
      have hg : PG X' (.Name x px) (gName 0) := by
        subst hX
        exact pg_name S.nd rfl (.inl (lookup_relabel_local S.var)) (.inr (lookup_relabel_local S.var))
      have g6 := hg _ s5 _ H5 y u (fun σ6 H6 => σ6 = (some y :: capS js σ) ∧ H6 = H5) I5' r5 ⟨rfl, rfl⟩
      rw [eP, eW, eA, eE, eX] at g6
      refine thn g6 fun _ s6 ⟨σ6, H6, I6, e6, e6'⟩ => ?_
      subst e6
      subst e6'
      have he' : PE X' elt te := by subst hX; exact he _ _ _ _
      have g7 := he' _ s6 _ H6 _ I6 (step y H6 y5)
      rw [eP, eW, eA, eE, eX] at g7
      refine thn g7 fun uv s7 ⟨v7, H7, I7, r7, hD7, m', hm', w7⟩ => ?_
      have g8 := (mt_append (X := X')) _ s7 _ H7 (.ref s2.heap.objs.size) [v7] (.ref s2.heap.objs.size) [uv] (fun _ H8 => H8 = upd H7 s2.heap.objs.size (.lst (ys ++ [v7]))) I7 rfl (.cons r7 .nil) ⟨_, ys, v7, rfl, rfl, hD7, hlen, rfl⟩
      rw [eP, eW, eA, eX] at g8
      refine thn g8 fun _ s8 ⟨_, H8, I8, _, e8⟩ => ?_
      subst e8
      refine ⟨m', hm', i + 1, ys ++ [v7], some y, _, I8.unpinned, T.keep _ _ _ st5 fun b hb o e => (I8.pin (b, o) (List.mem_append_right _ (List.mem_append_right _ (mem_pinsAt hb e)))).1, fun b hb => ?_, w7⟩
      obtain ⟨o', e', _⟩ := T.obj _ _ st5 b hb
      exact (I8.pin (b, o') (List.mem_append_right _ (List.mem_append_right _ (mem_pinsAt hb e')))).2.1
  have st1 : tn 0 h₁ := T.keep _ _ _ st2 fun b hb o e => old b o (by rw [← hs3]; exact Heap.get?_push_of_some _ e)
  exact codeAny_compStart_list (loop _ rfl rfl rfl) (T.self _ 0 _ _ _ st1 (loop _ rfl rfl rfl))
end
end My
set_option Elab.async false
set_option linter.all false
set_option maxRecDepth 100000
set_option maxHeartbeats 4000000
namespace My
open PySem
section
variable {prog : Program} {w : World} {A : Around} {h : Heap} {g : Array GenState} {d : Drawn} {tk : Nat} {os : OsState} {C N e t0 : Addr}
variable {nm q : Str} {bs bm bmB : List Value} {hdct ab : Bool} {sn : List Str} {sub : List Value} {col : Option Bool} {dd : Option Addr}
variable {k0 k1 k2 k3 k5 : Option Value} {B newId initId : String}
abbrev excAt (C t : Addr) : Obj := { cls := .ref C, data := .fields #[.ref t, .none, .none, .none, .bool false, .none] }
theorem viCall {R : Result → Shared → Prop} {v : Value} (F : ExcBaseFacts B newId initId bmB) (T : OwnTail h bmB bm)
    (hC : h.get? C = some (excClassObj nm q C N bs bm hdct sn sub ab col dd k0 k1 k2 k3 k5 newId)) (he : h.get? e = some (excAt C t0))
    (hR : ∀ h', h'.get? e = some (excAt C h.objs.size) → (∀ b o, b ≠ e → h.get? b = some o → h'.get? b = some o) → R (.ok (.ret .none)) ⟨h', g, d, tk, os⟩) :
    codeAny (model prog w) A (.call (.builtin initId) ⟨[.ref e, v], []⟩) R ⟨h, g, d, tk, os⟩ := by
  refine codeAny_call_builtin F.init.plain F.initEntry (wpAny_check_init_subT F T hC he rfl ?_)
  wp_walk
  refine hR _ ?_ fun b o hb eb => ?_
  · exact Heap.get?_update_self _ (Heap.get?_push_of_some _ he) rfl
  · exact (Heap.get?_update_ne _ _ _ _ hb).trans (Heap.get?_push_of_some _ eb)
end
end My
set_option Elab.async false
set_option linter.all false
set_option maxRecDepth 100000
set_option maxHeartbeats 4000000
namespace My
open PySem PySem.W Builtin Builtin.ObjectAttr
section
variable {prog : Program} {w : World} {A : Around} {s : Shared} {K : Frag} {C x : Addr}
theorem osaPass {R : Result → Shared → Prop} {ox : Obj} {od : Option Obj} {name : Str} {tk : Tok} {v : Value} {cd : ClassData} (X : K.In s.heap) (I : InstAt s.heap x ox C od)
    (hc : clsIn K C = some cd) (hp : refuseLoop (.ref x) "__setattr__" cd.mro = pure ()) (hm0 : mroIn K C (.type "object") = some true) (ht : takerIn K C name = some none)
    (h : ∀ b, wpAny (model prog w) A.in1 (storeInOwnDict (.ref x) (.ref C) (.str name tk) name v b)
      (fun fin s' => match fin with | .done f => R (.ok f) s' | .again c' => c'.quiet = true ∧ codeAny (model prog w) A c' R s') (fun e s' => R (.error e) s') s) :
    codeAny (model prog w) A (.call (.builtin "object.__setattr__") ⟨[.ref x, .str name tk, v], []⟩) R s := by
  have SF := PySem.F.store_object
  have sub : Looks (model prog w) s.heap (isInstance (.ref x) (.type "object")) true := I.type.andThen (looks_mroIn X hm0)
  refine codeAny_call_builtin SF.slot.plain SF.entry (@check_slot (model prog w) _ _ s "object.__setattr__" "object" "__setattr__" (.ref x) [.str name tk, v] [] _ SF.kind SF.split sub (SF.args _ _ _) ?_)
  obtain ⟨attr, ha, hr⟩ := Option.bind_eq_some_iff.mp ht
  have hm : Looks (model prog w) s.heap (mroOf (.ref C)) cd.mro := (looks_clsIn X hc).andThen .now
  have L3 : Looks (model prog w) s.heap (storeTaker? attr) none := by
    cases attr with
    | none => exact .now
    | some a =>
      obtain ⟨b, hb, e⟩ := Option.map_eq_some_iff.mp hr
      refine (looks_takesIn X hb).andThen ?_
      cases b
      · exact .now
      · cases e
  rw [osa_eq, refuse_eq]
  refine wpAny_bind (wpAny_bind (I.type.here (wpAny_bind (hm.here ?_))))
  rw [hp]
  refine wpAny_pure (wpAny_bind (I.type.here (wpAny_bind ((looks_findIn X ha).here (wpAny_bind (L3.here ?_))))))
  exact h _
end
end My
set_option Elab.async false
set_option linter.all false
set_option maxRecDepth 100000
set_option maxHeartbeats 4000000
namespace My
open PySem PySem.W Builtin Builtin.ObjectAttr
section
variable {prog : Program} {w : World} {A : Around} {E : Value → Shared → Prop} {s : Shared} {K : Frag} {C x : Addr}
theorem setExc {fs : Array Value} {sl : Array (Option Value)} {name : Str} {v : Value} {cd : ClassData} {Q : Unit → Shared → Prop} (X : K.In s.heap) (hx : s.heap.get? x = some ⟨.ref C, none, .fields fs, sl⟩)
    (hs : findIn K (.ref C) "__setattr__" = some (some (.builtin "object.__setattr__"))) (hc : clsIn K C = some cd) (hd : cd.hasDict = true)
    (hp : refuseLoop (.ref x) "__setattr__" cd.mro = pure ()) (hm0 : mroIn K C (.type "object") = some true) (ht : takerIn K C name = some none)
    (h : ∀ h' tk, h'.get? x = some ⟨.ref C, some s.heap.objs.size, .fields fs, sl⟩ → h'.Ns1 s.heap.objs.size (fun y => if y = name then some v else none) →
      (∀ b o, b ≠ x → s.heap.get? b = some o → h'.get? b = some o) → Q () { s with heap := h', toks := tk }) : wpAny (model prog w) A (setAttr (.ref x) name v) Q E s := by
  have J : InstAt s.heap x ⟨.ref C, none, .fields fs, sl⟩ C none := ⟨hx, rfl, rfl, True.intro⟩
  refine set_plain X J hs (osaPass (s := { s with toks := s.toks + 1 }) X J hc hp hm0 ht fun b => ?_)
  refine wpAny_bind (wpAny_pure (wpAny_bind (wpAny_bind (wpAny_loadPart hx (wpAny_bind (Looks.here (s := { s with toks := s.toks + 1 }) (looks_clsIn X hc) ?_))))))
  rw [hd]
  have hx1 : (s.heap.push { cls := .type "dict", data := .dict #[] }).get? x = some ⟨.ref C, none, .fields fs, sl⟩ := Heap.get?_push_of_some _ hx
  have hxs : x ≠ s.heap.objs.size := Nat.ne_of_lt (Heap.lt_size hx)
  refine wpAny_bind (wpAny_alloc' ?_)
  refine wpAny_bind (wpAny_update' hx1 ?_)
  refine wpAny_pure ?_
  generalize eU : ((s.heap.push { cls := .type "dict", data := .dict #[] }).update x fun o => { cls := o.cls, dict := some s.heap.objs.size, data := o.data, slots := o.slots } : Heap) = hU
  have gd : hU.get? s.heap.objs.size = some { cls := .type "dict", data := .dict #[] } := by
    rw [← eU]
    exact (Heap.get?_update_ne _ _ _ _ hxs.symm).trans (Heap.get?_push_at rfl rfl)
  have gx : hU.get? x = some ⟨.ref C, some s.heap.objs.size, .fields fs, sl⟩ := by
    rw [← eU]
    exact Heap.get?_update_self _ hx1 rfl
  have nd : hU.Ns s.heap.objs.size (fun _ => none) := ⟨_, #[], _, gd, rfl, fun e he => absurd he (by simp), fun _ => rfl⟩
  show wpAny _ _ (storeInDict s.heap.objs.size (.str name _) name v) _ _ _
  unfold storeInDict newKeyGuard
  refine wpAny_bind (wpAny_pure (wpAny_bind (wpAny_nsSet1 (Heap.Ns1.of_empty nd) fun h' hn' hsb => ?_)))
  obtain ⟨oD, esD, epD, hoD, hdD, hcD⟩ := hn'.count (Within.cons name v Within.nil)
  refine wpAny_bind (wpAny_lookBehind hoD (by
    rw [hdD]
    exact pastItsLine_dict (Nat.le_trans hcD (by rw [List.length_cons, List.length_nil, sizeLine_eq]; omega))) ?_)
  refine wpAny_pure ?_
  refine h h' _ ((hsb.2 x hxs).trans gx) hn' fun b o hb e => ?_
  refine (hsb.2 b (Nat.ne_of_lt (Heap.lt_size e))).trans ?_
  rw [← eU]
  exact (Heap.get?_update_ne _ _ _ _ hb).trans (Heap.get?_push_of_some _ e)
end
end My
set_option Elab.async false
set_option linter.all false
set_option maxRecDepth 100000
set_option maxHeartbeats 4000000
namespace My
open PySem PySem.W Builtin Builtin.ObjectAttr
section
variable {prog : Program} {w : World} {A : Around} {E : Value → Shared → Prop} {s : Shared} {K : Frag} {C x dx : Addr}
abbrev bga : String := "BaseException.__getattribute__"
theorem bgaCall {R : Result → Shared → Prop} {ox : Obj} {od : Option Obj} {name : Str} {tk : Tok} {v : Value} (X : K.In s.heap) (I : InstAt s.heap x ox C od)
    (hm0 : mroIn K C (.type "BaseException") = some true) (hf : findObj K C od name = some (.value v)) (h : R (.ok (.ret v)) s) :
    codeAny (model prog w) A (.call (.builtin bga) ⟨[.ref x, .str name tk], []⟩) R s := by
  have sub : Looks (model prog w) s.heap (isInstance (.ref x) (.type "BaseException")) true := I.type.andThen (looks_mroIn X hm0)
  have L1 := looks_find (M := model prog w) X I hf
  refine codeAny_call_builtin PySem.F.excAttr_ValueError.ga.plain PySem.F.entry_bexc_ga (@check_slot (model prog w) _ _ s bga "BaseException" "__getattribute__" (.ref x) [.str name tk] [] _ (by decide +kernel) (by decide +kernel) sub (PySem.F.args_bexc_ga _ _) ?_)
  refine wpAny_bind (wpAny_pure (wpAny_bind (wpAny_pure (wpAny_bind (I.type.here (wpAny_bind (L1.here ?_)))))))
  exact wpAny_pure h
theorem getExc {expr : Bool} {ox : Obj} {od : Option Obj} {name : Str} {v : Value} {Q : Value → Shared → Prop} (X : K.In s.heap) (I : InstAt s.heap x ox C od)
    (hga : findIn K (.ref C) "__getattribute__" = some (some (.builtin bga))) (hk : findIn K (.ref C) "__getattr__" = some none)
    (hm0 : mroIn K C (.type "BaseException") = some true) (hf : findObj K C od name = some (.value v)) (hv' : handedIn v = true) (h : Q v { s with toks := s.toks + 1 }) :
    wpAny (model prog w) A (getAttr (.ref x) name expr) Q E s := by
  have L0 := I.type (M := model prog w)
  have L1 := looks_findIn (M := model prog w) X hga
  have L2 := looks_findIn (M := model prog w) X hk
  have f3 := PySem.F.excAttr_ValueError.ga.bind (.ref x)
  unfold getAttr getAttrBy
  refine wpAny_bind (wpAny_mkText (wpAny_holding (wpAny_bind (Looks.here (s := { s with toks := s.toks + 1 }) L0 (wpAny_bind (Looks.here (s := { s with toks := s.toks + 1 }) L1 ?_))))))
  have hx1 : (onTheHeap (Value.ref C) && Value.builtin bga == Value.builtin "object.__getattribute__") = false := by
    rw [show (Value.builtin bga == Value.builtin "object.__getattribute__") = false from by decide +kernel]
    rfl
  show wpAny _ _ (if (onTheHeap (Value.ref C) && Value.builtin bga == Value.builtin "object.__getattribute__") = true then _ else _) _ _ _
  rw [if_neg (by rw [hx1]; decide)]
  unfold getAttrByItsOwn
  refine wpAny_bind ?_
  show wpAny _ _ (typeLookup (.ref C) "__getattr__") _ _ _
  refine Looks.here (s := { s with toks := s.toks + 1 }) L2 ?_
  have hx0 : (expr && onTheHeap (Value.builtin bga)) = false := by cases expr <;> rfl
  refine wpAny_bind (wpAny_attempt (wpAny_holding ?_))
  unfold callGetattribute
  rw [if_neg (by rw [hx0]; decide)]
  unfold boundAndCalled
  rw [f3]
  refine wpAny_bind (wpAny_pure ?_)
  refine wpAny_call (bgaCall (s := { s with toks := s.toks + 1 }) X I hm0 hf ?_)
  show wpAny _ _ (handedOut v) _ _ _
  rw [handedOut_of hv']
  exact wpAny_pure h
end
end My
set_option Elab.async false
set_option linter.all false
set_option maxRecDepth 100000
set_option maxHeartbeats 4000000
namespace My
open PySem PySem.W
section
variable {prog : Program} {w : World} {A : Around} {E : Value → Shared → Prop} {h : Heap} {g : Array GenState}
variable {d : Drawn} {t : Nat} {os : OsState} {nm q : Str} {C N : Addr} {bs bm bmB : List Value} {hdct ab : Bool}
variable {sn : List Str} {sub : List Value} {col : Option Bool} {dd : Option Addr}
variable {k0 k1 k2 k3 k5 : Option Value} {B newId initId : String} {K : Frag}
abbrev tupO (vs : List Value) : Obj := { cls := .type "tuple", data := .seq vs.toArray }
theorem tcallK (X : K.In h) (F : ExcBaseFacts B newId initId bmB) (T : OwnTail h bmB bm) {rest : List Value}
    {fI : Addr} {Q : Fin → Shared → Prop}
    (hC : h.get? C = some (excClassObj nm q C N bs bm hdct sn sub ab col dd k0 k1 k2 k3 k5 newId))
    (hi : findIn K (.ref C) "__init__" = some (some (.ref fI))) (hfI : typeIn K (.ref fI) = some (.type "function"))
    (hq : wpAny (model prog w) A (call (.ref fI) (.ref (h.objs.size + 1) :: rest))
      (fun r s' => r = .none ∧ Q (.done (.ret (.ref (h.objs.size + 1)))) s') E ⟨(h.push (tupO rest)).push (excAt C h.objs.size), g, d, t, os⟩)
    (hrest : rest.length ≤ sizeLine) :
    wpAny (model prog w) A (Builtin.«type.__call__» ⟨.ref C :: rest, []⟩) Q E ⟨h, g, d, t, os⟩ := by
  repeat (first
    | with_reducible refine wpAny_loadPart_at hC ?_
    | with_reducible refine wpAny_madeBy_exc hC ?_
    | wp_step)
  refine codeAny_call_builtin_code (Code.quiet_builtin _ F.quiet) (wpAny_check_new_subT F T hC ?_)
  refine codeAny_exc_new_subT F T hC ?_ hrest
  show wpAny _ _ _ _ _ _
  have up : ∀ b o, h.get? b = some o → ((h.push (tupO rest)).push (excAt C h.objs.size)).get? b = some o :=
    fun b o e => Heap.get?_push_of_some _ (Heap.get?_push_of_some _ e)
  have hC1 := up _ _ hC
  have X1 : K.In ((h.push (tupO rest)).push (excAt C h.objs.size)) := X.keeps up
  have hg1 : ((h.push (tupO rest)).push (excAt C h.objs.size)).get? (h.objs.size + 1) = some (excAt C h.objs.size) := by heap_get
  have hcC : (Value.ref C :: bm).contains (.ref C) = true := by simp
  unfold isInstance
  repeat (first
    | with_reducible refine wpAny_loadPart_at hg1 ?_
    | (with_reducible refine wpAny_isSubtype_exc hC1 ?_; rw [hcC])
    | wp_step)
  show wpAny _ _ (typeLookup (.ref C) _) _ _ _
  refine Looks.here (s := ⟨(h.push (tupO rest)).push (excAt C h.objs.size), g, d, t, os⟩) (looks_findIn X1 hi) ?_
  refine wpAny_holding (wpAny_bind ?_)
  unfold bindSpecial
  refine wpAny_bind (Looks.here (s := ⟨(h.push (tupO rest)).push (excAt C h.objs.size), g, d, t, os⟩) (looks_typeIn X1 hfI) ?_)
  rw [if_pos (by decide)]
  refine wpAny_pure (wpAny_bind (wpAny_mono hq (fun r s' hr => ?_) fun _ _ x => x))
  obtain ⟨rfl, hQ⟩ := hr
  wp_walk
  exact hQ
theorem callK (X : K.In h) (F : ExcBaseFacts B newId initId bmB) (T : OwnTail h bmB bm) {rest : List Value}
    {fI : Addr} {Q : Value → Shared → Prop}
    (hC : h.get? C = some (excClassObj nm q C N bs bm hdct sn sub ab col dd k0 k1 k2 k3 k5 newId))
    (hi : findIn K (.ref C) "__init__" = some (some (.ref fI))) (hfI : typeIn K (.ref fI) = some (.type "function"))
    (hq : wpAny (model prog w) (A.under (.builtin "type.__call__" ⟨.ref C :: rest, []⟩))
      (call (.ref fI) (.ref (h.objs.size + 1) :: rest)) (fun r s' => r = .none ∧ Q (.ref (h.objs.size + 1)) s') E ⟨(h.push (tupO rest)).push (excAt C h.objs.size), g, d, t, os⟩)
    (hrest : rest.length ≤ sizeLine) : wpAny (model prog w) A (call (.ref C) rest) Q E ⟨h, g, d, t, os⟩ := by
  have f1 := tc_lookup
  have f2 := tc_bind (.ref C)
  have hT : Shared.TypeIs ⟨h, g, d, t, os⟩ (.ref C) "type" := ⟨_, hC, rfl⟩
  refine wpAny_call (codeAny_of_tree ?_)
  show wpAny _ _ (callAny (.ref C) _) _ _ _
  repeat (any_goals (first
    | assumption
    | with_reducible refine wpAny_loadPart_at hC ?_
    | wp_step))
  refine ⟨rfl, ?_⟩
  refine codeAny_call_builtin_at (Code.quiet_builtin _ (by decide +kernel)) entry_typeCall (wpAny_check_type_call_sub hC ?_)
  exact tcallK X F T hC hi hfI hq hrest
end
section
variable {prog : Program} {w : World} {A : Around} {E : Value → Shared → Prop} {s : Shared} {K : Frag} {x C : Addr} {ox : Obj} {od : Option Obj}
theorem findData {a g : Value} {name : Str} (hc : (clsIn K C).isSome = true) (ha : findIn K (.ref C) name = some (some a)) (hg : specialIn K a "__get__" = some (some g)) (ht : takesIn K a = some true) : findObj K C od name = some (.bind g a) := by
  obtain ⟨cd, hc⟩ := Option.isSome_iff_exists.mp hc
  unfold findObj
  rw [hc, Option.bind_some, ha, Option.bind_some]
  simp [hg, ht]
theorem bgaBind {R : Result → Shared → Prop} {name : Str} {tk : Tok} {a g : Value} (X : K.In s.heap) (I : InstAt s.heap x ox C od)
    (hm0 : mroIn K C (.type "BaseException") = some true) (hf : findObj K C od name = some (.bind g a))
    (h : wpAny (model prog w) A.in1 (call g [a, .ref x, .ref C]) (fun v s' => R (.ok (.ret v)) s') (fun e s' => R (.error e) s') s) :
    codeAny (model prog w) A (.call (.builtin bga) ⟨[.ref x, .str name tk], []⟩) R s := by
  have sub : Looks (model prog w) s.heap (isInstance (.ref x) (.type "BaseException")) true := I.type.andThen (looks_mroIn X hm0)
  have L1 := looks_find (M := model prog w) X I hf
  refine codeAny_call_builtin PySem.F.excAttr_ValueError.ga.plain PySem.F.entry_bexc_ga (@check_slot (model prog w) _ _ s bga "BaseException" "__getattribute__" (.ref x) [.str name tk] [] _ (by decide +kernel) (by decide +kernel) sub (PySem.F.args_bexc_ga _ _) ?_)
  refine wpAny_bind (wpAny_pure (wpAny_bind (wpAny_pure (wpAny_bind (I.type.here (wpAny_bind (L1.here ?_)))))))
  show wpAny _ _ (holding [a] (call g [a, .ref x, .ref C]) >>= ret) _ _ _
  exact wpAny_bind (wpAny_holding (wpAny_mono h (fun v s' z => wpAny_pure z) fun _ _ z => z))
structure ErrI (K : Frag) (C : Addr) : Prop where
  cls : (clsIn K C).isSome = true
  ga : findIn K (.ref C) "__getattribute__" = some (some (.builtin bga))
  hk : findIn K (.ref C) "__getattr__" = some none
  mb : mroIn K C (.type "BaseException") = some true
  mo : mroIn K C (.type "object") = some true
  ca : findIn K (.ref C) "__class__" = some (some (.builtin "object.__class__"))
theorem errClass {Q : Option Value → Shared → Prop} (T : ErrI K C) (hn : specialIn K (.builtin "object.__class__") "__get__" = some (some (.builtin "getset_descriptor.__get__"))) (htk : takesIn K (.builtin "object.__class__") = some true)
    (X : K.In s.heap) (I : InstAt s.heap x ox C od) (h : Q (some (.ref C)) { s with toks := s.toks + 1 }) : wpAny (model prog w) A (getAttr? (.ref x) "__class__") Q E s := by
  have hf : findObj K C od "__class__" = some (.bind (.builtin "getset_descriptor.__get__") (.builtin "object.__class__")) := findData T.cls T.ca hn htk
  have L0 := I.type (M := model prog w)
  have L1 := looks_findIn (M := model prog w) X T.ga
  have L2 := looks_findIn (M := model prog w) X T.hk
  have f3 := PySem.F.excAttr_ValueError.ga.bind (.ref x)
  unfold getAttr? getAttrBy? getAttrBy
  refine wpAny_bind (wpAny_mkText (wpAny_bind (wpAny_attempt (wpAny_holding (wpAny_bind (Looks.here (s := { s with toks := s.toks + 1 }) L0 (wpAny_bind (Looks.here (s := { s with toks := s.toks + 1 }) L1 ?_))))))))
  have hx1 : (onTheHeap (Value.ref C) && Value.builtin bga == Value.builtin "object.__getattribute__") = false := by
    rw [show (Value.builtin bga == Value.builtin "object.__getattribute__") = false from by decide +kernel]
    rfl
  show wpAny _ _ (if (onTheHeap (Value.ref C) && Value.builtin bga == Value.builtin "object.__getattribute__") = true then _ else _) _ _ _
  rw [if_neg (by rw [hx1]; decide)]
  unfold getAttrByItsOwn
  refine wpAny_bind ?_
  show wpAny _ _ (typeLookup (.ref C) "__getattr__") _ _ _
  refine Looks.here (s := { s with toks := s.toks + 1 }) L2 ?_
  refine wpAny_bind (wpAny_attempt (wpAny_holding ?_))
  unfold callGetattribute
  rw [if_neg (by decide)]
  unfold boundAndCalled
  rw [f3]
  refine wpAny_bind (wpAny_pure ?_)
  refine wpAny_call (bgaBind (s := { s with toks := s.toks + 1 }) X I T.mb hf ?_)
  refine wpAny_call (class_get (s := { s with toks := s.toks + 1 }) (ox := ox) (od := od) X I T.mo ?_)
  show wpAny _ _ (handedOut (.ref C)) _ _ _
  rw [handedOut_of rfl]
  exact wpAny_pure (wpAny_pure h)
theorem kitErr (T : ErrI K C) (hn : specialIn K (.builtin "object.__class__") "__get__" = some (some (.builtin "getset_descriptor.__get__"))) (htk : takesIn K (.builtin "object.__class__") = some true) :
    KitX K (.ref x) (.ref C) (fun h => ∃ ox od, InstAt h x ox C od) where
  ty := fun _ _ _ ⟨_, _, I⟩ => I.type
  it := fun _ _ X _ => by
    obtain ⟨cdD, hcD⟩ := Option.isSome_iff_exists.mp T.cls
    unfold clsIn at hcD
    split at hcD
    · rename_i c' d' cd' sl' ho
      intro A' Q' E' s' k q
      unfold isType loadHead
      exact wpAny_bind (wpAny_loadPart (k _ _ (X _ _ ho)) (wpAny_pure q))
    · cases hcD
  ne := fun h tp dd its n sl X htp => by
    obtain ⟨cdD, hcD⟩ := Option.isSome_iff_exists.mp T.cls
    refine Bool.eq_false_iff.mpr fun q => ?_
    have e : C = tp := Value.ref.inj (beq_iff_eq.mp q)
    subst e
    unfold clsIn at hcD
    split at hcD
    · rename_i c' d' cd' sl' ho
      have z := (X _ _ ho).symm.trans htp
      cases z
    · cases hcD
  ca := fun X ⟨_, _, I⟩ k => errClass T hn htk X I k
end
end My
set_option Elab.async false
set_option linter.all false
set_option maxRecDepth 100000
set_option maxHeartbeats 4000000
namespace My
open PySem PySem.W L2
abbrev bmV : List Value := [.type "ValueError", .type "Exception", .type "BaseException", .type "object"]
abbrev errAt (C : Addr) (d : Option Addr) (t : Addr) : Obj := { cls := .ref C, dict := d, data := .fields #[.ref t, .none, .none, .none, .bool false, .none] }
def ErrO (x C : Addr) (d : Option Addr) : HO := .ext fun h => ∃ t, h.get? x = some (errAt C d t)
theorem errO_ok {P : Program} {w : World} {H : Hp} {h : Heap} {x C : Addr} {d : Option Addr} {t : Addr} (e : h.get? x = some (errAt C d t)) : ObjOk P w H h x (ErrO x C d) :=
  ⟨⟨t, e⟩, ⟨_, e⟩, fun _ _ ⟨t', e'⟩ k => ⟨t', k _ e'⟩⟩
theorem errO_at {P : Program} {w : World} {H : Hp} {h : Heap} {x C : Addr} {d : Option Addr} (ok : HOk P w H h) (e : H x = some (ErrO x C d)) : ∃ t, h.get? x = some (errAt C d t) := (ok x _ e).1
theorem upd_id {H : Hp} {a : Addr} {o : HO} (h : H a = some o) : upd H a o = H := by
  funext b
  unfold upd
  split
  · rename_i e; rw [e, h]
  · rfl
structure BaseC (K : Frag) (D : Addr) : Prop where
  cls : ∃ nm q N bs sn sub ab col dd k0 k1 k2 k3 k5, K.lookup D = some (excClassObj nm q D N bs bmV true sn sub ab col dd k0 k1 k2 k3 k5 "ValueError.__new__") ∧
     ∃ o es ep, K.lookup N = some o ∧ o.data = .dict es ep ∧ StrKeys es ∧ nsFind es "__init__" = none
  ga : specialIn K (.ref D) "__getattribute__" = some (some (.builtin "type.__getattribute__"))
  reads : readsIn K D (.type "type") = true
  ini : findCls K (.ref D) (.type "type") "__init__" = some (.val (.builtin "ValueError.__init__"))
  fi : findIn K (.ref D) "__init__" = some (some (.builtin "ValueError.__init__"))
  kp : keepIn K (.ref D) = true
  it : ErrI K D
theorem BaseC.tail {K : Frag} {D : Addr} (B : BaseC K D) {h : Heap} (X : K.In h) : OwnTail h bmV (.ref D :: bmV) := by
  obtain ⟨nm, q, N, bs, sn, sub, ab, col, dd, k0, k1, k2, k3, k5, l, o, es, ep, lN, hd, hs, hn⟩ := B.cls
  exact .own (X _ _ l) ⟨o, es, ep, X _ _ lN, hd, hs, fun _ => rfl⟩ hn .base
structure ErrC (K : Frag) (D : Addr) (nm : Str) (C f : Addr) : Prop where
  cls : ∃ q N bs sn sub ab col dd k0 k1 k2 k3 k5, K.lookup C = some (excClassObj nm q C N bs (.ref D :: bmV) true sn sub ab col dd k0 k1 k2 k3 k5 "ValueError.__new__")
  init : findIn K (.ref C) "__init__" = some (some (.ref f))
  fn : typeIn K (.ref f) = some (.type "function")
  kp : keepIn K (.ref C) = true
  sa : findIn K (.ref C) "__setattr__" = some (some (.builtin "object.__setattr__"))
  it : ErrI K C
theorem ErrC.clsIn {K : Frag} {D C f : Addr} {nm : Str} (T : ErrC K D nm C f) : ∃ cd, PySem.W.clsIn K C = some cd ∧ cd.hasDict = true ∧ cd.mro = .ref C :: .ref D :: bmV := by
  obtain ⟨q, N, bs, sn, sub, ab, col, dd, k0, k1, k2, k3, k5, l⟩ := T.cls
  unfold PySem.W.clsIn
  rw [l]
  exact ⟨_, rfl, rfl, rfl⟩
theorem ErrC.refuse {K : Frag} {D C f : Addr} {nm : Str} (T : ErrC K D nm C f) (x : Addr) : ∃ cd, PySem.W.clsIn K C = some cd ∧ cd.hasDict = true ∧ refuseLoop (.ref x) "__setattr__" cd.mro = pure () := by
  obtain ⟨cd, h1, h2, h3⟩ := T.clsIn
  refine ⟨cd, h1, h2, ?_⟩
  rw [h3, refuseLoop_ref, refuseLoop_ref]
  exact PySem.F.store_ValueError.passes _
section
variable {X : Cx} {pins : List (Addr × Obj)} {σ : St} {H : Hp} {s : Shared}
def spErr (C : Addr) (fld : Str) : Sp := fun vs H Q _ => ∃ x v, vs = [.ref x, v] ∧ H x = some (ErrO x C none) ∧ ∀ dx, H dx = none → dx ≠ x → Q .non (upd (upd H dx (.xd [(fld, v)])) x (ErrO x C (some dx)))
def tErr (C : Addr) (fld : Str) (te : TE) : TE := fun σ H Q => te σ H fun v H1 => ∀ x dx, H1 x = none → H1 dx = none → dx ≠ x → Q (.ref x) (upd (upd H1 dx (.xd [(fld, v)])) x (ErrO x C (some dx)))
theorem upd3 {H : Hp} {x dx : Addr} {a b c : HO} (n : dx ≠ x) : upd (upd (upd H x a) dx b) x c = upd (upd H dx b) x c := by
  funext z
  unfold upd
  by_cases h1 : z = x
  · rw [if_pos h1, if_pos h1]
  · rw [if_neg h1, if_neg h1]
    by_cases h2 : z = dx
    · rw [if_pos h2, if_neg h1]
    · rw [if_neg h2, if_neg h1]
theorem make_err {D C f : Addr} {nm fld : Str} {k : Nat} {fd : FuncData} {ps : List Str} {u : Value} {v : V} {Q : VK} (B : BaseC X.K D) (T : ErrC X.K D nm C f) (F : FnOk X.prog X.w X.K X.mg X.base CX0 k f fd ps (spErr C fld)) (hr : Room (k + 1) X.A) (hb : Binds X.K fd ps [])
    (I : Inv X pins σ H s) (r : RelV v u) (h : ∀ x dx, H x = none → H dx = none → dx ≠ x → Q (.ref x) (upd (upd H dx (.xd [(fld, v)])) x (ErrO x C (some dx)))) :
    wpAny (model X.prog X.w) X.A (call (.ref C) [u]) (EP X pins σ Q) X.xe s := by
  obtain ⟨hp, g, dr, tk, os⟩ := s
  obtain ⟨q, N, bs, sn, sub, ab, col, dd, k0, k1, k2, k3, k5, l⟩ := T.cls
  refine callK (C := C) I.kIn PySem.F.excBase_ValueError (B.tail I.kIn) (I.kIn _ _ l) T.init T.fn ?_ (by rw [List.length_cons, List.length_nil, sizeLine_eq]; omega)
  have f0 : H hp.objs.size = none := I.fresh
  have I1 : Inv X pins σ H ⟨hp.push (tupO [u]), g, dr, tk, os⟩ := I.kept (h' := hp.push (tupO [u])) (t' := tk) fun b o e => Heap.get?_push_of_some _ e
  have sz : (hp.push (tupO [u])).objs.size = hp.objs.size + 1 := Heap.size_push _ _
  have fx : H (hp.objs.size + 1) = none := by rw [← sz]; exact I1.fresh
  have I2 : Inv X pins σ (upd H (hp.objs.size + 1) (ErrO (hp.objs.size + 1) C none)) ⟨(hp.push (tupO [u])).push (excAt C hp.objs.size), g, dr, tk, os⟩ :=
    I1.laid (h' := (hp.push (tupO [u])).push (excAt C hp.objs.size)) (t' := tk) (a := hp.objs.size + 1) (fun b o e => Heap.get?_push_of_some _ e) (Nat.le_of_eq sz)
      (errO_ok (t := hp.objs.size) (Heap.get?_push_at sz.symm rfl))
  generalize (⟨(hp.push (tupO [u])).push (excAt C hp.objs.size), g, dr, tk, os⟩ : Shared) = s2 at I2 ⊢
  generalize hp.objs.size + 1 = x at fx I2 ⊢
  have r2 : Vals [V.ref x, v] [Value.ref x, u] := .cons rfl (.cons r .nil)
  have hsp : spErr C fld [V.ref x, v] (upd H x (ErrO x C none)) (fun y H2 => y = .non ∧ Q (.ref x) H2) E0 :=
    ⟨x, v, rfl, upd_same, fun dx hd nd => ⟨rfl, by
      rw [upd3 nd]
      rw [upd_ne nd] at hd
      exact h x dx fx hd nd⟩⟩
  have hl : ([Value.ref x, u] ++ [] : List Value).length = ps.length := by
    rw [List.append_nil, ← r2.length]
    exact F.len _ _ _ _ hsp
  have hbd := hb s2 [Value.ref x, u] I2.kIn hl
  rw [List.append_nil] at hbd
  refine wpAny_call (codeAny_mono (F.run _ X.stack s2 _ ⟨[Value.ref x, u], []⟩ [Value.ref x, u] _ _ E0 (hr.make C [u] []) (I2.env0.make C [u] []) hbd r2 hsp) fun r s' hq' => ?_)
  cases r with
  | error e => exact False.elim hq'
  | ok fl =>
    cases fl with
    | ret u' =>
      obtain ⟨y, H', I3, ry, ey, q3⟩ := I2.after hq'
      subst ey
      exact ⟨ry, V.ref x, H', I3, rfl, q3⟩
    | next => exact False.elim hq'
    | brk => exact False.elim hq'
    | cont => exact False.elim hq'
end
end My
set_option Elab.async false
set_option linter.all false
set_option maxRecDepth 100000
set_option maxHeartbeats 4000000
namespace My
open PySem PySem.W L2
def one (P : V → Hp → Prop) (vs : List V) (H : Hp) : Prop := match vs with
  | [v] => P v H
  | _ => False
theorem one_of {P : V → Hp → Prop} {vs : List V} {H : Hp} (h : one P vs H) : ∃ v, vs = [v] ∧ P v H := by
  cases vs with
  | nil => exact h.elim
  | cons v r =>
    cases r with
    | nil => exact ⟨v, rfl, h⟩
    | cons _ _ => exact h.elim
def two (P : V → V → Hp → Prop) (vs : List V) (H : Hp) : Prop := match vs with
  | [v, u] => P v u H
  | _ => False
theorem two_of {P : V → V → Hp → Prop} {vs : List V} {H : Hp} (h : two P vs H) : ∃ v u, vs = [v, u] ∧ P v u H := by
  match vs, h with
  | [v, u], h => exact ⟨v, u, rfl, h⟩
section
variable {X : Cx} {pins : List (Addr × Obj)} {σ : St} {H : Hp} {s : Shared}
theorem pe_err {D C f : Addr} {nm fld x : Str} {k : Nat} {fd : FuncData} {ps : List Str} {e : Expr} {te : TE} {p pos : Pos} (B : BaseC X.K D) (T : ErrC X.K D nm C f) (F : FnOk X.prog X.w X.K X.mg X.base CX0 k f fd ps (spErr C fld)) (hr : Room (k + 1) X.A) (hb : Binds X.K fd ps [])
    (hg : Gl X x) (hm : X.mg x = some (.ref C)) (ha : PE X e te) (hdb : (x == ("__debug__" : Str)) = false := by decide) (he : starEach [e] X.env = (false, eval e X.env) :: starEach [] X.env := by rfl) (hpl : (backTo pos (starEach [] X.env)).any (·.1) = false := by rfl) :
    PE X (.Call (.Name x p) [e] [] pos) (tErr C fld te) := by
  intro pins s σ H Q I h
  refine wpAny_Call_Name_kw (ld_glob I hg hm ?_ hdb)
  have pa : PA X [e] (tCons te tNil) := pa_cons ha pa_nil he
  have h' : tCons te tNil σ H (one fun v H1 => ∀ x dx, H1 x = none → H1 dx = none → dx ≠ x → Q (.ref x) (upd (upd H1 dx (.xd [(fld, v)])) x (ErrO x C (some dx)))) := h
  refine PySem.W.callWith_K (h₀ := X.base) I.ok.mod.kin T.kp (thn (pa pos pins s σ H _ I h') fun us s1 ⟨vs, H1, I1, r, q⟩ => ⟨I1.kIn, ?_⟩) he hpl
  obtain ⟨v, rfl, q⟩ := one_of q
  obtain ⟨u, rfl, ru⟩ := vals1 r
  exact make_err B T F hr hb I1 ru q
def tBI (ts tt : TE) (C : Addr) : TE := fun σ H Q => ts σ H fun x H1 => tt σ H1 fun v H2 => ∃ a, x = .ref a ∧ H2 a = some (ErrO a C none) ∧ Q .non H2
theorem pe_baseInit {D C f : Addr} {nm x : Str} {o e : Expr} {ts tt : TE} {p apos pos : Pos} {pl : Sem Bool} (B : BaseC X.K D) (T : ErrC X.K D nm C f) (hg : Gl X x) (hm : X.mg x = some (.ref D)) (hs : PE X o ts) (ht : PE X e tt) (hdb : (x == ("__debug__" : Str)) = false := by decide)
    (hst : starEach [o, e] X.env = (false, eval o X.env) :: starEach [e] X.env := by rfl) (hst2 : starEach [e] X.env = (false, eval e X.env) :: starEach [] X.env := by rfl) (hpl : (backTo pos (starEach [e] X.env)).any (·.1) = false := by rfl)
    (htr : eval (.Call (.Attribute (.Name x p) "__init__" apos) [o, e] [] pos) X.env = (do
      let ov ← eval (.Name x p) X.env
      standAt apos.atName
      let (f, first) ← holding [ov] (getMethod ov "__init__" pl)
      callWith pos f first (backTo pos (starEach [o, e] X.env)) (backToKw pos (keywordEach [] X.env))) := by rfl) :
    PE X (.Call (.Attribute (.Name x p) "__init__" apos) [o, e] [] pos) (tBI ts tt C) := by
  intro pins s σ H Q I h
  refine PySem.W.methodCall_KW (pl := pl) (ld_glob I hg hm ?_ hdb) htr
  refine method_cls I.kIn B.ga (cls_value I.kIn B.reads B.ini rfl ?_)
  have I0 : Inv X pins σ H { s with toks := s.toks + 1 } := I.tok _
  have pa : PA X [o, e] (tCons ts (tCons tt tNil)) := pa_cons hs (pa_cons ht pa_nil hst2) hst
  have h' : tCons ts (tCons tt tNil) σ H (two fun x v H2 => ∃ a, x = .ref a ∧ H2 a = some (ErrO a C none) ∧ Q .non H2) := h
  refine PyProof.Rows.callWith_builtin1 (thn (pa pos pins _ σ H _ I0 h') fun us s1 ⟨vs, H1, I1, r, q⟩ => ?_) hst hpl
  obtain ⟨_, v, rfl, a, rfl, ha, q⟩ := two_of q
  obtain ⟨u, u', rfl, ru, ru'⟩ := vals2 r
  cases (show u = Value.ref a from ru)
  obtain ⟨t0, hx⟩ := errO_at I1.hok ha
  obtain ⟨q', N, bs, sn, sub, ab, col, dd, k0, k1, k2, k3, k5, l⟩ := T.cls
  obtain ⟨hp, g, dr, tk, os⟩ := s1
  refine wpAny_call (viCall (C := C) PySem.F.excBase_ValueError (B.tail I1.kIn) (I1.kIn _ _ l) hx fun h' hx' hk => ?_)
  have I2 : Inv X pins σ (upd H1 a (ErrO a C none)) ⟨h', g, dr, tk, os⟩ := I1.write (h' := h') (t' := tk) (x := a) (e := a) (by rw [ha]; exact True.intro) (.inl rfl) (fun b o hb e => hk b o hb e) ⟨_, hx'⟩ (errO_ok hx')
  rw [upd_id ha] at I2
  exact ⟨.non, H1, I2, rfl, q⟩
def sErr (K : Frag) (C : Addr) (ta tv : TE) (f : Str) : TS := fun D σ H => tv σ H fun y H1 => ta σ H1 fun x H2 => ∃ a, x = .ref a ∧ H2 a = some (ErrO a C none) ∧ takerIn K C f = some none ∧ ∀ dx, H2 dx = none → dx ≠ a → D.nx σ (upd (upd H2 dx (.xd [(f, y)])) a (ErrO a C (some dx)))
theorem ps_err {D C fI : Addr} {nm f : Str} {o value : Expr} {ta tv : TE} {pos pos' : Pos} (T : ErrC X.K D nm C fI) (ha : PE X o ta) (hv : PE X value tv) (hs : swapsWith value (some (.Attribute o f pos')) pos.line X.env = pure false) :
    PS X (.Assign [.Attribute o f pos'] value pos) (sErr X.K C ta tv f) := by
  intro pins s σ H D' I h
  refine plainObj_wpAny_Assign_Attribute (thn (hv pins s σ H _ I h) fun u s1 ⟨y, H1, I1, ry, q⟩ => thn (ha pins s1 σ H1 _ I1 q) fun ov s2 ⟨x, H2, I2, rx, a, ex, ea, tk, q2⟩ => ?_) hs
  subst ex
  obtain rfl : ov = Value.ref a := rx
  obtain ⟨t0, hx⟩ := errO_at I2.hok ea
  obtain ⟨cd, hc, hd, hp⟩ := T.refuse a
  refine setExc I2.kIn hx T.sa hc hd hp T.it.mo tk fun h' tk' hx' hn' hk => ?_
  have fr : H2 s2.heap.objs.size = none := I2.fresh
  have nz : s2.heap.objs.size ≠ a := fun z => by rw [← z, fr] at ea; cases ea
  obtain ⟨oD, es, ep, hoD, rD⟩ := id hn'
  have nf : oD.isFreed = false := Obj.isFreed_of_dict rD.1
  have I3 : Inv X pins σ (upd H2 s2.heap.objs.size (.xd [(f, y)])) { s2 with heap := s2.heap.push oD, toks := s2.toks } := by
    refine I2.laid (h' := s2.heap.push oD) (t' := s2.toks) (a := s2.heap.objs.size) (fun b o e => Heap.get?_push_of_some _ e) (Nat.le_refl _) ⟨_, ⟨oD, es, ep, Heap.get?_push_at rfl nf, rD⟩, fun g => ?_⟩
    by_cases e : g = f
    · subst e
      rw [if_pos rfl, List.lookup_cons_self]
      exact ry
    · rw [if_neg e, List.lookup_cons, beq_eq_false_iff_ne.mpr e]
      exact True.intro
  have ea3 : upd H2 s2.heap.objs.size (.xd [(f, y)]) a = some (ErrO a C none) := by rw [upd_ne nz.symm]; exact ea
  have I4 : Inv X pins σ (upd (upd H2 s2.heap.objs.size (.xd [(f, y)])) a (ErrO a C (some s2.heap.objs.size))) { s2 with heap := h', toks := tk' } := by
    refine I3.write (h' := h') (t' := tk') (x := a) (e := a) (by rw [ea3]; exact True.intro) (.inl rfl) (fun b o hb e => ?_) ⟨_, hx'⟩ (errO_ok (t := t0) hx')
    by_cases z : b = s2.heap.objs.size
    · subst z
      have e' : (s2.heap.push oD).get? s2.heap.objs.size = some o := e
      rw [Heap.get?_push_at rfl nf] at e'
      cases e'
      exact hoD
    · have e' : (s2.heap.push oD).get? b = some o := e
      exact hk b o hb (by rw [← Heap.get?_push_ne _ _ oD z]; exact e')
  exact ⟨σ, _, I4, q2 _ fr nz⟩
end
end My
set_option Elab.async false
set_option linter.all false
set_option maxRecDepth 100000
set_option maxHeartbeats 4000000
namespace My
open PySem PySem.W L2
theorem ErrC.hasDict {K : Frag} {D C f : Addr} {nm : Str} (T : ErrC K D nm C f) : hasDictIn K C = true := by
  obtain ⟨cd, h1, h2, _⟩ := T.clsIn
  unfold hasDictIn
  rw [h1]
  exact h2
section
variable {prog : Program} {w : World} {A : Around} {E : Value → Shared → Prop} {h : Heap} {g : Array GenState}
variable {d : Drawn} {t : Nat} {os : OsState} {nm q : Str} {C N : Addr} {bs bm bmB : List Value} {hdct ab : Bool}
variable {sn : List Str} {sub : List Value} {col : Option Bool} {dd : Option Addr}
variable {k0 k1 k2 k3 k5 : Option Value} {B newId initId : String} {K : Frag}
end
section
variable {X : Cx} {pins : List (Addr × Obj)} {σ : St} {H : Hp} {s : Shared}
theorem err_inst {P : Program} {w : World} {H : Hp} {h : Heap} {a C dx : Addr} {fs : List (Str × V)} (ok : HOk P w H h) (ea : H a = some (ErrO a C (some dx))) (ed : H dx = some (.xd fs)) :
    ∃ (ox od : Obj), InstAt h a ox C (some od) ∧ ∃ mA : Str → Option Value, (∀ f, RelO (fs.lookup f) (mA f)) ∧ ∀ name, lookIn name od = some (mA name) := by
  obtain ⟨t, hx⟩ := errO_at ok ea
  obtain ⟨mA, hn, hr⟩ := (show ObjOk P w H h dx (.xd fs) from ok dx _ ed)
  obtain ⟨od, hod, hl⟩ := lookIn_ns hn
  exact ⟨_, od, ⟨hx, rfl, rfl, hod⟩, mA, hr, hl⟩
def tErrF (K : Frag) (ta : TE) (f : Str) : TE := fun σ H Q => ta σ H fun x H1 => ∃ a C dx fs v, x = .ref a ∧ H1 a = some (ErrO a C (some dx)) ∧ H1 dx = some (.xd fs) ∧ fs.lookup f = some v ∧ ErrI K C ∧ hasDictIn K C = true ∧ findIn K (.ref C) f = some none ∧ Q v H1
structure IsT (K : Frag) : Prop where
  gt : specialIn K (.builtin "object.__class__") "__get__" = some (some (.builtin "getset_descriptor.__get__"))
  tk : takesIn K (.builtin "object.__class__") = some true
def ErrAt (H : Hp) (a C : Addr) : Prop := H a = some (ErrO a C none) ∨ ∃ dx fs, H a = some (ErrO a C (some dx)) ∧ H dx = some (.xd fs)
theorem ErrAt.inst {P : Program} {w : World} {H : Hp} {h : Heap} {a C : Addr} (E : ErrAt H a C) (ok : HOk P w H h) : ∃ ox od, InstAt h a ox C od := by
  rcases E with e | ⟨dx, fs, ea, ed⟩
  · obtain ⟨t, hx⟩ := errO_at ok e
    exact ⟨_, none, ⟨hx, rfl, rfl, True.intro⟩⟩
  · obtain ⟨ox, od, J, _⟩ := err_inst ok ea ed
    exact ⟨ox, some od, J⟩
def isV : V → Value
  | .ref a => .ref a
  | .ty n => .type n
  | _ => .none
def rIsi (K : Frag) : List V → Hp → VK → Prop := fun vs H Q => ∃ a C c b, vs = [.ref a, c] ∧ ErrAt H a C ∧ ErrI K C ∧ ((∃ z, c = .ref z) ∨ ∃ n, c = .ty n) ∧ kitOne K (.ref C) (isV c) = some b ∧ Q (.bl b) H
def tBase (D : Addr) (te : TE) : TE := fun σ H Q => te σ H fun v H1 => ∀ x, H1 x = none → Q (.ref x) (upd H1 x (ErrO x D none))
end
end My
set_option Elab.async false
set_option linter.all false
set_option maxRecDepth 100000
set_option maxHeartbeats 4000000
namespace My
open PySem L2 PySem.Calls PyProof.Rows
open PySem.Builtin.Str (occurrences partsBetween strSub)
section
variable {X : Cx}
def GDiv (i j : Int) : Prop := 0 < j ∧ j.natAbs.log2 < 9000
def GMul (i j : Int) : Prop := Builtin.Int.intBits i + Builtin.Int.intBits j ≤ 1000000
theorem GMul.ok {i j : Int} (h : GMul i j) : IntMulOk i j := by
  unfold IntMulOk
  have z : Builtin.Int.intTooBig (Builtin.Int.intBits i + Builtin.Int.intBits j) = false := by
    unfold Builtin.Int.intTooBig
    refine decide_eq_false ?_
    have h' : Builtin.Int.intBits i + Builtin.Int.intBits j ≤ 1000000 := h
    have hb : (1000000 : Int) ≤ bitsLine := by decide +kernel
    omega
  rw [z]; simp
def rPart : V → List V → Hp → VK → Prop := fun x xs H Q => ∃ a b, x = .str a ∧ xs = [.str b] ∧ (b.length == 0) = false ∧ a.length ≤ sizeLine ∧
  ∀ p, H p = none → Q (.ref p) (upd H p (.tup [.str (Txt.partition a b).1, .str (Txt.partition a b).2.1, .str (Txt.partition a b).2.2]))
def rSplit : V → List V → Hp → VK → Prop := fun x xs H Q => ∃ a b, x = .str a ∧ xs = [.str b] ∧ (b.length == 0) = false ∧ a.length ≤ sizeLine ∧
  (partsBetween a (occurrences a b 0 a.length (a.length + 1)) b.length).length ≤ sizeLine ∧ ∀ p, H p = none → Q (.ref p) (upd H p (.lst ((Txt.split a b).map V.str)))
def tFieldI (te : TE) : TE := fun σ H Q => te σ H fun x H1 => ∃ i, x = .int i ∧ i.natAbs < 10 ^ 4300 ∧ Q (.str (toString i)) H1
def Its (z : Str) : It := ⟨fun i _ => i < z.cps.size, fun i H x H' => H' = H ∧ ∃ c, z.cps[i]? = some c ∧ x = .str ⟨#[c]⟩, fun i _ => z.cps.size ≤ i⟩
section
variable {P : Program} {w : World} {K : PySem.W.Frag} {tg : Expr}
end
def iStr (tl : TE) : TI := fun σ H R => tl σ H fun x H1 => ∃ z, x = .str z ∧ R (Its z) H1
def tJoin3 (ta tb tc : TE) : TE := fun σ H Q => ta σ H fun x H1 => ∃ a, x = .str a ∧ a.length ≤ sizeLine ∧ tb σ H1 fun y H2 => ∃ b, y = .str b ∧ (a ++ b).length ≤ sizeLine ∧
  tc σ H2 fun z H3 => ∃ c, z = .str c ∧ (a ++ b ++ c).length ≤ sizeLine ∧ Q (.str (a ++ b ++ c)) H3
end
end My
set_option Elab.async false
set_option linter.all false
set_option maxRecDepth 100000
set_option maxHeartbeats 4000000
namespace My
open PySem L2
section
variable {prog : Program} {w : World} {A : Around} {R : Result → Shared → Prop} {s : Shared}
theorem compLoopT1 {elt target iter c : Expr} {scope : Scope} {pos : Pos} {it acc : Value} {env : Env} (J : Nat → Shared → Prop)
    (turn : ∀ n s, J n s → wpAny (model prog w) A (pyNext it) (fun r s₁ => match r with
      | none => R (.ok .next) s₁
      | some v => wpAny (model prog w) A (letOwnedTupleGo target it v) (fun _ s₂ => wpAny (model prog w) A (assign target env v) (fun _ s₃ => wpAny (model prog w) A (isTrue c env (eval c env)) (fun k s₀ =>
          (k = false → ∃ m, m < n ∧ J m s₀) ∧ (k = true → wpAny (model prog w) A (eval elt env)
          (fun x s₄ => wpAny (model prog w) A (call (.builtin "list.append") [acc, x]) (fun _ s₅ => ∃ m, m < n ∧ J m s₅) (fun _ _ => False) s₄) (fun _ _ => False) s₀)) (fun _ _ => False) s₃) (fun _ _ => False) s₂) (fun _ _ => False) s₁) (fun _ _ => False) s)
    (n : Nat) (h : J n s) : codeAny (model prog w) A (.compLoop (.ListComp elt [⟨target, iter, [c], 0⟩] scope pos) 0 it acc env) R s := by
  refine codeAny_loop rfl J (fun n s hJ => ?_) n h
  show wpAny _ _ (Sem.onRaise (compTurn (.ListComp elt [⟨target, iter, [c], 0⟩] scope pos) 0 it acc env) (fun x => do noteFrame x env; theTreesLotGoes x)) _ _ s
  refine wpAny_noted ?_
  rw [compTurn_list]
  refine wpAny_bind (wpAny_standAt (wpAny_bind (wpAny_mono (turn n s hJ) (fun r s₁ h₁ => ?_) fun _ _ z => z.elim)))
  cases r with
  | none => exact wpAny_pure h₁
  | some v =>
    refine wpAny_bind (wpAny_mono h₁ (fun _ s₂ h₂ => ?_) fun _ _ z => z.elim)
    refine wpAny_bind (wpAny_mono h₂ (fun _ s₃ h₃ => ?_) fun _ _ z => z.elim)
    refine wpAny_bind (wpAny_tests_one (wpAny_mono h₃ (fun k s₀ h₀ => ?_) fun _ _ z => z.elim))
    cases k with
    | false => exact wpAny_pure ⟨rfl, h₀.1 rfl⟩
    | true =>
      refine wpAny_bind (wpAny_bind (wpAny_mono (h₀.2 rfl) (fun x s₄ h₄ => ?_) fun _ _ z => z.elim))
      refine wpAny_bind (wpAny_mono h₄ (fun _ s₅ h₅ => wpAny_pure (wpAny_pure ⟨rfl, h₅⟩)) fun _ _ z => z.elim)
end
def tLCif (wi : TI) (js : List Nat) (tt : TT) (te : TE) : TE := fun σ H Q => wi σ H fun J H1 => ∀ D, H1 D = none → ∃ W : Nat → Nat → List V → Hp → Prop, (∃ m, W 0 m [] (upd H1 D (.lst []))) ∧
  ∀ i m ys H2, W i m ys H2 → H2 D = some (.lst ys) ∧ ((J.stop i H2 ∧ Q (.ref D) H2) ∨ (J.go i H2 ∧ ys.length < sizeLine ∧
    ∀ x H3, J.yld i H2 x H3 → tt (some x :: capS js σ) H3 fun k H0 => (k = false → ∃ m', m' < m ∧ W (i + 1) m' ys H0) ∧
      (k = true → te (some x :: capS js σ) H0 fun y H4 => H4 D = some (.lst ys) ∧ ∃ m', m' < m ∧ W (i + 1) m' (ys ++ [y]) (upd H4 D (.lst (ys ++ [y]))))))
section
variable {X : Cx} {sc : Scope} {cl : List (Str × Addr)} {x : Str} {zs : List Str} {js : List Nat} {elt iter c : Expr} {px pos : Pos} {wi : TI} {te : TE} {tt : TT}
theorem pe_lcIf (hc : X.calm = true) (S : CompSc X sc cl x zs js) (hi : PI X (.Name x px) iter wi) (ht : ∀ s H C fp, PT (compCx X sc cl (x :: zs) s H C fp) c tt) (he : ∀ s H C fp, PE (compCx X sc cl (x :: zs) s H C fp) elt te)
    (hs : ∀ v, foldedSetIterable iter X.env v = pure v := by intro _; rfl) : PE X (.ListComp elt [⟨.Name x px, iter, [c], 0⟩] sc pos) (tLCif wi js tt te) := by
  intro pins s σ H Q I h
  rw [eval_ListComp]
  refine wpAny_comprehension_free (use := none) rfl hs S.clos S.kind S.names (thn (hi pins s σ H _ I h) fun v s1 h1 => thn h1 fun itv s2 h2 => ?_)
  obtain ⟨it, fp, tn, J, H2, e, I2, T, st2, f2, body⟩ := h2
  subst e
  have fr2 : H2 s2.heap.objs.size = none := I2.fresh
  obtain ⟨W, ⟨m0, w0⟩, turn⟩ := body _ fr2
  refine wpAny_newObj_type ?_
  have I3 : Inv X pins σ (upd H2 s2.heap.objs.size (.lst [])) { s2 with heap := s2.heap.push { cls := .type "list", data := .seq ([] : List Value).toArray } } := I2.lnew (t' := s2.toks) (ys := []) (its := []) .nil (Nat.zero_le _)
  refine wpAny_newFunctionEnv S.noCell (by intro y hy; simp at hy) (fun h₁ hn hsb => ?_) S.kind
  generalize hs3 : ({ s2 with heap := s2.heap.push { cls := .type "list", data := .seq ([] : List Value).toArray } } : Shared) = s3 at I3 hn hsb ⊢
  have fpl : ∀ b ∈ fp, FpOk X pins (upd H2 s2.heap.objs.size (.lst [])) b ∧ b < s3.heap.objs.size := fun b hb => by
    obtain ⟨o, ho, _⟩ := T.obj _ _ st2 b hb
    have hl := Heap.lt_size ho
    have hne : b ≠ s2.heap.objs.size := Nat.ne_of_lt hl
    obtain ⟨z1, z2⟩ := f2 b hb
    refine ⟨⟨by rw [upd_ne hne]; exact z1, z2⟩, ?_⟩
    rw [← hs3]
    show b < (s2.heap.push _).objs.size
    rw [Heap.size_push]
    exact Nat.lt_succ_of_lt hl
  have old : ∀ b o, s3.heap.get? b = some o → h₁.get? b = some o := fun b o e => hsb.extBut b o (Nat.ne_of_lt (Heap.lt_size e)) (Heap.get?_push_of_some _ e)
  have loop : ∀ sS : Shared, sS.heap = h₁ → sS.os = s3.os → sS.gens = s3.gens → codeAny (model X.prog X.w) X.A (.compLoop (.ListComp elt [⟨.Name x px, iter, [c], 0⟩] sc pos) 0 (.ref it) (.ref s2.heap.objs.size) (compEnvC sc cl s3.heap.objs.size X.env))
      (compPost (model X.prog X.w) X.A X.xe none (EP X pins σ Q) (.ref s2.heap.objs.size) s3.heap.objs.size) sS := by
    intro sS eh eo eg
    subst eh
    have J0 : Inv (compCx X sc cl (x :: zs) s3 (upd H2 s2.heap.objs.size (.lst [])) s3.heap.objs.size fp) [] (none :: capS js σ) (upd H2 s2.heap.objs.size (.lst [])) sS := comp_start I3 S fpl (Nat.le_refl _) eo eg old hn
    generalize hX : compCx X sc cl (x :: zs) s3 (upd H2 s2.heap.objs.size (.lst [])) s3.heap.objs.size fp = X' at J0
    have stat : ∀ {H' : Hp}, (∀ b ∈ fp, H' b = none) → ∀ b ∈ fp, FpOk X' [] H' b := fun {H'} hn b hb => by
      subst hX
      obtain ⟨⟨_, z1, z2, z3, z4, z5⟩, z6⟩ := fpl b hb
      refine ⟨hn b hb, Nat.ne_of_lt z6, fun q => ?_, .inl hb, fun y c e => z4 y c (S.sub _ _ e), fun p hp => absurd (show p ∈ ([] : List (Addr × Obj)) from hp) (by simp)⟩
      rcases List.mem_cons.mp (I3.stkSub b q) with e | e
      · exact z1 e
      · exact z2 e
    have st3 : tn 0 sS.heap := T.keep _ _ _ st2 fun b hb o e => old b o (by rw [← hs3]; exact Heap.get?_push_of_some _ e)
    refine compLoopT1 (fun n s' => ∃ i ys o H', Inv X' [] (o :: capS js σ) H' s' ∧ tn i s'.heap ∧ (∀ b ∈ fp, H' b = none) ∧ W i n ys H') ?_ m0 ⟨0, [], none, _, J0, st3, fun b hb => (fpl b hb).1.1, w0⟩
    rintro n s' ⟨i, ys, o, H', Iv, st, fr, w⟩
    obtain ⟨hD, alt⟩ := turn i n ys H' w
    have eP : X'.prog = X.prog := by subst hX; rfl
    have eW : X'.w = X.w := by subst hX; rfl
    have eK : X'.K = X.K := by subst hX; rfl
    have eC : X'.calm = true := by subst hX; exact hc
    have eA : X'.A = X.A := by subst hX; rfl
    have eE : X'.env = compEnvC sc cl s3.heap.objs.size X.env := by subst hX; rfl
    have eX : X'.xe = fun _ _ => False := by subst hX; rfl
    rcases alt with ⟨stop, q⟩ | ⟨go, hlen, step⟩
    · have d := T.done X' eP eW eK eC i [] s' _ H' (fun _ _ => False) Iv (stat fr) st stop
      rw [eA] at d
      refine thn d fun r s4 ⟨hr, I4⟩ => ?_
      subst hr
      obtain ⟨m, hm, _⟩ := id I4.loc
      rw [eE] at hm
      subst hX
      exact ⟨m, hm, fun h' hs' => ⟨.ref s2.heap.objs.size, H', comp_end I3 fpl (Nat.le_refl _) I4 hs', rfl, q⟩⟩
    · have d := T.item X' eP eW eK eC i [] s' _ H' (fun _ _ => False) Iv (stat fr) st go
      rw [eA] at d
      refine thn d fun r s4 ⟨u, hr, h4⟩ => ?_
      subst hr
      refine thn h4 fun _ s5 ⟨y, H5, I5, r5, y5, st5, fr5⟩ => ?_
      have I5' := I5.pinned (stat fr5) (T.obj _ _ st5)
      have hg : PG X' (.Name x px) (gName 0) := by
        subst hX
        exact pg_name S.nd rfl (.inl (lookup_relabel_local S.var)) (.inr (lookup_relabel_local S.var))
      have g6 := hg _ s5 _ H5 y u (fun σ6 H6 => σ6 = (some y :: capS js σ) ∧ H6 = H5) I5' r5 ⟨rfl, rfl⟩
      rw [eP, eW, eA, eE, eX] at g6
      refine thn g6 fun _ s6 ⟨σ6, H6, I6, e6, e6'⟩ => ?_
      subst e6
      subst e6'
      have ht' : PT X' c tt := by subst hX; exact ht _ _ _ _
      have g0 := ht' _ s6 _ H6 _ I6 (step y H6 y5)
      rw [eP, eW, eA, eE, eX] at g0
      refine thn g0 fun k sk ⟨Hk, Ik, qk⟩ => ?_
      cases k with
      | false =>
        obtain ⟨m', hm', w7⟩ := qk.1 rfl
        refine ⟨fun _ => ?_, fun z => nomatch z⟩
        refine ⟨m', hm', i + 1, ys, some y, _, Ik.unpinned, T.keep _ _ _ st5 fun b hb o e => (Ik.pin (b, o) (List.mem_append_right _ (List.mem_append_right _ (mem_pinsAt hb e)))).1, fun b hb => ?_, w7⟩
        obtain ⟨o', e', _⟩ := T.obj _ _ st5 b hb
        exact (Ik.pin (b, o') (List.mem_append_right _ (List.mem_append_right _ (mem_pinsAt hb e')))).2.1
      | true =>
      refine ⟨fun z => (nomatch z), fun _ => ?_⟩
      have he' : PE X' elt te := by subst hX; exact he _ _ _ _
      have g7 := he' _ sk _ Hk _ Ik (qk.2 rfl)
      rw [eP, eW, eA, eE, eX] at g7
      refine thn g7 fun uv s7 ⟨v7, H7, I7, r7, hD7, m', hm', w7⟩ => ?_
      have g8 := (mt_append (X := X')) _ s7 _ H7 (.ref s2.heap.objs.size) [v7] (.ref s2.heap.objs.size) [uv] (fun _ H8 => H8 = upd H7 s2.heap.objs.size (.lst (ys ++ [v7]))) I7 rfl (.cons r7 .nil) ⟨_, ys, v7, rfl, rfl, hD7, hlen, rfl⟩
      rw [eP, eW, eA, eX] at g8
      refine thn g8 fun _ s8 ⟨_, H8, I8, _, e8⟩ => ?_
      subst e8
      refine ⟨m', hm', i + 1, ys ++ [v7], some y, _, I8.unpinned, T.keep _ _ _ st5 fun b hb o e => (I8.pin (b, o) (List.mem_append_right _ (List.mem_append_right _ (mem_pinsAt hb e)))).1, fun b hb => ?_, w7⟩
      obtain ⟨o', e', _⟩ := T.obj _ _ st5 b hb
      exact (I8.pin (b, o') (List.mem_append_right _ (List.mem_append_right _ (mem_pinsAt hb e')))).2.1
  have st1 : tn 0 h₁ := T.keep _ _ _ st2 fun b hb o e => old b o (by rw [← hs3]; exact Heap.get?_push_of_some _ e)
  exact codeAny_compStart_list (loop _ rfl rfl rfl) (T.self _ 0 _ _ _ st1 (loop _ rfl rfl rfl))
end
end My
set_option Elab.async false
set_option linter.all false
set_option maxRecDepth 100000
set_option maxHeartbeats 4000000
namespace My
open PySem L2
section
variable {X : Cx}
def eqVs : List V → List V → Bool
  | [], [] => true
  | x :: xs, y :: ys => eqV x y && eqVs xs ys
  | _, _ => false
theorem eqVs_all : ∀ (xs ys : List V), ((List.range (min xs.length ys.length)).all (fun j => eqV (xs.getD j .non) (ys.getD j .non)) && xs.length == ys.length) = eqVs xs ys
  | [], [] => rfl
  | [], y :: ys => by simp [eqVs]
  | x :: xs, [] => by simp [eqVs]
  | x :: xs, y :: ys => by
    have ih := eqVs_all xs ys
    show _ = (eqV x y && eqVs xs ys)
    rw [← ih, List.length_cons, List.length_cons, Nat.succ_min_succ, List.range_succ_eq_map, List.all_cons, List.all_map, Bool.and_assoc]
    congr 1
    rw [show (xs.length + 1 == ys.length + 1) = (xs.length == ys.length) from by simp]
    rfl
theorem tup_eqs {pins : List (Addr × Obj)} {σ : St} {H : Hp} {s : Shared} {A : Around} {xs ys : List V} {its jts : List Value} (r1 : Vals xs its) (r2 : Vals ys jts) (f1 : xs.all flatV = true) (f2 : ys.all flatV = true) :
    ∀ j (h1 : j < its.toArray.size) (h2 : j < jts.toArray.size), SeqAt.EqAt A s its.toArray[j] jts.toArray[j] (eqV (xs.getD j .non) (ys.getD j .non)) := by
  intro j h1 h2
  have h1' : j < its.length := by simpa using h1
  have h2' : j < jts.length := by simpa using h2
  have k1 : j < xs.length := by rw [r1.length]; exact h1'
  have k2 : j < ys.length := by rw [r2.length]; exact h2'
  obtain ⟨u1, e1, q1⟩ := r1.get (List.getElem?_eq_getElem k1)
  obtain ⟨u2, e2, q2⟩ := r2.get (List.getElem?_eq_getElem k2)
  have a1 : its.toArray[j] = u1 := by
    have := List.getElem?_eq_getElem h1'
    rw [e1] at this
    simpa using (Option.some.inj this).symm
  have a2 : jts.toArray[j] = u2 := by
    have := List.getElem?_eq_getElem h2'
    rw [e2] at this
    simpa using (Option.some.inj this).symm
  have z1 : xs.getD j .non = xs[j] := by simp [k1]
  have z2 : ys.getD j .non = ys[j] := by simp [k2]
  rw [a1, a2, z1, z2]
  exact eqAt_V q1 q2 (List.all_eq_true.mp f1 _ (List.getElem_mem k1)) (List.all_eq_true.mp f2 _ (List.getElem_mem k2))
def rTT (K : PySem.W.Frag) (g : Bool → Bool) : R2 := fun x y H Q => ∃ p q xs ys, x = .ref p ∧ y = .ref q ∧ SqT K H p xs ∧ SqT K H q ys ∧ xs.all flatV = true ∧ ys.all flatV = true ∧ Q (.bl (g (eqVs xs ys))) H
def rNil (K : PySem.W.Frag) : R2 := fun x y H Q => ∃ p q xs, x = .ref p ∧ y = .ref q ∧ SqL K H p xs ∧ SqL K H q [] ∧ Q (.bl xs.isEmpty) H
end
end My
set_option Elab.async false
set_option linter.all false
set_option maxRecDepth 100000
set_option maxHeartbeats 1000000
namespace My
open PySem L2
section
variable {X : Cx}
def plainV : V → Bool
  | .ref _ => true
  | v => flatV v
theorem eqV_refl {v : V} (h : flatV v = true) : eqV v v = true := by
  cases v with
  | non => rfl
  | bl b => cases b <;> rfl
  | int i => exact beq_self_eq_true i
  | str s => exact beq_self_eq_true s
  | _ => cases h
def rSameT (K : PySem.W.Frag) : R2 := fun x y H Q => ∃ p q xs, x = .ref p ∧ y = .ref q ∧ SqT K H p xs ∧ SqT K H q xs ∧ xs.all plainV = true ∧ Q (.bl true) H
def rSameL (K : PySem.W.Frag) : R2 := fun x y H Q => ∃ p q xs, x = .ref p ∧ y = .ref q ∧ SqL K H p xs ∧ SqL K H q xs ∧ xs.all plainV = true ∧ Q (.bl true) H
end
end My
set_option Elab.async false
set_option linter.all false
set_option maxRecDepth 100000
set_option maxHeartbeats 4000000
namespace My
open PySem L2
open PySem.Builtin.Str (occurrences partsBetween strSub)
def fig (c : Nat) : Bool := decide (48 ≤ c) && decide (c ≤ 57)
def figs (L : List Nat) : Bool := !L.isEmpty && !(L.head? == some 48 && L != [48]) && L.all fig
abbrev cs (z : Str) : List Nat := z.cps.toList
abbrev val (L : List Nat) : Nat := NumText.digitsVal L
def okS (a b : List Nat) : Bool := figs a && figs b && decide (2 ≤ val b) && decide (1 ≤ val a) && decide (val a < val b) && decide (Nat.gcd (val a) (val b) = 1)
def rd (z : Str) : Option (Nat × Nat) :=
  if z = "0" then some (0, 1) else if z = "1" then some (1, 1) else
    match Txt.split z ⟨#[47]⟩ with
    | [a, b] => if okS (cs a) (cs b) = true then some (val (cs a), val (cs b)) else none
    | _ => none
abbrev tx (n : Nat) : Str := Str.ofString (toString ((n : Nat) : Int))
def shT (t b : Nat) : Str := if b = 1 then tx t else tx t ++ "/" ++ tx b
def Low (t b : Nat) : Prop := 1 ≤ b ∧ t ≤ b ∧ Nat.gcd t b = 1
theorem Low.cases {t b : Nat} (h : Low t b) : (b = 1 ∧ (t = 0 ∨ t = 1)) ∨ (2 ≤ b ∧ 1 ≤ t ∧ t < b ∧ Nat.gcd t b = 1) := by
  obtain ⟨h1, h2, h3⟩ := h
  by_cases e : b = 1
  · left; omega
  · right
    refine ⟨by omega, ?_, ?_, h3⟩
    · rcases Nat.eq_zero_or_pos t with z | z
      · subst z; rw [Nat.gcd_zero_left] at h3; omega
      · exact z
    · rcases Nat.lt_or_eq_of_le h2 with l | l
      · exact l
      · subst l; rw [Nat.gcd_self] at h3; omega
end My
set_option Elab.async false
set_option linter.all false
set_option maxRecDepth 100000
set_option maxHeartbeats 1000000
namespace My
open PySem PySem.W L2
def Head (h : Heap) (e : Addr) (vs : Array Value) : Prop := vs[1]? = some .none ∨ ∃ T oT ts, vs[1]? = some (.ref T) ∧ T ≠ e ∧ h.get? T = some oT ∧ oT.data = .fields ts ∧ ts[3]? = some .none
structure LeftX (fr : List Addr) (e T : Addr) (oe : Obj) (h h' : Heap) (r : Value) : Prop where
  keep : ∀ b o, b ≠ e → b ∉ fr → h.get? b = some o → h'.get? b = some o
  slot : ∀ b o, b ≠ e → h.get? b = some o → ∃ sl, h'.get? b = some { o with slots := sl }
  new : h.objs.size ≤ T
  exc : h'.get? e = some (oe.mapFields (fun x => x.setIfInBounds 1 (.ref T)))
  trc : ∃ oT ts, h'.get? T = some oT ∧ oT.data = .fields ts ∧ ts[3]? = some r ∧ T ≠ e
theorem set_same {vs : Array Value} {i : Nat} {v : Value} (h : vs[i]? = some v) : vs.setIfInBounds i v = vs := by
  obtain ⟨hi, e⟩ := Array.getElem?_eq_some_iff.mp h
  apply Array.ext
  · simp
  · intro j h1 h2
    simp only [Array.size_setIfInBounds] at h1
    rw [Array.getElem_setIfInBounds h1]
    split
    · rename_i z; subst z; exact e.symm
    · rfl
theorem mapF {o : Obj} {vs : Array Value} (hd : o.data = .fields vs) (f : Array Value → Array Value) : o.mapFields f = { o with data := .fields (f vs) } := by
  obtain ⟨c, d, dt, sl⟩ := o
  have e : dt = .fields vs := hd
  subst e
  rfl
theorem wp_newFields {M : Model} {A : Around} {E : Value → Shared → Prop} {s : Shared} {c : String} {vs : List Value} {Q : Value → Shared → Prop} (hl : vs.length ≤ sizeLine + 2)
    (q : Q (.ref s.heap.objs.size) { s with heap := s.heap.push { cls := .type c, data := .fields vs.toArray } }) : wpAny M A (newFields c vs) Q E s := by
  unfold newFields newObj
  refine wpAny_ite_false (decide_eq_false (by rw [List.size_toArray]; omega)) ?_
  unfold newObjAsIs
  exact wpAny_bind (wpAny_alloc (wpAny_pure q))
theorem place_len {pl : List Value} (h : IsPlace pl) : pl.length ≤ 6 := by
  rcases h with rfl | ⟨a, b, c, d, c9, b10, _, rfl⟩
  · decide
  · exact Nat.le_refl _
section
variable {M : Model} {A : Around} {E : Value → Shared → Prop} {s : Shared} {base : Heap} {env : Env} {outer : List Env} {L e : Addr} {oe : Obj} {vs : Array Value} {Q : Unit → Shared → Prop}
theorem note_jp {head : Value} {hn : Bool} (hA : A.frames = some (env :: outer)) (hF : s.heap.FunFrames base (env :: outer)) (hL : env.frame = some L) (he : s.heap.get? e = some oe) (hd : oe.data = .fields vs) (h1 : 1 < vs.size)
    (q : ∀ h' T, LeftX (frs (env :: outer)) e T oe s.heap h' (rawInt ↑L) → Q () { s with heap := h' }) :
    wpAny M A (do
      let a ← frameOf env
      let pl ← entryPlaceOf L hn
      let b ← EntryCells.newEntry head a .none (rawInt ↑L) .none pl
      setField (.ref e) 1 b) Q E s := by
  have nfr : e ∉ frs (env :: outer) := fun z => by
    obtain ⟨_, o, ho, hn⟩ := hF.mem z
    rw [he] at ho; cases ho
    exact hn vs hd
  refine wpAny_bind (wpAny_frameOf_fun hA hF hL fun h1' so => ?_)
  refine wpAny_bind (wpAny_entryPlaceOf fun pl hpl => ?_)
  refine wpAny_bind ?_
  unfold EntryCells.newEntry
  refine wp_newFields ?_ ?_
  · have := place_len hpl
    have b : 100 ≤ sizeLine := by decide
    rw [List.length_append]
    split
    · rw [List.length_replicate]; show 5 + 6 ≤ _; omega
    · show 5 + pl.length ≤ _; omega
  have e1 : h1'.get? e = some oe := by rw [so.2.1 e nfr]; exact he
  have lt := Heap.lt_size e1
  generalize hob : ({ cls := .type "traceback", data := .fields ([head, Value.ref L, .none, rawInt ↑L, .none] ++ if pl.isEmpty = true then List.replicate 6 Value.none else pl).toArray } : Obj) = ob
  have e2 : (h1'.push ob).get? e = some oe := Heap.get?_push_of_some _ e1
  refine wpAny_setField e2 hd h1 ?_
  refine q _ h1'.objs.size ⟨fun b o nb nf hb => ?_, fun b o nb hb => ?_, Nat.le_of_eq so.1.symm, ?_, ?_⟩
  · rw [Heap.get?_update_ne _ _ _ _ nb]
    exact Heap.get?_push_of_some _ (by rw [so.2.1 b nf]; exact hb)
  · obtain ⟨sl, z⟩ := so.2.2 b o hb
    exact ⟨sl, by rw [Heap.get?_update_ne _ _ _ _ nb]; exact Heap.get?_push_of_some _ z⟩
  · exact Heap.get?_update_self _ e2 (by rw [mapF hd]; rfl)
  · have nT : h1'.objs.size ≠ e := Ne.symm (Nat.ne_of_lt lt)
    refine ⟨ob, _, ?_, by rw [← hob], ?_, nT⟩
    · rw [Heap.get?_update_ne _ _ _ _ nT]
      exact Heap.get?_push_at rfl (by rw [← hob]; rfl)
    · rfl
theorem note_exact (hA : A.frames = some (env :: outer)) (hF : s.heap.FunFrames base (env :: outer)) (hL : env.frame = some L) (he : s.heap.get? e = some oe) (hd : oe.data = .fields vs) (hv : Head s.heap e vs)
    (q : ∀ h' T, LeftX (frs (env :: outer)) e T oe s.heap h' (rawInt ↑L) → Q () { s with heap := h' }) : wpAny M A (noteFrame (.ref e) env) Q E s := by
  unfold noteFrame
  rw [hL]
  rcases hv with hv | ⟨T, oT, ts, hv, nT, hT, hTd, h3⟩
  · have h1 : 1 < vs.size := (Array.getElem?_eq_some_iff.mp hv).1
    refine wpAny_bind (wpAny_field he hd hv ?_)
    refine wpAny_ite_false rfl ?_
    exact note_jp hA hF hL he hd h1 q
  · have h1 : 1 < vs.size := (Array.getElem?_eq_some_iff.mp hv).1
    have h3' : 3 < ts.size := (Array.getElem?_eq_some_iff.mp h3).1
    refine wpAny_bind (wpAny_field he hd hv ?_)
    refine wpAny_ite_true rfl ?_
    refine wpAny_bind (wpAny_field hT hTd h3 ?_)
    refine wpAny_ite_false rfl ?_
    refine wpAny_bind (wpAny_setField hT hTd h3' ?_)
    have g : ∀ b, (s.heap.update T (Obj.mapFields fun x => x.setIfInBounds 3 Value.none)).get? b = s.heap.get? b := fun b => by
      by_cases z : b = T
      · subst z
        rw [Heap.get?_update_self _ hT (by rw [mapF hTd]; rfl), hT, mapF hTd, set_same h3, ← hTd]
      · exact Heap.get?_update_ne _ _ _ _ z
    have sz : (s.heap.update T (Obj.mapFields fun x => x.setIfInBounds 3 Value.none)).objs.size = s.heap.objs.size := Heap.size_update _ _ _
    generalize s.heap.update T (Obj.mapFields fun x => x.setIfInBounds 3 Value.none) = h0 at g sz
    have hF0 : h0.FunFrames base (env :: outer) := Heap.FunFrames.of_keeps (fun b o hb _ => ⟨o, by rw [g]; exact hb, rfl⟩) hF
    refine note_jp (s := { s with heap := h0 }) hA hF0 hL (by show h0.get? e = _; rw [g]; exact he) hd h1 fun h' T' x => ?_
    exact q h' T' ⟨fun b o nb nf hb => x.keep b o nb nf (by show h0.get? b = _; rw [g]; exact hb), fun b o nb hb => x.slot b o nb (by show h0.get? b = _; rw [g]; exact hb), by rw [← sz]; exact x.new, x.exc, x.trc⟩
theorem LeftX.flight {fr : List Addr} {T : Addr} {h h' : Heap} {r : Value} (x : LeftX fr e T oe h h' r) (hd : oe.data = .fields vs) (h1 : 1 < vs.size) (s' : Shared) (es : s'.heap = h')
    (q : ∀ h2, LeftX fr e T oe h h2 .none → Q () { s' with heap := h2 }) : wpAny M A (setFlight (.ref e) none) Q E s' := by
  subst es
  obtain ⟨oT, ts, hT, hTd, h3, nT⟩ := x.trc
  have h3' : 3 < ts.size := (Array.getElem?_eq_some_iff.mp h3).1
  have e1 : (oe.mapFields (fun x => x.setIfInBounds 1 (.ref T))).data = .fields (vs.setIfInBounds 1 (.ref T)) := Obj.data_mapFields hd _
  have e2 : (vs.setIfInBounds 1 (Value.ref T))[1]? = some (.ref T) := by simp [h1]
  refine wpAny_setFlight_none x.exc e1 e2 hT hTd h3' (q _ ⟨fun b o nb nf hb => ?_, fun b o nb hb => ?_, x.new, ?_, ?_⟩)
  · have z := x.keep b o nb nf hb
    rw [Heap.get?_update_ne _ _ _ _ (fun w => ?_)]
    · exact z
    · rw [w] at hb
      exact absurd (Nat.lt_of_lt_of_le (Heap.lt_size hb) x.new) (Nat.lt_irrefl _)
  · obtain ⟨sl, z⟩ := x.slot b o nb hb
    refine ⟨sl, ?_⟩
    rw [Heap.get?_update_ne _ _ _ _ (fun w => ?_)]
    · exact z
    · rw [w] at hb
      exact absurd (Nat.lt_of_lt_of_le (Heap.lt_size hb) x.new) (Nat.lt_irrefl _)
  · rw [Heap.get?_update_ne _ _ _ _ nT.symm]
    exact x.exc
  · refine ⟨_, _, Heap.get?_update_self _ hT (by rw [mapF hTd]; rfl), Obj.data_mapFields hTd _, ?_, nT⟩
    simp [h3']
theorem leave_exact (hA : A.frames = some (env :: outer)) (hF : s.heap.FunFrames base (env :: outer)) (hL : env.frame = some L) (he : s.heap.get? e = some oe) (hd : oe.data = .fields vs) (hv : Head s.heap e vs)
    (q : ∀ h' T, LeftX (frs (env :: outer)) e T oe s.heap h' .none → Q () { s with heap := h' }) : wpAny M A (leaving env (.ref e)) Q E s := by
  have h1 : 1 < vs.size := by
    rcases hv with hv | ⟨T, oT, ts, hv, _⟩
    · exact (Array.getElem?_eq_some_iff.mp hv).1
    · exact (Array.getElem?_eq_some_iff.mp hv).1
  unfold leaving
  exact wpAny_bind (note_exact hA hF hL he hd hv fun h' T x => x.flight hd h1 _ rfl fun h2 x2 => q h2 T x2)
end
end My
set_option Elab.async false
set_option linter.all false
set_option maxRecDepth 100000
set_option maxHeartbeats 1000000
namespace My
open PySem PySem.W L2
open PyProof.Rows (AllBare)
abbrev errW (C : Addr) (d : Option Addr) (t : Addr) (v : Value) : Obj := { cls := .ref C, dict := d, data := .fields #[.ref t, v, .none, .none, .bool false, .none] }
def ErrT (x C : Addr) (d : Option Addr) : HO := .ext fun h => ∃ t v, h.get? x = some (errW C d t v)
theorem errT_ok {P : Program} {w : World} {H : Hp} {h : Heap} {x C : Addr} {d : Option Addr} {t : Addr} {v : Value} (e : h.get? x = some (errW C d t v)) : ObjOk P w H h x (ErrT x C d) :=
  ⟨⟨t, v, e⟩, ⟨_, e⟩, fun _ _ ⟨t', v', e'⟩ k => ⟨t', v', k _ e'⟩⟩
theorem errT_at {P : Program} {w : World} {H : Hp} {h : Heap} {x C : Addr} {d : Option Addr} (ok : HOk P w H h) (e : H x = some (ErrT x C d)) : ∃ t v, h.get? x = some (errW C d t v) := (ok x _ e).1
def Fly (n : Nat) (H : Hp) (h : Heap) (x C : Addr) (d : Option Addr) : Prop := ∃ t T oT ts, h.get? x = some (errW C d t (.ref T)) ∧ T ≠ x ∧ n ≤ T ∧ H T = none ∧ h.get? T = some oT ∧ oT.data = .fields ts ∧ ts[3]? = some Value.none
def CXE (P : Program) (w : World) : CXT := fun outer H s E e s' => ∃ x C dx fs H', e = .ref x ∧ s'.os = s.os ∧ AllBare s'.gens ∧ Un (frs outer) [] H H' s.heap s'.heap ∧ HOk P w H' s'.heap ∧ H' x = some (ErrT x C (some dx)) ∧ H' dx = some (.xd fs) ∧ Fly s.heap.objs.size H' s'.heap x C (some dx) ∧ E (.ref C) (some x) H'
section
variable {X : Cx} {pins : List (Addr × Obj)} {σ : St} {H : Hp} {s : Shared}
theorem Inv.left {x C : Addr} {d : Option Addr} {t T : Addr} {v r : Value} {h' : Heap} {o : HO} (I : Inv X pins σ H s) (hS : X.stack = X.env :: X.outer) (hx : H x = some o) (ho : (∃ φ, o = .ext φ)) (he : s.heap.get? x = some (errW C d t v))
    (l : LeftX (frs (X.env :: X.outer)) x T (errW C d t v) s.heap h' r) : Inv X pins σ (upd H x (ErrT x C d)) { s with heap := h' } := by
  obtain ⟨φ, rfl⟩ := ho
  have nx : ∀ b u, H b = some u → (∀ φ, u ≠ .ext φ) → b ≠ x := fun b u e n z => by
    subst z
    rw [hx] at e
    exact n φ (Option.some.inj e).symm
  have fr0 : ∀ b ∈ frs (X.env :: X.outer), H b = none := fun b hb => I.stkFree b (by rw [hS]; exact hb)
  have nfr : ∀ b u, H b = some u → b ∉ frs (X.env :: X.outer) := fun b u e z => by rw [fr0 b z] at e; cases e
  have exc : h'.get? x = some (errW C d t (.ref T)) := l.exc
  have sub : ∀ b, b ∈ frs (X.env :: X.outer) → b = X.env.locals ∨ b ∈ X.fs := fun b hb => List.mem_cons.mp (I.stkSub b (by rw [hS]; exact hb))
  refine I.step (g' := s.gens) (d' := s.drawn) (t' := s.toks) (ch := []) (fun _ z => nomatch z) (fun b o hL hf _ e n => ?_) (fun b o hL hf _ e n => ?_) (fun b o _ e n => ?_) (fun b o _ e => ?_) (fun b xs e => ?_) (fun b o u e => ?_) (fun b ps e => ⟨#[], ?_⟩) (fun e => ?_) (fun m hm => ?_) (fun b u e => ?_) I.bare
  · refine l.keep b o (fun z => by rw [z, hx] at n; cases n) (fun z => ?_) e
    rcases sub b z with q | q
    · exact hL q
    · exact hf q
  · exact l.slot b o (fun z => by rw [z, hx] at n; cases n) e
  · rw [upd_ne (fun z => by rw [z, hx] at n; cases n)]; exact n
  · by_cases z : b = x
    · subst z; exact ⟨_, exc⟩
    · obtain ⟨sl, q⟩ := l.slot b o z e
      exact ⟨_, q⟩
  · rw [upd_ne (nx b _ e fun _ => by intro z; cases z)]; exact e
  · rw [upd_ne (nx b _ e fun _ => by intro z; cases z)]; exact e
  · rw [upd_ne (nx b _ e fun _ => by intro z; cases z), e]; simp
  · rw [upd_ne (fun z => by rw [z, hx] at e; cases e)]; exact e
  · obtain ⟨o, es, ep, ho, r⟩ := hm
    obtain ⟨sl, q⟩ := l.slot _ o (fun z => by have := I.free; rw [z, hx] at this; cases this) ho
    exact ⟨_, es, ep, q, r⟩
  · by_cases z : b = x
    · subst z
      rw [upd_same] at e
      cases e
      exact errT_ok exc
    · rw [upd_ne z] at e
      refine (I.hok b u e).stay (fun c o' hc q => ?_) (fun c q => ?_) fun c xs q => ?_
      · rcases hc with rfl | hc
        · exact l.keep c o' z (nfr c u e) q
        · exact l.keep c o' (nx c _ hc fun _ => by intro w; cases w) (nfr c _ hc) q
      · rw [upd_ne (nx c _ q fun _ => by intro w; cases w)]; exact q
      · rw [upd_ne (nx c _ q fun _ => by intro w; cases w)]; exact q
end
section
variable {P : Program} {w : World} {K : Frag} {mg : Str → Option Value} {base : Heap} {N : List Str} {qual : Str} {scope : Scope} {f : Addr} {cd : Value} {A : Around} {outer : List Env} {s0 : Shared} {H0 : Hp} {E : XK} {pins : List (Addr × Obj)} {σ : St} {H : Hp} {s : Shared}
theorem xe_of {x C dx : Addr} {t : Addr} {v : Value} {o : HO} {fs : List (Str × V)} (I : Inv (cxOf (CXE P w) P w K mg base N qual scope f cd A outer s0 H0 E) pins σ H s) (hx : H x = some o) (ho : (∃ φ, o = .ext φ)) (hdx : H dx = some (.xd fs)) (he : s.heap.get? x = some (errW C (some dx) t v))
    (hv : Head s.heap x #[.ref t, v, .none, .none, .bool false, .none]) (q : E (.ref C) (some x) (upd H x (ErrT x C (some dx)))) : (cxOf (CXE P w) P w K mg base N qual scope f cd A outer s0 H0 E).xe (.ref x) s := by
  have hA := I.ok.frames
  refine leave_exact hA I.stack rfl he rfl hv fun h' T l => ?_
  have J := Inv.left I rfl hx ho he l
  have nT : H T = none := I.hok.fresh l.new
  obtain ⟨oT, ts, h1, h2, h3, h4⟩ := l.trc
  have nd : dx ≠ x := fun z => by
    obtain ⟨φ, rfl⟩ := ho
    rw [z, hx] at hdx; cases hdx
  refine ⟨x, C, dx, fs, _, rfl, J.os, J.bare, J.base, J.hok, upd_same, by rw [upd_ne nd]; exact hdx, ⟨t, T, oT, ts, l.exc, h4, Nat.le_trans I.sz l.new, ?_, h1, h2, h3⟩, q⟩
  rw [upd_ne h4]; exact nT
theorem passE : Passes (CXE P w) (cxOf (CXE P w) P w K mg base N qual scope f cd A outer s0 H0 E) E := by
  intro pins σ H s e s' I h
  obtain ⟨x, C, dx, fs, H', rfl, os, bare, un, hok, hx, hdx, ⟨t, T, oT, ts, h1, h2, _, h4, h5, h6, h7⟩, q⟩ := h
  have J := I.call' os un hok bare (fun b z => absurd z (by simp))
  refine xe_of J hx ⟨_, rfl⟩ hdx h1 (.inr ⟨T, oT, ts, rfl, h2, h5, h6, h7⟩) ?_
  rw [upd_id hx]
  exact q
end
end My
set_option Elab.async false
set_option linter.all false
set_option maxRecDepth 100000
set_option maxHeartbeats 1000000
namespace My
open PySem PySem.W L2
open PyProof.Rows (AllBare)
section
variable {prog : Program} {w : World} {A : Around} {E : Value → Shared → Prop} {s : Shared} {env : Env} {x : Sem Value} {Q : Flow → Shared → Prop} {K : Frag} {C : Addr}
theorem wp_raise (T : ErrI K C) (ht : typeIn K (.ref C) = some (.type "type")) (hA : A.handled = none)
    (hx : wpAny (model prog w) A x (fun v s1 => ∃ e t d od, v = .ref e ∧ InstAt s1.heap e (errAt C d t) C od ∧ K.In s1.heap ∧ E (.ref e) s1) E s) : wpAny (model prog w) A (raiseStmt env (some x) none) Q E s := by
  unfold raiseStmt
  refine wpAny_bind (wpAny_mono hx (fun v s1 h => ?_) (fun _ _ z => z))
  obtain ⟨e, t, d, od, rfl, I, KX, q⟩ := h
  obtain ⟨hp, g, dr, tk, os⟩ := s1
  have noC : ∀ c : ClassData, (errAt C d t).data ≠ Data.cls c := fun c z => by cases z
  refine wpAny_bind (wpAny_pure ?_)
  refine wpAny_bind ?_
  show wpAny _ _ (excFromValue (.ref e) _) _ _ _
  unfold excFromValue
  refine wpAny_bind ?_
  unfold isExcClass
  refine wpAny_bind (ks_wpAny_isType_inst I.at_ noC ?_)
  refine wpAny_ite_false rfl (wpAny_pure ?_)
  refine wpAny_ite_false rfl ?_
  refine wpAny_bind ?_
  have sub : Looks (model prog w) hp (isInstance (.ref e) (.type "BaseException")) true := I.type.andThen (looks_mroIn KX T.mb)
  refine Looks.here (s := ⟨hp, g, dr, tk, os⟩) sub ?_
  refine wpAny_ite_true rfl (wpAny_pure ?_)
  refine wpAny_bind (ks_wpAny_isType_inst I.at_ noC ?_)
  refine wpAny_ite_false rfl ?_
  refine wpAny_bind ?_
  unfold raisedInstance
  refine wpAny_bind (Looks.here (s := ⟨hp, g, dr, tk, os⟩) I.type ?_)
  refine wpAny_bind (Looks.here (s := ⟨hp, g, dr, tk, os⟩) (looks_typeIn KX ht) ?_)
  refine wpAny_ite_true rfl (wpAny_pure ?_)
  refine wpAny_bind ?_
  unfold setFlight
  refine wpAny_bind (wpAny_field I.at_ rfl rfl ?_)
  refine wpAny_ite_false rfl (wpAny_pure ?_)
  exact wpAny_raiseNew_none hA q
end
theorem ErrC.type {K : Frag} {D : Addr} {nm : Str} {C f : Addr} (T : ErrC K D nm C f) : typeIn K (.ref C) = some (.type "type") := by
  obtain ⟨q, N, bs, sn, sub, ab, col, dd, k0, k1, k2, k3, k5, l⟩ := T.cls
  show (K.lookup C).map (fun o => o.cls) = _
  rw [l]
  rfl
def qR (E : XK) (C : Addr) : VK := fun y H' => ∃ x dx fs, y = .ref x ∧ H' x = some (ErrO x C (some dx)) ∧ H' dx = some (.xd fs) ∧ E (.ref C) (some x) (upd H' x (ErrT x C (some dx)))
def tRaise (E : XK) (C : Addr) (fld : Str) (te : TE) : TS := fun _ σ H => tErr C fld te σ H (qR E C)
theorem upd_upd {H : Hp} {x : Addr} {a b : HO} : upd (upd H x a) x b = upd H x b := by
  funext z
  unfold upd
  by_cases h : z = x
  · rw [if_pos h, if_pos h]
  · rw [if_neg h, if_neg h, if_neg h]
section
variable {P : Program} {w : World} {K : Frag} {mg : Str → Option Value} {base : Heap} {N : List Str} {qual : Str} {scope : Scope} {f : Addr} {cd : Value} {A : Around} {outer : List Env} {s0 : Shared} {H0 : Hp} {E : XK}
abbrev cxE (P : Program) (w : World) (K : Frag) (mg : Str → Option Value) (base : Heap) (N : List Str) (qual : Str) (scope : Scope) (f : Addr) (cd : Value) (A : Around) (outer : List Env) (s0 : Shared) (H0 : Hp) (E : XK) : Cx := cxOf (CXE P w) P w K mg base N qual scope f cd A outer s0 H0 E
theorem ps_raise {D C fI : Addr} {nm fld x : Str} {k : Nat} {fd : FuncData} {ps : List Str} {e : Expr} {te : TE} {p pos pos' : Pos} (B : BaseC K D) (T : ErrC K D nm C fI) (F : FnOk P w K mg base CX0 k fI fd ps (spErr C fld)) (hr : Room (k + 1) (cxE P w K mg base N qual scope f cd A outer s0 H0 E).A) (hb : Binds K fd ps [])
    (hg : Gl (cxE P w K mg base N qual scope f cd A outer s0 H0 E) x) (hm : mg x = some (.ref C)) (ha : PE (cxE P w K mg base N qual scope f cd A outer s0 H0 E) e te)
    (hdb : (x == ("__debug__" : Str)) = false := by decide) (he : starEach [e] (cxE P w K mg base N qual scope f cd A outer s0 H0 E).env = (false, eval e (cxE P w K mg base N qual scope f cd A outer s0 H0 E).env) :: starEach [] (cxE P w K mg base N qual scope f cd A outer s0 H0 E).env := by rfl) (hpl : (backTo pos (starEach [] (cxE P w K mg base N qual scope f cd A outer s0 H0 E).env)).any (·.1) = false := by rfl) :
    PS (cxE P w K mg base N qual scope f cd A outer s0 H0 E) (.Raise (some (.Call (.Name x p) [e] [] pos)) none pos') (tRaise E C fld te) := by
  intro pins s σ H D' I h
  have pe := pe_err (X := cxE P w K mg base N qual scope f cd A outer s0 H0 E) (p := p) (pos := pos) B T F hr hb hg hm ha hdb he hpl
  have hd : (cxE P w K mg base N qual scope f cd A outer s0 H0 E).A.handled = none := I.ok.hd rfl
  rw [arm_exec_Raise]
  refine wpAny_bind (wpAny_standAt ?_)
  refine wp_raise T.it T.type hd ?_
  refine wpAny_bind (thn (pe pins s σ H (qR E C) I h) fun u s1 h1 => ?_)
  obtain ⟨y, H1, I1, ry, x, dx, fs, rfl, e1, e2, q⟩ := h1
  refine wpAny_bind (wpAny_standAt (wpAny_pure ?_))
  obtain ⟨t, ht⟩ := errO_at I1.hok e1
  obtain ⟨ox, od, J, _⟩ := err_inst I1.hok e1 e2
  have eo : ox = errAt C (some dx) t := Option.some.inj (J.at_.symm.trans ht)
  subst eo
  exact ⟨x, t, some dx, some od, ry, J, I1.kIn, xe_of I1 e1 ⟨_, rfl⟩ e2 ht (.inl rfl) q⟩
theorem qR_of {C x dx : Addr} {fld : Str} {v : V} {H1 : Hp} (nd : dx ≠ x) (q : E (.ref C) (some x) (upd (upd H1 dx (.xd [(fld, v)])) x (ErrT x C (some dx)))) : qR E C (.ref x) (upd (upd H1 dx (.xd [(fld, v)])) x (ErrO x C (some dx))) :=
  ⟨x, dx, _, rfl, upd_same, by rw [upd_ne nd, upd_same], by rw [upd_upd]; exact q⟩
theorem okE {x qual : Str} {st : Stmt} {f : Addr} {fd : FuncData} {N ps : List Str} {k : Nat} {sp : Sp} (F : Fun K x qual st f fd) (S : FnScope N ps (defScope st)) (len : ∀ vs H Q E, sp vs H Q E → vs.length = ps.length)
    (hbody : ∀ (cdv : Value) (A : Around) (outer : List Env) (s : Shared) (H : Hp) (vs : List V) (Q : VK) (E : XK), Room k (A.deeper (PyProof.Rows.envOfC qual (defScope st) s.heap.objs.size f cdv)) → sp vs H Q E →
      ∃ t, PSs (cxE P w K mg base N qual (defScope st) f cdv A outer s H E) (defBody st) t ∧ t { nx := fun _ H' => Q .non H', rt := Q } (start N vs) H) : FnOk P w K mg base (CXE P w) (k + 1) f fd ps sp := by
  obtain ⟨oc, od, kV, doc, pm, an, cdv, ct, osl, rfl, lk, hcd⟩ := F.ex
  refine fn_of lk hcd S len fun A outer s H vs Q E hr hsp => ?_
  obtain ⟨t, h, q⟩ := hbody cdv A outer s H vs Q E hr hsp
  exact ⟨t, h, q⟩
end
end My
set_option Elab.async false
set_option linter.all false
set_option maxRecDepth 100000
set_option maxHeartbeats 1000000
namespace My
open PySem PySem.W L2
open PyProof.Rows (AllBare)
def PX (X : Cx) (σ : St) (e : Expr) (t : TE) : Prop := ∀ (pins : List (Addr × Obj)) (s : Shared) (H : Hp) (Q : VK), Inv X pins σ H s → t σ H Q → wpAny (model X.prog X.w) X.A (eval e X.env) (EP X pins σ Q) X.xe s
def PXA (X : Cx) (σ : St) (es : List Expr) (t : TA) : Prop := ∀ (pos : Pos) (pins : List (Addr × Obj)) (s : Shared) (H : Hp) (Q : List V → Hp → Prop), Inv X pins σ H s → t σ H Q → wpAny (model X.prog X.w) X.A (spliced (backTo pos (starEach es X.env))) (AP X pins σ Q) X.xe s
section
variable {X : Cx} {σ : St} {e : Expr} {es : List Expr} {te : TE} {t : TA} {pos : Pos}
theorem px_of (h : PE X e te) : PX X σ e te := fun pins s H Q I q => h pins s σ H Q I q
theorem pxa_of (h : PA X es t) : PXA X σ es t := fun pos pins s H Q I q => h pos pins s σ H Q I q
theorem pxa_nil : PXA X σ [] tNil := pxa_of pa_nil
theorem pxa_cons (ha : PX X σ e te) (hr : PXA X σ es t) (hs : starEach (e :: es) X.env = (false, eval e X.env) :: starEach es X.env := by rfl) : PXA X σ (e :: es) (tCons te t) := by
  intro pos pins s H Q I h
  rw [hs]
  show wpAny _ _ (spliced ((false, eval e X.env) :: backTo pos (starEach es X.env))) _ _ s
  refine Calls.spliced_cons (thn (ha pins s H _ I h) fun u s1 ⟨x, H1, I1, r1, q1⟩ => ?_)
  exact thn (hr pos pins s1 H1 _ I1 q1) fun us s2 ⟨xs, H2, I2, r2, q2⟩ => ⟨x :: xs, H2, I2, .cons r1 r2, q2⟩
theorem px_lst (h : PXA X σ es t) : PX X σ (.List es pos) (tLst t) := by
  intro pins s H Q I hq
  refine wpAny_List_spliced (thn (h pos pins s H _ I hq) fun us s1 ⟨xs, H1, I1, r, z, q⟩ => ⟨by rw [← r.length]; exact z, ?_⟩)
  have hf : H1 s1.heap.objs.size = none := I1.hok.fresh (Nat.le_refl _)
  refine ⟨.ref s1.heap.objs.size, upd H1 s1.heap.objs.size (.lst xs), I1.laid (t' := s1.toks) (fun b u e => Heap.get?_push_of_some _ e) (Nat.le_refl _) ?_, rfl, q _ hf⟩
  exact ⟨z, us, 0, r, Heap.get?_push_size _ rfl⟩
def PassX (CX : CXT) (X : Cx) (σ : St) (E : XK) : Prop := ∀ (pins : List (Addr × Obj)) (H : Hp) (s : Shared) (e : Value) (s' : Shared), Inv X pins σ H s → CX X.stack H s E e s' → X.xe e s'
variable {CX : CXT} {k : Nat} {f C : Addr} {fd : FuncData} {ps : List Str} {sp : Sp} {dvs : List V} {ds : List Value} {E : XK} {x : Str} {p : Pos}
theorem run_fnX {pins : List (Addr × Obj)} {H : Hp} {s : Shared} {Q : VK} {us : List Value} {vs : List V} (F : FnOk X.prog X.w X.K X.mg X.base CX k f fd ps sp) (hr : Room k X.A) (hb : Binds X.K fd ps ds) (hd : Vals dvs ds) (hx : PassX CX X σ E)
    (I : Inv X pins σ H s) (r : Vals vs us) (h : sp (vs ++ dvs) H Q E) : wpAny (model X.prog X.w) X.A (call (.ref f) us) (EP X pins σ Q) X.xe s := by
  have r2 : Vals (vs ++ dvs) (us ++ ds) := r.append hd
  have hl : (us ++ ds).length = ps.length := by rw [← r2.length]; exact F.len _ _ _ _ h
  refine wpAny_call (codeAny_mono (F.run X.A X.stack s H ⟨us, []⟩ (us ++ ds) (vs ++ dvs) Q E hr I.env0 (hb s us I.kIn hl) r2 h) fun r s' hq => ?_)
  cases r with
  | error e => exact hx pins H s e s' I hq
  | ok fl =>
    cases fl with
    | ret u => exact I.after hq
    | next => exact False.elim hq
    | brk => exact False.elim hq
    | cont => exact False.elim hq
theorem px_call (F : FnOk X.prog X.w X.K X.mg X.base CX k f fd ps sp) (hr : Room k X.A) (hg : Gl X x) (hm : X.mg x = some (.ref f)) (hk : PySem.W.keepIn X.K (.ref f) = true) (hb : Binds X.K fd ps ds) (hd : Vals dvs ds) (hx : PassX CX X σ E)
    (ha : PXA X σ (e :: es) t) (hdb : (x == ("__debug__" : Str)) = false := by decide) (he : starEach (e :: es) X.env = (false, eval e X.env) :: starEach es X.env := by rfl) (hpl : (backTo pos (starEach es X.env)).any (·.1) = false := by rfl) :
    PX X σ (.Call (.Name x p) (e :: es) [] pos) (tCall sp dvs E t) := by
  intro pins s H Q I h
  refine wpAny_Call_Name_kw (ld_glob I hg hm ?_ hdb)
  refine PySem.W.callWith_K (h₀ := X.base) I.ok.mod.kin hk (thn (ha pos pins s H _ I h) fun us s1 ⟨vs, H1, I1, r, q⟩ => ⟨I1.kIn, ?_⟩) he hpl
  exact run_fnX F hr hb hd hx I1 r q
end
section
variable {prog : Program} {w : World} {A : Around} {E : Value → Shared → Prop} {s : Shared} {K : Frag} {C D e : Addr} {Q : Bool → Shared → Prop} {ox : Obj} {od : Option Obj} {b : Bool}
theorem wp_matches (KX : K.In s.heap) (hD : ∃ cd, clsIn K D = some cd) (hT : typeIn K (.ref D) = some (.type "type")) (hB : mroIn K D (.type "BaseException") = some true) (I : InstAt s.heap e ox C od) (hC : mroIn K C (.ref D) = some b) (q : Q b s) : wpAny (model prog w) A (excMatches (.ref e) (.ref D)) Q E s := by
  unfold excMatches
  have L1 : Looks (model prog w) s.heap (isInstance (.ref D) (.type "tuple")) false := (looks_typeIn KX hT).andThen (Looks.of_pure rfl)
  refine wpAny_bind (Looks.here L1 ?_)
  refine wpAny_ite_false rfl ?_
  refine wpAny_bind (wpAny_pure ?_)
  refine wpAny_bind ?_
  obtain ⟨cd, hc⟩ := hD
  obtain ⟨hp, g, dr, tk, os⟩ := s
  obtain ⟨oD, hoD, hdD⟩ : ∃ oD, K.lookup D = some oD ∧ oD.data = .cls cd := by
    unfold clsIn at hc
    split at hc
    · rename_i h
      exact ⟨_, h, by cases hc; rfl⟩
    · cases hc
  rw [List.forIn_cons]
  refine wpAny_bind (wpAny_bind ?_)
  unfold isExcClass
  refine wpAny_bind (ks_wpAny_isType_cls (KX _ _ hoD) hdD ?_)
  refine wpAny_ite_true rfl ?_
  refine Looks.here (s := ⟨hp, g, dr, tk, os⟩) (looks_mroIn KX hB) ?_
  refine wpAny_ite_false rfl (wpAny_pure ?_)
  show wpAny _ _ (forIn ([] : List Value) PUnit.unit _) _ _ _
  rw [List.forIn_nil]
  refine wpAny_pure ?_
  refine wpAny_bind (Looks.here (s := ⟨hp, g, dr, tk, os⟩) I.type ?_)
  refine wpAny_bind ?_
  rw [List.forIn_cons]
  refine wpAny_bind (wpAny_bind (Looks.here (s := ⟨hp, g, dr, tk, os⟩) (looks_mroIn KX hC) ?_))
  cases b with
  | true =>
    refine wpAny_ite_true rfl (wpAny_pure ?_)
    exact wpAny_pure (wpAny_pure q)
  | false =>
    refine wpAny_ite_false rfl (wpAny_pure ?_)
    show wpAny _ _ (forIn ([] : List Value) _ _) _ _ _
    rw [List.forIn_nil]
    exact wpAny_pure (wpAny_pure q)
end
end My
set_option Elab.async false
set_option linter.all false
set_option maxRecDepth 100000
set_option maxHeartbeats 1000000
namespace My
open PySem PySem.W L2
open PyProof.Rows (AllBare)
def PXS (X : Cx) (σ : St) (st : Stmt) (t : TS) : Prop := ∀ (pins : List (Addr × Obj)) (s : Shared) (H : Hp) (D : Ends), Inv X pins σ H s → t D σ H → wpAny (model X.prog X.w) X.A (exec st X.env) (SP X pins D) X.xe s
section
variable {X : Cx} {σ : St} {e : Expr} {te : TE} {pos : Pos}
theorem pxs_ret (he : PX X σ e te) : PXS X σ (.Return (some e) pos) (tRet te) := by
  intro pins s H D I h
  exact wpAny_Return_some (thn (he pins s H _ I h) fun v s1 ⟨x, H1, I1, r1, q1⟩ => ⟨x, σ, H1, I1, r1, q1⟩)
end
abbrev tryCx (X : Cx) (pn : List (Addr × Obj)) (xe : Value → Shared → Prop) : Cx := { X with pn := pn, xe := xe }
abbrev exCx (X : Cx) (x : Addr) : Cx := { X with A := X.A.mark (some (.ref x)), calm := false, xe := fun _ _ => False }
section
variable {X : Cx} {pins pins' pn : List (Addr × Obj)} {σ : St} {H : Hp} {s : Shared} {xe : Value → Shared → Prop} {x : Addr}
theorem Ok.toTry (ok : X.Ok) : (tryCx X pn xe).Ok := ⟨ok.mod, ok.kind, ok.glob, ok.blt, ok.above, ok.inj, ok.has, ok.cab, ok.hd, ok.frames, ok.stk, ok.exf, ok.bs, ok.bsz, ok.noex, ok.exfs, ok.funs, ok.frf⟩
theorem Ok.ofTry (ok : (tryCx X pn xe).Ok) : X.Ok := ⟨ok.mod, ok.kind, ok.glob, ok.blt, ok.above, ok.inj, ok.has, ok.cab, ok.hd, ok.frames, ok.stk, ok.exf, ok.bs, ok.bsz, ok.noex, ok.exfs, ok.funs, ok.frf⟩
theorem Inv.toTry (I : Inv X pins σ H s) : Inv (tryCx X (X.pn ++ pins) xe) [] σ H s :=
  ⟨Ok.toTry I.ok, I.os, I.bare, I.base, I.loc, I.cell, I.free, I.freeC, fun p hp => I.pin p (by rw [List.append_nil] at hp; exact hp), I.hok, I.len⟩
theorem Inv.ofTry (I : Inv (tryCx X (X.pn ++ pins) xe) pins' σ H s) : Inv X pins σ H s :=
  ⟨Ok.ofTry I.ok, I.os, I.bare, I.base, I.loc, I.cell, I.free, I.freeC, fun p hp => I.pin p (List.mem_append_left _ hp), I.hok, I.len⟩
theorem Inv.toEx (I : Inv X pins σ H s) : Inv (exCx X x) pins σ H s :=
  ⟨⟨I.ok.mod, I.ok.kind, I.ok.glob, I.ok.blt, I.ok.above, I.ok.inj, I.ok.has, I.ok.cab, fun z => Bool.noConfusion z, I.ok.frames, I.ok.stk, I.ok.exf, I.ok.bs, I.ok.bsz, I.ok.noex, I.ok.exfs, I.ok.funs, I.ok.frf⟩, I.os, I.bare, I.base, I.loc, I.cell, I.free, I.freeC, I.pin, I.hok, I.len⟩
theorem Inv.ofEx (ok : X.Ok) (I : Inv (exCx X x) pins σ H s) : Inv X pins σ H s := ⟨ok, I.os, I.bare, I.base, I.loc, I.cell, I.free, I.freeC, I.pin, I.hok, I.len⟩
theorem SP.ofEx {D : Ends} {f : Flow} (ok : X.Ok) (h : SP (exCx X x) pins D f s) : SP X pins D f s := by
  cases f with
  | next => obtain ⟨σ', H', I, q⟩ := h; exact ⟨σ', H', Inv.ofEx ok I, q⟩
  | brk => obtain ⟨σ', H', I, q⟩ := h; exact ⟨σ', H', Inv.ofEx ok I, q⟩
  | cont => obtain ⟨σ', H', I, q⟩ := h; exact ⟨σ', H', Inv.ofEx ok I, q⟩
  | ret u => obtain ⟨v, σ', H', I, r, q⟩ := h; exact ⟨v, σ', H', Inv.ofEx ok I, r, q⟩
theorem SP.ofTry {D : Ends} {f : Flow} (h : SP (tryCx X (X.pn ++ pins) xe) pins' D f s) : SP X pins D f s := by
  cases f with
  | next => obtain ⟨σ', H', I, q⟩ := h; exact ⟨σ', H', Inv.ofTry I, q⟩
  | brk => obtain ⟨σ', H', I, q⟩ := h; exact ⟨σ', H', Inv.ofTry I, q⟩
  | cont => obtain ⟨σ', H', I, q⟩ := h; exact ⟨σ', H', Inv.ofTry I, q⟩
  | ret u => obtain ⟨v, σ', H', I, r, q⟩ := h; exact ⟨v, σ', H', Inv.ofTry I, r, q⟩
theorem unbind_ok {M : Model} {A : Around} {E : Value → Shared → Prop} {i : Nat} {n : Str} {v : V} {Q : Unit → Shared → Prop} (I : Inv X pins σ H s) (hN : X.N.Nodup) (hi : X.N[i]? = some n) (hk : X.env.scope.names.lookup n = some .local) (hv : σ[i]? = some (some v))
    (h : ∀ s', Inv X pins (σ.set i none) H s' → Q () s') : wpAny M A (unbindName X.env n) Q E s := by
  obtain ⟨m, hn, hl⟩ := id I.loc
  have hcls : (X.env.scope.kind == .class || (X.env.scope.kind == .module && X.env.locals != X.env.globals)) = false := by rw [I.ok.kind]; rfl
  have hiσ : i < σ.length := by rw [I.len]; exact (List.getElem?_eq_some_iff.mp hi).1
  obtain ⟨u, _, lk⟩ := hl i n v hi hv (.inl hk)
  have mu : m n = some u := by
    rcases lk with ⟨_, z⟩ | ⟨z, _⟩
    · exact z
    · have k' : X.env.kindOf n = some .local := hk
      rcases z with z | z <;> (rw [k'] at z; cases z)
  have cne := I.cne
  refine wpAny_unbindName_local hk hn mu hcls fun h' u' hn' hs => ?_
  obtain ⟨oL, _, _, hoL, _⟩ := id hn
  have tracked : HOk X.prog X.w H h' := fun b ob e => by
    refine (I.hok b ob e).stay (fun c w' hc q => (hs.2 c ?_).trans q) (fun _ q => q) fun _ _ q => q
    rintro rfl
    rcases hc with rfl | hc
    · rw [I.free] at e; cases e
    · rw [I.free] at hc; cases hc
  refine h _ ⟨I.ok, I.os, I.bare, ⟨fun b o e n hb hx => ?_, fun b o e n hb hx => ?_, I.base.free, fun b o e hx => ?_, I.base.tups, I.base.frzs, I.base.tbls, I.base.sys⟩, ⟨_, hn', fun j y v' e1 e2 e3 => ?_⟩, fun y c e => ?_, I.free, I.freeC, fun p hp => ?_, tracked, by simpa using I.len⟩
  · exact (hs.2 b (Nat.ne_of_lt (Nat.lt_of_lt_of_le (Heap.lt_size e) I.ok.above))).trans (I.base.keep b o e n hb hx)
  · obtain ⟨sl, e1⟩ := I.base.slot b o e n hb hx
    exact ⟨sl, (hs.2 b (Nat.ne_of_lt (Nat.lt_of_lt_of_le (Heap.lt_size e) I.ok.above))).trans e1⟩
  · obtain ⟨o', e1⟩ := I.base.there b o e hx
    exact ⟨o', (hs.2 b (Nat.ne_of_lt (Nat.lt_of_lt_of_le (Heap.lt_size e) I.ok.above))).trans e1⟩
  · by_cases hj : j = i
    · subst hj
      rw [List.getElem?_set_self hiσ] at e2
      cases e2
    · rw [List.getElem?_set_ne (Ne.symm hj)] at e2
      obtain ⟨u2, r', q⟩ := hl j y v' e1 e2 e3
      refine ⟨u2, r', ?_⟩
      rcases q with ⟨k, e⟩ | ⟨k, c, e, z⟩
      · refine .inl ⟨k, ?_⟩
        have : y ≠ n := fun e => hj (nodup_ix hN e1 (e ▸ hi))
        simp [this, e]
      · exact .inr ⟨k, c, e, z.sameBut hs (cne y c e)⟩
  · obtain ⟨w', z⟩ := I.cell y c e
    exact ⟨w', z.sameBut hs (cne y c e)⟩
  · obtain ⟨e, n, ne, nf, d⟩ := I.pin p hp
    exact ⟨(hs.2 p.1 ne).trans e, n, ne, nf, d⟩
end
structure Catch (K : Frag) (D : Addr) : Prop where
  cls : ∃ cd, clsIn K D = some cd
  ty : typeIn K (.ref D) = some (.type "type")
  mb : mroIn K D (.type "BaseException") = some true
def unEnds (D : Ends) (i : Nat) : Ends := ⟨fun σ H => D.nx (σ.set i none) H, D.rt, fun σ H => D.bk (σ.set i none) H, fun σ H => D.ct (σ.set i none) H⟩
def eTry (K : Frag) (B : Addr) (i : Nat) (th : TS) (D : Ends) (σ : St) : XK := fun c o H' => ∃ x C, c = .ref C ∧ o = some x ∧ mroIn K C (.ref B) = some true ∧ th (unEnds D i) (σ.set i (some (.ref x))) H'
def tTry (K : Frag) (B : Addr) (i : Nat) (tb : XK → TS) (th : TS) : TS := fun D σ H => tb (eTry K B i th D σ) D σ H
end My
set_option Elab.async false
set_option linter.all false
set_option maxRecDepth 100000
set_option maxHeartbeats 1000000
namespace My
open PySem PySem.W L2
open PyProof.Rows (AllBare)
section
variable {X : Cx} {pins : List (Addr × Obj)} {σ : St} {H : Hp} {s : Shared}
theorem name_goes {i : Nat} {n : Str} {pos : Pos} {E : Value → Shared → Prop} {D : Ends} {f : Flow} (ok : X.Ok) (hN : X.N.Nodup) (hi : X.N[i]? = some n) (hk : X.env.scope.names.lookup n = some .local) (h : SP X pins (unEnds D i) f s) :
    wpAny (model X.prog X.w) X.A (do
      bindName X.env n .none
      unbindBehindTheSuite X.env n pos) (fun _ s' => SP X pins D f s') E s := by
  have go : ∀ {σ' : St} {H' : Hp}, Inv X pins σ' H' s → (∀ s', Inv X pins (σ'.set i none) H' s' → SP X pins D f s') → wpAny (model X.prog X.w) X.A (do
      bindName X.env n .none
      unbindBehindTheSuite X.env n pos) (fun _ s' => SP X pins D f s') E s := fun {σ' H'} I q => by
    have hiσ : i < σ'.length := by rw [I.len]; exact (List.getElem?_eq_some_iff.mp hi).1
    refine wpAny_bind (wpAny_bindName (store_ok I hN hi (.inl hk) (v := V.non) (u := Value.none) rfl (fun s1 I1 => ?_) (.inr hk)))
    unfold unbindBehindTheSuite
    refine wpAny_onRaise (unbind_ok (v := V.non) I1 hN hi hk (List.getElem?_set_self hiσ) fun s2 I2 => ?_)
    rw [List.set_set] at I2
    exact q s2 I2
  cases f with
  | next => obtain ⟨σ', H', I, q⟩ := h; exact go I fun s' I' => ⟨_, H', I', q⟩
  | brk => obtain ⟨σ', H', I, q⟩ := h; exact go I fun s' I' => ⟨_, H', I', q⟩
  | cont => obtain ⟨σ', H', I, q⟩ := h; exact go I fun s' I' => ⟨_, H', I', q⟩
  | ret u => obtain ⟨v, σ', H', I, r, q⟩ := h; exact go I fun s' I' => ⟨v, _, H', I', r, q⟩
end
section
variable {X : Cx} {pins : List (Addr × Obj)} {σ : St} {H : Hp} {s : Shared}
theorem errT_inst {P : Program} {w : World} {H : Hp} {h : Heap} {a C dx : Addr} {fs : List (Str × V)} (ok : HOk P w H h) (ea : H a = some (ErrT a C (some dx))) (ed : H dx = some (.xd fs)) :
    ∃ (ox od : Obj), InstAt h a ox C (some od) ∧ ∃ mA : Str → Option Value, (∀ f, RelO (fs.lookup f) (mA f)) ∧ ∀ name, lookIn name od = some (mA name) := by
  obtain ⟨t, v, hx⟩ := errT_at ok ea
  obtain ⟨mA, hn, hr⟩ := (show ObjOk P w H h dx (.xd fs) from ok dx _ ed)
  obtain ⟨od, hod, hl⟩ := lookIn_ns hn
  exact ⟨_, od, ⟨hx, rfl, rfl, hod⟩, mA, hr, hl⟩
def tErrFT (K : Frag) (ta : TE) (f : Str) : TE := fun σ H Q => ta σ H fun x H1 => ∃ a C dx fs v, x = .ref a ∧ H1 a = some (ErrT a C (some dx)) ∧ H1 dx = some (.xd fs) ∧ fs.lookup f = some v ∧ ErrI K C ∧ hasDictIn K C = true ∧ findIn K (.ref C) f = some none ∧ Q v H1
theorem pe_errFT {e : Expr} {ta : TE} {f : Str} {pos : Pos} (he : PE X e ta) (hb : attributeBase e f X.env (eval e X.env) = eval e X.env) : PE X (.Attribute e f pos) (tErrFT X.K ta f) := by
  intro pins s σ H Q I h
  refine attr_of hb (thn (he pins s σ H _ I h) fun u s1 ⟨x, H1, I1, rx, a, C, dx, fs, v, ex, ea, ed, l, T, hd, nf, q⟩ => ?_)
  subst ex
  obtain rfl : u = Value.ref a := rx
  obtain ⟨ox, od, J, mA, hr, hl⟩ := errT_inst I1.hok ea ed
  obtain ⟨u, eu, ru⟩ := RelO.some_of (l ▸ hr f)
  exact getExc I1.kIn J T.ga T.hk T.mb (findObj_own hd nf rfl (by rw [hl, eu])) (handed_of ru) ⟨v, H1, I1.tok _, ru, q⟩
def rIsT1 (K : Frag) : List V → Hp → VK → Prop := fun vs H Q => ∃ a C dx fs c b, vs = [.ref a, c] ∧ H a = some (ErrT a C (some dx)) ∧ H dx = some (.xd fs) ∧ ErrI K C ∧ ((∃ z, c = .ref z) ∨ ∃ n, c = .ty n) ∧ kitOne K (.ref C) (isV c) = some b ∧ Q (.bl b) H
def rIsTn (K : Frag) : List V → Hp → VK → Prop := fun vs H Q => ∃ (a C dx : Addr) (fs : List (Str × V)) (p : Addr) (cs : List Addr) (b : Bool), vs = [.ref a, .ref p] ∧ H a = some (ErrT a C (some dx)) ∧ H dx = some (.xd fs) ∧ ErrI K C ∧ H p = some (.tup (cs.map V.ref)) ∧ kitAny K (.ref C) (cs.map Value.ref) = some b ∧ Q (.bl b) H
end
end My
set_option Elab.async false
set_option linter.all false
set_option maxRecDepth 100000
set_option maxHeartbeats 1000000
namespace My
open PySem PySem.W L2
open PyProof.Rows (Call_ boot_enumerate)
section
variable {X : Cx} {pins : List (Addr × Obj)} {σ : St} {H : Hp} {s : Shared} {h' : Heap}
theorem turned2 {t' : Nat} {i1 i2 : Addr} (I : Inv X pins σ H s) (k : ∀ b o, b ≠ i1 → b ≠ i2 → s.heap.get? b = some o → h'.get? b = some o) (F1 : FpOk X pins H i1) (F2 : FpOk X pins H i2) : Inv X pins σ H { s with heap := h', toks := t' } := by
  obtain ⟨n1, L1, _, a1, b1, c1⟩ := F1
  obtain ⟨n2, L2, _, a2, b2, c2⟩ := F2
  have ni1 : ∀ b u, H b = some u → b ≠ i1 := fun b u e z => by rw [z, n1] at e; cases e
  have ni2 : ∀ b u, H b = some u → b ≠ i2 := fun b u e z => by rw [z, n2] at e; cases e
  refine I.step (g' := s.gens) (d' := s.drawn) (ch := [i1, i2]) (fun b hb => ?_) (fun b o _ _ hc e _ => k b o (fun z => hc (by simp [z])) (fun z => hc (by simp [z])) e) (fun b o _ _ hc e _ => ⟨o.slots, k b o (fun z => hc (by simp [z])) (fun z => hc (by simp [z])) e⟩) (fun _ _ _ _ n => n)
    (fun b o hc e => ⟨o, k b o (fun z => hc (by simp [z])) (fun z => hc (by simp [z])) e⟩) (fun _ _ e => e) (fun _ _ _ e => e) (fun b ps e => ⟨#[], by rw [e]; simp⟩) (fun q => q) (fun m hm => ?_) (fun b u e => ?_) I.bare
  · have e : b = i1 ∨ b = i2 := by simpa using hb
    rcases e with rfl | rfl
    · exact ⟨a1, L1, b1, c1⟩
    · exact ⟨a2, L2, b2, c2⟩
  · obtain ⟨o, es, ep, ho, r⟩ := hm
    exact ⟨o, es, ep, k _ o (Ne.symm L1) (Ne.symm L2) ho, r⟩
  · refine (I.hok b u e).stay (fun c v hc q => k c v ?_ ?_ q) (fun _ q => q) fun _ _ q => q
    · rcases hc with z | z
      · rw [z]; exact ni1 b u e
      · exact ni1 c _ z
    · rcases hc with z | z
      · rw [z]; exact ni2 b u e
      · exact ni2 c _ z
end
theorem nofree {o : Obj} {vs : Array Value} (d : o.data = .fields vs) : o.isFreed = false := by
  obtain ⟨c, dd, dt, sl⟩ := o
  cases d
  rfl
def Ite (K : Frag) (a : Addr) : It :=
  ⟨fun i H => ∃ xs x, SqL K H a xs ∧ xs[i]? = some x, fun i H x H' => ∃ p y, x = .ref p ∧ H p = none ∧ H' = upd H p (.tup [.int i, y]) ∧ ∀ xs, SqL K H a xs → xs[i]? = some y, fun i H => ∃ xs, SqL K H a xs ∧ xs.length ≤ i⟩
theorem turn_enum {P : Program} {w : World} {K : Frag} {elts : List Expr} {x1} {pos : Pos} (a e it : Addr) (ne : e ≠ it) : Turn P w K (.Tuple elts x1 pos) (Ite K a) [e, it] e (fun i h => (∃ old, IsEnum h e it i old) ∧ h.IsListIter it a i) where
  mem := by simp
  obj := fun i h st b hb => by
    obtain ⟨⟨old, h1⟩, o, h2, c, d⟩ := st
    have e : b = e ∨ b = it := by simpa using hb
    rcases e with rfl | rfl
    · exact ⟨_, h1, fun v z => by cases z⟩
    · exact ⟨o, h2, fun v z => by rw [d] at z; cases z⟩
  keep := fun i h h' st k => ⟨⟨_, k e (by simp) _ st.1.choose_spec⟩, st.2.at fun o z => k it (by simp) o z⟩
  item := by
    intro X hP hw hK hc i pins s σ H E I hf st hg
    subst hP hw hK
    obtain ⟨xs, x, hq, hx⟩ := hg
    obtain ⟨its, rv, p, hz⟩ := I.list hq
    obtain ⟨u, hu, ru⟩ := rv.get hx
    obtain ⟨⟨old, he⟩, hi⟩ := st
    have Fe := hf e (by simp)
    have Fi := hf it (by simp)
    refine wpAny_pyNext_enum_item he hi p.isList (x := u) (by simpa using hu) ne fun h1 eo hi1 ht hs1 kk => ?_
    refine ⟨_, rfl, wpAny_letOwnedTupleGo_enum (s := { s with heap := h1, toks := s.toks + 1 }) eo fun h2 he2 sb => ?_⟩
    have sb' : Heap.SameBut e h1 h2 := sb
    have ne2 : s.heap.objs.size ≠ e := Nat.ne_of_gt (Heap.lt_size he)
    have ht2 : h2.get? s.heap.objs.size = some { cls := .type "tuple", data := .seq #[.int i s.toks, u] } := (sb'.2 _ ne2).trans ht
    obtain ⟨oi, hoi, ci, di⟩ := hi
    obtain ⟨oi1, hoi1, ci1, di1⟩ := id hi1
    have hoi2 : h2.get? it = some oi1 := (sb'.2 _ (Ne.symm ne)).trans hoi1
    let hA : Heap := (s.heap.update e fun _ => { cls := .type "enumerate", dict := none, data := .fields #[.none, .bool false, .ref it, rawInt ((i : Int) + 1), .none, u], slots := #[] }).update it fun _ => oi1
    have IA : Inv X pins σ H { s with heap := hA, toks := s.toks } := turned2 I (fun b o z1 z2 q => by
      show hA.get? b = some o
      rw [Heap.get?_update_ne _ _ _ _ z2, Heap.get?_update_ne _ _ _ _ z1]
      exact q) Fe Fi
    have szA : hA.objs.size = s.heap.objs.size := by
      show ((s.heap.update e _).update it _).objs.size = _
      rw [Heap.size_update, Heap.size_update]
    refine ⟨.ref s.heap.objs.size, upd H s.heap.objs.size (.tup [.int i, x]), ?_, rfl, ⟨_, x, rfl, I.hok.fresh (Nat.le_refl _), rfl, fun ys hy => by rw [I.list_inj hy hq]; exact hx⟩, ⟨⟨u, he2⟩, oi1, hoi2, ci1, di1⟩, fun b hb => ?_⟩
    · refine IA.laid (t' := s.toks + 1) (fun b v q => ?_) (Nat.le_of_eq szA) ?_
      · have q' : hA.get? b = some v := q
        by_cases z2 : b = it
        · subst z2
          have hg : (s.heap.update e fun _ => { cls := .type "enumerate", dict := none, data := .fields #[.none, .bool false, .ref b, rawInt ((i : Int) + 1), .none, u], slots := #[] }).get? b = some oi := by
            rw [Heap.get?_update_ne _ _ _ _ (Ne.symm ne)]; exact hoi
          rw [Heap.get?_update_self _ hg (nofree di1)] at q'
          cases q'
          exact hoi2
        · rw [Heap.get?_update_ne _ _ _ _ z2] at q'
          by_cases z1 : b = e
          · subst z1
            rw [Heap.get?_update_self _ he rfl] at q'
            cases q'
            exact he2
          · rw [Heap.get?_update_ne _ _ _ _ z1] at q'
            exact (sb'.2 b z1).trans (kk b v z1 z2 q')
      · exact ⟨by show 2 ≤ sizeLine; decide, [.int i s.toks, u], .cons ⟨_, rfl⟩ (.cons ru .nil), ⟨_, ht2, rfl, _, rfl⟩⟩
    · have nb : b ≠ s.heap.objs.size := by
        have e' : b = e ∨ b = it := by simpa using hb
        rcases e' with rfl | rfl
        · exact Nat.ne_of_lt (Heap.lt_size he)
        · exact Nat.ne_of_lt (Heap.lt_size hoi)
      rw [upd_ne nb]
      exact (hf b hb).1
  done := by
    intro X hP hw hK hc i pins s σ H E I hf st hg
    subst hP hw hK
    obtain ⟨xs, hq, hx⟩ := hg
    obtain ⟨its, rv, p, hz⟩ := I.list hq
    obtain ⟨⟨old, he⟩, hi⟩ := st
    obtain ⟨f0, f1, f2, f3, f4, f5⟩ := hf it (by simp)
    have hl := rv.length
    exact wpAny_pyNext_enum_end (I.ok.hd hc) he hi p.isList (by simp; omega) fun h' eb => ⟨rfl, I.turned (t' := s.toks) (fun b o hb e => eb b o hb e) f0 f1 f3 f4 f5⟩
  self := fun _ _ _ _ _ st h => wpAny_pyIter_enum st.1.choose_spec h
section
variable {X : Cx}
def iEnum (K : Frag) (ta : TA) : TI := fun σ H R => ta σ H fun vs H1 => ∃ a, vs = [.ref a] ∧ (∃ xs, SqL K H1 a xs) ∧ R (Ite K a) H1
theorem pi_enum {elts : List Expr} {x1} {pt : Pos} {a : Expr} {ta : TA} {p pos : Pos} (hg : Gl X "enumerate") (hm : X.mg "enumerate" = none) (ha : PA X [a] ta) (hs : starEach [a] X.env = [(false, eval a X.env)] := by rfl) : PI X (.Tuple elts x1 pt) (.Call (.Name "enumerate" p) [a] [] pos) (iEnum X.K ta) := by
  intro pins s σ H R I h
  refine Call_ (ld_blt I hg hm boot_enumerate (PyProof.Rows.callWith_type1 (thn (ha pos pins s σ H _ I h) fun us s1 ⟨vs, H1, I1, r1, q1⟩ => ?_) hs rfl))
  obtain ⟨l, rfl, ⟨xs, hq⟩, q⟩ := q1
  cases r1 with
  | cons r rr =>
    cases rr
    cases r
    obtain ⟨its, rv, p', hz⟩ := I1.list hq
    refine call_enumerate_list p'.isList fun h' he hi hsz kk => ?_
    refine wpAny_pyIter_enum he ?_
    refine ⟨s1.heap.objs.size + 1, [s1.heap.objs.size + 1, s1.heap.objs.size], _, _, H1, rfl, I1.kept (t' := s1.toks) kk, turn_enum l _ _ (Nat.succ_ne_self _), ⟨⟨_, he⟩, hi⟩, fun b hb => ?_, q⟩
    have e : b = s1.heap.objs.size + 1 ∨ b = s1.heap.objs.size := by simpa using hb
    have le : s1.heap.objs.size ≤ b := by
      rcases e with rfl | rfl
      · exact Nat.le_succ _
      · exact Nat.le_refl _
    exact I1.fpOk le (I1.hok.fresh le)
end
theorem for_enum {K : Frag} {a : Addr} {xs : List V} {g : TG} {tb : TS} {D : Ends} {σ : St} {H : Hp} (Pv : Nat → St → Hp → Prop) (h0 : Pv 0 σ H) (hl : ∀ i σ H, i ≤ xs.length → Pv i σ H → SqL K H a xs)
    (hs : ∀ i x σ H p, xs[i]? = some x → Pv i σ H → H p = none → g (.ref p) σ (upd H p (.tup [.int i, x])) fun σ2 H2 => tb { D with nx := Pv (i + 1), ct := Pv (i + 1), bk := D.nx } σ2 H2) (hd : ∀ σ H, Pv xs.length σ H → D.nx σ H) :
    ∃ W : Nat → Nat → St → Hp → Prop, (∃ m, W 0 m σ H) ∧ ∀ i m σ H, W i m σ H →
      ((Ite K a).stop i H ∧ D.nx σ H) ∨ ((Ite K a).go i H ∧ ∃ N : St → Hp → Prop, (∀ σ' H', N σ' H' → ∃ m', m' < m ∧ W (i + 1) m' σ' H') ∧ ∀ x H', (Ite K a).yld i H x H' → g x σ H' fun σ2 H2 => tb { D with nx := N, ct := N, bk := D.nx } σ2 H2) := by
  refine ⟨fun i m σ H => m = xs.length - i ∧ i ≤ xs.length ∧ Pv i σ H, ⟨xs.length, by simp, Nat.zero_le _, h0⟩, ?_⟩
  rintro i m σ H ⟨rfl, hi, p⟩
  have q := hl i σ H hi p
  by_cases hlt : i < xs.length
  · refine .inr ⟨⟨xs, xs[i], q, List.getElem?_eq_getElem hlt⟩, Pv (i + 1), fun σ' H' n => ⟨xs.length - (i + 1), by omega, rfl, hlt, n⟩, ?_⟩
    rintro x H' ⟨p', y, rfl, hp, rfl, hy⟩
    exact hs i y σ H p' (hy xs q) p hp
  · have e : i = xs.length := by omega
    subst e
    exact .inl ⟨⟨xs, q, Nat.le_refl _⟩, hd σ H p⟩
end My
set_option Elab.async false
set_option linter.all false
set_option maxRecDepth 100000
set_option maxHeartbeats 1000000
namespace My
open PySem PySem.W L2
open PyProof.Rows (AllBare)
structure Caught (X : Cx) (pins : List (Addr × Obj)) (σ : St) (H : Hp) (s : Shared) (x C : Addr) : Prop where
  inv : Inv X pins σ H s
  err : ∃ dx fs, H x = some (ErrT x C (some dx)) ∧ H dx = some (.xd fs)
  fl : ∃ dx t T oT ts, s.heap.get? x = some (errW C dx t (.ref T)) ∧ s.heap.get? T = some oT ∧ oT.data = .fields ts ∧ ts[3]? = some Value.none
abbrev TH := Addr → Addr → TS
def PHs (X : Cx) (hs : List ExceptHandler) (th : TH) : Prop := ∀ (pins : List (Addr × Obj)) (s : Shared) (σ : St) (H : Hp) (D : Ends) (x C : Addr), Caught X pins σ H s x C → th x C D σ H → wpAny (model X.prog X.w) X.A (handleBy (.ref x) X.env hs) (SP X pins D) X.xe s
def hNil : TH := fun _ _ _ _ _ => False
def hAs (K : Frag) (B : Addr) (i : Nat) (th : TS) (rest : TH) : TH := fun x C D σ H => ∃ b, mroIn K C (.ref B) = some b ∧ if b = true then th (unEnds D i) (σ.set i (some (.ref x))) H else rest x C D σ H
def hNo (K : Frag) (B : Addr) (th : TS) (rest : TH) : TH := fun x C D σ H => ∃ b, mroIn K C (.ref B) = some b ∧ if b = true then th D σ H else rest x C D σ H
section
variable {X : Cx} {hs : List ExceptHandler} {rest : TH}
theorem phs_nil : PHs X [] hNil := fun _ _ _ _ _ _ _ _ h => False.elim h
theorem phs_as {th : TS} {B : Addr} {n cn : Str} {i : Nat} {b₀ : Stmt} {suite : List Stmt} {pc ph : Pos} (hN : X.N.Nodup) (hi : X.N[i]? = some n) (hk : X.env.scope.names.lookup n = some .local) (cB : Catch X.K B) (hg : Gl X cn) (hm : X.mg cn = some (.ref B))
    (hh : ∀ x, PSs (exCx X x) (b₀ :: suite) th) (hr : PHs X hs rest) (hdb : (cn == ("__debug__" : Str)) = false := by decide) : PHs X (.ExceptHandler (some (.Name cn pc)) (some n) (b₀ :: suite) ph :: hs) (hAs X.K B i th rest) := by
  intro pins s σ H D x C G h
  obtain ⟨b, hm', q⟩ := h
  obtain ⟨J2, ⟨dx, fs, hx, hdx⟩, dx', t, T', oT', ts', ex2, f1, f2, f3⟩ := id G
  refine wpAny_handleBy_cons ?_ (by intro z; cases z)
  refine codeAny_handlers_test ?_
  refine ld_glob (X := exCx X x) (Inv.toEx J2) hg hm ?_ hdb
  obtain ⟨ox, odd, JI⟩ : ∃ ox od, InstAt s.heap x ox C od := by
    obtain ⟨ox, od, J, _⟩ := errT_inst J2.hok hx hdx
    exact ⟨ox, some od, J⟩
  refine wp_matches J2.kIn cB.cls cB.ty cB.mb JI hm' ?_
  cases b with
  | false =>
    rw [if_neg (by decide)] at q
    exact hr pins s σ H D x C G q
  | true =>
    rw [if_pos rfl] at q
    show codeAny _ _ _ _ _
    refine codeAny_handlers_suite_as ?_
    have h3 : 3 < ts'.size := (Array.getElem?_eq_some_iff.mp f3).1
    refine wpAny_setFlight_none ex2 rfl rfl f1 f2 h3 ?_
    have J3 : Inv X pins σ H { s with heap := s.heap.update T' (Obj.mapFields fun x => x.setIfInBounds 3 Value.none) } := by
      refine J2.kept (t' := s.toks) fun b u hb => ?_
      by_cases z : b = T'
      · subst z
        have e : oT' = u := Option.some.inj (f1.symm.trans hb)
        subst e
        rw [Heap.get?_update_self _ f1 (by rw [mapF f2]; rfl), mapF f2, set_same f3, ← f2]
      · rw [Heap.get?_update_ne _ _ _ _ z]; exact hb
    generalize ({ s with heap := s.heap.update T' (Obj.mapFields fun x => x.setIfInBounds 3 Value.none) } : Shared) = s3 at J3
    refine store_ok (X := exCx X x) (Inv.toEx J3) hN hi (.inl hk) (v := V.ref x) (u := Value.ref x) rfl (fun s4 I4 => ?_) (.inr hk)
    refine wpAny_mono (hh x pins s4 _ H (unEnds D i) I4 q) (fun f s5 q5 => ?_) (fun _ _ z => False.elim z)
    exact name_goes J3.ok hN hi hk (SP.ofEx J3.ok q5)
theorem phs_no {th : TS} {B : Addr} {cn : Str} {b₀ : Stmt} {suite : List Stmt} {pc ph : Pos} (cB : Catch X.K B) (hg : Gl X cn) (hm : X.mg cn = some (.ref B))
    (hh : ∀ x, PSs (exCx X x) (b₀ :: suite) th) (hr : PHs X hs rest) (hdb : (cn == ("__debug__" : Str)) = false := by decide) : PHs X (.ExceptHandler (some (.Name cn pc)) none (b₀ :: suite) ph :: hs) (hNo X.K B th rest) := by
  intro pins s σ H D x C G h
  obtain ⟨b, hm', q⟩ := h
  obtain ⟨J2, ⟨dx, fs, hx, hdx⟩, dx', t, T', oT', ts', ex2, f1, f2, f3⟩ := id G
  refine wpAny_handleBy_cons ?_ (by intro z; cases z)
  refine codeAny_handlers_test ?_
  refine ld_glob (X := exCx X x) (Inv.toEx J2) hg hm ?_ hdb
  obtain ⟨ox, odd, JI⟩ : ∃ ox od, InstAt s.heap x ox C od := by
    obtain ⟨ox, od, J, _⟩ := errT_inst J2.hok hx hdx
    exact ⟨ox, some od, J⟩
  refine wp_matches J2.kIn cB.cls cB.ty cB.mb JI hm' ?_
  cases b with
  | false =>
    rw [if_neg (by decide)] at q
    exact hr pins s σ H D x C G q
  | true =>
    rw [if_pos rfl] at q
    show codeAny _ _ _ _ _
    refine codeAny_handlers_suite ?_
    have h3 : 3 < ts'.size := (Array.getElem?_eq_some_iff.mp f3).1
    refine wpAny_setFlight_none ex2 rfl rfl f1 f2 h3 ?_
    have J3 : Inv X pins σ H { s with heap := s.heap.update T' (Obj.mapFields fun x => x.setIfInBounds 3 Value.none) } := by
      refine J2.kept (t' := s.toks) fun b u hb => ?_
      by_cases z : b = T'
      · subst z
        have e : oT' = u := Option.some.inj (f1.symm.trans hb)
        subst e
        rw [Heap.get?_update_self _ f1 (by rw [mapF f2]; rfl), mapF f2, set_same f3, ← f2]
      · rw [Heap.get?_update_ne _ _ _ _ z]; exact hb
    generalize ({ s with heap := s.heap.update T' (Obj.mapFields fun x => x.setIfInBounds 3 Value.none) } : Shared) = s3 at J3
    refine wpAny_mono (hh x pins s3 _ H D (Inv.toEx J3) q) (fun f s5 q5 => ?_) (fun _ _ z => False.elim z)
    exact SP.ofEx J3.ok q5
end
def eTryN (th : TH) (D : Ends) (σ : St) : XK := fun c o H' => ∃ x C, c = .ref C ∧ o = some x ∧ th x C D σ H'
def tTryN (tb : XK → TS) (th : TH) : TS := fun D σ H => tb (eTryN th D σ) D σ H
section
variable {X : Cx} {σ : St} {e : Expr} {te : TE} {pos : Pos}
end
end My
set_option Elab.async false
set_option linter.all false
set_option maxRecDepth 100000
set_option maxHeartbeats 1000000
namespace My
open PySem PySem.W L2
structure ClsFn (K : Frag) (D : Addr) (m : Str) (f : Addr) : Prop where
  ga : specialIn K (.ref D) "__getattribute__" = some (some (.builtin "type.__getattribute__"))
  reads : readsIn K D (.type "type") = true
  at_ : findCls K (.ref D) (.type "type") m = some (.val (.ref f))
  kp : keepIn K (.ref f) = true
section
variable {X : Cx} {CX : CXT} {k : Nat} {f D : Addr} {fd : FuncData} {ps : List Str} {sp : Sp} {E : XK} {x m : Str} {p pos apos : Pos} {e : Expr} {es : List Expr} {t : TA} {dvs : List V} {ds : List Value}
end
end My
set_option Elab.async false
set_option linter.all false
set_option maxRecDepth 100000
set_option maxHeartbeats 1000000
namespace My
open PySem L2
section
variable {X : Cx}
def Flats (x y : V) : Prop := flatV x = true ∧ flatV y = true ∧ eqV x y = true
def Alike (K : PySem.W.Frag) (H : Hp) : Nat → V → V → Prop
  | 0, x, y => (∃ a, x = .ref a ∧ y = .ref a) ∨ Flats x y
  | n + 1, x, y => ((∃ a, x = .ref a ∧ y = .ref a) ∨ Flats x y) ∨
    ∃ p q xs ys, x = .ref p ∧ y = .ref q ∧ ((SqT K H p xs ∧ SqT K H q ys) ∨ (SqL K H p xs ∧ SqL K H q ys)) ∧ xs.length = ys.length ∧ ∀ (i : Nat) x y, xs[i]? = some x → ys[i]? = some y → Alike K H n x y
theorem Alike.same {K : PySem.W.Frag} {H : Hp} {n : Nat} {x y : V} (h : (∃ a, x = .ref a ∧ y = .ref a) ∨ Flats x y) : Alike K H n x y := by
  cases n with
  | zero => exact h
  | succ n => exact .inl h
theorem flats_of {A : Around} {s : Shared} {x y : V} {u v : Value} (ru : RelV x u) (rv : RelV y v) (h : Flats x y) : SeqAt.EqAt A s u v true := by
  have f := eqAt_V (A := A) (s := s) ru rv h.1 h.2.1
  rw [h.2.2] at f
  exact f
theorem same_or {A : Around} {s : Shared} {x y : V} {u v : Value} (ru : RelV x u) (rv : RelV y v) (h : (∃ a, x = .ref a ∧ y = .ref a) ∨ Flats x y) : SeqAt.EqAt A s u v true := by
  rcases h with ⟨a, rfl, rfl⟩ | h
  · cases (show u = Value.ref a from ru)
    cases (show v = Value.ref a from rv)
    exact SeqAt.EqAt.same _
  · exact flats_of ru rv h
theorem items_eq {A : Around} {s : Shared} {xs ys : List V} {its jts : List Value} (r1 : Vals xs its) (r2 : Vals ys jts) (h : ∀ (i : Nat) x y u v, xs[i]? = some x → ys[i]? = some y → RelV x u → RelV y v → SeqAt.EqAt A s u v true) :
    ∀ j (h1 : j < its.toArray.size) (h2 : j < jts.toArray.size), SeqAt.EqAt A s its.toArray[j] jts.toArray[j] true := by
  intro j h1 h2
  have h1' : j < its.length := by simpa using h1
  have h2' : j < jts.length := by simpa using h2
  have k1 : j < xs.length := by rw [r1.length]; exact h1'
  have k2 : j < ys.length := by rw [r2.length]; exact h2'
  obtain ⟨u1, e1, q1⟩ := r1.get (List.getElem?_eq_getElem k1)
  obtain ⟨u2, e2, q2⟩ := r2.get (List.getElem?_eq_getElem k2)
  have a1 : its.toArray[j] = u1 := by
    have := List.getElem?_eq_getElem h1'
    rw [e1] at this
    simpa using (Option.some.inj this).symm
  have a2 : jts.toArray[j] = u2 := by
    have := List.getElem?_eq_getElem h2'
    rw [e2] at this
    simpa using (Option.some.inj this).symm
  rw [a1, a2]
  exact h j _ _ _ _ (List.getElem?_eq_getElem k1) (List.getElem?_eq_getElem k2) q1 q2
theorem in1_units {A : Around} : A.in1.units = A.units + 1 := rfl
theorem rows_rc {pins : List (Addr × Obj)} {σ : St} {H : Hp} {s : Shared} {A : Around} {p q : Addr} {xs ys : List V} (I : Inv X pins σ H s) (hu : A.units < cLine) (h : (SqT X.K H p xs ∧ SqT X.K H q ys) ∨ (SqL X.K H p xs ∧ SqL X.K H q ys)) (len : xs.length = ys.length)
    (he : ∀ (i : Nat) x y u v, xs[i]? = some x → ys[i]? = some y → RelV x u → RelV y v → SeqAt.EqAt A.in1 s u v true) : SeqAt.RcAt A s (.ref p) (.ref q) true ∧ SeqAt.RcNeAt A s (.ref p) (.ref q) false := by
  rcases h with ⟨hp, hq⟩ | ⟨hp, hq⟩
  · obtain ⟨its, r1, t1, _⟩ := I.tuple hp
    obtain ⟨jts, r2, t2, _⟩ := I.tuple hq
    have l1 := r1.length
    have l2 := r2.length
    have e := items_eq r1 r2 he
    have z : ((List.range (min its.toArray.size jts.toArray.size)).all (fun _ => true) && its.toArray.size == jts.toArray.size) = true := by
      simp; omega
    have a := SeqAt.RcAt.tuples (e := fun _ => true) t1 t2 hu e
    have b := SeqAt.RcNeAt.tuples (e := fun _ => true) t1 t2 hu e
    rw [z] at a b
    exact ⟨a, b⟩
  · obtain ⟨its, r1, t1, _⟩ := I.list hp
    obtain ⟨jts, r2, t2, _⟩ := I.list hq
    have l1 := r1.length
    have l2 := r2.length
    have e := items_eq r1 r2 he
    have z : ((List.range its.toArray.size).all (fun _ => true)) = true := by simp
    have sz : its.toArray.size = jts.toArray.size := by simp; omega
    have a := SeqAt.RcAt.lists (e := fun _ => true) t1.isList t2.isList sz hu e
    have b := SeqAt.RcNeAt.lists (e := fun _ => true) t1.isList t2.isList sz hu e
    rw [z] at a b
    exact ⟨a, b⟩
theorem alike_eq {pins : List (Addr × Obj)} {σ : St} {H : Hp} {s : Shared} (I : Inv X pins σ H s) : ∀ (n : Nat) {A : Around} {x y : V} {u v : Value}, A.units + n < cLine → Alike X.K H n x y → RelV x u → RelV y v → SeqAt.EqAt A s u v true
  | 0, A, x, y, u, v, hu, h, ru, rv => same_or ru rv h
  | n + 1, A, x, y, u, v, hu, h, ru, rv => by
    rcases h with h | ⟨p, q, xs, ys, rfl, rfl, hs, len, all⟩
    · exact same_or ru rv h
    · cases (show u = Value.ref p from ru)
      cases (show v = Value.ref q from rv)
      by_cases e : p = q
      · subst e
        exact SeqAt.EqAt.same _
      · exact .of_refs e (rows_rc I (by omega) hs len fun i x y u v hx hy ru rv => alike_eq I n (by rw [in1_units]; omega) (all i x y hx hy) ru rv).1
def rAlike (K : PySem.W.Frag) (n : Nat) (b : Bool) : R2 := fun x y H Q => ∃ p q xs ys, x = .ref p ∧ y = .ref q ∧ ((SqT K H p xs ∧ SqT K H q ys) ∨ (SqL K H p xs ∧ SqL K H q ys)) ∧ xs.length = ys.length ∧ (∀ (i : Nat) x y, xs[i]? = some x → ys[i]? = some y → Alike K H n x y) ∧ Q (.bl b) H
theorem op_neA {n : Nat} (hu : X.A.units + (n + 1) < cLine) : OpR X (compareOp .NotEq) (rAlike X.K n false) := by
  intro pins s σ H x y v u Q I rx ry h
  obtain ⟨p, q, xs, ys, rfl, rfl, hs, len, all, k⟩ := h
  cases rx
  cases ry
  exact (rows_rc I (A := X.A) (by omega) hs len fun i x y u v hx hy ru rv => alike_eq I n (by rw [in1_units]; omega) (all i x y hx hy) ru rv).2 X.prog X.w X.xe _ ⟨.bl false, H, I, rfl, k⟩
def rCount (K : PySem.W.Frag) : V → List V → Hp → VK → Prop := fun x vs H Q => ∃ l xs y, x = .ref l ∧ vs = [y] ∧ SqL K H l xs ∧ xs.all flatV = true ∧ flatV y = true ∧ Q (.int (xs.countP fun z => eqV z y : Nat)) H
end
end My
set_option Elab.async false
set_option linter.all false
set_option maxRecDepth 100000
set_option maxHeartbeats 1000000
namespace My
open PySem PySem.W L2
section
variable {K : Frag} {te : TE} {cap : St} {D : Addr} {H1 : Hp} {Q : Hp → Prop}
theorem lc_list {a : Addr} {xs : List V} (Pv : Nat → List V → Hp → Prop) (hz : xs.length < sizeLine) (h0 : Pv 0 [] (upd H1 D (.lst [])))
    (hl : ∀ i ys H, Pv i ys H → SqL K H a xs)
    (hs : ∀ i x ys H, xs[i]? = some x → ys.length = i → H D = some (.lst ys) → Pv i ys H → ∀ R : VK, (∀ y H4, H4 D = some (.lst ys) → Pv (i + 1) (ys ++ [y]) (upd H4 D (.lst (ys ++ [y]))) → R y H4) → te (some x :: cap) H R)
    (hd : ∀ ys H, ys.length = xs.length → H D = some (.lst ys) → Pv xs.length ys H → Q H) :
    ∃ W : Nat → Nat → List V → Hp → Prop, (∃ m, W 0 m [] (upd H1 D (.lst []))) ∧
      ∀ i m ys H2, W i m ys H2 → H2 D = some (.lst ys) ∧ (((Itl K a).stop i H2 ∧ Q H2) ∨ ((Itl K a).go i H2 ∧ ys.length < sizeLine ∧
        ∀ x H3, (Itl K a).yld i H2 x H3 → te (some x :: cap) H3 fun y H4 => H4 D = some (.lst ys) ∧ ∃ m', m' < m ∧ W (i + 1) m' (ys ++ [y]) (upd H4 D (.lst (ys ++ [y]))))) := by
  refine ⟨fun i m ys H => m = xs.length - i ∧ i ≤ xs.length ∧ ys.length = i ∧ H D = some (.lst ys) ∧ Pv i ys H, ⟨xs.length, by simp, Nat.zero_le _, rfl, upd_same, h0⟩, ?_⟩
  rintro i m ys H ⟨rfl, hi, hy, hD, p⟩
  refine ⟨hD, ?_⟩
  have q := hl i ys H p
  by_cases hlt : i < xs.length
  · refine .inr ⟨⟨xs, xs[i], q, by simp [hlt]⟩, by omega, fun x H' y => ?_⟩
    obtain ⟨e, y⟩ := y
    subst e
    refine hs i x ys _ (y xs q) hy hD p _ fun z H4 hD4 p4 => ⟨hD4, xs.length - (i + 1), by omega, rfl, hlt, by rw [List.length_append, hy]; rfl, upd_same, p4⟩
  · have e : i = xs.length := by omega
    subst e
    exact .inl ⟨⟨xs, q, Nat.le_refl _⟩, hd ys H hy hD p⟩
end
end My
set_option Elab.async false
set_option linter.all false
set_option maxRecDepth 100000
set_option maxHeartbeats 4000000
namespace My
open PySem L2
structure CompG (X : Cx) (sc : Scope) (cl : List (Str × Addr)) (ts zs : List Str) (js : List Nat) : Prop where
  clos : closureFor sc X.env = pure cl
  kind : sc.kind = .function
  noCell : ∀ y ∈ sc.names, y.2 ≠ .cell
  names : ∀ y ∈ sc.names, y.2 = .local → sc.names.lookup y.1 = some .local
  var : ∀ x ∈ ts, sc.names.lookup x = some .local
  sub : ∀ z c, cl.lookup z = some c → X.env.cells.lookup z = some c
  has : ∀ z, ((relabel sc X.env).names.lookup z = some .cell ∨ (relabel sc X.env).names.lookup z = some .free) → ∃ c, cl.lookup z = some c
  nd : (ts ++ zs).Nodup
  cap : ∀ (k : Nat) (z : Str), zs[k]? = some z → ∃ j : Nat, js[k]? = some j ∧ X.N[j]? = some z ∧ Vis X.env.scope z ∧ X.env.kindOf z ≠ some .local ∧
    ((relabel sc X.env).names.lookup z = some .cell ∨ (relabel sc X.env).names.lookup z = some .free)
  len : js.length = zs.length
def tLCG (wi : TI) (k : Nat) (js : List Nat) (g : TG) (te : TE) : TE := fun σ H Q => wi σ H fun J H1 => ∀ D, H1 D = none → ∃ W : Nat → Nat → List V → Hp → Prop, (∃ m, W 0 m [] (upd H1 D (.lst []))) ∧
  ∀ i m ys H2, W i m ys H2 → H2 D = some (.lst ys) ∧ ((J.stop i H2 ∧ Q (.ref D) H2) ∨ (J.go i H2 ∧ ys.length < sizeLine ∧
    ∀ x H3, J.yld i H2 x H3 → ∀ os : St, os.length = k → g x (os ++ capS js σ) H3 fun σ2 H0 => (∃ os' : St, os'.length = k ∧ σ2 = os' ++ capS js σ) ∧ te σ2 H0 fun y H4 => H4 D = some (.lst ys) ∧ ∃ m', m' < m ∧ W (i + 1) m' (ys ++ [y]) (upd H4 D (.lst (ys ++ [y])))))
def tLCGif (wi : TI) (k : Nat) (js : List Nat) (g : TG) (tt : TT) (te : TE) : TE := fun σ H Q => wi σ H fun J H1 => ∀ D, H1 D = none → ∃ W : Nat → Nat → List V → Hp → Prop, (∃ m, W 0 m [] (upd H1 D (.lst []))) ∧
  ∀ i m ys H2, W i m ys H2 → H2 D = some (.lst ys) ∧ ((J.stop i H2 ∧ Q (.ref D) H2) ∨ (J.go i H2 ∧ ys.length < sizeLine ∧
    ∀ x H3, J.yld i H2 x H3 → ∀ os : St, os.length = k → g x (os ++ capS js σ) H3 fun σ2 H0 => (∃ os' : St, os'.length = k ∧ σ2 = os' ++ capS js σ) ∧ tt σ2 H0 fun b H5 => (b = false → ∃ m', m' < m ∧ W (i + 1) m' ys H5) ∧
      (b = true → te σ2 H5 fun y H4 => H4 D = some (.lst ys) ∧ ∃ m', m' < m ∧ W (i + 1) m' (ys ++ [y]) (upd H4 D (.lst (ys ++ [y]))))))
section
variable {X : Cx} {pins : List (Addr × Obj)} {σ : St} {H : Hp} {s : Shared} {sc : Scope} {cl : List (Str × Addr)} {ts zs : List Str} {js : List Nat} {C : Addr} {fp : List Addr}
theorem compG_ok (I : Inv X pins σ H s) (S : CompG X sc cl ts zs js) (hf : ∀ b ∈ fp, FpOk X pins H b ∧ b < s.heap.objs.size) (hC : s.heap.objs.size ≤ C) : (compCx X sc cl (ts ++ zs) s H C fp).Ok := by
  refine ⟨I.ok.mod, S.kind, I.ok.glob, I.ok.blt, hC, fun y z c h1 h2 => I.ok.inj y z c (S.sub _ _ h1) (S.sub _ _ h2), fun z h => S.has z h, (fun _ _ h => nomatch h), I.ok.hd, I.ok.frames, .inl rfl, fun b hb => ?_, I.bs, ?_, fun b o e hb => ?_, fun b hb hs => ?_, I.stack, I.stkFree⟩
  · obtain ⟨⟨_, h1, _, _, h4, _⟩, h6⟩ := hf b hb
    exact ⟨fun e => absurd h6 (Nat.not_lt.mpr (by rw [show b = C from e]; exact hC)), fun z c e => h4 z c (S.sub _ _ e)⟩
  · exact Nat.le_trans I.ok.bsz I.sz
  · obtain ⟨⟨_, _, _, h3, _⟩, _⟩ := hf b hb
    rcases h3 with h | h
    · exact I.ok.noex b o e h
    · exact absurd (Heap.lt_size e) (Nat.not_lt.mpr (Nat.le_trans I.ok.bsz h))
  · obtain ⟨⟨_, h1, h2, _⟩, _⟩ := hf b hb
    rcases List.mem_cons.mp (I.stkSub b hs) with e | e
    · exact h1 e
    · exact h2 e
theorem compG_start {s1 : Shared} (I : Inv X pins σ H s) (S : CompG X sc cl ts zs js) (hf : ∀ b ∈ fp, FpOk X pins H b ∧ b < s.heap.objs.size) (hC : s.heap.objs.size ≤ C) (ho : s1.os = s.os) (hg : s1.gens = s.gens)
    (hk : ∀ b o, s.heap.get? b = some o → s1.heap.get? b = some o) {m : Str → Option Value} (hn : s1.heap.Ns C m) : Inv (compCx X sc cl (ts ++ zs) s H C fp) [] (List.replicate ts.length none ++ capS js σ) H s1 := by
  refine ⟨compG_ok I S hf hC, ho, by rw [hg]; exact I.bare, Un.kept hk, ⟨m, hn, fun i y v h1 h2 h3 => ?_⟩, fun z c e => ?_, I.hok.fresh hC, fun z c e => I.freeC z c (S.sub _ _ e), fun p hp => absurd (show p ∈ ([] : List (Addr × Obj)) from hp) (by simp), I.hok.kept hk, ?_⟩
  · rcases Nat.lt_or_ge i ts.length with lt | ge
    · rw [List.getElem?_append_left (by rw [List.length_replicate]; exact lt), List.getElem?_replicate, if_pos lt] at h2
      cases h2
    · have h1' : zs[i - ts.length]? = some y := by
        have h1'' : (ts ++ zs)[i]? = some y := h1
        rw [List.getElem?_append_right ge] at h1''
        exact h1''
      obtain ⟨j, hj, hN, hv, nl, k'⟩ := S.cap _ y h1'
      have h2' : (capS js σ)[i - ts.length]? = some (some v) := by
        rw [List.getElem?_append_right (by rw [List.length_replicate]; exact ge), List.length_replicate] at h2
        exact h2
      have h5 : σ[j]? = some (some v) := by
        unfold capS at h2'
        rw [List.getElem?_map, hj] at h2'
        have h6 : (σ[j]?).join = some v := Option.some.inj h2'
        cases e : σ[j]? with
        | none => rw [e] at h6; cases h6
        | some o => rw [e] at h6; exact congrArg some h6
      obtain ⟨m0, hn0, hl⟩ := I.loc
      obtain ⟨u, ru, lk⟩ := hl j y v hN h5 hv
      refine ⟨u, ru, ?_⟩
      rcases lk with ⟨k1, _⟩ | ⟨_, c, ec, hc⟩
      · exact absurd k1 nl
      · obtain ⟨c', ec'⟩ := S.has y k'
        have e2 := S.sub _ _ ec'
        rw [ec] at e2
        cases e2
        exact .inr ⟨k', c, ec', hc.keeps hk⟩
  · obtain ⟨v, hv⟩ := I.cell z c (S.sub _ _ e)
    exact ⟨v, hv.keeps hk⟩
  · show (List.replicate ts.length none ++ capS js σ : St).length = (ts ++ zs).length
    unfold capS
    rw [List.length_append, List.length_append, List.length_map, List.length_replicate, S.len]
theorem compG_end {s1 : Shared} {σ' : St} {H' : Hp} {h' : Heap} (I : Inv X pins σ H s) (hf : ∀ b ∈ fp, FpOk X pins H b ∧ b < s.heap.objs.size) (hC : s.heap.objs.size ≤ C) (J : Inv (compCx X sc cl (ts ++ zs) s H C fp) [] σ' H' s1)
    (hs : Heap.SameBut C s1.heap h') : Inv X pins σ H' { s1 with heap := h' } := by
  have old : ∀ b o, s1.heap.get? b = some o → b ≠ C → h'.get? b = some o := fun b o e n => (hs.2 b n).trans e
  have lt : ∀ {b o}, s.heap.get? b = some o → b ≠ C := fun {b o} e z => by
    have q := Heap.lt_size e
    rw [z] at q
    exact absurd q (Nat.not_lt.mpr hC)
  have B := J.base
  refine I.call' (s' := { s1 with heap := h' }) (ch := fp) J.os ⟨fun b o e n hb hx => old b o (B.keep b o e n hb hx) (lt e), fun b o e n hb hx => ?_, B.free, fun b o e hx => ?_, B.tups, B.frzs, B.tbls, B.sys⟩ (fun b o e => ?_) J.bare fun b hb => ?_
  · obtain ⟨sl, q⟩ := B.slot b o e n hb hx
    exact ⟨sl, old _ _ q (lt e)⟩
  · obtain ⟨o', q⟩ := B.there b o e hx
    exact ⟨o', old _ _ q (lt e)⟩
  · have nC : ∀ c u, H' c = some u → c ≠ C := fun c u q z => by
      have f : H' C = none := J.free
      rw [z, f] at q; cases q
    refine (J.hok b o e).stay (fun c v hc q => old c v q ?_) (fun _ q => q) fun _ _ q => q
    rcases hc with rfl | hc
    · exact nC _ _ e
    · exact nC _ _ hc
  · obtain ⟨⟨_, h1, _, h3, h4, h5⟩, _⟩ := hf b hb
    exact ⟨h3, h1, h4, h5⟩
end
section
variable {X : Cx} {sc : Scope} {cl : List (Str × Addr)} {ts zs : List Str} {js : List Nat} {elt iter : Expr} {pos : Pos} {tg : Expr} {g : TG} {wi : TI} {te : TE}
theorem pe_lcG (hc : X.calm = true) (S : CompG X sc cl ts zs js) (hi : PI X tg iter wi) (hg : ∀ s H C fp, PG (compCx X sc cl (ts ++ zs) s H C fp) tg g) (he : ∀ s H C fp, PE (compCx X sc cl (ts ++ zs) s H C fp) elt te)
    (hs : ∀ v, foldedSetIterable iter X.env v = pure v := by intro _; rfl) : PE X (.ListComp elt [⟨tg, iter, [], 0⟩] sc pos) (tLCG wi ts.length js g te) := by
  intro pins s σ H Q I h
  rw [eval_ListComp]
  refine wpAny_comprehension_free (use := none) rfl hs S.clos S.kind S.names (thn (hi pins s σ H _ I h) fun v s1 h1 => thn h1 fun itv s2 h2 => ?_)
  obtain ⟨it, fp, tn, J, H2, e, I2, T, st2, f2, body⟩ := h2
  subst e
  have fr2 : H2 s2.heap.objs.size = none := I2.fresh
  obtain ⟨W, ⟨m0, w0⟩, turn⟩ := body _ fr2
  refine wpAny_newObj_type ?_
  have I3 : Inv X pins σ (upd H2 s2.heap.objs.size (.lst [])) { s2 with heap := s2.heap.push { cls := .type "list", data := .seq ([] : List Value).toArray } } := I2.lnew (t' := s2.toks) (ys := []) (its := []) .nil (Nat.zero_le _)
  refine wpAny_newFunctionEnv S.noCell (by intro y hy; simp at hy) (fun h₁ hn hsb => ?_) S.kind
  generalize hs3 : ({ s2 with heap := s2.heap.push { cls := .type "list", data := .seq ([] : List Value).toArray } } : Shared) = s3 at I3 hn hsb ⊢
  have fpl : ∀ b ∈ fp, FpOk X pins (upd H2 s2.heap.objs.size (.lst [])) b ∧ b < s3.heap.objs.size := fun b hb => by
    obtain ⟨o, ho, _⟩ := T.obj _ _ st2 b hb
    have hl := Heap.lt_size ho
    have hne : b ≠ s2.heap.objs.size := Nat.ne_of_lt hl
    obtain ⟨z1, z2⟩ := f2 b hb
    refine ⟨⟨by rw [upd_ne hne]; exact z1, z2⟩, ?_⟩
    rw [← hs3]
    show b < (s2.heap.push _).objs.size
    rw [Heap.size_push]
    exact Nat.lt_succ_of_lt hl
  have old : ∀ b o, s3.heap.get? b = some o → h₁.get? b = some o := fun b o e => hsb.extBut b o (Nat.ne_of_lt (Heap.lt_size e)) (Heap.get?_push_of_some _ e)
  have loop : ∀ sS : Shared, sS.heap = h₁ → sS.os = s3.os → sS.gens = s3.gens → codeAny (model X.prog X.w) X.A (.compLoop (.ListComp elt [⟨tg, iter, [], 0⟩] sc pos) 0 (.ref it) (.ref s2.heap.objs.size) (compEnvC sc cl s3.heap.objs.size X.env))
      (compPost (model X.prog X.w) X.A X.xe none (EP X pins σ Q) (.ref s2.heap.objs.size) s3.heap.objs.size) sS := by
    intro sS eh eo eg
    subst eh
    have J0 : Inv (compCx X sc cl (ts ++ zs) s3 (upd H2 s2.heap.objs.size (.lst [])) s3.heap.objs.size fp) [] (List.replicate ts.length none ++ capS js σ) (upd H2 s2.heap.objs.size (.lst [])) sS := compG_start I3 S fpl (Nat.le_refl _) eo eg old hn
    generalize hX : compCx X sc cl (ts ++ zs) s3 (upd H2 s2.heap.objs.size (.lst [])) s3.heap.objs.size fp = X' at J0
    have stat : ∀ {H' : Hp}, (∀ b ∈ fp, H' b = none) → ∀ b ∈ fp, FpOk X' [] H' b := fun {H'} hn b hb => by
      subst hX
      obtain ⟨⟨_, z1, z2, z3, z4, z5⟩, z6⟩ := fpl b hb
      refine ⟨hn b hb, Nat.ne_of_lt z6, fun q => ?_, .inl hb, fun y c e => z4 y c (S.sub _ _ e), fun p hp => absurd (show p ∈ ([] : List (Addr × Obj)) from hp) (by simp)⟩
      rcases List.mem_cons.mp (I3.stkSub b q) with e | e
      · exact z1 e
      · exact z2 e
    have st3 : tn 0 sS.heap := T.keep _ _ _ st2 fun b hb o e => old b o (by rw [← hs3]; exact Heap.get?_push_of_some _ e)
    refine compLoopT (fun n s' => ∃ i ys os H', os.length = ts.length ∧ Inv X' [] (os ++ capS js σ) H' s' ∧ tn i s'.heap ∧ (∀ b ∈ fp, H' b = none) ∧ W i n ys H') ?_ m0 ⟨0, [], _, _, List.length_replicate, J0, st3, fun b hb => (fpl b hb).1.1, w0⟩
    rintro n s' ⟨i, ys, os, H', los, Iv, st, fr, w⟩
    obtain ⟨hD, alt⟩ := turn i n ys H' w
    have eP : X'.prog = X.prog := by subst hX; rfl
    have eW : X'.w = X.w := by subst hX; rfl
    have eK : X'.K = X.K := by subst hX; rfl
    have eC : X'.calm = true := by subst hX; exact hc
    have eA : X'.A = X.A := by subst hX; rfl
    have eE : X'.env = compEnvC sc cl s3.heap.objs.size X.env := by subst hX; rfl
    have eX : X'.xe = fun _ _ => False := by subst hX; rfl
    rcases alt with ⟨stop, q⟩ | ⟨go, hlen, step⟩
    · have d := T.done X' eP eW eK eC i [] s' _ H' (fun _ _ => False) Iv (stat fr) st stop
      rw [eA] at d
      refine thn d fun r s4 ⟨hr, I4⟩ => ?_
      subst hr
      obtain ⟨m, hm, _⟩ := id I4.loc
      rw [eE] at hm
      subst hX
      exact ⟨m, hm, fun h' hs' => ⟨.ref s2.heap.objs.size, H', compG_end I3 fpl (Nat.le_refl _) I4 hs', rfl, q⟩⟩
    · have d := T.item X' eP eW eK eC i [] s' _ H' (fun _ _ => False) Iv (stat fr) st go
      rw [eA] at d
      refine thn d fun r s4 ⟨u, hr, h4⟩ => ?_
      subst hr
      refine thn h4 fun _ s5 ⟨y, H5, I5, r5, y5, st5, fr5⟩ => ?_
      have I5' := I5.pinned (stat fr5) (T.obj _ _ st5)
      have hg' : PG X' tg g := by subst hX; exact hg _ _ _ _
      have g6 := hg' _ s5 _ H5 y u _ I5' r5 (step y H5 y5 os los)
      rw [eP, eW, eA, eE, eX] at g6
      refine thn g6 fun _ s6 ⟨σ6, H6, I6, ⟨os', los', e6⟩, st6⟩ => ?_
      subst e6
      have he' : PE X' elt te := by subst hX; exact he _ _ _ _
      have g7 := he' _ s6 _ H6 _ I6 st6
      rw [eP, eW, eA, eE, eX] at g7
      refine thn g7 fun uv s7 ⟨v7, H7, I7, r7, hD7, m', hm', w7⟩ => ?_
      have g8 := (mt_append (X := X')) _ s7 _ H7 (.ref s2.heap.objs.size) [v7] (.ref s2.heap.objs.size) [uv] (fun _ H8 => H8 = upd H7 s2.heap.objs.size (.lst (ys ++ [v7]))) I7 rfl (.cons r7 .nil) ⟨_, ys, v7, rfl, rfl, hD7, hlen, rfl⟩
      rw [eP, eW, eA, eX] at g8
      refine thn g8 fun _ s8 ⟨_, H8, I8, _, e8⟩ => ?_
      subst e8
      refine ⟨m', hm', i + 1, ys ++ [v7], os', _, los', I8.unpinned, T.keep _ _ _ st5 fun b hb o e => (I8.pin (b, o) (List.mem_append_right _ (List.mem_append_right _ (mem_pinsAt hb e)))).1, fun b hb => ?_, w7⟩
      obtain ⟨o', e', _⟩ := T.obj _ _ st5 b hb
      exact (I8.pin (b, o') (List.mem_append_right _ (List.mem_append_right _ (mem_pinsAt hb e')))).2.1
  have st1 : tn 0 h₁ := T.keep _ _ _ st2 fun b hb o e => old b o (by rw [← hs3]; exact Heap.get?_push_of_some _ e)
  exact codeAny_compStart_list (loop _ rfl rfl rfl) (T.self _ 0 _ _ _ st1 (loop _ rfl rfl rfl))
end
section
variable {X : Cx} {sc : Scope} {cl : List (Str × Addr)} {ts zs : List Str} {js : List Nat} {elt iter c : Expr} {pos : Pos} {tg : Expr} {g : TG} {wi : TI} {te : TE} {tt : TT}
end
end My
set_option Elab.async false
set_option linter.all false
set_option maxRecDepth 100000
set_option maxHeartbeats 1000000
namespace My
open PySem L2
section
variable {X : Cx}
theorem all_range : ∀ (xs : List Bool), (List.range xs.length).all (fun i => xs.getD i false) = xs.all id
  | [] => rfl
  | x :: xs => by
    have ih := all_range xs
    rw [List.length_cons, List.range_succ_eq_map, List.all_cons, List.all_map, List.all_cons, ← ih]
    rfl
def rAll (K : PySem.W.Frag) : List V → Hp → VK → Prop := fun vs H Q => ∃ (l : Addr) (xs : List Bool), vs = [.ref l] ∧ SqL K H l (xs.map V.bl) ∧ Q (.bl (xs.all id)) H
theorem call_all (hc : X.calm = true) : CallR X (.builtin "all") (rAll X.K) := by
  intro pins s σ H vs us Q I r h
  obtain ⟨l, xs, rfl, hl, q⟩ := h
  obtain ⟨u, rfl, ru⟩ := vals1 r
  cases (show u = Value.ref l from ru)
  obtain ⟨its, rv, t, hz⟩ := I.list hl
  have ll : l < s.heap.objs.size := by obtain ⟨_, e, _⟩ := t.isList; exact Heap.lt_size e
  have len := rv.length
  rw [List.length_map] at len
  refine call_all_walk (wpAny_pyIter_list t.isList ?_)
  refine ⟨s.heap.objs.size, [s.heap.objs.size, l], [s.heap.objs.size], its.toArray.size, (fun i v => its.toArray[i]? = some v), _, fun i => xs.getD i false, rfl, Walks.list (A := X.A.in1) (I.ok.hd hc) s.heap.objs.size l (Nat.ne_of_lt ll) its.toArray,
    ⟨⟨_, Heap.get?_push_size _ rfl, rfl, rfl⟩, t.isList.push _⟩, fun i v s' Q' E' hv hq => ?_, fun h' tk hk => ⟨.bl _, H, I.kept (h' := h') (t' := tk) (fun b o e => hk b o (fun m => ?_) (Heap.get?_push_of_some _ e)), ?_, q⟩⟩
  · have hv' : its[i]? = some v := by simpa using hv
    have lt : i < its.length := (List.getElem?_eq_some_iff.mp hv').1
    have lt2 : i < xs.length := by omega
    obtain ⟨u1, e1, q1⟩ := rv.get (i := i) (x := V.bl xs[i]) (by rw [List.getElem?_map, List.getElem?_eq_getElem lt2]; rfl)
    rw [hv'] at e1
    cases e1
    cases (show v = Value.bool xs[i] from q1)
    refine wpAny_truthy_bool ?_
    have e : xs.getD i false = xs[i] := by simp [lt2]
    rw [← e]
    exact hq
  · rcases List.mem_cons.mp m with e2 | m
    · exact absurd (Heap.lt_size e) (by rw [e2]; exact Nat.lt_irrefl _)
    · cases m
  · show Value.bool _ = Value.bool _
    have e := all_range xs
    rw [← e, List.size_toArray, ← len]
theorem eqVs_refl : ∀ {xs : List V}, xs.all flatV = true → eqVs xs xs = true
  | [], _ => rfl
  | x :: xs, h => by
    rw [List.all_cons, Bool.and_eq_true] at h
    show (eqV x x && eqVs xs xs) = true
    rw [eqV_refl h.1, eqVs_refl h.2]
    rfl
theorem tup_eqAt {pins : List (Addr × Obj)} {σ : St} {H : Hp} {s : Shared} {A : Around} {p q : Addr} {xs ys : List V} (I : Inv X pins σ H s) (hu : A.units < cLine) (hp : SqT X.K H p xs) (hq : SqT X.K H q ys) (f1 : xs.all flatV = true) (f2 : ys.all flatV = true) :
    SeqAt.EqAt A s (.ref p) (.ref q) (eqVs xs ys) := by
  by_cases e : p = q
  · subst e
    have := I.tuple_inj hp hq
    subst this
    rw [eqVs_refl f1]
    exact SeqAt.EqAt.same _
  · obtain ⟨its, r1, t1, _⟩ := I.tuple hp
    obtain ⟨jts, r2, t2, _⟩ := I.tuple hq
    have a := SeqAt.RcAt.tuples t1 t2 hu (tup_eqs (A := A.in1) (pins := pins) (σ := σ) (H := H) (s := s) r1 r2 f1 f2)
    have z := eqVs_all xs ys
    rw [r1.length, r2.length] at z
    rw [List.size_toArray, List.size_toArray, z] at a
    exact .of_refs e a
def rCountT (K : PySem.W.Frag) : V → List V → Hp → VK → Prop := fun x vs H Q => ∃ (l q : Addr) (as : List (Addr × List V)) (ys : List V), x = .ref l ∧ vs = [.ref q] ∧ SqL K H l (as.map fun z => V.ref z.1) ∧ (∀ z ∈ as, SqT K H z.1 z.2 ∧ z.2.all flatV = true) ∧ SqT K H q ys ∧ ys.all flatV = true ∧ Q (.int (as.countP fun z => eqVs z.2 ys : Nat)) H
theorem mt_countT (hu : X.A.units + 1 < cLine) : MtR X "list.count" (rCountT X.K) := by
  intro pins s σ H x vs v us Q I rx rv h
  obtain ⟨l, q, as, ys, rfl, rfl, hl, hz, hq, f2, k⟩ := h
  cases rx
  obtain ⟨u, rfl, ru⟩ := vals1 rv
  cases (show u = Value.ref q from ru)
  obtain ⟨its, r, t, hz0⟩ := I.list hl
  obtain ⟨⟨c, dd, dt, sl⟩, h1, hc, n, hd⟩ := t.isList
  replace hc : c = .type "list" := hc
  replace hd : dt = .seq its.toArray n := hd
  subst hc hd
  have get : ∀ (i : Nat) (hi : i < its.length), ∃ z ∈ as, as[i]? = some z ∧ its[i] = Value.ref z.1 := fun i hi => by
    have k1 : i < as.length := by have := r.length; rw [List.length_map] at this; omega
    obtain ⟨u1, e1, q1⟩ := r.get (i := i) (x := V.ref as[i].1) (by rw [List.getElem?_map, List.getElem?_eq_getElem k1]; rfl)
    rw [List.getElem?_eq_getElem hi] at e1
    cases e1
    exact ⟨as[i], List.getElem_mem k1, List.getElem?_eq_getElem k1, q1⟩
  let e : Value → Bool := fun z => as.any fun a => z == Value.ref a.1 && eqVs a.2 ys
  have ee : ∀ z ∈ as, e (Value.ref z.1) = eqVs z.2 ys := fun z hz' => by
    show (as.any fun a => Value.ref z.1 == Value.ref a.1 && eqVs a.2 ys) = _
    cases b : eqVs z.2 ys with
    | true =>
      rw [List.any_eq_true]
      exact ⟨z, hz', by rw [b, beq_self_eq_true]; rfl⟩
    | false =>
      rw [List.any_eq_false]
      intro a ha
      intro c
      rw [Bool.and_eq_true] at c
      have c1 : z.1 = a.1 := Value.ref.inj (beq_iff_eq.mp c.1)
      have t1 := (hz z hz').1
      have t2 := (hz a ha).1
      rw [c1] at t1
      have := I.tuple_inj t1 t2
      rw [this, c.2] at b
      cases b
  refine call_meets F.slot_list_count ⟨_, h1, rfl⟩ F.entry_list_count (F.args_list_count_2 _ _) (SeqAt.list_countAt l its.toArray n dd sl (Value.ref q) e) ⟨h1, fun z hz' => ?_, ?_⟩
  · obtain ⟨i, hi, ez⟩ := List.getElem_of_mem (show z ∈ its by simpa using hz')
    obtain ⟨y, hy, _, ey⟩ := get i hi
    rw [ez] at ey
    subst ey
    rw [ee y hy]
    exact tup_eqAt I (by show X.A.in1.units < cLine; rw [in1_units]; exact hu) (hz y hy).1 hq (hz y hy).2 f2
  · refine ⟨.int _, H, I.tok _, ⟨_, rfl⟩, ?_⟩
    have z : its.toArray.toList.countP e = as.countP fun z => eqVs z.2 ys := by
      rw [List.toList_toArray]
      have gen : ∀ (bs : List (Addr × List V)) (js : List Value), (∀ z ∈ bs, z ∈ as) → Vals (bs.map fun z => V.ref z.1) js → js.countP e = bs.countP fun z => eqVs z.2 ys := by
        intro bs
        induction bs with
        | nil =>
          intro js _ rj
          cases rj
          rfl
        | cons b bs ih =>
          intro js sub rj
          rw [List.map_cons] at rj
          cases rj with
          | cons q1 rj =>
            cases (show _ = Value.ref b.1 from q1)
            rw [List.countP_cons, List.countP_cons, ih _ (fun z hz => sub z (List.mem_cons_of_mem _ hz)) rj, ee b (sub b (List.mem_cons_self ..))]
      exact gen as its (fun _ h => h) r
    rw [z]
    exact k
end
section
variable {X : Cx} {σ : St}
def PXSs (X : Cx) (σ : St) (sts : List Stmt) (t : TS) : Prop := ∀ (pins : List (Addr × Obj)) (s : Shared) (H : Hp) (D : Ends), Inv X pins σ H s → t D σ H → wpAny (model X.prog X.w) X.A (execs sts X.env) (SP X pins D) X.xe s
def tSeqX (σ : St) (t u : TS) : TS := fun D σ' H => t { D with nx := fun σ1 H1 => σ1 = σ ∧ u D σ1 H1 } σ' H
theorem pxss_nil : PXSs X σ [] tNext := fun _ _ H _ I h => wpAny_execs_nil ⟨σ, H, I, h⟩
theorem pxss_cons {st : Stmt} {rest : List Stmt} {t u : TS} (h1 : PXS X σ st t) (h2 : PXSs X σ rest u) : PXSs X σ (st :: rest) (tSeqX σ t u) := by
  intro pins s H D I h
  refine wpAny_execs_cons (thn (h1 pins s H _ I h) fun f s1 q => ?_)
  cases f with
  | next =>
    obtain ⟨σ1, H1, I1, e, q⟩ := q
    subst e
    exact h2 pins s1 H1 D I1 q
  | ret v => exact q
  | brk => exact q
  | cont => exact q
theorem pxss_one {st : Stmt} {t : TS} (h1 : PXS X σ st t) : PXSs X σ [st] t := by
  intro pins s H D I h
  refine wpAny_execs_cons (thn (h1 pins s H _ I h) fun f s1 q => ?_)
  cases f with
  | next => obtain ⟨σ1, H1, I1, q⟩ := q; exact wpAny_execs_nil ⟨σ1, H1, I1, q⟩
  | ret v => exact q
  | brk => exact q
  | cont => exact q
theorem pxs_if {c : Expr} {a b : List Stmt} {tc : TT} {t u : TS} {pos : Pos} (hc : PT X c tc) (ha : PXSs X σ a t) (hb : PXSs X σ b u) : PXS X σ (.If c a b pos) (tIfS tc t u) := by
  intro pins s H D I h
  refine wpAny_If (thn (hc pins s σ H _ I h) fun d s1 ⟨H1, I1, q1⟩ => ?_)
  cases d with
  | true => exact ha pins s1 H1 D I1 q1
  | false => exact hb pins s1 H1 D I1 q1
end
theorem ps_tryM {X : Cx} {sts : List Stmt} {tb : XK → St → TS} {th : TH} {h₀ : ExceptHandler} {hs : List ExceptHandler} {pos : Pos} (hS : X.stack = X.env :: X.outer) (hL : X.env.frame = some X.env.locals)
    (hb : ∀ (σ : St) (E : XK) (pn : List (Addr × Obj)) (xe : Value → Shared → Prop), PassX (CXE X.prog X.w) (tryCx X pn xe) σ E → PXSs (tryCx X pn xe) σ sts (tb E σ)) (hh : PHs X (h₀ :: hs) th) : PS X (.Try sts (h₀ :: hs) [] [] pos) (fun D σ H => tb (eTryN th D σ) σ D σ H) := by
  intro pins s σ H D I h
  refine wpAny_Try_except ?_
  have px := hb σ (eTryN th D σ) (X.pn ++ pins) (fun e s₁ => wpAny (model X.prog X.w) X.A (noteFrame e X.env) (fun _ s₂ => wpAny (model X.prog X.w) X.A (setFlight e none) (fun _ s₃ => wpAny (model X.prog X.w) X.A (handleBy e X.env (h₀ :: hs)) (SP X pins D) X.xe s₃) X.xe s₂) X.xe s₁) ?_
  · refine thn (px [] s H D (Inv.toTry I) h) fun f s1 q => ?_
    cases f with
    | next => exact wpAny_execs_nil (SP.ofTry (f := .next) q)
    | ret v => exact SP.ofTry (f := .ret v) q
    | brk => exact SP.ofTry (f := .brk) q
    | cont => exact SP.ofTry (f := .cont) q
  intro pins' H1 s1 ev s' I1 h1
  obtain ⟨x, C, dx, fs, H', rfl, os, bare, un, hok, hx, hdx, ⟨t, T, oT, ts, e1, e2, _, e4, e5, e6, e7⟩, x', C', ec, eo, q⟩ := h1
  cases ec
  cases eo
  have J : Inv X pins σ H' s' := Inv.ofTry (I1.call' os un hok bare (fun b z => absurd z (by simp)))
  have hA : X.A.frames = some (X.env :: X.outer) := by rw [← hS]; exact J.ok.frames
  have hF : s'.heap.FunFrames X.base (X.env :: X.outer) := by rw [← hS]; exact J.stack
  refine note_exact hA hF hL e1 rfl (.inr ⟨T, oT, ts, rfl, e2, e5, e6, e7⟩) fun h' T' l => ?_
  refine l.flight rfl (by show 1 < 6; decide) _ rfl fun h2 l2 => ?_
  have J2 := Inv.left J hS hx ⟨_, rfl⟩ e1 l2
  rw [upd_id hx] at J2
  have ex2 : h2.get? x = some (errW C (some dx) t (.ref T')) := l2.exc
  obtain ⟨oT', ts', f1, f2, f3, f4⟩ := l2.trc
  exact hh pins _ σ H' D x C ⟨J2, ⟨dx, fs, hx, hdx⟩, some dx, t, T', oT', ts', ex2, f1, f2, f3⟩ q
end My
set_option Elab.async false
set_option linter.all false
set_option maxRecDepth 100000
set_option maxHeartbeats 1000000
namespace My
open PySem PySem.W L2
section
variable {K : Frag} {te : TE} {tt : TT} {g : TG} {k : Nat} {cap : St} {D : Addr} {H1 : Hp} {Q : Hp → Prop} {a : Addr} {xs : List V}
theorem lcG_list (Pv : Nat → List V → Hp → Prop) (hz : xs.length < sizeLine) (h0 : Pv 0 [] (upd H1 D (.lst [])))
    (hl : ∀ i ys H, Pv i ys H → SqL K H a xs)
    (hs : ∀ i x ys H, xs[i]? = some x → ys.length = i → H D = some (.lst ys) → Pv i ys H → ∀ os : St, os.length = k → ∀ R : VK, (∀ y H4, H4 D = some (.lst ys) → Pv (i + 1) (ys ++ [y]) (upd H4 D (.lst (ys ++ [y]))) → R y H4) → g x (os ++ cap) H fun σ2 H0 => (∃ os' : St, os'.length = k ∧ σ2 = os' ++ cap) ∧ te σ2 H0 R)
    (hd : ∀ ys H, ys.length = xs.length → H D = some (.lst ys) → Pv xs.length ys H → Q H) :
    ∃ W : Nat → Nat → List V → Hp → Prop, (∃ m, W 0 m [] (upd H1 D (.lst []))) ∧
      ∀ i m ys H2, W i m ys H2 → H2 D = some (.lst ys) ∧ (((Itl K a).stop i H2 ∧ Q H2) ∨ ((Itl K a).go i H2 ∧ ys.length < sizeLine ∧
        ∀ x H3, (Itl K a).yld i H2 x H3 → ∀ os : St, os.length = k → g x (os ++ cap) H3 fun σ2 H0 => (∃ os' : St, os'.length = k ∧ σ2 = os' ++ cap) ∧ te σ2 H0 fun y H4 => H4 D = some (.lst ys) ∧ ∃ m', m' < m ∧ W (i + 1) m' (ys ++ [y]) (upd H4 D (.lst (ys ++ [y]))))) := by
  refine ⟨fun i m ys H => m = xs.length - i ∧ i ≤ xs.length ∧ ys.length = i ∧ H D = some (.lst ys) ∧ Pv i ys H, ⟨xs.length, by simp, Nat.zero_le _, rfl, upd_same, h0⟩, ?_⟩
  rintro i m ys H ⟨rfl, hi, hy, hD, p⟩
  refine ⟨hD, ?_⟩
  have q := hl i ys H p
  by_cases hlt : i < xs.length
  · refine .inr ⟨⟨xs, xs[i], q, by simp [hlt]⟩, by omega, fun x H' y => ?_⟩
    obtain ⟨e, y⟩ := y
    subst e
    exact fun os los => hs i x ys _ (y xs q) hy hD p os los _ fun z H4 hD4 p4 => ⟨hD4, xs.length - (i + 1), by omega, rfl, hlt, by rw [List.length_append, hy]; rfl, upd_same, p4⟩
  · have e : i = xs.length := by omega
    subst e
    exact .inl ⟨⟨xs, q, Nat.le_refl _⟩, hd ys H hy hD p⟩
theorem lcG_enum (Pv : Nat → List V → Hp → Prop) (hz : xs.length < sizeLine) (h0 : Pv 0 [] (upd H1 D (.lst [])))
    (hl : ∀ i ys H, Pv i ys H → SqL K H a xs)
    (hs : ∀ i x ys H p, xs[i]? = some x → ys.length = i → H D = some (.lst ys) → Pv i ys H → H p = none → ∀ os : St, os.length = k → ∀ R : VK, (∀ y H4, H4 D = some (.lst ys) → Pv (i + 1) (ys ++ [y]) (upd H4 D (.lst (ys ++ [y]))) → R y H4) → g (.ref p) (os ++ cap) (upd H p (.tup [.int (i : Nat), x])) fun σ2 H0 => (∃ os' : St, os'.length = k ∧ σ2 = os' ++ cap) ∧ te σ2 H0 R)
    (hd : ∀ ys H, ys.length = xs.length → H D = some (.lst ys) → Pv xs.length ys H → Q H) :
    ∃ W : Nat → Nat → List V → Hp → Prop, (∃ m, W 0 m [] (upd H1 D (.lst []))) ∧
      ∀ i m ys H2, W i m ys H2 → H2 D = some (.lst ys) ∧ (((Ite K a).stop i H2 ∧ Q H2) ∨ ((Ite K a).go i H2 ∧ ys.length < sizeLine ∧
        ∀ x H3, (Ite K a).yld i H2 x H3 → ∀ os : St, os.length = k → g x (os ++ cap) H3 fun σ2 H0 => (∃ os' : St, os'.length = k ∧ σ2 = os' ++ cap) ∧ te σ2 H0 fun y H4 => H4 D = some (.lst ys) ∧ ∃ m', m' < m ∧ W (i + 1) m' (ys ++ [y]) (upd H4 D (.lst (ys ++ [y]))))) := by
  refine ⟨fun i m ys H => m = xs.length - i ∧ i ≤ xs.length ∧ ys.length = i ∧ H D = some (.lst ys) ∧ Pv i ys H, ⟨xs.length, by simp, Nat.zero_le _, rfl, upd_same, h0⟩, ?_⟩
  rintro i m ys H ⟨rfl, hi, hy, hD, p⟩
  refine ⟨hD, ?_⟩
  have q := hl i ys H p
  by_cases hlt : i < xs.length
  · refine .inr ⟨⟨xs, xs[i], q, by simp [hlt]⟩, by omega, fun x H' y => ?_⟩
    obtain ⟨p', z, rfl, hp', rfl, hz'⟩ := y
    exact fun os los => hs i z ys H p' (hz' xs q) hy hD p hp' os los _ fun z H4 hD4 p4 => ⟨hD4, xs.length - (i + 1), by omega, rfl, hlt, by rw [List.length_append, hy]; rfl, upd_same, p4⟩
  · have e : i = xs.length := by omega
    subst e
    exact .inl ⟨⟨xs, q, Nat.le_refl _⟩, hd ys H hy hD p⟩
end
end My
set_option Elab.async false
set_option linter.all false
set_option maxRecDepth 100000
set_option maxHeartbeats 4000000
namespace My
open PySem L2
section
variable {X : Cx} {sc : Scope} {cl : List (Str × Addr)} {ts zs : List Str} {js : List Nat} {elt iter c : Expr} {pos : Pos} {tg : Expr} {g : TG} {wi : TI} {te : TE} {tt : TT}
theorem ps_lcG {y : Str} {py spos : Pos} {iy : Nat} (hc : X.calm = true) (S : CompG X sc cl ts zs js) (hi : PI X tg iter wi) (hg : ∀ s H C fp, PG (compCx X sc cl (ts ++ zs) s H C fp) tg g) (he : ∀ s H C fp, PE (compCx X sc cl (ts ++ zs) s H C fp) elt te)
    (hN : X.N.Nodup) (hiy : X.N[iy]? = some y) (hy : Loc X.env.scope y) (hsw : swapsWith (.ListComp elt [⟨tg, iter, [], 0⟩] sc pos) (some (.Name y py)) spos.line X.env = pure true)
    (hf : X.fn y = true ∨ X.env.scope.names.lookup y = some .local := by first | exact .inl rfl | exact .inr rfl | assumption)
    (hs : ∀ v, foldedSetIterable iter X.env v = pure v := by intro _; rfl) : PS X (.Assign [.Name y py] (.ListComp elt [⟨tg, iter, [], 0⟩] sc pos) spos) (tAsg (tLCG wi ts.length js g te) (gName iy)) := by
  intro pins s σ H De I h
  rw [exec_Assign_Name_used _ _ _ _ hsw]
  refine wpAny_bind (wpAny_standAt (wpAny_bind ?_))
  show wpAny _ _ (do let _ ← comprehension (.ListComp elt [⟨tg, iter, [], 0⟩] sc pos) sc X.env _ (newList []) false (eval iter X.env) (some (assign (.Name y py) X.env))) _ _ s
  refine wpAny_bind (wpAny_mono (wpAny_comprehension_free (use := some (assign (.Name y py) X.env)) (Q := fun _ s' => SP X pins De .next s') rfl hs S.clos S.kind S.names ?_) (fun _ s' hq => wpAny_pure (wpAny_pure hq)) fun _ _ e => e)
  refine (thn (hi pins s σ H _ I h) fun v s1 h1 => thn h1 fun itv s2 h2 => ?_)
  obtain ⟨it, fp, tn, J, H2, e, I2, T, st2, f2, body⟩ := h2
  subst e
  have fr2 : H2 s2.heap.objs.size = none := I2.fresh
  obtain ⟨W, ⟨m0, w0⟩, turn⟩ := body _ fr2
  refine wpAny_newObj_type ?_
  have I3 : Inv X pins σ (upd H2 s2.heap.objs.size (.lst [])) { s2 with heap := s2.heap.push { cls := .type "list", data := .seq ([] : List Value).toArray } } := I2.lnew (t' := s2.toks) (ys := []) (its := []) .nil (Nat.zero_le _)
  refine wpAny_newFunctionEnv S.noCell (by intro y hy; simp at hy) (fun h₁ hn hsb => ?_) S.kind
  generalize hs3 : ({ s2 with heap := s2.heap.push { cls := .type "list", data := .seq ([] : List Value).toArray } } : Shared) = s3 at I3 hn hsb ⊢
  have fpl : ∀ b ∈ fp, FpOk X pins (upd H2 s2.heap.objs.size (.lst [])) b ∧ b < s3.heap.objs.size := fun b hb => by
    obtain ⟨o, ho, _⟩ := T.obj _ _ st2 b hb
    have hl := Heap.lt_size ho
    have hne : b ≠ s2.heap.objs.size := Nat.ne_of_lt hl
    obtain ⟨z1, z2⟩ := f2 b hb
    refine ⟨⟨by rw [upd_ne hne]; exact z1, z2⟩, ?_⟩
    rw [← hs3]
    show b < (s2.heap.push _).objs.size
    rw [Heap.size_push]
    exact Nat.lt_succ_of_lt hl
  have old : ∀ b o, s3.heap.get? b = some o → h₁.get? b = some o := fun b o e => hsb.extBut b o (Nat.ne_of_lt (Heap.lt_size e)) (Heap.get?_push_of_some _ e)
  have loop : ∀ sS : Shared, sS.heap = h₁ → sS.os = s3.os → sS.gens = s3.gens → codeAny (model X.prog X.w) X.A (.compLoop (.ListComp elt [⟨tg, iter, [], 0⟩] sc pos) 0 (.ref it) (.ref s2.heap.objs.size) (compEnvC sc cl s3.heap.objs.size X.env))
      (compPost (model X.prog X.w) X.A X.xe (some (assign (.Name y py) X.env)) (fun _ s' => SP X pins De .next s') (.ref s2.heap.objs.size) s3.heap.objs.size) sS := by
    intro sS eh eo eg
    subst eh
    have J0 : Inv (compCx X sc cl (ts ++ zs) s3 (upd H2 s2.heap.objs.size (.lst [])) s3.heap.objs.size fp) [] (List.replicate ts.length none ++ capS js σ) (upd H2 s2.heap.objs.size (.lst [])) sS := compG_start I3 S fpl (Nat.le_refl _) eo eg old hn
    generalize hX : compCx X sc cl (ts ++ zs) s3 (upd H2 s2.heap.objs.size (.lst [])) s3.heap.objs.size fp = X' at J0
    have stat : ∀ {H' : Hp}, (∀ b ∈ fp, H' b = none) → ∀ b ∈ fp, FpOk X' [] H' b := fun {H'} hn b hb => by
      subst hX
      obtain ⟨⟨_, z1, z2, z3, z4, z5⟩, z6⟩ := fpl b hb
      refine ⟨hn b hb, Nat.ne_of_lt z6, fun q => ?_, .inl hb, fun y c e => z4 y c (S.sub _ _ e), fun p hp => absurd (show p ∈ ([] : List (Addr × Obj)) from hp) (by simp)⟩
      rcases List.mem_cons.mp (I3.stkSub b q) with e | e
      · exact z1 e
      · exact z2 e
    have st3 : tn 0 sS.heap := T.keep _ _ _ st2 fun b hb o e => old b o (by rw [← hs3]; exact Heap.get?_push_of_some _ e)
    refine compLoopT (fun n s' => ∃ i ys os H', os.length = ts.length ∧ Inv X' [] (os ++ capS js σ) H' s' ∧ tn i s'.heap ∧ (∀ b ∈ fp, H' b = none) ∧ W i n ys H') ?_ m0 ⟨0, [], _, _, List.length_replicate, J0, st3, fun b hb => (fpl b hb).1.1, w0⟩
    rintro n s' ⟨i, ys, os, H', los, Iv, st, fr, w⟩
    obtain ⟨hD, alt⟩ := turn i n ys H' w
    have eP : X'.prog = X.prog := by subst hX; rfl
    have eW : X'.w = X.w := by subst hX; rfl
    have eK : X'.K = X.K := by subst hX; rfl
    have eC : X'.calm = true := by subst hX; exact hc
    have eA : X'.A = X.A := by subst hX; rfl
    have eE : X'.env = compEnvC sc cl s3.heap.objs.size X.env := by subst hX; rfl
    have eX : X'.xe = fun _ _ => False := by subst hX; rfl
    rcases alt with ⟨stop, q⟩ | ⟨go, hlen, step⟩
    · have d := T.done X' eP eW eK eC i [] s' _ H' (fun _ _ => False) Iv (stat fr) st stop
      rw [eA] at d
      refine thn d fun r s4 ⟨hr, I4⟩ => ?_
      subst hr
      obtain ⟨m, hm, _⟩ := id I4.loc
      have fC : H' s3.heap.objs.size = none := by
        have z := I4.free
        rw [eE] at z
        exact z
      rw [eE] at hm
      subst hX
      have I5 : Inv X pins σ H' s4 := compG_end (h' := s4.heap) I3 fpl (Nat.le_refl _) I4 ⟨rfl, fun _ _ => rfl⟩
      show wpAny _ _ (assign (.Name y py) X.env (.ref s2.heap.objs.size)) _ _ s4
      have nC : ∀ b, b < s3.heap.objs.size → b ≠ s3.heap.objs.size := fun b hb => Nat.ne_of_lt hb
      have nL : X.env.locals ≠ s3.heap.objs.size := nC _ I3.lt
      have cl3 : ∀ z c, X.env.cells.lookup z = some c → c ≠ s3.heap.objs.size := fun z c e => by
        obtain ⟨v, o, ho, _⟩ := I3.cell z c e
        exact nC _ (Heap.lt_size ho)
      refine wpAny_assign_Name (store_ok2 I5 hN hiy hy (v := .ref s2.heap.objs.size) rfl (fun s5 I6 hb => ?_) hf)
      obtain ⟨a5, sb5, ha5⟩ := hb
      have na5 : s3.heap.objs.size ≠ a5 := by
        rcases ha5 with e | e
        · rw [e]; exact nL.symm
        · exact (cl3 _ _ e).symm
      refine ⟨m, hm.sameBut sb5 na5, fun h' hs' => ?_⟩
      have I7 : Inv X pins (σ.set iy (some (.ref s2.heap.objs.size))) H' { s5 with heap := h', toks := s5.toks } :=
        I6.turned (h' := h') (t' := s5.toks) (it := s3.heap.objs.size) (fun b o hb e => (hs'.2 b hb).trans e) fC nL.symm (.inr I3.sz) cl3 fun p hp => by
          obtain ⟨e1, _⟩ := I3.pin p hp
          exact nC _ (Heap.lt_size e1)
      exact ⟨_, H', I7, q⟩
    · have d := T.item X' eP eW eK eC i [] s' _ H' (fun _ _ => False) Iv (stat fr) st go
      rw [eA] at d
      refine thn d fun r s4 ⟨u, hr, h4⟩ => ?_
      subst hr
      refine thn h4 fun _ s5 ⟨y, H5, I5, r5, y5, st5, fr5⟩ => ?_
      have I5' := I5.pinned (stat fr5) (T.obj _ _ st5)
      have hg' : PG X' tg g := by subst hX; exact hg _ _ _ _
      have g6 := hg' _ s5 _ H5 y u _ I5' r5 (step y H5 y5 os los)
      rw [eP, eW, eA, eE, eX] at g6
      refine thn g6 fun _ s6 ⟨σ6, H6, I6, ⟨os', los', e6⟩, st6⟩ => ?_
      subst e6
      have he' : PE X' elt te := by subst hX; exact he _ _ _ _
      have g7 := he' _ s6 _ H6 _ I6 st6
      rw [eP, eW, eA, eE, eX] at g7
      refine thn g7 fun uv s7 ⟨v7, H7, I7, r7, hD7, m', hm', w7⟩ => ?_
      have g8 := (mt_append (X := X')) _ s7 _ H7 (.ref s2.heap.objs.size) [v7] (.ref s2.heap.objs.size) [uv] (fun _ H8 => H8 = upd H7 s2.heap.objs.size (.lst (ys ++ [v7]))) I7 rfl (.cons r7 .nil) ⟨_, ys, v7, rfl, rfl, hD7, hlen, rfl⟩
      rw [eP, eW, eA, eX] at g8
      refine thn g8 fun _ s8 ⟨_, H8, I8, _, e8⟩ => ?_
      subst e8
      refine ⟨m', hm', i + 1, ys ++ [v7], os', _, los', I8.unpinned, T.keep _ _ _ st5 fun b hb o e => (I8.pin (b, o) (List.mem_append_right _ (List.mem_append_right _ (mem_pinsAt hb e)))).1, fun b hb => ?_, w7⟩
      obtain ⟨o', e', _⟩ := T.obj _ _ st5 b hb
      exact (I8.pin (b, o') (List.mem_append_right _ (List.mem_append_right _ (mem_pinsAt hb e')))).2.1
  have st1 : tn 0 h₁ := T.keep _ _ _ st2 fun b hb o e => old b o (by rw [← hs3]; exact Heap.get?_push_of_some _ e)
  exact codeAny_compStart_list (loop _ rfl rfl rfl) (T.self _ 0 _ _ _ st1 (loop _ rfl rfl rfl))
end
section
variable {X : Cx} {sc : Scope} {cl : List (Str × Addr)} {ts zs : List Str} {js : List Nat} {elt iter c : Expr} {pos : Pos} {tg : Expr} {g : TG} {wi : TI} {te : TE} {tt : TT}
theorem ps_lcGI {y : Str} {py spos : Pos} {iy : Nat} (hc : X.calm = true) (S : CompG X sc cl ts zs js) (hi : PI X tg iter wi) (hg : ∀ s H C fp, PG (compCx X sc cl (ts ++ zs) s H C fp) tg g) (ht : ∀ s H C fp, PT (compCx X sc cl (ts ++ zs) s H C fp) c tt) (he : ∀ s H C fp, PE (compCx X sc cl (ts ++ zs) s H C fp) elt te)
    (hN : X.N.Nodup) (hiy : X.N[iy]? = some y) (hy : Loc X.env.scope y) (hsw : swapsWith (.ListComp elt [⟨tg, iter, [c], 0⟩] sc pos) (some (.Name y py)) spos.line X.env = pure true)
    (hf : X.fn y = true ∨ X.env.scope.names.lookup y = some .local := by first | exact .inl rfl | exact .inr rfl | assumption)
    (hs : ∀ v, foldedSetIterable iter X.env v = pure v := by intro _; rfl) : PS X (.Assign [.Name y py] (.ListComp elt [⟨tg, iter, [c], 0⟩] sc pos) spos) (tAsg (tLCGif wi ts.length js g tt te) (gName iy)) := by
  intro pins s σ H De I h
  rw [exec_Assign_Name_used _ _ _ _ hsw]
  refine wpAny_bind (wpAny_standAt (wpAny_bind ?_))
  show wpAny _ _ (do let _ ← comprehension (.ListComp elt [⟨tg, iter, [c], 0⟩] sc pos) sc X.env _ (newList []) false (eval iter X.env) (some (assign (.Name y py) X.env))) _ _ s
  refine wpAny_bind (wpAny_mono (wpAny_comprehension_free (use := some (assign (.Name y py) X.env)) (Q := fun _ s' => SP X pins De .next s') rfl hs S.clos S.kind S.names ?_) (fun _ s' hq => wpAny_pure (wpAny_pure hq)) fun _ _ e => e)
  refine (thn (hi pins s σ H _ I h) fun v s1 h1 => thn h1 fun itv s2 h2 => ?_)
  obtain ⟨it, fp, tn, J, H2, e, I2, T, st2, f2, body⟩ := h2
  subst e
  have fr2 : H2 s2.heap.objs.size = none := I2.fresh
  obtain ⟨W, ⟨m0, w0⟩, turn⟩ := body _ fr2
  refine wpAny_newObj_type ?_
  have I3 : Inv X pins σ (upd H2 s2.heap.objs.size (.lst [])) { s2 with heap := s2.heap.push { cls := .type "list", data := .seq ([] : List Value).toArray } } := I2.lnew (t' := s2.toks) (ys := []) (its := []) .nil (Nat.zero_le _)
  refine wpAny_newFunctionEnv S.noCell (by intro y hy; simp at hy) (fun h₁ hn hsb => ?_) S.kind
  generalize hs3 : ({ s2 with heap := s2.heap.push { cls := .type "list", data := .seq ([] : List Value).toArray } } : Shared) = s3 at I3 hn hsb ⊢
  have fpl : ∀ b ∈ fp, FpOk X pins (upd H2 s2.heap.objs.size (.lst [])) b ∧ b < s3.heap.objs.size := fun b hb => by
    obtain ⟨o, ho, _⟩ := T.obj _ _ st2 b hb
    have hl := Heap.lt_size ho
    have hne : b ≠ s2.heap.objs.size := Nat.ne_of_lt hl
    obtain ⟨z1, z2⟩ := f2 b hb
    refine ⟨⟨by rw [upd_ne hne]; exact z1, z2⟩, ?_⟩
    rw [← hs3]
    show b < (s2.heap.push _).objs.size
    rw [Heap.size_push]
    exact Nat.lt_succ_of_lt hl
  have old : ∀ b o, s3.heap.get? b = some o → h₁.get? b = some o := fun b o e => hsb.extBut b o (Nat.ne_of_lt (Heap.lt_size e)) (Heap.get?_push_of_some _ e)
  have loop : ∀ sS : Shared, sS.heap = h₁ → sS.os = s3.os → sS.gens = s3.gens → codeAny (model X.prog X.w) X.A (.compLoop (.ListComp elt [⟨tg, iter, [c], 0⟩] sc pos) 0 (.ref it) (.ref s2.heap.objs.size) (compEnvC sc cl s3.heap.objs.size X.env))
      (compPost (model X.prog X.w) X.A X.xe (some (assign (.Name y py) X.env)) (fun _ s' => SP X pins De .next s') (.ref s2.heap.objs.size) s3.heap.objs.size) sS := by
    intro sS eh eo eg
    subst eh
    have J0 : Inv (compCx X sc cl (ts ++ zs) s3 (upd H2 s2.heap.objs.size (.lst [])) s3.heap.objs.size fp) [] (List.replicate ts.length none ++ capS js σ) (upd H2 s2.heap.objs.size (.lst [])) sS := compG_start I3 S fpl (Nat.le_refl _) eo eg old hn
    generalize hX : compCx X sc cl (ts ++ zs) s3 (upd H2 s2.heap.objs.size (.lst [])) s3.heap.objs.size fp = X' at J0
    have stat : ∀ {H' : Hp}, (∀ b ∈ fp, H' b = none) → ∀ b ∈ fp, FpOk X' [] H' b := fun {H'} hn b hb => by
      subst hX
      obtain ⟨⟨_, z1, z2, z3, z4, z5⟩, z6⟩ := fpl b hb
      refine ⟨hn b hb, Nat.ne_of_lt z6, fun q => ?_, .inl hb, fun y c e => z4 y c (S.sub _ _ e), fun p hp => absurd (show p ∈ ([] : List (Addr × Obj)) from hp) (by simp)⟩
      rcases List.mem_cons.mp (I3.stkSub b q) with e | e
      · exact z1 e
      · exact z2 e
    have st3 : tn 0 sS.heap := T.keep _ _ _ st2 fun b hb o e => old b o (by rw [← hs3]; exact Heap.get?_push_of_some _ e)
    refine compLoopT1 (fun n s' => ∃ i ys os H', os.length = ts.length ∧ Inv X' [] (os ++ capS js σ) H' s' ∧ tn i s'.heap ∧ (∀ b ∈ fp, H' b = none) ∧ W i n ys H') ?_ m0 ⟨0, [], _, _, List.length_replicate, J0, st3, fun b hb => (fpl b hb).1.1, w0⟩
    rintro n s' ⟨i, ys, os, H', los, Iv, st, fr, w⟩
    obtain ⟨hD, alt⟩ := turn i n ys H' w
    have eP : X'.prog = X.prog := by subst hX; rfl
    have eW : X'.w = X.w := by subst hX; rfl
    have eK : X'.K = X.K := by subst hX; rfl
    have eC : X'.calm = true := by subst hX; exact hc
    have eA : X'.A = X.A := by subst hX; rfl
    have eE : X'.env = compEnvC sc cl s3.heap.objs.size X.env := by subst hX; rfl
    have eX : X'.xe = fun _ _ => False := by subst hX; rfl
    rcases alt with ⟨stop, q⟩ | ⟨go, hlen, step⟩
    · have d := T.done X' eP eW eK eC i [] s' _ H' (fun _ _ => False) Iv (stat fr) st stop
      rw [eA] at d
      refine thn d fun r s4 ⟨hr, I4⟩ => ?_
      subst hr
      obtain ⟨m, hm, _⟩ := id I4.loc
      have fC : H' s3.heap.objs.size = none := by
        have z := I4.free
        rw [eE] at z
        exact z
      rw [eE] at hm
      subst hX
      have I5 : Inv X pins σ H' s4 := compG_end (h' := s4.heap) I3 fpl (Nat.le_refl _) I4 ⟨rfl, fun _ _ => rfl⟩
      show wpAny _ _ (assign (.Name y py) X.env (.ref s2.heap.objs.size)) _ _ s4
      have nC : ∀ b, b < s3.heap.objs.size → b ≠ s3.heap.objs.size := fun b hb => Nat.ne_of_lt hb
      have nL : X.env.locals ≠ s3.heap.objs.size := nC _ I3.lt
      have cl3 : ∀ z c, X.env.cells.lookup z = some c → c ≠ s3.heap.objs.size := fun z c e => by
        obtain ⟨v, o, ho, _⟩ := I3.cell z c e
        exact nC _ (Heap.lt_size ho)
      refine wpAny_assign_Name (store_ok2 I5 hN hiy hy (v := .ref s2.heap.objs.size) rfl (fun s5 I6 hb => ?_) hf)
      obtain ⟨a5, sb5, ha5⟩ := hb
      have na5 : s3.heap.objs.size ≠ a5 := by
        rcases ha5 with e | e
        · rw [e]; exact nL.symm
        · exact (cl3 _ _ e).symm
      refine ⟨m, hm.sameBut sb5 na5, fun h' hs' => ?_⟩
      have I7 : Inv X pins (σ.set iy (some (.ref s2.heap.objs.size))) H' { s5 with heap := h', toks := s5.toks } :=
        I6.turned (h' := h') (t' := s5.toks) (it := s3.heap.objs.size) (fun b o hb e => (hs'.2 b hb).trans e) fC nL.symm (.inr I3.sz) cl3 fun p hp => by
          obtain ⟨e1, _⟩ := I3.pin p hp
          exact nC _ (Heap.lt_size e1)
      exact ⟨_, H', I7, q⟩
    · have d := T.item X' eP eW eK eC i [] s' _ H' (fun _ _ => False) Iv (stat fr) st go
      rw [eA] at d
      refine thn d fun r s4 ⟨u, hr, h4⟩ => ?_
      subst hr
      refine thn h4 fun _ s5 ⟨y, H5, I5, r5, y5, st5, fr5⟩ => ?_
      have I5' := I5.pinned (stat fr5) (T.obj _ _ st5)
      have hg' : PG X' tg g := by subst hX; exact hg _ _ _ _
      have g6 := hg' _ s5 _ H5 y u _ I5' r5 (step y H5 y5 os los)
      rw [eP, eW, eA, eE, eX] at g6
      refine thn g6 fun _ s6 ⟨σ6, H6, I6, ⟨os', los', e6⟩, st6⟩ => ?_
      subst e6
      have ht' : PT X' c tt := by subst hX; exact ht _ _ _ _
      have g0 := ht' _ s6 _ H6 _ I6 st6
      rw [eP, eW, eA, eE, eX] at g0
      refine thn g0 fun k sk ⟨Hk, Ik, qk⟩ => ?_
      cases k with
      | false =>
        obtain ⟨m', hm', w7⟩ := qk.1 rfl
        refine ⟨fun _ => ?_, fun z => nomatch z⟩
        refine ⟨m', hm', i + 1, ys, os', _, los', Ik.unpinned, T.keep _ _ _ st5 fun b hb o e => (Ik.pin (b, o) (List.mem_append_right _ (List.mem_append_right _ (mem_pinsAt hb e)))).1, fun b hb => ?_, w7⟩
        obtain ⟨o', e', _⟩ := T.obj _ _ st5 b hb
        exact (Ik.pin (b, o') (List.mem_append_right _ (List.mem_append_right _ (mem_pinsAt hb e')))).2.1
      | true =>
      refine ⟨fun z => (nomatch z), fun _ => ?_⟩
      have he' : PE X' elt te := by subst hX; exact he _ _ _ _
      have g7 := he' _ sk _ Hk _ Ik (qk.2 rfl)
      rw [eP, eW, eA, eE, eX] at g7
      refine thn g7 fun uv s7 ⟨v7, H7, I7, r7, hD7, m', hm', w7⟩ => ?_
      have g8 := (mt_append (X := X')) _ s7 _ H7 (.ref s2.heap.objs.size) [v7] (.ref s2.heap.objs.size) [uv] (fun _ H8 => H8 = upd H7 s2.heap.objs.size (.lst (ys ++ [v7]))) I7 rfl (.cons r7 .nil) ⟨_, ys, v7, rfl, rfl, hD7, hlen, rfl⟩
      rw [eP, eW, eA, eX] at g8
      refine thn g8 fun _ s8 ⟨_, H8, I8, _, e8⟩ => ?_
      subst e8
      refine ⟨m', hm', i + 1, ys ++ [v7], os', _, los', I8.unpinned, T.keep _ _ _ st5 fun b hb o e => (I8.pin (b, o) (List.mem_append_right _ (List.mem_append_right _ (mem_pinsAt hb e)))).1, fun b hb => ?_, w7⟩
      obtain ⟨o', e', _⟩ := T.obj _ _ st5 b hb
      exact (I8.pin (b, o') (List.mem_append_right _ (List.mem_append_right _ (mem_pinsAt hb e')))).2.1
  have st1 : tn 0 h₁ := T.keep _ _ _ st2 fun b hb o e => old b o (by rw [← hs3]; exact Heap.get?_push_of_some _ e)
  exact codeAny_compStart_list (loop _ rfl rfl rfl) (T.self _ 0 _ _ _ st1 (loop _ rfl rfl rfl))
end
end My
set_option Elab.async false
set_option linter.all false
set_option maxRecDepth 100000
set_option maxHeartbeats 1000000
namespace My
open PySem L2
structure Bx (p : Prop) : Prop where
  h : p
section
variable {X : Cx} {e a b : Expr} {es : List Expr} {te ta tb : TE} {t : TA} {pos : Pos} {st : Stmt} {rest : List Stmt} {ts u v : TS}
theorem bxa_nil : Bx (PA X [] tNil) := ⟨pa_nil⟩
theorem bxa_cons (ha : Bx (PE X e te)) (hr : Bx (PA X es t)) (hs : starEach (e :: es) X.env = (false, eval e X.env) :: starEach es X.env := by rfl) : Bx (PA X (e :: es) (tCons te t)) := ⟨pa_cons ha.h hr.h hs⟩
theorem bx_lst (h : Bx (PA X es t)) : Bx (PE X (.List es pos) (tLst t)) := ⟨pe_lst h.h⟩
theorem bx_tup {x1} (h : Bx (PA X es t)) : Bx (PE X (.Tuple es x1 pos) (tTup t)) := ⟨pe_tup h.h⟩
theorem bx_ix {r : R2} (hr : IxR X r) (ha : Bx (PE X a ta)) (hb : Bx (PE X b tb)) (hs : PlainIx b) : Bx (PE X (.Subscript a b pos) (tOp r ta tb)) := ⟨pe_ix hr ha.h hb.h hs⟩
theorem bx_ret (h : Bx (PE X e te)) : Bx (PS X (.Return (some e) pos) (tRet te)) := ⟨ps_ret h.h⟩
theorem bxs_nil : Bx (PSs X [] tNext) := ⟨pss_nil⟩
theorem bxs_one (h : Bx (PS X st ts)) : Bx (PSs X [st] ts) := ⟨pss_one h.h⟩
theorem bxs_cons (h : Bx (PS X st ts)) (k : Bx (PSs X rest u)) : Bx (PSs X (st :: rest) (tSeq ts u)) := ⟨pss_cons h.h k.h⟩
theorem bx_if {c : Expr} {x y : List Stmt} {tc : TT} (hc : Bx (PT X c tc)) (hx : Bx (PSs X x u)) (hy : Bx (PSs X y v)) : Bx (PS X (.If c x y pos) (tIfS tc u v)) := ⟨ps_if hc.h hx.h hy.h⟩
theorem bx_set {i : Nat} {x : Str} {pos' : Pos} (hN : X.N.Nodup) (hi : X.N[i]? = some x) (hx : Loc X.env.scope x) (he : Bx (PE X e te)) (hs : swapsWith e (some (.Name x pos')) pos.line X.env = pure false := by rfl) (hf : X.fn x = true ∨ X.env.scope.names.lookup x = some .local := by first | exact .inl rfl | exact .inr rfl | assumption) :
    Bx (PS X (.Assign [.Name x pos'] e pos) (tAsg te (gName i))) := ⟨ps_set hN hi hx he.h hs hf⟩
end
end My
set_option Elab.async false
set_option linter.all false
set_option maxRecDepth 100000
set_option maxHeartbeats 1000000
namespace My
open PySem PySem.W L2
def gTupL (K : PySem.W.Frag) (n : Nat) (t : TGs) : TG := fun v σ H Q => ∃ a xs, v = .ref a ∧ SqL K H a xs ∧ xs.length = n ∧ t xs σ H Q
section
variable {X : Cx} {pos : Pos}
theorem pg_tupL {es : List Expr} {k : Nat} {t : TGs} {n : Nat} (hc : X.calm = true) (h : PGs X es t)
    (hn : (assignEach es X.env).length = n := by rfl) (hst : (assignEach es X.env).findIdx? (·.1) = none := by rfl) : PG X (.Tuple es k pos) (gTupL X.K n t) := by
  intro pins s σ H v u Q I r hw
  obtain ⟨a, xs, e1, hq, hl, hw⟩ := hw
  subst e1
  cases r
  obtain ⟨its, rv, ht, hz⟩ := I.list hq
  rw [PyProof.Rows.assign_Tuple]
  refine wpAny_bind (wpAny_standAt ?_)
  unfold unpack
  rw [hst, show (assignEach es X.env).length = its.toArray.size by rw [hn, List.size_toArray, ← rv.length]; exact hl.symm]
  refine wpAny_bind (wpAny_holding (kun_itemsOf (I.ok.hd hc) ht.isList fun h' hx => ?_))
  have I1 : Inv X pins σ H { s with heap := h' } := I.kept (t' := s.toks) fun b o e => hx b o (Nat.ne_of_lt (Heap.lt_size e)) e
  exact h pins _ σ H xs _ Q I1 (by simpa using rv) hw
end
section
variable {K : Frag} {te : TE} {g : TG} {k : Nat} {cap : St} {D : Addr} {H1 : Hp} {Q : Hp → Prop}
theorem lcG_range {lo : Int} {n : Nat} (Pv : Nat → List V → Hp → Prop) (hz : n < sizeLine) (h0 : Pv 0 [] (upd H1 D (.lst [])))
    (hs : ∀ i ys H, i < n → ys.length = i → H D = some (.lst ys) → Pv i ys H → ∀ os : St, os.length = k → ∀ R : VK, (∀ y H4, H4 D = some (.lst ys) → Pv (i + 1) (ys ++ [y]) (upd H4 D (.lst (ys ++ [y]))) → R y H4) → g (.int (lo + i)) (os ++ cap) H fun σ2 H0 => (∃ os' : St, os'.length = k ∧ σ2 = os' ++ cap) ∧ te σ2 H0 R)
    (hd : ∀ ys H, ys.length = n → H D = some (.lst ys) → Pv n ys H → Q H) :
    ∃ W : Nat → Nat → List V → Hp → Prop, (∃ m, W 0 m [] (upd H1 D (.lst []))) ∧
      ∀ i m ys H2, W i m ys H2 → H2 D = some (.lst ys) ∧ (((Itr lo n).stop i H2 ∧ Q H2) ∨ ((Itr lo n).go i H2 ∧ ys.length < sizeLine ∧
        ∀ x H3, (Itr lo n).yld i H2 x H3 → ∀ os : St, os.length = k → g x (os ++ cap) H3 fun σ2 H0 => (∃ os' : St, os'.length = k ∧ σ2 = os' ++ cap) ∧ te σ2 H0 fun y H4 => H4 D = some (.lst ys) ∧ ∃ m', m' < m ∧ W (i + 1) m' (ys ++ [y]) (upd H4 D (.lst (ys ++ [y]))))) := by
  refine ⟨fun i m ys H => m = n - i ∧ i ≤ n ∧ ys.length = i ∧ H D = some (.lst ys) ∧ Pv i ys H, ⟨n, by simp, Nat.zero_le _, rfl, upd_same, h0⟩, ?_⟩
  rintro i m ys H ⟨rfl, hi, hy, hD, p⟩
  refine ⟨hD, ?_⟩
  by_cases hlt : i < n
  · refine .inr ⟨hlt, by omega, fun x H' y => ?_⟩
    obtain ⟨e, y⟩ := y
    subst e y
    exact fun os los => hs i ys _ hlt hy hD p os los _ fun z H4 hD4 p4 => ⟨hD4, n - (i + 1), by omega, rfl, hlt, by rw [List.length_append, hy]; rfl, upd_same, p4⟩
  · have e : i = n := by omega
    subst e
    exact .inl ⟨Nat.le_refl _, hd ys H hy hD p⟩
end
end My
set_option Elab.async false
set_option linter.all false
set_option maxRecDepth 100000
set_option maxHeartbeats 4000000
namespace My
open PySem L2
def top (i : Nat) : Stmt := PySem.Challenge.pw_trialdeal_k53_rows_and_listings.main.body.getD i (.Pass ⟨0, 0, 0, 0⟩)
end My
set_option Elab.async false
set_option linter.all false
set_option maxRecDepth 100000
set_option maxHeartbeats 1000000
namespace My
open PySem PySem.W L2
theorem itT {A B : Prop} (h : A) : if true = true then A else B := by rw [if_pos rfl]; exact h
theorem itF {A B : Prop} (h : B) : if false = true then A else B := by rw [if_neg (by decide)]; exact h
def Ext (H H' : Hp) : Prop := ∀ b o, H b = some o → H' b = some o
theorem Ext.refl (H : Hp) : Ext H H := fun _ _ h => h
theorem Ext.trans {H H1 H2 : Hp} (a : Ext H H1) (b : Ext H1 H2) : Ext H H2 := fun x o h => b x o (a x o h)
theorem Ext.new {H : Hp} {p : Addr} {o : HO} (h : H p = none) : Ext H (upd H p o) := fun b u e => by rw [upd_ne (ne_of_none e h)]; exact e
theorem SqT.ext {K : Frag} {H H' : Hp} {p : Addr} {xs : List V} (h : SqT K H p xs) (e : Ext H H') : SqT K H' p xs := by
  rcases h with h | h
  · left
    rcases h with h | ⟨o, h⟩
    · exact .inl (e _ _ h)
    · exact .inr ⟨o, e _ _ h⟩
  · exact .inr h
theorem SqL.ext {K : Frag} {H H' : Hp} {s : Addr} {xs : List V} (h : SqL K H s xs) (x : Ext H H') : SqL K H' s xs := by
  rcases h with h | h
  · rcases h with h | ⟨o, h⟩
    · exact .inl (.inl (x _ _ h))
    · exact .inl (.inr ⟨o, x _ _ h⟩)
  · exact .inr h
theorem pe_ty {X : Cx} {x : Str} {n : String} {pos : Pos} (hg : Gl X x) (hm : X.mg x = none) (hv : bootBuiltins x = some (.type n)) (hn : x ≠ "__name__" := by decide +kernel) (hd : (x == ("__debug__" : Str)) = false := by decide) : PE X (.Name x pos) (tC (.ty n)) :=
  pe_bltn hg hm hv (show RelV (.ty n) (.type n) from rfl) hn hd
def Kd (K : Frag) (H : Hp) (x : V) (t : Value) : Prop := TyOf K H x t ∨ (∃ p xs, x = .ref p ∧ SqT K H p xs ∧ t = .type "tuple") ∨ (∃ a C, x = .ref a ∧ ErrAt H a C ∧ ErrI K C ∧ t = .ref C)
def rIsK (K : Frag) : List V → Hp → VK → Prop := fun vs H Q => ∃ x n t b, vs = [x, .ty n] ∧ Kd K H x t ∧ kitOne K t (.type n) = some b ∧ Q (.bl b) H
theorem call_isK {X : Cx} (N : IsT X.K) : CallR X (.builtin "isinstance") (rIsK X.K) := by
  intro pins s σ H xs us Q I r h
  obtain ⟨x, n, t, b, rfl, kd, e, q⟩ := h
  obtain ⟨u, u', rfl, ru, ru'⟩ := vals2 r
  cases (show u' = Value.type n from ru')
  rcases kd with ty | ⟨p, ys, rfl, hq, rfl⟩ | ⟨a, C, rfl, ea, T, rfl⟩
  · exact isinst_ok I ru ty e fun tk => ⟨.bl b, H, I.tok _, rfl, q⟩
  · cases (show u = Value.ref p from ru)
    obtain ⟨its, _, ⟨o, h1, h2, _⟩, _⟩ := I.tuple hq
    exact kia_one kitx_tuple I.kIn ⟨o, h1, h2⟩ e (fun z => nomatch z) fun tk => ⟨.bl b, H, I.tok _, rfl, q⟩
  · cases (show u = Value.ref a from ru)
    exact kia_one (kitErr T N.gt N.tk) I.kIn (ea.inst I.hok) e (fun z => nomatch z) fun tk => ⟨.bl b, H, I.tok _, rfl, q⟩
theorem ErrAt.ext {H H' : Hp} {a C : Addr} (e : ErrAt H a C) (x : Ext H H') : ErrAt H' a C := by
  rcases e with e | ⟨dx, fs, e1, e2⟩
  · exact .inl (x _ _ e)
  · exact .inr ⟨dx, fs, x _ _ e1, x _ _ e2⟩
theorem TyOf.ext {K : Frag} {H H' : Hp} {x : V} {t : Value} (h : TyOf K H x t) (e : Ext H H') : TyOf K H' x t := by
  cases h with
  | non => exact .non
  | bl b => exact .bl b
  | int i => exact .int i
  | str z => exact .str z
  | flt z => exact .flt z
  | lst q => exact .lst (e _ _ q)
  | frz q => exact .frz (e _ _ q)
  | tup q => exact .tup (e _ _ q)
  | dK q => exact .dK (e _ _ q)
  | dT q => exact .dT (e _ _ q)
  | ins q cl ha hn htk hm => exact .ins (e _ _ q) cl ha hn htk hm
theorem Kd.ext {K : Frag} {H H' : Hp} {x : V} {t : Value} (h : Kd K H x t) (e : Ext H H') : Kd K H' x t := by
  rcases h with ty | ⟨p, ys, rfl, hq, rfl⟩ | ⟨a, C, rfl, ea, T, rfl⟩
  · exact .inl (My.TyOf.ext ty e)
  · exact .inr (.inl ⟨p, ys, rfl, My.SqT.ext hq e, rfl⟩)
  · exact .inr (.inr ⟨a, C, rfl, ea.ext e, T, rfl⟩)
def NoInt (K : Frag) (H : Hp) (x : V) : Prop := (∀ i, x ≠ .int i) ∧ ∃ t b1 b2, Kd K H x t ∧ kitOne K t (.type "int") = some b1 ∧ kitOne K t (.type "bool") = some b2 ∧ (b1 && !b2) = false
def Th (K : Frag) (H : Hp) (x : V) : Prop := (∃ i, x = .int i) ∨ NoInt K H x
theorem Th.ext {K : Frag} {H H' : Hp} {x : V} (h : Th K H x) (e : Ext H H') : Th K H' x := by
  rcases h with h | ⟨n, t, b1, b2, kd, k1, k2, z⟩
  · exact .inl h
  · exact .inr ⟨n, t, b1, b2, kd.ext e, k1, k2, z⟩
def numB : V → Bool
  | .int _ => true
  | _ => false
def inB (lo hi : Int) : V → Bool
  | .int i => decide (lo ≤ i) && decide (i ≤ hi)
  | _ => false
theorem numB_no {x : V} (h : ∀ i, x ≠ .int i) : numB x = false := by
  cases x with
  | int i => exact absurd rfl (h i)
  | _ => rfl
theorem inB_no {lo hi : Int} {x : V} (h : ∀ i, x ≠ .int i) : inB lo hi x = false := by
  cases x with
  | int i => exact absurd rfl (h i)
  | _ => rfl
section
variable {P : Program} {w : World} {K : Frag} {mg : Str → Option Value} {base : Heap}
theorem k_ii : kitOne K (.type "int") (.type "int") = some true := rfl
theorem k_ib : kitOne K (.type "int") (.type "bool") = some false := rfl
abbrev sIsNum : Stmt := top 8
def spIsNum (K : Frag) : Sp := fun vs H Q _ => ∃ x, vs = [x] ∧ Th K H x ∧ Q (.bl (numB x)) H
theorem scIN : FnScope ["thing"] ["thing"] (defScope sIsNum) := ⟨rfl, rfl, rfl, by decide +kernel, rfl, by decide +kernel, by decide +kernel⟩
theorem ok_isnum {f : Addr} {fd : FuncData} (N : IsT K) (F : Fun K "is_number" "is_number" sIsNum f fd) (mi : mg "isinstance" = none) (m1 : mg "int" = none) (m2 : mg "bool" = none) : FnOk P w K mg base CX0 1 f fd ["thing"] (spIsNum K) := by
  refine F.ok scIN (fun vs H Q E h => ?_) (fun cdv A outer s H vs Q E hr h => ?_)
  · obtain ⟨c, rfl, _⟩ := h
    rfl
  obtain ⟨x, rfl, th, q⟩ := h
  refine ⟨_, pss_one (ps_ret (pe_and (pe_callB (call_isK N) rfl mi PyProof.Rows.boot_isinstance (pa_cons (pv 0) (pa_cons (pe_ty rfl m1 PyProof.Rows.boot_int) pa_nil)))
    (pe_one (pe_not (pe_callB (call_isK N) rfl mi PyProof.Rows.boot_isinstance (pa_cons (pv 0) (pa_cons (pe_ty rfl m2 PyProof.Rows.boot_bool) pa_nil))))))), ?_⟩
  rcases th with ⟨i, rfl⟩ | ⟨n, t, b1, b2, kd, k1, k2, z⟩
  · exact ⟨_, rfl, _, _, _, _, rfl, .inl (.int i), k_ii, _, rfl, ⟨_, rfl, _, _, _, _, rfl, .inl (.int i), k_ib, _, rfl, q⟩⟩
  · rw [numB_no n] at q
    refine ⟨_, rfl, _, _, _, _, rfl, kd, k1, _, rfl, ?_⟩
    cases b1 with
    | false => exact itF q
    | true =>
      refine itT ⟨_, rfl, _, _, _, _, rfl, kd, k2, _, rfl, ?_⟩
      have e : (!b2) = false := z
      rw [e]
      exact q
abbrev sIsWh : Stmt := top 9
def spIsWh (K : Frag) : Sp := fun vs H Q _ => ∃ x lo hi, vs = [x, .int lo, .int hi] ∧ Th K H x ∧ Q (.bl (inB lo hi x)) H
theorem scIW : FnScope ["thing", "low", "high"] ["thing", "low", "high"] (defScope sIsWh) := ⟨rfl, rfl, rfl, by decide +kernel, rfl, by decide +kernel, by decide +kernel⟩
theorem ok_iswh {f g : Addr} {fd gd : FuncData} (F : Fun K "is_whole" "is_whole" sIsWh f fd) (G : FnOk P w K mg base CX0 1 g gd ["thing"] (spIsNum K)) (bG : Binds K gd ["thing"] []) (kG : keepIn K (.ref g) = true) (mG : mg "is_number" = some (.ref g)) :
    FnOk P w K mg base CX0 2 f fd ["thing", "low", "high"] (spIsWh K) := by
  refine F.ok scIW (fun vs H Q E h => ?_) (fun cdv A outer s H vs Q E hr h => ?_)
  · obtain ⟨c, lo, hi, rfl, _⟩ := h
    rfl
  obtain ⟨x, lo, hi, rfl, th, q⟩ := h
  refine ⟨_, pss_one (ps_ret (pe_and (pe_call G hr rfl mG kG bG .nil pass0 (pa_cons (pv 0) pa_nil)) (pe_and (pe_cmpR op_le (pv 1) (pv 0) (nomark _)) (pe_one (pe_cmpR op_le (pv 0) (pv 2) (nomark _)))))), ?_⟩
  refine ⟨_, rfl, x, rfl, th, _, rfl, ?_⟩
  rcases th with ⟨i, rfl⟩ | ⟨n, _⟩
  · refine itT ⟨_, rfl, _, rfl, _, _, rfl, rfl, _, rfl, ?_⟩
    refine ite2 (fun c => ?_) (fun c => ?_)
    · refine ⟨_, rfl, _, rfl, _, _, rfl, rfl, ?_⟩
      have q' : Q (.bl (decide (lo ≤ i) && decide (i ≤ hi))) H := q
      rw [decide_eq_true (of_decide_eq_true c), Bool.true_and] at q'
      exact q'
    · have q' : Q (.bl (decide (lo ≤ i) && decide (i ≤ hi))) H := q
      rw [decide_eq_false (fun z => c (decide_eq_true z)), Bool.false_and] at q'
      exact q'
  · rw [numB_no n]
    rw [inB_no n] at q
    exact itF q
end
end My
set_option Elab.async false
set_option linter.all false
set_option maxRecDepth 100000
set_option maxHeartbeats 4000000
set_option exponentiation.threshold 5000
namespace My
open PySem PySem.W L2
def keyD : Key → PyData
  | .inl i => .int i
  | .inr x => .str x
mutual
inductive Rds (G : Hp) : V → PyData → Prop
  | non : Rds G .non .none
  | bl (b : Bool) : Rds G (.bl b) (.bool b)
  | int (i : Int) : Rds G (.int i) (.int i)
  | str (x : Str) : Rds G (.str x) (.str x)
  | lst {a : Addr} {xs : List V} {ds : List PyData} : G a = some (.lst xs) → RdsAll G xs ds → Rds G (.ref a) (.list ds)
  | tup {a : Addr} {xs : List V} {ds : List PyData} : G a = some (.tup xs) → RdsAll G xs ds → Rds G (.ref a) (.tuple ds)
  | dic0 {a : Addr} : G a = some (.dK []) → Rds G (.ref a) (.dict [])
  | dic {a : Addr} {k : Key} {v : V} {d : PyData} : G a = some (.dK [(k, v)]) → Rds G v d → Rds G (.ref a) (.dict [(keyD k, d)])
inductive RdsAll (G : Hp) : List V → List PyData → Prop
  | nil : RdsAll G [] []
  | cons {v : V} {vs : List V} {d : PyData} {ds : List PyData} : Rds G v d → RdsAll G vs ds → RdsAll G (v :: vs) (d :: ds)
end
mutual
theorem Rds.mono {G G' : Hp} (s : Ext G G') : ∀ {v : V} {d : PyData}, Rds G v d → Rds G' v d
  | _, _, .non => .non
  | _, _, .bl b => .bl b
  | _, _, .int i => .int i
  | _, _, .str x => .str x
  | _, _, .lst e r => .lst (s _ _ e) (RdsAll.mono s r)
  | _, _, .tup e r => .tup (s _ _ e) (RdsAll.mono s r)
  | _, _, .dic0 e => .dic0 (s _ _ e)
  | _, _, .dic e r => .dic (s _ _ e) (Rds.mono s r)
theorem RdsAll.mono {G G' : Hp} (s : Ext G G') : ∀ {vs : List V} {ds : List PyData}, RdsAll G vs ds → RdsAll G' vs ds
  | _, _, .nil => .nil
  | _, _, .cons r t => .cons (Rds.mono s r) (RdsAll.mono s t)
end
theorem RdsAll.length {G : Hp} : ∀ {vs : List V} {ds : List PyData}, RdsAll G vs ds → vs.length = ds.length
  | _, _, .nil => rfl
  | _, _, .cons _ t => by rw [List.length_cons, List.length_cons, t.length]
theorem RdsAll.append {G : Hp} : ∀ {vs ws : List V} {ds es : List PyData}, RdsAll G vs ds → RdsAll G ws es → RdsAll G (vs ++ ws) (ds ++ es)
  | _, _, _, _, .nil, s => s
  | _, _, _, _, .cons r t, s => .cons r (t.append s)
theorem RdsAll.set {G : Hp} {v : V} {d : PyData} (r : Rds G v d) : ∀ {vs : List V} {ds : List PyData} (i : Nat), RdsAll G vs ds → RdsAll G (vs.set i v) (ds.set i d)
  | _, _, _, .nil => .nil
  | _, _, 0, .cons _ t => .cons r t
  | _, _, i + 1, .cons q t => .cons q (RdsAll.set r i t)
section
variable {P : Program} {w : World} {H : Hp} {h : Heap}
theorem key_reads {k : Key} {u : Value} (r : (mixKind P w).is k u = true) : Reads h u (keyD k) [] := by
  rw [mixKind_is] at r
  rcases keyIs_shape r with ⟨i, t, rfl, rfl⟩ | ⟨x, t, rfl, rfl⟩
  · exact .int i t
  · exact .str x t
theorem pairs0 {es : List DictEntry} (ps : Pairs (mixKind P w) es ([] : List (Key × Value))) : es = [] := by
  cases ps
  rfl
theorem pairs1 {es : List DictEntry} {k : Key} {u : Value} (ps : Pairs (mixKind P w) es [(k, u)]) : ∃ e, es = [e] ∧ (mixKind P w).is k e.key = true ∧ e.val = u := by
  cases ps with
  | cons h1 h2 h3 =>
    cases h3
    exact ⟨_, rfl, h1, h2⟩
mutual
theorem reads_of (ok : HOk P w H h) (z : H sysModules = none) : ∀ {v : V} {d : PyData} {u : Value}, Rds H v d → RelV v u → ∃ as, Reads h u d as ∧ sysModules ∉ as
  | _, _, _, .non, r => by cases r; exact ⟨[], .none, by simp⟩
  | _, _, _, .bl b, r => by cases r; exact ⟨[], .bool b, by simp⟩
  | _, _, _, .int i, r => by obtain ⟨t, rfl⟩ := r; exact ⟨[], .int i t, by simp⟩
  | _, _, _, .str x, r => by obtain ⟨t, rfl⟩ := r; exact ⟨[], .str x t, by simp⟩
  | _, _, _, .lst (a := a) e t, r => by
    cases r
    obtain ⟨_, its, n, rv, ho⟩ := (show ObjOk P w H h _ (.lst _) from ok _ _ e)
    obtain ⟨as, ra, na⟩ := readsAll_of ok z t rv
    refine ⟨a :: as, .list ho rfl rfl (by simpa using ra), ?_⟩
    intro m
    rcases List.mem_cons.mp m with m | m
    · rw [← m, z] at e; cases e
    · exact na m
  | _, _, _, .tup (a := a) e t, r => by
    cases r
    obtain ⟨_, its, rv, o, ho, hc, n, hd⟩ := (show ObjOk P w H h _ (.tup _) from ok _ _ e)
    obtain ⟨as, ra, na⟩ := readsAll_of ok z t rv
    exact ⟨as, .tuple ho hc hd (by simpa using ra), na⟩
  | _, _, _, .dic0 (a := a) e, r => by
    cases r
    obtain ⟨_, hs, vs, kv, o, es, ep, ho, hx, hd, hks, hps, hnd⟩ := (show ObjOk P w H h _ (.dK _) from ok _ _ e)
    cases kv
    have ee : es.toList = [] := pairs0 hps
    refine ⟨a :: [] ++ [], .dict (kvs := []) ho hx.1 hd (by rw [ee]; exact .nil) (by rw [ee]; exact .nil), ?_⟩
    intro m
    have m' : sysModules = a := by simpa using m
    rw [← m', z] at e; cases e
  | _, _, _, .dic (a := a) (k := k) e t, r => by
    cases r
    obtain ⟨_, hs, vs, kv, o, es, ep, ho, hx, hd, hks, hps, hnd⟩ := (show ObjOk P w H h _ (.dK _) from ok _ _ e)
    cases kv with
    | cons q q' =>
      cases q'
      obtain ⟨hq1, hq2⟩ := q
      obtain ⟨e0, ee, ek, ev⟩ := pairs1 hps
      rw [← ev] at hq2
      rw [← hq1] at ek
      obtain ⟨as, ra, na⟩ := reads_of ok z t hq2
      have rk : ReadsAll h [e0.key] [keyD k] ([] ++ []) := .cons (key_reads ek) .nil
      have rv : ReadsAll h [e0.val] [_] (as ++ []) := .cons ra .nil
      refine ⟨a :: ([] ++ []) ++ (as ++ []), .dict (kvs := [(keyD k, _)]) ho hx.1 hd (by rw [ee]; exact rk) (by rw [ee]; exact rv), ?_⟩
      intro m
      rw [List.append_nil, List.append_nil] at m
      rcases List.mem_cons.mp m with m | m
      · rw [← m, z] at e; cases e
      · exact na (by simpa using m)
theorem readsAll_of (ok : HOk P w H h) (z : H sysModules = none) : ∀ {vs : List V} {ds : List PyData} {us : List Value}, RdsAll H vs ds → Vals vs us → ∃ as, ReadsAll h us ds as ∧ sysModules ∉ as
  | _, _, _, .nil, r => by cases r; exact ⟨[], .nil, by simp⟩
  | _, _, _, .cons r t, rv => by
    cases rv with
    | cons q qs =>
      obtain ⟨as, ra, na⟩ := reads_of ok z r q
      obtain ⟨bs, rb, nb⟩ := readsAll_of ok z t qs
      refine ⟨as ++ bs, .cons ra rb, fun m => ?_⟩
      rcases List.mem_append.mp m with m | m
      · exact na m
      · exact nb m
end
end
structure Show (d : PyData) : Prop where
  sh : d.showable = true
  dp : d.depth ≤ 10
  sz : d.shown.length ≤ sizeLine
section
variable {X : Cx}
def rRepr : List V → Hp → VK → Prop := fun vs H Q => ∃ v d, vs = [v] ∧ Rds H v d ∧ Show d ∧ Q (.str d.shown) H
theorem call_repr (hz : X.H₀ sysModules = none) (hg : X.A.guards = some []) (hu : X.A.units + 64 < cLine) : CallR X (.builtin "repr") rRepr := by
  intro pins s σ H xs us Q I r h
  obtain ⟨v, d, rfl, rd, sw, q⟩ := h
  have z : H sysModules = none := I.base.sys hz
  obtain ⟨u, rfl, ru⟩ := vals1 r
  have big : ∀ a, u = Value.ref a → wpAny (model X.prog X.w) X.A (call (.builtin "repr") [u]) (EP X pins σ Q) X.xe s := fun a e => by
    obtain ⟨as, rr, na⟩ := reads_of I.hok z rd ru
    subst e
    have hd := sw.dp
    exact repr_of_reads' (h₀ := s.heap) rr sw.sh (fun _ => na) hg (by omega) (fun _ _ e => e) (fun h' u tk hk => ⟨.str d.shown, H, I.kept (h' := h') (t' := tk) hk, ⟨u, rfl⟩, q⟩) sw.sz
  cases rd with
  | non => cases ru; exact PySem.P.repr_of_none ⟨.str _, H, I.tok _, ⟨_, rfl⟩, q⟩
  | bl b => cases ru; cases b <;> exact PySem.P.repr_of_bool ⟨.str _, H, I.tok _, ⟨_, rfl⟩, q⟩
  | int i =>
    obtain ⟨t, rfl⟩ := ru
    exact PySem.P.repr_of_int (by have h := sw.sh; simpa only [PyData.showable, decide_eq_true_eq] using h) ⟨.str _, H, I.tok _, ⟨_, rfl⟩, q⟩
  | str x =>
    obtain ⟨t, rfl⟩ := ru
    exact PySem.P.repr_of_str ⟨.str _, H, I.tok _, ⟨_, rfl⟩, q⟩ sw.sz
  | lst e t => exact big _ ru
  | tup e t => exact big _ ru
  | dic0 e => exact big _ ru
  | dic e t => exact big _ ru
end
def kindD : PyData → String
  | .none => "NoneType"
  | .bool _ => "bool"
  | .int _ => "int"
  | .str _ => "str"
  | .list _ => "list"
  | .tuple _ => "tuple"
  | _ => "dict"
def tupB : PyData → Bool
  | .tuple _ => true
  | _ => false
def lisB : PyData → Bool
  | .list _ => true
  | _ => false
def booB : PyData → Bool
  | .bool _ => true
  | _ => false
def inD (lo hi : Int) : PyData → Bool
  | .int i => decide (lo ≤ i) && decide (i ≤ hi)
  | _ => false
section
variable {K : Frag} {H : Hp} {v : V} {d : PyData}
theorem Rds.ty (r : Rds H v d) : TyOf K H v (.type (kindD d)) := by
  cases r with
  | non => exact .non
  | bl b => exact .bl b
  | int i => exact .int i
  | str x => exact .str x
  | lst e _ => exact .lst e
  | tup e _ => exact .tup e
  | dic0 e => exact .dK e
  | dic e _ => exact .dK e
theorem Rds.kd (r : Rds H v d) : Kd K H v (.type (kindD d)) := .inl r.ty
theorem Rds.isT (r : Rds H v d) : kitOne K (.type (kindD d)) (.type "tuple") = some (tupB d) := by cases r <;> rfl
theorem Rds.isL (r : Rds H v d) : kitOne K (.type (kindD d)) (.type "list") = some (lisB d) := by cases r <;> rfl
theorem Rds.isB (r : Rds H v d) : kitOne K (.type (kindD d)) (.type "bool") = some (booB d) := by cases r <;> rfl
theorem Rds.th (r : Rds H v d) : Th K H v := by
  cases r with
  | int i => exact .inl ⟨i, rfl⟩
  | non => exact .inr ⟨fun i z => (by cases z), _, _, _, .inl .non, rfl, rfl, rfl⟩
  | bl b => exact .inr ⟨fun i z => (by cases z), _, _, _, .inl (.bl b), rfl, rfl, rfl⟩
  | str x => exact .inr ⟨fun i z => (by cases z), _, _, _, .inl (.str x), rfl, rfl, rfl⟩
  | lst e _ => exact .inr ⟨fun i z => (by cases z), _, _, _, .inl (.lst e), rfl, rfl, rfl⟩
  | tup e _ => exact .inr ⟨fun i z => (by cases z), _, _, _, .inl (.tup e), rfl, rfl, rfl⟩
  | dic0 e => exact .inr ⟨fun i z => (by cases z), _, _, _, .inl (.dK e), rfl, rfl, rfl⟩
  | dic e _ => exact .inr ⟨fun i z => (by cases z), _, _, _, .inl (.dK e), rfl, rfl, rfl⟩
theorem Rds.inB (r : Rds H v d) (lo hi : Int) : My.inB lo hi v = inD lo hi d := by cases r <;> rfl
theorem rds_tup (r : Rds H v (.tuple ds)) : ∃ a xs, v = .ref a ∧ H a = some (.tup xs) ∧ RdsAll H xs ds := by
  cases r with
  | tup e t => exact ⟨_, _, rfl, e, t⟩
theorem rds_lst (r : Rds H v (.list ds)) : ∃ a xs, v = .ref a ∧ H a = some (.lst xs) ∧ RdsAll H xs ds := by
  cases r with
  | lst e t => exact ⟨_, _, rfl, e, t⟩
theorem RdsAll.get {xs : List V} {ds : List PyData} (r : RdsAll H xs ds) : ∀ {i : Nat} {x : V}, xs[i]? = some x → ∃ d, ds[i]? = some d ∧ Rds H x d := by
  induction xs generalizing ds with
  | nil => intro i x h; simp at h
  | cons y ys ih =>
    cases r with
    | cons q t =>
      intro i x h
      cases i with
      | zero => cases h; exact ⟨_, rfl, q⟩
      | succ i => exact ih t h
end
end My
set_option Elab.async false
set_option linter.all false
set_option maxRecDepth 100000
set_option maxHeartbeats 1000000
namespace My
open PySem PySem.W L2
structure OneF (K : Frag) (mg : Str → Option Value) (D : Addr) (nm fld : Str) (C f : Addr) (fd : FuncData) : Prop where
  cls : ErrC K D nm C f
  mgC : mg nm = some (.ref C)
  ok : ∀ (P : Program) (w : World) (base : Heap), FnOk P w K mg base CX0 1 f fd ["self", fld] (spErr C fld)
  bi : Binds K fd ["self", fld] []
structure Df (P : Program) (w : World) (K : Frag) (mg : Str → Option Value) (base : Heap) (cx : CXT) (k : Nat) (nm : Str) (ps : List Str) (sp : Sp) (g : Addr) (gd : FuncData) : Prop where
  G : FnOk P w K mg base cx k g gd ps sp
  b : Binds K gd ps []
  kp : keepIn K (.ref g) = true
  m : mg nm = some (.ref g)
theorem passN {P : Program} {w : World} {X : Cx} : Passes (CXE P w) X E0 := fun _ _ _ _ _ _ _ h => by
  obtain ⟨_, _, _, _, _, _, _, _, _, _, _, _, _, h⟩ := h
  exact h.elim
def ErrF (C : Addr) (fld : Str) (x : V) (H : Hp) (E : XK) : Prop := ∀ e dx, H e = none → H dx = none → dx ≠ e → E (.ref C) (some e) (upd (upd H dx (.xd [(fld, x)])) e (ErrT e C (some dx)))
def outD : PyData → Bool
  | .tuple [a, b] => inD (-99) 99 a && booB b
  | _ => false
def lstdD : PyData → Bool
  | .tuple [a, b] => inD 0 1 a && inD 0 1 b
  | _ => false
def lgD : PyData → Bool
  | .list ds => decide (1 ≤ ds.length) && decide (ds.length ≤ 20) && ds.all lstdD
  | _ => false
section
variable {P : Program} {w : World} {K : Frag} {mg : Str → Option Value} {base : Heap}
theorem Ext.err {H : Hp} {C e dx : Addr} {fld : Str} {v : V} (h1 : H e = none) (h2 : H dx = none) (ne : dx ≠ e) : Ext H (upd (upd H dx (.xd [(fld, v)])) e (ErrT e C (some dx))) := by
  have x2 := Ext.new (o := .xd [(fld, v)]) h2
  have he2 : upd H dx (.xd [(fld, v)]) e = none := by rw [upd_ne ne.symm]; exact h1
  exact x2.trans (Ext.new (o := ErrT e C (some dx)) he2)
abbrev sNH : Stmt := top 12
def spNH (K : Frag) (C : Addr) : Sp := fun vs H Q E => ∃ (v : V) (d : PyData) (n : Nat), vs = [v, .int (n : Nat)] ∧ n ≤ 20 ∧ Rds H v d ∧ (inD 0 (2 ^ n - 1) d = true → Q .non H) ∧ (inD 0 (2 ^ n - 1) d = false → ErrF C "found" v H E)
theorem scNH : FnScope ["thing", "folk"] ["thing", "folk"] (defScope sNH) := ⟨rfl, rfl, rfl, by decide +kernel, rfl, by decide +kernel, by decide +kernel⟩
theorem ok_nh {f D C fC a1 : Addr} {fd fdC d1 : FuncData} (F : Fun K "need_hands" "need_hands" sNH f fd) (B : BaseC K D) (T : OneF K mg D "NoDealing" "found" C fC fdC) (A1 : Df P w K mg base CX0 2 "is_whole" ["thing", "low", "high"] (spIsWh K) a1 d1) : FnOk P w K mg base (CXE P w) 3 f fd ["thing", "folk"] (spNH K C) := by
  refine okE F scNH (fun vs H Q E h => ?_) (fun cdv A outer s H vs Q E hr h => ?_)
  · obtain ⟨v, d, n, rfl, _⟩ := h
    rfl
  obtain ⟨v, d, n, rfl, n20, rd, q1, q2⟩ := h
  refine ⟨_, pss_one (ps_if (pt_not (pt_val (pe_call A1.G hr rfl A1.m A1.kp A1.b .nil pass0 (pa_cons (pv 0) (pa_cons pe_int (pa_cons (pe_op op_sub (pe_op op_shl pe_int (pv 1)) pe_int) pa_nil)))))) (pss_one (ps_raise B T.cls (T.ok P w base) hr T.bi rfl T.mgC (pv 0))) pss_nil), ?_⟩
  have e0 : (1 : Int) * 2 ^ ((n : Int)).toNat - 1 = 2 ^ n - 1 := by rw [Int.one_mul]; rfl
  refine ⟨_, rfl, _, rfl, _, _, rfl, rfl, ⟨by omega, by omega, by decide⟩, _, _, rfl, rfl, v, 0, _, rfl, rd.th, _, rfl, ?_⟩
  show if (!(inB 0 ((1 : Int) * 2 ^ ((n : Int)).toNat - 1) v)) = true then _ else _
  rw [e0, rd.inB]
  cases e : inD 0 (2 ^ n - 1) d with
  | false => exact itT ⟨_, rfl, fun e' dx h1 h2 nd => qR_of nd (q2 e e' dx h1 h2 nd)⟩
  | true => exact itF (q1 e)
abbrev sHO : Stmt := top 13
def spHO : Sp := fun vs H Q _ => ∃ (x : Int) (i : Nat), vs = [.int x, .int (i : Nat)] ∧ Q (.int (x / 2 ^ i % 2)) H
theorem scHO : FnScope ["dealing", "at"] ["dealing", "at"] (defScope sHO) := ⟨rfl, rfl, rfl, by decide +kernel, rfl, by decide +kernel, by decide +kernel⟩
theorem ok_ho {f : Addr} {fd : FuncData} (F : Fun K "hand_of" "hand_of" sHO f fd) : FnOk P w K mg base CX0 1 f fd ["dealing", "at"] spHO := by
  refine F.ok scHO (fun vs H Q E h => ?_) (fun cdv A outer s H vs Q E hr h => ?_)
  · obtain ⟨x, i, rfl, _⟩ := h
    rfl
  obtain ⟨x, i, rfl, q⟩ := h
  refine ⟨_, pss_one (ps_ret (pe_op op_and (pe_op op_shr (pv 0) (pv 1)) pe_int)), ?_⟩
  refine ⟨_, rfl, _, rfl, _, _, rfl, rfl, (by show (0 : Int) ≤ (i : Int); omega), _, _, rfl, rfl, ?_⟩
  show Q (.int (Builtin.bitAnd (x / 2 ^ ((i : Int)).toNat) 1)) H
  rw [PyProof.Rows.bitAnd_m1]
  exact q
abbrev sIO : Stmt := top 17
def spIO : Sp := fun vs H Q _ => ∃ v d, vs = [v] ∧ Rds H v d ∧ Q (.bl (outD d)) H
theorem scIO : FnScope ["thing", "number", "sure"] ["thing"] (defScope sIO) := ⟨rfl, rfl, rfl, by decide +kernel, rfl, by decide +kernel, by decide +kernel⟩
theorem ok_io {f a1 : Addr} {fd d1 : FuncData} {t1 t2 : Tok} (N : IsT K) (F : Fun K "is_outcome" "is_outcome" sIO f fd) (A1 : Df P w K mg base CX0 2 "is_whole" ["thing", "low", "high"] (spIsWh K) a1 d1) (mL : mg "LEAST_NUMBER" = some (.int (-99) t1)) (mM : mg "MOST_NUMBER" = some (.int 99 t2))
    (mi : mg "isinstance" = none) (mt : mg "tuple" = none) (ml : mg "len" = none) (mb : mg "bool" = none) : FnOk P w K mg base CX0 3 f fd ["thing"] spIO := by
  refine F.ok scIO (fun vs H Q E h => ?_) (fun cdv A outer s H vs Q E hr h => ?_)
  · obtain ⟨v, d, rfl, _⟩ := h
    rfl
  obtain ⟨v, d, rfl, rd, q⟩ := h
  have nd := scIO.nd
  refine ⟨_, pss_cons (ps_if (PW.pt (pw_or (pt_not (pt_val (pe_callB (call_isK N) rfl mi PyProof.Rows.boot_isinstance (pa_cons (pv 0) (pa_cons (pe_ty rfl mt PyProof.Rows.boot_tuple) pa_nil))))) (pw_or1 (pt_cmpR op_ne (pe_callB call_len_seq rfl ml PySem.boot_len (pa_cons (pv 0) pa_nil)) pe_int (nomark _))))) (pss_one (ps_ret pe_bl)) pss_nil)
    (pss_cons (ps_asg (pv 0) (pg_tup rfl (pgs_cons (pg_name (i := 1) nd rfl (Or.inl rfl)) (pgs_cons (pg_name (i := 2) nd rfl (Or.inl rfl)) pgs_nil))))
    (pss_one (ps_ret (pe_and (pe_call A1.G hr rfl A1.m A1.kp A1.b .nil pass0 (pa_cons (pv 1) (pa_cons (pe_glob (v := .int (-99)) rfl mL ⟨_, rfl⟩) (pa_cons (pe_glob (v := .int 99) rfl mM ⟨_, rfl⟩) pa_nil)))) (pe_one (pe_callB (call_isK N) rfl mi PyProof.Rows.boot_isinstance (pa_cons (pv 2) (pa_cons (pe_ty rfl mb PyProof.Rows.boot_bool) pa_nil)))))))), ?_⟩
  refine ⟨_, rfl, _, _, _, _, rfl, rd.kd, rd.isT, _, rfl, ?_⟩
  cases e : tupB d with
  | false =>
    refine itT (itT ?_)
    have z : outD d = false := by cases d <;> first | rfl | cases e
    rw [z] at q
    exact q
  | true =>
    obtain ⟨ds, rfl⟩ : ∃ ds, d = .tuple ds := by cases d <;> first | exact ⟨_, rfl⟩ | cases e
    obtain ⟨a, xs, rfl, ha, rs⟩ := rds_tup rd
    refine itF ⟨_, rfl, a, _, rfl, .inr (SqT.of ha), rfl, _, rfl, ?_⟩
    have len := rs.length
    by_cases l2 : xs.length = 2
    · obtain ⟨u, v, rfl⟩ : ∃ u v, xs = [u, v] := by
        match xs, l2 with
        | [u, v], _ => exact ⟨u, v, rfl⟩
      cases rs with
      | cons r1 rs =>
        cases rs with
        | cons r2 rs =>
          cases rs
          refine itF ⟨_, rfl, a, _, rfl, SqT.of ha, rfl, _, _, rfl, _, _, rfl, rfl, ?_⟩
          refine ⟨_, rfl, u, -99, 99, rfl, r1.th, _, rfl, ?_⟩
          rw [r1.inB]
          rename_i d1 d2
          have qq : Q (.bl (inD (-99) 99 d1 && booB d2)) H := q
          cases e1 : inD (-99) 99 d1 with
          | false =>
            rw [e1] at qq
            exact itF qq
          | true =>
            rw [e1] at qq
            exact itT ⟨_, rfl, _, _, _, _, rfl, r2.kd, r2.isB, qq⟩
    · have e1 : (!decide (V.int (xs.length : Nat) = V.int 2)) = true := by
        rw [decide_eq_false]
        · rfl
        · intro h
          injection h with h
          omega
      rw [e1]
      refine itT ?_
      have z : outD (.tuple ds) = false := by
        match ds, len, l2 with
        | [], _, _ => rfl
        | [_], _, _ => rfl
        | [_, _], l, n => exact absurd l n
        | _ :: _ :: _ :: _, _, _ => rfl
      rw [z] at q
      exact q
end
end My
set_option Elab.async false
set_option linter.all false
set_option maxRecDepth 100000
set_option maxHeartbeats 1000000
namespace My
open PySem PySem.W L2
def First (p : PyData → Bool) (ds : List PyData) (i : Nat) : Prop := (∀ j d, j < i → ds[j]? = some d → p d = true) ∧ ∃ d, ds[i]? = some d ∧ p d = false
section
variable {P : Program} {w : World} {K : Frag} {mg : Str → Option Value} {base : Heap}
abbrev sNO : Stmt := top 18
def spNO (C : Addr) : Sp := fun vs H Q E => ∃ (v : V) (d : PyData) (i : Nat), vs = [v, .int (i : Nat)] ∧ Rds H v d ∧ (outD d = true → Q .non H) ∧ (outD d = false → ErrF C "place" (.int (i : Nat)) H E)
theorem scNO : FnScope ["thing", "place"] ["thing", "place"] (defScope sNO) := ⟨rfl, rfl, rfl, by decide +kernel, rfl, by decide +kernel, by decide +kernel⟩
theorem ok_no {f D C fC a1 : Addr} {fd fdC d1 : FuncData} (F : Fun K "need_outcome" "need_outcome" sNO f fd) (B : BaseC K D) (T : OneF K mg D "NoOutcome" "place" C fC fdC) (A1 : Df P w K mg base CX0 3 "is_outcome" ["thing"] spIO a1 d1) : FnOk P w K mg base (CXE P w) 4 f fd ["thing", "place"] (spNO C) := by
  refine okE F scNO (fun vs H Q E h => ?_) (fun cdv A outer s H vs Q E hr h => ?_)
  · obtain ⟨v, d, n, rfl, _⟩ := h
    rfl
  obtain ⟨v, d, i, rfl, rd, q1, q2⟩ := h
  have hr2 := hr.mono (show 2 ≤ 3 by decide)
  refine ⟨_, pss_one (ps_if (pt_not (pt_val (pe_call A1.G hr rfl A1.m A1.kp A1.b .nil pass0 (pa_cons (pv 0) pa_nil)))) (pss_one (ps_raise B T.cls (T.ok P w base) hr2 T.bi rfl T.mgC (pv 1))) pss_nil), ?_⟩
  refine ⟨_, rfl, v, d, rfl, rd, _, rfl, ?_⟩
  cases e : outD d with
  | false => exact itT ⟨_, rfl, fun e' dx h1 h2 nd => qR_of nd (q2 e e' dx h1 h2 nd)⟩
  | true => exact itF (q1 e)
abbrev sNOs : Stmt := top 19
def spNOs (CF CO : Addr) : Sp := fun vs H Q E => ∃ (v : V) (d : PyData), vs = [v] ∧ Rds H v d ∧ (lisB d = false → ErrF CF "found" v H E) ∧
  ∀ ds, d = .list ds → (ds.all outD = true → ∀ H', Ext H H' → Q .non H') ∧ ∀ i, First outD ds i → ∀ H', Ext H H' → ErrF CO "place" (.int (i : Nat)) H' E
theorem scNOs : FnScope ["thing", "place", "outcome"] ["thing"] (defScope sNOs) := ⟨rfl, rfl, rfl, by decide +kernel, rfl, by decide +kernel, by decide +kernel⟩
theorem ok_nos {f D CF fC CO a1 : Addr} {fd fdC d1 : FuncData} (N : IsT K) (F : Fun K "need_outcomes" "need_outcomes" sNOs f fd) (B : BaseC K D) (T : OneF K mg D "NoFolk" "found" CF fC fdC) (A1 : Df P w K mg base (CXE P w) 4 "need_outcome" ["thing", "place"] (spNO CO) a1 d1)
    (mi : mg "isinstance" = none) (ml : mg "list" = none) (me : mg "enumerate" = none) : FnOk P w K mg base (CXE P w) 5 f fd ["thing"] (spNOs CF CO) := by
  refine okE F scNOs (fun vs H Q E h => ?_) (fun cdv A outer s H vs Q E hr h => ?_)
  · obtain ⟨v, d, rfl, _⟩ := h
    rfl
  obtain ⟨v, d, rfl, rd, q1, q2⟩ := h
  have nd := scNOs.nd
  have hr2 := hr.mono (show 2 ≤ 4 by decide)
  refine ⟨_, pss_cons (ps_if (pt_not (pt_val (pe_callB (call_isK N) rfl mi PyProof.Rows.boot_isinstance (pa_cons (pv 0) (pa_cons (pe_ty rfl ml PyProof.Rows.boot_list) pa_nil))))) (pss_one (ps_raise B T.cls (T.ok P w base) hr2 T.bi rfl T.mgC (pv 0))) pss_nil)
    (pss_one (ps_for PassesOwn.leaving rfl (pi_enum rfl me (pa_cons (pv 0) pa_nil)) (pg_tup rfl (pgs_cons (pg_name (i := 1) nd rfl (Or.inl rfl)) (pgs_cons (pg_name (i := 2) nd rfl (Or.inl rfl)) pgs_nil)))
      (pss_one (ps_expr (pe_call A1.G hr rfl A1.m A1.kp A1.b .nil passE (pa_cons (pv 2) (pa_cons (pv 1) pa_nil))))))), ?_⟩
  refine ⟨_, rfl, _, _, _, _, rfl, rd.kd, rd.isL, _, rfl, ?_⟩
  cases e : lisB d with
  | false => exact itT ⟨_, rfl, fun e' dx h1 h2 nd => qR_of nd (q1 e e' dx h1 h2 nd)⟩
  | true =>
    refine itF ?_
    obtain ⟨ds, rfl⟩ : ∃ ds, d = .list ds := by cases d <;> first | exact ⟨_, rfl⟩ | cases e
    obtain ⟨a, xs, rfl, ha, rs⟩ := rds_lst rd
    obtain ⟨qn, qe⟩ := q2 ds rfl
    refine ⟨_, rfl, a, rfl, ⟨_, SqL.of ha⟩, for_enum (xs := xs) (fun i σ H' => Ext H H' ∧ (∀ (j : Nat) d, j < i → ds[j]? = some d → outD d = true) ∧ ∃ o1 o2, σ = [some (.ref a), o1, o2]) ⟨Ext.refl _, fun j d h => absurd h (Nat.not_lt_zero _), _, _, rfl⟩ ?_ ?_ ?_⟩
    · rintro i σ H' _ ⟨x', _⟩
      exact SqL.of (x' _ _ ha)
    · rintro i v σ H' k ev ⟨x', good, o1, o2, rfl⟩ hk
      have xk := Ext.new (o := .tup [.int (i : Nat), v]) hk
      obtain ⟨d, ed, rv⟩ := rs.get ev
      refine ⟨k, _, rfl, SqT.of upd_same, rfl, _, _, rfl, _, _, rfl, rfl, ?_⟩
      refine ⟨_, rfl, _, rfl, v, d, i, rfl, rv.mono (x'.trans xk), fun o => ?_, fun o => ?_⟩
      · refine ⟨x'.trans xk, fun j d' hj hd => ?_, _, _, rfl⟩
        rcases Nat.lt_or_ge j i with lt | ge
        · exact good j d' lt hd
        · have e0 : j = i := by omega
          subst e0
          rw [ed] at hd
          cases hd
          exact o
      · exact qe i ⟨good, d, ed, o⟩ _ (x'.trans xk)
    · rintro σ H' ⟨x', good, o1, o2, rfl⟩
      refine qn ?_ H' x'
      rw [List.all_eq_true]
      intro d hd
      obtain ⟨j, hj, e⟩ := List.getElem_of_mem hd
      exact good j d (by rw [rs.length]; exact hj) (by rw [List.getElem?_eq_getElem hj, e])
abbrev sIL : Stmt := top 26
def spIL : Sp := fun vs H Q _ => ∃ v d, vs = [v] ∧ Rds H v d ∧ Q (.bl (lstdD d)) H
theorem scIL : FnScope ["thing"] ["thing"] (defScope sIL) := ⟨rfl, rfl, rfl, by decide +kernel, rfl, by decide +kernel, by decide +kernel⟩
theorem ok_il {f a1 : Addr} {fd d1 : FuncData} (N : IsT K) (F : Fun K "is_listed" "is_listed" sIL f fd) (A1 : Df P w K mg base CX0 2 "is_whole" ["thing", "low", "high"] (spIsWh K) a1 d1)
    (mi : mg "isinstance" = none) (mt : mg "tuple" = none) (ml : mg "len" = none) : FnOk P w K mg base CX0 3 f fd ["thing"] spIL := by
  refine F.ok scIL (fun vs H Q E h => ?_) (fun cdv A outer s H vs Q E hr h => ?_)
  · obtain ⟨v, d, rfl, _⟩ := h
    rfl
  obtain ⟨v, d, rfl, rd, q⟩ := h
  refine ⟨_, pss_cons (ps_if (PW.pt (pw_or (pt_not (pt_val (pe_callB (call_isK N) rfl mi PyProof.Rows.boot_isinstance (pa_cons (pv 0) (pa_cons (pe_ty rfl mt PyProof.Rows.boot_tuple) pa_nil))))) (pw_or1 (pt_cmpR op_ne (pe_callB call_len_seq rfl ml PySem.boot_len (pa_cons (pv 0) pa_nil)) pe_int (nomark _))))) (pss_one (ps_ret pe_bl)) pss_nil)
    (pss_one (ps_ret (pe_and (pe_call A1.G hr rfl A1.m A1.kp A1.b .nil pass0 (pa_cons (pe_ix ix_tup (pv 0) pe_int (fun _ _ => rfl)) (pa_cons pe_int (pa_cons pe_int pa_nil)))) (pe_one (pe_call A1.G hr rfl A1.m A1.kp A1.b .nil pass0 (pa_cons (pe_ix ix_tup (pv 0) pe_int (fun _ _ => rfl)) (pa_cons pe_int (pa_cons pe_int pa_nil)))))))), ?_⟩
  refine ⟨_, rfl, _, _, _, _, rfl, rd.kd, rd.isT, _, rfl, ?_⟩
  cases e : tupB d with
  | false =>
    refine itT (itT ?_)
    have z : lstdD d = false := by cases d <;> first | rfl | cases e
    rw [z] at q
    exact q
  | true =>
    obtain ⟨ds, rfl⟩ : ∃ ds, d = .tuple ds := by cases d <;> first | exact ⟨_, rfl⟩ | cases e
    obtain ⟨a, xs, rfl, ha, rs⟩ := rds_tup rd
    refine itF ⟨_, rfl, a, _, rfl, .inr (SqT.of ha), rfl, _, rfl, ?_⟩
    have len := rs.length
    by_cases l2 : xs.length = 2
    · obtain ⟨u, v, rfl⟩ : ∃ u v, xs = [u, v] := by
        match xs, l2 with
        | [u, v], _ => exact ⟨u, v, rfl⟩
      cases rs with
      | cons r1 rs =>
        cases rs with
        | cons r2 rs =>
          cases rs
          refine itF ⟨_, rfl, a, _, _, _, rfl, rfl, SqT.of ha, rfl, u, 0, 1, rfl, r1.th, _, rfl, ?_⟩
          rw [r1.inB]
          rename_i d1 d2
          have qq : Q (.bl (inD 0 1 d1 && inD 0 1 d2)) H := q
          cases e1 : inD 0 1 d1 with
          | false =>
            rw [e1] at qq
            exact itF qq
          | true =>
            rw [e1] at qq
            refine itT ⟨_, rfl, a, _, _, _, rfl, rfl, SqT.of ha, rfl, v, 0, 1, rfl, r2.th, ?_⟩
            rw [r2.inB]
            exact qq
    · have e1 : (!decide (V.int (xs.length : Nat) = V.int 2)) = true := by
        rw [decide_eq_false]
        · rfl
        · intro h
          injection h with h
          omega
      rw [e1]
      refine itT ?_
      have z : lstdD (.tuple ds) = false := by
        match ds, len, l2 with
        | [], _, _ => rfl
        | [_], _, _ => rfl
        | [_, _], l, n => exact absurd l n
        | _ :: _ :: _ :: _, _, _ => rfl
      rw [z] at q
      exact q
end
end My
set_option Elab.async false
set_option linter.all false
set_option maxRecDepth 100000
set_option maxHeartbeats 1000000
namespace My
open PySem PySem.W L2
section
variable {P : Program} {w : World} {K : Frag} {mg : Str → Option Value} {base : Heap}
theorem ext_upd {H0 H : Hp} {l : Addr} (o : HO) (x : Ext H0 H) (h : H0 l = none) : Ext H0 (upd H l o) := fun b u e => by
  rw [upd_ne (fun z => by rw [z, h] at e; cases e)]
  exact x b u e
abbrev sIG : Stmt := top 27
def spIG : Sp := fun vs H Q _ => ∃ v d, vs = [v] ∧ Rds H v d ∧ (∀ ds, d = .list ds → ds.length < 10000) ∧ ∀ H', Ext H H' → Q (.bl (lgD d)) H'
theorem scIG : FnScope ["thing"] ["thing"] (defScope sIG) := ⟨rfl, rfl, rfl, by decide +kernel, rfl, by decide +kernel, by decide +kernel⟩
abbrev scIGc : Scope := { kind := .function, names := [(".0", .local), ("each", .local), ("is_listed", .globalImplicit)], isGenerator := false, isCoroutine := false }
theorem compIG {X : Cx} : CompSc X scIGc [] "each" [] [] := by
  refine ⟨rfl, rfl, by decide +kernel, by decide +kernel, by decide +kernel, (fun z c h => nomatch h), (fun z h => ?_), by decide +kernel, (fun k z h => by simp at h), rfl⟩
  exfalso
  have h' : List.lookup z [((".0" : Str), NameKind.local), (("each" : Str), NameKind.local), (("is_listed" : Str), NameKind.globalImplicit)] = some .cell ∨ List.lookup z [((".0" : Str), NameKind.local), (("each" : Str), NameKind.local), (("is_listed" : Str), NameKind.globalImplicit)] = some .free := h
  simp only [List.lookup_cons, List.lookup_nil] at h'
  repeat' (split at h')
  all_goals simp at h'
theorem take_all {α : Type} {xs : List α} {i : Nat} {x : α} (h : xs[i]? = some x) : xs.take (i + 1) = xs.take i ++ [x] := by
  rw [List.take_succ, h]
  rfl
theorem ok_ig {f a1 a2 : Addr} {fd d1 d2 : FuncData} {t20 : Tok} (N : IsT K) (F : Fun K "is_listing" "is_listing" sIG f fd) (A1 : Df P w K mg base CX0 2 "is_whole" ["thing", "low", "high"] (spIsWh K) a1 d1) (A2 : Df P w K mg base CX0 3 "is_listed" ["thing"] spIL a2 d2) (m20 : mg "MOST_FOLK" = some (.int 20 t20))
    (mi : mg "isinstance" = none) (mt : mg "list" = none) (ml : mg "len" = none) (ma : mg "all" = none) : FnOk P w K mg base CX0 4 f fd ["thing"] spIG := by
  refine F.ok scIG (fun vs H Q E h => ?_) (fun cdv A outer s H vs Q E hr h => ?_)
  · obtain ⟨v, d, rfl, _⟩ := h
    rfl
  obtain ⟨v, d, rfl, rd, big, q⟩ := h
  have hr2 := hr.mono (show 2 ≤ 3 by decide)
  refine ⟨_, pss_cons (ps_if (PW.pt (pw_or (pt_not (pt_val (pe_callB (call_isK N) rfl mi PyProof.Rows.boot_isinstance (pa_cons (pv 0) (pa_cons (pe_ty rfl mt PyProof.Rows.boot_list) pa_nil)))))
      (pw_or1 (pt_not (pt_val (pe_call A1.G hr2 rfl A1.m A1.kp A1.b .nil pass0 (pa_cons (pe_callB call_len_seq rfl ml PySem.boot_len (pa_cons (pv 0) pa_nil)) (pa_cons pe_int (pa_cons (pe_glob (v := .int 20) rfl m20 ⟨_, rfl⟩) pa_nil))))))))) (pss_one (ps_ret pe_bl)) pss_nil)
    (pss_one (ps_ret (pe_callB (call_all rfl) rfl ma PyProof.Rows.boot_all (pa_cons (pe_lc (te := tCall spIL [] E0 (tCons (tVar 0) tNil)) rfl compIG (pi_list (pv 0)) (fun s H C fp => by exact pe_call A2.G hr rfl A2.m A2.kp A2.b .nil pass0 (pa_cons (pv 0) pa_nil))) pa_nil)))), ?_⟩
  refine ⟨_, rfl, _, _, _, _, rfl, rd.kd, rd.isL, _, rfl, ?_⟩
  cases e : lisB d with
  | false =>
    refine itT (itT ?_)
    have z : lgD d = false := by cases d <;> first | rfl | cases e
    rw [z] at q
    exact q H (Ext.refl _)
  | true =>
    obtain ⟨ds, rfl⟩ : ∃ ds, d = .list ds := by cases d <;> first | exact ⟨_, rfl⟩ | cases e
    obtain ⟨a, xs, rfl, ha, rs⟩ := rds_lst rd
    have len := rs.length
    have bg := big ds rfl
    refine itF ⟨_, rfl, a, _, rfl, .inl (SqL.of ha), .int (xs.length : Nat), 1, 20, rfl, .inl ⟨_, rfl⟩, _, rfl, ?_⟩
    show if (!(decide ((1 : Int) ≤ (xs.length : Nat)) && decide (((xs.length : Nat) : Int) ≤ 20))) = true then _ else _
    have el : (decide ((1 : Int) ≤ (xs.length : Nat)) && decide (((xs.length : Nat) : Int) ≤ 20)) = (decide (1 ≤ ds.length) && decide (ds.length ≤ 20)) := by
      rw [len, Bool.eq_iff_iff, Bool.and_eq_true, Bool.and_eq_true, decide_eq_true_iff, decide_eq_true_iff, decide_eq_true_iff, decide_eq_true_iff]
      omega
    rw [el]
    have qq : ∀ H', Ext H H' → Q (.bl (decide (1 ≤ ds.length) && decide (ds.length ≤ 20) && ds.all lstdD)) H' := q
    cases el2 : decide (1 ≤ ds.length) && decide (ds.length ≤ 20) with
    | false =>
      rw [el2] at qq
      exact itT (qq H (Ext.refl _))
    | true =>
      rw [el2] at qq
      refine itF ?_
      refine ⟨_, rfl, a, rfl, ⟨_, SqL.of ha⟩, fun D hD => ?_⟩
      refine lc_list (a := a) (xs := xs) (fun i ys H' => Ext H H' ∧ ys = (ds.take i).map fun d => V.bl (lstdD d)) (by rw [len]; exact Nat.lt_trans bg (by decide)) ⟨Ext.new hD, rfl⟩ (fun i ys H' p => SqL.of (p.1 _ _ ha)) ?_ ?_
      · rintro i x ys H' ex ly hD' ⟨x', rfl⟩ R k
        obtain ⟨d, ed, rv⟩ := rs.get ex
        refine ⟨_, rfl, x, d, rfl, rv.mono x', k _ H' hD' ⟨ext_upd _ x' hD, ?_⟩⟩
        rw [take_all ed, List.map_append]
        rfl
      · rintro ys H' ly hD' ⟨x', rfl⟩
        refine ⟨D, ds.map lstdD, rfl, ?_, ?_⟩
        · have e3 : xs.length = ds.length := len
          rw [e3, List.take_length] at hD'
          rw [List.map_map]
          exact SqL.of hD'
        · have e3 : (ds.map lstdD).all id = ds.all lstdD := by rw [List.all_map]; rfl
          rw [e3]
          exact qq H' x'
abbrev sNG : Stmt := top 28
def spNG (C : Addr) : Sp := fun vs H Q E => ∃ v d, vs = [v] ∧ Rds H v d ∧ (∀ ds, d = .list ds → ds.length < 10000) ∧ (lgD d = true → ∀ H', Ext H H' → Q .non H') ∧ (lgD d = false → ∀ H', Ext H H' → ErrF C "found" v H' E)
theorem scNG : FnScope ["thing"] ["thing"] (defScope sNG) := ⟨rfl, rfl, rfl, by decide +kernel, rfl, by decide +kernel, by decide +kernel⟩
theorem ok_ng {f D C fC a1 : Addr} {fd fdC d1 : FuncData} (F : Fun K "need_listing" "need_listing" sNG f fd) (B : BaseC K D) (T : OneF K mg D "NoListing" "found" C fC fdC) (A1 : Df P w K mg base CX0 4 "is_listing" ["thing"] spIG a1 d1) : FnOk P w K mg base (CXE P w) 5 f fd ["thing"] (spNG C) := by
  refine okE F scNG (fun vs H Q E h => ?_) (fun cdv A outer s H vs Q E hr h => ?_)
  · obtain ⟨v, d, rfl, _⟩ := h
    rfl
  obtain ⟨v, d, rfl, rd, big, q1, q2⟩ := h
  have hr2 := hr.mono (show 2 ≤ 4 by decide)
  refine ⟨_, pss_one (ps_if (pt_not (pt_val (pe_call A1.G hr rfl A1.m A1.kp A1.b .nil pass0 (pa_cons (pv 0) pa_nil)))) (pss_one (ps_raise B T.cls (T.ok P w base) hr2 T.bi rfl T.mgC (pv 0))) pss_nil), ?_⟩
  refine ⟨_, rfl, v, d, rfl, rd, big, fun H' x' => ⟨_, rfl, ?_⟩⟩
  cases e : lgD d with
  | false => exact itT ⟨_, rfl, fun e' dx h1 h2 nd => qR_of nd (q2 e H' x' e' dx h1 h2 nd)⟩
  | true => exact itF (q1 e H' x')
end
end My
set_option Elab.async false
set_option linter.all false
set_option maxRecDepth 100000
set_option maxHeartbeats 1000000
namespace My
open PySem PySem.W L2
def isPair (a b : Int) : PyData → Bool
  | .tuple [.int x, .int y] => x == a && y == b
  | _ => false
def cnt (a b : Int) (ds : List PyData) : Nat := ds.countP (isPair a b)
section
variable {P : Program} {w : World} {K : Frag} {mg : Str → Option Value} {base : Heap} {H : Hp}
theorem inD_int {lo hi : Int} {d : PyData} (h : inD lo hi d = true) : ∃ i, d = .int i ∧ lo ≤ i ∧ i ≤ hi := by
  cases d with
  | int i =>
    have h' : (decide (lo ≤ i) && decide (i ≤ hi)) = true := h
    rw [Bool.and_eq_true, decide_eq_true_iff, decide_eq_true_iff] at h'
    exact ⟨i, rfl, h'.1, h'.2⟩
  | _ => cases h
theorem lstd_two {d : PyData} (h : lstdD d = true) : ∃ x y : Int, d = .tuple [.int x, .int y] ∧ (0 ≤ x ∧ x ≤ 1) ∧ (0 ≤ y ∧ y ≤ 1) := by
  match d, h with
  | .tuple [a, b], h =>
    have h' : (inD 0 1 a && inD 0 1 b) = true := h
    rw [Bool.and_eq_true] at h'
    obtain ⟨x, rfl, hx⟩ := inD_int h'.1
    obtain ⟨y, rfl, hy⟩ := inD_int h'.2
    exact ⟨x, y, rfl, hx, hy⟩
structure Rws (H : Hp) (xs : List V) (ds : List PyData) (as : List (Addr × Int × Int)) : Prop where
  xs_ : xs = as.map fun z => V.ref z.1
  ds_ : ds = as.map fun z => .tuple [.int z.2.1, .int z.2.2]
  at_ : ∀ z ∈ as, H z.1 = some (.tup [.int z.2.1, .int z.2.2])
  bit : ∀ z ∈ as, (0 ≤ z.2.1 ∧ z.2.1 ≤ 1) ∧ (0 ≤ z.2.2 ∧ z.2.2 ≤ 1)
theorem rds_int {v : V} {i : Int} (r : Rds H v (.int i)) : v = .int i := by cases r; rfl
theorem rds_bool {v : V} {b : Bool} (r : Rds H v (.bool b)) : v = .bl b := by cases r; rfl
theorem rws_of : ∀ {xs : List V} {ds : List PyData}, RdsAll H xs ds → ds.all lstdD = true → ∃ as, Rws H xs ds as
  | _, _, .nil, _ => ⟨[], rfl, rfl, (fun _ h => nomatch h), (fun _ h => nomatch h)⟩
  | _, _, .cons r t, h => by
    rw [List.all_cons, Bool.and_eq_true] at h
    obtain ⟨as, w⟩ := rws_of t h.2
    obtain ⟨x, y, rfl, hx, hy⟩ := lstd_two h.1
    obtain ⟨a, us, rfl, ha, rs⟩ := rds_tup r
    cases rs with
    | cons r1 rs =>
      cases rs with
      | cons r2 rs =>
        cases rs
        have e1 := rds_int r1
        have e2 := rds_int r2
        subst e1 e2
        refine ⟨(a, x, y) :: as, by rw [w.xs_]; rfl, by rw [w.ds_]; rfl, fun z hz => ?_, fun z hz => ?_⟩
        · rcases List.mem_cons.mp hz with rfl | hz
          · exact ha
          · exact w.at_ z hz
        · rcases List.mem_cons.mp hz with rfl | hz
          · exact ⟨hx, hy⟩
          · exact w.bit z hz
theorem Rws.ext {H' : Hp} {xs : List V} {ds : List PyData} {as : List (Addr × Int × Int)} (h : Rws H xs ds as) (x : Ext H H') : Rws H' xs ds as := ⟨h.xs_, h.ds_, fun z hz => x _ _ (h.at_ z hz), h.bit⟩
theorem cnt_eq {as : List (Addr × Int × Int)} {a b : Int} : ((as.map fun z => (z.1, [V.int z.2.1, V.int z.2.2])).countP fun z => eqVs z.2 [V.int a, V.int b]) = cnt a b (as.map fun z => .tuple [.int z.2.1, .int z.2.2]) := by
  unfold cnt
  rw [List.countP_map, List.countP_map]
  congr 1
  funext z
  show (((z.2.1 == a)) && ((z.2.2 == b) && true)) = (z.2.1 == a && z.2.2 == b)
  rw [Bool.and_true]
theorem rd_count {Q : VK} {l q : Addr} {xs : List V} {ds : List PyData} {as : List (Addr × Int × Int)} {a b : Int} (w : Rws H xs ds as) (hl : SqL K H l xs) (hq : SqT K H q [.int a, .int b]) (k : Q (.int (cnt a b ds : Nat)) H) : rCountT K (.ref l) [.ref q] H Q := by
  refine ⟨l, q, as.map fun z => (z.1, [V.int z.2.1, V.int z.2.2]), [.int a, .int b], rfl, rfl, ?_, fun z hz => ?_, hq, rfl, ?_⟩
  · rw [List.map_map]
    have e := w.xs_
    rw [e] at hl
    exact hl
  · obtain ⟨y, hy, rfl⟩ := List.mem_map.mp hz
    exact ⟨SqT.of (w.at_ y hy), rfl⟩
  · rw [cnt_eq, ← w.ds_]
    exact k
theorem rd_countT {Q : VK} {σ : St} {i : Nat} {l q : Addr} {xs : List V} {ds : List PyData} {as : List (Addr × Int × Int)} {a b : Int} (h0 : σ[i]? = some (some (.ref l))) (w : Rws H xs ds as) (hl : SqL K H l xs) (hq : SqT K H q [.int a, .int b]) (k : Q (.int (cnt a b ds : Nat)) H) : tBM K "list" (rCountT K) (tVar i) (tCons (tC (.ref q)) tNil) σ H Q :=
  ⟨_, h0, .inl ⟨rfl, _, hl⟩, show rCountT K (.ref l) [.ref q] H Q from rd_count w hl hq k⟩
abbrev sCO : Stmt := top 29
def four (ds : List PyData) : List V := [.int (cnt 1 0 ds : Nat), .int (cnt 0 1 ds : Nat), .int (cnt 1 1 ds : Nat), .int (cnt 0 0 ds : Nat)]
def spCO : Sp := fun vs H Q _ => ∃ a xs ds, vs = [.ref a] ∧ H a = some (.lst xs) ∧ RdsAll H xs ds ∧ ds.all lstdD = true ∧ ∀ l H', Ext H H' → H' l = some (.tup (four ds)) → Q (.ref l) H'
theorem scCO : FnScope ["listing"] ["listing"] (defScope sCO) := ⟨rfl, rfl, rfl, by decide +kernel, rfl, by decide +kernel, by decide +kernel⟩
structure Four (K : Frag) (mg : Str → Option Value) (k0 k1 k2 k3 : Addr) : Prop where
  m0 : mg "BETTERED" = some (.ref k0)
  m1 : mg "WORSENED" = some (.ref k1)
  m2 : mg "ALWAYS" = some (.ref k2)
  m3 : mg "NEVER" = some (.ref k3)
  t0 : ∀ H, SqT K H k0 [.int 1, .int 0]
  t1 : ∀ H, SqT K H k1 [.int 0, .int 1]
  t2 : ∀ H, SqT K H k2 [.int 1, .int 1]
  t3 : ∀ H, SqT K H k3 [.int 0, .int 0]
theorem ok_co {f k0 k1 k2 k3 : Addr} {fd : FuncData} (F : Fun K "counts_of" "counts_of" sCO f fd) (T : Four K mg k0 k1 k2 k3) : FnOk P w K mg base CX0 1 f fd ["listing"] spCO := by
  refine F.ok scCO (fun vs H Q E h => ?_) (fun cdv A outer s H vs Q E hr h => ?_)
  · obtain ⟨a, xs, ds, rfl, _⟩ := h
    rfl
  obtain ⟨a, xs, ds, rfl, ha, rs, al, q⟩ := h
  have hu : (A.deeper (PyProof.Rows.envOfC "counts_of" (defScope sCO) s.heap.objs.size f cdv)).units + 1 < cLine := by have := hr.units; omega
  refine ⟨_, pss_one (ps_ret (pe_tup (pa_cons (pe_bm PySem.F.plainAttrs_list PySem.F.slot_list_count PySem.F.type_list_count (mt_countT hu) (pv 0) (pa_cons (pe_glob (v := .ref k0) rfl T.m0 rfl) pa_nil)) (pa_cons (pe_bm PySem.F.plainAttrs_list PySem.F.slot_list_count PySem.F.type_list_count (mt_countT hu) (pv 0) (pa_cons (pe_glob (v := .ref k1) rfl T.m1 rfl) pa_nil))
    (pa_cons (pe_bm PySem.F.plainAttrs_list PySem.F.slot_list_count PySem.F.type_list_count (mt_countT hu) (pv 0) (pa_cons (pe_glob (v := .ref k2) rfl T.m2 rfl) pa_nil)) (pa_cons (pe_bm PySem.F.plainAttrs_list PySem.F.slot_list_count PySem.F.type_list_count (mt_countT hu) (pv 0) (pa_cons (pe_glob (v := .ref k3) rfl T.m3 rfl) pa_nil)) pa_nil)))))), ?_⟩
  obtain ⟨as, w⟩ := rws_of rs al
  have hl := SqL.of (K := K) ha
  have fin : ∀ l, H l = none → Q (.ref l) (upd H l (.tup (four ds))) := fun l hl => q l _ (Ext.new hl) upd_same
  exact rd_countT (i := 0) rfl w hl (T.t0 H) (rd_countT (i := 0) rfl w hl (T.t1 H) (rd_countT (i := 0) rfl w hl (T.t2 H) (rd_countT (i := 0) rfl w hl (T.t3 H) ⟨by show 4 ≤ sizeLine; decide, fin⟩)))
abbrev sLC : Stmt := top 30
def spLC (C : Addr) : Sp := fun vs H Q E => ∃ v d, vs = [v] ∧ Rds H v d ∧ (∀ ds, d = .list ds → ds.length < 10000) ∧ (lgD d = false → ∀ H', Ext H H' → ErrF C "found" v H' E) ∧ (lgD d = true → ∀ ds, d = .list ds → ∀ l H', Ext H H' → H' l = some (.tup (four ds)) → Q (.ref l) H')
theorem scLC : FnScope ["listing"] ["listing"] (defScope sLC) := ⟨rfl, rfl, rfl, by decide +kernel, rfl, by decide +kernel, by decide +kernel⟩
theorem lg_list {d : PyData} (h : lgD d = true) : ∃ ds, d = .list ds ∧ 1 ≤ ds.length ∧ ds.length ≤ 20 ∧ ds.all lstdD = true := by
  match d, h with
  | .list ds, h =>
    have h' : (decide (1 ≤ ds.length) && decide (ds.length ≤ 20) && ds.all lstdD) = true := h
    rw [Bool.and_eq_true, Bool.and_eq_true, decide_eq_true_iff, decide_eq_true_iff] at h'
    exact ⟨ds, rfl, h'.1.1, h'.1.2, h'.2⟩
theorem ok_lc {f C a1 a2 : Addr} {fd d1 d2 : FuncData} (F : Fun K "listing_counts" "listing_counts" sLC f fd) (A1 : Df P w K mg base (CXE P w) 5 "need_listing" ["thing"] (spNG C) a1 d1) (A2 : Df P w K mg base CX0 1 "counts_of" ["listing"] spCO a2 d2) : FnOk P w K mg base (CXE P w) 6 f fd ["listing"] (spLC C) := by
  refine okE F scLC (fun vs H Q E h => ?_) (fun cdv A outer s H vs Q E hr h => ?_)
  · obtain ⟨v, d, rfl, _⟩ := h
    rfl
  obtain ⟨v, d, rfl, rd, big, q1, q2⟩ := h
  have hr1 := hr.mono (show 1 ≤ 5 by decide)
  refine ⟨_, pss_cons (ps_expr (pe_call A1.G hr rfl A1.m A1.kp A1.b .nil passE (pa_cons (pv 0) pa_nil))) (pss_one (ps_ret (pe_call A2.G hr1 rfl A2.m A2.kp A2.b .nil pass0 (pa_cons (pv 0) pa_nil)))), ?_⟩
  refine ⟨_, rfl, v, d, rfl, rd, big, fun lg H' x' => ?_, q1⟩
  obtain ⟨ds, rfl, l1, l20, al⟩ := lg_list lg
  obtain ⟨a, xs, rfl, ha, rs⟩ := rds_lst (rd.mono x')
  exact ⟨_, rfl, a, xs, ds, rfl, ha, rs, al, fun l H2 x2 f2 => q2 lg ds rfl l H2 (x'.trans x2) f2⟩
end
end My
set_option Elab.async false
set_option linter.all false
set_option maxRecDepth 100000
set_option maxHeartbeats 1000000
namespace My
open PySem PySem.W L2
inductive Rw where
  | folk | out (i : Nat) | yes (i : Nat) | told (ns : List Int)
def yesD : PyData → Bool
  | .tuple [a, .bool true] => inD 0 1 a
  | _ => false
def y1 (n : Int) : PyData := .tuple [.int n, .bool true]
inductive RowIs : PyData → Rw → Prop
  | nl {d : PyData} : lisB d = false → RowIs d .folk
  | out {ds : List PyData} {i : Nat} : First outD ds i → RowIs (.list ds) (.out i)
  | size {ds : List PyData} : ds.all outD = true → ¬ (1 ≤ ds.length ∧ ds.length ≤ 20) → RowIs (.list ds) .folk
  | yes {ds : List PyData} {i : Nat} : ds.all outD = true → 1 ≤ ds.length → ds.length ≤ 20 → First yesD ds i → RowIs (.list ds) (.yes i)
  | told {ns : List Int} : 1 ≤ ns.length → ns.length ≤ 20 → (∀ n ∈ ns, 0 ≤ n ∧ n ≤ 1) → RowIs (.list (ns.map y1)) (.told ns)
theorem out_two {d : PyData} (h : outD d = true) : ∃ (x : Int) (b : Bool), d = .tuple [.int x, .bool b] ∧ -99 ≤ x ∧ x ≤ 99 := by
  match d, h with
  | .tuple [a, b], h =>
    have h' : (inD (-99) 99 a && booB b) = true := h
    rw [Bool.and_eq_true] at h'
    obtain ⟨x, rfl, hx⟩ := inD_int h'.1
    match b, h'.2 with
    | .bool b, _ => exact ⟨x, b, rfl, hx⟩
theorem out_y1 {n : Int} (h : 0 ≤ n ∧ n ≤ 1) : outD (y1 n) = true := by
  show (decide (-99 ≤ n) && decide (n ≤ 99) && true) = true
  rw [decide_eq_true (by omega), decide_eq_true (by omega)]
  rfl
theorem yes_y1 {n : Int} (h : 0 ≤ n ∧ n ≤ 1) : yesD (y1 n) = true := by
  show (decide (0 ≤ n) && decide (n ≤ 1)) = true
  rw [decide_eq_true h.1, decide_eq_true h.2]
  rfl
theorem not_first {p : PyData → Bool} {ds : List PyData} {i : Nat} (h : ds.all p = true) : ¬ First p ds i := fun ⟨_, d, e, f⟩ => by
  have := List.all_eq_true.mp h d (List.mem_of_getElem? e)
  rw [f] at this
  cases this
section
variable {P : Program} {w : World} {K : Frag} {mg : Str → Option Value} {base : Heap} {H : Hp} {CF CO CY : Addr}
def rowE (CF CO CY : Addr) (v : V) (H' : Hp) (E : XK) : Rw → Prop
  | .folk => ErrF CF "found" v H' E
  | .out i => ErrF CO "place" (.int (i : Nat)) H' E
  | .yes i => ErrF CY "place" (.int (i : Nat)) H' E
  | .told _ => True
abbrev sYR : Stmt := top 25
def spYR (CF CO CY : Addr) : Sp := fun vs H Q E => ∃ (v : V) (d : PyData) (r : Rw), vs = [v] ∧ Rds H v d ∧ (∀ ds, d = .list ds → ds.length < 10000) ∧ RowIs d r ∧ (∀ H', Ext H H' → rowE CF CO CY v H' E r) ∧
  ∀ ns, r = .told ns → ∀ l H', Ext H H' → H l = none → H' l = some (.lst (ns.map V.int)) → Q (.ref l) H'
abbrev NYR : List Str := ["outcomes", "place", "number", "sure"]
theorem scYR : FnScope NYR ["outcomes"] (defScope sYR) := ⟨rfl, rfl, rfl, by decide +kernel, rfl, by decide +kernel, by decide +kernel⟩
abbrev scYRc : Scope := { kind := .function, names := [(".0", .local), ("number", .local), ("sure", .local)], isGenerator := false, isCoroutine := false }
theorem compYR {X : Cx} : CompG X scYRc [] ["number", "sure"] [] [] := by
  refine ⟨rfl, rfl, by decide +kernel, by decide +kernel, by decide +kernel, (fun z c h => nomatch h), (fun z h => ?_), by decide +kernel, (fun k z h => by simp at h), rfl⟩
  exfalso
  have h' : List.lookup z [((".0" : Str), NameKind.local), (("number" : Str), NameKind.local), (("sure" : Str), NameKind.local)] = some .cell ∨ List.lookup z [((".0" : Str), NameKind.local), (("number" : Str), NameKind.local), (("sure" : Str), NameKind.local)] = some .free := h
  simp only [List.lookup_cons, List.lookup_nil] at h'
  repeat' (split at h')
  all_goals simp at h'
theorem ndYR : ((["number", "sure"] : List Str) ++ ([] : List Str)).Nodup := by decide +kernel
def tYR (K : Frag) (CF CO CY : Addr) (E : XK) : TS := tSeq (tDrop (tCall (spNOs CF CO) [] E (tCons (tVar 0) tNil)))
  (tSeq (tIfS (tNot (tB (tCall (spIsWh K) [] E0 (tCons (tCB (fun xs H Q => ∃ p ys, xs = [.ref p] ∧ (SqL K H p ys ∨ SqT K H p ys) ∧ Q (.int ys.length) H) (tCons (tVar 0) tNil)) (tCons (tC (.int 1)) (tCons (tC (.int 20)) tNil)))))) (tRaise E CF "found" (tVar 0)) tNext)
  (tSeq (tFor (iEnum K (tCons (tVar 0) tNil)) (gTup K 2 (gCons (gName 1) (gCons (gTup K 2 (gCons (gName 2) (gCons (gName 3) gNil))) gNil)))
    (tIfS (tOr (tNot (tB (tVar 3))) (tNot (tB (tCall (spIsWh K) [] E0 (tCons (tVar 2) (tCons (tC (.int 0)) (tCons (tC (.int 1)) tNil))))))) (tRaise E CY "place" (tVar 1)) tNext))
  (tRet (tLCG (iList K (tVar 0)) 2 [] (gTup K 2 (gCons (gName 0) (gCons (gName 1) gNil))) (tVar 0)))))
theorem yr_der {f D fC fY a1 a2 : Addr} {fdC fdY d1 d2 : FuncData} {cdv : Value} {A : Around} {outer : List Env} {s : Shared} {E : XK} {t20 : Tok} (B : BaseC K D) (T : OneF K mg D "NoFolk" "found" CF fC fdC) (TY : OneF K mg D "NoYes" "place" CY fY fdY) (A1 : Df P w K mg base (CXE P w) 5 "need_outcomes" ["thing"] (spNOs CF CO) a1 d1)
    (A2 : Df P w K mg base CX0 2 "is_whole" ["thing", "low", "high"] (spIsWh K) a2 d2) (m20 : mg "MOST_FOLK" = some (.int 20 t20)) (ml : mg "len" = none) (me : mg "enumerate" = none)
    (hr : Room 5 (A.deeper (PyProof.Rows.envOfC "yes_row" (defScope sYR) s.heap.objs.size f cdv))) : PSs (cxE P w K mg base NYR "yes_row" (defScope sYR) f cdv A outer s H E) (defBody sYR) (tYR K CF CO CY E) := by
  have nd := scYR.nd
  have hr2 : Room 2 _ := hr.mono (by decide)
  exact pss_cons (ps_expr (pe_call A1.G hr rfl A1.m A1.kp A1.b .nil passE (pa_cons (pv 0) pa_nil)))
    (pss_cons (ps_if (pt_not (pt_val (pe_call A2.G hr2 rfl A2.m A2.kp A2.b .nil pass0 (pa_cons (pe_callB call_len_seq rfl ml PySem.boot_len (pa_cons (pv 0) pa_nil)) (pa_cons pe_int (pa_cons (pe_glob (v := .int 20) rfl m20 ⟨_, rfl⟩) pa_nil)))))) (pss_one (ps_raise B T.cls (T.ok P w base) hr2 T.bi rfl T.mgC (pv 0))) pss_nil)
    (pss_cons (ps_for PassesOwn.leaving rfl (pi_enum rfl me (pa_cons (pv 0) pa_nil)) (pg_tup rfl (pgs_cons (pg_name (i := 1) nd rfl (Or.inl rfl)) (pgs_cons (pg_tup rfl (pgs_cons (pg_name (i := 2) nd rfl (Or.inl rfl)) (pgs_cons (pg_name (i := 3) nd rfl (Or.inl rfl)) pgs_nil))) pgs_nil)))
      (pss_one (ps_if (PW.pt (pw_or (pt_not (pt_val (pv 3))) (pw_or1 (pt_not (pt_val (pe_call A2.G hr2 rfl A2.m A2.kp A2.b .nil pass0 (pa_cons (pv 2) (pa_cons pe_int (pa_cons pe_int pa_nil))))))))) (pss_one (ps_raise B TY.cls (TY.ok P w base) hr2 TY.bi rfl TY.mgC (pv 1))) pss_nil)))
    (pss_one (ps_ret (pe_lcG rfl compYR (pi_list (pv 0)) (fun s H C fp => by exact pg_tup rfl (pgs_cons (pg_name (i := 0) ndYR rfl (.inl rfl)) (pgs_cons (pg_name (i := 1) ndYR rfl (.inl rfl)) pgs_nil))) (fun s H C fp => by exact pv 0))))))
end
end My
set_option Elab.async false
set_option linter.all false
set_option maxRecDepth 100000
set_option maxHeartbeats 1000000
namespace My
open PySem PySem.W L2
theorem first_uniq {p : PyData → Bool} {ds : List PyData} {i j : Nat} (h : First p ds i) (k : First p ds j) : i = j := by
  rcases Nat.lt_trichotomy i j with lt | e | gt
  · obtain ⟨_, d, e, f⟩ := h
    have := k.1 i d lt e
    rw [f] at this
    cases this
  · exact e
  · obtain ⟨_, d, e, f⟩ := k
    have := h.1 j d gt e
    rw [f] at this
    cases this
theorem yes_of {x : Int} {b : Bool} : yesD (.tuple [.int x, .bool b]) = (b && (decide (0 ≤ x) && decide (x ≤ 1))) := by
  cases b <;> rfl
section
variable {P : Program} {w : World} {K : Frag} {mg : Str → Option Value} {base : Heap} {H : Hp} {CF CO CY : Addr}
def tYL (K : Frag) (CY : Addr) (E : XK) : TS := tFor (iEnum K (tCons (tVar 0) tNil)) (gTup K 2 (gCons (gName 1) (gCons (gTup K 2 (gCons (gName 2) (gCons (gName 3) gNil))) gNil)))
    (tIfS (tOr (tNot (tB (tVar 3))) (tNot (tB (tCall (spIsWh K) [] E0 (tCons (tVar 2) (tCons (tC (.int 0)) (tCons (tC (.int 1)) tNil))))))) (tRaise E CY "place" (tVar 1)) tNext)
theorem rd_yl {D : Ends} {E : XK} {a : Addr} {xs : List V} {ds : List PyData} {w1 w2 w3 : Option V} (ha : H a = some (.lst xs)) (rs : RdsAll H xs ds) (al : ds.all outD = true) (fail : ∀ i, First yesD ds i → ∀ H', Ext H H' → ErrF CY "place" (.int (i : Nat)) H' E)
    (done : ds.all yesD = true → ∀ H' o1 o2 o3, Ext H H' → D.nx [some (.ref a), o1, o2, o3] H') : tYL K CY E D [some (.ref a), w1, w2, w3] H := by
  refine ⟨_, rfl, a, rfl, ⟨_, SqL.of ha⟩, for_enum (xs := xs) (fun i σ H' => Ext H H' ∧ (∀ (j : Nat) d, j < i → ds[j]? = some d → yesD d = true) ∧ ∃ o1 o2 o3, σ = [some (.ref a), o1, o2, o3]) ⟨Ext.refl _, fun j d h => absurd h (Nat.not_lt_zero _), _, _, _, rfl⟩ ?_ ?_ ?_⟩
  · rintro i σ H' _ ⟨x', _⟩
    exact SqL.of (x' _ _ ha)
  · rintro i v σ H' k ev ⟨x', good, o1, o2, o3, rfl⟩ hk
    have xk := Ext.new (o := .tup [.int (i : Nat), v]) hk
    obtain ⟨d, ed, rv⟩ := rs.get ev
    have od := List.all_eq_true.mp al d (List.mem_of_getElem? ed)
    obtain ⟨n, b, rfl, _⟩ := out_two od
    have xx := x'.trans xk
    obtain ⟨t, us, rfl, ht, rt⟩ := rds_tup (rv.mono xx)
    cases rt with
    | cons r1 rt =>
      cases rt with
      | cons r2 rt =>
        cases rt
        have e1 := rds_int r1
        have e2 := rds_bool r2
        subst e1 e2
        refine ⟨k, _, rfl, SqT.of upd_same, rfl, _, _, rfl, _, _, rfl, t, _, rfl, SqT.of ht, rfl, _, _, rfl, _, _, rfl, rfl, rfl, ?_⟩
        have next : yesD (.tuple [.int n, .bool b]) = true → ∀ o1 o2 o3, (Ext H (upd H' k (.tup [.int (i : Nat), .ref t])) ∧ (∀ (j : Nat) d, j < i + 1 → ds[j]? = some d → yesD d = true) ∧ ∃ p1 p2 p3, ([some (.ref a), o1, o2, o3] : St) = [some (.ref a), p1, p2, p3]) := fun y o1 o2 o3 => by
          refine ⟨xx, fun j d' hj hd => ?_, _, _, _, rfl⟩
          rcases Nat.lt_or_ge j i with lt | ge
          · exact good j d' lt hd
          · have e0 : j = i := by omega
            subst e0
            rw [ed] at hd
            cases hd
            exact y
        have bad : yesD (.tuple [.int n, .bool b]) = false → ∀ e dx, (upd H' k (.tup [.int (i : Nat), .ref t])) e = none → (upd H' k (.tup [.int (i : Nat), .ref t])) dx = none → dx ≠ e → _ := fun y e dx h1 h2 nd => fail i ⟨good, _, ed, y⟩ _ xx e dx h1 h2 nd
        rw [yes_of] at next bad
        refine ⟨_, rfl, _, rfl, ?_⟩
        cases b with
        | false => exact itT (itT ⟨_, rfl, fun e dx h1 h2 nd => qR_of nd (bad rfl e dx h1 h2 nd)⟩)
        | true =>
          refine itF ⟨_, rfl, .int n, 0, 1, rfl, .inl ⟨_, rfl⟩, _, rfl, ?_⟩
          show if (!(decide (0 ≤ n) && decide (n ≤ 1))) = true then _ else _
          cases e01 : decide (0 ≤ n) && decide (n ≤ 1) with
          | false =>
            rw [e01] at bad
            exact itT ⟨_, rfl, fun e dx h1 h2 nd => qR_of nd (bad rfl e dx h1 h2 nd)⟩
          | true =>
            rw [e01] at next
            exact itF (next rfl _ _ _)
  · rintro σ H' ⟨x', good, o1, o2, o3, rfl⟩
    refine done ?_ H' _ _ _ x'
    rw [List.all_eq_true]
    intro d hd
    obtain ⟨j, hj, e⟩ := List.getElem_of_mem hd
    exact good j d (by rw [rs.length]; exact hj) (by rw [List.getElem?_eq_getElem hj, e])
theorem rd_yc {Q : VK} {a : Addr} {xs : List V} {ns : List Int} {w1 w2 w3 : Option V} (ha : H a = some (.lst xs)) (rs : RdsAll H xs (ns.map y1)) (len : ns.length ≤ 20) (q : ∀ l H', Ext H H' → H l = none → H' l = some (.lst (ns.map V.int)) → Q (.ref l) H') :
    tLCG (iList K (tVar 0)) 2 [] (gTup K 2 (gCons (gName 0) (gCons (gName 1) gNil))) (tVar 0) [some (.ref a), w1, w2, w3] H Q := by
  have lx := rs.length
  rw [List.length_map] at lx
  refine ⟨_, rfl, a, rfl, ⟨_, SqL.of ha⟩, fun D hD => ?_⟩
  refine lcG_list (a := a) (xs := xs) (fun i ys H' => Ext H H' ∧ ys = (ns.take i).map V.int) (by rw [lx]; exact Nat.lt_of_le_of_lt len (by decide)) ⟨Ext.new hD, rfl⟩ (fun i ys H' p => SqL.of (p.1 _ _ ha)) ?_ ?_
  · rintro i x ys H' ex ly hD' ⟨x', rfl⟩ os los R k
    obtain ⟨d, ed, rv⟩ := rs.get ex
    rw [List.getElem?_map] at ed
    obtain ⟨n, en, rfl⟩ := Option.map_eq_some_iff.mp ed
    obtain ⟨t, us, rfl, ht, rt⟩ := rds_tup (rv.mono x')
    cases rt with
    | cons r1 rt =>
      cases rt with
      | cons r2 rt =>
        cases rt
        have e1 := rds_int r1
        have e2 := rds_bool r2
        subst e1 e2
        obtain ⟨p0, p1, rfl⟩ : ∃ p0 p1, os = [p0, p1] := by
          match os, los with
          | [p0, p1], _ => exact ⟨p0, p1, rfl⟩
        refine ⟨t, _, rfl, SqT.of ht, rfl, _, _, rfl, _, _, rfl, rfl, ⟨[some (.int n), some (.bl true)], rfl, rfl⟩, _, rfl, k _ H' hD' ⟨ext_upd _ x' hD, ?_⟩⟩
        rw [take_all en, List.map_append]
        rfl
  · rintro ys H' ly hD' ⟨x', rfl⟩
    rw [lx, List.take_length] at hD'
    exact q D H' x' hD hD'
theorem ok_yr {f D fC fY a1 a2 : Addr} {fd fdC fdY d1 d2 : FuncData} {t20 : Tok} (F : Fun K "yes_row" "yes_row" sYR f fd) (B : BaseC K D) (T : OneF K mg D "NoFolk" "found" CF fC fdC) (TY : OneF K mg D "NoYes" "place" CY fY fdY) (A1 : Df P w K mg base (CXE P w) 5 "need_outcomes" ["thing"] (spNOs CF CO) a1 d1)
    (A2 : Df P w K mg base CX0 2 "is_whole" ["thing", "low", "high"] (spIsWh K) a2 d2) (m20 : mg "MOST_FOLK" = some (.int 20 t20)) (ml : mg "len" = none) (me : mg "enumerate" = none) : FnOk P w K mg base (CXE P w) 6 f fd ["outcomes"] (spYR CF CO CY) := by
  refine okE F scYR (fun vs H Q E h => ?_) (fun cdv A outer s H vs Q E hr h => ?_)
  · obtain ⟨v, d, r, rfl, _⟩ := h
    rfl
  obtain ⟨v, d, r, rfl, rd, big, ri, qe, qt⟩ := h
  refine ⟨_, yr_der B T TY A1 A2 m20 ml me hr, ?_⟩
  refine ⟨_, rfl, v, d, rfl, rd, fun nl => ?_, fun ds ed => ⟨fun al H1 x1 => ?_, fun i fi H1 x1 => ?_⟩⟩
  · cases ri with
    | nl _ => exact qe H (Ext.refl _)
    | _ => cases nl
  · subst ed
    obtain ⟨a, xs, rfl, ha, rs⟩ := rds_lst (rd.mono x1)
    have len := rs.length
    refine ⟨_, rfl, a, _, rfl, .inl (SqL.of ha), .int (xs.length : Nat), 1, 20, rfl, .inl ⟨_, rfl⟩, _, rfl, ?_⟩
    show if (!(decide ((1 : Int) ≤ (xs.length : Nat)) && decide (((xs.length : Nat) : Int) ≤ 20))) = true then _ else _
    rw [len]
    cases ri with
    | nl h => cases h
    | out h => exact absurd h (not_first al)
    | size _ n =>
      have e : (decide ((1 : Int) ≤ (ds.length : Nat)) && decide (((ds.length : Nat) : Int) ≤ 20)) = false := by
        rw [Bool.eq_false_iff]
        intro z
        rw [Bool.and_eq_true, decide_eq_true_iff, decide_eq_true_iff] at z
        exact n ⟨by omega, by omega⟩
      rw [e]
      exact itT ⟨_, rfl, fun e' dx h1 h2 nd => qR_of nd (qe H1 x1 e' dx h1 h2 nd)⟩
    | yes _ l1 l20 fy =>
      have e : (decide ((1 : Int) ≤ (ds.length : Nat)) && decide (((ds.length : Nat) : Int) ≤ 20)) = true := by
        rw [Bool.and_eq_true, decide_eq_true_iff, decide_eq_true_iff]
        exact ⟨by omega, by omega⟩
      rw [e]
      refine itF (rd_yl (D := ⟨_, Q, _, _⟩) ha rs al (fun j fj H2 x2 => ?_) fun ay => absurd fy (not_first ay))
      have ej := first_uniq fj fy
      subst ej
      exact qe H2 (x1.trans x2)
    | @told ns l1 l20 bits =>
      rw [List.length_map]
      have e : (decide ((1 : Int) ≤ (ns.length : Nat)) && decide (((ns.length : Nat) : Int) ≤ 20)) = true := by
        rw [Bool.and_eq_true, decide_eq_true_iff, decide_eq_true_iff]
        exact ⟨by omega, by omega⟩
      rw [e]
      have ay : (ns.map y1).all yesD = true := by
        rw [List.all_eq_true]
        intro d hd
        obtain ⟨n, hn, rfl⟩ := List.mem_map.mp hd
        exact yes_y1 (bits n hn)
      refine itF (rd_yl (D := ⟨_, Q, _, _⟩) ha rs al (fun j fj => absurd fj (not_first ay)) fun _ H2 o1 o2 o3 x2 => ?_)
      exact rd_yc (x2 _ _ ha) (RdsAll.mono x2 rs) l20 fun l H3 x3 hl0 hl => qt ns rfl l H3 ((x1.trans x2).trans x3) (by
        cases e : H l with
        | none => rfl
        | some o =>
          have := x2 _ _ (x1 _ _ e)
          rw [hl0] at this
          cases this) hl
  · subst ed
    cases ri with
    | nl h => cases h
    | out h =>
      have ej := first_uniq fi h
      subst ej
      exact qe H1 x1
    | size al _ => exact absurd fi (not_first al)
    | yes al _ _ _ => exact absurd fi (not_first al)
    | @told ns _ _ bits =>
      refine absurd fi (not_first ?_)
      rw [List.all_eq_true]
      intro d hd
      obtain ⟨n, hn, rfl⟩ := List.mem_map.mp hd
      exact out_y1 (bits n hn)
end
end My
set_option Elab.async false
set_option linter.all false
set_option maxRecDepth 100000
set_option maxHeartbeats 1000000
namespace My
open PySem PySem.W L2
def bitAt (x : Int) (i : Nat) : Int := x / 2 ^ i % 2
def sel (p : Int × Int) (b : Int) : Int := if b = 1 then p.1 else p.2
def came (ps : List (Int × Int)) (x : Int) : List Int := ps.zipIdx.map fun z => sel z.1 (bitAt x z.2)
theorem came_len {ps : List (Int × Int)} {x : Int} : (came ps x).length = ps.length := by unfold came; rw [List.length_map, List.length_zipIdx]
theorem came_get {ps : List (Int × Int)} {x : Int} {i : Nat} {p : Int × Int} (h : ps[i]? = some p) : (came ps x)[i]? = some (sel p (bitAt x i)) := by
  unfold came
  rw [List.getElem?_map, List.getElem?_zipIdx, h]
  simp
theorem bit01 (x : Int) (i : Nat) : bitAt x i = 0 ∨ bitAt x i = 1 := by
  unfold bitAt
  have h0 := Int.emod_nonneg (x / 2 ^ i) (show (2 : Int) ≠ 0 by decide)
  have h1 := Int.emod_lt_of_pos (x / 2 ^ i) (show (0 : Int) < 2 by decide)
  omega
theorem sel_at {a b : Int} {x : Int} {i : Nat} : atI [V.int a, V.int b] (1 - bitAt x i) = some (.int (sel (a, b) (bitAt x i))) := by
  rcases bit01 x i with e | e
  · rw [e]; rfl
  · rw [e]; rfl
theorem all_eq {xs ys : List Int} (h : xs.length = ys.length) : ((List.range ys.length).map fun i => decide (xs[i]? = ys[i]?)).all id = decide (xs = ys) := by
  rw [List.all_map, Bool.eq_iff_iff, List.all_eq_true, decide_eq_true_iff]
  constructor
  · intro z
    refine List.ext_getElem? fun i => ?_
    rcases Nat.lt_or_ge i ys.length with lt | ge
    · have := z i (List.mem_range.mpr lt)
      simpa using this
    · rw [List.getElem?_eq_none (by omega), List.getElem?_eq_none ge]
  · intro e i _
    rw [e]
    simp
section
variable {P : Program} {w : World} {K : Frag} {mg : Str → Option Value} {base : Heap} {H : Hp}
abbrev sFR : Stmt := top 31
def spFR : Sp := fun vs H Q _ => ∃ (a r : Addr) (x : Int) (xs : List V) (ds : List PyData) (as : List (Addr × Int × Int)) (ns : List Int), vs = [.ref a, .ref r, .int x] ∧ H a = some (.lst xs) ∧ Rws H xs ds as ∧ H r = some (.lst (ns.map V.int)) ∧ as.length = ns.length ∧ ns.length ≤ 20 ∧
  ∀ H', Ext H H' → Q (.bl (decide (came (as.map (·.2)) x = ns))) H'
abbrev NFR : List Str := ["listing", "row", "dealing"]
theorem scFR : FnScope NFR ["listing", "row", "dealing"] (defScope sFR) := ⟨rfl, rfl, rfl, by decide +kernel, rfl, by decide +kernel, by decide +kernel⟩
abbrev scFRc : Scope := { kind := .function, names := [(".0", .local), ("at", .local), ("seen", .local), ("hand_of", .globalImplicit), ("dealing", .free), ("listing", .free)], isGenerator := false, isCoroutine := false }
theorem lookFR (z : Str) (h : List.lookup z [((".0" : Str), NameKind.local), (("at" : Str), NameKind.local), (("seen" : Str), NameKind.local), (("hand_of" : Str), NameKind.globalImplicit), (("dealing" : Str), NameKind.cell), (("listing" : Str), NameKind.cell)] = some .cell ∨
    List.lookup z [((".0" : Str), NameKind.local), (("at" : Str), NameKind.local), (("seen" : Str), NameKind.local), (("hand_of" : Str), NameKind.globalImplicit), (("dealing" : Str), NameKind.cell), (("listing" : Str), NameKind.cell)] = some .free) : z = "dealing" ∨ z = "listing" := by
  simp only [List.lookup_cons, List.lookup_nil] at h
  repeat' (split at h)
  all_goals first | (simp at h; done) | (rename_i e; exact .inl (beq_iff_eq.mp e)) | (rename_i e; exact .inr (beq_iff_eq.mp e))
theorem look2c {n1 n2 z : Str} {a1 a2 c : Addr} (h : List.lookup z [(n1, a1), (n2, a2)] = some c) : (z = n1 ∧ c = a1) ∨ (z = n2 ∧ c = a2) := by
  simp only [List.lookup_cons, List.lookup_nil] at h
  split at h
  · rename_i e
    exact .inl ⟨beq_iff_eq.mp e, (Option.some.inj h).symm⟩
  · split at h
    · rename_i e
      exact .inr ⟨beq_iff_eq.mp e, (Option.some.inj h).symm⟩
    · cases h
theorem compFR {f : Addr} {cdv : Value} {A : Around} {outer : List Env} {s : Shared} {H : Hp} {E : XK} : CompG (cxOf CX0 P w K mg base NFR "fits_row" (defScope sFR) f cdv A outer s H E).nox scFRc [("listing", s.heap.objs.size + 1), ("dealing", s.heap.objs.size + 2)] ["at", "seen"] ["listing", "dealing"] [0, 2] := by
  refine ⟨rfl, rfl, by decide +kernel, by decide +kernel, by decide +kernel, (fun z c h => ?_), (fun z h => ?_), by decide +kernel, (fun k z h => ?_), rfl⟩
  · rcases look2c h with ⟨rfl, rfl⟩ | ⟨rfl, rfl⟩ <;> rfl
  · rcases lookFR z h with rfl | rfl
    · exact ⟨_, rfl⟩
    · exact ⟨_, rfl⟩
  · match k, h with
    | 0, h =>
      cases h
      exact ⟨0, rfl, rfl, .inr (.inl rfl), (by show (defScope sFR).names.lookup ("listing" : Str) ≠ some NameKind.local; decide +kernel), .inl rfl⟩
    | 1, h =>
      cases h
      exact ⟨2, rfl, rfl, .inr (.inl rfl), (by show (defScope sFR).names.lookup ("dealing" : Str) ≠ some NameKind.local; decide +kernel), .inl rfl⟩
    | k + 2, h => cases h
theorem ndFR : ((["at", "seen"] : List Str) ++ (["listing", "dealing"] : List Str)).Nodup := by decide +kernel
def tFRe (K : Frag) : TE := tOp rEq (tOp (rIxT K) (tOp (rIxL K) (tVar 2) (tVar 0)) (tOp (rI0 fun i j => .int (i - j)) (tC (.int 1)) (tCall spHO [] E0 (tCons (tVar 3) (tCons (tVar 0) tNil))))) (tVar 1)
theorem ok_fr {f a1 : Addr} {fd d1 : FuncData} (F : Fun K "fits_row" "fits_row" sFR f fd) (A1 : Df P w K mg base CX0 1 "hand_of" ["dealing", "at"] spHO a1 d1) (ma : mg "all" = none) (me : mg "enumerate" = none) : FnOk P w K mg base CX0 2 f fd ["listing", "row", "dealing"] spFR := by
  refine F.ok scFR (fun vs H Q E h => ?_) (fun cdv A outer s H vs Q E hr h => ?_)
  · obtain ⟨a, r, x, xs, ds, as, ns, rfl, _⟩ := h
    rfl
  obtain ⟨a, r, x, xs, ds, as, ns, rfl, ha, w, hrw, len, l20, q⟩ := h
  refine ⟨_, pss_one (ps_ret (pe_callB (call_all rfl) rfl ma PyProof.Rows.boot_all (pa_cons (pe_lcG (te := tFRe K) (g := gTup K 2 (gCons (gName 0) (gCons (gName 1) gNil))) rfl compFR (pi_enum rfl me (pa_cons (pv 1) pa_nil)) (fun s H C fp => by exact pg_tup rfl (pgs_cons (pg_name (i := 0) ndFR rfl (.inl rfl)) (pgs_cons (pg_name (i := 1) ndFR rfl (.inl rfl)) pgs_nil)))
    (fun s H C fp => by exact pe_cmpR op_eq (pe_ix ix_tup (pe_ix ix_list (pv 2) (pv 0) (fun _ _ => rfl)) (pe_op op_sub pe_int (pe_call A1.G hr rfl A1.m A1.kp A1.b .nil pass0 (pa_cons (pv 3) (pa_cons (pv 0) pa_nil)))) (fun _ _ => rfl)) (pv 1) (nomark _))) pa_nil))), ?_⟩
  refine ⟨_, rfl, r, rfl, ⟨_, SqL.of hrw⟩, fun D hD => ?_⟩
  refine lcG_enum (a := r) (xs := ns.map V.int) (fun i ys H' => Ext H H' ∧ ys = (List.range i).map fun k => V.bl (decide ((came (as.map (·.2)) x)[k]? = ns[k]?))) (by rw [List.length_map]; exact Nat.lt_of_le_of_lt l20 (by decide)) ⟨Ext.new hD, rfl⟩ (fun i ys H' p => SqL.of (p.1 _ _ hrw)) ?_ ?_
  · rintro i v ys H' p ev ly hD' ⟨x', rfl⟩ hp os los R k
    rw [List.getElem?_map] at ev
    obtain ⟨n, en, rfl⟩ := Option.map_eq_some_iff.mp ev
    obtain ⟨p0, p1, rfl⟩ : ∃ p0 p1, os = [p0, p1] := by
      match os, los with
      | [p0, p1], _ => exact ⟨p0, p1, rfl⟩
    have xk := Ext.new (o := .tup [.int (i : Nat), .int n]) hp
    have xx := x'.trans xk
    have li : i < as.length := by have := (List.getElem?_eq_some_iff.mp en).1; omega
    have ea := List.getElem?_eq_getElem li
    have hz := xx _ _ (w.at_ _ (List.getElem_mem li))
    have at1 : atI xs (i : Int) = some (.ref as[i].1) := atI_nat (by rw [w.xs_, List.getElem?_map, ea]; rfl)
    refine ⟨p, _, rfl, SqT.of upd_same, rfl, _, _, rfl, _, _, rfl, rfl, ⟨[some (.int (i : Nat)), some (.int n)], rfl, rfl⟩, _, rfl, _, rfl, a, _, _, _, rfl, rfl, SqL.of (xx _ _ ha), at1, _, rfl, _, rfl, x, i, rfl, _, _, rfl, rfl, as[i].1, _, _, _, rfl, rfl, SqT.of hz, sel_at, _, rfl, rfl, ?_⟩
    have hD4 := xk _ _ hD'
    refine k _ _ hD4 ⟨ext_upd _ xx hD, ?_⟩
    rw [List.range_succ, List.map_append]
    congr 1
    show [V.bl (decide (V.int (sel as[i].2 (bitAt x i)) = V.int n))] = [V.bl (decide ((came (as.map (·.2)) x)[i]? = ns[i]?))]
    have e1 : (came (as.map (·.2)) x)[i]? = some (sel as[i].2 (bitAt x i)) := came_get (by rw [List.getElem?_map, ea]; rfl)
    rw [e1, en]
    congr 2
    rw [Bool.eq_iff_iff, decide_eq_true_iff, decide_eq_true_iff]
    constructor
    · intro z; injection z with z; rw [z]
    · intro z; injection z with z; rw [z]
  · rintro ys H' ly hD' ⟨x', rfl⟩
    have lc : (came (as.map (·.2)) x).length = ns.length := by rw [came_len, List.length_map, len]
    refine ⟨D, (List.range ns.length).map fun k => decide ((came (as.map (·.2)) x)[k]? = ns[k]?), rfl, ?_, ?_⟩
    · rw [List.length_map] at hD'
      rw [List.map_map]
      exact SqL.of hD'
    · rw [all_eq lc]
      exact q H' x'
end
end My
set_option Elab.async false
set_option linter.all false
set_option maxRecDepth 100000
set_option maxHeartbeats 1000000
namespace My
open PySem PySem.W L2
inductive Ft where
  | listing | row (r : Rw) | dealing | told (b : Bool)
def pairT (p : Int × Int) : PyData := .tuple [.int p.1, .int p.2]
def isTold : Rw → Bool
  | .told _ => true
  | _ => false
inductive FtIs : PyData → PyData → PyData → Ft → Prop
  | lg {d1 d2 d3 : PyData} : lgD d1 = false → FtIs d1 d2 d3 .listing
  | row {d1 d2 d3 : PyData} {r : Rw} : lgD d1 = true → RowIs d2 r → isTold r = false → FtIs d1 d2 d3 (.row r)
  | deal {d1 d2 d3 : PyData} {ns : List Int} : lgD d1 = true → RowIs d2 (.told ns) → inD 0 (2 ^ ns.length - 1) d3 = false → FtIs d1 d2 d3 .dealing
  | len {ds : List PyData} {d2 d3 : PyData} {ns : List Int} : lgD (.list ds) = true → RowIs d2 (.told ns) → inD 0 (2 ^ ns.length - 1) d3 = true → ds.length ≠ ns.length → FtIs (.list ds) d2 d3 .listing
  | told {ps : List (Int × Int)} {d2 : PyData} {x : Int} {ns : List Int} : lgD (.list (ps.map pairT)) = true → RowIs d2 (.told ns) → inD 0 (2 ^ ns.length - 1) (.int x) = true → ps.length = ns.length → FtIs (.list (ps.map pairT)) d2 (.int x) (.told (decide (came ps x = ns)))
section
variable {P : Program} {w : World} {K : Frag} {mg : Str → Option Value} {base : Heap} {H : Hp} {CF CO CY CG CD : Addr}
def ftE (CF CO CY CG CD : Addr) (v1 v2 v3 : V) (H' : Hp) (E : XK) : Ft → Prop
  | .listing => ErrF CG "found" v1 H' E
  | .row r => rowE CF CO CY v2 H' E r
  | .dealing => ErrF CD "found" v3 H' E
  | .told _ => True
def Small (d : PyData) : Prop := ∀ ds, d = .list ds → ds.length < 10000
abbrev sFT : Stmt := top 32
def spFT (CF CO CY CG CD : Addr) : Sp := fun vs H Q E => ∃ (v1 v2 v3 : V) (d1 d2 d3 : PyData) (r : Ft), vs = [v1, v2, v3] ∧ Rds H v1 d1 ∧ Rds H v2 d2 ∧ Rds H v3 d3 ∧ Small d1 ∧ Small d2 ∧ FtIs d1 d2 d3 r ∧ (∀ H', Ext H H' → ftE CF CO CY CG CD v1 v2 v3 H' E r) ∧
  ∀ b, r = .told b → ∀ H', Ext H H' → Q (.bl b) H'
abbrev NFT : List Str := ["listing", "outcomes", "dealing", "row"]
theorem scFT : FnScope NFT ["listing", "outcomes", "dealing"] (defScope sFT) := ⟨rfl, rfl, rfl, by decide +kernel, rfl, by decide +kernel, by decide +kernel⟩
theorem told_len {d : PyData} {ns : List Int} (h : RowIs d (.told ns)) : 1 ≤ ns.length ∧ ns.length ≤ 20 := by
  cases h with
  | told l1 l20 _ => exact ⟨l1, l20⟩
theorem ok_ft {f D fG a1 a2 a3 a4 : Addr} {fd fdG d1 d2 d3 d4 : FuncData} (F : Fun K "fits" "fits" sFT f fd) (B : BaseC K D) (T : OneF K mg D "NoListing" "found" CG fG fdG) (A1 : Df P w K mg base (CXE P w) 5 "need_listing" ["thing"] (spNG CG) a1 d1) (A2 : Df P w K mg base (CXE P w) 6 "yes_row" ["outcomes"] (spYR CF CO CY) a2 d2)
    (A3 : Df P w K mg base (CXE P w) 3 "need_hands" ["thing", "folk"] (spNH K CD) a3 d3) (A4 : Df P w K mg base CX0 2 "fits_row" ["listing", "row", "dealing"] spFR a4 d4) (ml : mg "len" = none) : FnOk P w K mg base (CXE P w) 7 f fd ["listing", "outcomes", "dealing"] (spFT CF CO CY CG CD) := by
  refine okE F scFT (fun vs H Q E h => ?_) (fun cdv A outer s H vs Q E hr h => ?_)
  · obtain ⟨v1, v2, v3, d1, d2, d3, r, rfl, _⟩ := h
    rfl
  obtain ⟨v1, v2, v3, e1, e2, e3, r, rfl, r1, r2, r3, s1, s2, fi, qe, qt⟩ := h
  have nd := scFT.nd
  have hr5 := hr.mono (show 5 ≤ 6 by decide)
  have hr3 := hr.mono (show 3 ≤ 6 by decide)
  have hr2 := hr.mono (show 2 ≤ 6 by decide)
  refine ⟨_, pss_cons (ps_expr (pe_call A1.G hr5 rfl A1.m A1.kp A1.b .nil passE (pa_cons (pv 0) pa_nil)))
    (pss_cons (ps_set (i := 3) nd rfl (Or.inl rfl) (pe_call A2.G hr rfl A2.m A2.kp A2.b .nil passE (pa_cons (pv 1) pa_nil)))
    (pss_cons (ps_expr (pe_call A3.G hr3 rfl A3.m A3.kp A3.b .nil passE (pa_cons (pv 2) (pa_cons (pe_callB call_len_seq rfl ml PySem.boot_len (pa_cons (pv 3) pa_nil)) pa_nil))))
    (pss_cons (ps_if (pt_cmpR op_ne (pe_callB call_len_seq rfl ml PySem.boot_len (pa_cons (pv 0) pa_nil)) (pe_callB call_len_seq rfl ml PySem.boot_len (pa_cons (pv 3) pa_nil)) (nomark _)) (pss_one (ps_raise B T.cls (T.ok P w base) hr2 T.bi rfl T.mgC (pv 0))) pss_nil)
    (pss_one (ps_ret (pe_call A4.G hr2 rfl A4.m A4.kp A4.b .nil pass0 (pa_cons (pv 0) (pa_cons (pv 3) (pa_cons (pv 2) pa_nil))))))))), ?_⟩
  refine ⟨_, rfl, v1, e1, rfl, r1, s1, fun lg H1 x1 => ?_, fun lg H1 x1 => ?_⟩
  rotate_left
  · cases fi with
    | lg h => exact qe H1 x1
    | row h _ _ => rw [h] at lg; cases lg
    | deal h _ _ => rw [h] at lg; cases lg
    | len h _ _ _ => rw [h] at lg; cases lg
    | told h _ _ _ => rw [h] at lg; cases lg
  have row : ∃ r', RowIs e2 r' ∧ (isTold r' = false → r = .row r') ∧ ∀ ns, r' = .told ns → (inD 0 (2 ^ ns.length - 1) e3 = false → r = .dealing) ∧ (inD 0 (2 ^ ns.length - 1) e3 = true → ∀ ds, e1 = .list ds → (ds.length ≠ ns.length → r = .listing) ∧ (ds.length = ns.length → ∃ ps x, e1 = .list (ps.map pairT) ∧ e3 = .int x ∧ r = .told (decide (came ps x = ns)))) := by
    cases fi with
    | lg h => rw [h] at lg; cases lg
    | row _ ri nt => exact ⟨_, ri, fun _ => rfl, fun ns e => by subst e; cases nt⟩
    | @deal _ _ _ ns0 _ ri dn => exact ⟨_, ri, fun z => (by cases z), fun ns e => by cases e; exact ⟨fun _ => rfl, fun z => by rw [dn] at z; cases z⟩⟩
    | @len _ _ _ ns0 _ ri dn ne => exact ⟨_, ri, fun z => (by cases z), fun ns e => by cases e; exact ⟨fun z => (by rw [dn] at z; cases z), fun _ ds e => by cases e; exact ⟨fun _ => rfl, fun z => absurd z ne⟩⟩⟩
    | @told ps _ x ns0 _ ri dn le => exact ⟨_, ri, fun z => (by cases z), fun ns e => by cases e; exact ⟨fun z => (by rw [dn] at z; cases z), fun _ ds e => by cases e; exact ⟨fun z => absurd (by rw [List.length_map]; exact le) z, fun _ => ⟨ps, x, rfl, rfl, rfl⟩⟩⟩⟩
  obtain ⟨r', ri, hrow, htold⟩ := row
  refine ⟨_, rfl, v2, e2, r', rfl, r2.mono x1, s2, ri, fun H2 x2 => ?_, fun ns er l H2 x2 hl0 hl => ?_⟩
  · cases nt : isTold r' with
    | false =>
      have er := hrow nt
      subst er
      exact qe H2 (x1.trans x2)
    | true =>
      cases r' with
      | told ns => exact True.intro
      | _ => cases nt
  obtain ⟨hdeal, hlen⟩ := htold ns er
  subst er
  obtain ⟨n1, n20⟩ := told_len ri
  have x12 := x1.trans x2
  obtain ⟨ds, rfl, l1, l20, al⟩ := lg_list lg
  have e0 : (ns.map V.int).length = ns.length := List.length_map ..
  refine ⟨_, rfl, _, rfl, l, _, rfl, .inl (SqL.of hl), v3, e3, ns.length, by rw [e0]; rfl, n20, r3.mono x12, fun dn => ?_, fun dn => ?_⟩
  rotate_left
  · have er := hdeal dn
    subst er
    exact qe H2 x12
  obtain ⟨hne, heq⟩ := hlen dn ds rfl
  obtain ⟨a, xs, rfl, ha, rs⟩ := rds_lst (r1.mono x12)
  have lx := rs.length
  refine ⟨_, rfl, a, _, rfl, .inl (SqL.of ha), _, rfl, l, _, rfl, .inl (SqL.of hl), rfl, _, rfl, ?_⟩
  by_cases le : ds.length = ns.length
  · obtain ⟨ps, x, e1', e3', er⟩ := heq le
    have eds : ds = ps.map pairT := by injection e1'
    subst er e3'
    have e1 : (!decide (V.int (xs.length : Nat) = V.int ((ns.map V.int).length : Nat))) = false := by
      rw [e0, lx, le, decide_eq_true rfl]
      rfl
    rw [e1]
    refine itF ?_
    obtain ⟨as, wr⟩ := rws_of rs al
    have eps : as.map (·.2) = ps := by
      have z := wr.ds_
      rw [eds] at z
      have inj : ∀ (us vs : List (Int × Int)), us.map pairT = vs.map pairT → us = vs := by
        intro us
        induction us with
        | nil => intro vs h; cases vs with
          | nil => rfl
          | cons _ _ => cases h
        | cons u us ih => intro vs h; cases vs with
          | nil => cases h
          | cons v vs =>
            rw [List.map_cons, List.map_cons] at h
            injection h with h1 h2
            unfold pairT at h1
            injection h1 with h1
            injection h1 with h3 h4
            injection h3 with h3
            injection h4 with h4
            injection h4 with h4
            rw [ih vs h2]
            congr 1
            exact Prod.ext h3 h4
      refine inj _ _ ?_
      rw [z, List.map_map]
      rfl
    have lna : as.length = ns.length := by rw [← le, eds, List.length_map, ← eps, List.length_map]
    have ev3 : v3 = .int x := rds_int r3
    subst ev3
    refine ⟨_, rfl, _, rfl, _, rfl, a, l, x, xs, ds, as, ns, rfl, ha, wr, hl, lna, n20, fun H3 x3 => ?_⟩
    rw [eps]
    exact qt _ rfl H3 (x12.trans x3)
  · have er := hne le
    subst er
    have e1 : (!decide (V.int (xs.length : Nat) = V.int ((ns.map V.int).length : Nat))) = true := by
      rw [decide_eq_false]
      · rfl
      · intro z
        injection z with z
        rw [e0] at z
        omega
    rw [e1]
    exact itT ⟨_, rfl, fun e' dx h1 h2 nd => qR_of nd (qe H2 x12 e' dx h1 h2 nd)⟩
end
end My
set_option Elab.async false
set_option linter.all false
set_option maxRecDepth 100000
set_option maxHeartbeats 1000000
namespace My
open PySem PySem.W L2
def Kept (H H' : Hp) (p : Addr) : Prop := ∀ b o, H b = some o → b ≠ p → H' b = some o
theorem Kept.refl (H : Hp) (p : Addr) : Kept H H p := fun _ _ h _ => h
theorem Kept.trans {H H1 H2 : Hp} {p : Addr} (x : Kept H H1 p) (y : Kept H1 H2 p) : Kept H H2 p := fun b o h n => y b o (x b o h n) n
theorem Ext.kept {H H' : Hp} (x : Ext H H') (p : Addr) : Kept H H' p := fun b o h _ => x b o h
def wo (H : Hp) (p : Addr) : Hp := fun b => if b = p then none else H b
theorem wo_ext (H : Hp) (p : Addr) : Ext (wo H p) H := fun b o e => by
  unfold wo at e
  split at e
  · cases e
  · exact e
theorem wo_at {H : Hp} {p b : Addr} {o : HO} (n : b ≠ p) (e : H b = some o) : wo H p b = some o := by unfold wo; rw [if_neg n]; exact e
theorem wo_kept {H H' : Hp} {p : Addr} (k : Kept H H' p) : Ext (wo H p) (wo H' p) := fun b o e => by
  unfold wo at e
  split at e
  · cases e
  · rename_i n
    exact wo_at n (k b o e n)
structure BoxAt (H : Hp) (p : Addr) : Prop where
  ex : ∃ a b c : Int, H p = some (.lst [.int a, .int b, .int c]) ∧ 0 ≤ a ∧ 0 ≤ b ∧ b < 2147483629
theorem BoxAt.ext {H H' : Hp} {p : Addr} (h : BoxAt H p) (x : Ext H H') : BoxAt H' p := by
  obtain ⟨a, b, c, e, r⟩ := h.ex
  exact ⟨a, b, c, x _ _ e, r⟩
theorem BoxAt.ne {H : Hp} {p q : Addr} (h : BoxAt H p) (e : H q = none) : q ≠ p := fun z => by
  obtain ⟨a, b, c, f, _⟩ := h.ex
  rw [z, f] at e
  cases e
section
variable {P : Program} {w : World} {K : Frag} {mg : Str → Option Value} {base : Heap}
abbrev sCell : Stmt := top 34
def spCell (K : Frag) : Sp := fun vs H Q _ => ∃ (a : Addr) (ns : List Int) (k : Int), vs = [.ref a, .int k] ∧ SqL K H a (ns.map V.int) ∧ 0 ≤ k ∧ k < 100 ∧ ∀ c : Int, Q (.int c) H
theorem scC : FnScope ["_law_script", "_law_k"] ["_law_script", "_law_k"] (defScope sCell) := ⟨rfl, rfl, rfl, by decide +kernel, rfl, by decide +kernel, by decide +kernel⟩
theorem ok_cell {f : Addr} {fd : FuncData} (F : Fun K "_law_cell" "_law_cell" sCell f fd) (ml : mg "len" = none) : FnOk P w K mg base CX0 1 f fd ["_law_script", "_law_k"] (spCell K) := by
  refine F.ok scC (fun vs H Q E h => ?_) (fun cdv A outer s H vs Q E hr h => ?_)
  · obtain ⟨a, ns, k, rfl, _⟩ := h
    rfl
  obtain ⟨a, ns, k, rfl, hS, h0, h1, q⟩ := h
  refine ⟨_, pss_cons (ps_if (pt_cmpR op_lt (pv 1) (pe_callB call_len_seq rfl ml PySem.boot_len (pa_cons (pv 0) pa_nil)) (nomark _)) (pss_one (ps_ret (pe_ix ix_list (pv 0) (pv 1) (fun _ _ => rfl)))) pss_nil)
    (pss_one (ps_ret (pe_op op_add (pe_op op_mul pe_int (pv 1)) pe_int))), ?_⟩
  refine ⟨_, rfl, _, rfl, a, _, rfl, .inl hS, _, _, rfl, rfl, _, rfl, ?_⟩
  refine ite2 (fun c => ?_) (fun c => ?_)
  · have c' : k < (((ns.map V.int).length : Nat) : Int) := of_decide_eq_true c
    rw [List.length_map] at c'
    have hk : k.toNat < ns.length := by omega
    have ek : k = ((k.toNat : Nat) : Int) := by omega
    have z : atI (ns.map V.int) ((k.toNat : Nat) : Int) = some (.int ns[k.toNat]) := atI_nat (by rw [List.getElem?_map, List.getElem?_eq_getElem hk] <;> rfl)
    rw [← ek] at z
    exact ⟨_, rfl, _, rfl, a, _, _, _, rfl, rfl, hS, z, q _⟩
  · exact ⟨_, rfl, _, _, rfl, rfl, .inl ⟨by decide, by decide⟩, _, _, rfl, rfl, q _⟩
abbrev sBox : Stmt := top 35
def spBox : Sp := fun vs H Q _ => ∃ c : Int, vs = [.int c] ∧ ∀ p H', H p = none → Ext H H' → BoxAt H' p → Q (.ref p) H'
theorem scB : FnScope ["_law_cell_here"] ["_law_cell_here"] (defScope sBox) := ⟨rfl, rfl, rfl, by decide +kernel, rfl, by decide +kernel, by decide +kernel⟩
theorem ok_box {f : Addr} {fd : FuncData} (F : Fun K "_law_box" "_law_box" sBox f fd) (mi : mg "int" = none) : FnOk P w K mg base CX0 1 f fd ["_law_cell_here"] spBox := by
  refine F.ok scB (fun vs H Q E h => ?_) (fun cdv A outer s H vs Q E hr h => ?_)
  · obtain ⟨c, rfl, _⟩ := h
    rfl
  obtain ⟨c, rfl, q⟩ := h
  refine ⟨_, pss_one (ps_ret (pe_lst (pa_cons (pe_op op_mul (pv 0) (pe_callTy call_int1 rfl mi PyProof.Rows.boot_int (pa_cons (pe_cmpR op_ge (pv 0) (pe_op op_pow pe_int pe_int) (nomark _)) pa_nil))) (pa_cons (pe_op op_mod (pv 0) pe_int) (pa_cons pe_int pa_nil))))), ?_⟩
  refine ⟨_, rfl, _, rfl, _, _, rfl, rfl, ⟨by decide, by decide, by decide⟩, _, _, rfl, rfl, .inr ⟨_, rfl, _, _, rfl, rfl, ?_, _, rfl, _, _, rfl, rfl, (by show (0 : Int) < 2147483629; decide), by show 3 ≤ sizeLine; decide, fun p hp => ?_⟩⟩
  · refine .inr ⟨?_, ?_⟩ <;> split <;> decide
  · refine q p _ hp (Ext.new hp) ⟨_, _, _, upd_same, ?_, Int.emod_nonneg _ (by decide), Int.emod_lt_of_pos _ (by decide)⟩
    show 0 ≤ c * (if decide ((10 : Int) ^ (18 : Int).toNat ≤ c) = true then 1 else 0)
    split
    · rename_i z
      have z' : (10 : Int) ^ (18 : Int).toNat ≤ c := of_decide_eq_true z
      have z2 : (0 : Int) ≤ 10 ^ (18 : Int).toNat := by decide
      omega
    · omega
abbrev sTake : Stmt := top 36
def spTake : Sp := fun vs H Q _ => ∃ (p : Addr) (m : Int), vs = [.ref p, .int m] ∧ BoxAt H p ∧ 0 < m ∧ m < 1073741824 ∧ ∀ (r : Int) (H' : Hp), 0 ≤ r → r < m → BoxAt H' p → Kept H H' p → (∀ b, H b = none → H' b = none) → Q (.int r) H'
theorem scT : FnScope ["_law_box_here", "_law_many", "_law_digit", "_law_number"] ["_law_box_here", "_law_many"] (defScope sTake) := ⟨rfl, rfl, rfl, by decide +kernel, rfl, by decide +kernel, by decide +kernel⟩
theorem keptUpd {H : Hp} {p : Addr} (o : HO) : Kept H (upd H p o) p := fun b u h n => by rw [upd_ne n]; exact h
theorem noneUpd {H : Hp} {p : Addr} {o u : HO} (h : H p = some u) : ∀ b, H b = none → upd H p o b = none := fun b hb => by
  rw [upd_ne (fun e => by subst e; rw [h] at hb; cases hb)]; exact hb
theorem ok_take {f : Addr} {fd : FuncData} (F : Fun K "_law_take" "_law_take" sTake f fd) : FnOk P w K mg base CX0 1 f fd ["_law_box_here", "_law_many"] spTake := by
  refine F.ok scT (fun vs H Q E h => ?_) (fun cdv A outer s H vs Q E hr h => ?_)
  · obtain ⟨p, m, rfl, _⟩ := h
    rfl
  obtain ⟨p, m, rfl, ⟨a, b, c, hp, a0, b0, b1⟩, m0, m1, q⟩ := h
  have nd := scT.nd
  refine ⟨_, pss_cons (ps_if (pt_cmpR op_gt (pe_ix ix_list (pv 0) pe_int (fun _ _ => rfl)) pe_int (nomark _))
      (pss_cons (ps_set (i := 2) nd rfl (Or.inl rfl) (pe_op op_mod (pe_ix ix_list (pv 0) pe_int (fun _ _ => rfl)) (pv 1)))
      (pss_cons (ps_asg (pe_op op_fdiv (pe_ix ix_list (pv 0) pe_int (fun _ _ => rfl)) (pv 1)) (pg_sub (pv 0) pe_int set_list))
      (pss_one (ps_ret (pv 2))))) pss_nil)
    (pss_cons (ps_asg (pe_op op_add (pe_ix ix_list (pv 0) pe_int (fun _ _ => rfl)) pe_int) (pg_sub (pv 0) pe_int set_list))
    (pss_cons (ps_set (i := 3) nd rfl (Or.inl rfl) (pe_op op_mod (pe_op op_add (pe_op op_add (pe_op op_mul (pe_ix ix_list (pv 0) pe_int (fun _ _ => rfl)) pe_int) (pe_op op_mul pe_int (pe_ix ix_list (pv 0) pe_int (fun _ _ => rfl)))) pe_int) pe_int))
    (pss_cons (ps_set (i := 3) nd rfl (Or.inl rfl) (pe_op op_mod (pe_op op_add (pe_op op_add (pe_op op_mul (pv 3) (pv 3)) (pe_op op_mul pe_int (pe_ix ix_list (pv 0) pe_int (fun _ _ => rfl)))) pe_int) pe_int))
    (pss_one (ps_ret (pe_op op_mod (pe_op op_fdiv (pe_op op_mod (pe_op op_mul (pv 3) (pe_op op_add (pv 3) pe_int)) pe_int) pe_int) (pv 1))))))), ?_⟩
  have hl := SqL.of (K := K) hp
  refine ⟨_, rfl, p, _, _, _, rfl, rfl, hl, rfl, _, _, rfl, rfl, _, rfl, ?_⟩
  refine ite2 (fun c1 => ?_) (fun c1 => ?_)
  · have c2 : 0 < a := of_decide_eq_true c1
    refine ⟨_, rfl, p, _, _, _, rfl, rfl, hl, rfl, _, rfl, _, _, rfl, rfl, m0, ?_⟩
    refine ⟨_, rfl, p, _, _, _, rfl, rfl, hl, rfl, _, rfl, _, _, rfl, rfl, ⟨m0, m1⟩, _, rfl, p, _, 0, 0, rfl, rfl, hp, rfl, ?_⟩
    exact ⟨_, rfl, q _ _ (Int.emod_nonneg _ (by omega)) (Int.emod_lt_of_pos _ m0) ⟨_, _, _, upd_same, Int.ediv_nonneg (by omega) (by omega), b0, b1⟩ (keptUpd _) (noneUpd hp)⟩
  · refine ⟨_, rfl, p, _, _, _, rfl, rfl, hl, rfl, _, _, rfl, rfl, _, rfl, p, _, 2, 2, rfl, rfl, hp, rfl, ?_⟩
    have k1 : Kept H (upd H p (.lst [.int a, .int b, .int (c + 1)])) p := keptUpd _
    have k2 : ∀ b', H b' = none → upd H p (.lst [.int a, .int b, .int (c + 1)]) b' = none := noneUpd hp
    have f1 : upd H p (.lst [.int a, .int b, .int (c + 1)]) p = some (.lst [.int a, .int b, .int (c + 1)]) := upd_same
    have bx : BoxAt (upd H p (.lst [.int a, .int b, .int (c + 1)])) p := ⟨_, _, _, f1, a0, b0, b1⟩
    have hl1 := SqL.of (K := K) f1
    have q1 := fun r h0 h1 => q r _ h0 h1 bx k1 k2
    refine ⟨_, rfl, p, _, _, _, rfl, rfl, hl1, rfl, _, _, rfl, rfl, .inr ⟨by decide, by decide⟩, _, rfl, p, _, _, _, rfl, rfl, hl1, rfl, _, _, rfl, rfl, .inl ⟨by decide, by decide⟩, _, _, rfl, rfl, _, _, rfl, rfl, _, _, rfl, rfl, (by show (0 : Int) < 2147483647; decide), ?_⟩
    have n0 : 0 ≤ (b * 48271 + 12289 * (c + 1) + 77) % 2147483647 := Int.emod_nonneg _ (by decide)
    have n1 : (b * 48271 + 12289 * (c + 1) + 77) % 2147483647 < 2147483647 := Int.emod_lt_of_pos _ (by decide)
    have cm : CMul ((b * 48271 + 12289 * (c + 1) + 77) % 2147483647) ((b * 48271 + 12289 * (c + 1) + 77) % 2147483647) := .inl ⟨Int.lt_of_lt_of_le (by decide) n0, Int.lt_trans n1 (by decide)⟩
    refine ⟨_, rfl, _, rfl, _, _, rfl, rfl, cm, _, rfl, p, _, _, _, rfl, rfl, hl1, rfl, _, _, rfl, rfl, .inl ⟨by decide, by decide⟩, _, _, rfl, rfl, _, _, rfl, rfl, _, _, rfl, rfl, (by show (0 : Int) < 2147483629; decide), ?_⟩
    generalize hn : ((b * 48271 + 12289 * (c + 1) + 77) % 2147483647 * ((b * 48271 + 12289 * (c + 1) + 77) % 2147483647) + 40961 * (c + 1) + 5) % 2147483629 = n2
    have e0 : 0 ≤ n2 := by rw [← hn]; exact Int.emod_nonneg _ (by decide)
    have e1 : n2 < 2147483629 := by rw [← hn]; exact Int.emod_lt_of_pos _ (by decide)
    have cm2 : ∀ y, CMul n2 y := fun y => .inl ⟨Int.lt_of_lt_of_le (by decide) e0, Int.lt_trans e1 (by decide)⟩
    subst hn
    refine ⟨_, rfl, _, rfl, _, _, rfl, rfl, _, _, rfl, rfl, cm2 _, _, _, rfl, rfl, (by show (0 : Int) < 2147483587; decide), _, _, rfl, rfl, ⟨(by show (0 : Int) < 8; decide), (by show (8 : Int) < 1073741824; decide)⟩, _, rfl, _, _, rfl, rfl, m0, ?_⟩
    exact q1 _ (Int.emod_nonneg _ (by omega)) (Int.emod_lt_of_pos _ m0)
end
end My
set_option Elab.async false
set_option linter.all false
set_option maxRecDepth 100000
set_option maxHeartbeats 1000000
namespace My
open PySem PySem.W L2
section
variable {X : Cx}
def rNeNil (K : Frag) : R2 := fun x y H Q => ∃ p q xs, x = .ref p ∧ y = .ref q ∧ SqL K H p xs ∧ SqL K H q [] ∧ Q (.bl (!xs.isEmpty)) H
theorem op_neNil (hu : X.A.units < cLine) : OpR X (compareOp .NotEq) (rNeNil X.K) := by
  intro pins s σ H x y v u Q I rx ry h
  obtain ⟨p, q, xs, rfl, rfl, hp, hq, k⟩ := h
  cases rx
  cases ry
  obtain ⟨its, r1, t1, _⟩ := I.list hp
  obtain ⟨jts, r2, t2, _⟩ := I.list hq
  have l1 := r1.length
  have l2 := r2.length
  have e2 : jts = [] := List.length_eq_zero_iff.mp l2.symm
  subst e2
  cases xs with
  | nil =>
    have e1 : its = [] := List.length_eq_zero_iff.mp l1.symm
    subst e1
    exact SeqAt.RcNeAt.lists (e := fun _ => true) t1.isList t2.isList rfl hu (fun j h _ => absurd h (Nat.not_lt_zero _)) X.prog X.w X.xe _ ⟨.bl false, H, I, rfl, k⟩
  | cons x xs =>
    exact SeqAt.RcNeAt.lists_lengths t1.isList t2.isList (by simp [← l1]) hu X.prog X.w X.xe _ ⟨.bl true, H, I, rfl, k⟩
end
section
variable {K : Frag} {te : TE} {tt : TT} {cap : St} {D : Addr} {H1 : Hp} {Q : Hp → Prop} {a : Addr} {xs : List V}
theorem lcI_tup (p : V → Bool) (hz : xs.length < sizeLine) (h1 : ∀ H, Ext H1 H → SqT K H a xs) (hD : H1 D = none)
    (hs : ∀ (i : Nat) x H, xs[i]? = some x → Ext H1 H → ∀ R : Bool → Hp → Prop, R (p x) H → tt (some x :: cap) H R)
    (hd : ∀ H, Ext H1 H → H D = some (.lst (xs.filter p)) → Q H) :
    ∃ W : Nat → Nat → List V → Hp → Prop, (∃ m, W 0 m [] (upd H1 D (.lst []))) ∧
      ∀ i m ys H2, W i m ys H2 → H2 D = some (.lst ys) ∧ (((Itt K a).stop i H2 ∧ Q H2) ∨ ((Itt K a).go i H2 ∧ ys.length < sizeLine ∧
        ∀ x H3, (Itt K a).yld i H2 x H3 → tt (some x :: cap) H3 fun b H0 => (b = false → ∃ m', m' < m ∧ W (i + 1) m' ys H0) ∧
          (b = true → tVar 0 (some x :: cap) H0 fun y H4 => H4 D = some (.lst ys) ∧ ∃ m', m' < m ∧ W (i + 1) m' (ys ++ [y]) (upd H4 D (.lst (ys ++ [y])))))) := by
  refine ⟨fun i m ys H => m = xs.length - i ∧ i ≤ xs.length ∧ ys.length ≤ i ∧ H D = some (.lst ys) ∧ Ext H1 H ∧ ys = (xs.take i).filter p, ⟨xs.length, by simp, Nat.zero_le _, Nat.le_refl _, upd_same, Ext.new hD, rfl⟩, ?_⟩
  rintro i m ys H ⟨rfl, hi, hy, hD', x', ey⟩
  refine ⟨hD', ?_⟩
  have q := h1 H x'
  by_cases hlt : i < xs.length
  · refine .inr ⟨⟨xs, xs[i], q, by simp [hlt]⟩, by omega, fun x H' y => ?_⟩
    obtain ⟨e, y⟩ := y
    subst e
    have ex := y xs q
    have et : (xs.take (i + 1)).filter p = (xs.take i).filter p ++ (if p x then [x] else []) := by
      rw [take_all ex, List.filter_append, List.filter_cons, List.filter_nil]
    refine hs i x _ ex x' _ ⟨fun b => ⟨xs.length - (i + 1), by omega, rfl, hlt, by omega, hD', x', ?_⟩, fun b => ⟨x, rfl, hD', xs.length - (i + 1), by omega, rfl, hlt, by rw [List.length_append]; show ys.length + 1 ≤ i + 1; omega, upd_same, ext_upd _ x' hD, ?_⟩⟩
    · rw [et, b, ey]; simp
    · rw [et, b, ey]; simp
  · have e : i = xs.length := by omega
    subst e
    rw [List.take_length] at ey
    subst ey
    exact .inl ⟨⟨xs, q, Nat.le_refl _⟩, hd H x' hD'⟩
theorem lcI_rng {n : Nat} (p : Nat → Bool) (hz : n < sizeLine) (hD : H1 D = none)
    (hs : ∀ (i : Nat) H, i < n → Ext H1 H → ∀ R : Bool → Hp → Prop, (∀ H', Ext H H' → R (p i) H') → tt (some (.int (0 + (i : Int))) :: cap) H R)
    (hd : ∀ H, Ext H1 H → H D = some (.lst (((List.range n).filter p).map fun i => V.int (i : Nat))) → Q H) :
    ∃ W : Nat → Nat → List V → Hp → Prop, (∃ m, W 0 m [] (upd H1 D (.lst []))) ∧
      ∀ i m ys H2, W i m ys H2 → H2 D = some (.lst ys) ∧ (((Itr 0 n).stop i H2 ∧ Q H2) ∨ ((Itr 0 n).go i H2 ∧ ys.length < sizeLine ∧
        ∀ x H3, (Itr 0 n).yld i H2 x H3 → tt (some x :: cap) H3 fun b H0 => (b = false → ∃ m', m' < m ∧ W (i + 1) m' ys H0) ∧
          (b = true → tVar 0 (some x :: cap) H0 fun y H4 => H4 D = some (.lst ys) ∧ ∃ m', m' < m ∧ W (i + 1) m' (ys ++ [y]) (upd H4 D (.lst (ys ++ [y])))))) := by
  refine ⟨fun i m ys H => m = n - i ∧ i ≤ n ∧ ys.length ≤ i ∧ H D = some (.lst ys) ∧ Ext H1 H ∧ ys = ((List.range i).filter p).map fun i => V.int (i : Nat), ⟨n, by simp, Nat.zero_le _, Nat.le_refl _, upd_same, Ext.new hD, rfl⟩, ?_⟩
  rintro i m ys H ⟨rfl, hi, hy, hD', x', ey⟩
  refine ⟨hD', ?_⟩
  by_cases hlt : i < n
  · refine .inr ⟨hlt, by omega, fun x H' y => ?_⟩
    obtain ⟨e, y⟩ := y
    subst e y
    have et : ((List.range (i + 1)).filter p).map (fun i => V.int (i : Nat)) = ((List.range i).filter p).map (fun i => V.int (i : Nat)) ++ (if p i then [V.int (i : Nat)] else []) := by
      rw [List.range_succ, List.filter_append, List.map_append, List.filter_cons, List.filter_nil]
      congr 1
      split <;> rfl
    have ez : V.int (0 + (i : Int)) = V.int (i : Nat) := by rw [Int.zero_add]
    refine hs i _ hlt x' _ fun H2 x2 => ⟨fun b => ⟨n - (i + 1), by omega, rfl, hlt, by omega, x2 _ _ hD', x'.trans x2, ?_⟩, fun b => ⟨_, rfl, x2 _ _ hD', n - (i + 1), by omega, rfl, hlt, by rw [List.length_append]; show ys.length + 1 ≤ i + 1; omega, upd_same, ext_upd _ (x'.trans x2) hD, ?_⟩⟩
    · rw [et, b, ey]; simp
    · rw [et, b, ey, ez]; simp
  · have e : i = n := by omega
    subst e
    subst ey
    exact .inl ⟨Nat.le_refl _, hd H x' hD'⟩
end
def intB : PyData → Bool
  | .int _ => true
  | _ => false
section
variable {P : Program} {w : World} {K : Frag} {mg : Str → Option Value} {base : Heap}
abbrev sWh : Stmt := top 37
def spWh : Sp := fun vs H Q _ => ∃ v d, vs = [v] ∧ Rds H v d ∧ Q (.bl (intB d)) H
theorem scWh : FnScope ["_law_found"] ["_law_found"] (defScope sWh) := ⟨rfl, rfl, rfl, by decide +kernel, rfl, by decide +kernel, by decide +kernel⟩
theorem ok_wh {f : Addr} {fd : FuncData} (N : IsT K) (F : Fun K "_law_whole" "_law_whole" sWh f fd) (mi : mg "isinstance" = none) (m1 : mg "int" = none) (m2 : mg "bool" = none) : FnOk P w K mg base CX0 1 f fd ["_law_found"] spWh := by
  refine F.ok scWh (fun vs H Q E h => ?_) (fun cdv A outer s H vs Q E hr h => ?_)
  · obtain ⟨v, d, rfl, _⟩ := h
    rfl
  obtain ⟨v, d, rfl, rd, q⟩ := h
  refine ⟨_, pss_one (ps_ret (pe_and (pe_callB (call_isK N) rfl mi PyProof.Rows.boot_isinstance (pa_cons (pv 0) (pa_cons (pe_ty rfl m1 PyProof.Rows.boot_int) pa_nil)))
    (pe_one (pe_not (pe_callB (call_isK N) rfl mi PyProof.Rows.boot_isinstance (pa_cons (pv 0) (pa_cons (pe_ty rfl m2 PyProof.Rows.boot_bool) pa_nil))))))), ?_⟩
  have isI : kitOne K (.type (kindD d)) (.type "int") = some (intB d || booB d) := by cases rd <;> rfl
  refine ⟨_, rfl, _, _, _, _, rfl, rd.kd, isI, _, rfl, ?_⟩
  cases e1 : intB d with
  | true =>
    rw [e1] at q
    have e2 : booB d = false := by cases d <;> first | rfl | cases e1
    refine itT ⟨_, rfl, _, _, _, _, rfl, rd.kd, rd.isB, _, rfl, ?_⟩
    rw [e2]
    exact q
  | false =>
    rw [e1] at q
    cases e2 : booB d with
    | true =>
      refine itT ⟨_, rfl, _, _, _, _, rfl, rd.kd, rd.isB, _, rfl, ?_⟩
      rw [e2]
      exact q
    | false => exact itF q
abbrev sLO : Stmt := top 39
theorem scLO : FnScope ["_law_thing"] ["_law_thing"] (defScope sLO) := ⟨rfl, rfl, rfl, by decide +kernel, rfl, by decide +kernel, by decide +kernel⟩
theorem ok_lo {f a1 : Addr} {fd d1 : FuncData} (N : IsT K) (F : Fun K "_law_is_outcome" "_law_is_outcome" sLO f fd) (A1 : Df P w K mg base CX0 1 "_law_whole" ["_law_found"] spWh a1 d1)
    (mi : mg "isinstance" = none) (mt : mg "tuple" = none) (ml : mg "len" = none) (mb : mg "bool" = none) : FnOk P w K mg base CX0 2 f fd ["_law_thing"] spIO := by
  refine F.ok scLO (fun vs H Q E h => ?_) (fun cdv A outer s H vs Q E hr h => ?_)
  · obtain ⟨v, d, rfl, _⟩ := h
    rfl
  obtain ⟨v, d, rfl, rd, q⟩ := h
  refine ⟨_, pss_cons (ps_if (PW.pt (pw_or (pt_not (pt_val (pe_callB (call_isK N) rfl mi PyProof.Rows.boot_isinstance (pa_cons (pv 0) (pa_cons (pe_ty rfl mt PyProof.Rows.boot_tuple) pa_nil))))) (pw_or (pt_cmpR op_ne (pe_callB call_len_seq rfl ml PySem.boot_len (pa_cons (pv 0) pa_nil)) pe_int (nomark _))
      (pw_or1 (pt_not (pt_val (pe_callB (call_isK N) rfl mi PyProof.Rows.boot_isinstance (pa_cons (pe_ix ix_tup (pv 0) pe_int (fun _ _ => rfl)) (pa_cons (pe_ty rfl mb PyProof.Rows.boot_bool) pa_nil))))))))) (pss_one (ps_ret pe_bl)) pss_nil)
    (pss_one (ps_ret (pe_and (pe_call A1.G hr rfl A1.m A1.kp A1.b .nil pass0 (pa_cons (pe_ix ix_tup (pv 0) pe_int (fun _ _ => rfl)) pa_nil)) (pe_one (pe_chain op_le op_le (pe_un un_neg pe_int) (pe_ix ix_tup (pv 0) pe_int (fun _ _ => rfl)) pe_int))))), ?_⟩
  refine ⟨_, rfl, _, _, _, _, rfl, rd.kd, rd.isT, _, rfl, ?_⟩
  cases e : tupB d with
  | false =>
    refine itT (itT ?_)
    have z : outD d = false := by cases d <;> first | rfl | cases e
    rw [z] at q
    exact q
  | true =>
    obtain ⟨ds, rfl⟩ : ∃ ds, d = .tuple ds := by cases d <;> first | exact ⟨_, rfl⟩ | cases e
    obtain ⟨a, xs, rfl, ha, rs⟩ := rds_tup rd
    refine itF ⟨_, rfl, a, _, rfl, .inr (SqT.of ha), rfl, _, rfl, ?_⟩
    have len := rs.length
    by_cases l2 : xs.length = 2
    · obtain ⟨u, v, rfl⟩ : ∃ u v, xs = [u, v] := by
        match xs, l2 with
        | [u, v], _ => exact ⟨u, v, rfl⟩
      cases rs with
      | cons r1 rs =>
        cases rs with
        | cons r2 rs =>
          cases rs
          rename_i d1 d2
          have qq : Q (.bl (inD (-99) 99 d1 && booB d2)) H := q
          refine itF ⟨_, rfl, a, _, _, _, rfl, rfl, SqT.of ha, rfl, _, _, _, _, rfl, r2.kd, r2.isB, _, rfl, ?_⟩
          cases e2 : booB d2 with
          | false =>
            rw [e2, Bool.and_false] at qq
            exact itT qq
          | true =>
            rw [e2, Bool.and_true] at qq
            refine itF ⟨_, rfl, a, _, _, _, rfl, rfl, SqT.of ha, rfl, u, d1, rfl, r1, _, rfl, ?_⟩
            cases r1 with
            | int i =>
              refine itT ⟨_, rfl, _, rfl, a, _, _, _, rfl, rfl, SqT.of ha, rfl, _, _, rfl, rfl, _, rfl, ?_⟩
              have q2 : Q (.bl (decide (-99 ≤ i) && decide (i ≤ 99))) H := qq
              refine ite2 (fun c => ?_) (fun c => ?_)
              · have c' : (-99 : Int) ≤ i := of_decide_eq_true c
                rw [decide_eq_true c', Bool.true_and] at q2
                exact ⟨_, _, rfl, rfl, q2⟩
              · have c' : ¬ (-99 : Int) ≤ i := fun z => c (decide_eq_true z)
                rw [decide_eq_false c', Bool.false_and] at q2
                exact q2
            | _ => exact itF qq
    · have e1 : (!decide (V.int (xs.length : Nat) = V.int 2)) = true := by
        rw [decide_eq_false]
        · rfl
        · intro h
          injection h with h
          omega
      rw [e1]
      refine itT ?_
      have z : outD (.tuple ds) = false := by
        match ds, len, l2 with
        | [], _, _ => rfl
        | [_], _, _ => rfl
        | [_, _], l, n => exact absurd l n
        | _ :: _ :: _ :: _, _, _ => rfl
      rw [z] at q
      exact q
end
end My
set_option Elab.async false
set_option linter.all false
set_option maxRecDepth 100000
set_option maxHeartbeats 1000000
namespace My
open PySem PySem.W L2
def badBit : V → Bool
  | .int i => !(decide (0 ≤ i) && decide (i ≤ 1))
  | _ => true
theorem Rds.badBit {H : Hp} {v : V} {d : PyData} (r : Rds H v d) : My.badBit v = !(inD 0 1 d) := by cases r <;> rfl
section
variable {P : Program} {w : World} {K : Frag} {mg : Str → Option Value} {base : Heap}
abbrev sLG : Stmt := top 41
theorem scLG : FnScope ["_law_thing", "_law_one"] ["_law_thing"] (defScope sLG) := ⟨rfl, rfl, rfl, by decide +kernel, rfl, by decide +kernel, by decide +kernel⟩
abbrev scLGc : Scope := { kind := .function, names := [(".0", .local), ("_law_bit", .local), ("_law_whole", .globalImplicit)], isGenerator := false, isCoroutine := false }
theorem compLG {X : Cx} : CompSc X scLGc [] "_law_bit" [] [] := by
  refine ⟨rfl, rfl, by decide +kernel, by decide +kernel, by decide +kernel, (fun z c h => nomatch h), (fun z h => ?_), by decide +kernel, (fun k z h => by simp at h), rfl⟩
  exfalso
  have h' : List.lookup z [((".0" : Str), NameKind.local), (("_law_bit" : Str), NameKind.local), (("_law_whole" : Str), NameKind.globalImplicit)] = some .cell ∨ List.lookup z [((".0" : Str), NameKind.local), (("_law_bit" : Str), NameKind.local), (("_law_whole" : Str), NameKind.globalImplicit)] = some .free := h
  simp only [List.lookup_cons, List.lookup_nil] at h'
  repeat' (split at h')
  all_goals simp at h'
def leLe (a b c : TE) : TE := tChain (rI0 fun i j => .bl (decide (i ≤ j))) (rI0 fun i j => .bl (decide (i ≤ j))) a b c
def tBit : TT := tOr (tNot (tB (tCall spWh [] E0 (tCons (tVar 0) tNil)))) (tNot (tTest (leLe (tC (.int 0)) (tVar 0) (tC (.int 1)))))
theorem rd_leLe {σ : St} {H : Hp} {Q : Bool → Hp → Prop} {a b c : TE} {i j k : Int} (ha : ∀ R : VK, R (.int i) H → a σ H R) (hb : ∀ R : VK, R (.int j) H → b σ H R) (hc : ∀ R : VK, R (.int k) H → c σ H R) (q : Q (decide (i ≤ j) && decide (j ≤ k)) H) : tTest (leLe a b c) σ H Q := by
  refine ha _ (hb _ ⟨_, _, rfl, rfl, _, rfl, ?_⟩)
  refine ite2 (fun e => ?_) (fun e => ?_)
  · have e' : i ≤ j := of_decide_eq_true e
    rw [decide_eq_true e', Bool.true_and] at q
    exact hc _ ⟨_, _, rfl, rfl, _, rfl, q⟩
  · have e' : ¬ i ≤ j := fun z => e (decide_eq_true z)
    rw [decide_eq_false e', Bool.false_and] at q
    exact ⟨_, rfl, q⟩
theorem rd_bit {σ : St} {H : Hp} {R : Bool → Hp → Prop} {v : V} {d : PyData} (rd : Rds H v d) (q : R (badBit v) H) : tBit (some v :: σ) H R := by
  refine ⟨_, rfl, v, d, rfl, rd, _, rfl, ?_⟩
  cases rd with
  | int i =>
    refine itF ?_
    exact rd_leLe (fun R r => r) (fun R r => ⟨_, rfl, r⟩) (fun R r => r) q
  | _ => exact itT q
def tLenQ (K : Frag) : List V → Hp → VK → Prop := fun xs H Q => ∃ p ys, xs = [.ref p] ∧ (SqL K H p ys ∨ SqT K H p ys) ∧ Q (.int ys.length) H
theorem ok_lgl {f a1 : Addr} {fd d1 : FuncData} (N : IsT K) (F : Fun K "_law_is_listing" "_law_is_listing" sLG f fd) (A1 : Df P w K mg base CX0 1 "_law_whole" ["_law_found"] spWh a1 d1)
    (mi : mg "isinstance" = none) (mt : mg "tuple" = none) (ml : mg "len" = none) (mli : mg "list" = none) : FnOk P w K mg base CX0 2 f fd ["_law_thing"] spIG := by
  refine F.ok scLG (fun vs H Q E h => ?_) (fun cdv A outer s H vs Q E hr h => ?_)
  · obtain ⟨v, d, rfl, _⟩ := h
    rfl
  obtain ⟨v, d, rfl, rd, big, q⟩ := h
  have nd := scLG.nd
  have hu := hr.units0
  refine ⟨_, pss_cons (ps_if (PW.pt (pw_or (pt_not (pt_val (pe_callB (call_isK N) rfl mi PyProof.Rows.boot_isinstance (pa_cons (pv 0) (pa_cons (pe_ty rfl mli PyProof.Rows.boot_list) pa_nil)))))
      (pw_or1 (pt_not (pt_chain op_le op_le pe_int (pe_callB call_len_seq rfl ml PySem.boot_len (pa_cons (pv 0) pa_nil)) pe_int))))) (pss_one (ps_ret pe_bl)) pss_nil)
    (pss_cons (ps_for PassesOwn.never rfl (pi_list (pv 0)) (pg_name (i := 1) nd rfl (Or.inl rfl))
      (pss_cons (ps_if (PW.pt (pw_or (pt_not (pt_val (pe_callB (call_isK N) rfl mi PyProof.Rows.boot_isinstance (pa_cons (pv 1) (pa_cons (pe_ty rfl mt PyProof.Rows.boot_tuple) pa_nil))))) (pw_or1 (pt_cmpR op_ne (pe_callB call_len_seq rfl ml PySem.boot_len (pa_cons (pv 1) pa_nil)) pe_int (nomark _))))) (pss_one (ps_ret pe_bl)) pss_nil)
      (pss_one (ps_if (pt_cmpR (op_neNil hu) (pe_lcIf (te := tVar 0) (tt := tBit) rfl compLG (pi_tup (pv 1)) (fun s H C fp => by exact PW.pt (pw_or (pt_not (pt_val (pe_call A1.G hr rfl A1.m A1.kp A1.b .nil pass0 (pa_cons (pv 0) pa_nil)))) (pw_or1 (pt_not (pt_chain op_le op_le pe_int (pv 0) pe_int)))))
        (fun s H C fp => by exact pv 0)) (pe_lst pa_nil) (nomark _)) (pss_one (ps_ret pe_bl)) pss_nil))))
    (pss_one (ps_ret pe_bl))), ?_⟩
  refine ⟨_, rfl, _, _, _, _, rfl, rd.kd, rd.isL, _, rfl, ?_⟩
  cases e : lisB d with
  | false =>
    refine itT (itT ?_)
    have z : lgD d = false := by cases d <;> first | rfl | cases e
    rw [z] at q
    exact q H (Ext.refl _)
  | true =>
    obtain ⟨ds, rfl⟩ : ∃ ds, d = .list ds := by cases d <;> first | exact ⟨_, rfl⟩ | cases e
    obtain ⟨a, xs, rfl, ha, rs⟩ := rds_lst rd
    have len := rs.length
    refine itF ?_
    have el : (decide ((1 : Int) ≤ (xs.length : Nat)) && decide (((xs.length : Nat) : Int) ≤ 20)) = (decide (1 ≤ ds.length) && decide (ds.length ≤ 20)) := by
      rw [len, Bool.eq_iff_iff, Bool.and_eq_true, Bool.and_eq_true, decide_eq_true_iff, decide_eq_true_iff, decide_eq_true_iff, decide_eq_true_iff]
      omega
    have qq : ∀ H', Ext H H' → Q (.bl (decide (1 ≤ ds.length) && decide (ds.length ≤ 20) && ds.all lstdD)) H' := q
    refine rd_leLe (i := 1) (j := (xs.length : Nat)) (k := 20) (fun R r => r) (fun R r => ⟨_, rfl, a, _, rfl, .inl (SqL.of ha), r⟩) (fun R r => r) ?_
    rw [el]
    cases el2 : decide (1 ≤ ds.length) && decide (ds.length ≤ 20) with
    | false =>
      rw [el2] at qq
      exact itT (qq H (Ext.refl _))
    | true =>
      rw [el2] at qq
      refine itF ?_
      refine ⟨_, rfl, a, rfl, ⟨_, SqL.of ha⟩, for_list (xs := xs) (fun i σ H' => Ext H H' ∧ (∀ (j : Nat) d, j < i → ds[j]? = some d → lstdD d = true) ∧ ∃ o1, σ = [some (.ref a), o1]) ⟨Ext.refl _, fun j d h => absurd h (Nat.not_lt_zero _), _, rfl⟩ ?_ ?_ ?_⟩
      · rintro i σ H' _ ⟨x', _⟩
        exact SqL.of (x' _ _ ha)
      · rintro i v σ H' ev ⟨x', good, o1, rfl⟩
        obtain ⟨d, ed, rv0⟩ := rs.get ev
        have rv := rv0.mono x'
        have no : lstdD d = false → ∀ H2, Ext H H2 → Q (.bl false) H2 := fun z H2 x2 => by
          have za : ds.all lstdD = false := by
            rw [List.all_eq_false]
            exact ⟨d, List.mem_of_getElem? ed, by rw [z]; decide⟩
          have := qq H2 x2
          rw [za] at this
          exact this
        have yes : lstdD d = true → ∀ H2, Ext H H2 → ∀ o, (Ext H H2 ∧ (∀ (j : Nat) d, j < i + 1 → ds[j]? = some d → lstdD d = true) ∧ ∃ o1, ([some (.ref a), o] : St) = [some (.ref a), o1]) := fun z H2 x2 o => by
          refine ⟨x2, fun j d' hj hd => ?_, _, rfl⟩
          rcases Nat.lt_or_ge j i with lt | ge
          · exact good j d' lt hd
          · have e0 : j = i := by omega
            subst e0
            rw [ed] at hd
            cases hd
            exact z
        refine ⟨_, rfl, _, _, _, _, rfl, rv.kd, rv.isT, _, rfl, ?_⟩
        cases e : tupB d with
        | false =>
          refine itT (itT ?_)
          have z : lstdD d = false := by cases d <;> first | rfl | cases e
          exact no z H' x'
        | true =>
          obtain ⟨es, rfl⟩ : ∃ es, d = .tuple es := by cases d <;> first | exact ⟨_, rfl⟩ | cases e
          obtain ⟨b, us, rfl, hb, rt⟩ := rds_tup rv
          have lu := rt.length
          refine itF ⟨_, rfl, b, _, rfl, .inr (SqT.of hb), rfl, _, rfl, ?_⟩
          by_cases l2 : us.length = 2
          · obtain ⟨u, v, rfl⟩ : ∃ u v, us = [u, v] := by
              match us, l2 with
              | [u, v], _ => exact ⟨u, v, rfl⟩
            cases rt with
            | cons r1 rt =>
              cases rt with
              | cons r2 rt =>
                cases rt
                rename_i d1 d2
                refine itF ?_
                refine ⟨_, rfl, b, rfl, ⟨_, SqT.of hb⟩, fun D hD => ?_⟩
                refine lcI_tup (a := b) (xs := [u, v]) badBit (by show 2 < sizeLine; decide) (fun H2 x2 => SqT.of (x2 _ _ hb)) hD ?_ ?_
                · intro k x H2 ex x2 R r
                  match k, ex with
                  | 0, ex => cases ex; exact rd_bit (r1.mono x2) r
                  | 1, ex => cases ex; exact rd_bit (r2.mono x2) r
                  | n + 2, ex => cases ex
                · intro H2 x2 hD2
                  refine ⟨by show 0 ≤ sizeLine; decide, fun l hl => ?_⟩
                  have x3 := Ext.new (o := .lst []) hl
                  refine ⟨D, l, _, rfl, rfl, SqL.of (x3 _ _ hD2), SqL.of upd_same, _, rfl, ?_⟩
                  have eb : (!(([u, v].filter badBit).isEmpty)) = !(inD 0 1 d1 && inD 0 1 d2) := by
                    rw [List.filter_cons, List.filter_cons, List.filter_nil, r1.badBit, r2.badBit]
                    cases inD 0 1 d1 <;> cases inD 0 1 d2 <;> rfl
                  rw [eb]
                  have xx := (x'.trans x2).trans x3
                  cases z : inD 0 1 d1 && inD 0 1 d2 with
                  | false => exact itT (no z _ xx)
                  | true => exact itF (yes z _ xx _)
          · have e1 : (!decide (V.int (us.length : Nat) = V.int 2)) = true := by
              rw [decide_eq_false]
              · rfl
              · intro h
                injection h with h
                omega
            rw [e1]
            refine itT ?_
            have z : lstdD (.tuple es) = false := by
              match es, lu, l2 with
              | [], _, _ => rfl
              | [_], _, _ => rfl
              | [_, _], l, n => exact absurd l n
              | _ :: _ :: _ :: _, _, _ => rfl
            exact no z H' x'
      · rintro σ H' ⟨x', good, o1, rfl⟩
        have za : ds.all lstdD = true := by
          rw [List.all_eq_true]
          intro d hd
          obtain ⟨j, hj, e⟩ := List.getElem_of_mem hd
          exact good j d (by rw [len]; exact hj) (by rw [List.getElem?_eq_getElem hj, e])
        have := qq H' x'
        rw [za] at this
        exact this
end
end My
set_option Elab.async false
set_option linter.all false
set_option maxRecDepth 100000
set_option maxHeartbeats 1000000
namespace My
open PySem PySem.W L2
def tCallZ (sp : Sp) (E : XK) (t : TA) : TE := fun σ H Q => t σ H fun vs H1 => H1 sysModules = none → sp vs H1 Q E
section
variable {X : Cx} {CX : CXT} {k : Nat} {f : Addr} {fd : FuncData} {ps : List Str} {sp : Sp} {E : XK} {x : Str} {p pos : Pos} {e : Expr} {es : List Expr} {t : TA} {σ : St}
theorem pe_callZ (hz : X.H₀ sysModules = none) (F : FnOk X.prog X.w X.K X.mg X.base CX k f fd ps sp) (hr : Room k X.A) (hg : Gl X x) (hm : X.mg x = some (.ref f)) (hk : PySem.W.keepIn X.K (.ref f) = true) (hb : Binds X.K fd ps []) (hx : Passes CX X E)
    (ha : PA X (e :: es) t) (hdb : (x == ("__debug__" : Str)) = false := by decide) (he : starEach (e :: es) X.env = (false, eval e X.env) :: starEach es X.env := by rfl) (hpl : (backTo pos (starEach es X.env)).any (·.1) = false := by rfl) :
    PE X (.Call (.Name x p) (e :: es) [] pos) (tCallZ sp E t) := by
  intro pins s σ H Q I h
  refine wpAny_Call_Name_kw (ld_glob I hg hm ?_ hdb)
  refine PySem.W.callWith_K (h₀ := X.base) I.ok.mod.kin hk (thn (ha pos pins s σ H _ I h) fun us s1 ⟨vs, H1, I1, r, q⟩ => ⟨I1.kIn, ?_⟩) he hpl
  exact run_fn (dvs := []) F hr hb .nil hx I1 r (by rw [List.append_nil]; exact q (I1.base.sys hz))
end
theorem lcGI_rng {tt : TT} {cap : St} {D : Addr} {H1 : Hp} {Q : Hp → Prop} {n : Nat} (p : Nat → Bool) (hz : n < sizeLine) (hD : H1 D = none)
    (hs : ∀ (i : Nat) H, i < n → Ext H1 H → ∀ R : Bool → Hp → Prop, (∀ H', Ext H H' → R (p i) H') → tt (some (.int (0 + (i : Int))) :: cap) H R)
    (hd : ∀ H, Ext H1 H → H D = some (.lst (((List.range n).filter p).map fun i => V.int (i : Nat))) → Q H) :
    ∃ W : Nat → Nat → List V → Hp → Prop, (∃ m, W 0 m [] (upd H1 D (.lst []))) ∧
      ∀ i m ys H2, W i m ys H2 → H2 D = some (.lst ys) ∧ (((Itr 0 n).stop i H2 ∧ Q H2) ∨ ((Itr 0 n).go i H2 ∧ ys.length < sizeLine ∧
        ∀ x H3, (Itr 0 n).yld i H2 x H3 → ∀ os : St, os.length = 1 → gName 0 x (os ++ cap) H3 fun σ2 H0 => (∃ os' : St, os'.length = 1 ∧ σ2 = os' ++ cap) ∧ tt σ2 H0 fun b H5 => (b = false → ∃ m', m' < m ∧ W (i + 1) m' ys H5) ∧
          (b = true → tVar 0 σ2 H5 fun y H4 => H4 D = some (.lst ys) ∧ ∃ m', m' < m ∧ W (i + 1) m' (ys ++ [y]) (upd H4 D (.lst (ys ++ [y])))))) := by
  obtain ⟨W, w0, turn⟩ := lcI_rng (tt := tt) (cap := cap) (D := D) (H1 := H1) (Q := Q) p hz hD hs hd
  refine ⟨W, w0, fun i m ys H2 w => ?_⟩
  obtain ⟨hD2, alt⟩ := turn i m ys H2 w
  refine ⟨hD2, ?_⟩
  rcases alt with a | ⟨go, hl, st⟩
  · exact .inl a
  · refine .inr ⟨go, hl, fun x H3 y os los => ?_⟩
    obtain ⟨o, rfl⟩ : ∃ o, os = [o] := by
      match os, los with
      | [o], _ => exact ⟨o, rfl⟩
    exact ⟨⟨[some x], rfl, rfl⟩, st x H3 y⟩
def rowD (d : PyData) : Rw → Str × PyData
  | .folk => ("folk", d)
  | .out i => ("outcome", .int (i : Nat))
  | .yes i => ("yes", .int (i : Nat))
  | .told ns => ("told", .list (ns.map PyData.int))
theorem head_first {p : PyData → Bool} {ds : List PyData} : (((List.range ds.length).filter fun i => !(p (ds.getD i .none))) = [] → ds.all p = true) ∧ ∀ i rest, ((List.range ds.length).filter fun i => !(p (ds.getD i .none))) = i :: rest → First p ds i := by
  constructor
  · intro h
    rw [List.all_eq_true]
    intro d hd
    obtain ⟨j, hj, e⟩ := List.getElem_of_mem hd
    rw [List.filter_eq_nil_iff] at h
    have := h j (List.mem_range.mpr hj)
    have e2 : ds.getD j .none = d := by simp [hj, e]
    rw [e2] at this
    simpa using this
  · intro i rest h
    have hm : i ∈ (List.range ds.length).filter fun i => !(p (ds.getD i .none)) := by rw [h]; exact List.mem_cons_self ..
    rw [List.mem_filter, List.mem_range] at hm
    obtain ⟨hi, hp⟩ := hm
    have e2 : ds.getD i .none = ds[i] := by simp [hi]
    rw [e2] at hp
    refine ⟨fun j d hj hd => ?_, ds[i], List.getElem?_eq_getElem hi, by simpa using hp⟩
    have hjl := (List.getElem?_eq_some_iff.mp hd).1
    cases e : p d with
    | true => rfl
    | false =>
      exfalso
      have e3 : ds.getD j .none = d := by
        have := (List.getElem?_eq_some_iff.mp hd).2
        simp [hjl, this]
      have jm : j ∈ (List.range ds.length).filter fun i => !(p (ds.getD i .none)) := by
        rw [List.mem_filter, List.mem_range]
        exact ⟨hjl, by rw [e3, e]; rfl⟩
      have so : ((List.range ds.length).filter fun i => !(p (ds.getD i .none))).Pairwise (· < ·) := List.Pairwise.filter _ List.pairwise_lt_range
      rw [h] at so jm
      rcases List.mem_cons.mp jm with e4 | jm
      · omega
      · have := (List.pairwise_cons.mp so).1 j jm
        omega
section
variable {P : Program} {w : World} {K : Frag} {mg : Str → Option Value} {base : Heap}
abbrev sRD : Stmt := top 40
def Two (H : Hp) (l : Addr) (t : Str) (d : PyData) : Prop := H l = some (.lst [.str t, .str d.shown])
def spRD : Sp := fun vs H Q _ => ∃ (v : V) (d : PyData) (r : Rw), vs = [v] ∧ H sysModules = none ∧ Rds H v d ∧ Small d ∧ RowIs d r ∧ Show (rowD d r).2 ∧ ∀ l H', Ext H H' → Two H' l (rowD d r).1 (rowD d r).2 → Q (.ref l) H'
abbrev NRD : List Str := ["_law_outcomes", "_law_bad"]
theorem scRD : FnScope NRD ["_law_outcomes"] (defScope sRD) := ⟨rfl, rfl, rfl, by decide +kernel, rfl, by decide +kernel, by decide +kernel⟩
abbrev scRD1 : Scope := { kind := .function, names := [(".0", .local), ("_law_k", .local), ("_law_is_outcome", .globalImplicit), ("_law_outcomes", .free)], isGenerator := false, isCoroutine := false }
abbrev scRD2 : Scope := { kind := .function, names := [(".0", .local), ("_law_k", .local), ("_law_outcomes", .free)], isGenerator := false, isCoroutine := false }
abbrev scRD3 : Scope := { kind := .function, names := [(".0", .local), ("_law_number", .local), ("_law_sure", .local)], isGenerator := false, isCoroutine := false }
theorem lookup_one {n z : Str} {a c : Addr} (h : List.lookup z [(n, a)] = some c) : z = n ∧ c = a := by
  rw [List.lookup_cons] at h
  cases e : z == n with
  | true =>
    rw [e] at h
    exact ⟨beq_iff_eq.mp e, (Option.some.inj h).symm⟩
  | false =>
    rw [e] at h
    cases h
variable {f : Addr} {cdv : Value} {A : Around} {outer : List Env} {s : Shared} {H : Hp} {E : XK}
theorem compRD1 : CompG (cxOf CX0 P w K mg base NRD "_law_row_due" (defScope sRD) f cdv A outer s H E).nox scRD1 [("_law_outcomes", s.heap.objs.size + 1)] ["_law_k"] ["_law_outcomes"] [0] := by
  refine ⟨rfl, rfl, by decide +kernel, by decide +kernel, by decide +kernel, (fun z c h => ?_), (fun z h => ?_), by decide +kernel, (fun k z h => ?_), rfl⟩
  · obtain ⟨rfl, rfl⟩ := lookup_one h
    rfl
  · have h' : List.lookup z [((".0" : Str), NameKind.local), (("_law_k" : Str), NameKind.local), (("_law_is_outcome" : Str), NameKind.globalImplicit), (("_law_outcomes" : Str), NameKind.cell)] = some .cell ∨ List.lookup z [((".0" : Str), NameKind.local), (("_law_k" : Str), NameKind.local), (("_law_is_outcome" : Str), NameKind.globalImplicit), (("_law_outcomes" : Str), NameKind.cell)] = some .free := h
    have e : z = "_law_outcomes" := by
      simp only [List.lookup_cons, List.lookup_nil] at h'
      repeat' (split at h')
      all_goals first | (simp at h'; done) | (rename_i e; exact beq_iff_eq.mp e)
    subst e
    exact ⟨_, rfl⟩
  · cases k with
    | zero =>
      cases h
      exact ⟨0, rfl, rfl, .inr (.inl rfl), (by show (defScope sRD).names.lookup ("_law_outcomes" : Str) ≠ some NameKind.local; decide +kernel), .inl rfl⟩
    | succ k => cases h
theorem compRD2 : CompG (cxOf CX0 P w K mg base NRD "_law_row_due" (defScope sRD) f cdv A outer s H E).nox scRD2 [("_law_outcomes", s.heap.objs.size + 1)] ["_law_k"] ["_law_outcomes"] [0] := by
  refine ⟨rfl, rfl, by decide +kernel, by decide +kernel, by decide +kernel, (fun z c h => ?_), (fun z h => ?_), by decide +kernel, (fun k z h => ?_), rfl⟩
  · obtain ⟨rfl, rfl⟩ := lookup_one h
    rfl
  · have h' : List.lookup z [((".0" : Str), NameKind.local), (("_law_k" : Str), NameKind.local), (("_law_outcomes" : Str), NameKind.cell)] = some .cell ∨ List.lookup z [((".0" : Str), NameKind.local), (("_law_k" : Str), NameKind.local), (("_law_outcomes" : Str), NameKind.cell)] = some .free := h
    have e : z = "_law_outcomes" := by
      simp only [List.lookup_cons, List.lookup_nil] at h'
      repeat' (split at h')
      all_goals first | (simp at h'; done) | (rename_i e; exact beq_iff_eq.mp e)
    subst e
    exact ⟨_, rfl⟩
  · cases k with
    | zero =>
      cases h
      exact ⟨0, rfl, rfl, .inr (.inl rfl), (by show (defScope sRD).names.lookup ("_law_outcomes" : Str) ≠ some NameKind.local; decide +kernel), .inl rfl⟩
    | succ k => cases h
theorem compRD3 {X : Cx} : CompG X scRD3 [] ["_law_number", "_law_sure"] [] [] := by
  refine ⟨rfl, rfl, by decide +kernel, by decide +kernel, by decide +kernel, (fun z c h => nomatch h), (fun z h => ?_), by decide +kernel, (fun k z h => by simp at h), rfl⟩
  exfalso
  have h' : List.lookup z [((".0" : Str), NameKind.local), (("_law_number" : Str), NameKind.local), (("_law_sure" : Str), NameKind.local)] = some .cell ∨ List.lookup z [((".0" : Str), NameKind.local), (("_law_number" : Str), NameKind.local), (("_law_sure" : Str), NameKind.local)] = some .free := h
  simp only [List.lookup_cons, List.lookup_nil] at h'
  repeat' (split at h')
  all_goals simp at h'
theorem ndRD1 : ((["_law_k"] : List Str) ++ (["_law_outcomes"] : List Str)).Nodup := by decide +kernel
theorem ndRD3 : ((["_law_number", "_law_sure"] : List Str) ++ ([] : List Str)).Nodup := by decide +kernel
def tT1 (K : Frag) : TT := tNot (tB (tCall spIO [] E0 (tCons (tOp (rIxL K) (tVar 1) (tVar 0)) tNil)))
def tT2 (K : Frag) : TT := tOr (tNot (tB (tOp (rIxT K) (tOp (rIxL K) (tVar 1) (tVar 0)) (tC (.int 1))))) (tB (tOp (rIn K true) (tOp (rIxT K) (tOp (rIxL K) (tVar 1) (tVar 0)) (tC (.int 0))) (tTup (tCons (tC (.int 0)) (tCons (tC (.int 1)) tNil)))))
abbrev tLenV (K : Frag) : TE := tCB (fun xs H Q => ∃ p ys, xs = [.ref p] ∧ (SqL K H p ys ∨ SqT K H p ys) ∧ Q (.int ys.length) H) (tCons (tVar 0) tNil)
def tWord (z : Str) (te : TE) : TE := tLst (tCons (tC (.str z)) (tCons (tCB rRepr (tCons te tNil)) tNil))
def tBad1 (K : Frag) (tt : TT) : TS := tAsg (tLCGif (iRng1 (tCons (tLenV K) tNil)) 1 [0] (gName 0) tt (tVar 0)) (gName 1)
def tGo (K : Frag) (z : Str) : TS := tIfS (tB (tOp (rNeNil K) (tVar 1) (tLst tNil))) (tRet (tWord z (tOp (rIxL K) (tVar 1) (tC (.int 0))))) tNext
def tRD (K : Frag) : TS := tSeq (tIfS (tNot (tB (tCB (rIsK K) (tCons (tVar 0) (tCons (tC (.ty "list")) tNil))))) (tRet (tWord "folk" (tVar 0))) tNext) (tSeq (tBad1 K (tT1 K)) (tSeq (tGo K "outcome")
  (tSeq (tIfS (tNot (tTest (leLe (tC (.int 1)) (tLenV K) (tC (.int 20))))) (tRet (tWord "folk" (tVar 0))) tNext) (tSeq (tBad1 K (tT2 K)) (tSeq (tGo K "yes")
  (tRet (tWord "told" (tLCG (iList K (tVar 0)) 2 [] (gTup K 2 (gCons (gName 0) (gCons (gName 1) gNil))) (tVar 0)))))))))
theorem rd_der {a1 : Addr} {d1 : FuncData} (N : IsT K) (hz : H sysModules = none) (A1 : Df P w K mg base CX0 2 "_law_is_outcome" ["_law_thing"] spIO a1 d1) (mi : mg "isinstance" = none) (ml : mg "len" = none) (mli : mg "list" = none) (mr : mg "range" = none) (mp : mg "repr" = none)
    (hr : Room 2 (A.deeper (PyProof.Rows.envOfC "_law_row_due" (defScope sRD) s.heap.objs.size f cdv))) : Bx (PSs (cxOf CX0 P w K mg base NRD "_law_row_due" (defScope sRD) f cdv A outer s H E).nox (defBody sRD) (tRD K)) := by
  have nd := scRD.nd
  have hu := hr.units0
  exact bxs_cons ⟨ps_if (pt_not (pt_val (pe_callB (call_isK N) rfl mi PyProof.Rows.boot_isinstance (pa_cons (pv 0) (pa_cons (pe_ty rfl mli PyProof.Rows.boot_list) pa_nil))))) (pss_one (ps_ret (pe_lst (pa_cons pe_str (pa_cons (pe_callB (call_repr hz hr.gd hr.units) rfl mp PyProof.Rows.boot_repr (pa_cons (pv 0) pa_nil)) pa_nil))))) pss_nil⟩
    (bxs_cons ⟨ps_lcGI (iy := 1) (te := tVar 0) (tt := tT1 K) (g := gName 0) rfl compRD1 (pi_range1 rfl mr (pa_cons (pe_callB call_len_seq rfl ml PySem.boot_len (pa_cons (pv 0) pa_nil)) pa_nil)) (fun s H C fp => by exact pg_name (i := 0) ndRD1 rfl (.inl rfl)) (fun s H C fp => by exact pt_not (pt_val (pe_call A1.G hr rfl A1.m A1.kp A1.b .nil pass0 (pa_cons (pe_ix ix_list (pv 1) (pv 0) (fun _ _ => rfl)) pa_nil)))) (fun s H C fp => by exact pv 0) nd rfl (Or.inl rfl) rfl⟩
    (bxs_cons ⟨ps_if (pt_cmpR (op_neNil hu) (pv 1) (pe_lst pa_nil) (nomark _)) (pss_one (ps_ret (pe_lst (pa_cons pe_str (pa_cons (pe_callB (call_repr hz hr.gd hr.units) rfl mp PyProof.Rows.boot_repr (pa_cons (pe_ix ix_list (pv 1) pe_int (fun _ _ => rfl)) pa_nil)) pa_nil))))) pss_nil⟩
    (bxs_cons ⟨ps_if (pt_not (pt_chain op_le op_le pe_int (pe_callB call_len_seq rfl ml PySem.boot_len (pa_cons (pv 0) pa_nil)) pe_int)) (pss_one (ps_ret (pe_lst (pa_cons pe_str (pa_cons (pe_callB (call_repr hz hr.gd hr.units) rfl mp PyProof.Rows.boot_repr (pa_cons (pv 0) pa_nil)) pa_nil))))) pss_nil⟩
    (bxs_cons ⟨ps_lcGI (iy := 1) (te := tVar 0) (tt := tT2 K) (g := gName 0) rfl compRD2 (pi_range1 rfl mr (pa_cons (pe_callB call_len_seq rfl ml PySem.boot_len (pa_cons (pv 0) pa_nil)) pa_nil)) (fun s H C fp => by exact pg_name (i := 0) ndRD1 rfl (.inl rfl))
      (fun s H C fp => by exact PW.pt (pw_or (pt_not (pt_val (pe_ix ix_tup (pe_ix ix_list (pv 1) (pv 0) (fun _ _ => rfl)) pe_int (fun _ _ => rfl)))) (pw_or1 (pt_cmpR op_notIn_seq (pe_ix ix_tup (pe_ix ix_list (pv 1) (pv 0) (fun _ _ => rfl)) pe_int (fun _ _ => rfl)) (pe_tup (pa_cons pe_int (pa_cons pe_int pa_nil))) rfl)))) (fun s H C fp => by exact pv 0) nd rfl (Or.inl rfl) rfl⟩
    (bxs_cons ⟨ps_if (pt_cmpR (op_neNil hu) (pv 1) (pe_lst pa_nil) (nomark _)) (pss_one (ps_ret (pe_lst (pa_cons pe_str (pa_cons (pe_callB (call_repr hz hr.gd hr.units) rfl mp PyProof.Rows.boot_repr (pa_cons (pe_ix ix_list (pv 1) pe_int (fun _ _ => rfl)) pa_nil)) pa_nil))))) pss_nil⟩
    (bxs_one ⟨ps_ret (pe_lst (pa_cons pe_str (pa_cons (pe_callB (call_repr hz hr.gd hr.units) rfl mp PyProof.Rows.boot_repr (pa_cons (pe_lcG (te := tVar 0) (g := gTup K 2 (gCons (gName 0) (gCons (gName 1) gNil))) rfl compRD3 (pi_list (pv 0)) (fun s H C fp => by exact pg_tup rfl (pgs_cons (pg_name (i := 0) ndRD3 rfl (.inl rfl)) (pgs_cons (pg_name (i := 1) ndRD3 rfl (.inl rfl)) pgs_nil))) (fun s H C fp => by exact pv 0)) pa_nil)) pa_nil)))⟩))))))
end
end My
set_option Elab.async false
set_option linter.all false
set_option maxRecDepth 100000
set_option maxHeartbeats 1000000
set_option exponentiation.threshold 5000
namespace My
open PySem PySem.W L2
section
variable {P : Program} {w : World} {K : Frag} {mg : Str → Option Value} {base : Heap} {H : Hp} {D : Ends} {σ : St}
theorem rd_word {te : TE} {z : Str} {Q : VK} {d : PyData} (hte : ∀ R : VK, (∀ v H', Ext H H' → Rds H' v d → R v H') → te σ H R) (sw : Show d) (q : ∀ l H', Ext H H' → Two H' l z d → Q (.ref l) H') : tWord z te σ H Q :=
  hte _ fun v H' x' rd => ⟨v, d, rfl, rd, sw, by show 2 ≤ sizeLine; decide, fun l hl => q l _ (x'.trans (Ext.new hl)) upd_same⟩
theorem rd_bad1 {tt : TT} {p : Nat → Bool} {a : Addr} {xs : List V} {o : Option V} (ha : H a = some (.lst xs)) (len : xs.length < 10000) (hs : ∀ (i : Nat) H', i < xs.length → Ext H H' → ∀ R : Bool → Hp → Prop, (∀ H2, Ext H' H2 → R (p i) H2) → tt (some (.int (0 + (i : Int))) :: [some (.ref a)]) H' R)
    (nx : ∀ b H', Ext H H' → H' b = some (.lst (((List.range xs.length).filter p).map fun i => V.int (i : Nat))) → D.nx [some (.ref a), some (.ref b)] H') : tBad1 K tt D [some (.ref a), o] H := by
  refine ⟨_, rfl, a, _, rfl, .inl (SqL.of ha), (xs.length : Nat), rfl, by omega, by omega, fun b hb => ?_⟩
  exact lcGI_rng (n := xs.length) p (Nat.lt_trans len (by decide)) hb hs fun H' x' hD => nx b H' x' hD
theorem rd_go {a b : Addr} {is : List Nat} {z : Str} (hb : H b = some (.lst (is.map fun i => V.int (i : Nat)))) (hn : is = [] → ∀ H', Ext H H' → D.nx [some (.ref a), some (.ref b)] H') (hg : ∀ i rest, is = i :: rest → Show (.int (i : Nat)) ∧ ∀ l H', Ext H H' → Two H' l z (.int (i : Nat)) → D.rt (.ref l) H') :
    tGo K z D [some (.ref a), some (.ref b)] H := by
  refine ⟨_, rfl, by show 0 ≤ sizeLine; decide, fun l hl => ?_⟩
  have x1 := Ext.new (o := .lst []) hl
  have f1 : upd H l (.lst []) l = some (.lst []) := upd_same
  generalize upd H l (.lst []) = H1 at x1 f1 ⊢
  refine ⟨b, l, _, rfl, rfl, SqL.of (x1 _ _ hb), SqL.of f1, _, rfl, ?_⟩
  cases is with
  | nil => exact itF (hn rfl H1 x1)
  | cons i rest =>
    refine itT ?_
    obtain ⟨sw, q⟩ := hg i rest rfl
    exact rd_word (d := .int (i : Nat)) (fun R r => ⟨_, rfl, b, _, _, _, rfl, rfl, SqL.of (x1 _ _ hb), atI_nat (j := 0) rfl, r _ H1 (Ext.refl _) (.int _)⟩) sw fun l' H' x' t => q l' H' (x1.trans x') t
theorem rd_t1 {a : Addr} {xs : List V} {ds : List PyData} {i : Nat} {R : Bool → Hp → Prop} (ha : H a = some (.lst xs)) (rs : RdsAll H xs ds) (hi : i < xs.length) (q : R (!(outD (ds.getD i .none))) H) : tT1 K (some (.int (0 + (i : Int))) :: [some (.ref a)]) H R := by
  obtain ⟨d, ed, rv⟩ := rs.get (List.getElem?_eq_getElem hi)
  have e : ds.getD i .none = d := by
    have hl := (List.getElem?_eq_some_iff.mp ed).1
    have := (List.getElem?_eq_some_iff.mp ed).2
    simp [hl, this]
  rw [e] at q
  have at_ : atI xs (0 + (i : Int)) = some xs[i] := by
    rw [Int.zero_add]
    exact atI_nat (List.getElem?_eq_getElem hi)
  exact ⟨_, rfl, _, rfl, a, _, _, _, rfl, rfl, SqL.of ha, at_, _, d, rfl, rv, _, rfl, q⟩
theorem rd_t2 {a : Addr} {xs : List V} {ds : List PyData} {i : Nat} {R : Bool → Hp → Prop} (ha : H a = some (.lst xs)) (rs : RdsAll H xs ds) (al : ds.all outD = true) (hi : i < xs.length) (q : ∀ H', Ext H H' → R (!(yesD (ds.getD i .none))) H') : tT2 K (some (.int (0 + (i : Int))) :: [some (.ref a)]) H R := by
  obtain ⟨d, ed, rv⟩ := rs.get (List.getElem?_eq_getElem hi)
  have e : ds.getD i .none = d := by
    have hl := (List.getElem?_eq_some_iff.mp ed).1
    have := (List.getElem?_eq_some_iff.mp ed).2
    simp [hl, this]
  rw [e] at q
  have at_ : atI xs (0 + (i : Int)) = some xs[i] := by
    rw [Int.zero_add]
    exact atI_nat (List.getElem?_eq_getElem hi)
  have od := List.all_eq_true.mp al d (List.mem_of_getElem? ed)
  obtain ⟨n, b, rfl, _⟩ := out_two od
  obtain ⟨t, us, ev, ht, rt⟩ := rds_tup rv
  rw [ev] at at_
  cases rt with
  | cons r1 rt =>
    cases rt with
    | cons r2 rt =>
      cases rt
      have e1 := rds_int r1
      have e2 := rds_bool r2
      subst e1 e2
      rw [yes_of] at q
      refine ⟨_, rfl, _, rfl, a, _, _, _, rfl, rfl, SqL.of ha, at_, t, _, _, _, rfl, rfl, SqT.of ht, rfl, _, rfl, ?_⟩
      cases b with
      | false => exact itT (q H (Ext.refl _))
      | true =>
        refine itF ⟨_, rfl, _, rfl, a, _, _, _, rfl, rfl, SqL.of ha, at_, t, _, _, _, rfl, rfl, SqT.of ht, rfl, by show 2 ≤ sizeLine; decide, fun l hl => ?_⟩
        refine ⟨l, _, rfl, .inr (SqT.of upd_same), rfl, rfl, _, rfl, ?_⟩
        have en : (!(inV (V.int n) [V.int 0, V.int 1])) = !(true && (decide (0 ≤ n) && decide (n ≤ 1))) := by
          rw [Bool.true_and]
          congr 1
          show (((0 : Int) == n) || (((1 : Int) == n) || false)) = _
          rw [Bool.or_false, Bool.eq_iff_iff, Bool.or_eq_true, Bool.and_eq_true, decide_eq_true_iff, decide_eq_true_iff, beq_iff_eq, beq_iff_eq]
          omega
        show R (!(inV (V.int n) [V.int 0, V.int 1])) _
        rw [en]
        exact q _ (Ext.new hl)
theorem rd_ycS {Q : VK} {a : Addr} {xs : List V} {ns : List Int} (h0 : σ[0]? = some (some (.ref a))) (ha : H a = some (.lst xs)) (rs : RdsAll H xs (ns.map y1)) (len : ns.length ≤ 20) (q : ∀ l H', Ext H H' → H l = none → H' l = some (.lst (ns.map V.int)) → Q (.ref l) H') :
    tLCG (iList K (tVar 0)) 2 [] (gTup K 2 (gCons (gName 0) (gCons (gName 1) gNil))) (tVar 0) σ H Q := by
  have lx := rs.length
  rw [List.length_map] at lx
  refine ⟨_, h0, a, rfl, ⟨_, SqL.of ha⟩, fun D hD => ?_⟩
  refine lcG_list (a := a) (xs := xs) (fun i ys H' => Ext H H' ∧ ys = (ns.take i).map V.int) (by rw [lx]; exact Nat.lt_of_le_of_lt len (by decide)) ⟨Ext.new hD, rfl⟩ (fun i ys H' p => SqL.of (p.1 _ _ ha)) ?_ ?_
  · rintro i x ys H' ex ly hD' ⟨x', rfl⟩ os los R k
    obtain ⟨d, ed, rv⟩ := rs.get ex
    rw [List.getElem?_map] at ed
    obtain ⟨n, en, rfl⟩ := Option.map_eq_some_iff.mp ed
    obtain ⟨t, us, rfl, ht, rt⟩ := rds_tup (rv.mono x')
    cases rt with
    | cons r1 rt =>
      cases rt with
      | cons r2 rt =>
        cases rt
        have e1 := rds_int r1
        have e2 := rds_bool r2
        subst e1 e2
        obtain ⟨p0, p1, rfl⟩ : ∃ p0 p1, os = [p0, p1] := by
          match os, los with
          | [p0, p1], _ => exact ⟨p0, p1, rfl⟩
        refine ⟨t, _, rfl, SqT.of ht, rfl, _, _, rfl, _, _, rfl, rfl, ⟨[some (.int n), some (.bl true)], rfl, rfl⟩, _, rfl, k _ H' hD' ⟨ext_upd _ x' hD, ?_⟩⟩
        rw [take_all en, List.map_append]
        rfl
  · rintro ys H' ly hD' ⟨x', rfl⟩
    rw [lx, List.take_length] at hD'
    exact q D H' x' hD hD'
theorem rds_ints : ∀ {ns : List Int}, RdsAll H (ns.map V.int) (ns.map PyData.int)
  | [] => .nil
  | n :: ns => .cons (.int n) rds_ints
theorem show_nat {i : Nat} (h : i < 10000) : Show (.int (i : Nat)) := by
  refine ⟨?_, by simp [PyData.depth], ?_⟩
  · simp only [PyData.showable, decide_eq_true_eq]
    rw [Int.natAbs_natCast]
    by_cases z : i = 0
    · rw [z]; decide
    · exact (Nat.log2_lt z).mpr (Nat.lt_trans h (Nat.lt_of_lt_of_le (by decide : 10000 < 2 ^ 14) (Nat.pow_le_pow_right (by decide) (by decide))))
  · have e := PySem.int_text_length_le10 (a := ((i : Nat) : Int)) (k := 4) (by decide) (by rw [Int.natAbs_natCast]; exact h)
    simp only [PyData.shown]
    show (Str.ofString (toString ((i : Nat) : Int))).length ≤ sizeLine
    rw [ofString_length, sizeLine_eq]
    omega
theorem ok_rd {f a1 : Addr} {fd d1 : FuncData} (N : IsT K) (F : Fun K "_law_row_due" "_law_row_due" sRD f fd) (A1 : Df P w K mg base CX0 2 "_law_is_outcome" ["_law_thing"] spIO a1 d1) (mi : mg "isinstance" = none) (ml : mg "len" = none) (mli : mg "list" = none) (mr : mg "range" = none) (mp : mg "repr" = none) :
    FnOk P w K mg base CX0 3 f fd ["_law_outcomes"] spRD := by
  refine F.ok scRD (fun vs H Q E h => ?_) (fun cdv A outer s H vs Q E hr h => ?_)
  · obtain ⟨v, d, r, rfl, _⟩ := h
    rfl
  obtain ⟨v, d, r, rfl, hz, rd, sm, ri, sw, q⟩ := h
  obtain ⟨der⟩ := rd_der N hz A1 mi ml mli mr mp hr (f := f) (cdv := cdv) (A := A) (outer := outer) (s := s) (H := H) (E := E) (P := P) (w := w) (base := base)
  refine ⟨_, der, ?_⟩
  refine ⟨_, rfl, _, _, _, _, rfl, rd.kd, rd.isL, _, rfl, ?_⟩
  cases e : lisB d with
  | false =>
    refine itT ?_
    cases ri with
    | nl _ => exact rd_word (fun R r => ⟨_, rfl, r _ H (Ext.refl _) rd⟩) sw q
    | _ => cases e
  | true =>
    refine itF ?_
    obtain ⟨ds, rfl⟩ : ∃ ds, d = .list ds := by cases d <;> first | exact ⟨_, rfl⟩ | cases e
    obtain ⟨a, xs, rfl, ha, rs⟩ := rds_lst rd
    have len := rs.length
    have sl : xs.length < 10000 := by rw [len]; exact sm ds rfl
    refine rd_bad1 (D := ⟨_, Q, _, _⟩) (p := fun i => !(outD (ds.getD i .none))) ha sl (fun i H' hi x' R r => rd_t1 (x' _ _ ha) (RdsAll.mono x' rs) hi (r H' (Ext.refl _))) fun b H1 x1 hb => ?_
    rw [len] at hb
    obtain ⟨hf1, hf2⟩ := head_first (p := outD) (ds := ds)
    refine rd_go (D := ⟨_, Q, _, _⟩) hb (fun en H2 x2 => ?_) (fun i rest en => ?_)
    rotate_left
    · have fi := hf2 i rest en
      have hil : i < 10000 := by
        obtain ⟨_, d', e', _⟩ := fi
        have := (List.getElem?_eq_some_iff.mp e').1
        omega
      have er : r = .out i := by
        cases ri with
        | nl h => cases h
        | out h => rw [first_uniq h fi]
        | size al _ => exact absurd fi (not_first al)
        | yes al _ _ _ => exact absurd fi (not_first al)
        | @told ns _ _ bits =>
          refine absurd fi (not_first ?_)
          rw [List.all_eq_true]
          intro d hd
          obtain ⟨n, hn, rfl⟩ := List.mem_map.mp hd
          exact out_y1 (bits n hn)
      subst er
      exact ⟨show_nat hil, fun l H2 x2 t => q l H2 (x1.trans x2) t⟩
    have al := hf1 en
    have x12 := x1.trans x2
    have ha2 := x12 _ _ ha
    have rs2 := RdsAll.mono x12 rs
    have nr : ¬ (1 ≤ ds.length ∧ ds.length ≤ 20) → r = .folk := fun n => by
      cases ri with
      | nl h => cases h
      | out h => exact absurd h (not_first al)
      | size _ _ => rfl
      | yes _ l1 l20 _ => exact absurd ⟨l1, l20⟩ n
      | told l1 l20 _ => rw [List.length_map] at n; exact absurd ⟨l1, l20⟩ n
    refine rd_leLe (a := tC (.int 1)) (b := tLenV K) (c := tC (.int 20)) (σ := [some (.ref a), some (.ref b)]) (H := H2) (i := 1) (j := (xs.length : Nat)) (k := 20) (fun R r => r) (fun R r => ⟨_, rfl, a, _, rfl, .inl (SqL.of ha2), r⟩) (fun R r => r) ?_
    rw [len]
    by_cases inr : 1 ≤ ds.length ∧ ds.length ≤ 20
    rotate_left
    · have er := nr inr
      subst er
      have e2 : (decide ((1 : Int) ≤ (ds.length : Nat)) && decide (((ds.length : Nat) : Int) ≤ 20)) = false := by
        rw [Bool.eq_false_iff]
        intro z
        rw [Bool.and_eq_true, decide_eq_true_iff, decide_eq_true_iff] at z
        exact inr ⟨by omega, by omega⟩
      rw [e2]
      exact itT (rd_word (fun R r => ⟨_, rfl, r _ H2 (Ext.refl _) (rd.mono x12)⟩) sw fun l H3 x3 t => q l H3 (x12.trans x3) t)
    have e2 : (decide ((1 : Int) ≤ (ds.length : Nat)) && decide (((ds.length : Nat) : Int) ≤ 20)) = true := by
      rw [Bool.and_eq_true, decide_eq_true_iff, decide_eq_true_iff]
      exact ⟨by omega, by omega⟩
    rw [e2]
    refine itF ?_
    refine rd_bad1 (D := ⟨_, Q, _, _⟩) (p := fun i => !(yesD (ds.getD i .none))) ha2 sl (fun i H' hi x' R r => rd_t2 (x' _ _ ha2) (RdsAll.mono x' rs2) al hi r) fun b2 H3 x3 hb2 => ?_
    rw [len] at hb2
    obtain ⟨hy1, hy2⟩ := head_first (p := yesD) (ds := ds)
    have x13 := x12.trans x3
    refine rd_go (D := ⟨_, Q, _, _⟩) hb2 (fun en2 H4 x4 => ?_) (fun i rest en2 => ?_)
    rotate_left
    · have fi := hy2 i rest en2
      have hil : i < 10000 := by
        obtain ⟨_, d', e', _⟩ := fi
        have := (List.getElem?_eq_some_iff.mp e').1
        omega
      have er : r = .yes i := by
        cases ri with
        | nl h => cases h
        | out h => exact absurd h (not_first al)
        | size _ n => exact absurd inr n
        | yes _ _ _ h => rw [first_uniq h fi]
        | @told ns _ _ bits =>
          refine absurd fi (not_first ?_)
          rw [List.all_eq_true]
          intro d hd
          obtain ⟨n, hn, rfl⟩ := List.mem_map.mp hd
          exact yes_y1 (bits n hn)
      subst er
      exact ⟨show_nat hil, fun l H4 x4 t => q l H4 (x13.trans x4) t⟩
    have ay := hy1 en2
    have x14 := x13.trans x4
    cases ri with
    | nl h => cases h
    | out h => exact absurd h (not_first al)
    | size _ n => exact absurd inr n
    | yes _ _ _ h => exact absurd h (not_first ay)
    | @told ns l1 l20 bits =>
      refine rd_word (σ := [some (.ref a), some (.ref b2)]) (fun R r => rd_ycS (σ := [some (.ref a), some (.ref b2)]) rfl (x14 _ _ ha) (RdsAll.mono x14 rs) l20 fun l H5 x5 hl0 hl => r _ H5 x5 (.lst hl rds_ints)) sw fun l H5 x5 t => q l H5 (x14.trans x5) t
end
end My
set_option Elab.async false
set_option linter.all false
set_option maxRecDepth 100000
set_option maxHeartbeats 1000000
set_option exponentiation.threshold 5000
namespace My
open PySem PySem.W L2
def fourD (ds : List PyData) : PyData := .tuple [.int (cnt 1 0 ds : Nat), .int (cnt 0 1 ds : Nat), .int (cnt 1 1 ds : Nat), .int (cnt 0 0 ds : Nat)]
def ctD : PyData → Str × PyData
  | .list ds => if lgD (.list ds) = true then ("told", fourD ds) else ("listing", .list ds)
  | d => ("listing", d)
def ftD (d1 d2 d3 : PyData) : Ft → Str × PyData
  | .listing => ("listing", d1)
  | .row r => rowD d2 r
  | .dealing => ("dealing", d3)
  | .told b => ("told", .bool b)
def AskIs (j : Nat) (d1 d2 d3 : PyData) (z : Str × PyData) : Prop := (j = 0 ∧ ∃ r, RowIs d2 r ∧ z = rowD d2 r) ∨ (j = 1 ∧ z = ctD d1) ∨ (j = 2 ∧ ∃ r, FtIs d1 d2 d3 r ∧ z = ftD d1 d2 d3 r)
section
variable {X : Cx}
def rLL (K : Frag) : R2 := fun x y H Q => ∃ p q xs ys, x = .ref p ∧ y = .ref q ∧ SqL K H p xs ∧ SqL K H q ys ∧ xs.length = ys.length ∧ xs.all flatV = true ∧ ys.all flatV = true ∧ Q (.bl (eqVs xs ys)) H
theorem op_eqLL (hu : X.A.units < cLine) : OpR X (compareOp .Eq) (rLL X.K) := by
  intro pins s σ H x y v u Q I rx ry h
  obtain ⟨p, q, xs, ys, rfl, rfl, hp, hq, len, f1, f2, k⟩ := h
  cases rx
  cases ry
  obtain ⟨its, r1, t1, _⟩ := I.list hp
  obtain ⟨jts, r2, t2, _⟩ := I.list hq
  have l1 := r1.length
  have l2 := r2.length
  refine SeqAt.eq_listAt t1.isList t2.isList (by simp; omega) hu (tup_eqs (pins := pins) (σ := σ) (H := H) r1 r2 f1 f2) ?_
  refine ⟨.bl _, H, I, ?_, k⟩
  have z := eqVs_all xs ys
  rw [len, Nat.min_self, beq_self_eq_true, Bool.and_true] at z
  show Value.bool _ = Value.bool _
  rw [← z, List.size_toArray, ← l1, len]
end
section
variable {P : Program} {w : World} {K : Frag} {mg : Str → Option Value} {base : Heap}
abbrev sDu : Stmt := top 42
def spDu : Sp := fun vs H Q _ => ∃ (j : Nat) (v1 v2 v3 : V) (d1 d2 d3 : PyData) (z : Str × PyData), vs = [.int (j : Nat), v1, v2, v3] ∧ H sysModules = none ∧ Rds H v1 d1 ∧ Rds H v2 d2 ∧ Rds H v3 d3 ∧ Small d1 ∧ Small d2 ∧ AskIs j d1 d2 d3 z ∧ Show z.2 ∧ ∀ l H', Ext H H' → Two H' l z.1 z.2 → Q (.ref l) H'
abbrev NDu : List Str := ["_law_door", "_law_listing", "_law_outcomes", "_law_dealing", "_law_counts", "_law_row", "_law_came"]
theorem scDu : FnScope NDu ["_law_door", "_law_listing", "_law_outcomes", "_law_dealing"] (defScope sDu) := ⟨rfl, rfl, rfl, by decide +kernel, rfl, by decide +kernel, by decide +kernel⟩
abbrev scDu1 : Scope := { kind := .function, names := [(".0", .local), ("_law_kind", .local), ("_law_listing", .free)], isGenerator := false, isCoroutine := false }
abbrev scDu2 : Scope := { kind := .function, names := [(".0", .local), ("_law_k", .local), ("_law_one", .local), ("_law_dealing", .free)], isGenerator := false, isCoroutine := false }
variable {f : Addr} {cdv : Value} {A : Around} {outer : List Env} {s : Shared} {H : Hp} {E : XK}
theorem compDu1 : CompG (cxOf CX0 P w K mg base NDu "_law_due" (defScope sDu) f cdv A outer s H E).nox scDu1 [("_law_listing", s.heap.objs.size + 1)] ["_law_kind"] ["_law_listing"] [1] := by
  refine ⟨rfl, rfl, by decide +kernel, by decide +kernel, by decide +kernel, (fun z c h => ?_), (fun z h => ?_), by decide +kernel, (fun k z h => ?_), rfl⟩
  · obtain ⟨rfl, rfl⟩ := lookup_one h
    rfl
  · have h' : List.lookup z [((".0" : Str), NameKind.local), (("_law_kind" : Str), NameKind.local), (("_law_listing" : Str), NameKind.cell)] = some .cell ∨ List.lookup z [((".0" : Str), NameKind.local), (("_law_kind" : Str), NameKind.local), (("_law_listing" : Str), NameKind.cell)] = some .free := h
    have e : z = "_law_listing" := by
      simp only [List.lookup_cons, List.lookup_nil] at h'
      repeat' (split at h')
      all_goals first | (simp at h'; done) | (rename_i e; exact beq_iff_eq.mp e)
    subst e
    exact ⟨_, rfl⟩
  · cases k with
    | zero =>
      cases h
      exact ⟨1, rfl, rfl, .inr (.inl rfl), (by show (defScope sDu).names.lookup ("_law_listing" : Str) ≠ some NameKind.local; decide +kernel), .inl rfl⟩
    | succ k => cases h
theorem compDu2 : CompG (cxOf CX0 P w K mg base NDu "_law_due" (defScope sDu) f cdv A outer s H E).nox scDu2 [("_law_dealing", s.heap.objs.size + 2)] ["_law_k", "_law_one"] ["_law_dealing"] [3] := by
  refine ⟨rfl, rfl, by decide +kernel, by decide +kernel, by decide +kernel, (fun z c h => ?_), (fun z h => ?_), by decide +kernel, (fun k z h => ?_), rfl⟩
  · obtain ⟨rfl, rfl⟩ := lookup_one h
    rfl
  · have h' : List.lookup z [((".0" : Str), NameKind.local), (("_law_k" : Str), NameKind.local), (("_law_one" : Str), NameKind.local), (("_law_dealing" : Str), NameKind.cell)] = some .cell ∨ List.lookup z [((".0" : Str), NameKind.local), (("_law_k" : Str), NameKind.local), (("_law_one" : Str), NameKind.local), (("_law_dealing" : Str), NameKind.cell)] = some .free := h
    have e : z = "_law_dealing" := by
      simp only [List.lookup_cons, List.lookup_nil] at h'
      repeat' (split at h')
      all_goals first | (simp at h'; done) | (rename_i e; exact beq_iff_eq.mp e)
    subst e
    exact ⟨_, rfl⟩
  · cases k with
    | zero =>
      cases h
      exact ⟨3, rfl, rfl, .inr (.inl rfl), (by show (defScope sDu).names.lookup ("_law_dealing" : Str) ≠ some NameKind.local; decide +kernel), .inl rfl⟩
    | succ k => cases h
theorem ndDu1 : ((["_law_kind"] : List Str) ++ (["_law_listing"] : List Str)).Nodup := by decide +kernel
theorem ndDu2 : ((["_law_k", "_law_one"] : List Str) ++ (["_law_dealing"] : List Str)).Nodup := by decide +kernel
abbrev c2 (a b : V) : TE := tTup (tCons (tC a) (tCons (tC b) tNil))
def tKinds : TE := tLst (tCons (c2 (.int 1) (.int 0)) (tCons (c2 (.int 0) (.int 1)) (tCons (c2 (.int 1) (.int 1)) (tCons (c2 (.int 0) (.int 0)) tNil))))
abbrev tLenI (K : Frag) (i : Nat) : TE := tCB (fun xs H Q => ∃ p ys, xs = [.ref p] ∧ (SqL K H p ys ∨ SqT K H p ys) ∧ Q (.int ys.length) H) (tCons (tVar i) tNil)
def tCnt (K : Frag) : TE := tLCG (iList K tKinds) 1 [1] (gName 0) (tBM K "list" (rCountT K) (tVar 1) (tCons (tVar 0) tNil))
def tSelE (K : Frag) : TE := tOp (rIxT K) (tVar 1) (tOp (rI0 fun i j => .int (i - j)) (tC (.int 1)) (tOp (rI0 fun i j => .int (Builtin.bitAnd i j)) (tOp (rI (fun _ j => 0 ≤ j) fun i j => .int (i / 2 ^ j.toNat)) (tVar 2) (tVar 0)) (tC (.int 1))))
def tCame (K : Frag) : TE := tLCG (iEnum K (tCons (tVar 1) tNil)) 2 [3] (gTup K 2 (gCons (gName 0) (gCons (gName 1) gNil))) (tSelE K)
def tNums (K : Frag) (i : Nat) : TE := tLCG (iList K (tVar i)) 2 [] (gTup K 2 (gCons (gName 0) (gCons (gName 1) gNil))) (tVar 0)
end
end My
set_option Elab.async false
set_option linter.all false
set_option maxRecDepth 100000
set_option maxHeartbeats 1000000
set_option exponentiation.threshold 5000
namespace My
open PySem PySem.W L2
section
variable {P : Program} {w : World} {K : Frag} {mg : Str → Option Value} {base : Heap} {f : Addr} {cdv : Value} {A : Around} {outer : List Env} {s : Shared} {H : Hp} {E : XK}
def rTupQ (K : Frag) : List V → Hp → VK → Prop := fun xs H Q => ∃ p ys, xs = [.ref p] ∧ ((SqL K H p ys ∧ ∀ l, H l = none → Q (.ref l) (upd H l (.tup ys))) ∨ (SqT K H p ys ∧ Q (.ref p) H))
def leLt (a b c : TE) : TE := tChain (rI0 fun i j => .bl (decide (i ≤ j))) (rI0 fun i j => .bl (decide (i < j))) a b c
def tShl (K : Frag) : TE := tOp (rI CPow fun i j => .int (i * 2 ^ j.toNat)) (tC (.int 1)) (tLenI K 2)
abbrev tE2 (i : Nat) (v : V) : TT := tB (tOp rEq (tVar i) (tC v))
def tDuA (K : Frag) : TS := tIfS (tE2 0 (.int 0)) (tRet (tCallZ spRD E0 (tCons (tVar 2) tNil))) tNext
def tDuB (K : Frag) : TS := tIfS (tNot (tB (tCall spIG [] E0 (tCons (tVar 1) tNil)))) (tRet (tWord "listing" (tVar 1))) tNext
def tDuC (K : Frag) : TS := tIfS (tE2 0 (.int 1)) (tSeq (tAsg (tCnt K) (gName 4)) (tRet (tWord "told" (tCB (rTupQ K) (tCons (tVar 4) tNil))))) tNext
def tDuD : TS := tAsg (tCallZ spRD E0 (tCons (tVar 2) tNil)) (gName 5)
def tDuE (K : Frag) : TS := tIfS (tB (tOp rNe (tOp (rIxL K) (tVar 5) (tC (.int 0))) (tC (.str "told")))) (tRet (tVar 5)) tNext
def tDuF (K : Frag) : TS := tIfS (tOr (tNot (tB (tCall spWh [] E0 (tCons (tVar 3) tNil)))) (tNot (tTest (leLt (tC (.int 0)) (tVar 3) (tShl K))))) (tRet (tWord "dealing" (tVar 3))) tNext
def tDuG (K : Frag) : TS := tIfS (tB (tOp rNe (tLenI K 1) (tLenI K 2))) (tRet (tWord "listing" (tVar 1))) tNext
def tDuH (K : Frag) : TS := tAsg (tCame K) (gName 6)
def tDuI (K : Frag) : TS := tRet (tWord "told" (tOp (rLL K) (tVar 6) (tNums K 2)))
def tDu (K : Frag) : TS := tSeq (tDuA K) (tSeq (tDuB K) (tSeq (tDuC K) (tSeq tDuD (tSeq (tDuE K) (tSeq (tDuF K) (tSeq (tDuG K) (tSeq (tDuH K) (tDuI K))))))))
abbrev stDu (i : Nat) : Stmt := (defBody sDu).getD i (.Pass ⟨0, 0, 0, 0⟩)
theorem du_0 {a1 a2 a3 : Addr} {d1 d2 d3 : FuncData} (hz : H sysModules = none) (A1 : Df P w K mg base CX0 3 "_law_row_due" ["_law_outcomes"] spRD a1 d1) (A2 : Df P w K mg base CX0 2 "_law_is_listing" ["_law_thing"] spIG a2 d2) (A3 : Df P w K mg base CX0 1 "_law_whole" ["_law_found"] spWh a3 d3)
    (ml : mg "len" = none) (mp : mg "repr" = none) (mt : mg "tuple" = none) (me : mg "enumerate" = none)
    (hr : Room 3 (A.deeper (PyProof.Rows.envOfC "_law_due" (defScope sDu) s.heap.objs.size f cdv))) : Bx (PS (cxOf CX0 P w K mg base NDu "_law_due" (defScope sDu) f cdv A outer s H E).nox (stDu 0) (tDuA K)) := by
  have nd := scDu.nd
  have hu := hr.units0
  have hu1 : (A.deeper (PyProof.Rows.envOfC "_law_due" (defScope sDu) s.heap.objs.size f cdv)).units + 1 < cLine := by have := hr.units; omega
  have hr2 : Room 2 _ := hr.mono (by decide)
  have hr1 : Room 1 _ := hr.mono (by decide)
  exact ⟨ps_if (pt_cmpR op_eq (pv 0) pe_int (nomark _)) (pss_one (ps_ret (pe_callZ hz A1.G hr rfl A1.m A1.kp A1.b pass0 (pa_cons (pv 2) pa_nil)))) pss_nil⟩
theorem du_1 {a1 a2 a3 : Addr} {d1 d2 d3 : FuncData} (hz : H sysModules = none) (A1 : Df P w K mg base CX0 3 "_law_row_due" ["_law_outcomes"] spRD a1 d1) (A2 : Df P w K mg base CX0 2 "_law_is_listing" ["_law_thing"] spIG a2 d2) (A3 : Df P w K mg base CX0 1 "_law_whole" ["_law_found"] spWh a3 d3)
    (ml : mg "len" = none) (mp : mg "repr" = none) (mt : mg "tuple" = none) (me : mg "enumerate" = none)
    (hr : Room 3 (A.deeper (PyProof.Rows.envOfC "_law_due" (defScope sDu) s.heap.objs.size f cdv))) : Bx (PS (cxOf CX0 P w K mg base NDu "_law_due" (defScope sDu) f cdv A outer s H E).nox (stDu 1) (tDuB K)) := by
  have nd := scDu.nd
  have hu := hr.units0
  have hu1 : (A.deeper (PyProof.Rows.envOfC "_law_due" (defScope sDu) s.heap.objs.size f cdv)).units + 1 < cLine := by have := hr.units; omega
  have hr2 : Room 2 _ := hr.mono (by decide)
  have hr1 : Room 1 _ := hr.mono (by decide)
  exact ⟨ps_if (pt_not (pt_val (pe_call A2.G hr2 rfl A2.m A2.kp A2.b .nil pass0 (pa_cons (pv 1) pa_nil)))) (pss_one (ps_ret (pe_lst (pa_cons pe_str (pa_cons (pe_callB (call_repr hz hr.gd hr.units) rfl mp PyProof.Rows.boot_repr (pa_cons (pv 1) pa_nil)) pa_nil))))) pss_nil⟩
theorem bx_piList {X : Cx} {tg l : Expr} {tl : TE} (h : Bx (PE X l tl)) : Bx (PI X tg l (iList X.K tl)) := ⟨pi_list h.h⟩
theorem bx_lcG {X : Cx} {sc : Scope} {cl : List (Str × Addr)} {ts zs : List Str} {js : List Nat} {elt tg iter : Expr} {wi : TI} {g : TG} {te : TE} {pos : Pos} {y : Str} {py spos : Pos} {iy : Nat} (hc : X.calm = true) (S : CompG X sc cl ts zs js) (hi : Bx (PI X tg iter wi)) (hg : ∀ s H C fp, PG (compCx X sc cl (ts ++ zs) s H C fp) tg g) (he : ∀ s H C fp, PE (compCx X sc cl (ts ++ zs) s H C fp) elt te)
    (hN : X.N.Nodup) (hiy : X.N[iy]? = some y) (hy : Loc X.env.scope y) (hsw : swapsWith (.ListComp elt [⟨tg, iter, [], 0⟩] sc pos) (some (.Name y py)) spos.line X.env = pure true)
    (hf : X.fn y = true ∨ X.env.scope.names.lookup y = some .local := by first | exact .inl rfl | exact .inr rfl | assumption)
    (hs : ∀ v, foldedSetIterable iter X.env v = pure v := by intro _; rfl) : Bx (PS X (.Assign [.Name y py] (.ListComp elt [⟨tg, iter, [], 0⟩] sc pos) spos) (tAsg (tLCG wi ts.length js g te) (gName iy))) := ⟨ps_lcG hc S hi.h hg he hN hiy hy hsw hf hs⟩
theorem kinds_der {X : Cx} {a0 b0 c0 a1 b1 c1 a2 b2 c2 a3 b3 c3 p : Pos} : Bx (PE X (.List [.Tuple [.Constant (.int 1) 0 a0, .Constant (.int 0) 0 b0] 0 c0, .Tuple [.Constant (.int 0) 0 a1, .Constant (.int 1) 0 b1] 0 c1, .Tuple [.Constant (.int 1) 0 a2, .Constant (.int 1) 0 b2] 0 c2, .Tuple [.Constant (.int 0) 0 a3, .Constant (.int 0) 0 b3] 0 c3] p) tKinds) := bx_lst (bxa_cons (bx_tup (bxa_cons ⟨pe_int⟩ (bxa_cons ⟨pe_int⟩ bxa_nil))) (bxa_cons (bx_tup (bxa_cons ⟨pe_int⟩ (bxa_cons ⟨pe_int⟩ bxa_nil))) (bxa_cons (bx_tup (bxa_cons ⟨pe_int⟩ (bxa_cons ⟨pe_int⟩ bxa_nil))) (bxa_cons (bx_tup (bxa_cons ⟨pe_int⟩ (bxa_cons ⟨pe_int⟩ bxa_nil))) bxa_nil))))
theorem du_2 {a1 a2 a3 : Addr} {d1 d2 d3 : FuncData} (hz : H sysModules = none) (A1 : Df P w K mg base CX0 3 "_law_row_due" ["_law_outcomes"] spRD a1 d1) (A2 : Df P w K mg base CX0 2 "_law_is_listing" ["_law_thing"] spIG a2 d2) (A3 : Df P w K mg base CX0 1 "_law_whole" ["_law_found"] spWh a3 d3)
    (ml : mg "len" = none) (mp : mg "repr" = none) (mt : mg "tuple" = none) (me : mg "enumerate" = none)
    (hr : Room 3 (A.deeper (PyProof.Rows.envOfC "_law_due" (defScope sDu) s.heap.objs.size f cdv))) : Bx (PS (cxOf CX0 P w K mg base NDu "_law_due" (defScope sDu) f cdv A outer s H E).nox (stDu 2) (tDuC K)) := by
  have nd := scDu.nd
  have hu := hr.units0
  have hu1 : (A.deeper (PyProof.Rows.envOfC "_law_due" (defScope sDu) s.heap.objs.size f cdv)).units + 1 < cLine := by have := hr.units; omega
  exact bx_if ⟨pt_cmpR op_eq (pv 0) pe_int (nomark _)⟩ (bxs_cons (bx_lcG (iy := 4) (te := tBM K "list" (rCountT K) (tVar 1) (tCons (tVar 0) tNil)) (g := gName 0) rfl compDu1 (bx_piList kinds_der)
        (fun s H C fp => by exact pg_name (i := 0) ndDu1 rfl (.inl rfl)) (fun s H C fp => by exact pe_bm PySem.F.plainAttrs_list PySem.F.slot_list_count PySem.F.type_list_count (mt_countT hu1) (pv 1) (pa_cons (pv 0) pa_nil)) nd rfl (Or.inl rfl) rfl)
      (bxs_one ⟨ps_ret (pe_lst (pa_cons pe_str (pa_cons (pe_callB (call_repr hz hr.gd hr.units) rfl mp PyProof.Rows.boot_repr (pa_cons (pe_callTy call_tuple_of rfl mt PyProof.Rows.boot_tuple (pa_cons (pv 4) pa_nil)) pa_nil)) pa_nil)))⟩)) bxs_nil
theorem du_3 {a1 a2 a3 : Addr} {d1 d2 d3 : FuncData} (hz : H sysModules = none) (A1 : Df P w K mg base CX0 3 "_law_row_due" ["_law_outcomes"] spRD a1 d1) (A2 : Df P w K mg base CX0 2 "_law_is_listing" ["_law_thing"] spIG a2 d2) (A3 : Df P w K mg base CX0 1 "_law_whole" ["_law_found"] spWh a3 d3)
    (ml : mg "len" = none) (mp : mg "repr" = none) (mt : mg "tuple" = none) (me : mg "enumerate" = none)
    (hr : Room 3 (A.deeper (PyProof.Rows.envOfC "_law_due" (defScope sDu) s.heap.objs.size f cdv))) : Bx (PS (cxOf CX0 P w K mg base NDu "_law_due" (defScope sDu) f cdv A outer s H E).nox (stDu 3) tDuD) := by
  have nd := scDu.nd
  have hu := hr.units0
  have hu1 : (A.deeper (PyProof.Rows.envOfC "_law_due" (defScope sDu) s.heap.objs.size f cdv)).units + 1 < cLine := by have := hr.units; omega
  have hr2 : Room 2 _ := hr.mono (by decide)
  have hr1 : Room 1 _ := hr.mono (by decide)
  exact ⟨ps_set (i := 5) nd rfl (Or.inl rfl) (pe_callZ hz A1.G hr rfl A1.m A1.kp A1.b pass0 (pa_cons (pv 2) pa_nil))⟩
theorem du_4 {a1 a2 a3 : Addr} {d1 d2 d3 : FuncData} (hz : H sysModules = none) (A1 : Df P w K mg base CX0 3 "_law_row_due" ["_law_outcomes"] spRD a1 d1) (A2 : Df P w K mg base CX0 2 "_law_is_listing" ["_law_thing"] spIG a2 d2) (A3 : Df P w K mg base CX0 1 "_law_whole" ["_law_found"] spWh a3 d3)
    (ml : mg "len" = none) (mp : mg "repr" = none) (mt : mg "tuple" = none) (me : mg "enumerate" = none)
    (hr : Room 3 (A.deeper (PyProof.Rows.envOfC "_law_due" (defScope sDu) s.heap.objs.size f cdv))) : Bx (PS (cxOf CX0 P w K mg base NDu "_law_due" (defScope sDu) f cdv A outer s H E).nox (stDu 4) (tDuE K)) := by
  have nd := scDu.nd
  have hu := hr.units0
  have hu1 : (A.deeper (PyProof.Rows.envOfC "_law_due" (defScope sDu) s.heap.objs.size f cdv)).units + 1 < cLine := by have := hr.units; omega
  have hr2 : Room 2 _ := hr.mono (by decide)
  have hr1 : Room 1 _ := hr.mono (by decide)
  exact ⟨ps_if (pt_cmpR op_ne (pe_ix ix_list (pv 5) pe_int (fun _ _ => rfl)) pe_str (nomark _)) (pss_one (ps_ret (pv 5))) pss_nil⟩
theorem du_5 {a1 a2 a3 : Addr} {d1 d2 d3 : FuncData} (hz : H sysModules = none) (A1 : Df P w K mg base CX0 3 "_law_row_due" ["_law_outcomes"] spRD a1 d1) (A2 : Df P w K mg base CX0 2 "_law_is_listing" ["_law_thing"] spIG a2 d2) (A3 : Df P w K mg base CX0 1 "_law_whole" ["_law_found"] spWh a3 d3)
    (ml : mg "len" = none) (mp : mg "repr" = none) (mt : mg "tuple" = none) (me : mg "enumerate" = none)
    (hr : Room 3 (A.deeper (PyProof.Rows.envOfC "_law_due" (defScope sDu) s.heap.objs.size f cdv))) : Bx (PS (cxOf CX0 P w K mg base NDu "_law_due" (defScope sDu) f cdv A outer s H E).nox (stDu 5) (tDuF K)) := by
  have nd := scDu.nd
  have hu := hr.units0
  have hu1 : (A.deeper (PyProof.Rows.envOfC "_law_due" (defScope sDu) s.heap.objs.size f cdv)).units + 1 < cLine := by have := hr.units; omega
  have hr2 : Room 2 _ := hr.mono (by decide)
  have hr1 : Room 1 _ := hr.mono (by decide)
  exact ⟨ps_if (PW.pt (pw_or (pt_not (pt_val (pe_call A3.G hr1 rfl A3.m A3.kp A3.b .nil pass0 (pa_cons (pv 3) pa_nil)))) (pw_or1 (pt_not (pt_chain op_le op_lt pe_int (pv 3) (pe_op op_shl pe_int (pe_callB call_len_seq rfl ml PySem.boot_len (pa_cons (pv 2) pa_nil)))))))) (pss_one (ps_ret (pe_lst (pa_cons pe_str (pa_cons (pe_callB (call_repr hz hr.gd hr.units) rfl mp PyProof.Rows.boot_repr (pa_cons (pv 3) pa_nil)) pa_nil))))) pss_nil⟩
theorem du_6 {a1 a2 a3 : Addr} {d1 d2 d3 : FuncData} (hz : H sysModules = none) (A1 : Df P w K mg base CX0 3 "_law_row_due" ["_law_outcomes"] spRD a1 d1) (A2 : Df P w K mg base CX0 2 "_law_is_listing" ["_law_thing"] spIG a2 d2) (A3 : Df P w K mg base CX0 1 "_law_whole" ["_law_found"] spWh a3 d3)
    (ml : mg "len" = none) (mp : mg "repr" = none) (mt : mg "tuple" = none) (me : mg "enumerate" = none)
    (hr : Room 3 (A.deeper (PyProof.Rows.envOfC "_law_due" (defScope sDu) s.heap.objs.size f cdv))) : Bx (PS (cxOf CX0 P w K mg base NDu "_law_due" (defScope sDu) f cdv A outer s H E).nox (stDu 6) (tDuG K)) := by
  have nd := scDu.nd
  have hu := hr.units0
  have hu1 : (A.deeper (PyProof.Rows.envOfC "_law_due" (defScope sDu) s.heap.objs.size f cdv)).units + 1 < cLine := by have := hr.units; omega
  have hr2 : Room 2 _ := hr.mono (by decide)
  have hr1 : Room 1 _ := hr.mono (by decide)
  exact ⟨ps_if (pt_cmpR op_ne (pe_callB call_len_seq rfl ml PySem.boot_len (pa_cons (pv 1) pa_nil)) (pe_callB call_len_seq rfl ml PySem.boot_len (pa_cons (pv 2) pa_nil)) (nomark _)) (pss_one (ps_ret (pe_lst (pa_cons pe_str (pa_cons (pe_callB (call_repr hz hr.gd hr.units) rfl mp PyProof.Rows.boot_repr (pa_cons (pv 1) pa_nil)) pa_nil))))) pss_nil⟩
theorem du_7 {a1 a2 a3 : Addr} {d1 d2 d3 : FuncData} (hz : H sysModules = none) (A1 : Df P w K mg base CX0 3 "_law_row_due" ["_law_outcomes"] spRD a1 d1) (A2 : Df P w K mg base CX0 2 "_law_is_listing" ["_law_thing"] spIG a2 d2) (A3 : Df P w K mg base CX0 1 "_law_whole" ["_law_found"] spWh a3 d3)
    (ml : mg "len" = none) (mp : mg "repr" = none) (mt : mg "tuple" = none) (me : mg "enumerate" = none)
    (hr : Room 3 (A.deeper (PyProof.Rows.envOfC "_law_due" (defScope sDu) s.heap.objs.size f cdv))) : Bx (PS (cxOf CX0 P w K mg base NDu "_law_due" (defScope sDu) f cdv A outer s H E).nox (stDu 7) (tDuH K)) := by
  have nd := scDu.nd
  have hu := hr.units0
  have hu1 : (A.deeper (PyProof.Rows.envOfC "_law_due" (defScope sDu) s.heap.objs.size f cdv)).units + 1 < cLine := by have := hr.units; omega
  have hr2 : Room 2 _ := hr.mono (by decide)
  have hr1 : Room 1 _ := hr.mono (by decide)
  exact ⟨ps_lcG (iy := 6) (te := tSelE K) (g := gTup K 2 (gCons (gName 0) (gCons (gName 1) gNil))) rfl compDu2 (pi_enum rfl me (pa_cons (pv 1) pa_nil)) (fun s H C fp => by exact pg_tup rfl (pgs_cons (pg_name (i := 0) ndDu2 rfl (.inl rfl)) (pgs_cons (pg_name (i := 1) ndDu2 rfl (.inl rfl)) pgs_nil)))
      (fun s H C fp => by exact pe_ix ix_tup (pv 1) (pe_op op_sub pe_int (pe_op op_and (pe_op op_shr (pv 2) (pv 0)) pe_int)) (fun _ _ => rfl)) nd rfl (Or.inl rfl) rfl⟩
theorem du_8 {a1 a2 a3 : Addr} {d1 d2 d3 : FuncData} (hz : H sysModules = none) (A1 : Df P w K mg base CX0 3 "_law_row_due" ["_law_outcomes"] spRD a1 d1) (A2 : Df P w K mg base CX0 2 "_law_is_listing" ["_law_thing"] spIG a2 d2) (A3 : Df P w K mg base CX0 1 "_law_whole" ["_law_found"] spWh a3 d3)
    (ml : mg "len" = none) (mp : mg "repr" = none) (mt : mg "tuple" = none) (me : mg "enumerate" = none)
    (hr : Room 3 (A.deeper (PyProof.Rows.envOfC "_law_due" (defScope sDu) s.heap.objs.size f cdv))) : Bx (PS (cxOf CX0 P w K mg base NDu "_law_due" (defScope sDu) f cdv A outer s H E).nox (stDu 8) (tDuI K)) := by
  have nd := scDu.nd
  have hu := hr.units0
  have hu1 : (A.deeper (PyProof.Rows.envOfC "_law_due" (defScope sDu) s.heap.objs.size f cdv)).units + 1 < cLine := by have := hr.units; omega
  have hr2 : Room 2 _ := hr.mono (by decide)
  have hr1 : Room 1 _ := hr.mono (by decide)
  exact ⟨ps_ret (pe_lst (pa_cons pe_str (pa_cons (pe_callB (call_repr hz hr.gd hr.units) rfl mp PyProof.Rows.boot_repr (pa_cons (pe_cmpR (op_eqLL hu) (pv 6) (pe_lcG (te := tVar 0) (g := gTup K 2 (gCons (gName 0) (gCons (gName 1) gNil))) rfl compRD3 (pi_list (pv 2)) (fun s H C fp => by exact pg_tup rfl (pgs_cons (pg_name (i := 0) ndRD3 rfl (.inl rfl)) (pgs_cons (pg_name (i := 1) ndRD3 rfl (.inl rfl)) pgs_nil))) (fun s H C fp => by exact pv 0)) (nomark _)) pa_nil)) pa_nil)))⟩
theorem du_der {a1 a2 a3 : Addr} {d1 d2 d3 : FuncData} (hz : H sysModules = none) (A1 : Df P w K mg base CX0 3 "_law_row_due" ["_law_outcomes"] spRD a1 d1) (A2 : Df P w K mg base CX0 2 "_law_is_listing" ["_law_thing"] spIG a2 d2) (A3 : Df P w K mg base CX0 1 "_law_whole" ["_law_found"] spWh a3 d3)
    (ml : mg "len" = none) (mp : mg "repr" = none) (mt : mg "tuple" = none) (me : mg "enumerate" = none)
    (hr : Room 3 (A.deeper (PyProof.Rows.envOfC "_law_due" (defScope sDu) s.heap.objs.size f cdv))) : Bx (PSs (cxOf CX0 P w K mg base NDu "_law_due" (defScope sDu) f cdv A outer s H E).nox (defBody sDu) (tDu K)) := by
  exact (bxs_cons (du_0 hz A1 A2 A3 ml mp mt me hr) (bxs_cons (du_1 hz A1 A2 A3 ml mp mt me hr) (bxs_cons (du_2 hz A1 A2 A3 ml mp mt me hr) (bxs_cons (du_3 hz A1 A2 A3 ml mp mt me hr) (bxs_cons (du_4 hz A1 A2 A3 ml mp mt me hr) (bxs_cons (du_5 hz A1 A2 A3 ml mp mt me hr) (bxs_cons (du_6 hz A1 A2 A3 ml mp mt me hr) (bxs_cons (du_7 hz A1 A2 A3 ml mp mt me hr) (bxs_one (du_8 hz A1 A2 A3 ml mp mt me hr))))))))))
end
end My
set_option Elab.async false
set_option linter.all false
set_option maxRecDepth 100000
set_option maxHeartbeats 1000000
set_option exponentiation.threshold 5000
namespace My
open PySem PySem.W L2
theorem eqVs_ints : ∀ {xs ys : List Int}, eqVs (xs.map V.int) (ys.map V.int) = decide (xs = ys)
  | [], [] => rfl
  | [], y :: ys => rfl
  | x :: xs, [] => rfl
  | x :: xs, y :: ys => by
    show ((x == y) && eqVs (xs.map V.int) (ys.map V.int)) = _
    rw [eqVs_ints, Bool.eq_iff_iff, Bool.and_eq_true, beq_iff_eq, decide_eq_true_iff, decide_eq_true_iff, List.cons.injEq]
theorem flat_ints : ∀ {xs : List Int}, (xs.map V.int).all flatV = true
  | [] => rfl
  | x :: xs => by rw [List.map_cons, List.all_cons, flat_ints]; rfl
section
variable {P : Program} {w : World} {K : Frag} {mg : Str → Option Value} {base : Heap} {H : Hp} {D : Ends} {σ : St}
theorem rd_c2 {a b : V} {Q : VK} (q : ∀ l H', Ext H H' → H' l = some (.tup [a, b]) → Q (.ref l) H') : c2 a b σ H Q := ⟨by show 2 ≤ sizeLine; decide, fun l hl => q l _ (Ext.new hl) upd_same⟩
theorem rd_lst4 {ta tb tc td : TE} {Q : VK} {A B C E : List V} (ha : ∀ {H : Hp} {R : VK}, (∀ l H', Ext H H' → H' l = some (.tup A) → R (.ref l) H') → ta σ H R) (hb : ∀ {H : Hp} {R : VK}, (∀ l H', Ext H H' → H' l = some (.tup B) → R (.ref l) H') → tb σ H R)
    (hc : ∀ {H : Hp} {R : VK}, (∀ l H', Ext H H' → H' l = some (.tup C) → R (.ref l) H') → tc σ H R) (hd : ∀ {H : Hp} {R : VK}, (∀ l H', Ext H H' → H' l = some (.tup E) → R (.ref l) H') → td σ H R)
    (q : ∀ l l0 l1 l2 l3 H', Ext H H' → H' l = some (.lst [.ref l0, .ref l1, .ref l2, .ref l3]) → H' l0 = some (.tup A) → H' l1 = some (.tup B) → H' l2 = some (.tup C) → H' l3 = some (.tup E) → Q (.ref l) H') : tLst (tCons ta (tCons tb (tCons tc (tCons td tNil)))) σ H Q := by
  refine ha fun l0 H0 x0 f0 => hb fun l1 H1 x1 f1 => hc fun l2 H2 x2 f2 => hd fun l3 H3 x3 f3 => ?_
  refine ⟨by show 4 ≤ sizeLine; decide, fun l hl => ?_⟩
  have xl := Ext.new (o := .lst [.ref l0, .ref l1, .ref l2, .ref l3]) hl
  have x23 := x3.trans xl
  have x13 := x2.trans x23
  have x03 := x1.trans x13
  exact q l l0 l1 l2 l3 _ (x0.trans x03) upd_same (x03 _ _ f0) (x13 _ _ f1) (x23 _ _ f2) (xl _ _ f3)
theorem rd_kinds {Q : VK} (q : ∀ l l0 l1 l2 l3 H', Ext H H' → H' l = some (.lst [.ref l0, .ref l1, .ref l2, .ref l3]) → H' l0 = some (.tup [.int 1, .int 0]) → H' l1 = some (.tup [.int 0, .int 1]) → H' l2 = some (.tup [.int 1, .int 1]) → H' l3 = some (.tup [.int 0, .int 0]) → Q (.ref l) H') : tKinds σ H Q :=
  rd_lst4 rd_c2 rd_c2 rd_c2 rd_c2 q
theorem rd_cntG {tk : TE} {Q : VK} {a : Addr} {xs : List V} {ds : List PyData} {o : List (Option V)} {v0 : Option V} (hk : ∀ {R : VK}, (∀ l l0 l1 l2 l3 H', Ext H H' → H' l = some (.lst [.ref l0, .ref l1, .ref l2, .ref l3]) → H' l0 = some (.tup [.int 1, .int 0]) → H' l1 = some (.tup [.int 0, .int 1]) → H' l2 = some (.tup [.int 1, .int 1]) → H' l3 = some (.tup [.int 0, .int 0]) → R (.ref l) H') → tk (v0 :: some (.ref a) :: o) H R)
    (ha : H a = some (.lst xs)) (rs : RdsAll H xs ds) (al : ds.all lstdD = true) (q : ∀ l H', Ext H H' → H' l = some (.lst (four ds)) → Q (.ref l) H') :
    tLCG (iList K tk) 1 [1] (gName 0) (tBM K "list" (rCountT K) (tVar 1) (tCons (tVar 0) tNil)) (v0 :: some (.ref a) :: o) H Q := by
  refine hk fun l l0 l1 l2 l3 H1 x1 hl h0 h1 h2 h3 => ⟨l, rfl, ⟨_, SqL.of hl⟩, fun D hD => ?_⟩
  obtain ⟨as, w⟩ := rws_of rs al
  refine lcG_list (a := l) (xs := [.ref l0, .ref l1, .ref l2, .ref l3]) (fun i ys H' => Ext H1 H' ∧ ys = (four ds).take i) (by show 4 < sizeLine; decide) ⟨Ext.new hD, rfl⟩ (fun i ys H' p => SqL.of (p.1 _ _ hl)) ?_ ?_
  · rintro i x ys H' ex ly hD' ⟨x', rfl⟩ os los R k
    obtain ⟨p0, rfl⟩ : ∃ p0, os = [p0] := by
      match os, los with
      | [p0], _ => exact ⟨p0, rfl⟩
    have x01 := x1.trans x'
    have step : ∀ (q : Addr) (u v : Int), x = .ref q → H' q = some (.tup [.int u, .int v]) → (four ds).take (i + 1) = (four ds).take i ++ [V.int (cnt u v ds : Nat)] →
        gName 0 x ([p0] ++ capS [1] (v0 :: some (.ref a) :: o)) H' fun σ2 H0 => (∃ os' : St, os'.length = 1 ∧ σ2 = os' ++ capS [1] (v0 :: some (.ref a) :: o)) ∧ tBM K "list" (rCountT K) (tVar 1) (tCons (tVar 0) tNil) σ2 H0 R := fun q u v eq hq e => by
      subst eq
      refine ⟨⟨[some (.ref q)], rfl, rfl⟩, _, rfl, .inl ⟨rfl, _, SqL.of (x01 _ _ ha)⟩, _, rfl, ?_⟩
      refine rd_count (w.ext x01) (SqL.of (x01 _ _ ha)) (SqT.of hq) ?_
      exact k _ H' hD' ⟨ext_upd _ x' hD, e.symm⟩
    match i, ex with
    | 0, ex => cases ex; exact step l0 1 0 rfl (x' _ _ h0) rfl
    | 1, ex => cases ex; exact step l1 0 1 rfl (x' _ _ h1) rfl
    | 2, ex => cases ex; exact step l2 1 1 rfl (x' _ _ h2) rfl
    | 3, ex => cases ex; exact step l3 0 0 rfl (x' _ _ h3) rfl
  · rintro ys H' ly hD' ⟨x', rfl⟩
    exact q D H' (x1.trans x') hD'
theorem rd_ycI {Q : VK} {a : Addr} {xs : List V} {ns : List Int} (i : Nat) (h0 : σ[i]? = some (some (.ref a))) (ha : H a = some (.lst xs)) (rs : RdsAll H xs (ns.map y1)) (len : ns.length ≤ 20) (q : ∀ l H', Ext H H' → H l = none → H' l = some (.lst (ns.map V.int)) → Q (.ref l) H') :
    tNums K i σ H Q := by
  have lx := rs.length
  rw [List.length_map] at lx
  refine ⟨_, h0, a, rfl, ⟨_, SqL.of ha⟩, fun D hD => ?_⟩
  refine lcG_list (a := a) (xs := xs) (fun i ys H' => Ext H H' ∧ ys = (ns.take i).map V.int) (by rw [lx]; exact Nat.lt_of_le_of_lt len (by decide)) ⟨Ext.new hD, rfl⟩ (fun i ys H' p => SqL.of (p.1 _ _ ha)) ?_ ?_
  · rintro i x ys H' ex ly hD' ⟨x', rfl⟩ os los R k
    obtain ⟨d, ed, rv⟩ := rs.get ex
    rw [List.getElem?_map] at ed
    obtain ⟨n, en, rfl⟩ := Option.map_eq_some_iff.mp ed
    obtain ⟨t, us, rfl, ht, rt⟩ := rds_tup (rv.mono x')
    cases rt with
    | cons r1 rt =>
      cases rt with
      | cons r2 rt =>
        cases rt
        have e1 := rds_int r1
        have e2 := rds_bool r2
        subst e1 e2
        obtain ⟨p0, p1, rfl⟩ : ∃ p0 p1, os = [p0, p1] := by
          match os, los with
          | [p0, p1], _ => exact ⟨p0, p1, rfl⟩
        refine ⟨t, _, rfl, SqT.of ht, rfl, _, _, rfl, _, _, rfl, rfl, ⟨[some (.int n), some (.bl true)], rfl, rfl⟩, _, rfl, k _ H' hD' ⟨ext_upd _ x' hD, ?_⟩⟩
        rw [take_all en, List.map_append]
        rfl
  · rintro ys H' ly hD' ⟨x', rfl⟩
    rw [lx, List.take_length] at hD'
    exact q D H' x' hD hD'
theorem rd_came {Q : VK} {a : Addr} {x : Int} {xs : List V} {ds : List PyData} {as : List (Addr × Int × Int)} (h1 : σ[1]? = some (some (.ref a))) (h3 : capS [3] σ = [some (.int x)]) (ha : H a = some (.lst xs)) (w : Rws H xs ds as) (l20 : as.length ≤ 20) (q : ∀ l H', Ext H H' → H' l = some (.lst ((came (as.map (·.2)) x).map V.int)) → Q (.ref l) H') :
    tCame K σ H Q := by
  have lx : xs.length = as.length := by rw [w.xs_, List.length_map]
  refine ⟨_, h1, a, rfl, ⟨_, SqL.of ha⟩, fun D hD => ?_⟩
  rw [h3]
  refine lcG_enum (a := a) (xs := xs) (fun i ys H' => Ext H H' ∧ ys = ((came (as.map (·.2)) x).take i).map V.int) (by rw [lx]; exact Nat.lt_of_le_of_lt l20 (by decide)) ⟨Ext.new hD, rfl⟩ (fun i ys H' p => SqL.of (p.1 _ _ ha)) ?_ ?_
  · rintro i v ys H' p ev ly hD' ⟨x', rfl⟩ hp os los R k
    obtain ⟨p0, p1, rfl⟩ : ∃ p0 p1, os = [p0, p1] := by
      match os, los with
      | [p0, p1], _ => exact ⟨p0, p1, rfl⟩
    have li : i < as.length := by have := (List.getElem?_eq_some_iff.mp ev).1; omega
    have ea := List.getElem?_eq_getElem li
    have er : v = .ref as[i].1 := by
      rw [w.xs_, List.getElem?_map, ea] at ev
      cases ev
      rfl
    subst er
    have xk := Ext.new (o := .tup [.int (i : Nat), .ref as[i].1]) hp
    have xx := x'.trans xk
    have hz := xx _ _ (w.at_ _ (List.getElem_mem li))
    have at1 : atI [V.int as[i].2.1, V.int as[i].2.2] (1 - Builtin.bitAnd (x / 2 ^ ((i : Nat) : Int).toNat) 1) = some (.int (sel as[i].2 (bitAt x i))) := by
      rw [PyProof.Rows.bitAnd_m1]
      exact sel_at
    refine ⟨p, _, rfl, SqT.of upd_same, rfl, _, _, rfl, _, _, rfl, rfl, ⟨[some (.int (i : Nat)), some (.ref as[i].1)], rfl, rfl⟩, _, rfl, _, rfl, _, rfl, x, i, rfl, rfl, by omega, _, _, rfl, rfl, _, _, rfl, rfl, as[i].1, _, _, _, rfl, rfl, SqT.of hz, at1, ?_⟩
    have hD4 := xk _ _ hD'
    refine k _ _ hD4 ⟨ext_upd _ xx hD, ?_⟩
    have e1 : (came (as.map (·.2)) x)[i]? = some (sel as[i].2 (bitAt x i)) := came_get (by rw [List.getElem?_map, ea]; rfl)
    rw [take_all e1, List.map_append]
    rfl
  · rintro ys H' ly hD' ⟨x', rfl⟩
    rw [lx, show as.length = (came (as.map (·.2)) x).length by rw [came_len, List.length_map], List.take_length] at hD'
    exact q D H' x' hD'
end
end My
set_option Elab.async false
set_option linter.all false
set_option maxRecDepth 100000
set_option maxHeartbeats 1000000
set_option exponentiation.threshold 5000
namespace My
open PySem PySem.W L2
structure Fi (k n : Nat) (d : PyData) : Prop where
  sh : d.showable = true
  dp : d.depth ≤ k
  lv : d.leavesShort 64 = true
  bk : d.bulk ≤ n
structure Fis (k n : Nat) (ds : List PyData) : Prop where
  sh : PyData.showableAll ds = true
  dp : PyData.depthAll ds ≤ k
  lv : PyData.leavesShortAll 64 ds = true
  bk : PyData.bulkAll ds ≤ (n + 1) * ds.length
theorem Fi.mono {k k' n n' : Nat} {d : PyData} (f : Fi k n d) (h1 : k ≤ k') (h2 : n ≤ n') : Fi k' n' d := ⟨f.sh, Nat.le_trans f.dp h1, f.lv, Nat.le_trans f.bk h2⟩
theorem Fis.of {k n : Nat} : ∀ {ds : List PyData}, (∀ d ∈ ds, Fi k n d) → Fis k n ds
  | [], _ => ⟨by simp [PyData.showableAll], by simp [PyData.depthAll], by simp [PyData.leavesShortAll], by simp [PyData.bulkAll]⟩
  | d :: ds, h => by
    have f := h d (List.mem_cons_self ..)
    have g := Fis.of (ds := ds) fun x hx => h x (List.mem_cons_of_mem _ hx)
    refine ⟨?_, ?_, ?_, ?_⟩
    · simp only [PyData.showableAll, f.sh, g.sh, Bool.and_self]
    · have h1 := f.dp; have h2 := g.dp
      simp only [PyData.depthAll]; omega
    · simp only [PyData.leavesShortAll, f.lv, g.lv, Bool.and_self]
    · have h1 := f.bk; have h2 := g.bk
      simp only [PyData.bulkAll, List.length_cons, Nat.mul_add]; omega
theorem fi_list {k n m : Nat} {ds : List PyData} (h : ∀ d ∈ ds, Fi k n d) (hl : ds.length ≤ m) : Fi (k + 1) ((n + 1) * m + 1) (.list ds) := by
  have f := Fis.of h
  refine ⟨by simp only [PyData.showable, f.sh], ?_, by simp only [PyData.leavesShort, f.lv], ?_⟩
  · have := f.dp
    simp only [PyData.depth]; omega
  · have := f.bk
    have h2 := Nat.mul_le_mul_left (n + 1) hl
    simp only [PyData.bulk]; omega
theorem fi_tuple {k n m : Nat} {ds : List PyData} (h : ∀ d ∈ ds, Fi k n d) (hl : ds.length ≤ m) : Fi (k + 1) ((n + 1) * m + 1) (.tuple ds) := by
  have f := Fis.of h
  refine ⟨by simp only [PyData.showable, f.sh], ?_, by simp only [PyData.leavesShort, f.lv], ?_⟩
  · have := f.dp
    simp only [PyData.depth]; omega
  · have := f.bk
    have h2 := Nat.mul_le_mul_left (n + 1) hl
    simp only [PyData.bulk]; omega
theorem Fi.show {k n : Nat} {d : PyData} (f : Fi k n d) (hk : k ≤ 10) (hn : n ≤ 200000) : Show d := by
  refine ⟨f.sh, Nat.le_trans f.dp hk, ?_⟩
  have e := PyData.shown_le_bulk 64 (by decide) d f.lv
  have e2 : (64 + 2) * d.bulk ≤ 66 * 200000 := Nat.mul_le_mul_left _ (Nat.le_trans f.bk hn)
  rw [sizeLine_eq]
  omega
theorem fi_int {i : Int} (h : i.natAbs < 10 ^ 30) : Fi 0 2 (.int i) := by
  refine ⟨?_, by simp [PyData.depth], ?_, by simp [PyData.bulk]⟩
  · simp only [PyData.showable, decide_eq_true_eq]
    by_cases z : i.natAbs = 0
    · rw [z]; decide
    · exact (Nat.log2_lt z).mpr (Nat.lt_trans h (by decide +kernel))
  · have e := int_text_length_le10 (k := 30) (by decide) h
    simp only [PyData.leavesShort, PyData.shown]
    refine decide_eq_true (show (Str.ofString (toString i)).length ≤ 64 from ?_)
    rw [ofString_length]
    omega
theorem fi_none : Fi 0 2 .none := ⟨rfl, by simp [PyData.depth], rfl, by simp [PyData.bulk]⟩
theorem fi_bool {b : Bool} : Fi 0 2 (.bool b) := by cases b <;> exact ⟨rfl, by simp [PyData.depth], rfl, by simp [PyData.bulk]⟩
theorem fi_small {i : Int} (h1 : -1000000000 ≤ i) (h2 : i ≤ 1000000000) : Fi 0 2 (.int i) := fi_int (Nat.lt_of_le_of_lt (show i.natAbs ≤ 1000000000 by omega) (by decide))
theorem showAll_bits {ns : List Int} (h : ∀ n ∈ ns, 0 ≤ n ∧ n ≤ 1) (l20 : ns.length ≤ 20) : Show (.list (ns.map PyData.int)) := by
  refine (fi_list (k := 0) (n := 2) (m := 20) (fun d hd => ?_) (by rw [List.length_map]; exact l20)).show (by decide) (by decide)
  obtain ⟨n, hn, rfl⟩ := List.mem_map.mp hd
  have := h n hn
  exact fi_small (by omega) (by omega)
theorem show_four {ds : List PyData} (l20 : ds.length ≤ 20) : Show (fourD ds) := by
  have c : ∀ a b, Fi 0 2 (.int (cnt a b ds : Nat)) := fun a b => by
    have := List.countP_le_length (p := isPair a b) (l := ds)
    have e : cnt a b ds ≤ 20 := Nat.le_trans this l20
    exact fi_small (by omega) (by omega)
  unfold fourD
  refine Fi.show (k := 1) (n := 13) (fi_tuple (k := 0) (n := 2) (m := 4) (fun d hd => ?_) (Nat.le_refl 4)) (by decide) (by decide)
  simp only [List.mem_cons, List.not_mem_nil, or_false] at hd
  rcases hd with rfl | rfl | rfl | rfl <;> exact c _ _
theorem show_bool {b : Bool} : Show (.bool b) := fi_bool.show (by decide) (by decide)
theorem first_of {p : PyData → Bool} : ∀ {ds : List PyData}, ds.all p = false → ∃ i, First p ds i
  | [], h => by cases h
  | d :: ds, h => by
    cases e : p d with
    | false => exact ⟨0, fun j d' hj => absurd hj (Nat.not_lt_zero _), d, rfl, e⟩
    | true =>
      rw [List.all_cons, e, Bool.true_and] at h
      obtain ⟨i, f, d', e1, e2⟩ := first_of h
      refine ⟨i + 1, fun j x hj hx => ?_, d', e1, e2⟩
      cases j with
      | zero => cases hx; exact e
      | succ j => exact f j x (by omega) hx
theorem yes_list : ∀ {ds : List PyData}, ds.all yesD = true → ∃ ns : List Int, ds = ns.map y1 ∧ ∀ n ∈ ns, 0 ≤ n ∧ n ≤ 1
  | [], _ => ⟨[], rfl, fun _ h => nomatch h⟩
  | d :: ds, h => by
    rw [List.all_cons, Bool.and_eq_true] at h
    obtain ⟨ns, e, b⟩ := yes_list h.2
    have h1 := h.1
    obtain ⟨n, rfl, hn⟩ : ∃ n, d = y1 n ∧ (0 ≤ n ∧ n ≤ 1) := by
      match d, h1 with
      | .tuple [a, .bool true], h1 =>
        obtain ⟨i, rfl, hi⟩ := inD_int h1
        exact ⟨i, rfl, hi⟩
    exact ⟨n :: ns, by rw [e]; rfl, fun m hm => by
      rcases List.mem_cons.mp hm with rfl | hm
      · exact hn
      · exact b m hm⟩
theorem row_total (d : PyData) : ∃ r, RowIs d r := by
  cases e : lisB d with
  | false => exact ⟨_, .nl e⟩
  | true =>
    obtain ⟨ds, rfl⟩ : ∃ ds, d = .list ds := by cases d <;> first | exact ⟨_, rfl⟩ | cases e
    cases a : ds.all outD with
    | false => obtain ⟨i, f⟩ := first_of a; exact ⟨_, .out f⟩
    | true =>
      by_cases l : 1 ≤ ds.length ∧ ds.length ≤ 20
      · cases y : ds.all yesD with
        | false => obtain ⟨i, f⟩ := first_of y; exact ⟨_, .yes a l.1 l.2 f⟩
        | true =>
          obtain ⟨ns, rfl, b⟩ := yes_list y
          rw [List.length_map] at l
          exact ⟨_, .told l.1 l.2 b⟩
      · exact ⟨_, .size a l⟩
theorem pair_list : ∀ {ds : List PyData}, ds.all lstdD = true → ∃ ps : List (Int × Int), ds = ps.map pairT
  | [], _ => ⟨[], rfl⟩
  | d :: ds, h => by
    rw [List.all_cons, Bool.and_eq_true] at h
    obtain ⟨ps, e⟩ := pair_list h.2
    obtain ⟨x, y, rfl, _, _⟩ := lstd_two h.1
    exact ⟨(x, y) :: ps, by rw [e]; rfl⟩
theorem ft_total (d1 d2 d3 : PyData) : ∃ r, FtIs d1 d2 d3 r := by
  cases lg : lgD d1 with
  | false => exact ⟨_, .lg lg⟩
  | true =>
    obtain ⟨r, ri⟩ := row_total d2
    cases nt : isTold r with
    | false => exact ⟨_, .row lg ri nt⟩
    | true =>
      obtain ⟨ns, rfl⟩ : ∃ ns, r = .told ns := by cases r <;> first | exact ⟨_, rfl⟩ | cases nt
      cases dn : inD 0 (2 ^ ns.length - 1) d3 with
      | false => exact ⟨_, .deal lg ri dn⟩
      | true =>
        obtain ⟨ds, rfl, l1, l20, al⟩ := lg_list lg
        by_cases le : ds.length = ns.length
        · obtain ⟨ps, rfl⟩ := pair_list al
          obtain ⟨x, rfl, _, _⟩ := inD_int dn
          rw [List.length_map] at le
          exact ⟨_, .told lg ri dn le⟩
        · exact ⟨_, .len lg ri dn le⟩
theorem row_show {d : PyData} {r : Rw} (h : RowIs d r) (s : Show d) (sm : Small d) : Show (rowD d r).2 := by
  have fi : ∀ {p : PyData → Bool} {ds : List PyData} {i : Nat}, Small (.list ds) → First p ds i → Show (.int (i : Nat)) := fun {p ds i} sm f => by
    obtain ⟨_, d', e, _⟩ := f
    have := (List.getElem?_eq_some_iff.mp e).1
    have := sm ds rfl
    exact show_nat (by omega)
  cases h with
  | nl _ => exact s
  | out f => exact fi sm f
  | size _ _ => exact s
  | yes _ _ _ f => exact fi sm f
  | told _ l20 b => exact showAll_bits b l20
theorem ct_show {d : PyData} (s : Show d) : Show (ctD d).2 := by
  cases lg : lgD d with
  | false =>
    have ez : ctD d = (("listing" : Str), d) := by
      cases d <;> first | rfl | (simp [ctD, lg])
    rw [ez]
    exact s
  | true =>
    obtain ⟨ds, rfl, l1, l20, al⟩ := lg_list lg
    have ez : ctD (.list ds) = (("told" : Str), fourD ds) := by simp [ctD, lg]
    rw [ez]
    exact show_four l20
theorem ft_show {d1 d2 d3 : PyData} {r : Ft} (h : FtIs d1 d2 d3 r) (s1 : Show d1) (s2 : Show d2) (s3 : Show d3) (m2 : Small d2) : Show (ftD d1 d2 d3 r).2 := by
  cases h with
  | lg _ => exact s1
  | row _ ri _ => exact row_show ri s2 m2
  | deal _ _ _ => exact s3
  | len _ _ _ _ => exact s1
  | told _ _ _ _ => exact show_bool
theorem ask_total {j : Nat} (hj : j < 3) {d1 d2 d3 : PyData} (s1 : Show d1) (s2 : Show d2) (s3 : Show d3) (m2 : Small d2) : ∃ z, AskIs j d1 d2 d3 z ∧ Show z.2 := by
  match j, hj with
  | 0, _ => obtain ⟨r, h⟩ := row_total d2; exact ⟨_, .inl ⟨rfl, r, h, rfl⟩, row_show h s2 m2⟩
  | 1, _ => exact ⟨_, .inr (.inl ⟨rfl, rfl⟩), ct_show s1⟩
  | 2, _ => obtain ⟨r, h⟩ := ft_total d1 d2 d3; exact ⟨_, .inr (.inr ⟨rfl, r, h, rfl⟩), ft_show h s1 s2 s3 m2⟩
end My
set_option Elab.async false
set_option linter.all false
set_option maxRecDepth 100000
set_option maxHeartbeats 1000000
set_option exponentiation.threshold 5000
namespace My
open PySem PySem.W L2
section
variable {P : Program} {w : World} {K : Frag} {mg : Str → Option Value} {base : Heap} {H : Hp} {D : Ends} {σ : St}
theorem rd_set {te : TE} {i : Nat} {u : TS} (h : te σ H fun v H1 => u D (σ.set i (some v)) H1) : tSeq (tAsg te (gName i)) u D σ H := h
theorem rd_leLt {σ : St} {H : Hp} {Q : Bool → Hp → Prop} {a b c : TE} {i j k : Int} (ha : ∀ R : VK, R (.int i) H → a σ H R) (hb : ∀ R : VK, R (.int j) H → b σ H R) (hc : ∀ R : VK, R (.int k) H → c σ H R) (q : Q (decide (i ≤ j) && decide (j < k)) H) : tTest (leLt a b c) σ H Q := by
  refine ha _ (hb _ ⟨_, _, rfl, rfl, _, rfl, ?_⟩)
  refine ite2 (fun e => ?_) (fun e => ?_)
  · have e' : i ≤ j := of_decide_eq_true e
    rw [decide_eq_true e', Bool.true_and] at q
    exact hc _ ⟨_, _, rfl, rfl, _, rfl, q⟩
  · have e' : ¬ i ≤ j := fun z => e (decide_eq_true z)
    rw [decide_eq_false e', Bool.false_and] at q
    exact ⟨_, rfl, q⟩
theorem rd_duF {n : Nat} {v0 o1 o4 o5 o6 : Option V} {b : Addr} {ys : List V} {v3 : V} {e3 : PyData} (hb : H b = some (.lst ys)) (lb : ys.length = n) (n20 : n ≤ 20) (r3 : Rds H v3 e3) (bad : inD 0 (2 ^ n - 1) e3 = false → Show e3 ∧ ∀ l H', Ext H H' → Two H' l "dealing" e3 → D.rt (.ref l) H')
    (good : inD 0 (2 ^ n - 1) e3 = true → D.nx [v0, o1, some (.ref b), some v3, o4, o5, o6] H) : tDuF K D [v0, o1, some (.ref b), some v3, o4, o5, o6] H := by
  refine ⟨_, rfl, v3, e3, rfl, r3, _, rfl, ?_⟩
  have no : inD 0 (2 ^ n - 1) e3 = false → tWord "dealing" (tVar 3) [v0, o1, some (.ref b), some v3, o4, o5, o6] H D.rt := fun h => rd_word (fun R r => ⟨_, rfl, r _ H (Ext.refl _) r3⟩) (bad h).1 (bad h).2
  cases r3 with
  | int i =>
    refine itF ?_
    refine rd_leLt (i := 0) (j := i) (k := 1 * 2 ^ ((ys.length : Nat) : Int).toNat) (fun R r => r) (fun R r => ⟨_, rfl, r⟩) (fun R r => ⟨_, rfl, b, ys, rfl, .inl (SqL.of hb), 1, (ys.length : Nat), rfl, rfl, ⟨by omega, by omega, by decide⟩, r⟩) ?_
    have e : (decide ((0 : Int) ≤ i) && decide (i < 1 * 2 ^ ((ys.length : Nat) : Int).toNat)) = inD 0 (2 ^ n - 1) (.int i) := by
      show _ = (decide ((0 : Int) ≤ i) && decide (i ≤ 2 ^ n - 1))
      rw [Int.toNat_natCast, lb, Int.one_mul]
      congr 1
      rw [Bool.eq_iff_iff, decide_eq_true_iff, decide_eq_true_iff]
      omega
    rw [e]
    cases e2 : inD 0 (2 ^ n - 1) (.int i) with
    | false => exact itT (no e2)
    | true => exact itF (good e2)
  | _ => exact itT (itT (no rfl))
theorem tellD {d2 : PyData} {r : Rw} (h : isTold r = false) : ((rowD d2 r).1 = "told") = False := by
  cases r <;> first | (cases h; done) | (simp [rowD]; decide)
theorem ok_due {f a1 a2 a3 : Addr} {fd d1 d2 d3 : FuncData} (F : Fun K "_law_due" "_law_due" sDu f fd) (A1 : Df P w K mg base CX0 3 "_law_row_due" ["_law_outcomes"] spRD a1 d1) (A2 : Df P w K mg base CX0 2 "_law_is_listing" ["_law_thing"] spIG a2 d2) (A3 : Df P w K mg base CX0 1 "_law_whole" ["_law_found"] spWh a3 d3)
    (ml : mg "len" = none) (mp : mg "repr" = none) (mt : mg "tuple" = none) (me : mg "enumerate" = none) : FnOk P w K mg base CX0 4 f fd ["_law_door", "_law_listing", "_law_outcomes", "_law_dealing"] spDu := by
  refine F.ok scDu (fun vs H Q E h => ?_) (fun cdv A outer s H vs Q E hr h => ?_)
  · obtain ⟨j, v1, v2, v3, d1, d2, d3, z, rfl, _⟩ := h
    rfl
  obtain ⟨j, v1, v2, v3, e1, e2, e3, z, rfl, hz, r1, r2, r3, s1, s2, ask, sw, q⟩ := h
  obtain ⟨der⟩ := du_der hz A1 A2 A3 ml mp mt me hr (f := f) (cdv := cdv) (A := A) (outer := outer) (s := s) (H := H) (E := E) (P := P) (w := w) (base := base)
  refine ⟨_, der, ?_⟩
  rcases ask with ⟨rfl, r, ri, rfl⟩ | ⟨rfl, rfl⟩ | ⟨rfl, r, fi, rfl⟩
  · refine ⟨_, rfl, rfl, _, rfl, itT ⟨_, rfl, fun _ => ⟨v2, e2, r, rfl, hz, r2, s2, ri, sw, q⟩⟩⟩
  · refine ⟨_, rfl, rfl, _, rfl, itF ⟨_, rfl, v1, e1, rfl, r1, s1, fun H1 x1 => ⟨_, rfl, ?_⟩⟩⟩
    cases lg : lgD e1 with
    | false =>
      refine itT ?_
      have ez : ctD e1 = (("listing" : Str), e1) := by
        cases e1 <;> first | rfl | (simp [ctD, lg])
      rw [ez] at q sw
      exact rd_word (fun R r => ⟨_, rfl, r _ H1 (Ext.refl _) (r1.mono x1)⟩) sw fun l H' x' t => q l H' (x1.trans x') t
    | true =>
      refine itF ?_
      obtain ⟨ds, rfl, l1, l20, al⟩ := lg_list lg
      obtain ⟨a, xs, rfl, ha, rs⟩ := rds_lst (r1.mono x1)
      have ez : ctD (.list ds) = (("told" : Str), fourD ds) := by simp [ctD, lg]
      rw [ez] at q sw
      refine ⟨_, rfl, rfl, _, rfl, itT ?_⟩
      refine rd_set ?_
      refine rd_cntG (v0 := some (.int (1 : Nat))) (o := [some v2, some v3, none, none, none]) rd_kinds ha rs al fun l H2 x2 hl => ?_
      refine rd_word (d := fourD ds) (fun R r => ⟨_, rfl, l, _, rfl, .inl ⟨SqL.of hl, fun t ht => r _ _ (Ext.new ht) (.tup upd_same ?_)⟩⟩) sw fun l' H3 x3 t => q l' H3 ((x1.trans x2).trans x3) t
      exact .cons (.int _) (.cons (.int _) (.cons (.int _) (.cons (.int _) .nil)))
  · refine ⟨_, rfl, rfl, _, rfl, itF ⟨_, rfl, v1, e1, rfl, r1, s1, fun H1 x1 => ⟨_, rfl, ?_⟩⟩⟩
    cases lg : lgD e1 with
    | false =>
      refine itT ?_
      cases fi with
      | lg h => exact rd_word (fun R r => ⟨_, rfl, r _ H1 (Ext.refl _) (r1.mono x1)⟩) sw fun l H' x' t => q l H' (x1.trans x') t
      | row h _ _ => rw [h] at lg; cases lg
      | deal h _ _ => rw [h] at lg; cases lg
      | len h _ _ _ => rw [h] at lg; cases lg
      | told h _ _ _ => rw [h] at lg; cases lg
    | true =>
      refine itF ?_
      refine ⟨_, rfl, rfl, _, rfl, itF ?_⟩
      have row : ∃ r', RowIs e2 r' ∧ (isTold r' = false → r = .row r') ∧ ∀ ns, r' = .told ns → (inD 0 (2 ^ ns.length - 1) e3 = false → r = .dealing) ∧ (inD 0 (2 ^ ns.length - 1) e3 = true → ∀ ds, e1 = .list ds → (ds.length ≠ ns.length → r = .listing) ∧ (ds.length = ns.length → ∃ ps x, e1 = .list (ps.map pairT) ∧ e3 = .int x ∧ r = .told (decide (came ps x = ns)))) := by
        cases fi with
        | lg h => rw [h] at lg; cases lg
        | row _ ri nt => exact ⟨_, ri, fun _ => rfl, fun ns e => by subst e; cases nt⟩
        | @deal _ _ _ ns0 _ ri dn => exact ⟨_, ri, fun z => (by cases z), fun ns e => by cases e; exact ⟨fun _ => rfl, fun z => by rw [dn] at z; cases z⟩⟩
        | @len _ _ _ ns0 _ ri dn ne => exact ⟨_, ri, fun z => (by cases z), fun ns e => by cases e; exact ⟨fun z => (by rw [dn] at z; cases z), fun _ ds e => by cases e; exact ⟨fun _ => rfl, fun z => absurd z ne⟩⟩⟩
        | @told ps _ x ns0 _ ri dn le => exact ⟨_, ri, fun z => (by cases z), fun ns e => by cases e; exact ⟨fun z => (by rw [dn] at z; cases z), fun _ ds e => by cases e; exact ⟨fun z => absurd (by rw [List.length_map]; exact le) z, fun _ => ⟨ps, x, rfl, rfl, rfl⟩⟩⟩⟩
      obtain ⟨r', ri, hrow, htold⟩ := row
      have swr : Show (rowD e2 r').2 := by
        cases nt : isTold r' with
        | false =>
          have er := hrow nt
          subst er
          exact sw
        | true =>
          cases r' with
          | told ns => cases ri with | told _ l20 bits => exact showAll_bits bits l20
          | _ => cases nt
      refine ⟨_, rfl, fun hz1 => ⟨v2, e2, r', rfl, hz1, r2.mono x1, s2, ri, swr, fun l H2 x2 t => ?_⟩⟩
      have x12 := x1.trans x2
      refine ⟨_, rfl, l, _, _, _, rfl, rfl, SqL.of t, atI_nat (j := 0) rfl, rfl, _, rfl, ?_⟩
      cases nt : isTold r' with
      | false =>
        have er := hrow nt
        subst er
        have en : (!decide (V.str (rowD e2 r').1 = V.str "told")) = true := by
          rw [decide_eq_false]
          · rfl
          · intro z
            injection z with z
            rw [tellD nt] at z
            exact z
        rw [en]
        exact itT ⟨_, rfl, q l H2 x12 t⟩
      | true =>
        cases r' with
        | told ns =>
          refine itF ?_
          obtain ⟨hdeal, hlen⟩ := htold ns rfl
          obtain ⟨n1, n20⟩ := told_len ri
          cases ri with
          | told _ _ bits =>
          obtain ⟨b, ys, rfl, hb, rb⟩ := rds_lst (r2.mono x12)
          have lb := rb.length
          rw [List.length_map] at lb
          obtain ⟨ds, rfl, l1, l20, al⟩ := lg_list lg
          obtain ⟨a, xs, rfl, ha, rs⟩ := rds_lst (r1.mono x12)
          have la := rs.length
          have r3' := r3.mono x12
          refine rd_duF (D := ⟨_, Q, _, _⟩) hb lb n20 r3' (fun dn => ?_) (fun dn => ?_)
          · have er := hdeal dn
            subst er
            exact ⟨sw, fun l' H3 x3 t => q l' H3 (x12.trans x3) t⟩
          obtain ⟨hne, heq⟩ := hlen dn ds rfl
          refine ⟨_, rfl, a, _, rfl, .inl (SqL.of ha), _, rfl, b, _, rfl, .inl (SqL.of hb), rfl, _, rfl, ?_⟩
          rw [la, lb]
          by_cases le : ds.length = ns.length
          rotate_left
          · have er := hne le
            subst er
            have e4 : (!decide (V.int (ds.length : Nat) = V.int (ns.length : Nat))) = true := by
              rw [decide_eq_false]
              · rfl
              · intro z
                injection z with z
                omega
            rw [e4]
            exact itT (rd_word (fun R r => ⟨_, rfl, r _ H2 (Ext.refl _) (r1.mono x12)⟩) sw fun l' H3 x3 t => q l' H3 (x12.trans x3) t)
          have e4 : (!decide (V.int (ds.length : Nat) = V.int (ns.length : Nat))) = false := by
            rw [le, decide_eq_true rfl]
            rfl
          rw [e4]
          refine itF ?_
          obtain ⟨ps, x, ep, rfl, rfl⟩ := heq le
          have ev : v3 = .int x := rds_int r3
          subst ev
          obtain ⟨as, w⟩ := rws_of rs al
          have ea : as.map (·.2) = ps := by
            have e5 : as.map (fun z => PyData.tuple [.int z.2.1, .int z.2.2]) = ps.map pairT := by
              rw [← w.ds_]
              exact PyData.list.inj ep
            refine List.ext_getElem? fun k => ?_
            have := congrArg (fun z => z[k]?) e5
            simp only [List.getElem?_map] at this ⊢
            cases h1 : as[k]? with
            | none => rw [h1] at this; cases h2 : ps[k]? with
              | none => rfl
              | some p => rw [h2] at this; cases this
            | some p => rw [h1] at this; cases h2 : ps[k]? with
              | none => rw [h2] at this; cases this
              | some p2 =>
                rw [h2] at this
                simp [pairT] at this
                simp
                exact Prod.ext this.1 this.2
          have lw : as.length = ds.length := by rw [w.ds_, List.length_map]
          refine rd_set (te := tCame K) (i := 6) (u := tDuI K) (D := ⟨_, Q, _, _⟩) ?_
          refine rd_came (σ := [some (.int (2 : Nat)), some (.ref a), some (.ref b), some (.int x), none, some (.ref l), none]) (x := x) rfl rfl ha w (by omega) fun c H3 x3 hc => ?_
          rw [ea] at hc
          refine rd_word (σ := [some (.int (2 : Nat)), some (.ref a), some (.ref b), some (.int x), none, some (.ref l), some (.ref c)]) (d := .bool (decide (came ps x = ns))) (fun R r => ⟨_, rfl, rd_ycI 2 rfl (x3 _ _ hb) (RdsAll.mono x3 rb) n20 fun m H4 x4 hm0 hm => ⟨c, m, _, _, rfl, rfl, SqL.of (x4 _ _ hc), SqL.of hm, ?_, flat_ints, flat_ints, ?_⟩⟩) sw fun l' H4 x4 t => q l' H4 ((x12.trans x3).trans x4) t
          · rw [List.length_map, List.length_map, came_len, ← ea, List.length_map]; omega
          · rw [eqVs_ints]
            exact r _ H4 x4 (.bl _)
        | _ => cases nt
end
end My
set_option Elab.async false
set_option linter.all false
set_option maxRecDepth 100000
set_option maxHeartbeats 1000000
set_option exponentiation.threshold 5000
namespace My
open PySem PySem.W L2
section
variable {X : Cx} {σ : St} {e : Expr} {es : List Expr} {t : TA} {p pos : Pos} {x : Str} {r : List V → Hp → VK → Prop}
theorem px_callB {id : String} (hc : CallR X (.builtin id) r) (hg : Gl X x) (hm : X.mg x = none) (hv : bootBuiltins x = some (.builtin id)) (ha : PXA X σ (e :: es) t) (hn : x ≠ "__name__" := by decide) (hdb : (x == ("__debug__" : Str)) = false := by decide)
    (he : starEach (e :: es) X.env = (false, eval e X.env) :: starEach es X.env := by rfl) (hpl : (backTo pos (starEach es X.env)).any (·.1) = false := by rfl) : PX X σ (.Call (.Name x p) (e :: es) [] pos) (tCB r t) := by
  intro pins s H Q I h
  refine wpAny_Call_Name_kw (ld_blt I hg hm hv ?_ hn hdb)
  exact PyProof.Rows.callWith_builtin1 (thn (ha pos pins s H _ I h) fun us s1 ⟨vs, H1, I1, r1, q1⟩ => hc pins s1 σ H1 vs us Q I1 r1 q1) he hpl
end
structure FldOk (K : Frag) (C : Addr) (fld : Str) : Prop where
  it : ErrI K C
  hd : hasDictIn K C = true
  nf : findIn K (.ref C) fld = some none
structure Kit6 (K : Frag) (mg : Str → Option Value) (D CG CF CO CY CD : Addr) : Prop where
  cD : Catch K D
  cG : Catch K CG
  cF : Catch K CF
  cO : Catch K CO
  cY : Catch K CY
  cE : Catch K CD
  mD : mg "DealError" = some (.ref D)
  mG : mg "NoListing" = some (.ref CG)
  mF : mg "NoFolk" = some (.ref CF)
  mO : mg "NoOutcome" = some (.ref CO)
  mY : mg "NoYes" = some (.ref CY)
  mE : mg "NoDealing" = some (.ref CD)
  fG : FldOk K CG "found"
  fF : FldOk K CF "found"
  fO : FldOk K CO "place"
  fY : FldOk K CY "place"
  fE : FldOk K CD "found"
  gg : mroIn K CG (.ref CG) = some true
  fg : mroIn K CF (.ref CG) = some false
  ff : mroIn K CF (.ref CF) = some true
  og : mroIn K CO (.ref CG) = some false
  of : mroIn K CO (.ref CF) = some false
  oo : mroIn K CO (.ref CO) = some true
  yg : mroIn K CY (.ref CG) = some false
  yf : mroIn K CY (.ref CF) = some false
  yo : mroIn K CY (.ref CO) = some false
  yy : mroIn K CY (.ref CY) = some true
  eg : mroIn K CD (.ref CG) = some false
  ef : mroIn K CD (.ref CF) = some false
  eo : mroIn K CD (.ref CO) = some false
  ey : mroIn K CD (.ref CY) = some false
  ee : mroIn K CD (.ref CD) = some true
def thW (K : Frag) (z fld : Str) : TS := tRet (tWord z (tErrFT K (tVar 4) fld))
def thA : TS := tRet (tLst (tCons (tC (.str "another")) (tCons (tC (.str "")) tNil)))
def hAs6 (K : Frag) (D CG CF CO CY CD : Addr) : TH := hAs K CG 4 (thW K "listing" "found") (hAs K CF 4 (thW K "folk" "found") (hAs K CO 4 (thW K "outcome" "place") (hAs K CY 4 (thW K "yes" "place") (hAs K CD 4 (thW K "dealing" "found") (hNo K D thA hNil)))))
def tb0 (CF CO CY : Addr) (E : XK) : TS := tRet (tWord "told" (tCall (spYR CF CO CY) [] E (tCons (tVar 2) tNil)))
def tb1 (CG : Addr) (E : XK) : TS := tRet (tWord "told" (tCall (spLC CG) [] E (tCons (tVar 1) tNil)))
def tb2 (CF CO CY CG CD : Addr) (E : XK) : TS := tRet (tWord "told" (tCall (spFT CF CO CY CG CD) [] E (tCons (tVar 1) (tCons (tVar 2) (tCons (tVar 3) tNil)))))
def tbAs (CF CO CY CG CD : Addr) (E : XK) (σ : St) : TS := tSeqX σ (tIfS (tE2 0 (.int 0)) (tb0 CF CO CY E) tNext) (tSeqX σ (tIfS (tE2 0 (.int 1)) (tb1 CG E) tNext) (tb2 CF CO CY CG CD E))
section
variable {P : Program} {w : World} {K : Frag} {mg : Str → Option Value} {base : Heap} {D CG CF CO CY CD : Addr}
abbrev sAs : Stmt := top 43
abbrev NAs : List Str := ["_law_door", "_law_listing", "_law_outcomes", "_law_dealing", "e"]
theorem scAs : FnScope NAs ["_law_door", "_law_listing", "_law_outcomes", "_law_dealing"] (defScope sAs) := ⟨rfl, rfl, rfl, by decide +kernel, rfl, by decide +kernel, by decide +kernel⟩
variable {f : Addr} {cdv : Value} {A : Around} {outer : List Env} {s : Shared} {H : Hp} {E : XK}
theorem suite_der {z fld : Str} {p0 p1 p2 p3 p4 p5 p6 : Pos} {x : Addr} (hz : H sysModules = none) (mp : mg "repr" = none) (hr : Room 7 (A.deeper (PyProof.Rows.envOfC "_law_asked" (defScope sAs) s.heap.objs.size f cdv))) :
    PSs (exCx (cxOf CX0 P w K mg base NAs "_law_asked" (defScope sAs) f cdv A outer s H E).nox x) [.Return (some (.List [.Constant (.str z) 0 p0, .Call (.Name "repr" p1) [.Attribute (.Name "e" p2) fld p3] [] p4] p5)) p6] (thW K z fld) :=
  pss_one (ps_ret (pe_lst (pa_cons pe_str (pa_cons (pe_callB (call_repr hz hr.gd hr.units) rfl mp PyProof.Rows.boot_repr (pa_cons (pe_errFT (pv 4) rfl) pa_nil)) pa_nil))))
theorem as_der {a1 a2 a3 : Addr} {d1 d2 d3 : FuncData} (hz : H sysModules = none) (Z : Kit6 K mg D CG CF CO CY CD) (A1 : Df P w K mg base (CXE P w) 6 "yes_row" ["outcomes"] (spYR CF CO CY) a1 d1) (A2 : Df P w K mg base (CXE P w) 6 "listing_counts" ["listing"] (spLC CG) a2 d2)
    (A3 : Df P w K mg base (CXE P w) 7 "fits" ["listing", "outcomes", "dealing"] (spFT CF CO CY CG CD) a3 d3) (mp : mg "repr" = none) (hr : Room 7 (A.deeper (PyProof.Rows.envOfC "_law_asked" (defScope sAs) s.heap.objs.size f cdv))) :
    Bx (PSs (cxOf CX0 P w K mg base NAs "_law_asked" (defScope sAs) f cdv A outer s H E).nox (defBody sAs) (fun D' σ H => tbAs CF CO CY CG CD (eTryN (hAs6 K D CG CF CO CY CD) D' σ) σ D' σ H)) := by
  have nd := scAs.nd
  have hr6 : Room 6 _ := hr.mono (by decide)
  refine bxs_one ⟨ps_tryM (tb := tbAs CF CO CY CG CD) (th := hAs6 K D CG CF CO CY CD) rfl rfl (fun σ E' pn xe hp => ?_) ?_⟩
  · exact pxss_cons (pxs_if (pt_cmpR op_eq (pv 0) pe_int (nomark _)) (pxss_one (pxs_ret (px_lst (pxa_cons (px_of pe_str) (pxa_cons (px_callB (call_repr hz hr.gd hr.units) rfl mp PyProof.Rows.boot_repr (pxa_cons (px_call (E := E') A1.G hr6 rfl A1.m A1.kp A1.b .nil hp (pxa_of (pa_cons (pv 2) pa_nil))) pxa_nil)) pxa_nil))))) pxss_nil)
      (pxss_cons (pxs_if (pt_cmpR op_eq (pv 0) pe_int (nomark _)) (pxss_one (pxs_ret (px_lst (pxa_cons (px_of pe_str) (pxa_cons (px_callB (call_repr hz hr.gd hr.units) rfl mp PyProof.Rows.boot_repr (pxa_cons (px_call (E := E') A2.G hr6 rfl A2.m A2.kp A2.b .nil hp (pxa_of (pa_cons (pv 1) pa_nil))) pxa_nil)) pxa_nil))))) pxss_nil)
      (pxss_one (pxs_ret (px_lst (pxa_cons (px_of pe_str) (pxa_cons (px_callB (call_repr hz hr.gd hr.units) rfl mp PyProof.Rows.boot_repr (pxa_cons (px_call (E := E') A3.G hr rfl A3.m A3.kp A3.b .nil hp (pxa_of (pa_cons (pv 1) (pa_cons (pv 2) (pa_cons (pv 3) pa_nil))))) pxa_nil)) pxa_nil))))))
  · exact phs_as (i := 4) nd rfl rfl Z.cG rfl Z.mG (fun x => suite_der hz mp hr) (phs_as (i := 4) nd rfl rfl Z.cF rfl Z.mF (fun x => suite_der hz mp hr) (phs_as (i := 4) nd rfl rfl Z.cO rfl Z.mO (fun x => suite_der hz mp hr) (phs_as (i := 4) nd rfl rfl Z.cY rfl Z.mY (fun x => suite_der hz mp hr)
      (phs_as (i := 4) nd rfl rfl Z.cE rfl Z.mE (fun x => suite_der hz mp hr) (phs_no Z.cD rfl Z.mD (fun x => pss_one (ps_ret (pe_lst (pa_cons pe_str (pa_cons pe_str pa_nil))))) phs_nil)))))
theorem rd_hand {C e dx : Addr} {z fld : Str} {v : V} {d : PyData} {D' : Ends} {v0 v1 v2 v3 o4 : Option V} (F : FldOk K C fld) (fe : H e = some (ErrT e C (some dx))) (fd : H dx = some (.xd [(fld, v)])) (rv : Rds H v d) (sw : Show d) (q : ∀ l H', Ext H H' → Two H' l z d → D'.rt (.ref l) H') :
    thW K z fld (unEnds D' 4) (([v0, v1, v2, v3, o4] : St).set 4 (some (.ref e))) H :=
  rd_word (fun R r => ⟨_, rfl, e, C, dx, _, v, rfl, fe, fd, by rw [List.lookup_cons, beq_self_eq_true], F.it, F.hd, F.nf, r v H (Ext.refl _) rv⟩) sw q
theorem rd_clause {C e dx : Addr} {z fld : Str} {v : V} {d : PyData} {D' : Ends} {v0 v1 v2 v3 o4 : Option V} {rest : TH} (F : FldOk K C fld) (mC : mroIn K C (.ref C) = some true) (fe : H e = some (ErrT e C (some dx))) (fd : H dx = some (.xd [(fld, v)])) (rv : Rds H v d) (sw : Show d) (q : ∀ l H', Ext H H' → Two H' l z d → D'.rt (.ref l) H') :
    hAs K C 4 (thW K z fld) rest e C D' [v0, v1, v2, v3, o4] H := ⟨true, mC, itT (rd_hand F fe fd rv sw q)⟩
theorem rd_past {C B e : Addr} {th : TS} {D' : Ends} {σ : St} {rest : TH} {i : Nat} (mC : mroIn K C (.ref B) = some false) (r : rest e C D' σ H) : hAs K B i th rest e C D' σ H := ⟨false, mC, itF r⟩
theorem err_at {C : Addr} {fld : Str} {v : V} {H1 : Hp} {E' : XK} (h : ∀ e dx H', Ext H1 H' → H' e = some (ErrT e C (some dx)) → H' dx = some (.xd [(fld, v)]) → E' (.ref C) (some e) H') : ErrF C fld v H1 E' := fun e dx he hdx ne => by
  have x2 := Ext.new (o := .xd [(fld, v)]) hdx
  have he2 : upd H1 dx (.xd [(fld, v)]) e = none := by rw [upd_ne ne.symm]; exact he
  have x3 := Ext.new (o := ErrT e C (some dx)) he2
  exact h e dx _ (x2.trans x3) upd_same (x3 _ _ upd_same)
variable (Z : Kit6 K mg D CG CF CO CY CD) {D' : Ends} {v0 v1 v2 v3 o4 : Option V}
include Z
theorem e_G {v : V} {d : PyData} (rv : Rds H v d) (sw : Show d) (q : ∀ l H', Ext H H' → Two H' l "listing" d → D'.rt (.ref l) H') : ErrF CG "found" v H (eTryN (hAs6 K D CG CF CO CY CD) D' [v0, v1, v2, v3, o4]) :=
  err_at fun e dx H' x' fe fd => ⟨e, CG, rfl, rfl, rd_clause Z.fG Z.gg fe fd (rv.mono x') sw fun l H2 x2 t => q l H2 (x'.trans x2) t⟩
theorem e_F {v : V} {d : PyData} (rv : Rds H v d) (sw : Show d) (q : ∀ l H', Ext H H' → Two H' l "folk" d → D'.rt (.ref l) H') : ErrF CF "found" v H (eTryN (hAs6 K D CG CF CO CY CD) D' [v0, v1, v2, v3, o4]) :=
  err_at fun e dx H' x' fe fd => ⟨e, CF, rfl, rfl, rd_past Z.fg (rd_clause Z.fF Z.ff fe fd (rv.mono x') sw fun l H2 x2 t => q l H2 (x'.trans x2) t)⟩
theorem e_O {v : V} {d : PyData} (rv : Rds H v d) (sw : Show d) (q : ∀ l H', Ext H H' → Two H' l "outcome" d → D'.rt (.ref l) H') : ErrF CO "place" v H (eTryN (hAs6 K D CG CF CO CY CD) D' [v0, v1, v2, v3, o4]) :=
  err_at fun e dx H' x' fe fd => ⟨e, CO, rfl, rfl, rd_past Z.og (rd_past Z.of (rd_clause Z.fO Z.oo fe fd (rv.mono x') sw fun l H2 x2 t => q l H2 (x'.trans x2) t))⟩
theorem e_Y {v : V} {d : PyData} (rv : Rds H v d) (sw : Show d) (q : ∀ l H', Ext H H' → Two H' l "yes" d → D'.rt (.ref l) H') : ErrF CY "place" v H (eTryN (hAs6 K D CG CF CO CY CD) D' [v0, v1, v2, v3, o4]) :=
  err_at fun e dx H' x' fe fd => ⟨e, CY, rfl, rfl, rd_past Z.yg (rd_past Z.yf (rd_past Z.yo (rd_clause Z.fY Z.yy fe fd (rv.mono x') sw fun l H2 x2 t => q l H2 (x'.trans x2) t)))⟩
theorem e_E {v : V} {d : PyData} (rv : Rds H v d) (sw : Show d) (q : ∀ l H', Ext H H' → Two H' l "dealing" d → D'.rt (.ref l) H') : ErrF CD "found" v H (eTryN (hAs6 K D CG CF CO CY CD) D' [v0, v1, v2, v3, o4]) :=
  err_at fun e dx H' x' fe fd => ⟨e, CD, rfl, rfl, rd_past Z.eg (rd_past Z.ef (rd_past Z.eo (rd_past Z.ey (rd_clause Z.fE Z.ee fe fd (rv.mono x') sw fun l H2 x2 t => q l H2 (x'.trans x2) t))))⟩
theorem e_row {v : V} {d : PyData} {r : Rw} (rv : Rds H v d) (sw : Show (rowD d r).2) (q : ∀ l H', Ext H H' → Two H' l (rowD d r).1 (rowD d r).2 → D'.rt (.ref l) H') : rowE CF CO CY v H (eTryN (hAs6 K D CG CF CO CY CD) D' [v0, v1, v2, v3, o4]) r := by
  cases r with
  | folk => exact e_F Z rv sw q
  | out i => exact e_O Z (.int _) sw q
  | yes i => exact e_Y Z (.int _) sw q
  | told ns => exact True.intro
theorem ok_as {fd : FuncData} {a1 a2 a3 : Addr} {d1 d2 d3 : FuncData} (F : Fun K "_law_asked" "_law_asked" sAs f fd) (A1 : Df P w K mg base (CXE P w) 6 "yes_row" ["outcomes"] (spYR CF CO CY) a1 d1) (A2 : Df P w K mg base (CXE P w) 6 "listing_counts" ["listing"] (spLC CG) a2 d2)
    (A3 : Df P w K mg base (CXE P w) 7 "fits" ["listing", "outcomes", "dealing"] (spFT CF CO CY CG CD) a3 d3) (mp : mg "repr" = none) : FnOk P w K mg base CX0 8 f fd ["_law_door", "_law_listing", "_law_outcomes", "_law_dealing"] spDu := by
  refine F.ok scAs (fun vs H Q E h => ?_) (fun cdv A outer s H vs Q E hr h => ?_)
  · obtain ⟨j, v1, v2, v3, d1, d2, d3, z, rfl, _⟩ := h
    rfl
  obtain ⟨j, v1, v2, v3, e1, e2, e3, z, rfl, hz, r1, r2, r3, s1, s2, ask, sw, q⟩ := h
  obtain ⟨der⟩ := as_der hz Z A1 A2 A3 mp hr (f := f) (cdv := cdv) (A := A) (outer := outer) (s := s) (H := H) (E := E) (P := P) (w := w) (base := base)
  refine ⟨_, der, ?_⟩
  rcases ask with ⟨rfl, r, ri, rfl⟩ | ⟨rfl, rfl⟩ | ⟨rfl, r, fi, rfl⟩
  · refine ⟨_, rfl, rfl, _, rfl, itT ?_⟩
    cases r with
    | told ns =>
      exact rd_word (fun R r => ⟨_, rfl, v2, e2, _, rfl, r2, s2, ri, fun H' x' => True.intro, fun ns' en l H' x' h0 hl => by cases en; exact r _ H' x' (.lst hl rds_ints)⟩) sw q
    | folk => exact ⟨_, rfl, v2, e2, _, rfl, r2, s2, ri, fun H' x' => e_row Z (D' := ⟨_, Q, _, _⟩) (r := .folk) (r2.mono x') sw (fun l H2 x2 t => q l H2 (x'.trans x2) t), fun ns en => by cases en⟩
    | out i => exact ⟨_, rfl, v2, e2, _, rfl, r2, s2, ri, fun H' x' => e_row Z (D' := ⟨_, Q, _, _⟩) (r := .out i) (r2.mono x') sw (fun l H2 x2 t => q l H2 (x'.trans x2) t), fun ns en => by cases en⟩
    | yes i => exact ⟨_, rfl, v2, e2, _, rfl, r2, s2, ri, fun H' x' => e_row Z (D' := ⟨_, Q, _, _⟩) (r := .yes i) (r2.mono x') sw (fun l H2 x2 t => q l H2 (x'.trans x2) t), fun ns en => by cases en⟩
  · refine ⟨_, rfl, rfl, _, rfl, itF ⟨rfl, _, rfl, rfl, _, rfl, itT ?_⟩⟩
    cases lg : lgD e1 with
    | false =>
      have ez : ctD e1 = (("listing" : Str), e1) := by
        cases e1 <;> first | rfl | (simp [ctD, lg])
      rw [ez] at q sw
      exact ⟨_, rfl, v1, e1, rfl, r1, s1, fun _ H' x' => e_G Z (D' := ⟨_, Q, _, _⟩) (r1.mono x') sw (fun l H2 x2 t => q l H2 (x'.trans x2) t), fun lt => by rw [lg] at lt; cases lt⟩
    | true =>
      obtain ⟨ds, rfl, l1, l20, al⟩ := lg_list lg
      have ez : ctD (.list ds) = (("told" : Str), fourD ds) := by simp [ctD, lg]
      rw [ez] at q sw
      refine rd_word (d := fourD ds) (fun R r => ⟨_, rfl, v1, _, rfl, r1, s1, fun lf => (by rw [lg] at lf; cases lf), fun _ ds' ed l H' x' hl => ?_⟩) sw q
      cases ed
      exact r _ H' x' (.tup hl (.cons (.int _) (.cons (.int _) (.cons (.int _) (.cons (.int _) .nil)))))
  · refine ⟨_, rfl, rfl, _, rfl, itF ⟨rfl, _, rfl, rfl, _, rfl, itF ⟨rfl, ?_⟩⟩⟩
    cases r with
    | told b =>
      exact rd_word (d := .bool b) (fun R r => ⟨_, rfl, _, rfl, _, rfl, v1, v2, v3, e1, e2, e3, _, rfl, r1, r2, r3, s1, s2, fi, fun H' x' => True.intro, fun b' eb H' x' => by cases eb; exact r _ H' x' (.bl _)⟩) sw q
    | listing => exact ⟨_, rfl, _, rfl, _, rfl, v1, v2, v3, e1, e2, e3, _, rfl, r1, r2, r3, s1, s2, fi, fun H' x' => e_G Z (D' := ⟨_, Q, _, _⟩) (r1.mono x') sw (fun l H2 x2 t => q l H2 (x'.trans x2) t), fun b eb => by cases eb⟩
    | row r => exact ⟨_, rfl, _, rfl, _, rfl, v1, v2, v3, e1, e2, e3, _, rfl, r1, r2, r3, s1, s2, fi, fun H' x' => e_row Z (D' := ⟨_, Q, _, _⟩) (r2.mono x') sw (fun l H2 x2 t => q l H2 (x'.trans x2) t), fun b eb => by cases eb⟩
    | dealing => exact ⟨_, rfl, _, rfl, _, rfl, v1, v2, v3, e1, e2, e3, _, rfl, r1, r2, r3, s1, s2, fi, fun H' x' => e_E Z (D' := ⟨_, Q, _, _⟩) (r3.mono x') sw (fun l H2 x2 t => q l H2 (x'.trans x2) t), fun b eb => by cases eb⟩
omit Z
end
end My
set_option Elab.async false
set_option linter.all false
set_option maxRecDepth 100000
set_option maxHeartbeats 1000000
set_option exponentiation.threshold 5000
namespace My
open PySem PySem.W L2
structure Cs (H : Hp) (p a b : Addr) (x : Int) (ps : List (Int × Int)) (ns : List Int) : Prop where
  rl : Rds (wo H p) (.ref a) (.list (ps.map pairT))
  ro : Rds (wo H p) (.ref b) (.list (ns.map y1))
  len : ps.length = ns.length
  l1 : 1 ≤ ns.length
  l20 : ns.length ≤ 20
  pb : ∀ q ∈ ps, (0 ≤ q.1 ∧ q.1 ≤ 1) ∧ (0 ≤ q.2 ∧ q.2 ≤ 1)
  nb : ∀ n ∈ ns, 0 ≤ n ∧ n ≤ 1
  x0 : 0 ≤ x
  xn : x ≤ 2 ^ ns.length - 1
theorem Cs.kept {H H' : Hp} {p a b : Addr} {x : Int} {ps : List (Int × Int)} {ns : List Int} (c : Cs H p a b x ps ns) (k : Kept H H' p) : Cs H' p a b x ps ns := ⟨c.rl.mono (wo_kept k), c.ro.mono (wo_kept k), c.len, c.l1, c.l20, c.pb, c.nb, c.x0, c.xn⟩
section
variable {P : Program} {w : World} {K : Frag} {mg : Str → Option Value} {base : Heap}
abbrev sCa : Stmt := top 38
abbrev stCa (i : Nat) : Stmt := (defBody sCa).getD i (.Pass ⟨0, 0, 0, 0⟩)
def spCa : Sp := fun vs H Q _ => ∃ p, vs = [.ref p] ∧ BoxAt H p ∧ ∀ t a b x ps ns H', Kept H H' p → BoxAt H' p → Cs H' p a b x ps ns → t ≠ p → H' t = some (.lst [.ref a, .ref b, .int x]) → Q (.ref t) H'
abbrev NCa : List Str := ["_law_box_here", "_law_folk", "_law_dealing", "_law_listing", "_law_row", "_law_at"]
theorem scCa : FnScope NCa ["_law_box_here"] (defScope sCa) := ⟨rfl, rfl, rfl, by decide +kernel, rfl, by decide +kernel, by decide +kernel⟩
abbrev scCa1 : Scope := { kind := .function, names := [(".0", .local), ("_law_k", .local), ("_law_take", .globalImplicit), ("_law_box_here", .free)], isGenerator := false, isCoroutine := false }
abbrev scCa3 : Scope := { kind := .function, names := [(".0", .local), ("_law_yes", .local)], isGenerator := false, isCoroutine := false }
variable {f : Addr} {cdv : Value} {A : Around} {outer : List Env} {s : Shared} {H : Hp} {E : XK}
theorem compCa1 : CompG (cxOf CX0 P w K mg base NCa "_law_case" (defScope sCa) f cdv A outer s H E).nox scCa1 [("_law_box_here", s.heap.objs.size + 1)] ["_law_k"] ["_law_box_here"] [0] := by
  refine ⟨rfl, rfl, by decide +kernel, by decide +kernel, by decide +kernel, (fun z c h => ?_), (fun z h => ?_), by decide +kernel, (fun k z h => ?_), rfl⟩
  · obtain ⟨rfl, rfl⟩ := lookup_one h
    rfl
  · have h' : List.lookup z [((".0" : Str), NameKind.local), (("_law_k" : Str), NameKind.local), (("_law_take" : Str), NameKind.globalImplicit), (("_law_box_here" : Str), NameKind.cell)] = some .cell ∨ List.lookup z [((".0" : Str), NameKind.local), (("_law_k" : Str), NameKind.local), (("_law_take" : Str), NameKind.globalImplicit), (("_law_box_here" : Str), NameKind.cell)] = some .free := h
    have e : z = "_law_box_here" := by
      simp only [List.lookup_cons, List.lookup_nil] at h'
      repeat' (split at h')
      all_goals first | (simp at h'; done) | (rename_i e; exact beq_iff_eq.mp e)
    subst e
    exact ⟨_, rfl⟩
  · cases k with
    | zero =>
      cases h
      exact ⟨0, rfl, rfl, .inr (.inl rfl), (by show (defScope sCa).names.lookup ("_law_box_here" : Str) ≠ some NameKind.local; decide +kernel), .inl rfl⟩
    | succ k => cases h
theorem compCa2 : CompG (cxOf CX0 P w K mg base NCa "_law_case" (defScope sCa) f cdv A outer s H E).nox scDu2 [("_law_dealing", s.heap.objs.size + 2)] ["_law_k", "_law_one"] ["_law_dealing"] [2] := by
  refine ⟨rfl, rfl, by decide +kernel, by decide +kernel, by decide +kernel, (fun z c h => ?_), (fun z h => ?_), by decide +kernel, (fun k z h => ?_), rfl⟩
  · obtain ⟨rfl, rfl⟩ := lookup_one h
    rfl
  · have h' : List.lookup z [((".0" : Str), NameKind.local), (("_law_k" : Str), NameKind.local), (("_law_one" : Str), NameKind.local), (("_law_dealing" : Str), NameKind.cell)] = some .cell ∨ List.lookup z [((".0" : Str), NameKind.local), (("_law_k" : Str), NameKind.local), (("_law_one" : Str), NameKind.local), (("_law_dealing" : Str), NameKind.cell)] = some .free := h
    have e : z = "_law_dealing" := by
      simp only [List.lookup_cons, List.lookup_nil] at h'
      repeat' (split at h')
      all_goals first | (simp at h'; done) | (rename_i e; exact beq_iff_eq.mp e)
    subst e
    exact ⟨_, rfl⟩
  · cases k with
    | zero =>
      cases h
      exact ⟨2, rfl, rfl, .inr (.inl rfl), (by show (defScope sCa).names.lookup ("_law_dealing" : Str) ≠ some NameKind.local; decide +kernel), .inl rfl⟩
    | succ k => cases h
theorem compCa3 {X : Cx} : CompG X scCa3 [] ["_law_yes"] [] [] := by
  refine ⟨rfl, rfl, by decide +kernel, by decide +kernel, by decide +kernel, (fun z c h => nomatch h), (fun z h => ?_), by decide +kernel, (fun k z h => by simp at h), rfl⟩
  exfalso
  have h' : List.lookup z [((".0" : Str), NameKind.local), (("_law_yes" : Str), NameKind.local)] = some .cell ∨ List.lookup z [((".0" : Str), NameKind.local), (("_law_yes" : Str), NameKind.local)] = some .free := h
  simp only [List.lookup_cons, List.lookup_nil] at h'
  repeat' (split at h')
  all_goals simp at h'
theorem ndCa1 : ((["_law_k"] : List Str) ++ (["_law_box_here"] : List Str)).Nodup := by decide +kernel
theorem ndCa3 : ((["_law_yes"] : List Str) ++ ([] : List Str)).Nodup := by decide +kernel
def tTk (i : Nat) (te : TE) : TE := tCall spTake [] E0 (tCons (tVar i) (tCons te tNil))
def rInt1 : List V → Hp → VK → Prop := fun xs H Q => (∃ i, xs = [.int i] ∧ Q (.int i) H) ∨ ∃ k, xs = [.bl k] ∧ Q (.int (if k then 1 else 0)) H
def tCa0 (K : Frag) : TS := tAsg (tOp (rIxL K) (tLst (tCons (tOp (rI0 fun i j => .int (i + j)) (tC (.int 1)) (tTk 0 (tC (.int 8)))) (tCons (tC (.int 20)) tNil))) (tCB rInt1 (tCons (tOp rEq (tTk 0 (tC (.int 8))) (tC (.int 0))) tNil))) (gName 1)
def tCa1 : TS := tAsg (tTk 0 (tOp (rI CPow fun i j => .int (i * 2 ^ j.toNat)) (tC (.int 1)) (tVar 1))) (gName 2)
def tKd (K : Frag) : TE := tOp (rIxL K) tKinds (tTk 1 (tC (.int 4)))
def tCa2 (K : Frag) : TS := tAsg (tLCG (iRng1 (tCons (tVar 1) tNil)) 1 [0] (gName 0) (tKd K)) (gName 3)
def tCa3 (K : Frag) : TS := tAsg (tLCG (iEnum K (tCons (tVar 3) tNil)) 2 [2] (gTup K 2 (gCons (gName 0) (gCons (gName 1) gNil))) (tSelE K)) (gName 4)
def tCa4 : TS := tAsg (tTk 0 (tVar 1)) (gName 5)
def tAtB (K : Frag) (k : Int) : TE := tOp (rIxT K) (tOp (rIxL K) (tVar 3) (tVar 5)) (tC (.int k))
def tCa5 (K : Frag) : TS := tIfS (tB (tOp rEq (tTk 0 (tC (.int 2))) (tC (.int 0)))) (tAsg (tTup (tCons (tAtB K 1) (tCons (tAtB K 0) tNil))) (gSub (tVar 3) (tVar 5) rSetL)) tNext
def tCa6 (K : Frag) : TS := tRet (tLst (tCons (tVar 3) (tCons (tLCG (iList K (tVar 4)) 1 [] (gName 0) (tTup (tCons (tVar 0) (tCons (tC (.bl true)) tNil)))) (tCons (tVar 2) tNil))))
def tCa (K : Frag) : TS := tSeq (tCa0 K) (tSeq tCa1 (tSeq (tCa2 K) (tSeq (tCa3 K) (tSeq tCa4 (tSeq (tCa5 K) (tCa6 K))))))
theorem bx_lcG2 {X : Cx} {sc : Scope} {cl : List (Str × Addr)} {ts zs : List Str} {js : List Nat} {elt tg iter : Expr} {wi : TI} {g : TG} {te : TE} {pos : Pos} {y : Str} {py spos : Pos} {iy : Nat} (hc : X.calm = true) (S : CompG X sc cl ts zs js) (hi : Bx (PI X tg iter wi)) (hg : ∀ s H C fp, PG (compCx X sc cl (ts ++ zs) s H C fp) tg g) (he : ∀ s H C fp, Bx (PE (compCx X sc cl (ts ++ zs) s H C fp) elt te))
    (hN : X.N.Nodup) (hiy : X.N[iy]? = some y) (hy : Loc X.env.scope y) (hsw : swapsWith (.ListComp elt [⟨tg, iter, [], 0⟩] sc pos) (some (.Name y py)) spos.line X.env = pure true)
    (hf : X.fn y = true ∨ X.env.scope.names.lookup y = some .local := by first | exact .inl rfl | exact .inr rfl | assumption)
    (hs : ∀ v, foldedSetIterable iter X.env v = pure v := by intro _; rfl) : Bx (PS X (.Assign [.Name y py] (.ListComp elt [⟨tg, iter, [], 0⟩] sc pos) spos) (tAsg (tLCG wi ts.length js g te) (gName iy))) := ⟨ps_lcG hc S hi.h hg (fun s H C fp => (he s H C fp).h) hN hiy hy hsw hf hs⟩
variable {a1 : Addr} {d1 : FuncData}
theorem ca_0 (A1 : Df P w K mg base CX0 1 "_law_take" ["_law_box_here", "_law_many"] spTake a1 d1) (mi : mg "int" = none) (hr : Room 1 (A.deeper (PyProof.Rows.envOfC "_law_case" (defScope sCa) s.heap.objs.size f cdv))) : Bx (PS (cxOf CX0 P w K mg base NCa "_law_case" (defScope sCa) f cdv A outer s H E).nox (stCa 0) (tCa0 K)) :=
  bx_set (i := 1) scCa.nd rfl (Or.inl rfl) (bx_ix ix_list (bx_lst (bxa_cons ⟨pe_op op_add pe_int (pe_call A1.G hr rfl A1.m A1.kp A1.b .nil pass0 (pa_cons (pv 0) (pa_cons pe_int pa_nil)))⟩ (bxa_cons ⟨pe_int⟩ bxa_nil))) ⟨pe_callTy call_int1 rfl mi PyProof.Rows.boot_int (pa_cons (pe_cmpR op_eq (pe_call A1.G hr rfl A1.m A1.kp A1.b .nil pass0 (pa_cons (pv 0) (pa_cons pe_int pa_nil))) pe_int (nomark _)) pa_nil)⟩ (fun _ _ => rfl))
theorem ca_1 (A1 : Df P w K mg base CX0 1 "_law_take" ["_law_box_here", "_law_many"] spTake a1 d1) (hr : Room 1 (A.deeper (PyProof.Rows.envOfC "_law_case" (defScope sCa) s.heap.objs.size f cdv))) : Bx (PS (cxOf CX0 P w K mg base NCa "_law_case" (defScope sCa) f cdv A outer s H E).nox (stCa 1) tCa1) :=
  bx_set (i := 2) scCa.nd rfl (Or.inr rfl) ⟨pe_call A1.G hr rfl A1.m A1.kp A1.b .nil pass0 (pa_cons (pv 0) (pa_cons (pe_op op_shl pe_int (pv 1)) pa_nil))⟩
theorem ca_2 (A1 : Df P w K mg base CX0 1 "_law_take" ["_law_box_here", "_law_many"] spTake a1 d1) (mr : mg "range" = none) (hr : Room 1 (A.deeper (PyProof.Rows.envOfC "_law_case" (defScope sCa) s.heap.objs.size f cdv))) : Bx (PS (cxOf CX0 P w K mg base NCa "_law_case" (defScope sCa) f cdv A outer s H E).nox (stCa 2) (tCa2 K)) :=
  bx_lcG2 (iy := 3) (te := tKd K) (g := gName 0) rfl compCa1 ⟨pi_range1 rfl mr (pa_cons (pv 1) pa_nil)⟩ (fun s H C fp => by exact pg_name (i := 0) ndCa1 rfl (.inl rfl)) (fun s H C fp => by exact bx_ix ix_list kinds_der ⟨pe_call A1.G hr rfl A1.m A1.kp A1.b .nil pass0 (pa_cons (pv 1) (pa_cons pe_int pa_nil))⟩ (fun _ _ => rfl)) scCa.nd rfl (Or.inl rfl) rfl
theorem ca_3 (me : mg "enumerate" = none) : Bx (PS (cxOf CX0 P w K mg base NCa "_law_case" (defScope sCa) f cdv A outer s H E).nox (stCa 3) (tCa3 K)) :=
  bx_lcG2 (iy := 4) (te := tSelE K) (g := gTup K 2 (gCons (gName 0) (gCons (gName 1) gNil))) rfl compCa2 ⟨pi_enum rfl me (pa_cons (pv 3) pa_nil)⟩ (fun s H C fp => by exact pg_tup rfl (pgs_cons (pg_name (i := 0) ndDu2 rfl (.inl rfl)) (pgs_cons (pg_name (i := 1) ndDu2 rfl (.inl rfl)) pgs_nil)))
      (fun s H C fp => by exact ⟨pe_ix ix_tup (pv 1) (pe_op op_sub pe_int (pe_op op_and (pe_op op_shr (pv 2) (pv 0)) pe_int)) (fun _ _ => rfl)⟩) scCa.nd rfl (Or.inl rfl) rfl
theorem ca_4 (A1 : Df P w K mg base CX0 1 "_law_take" ["_law_box_here", "_law_many"] spTake a1 d1) (hr : Room 1 (A.deeper (PyProof.Rows.envOfC "_law_case" (defScope sCa) s.heap.objs.size f cdv))) : Bx (PS (cxOf CX0 P w K mg base NCa "_law_case" (defScope sCa) f cdv A outer s H E).nox (stCa 4) tCa4) :=
  bx_set (i := 5) scCa.nd rfl (Or.inl rfl) ⟨pe_call A1.G hr rfl A1.m A1.kp A1.b .nil pass0 (pa_cons (pv 0) (pa_cons (pv 1) pa_nil))⟩
theorem ca_5 (A1 : Df P w K mg base CX0 1 "_law_take" ["_law_box_here", "_law_many"] spTake a1 d1) (hr : Room 1 (A.deeper (PyProof.Rows.envOfC "_law_case" (defScope sCa) s.heap.objs.size f cdv))) : Bx (PS (cxOf CX0 P w K mg base NCa "_law_case" (defScope sCa) f cdv A outer s H E).nox (stCa 5) (tCa5 K)) :=
  ⟨ps_if (pt_cmpR op_eq (pe_call A1.G hr rfl A1.m A1.kp A1.b .nil pass0 (pa_cons (pv 0) (pa_cons pe_int pa_nil))) pe_int (nomark _)) (pss_one (ps_asg (pe_tup (pa_cons (pe_ix ix_tup (pe_ix ix_list (pv 3) (pv 5) (fun _ _ => rfl)) pe_int (fun _ _ => rfl)) (pa_cons (pe_ix ix_tup (pe_ix ix_list (pv 3) (pv 5) (fun _ _ => rfl)) pe_int (fun _ _ => rfl)) pa_nil))) (pg_sub (pv 3) (pv 5) set_list))) pss_nil⟩
theorem ca_6 : Bx (PS (cxOf CX0 P w K mg base NCa "_law_case" (defScope sCa) f cdv A outer s H E).nox (stCa 6) (tCa6 K)) :=
  ⟨ps_ret (pe_lst (pa_cons (pv 3) (pa_cons (pe_lcG (te := tTup (tCons (tVar 0) (tCons (tC (.bl true)) tNil))) (g := gName 0) rfl compCa3 (pi_list (pv 4)) (fun s H C fp => by exact pg_name (i := 0) ndCa3 rfl (.inl rfl)) (fun s H C fp => by exact pe_tup (pa_cons (pv 0) (pa_cons pe_bl pa_nil)))) (pa_cons (pv 2) pa_nil))))⟩
theorem ca_der (A1 : Df P w K mg base CX0 1 "_law_take" ["_law_box_here", "_law_many"] spTake a1 d1) (mi : mg "int" = none) (mr : mg "range" = none) (me : mg "enumerate" = none) (hr : Room 1 (A.deeper (PyProof.Rows.envOfC "_law_case" (defScope sCa) s.heap.objs.size f cdv))) : Bx (PSs (cxOf CX0 P w K mg base NCa "_law_case" (defScope sCa) f cdv A outer s H E).nox (defBody sCa) (tCa K)) :=
  bxs_cons (ca_0 A1 mi hr) (bxs_cons (ca_1 A1 hr) (bxs_cons (ca_2 A1 mr hr) (bxs_cons (ca_3 me) (bxs_cons (ca_4 A1 hr) (bxs_cons (ca_5 A1 hr) (bxs_one ca_6))))))
end
end My
set_option Elab.async false
set_option linter.all false
set_option maxRecDepth 100000
set_option maxHeartbeats 1000000
set_option exponentiation.threshold 5000
namespace My
open PySem PySem.W L2
section
variable {K : Frag} {H : Hp} {D : Ends} {σ : St} {p : Addr}
theorem BoxAt.neT {t : Addr} {xs : List V} (b : BoxAt H p) (h : H t = some (.tup xs)) : t ≠ p := fun e => by
  subst e
  obtain ⟨_, _, _, hp, _⟩ := b
  rw [h] at hp
  cases hp
theorem BoxAt.neL {t : Addr} {xs : List V} (b : BoxAt H p) (h : H t = some (.lst xs)) (n : xs.length ≠ 3) : t ≠ p := fun e => by
  subst e
  obtain ⟨_, _, _, hp, _⟩ := b
  rw [h] at hp
  cases hp
  exact n rfl
theorem BoxAt.neR {t q : Addr} {xs : List V} (b : BoxAt H p) (h : H t = some (.lst (.ref q :: xs))) : t ≠ p := fun e => by
  subst e
  obtain ⟨_, _, _, hp, _⟩ := b
  rw [h] at hp
  cases hp
theorem rd_op {r : R2} {ta tb : TE} {Q : VK} (h : ta σ H fun x H1 => tb σ H1 fun y H2 => r x y H2 Q) : tOp r ta tb σ H Q := h
theorem rd_take {i : Nat} {te : TE} {m : Int} {Q : VK} (h0 : σ[i]? = some (some (.ref p))) (bx : BoxAt H p) (hm : ∀ R : VK, R (.int m) H → te σ H R) (m0 : 0 < m) (m1 : m < 1073741824) (q : ∀ r H', 0 ≤ r → r < m → BoxAt H' p → Kept H H' p → Q (.int r) H') : tTk i te σ H Q :=
  ⟨_, h0, hm _ ⟨p, m, rfl, bx, m0, m1, fun r H' a b c d _ => q r H' a b c d⟩⟩
theorem rd_ca0 {o1 o2 o3 o4 o5 : Option V} (bx : BoxAt H p) (nx : ∀ (n : Nat) H', 1 ≤ n → n ≤ 20 → BoxAt H' p → Kept H H' p → D.nx [some (.ref p), some (.int (n : Nat)), o2, o3, o4, o5] H') : tCa0 K D [some (.ref p), o1, o2, o3, o4, o5] H := by
  refine rd_take (i := 0) rfl bx (fun R r => r) (by decide) (by decide) fun r1 H1 h0 h8 bx1 k1 => ⟨1, r1, rfl, rfl, by show 2 ≤ sizeLine; decide, fun l hl => ?_⟩
  have x2 := Ext.new (o := .lst [.int (1 + r1), .int 20]) hl
  have f2 : upd H1 l (.lst [.int (1 + r1), .int 20]) l = some (.lst [.int (1 + r1), .int 20]) := upd_same
  generalize upd H1 l (.lst [.int (1 + r1), .int 20]) = H2 at x2 f2 ⊢
  have bx2 := bx1.ext x2
  refine rd_take (i := 0) rfl bx2 (fun R r => r) (by decide) (by decide) fun r2 H3 h0' h8' bx3 k3 => ⟨rfl, .inr ⟨_, rfl, ?_⟩⟩
  have ne := bx2.neL f2 (fun e => by simp at e)
  have f3 := k3 _ _ f2 ne
  have kk := (k1.trans (x2.kept p)).trans k3
  cases decide (V.int r2 = V.int 0) with
  | true => exact ⟨l, _, _, _, rfl, rfl, SqL.of f3, rfl, nx 20 H3 (by decide) (by decide) bx3 kk⟩
  | false =>
    have e : (1 + r1 : Int) = (((1 + r1).toNat : Nat) : Int) := by omega
    have z := nx (1 + r1).toNat H3 (by omega) (by omega) bx3 kk
    rw [← e] at z
    exact ⟨l, _, _, _, rfl, rfl, SqL.of f3, rfl, z⟩
theorem two_pow_lt {n : Nat} (h : n ≤ 20) : (2 : Int) ^ n < 1073741824 := by
  have : (2 : Nat) ^ n ≤ 2 ^ 20 := Nat.pow_le_pow_right (by decide) h
  have e : ((2 ^ n : Nat) : Int) = (2 : Int) ^ n := by simp
  rw [← e]
  have : 2 ^ n ≤ 1048576 := this
  omega
theorem two_pow_pos (n : Nat) : (0 : Int) < 2 ^ n := Int.pow_pos (by decide)
theorem rd_ca1 {n : Nat} {o2 o3 o4 o5 : Option V} (bx : BoxAt H p) (hn : n ≤ 20) (nx : ∀ (x : Int) H', 0 ≤ x → x ≤ 2 ^ n - 1 → BoxAt H' p → Kept H H' p → D.nx [some (.ref p), some (.int (n : Nat)), some (.int x), o3, o4, o5] H') : tCa1 D [some (.ref p), some (.int (n : Nat)), o2, o3, o4, o5] H := by
  have e : (1 * 2 ^ ((n : Nat) : Int).toNat : Int) = 2 ^ n := by rw [Int.toNat_natCast, Int.one_mul]
  refine rd_take (i := 0) (m := 1 * 2 ^ ((n : Nat) : Int).toNat) rfl bx (fun R r => ⟨_, rfl, 1, (n : Nat), rfl, rfl, ⟨by omega, by omega, by decide⟩, r⟩) (by rw [e]; exact two_pow_pos n) (by rw [e]; exact two_pow_lt hn) fun x H' h0 h1 bx' k' => ?_
  rw [e] at h1
  exact nx x H' h0 (by omega) bx' k'
theorem rd_kd {Q : VK} {o0 : Option V} (bx : BoxAt H p) (q : ∀ (t : Addr) (a b : Int) H', BoxAt H' p → Kept H H' p → H' t = some (.tup [.int a, .int b]) → (0 ≤ a ∧ a ≤ 1) → (0 ≤ b ∧ b ≤ 1) → Q (.ref t) H') : tKd K [o0, some (.ref p)] H Q := by
  refine rd_op (rd_kinds fun l l0 l1 l2 l3 H2 x2 hl h0 h1 h2 h3 => ?_)
  have bx2 := bx.ext x2
  refine rd_take (i := 1) rfl bx2 (fun R r => r) (by decide) (by decide) fun r H3 hr0 hr4 bx3 k3 => ?_
  have ne := bx2.neR hl
  have kk := (x2.kept p).trans k3
  have f0 := k3 _ _ h0 (bx2.neT h0)
  have f1 := k3 _ _ h1 (bx2.neT h1)
  have f2 := k3 _ _ h2 (bx2.neT h2)
  have f3 := k3 _ _ h3 (bx2.neT h3)
  have fl := SqL.of (K := K) (k3 _ _ hl ne)
  have : r = 0 ∨ r = 1 ∨ r = 2 ∨ r = 3 := by omega
  rcases this with rfl | rfl | rfl | rfl
  · exact ⟨l, _, _, _, rfl, rfl, fl, rfl, q l0 1 0 H3 bx3 kk f0 (by decide) (by decide)⟩
  · exact ⟨l, _, _, _, rfl, rfl, fl, rfl, q l1 0 1 H3 bx3 kk f1 (by decide) (by decide)⟩
  · exact ⟨l, _, _, _, rfl, rfl, fl, rfl, q l2 1 1 H3 bx3 kk f2 (by decide) (by decide)⟩
  · exact ⟨l, _, _, _, rfl, rfl, fl, rfl, q l3 0 0 H3 bx3 kk f3 (by decide) (by decide)⟩
structure RwP (H : Hp) (p : Addr) (xs : List V) (as : List (Addr × Int × Int)) : Prop where
  xs_ : xs = as.map fun z => V.ref z.1
  at_ : ∀ z ∈ as, H z.1 = some (.tup [.int z.2.1, .int z.2.2])
  bit : ∀ z ∈ as, (0 ≤ z.2.1 ∧ z.2.1 ≤ 1) ∧ (0 ≤ z.2.2 ∧ z.2.2 ≤ 1)
theorem RwP.kept {H' : Hp} {xs : List V} {as : List (Addr × Int × Int)} (w : RwP H p xs as) (bx : BoxAt H p) (k : Kept H H' p) : RwP H' p xs as := ⟨w.xs_, fun z hz => k _ _ (w.at_ z hz) (bx.neT (w.at_ z hz)), w.bit⟩
theorem RwP.ext {H' : Hp} {xs : List V} {as : List (Addr × Int × Int)} (w : RwP H p xs as) (x : Ext H H') : RwP H' p xs as := ⟨w.xs_, fun z hz => x _ _ (w.at_ z hz), w.bit⟩
theorem RwP.upL {xs : List V} {as : List (Addr × Int × Int)} {l : Addr} {ys zs : List V} (w : RwP H p xs as) (hl : H l = some (.lst ys)) : RwP (upd H l (.lst zs)) p xs as := ⟨w.xs_, fun z hz => by
  rw [upd_ne (fun e => by have := w.at_ z hz; rw [e, hl] at this; cases this)]
  exact w.at_ z hz, w.bit⟩
theorem RwP.rws {xs : List V} {as : List (Addr × Int × Int)} (w : RwP H p xs as) : Rws H xs (as.map fun z => .tuple [.int z.2.1, .int z.2.2]) as := ⟨w.xs_, rfl, w.at_, w.bit⟩
theorem BoxAt.up {l : Addr} {o : HO} (b : BoxAt H p) (n : l ≠ p) : BoxAt (upd H l o) p := by
  obtain ⟨x, y, z, hp, r⟩ := b
  exact ⟨x, y, z, by rw [upd_ne n.symm]; exact hp, r⟩
theorem kept_up {H' : Hp} {l : Addr} {o : HO} (k : Kept H H' p) (n : H l = none) : Kept H (upd H' l o) p := fun b u h nb => by
  rw [upd_ne (fun e => by rw [e, n] at h; cases h)]
  exact k b u h nb
theorem rd_ca2 {n : Nat} {o2 o3 o4 o5 : Option V} (bx : BoxAt H p) (hn : n ≤ 20) (nx : ∀ (l : Addr) xs as H', BoxAt H' p → Kept H H' p → H l = none → H' l = some (.lst xs) → l ≠ p → RwP H' p xs as → as.length = n → D.nx [some (.ref p), some (.int (n : Nat)), o2, some (.ref l), o4, o5] H') : tCa2 K D [some (.ref p), some (.int (n : Nat)), o2, o3, o4, o5] H := by
  refine ⟨_, rfl, (n : Nat), rfl, by omega, by omega, fun D' hD => ?_⟩
  rw [Int.toNat_natCast]
  have ne : D' ≠ p := bx.ne hD
  refine lcG_range (Pv := fun i ys H' => Kept H H' p ∧ BoxAt H' p ∧ ∃ as, RwP H' p ys as ∧ as.length = i) (Nat.lt_of_le_of_lt hn (by decide)) ⟨kept_up (Kept.refl _ _) hD, bx.up ne, [], ⟨rfl, (fun _ h => nomatch h), (fun _ h => nomatch h)⟩, rfl⟩ ?_ ?_
  · rintro i ys H' hi ly hD' ⟨k', bx', as, w', la⟩ os los R k
    obtain ⟨o0, rfl⟩ : ∃ o0, os = [o0] := by
      match os, los with
      | [o0], _ => exact ⟨o0, rfl⟩
    refine ⟨⟨[some (.int (0 + (i : Int)))], rfl, rfl⟩, ?_⟩
    refine rd_kd bx' fun t a b H2 bx2 k2 ht ha hb => ?_
    have hD2 := k2 _ _ hD' ne
    refine k _ H2 hD2 ⟨kept_up (k'.trans k2) hD, bx2.up ne, as ++ [(t, a, b)], ?_, by rw [List.length_append, la]; rfl⟩
    have w2 := w'.kept bx' k2
    have w3 : RwP H2 p (ys ++ [.ref t]) (as ++ [(t, a, b)]) := by
      refine ⟨by rw [List.map_append, w2.xs_]; rfl, fun z hz => ?_, fun z hz => ?_⟩
      · rcases List.mem_append.mp hz with hz | hz
        · exact w2.at_ z hz
        · cases List.mem_singleton.mp hz; exact ht
      · rcases List.mem_append.mp hz with hz | hz
        · exact w2.bit z hz
        · cases List.mem_singleton.mp hz; exact ⟨ha, hb⟩
    exact w3.upL hD2
  · rintro ys H' ly hD' ⟨k', bx', as, w', la⟩
    exact nx D' ys as H' bx' k' hD hD' ne w' la
theorem rd_cameI {Q : VK} {a : Addr} {x : Int} {xs : List V} {ds : List PyData} {as : List (Addr × Int × Int)} (i j : Nat) (h1 : σ[i]? = some (some (.ref a))) (h3 : capS [j] σ = [some (.int x)]) (ha : H a = some (.lst xs)) (w : Rws H xs ds as) (l20 : as.length ≤ 20) (q : ∀ l H', Ext H H' → H l = none → H' l = some (.lst ((came (as.map (·.2)) x).map V.int)) → Q (.ref l) H') :
    tLCG (iEnum K (tCons (tVar i) tNil)) 2 [j] (gTup K 2 (gCons (gName 0) (gCons (gName 1) gNil))) (tSelE K) σ H Q := by
  have lx : xs.length = as.length := by rw [w.xs_, List.length_map]
  refine ⟨_, h1, a, rfl, ⟨_, SqL.of ha⟩, fun D hD => ?_⟩
  rw [h3]
  refine lcG_enum (a := a) (xs := xs) (fun i ys H' => Ext H H' ∧ ys = ((came (as.map (·.2)) x).take i).map V.int) (by rw [lx]; exact Nat.lt_of_le_of_lt l20 (by decide)) ⟨Ext.new hD, rfl⟩ (fun i ys H' p => SqL.of (p.1 _ _ ha)) ?_ ?_
  · rintro i v ys H' p ev ly hD' ⟨x', rfl⟩ hp os los R k
    obtain ⟨p0, p1, rfl⟩ : ∃ p0 p1, os = [p0, p1] := by
      match os, los with
      | [p0, p1], _ => exact ⟨p0, p1, rfl⟩
    have li : i < as.length := by have := (List.getElem?_eq_some_iff.mp ev).1; omega
    have ea := List.getElem?_eq_getElem li
    have er : v = .ref as[i].1 := by
      rw [w.xs_, List.getElem?_map, ea] at ev
      cases ev
      rfl
    subst er
    have xk := Ext.new (o := .tup [.int (i : Nat), .ref as[i].1]) hp
    have xx := x'.trans xk
    have hz := xx _ _ (w.at_ _ (List.getElem_mem li))
    have at1 : atI [V.int as[i].2.1, V.int as[i].2.2] (1 - Builtin.bitAnd (x / 2 ^ ((i : Nat) : Int).toNat) 1) = some (.int (sel as[i].2 (bitAt x i))) := by
      rw [PyProof.Rows.bitAnd_m1]
      exact sel_at
    refine ⟨p, _, rfl, SqT.of upd_same, rfl, _, _, rfl, _, _, rfl, rfl, ⟨[some (.int (i : Nat)), some (.ref as[i].1)], rfl, rfl⟩, _, rfl, _, rfl, _, rfl, x, i, rfl, rfl, by omega, _, _, rfl, rfl, _, _, rfl, rfl, as[i].1, _, _, _, rfl, rfl, SqT.of hz, at1, ?_⟩
    have hD4 := xk _ _ hD'
    refine k _ _ hD4 ⟨ext_upd _ xx hD, ?_⟩
    have e1 : (came (as.map (·.2)) x)[i]? = some (sel as[i].2 (bitAt x i)) := came_get (by rw [List.getElem?_map, ea]; rfl)
    rw [take_all e1, List.map_append]
    rfl
  · rintro ys H' ly hD' ⟨x', rfl⟩
    rw [lx, show as.length = (came (as.map (·.2)) x).length by rw [came_len, List.length_map], List.take_length] at hD'
    exact q D H' x' hD hD'
end
end My
set_option Elab.async false
set_option linter.all false
set_option maxRecDepth 100000
set_option maxHeartbeats 1000000
set_option exponentiation.threshold 5000
namespace My
open PySem PySem.W L2
section
variable {P : Program} {w : World} {K : Frag} {mg : Str → Option Value} {base : Heap} {H : Hp} {D : Ends} {σ : St} {p : Addr}
theorem RwP.rds {xs : List V} : ∀ {as : List (Addr × Int × Int)}, RwP H p xs as → BoxAt H p → RdsAll (wo H p) xs ((as.map (·.2)).map pairT) := by
  intro as
  induction as generalizing xs with
  | nil =>
    intro w bx
    have e : xs = [] := w.xs_
    subst e
    exact .nil
  | cons z as ih =>
    intro w bx
    have e : xs = .ref z.1 :: as.map fun z => V.ref z.1 := w.xs_
    subst e
    have hz := w.at_ z (List.mem_cons_self ..)
    exact .cons (.tup (wo_at (bx.neT hz) hz) (.cons (.int _) (.cons (.int _) .nil))) (ih ⟨rfl, fun y hy => w.at_ y (List.mem_cons_of_mem _ hy), fun y hy => w.bit y (List.mem_cons_of_mem _ hy)⟩ bx)
structure RwY (H : Hp) (ys : List V) (zs : List (Addr × Int)) : Prop where
  ys_ : ys = zs.map fun z => V.ref z.1
  at_ : ∀ z ∈ zs, H z.1 = some (.tup [.int z.2, .bl true])
theorem RwY.rds {ys : List V} : ∀ {zs : List (Addr × Int)}, RwY H ys zs → BoxAt H p → RdsAll (wo H p) ys ((zs.map (·.2)).map y1) := by
  intro zs
  induction zs generalizing ys with
  | nil =>
    intro w bx
    have e : ys = [] := w.ys_
    subst e
    exact .nil
  | cons z zs ih =>
    intro w bx
    have e : ys = .ref z.1 :: zs.map fun z => V.ref z.1 := w.ys_
    subst e
    have hz := w.at_ z (List.mem_cons_self ..)
    exact .cons (.tup (wo_at (bx.neT hz) hz) (.cons (.int _) (.cons (.bl _) .nil))) (ih ⟨rfl, fun y hy => w.at_ y (List.mem_cons_of_mem _ hy)⟩ bx)
theorem rd_yesP {Q : VK} {c : Addr} {ns : List Int} (h4 : σ[4]? = some (some (.ref c))) (hc : H c = some (.lst (ns.map V.int))) (l20 : ns.length ≤ 20) (q : ∀ l H' ys zs, Ext H H' → H l = none → H' l = some (.lst ys) → RwY H' ys zs → zs.map (·.2) = ns → Q (.ref l) H') :
    tLCG (iList K (tVar 4)) 1 [] (gName 0) (tTup (tCons (tVar 0) (tCons (tC (.bl true)) tNil))) σ H Q := by
  refine ⟨_, h4, c, rfl, ⟨_, SqL.of hc⟩, fun D' hD => ?_⟩
  refine lcG_list (a := c) (xs := ns.map V.int) (fun i ys H' => Ext H H' ∧ ∃ zs, RwY H' ys zs ∧ zs.map (·.2) = ns.take i) (by rw [List.length_map]; exact Nat.lt_of_le_of_lt l20 (by decide)) ⟨Ext.new hD, [], ⟨rfl, (fun _ h => nomatch h)⟩, rfl⟩ (fun i ys H' p => SqL.of (p.1 _ _ hc)) ?_ ?_
  · rintro i v ys H' ev ly hD' ⟨x', zs, w', lz⟩ os los R k
    rw [List.getElem?_map] at ev
    obtain ⟨n, en, rfl⟩ := Option.map_eq_some_iff.mp ev
    obtain ⟨o0, rfl⟩ : ∃ o0, os = [o0] := by
      match os, los with
      | [o0], _ => exact ⟨o0, rfl⟩
    refine ⟨⟨[some (.int n)], rfl, rfl⟩, _, rfl, by show 2 ≤ sizeLine; decide, fun t ht => ?_⟩
    have x2 := Ext.new (o := .tup [.int n, .bl true]) ht
    have hD2 := x2 _ _ hD'
    have f2 : upd H' t (.tup [.int n, .bl true]) t = some (.tup [.int n, .bl true]) := upd_same
    refine k _ _ hD2 ⟨ext_upd _ (x'.trans x2) hD, zs ++ [(t, n)], ⟨by rw [w'.ys_, List.map_append]; rfl, fun z hz => ?_⟩, by rw [List.map_append, lz, take_all en]; rfl⟩
    have hz2 : upd H' t (.tup [.int n, .bl true]) z.1 = some (.tup [.int z.2, .bl true]) := by
      rcases List.mem_append.mp hz with hz | hz
      · exact x2 _ _ (w'.at_ z hz)
      · cases List.mem_singleton.mp hz; exact f2
    rw [upd_ne (fun e => by rw [e, hD2] at hz2; cases hz2)]
    exact hz2
  · rintro ys H' ly hD' ⟨x', zs, w', lz⟩
    rw [List.length_map, List.take_length] at lz
    exact q D' H' ys zs x' hD hD' w' lz
theorem mem_set_or {α : Type} {xs : List α} {i : Nat} {a z : α} (h : z ∈ xs.set i a) : z ∈ xs ∨ z = a := List.mem_or_eq_of_mem_set h
theorem rd_ca5 {l : Addr} {o1 o2 o4 : Option V} {k : Nat} {xs : List V} {as : List (Addr × Int × Int)} (bx : BoxAt H p) (hl : H l = some (.lst xs)) (nl : l ≠ p) (w : RwP H p xs as) (hk : k < as.length)
    (nx : ∀ xs' as' H', BoxAt H' p → (∀ b o, H b = some o → b ≠ p → b ≠ l → H' b = some o) → H' l = some (.lst xs') → RwP H' p xs' as' → as'.length = as.length → D.nx [some (.ref p), o1, o2, some (.ref l), o4, some (.int (k : Nat))] H') :
    tCa5 K D [some (.ref p), o1, o2, some (.ref l), o4, some (.int (k : Nat))] H := by
  refine rd_take (i := 0) rfl bx (fun R r => r) (by decide) (by decide) fun r H1 h0 h2 bx1 k1 => ⟨rfl, _, rfl, ?_⟩
  have hl1 := k1 _ _ hl nl
  have w1 := w.kept bx k1
  cases decide (V.int r = V.int 0) with
  | false => exact itF (nx xs as H1 bx1 (fun b o h n _ => k1 b o h n) hl1 w1 rfl)
  | true =>
    refine itT ?_
    have ea := List.getElem?_eq_getElem hk
    have at1 : atI xs ((k : Nat) : Int) = some (.ref as[k].1) := atI_nat (by rw [w1.xs_, List.getElem?_map, ea]; rfl)
    have hz := w1.at_ _ (List.getElem_mem hk)
    have bz := w1.bit _ (List.getElem_mem hk)
    refine ⟨_, rfl, _, rfl, l, _, _, _, rfl, rfl, SqL.of hl1, at1, as[k].1, _, _, _, rfl, rfl, SqT.of hz, rfl, _, rfl, _, rfl, l, _, _, _, rfl, rfl, SqL.of hl1, at1, as[k].1, _, _, _, rfl, rfl, SqT.of hz, rfl, by show 2 ≤ sizeLine; decide, fun t ht => ?_⟩
    have x2 := Ext.new (o := .tup [.int as[k].2.2, .int as[k].2.1]) ht
    have f2 : upd H1 t (.tup [.int as[k].2.2, .int as[k].2.1]) t = some (.tup [.int as[k].2.2, .int as[k].2.1]) := upd_same
    have hl2 := x2 _ _ hl1
    have lx : xs.length = as.length := by rw [w.xs_, List.length_map]
    refine ⟨_, rfl, _, rfl, l, xs, _, k, rfl, rfl, hl2, ?_, ?_⟩
    · have e : ixN xs.length ((k : Nat) : Int) = some k := by
        unfold ixN
        simp [show k < xs.length by omega]
      exact e
    have w2 := w1.ext x2
    have bx2 := bx1.ext x2
    refine nx _ (as.set k (t, as[k].2.2, as[k].2.1)) _ (bx2.up nl) (fun b o h n n2 => ?_) upd_same ?_ (List.length_set ..)
    · rw [upd_ne n2]
      exact x2 _ _ (k1 b o h n)
    · have w3 : RwP (upd H1 t (.tup [.int as[k].2.2, .int as[k].2.1])) p (xs.set k (.ref t)) (as.set k (t, as[k].2.2, as[k].2.1)) := by
        refine ⟨by rw [w2.xs_, List.map_set], fun z hz => ?_, fun z hz => ?_⟩
        · rcases mem_set_or hz with hz | rfl
          · exact w2.at_ z hz
          · exact f2
        · rcases mem_set_or hz with hz | rfl
          · exact w2.bit z hz
          · exact ⟨bz.2, bz.1⟩
      exact w3.upL hl2
theorem sel_bit {q : Int × Int} {b : Int} (h : (0 ≤ q.1 ∧ q.1 ≤ 1) ∧ (0 ≤ q.2 ∧ q.2 ≤ 1)) : 0 ≤ sel q b ∧ sel q b ≤ 1 := by
  unfold sel
  split
  · exact h.1
  · exact h.2
theorem ok_ca {f a1 : Addr} {fd d1 : FuncData} (F : Fun K "_law_case" "_law_case" sCa f fd) (A1 : Df P w K mg base CX0 1 "_law_take" ["_law_box_here", "_law_many"] spTake a1 d1) (mi : mg "int" = none) (mr : mg "range" = none) (me : mg "enumerate" = none) : FnOk P w K mg base CX0 2 f fd ["_law_box_here"] spCa := by
  refine F.ok scCa (fun vs H Q E h => ?_) (fun cdv A outer s H vs Q E hr h => ?_)
  · obtain ⟨p, rfl, _⟩ := h
    rfl
  obtain ⟨p, rfl, bx, q⟩ := h
  obtain ⟨der⟩ := ca_der A1 mi mr me hr (f := f) (cdv := cdv) (A := A) (outer := outer) (s := s) (H := H) (E := E) (P := P) (w := w) (base := base)
  refine ⟨_, der, ?_⟩
  refine rd_ca0 (D := ⟨_, Q, _, _⟩) bx fun n H1 n1 n20 bx1 k1 => ?_
  refine rd_ca1 (D := ⟨_, Q, _, _⟩) bx1 n20 fun x H2 x0 xn bx2 k2 => ?_
  refine rd_ca2 (D := ⟨_, Q, _, _⟩) bx2 n20 fun l xs as H3 bx3 k3 hl0 hl nl w3 la => ?_
  refine rd_set (te := tLCG (iEnum K (tCons (tVar 3) tNil)) 2 [2] (gTup K 2 (gCons (gName 0) (gCons (gName 1) gNil))) (tSelE K)) (i := 4) (D := ⟨_, Q, _, _⟩) ?_
  refine rd_cameI 3 2 rfl rfl hl w3.rws (by omega) fun c H4 x4 hc0 hc => ?_
  have bx4 := bx3.ext x4
  have nc : c ≠ p := bx3.ne hc0
  have ncl : c ≠ l := fun e => by rw [e, hl] at hc0; cases hc0
  refine rd_take (i := 0) rfl bx4 (fun R r => ⟨_, rfl, r⟩) (by omega) (by omega) fun k H5 k0 kn bx5 k5 => ?_
  have ek : k = ((k.toNat : Nat) : Int) := by omega
  rw [ek]
  have hl5 := k5 _ _ (x4 _ _ hl) nl
  have hc5 := k5 _ _ hc nc
  have w5 := (w3.ext x4).kept bx4 k5
  refine rd_ca5 (D := ⟨_, Q, _, _⟩) (k := k.toNat) bx5 hl5 nl w5 (by omega) fun xs' as' H6 bx6 k6 hl6 w6 la6 => ?_
  have hc6 := k6 _ _ hc5 nc ncl
  have kk : Kept H2 H6 p := fun b o h n => k6 b o (k5 _ _ (x4 _ _ (k3 b o h n)) n) n (fun e => by rw [e, hl0] at h; cases h)
  have kA := (k1.trans k2).trans kk
  have lc : (came (as.map (·.2)) x).length = n := by rw [came_len, List.length_map, la]
  refine ⟨_, rfl, rd_yesP rfl hc6 (by omega) fun m H7 ys zs x7 hm0 hm wy ez => ⟨_, rfl, by show 3 ≤ sizeLine; decide, fun t ht => ?_⟩⟩
  have bx7 := bx6.ext x7
  have nm : m ≠ p := bx6.ne hm0
  have xt := Ext.new (o := .lst [.ref l, .ref m, .int x]) ht
  have bx8 := bx7.ext xt
  refine q t l m x (as'.map (·.2)) (came (as.map (·.2)) x) _ ((kA.trans (x7.kept p)).trans (xt.kept p)) bx8 ?_ (bx7.ne ht) upd_same
  have wl := w6.ext (x7.trans xt)
  have wm : RwY (upd H7 t (.lst [.ref l, .ref m, .int x])) ys zs := ⟨wy.ys_, fun z hz => xt _ _ (wy.at_ z hz)⟩
  refine ⟨.lst (wo_at nl ((x7.trans xt) _ _ hl6)) (wl.rds bx8), ?_, by rw [List.length_map, lc]; omega, by omega, by omega, ?_, ?_, x0, by rw [lc]; exact xn⟩
  · have z := wm.rds bx8
    rw [ez] at z
    exact .lst (wo_at nm (xt _ _ hm)) z
  · intro y hy
    obtain ⟨z, hz, rfl⟩ := List.mem_map.mp hy
    exact w6.bit z hz
  · intro y hy
    unfold came at hy
    obtain ⟨z, hz, rfl⟩ := List.mem_map.mp hy
    have hz1 := List.mem_zipIdx hz
    have hm1 : z.1 ∈ as.map (·.2) := by
      have := hz1.2.2
      rw [this]
      exact List.getElem_mem _
    obtain ⟨u, hu, eu⟩ := List.mem_map.mp hm1
    exact sel_bit (by rw [← eu]; exact w3.bit u hu)
end
end My
set_option Elab.async false
set_option linter.all false
set_option maxRecDepth 100000
set_option maxHeartbeats 1000000
set_option exponentiation.threshold 5000
namespace My
open PySem PySem.W L2
def RdF (G : Hp) (xs : List V) (n : Nat) : Prop := ∃ ds, RdsAll G xs ds ∧ ds.length ≤ n ∧ ∀ d ∈ ds, Fi 2 60 d
section
variable {G G' : Hp} {xs ys : List V} {n m : Nat}
theorem RdF.mono (h : RdF G xs n) (x : Ext G G') : RdF G' xs n := by
  obtain ⟨ds, r, l, f⟩ := h
  exact ⟨ds, RdsAll.mono x r, l, f⟩
theorem RdF.le (h : RdF G xs n) (l : n ≤ m) : RdF G xs m := by
  obtain ⟨ds, r, l', f⟩ := h
  exact ⟨ds, r, Nat.le_trans l' l, f⟩
theorem RdF.app (h : RdF G xs n) (k : RdF G ys m) : RdF G (xs ++ ys) (n + m) := by
  obtain ⟨ds, r, l, f⟩ := h
  obtain ⟨es, r', l', f'⟩ := k
  refine ⟨ds ++ es, r.append r', by rw [List.length_append]; omega, fun d hd => ?_⟩
  rcases List.mem_append.mp hd with hd | hd
  · exact f d hd
  · exact f' d hd
theorem RdF.nil : RdF G [] 0 := ⟨[], .nil, Nat.le_refl _, (fun _ h => nomatch h)⟩
theorem RdF.one {v : V} {d : PyData} (r : Rds G v d) (f : Fi 2 60 d) : RdF G [v] 1 := ⟨[d], .cons r .nil, Nat.le_refl _, fun e he => by cases List.mem_singleton.mp he; exact f⟩
theorem RdsAll.drop : ∀ {xs : List V} {ds : List PyData} (i : Nat), RdsAll G xs ds → RdsAll G (xs.drop i) (ds.drop i)
  | _, _, 0, h => h
  | _, _, i + 1, .nil => .nil
  | _, _, i + 1, .cons _ t => RdsAll.drop i t
theorem RdsAll.take : ∀ {xs : List V} {ds : List PyData} (i : Nat), RdsAll G xs ds → RdsAll G (xs.take i) (ds.take i)
  | _, _, 0, h => .nil
  | _, _, i + 1, .nil => .nil
  | _, _, i + 1, .cons r t => .cons r (RdsAll.take i t)
theorem RdF.cut (h : RdF G xs n) (lo hi : Option Int) : RdF G (cutV xs lo hi) n := by
  obtain ⟨ds, r, l, f⟩ := h
  unfold cutV
  refine ⟨_, (r.drop _).take _, ?_, fun d hd => f d (List.mem_of_mem_drop (List.mem_of_mem_take hd))⟩
  rw [List.length_take, List.length_drop]
  omega
theorem RdF.rep (h : RdF G xs n) : ∀ k : Nat, RdF G (List.replicate k xs).flatten (k * n)
  | 0 => by rw [Nat.zero_mul]; exact RdF.nil
  | k + 1 => by
    rw [List.replicate_succ, List.flatten_cons, Nat.succ_mul, Nat.add_comm]
    exact h.app (RdF.rep h k)
theorem RdF.len (h : RdF G xs n) : xs.length ≤ n := by
  obtain ⟨ds, r, l, f⟩ := h
  rw [r.length]
  exact l
theorem RdF.get (h : RdF G xs n) {i : Nat} {v : V} (e : xs[i]? = some v) : ∃ d, Rds G v d ∧ Fi 2 60 d := by
  obtain ⟨ds, r, l, f⟩ := h
  obtain ⟨d, ed, rd⟩ := r.get e
  exact ⟨d, rd, f d (List.mem_of_getElem? ed)⟩
end
def wt (H : Hp) (p t : Addr) : Hp := wo (wo H p) t
theorem wt_ext (H : Hp) (p t : Addr) : Ext (wt H p t) H := (wo_ext _ t).trans (wo_ext H p)
theorem wt_at {H : Hp} {p t b : Addr} {o : HO} (n : b ≠ p) (m : b ≠ t) (e : H b = some o) : wt H p t b = some o := wo_at m (wo_at n e)
theorem wt_kept {H H' : Hp} {p t : Addr} (k : Kept H H' p) : Ext (wt H p t) (wt H' p t) := wo_kept ((wo_kept k).kept t)
theorem wt_ex {H H' : Hp} (x : Ext H H') (p t : Addr) : Ext (wt H p t) (wt H' p t) := wt_kept (x.kept p)
theorem fr_ne {H : Hp} {a t : Addr} {u : HO} (h : H t = some u) (e : H a = none) : a ≠ t := fun z => by rw [z, h] at e; cases e
def Tg (G : Hp) (v : V) : Prop := ∃ d, Rds G v d ∧ Fi 3 30000 d ∧ Small d
theorem Tg.mono {G G' : Hp} {v : V} (h : Tg G v) (x : Ext G G') : Tg G' v := by
  obtain ⟨d, r, f⟩ := h
  exact ⟨d, r.mono x, f⟩
theorem tg_list {G : Hp} {l : Addr} {ys : List V} {n : Nat} (h : G l = some (.lst ys)) (r : RdF G ys n) (hn : n ≤ 420) : Tg G (.ref l) := by
  obtain ⟨ds, rd, le, f⟩ := r
  exact ⟨.list ds, .lst h rd, (fi_list f (Nat.le_trans le hn)).mono (by decide) (by decide), fun es e => by cases e; omega⟩
theorem tg_tup {G : Hp} {l : Addr} {ys : List V} {n : Nat} (h : G l = some (.tup ys)) (r : RdF G ys n) (hn : n ≤ 420) : Tg G (.ref l) := by
  obtain ⟨ds, rd, le, f⟩ := r
  exact ⟨.tuple ds, .tup h rd, (fi_tuple f (Nat.le_trans le hn)).mono (by decide) (by decide), fun es e => by cases e⟩
theorem fi_dic0 : Fi 1 3 (.dict []) := ⟨by simp [PyData.showable, PyData.showableKv], by simp [PyData.depth, PyData.depthKv], by simp [PyData.leavesShort, PyData.leavesShortKv], by simp [PyData.bulk, PyData.bulkKv]⟩
theorem fi_10 : Fi 0 60 (.str "1 0") := ⟨rfl, by simp [PyData.depth], by decide +kernel, by decide +kernel⟩
section
variable {P : Program} {w : World} {K : Frag} {mg : Str → Option Value} {base : Heap}
abbrev sSp : Stmt := top 44
abbrev stSp (i : Nat) : Stmt := (defBody sSp).getD i (.Pass ⟨0, 0, 0, 0⟩)
def spSp : Sp := fun vs H Q _ => ∃ p a o t xs zs u, vs = [.ref p, .ref a, .ref o] ∧ BoxAt H p ∧ H t = some u ∧ t ≠ p ∧ wt H p t a = some (.lst xs) ∧ RdF (wt H p t) xs 20 ∧ 1 ≤ xs.length ∧ wt H p t o = some (.lst zs) ∧ RdF (wt H p t) zs 20 ∧ 1 ≤ zs.length ∧ ∀ v H', Kept H H' p → BoxAt H' p → Tg (wt H' p t) v → Q v H'
abbrev NSp : List Str := ["_law_box_here", "_law_some", "_law_odd", "_law_at", "_law_thing", "_law_way"]
theorem scSp : FnScope NSp ["_law_box_here", "_law_some", "_law_odd"] (defScope sSp) := ⟨rfl, rfl, rfl, by decide +kernel, rfl, by decide +kernel, by decide +kernel⟩
def tSp0 (K : Frag) : TS := tAsg (tTk 0 (tLenI K 1)) (gName 3)
def tSp1 (K : Frag) : TS := tAsg (tOp (rIxL K) (tVar 2) (tTk 0 (tLenI K 2))) (gName 4)
def tSp2 : TS := tAsg (tTk 0 (tC (.int 8))) (gName 5)
def tEight (K : Frag) : TE := tLst (tCons (tC .non) (tCons (tCB (rTupQ K) (tCons (tVar 1) tNil)) (tCons tDNewK (tCons (tC (.str "1 0")) (tCons (tC (.int 7)) (tCons (tC (.bl true)) (tCons (tLst tNil) (tCons (tOp rRep (tVar 1) (tC (.int 21))) tNil))))))))
def tSp3 (K : Frag) : TS := tIfS (tE2 5 (.int 0)) (tRet (tOp (rIxL K) (tEight K) (tTk 0 (tC (.int 8))))) tNext
def tLo (K : Frag) : TE := tSl (rSlL K) (tVar 1) tNoPart (tPart (tVar 3))
def tHi (K : Frag) : TE := tSl (rSlL K) (tVar 1) (tPart (tOp (rI0 fun i j => .int (i + j)) (tVar 3) (tC (.int 1)))) tNoPart
def tSp4 (K : Frag) : TS := tIfS (tE2 5 (.int 1)) (tRet (tOp rCat (tLo K) (tHi K))) tNext
def tSp5 (K : Frag) : TS := tIfS (tE2 5 (.int 2)) (tRet (tOp rCat (tVar 1) (tLst (tCons (tOp (rIxL K) (tVar 1) (tVar 3)) tNil)))) tNext
def tSp6 (K : Frag) : TS := tRet (tOp rCat (tOp rCat (tLo K) (tLst (tCons (tVar 4) tNil))) (tHi K))
def tSp (K : Frag) : TS := tSeq (tSp0 K) (tSeq (tSp1 K) (tSeq tSp2 (tSeq (tSp3 K) (tSeq (tSp4 K) (tSeq (tSp5 K) (tSp6 K))))))
variable {f : Addr} {cdv : Value} {A : Around} {outer : List Env} {s : Shared} {H : Hp} {E : XK} {a1 : Addr} {d1 : FuncData}
theorem sp_0 (A1 : Df P w K mg base CX0 1 "_law_take" ["_law_box_here", "_law_many"] spTake a1 d1) (ml : mg "len" = none) (hr : Room 1 (A.deeper (PyProof.Rows.envOfC "_law_spoilt" (defScope sSp) s.heap.objs.size f cdv))) : Bx (PS (cxOf CX0 P w K mg base NSp "_law_spoilt" (defScope sSp) f cdv A outer s H E).nox (stSp 0) (tSp0 K)) :=
  bx_set (i := 3) scSp.nd rfl (Or.inl rfl) ⟨pe_call A1.G hr rfl A1.m A1.kp A1.b .nil pass0 (pa_cons (pv 0) (pa_cons (pe_callB call_len_seq rfl ml PySem.boot_len (pa_cons (pv 1) pa_nil)) pa_nil))⟩
theorem sp_1 (A1 : Df P w K mg base CX0 1 "_law_take" ["_law_box_here", "_law_many"] spTake a1 d1) (ml : mg "len" = none) (hr : Room 1 (A.deeper (PyProof.Rows.envOfC "_law_spoilt" (defScope sSp) s.heap.objs.size f cdv))) : Bx (PS (cxOf CX0 P w K mg base NSp "_law_spoilt" (defScope sSp) f cdv A outer s H E).nox (stSp 1) (tSp1 K)) :=
  bx_set (i := 4) scSp.nd rfl (Or.inl rfl) (bx_ix ix_list ⟨pv 2⟩ ⟨pe_call A1.G hr rfl A1.m A1.kp A1.b .nil pass0 (pa_cons (pv 0) (pa_cons (pe_callB call_len_seq rfl ml PySem.boot_len (pa_cons (pv 2) pa_nil)) pa_nil))⟩ (fun _ _ => rfl))
theorem sp_2 (A1 : Df P w K mg base CX0 1 "_law_take" ["_law_box_here", "_law_many"] spTake a1 d1) (hr : Room 1 (A.deeper (PyProof.Rows.envOfC "_law_spoilt" (defScope sSp) s.heap.objs.size f cdv))) : Bx (PS (cxOf CX0 P w K mg base NSp "_law_spoilt" (defScope sSp) f cdv A outer s H E).nox (stSp 2) tSp2) :=
  bx_set (i := 5) scSp.nd rfl (Or.inl rfl) ⟨pe_call A1.G hr rfl A1.m A1.kp A1.b .nil pass0 (pa_cons (pv 0) (pa_cons pe_int pa_nil))⟩
theorem sp_3 (A1 : Df P w K mg base CX0 1 "_law_take" ["_law_box_here", "_law_many"] spTake a1 d1) (mt : mg "tuple" = none) (hr : Room 1 (A.deeper (PyProof.Rows.envOfC "_law_spoilt" (defScope sSp) s.heap.objs.size f cdv))) : Bx (PS (cxOf CX0 P w K mg base NSp "_law_spoilt" (defScope sSp) f cdv A outer s H E).nox (stSp 3) (tSp3 K)) :=
  bx_if ⟨pt_cmpR op_eq (pv 5) pe_int (nomark _)⟩ (bxs_one (bx_ret (bx_ix ix_list (bx_lst (bxa_cons ⟨pe_non⟩ (bxa_cons ⟨pe_callTy call_tuple_of rfl mt PyProof.Rows.boot_tuple (pa_cons (pv 1) pa_nil)⟩ (bxa_cons ⟨pe_dnewK⟩ (bxa_cons ⟨pe_str⟩ (bxa_cons ⟨pe_int⟩ (bxa_cons ⟨pe_bl⟩ (bxa_cons (bx_lst bxa_nil) (bxa_cons ⟨pe_op op_rep (pv 1) pe_int⟩ bxa_nil)))))))))
    ⟨pe_call A1.G hr rfl A1.m A1.kp A1.b .nil pass0 (pa_cons (pv 0) (pa_cons pe_int pa_nil))⟩ (fun _ _ => rfl)))) bxs_nil
theorem sp_4 : Bx (PS (cxOf CX0 P w K mg base NSp "_law_spoilt" (defScope sSp) f cdv A outer s H E).nox (stSp 4) (tSp4 K)) :=
  ⟨ps_if (pt_cmpR op_eq (pv 5) pe_int (nomark _)) (pss_one (ps_ret (pe_op op_cat (pe_slice sl_list (pv 1) po_none (po_some (pv 3))) (pe_slice sl_list (pv 1) (po_some (pe_op op_add (pv 3) pe_int)) po_none)))) pss_nil⟩
theorem sp_5 : Bx (PS (cxOf CX0 P w K mg base NSp "_law_spoilt" (defScope sSp) f cdv A outer s H E).nox (stSp 5) (tSp5 K)) :=
  ⟨ps_if (pt_cmpR op_eq (pv 5) pe_int (nomark _)) (pss_one (ps_ret (pe_op op_cat (pv 1) (pe_lst (pa_cons (pe_ix ix_list (pv 1) (pv 3) (fun _ _ => rfl)) pa_nil))))) pss_nil⟩
theorem sp_6 : Bx (PS (cxOf CX0 P w K mg base NSp "_law_spoilt" (defScope sSp) f cdv A outer s H E).nox (stSp 6) (tSp6 K)) :=
  ⟨ps_ret (pe_op op_cat (pe_op op_cat (pe_slice sl_list (pv 1) po_none (po_some (pv 3))) (pe_lst (pa_cons (pv 4) pa_nil))) (pe_slice sl_list (pv 1) (po_some (pe_op op_add (pv 3) pe_int)) po_none))⟩
theorem sp_der (A1 : Df P w K mg base CX0 1 "_law_take" ["_law_box_here", "_law_many"] spTake a1 d1) (ml : mg "len" = none) (mt : mg "tuple" = none) (hr : Room 1 (A.deeper (PyProof.Rows.envOfC "_law_spoilt" (defScope sSp) s.heap.objs.size f cdv))) : Bx (PSs (cxOf CX0 P w K mg base NSp "_law_spoilt" (defScope sSp) f cdv A outer s H E).nox (defBody sSp) (tSp K)) :=
  bxs_cons (sp_0 A1 ml hr) (bxs_cons (sp_1 A1 ml hr) (bxs_cons (sp_2 A1 hr) (bxs_cons (sp_3 A1 mt hr) (bxs_cons sp_4 (bxs_cons sp_5 (bxs_one sp_6))))))
end
end My
set_option Elab.async false
set_option linter.all false
set_option maxRecDepth 100000
set_option maxHeartbeats 1000000
set_option exponentiation.threshold 5000
namespace My
open PySem PySem.W L2
theorem wo_ne {H : Hp} {p a : Addr} {o : HO} (h : wo H p a = some o) : a ≠ p := fun e => by
  unfold wo at h
  rw [if_pos e] at h
  cases h
theorem wo_ex {H H' : Hp} (x : Ext H H') (p : Addr) : Ext (wo H p) (wo H' p) := wo_kept (x.kept p)
theorem fi_leaf {G : Hp} {v : V} {d : PyData} (r : Rds G v d) (f : Fi 3 30000 d) (s : Small d) : Tg G v := ⟨d, r, f, s⟩
theorem at_to {α : Type} {xs : List α} {i : Int} (h0 : 0 ≤ i) (h : i.toNat < xs.length) : atI xs i = some xs[i.toNat] := by
  have e := atI_nat (List.getElem?_eq_getElem h)
  rwa [show ((i.toNat : Nat) : Int) = i by omega] at e
section
variable {P : Program} {w : World} {K : Frag} {mg : Str → Option Value} {base : Heap} {H : Hp} {D : Ends} {σ : St} {p q0 : Addr} {u0 : HO}
theorem rd_eight {Q : VK} {a : Addr} {xs : List V} (hq : H q0 = some u0) (h1 : σ[1]? = some (some (.ref a))) (bx : BoxAt H p) (ha : wt H p q0 a = some (.lst xs)) (rx : RdF (wt H p q0) xs 20) (q : ∀ l vs H', Ext H H' → H' l = some (.lst vs) → vs.length = 8 → (∀ (i : Nat) v, vs[i]? = some v → Tg (wt H' p q0) v) → Q (.ref l) H') : tEight K σ H Q := by
  have ha0 := wt_ext H p q0 _ _ ha
  have lx := rx.len
  refine ⟨_, h1, a, _, rfl, .inl ⟨SqL.of ha0, fun t ht => ?_⟩⟩
  have x1 := Ext.new (o := .tup xs) ht
  have ft : upd H t (.tup xs) t = some (.tup xs) := upd_same
  generalize upd H t (.tup xs) = H1 at x1 ft ⊢
  intro d hd
  have nt2 := fr_ne hq ht
  have nd2 := fr_ne (x1 _ _ hq) hd
  have x2 := Ext.new (o := .dK []) hd
  have fd : upd H1 d (.dK []) d = some (.dK []) := upd_same
  have nd := (bx.ext x1).ne hd
  generalize upd H1 d (.dK []) = H2 at x2 fd ⊢
  refine ⟨by show 0 ≤ sizeLine; decide, fun e he => ?_⟩
  have x3 := Ext.new (o := .lst []) he
  have fe : upd H2 e (.lst []) e = some (.lst []) := upd_same
  have bx2 := (bx.ext x1).ext x2
  have ne := bx2.ne he
  have ne2 := fr_ne (x2 _ _ (x1 _ _ hq)) he
  generalize upd H2 e (.lst []) = H3 at x3 fe ⊢
  have x13 := (x1.trans x2).trans x3
  refine ⟨_, h1, a, 21, xs, rfl, rfl, x13 _ _ ha0, by decide, by decide, ?_, fun r hr => ?_⟩
  · show xs.length * 21 ≤ sizeLine
    rw [sizeLine_eq]
    omega
  have x4 := Ext.new (o := .lst (List.replicate (21 : Int).toNat xs).flatten) hr
  have fr : upd H3 r (.lst (List.replicate (21 : Int).toNat xs).flatten) r = some (.lst (List.replicate (21 : Int).toNat xs).flatten) := upd_same
  have bx3 := bx2.ext x3
  have nr := bx3.ne hr
  have nr2 := fr_ne (x13 _ _ hq) hr
  generalize upd H3 r (.lst (List.replicate (21 : Int).toNat xs).flatten) = H4 at x4 fr ⊢
  refine ⟨by show 8 ≤ sizeLine; decide, fun l hl => ?_⟩
  have x5 := Ext.new (o := .lst [.non, .ref t, .ref d, .str "1 0", .int 7, .bl true, .ref e, .ref r]) hl
  have x45 := x4.trans x5
  have x35 := x3.trans x45
  have x25 := x2.trans x35
  have x05 := x1.trans x25
  have r5 := rx.mono (wt_ex x05 p q0)
  have nt := (bx.ext x1).neT ft
  refine q l _ _ x05 upd_same rfl fun i v hv => ?_
  have g7 := r5.rep 21
  generalize hH5 : upd H4 l (.lst [.non, .ref t, .ref d, .str "1 0", .int 7, .bl true, .ref e, .ref r]) = H5 at x5 x45 x35 x25 x05 r5 g7 ⊢
  match i, hv with
  | 0, hv => cases hv; exact fi_leaf .non (fi_none.mono (by decide) (by decide)) (fun _ e => by cases e)
  | 1, hv => cases hv; exact tg_tup (wt_at nt nt2 (x25 _ _ ft)) r5 (by decide)
  | 2, hv => cases hv; exact fi_leaf (.dic0 (wt_at nd nd2 (x35 _ _ fd))) (fi_dic0.mono (by decide) (by decide)) (fun _ e => by cases e)
  | 3, hv => cases hv; exact fi_leaf (.str _) (fi_10.mono (by decide) (by decide)) (fun _ e => by cases e)
  | 4, hv => cases hv; exact fi_leaf (.int _) ((fi_small (by decide) (by decide)).mono (by decide) (by decide)) (fun _ e => by cases e)
  | 5, hv => cases hv; exact fi_leaf (.bl _) (fi_bool.mono (by decide) (by decide)) (fun _ e => by cases e)
  | 6, hv => cases hv; exact tg_list (wt_at ne ne2 (x45 _ _ fe)) RdF.nil (by decide)
  | 7, hv => cases hv; exact tg_list (wt_at nr nr2 (x5 _ _ fr)) g7 (by decide)
  | n + 8, hv => cases hv
theorem rd_lo {Q : VK} {a : Addr} {k : Int} {xs : List V} {n : Nat} (h1 : σ[1]? = some (some (.ref a))) (h3 : σ[3]? = some (some (.int k))) (bx : BoxAt H p) (ha : H a = some (.lst xs)) (rx : RdF (wt H p q0) xs n) (q : ∀ l ys H', Ext H H' → H' l = some (.lst ys) → RdF (wt H' p q0) ys n → Q (.ref l) H') : tLo K σ H Q :=
  ⟨_, h1, _, h3, k, rfl, a, xs, rfl, SqL.of ha, fun l hl => q l _ _ (Ext.new hl) upd_same ((rx.cut _ _).mono (wt_ex (Ext.new hl) p q0))⟩
theorem rd_hi {Q : VK} {a : Addr} {k : Int} {xs : List V} {n : Nat} (h1 : σ[1]? = some (some (.ref a))) (h3 : σ[3]? = some (some (.int k))) (bx : BoxAt H p) (ha : H a = some (.lst xs)) (rx : RdF (wt H p q0) xs n) (q : ∀ l ys H', Ext H H' → H' l = some (.lst ys) → RdF (wt H' p q0) ys n → Q (.ref l) H') : tHi K σ H Q :=
  ⟨_, h1, _, h3, _, _, rfl, rfl, _, rfl, a, xs, rfl, SqL.of ha, fun l hl => q l _ _ (Ext.new hl) upd_same ((rx.cut _ _).mono (wt_ex (Ext.new hl) p q0))⟩
theorem rd_cat {Q : VK} {a b : Addr} {xs ys : List V} {n m : Nat} (ha : H a = some (.lst xs)) (hb : H b = some (.lst ys)) (rx : RdF (wt H p q0) xs n) (ry : RdF (wt H p q0) ys m) (small : n + m ≤ 1000) (q : ∀ l H', Ext H H' → H l = none → H' l = some (.lst (xs ++ ys)) → RdF (wt H' p q0) (xs ++ ys) (n + m) → Q (.ref l) H') : rCat (.ref a) (.ref b) H Q := by
  refine ⟨a, b, xs, ys, rfl, rfl, ha, hb, ?_, fun l hl => q l _ (Ext.new hl) hl upd_same ((rx.app ry).mono (wt_ex (Ext.new hl) p q0))⟩
  have := rx.len
  have := ry.len
  rw [sizeLine_eq]
  omega
theorem ok_sp {f a1 : Addr} {fd d1 : FuncData} (F : Fun K "_law_spoilt" "_law_spoilt" sSp f fd) (A1 : Df P w K mg base CX0 1 "_law_take" ["_law_box_here", "_law_many"] spTake a1 d1) (ml : mg "len" = none) (mt : mg "tuple" = none) : FnOk P w K mg base CX0 2 f fd ["_law_box_here", "_law_some", "_law_odd"] spSp := by
  refine F.ok scSp (fun vs H Q E h => ?_) (fun cdv A outer s H vs Q E hr h => ?_)
  · obtain ⟨p, a, o, q0, xs, zs, u0, rfl, _⟩ := h
    rfl
  obtain ⟨p, a, o, q0, xs, zs, u0, rfl, bx, hq, nq, ha, rx, lx, ho, rz, lz, q⟩ := h
  obtain ⟨der⟩ := sp_der A1 ml mt hr (f := f) (cdv := cdv) (A := A) (outer := outer) (s := s) (H := H) (E := E) (P := P) (w := w) (base := base)
  refine ⟨_, der, ?_⟩
  have lx2 := rx.len
  have lz2 := rz.len
  refine rd_take (i := 0) (m := (xs.length : Nat)) rfl bx (fun R r => ⟨_, rfl, a, _, rfl, .inl (SqL.of (wt_ext H p q0 _ _ ha)), r⟩) (by omega) (by omega) fun k H1 k0 kn bx1 k1 => ?_
  have e1 := wt_kept (t := q0) k1
  refine ⟨_, rfl, rd_take (i := 0) (m := (zs.length : Nat)) rfl bx1 (fun R r => ⟨_, rfl, o, _, rfl, .inl (SqL.of (wt_ext H1 p q0 _ _ (e1 _ _ ho))), r⟩) (by omega) (by omega) fun j H2 j0 jn bx2 k2 => ?_⟩
  have e2 := wt_kept (t := q0) k2
  have ej : j = ((j.toNat : Nat) : Int) := by omega
  have hj : j.toNat < zs.length := by omega
  have at1 : atI zs j = some zs[j.toNat] := at_to j0 hj
  refine ⟨o, _, _, _, rfl, rfl, SqL.of (wt_ext H2 p q0 _ _ (e2 _ _ (e1 _ _ ho))), at1, ?_⟩
  obtain ⟨dt, rt, ft⟩ := rz.get (List.getElem?_eq_getElem hj)
  refine rd_take (i := 0) rfl bx2 (fun R r => r) (by decide) (by decide) fun y H3 y0 y8 bx3 k3 => ?_
  have e3 := wt_kept (t := q0) k3
  have e03 : Ext (wt H p q0) (wt H3 p q0) := fun b u h => e3 _ _ (e2 _ _ (e1 _ _ h))
  have kk := (k1.trans k2).trans k3
  have ha3 := e03 _ _ ha
  have ha3' := wt_ext H3 p q0 _ _ ha3
  have rx3 := rx.mono e03
  have rt3 := rt.mono e03
  have hq3 := kk _ _ hq nq
  clear k1 k2 k3 e1 e2 e3 bx1 bx2
  refine ⟨_, rfl, rfl, _, rfl, ?_⟩
  cases decide (V.int y = V.int 0) with
  | true =>
    refine itT (rd_op (rd_eight hq3 rfl bx3 ha3 rx3 fun l vs H4 x4 hl lv tg => ?_))
    have bx4 := bx3.ext x4
    have nl := bx4.neL hl (by omega)
    refine rd_take (i := 0) rfl bx4 (fun R r => r) (by decide) (by decide) fun i H5 i0 i8 bx5 k5 => ?_
    have hi : i.toNat < vs.length := by omega
    have ei : i = ((i.toNat : Nat) : Int) := by omega
    have at2 : atI vs i = some vs[i.toNat] := at_to i0 hi
    refine ⟨l, _, _, _, rfl, rfl, SqL.of (k5 _ _ hl nl), at2, ?_⟩
    exact q _ H5 ((kk.trans (x4.kept p)).trans k5) bx5 ((tg _ _ (List.getElem?_eq_getElem hi)).mono (wt_kept k5))
  | false =>
  refine itF ⟨_, rfl, rfl, _, rfl, ?_⟩
  have fin : ∀ {l : Addr} {ys : List V} {m : Nat} {H4 H5 : Hp}, Ext H3 H4 → Ext H4 H5 → H4 l = none → H5 l = some (.lst ys) → RdF (wt H5 p q0) ys m → m ≤ 420 → Q (.ref l) H5 := fun {l ys m H4 H5} x4 x5 n h r hm =>
    q _ H5 ((kk.trans (x4.kept p)).trans (x5.kept p)) ((bx3.ext x4).ext x5) (tg_list (wt_at ((bx3.ext x4).ne n) (fr_ne (x4 _ _ hq3) n) h) r hm)
  cases decide (V.int y = V.int 1) with
  | true =>
    refine itT (rd_op (rd_lo rfl rfl bx3 ha3' rx3 fun l ys H4 x4 hl ry => rd_hi rfl rfl (bx3.ext x4) (x4 _ _ ha3') (rx3.mono (wt_ex x4 p q0)) fun m zs' H5 x5 hm rz' => ?_))
    exact rd_cat (x5 _ _ hl) hm (ry.mono (wt_ex x5 p q0)) rz' (by decide) fun t H6 x6 ht0 ht rr => fin (x4.trans x5) x6 ht0 ht rr (by decide)
  | false =>
  refine itF ⟨_, rfl, rfl, _, rfl, ?_⟩
  have ek : k = ((k.toNat : Nat) : Int) := by omega
  have hk : k.toNat < xs.length := by omega
  have at3 : atI xs k = some xs[k.toNat] := at_to k0 hk
  cases decide (V.int y = V.int 2) with
  | true =>
    obtain ⟨dk, rk, fk⟩ := rx3.get (List.getElem?_eq_getElem hk)
    refine itT ⟨_, rfl, _, rfl, _, rfl, a, _, _, _, rfl, rfl, SqL.of ha3', at3, by show 1 ≤ sizeLine; decide, fun l hl => ?_⟩
    have x4 := Ext.new (o := .lst [xs[k.toNat]]) hl
    exact rd_cat (x4 _ _ ha3') upd_same (rx3.mono (wt_ex x4 p q0)) (RdF.one (rk.mono (wt_ex x4 p q0)) fk) (by decide) fun t H6 x6 ht0 ht rr => fin x4 x6 ht0 ht rr (by decide)
  | false =>
    refine itF (rd_op (rd_op (rd_lo rfl rfl bx3 ha3' rx3 fun l ys H4 x4 hl ry => ⟨_, rfl, by show 1 ≤ sizeLine; decide, fun m hm => ?_⟩)))
    have x5 := Ext.new (o := .lst [zs[j.toNat]]) hm
    have bx5 := (bx3.ext x4).ext x5
    refine rd_cat (x5 _ _ hl) upd_same (ry.mono (wt_ex x5 p q0)) (RdF.one (rt3.mono (wt_ex (x4.trans x5) p q0)) ft) (by decide) fun t H6 x6 ht0 ht rr => ?_
    have x36 := (x4.trans x5).trans x6
    refine rd_hi rfl rfl (bx3.ext x36) (x36 _ _ ha3') (rx3.mono (wt_ex x36 p q0)) fun m' zs' H7 x7 hm' rz' => ?_
    exact rd_cat (x7 _ _ ht) hm' (rr.mono (wt_ex x7 p q0)) rz' (by decide) fun t' H8 x8 ht0' ht' rr' => fin (x36.trans x7) x8 ht0' ht' rr' (by decide)
end
end My
set_option Elab.async false
set_option linter.all false
set_option maxRecDepth 100000
set_option maxHeartbeats 1000000
set_option exponentiation.threshold 5000
namespace My
open PySem PySem.W L2
abbrev sRi : Stmt := top 45
abbrev stRi (i : Nat) : Stmt := (defBody sRi).getD i (.Pass ⟨0, 0, 0, 0⟩)
def forBody : Stmt → List Stmt
  | .For _ _ b _ _ => b
  | _ => []
abbrev sbRi (i : Nat) : Stmt := (forBody (stRi 3)).getD i (.Pass ⟨0, 0, 0, 0⟩)
def spRi : Sp := fun vs H Q _ => ∃ p, vs = [.ref p] ∧ BoxAt H p ∧ H sysModules = none ∧ ∀ H', Kept H H' p → Q (.bl true) H'
abbrev NRi : List Str := ["_law_box_here", "_law_listing", "_law_outcomes", "_law_dealing", "_law_loose", "_law_odd", "_law_turn", "_law_way", "_law_told", "_law_kept", "_law_door", "_law_found"]
theorem scRi : FnScope NRi ["_law_box_here"] (defScope sRi) := ⟨rfl, rfl, rfl, by decide +kernel, rfl, by decide +kernel, by decide +kernel⟩
def tNeg1 : TE := tUn (rU fun i => .int (-i)) (tC (.int 1))
def tPr (a b : TE) : TE := tTup (tCons a (tCons b tNil))
def tLoose : TE := tLst (tCons (tPr (tC (.int 1)) (tC (.bl false))) (tCons (tPr (tC (.int 2)) (tC (.bl true))) (tCons (tPr tNeg1 (tC (.bl true))) (tCons (tPr (tC (.bl true)) (tC (.bl true))) (tCons (tPr (tC (.int 1)) (tC (.int 1))) (tCons (tPr (tC (.int 100)) (tC (.bl true)))
  (tCons (tC .non) (tCons (tLst (tCons (tC (.int 1)) (tCons (tC (.bl true)) tNil))) (tCons (tTup (tCons (tC (.int 1)) tNil)) (tCons (tPr (tC (.int 0)) (tC (.bl false))) tNil))))))))))
def tOdd : TE := tLst (tCons (tPr (tC (.int 1)) (tC (.int 2))) (tCons (tPr (tC (.bl true)) (tC (.int 0))) (tCons (tPr (tC (.int 0)) (tC .non)) (tCons (tLst (tCons (tC (.int 1)) (tCons (tC (.int 0)) tNil))) (tCons (tTup (tCons (tC (.int 1)) tNil)) (tCons (tTup (tCons (tC (.int 1)) (tCons (tC (.int 0)) (tCons (tC (.int 1)) tNil))))
  (tCons (tC .non) (tCons (tC (.int 1)) (tCons (tC (.str "10")) (tCons (tPr tNeg1 (tC (.int 0))) (tCons (tPr (tPr (tC (.int 1)) (tC (.int 0))) (tC (.int 0))) tNil)))))))))))
def tDeal (K : Frag) : TE := tLst (tCons tNeg1 (tCons (tShl K) (tCons (tC .non) (tCons (tC (.bl true)) (tCons (tC (.str "0")) (tCons (tLst (tCons (tVar 3) tNil)) (tCons (tOp (rI CPow fun i j => .int (i ^ j.toNat)) (tC (.int 10)) (tC (.int 29))) (tCons (tC (.int 0)) tNil))))))))
def tRi0 (K : Frag) : TS := tAsg (tCall spCa [] E0 (tCons (tVar 0) tNil)) (gTupL K 3 (gCons (gName 1) (gCons (gName 2) (gCons (gName 3) gNil))))
def tWy (k : Int) : TT := tOr (tE2 7 (.int k)) (tE2 7 (.int 3))
def tB0 : TS := tAsg (tTk 0 (tC (.int 4))) (gName 7)
def tB1 : TS := tAsg (tLst (tCons (tVar 1) (tCons (tVar 2) (tCons (tVar 3) tNil)))) (gName 8)
def tBs (k : Int) (i j : Nat) : TS := tIfS (tWy k) (tAsg (tCall spSp [] E0 (tCons (tVar 0) (tCons (tVar i) (tCons (tVar j) tNil)))) (gSub (tVar 8) (tC (.int k)) rSetL)) tNext
def tB4 (K : Frag) : TS := tIfS (tWy 2) (tAsg (tOp (rIxL K) (tDeal K) (tTk 0 (tC (.int 8)))) (gSub (tVar 8) (tC (.int 2)) rSetL)) tNext
def tRp : TE := tCB rRepr (tCons (tVar 8) tNil)
def tB5 : TS := tAsg tRp (gName 9)
def tArg (K : Frag) (te : TE) : TA := tCons te (tCons (tOp (rIxL K) (tVar 8) (tC (.int 0))) (tCons (tOp (rIxL K) (tVar 8) (tC (.int 1))) (tCons (tOp (rIxL K) (tVar 8) (tC (.int 2))) tNil)))
def tDoor (K : Frag) : TS := tIfS (tB (tOp (rAlike K 0 false) (tCallZ spDu E0 (tArg K (tVar 10))) (tCallZ spDu E0 (tArg K (tVar 10))))) (tRet (tC (.bl false))) tNext
def tB6 (K : Frag) : TS := tFor (iRng1 (tCons (tC (.int 3)) tNil)) (gName 10) (tDoor K)
def tB7 : TS := tIfS (tB (tOp rNe tRp (tVar 9))) (tRet (tC (.bl false))) tNext
def tTurn (K : Frag) : TS := tSeq tB0 (tSeq tB1 (tSeq (tBs 0 1 5) (tSeq (tBs 1 2 4) (tSeq (tB4 K) (tSeq tB5 (tSeq (tB6 K) tB7))))))
def tRi3 (K : Frag) : TS := tFor (iRng1 (tCons (tC (.int 8)) tNil)) (gName 6) (tTurn K)
section
variable {CF CO CY : Addr}
def tYr (CF CO CY : Addr) : TE := tCall (spYR CF CO CY) [] E0 (tCons (tVar 2) tNil)
def tRi4 (CF CO CY : Addr) : TS := tAsg (tYr CF CO CY) (gName 11)
def tRi5 (K : Frag) : TS := tDrop (tBM K "list" rAppend (tVar 11) (tCons (tC (.int 7)) tNil))
def tRi6 (K : Frag) (CF CO CY : Addr) : TS := tRet (tAndV (tOp (rLL K) (tYr CF CO CY) (tSl (rSlL K) (tVar 11) tNoPart (tPart tNeg1))) (tOp rEq (tOp (rIxL K) (tCallZ spDu E0 (tCons (tC (.int 2)) (tCons (tVar 1) (tCons (tVar 2) (tCons (tVar 3) tNil))))) (tC (.int 0))) (tC (.str "told"))))
def tRi (K : Frag) (CF CO CY : Addr) : TS := tSeq (tRi0 K) (tSeq (tAsg tLoose (gName 4)) (tSeq (tAsg tOdd (gName 5)) (tSeq (tRi3 K) (tSeq (tRi4 CF CO CY) (tSeq (tRi5 K) (tRi6 K CF CO CY))))))
variable {P : Program} {w : World} {K : Frag} {mg : Str → Option Value} {base : Heap} {f : Addr} {cdv : Value} {A : Around} {outer : List Env} {s : Shared} {H : Hp} {E : XK}
theorem b2t {X : Cx} {a b : Expr} {ta tb : TE} {x1} {pos : Pos} (ha : Bx (PE X a ta)) (hb : Bx (PE X b tb)) (hs : starEach [a, b] X.env = (false, eval a X.env) :: starEach [b] X.env := by rfl) (hs2 : starEach [b] X.env = (false, eval b X.env) :: starEach [] X.env := by rfl) : Bx (PE X (.Tuple [a, b] x1 pos) (tPr ta tb)) := bx_tup (bxa_cons ha (bxa_cons hb bxa_nil hs2) hs)
theorem bx_neg1 {X : Cx} {p q : Pos} : Bx (PE X (.UnaryOp .USub (.Constant (.int 1) 0 p) q) tNeg1) := ⟨pe_un un_neg pe_int⟩
theorem ri_1 : Bx (PS (cxOf CX0 P w K mg base NRi "_law_right" (defScope sRi) f cdv A outer s H E).nox (stRi 1) (tAsg tLoose (gName 4))) :=
  bx_set (i := 4) scRi.nd rfl (Or.inl rfl) (bx_lst (bxa_cons (b2t ⟨pe_int⟩ ⟨pe_bl⟩) (bxa_cons (b2t ⟨pe_int⟩ ⟨pe_bl⟩) (bxa_cons (b2t bx_neg1 ⟨pe_bl⟩) (bxa_cons (b2t ⟨pe_bl⟩ ⟨pe_bl⟩) (bxa_cons (b2t ⟨pe_int⟩ ⟨pe_int⟩) (bxa_cons (b2t ⟨pe_int⟩ ⟨pe_bl⟩)
    (bxa_cons ⟨pe_non⟩ (bxa_cons (bx_lst (bxa_cons ⟨pe_int⟩ (bxa_cons ⟨pe_bl⟩ bxa_nil))) (bxa_cons (bx_tup (bxa_cons ⟨pe_int⟩ bxa_nil)) (bxa_cons (b2t ⟨pe_int⟩ ⟨pe_bl⟩) bxa_nil)))))))))))
theorem ri_2 : Bx (PS (cxOf CX0 P w K mg base NRi "_law_right" (defScope sRi) f cdv A outer s H E).nox (stRi 2) (tAsg tOdd (gName 5))) :=
  bx_set (i := 5) scRi.nd rfl (Or.inl rfl) (bx_lst (bxa_cons (b2t ⟨pe_int⟩ ⟨pe_int⟩) (bxa_cons (b2t ⟨pe_bl⟩ ⟨pe_int⟩) (bxa_cons (b2t ⟨pe_int⟩ ⟨pe_non⟩) (bxa_cons (bx_lst (bxa_cons ⟨pe_int⟩ (bxa_cons ⟨pe_int⟩ bxa_nil))) (bxa_cons (bx_tup (bxa_cons ⟨pe_int⟩ bxa_nil)) (bxa_cons (bx_tup (bxa_cons ⟨pe_int⟩ (bxa_cons ⟨pe_int⟩ (bxa_cons ⟨pe_int⟩ bxa_nil))))
    (bxa_cons ⟨pe_non⟩ (bxa_cons ⟨pe_int⟩ (bxa_cons ⟨pe_str⟩ (bxa_cons (b2t bx_neg1 ⟨pe_int⟩) (bxa_cons (b2t (b2t ⟨pe_int⟩ ⟨pe_int⟩) ⟨pe_int⟩) bxa_nil))))))))))))
end
end My
set_option Elab.async false
set_option linter.all false
set_option maxRecDepth 100000
set_option maxHeartbeats 1000000
set_option exponentiation.threshold 5000
namespace My
open PySem PySem.W L2
section
variable {CF CO CY : Addr} {P : Program} {w : World} {K : Frag} {mg : Str → Option Value} {base : Heap} {f : Addr} {cdv : Value} {A : Around} {outer : List Env} {s : Shared} {H : Hp} {E : XK} {a1 a2 a3 a4 a5 a6 : Addr} {d1 d2 d3 d4 d5 d6 : FuncData}
theorem ri_0 (Ac : Df P w K mg base CX0 2 "_law_case" ["_law_box_here"] spCa a3 d3) (hr : Room 8 (A.deeper (PyProof.Rows.envOfC "_law_right" (defScope sRi) s.heap.objs.size f cdv))) : Bx (PS (cxOf CX0 P w K mg base NRi "_law_right" (defScope sRi) f cdv A outer s H E).nox (stRi 0) (tRi0 K)) := by
  have hr1 : Room 1 _ := hr.mono (by decide)
  have hr2 : Room 2 _ := hr.mono (by decide)
  have hr4 : Room 4 _ := hr.mono (by decide)
  have hr6 : Room 6 _ := hr.mono (by decide)
  have nd := scRi.nd
  exact ⟨ps_asg (pe_call Ac.G hr2 rfl Ac.m Ac.kp Ac.b .nil pass0 (pa_cons (pv 0) (pa_nil))) (pg_tupL rfl (pgs_cons (pg_name (i := 1) nd rfl (Or.inl rfl)) (pgs_cons (pg_name (i := 2) nd rfl (Or.inl rfl)) (pgs_cons (pg_name (i := 3) nd rfl (Or.inl rfl)) pgs_nil))))⟩
theorem rb_0 (At : Df P w K mg base CX0 1 "_law_take" ["_law_box_here", "_law_many"] spTake a1 d1) (hr : Room 8 (A.deeper (PyProof.Rows.envOfC "_law_right" (defScope sRi) s.heap.objs.size f cdv))) : Bx (PS (cxOf CX0 P w K mg base NRi "_law_right" (defScope sRi) f cdv A outer s H E).nox (sbRi 0) tB0) := by
  have hr1 : Room 1 _ := hr.mono (by decide)
  have hr2 : Room 2 _ := hr.mono (by decide)
  have hr4 : Room 4 _ := hr.mono (by decide)
  have hr6 : Room 6 _ := hr.mono (by decide)
  have nd := scRi.nd
  exact bx_set (i := 7) nd rfl (Or.inl rfl) ⟨pe_call At.G hr1 rfl At.m At.kp At.b .nil pass0 (pa_cons (pv 0) (pa_cons (pe_int) (pa_nil)))⟩
theorem rb_1  : Bx (PS (cxOf CX0 P w K mg base NRi "_law_right" (defScope sRi) f cdv A outer s H E).nox (sbRi 1) tB1) := by
  have nd := scRi.nd
  exact bx_set (i := 8) nd rfl (Or.inl rfl) ⟨pe_lst (pa_cons (pv 1) (pa_cons (pv 2) (pa_cons (pv 3) (pa_nil))))⟩
theorem rb_2 (As : Df P w K mg base CX0 2 "_law_spoilt" ["_law_box_here", "_law_some", "_law_odd"] spSp a2 d2) (hr : Room 8 (A.deeper (PyProof.Rows.envOfC "_law_right" (defScope sRi) s.heap.objs.size f cdv))) : Bx (PS (cxOf CX0 P w K mg base NRi "_law_right" (defScope sRi) f cdv A outer s H E).nox (sbRi 2) (tBs 0 1 5)) := by
  have hr1 : Room 1 _ := hr.mono (by decide)
  have hr2 : Room 2 _ := hr.mono (by decide)
  have hr4 : Room 4 _ := hr.mono (by decide)
  have hr6 : Room 6 _ := hr.mono (by decide)
  have nd := scRi.nd
  exact bx_if ⟨PW.pt (pw_or (pt_cmpR op_eq (pv 7) pe_int (nomark _)) (pw_or1 (pt_cmpR op_eq (pv 7) pe_int (nomark _))))⟩ (bxs_one ⟨ps_asg (pe_call As.G hr2 rfl As.m As.kp As.b .nil pass0 (pa_cons (pv 0) (pa_cons (pv 1) (pa_cons (pv 5) (pa_nil))))) (pg_sub (pv 8) pe_int set_list)⟩) bxs_nil
theorem rb_3 (As : Df P w K mg base CX0 2 "_law_spoilt" ["_law_box_here", "_law_some", "_law_odd"] spSp a2 d2) (hr : Room 8 (A.deeper (PyProof.Rows.envOfC "_law_right" (defScope sRi) s.heap.objs.size f cdv))) : Bx (PS (cxOf CX0 P w K mg base NRi "_law_right" (defScope sRi) f cdv A outer s H E).nox (sbRi 3) (tBs 1 2 4)) := by
  have hr1 : Room 1 _ := hr.mono (by decide)
  have hr2 : Room 2 _ := hr.mono (by decide)
  have hr4 : Room 4 _ := hr.mono (by decide)
  have hr6 : Room 6 _ := hr.mono (by decide)
  have nd := scRi.nd
  exact bx_if ⟨PW.pt (pw_or (pt_cmpR op_eq (pv 7) pe_int (nomark _)) (pw_or1 (pt_cmpR op_eq (pv 7) pe_int (nomark _))))⟩ (bxs_one ⟨ps_asg (pe_call As.G hr2 rfl As.m As.kp As.b .nil pass0 (pa_cons (pv 0) (pa_cons (pv 2) (pa_cons (pv 4) (pa_nil))))) (pg_sub (pv 8) pe_int set_list)⟩) bxs_nil
theorem bx_asg {X : Cx} {pos : Pos} {tg e : Expr} {te : TE} {g : TG} (he : Bx (PE X e te)) (hg : PG X tg g) (hs : swapsWithSole [tg] e pos.line X.env = pure false := by rfl) (hw : swappedStores [tg] e X.env = pure none := by rfl)
    (h1 : (assignEach [tg] X.env).map (·.2) = [assign tg X.env] := by rfl) : Bx (PS X (.Assign [tg] e pos) (tAsg te g)) := ⟨ps_asg he.h hg hs hw h1⟩
theorem rb_4 (At : Df P w K mg base CX0 1 "_law_take" ["_law_box_here", "_law_many"] spTake a1 d1) (ml : mg "len" = none) (hr : Room 8 (A.deeper (PyProof.Rows.envOfC "_law_right" (defScope sRi) s.heap.objs.size f cdv))) : Bx (PS (cxOf CX0 P w K mg base NRi "_law_right" (defScope sRi) f cdv A outer s H E).nox (sbRi 4) (tB4 K)) := by
  have hr1 : Room 1 _ := hr.mono (by decide)
  have hr2 : Room 2 _ := hr.mono (by decide)
  have hr4 : Room 4 _ := hr.mono (by decide)
  have hr6 : Room 6 _ := hr.mono (by decide)
  have nd := scRi.nd
  exact bx_if ⟨PW.pt (pw_or (pt_cmpR op_eq (pv 7) pe_int (nomark _)) (pw_or1 (pt_cmpR op_eq (pv 7) pe_int (nomark _))))⟩ (bxs_one (bx_asg (bx_ix ix_list (bx_lst (bxa_cons bx_neg1 (bxa_cons ⟨pe_op op_shl pe_int (pe_callB call_len_seq rfl ml PySem.boot_len (pa_cons (pv 2) pa_nil))⟩ (bxa_cons ⟨pe_non⟩ (bxa_cons ⟨pe_bl⟩ (bxa_cons ⟨pe_str⟩ (bxa_cons ⟨pe_lst (pa_cons (pv 3) pa_nil)⟩ (bxa_cons ⟨pe_op op_pow pe_int pe_int⟩ (bxa_cons ⟨pe_int⟩ bxa_nil))))))))) ⟨pe_call At.G hr1 rfl At.m At.kp At.b .nil pass0 (pa_cons (pv 0) (pa_cons (pe_int) (pa_nil)))⟩ (fun _ _ => rfl)) (pg_sub (pv 8) pe_int set_list))) bxs_nil
theorem rb_5 (hz : H sysModules = none) (mp : mg "repr" = none) (hr : Room 8 (A.deeper (PyProof.Rows.envOfC "_law_right" (defScope sRi) s.heap.objs.size f cdv))) : Bx (PS (cxOf CX0 P w K mg base NRi "_law_right" (defScope sRi) f cdv A outer s H E).nox (sbRi 5) tB5) := by
  have hr1 : Room 1 _ := hr.mono (by decide)
  have hr2 : Room 2 _ := hr.mono (by decide)
  have hr4 : Room 4 _ := hr.mono (by decide)
  have hr6 : Room 6 _ := hr.mono (by decide)
  have nd := scRi.nd
  exact bx_set (i := 9) nd rfl (Or.inl rfl) ⟨pe_callB (call_repr hz hr.gd hr.units) rfl mp PyProof.Rows.boot_repr (pa_cons (pv 8) pa_nil)⟩
theorem rb_6 (hz : H sysModules = none) (Aa : Df P w K mg base CX0 8 "_law_asked" ["_law_door", "_law_listing", "_law_outcomes", "_law_dealing"] spDu a4 d4) (Ad : Df P w K mg base CX0 4 "_law_due" ["_law_door", "_law_listing", "_law_outcomes", "_law_dealing"] spDu a5 d5) (mr : mg "range" = none) (hr : Room 8 (A.deeper (PyProof.Rows.envOfC "_law_right" (defScope sRi) s.heap.objs.size f cdv))) : Bx (PS (cxOf CX0 P w K mg base NRi "_law_right" (defScope sRi) f cdv A outer s H E).nox (sbRi 6) (tB6 K)) := by
  have hr1 : Room 1 _ := hr.mono (by decide)
  have hr2 : Room 2 _ := hr.mono (by decide)
  have hr4 : Room 4 _ := hr.mono (by decide)
  have hr6 : Room 6 _ := hr.mono (by decide)
  have nd := scRi.nd
  exact by
    have hu : (A.deeper (PyProof.Rows.envOfC "_law_right" (defScope sRi) s.heap.objs.size f cdv)).units + (0 + 1) < cLine := by have := hr.units; omega
    exact ⟨ps_for PassesOwn.never rfl (pi_range1 rfl mr (pa_cons pe_int pa_nil)) (pg_name (i := 10) nd rfl (Or.inl rfl)) (pss_one (ps_if (pt_cmpR (op_neA (n := 0) hu) (pe_callZ hz Aa.G hr rfl Aa.m Aa.kp Aa.b pass0 (pa_cons (pv 10) (pa_cons (pe_ix ix_list (pv 8) pe_int (fun _ _ => rfl)) (pa_cons (pe_ix ix_list (pv 8) pe_int (fun _ _ => rfl)) (pa_cons (pe_ix ix_list (pv 8) pe_int (fun _ _ => rfl)) (pa_nil)))))) (pe_callZ hz Ad.G hr4 rfl Ad.m Ad.kp Ad.b pass0 (pa_cons (pv 10) (pa_cons (pe_ix ix_list (pv 8) pe_int (fun _ _ => rfl)) (pa_cons (pe_ix ix_list (pv 8) pe_int (fun _ _ => rfl)) (pa_cons (pe_ix ix_list (pv 8) pe_int (fun _ _ => rfl)) (pa_nil)))))) (nomark _)) (pss_one (ps_ret pe_bl)) pss_nil))⟩
theorem rb_7 (hz : H sysModules = none) (mp : mg "repr" = none) (hr : Room 8 (A.deeper (PyProof.Rows.envOfC "_law_right" (defScope sRi) s.heap.objs.size f cdv))) : Bx (PS (cxOf CX0 P w K mg base NRi "_law_right" (defScope sRi) f cdv A outer s H E).nox (sbRi 7) tB7) := by
  have hr1 : Room 1 _ := hr.mono (by decide)
  have hr2 : Room 2 _ := hr.mono (by decide)
  have hr4 : Room 4 _ := hr.mono (by decide)
  have hr6 : Room 6 _ := hr.mono (by decide)
  have nd := scRi.nd
  exact ⟨ps_if (pt_cmpR op_ne (pe_callB (call_repr hz hr.gd hr.units) rfl mp PyProof.Rows.boot_repr (pa_cons (pv 8) pa_nil)) (pv 9) (nomark _)) (pss_one (ps_ret pe_bl)) pss_nil⟩
theorem rt_der (hz : H sysModules = none) (At : Df P w K mg base CX0 1 "_law_take" ["_law_box_here", "_law_many"] spTake a1 d1) (As : Df P w K mg base CX0 2 "_law_spoilt" ["_law_box_here", "_law_some", "_law_odd"] spSp a2 d2) (Aa : Df P w K mg base CX0 8 "_law_asked" ["_law_door", "_law_listing", "_law_outcomes", "_law_dealing"] spDu a4 d4) (Ad : Df P w K mg base CX0 4 "_law_due" ["_law_door", "_law_listing", "_law_outcomes", "_law_dealing"] spDu a5 d5) (ml : mg "len" = none) (mp : mg "repr" = none) (mr : mg "range" = none) (hr : Room 8 (A.deeper (PyProof.Rows.envOfC "_law_right" (defScope sRi) s.heap.objs.size f cdv))) : Bx (PSs (cxOf CX0 P w K mg base NRi "_law_right" (defScope sRi) f cdv A outer s H E).nox (forBody (stRi 3)) (tTurn K)) := by
  have hr1 : Room 1 _ := hr.mono (by decide)
  have hr2 : Room 2 _ := hr.mono (by decide)
  have hr4 : Room 4 _ := hr.mono (by decide)
  have hr6 : Room 6 _ := hr.mono (by decide)
  have nd := scRi.nd
  exact bxs_cons (rb_0 At hr) (bxs_cons rb_1 (bxs_cons (rb_2 As hr) (bxs_cons (rb_3 As hr) (bxs_cons (rb_4 At ml hr) (bxs_cons (rb_5 hz mp hr) (bxs_cons (rb_6 hz Aa Ad mr hr) (bxs_one (rb_7 hz mp hr))))))))
theorem ri_3 (hz : H sysModules = none) (At : Df P w K mg base CX0 1 "_law_take" ["_law_box_here", "_law_many"] spTake a1 d1) (As : Df P w K mg base CX0 2 "_law_spoilt" ["_law_box_here", "_law_some", "_law_odd"] spSp a2 d2) (Aa : Df P w K mg base CX0 8 "_law_asked" ["_law_door", "_law_listing", "_law_outcomes", "_law_dealing"] spDu a4 d4) (Ad : Df P w K mg base CX0 4 "_law_due" ["_law_door", "_law_listing", "_law_outcomes", "_law_dealing"] spDu a5 d5) (ml : mg "len" = none) (mp : mg "repr" = none) (mr : mg "range" = none) (hr : Room 8 (A.deeper (PyProof.Rows.envOfC "_law_right" (defScope sRi) s.heap.objs.size f cdv))) : Bx (PS (cxOf CX0 P w K mg base NRi "_law_right" (defScope sRi) f cdv A outer s H E).nox (stRi 3) (tRi3 K)) := by
  have hr1 : Room 1 _ := hr.mono (by decide)
  have hr2 : Room 2 _ := hr.mono (by decide)
  have hr4 : Room 4 _ := hr.mono (by decide)
  have hr6 : Room 6 _ := hr.mono (by decide)
  have nd := scRi.nd
  exact ⟨ps_for PassesOwn.never rfl (pi_range1 rfl mr (pa_cons pe_int pa_nil)) (pg_name (i := 6) nd rfl (Or.inl rfl)) (rt_der hz At As Aa Ad ml mp mr hr).h⟩
theorem ri_4 (Ay : Df P w K mg base (CXE P w) 6 "yes_row" ["outcomes"] (spYR CF CO CY) a6 d6) (hr : Room 8 (A.deeper (PyProof.Rows.envOfC "_law_right" (defScope sRi) s.heap.objs.size f cdv))) : Bx (PS (cxOf CX0 P w K mg base NRi "_law_right" (defScope sRi) f cdv A outer s H E).nox (stRi 4) (tRi4 CF CO CY)) := by
  have hr1 : Room 1 _ := hr.mono (by decide)
  have hr2 : Room 2 _ := hr.mono (by decide)
  have hr4 : Room 4 _ := hr.mono (by decide)
  have hr6 : Room 6 _ := hr.mono (by decide)
  have nd := scRi.nd
  exact bx_set (i := 11) nd rfl (Or.inl rfl) ⟨pe_call Ay.G hr6 rfl Ay.m Ay.kp Ay.b .nil passN (pa_cons (pv 2) pa_nil)⟩
theorem ri_5  : Bx (PS (cxOf CX0 P w K mg base NRi "_law_right" (defScope sRi) f cdv A outer s H E).nox (stRi 5) (tRi5 K)) := by
  have nd := scRi.nd
  exact ⟨ps_expr (pe_bm PySem.F.plainAttrs_list PySem.F.slot_list_append PySem.F.type_list_append mt_append (pv 11) (pa_cons pe_int pa_nil))⟩
theorem ri_6 (hz : H sysModules = none) (Aa : Df P w K mg base CX0 8 "_law_asked" ["_law_door", "_law_listing", "_law_outcomes", "_law_dealing"] spDu a4 d4) (Ay : Df P w K mg base (CXE P w) 6 "yes_row" ["outcomes"] (spYR CF CO CY) a6 d6) (hr : Room 8 (A.deeper (PyProof.Rows.envOfC "_law_right" (defScope sRi) s.heap.objs.size f cdv))) : Bx (PS (cxOf CX0 P w K mg base NRi "_law_right" (defScope sRi) f cdv A outer s H E).nox (stRi 6) (tRi6 K CF CO CY)) := by
  have hr1 : Room 1 _ := hr.mono (by decide)
  have hr2 : Room 2 _ := hr.mono (by decide)
  have hr4 : Room 4 _ := hr.mono (by decide)
  have hr6 : Room 6 _ := hr.mono (by decide)
  have nd := scRi.nd
  exact ⟨ps_ret (pe_and (pe_cmpR (op_eqLL hr.units0) (pe_call Ay.G hr6 rfl Ay.m Ay.kp Ay.b .nil passN (pa_cons (pv 2) pa_nil)) (pe_slice sl_list (pv 11) po_none (po_some (pe_un un_neg pe_int))) (nomark _)) (pe_one (pe_cmpR op_eq (pe_ix ix_list (pe_callZ hz Aa.G hr rfl Aa.m Aa.kp Aa.b pass0 (pa_cons (pe_int) (pa_cons (pv 1) (pa_cons (pv 2) (pa_cons (pv 3) (pa_nil)))))) pe_int (fun _ _ => rfl)) pe_str (nomark _))))⟩
theorem ri_der (hz : H sysModules = none) (At : Df P w K mg base CX0 1 "_law_take" ["_law_box_here", "_law_many"] spTake a1 d1) (As : Df P w K mg base CX0 2 "_law_spoilt" ["_law_box_here", "_law_some", "_law_odd"] spSp a2 d2) (Ac : Df P w K mg base CX0 2 "_law_case" ["_law_box_here"] spCa a3 d3) (Aa : Df P w K mg base CX0 8 "_law_asked" ["_law_door", "_law_listing", "_law_outcomes", "_law_dealing"] spDu a4 d4) (Ad : Df P w K mg base CX0 4 "_law_due" ["_law_door", "_law_listing", "_law_outcomes", "_law_dealing"] spDu a5 d5) (Ay : Df P w K mg base (CXE P w) 6 "yes_row" ["outcomes"] (spYR CF CO CY) a6 d6) (ml : mg "len" = none) (mp : mg "repr" = none) (mr : mg "range" = none) (hr : Room 8 (A.deeper (PyProof.Rows.envOfC "_law_right" (defScope sRi) s.heap.objs.size f cdv))) : Bx (PSs (cxOf CX0 P w K mg base NRi "_law_right" (defScope sRi) f cdv A outer s H E).nox (defBody sRi) (tRi K CF CO CY)) := by
  have hr1 : Room 1 _ := hr.mono (by decide)
  have hr2 : Room 2 _ := hr.mono (by decide)
  have hr4 : Room 4 _ := hr.mono (by decide)
  have hr6 : Room 6 _ := hr.mono (by decide)
  have nd := scRi.nd
  exact bxs_cons (ri_0 Ac hr) (bxs_cons ri_1 (bxs_cons ri_2 (bxs_cons (ri_3 hz At As Aa Ad ml mp mr hr) (bxs_cons (ri_4 Ay hr) (bxs_cons ri_5 (bxs_one (ri_6 hz Aa Ay hr)))))))
end
end My
set_option Elab.async false
set_option linter.all false
set_option maxRecDepth 100000
set_option maxHeartbeats 1000000
set_option exponentiation.threshold 5000
namespace My
open PySem PySem.W L2
structure GE (p : Addr) (k m : Nat) (te : TE) : Prop where
  h : ∀ (σ : St) (H : Hp) (Q : VK), BoxAt H p → (∀ v H', Ext H H' → (∃ d, Rds (wo H' p) v d ∧ Fi k m d) → Q v H') → te σ H Q
structure GA (p : Addr) (k m n : Nat) (t : TA) : Prop where
  h : ∀ (σ : St) (H : Hp) (Q : List V → Hp → Prop), BoxAt H p → (∀ vs H', Ext H H' → (∃ ds, RdsAll (wo H' p) vs ds ∧ ds.length = n ∧ ∀ d ∈ ds, Fi k m d) → Q vs H') → t σ H Q
section
variable {p : Addr} {k m k' m' n : Nat} {te ta tb : TE} {t : TA}
theorem GE.mono (h : GE p k m te) (h1 : k ≤ k') (h2 : m ≤ m') : GE p k' m' te := ⟨fun σ H Q bx q => h.h σ H Q bx fun v H' x ⟨d, r, f⟩ => q v H' x ⟨d, r, f.mono h1 h2⟩⟩
theorem ga_nil : GA p k m 0 tNil := ⟨fun σ H Q bx q => q [] H (Ext.refl _) ⟨[], .nil, rfl, (fun _ h => nomatch h)⟩⟩
theorem ga_cons (a : GE p k m te) (b : GA p k m n t) : GA p k m (n + 1) (tCons te t) := ⟨fun σ H Q bx q => a.h σ H _ bx fun v H1 x1 ⟨d, r, f⟩ => b.h σ H1 _ (bx.ext x1) fun vs H2 x2 ⟨ds, rs, l, fs⟩ => q (v :: vs) H2 (x1.trans x2) ⟨d :: ds, .cons (r.mono (wo_ex x2 p)) rs, by rw [List.length_cons, l], fun e he => by
  rcases List.mem_cons.mp he with rfl | he
  · exact f
  · exact fs e he⟩⟩
theorem ge_leaf {v : V} {d : PyData} (r : ∀ G, Rds G v d) (f : Fi k m d) : GE p k m (tC v) := ⟨fun σ H Q bx q => q v H (Ext.refl _) ⟨d, r _, f⟩⟩
theorem ge_int {i : Int} (h1 : -1000000000 ≤ i) (h2 : i ≤ 1000000000) : GE p 0 2 (tC (.int i)) := ge_leaf (fun _ => .int _) (fi_small h1 h2)
theorem ge_bl {b : Bool} : GE p 0 2 (tC (.bl b)) := ge_leaf (fun _ => .bl _) fi_bool
theorem ge_non : GE p 0 2 (tC .non) := ge_leaf (fun _ => .non) fi_none
theorem ge_neg : GE p 0 2 tNeg1 := ⟨fun σ H Q bx q => ⟨1, rfl, q (.int (-1)) H (Ext.refl _) ⟨_, .int _, fi_small (by decide) (by decide)⟩⟩⟩
theorem ge_tup (a : GA p k m n t) (hn : n ≤ 100) : GE p (k + 1) ((m + 1) * n + 1) (tTup t) := ⟨fun σ H Q bx q => a.h σ H _ bx fun vs H1 x1 ⟨ds, rs, l, fs⟩ => by
  have lv := rs.length
  refine ⟨by rw [lv, sizeLine_eq]; omega, fun a ha => ?_⟩
  have x2 := Ext.new (o := .tup vs) ha
  exact q _ _ (x1.trans x2) ⟨.tuple ds, .tup (wo_at ((bx.ext x1).ne ha) upd_same) (RdsAll.mono (wo_ex x2 p) rs), fi_tuple fs (Nat.le_of_eq l)⟩⟩
theorem ge_lst (a : GA p k m n t) (hn : n ≤ 100) : GE p (k + 1) ((m + 1) * n + 1) (tLst t) := ⟨fun σ H Q bx q => a.h σ H _ bx fun vs H1 x1 ⟨ds, rs, l, fs⟩ => by
  have lv := rs.length
  refine ⟨by rw [lv, sizeLine_eq]; omega, fun a ha => ?_⟩
  have x2 := Ext.new (o := .lst vs) ha
  exact q _ _ (x1.trans x2) ⟨.list ds, .lst (wo_at ((bx.ext x1).ne ha) upd_same) (RdsAll.mono (wo_ex x2 p) rs), fi_list fs (Nat.le_of_eq l)⟩⟩
theorem ge_pr (a : GE p k m ta) (b : GE p k m tb) : GE p (k + 1) ((m + 1) * 2 + 1) (tPr ta tb) := ge_tup (ga_cons a (ga_cons b ga_nil)) (by decide)
theorem rd_disp {σ : St} {H : Hp} {Q : VK} (a : GA p 2 60 n t) (hn : n ≤ 20) (bx : BoxAt H p) (q : ∀ l vs H', Ext H H' → wo H' p l = some (.lst vs) → RdF (wo H' p) vs 20 → vs.length = n → Q (.ref l) H') : tLst t σ H Q := a.h σ H _ bx fun vs H1 x1 ⟨ds, rs, l, fs⟩ => by
  have lv := rs.length
  refine ⟨by rw [lv, sizeLine_eq]; omega, fun a ha => ?_⟩
  have x2 := Ext.new (o := .lst vs) ha
  exact q _ vs _ (x1.trans x2) (wo_at ((bx.ext x1).ne ha) upd_same) ⟨ds, RdsAll.mono (wo_ex x2 p) rs, by omega, fs⟩ (by omega)
theorem gP (a : GE p 0 2 ta) (b : GE p 0 2 tb) : GE p 2 60 (tPr ta tb) := (ge_pr a b).mono (by decide) (by decide)
theorem fi_s10 : Fi 0 60 (.str "10") := ⟨rfl, by simp [PyData.depth], by decide +kernel, by decide +kernel⟩
theorem i1 : GE p 0 2 (tC (.int 1)) := ge_int (by decide) (by decide)
theorem i0 : GE p 0 2 (tC (.int 0)) := ge_int (by decide) (by decide)
theorem i2 : GE p 0 2 (tC (.int 2)) := ge_int (by decide) (by decide)
theorem i100 : GE p 0 2 (tC (.int 100)) := ge_int (by decide) (by decide)
theorem rd_loose {σ : St} {H : Hp} {Q : VK} (bx : BoxAt H p) (q : ∀ l vs H', Ext H H' → wo H' p l = some (.lst vs) → RdF (wo H' p) vs 20 → vs.length = 10 → Q (.ref l) H') : tLoose σ H Q :=
  rd_disp (ga_cons (gP i1 ge_bl) (ga_cons (gP i2 ge_bl) (ga_cons (gP ge_neg ge_bl) (ga_cons (gP ge_bl ge_bl) (ga_cons (gP i1 i1) (ga_cons (gP i100 ge_bl) (ga_cons (ge_non.mono (by decide) (by decide)) (ga_cons ((ge_lst (ga_cons i1 (ga_cons ge_bl ga_nil)) (by decide)).mono (by decide) (by decide)) (ga_cons ((ge_tup (ga_cons i1 ga_nil) (by decide)).mono (by decide) (by decide)) (ga_cons (gP i0 ge_bl) ga_nil)))))))))) (by decide) bx q
theorem rd_odd {σ : St} {H : Hp} {Q : VK} (bx : BoxAt H p) (q : ∀ l vs H', Ext H H' → wo H' p l = some (.lst vs) → RdF (wo H' p) vs 20 → vs.length = 11 → Q (.ref l) H') : tOdd σ H Q :=
  rd_disp (ga_cons (gP i1 i2) (ga_cons (gP ge_bl i0) (ga_cons (gP i0 ge_non) (ga_cons ((ge_lst (ga_cons i1 (ga_cons i0 ga_nil)) (by decide)).mono (by decide) (by decide)) (ga_cons ((ge_tup (ga_cons i1 ga_nil) (by decide)).mono (by decide) (by decide)) (ga_cons ((ge_tup (ga_cons i1 (ga_cons i0 (ga_cons i1 ga_nil))) (by decide)).mono (by decide) (by decide))
    (ga_cons (ge_non.mono (by decide) (by decide)) (ga_cons (i1.mono (by decide) (by decide)) (ga_cons ((ge_leaf (fun _ => .str _) fi_s10).mono (by decide) (by decide)) (ga_cons (gP ge_neg i0) (ga_cons ((ge_pr (ge_pr i1 i0) (i0.mono (by decide) (by decide))).mono (by decide) (by decide)) ga_nil))))))))))) (by decide) bx q
end
end My
set_option Elab.async false
set_option linter.all false
set_option maxRecDepth 100000
set_option maxHeartbeats 1000000
set_option exponentiation.threshold 5000
namespace My
open PySem PySem.W L2
structure Pk (G : Hp) (a b lo od : Addr) (x : Int) (ps : List (Int × Int)) (ns : List Int) : Prop where
  rl : Rds G (.ref a) (.list (ps.map pairT))
  ro : Rds G (.ref b) (.list (ns.map y1))
  len : ps.length = ns.length
  l1 : 1 ≤ ns.length
  l20 : ns.length ≤ 20
  pb : ∀ q ∈ ps, (0 ≤ q.1 ∧ q.1 ≤ 1) ∧ (0 ≤ q.2 ∧ q.2 ≤ 1)
  nb : ∀ n ∈ ns, 0 ≤ n ∧ n ≤ 1
  x0 : 0 ≤ x
  xn : x ≤ 2 ^ ns.length - 1
  hlo : ∃ us, G lo = some (.lst us) ∧ RdF G us 20 ∧ 1 ≤ us.length
  hod : ∃ us, G od = some (.lst us) ∧ RdF G us 20 ∧ 1 ≤ us.length
section
variable {G G' H H1 : Hp} {a b lo od p t : Addr} {x : Int} {ps : List (Int × Int)} {ns : List Int} {K : Frag} {D : Ends} {σ : St}
theorem Pk.mono (h : Pk G a b lo od x ps ns) (e : Ext G G') : Pk G' a b lo od x ps ns := by
  refine ⟨h.rl.mono e, h.ro.mono e, h.len, h.l1, h.l20, h.pb, h.nb, h.x0, h.xn, ?_, ?_⟩
  · obtain ⟨us, h1, h2, h3⟩ := h.hlo
    exact ⟨us, e _ _ h1, h2.mono e, h3⟩
  · obtain ⟨us, h1, h2, h3⟩ := h.hod
    exact ⟨us, e _ _ h1, h2.mono e, h3⟩
theorem fi_pairT {q : Int × Int} (h : (0 ≤ q.1 ∧ q.1 ≤ 1) ∧ (0 ≤ q.2 ∧ q.2 ≤ 1)) : Fi 2 60 (pairT q) := by
  unfold pairT
  refine Fi.mono (k := 1) (n := 7) (fi_tuple (k := 0) (n := 2) (m := 2) (fun d hd => ?_) (Nat.le_refl 2)) (by decide) (by decide)
  simp only [List.mem_cons, List.not_mem_nil, or_false] at hd
  obtain ⟨⟨h1, h2⟩, h3, h4⟩ := h
  rcases hd with rfl | rfl <;> exact fi_small (by omega) (by omega)
theorem fi_y1 {n : Int} (h : 0 ≤ n ∧ n ≤ 1) : Fi 2 60 (y1 n) := by
  unfold y1
  refine Fi.mono (k := 1) (n := 7) (fi_tuple (k := 0) (n := 2) (m := 2) (fun d hd => ?_) (Nat.le_refl 2)) (by decide) (by decide)
  simp only [List.mem_cons, List.not_mem_nil, or_false] at hd
  obtain ⟨h1, h2⟩ := h
  rcases hd with rfl | rfl
  · exact fi_small (by omega) (by omega)
  · exact fi_bool
theorem Pk.la (h : Pk G a b lo od x ps ns) : ∃ xs, G a = some (.lst xs) ∧ RdF G xs 20 ∧ 1 ≤ xs.length := by
  obtain ⟨a', xs, e, ha, rs⟩ := rds_lst h.rl
  cases e
  have l := rs.length
  rw [List.length_map, h.len] at l
  have l1 := h.l1
  have l20 := h.l20
  refine ⟨xs, ha, ⟨_, rs, by rw [List.length_map, h.len]; exact l20, fun d hd => ?_⟩, by omega⟩
  obtain ⟨q, hq, rfl⟩ := List.mem_map.mp hd
  exact fi_pairT (h.pb q hq)
theorem Pk.lb (h : Pk G a b lo od x ps ns) : ∃ xs, G b = some (.lst xs) ∧ RdF G xs 20 ∧ xs.length = ns.length := by
  obtain ⟨a', xs, e, ha, rs⟩ := rds_lst h.ro
  cases e
  have l := rs.length
  rw [List.length_map] at l
  refine ⟨xs, ha, ⟨_, rs, by rw [List.length_map]; exact h.l20, fun d hd => ?_⟩, l⟩
  obtain ⟨q, hq, rfl⟩ := List.mem_map.mp hd
  exact fi_y1 (h.nb q hq)
theorem Pk.ta (h : Pk G a b lo od x ps ns) : Tg G (.ref a) := by
  obtain ⟨xs, ha, r, _⟩ := h.la
  exact tg_list ha r (by decide)
theorem Pk.tb (h : Pk G a b lo od x ps ns) : Tg G (.ref b) := by
  obtain ⟨xs, ha, r, _⟩ := h.lb
  exact tg_list ha r (by decide)
theorem x_nat {n : Nat} (hx : x ≤ 2 ^ n - 1) (hn : n ≤ 20) (h0 : 0 ≤ x) : Fi 0 2 (.int x) := by
  have := two_pow_lt hn
  refine fi_int (Nat.lt_of_le_of_lt (show x.natAbs ≤ 1073741824 by omega) (by decide))
theorem Pk.tx (h : Pk G a b lo od x ps ns) : Tg G (.int x) := ⟨_, .int _, (x_nat h.xn h.l20 h.x0).mono (by decide) (by decide), fun _ e => by cases e⟩
theorem ext_wt {H2 : Hp} (e : Ext H1 H2) (ht : H1 t = none) : Ext (wo H1 p) (wt H2 p t) := fun c o h => by
  have n := wo_ne h
  have h1 := wo_ext H1 p _ _ h
  exact wt_at n (fun z => by rw [z, ht] at h1; cases h1) (e _ _ h1)
theorem wt_up {o : HO} : Ext (wt H p t) (wt (upd H t o) p t) := fun c u h => by
  have h1 := wt_ext H p t _ _ h
  have n2 := wo_ne h
  have n1 := wo_ne (wo_ext _ t _ _ h)
  exact wt_at n1 n2 (by rw [upd_ne n2]; exact h1)
structure Sn (H1 H : Hp) (p t a b lo od : Addr) (x : Int) (ps : List (Int × Int)) (ns : List Int) (vs : List V) : Prop where
  kp : Kept H1 H p
  bx : BoxAt H p
  t0 : H1 t = none
  nt : t ≠ p
  ht : H t = some (.lst vs)
  lv : vs.length = 3
  tg : ∀ v ∈ vs, Tg (wt H p t) v
  pk : Pk (wt H p t) a b lo od x ps ns
variable {vs : List V}
theorem Sn.put {H' : Hp} {v : V} {j : Nat} (s : Sn H1 H p t a b lo od x ps ns vs) (k : Kept H H' p) (bx : BoxAt H' p) (g : Tg (wt H' p t) v) : Sn H1 (upd H' t (.lst (vs.set j v))) p t a b lo od x ps ns (vs.set j v) := by
  refine ⟨kept_up (s.kp.trans k) s.t0, bx.up s.nt, s.t0, s.nt, upd_same, by rw [List.length_set]; exact s.lv, fun u hu => ?_, (s.pk.mono (wt_kept k)).mono wt_up⟩
  rcases mem_set_or hu with hu | rfl
  · exact ((s.tg u hu).mono (wt_kept k)).mono wt_up
  · exact g.mono wt_up
theorem ix3 {k : Nat} (h : k < 3) (l : vs.length = 3) : ixN vs.length ((k : Nat) : Int) = some k := by
  unfold ixN
  rw [l, if_pos (by omega), if_pos (by omega), Int.toNat_natCast]
theorem rd_way {k y : Int} {Q : Bool → Hp → Prop} (h7 : σ[7]? = some (some (.int y))) (q : ∀ c, Q c H) : tWy k σ H Q := by
  refine ⟨_, h7, rfl, _, rfl, ?_⟩
  cases decide (V.int y = V.int k) with
  | true => exact itT (q _)
  | false => exact itF ⟨_, h7, rfl, _, rfl, q _⟩
theorem rd_bs {k i j : Nat} {c o : Addr} {y : Int} {xs zs : List V} (hk : k < 3) (s : Sn H1 H p t a b lo od x ps ns vs) (s0 : σ[0]? = some (some (.ref p))) (si : σ[i]? = some (some (.ref c))) (sj : σ[j]? = some (some (.ref o))) (s7 : σ[7]? = some (some (.int y))) (s8 : σ[8]? = some (some (.ref t)))
    (hc : wt H p t c = some (.lst xs)) (rc : RdF (wt H p t) xs 20) (lc : 1 ≤ xs.length) (ho : wt H p t o = some (.lst zs)) (ro : RdF (wt H p t) zs 20) (lo' : 1 ≤ zs.length) (nx : ∀ vs' H', Sn H1 H' p t a b lo od x ps ns vs' → D.nx σ H') : tBs (k : Nat) i j D σ H := by
  refine rd_way s7 fun c' => ?_
  cases c' with
  | false => exact itF (nx vs H s)
  | true =>
    refine itT ⟨_, s0, _, si, _, sj, p, c, o, t, xs, zs, _, rfl, s.bx, s.ht, s.nt, hc, rc, lc, ho, ro, lo', fun v H' k' bx' g => ?_⟩
    exact ⟨_, s8, t, vs, _, k, rfl, rfl, k' _ _ s.ht s.nt, ix3 hk s.lv, nx _ _ (s.put k' bx' g)⟩
theorem rd_deal {Q : VK} {ys : List V} (s2 : σ[2]? = some (some (.ref b))) (s3 : σ[3]? = some (some (.int x))) (s : Sn H1 H p t a b lo od x ps ns vs) (q : ∀ l us H', Ext H H' → H' l = some (.lst us) → us.length = 8 → (∀ (i : Nat) v, us[i]? = some v → Tg (wt H' p t) v) → Q (.ref l) H') : tDeal K σ H Q := by
  obtain ⟨zs, hb, rb, lb⟩ := s.pk.lb
  have hb0 := wt_ext H p t _ _ hb
  have l20 := s.pk.l20
  refine ⟨1, rfl, _, s2, b, zs, rfl, .inl (SqL.of hb0), 1, (zs.length : Nat), rfl, rfl, ⟨by omega, by omega, by decide⟩, _, s3, by show 1 ≤ sizeLine; decide, fun e he => ⟨10, 29, rfl, rfl, ⟨by decide, by decide, by decide⟩, by show 8 ≤ sizeLine; decide, fun l hl => ?_⟩⟩
  have x1 := Ext.new (o := .lst [.int x]) he
  have fe : upd H e (.lst [.int x]) e = some (.lst [.int x]) := upd_same
  have ne := s.bx.ne he
  have ne2 := fr_ne s.ht he
  generalize upd H e (.lst [.int x]) = H2 at x1 fe hl ⊢
  have x2 := Ext.new (o := .lst [.int (-1), .int (1 * 2 ^ ((zs.length : Nat) : Int).toNat), .non, .bl true, .str "0", .ref e, .int (10 ^ (29 : Int).toNat), .int 0]) hl
  refine q l _ _ (x1.trans x2) upd_same rfl fun i v hv => ?_
  have fe2 := x2 _ _ fe
  generalize upd H2 l (.lst [.int (-1), .int (1 * 2 ^ ((zs.length : Nat) : Int).toNat), .non, .bl true, .str "0", .ref e, .int (10 ^ (29 : Int).toNat), .int 0]) = H3 at x2 fe2 ⊢
  have leaf : ∀ {i : Int}, Fi 0 2 (.int i) → Tg (wt H3 p t) (.int i) := fun f => fi_leaf (.int _) (f.mono (by decide) (by decide)) (fun _ e => by cases e)
  match i, hv with
  | 0, hv => cases hv; exact leaf (fi_small (by decide) (by decide))
  | 1, hv =>
    cases hv
    have e1 : (1 * 2 ^ ((zs.length : Nat) : Int).toNat : Int) = 2 ^ zs.length := by rw [Int.toNat_natCast, Int.one_mul]
    show Tg (wt H3 p t) (V.int (1 * 2 ^ ((zs.length : Nat) : Int).toNat))
    rw [e1]
    have h1 := two_pow_lt (n := zs.length) (by omega)
    have h2 := two_pow_pos zs.length
    exact leaf (fi_int (Nat.lt_of_le_of_lt (show ((2 : Int) ^ zs.length).natAbs ≤ 1073741824 by omega) (by decide)))
  | 2, hv => cases hv; exact fi_leaf .non (fi_none.mono (by decide) (by decide)) (fun _ e => by cases e)
  | 3, hv => cases hv; exact fi_leaf (.bl _) (fi_bool.mono (by decide) (by decide)) (fun _ e => by cases e)
  | 4, hv => cases hv; exact fi_leaf (.str _) (show Fi 3 30000 (.str "0") from ⟨rfl, by simp [PyData.depth], by decide +kernel, by decide +kernel⟩) (fun _ e => by cases e)
  | 5, hv =>
    cases hv
    have fx : Fi 2 60 (.int x) := (x_nat s.pk.xn s.pk.l20 s.pk.x0).mono (by decide) (by decide)
    exact tg_list (wt_at ne ne2 fe2) (RdF.one (.int x) fx) (by decide)
  | 6, hv => cases hv; exact leaf (fi_int (by decide))
  | 7, hv => cases hv; exact leaf (fi_small (by decide) (by decide))
  | n + 8, hv => cases hv
theorem rd_b4 {y : Int} (s : Sn H1 H p t a b lo od x ps ns vs) (s0 : σ[0]? = some (some (.ref p))) (s2 : σ[2]? = some (some (.ref b))) (s3 : σ[3]? = some (some (.int x))) (s7 : σ[7]? = some (some (.int y))) (s8 : σ[8]? = some (some (.ref t))) (nx : ∀ vs' H', Sn H1 H' p t a b lo od x ps ns vs' → D.nx σ H') : tB4 K D σ H := by
  refine rd_way s7 fun c' => ?_
  cases c' with
  | false => exact itF (nx vs H s)
  | true =>
    refine itT (rd_op (rd_deal (ys := []) s2 s3 s fun l us H2 x2 hl lu tg => ?_))
    have bx2 := s.bx.ext x2
    have nl := bx2.neL hl (by omega)
    refine rd_take (i := 0) s0 bx2 (fun R r => r) (by decide) (by decide) fun i H3 h0 h8 bx3 k3 => ?_
    have hi : i.toNat < us.length := by omega
    have kk := (x2.kept p).trans k3
    refine ⟨l, _, _, _, rfl, rfl, SqL.of (k3 _ _ hl nl), at_to h0 hi, _, s8, t, vs, _, 2, rfl, rfl, kk _ _ s.ht s.nt, ix3 (k := 2) (by decide) s.lv, nx _ _ (s.put kk bx3 ?_)⟩
    exact (tg _ _ (List.getElem?_eq_getElem hi)).mono (wt_kept k3)
end
end My
set_option Elab.async false
set_option linter.all false
set_option maxRecDepth 100000
set_option maxHeartbeats 1000000
set_option exponentiation.threshold 5000
namespace My
open PySem PySem.W L2
section
variable {G G' H H1 : Hp} {a b lo od p t : Addr} {x : Int} {ps : List (Int × Int)} {ns : List Int} {K : Frag} {D : Ends} {σ : St} {vs : List V}
structure T3 (H : Hp) (t : Addr) (v1 v2 v3 : V) (d1 d2 d3 : PyData) : Prop where
  ht : H t = some (.lst [v1, v2, v3])
  r1 : Rds H v1 d1
  r2 : Rds H v2 d2
  r3 : Rds H v3 d3
  f1 : Fi 3 30000 d1
  f2 : Fi 3 30000 d2
  f3 : Fi 3 30000 d3
  m1 : Small d1
  m2 : Small d2
theorem T3.ext {v1 v2 v3 : V} {d1 d2 d3 : PyData} {H' : Hp} (h : T3 H t v1 v2 v3 d1 d2 d3) (e : Ext H H') : T3 H' t v1 v2 v3 d1 d2 d3 := ⟨e _ _ h.ht, h.r1.mono e, h.r2.mono e, h.r3.mono e, h.f1, h.f2, h.f3, h.m1, h.m2⟩
theorem Sn.t3 (s : Sn H1 H p t a b lo od x ps ns vs) : ∃ v1 v2 v3 d1 d2 d3, vs = [v1, v2, v3] ∧ T3 H t v1 v2 v3 d1 d2 d3 := by
  obtain ⟨v1, v2, v3, rfl⟩ : ∃ v1 v2 v3, vs = [v1, v2, v3] := by
    match vs, s.lv with
    | [v1, v2, v3], _ => exact ⟨v1, v2, v3, rfl⟩
  have e := wt_ext H p t
  obtain ⟨d1, r1, f1, m1⟩ := s.tg v1 (by simp)
  obtain ⟨d2, r2, f2, m2⟩ := s.tg v2 (by simp)
  obtain ⟨d3, r3, f3, m3⟩ := s.tg v3 (by simp)
  exact ⟨v1, v2, v3, d1, d2, d3, rfl, s.ht, r1.mono e, r2.mono e, r3.mono e, f1, f2, f3, m1, m2⟩
theorem rd_rp {Q : VK} {v1 v2 v3 : V} {d1 d2 d3 : PyData} (h : T3 H t v1 v2 v3 d1 d2 d3) (s8 : σ[8]? = some (some (.ref t))) (q : Q (.str (PyData.list [d1, d2, d3]).shown) H) : tRp σ H Q := by
  refine ⟨_, s8, .ref t, .list [d1, d2, d3], rfl, .lst h.ht (.cons h.r1 (.cons h.r2 (.cons h.r3 .nil))), ?_, q⟩
  refine Fi.show (k := 4) (n := 90004) (fi_list (k := 3) (n := 30000) (m := 3) (fun d hd => ?_) (Nat.le_refl 3)) (by decide) (by decide)
  simp only [List.mem_cons, List.not_mem_nil, or_false] at hd
  rcases hd with rfl | rfl | rfl
  · exact h.f1
  · exact h.f2
  · exact h.f3
theorem rd_arg {v1 v2 v3 : V} {d1 d2 d3 : PyData} {te : TE} {u : V} {Q : List V → Hp → Prop} (h : T3 H t v1 v2 v3 d1 d2 d3) (s8 : σ[8]? = some (some (.ref t))) (hu : ∀ R : VK, R u H → te σ H R) (q : Q [u, v1, v2, v3] H) : tArg K te σ H Q :=
  hu _ ⟨_, s8, t, _, _, _, rfl, rfl, SqL.of h.ht, atI_nat (j := 0) rfl, _, s8, t, _, _, _, rfl, rfl, SqL.of h.ht, atI_nat (j := 1) rfl, _, s8, t, _, _, _, rfl, rfl, SqL.of h.ht, atI_nat (j := 2) rfl, q⟩
theorem two_alike {l l' : Addr} {z : Str} {d : PyData} {Q : VK} (h : Two H l z d) (h' : Two H l' z d) (q : Q (.bl false) H) : rAlike K 0 false (.ref l) (.ref l') H Q := by
  refine ⟨l, l', _, _, rfl, rfl, .inr ⟨SqL.of h, SqL.of h'⟩, rfl, fun i x y hx hy => ?_, q⟩
  have e : x = y := by rw [hx] at hy; exact Option.some.inj hy
  subst e
  have fx : ∃ w, x = .str w := by
    match i, hx with
    | 0, hx => cases hx; exact ⟨_, rfl⟩
    | 1, hx => cases hx; exact ⟨_, rfl⟩
    | n + 2, hx => cases hx
  obtain ⟨w, rfl⟩ := fx
  exact Alike.same (.inr ⟨rfl, rfl, show (w == w) = true from beq_self_eq_true _⟩)
theorem rd_door {j : Nat} {v1 v2 v3 : V} {d1 d2 d3 : PyData} (h : T3 H t v1 v2 v3 d1 d2 d3) (hj : j < 3) (s8 : σ[8]? = some (some (.ref t))) (s10 : σ[10]? = some (some (.int (j : Nat)))) (nx : ∀ H', Ext H H' → D.nx σ H') : tDoor K D σ H := by
  obtain ⟨z, ask, sw⟩ := ask_total hj (h.f1.show (by decide) (by decide)) (h.f2.show (by decide) (by decide)) (h.f3.show (by decide) (by decide)) h.m2
  refine rd_op (rd_arg h s8 (fun R r => ⟨_, s10, r⟩) fun hz => ⟨j, v1, v2, v3, d1, d2, d3, z, rfl, hz, h.r1, h.r2, h.r3, h.m1, h.m2, ask, sw, fun l H2 x2 tw => ?_⟩)
  have h2 := h.ext x2
  refine rd_arg h2 s8 (fun R r => ⟨_, s10, r⟩) fun hz2 => ⟨j, v1, v2, v3, d1, d2, d3, z, rfl, hz2, h2.r1, h2.r2, h2.r3, h2.m1, h2.m2, ask, sw, fun l' H3 x3 tw' => ?_⟩
  exact two_alike (x3 _ _ tw) tw' ⟨_, rfl, itF (nx H3 (x2.trans x3))⟩
theorem rd_b6 {o0 o1 o2 o3 o4 o5 o6 o7 o9 o10 o11 : Option V} {v1 v2 v3 : V} {d1 d2 d3 : PyData} (h : T3 H t v1 v2 v3 d1 d2 d3) (nx : ∀ o H', Ext H H' → D.nx [o0, o1, o2, o3, o4, o5, o6, o7, some (.ref t), o9, o, o11] H') : tB6 K D [o0, o1, o2, o3, o4, o5, o6, o7, some (.ref t), o9, o10, o11] H := by
  refine ⟨3, rfl, by decide, by decide, for_range (n := 3) (fun i σ H' => Ext H H' ∧ ∃ o, σ = [o0, o1, o2, o3, o4, o5, o6, o7, some (.ref t), o9, o, o11]) ⟨Ext.refl _, _, rfl⟩ ?_ ?_⟩
  · rintro i σ H' hi ⟨e, o, rfl⟩
    rw [Int.zero_add]
    exact rd_door (j := i) (D := ⟨_, _, _, _⟩) (h.ext e) hi rfl rfl fun H2 x2 => ⟨e.trans x2, _, rfl⟩
  · rintro σ H' ⟨e, o, rfl⟩
    exact nx o H' e
theorem rd_turn {H0 : Hp} {o6 o7 o8 o9 o10 o11 : Option V} (k0 : Kept H0 H p) (bx : BoxAt H p) (pk : Pk (wo H p) a b lo od x ps ns) (nx : ∀ o7 o8 o9 o10 H', Kept H0 H' p → BoxAt H' p → Pk (wo H' p) a b lo od x ps ns → D.nx [some (.ref p), some (.ref a), some (.ref b), some (.int x), some (.ref lo), some (.ref od), o6, o7, o8, o9, o10, o11] H') :
    tTurn K D [some (.ref p), some (.ref a), some (.ref b), some (.int x), some (.ref lo), some (.ref od), o6, o7, o8, o9, o10, o11] H := by
  refine rd_set (te := tTk 0 (tC (.int 4))) (i := 7) ?_
  refine rd_take (i := 0) rfl bx (fun R r => r) (by decide) (by decide) fun y H1 y0 y4 bx1 k1 => ?_
  refine rd_set (te := tLst (tCons (tVar 1) (tCons (tVar 2) (tCons (tVar 3) tNil)))) (i := 8) ?_
  refine ⟨_, rfl, _, rfl, _, rfl, by show 3 ≤ sizeLine; decide, fun t ht => ?_⟩
  have x2 := Ext.new (o := .lst [.ref a, .ref b, .int x]) ht
  have s2 : Sn H1 (upd H1 t (.lst [.ref a, .ref b, .int x])) p t a b lo od x ps ns [.ref a, .ref b, .int x] := by
    have pk2 := (pk.mono (wo_kept k1)).mono (ext_wt (p := p) x2 ht)
    refine ⟨x2.kept p, bx1.ext x2, ht, bx1.ne ht, upd_same, rfl, fun v hv => ?_, pk2⟩
    simp only [List.mem_cons, List.not_mem_nil, or_false] at hv
    rcases hv with rfl | rfl | rfl
    · exact pk2.ta
    · exact pk2.tb
    · exact pk2.tx
  generalize upd H1 t (.lst [.ref a, .ref b, .int x]) = H2 at s2 x2 ⊢
  obtain ⟨xs, hc, rc, lc⟩ := s2.pk.la
  obtain ⟨zs, ho, ro, lo'⟩ := s2.pk.hod
  refine rd_bs (k := 0) (i := 1) (j := 5) (D := ⟨_, _, _, _⟩) (by decide) s2 rfl rfl rfl rfl rfl hc rc lc ho ro lo' fun vs3 H3 s3 => ?_
  obtain ⟨xs', hc', rc', lc'⟩ := s3.pk.lb
  obtain ⟨zs', ho', ro', lo''⟩ := s3.pk.hlo
  refine rd_bs (k := 1) (i := 2) (j := 4) (D := ⟨_, _, _, _⟩) (by decide) s3 rfl rfl rfl rfl rfl hc' rc' (by have := s3.pk.l1; omega) ho' ro' lo'' fun vs4 H4 s4 => ?_
  refine rd_b4 (D := ⟨_, _, _, _⟩) s4 rfl rfl rfl rfl rfl fun vs5 H5 s5 => ?_
  obtain ⟨v1, v2, v3, d1, d2, d3, rfl, h5⟩ := s5.t3
  refine rd_set (te := tRp) (i := 9) ?_
  refine rd_rp h5 rfl ?_
  refine rd_b6 (D := ⟨_, _, _, _⟩) h5 fun o H6 x6 => ?_
  refine rd_op (rd_rp (h5.ext x6) rfl ⟨_, rfl, rfl, _, rfl, ?_⟩)
  rw [decide_eq_true rfl]
  refine itF ?_
  have kA := ((k0.trans k1).trans s5.kp).trans (x6.kept p)
  have pk6 := (s5.pk.mono (wo_ext _ t)).mono (wo_ex x6 p)
  exact nx _ _ _ _ H6 kA (s5.bx.ext x6) pk6
end
end My
set_option Elab.async false
set_option linter.all false
set_option maxRecDepth 100000
set_option maxHeartbeats 1000000
set_option exponentiation.threshold 5000
namespace My
open PySem PySem.W L2
theorem lg_pairs {ps : List (Int × Int)} (l1 : 1 ≤ ps.length) (l20 : ps.length ≤ 20) (pb : ∀ q ∈ ps, (0 ≤ q.1 ∧ q.1 ≤ 1) ∧ (0 ≤ q.2 ∧ q.2 ≤ 1)) : lgD (.list (ps.map pairT)) = true := by
  show (decide (1 ≤ (ps.map pairT).length) && decide ((ps.map pairT).length ≤ 20) && (ps.map pairT).all lstdD) = true
  rw [List.length_map, decide_eq_true l1, decide_eq_true l20, Bool.true_and, Bool.true_and, List.all_eq_true]
  intro d hd
  obtain ⟨q, hq, rfl⟩ := List.mem_map.mp hd
  obtain ⟨⟨h1, h2⟩, h3, h4⟩ := pb q hq
  show ((decide (0 ≤ q.1) && decide (q.1 ≤ 1)) && (decide (0 ≤ q.2) && decide (q.2 ≤ 1))) = true
  rw [decide_eq_true h1, decide_eq_true h2, decide_eq_true h3, decide_eq_true h4]
  rfl
theorem cut_last {xs : List V} {y : V} : cutV (xs ++ [y]) none (some (-1)) = xs := by
  have e1 : HT.sIx (xs ++ [y]).length 0 none = 0 := rfl
  have e2 : HT.sIx (xs ++ [y]).length (xs ++ [y]).length (some (-1)) = xs.length := by
    unfold HT.sIx
    simp [List.length_append]
    try omega
  unfold cutV
  rw [e1, e2, List.drop_zero, Nat.sub_zero, List.take_left']
  rfl
section
variable {CF CO CY : Addr} {P : Program} {w : World} {K : Frag} {mg : Str → Option Value} {base : Heap}
variable {H : Hp} {D : Ends} {a b lo od p : Addr} {x : Int} {ps : List (Int × Int)} {ns : List Int}
theorem rd_yr {σ : St} {Q : VK} (s2 : σ[2]? = some (some (.ref b))) (ro : Rds H (.ref b) (.list (ns.map y1))) (l1 : 1 ≤ ns.length) (l20 : ns.length ≤ 20) (nb : ∀ n ∈ ns, 0 ≤ n ∧ n ≤ 1) (q : ∀ l H', Ext H H' → H l = none → H' l = some (.lst (ns.map V.int)) → Q (.ref l) H') : tYr CF CO CY σ H Q :=
  ⟨_, s2, .ref b, _, .told ns, rfl, ro, fun ds e => by cases e; rw [List.length_map]; omega, .told l1 l20 nb, fun _ _ => True.intro, fun ns' e l H' x' h0 hl => by cases e; exact q l H' x' h0 hl⟩
theorem rd_end {o4 o5 o6 o7 o8 o9 o10 o11 : Option V} {R : Hp → Prop} (bx : BoxAt H p) (pk : Pk (wo H p) a b lo od x ps ns) (q : ∀ H', Kept H H' p → D.rt (.bl true) H') :
    tSeq (tRi4 CF CO CY) (tSeq (tRi5 K) (tRi6 K CF CO CY)) D [some (.ref p), some (.ref a), some (.ref b), some (.int x), o4, o5, o6, o7, o8, o9, o10, o11] H := by
  have pk0 := pk.mono (wo_ext H p)
  refine rd_set (te := tYr CF CO CY) (i := 11) (rd_yr rfl pk0.ro pk.l1 pk.l20 pk.nb fun l H1 x1 hl0 hl => ?_)
  have ll : (ns.map V.int).length < sizeLine := by rw [List.length_map]; exact Nat.lt_of_le_of_lt pk.l20 (by decide)
  refine ⟨_, rfl, .inl ⟨rfl, _, SqL.of hl⟩, l, _, .int 7, rfl, rfl, hl, ll, ?_⟩
  have x2 : Ext H (upd H1 l (.lst (ns.map V.int ++ [.int 7]))) := ext_upd _ x1 hl0
  have hl2 : upd H1 l (.lst (ns.map V.int ++ [.int 7])) l = some (.lst (ns.map V.int ++ [.int 7])) := upd_same
  generalize upd H1 l (.lst (ns.map V.int ++ [.int 7])) = H2 at x2 hl2 ⊢
  refine rd_op (rd_yr rfl (pk0.ro.mono x2) pk.l1 pk.l20 pk.nb fun m H3 x3 hm0 hm => ?_)
  refine ⟨_, rfl, 1, rfl, _, rfl, l, _, rfl, SqL.of (x3 _ _ hl2), fun c hc => ?_⟩
  have x4 := Ext.new (o := .lst (cutV (ns.map V.int ++ [.int 7]) none (some (-1)))) hc
  have hc4 : upd H3 c (.lst (cutV (ns.map V.int ++ [.int 7]) none (some (-1)))) c = some (.lst (cutV (ns.map V.int ++ [.int 7]) none (some (-1)))) := upd_same
  generalize upd H3 c (.lst (cutV (ns.map V.int ++ [.int 7]) none (some (-1)))) = H4 at x4 hc4 ⊢
  rw [cut_last] at hc4
  refine ⟨m, c, _, _, rfl, rfl, SqL.of (x4 _ _ hm), SqL.of hc4, rfl, flat_ints, flat_ints, _, rfl, ?_⟩
  rw [eqVs_ints, decide_eq_true rfl]
  refine itT ?_
  have x04 := (x2.trans x3).trans x4
  have rl4 := pk0.rl.mono x04
  have ro4 := pk0.ro.mono x04
  have l1 := pk.l1
  have l20 := pk.l20
  have ft : FtIs (.list (ps.map pairT)) (.list (ns.map y1)) (.int x) (.told (decide (came ps x = ns))) := .told (lg_pairs (by rw [pk.len]; exact l1) (by rw [pk.len]; exact l20) pk.pb) (.told l1 l20 pk.nb) (by
    show (decide ((0 : Int) ≤ x) && decide (x ≤ 2 ^ ns.length - 1)) = true
    rw [decide_eq_true pk.x0, decide_eq_true pk.xn]
    rfl) pk.len
  refine rd_op ⟨_, rfl, _, rfl, _, rfl, fun hz => ⟨2, .ref a, .ref b, .int x, _, _, _, _, rfl, hz, rl4, ro4, .int x, fun ds e => ?_, fun ds e => ?_, .inr (.inr ⟨rfl, _, ft, rfl⟩), show_bool, fun t H5 x5 tw => ?_⟩⟩
  · cases e; rw [List.length_map, pk.len]; omega
  · cases e; rw [List.length_map]; omega
  · refine ⟨t, _, _, _, rfl, rfl, SqL.of tw, atI_nat (j := 0) rfl, rfl, ?_⟩
    have := q H5 ((x04.trans x5).kept p)
    show D.rt (V.bl (decide (V.str "told" = V.str "told"))) H5
    rw [decide_eq_true rfl]
    exact this
theorem ok_ri {f a1 a2 a3 a4 a5 a6 : Addr} {fd d1 d2 d3 d4 d5 d6 : FuncData} (F : Fun K "_law_right" "_law_right" sRi f fd) (At : Df P w K mg base CX0 1 "_law_take" ["_law_box_here", "_law_many"] spTake a1 d1) (As : Df P w K mg base CX0 2 "_law_spoilt" ["_law_box_here", "_law_some", "_law_odd"] spSp a2 d2) (Ac : Df P w K mg base CX0 2 "_law_case" ["_law_box_here"] spCa a3 d3)
    (Aa : Df P w K mg base CX0 8 "_law_asked" ["_law_door", "_law_listing", "_law_outcomes", "_law_dealing"] spDu a4 d4) (Ad : Df P w K mg base CX0 4 "_law_due" ["_law_door", "_law_listing", "_law_outcomes", "_law_dealing"] spDu a5 d5) (Ay : Df P w K mg base (CXE P w) 6 "yes_row" ["outcomes"] (spYR CF CO CY) a6 d6) (ml : mg "len" = none) (mp : mg "repr" = none) (mr : mg "range" = none) :
    FnOk P w K mg base CX0 9 f fd ["_law_box_here"] spRi := by
  refine F.ok scRi (fun vs H Q E h => ?_) (fun cdv A outer s H vs Q E hr h => ?_)
  · obtain ⟨p, rfl, _⟩ := h
    rfl
  obtain ⟨p, rfl, bx, hz, q⟩ := h
  obtain ⟨der⟩ := ri_der hz At As Ac Aa Ad Ay ml mp mr hr (f := f) (cdv := cdv) (A := A) (outer := outer) (s := s) (H := H) (E := E) (P := P) (w := w) (base := base)
  refine ⟨_, der, ?_⟩
  refine ⟨_, rfl, p, rfl, bx, fun t a b x ps ns H1 k1 bx1 cs nt ht => ⟨t, _, rfl, SqL.of ht, rfl, _, _, rfl, _, _, rfl, _, _, rfl, rfl, ?_⟩⟩
  refine rd_set (te := tLoose) (i := 4) (rd_loose bx1 fun lo us H2 x2 hlo rlo llo => ?_)
  refine rd_set (te := tOdd) (i := 5) (rd_odd (bx1.ext x2) fun od zs H3 x3 hod rod lod => ?_)
  have bx3 := (bx1.ext x2).ext x3
  have e3 := wo_ex x3 p
  have e13 := wo_ex (x2.trans x3) p
  have pk : Pk (wo H3 p) a b lo od x ps ns := ⟨cs.rl.mono e13, cs.ro.mono e13, cs.len, cs.l1, cs.l20, cs.pb, cs.nb, cs.x0, cs.xn, ⟨us, e3 _ _ hlo, rlo.mono e3, by omega⟩, ⟨zs, hod, rod, by omega⟩⟩
  have k3 := k1.trans ((x2.trans x3).kept p)
  refine ⟨8, rfl, by decide, by decide, for_range (n := 8) (fun i σ H' => Kept H H' p ∧ BoxAt H' p ∧ Pk (wo H' p) a b lo od x ps ns ∧ ∃ o6 o7 o8 o9 o10 o11, σ = [some (.ref p), some (.ref a), some (.ref b), some (.int x), some (.ref lo), some (.ref od), o6, o7, o8, o9, o10, o11]) ⟨k3, bx3, pk, _, _, _, _, _, _, rfl⟩ ?_ ?_⟩
  · rintro i σ H' hi ⟨k', bx', pk', o6, o7, o8, o9, o10, o11, rfl⟩
    exact rd_turn (D := ⟨_, _, _, _⟩) k' bx' pk' fun p7 p8 p9 p10 H4 k4 bx4 pk4 => ⟨k4, bx4, pk4, _, _, _, _, _, _, rfl⟩
  · rintro σ H' ⟨k', bx', pk', o6, o7, o8, o9, o10, o11, rfl⟩
    exact rd_end (R := fun _ => True) (D := ⟨_, Q, _, _⟩) bx' pk' fun H4 k4 => q H4 (k'.trans k4)
abbrev sLaw : Stmt := top 46
def spLaw (K : Frag) : Sp := fun vs H Q _ => ∃ (a : Addr) (ns : List Int), vs = [.ref a] ∧ SqL K H a (ns.map V.int) ∧ ns.length ≤ 63 ∧ H sysModules = none ∧ ∀ H', Q (.bl true) H'
abbrev NLw : List Str := ["_law_script", "_law_k"]
theorem scLw : FnScope NLw ["_law_script"] (defScope sLaw) := ⟨rfl, rfl, rfl, by decide +kernel, rfl, by decide +kernel, by decide +kernel⟩
theorem SqL.kept {H' : Hp} {a : Addr} {xs : List V} (h : SqL K H a xs) (k : Ext H H') : SqL K H' a xs := My.SqL.ext h k
theorem ok_law {f a1 a2 a3 : Addr} {fd d1 d2 d3 : FuncData} (F : Fun K "law" "law" sLaw f fd) (Ar : Df P w K mg base CX0 9 "_law_right" ["_law_box_here"] spRi a1 d1) (Ab : Df P w K mg base CX0 1 "_law_box" ["_law_cell_here"] spBox a2 d2) (Ac : Df P w K mg base CX0 1 "_law_cell" ["_law_script", "_law_k"] (spCell K) a3 d3)
    (ml : mg "len" = none) (mr : mg "range" = none) (mx : mg "max" = none) (mm : mg "min" = none) : FnOk P w K mg base CX0 10 f fd ["_law_script"] (spLaw K) := by
  refine F.ok scLw (fun vs H Q E h => ?_) (fun cdv A outer s H vs Q E hr h => ?_)
  · obtain ⟨a, ns, rfl, _⟩ := h
    rfl
  obtain ⟨a, ns, rfl, ha, l63, hz, q⟩ := h
  have nd := scLw.nd
  have hr1 : Room 1 _ := hr.mono (by decide)
  refine ⟨_, pss_cons (ps_for PassesOwn.never rfl (pi_range1 rfl mr (pa_cons (pe_callB (call_max2 rfl) rfl mx PyProof.Rows.boot_max (pa_cons pe_int (pa_cons (pe_callB (call_min2 rfl) rfl mm PyProof.Rows.boot_min (pa_cons (pe_callB call_len_seq rfl ml PySem.boot_len (pa_cons (pv 0) pa_nil)) (pa_cons pe_int pa_nil))) pa_nil))) pa_nil)) (pg_name (i := 1) nd rfl (Or.inl rfl))
      (pss_one (ps_if (pt_not (pt_val (pe_callZ hz Ar.G hr rfl Ar.m Ar.kp Ar.b pass0 (pa_cons (pe_call Ab.G hr1 rfl Ab.m Ab.kp Ab.b .nil pass0 (pa_cons (pe_call Ac.G hr1 rfl Ac.m Ac.kp Ac.b .nil pass0 (pa_cons (pv 0) (pa_cons (pv 1) pa_nil))) pa_nil)) pa_nil)))) (pss_one (ps_ret pe_bl)) pss_nil)))
    (pss_one (ps_ret pe_bl)), ?_⟩
  have hn : ∃ n : Nat, n ≤ 5 ∧ (if (if (5 : Int) < (((ns.map V.int).length : Nat) : Int) then 5 else (((ns.map V.int).length : Nat) : Int)) > 1 then (if (5 : Int) < (((ns.map V.int).length : Nat) : Int) then 5 else (((ns.map V.int).length : Nat) : Int)) else 1) = (n : Int) := by
    refine ⟨(if (if (5 : Int) < (((ns.map V.int).length : Nat) : Int) then 5 else (((ns.map V.int).length : Nat) : Int)) > 1 then (if (5 : Int) < (((ns.map V.int).length : Nat) : Int) then 5 else (((ns.map V.int).length : Nat) : Int)) else 1).toNat, ?_, ?_⟩ <;> (repeat' split) <;> omega
  obtain ⟨n, n5, en⟩ := hn
  refine ⟨_, rfl, a, _, rfl, .inl ha, _, _, rfl, _, _, rfl, _, rfl, ?_⟩
  rw [en]
  refine ⟨by omega, by omega, ?_⟩
  rw [Int.toNat_natCast]
  refine for_range (n := n) (fun i σ H' => Ext H H' ∧ ∃ o1, σ = [some (.ref a), o1]) ⟨Ext.refl _, _, rfl⟩ ?_ ?_
  · rintro i σ H' hi ⟨x', o1, rfl⟩
    refine ⟨_, rfl, _, rfl, a, ns, _, rfl, SqL.kept ha x', by omega, by omega, fun c => ⟨c, rfl, fun p H2 hp x2 bx => fun hz2 => ⟨p, rfl, bx, hz2, fun H3 k3 => ⟨_, rfl, itF ⟨?_, _, rfl⟩⟩⟩⟩⟩
    exact fun b o h => k3 b o (x2 _ _ (x' b o h)) (fun e => by have := x' b o h; rw [e, hp] at this; cases this)
  · rintro σ H' ⟨x', o1, rfl⟩
    exact q H'
end
end My
set_option Elab.async false
set_option linter.all false
set_option maxRecDepth 100000
set_option maxHeartbeats 4000000
set_option exponentiation.threshold 10000
namespace My
open PySem PySem.W L2
theorem mroC {K : Frag} {D C f : Addr} {nm : Str} (T : ErrC K D nm C f) (b : Value) : mroIn K C b = some ((Value.ref C :: .ref D :: bmV).contains b) := by
  obtain ⟨cd, h1, _, h3⟩ := T.clsIn
  unfold mroIn
  rw [h1, Option.bind_some, h3]
  rfl
theorem neD_of {K : Frag} {D C f : Addr} {nm : Str} (T : ErrC K D nm C f) (B : BaseC K D) : C ≠ D := by
  intro e
  obtain ⟨q, N, bs, sn, sub, ab, col, dd, k0, k1, k2, k3, k5, l⟩ := T.cls
  obtain ⟨nm', q', N', bs', sn', sub', ab', col', dd', k0', k1', k2', k3', k5', l', _⟩ := B.cls
  rw [e, l'] at l
  have z := Option.some.inj l
  injection z with _ _ z _
  injection z with z
  injection z with _ _ z
  cases z
theorem ne_names {K : Frag} {D C f C' f' : Addr} {nm nm' : Str} (T : ErrC K D nm C f) (T' : ErrC K D nm' C' f') (h : nm ≠ nm') : C' ≠ C := by
  intro e
  obtain ⟨q, N, bs, sn, sub, ab, col, dd, k0, k1, k2, k3, k5, l⟩ := T.cls
  obtain ⟨q', N', bs', sn', sub', ab', col', dd', k0', k1', k2', k3', k5', l'⟩ := T'.cls
  rw [e, l] at l'
  have z := Option.some.inj l'
  injection z with _ _ z _
  injection z with z
  injection z with z
  exact h z
theorem baseType {K : Frag} {D : Addr} (B : BaseC K D) : typeIn K (.ref D) = some (.type "type") := by
  obtain ⟨nm', q', N', bs', sn', sub', ab', col', dd', k0', k1', k2', k3', k5', l', _⟩ := B.cls
  show (List.lookup D K).map (·.cls) = _
  rw [l']
  rfl
theorem baseCls {K : Frag} {D : Addr} (B : BaseC K D) : ∃ cd, clsIn K D = some cd := by
  obtain ⟨nm', q', N', bs', sn', sub', ab', col', dd', k0', k1', k2', k3', k5', l', _⟩ := B.cls
  unfold clsIn
  rw [l']
  exact ⟨_, rfl⟩
abbrev sIni2 : Stmt := inClass (top 2) 0
theorem scIni2 : FnScope ["self", "found"] ["self", "found"] (defScope sIni2) := ⟨rfl, rfl, rfl, by decide +kernel, rfl, by decide +kernel, by decide +kernel⟩
theorem one2 {K : Frag} {mg : Str → Option Value} {D C f : Addr} {fd : FuncData} (B : BaseC K D) (T : ErrC K D "NoFolk" C f) (mD : mg "DealError" = some (.ref D)) (mC : mg "NoFolk" = some (.ref C)) (F : Fun K "__init__" "NoFolk.__init__" sIni2 f fd) (tk : takerIn K C "found" = some none) : OneF K mg D "NoFolk" "found" C f fd := by
  refine ⟨T, mC, fun P w base => ?_, F.binds fun _ _ _ _ _ _ us hl => match us, hl with | [_, _], _ => rfl⟩
  refine F.ok scIni2 (fun vs H Q E h => ?_) (fun cdv A outer s H vs Q E hr h => ?_)
  · obtain ⟨x, v, rfl, _⟩ := h
    rfl
  obtain ⟨x, v, rfl, hx, q⟩ := h
  refine ⟨_, pss_cons (ps_expr (pe_baseInit B T rfl mD (pv 0) pe_str)) (pss_one (ps_err T (pv 0) (pv 1) rfl)), ?_⟩
  exact ⟨_, rfl, x, rfl, hx, _, rfl, _, rfl, x, rfl, hx, tk, q⟩
abbrev sIni3 : Stmt := inClass (top 3) 0
theorem scIni3 : FnScope ["self", "found"] ["self", "found"] (defScope sIni3) := ⟨rfl, rfl, rfl, by decide +kernel, rfl, by decide +kernel, by decide +kernel⟩
theorem one3 {K : Frag} {mg : Str → Option Value} {D C f : Addr} {fd : FuncData} (B : BaseC K D) (T : ErrC K D "NoDealing" C f) (mD : mg "DealError" = some (.ref D)) (mC : mg "NoDealing" = some (.ref C)) (F : Fun K "__init__" "NoDealing.__init__" sIni3 f fd) (tk : takerIn K C "found" = some none) : OneF K mg D "NoDealing" "found" C f fd := by
  refine ⟨T, mC, fun P w base => ?_, F.binds fun _ _ _ _ _ _ us hl => match us, hl with | [_, _], _ => rfl⟩
  refine F.ok scIni3 (fun vs H Q E h => ?_) (fun cdv A outer s H vs Q E hr h => ?_)
  · obtain ⟨x, v, rfl, _⟩ := h
    rfl
  obtain ⟨x, v, rfl, hx, q⟩ := h
  refine ⟨_, pss_cons (ps_expr (pe_baseInit B T rfl mD (pv 0) pe_str)) (pss_one (ps_err T (pv 0) (pv 1) rfl)), ?_⟩
  exact ⟨_, rfl, x, rfl, hx, _, rfl, _, rfl, x, rfl, hx, tk, q⟩
abbrev sIni4 : Stmt := inClass (top 4) 0
theorem scIni4 : FnScope ["self", "found"] ["self", "found"] (defScope sIni4) := ⟨rfl, rfl, rfl, by decide +kernel, rfl, by decide +kernel, by decide +kernel⟩
theorem one4 {K : Frag} {mg : Str → Option Value} {D C f : Addr} {fd : FuncData} (B : BaseC K D) (T : ErrC K D "NoListing" C f) (mD : mg "DealError" = some (.ref D)) (mC : mg "NoListing" = some (.ref C)) (F : Fun K "__init__" "NoListing.__init__" sIni4 f fd) (tk : takerIn K C "found" = some none) : OneF K mg D "NoListing" "found" C f fd := by
  refine ⟨T, mC, fun P w base => ?_, F.binds fun _ _ _ _ _ _ us hl => match us, hl with | [_, _], _ => rfl⟩
  refine F.ok scIni4 (fun vs H Q E h => ?_) (fun cdv A outer s H vs Q E hr h => ?_)
  · obtain ⟨x, v, rfl, _⟩ := h
    rfl
  obtain ⟨x, v, rfl, hx, q⟩ := h
  refine ⟨_, pss_cons (ps_expr (pe_baseInit B T rfl mD (pv 0) pe_str)) (pss_one (ps_err T (pv 0) (pv 1) rfl)), ?_⟩
  exact ⟨_, rfl, x, rfl, hx, _, rfl, _, rfl, x, rfl, hx, tk, q⟩
abbrev sIni5 : Stmt := inClass (top 5) 0
theorem scIni5 : FnScope ["self", "place"] ["self", "place"] (defScope sIni5) := ⟨rfl, rfl, rfl, by decide +kernel, rfl, by decide +kernel, by decide +kernel⟩
theorem one5 {K : Frag} {mg : Str → Option Value} {D C f : Addr} {fd : FuncData} (B : BaseC K D) (T : ErrC K D "NoOutcome" C f) (mD : mg "DealError" = some (.ref D)) (mC : mg "NoOutcome" = some (.ref C)) (F : Fun K "__init__" "NoOutcome.__init__" sIni5 f fd) (tk : takerIn K C "place" = some none) : OneF K mg D "NoOutcome" "place" C f fd := by
  refine ⟨T, mC, fun P w base => ?_, F.binds fun _ _ _ _ _ _ us hl => match us, hl with | [_, _], _ => rfl⟩
  refine F.ok scIni5 (fun vs H Q E h => ?_) (fun cdv A outer s H vs Q E hr h => ?_)
  · obtain ⟨x, v, rfl, _⟩ := h
    rfl
  obtain ⟨x, v, rfl, hx, q⟩ := h
  refine ⟨_, pss_cons (ps_expr (pe_baseInit B T rfl mD (pv 0) pe_str)) (pss_one (ps_err T (pv 0) (pv 1) rfl)), ?_⟩
  exact ⟨_, rfl, x, rfl, hx, _, rfl, _, rfl, x, rfl, hx, tk, q⟩
abbrev sIni6 : Stmt := inClass (top 6) 0
theorem scIni6 : FnScope ["self", "place"] ["self", "place"] (defScope sIni6) := ⟨rfl, rfl, rfl, by decide +kernel, rfl, by decide +kernel, by decide +kernel⟩
theorem one6 {K : Frag} {mg : Str → Option Value} {D C f : Addr} {fd : FuncData} (B : BaseC K D) (T : ErrC K D "NoYes" C f) (mD : mg "DealError" = some (.ref D)) (mC : mg "NoYes" = some (.ref C)) (F : Fun K "__init__" "NoYes.__init__" sIni6 f fd) (tk : takerIn K C "place" = some none) : OneF K mg D "NoYes" "place" C f fd := by
  refine ⟨T, mC, fun P w base => ?_, F.binds fun _ _ _ _ _ _ us hl => match us, hl with | [_, _], _ => rfl⟩
  refine F.ok scIni6 (fun vs H Q E h => ?_) (fun cdv A outer s H vs Q E hr h => ?_)
  · obtain ⟨x, v, rfl, _⟩ := h
    rfl
  obtain ⟨x, v, rfl, hx, q⟩ := h
  refine ⟨_, pss_cons (ps_expr (pe_baseInit B T rfl mD (pv 0) pe_str)) (pss_one (ps_err T (pv 0) (pv 1) rfl)), ?_⟩
  exact ⟨_, rfl, x, rfl, hx, _, rfl, _, rfl, x, rfl, hx, tk, q⟩
theorem fld_of {K : Frag} {D C f : Addr} {nm fld : Str} (T : ErrC K D nm C f) (nf : findIn K (.ref C) fld = some none) : FldOk K C fld := by
  obtain ⟨cd, h1, h2, h3⟩ := T.clsIn
  refine ⟨T.it, ?_, nf⟩
  unfold hasDictIn
  rw [h1]
  exact h2
theorem cat_of {K : Frag} {D C f : Addr} {nm : Str} (T : ErrC K D nm C f) : Catch K C := by
  obtain ⟨cd, h1, h2, h3⟩ := T.clsIn
  exact ⟨⟨cd, h1⟩, T.type, T.it.mb⟩
theorem mro_self {K : Frag} {D C f : Addr} {nm : Str} (T : ErrC K D nm C f) : mroIn K C (.ref C) = some true := by
  rw [mroC T, List.contains_cons, beq_self_eq_true]
  rfl
theorem mro_no {K : Frag} {D C f C' f' : Addr} {nm nm' : Str} (B : BaseC K D) (T : ErrC K D nm C f) (T' : ErrC K D nm' C' f') (h : nm ≠ nm') : mroIn K C (.ref C') = some false := by
  have ne := ne_names T T' h
  have nd := neD_of T' B
  rw [mroC T, List.contains_cons, List.contains_cons]
  have n1 : (Value.ref C' == Value.ref C) = false := beq_eq_false_iff_ne.mpr fun z => ne (Value.ref.inj z)
  have n2 : (Value.ref C' == Value.ref D) = false := beq_eq_false_iff_ne.mpr fun z => nd (Value.ref.inj z)
  rw [n1, n2]
  rfl
theorem kit6_of {K : Frag} {mg : Str → Option Value} {D CG CF CO CY CE fG fF fO fY fE : Addr} (B : BaseC K D) (G : ErrC K D "NoListing" CG fG) (F : ErrC K D "NoFolk" CF fF) (O : ErrC K D "NoOutcome" CO fO) (Y : ErrC K D "NoYes" CY fY) (E : ErrC K D "NoDealing" CE fE)
    (mD : mg "DealError" = some (.ref D)) (mG : mg "NoListing" = some (.ref CG)) (mF : mg "NoFolk" = some (.ref CF)) (mO : mg "NoOutcome" = some (.ref CO)) (mY : mg "NoYes" = some (.ref CY)) (mE : mg "NoDealing" = some (.ref CE))
    (nG : findIn K (.ref CG) "found" = some none) (nF : findIn K (.ref CF) "found" = some none) (nO : findIn K (.ref CO) "place" = some none) (nY : findIn K (.ref CY) "place" = some none) (nE : findIn K (.ref CE) "found" = some none) : Kit6 K mg D CG CF CO CY CE :=
  ⟨⟨baseCls B, baseType B, B.it.mb⟩, cat_of G, cat_of F, cat_of O, cat_of Y, cat_of E, mD, mG, mF, mO, mY, mE, fld_of G nG, fld_of F nF, fld_of O nO, fld_of Y nY, fld_of E nE, mro_self G, mro_no B F G (by decide +kernel), mro_self F, mro_no B O G (by decide +kernel), mro_no B O F (by decide +kernel), mro_self O,
    mro_no B Y G (by decide +kernel), mro_no B Y F (by decide +kernel), mro_no B Y O (by decide +kernel), mro_self Y, mro_no B E G (by decide +kernel), mro_no B E F (by decide +kernel), mro_no B E O (by decide +kernel), mro_no B E Y (by decide +kernel), mro_self E⟩
end My
set_option Elab.async false
set_option linter.all false
set_option maxRecDepth 100000
set_option maxHeartbeats 4000000
namespace Att
open PySem PySem.W PySem.Calls PyProof.Rows
theorem script_low {R : WRecords} {cl : Str → Option Addr} {h : Heap} {a : Addr} {ds : List WData} {as : List Addr} (r : ReadsAllW R cl h [.ref a] [.list ds] as) : a ∈ as := by
  cases r with
  | cons r1 r2 =>
    cases r1 with
    | list => simp
theorem attach_callS {l : OpenLaw} {n : Nat} {q : Program} {loose : List Str} {XP : (Str → Option Value) → Heap → Prop} {YP : World → Heap → Prop} {d : DefRec}
    (hn : l.most = some n) (hdf : d.params.defaults = [])
    (call : ∀ (w : World) (s₀ s₁ : Shared) (mg mb : Str → Option Value) (fa : Addr) (o : Obj) (pm cd doc : Value) (a : Addr) (vs : List Value) (ns : List Int),
      Ground q loose [] XP w s₀ mg mb s₁.heap → YP w s₁.heap →
      s₁.heap.get? fa = some o → o.data = .func (docDef d.name d.params d.body d.scope pm cd doc) → s₁.heap.CodeRec cd d.name → mg d.name = some (.ref fa) →
      s₁.heap.get? a = some { cls := .type "list", data := .seq vs.toArray } → IntsAre vs ns → ns.length ≤ n → s₁.gens = #[] → a ≠ sysModules →
      codeAny (model l.prog w) callerA (.call (.ref fa) ⟨[.ref a], []⟩) (fun r s' => r = .ok (.ret (.bool true)) ∧ OldK s₁.heap s'.heap ∧ s'.os = s₁.os ∧ AllBare s'.gens) s₁) :
    WalkO q loose XP YP l.row.toRowW d [] (fun f vs => PySem.call f vs) := by
  intro w s₀ s₁ mg mb G Y fa o pm cd doc dV kV ho hd hcd hD hmg hg args vals as hpre hlay hrd hwl hlo
  obtain rfl : dV = .none := Dflts.none hD hdf
  obtain rfl : kV = .none := Dflts.noKw hD
  obtain ⟨a, vs, ns, rfl, rfl, hobj, hints, hlen⟩ := script_of hn hpre hwl
  have low : a ≠ sysModules := beq_eq_false_iff_ne.mp (hlo a (script_low hrd))
  refine enter_call (codeAny_mono (call w s₀ s₁ mg mb fa o pm cd doc a vs ns G Y ho (fd_plain hd) hcd hmg hobj hints hlen hg low) fun r s' hq => ?_)
  obtain ⟨rfl, h2, h3, h4⟩ := hq
  exact ⟨.inl ⟨.bool true, .bool true, [], rfl, fun _ => rfl, .bool true, post_true l _, fun _ => ⟨List.Pairwise.nil, fun _ hm => (nomatch hm)⟩⟩, h2, h3, h4⟩
end Att
namespace L2
open PySem PySem.Spec PyProof.Rows
theorem law_callS {P : Program} {w : World} {K : PySem.W.Frag} {mg mb : Str → Option Value} {CX : CXT} {k : Nat} {fa a : Addr} {fd : FuncData} {x : Str} {sp : Sp} {s₁ : Shared} {vs : List Value} {ns : List Int}
    (KX : K.In s₁.heap) (hns : s₁.heap.Ns mainGlobals mg) (hb : s₁.heap.Ns builtinsNs mb) (hbb : ∀ x : Str, x ≠ "__name__" → mb x = bootBuiltins x) (hlim : s₁.heap.NoLimit) (hg : s₁.gens = #[])
    (ha : s₁.heap.get? a = some { cls := .type "list", data := .seq vs.toArray }) (hi : IntsAre vs ns) (hl : ns.length ≤ sizeLine) (hr : Room k callerA) (low : a ≠ sysModules)
    (F : ∀ base : Heap, K.In base → base.Ns mainGlobals mg → FnOk P w K mg base CX k fa fd [x] sp) (hbind : ∀ (s : Shared) (u : Value), BindsTo s fd ⟨[u], []⟩ [(x, u)])
    (hsp : ∀ H : Hp, Only H → SqL K H a (ns.map V.int) → H sysModules = none → sp [.ref a] H (fun v _ => v = .bl true) fun _ _ _ => False)
    (hCX : ∀ H e s', CX [] H s₁ (fun _ _ _ => False) e s' → False) :
    codeAny (model P w) callerA (.call (.ref fa) ⟨[.ref a], []⟩) (fun r s' => r = .ok (.ret (.bool true)) ∧ OldK s₁.heap s'.heap ∧ s'.os = s₁.os ∧ AllBare s'.gens) s₁ := by
  have rv := vals_ints hi
  have lenV := hi.length
  have core : ∀ H : Hp, Only H → SqL K H a (ns.map V.int) → HOk P w H s₁.heap → (∀ b, H b ≠ none → b = a) → (H a ≠ none → K.lookup a = none) →
      codeAny (model P w) callerA (.call (.ref fa) ⟨[.ref a], []⟩) (fun r s' => r = .ok (.ret (.bool true)) ∧ OldK s₁.heap s'.heap ∧ s'.os = s₁.os ∧ AllBare s'.gens) s₁ := by
    intro H hO hS hok hA hK
    have hz : H sysModules = none := by
      cases q : H sysModules with
      | none => rfl
      | some u => exact absurd (hA _ (by rw [q]; simp)).symm low
    have base_of : ∀ {b : Addr} {o : Obj}, s₁.heap.get? b = some o → H b = none → (hidT s₁.heap H).get? b = some o := fun e n => hidT_get e n
    have noA : ∀ {b : Addr} {o : Obj} {es : Array DictEntry} {ep : Nat}, s₁.heap.get? b = some o → o.data = .dict es ep → H b = none := fun {b o es ep} e d => by
      cases q : H b with
      | none => rfl
      | some u =>
        have e' : b = a := hA b (by rw [q]; simp)
        subst e'
        rw [ha] at e; cases e
        have d' : Data.seq vs.toArray _ = Data.dict es ep := d
        cases d'
    have nsK : ∀ {b : Addr} {m : Str → Option Value}, s₁.heap.Ns b m → (hidT s₁.heap H).Ns b m := fun {b m} ⟨o, es, ep, e, d, r⟩ => ⟨o, es, ep, base_of e (noA e d), d, r⟩
    have hKb : K.In (hidT s₁.heap H) := fun b o e => base_of (KX b o e) (by
      cases q : H b with
      | none => rfl
      | some u =>
        have e' : b = a := hA b (by rw [q]; simp)
        subst e'
        rw [hK (by rw [q]; simp)] at e; cases e)
    have hM : Mod K mg (hidT s₁.heap H) := ⟨hKb, nsK hns, ⟨mb, nsK hb, hbb⟩, let ⟨mc, h1, h2⟩ := hlim; ⟨mc, nsK h1, h2⟩⟩
    have e0 : Env0 P w K mg (hidT s₁.heap H) callerA [] s₁ H := ⟨rfl, hM, fun b o e => of_hidT e, Nat.le_of_eq (hidT_size _ _), trivial, fun b hb => absurd (show b ∈ ([] : List Addr) from hb) (by simp), hok, .of_eq hg⟩
    refine codeAny_mono ((F _ hKb (nsK hns)).run callerA [] s₁ H ⟨[.ref a], []⟩ [.ref a] [.ref a] _ _ hr e0 (hbind s₁ (.ref a)) (.cons rfl .nil) (hsp H hO hS hz)) fun r s' h => ?_
    cases r with
    | error e => exact (hCX H e s' h).elim
    | ok fl =>
      cases fl with
      | next => exact False.elim h
      | brk => exact False.elim h
      | cont => exact False.elim h
      | ret u =>
        obtain ⟨v, H', os, bare, un, hok', r', q⟩ := h
        have q' : v = .bl true := q
        subst q'
        obtain rfl : u = Value.bool true := r'
        refine ⟨rfl, OldK.of_keep fun b o e => ?_, os, bare⟩
        cases q : H b with
        | none => exact un.keep b o e q (by intro z; exact absurd (show b ∈ ([] : List Addr) from z) (by simp)) (by simp)
        | some u =>
          rcases hO b with z | ⟨ob, xs, z⟩
          · rw [q] at z; cases z
          · have z2 := un.frzs b ob _ z
            obtain ⟨e1, _⟩ := hok b _ z
            obtain ⟨e2, _⟩ := hok' b _ z2
            rw [e] at e1; cases e1
            exact e2
  cases hk : K.lookup a with
  | some o =>
    have e := KX a o hk
    rw [ha] at e
    cases e
    refine core (fun _ => none) (fun _ => .inl rfl) (.inr ⟨_, vs.toArray, _, hk, rfl, rfl, rfl, by rw [List.size_toArray, lenV]; exact hl, by simpa using rv⟩) (fun b u z => by have z' : (none : Option HO) = some u := z; cases z') (fun b z => absurd rfl z) fun z => absurd rfl z
  | none =>
    refine core (fun b => if b = a then some (.frz { cls := .type "list", data := .seq vs.toArray } (.lst (ns.map V.int))) else none) (fun b => ?_) (.inl (.inr ⟨{ cls := .type "list", data := .seq vs.toArray }, if_pos rfl⟩)) (fun b u z => ?_) (fun b z => ?_) fun _ => hk
    · by_cases hb : b = a
      · exact .inr ⟨_, _, if_pos hb⟩
      · exact .inl (if_neg hb)
    · by_cases hb : b = a
      · have z' := (if_pos hb).symm.trans z
        cases z'
        subst hb
        exact ⟨ha, by rw [List.length_map]; exact hl, vs, _, rv, ha⟩
      · have z' := (if_neg hb).symm.trans z
        cases z'
    · by_cases hb : b = a
      · exact hb
      · exact absurd (if_neg hb) z
theorem walk_ofS {l : PySem.W.OpenLaw} {n k : Nat} {q : Program} {loose : List Str} {XP : (Str → Option Value) → Heap → Prop} {YP : World → Heap → Prop} {d : DefRec} {K : Params → PySem.W.Frag} {CX : World → CXT} {sp : World → Sp} {x : Str}
    (hn : l.most = some n) (hn2 : n ≤ sizeLine) (hdf : d.params.defaults = []) (hr : Room k callerA)
    (hY : ∀ (w : World) (h : Heap), YP w h → (K w.params).In h)
    (F : ∀ (w : World) (mg : Str → Option Value) (fa : Addr) (h : Heap), (K w.params).In h → h.Ns mainGlobals mg → mg d.name = some (.ref fa) →
      ∃ fd : FuncData, (∀ (s : Shared) (u : Value), BindsTo s fd ⟨[u], []⟩ [(x, u)]) ∧
        ∀ base : Heap, (K w.params).In base → base.Ns mainGlobals mg → FnOk l.prog w (K w.params) mg base (CX w) k fa fd [x] (sp w))
    (hsp : ∀ (w : World) (H : Hp) (a : Addr) (ns : List Int), ns.length ≤ n → Only H → SqL (K w.params) H a (ns.map V.int) → H sysModules = none → sp w [.ref a] H (fun v _ => v = .bl true) fun _ _ _ => False)
    (hCX : ∀ (w : World) (H : Hp) (s : Shared) (e : Value) (s' : Shared), CX w [] H s (fun _ _ _ => False) e s' → False) :
    PySem.W.WalkO q loose XP YP l.row.toRowW d [] (fun f vs => PySem.call f vs) := by
  refine Att.attach_callS hn hdf fun w s₀ s₁ mg mb fa o pm cd doc a vs ns G Y ho hd hcd hmg hobj hints hlen hg low => ?_
  have KX := hY w _ Y
  obtain ⟨fd, hb, hF⟩ := F w mg fa _ KX G.T.g hmg
  exact law_callS KX G.T.g G.T.b G.T.builtins G.T.nolimit hg hobj hints (Nat.le_trans hlen hn2) hr low hF hb (fun H hO hS hz => hsp w H a ns hlen hO hS hz) fun H e s' => hCX w H s₁ e s'
end L2
set_option Elab.async false
set_option linter.all false
set_option maxRecDepth 100000
set_option maxHeartbeats 4000000
set_option exponentiation.threshold 10000
namespace My
open PySem PySem.W L2
def keyStr : Value → Bool
  | .str _ _ => true
  | _ => false
theorem strKeys_of {es : Array DictEntry} (h : (es.toList.all fun e => keyStr e.key) = true) : StrKeys es := fun e he => by
  have z := List.all_eq_true.mp h e (by simpa using he)
  cases k : e.key with
  | str n t => exact ⟨n, t, rfl⟩
  | _ => rw [k] at z; cases z
theorem mro_of {K : Frag} {C : Addr} {cd : ClassData} {b : Value} (h : clsIn K C = some cd) (hb : cd.mro.isEmpty = false) (hc : cd.mro.contains b = true) : mroIn K C b = some true := by
  unfold mroIn
  rw [h, Option.bind_some, hb, hc]
  rfl
theorem base_mk {K : Frag} {D N : Addr} {nm q : Str} {bs : List Value} {sn : List Str} {sub : List Value} {ab : Bool} {col : Option Bool} {dd : Option Addr} {k0 k1 k2 k3 k5 : Option Value}
    {cN : Value} {dN : Option Addr} {es : Array DictEntry} {ep : Nat} {sN : Array (Option Value)}
    (lD : K.lookup D = some (excClassObj nm q D N bs bmV true sn sub ab col dd k0 k1 k2 k3 k5 "ValueError.__new__"))
    (lN : K.lookup N = some ⟨cN, dN, .dict es ep, sN⟩) (sk : StrKeys es) (ni : nsFind es "__init__" = none)
    (ga : specialIn K (.ref D) "__getattribute__" = some (some (.builtin "type.__getattribute__"))) (rd : readsIn K D (.type "type") = true)
    (ini : findCls K (.ref D) (.type "type") "__init__" = some (.val (.builtin "ValueError.__init__"))) (fi : findIn K (.ref D) "__init__" = some (some (.builtin "ValueError.__init__"))) (kp : keepIn K (.ref D) = true)
    (gb : findIn K (.ref D) "__getattribute__" = some (some (.builtin bga))) (hk : findIn K (.ref D) "__getattr__" = some none) (ca : findIn K (.ref D) "__class__" = some (some (.builtin "object.__class__"))) : BaseC K D := by
  have hc : clsIn K D = some { name := nm, bases := bs, mro := .ref D :: bmV, ns := N, qualname := q, hasDict := true, slotNames := sn, subclasses := sub, abstract := ab, collection := col, hasDel := false } := by
    unfold clsIn
    rw [lD]
  refine ⟨⟨nm, q, N, bs, sn, sub, ab, col, dd, k0, k1, k2, k3, k5, lD, _, es, ep, lN, rfl, sk, ni⟩, ga, rd, ini, fi, kp, ⟨by rw [hc]; rfl, gb, hk, mro_of hc rfl ?_, mro_of hc rfl ?_, ca⟩⟩
  · show (Value.ref D :: bmV).contains (.type "BaseException") = true
    rw [List.contains_cons]
    rfl
  · show (Value.ref D :: bmV).contains (.type "object") = true
    rw [List.contains_cons]
    rfl
theorem err_mk {K : Frag} {D C N f : Addr} (nm : Str)
    {q : Str} {bs : List Value} {sn : List Str} {sub : List Value} {ab : Bool} {col : Option Bool} {dd : Option Addr} {k0 k1 k2 k3 k5 : Option Value}
    (lC : K.lookup C = some (excClassObj nm q C N bs (.ref D :: bmV) true sn sub ab col dd k0 k1 k2 k3 k5 "ValueError.__new__"))
    (ini : findIn K (.ref C) "__init__" = some (some (.ref f))) (fn : typeIn K (.ref f) = some (.type "function")) (kp : keepIn K (.ref C) = true)
    (sa : findIn K (.ref C) "__setattr__" = some (some (.builtin "object.__setattr__"))) (ga : findIn K (.ref C) "__getattribute__" = some (some (.builtin bga))) (hk : findIn K (.ref C) "__getattr__" = some none)
    (ca : findIn K (.ref C) "__class__" = some (some (.builtin "object.__class__"))) : ErrC K D nm C f := by
  have hc : clsIn K C = some { name := nm, bases := bs, mro := .ref C :: .ref D :: bmV, ns := N, qualname := q, hasDict := true, slotNames := sn, subclasses := sub, abstract := ab, collection := col, hasDel := false } := by
    unfold clsIn
    rw [lC]
  refine ⟨⟨q, N, bs, sn, sub, ab, col, dd, k0, k1, k2, k3, k5, lC⟩, ini, fn, kp, sa, ⟨by rw [hc]; rfl, ga, hk, mro_of hc rfl ?_, mro_of hc rfl ?_, ca⟩⟩
  · show (Value.ref C :: .ref D :: bmV).contains (.type "BaseException") = true
    rw [List.contains_cons, List.contains_cons]
    rfl
  · show (Value.ref C :: .ref D :: bmV).contains (.type "object") = true
    rw [List.contains_cons, List.contains_cons]
    rfl
structure Dn (K : Frag) (mg : Str → Option Value) (nm : Str) (st : Stmt) (ps : List Str) (f : Addr) (fd : FuncData) : Prop where
  fn : Fun K nm nm st f fd
  bi : Binds K fd ps []
  kp : keepIn K (.ref f) = true
  mg : mg nm = some (.ref f)
section
variable {P : Program} {w : World} {K : Frag} {mg : Str → Option Value} {base : Heap}
theorem Dn.df {nm : Str} {st : Stmt} {ps : List Str} {f : Addr} {fd : FuncData} (d : Dn K mg nm st ps f fd) {cx : CXT} {k : Nat} {sp : Sp} (h : FnOk P w K mg base cx k f fd ps sp) : Df P w K mg base cx k nm ps sp f fd := ⟨h, d.bi, d.kp, d.mg⟩
theorem top_two {p : Addr} {i j : Int} {od : Option Addr} {t u : Tok} {n : Nat} {sl : Array (Option Value)} (l : K.lookup p = some ⟨.type "tuple", od, .seq #[.int i t, .int j u] n, sl⟩) (H : Hp) : SqT K H p [.int i, .int j] :=
  .inr ⟨_, _, _, l, rfl, rfl, by show 2 ≤ sizeLine; decide, .cons ⟨_, rfl⟩ (.cons ⟨_, rfl⟩ .nil)⟩
end
theorem dn_0 {K : Frag} {h : Heap} {mg : Str → Option Value} {g : Addr} {oc kV dc pm cd ct : Value} {od an : Option Addr} {sl : Array (Option Value)} (X : K.In h) (G : h.Ns mainGlobals mg)
    (a : nsIn K mainGlobals "is_number" = some (some (.ref g))) (l : K.lookup g = some ⟨oc, od, .func (fnOf "is_number" "is_number" (defArgs sIsNum) (defBody sIsNum) (defScope sIsNum) .none kV dc pm an cd ct), sl⟩) (c : codeIn K cd "is_number" = true) (k : keepIn K (.ref g) = true) :
    Dn K mg "is_number" sIsNum ["thing"] g (fnOf "is_number" "is_number" (defArgs sIsNum) (defBody sIsNum) (defScope sIsNum) .none kV dc pm an cd ct) := by
  have F := fun_mk (st := sIsNum) l c k
  exact ⟨F, F.binds fun _ _ _ _ _ _ us hl => match us, hl with | [_], _ => rfl, k, mg_of X G a⟩
theorem dn_1 {K : Frag} {h : Heap} {mg : Str → Option Value} {g : Addr} {oc kV dc pm cd ct : Value} {od an : Option Addr} {sl : Array (Option Value)} (X : K.In h) (G : h.Ns mainGlobals mg)
    (a : nsIn K mainGlobals "is_whole" = some (some (.ref g))) (l : K.lookup g = some ⟨oc, od, .func (fnOf "is_whole" "is_whole" (defArgs sIsWh) (defBody sIsWh) (defScope sIsWh) .none kV dc pm an cd ct), sl⟩) (c : codeIn K cd "is_whole" = true) (k : keepIn K (.ref g) = true) :
    Dn K mg "is_whole" sIsWh ["thing", "low", "high"] g (fnOf "is_whole" "is_whole" (defArgs sIsWh) (defBody sIsWh) (defScope sIsWh) .none kV dc pm an cd ct) := by
  have F := fun_mk (st := sIsWh) l c k
  exact ⟨F, F.binds fun _ _ _ _ _ _ us hl => match us, hl with | [_, _, _], _ => rfl, k, mg_of X G a⟩
theorem dn_2 {K : Frag} {h : Heap} {mg : Str → Option Value} {g : Addr} {oc kV dc pm cd ct : Value} {od an : Option Addr} {sl : Array (Option Value)} (X : K.In h) (G : h.Ns mainGlobals mg)
    (a : nsIn K mainGlobals "need_hands" = some (some (.ref g))) (l : K.lookup g = some ⟨oc, od, .func (fnOf "need_hands" "need_hands" (defArgs sNH) (defBody sNH) (defScope sNH) .none kV dc pm an cd ct), sl⟩) (c : codeIn K cd "need_hands" = true) (k : keepIn K (.ref g) = true) :
    Dn K mg "need_hands" sNH ["thing", "folk"] g (fnOf "need_hands" "need_hands" (defArgs sNH) (defBody sNH) (defScope sNH) .none kV dc pm an cd ct) := by
  have F := fun_mk (st := sNH) l c k
  exact ⟨F, F.binds fun _ _ _ _ _ _ us hl => match us, hl with | [_, _], _ => rfl, k, mg_of X G a⟩
theorem dn_3 {K : Frag} {h : Heap} {mg : Str → Option Value} {g : Addr} {oc kV dc pm cd ct : Value} {od an : Option Addr} {sl : Array (Option Value)} (X : K.In h) (G : h.Ns mainGlobals mg)
    (a : nsIn K mainGlobals "hand_of" = some (some (.ref g))) (l : K.lookup g = some ⟨oc, od, .func (fnOf "hand_of" "hand_of" (defArgs sHO) (defBody sHO) (defScope sHO) .none kV dc pm an cd ct), sl⟩) (c : codeIn K cd "hand_of" = true) (k : keepIn K (.ref g) = true) :
    Dn K mg "hand_of" sHO ["dealing", "at"] g (fnOf "hand_of" "hand_of" (defArgs sHO) (defBody sHO) (defScope sHO) .none kV dc pm an cd ct) := by
  have F := fun_mk (st := sHO) l c k
  exact ⟨F, F.binds fun _ _ _ _ _ _ us hl => match us, hl with | [_, _], _ => rfl, k, mg_of X G a⟩
theorem dn_4 {K : Frag} {h : Heap} {mg : Str → Option Value} {g : Addr} {oc kV dc pm cd ct : Value} {od an : Option Addr} {sl : Array (Option Value)} (X : K.In h) (G : h.Ns mainGlobals mg)
    (a : nsIn K mainGlobals "is_outcome" = some (some (.ref g))) (l : K.lookup g = some ⟨oc, od, .func (fnOf "is_outcome" "is_outcome" (defArgs sIO) (defBody sIO) (defScope sIO) .none kV dc pm an cd ct), sl⟩) (c : codeIn K cd "is_outcome" = true) (k : keepIn K (.ref g) = true) :
    Dn K mg "is_outcome" sIO ["thing"] g (fnOf "is_outcome" "is_outcome" (defArgs sIO) (defBody sIO) (defScope sIO) .none kV dc pm an cd ct) := by
  have F := fun_mk (st := sIO) l c k
  exact ⟨F, F.binds fun _ _ _ _ _ _ us hl => match us, hl with | [_], _ => rfl, k, mg_of X G a⟩
theorem dn_5 {K : Frag} {h : Heap} {mg : Str → Option Value} {g : Addr} {oc kV dc pm cd ct : Value} {od an : Option Addr} {sl : Array (Option Value)} (X : K.In h) (G : h.Ns mainGlobals mg)
    (a : nsIn K mainGlobals "need_outcome" = some (some (.ref g))) (l : K.lookup g = some ⟨oc, od, .func (fnOf "need_outcome" "need_outcome" (defArgs sNO) (defBody sNO) (defScope sNO) .none kV dc pm an cd ct), sl⟩) (c : codeIn K cd "need_outcome" = true) (k : keepIn K (.ref g) = true) :
    Dn K mg "need_outcome" sNO ["thing", "place"] g (fnOf "need_outcome" "need_outcome" (defArgs sNO) (defBody sNO) (defScope sNO) .none kV dc pm an cd ct) := by
  have F := fun_mk (st := sNO) l c k
  exact ⟨F, F.binds fun _ _ _ _ _ _ us hl => match us, hl with | [_, _], _ => rfl, k, mg_of X G a⟩
theorem dn_6 {K : Frag} {h : Heap} {mg : Str → Option Value} {g : Addr} {oc kV dc pm cd ct : Value} {od an : Option Addr} {sl : Array (Option Value)} (X : K.In h) (G : h.Ns mainGlobals mg)
    (a : nsIn K mainGlobals "need_outcomes" = some (some (.ref g))) (l : K.lookup g = some ⟨oc, od, .func (fnOf "need_outcomes" "need_outcomes" (defArgs sNOs) (defBody sNOs) (defScope sNOs) .none kV dc pm an cd ct), sl⟩) (c : codeIn K cd "need_outcomes" = true) (k : keepIn K (.ref g) = true) :
    Dn K mg "need_outcomes" sNOs ["thing"] g (fnOf "need_outcomes" "need_outcomes" (defArgs sNOs) (defBody sNOs) (defScope sNOs) .none kV dc pm an cd ct) := by
  have F := fun_mk (st := sNOs) l c k
  exact ⟨F, F.binds fun _ _ _ _ _ _ us hl => match us, hl with | [_], _ => rfl, k, mg_of X G a⟩
theorem dn_7 {K : Frag} {h : Heap} {mg : Str → Option Value} {g : Addr} {oc kV dc pm cd ct : Value} {od an : Option Addr} {sl : Array (Option Value)} (X : K.In h) (G : h.Ns mainGlobals mg)
    (a : nsIn K mainGlobals "yes_row" = some (some (.ref g))) (l : K.lookup g = some ⟨oc, od, .func (fnOf "yes_row" "yes_row" (defArgs sYR) (defBody sYR) (defScope sYR) .none kV dc pm an cd ct), sl⟩) (c : codeIn K cd "yes_row" = true) (k : keepIn K (.ref g) = true) :
    Dn K mg "yes_row" sYR ["outcomes"] g (fnOf "yes_row" "yes_row" (defArgs sYR) (defBody sYR) (defScope sYR) .none kV dc pm an cd ct) := by
  have F := fun_mk (st := sYR) l c k
  exact ⟨F, F.binds fun _ _ _ _ _ _ us hl => match us, hl with | [_], _ => rfl, k, mg_of X G a⟩
theorem dn_8 {K : Frag} {h : Heap} {mg : Str → Option Value} {g : Addr} {oc kV dc pm cd ct : Value} {od an : Option Addr} {sl : Array (Option Value)} (X : K.In h) (G : h.Ns mainGlobals mg)
    (a : nsIn K mainGlobals "is_listed" = some (some (.ref g))) (l : K.lookup g = some ⟨oc, od, .func (fnOf "is_listed" "is_listed" (defArgs sIL) (defBody sIL) (defScope sIL) .none kV dc pm an cd ct), sl⟩) (c : codeIn K cd "is_listed" = true) (k : keepIn K (.ref g) = true) :
    Dn K mg "is_listed" sIL ["thing"] g (fnOf "is_listed" "is_listed" (defArgs sIL) (defBody sIL) (defScope sIL) .none kV dc pm an cd ct) := by
  have F := fun_mk (st := sIL) l c k
  exact ⟨F, F.binds fun _ _ _ _ _ _ us hl => match us, hl with | [_], _ => rfl, k, mg_of X G a⟩
theorem dn_9 {K : Frag} {h : Heap} {mg : Str → Option Value} {g : Addr} {oc kV dc pm cd ct : Value} {od an : Option Addr} {sl : Array (Option Value)} (X : K.In h) (G : h.Ns mainGlobals mg)
    (a : nsIn K mainGlobals "is_listing" = some (some (.ref g))) (l : K.lookup g = some ⟨oc, od, .func (fnOf "is_listing" "is_listing" (defArgs sIG) (defBody sIG) (defScope sIG) .none kV dc pm an cd ct), sl⟩) (c : codeIn K cd "is_listing" = true) (k : keepIn K (.ref g) = true) :
    Dn K mg "is_listing" sIG ["thing"] g (fnOf "is_listing" "is_listing" (defArgs sIG) (defBody sIG) (defScope sIG) .none kV dc pm an cd ct) := by
  have F := fun_mk (st := sIG) l c k
  exact ⟨F, F.binds fun _ _ _ _ _ _ us hl => match us, hl with | [_], _ => rfl, k, mg_of X G a⟩
theorem dn_10 {K : Frag} {h : Heap} {mg : Str → Option Value} {g : Addr} {oc kV dc pm cd ct : Value} {od an : Option Addr} {sl : Array (Option Value)} (X : K.In h) (G : h.Ns mainGlobals mg)
    (a : nsIn K mainGlobals "need_listing" = some (some (.ref g))) (l : K.lookup g = some ⟨oc, od, .func (fnOf "need_listing" "need_listing" (defArgs sNG) (defBody sNG) (defScope sNG) .none kV dc pm an cd ct), sl⟩) (c : codeIn K cd "need_listing" = true) (k : keepIn K (.ref g) = true) :
    Dn K mg "need_listing" sNG ["thing"] g (fnOf "need_listing" "need_listing" (defArgs sNG) (defBody sNG) (defScope sNG) .none kV dc pm an cd ct) := by
  have F := fun_mk (st := sNG) l c k
  exact ⟨F, F.binds fun _ _ _ _ _ _ us hl => match us, hl with | [_], _ => rfl, k, mg_of X G a⟩
theorem dn_11 {K : Frag} {h : Heap} {mg : Str → Option Value} {g : Addr} {oc kV dc pm cd ct : Value} {od an : Option Addr} {sl : Array (Option Value)} (X : K.In h) (G : h.Ns mainGlobals mg)
    (a : nsIn K mainGlobals "counts_of" = some (some (.ref g))) (l : K.lookup g = some ⟨oc, od, .func (fnOf "counts_of" "counts_of" (defArgs sCO) (defBody sCO) (defScope sCO) .none kV dc pm an cd ct), sl⟩) (c : codeIn K cd "counts_of" = true) (k : keepIn K (.ref g) = true) :
    Dn K mg "counts_of" sCO ["listing"] g (fnOf "counts_of" "counts_of" (defArgs sCO) (defBody sCO) (defScope sCO) .none kV dc pm an cd ct) := by
  have F := fun_mk (st := sCO) l c k
  exact ⟨F, F.binds fun _ _ _ _ _ _ us hl => match us, hl with | [_], _ => rfl, k, mg_of X G a⟩
theorem dn_12 {K : Frag} {h : Heap} {mg : Str → Option Value} {g : Addr} {oc kV dc pm cd ct : Value} {od an : Option Addr} {sl : Array (Option Value)} (X : K.In h) (G : h.Ns mainGlobals mg)
    (a : nsIn K mainGlobals "listing_counts" = some (some (.ref g))) (l : K.lookup g = some ⟨oc, od, .func (fnOf "listing_counts" "listing_counts" (defArgs sLC) (defBody sLC) (defScope sLC) .none kV dc pm an cd ct), sl⟩) (c : codeIn K cd "listing_counts" = true) (k : keepIn K (.ref g) = true) :
    Dn K mg "listing_counts" sLC ["listing"] g (fnOf "listing_counts" "listing_counts" (defArgs sLC) (defBody sLC) (defScope sLC) .none kV dc pm an cd ct) := by
  have F := fun_mk (st := sLC) l c k
  exact ⟨F, F.binds fun _ _ _ _ _ _ us hl => match us, hl with | [_], _ => rfl, k, mg_of X G a⟩
theorem dn_13 {K : Frag} {h : Heap} {mg : Str → Option Value} {g : Addr} {oc kV dc pm cd ct : Value} {od an : Option Addr} {sl : Array (Option Value)} (X : K.In h) (G : h.Ns mainGlobals mg)
    (a : nsIn K mainGlobals "fits_row" = some (some (.ref g))) (l : K.lookup g = some ⟨oc, od, .func (fnOf "fits_row" "fits_row" (defArgs sFR) (defBody sFR) (defScope sFR) .none kV dc pm an cd ct), sl⟩) (c : codeIn K cd "fits_row" = true) (k : keepIn K (.ref g) = true) :
    Dn K mg "fits_row" sFR ["listing", "row", "dealing"] g (fnOf "fits_row" "fits_row" (defArgs sFR) (defBody sFR) (defScope sFR) .none kV dc pm an cd ct) := by
  have F := fun_mk (st := sFR) l c k
  exact ⟨F, F.binds fun _ _ _ _ _ _ us hl => match us, hl with | [_, _, _], _ => rfl, k, mg_of X G a⟩
theorem dn_14 {K : Frag} {h : Heap} {mg : Str → Option Value} {g : Addr} {oc kV dc pm cd ct : Value} {od an : Option Addr} {sl : Array (Option Value)} (X : K.In h) (G : h.Ns mainGlobals mg)
    (a : nsIn K mainGlobals "fits" = some (some (.ref g))) (l : K.lookup g = some ⟨oc, od, .func (fnOf "fits" "fits" (defArgs sFT) (defBody sFT) (defScope sFT) .none kV dc pm an cd ct), sl⟩) (c : codeIn K cd "fits" = true) (k : keepIn K (.ref g) = true) :
    Dn K mg "fits" sFT ["listing", "outcomes", "dealing"] g (fnOf "fits" "fits" (defArgs sFT) (defBody sFT) (defScope sFT) .none kV dc pm an cd ct) := by
  have F := fun_mk (st := sFT) l c k
  exact ⟨F, F.binds fun _ _ _ _ _ _ us hl => match us, hl with | [_, _, _], _ => rfl, k, mg_of X G a⟩
theorem dn_15 {K : Frag} {h : Heap} {mg : Str → Option Value} {g : Addr} {oc kV dc pm cd ct : Value} {od an : Option Addr} {sl : Array (Option Value)} (X : K.In h) (G : h.Ns mainGlobals mg)
    (a : nsIn K mainGlobals "_law_cell" = some (some (.ref g))) (l : K.lookup g = some ⟨oc, od, .func (fnOf "_law_cell" "_law_cell" (defArgs sCell) (defBody sCell) (defScope sCell) .none kV dc pm an cd ct), sl⟩) (c : codeIn K cd "_law_cell" = true) (k : keepIn K (.ref g) = true) :
    Dn K mg "_law_cell" sCell ["_law_script", "_law_k"] g (fnOf "_law_cell" "_law_cell" (defArgs sCell) (defBody sCell) (defScope sCell) .none kV dc pm an cd ct) := by
  have F := fun_mk (st := sCell) l c k
  exact ⟨F, F.binds fun _ _ _ _ _ _ us hl => match us, hl with | [_, _], _ => rfl, k, mg_of X G a⟩
theorem dn_16 {K : Frag} {h : Heap} {mg : Str → Option Value} {g : Addr} {oc kV dc pm cd ct : Value} {od an : Option Addr} {sl : Array (Option Value)} (X : K.In h) (G : h.Ns mainGlobals mg)
    (a : nsIn K mainGlobals "_law_box" = some (some (.ref g))) (l : K.lookup g = some ⟨oc, od, .func (fnOf "_law_box" "_law_box" (defArgs sBox) (defBody sBox) (defScope sBox) .none kV dc pm an cd ct), sl⟩) (c : codeIn K cd "_law_box" = true) (k : keepIn K (.ref g) = true) :
    Dn K mg "_law_box" sBox ["_law_cell_here"] g (fnOf "_law_box" "_law_box" (defArgs sBox) (defBody sBox) (defScope sBox) .none kV dc pm an cd ct) := by
  have F := fun_mk (st := sBox) l c k
  exact ⟨F, F.binds fun _ _ _ _ _ _ us hl => match us, hl with | [_], _ => rfl, k, mg_of X G a⟩
theorem dn_17 {K : Frag} {h : Heap} {mg : Str → Option Value} {g : Addr} {oc kV dc pm cd ct : Value} {od an : Option Addr} {sl : Array (Option Value)} (X : K.In h) (G : h.Ns mainGlobals mg)
    (a : nsIn K mainGlobals "_law_take" = some (some (.ref g))) (l : K.lookup g = some ⟨oc, od, .func (fnOf "_law_take" "_law_take" (defArgs sTake) (defBody sTake) (defScope sTake) .none kV dc pm an cd ct), sl⟩) (c : codeIn K cd "_law_take" = true) (k : keepIn K (.ref g) = true) :
    Dn K mg "_law_take" sTake ["_law_box_here", "_law_many"] g (fnOf "_law_take" "_law_take" (defArgs sTake) (defBody sTake) (defScope sTake) .none kV dc pm an cd ct) := by
  have F := fun_mk (st := sTake) l c k
  exact ⟨F, F.binds fun _ _ _ _ _ _ us hl => match us, hl with | [_, _], _ => rfl, k, mg_of X G a⟩
theorem dn_18 {K : Frag} {h : Heap} {mg : Str → Option Value} {g : Addr} {oc kV dc pm cd ct : Value} {od an : Option Addr} {sl : Array (Option Value)} (X : K.In h) (G : h.Ns mainGlobals mg)
    (a : nsIn K mainGlobals "_law_whole" = some (some (.ref g))) (l : K.lookup g = some ⟨oc, od, .func (fnOf "_law_whole" "_law_whole" (defArgs sWh) (defBody sWh) (defScope sWh) .none kV dc pm an cd ct), sl⟩) (c : codeIn K cd "_law_whole" = true) (k : keepIn K (.ref g) = true) :
    Dn K mg "_law_whole" sWh ["_law_found"] g (fnOf "_law_whole" "_law_whole" (defArgs sWh) (defBody sWh) (defScope sWh) .none kV dc pm an cd ct) := by
  have F := fun_mk (st := sWh) l c k
  exact ⟨F, F.binds fun _ _ _ _ _ _ us hl => match us, hl with | [_], _ => rfl, k, mg_of X G a⟩
theorem dn_19 {K : Frag} {h : Heap} {mg : Str → Option Value} {g : Addr} {oc kV dc pm cd ct : Value} {od an : Option Addr} {sl : Array (Option Value)} (X : K.In h) (G : h.Ns mainGlobals mg)
    (a : nsIn K mainGlobals "_law_case" = some (some (.ref g))) (l : K.lookup g = some ⟨oc, od, .func (fnOf "_law_case" "_law_case" (defArgs sCa) (defBody sCa) (defScope sCa) .none kV dc pm an cd ct), sl⟩) (c : codeIn K cd "_law_case" = true) (k : keepIn K (.ref g) = true) :
    Dn K mg "_law_case" sCa ["_law_box_here"] g (fnOf "_law_case" "_law_case" (defArgs sCa) (defBody sCa) (defScope sCa) .none kV dc pm an cd ct) := by
  have F := fun_mk (st := sCa) l c k
  exact ⟨F, F.binds fun _ _ _ _ _ _ us hl => match us, hl with | [_], _ => rfl, k, mg_of X G a⟩
theorem dn_20 {K : Frag} {h : Heap} {mg : Str → Option Value} {g : Addr} {oc kV dc pm cd ct : Value} {od an : Option Addr} {sl : Array (Option Value)} (X : K.In h) (G : h.Ns mainGlobals mg)
    (a : nsIn K mainGlobals "_law_is_outcome" = some (some (.ref g))) (l : K.lookup g = some ⟨oc, od, .func (fnOf "_law_is_outcome" "_law_is_outcome" (defArgs sLO) (defBody sLO) (defScope sLO) .none kV dc pm an cd ct), sl⟩) (c : codeIn K cd "_law_is_outcome" = true) (k : keepIn K (.ref g) = true) :
    Dn K mg "_law_is_outcome" sLO ["_law_thing"] g (fnOf "_law_is_outcome" "_law_is_outcome" (defArgs sLO) (defBody sLO) (defScope sLO) .none kV dc pm an cd ct) := by
  have F := fun_mk (st := sLO) l c k
  exact ⟨F, F.binds fun _ _ _ _ _ _ us hl => match us, hl with | [_], _ => rfl, k, mg_of X G a⟩
theorem dn_21 {K : Frag} {h : Heap} {mg : Str → Option Value} {g : Addr} {oc kV dc pm cd ct : Value} {od an : Option Addr} {sl : Array (Option Value)} (X : K.In h) (G : h.Ns mainGlobals mg)
    (a : nsIn K mainGlobals "_law_row_due" = some (some (.ref g))) (l : K.lookup g = some ⟨oc, od, .func (fnOf "_law_row_due" "_law_row_due" (defArgs sRD) (defBody sRD) (defScope sRD) .none kV dc pm an cd ct), sl⟩) (c : codeIn K cd "_law_row_due" = true) (k : keepIn K (.ref g) = true) :
    Dn K mg "_law_row_due" sRD ["_law_outcomes"] g (fnOf "_law_row_due" "_law_row_due" (defArgs sRD) (defBody sRD) (defScope sRD) .none kV dc pm an cd ct) := by
  have F := fun_mk (st := sRD) l c k
  exact ⟨F, F.binds fun _ _ _ _ _ _ us hl => match us, hl with | [_], _ => rfl, k, mg_of X G a⟩
theorem dn_22 {K : Frag} {h : Heap} {mg : Str → Option Value} {g : Addr} {oc kV dc pm cd ct : Value} {od an : Option Addr} {sl : Array (Option Value)} (X : K.In h) (G : h.Ns mainGlobals mg)
    (a : nsIn K mainGlobals "_law_is_listing" = some (some (.ref g))) (l : K.lookup g = some ⟨oc, od, .func (fnOf "_law_is_listing" "_law_is_listing" (defArgs sLG) (defBody sLG) (defScope sLG) .none kV dc pm an cd ct), sl⟩) (c : codeIn K cd "_law_is_listing" = true) (k : keepIn K (.ref g) = true) :
    Dn K mg "_law_is_listing" sLG ["_law_thing"] g (fnOf "_law_is_listing" "_law_is_listing" (defArgs sLG) (defBody sLG) (defScope sLG) .none kV dc pm an cd ct) := by
  have F := fun_mk (st := sLG) l c k
  exact ⟨F, F.binds fun _ _ _ _ _ _ us hl => match us, hl with | [_], _ => rfl, k, mg_of X G a⟩
theorem dn_23 {K : Frag} {h : Heap} {mg : Str → Option Value} {g : Addr} {oc kV dc pm cd ct : Value} {od an : Option Addr} {sl : Array (Option Value)} (X : K.In h) (G : h.Ns mainGlobals mg)
    (a : nsIn K mainGlobals "_law_due" = some (some (.ref g))) (l : K.lookup g = some ⟨oc, od, .func (fnOf "_law_due" "_law_due" (defArgs sDu) (defBody sDu) (defScope sDu) .none kV dc pm an cd ct), sl⟩) (c : codeIn K cd "_law_due" = true) (k : keepIn K (.ref g) = true) :
    Dn K mg "_law_due" sDu ["_law_door", "_law_listing", "_law_outcomes", "_law_dealing"] g (fnOf "_law_due" "_law_due" (defArgs sDu) (defBody sDu) (defScope sDu) .none kV dc pm an cd ct) := by
  have F := fun_mk (st := sDu) l c k
  exact ⟨F, F.binds fun _ _ _ _ _ _ us hl => match us, hl with | [_, _, _, _], _ => rfl, k, mg_of X G a⟩
theorem dn_24 {K : Frag} {h : Heap} {mg : Str → Option Value} {g : Addr} {oc kV dc pm cd ct : Value} {od an : Option Addr} {sl : Array (Option Value)} (X : K.In h) (G : h.Ns mainGlobals mg)
    (a : nsIn K mainGlobals "_law_asked" = some (some (.ref g))) (l : K.lookup g = some ⟨oc, od, .func (fnOf "_law_asked" "_law_asked" (defArgs sAs) (defBody sAs) (defScope sAs) .none kV dc pm an cd ct), sl⟩) (c : codeIn K cd "_law_asked" = true) (k : keepIn K (.ref g) = true) :
    Dn K mg "_law_asked" sAs ["_law_door", "_law_listing", "_law_outcomes", "_law_dealing"] g (fnOf "_law_asked" "_law_asked" (defArgs sAs) (defBody sAs) (defScope sAs) .none kV dc pm an cd ct) := by
  have F := fun_mk (st := sAs) l c k
  exact ⟨F, F.binds fun _ _ _ _ _ _ us hl => match us, hl with | [_, _, _, _], _ => rfl, k, mg_of X G a⟩
theorem dn_25 {K : Frag} {h : Heap} {mg : Str → Option Value} {g : Addr} {oc kV dc pm cd ct : Value} {od an : Option Addr} {sl : Array (Option Value)} (X : K.In h) (G : h.Ns mainGlobals mg)
    (a : nsIn K mainGlobals "_law_spoilt" = some (some (.ref g))) (l : K.lookup g = some ⟨oc, od, .func (fnOf "_law_spoilt" "_law_spoilt" (defArgs sSp) (defBody sSp) (defScope sSp) .none kV dc pm an cd ct), sl⟩) (c : codeIn K cd "_law_spoilt" = true) (k : keepIn K (.ref g) = true) :
    Dn K mg "_law_spoilt" sSp ["_law_box_here", "_law_some", "_law_odd"] g (fnOf "_law_spoilt" "_law_spoilt" (defArgs sSp) (defBody sSp) (defScope sSp) .none kV dc pm an cd ct) := by
  have F := fun_mk (st := sSp) l c k
  exact ⟨F, F.binds fun _ _ _ _ _ _ us hl => match us, hl with | [_, _, _], _ => rfl, k, mg_of X G a⟩
theorem dn_26 {K : Frag} {h : Heap} {mg : Str → Option Value} {g : Addr} {oc kV dc pm cd ct : Value} {od an : Option Addr} {sl : Array (Option Value)} (X : K.In h) (G : h.Ns mainGlobals mg)
    (a : nsIn K mainGlobals "_law_right" = some (some (.ref g))) (l : K.lookup g = some ⟨oc, od, .func (fnOf "_law_right" "_law_right" (defArgs sRi) (defBody sRi) (defScope sRi) .none kV dc pm an cd ct), sl⟩) (c : codeIn K cd "_law_right" = true) (k : keepIn K (.ref g) = true) :
    Dn K mg "_law_right" sRi ["_law_box_here"] g (fnOf "_law_right" "_law_right" (defArgs sRi) (defBody sRi) (defScope sRi) .none kV dc pm an cd ct) := by
  have F := fun_mk (st := sRi) l c k
  exact ⟨F, F.binds fun _ _ _ _ _ _ us hl => match us, hl with | [_], _ => rfl, k, mg_of X G a⟩
theorem dn_27 {K : Frag} {h : Heap} {mg : Str → Option Value} {g : Addr} {oc kV dc pm cd ct : Value} {od an : Option Addr} {sl : Array (Option Value)} (X : K.In h) (G : h.Ns mainGlobals mg)
    (a : nsIn K mainGlobals "law" = some (some (.ref g))) (l : K.lookup g = some ⟨oc, od, .func (fnOf "law" "law" (defArgs sLaw) (defBody sLaw) (defScope sLaw) .none kV dc pm an cd ct), sl⟩) (c : codeIn K cd "law" = true) (k : keepIn K (.ref g) = true) :
    Dn K mg "law" sLaw ["_law_script"] g (fnOf "law" "law" (defArgs sLaw) (defBody sLaw) (defScope sLaw) .none kV dc pm an cd ct) := by
  have F := fun_mk (st := sLaw) l c k
  exact ⟨F, F.binds fun _ _ _ _ _ _ us hl => match us, hl with | [_], _ => rfl, k, mg_of X G a⟩
theorem all_mk {l : OpenLaw} {w : World} {K : Frag} {h : Heap} {mg : Str → Option Value} {fa D CE2 fE2 CE3 fE3 CE4 fE4 CE5 fE5 CE6 fE6 n0 n1 n2 n3 : Addr} {g0 g1 g2 g3 g4 g5 g6 g7 g8 g9 g10 g11 g12 g13 g14 g15 g16 g17 g18 g19 g20 g21 g22 g23 g24 g25 g26 g27 : Addr} {d0 d1 d2 d3 d4 d5 d6 d7 d8 d9 d10 d11 d12 d13 d14 d15 d16 d17 d18 d19 d20 d21 d22 d23 d24 d25 d26 d27 : FuncData} (X : K.In h) (G : h.Ns mainGlobals mg) (hfa : mg "law" = some (.ref fa))
    {oc2 kV2 dc2 pm2 cd2 ct2 oc3 kV3 dc3 pm3 cd3 ct3 oc4 kV4 dc4 pm4 cd4 ct4 oc5 kV5 dc5 pm5 cd5 ct5 oc6 kV6 dc6 pm6 cd6 ct6 : Value} {od2 an2 od3 an3 od4 an4 od5 an5 od6 an6 : Option Addr} {sl2 sl3 sl4 sl5 sl6 : Array (Option Value)} {od_0 od_1 od_2 od_3 : Option Addr} {tt0 tt1 tt2 tt3 uu0 uu1 uu2 uu3 t20 tL tM : Tok} {nm0 nm1 nm2 nm3 : Nat} {sl_0 sl_1 sl_2 sl_3 : Array (Option Value)}
    (B : BaseC K D) (eE2 : ErrC K D "NoFolk" CE2 fE2) (eE3 : ErrC K D "NoDealing" CE3 fE3) (eE4 : ErrC K D "NoListing" CE4 fE4) (eE5 : ErrC K D "NoOutcome" CE5 fE5) (eE6 : ErrC K D "NoYes" CE6 fE6)
    (aD : nsIn K mainGlobals "DealError" = some (some (.ref D))) (a2 : nsIn K mainGlobals "NoFolk" = some (some (.ref CE2))) (a3 : nsIn K mainGlobals "NoDealing" = some (some (.ref CE3))) (a4 : nsIn K mainGlobals "NoListing" = some (some (.ref CE4))) (a5 : nsIn K mainGlobals "NoOutcome" = some (some (.ref CE5))) (a6 : nsIn K mainGlobals "NoYes" = some (some (.ref CE6)))
    (lf2 : K.lookup fE2 = some ⟨oc2, od2, .func (fnOf "__init__" "NoFolk.__init__" (defArgs sIni2) (defBody sIni2) (defScope sIni2) .none kV2 dc2 pm2 an2 cd2 ct2), sl2⟩) (cf2 : codeIn K cd2 "NoFolk.__init__" = true) (kf2 : keepIn K (.ref fE2) = true) (tk2 : takerIn K CE2 "found" = some none) (nf2 : findIn K (.ref CE2) "found" = some none)
    (lf3 : K.lookup fE3 = some ⟨oc3, od3, .func (fnOf "__init__" "NoDealing.__init__" (defArgs sIni3) (defBody sIni3) (defScope sIni3) .none kV3 dc3 pm3 an3 cd3 ct3), sl3⟩) (cf3 : codeIn K cd3 "NoDealing.__init__" = true) (kf3 : keepIn K (.ref fE3) = true) (tk3 : takerIn K CE3 "found" = some none) (nf3 : findIn K (.ref CE3) "found" = some none)
    (lf4 : K.lookup fE4 = some ⟨oc4, od4, .func (fnOf "__init__" "NoListing.__init__" (defArgs sIni4) (defBody sIni4) (defScope sIni4) .none kV4 dc4 pm4 an4 cd4 ct4), sl4⟩) (cf4 : codeIn K cd4 "NoListing.__init__" = true) (kf4 : keepIn K (.ref fE4) = true) (tk4 : takerIn K CE4 "found" = some none) (nf4 : findIn K (.ref CE4) "found" = some none)
    (lf5 : K.lookup fE5 = some ⟨oc5, od5, .func (fnOf "__init__" "NoOutcome.__init__" (defArgs sIni5) (defBody sIni5) (defScope sIni5) .none kV5 dc5 pm5 an5 cd5 ct5), sl5⟩) (cf5 : codeIn K cd5 "NoOutcome.__init__" = true) (kf5 : keepIn K (.ref fE5) = true) (tk5 : takerIn K CE5 "place" = some none) (nf5 : findIn K (.ref CE5) "place" = some none)
    (lf6 : K.lookup fE6 = some ⟨oc6, od6, .func (fnOf "__init__" "NoYes.__init__" (defArgs sIni6) (defBody sIni6) (defScope sIni6) .none kV6 dc6 pm6 an6 cd6 ct6), sl6⟩) (cf6 : codeIn K cd6 "NoYes.__init__" = true) (kf6 : keepIn K (.ref fE6) = true) (tk6 : takerIn K CE6 "place" = some none) (nf6 : findIn K (.ref CE6) "place" = some none)
    (b0 : nsIn K mainGlobals "BETTERED" = some (some (.ref n0))) (c0 : K.lookup n0 = some ⟨.type "tuple", od_0, .seq #[.int 1 tt0, .int 0 uu0] nm0, sl_0⟩)
    (b1 : nsIn K mainGlobals "WORSENED" = some (some (.ref n1))) (c1 : K.lookup n1 = some ⟨.type "tuple", od_1, .seq #[.int 0 tt1, .int 1 uu1] nm1, sl_1⟩)
    (b2 : nsIn K mainGlobals "ALWAYS" = some (some (.ref n2))) (c2 : K.lookup n2 = some ⟨.type "tuple", od_2, .seq #[.int 1 tt2, .int 1 uu2] nm2, sl_2⟩)
    (b3 : nsIn K mainGlobals "NEVER" = some (some (.ref n3))) (c3 : K.lookup n3 = some ⟨.type "tuple", od_3, .seq #[.int 0 tt3, .int 0 uu3] nm3, sl_3⟩)
    (a20 : nsIn K mainGlobals "MOST_FOLK" = some (some (.int 20 t20))) (aL : nsIn K mainGlobals "LEAST_NUMBER" = some (some (.int (-99) tL))) (aM : nsIn K mainGlobals "MOST_NUMBER" = some (some (.int 99 tM)))
    (gt : specialIn K (.builtin "object.__class__") "__get__" = some (some (.builtin "getset_descriptor.__get__"))) (tk : takesIn K (.builtin "object.__class__") = some true)
    (z_isinstance : nsIn K mainGlobals "isinstance" = some none)
    (z_int : nsIn K mainGlobals "int" = some none)
    (z_bool : nsIn K mainGlobals "bool" = some none)
    (z_len : nsIn K mainGlobals "len" = some none)
    (z_range : nsIn K mainGlobals "range" = some none)
    (z_tuple : nsIn K mainGlobals "tuple" = some none)
    (z_list : nsIn K mainGlobals "list" = some none)
    (z_enumerate : nsIn K mainGlobals "enumerate" = some none)
    (z_all : nsIn K mainGlobals "all" = some none)
    (z_repr : nsIn K mainGlobals "repr" = some none)
    (z_max : nsIn K mainGlobals "max" = some none)
    (z_min : nsIn K mainGlobals "min" = some none)
    (e0 : Dn K mg "is_number" sIsNum ["thing"] g0 d0)
    (e1 : Dn K mg "is_whole" sIsWh ["thing", "low", "high"] g1 d1)
    (e2 : Dn K mg "need_hands" sNH ["thing", "folk"] g2 d2)
    (e3 : Dn K mg "hand_of" sHO ["dealing", "at"] g3 d3)
    (e4 : Dn K mg "is_outcome" sIO ["thing"] g4 d4)
    (e5 : Dn K mg "need_outcome" sNO ["thing", "place"] g5 d5)
    (e6 : Dn K mg "need_outcomes" sNOs ["thing"] g6 d6)
    (e7 : Dn K mg "yes_row" sYR ["outcomes"] g7 d7)
    (e8 : Dn K mg "is_listed" sIL ["thing"] g8 d8)
    (e9 : Dn K mg "is_listing" sIG ["thing"] g9 d9)
    (e10 : Dn K mg "need_listing" sNG ["thing"] g10 d10)
    (e11 : Dn K mg "counts_of" sCO ["listing"] g11 d11)
    (e12 : Dn K mg "listing_counts" sLC ["listing"] g12 d12)
    (e13 : Dn K mg "fits_row" sFR ["listing", "row", "dealing"] g13 d13)
    (e14 : Dn K mg "fits" sFT ["listing", "outcomes", "dealing"] g14 d14)
    (e15 : Dn K mg "_law_cell" sCell ["_law_script", "_law_k"] g15 d15)
    (e16 : Dn K mg "_law_box" sBox ["_law_cell_here"] g16 d16)
    (e17 : Dn K mg "_law_take" sTake ["_law_box_here", "_law_many"] g17 d17)
    (e18 : Dn K mg "_law_whole" sWh ["_law_found"] g18 d18)
    (e19 : Dn K mg "_law_case" sCa ["_law_box_here"] g19 d19)
    (e20 : Dn K mg "_law_is_outcome" sLO ["_law_thing"] g20 d20)
    (e21 : Dn K mg "_law_row_due" sRD ["_law_outcomes"] g21 d21)
    (e22 : Dn K mg "_law_is_listing" sLG ["_law_thing"] g22 d22)
    (e23 : Dn K mg "_law_due" sDu ["_law_door", "_law_listing", "_law_outcomes", "_law_dealing"] g23 d23)
    (e24 : Dn K mg "_law_asked" sAs ["_law_door", "_law_listing", "_law_outcomes", "_law_dealing"] g24 d24)
    (e25 : Dn K mg "_law_spoilt" sSp ["_law_box_here", "_law_some", "_law_odd"] g25 d25)
    (e26 : Dn K mg "_law_right" sRi ["_law_box_here"] g26 d26)
    (e27 : Dn K mg "law" sLaw ["_law_script"] g27 d27)
    (hb : ∀ (s : Shared) (v : Value), BindsTo s d27 ⟨[v], []⟩ [("_law_script", v)])
    : ∃ fd : FuncData, (∀ (s : Shared) (v : Value), BindsTo s fd ⟨[v], []⟩ [("_law_script", v)]) ∧ ∀ base : Heap, K.In base → base.Ns mainGlobals mg → FnOk l.prog w K mg base CX0 10 fa fd ["_law_script"] (spLaw K) := by
  have e := hfa.symm.trans e27.mg
  cases e
  refine ⟨_, hb, fun base _ _ => ?_⟩
  have m_isinstance := mg_none_of X G z_isinstance
  have m_int := mg_none_of X G z_int
  have m_bool := mg_none_of X G z_bool
  have m_len := mg_none_of X G z_len
  have m_range := mg_none_of X G z_range
  have m_tuple := mg_none_of X G z_tuple
  have m_list := mg_none_of X G z_list
  have m_enumerate := mg_none_of X G z_enumerate
  have m_all := mg_none_of X G z_all
  have m_repr := mg_none_of X G z_repr
  have m_max := mg_none_of X G z_max
  have m_min := mg_none_of X G z_min
  have T : IsT K := ⟨gt, tk⟩
  have mD := mg_of X G aD
  have o2 := one2 B eE2 mD (mg_of X G a2) (fun_mk (st := sIni2) lf2 cf2 kf2) tk2
  have o3 := one3 B eE3 mD (mg_of X G a3) (fun_mk (st := sIni3) lf3 cf3 kf3) tk3
  have o4 := one4 B eE4 mD (mg_of X G a4) (fun_mk (st := sIni4) lf4 cf4 kf4) tk4
  have o5 := one5 B eE5 mD (mg_of X G a5) (fun_mk (st := sIni5) lf5 cf5 kf5) tk5
  have o6 := one6 B eE6 mD (mg_of X G a6) (fun_mk (st := sIni6) lf6 cf6 kf6) tk6
  have Z := kit6_of B eE4 eE2 eE5 eE6 eE3 mD (mg_of X G a4) (mg_of X G a2) (mg_of X G a5) (mg_of X G a6) (mg_of X G a3) nf4 nf2 nf5 nf6 nf3
  have Fo : Four K mg n0 n1 n2 n3 := ⟨mg_of X G b0, mg_of X G b1, mg_of X G b2, mg_of X G b3, top_two c0, top_two c1, top_two c2, top_two c3⟩
  have m20 := mg_of X G a20
  have mL := mg_of X G aL
  have mM := mg_of X G aM
  have GN_ := ok_isnum (P := l.prog) (w := w) (mg := mg) (base := base) T e0.fn m_isinstance m_int m_bool
  have GN := (e0.df GN_)
  have GW_ := ok_iswh e1.fn GN_ e0.bi e0.kp e0.mg
  have GW := (e1.df GW_)
  have GH_ := ok_nh e2.fn B o3 GW
  have GH := (e2.df GH_)
  have GO_ := ok_ho (P := l.prog) (w := w) (mg := mg) (base := base) e3.fn
  have GO := (e3.df GO_)
  have GI_ := ok_io T e4.fn GW mL mM m_isinstance m_tuple m_len m_bool
  have GI := (e4.df GI_)
  have GA_ := ok_no e5.fn B o5 GI
  have GA := (e5.df GA_)
  have GS_ := ok_nos T e6.fn B o2 GA m_isinstance m_list m_enumerate
  have GS := (e6.df GS_)
  have GY_ := ok_yr e7.fn B o2 o6 GS GW m20 m_len m_enumerate
  have GY := (e7.df GY_)
  have GL_ := ok_il T e8.fn GW m_isinstance m_tuple m_len
  have GL := (e8.df GL_)
  have GG_ := ok_ig T e9.fn GW GL m20 m_isinstance m_list m_len m_all
  have GG := (e9.df GG_)
  have GE_ := ok_ng e10.fn B o4 GG
  have GE := (e10.df GE_)
  have GC_ := ok_co (P := l.prog) (w := w) (mg := mg) (base := base) e11.fn Fo
  have GC := (e11.df GC_)
  have GK_ := ok_lc e12.fn GE GC
  have GK := (e12.df GK_)
  have GR_ := ok_fr e13.fn GO m_all m_enumerate
  have GR := (e13.df GR_)
  have GF_ := ok_ft e14.fn B o4 GE GY GH GR m_len
  have GF := (e14.df GF_)
  have Lc_ := ok_cell (P := l.prog) (w := w) (mg := mg) (base := base) e15.fn m_len
  have Lc := (e15.df Lc_)
  have Lb_ := ok_box (P := l.prog) (w := w) (mg := mg) (base := base) e16.fn m_int
  have Lb := (e16.df Lb_)
  have Lt_ := ok_take (P := l.prog) (w := w) (mg := mg) (base := base) e17.fn
  have Lt := (e17.df Lt_)
  have Lw_ := ok_wh (P := l.prog) (w := w) (mg := mg) (base := base) T e18.fn m_isinstance m_int m_bool
  have Lw := (e18.df Lw_)
  have Lk_ := ok_ca e19.fn Lt m_int m_range m_enumerate
  have Lk := (e19.df Lk_)
  have Lo_ := ok_lo T e20.fn Lw m_isinstance m_tuple m_len m_bool
  have Lo := (e20.df Lo_)
  have Lr_ := ok_rd T e21.fn Lo m_isinstance m_len m_list m_range m_repr
  have Lr := (e21.df Lr_)
  have Lg_ := ok_lgl T e22.fn Lw m_isinstance m_tuple m_len m_list
  have Lg := (e22.df Lg_)
  have Ld_ := ok_due e23.fn Lr Lg Lw m_len m_repr m_tuple m_enumerate
  have Ld := (e23.df Ld_)
  have La_ := ok_as Z e24.fn GY GK GF m_repr
  have La := (e24.df La_)
  have Ls_ := ok_sp e25.fn Lt m_len m_tuple
  have Ls := (e25.df Ls_)
  have Li_ := ok_ri e26.fn Lt Ls Lk La Ld GY m_len m_repr m_range
  have Li := (e26.df Li_)
  exact ok_law e27.fn Li Lb Lc m_len m_range m_max m_min
theorem walk {l : OpenLaw} {q : Program} {loose : List Str} {XP : (Str → Option Value) → Heap → Prop} {YP : World → Heap → Prop} {d : DefRec} {K : Params → Frag} (hn : l.most = some 63) (hdf : d.params.defaults = [])
    (hY : ∀ (w : World) (h : Heap), YP w h → (K w.params).In h)
    (F : ∀ (w : World) (mg : Str → Option Value) (fa : Addr) (h : Heap), (K w.params).In h → h.Ns mainGlobals mg → mg d.name = some (.ref fa) →
      ∃ fd : FuncData, (∀ (s : Shared) (u : Value), BindsTo s fd ⟨[u], []⟩ [("_law_script", u)]) ∧ ∀ base : Heap, (K w.params).In base → base.Ns mainGlobals mg → FnOk l.prog w (K w.params) mg base CX0 10 fa fd ["_law_script"] (spLaw (K w.params))) :
    WalkO q loose XP YP l.row.toRowW d [] (fun f vs => PySem.call f vs) :=
  L2.walk_ofS (n := 63) (k := 10) (x := "_law_script") (CX := fun _ => CX0) (sp := fun w => spLaw (K w.params)) hn (by decide) hdf ⟨rfl, by decide, by decide, rfl⟩ hY F (fun _ _ a ns hl _ hS hz => ⟨a, ns, rfl, hS, hl, hz, fun _ => rfl⟩) fun _ _ _ _ _ z => z
end My
open PySem PySem.W PyProof.Rows
set_option Elab.async false
def PySem.W.Fast.tw2303651413993343110 : Unit := ()
def PySem.W.Fast.tw4868541285380183807 : Unit := ()
def PySem.W.Fast.tw9784066738627978011 : Unit := ()
def PySem.W.Fast.tw9510382259242257430 : Unit := ()
def PySem.W.Fast.tw15525487918832095286 : Unit := ()
def PySem.W.Fast.tw2663833136169321898 : Unit := ()
def PySem.W.Fast.tw8062236576165485238 : Unit := ()
def PySem.W.Fast.tw4447997532194308896 : Unit := ()
def PySem.W.Fast.tw1346263885203960094 : Unit := ()
def PySem.W.Fast.tw3495559755855367187 : Unit := ()
set_option maxRecDepth 100000 in
set_option maxHeartbeats 0 in
theorem PySem.Challenge.cw_trialdeal_k53_rows_and_listings_holds : PySem.Challenge.rw_trialdeal_k53_rows_and_listings.Holds := by
  w_on; o_law; k_head; (case hw => w_witness2)
  k_fill
  refine My.walk (l := PySem.Challenge.rw_trialdeal_k53_rows_and_listings) rfl rfl (fun w h Y => PySem.W.kIn_of Y) ?F
  case F =>
    intro w mg fa h KX G hmg
    refine' My.all_mk KX G hmg (My.base_mk ?my_lD ?my_lN ?my_sk ?my_ni ?my_gaD ?my_rdD ?my_inD ?my_fiD ?my_kpD ?my_gbD ?my_hkD ?my_caD)
      (My.err_mk "NoFolk" ?my_l2 ?my_i2 ?my_t2 ?my_k2 ?my_s2 ?my_g2 ?my_h2 ?my_c2)
      (My.err_mk "NoDealing" ?my_l3 ?my_i3 ?my_t3 ?my_k3 ?my_s3 ?my_g3 ?my_h3 ?my_c3)
      (My.err_mk "NoListing" ?my_l4 ?my_i4 ?my_t4 ?my_k4 ?my_s4 ?my_g4 ?my_h4 ?my_c4)
      (My.err_mk "NoOutcome" ?my_l5 ?my_i5 ?my_t5 ?my_k5 ?my_s5 ?my_g5 ?my_h5 ?my_c5)
      (My.err_mk "NoYes" ?my_l6 ?my_i6 ?my_t6 ?my_k6 ?my_s6 ?my_g6 ?my_h6 ?my_c6)
      ?my_aD ?my_a2 ?my_a3 ?my_a4 ?my_a5 ?my_a6
      ?my_lf2 ?my_cf2 ?my_kf2 ?my_tk2 ?my_nf2
      ?my_lf3 ?my_cf3 ?my_kf3 ?my_tk3 ?my_nf3
      ?my_lf4 ?my_cf4 ?my_kf4 ?my_tk4 ?my_nf4
      ?my_lf5 ?my_cf5 ?my_kf5 ?my_tk5 ?my_nf5
      ?my_lf6 ?my_cf6 ?my_kf6 ?my_tk6 ?my_nf6
      ?my_tb0 ?my_tc0 ?my_tb1 ?my_tc1 ?my_tb2 ?my_tc2 ?my_tb3 ?my_tc3
      ?my_a20 ?my_aL ?my_aM ?my_gt ?my_tkT
      ?my_z0 ?my_z1 ?my_z2 ?my_z3 ?my_z4 ?my_z5 ?my_z6 ?my_z7 ?my_z8 ?my_z9 ?my_z10 ?my_z11
      (My.dn_0 KX G ?my_A0 ?my_L0 ?my_C0 ?my_K0)
      (My.dn_1 KX G ?my_A1 ?my_L1 ?my_C1 ?my_K1)
      (My.dn_2 KX G ?my_A2 ?my_L2 ?my_C2 ?my_K2)
      (My.dn_3 KX G ?my_A3 ?my_L3 ?my_C3 ?my_K3)
      (My.dn_4 KX G ?my_A4 ?my_L4 ?my_C4 ?my_K4)
      (My.dn_5 KX G ?my_A5 ?my_L5 ?my_C5 ?my_K5)
      (My.dn_6 KX G ?my_A6 ?my_L6 ?my_C6 ?my_K6)
      (My.dn_7 KX G ?my_A7 ?my_L7 ?my_C7 ?my_K7)
      (My.dn_8 KX G ?my_A8 ?my_L8 ?my_C8 ?my_K8)
      (My.dn_9 KX G ?my_A9 ?my_L9 ?my_C9 ?my_K9)
      (My.dn_10 KX G ?my_A10 ?my_L10 ?my_C10 ?my_K10)
      (My.dn_11 KX G ?my_A11 ?my_L11 ?my_C11 ?my_K11)
      (My.dn_12 KX G ?my_A12 ?my_L12 ?my_C12 ?my_K12)
      (My.dn_13 KX G ?my_A13 ?my_L13 ?my_C13 ?my_K13)
      (My.dn_14 KX G ?my_A14 ?my_L14 ?my_C14 ?my_K14)
      (My.dn_15 KX G ?my_A15 ?my_L15 ?my_C15 ?my_K15)
      (My.dn_16 KX G ?my_A16 ?my_L16 ?my_C16 ?my_K16)
      (My.dn_17 KX G ?my_A17 ?my_L17 ?my_C17 ?my_K17)
      (My.dn_18 KX G ?my_A18 ?my_L18 ?my_C18 ?my_K18)
      (My.dn_19 KX G ?my_A19 ?my_L19 ?my_C19 ?my_K19)
      (My.dn_20 KX G ?my_A20 ?my_L20 ?my_C20 ?my_K20)
      (My.dn_21 KX G ?my_A21 ?my_L21 ?my_C21 ?my_K21)
      (My.dn_22 KX G ?my_A22 ?my_L22 ?my_C22 ?my_K22)
      (My.dn_23 KX G ?my_A23 ?my_L23 ?my_C23 ?my_K23)
      (My.dn_24 KX G ?my_A24 ?my_L24 ?my_C24 ?my_K24)
      (My.dn_25 KX G ?my_A25 ?my_L25 ?my_C25 ?my_K25)
      (My.dn_26 KX G ?my_A26 ?my_L26 ?my_C26 ?my_K26)
      (My.dn_27 KX G ?my_A27 ?my_L27 ?my_C27 ?my_K27)
      (fun s v => .of_eq rfl)
    (case my_aD => k_is); (case my_a2 => k_is); (case my_a3 => k_is); (case my_a4 => k_is); (case my_a5 => k_is); (case my_a6 => k_is); (case my_lD => k_is); (case my_lN => k_is)
    (case my_sk => exact My.strKeys_of rfl)
    (case my_ni => first | rfl | decide +kernel)
    (case my_gaD => k_is); (case my_rdD => k_is); (case my_inD => k_is); (case my_fiD => k_is); (case my_kpD => k_is); (case my_gbD => k_is); (case my_hkD => k_is); (case my_caD => k_is)
    (case my_l2 => k_is); (case my_i2 => k_is); (case my_t2 => k_is); (case my_k2 => k_is); (case my_s2 => k_is); (case my_g2 => k_is); (case my_h2 => k_is); (case my_c2 => k_is)
    (case my_l3 => k_is); (case my_i3 => k_is); (case my_t3 => k_is); (case my_k3 => k_is); (case my_s3 => k_is); (case my_g3 => k_is); (case my_h3 => k_is); (case my_c3 => k_is)
    (case my_l4 => k_is); (case my_i4 => k_is); (case my_t4 => k_is); (case my_k4 => k_is); (case my_s4 => k_is); (case my_g4 => k_is); (case my_h4 => k_is); (case my_c4 => k_is)
    (case my_l5 => k_is); (case my_i5 => k_is); (case my_t5 => k_is); (case my_k5 => k_is); (case my_s5 => k_is); (case my_g5 => k_is); (case my_h5 => k_is); (case my_c5 => k_is)
    (case my_l6 => k_is); (case my_i6 => k_is); (case my_t6 => k_is); (case my_k6 => k_is); (case my_s6 => k_is); (case my_g6 => k_is); (case my_h6 => k_is); (case my_c6 => k_is)
    (case my_lf2 => k_is); (case my_cf2 => k_is); (case my_kf2 => k_is); (case my_tk2 => k_is); (case my_nf2 => k_is)
    (case my_lf3 => k_is); (case my_cf3 => k_is); (case my_kf3 => k_is); (case my_tk3 => k_is); (case my_nf3 => k_is)
    (case my_lf4 => k_is); (case my_cf4 => k_is); (case my_kf4 => k_is); (case my_tk4 => k_is); (case my_nf4 => k_is)
    (case my_lf5 => k_is); (case my_cf5 => k_is); (case my_kf5 => k_is); (case my_tk5 => k_is); (case my_nf5 => k_is)
    (case my_lf6 => k_is); (case my_cf6 => k_is); (case my_kf6 => k_is); (case my_tk6 => k_is); (case my_nf6 => k_is)
    (case my_tb0 => k_is); (case my_tb1 => k_is); (case my_tb2 => k_is); (case my_tb3 => k_is); (case my_tc0 => k_is); (case my_tc1 => k_is); (case my_tc2 => k_is); (case my_tc3 => k_is)
    (case my_a20 => k_is); (case my_aL => k_is); (case my_aM => k_is); (case my_gt => k_is); (case my_tkT => k_is)
    (case my_z0 => k_is); (case my_z1 => k_is); (case my_z2 => k_is); (case my_z3 => k_is); (case my_z4 => k_is); (case my_z5 => k_is); (case my_z6 => k_is); (case my_z7 => k_is); (case my_z8 => k_is); (case my_z9 => k_is); (case my_z10 => k_is); (case my_z11 => k_is)
    (case my_A0 => k_is); (case my_L0 => k_is); (case my_C0 => k_is); (case my_K0 => k_is)
    (case my_A1 => k_is); (case my_L1 => k_is); (case my_C1 => k_is); (case my_K1 => k_is)
    (case my_A2 => k_is); (case my_L2 => k_is); (case my_C2 => k_is); (case my_K2 => k_is)
    (case my_A3 => k_is); (case my_L3 => k_is); (case my_C3 => k_is); (case my_K3 => k_is)
    (case my_A4 => k_is); (case my_L4 => k_is); (case my_C4 => k_is); (case my_K4 => k_is)
    (case my_A5 => k_is); (case my_L5 => k_is); (case my_C5 => k_is); (case my_K5 => k_is)
    (case my_A6 => k_is); (case my_L6 => k_is); (case my_C6 => k_is); (case my_K6 => k_is)
    (case my_A7 => k_is); (case my_L7 => k_is); (case my_C7 => k_is); (case my_K7 => k_is)
    (case my_A8 => k_is); (case my_L8 => k_is); (case my_C8 => k_is); (case my_K8 => k_is)
    (case my_A9 => k_is); (case my_L9 => k_is); (case my_C9 => k_is); (case my_K9 => k_is)
    (case my_A10 => k_is); (case my_L10 => k_is); (case my_C10 => k_is); (case my_K10 => k_is)
    (case my_A11 => k_is); (case my_L11 => k_is); (case my_C11 => k_is); (case my_K11 => k_is)
    (case my_A12 => k_is); (case my_L12 => k_is); (case my_C12 => k_is); (case my_K12 => k_is)
    (case my_A13 => k_is); (case my_L13 => k_is); (case my_C13 => k_is); (case my_K13 => k_is)
    (case my_A14 => k_is); (case my_L14 => k_is); (case my_C14 => k_is); (case my_K14 => k_is)
    (case my_A15 => k_is); (case my_L15 => k_is); (case my_C15 => k_is); (case my_K15 => k_is)
    (case my_A16 => k_is); (case my_L16 => k_is); (case my_C16 => k_is); (case my_K16 => k_is)
    (case my_A17 => k_is); (case my_L17 => k_is); (case my_C17 => k_is); (case my_K17 => k_is)
    (case my_A18 => k_is); (case my_L18 => k_is); (case my_C18 => k_is); (case my_K18 => k_is)
    (case my_A19 => k_is); (case my_L19 => k_is); (case my_C19 => k_is); (case my_K19 => k_is)
    (case my_A20 => k_is); (case my_L20 => k_is); (case my_C20 => k_is); (case my_K20 => k_is)
    (case my_A21 => k_is); (case my_L21 => k_is); (case my_C21 => k_is); (case my_K21 => k_is)
    (case my_A22 => k_is); (case my_L22 => k_is); (case my_C22 => k_is); (case my_K22 => k_is)
    (case my_A23 => k_is); (case my_L23 => k_is); (case my_C23 => k_is); (case my_K23 => k_is)
    (case my_A24 => k_is); (case my_L24 => k_is); (case my_C24 => k_is); (case my_K24 => k_is)
    (case my_A25 => k_is); (case my_L25 => k_is); (case my_C25 => k_is); (case my_K25 => k_is)
    (case my_A26 => k_is); (case my_L26 => k_is); (case my_C26 => k_is); (case my_K26 => k_is)
    (case my_A27 => k_is); (case my_L27 => k_is); (case my_C27 => k_is); (case my_K27 => k_is)
