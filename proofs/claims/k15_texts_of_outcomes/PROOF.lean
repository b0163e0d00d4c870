import PyProof.Rows.All
import Wide.All
import OpenK.AllK
import Wide.FinOn
import Lean
import PyProof.EqAt
import PyProof.EqKinds
import PyProof.TupleCall
import PyProof.ExcClass2
import PyProof.InstStoreFacts
import PyProof.ExcArgs
import PyProof.ExcInit
import PyProof.ExcBaseAll.ValueError
import KE.KIsAll
import PyProof.RulesRaise
import PyProof.RulesAs
import PyProof.RaisesMany
import PyProof.NeKinds
import PyProof.EnumFor
import PyProof.EnumStmt
import PyProof.EnumMake
import PyProof.Rows.EnumRows
import PyProof.CompFree
import KE.KIntText
import PyProof.StrBlockG
import PyProof.StrBlockH
import PyProof.StrWalks
import PyProof.Rows.StrNews2
import PyProof.Rows.StrOr
import PyProof.Rows.Digits
import PyProof.StrBlockL
import PyProof.MeetsStr2
import PyProof.CompMap
import KE.IntTextLaws
import PyProof.Rows.StrPartPair
import PyProof.StrLawsTight
import PyProof.StrLawsChain
import PyProof.Rows.StrIntSpec
import PyProof.Rows.StrItems
import PyProof.ReprRoads
import PyProof.ReprBulk
import PyProof.FitsInt
import PyProof.CallFns
import PyProof.Rows.FactsT3
import PyProof.ListRange
import PyProof.TupleOfSeq
import PyProof.TupleOfGen
import PyProof.ConsumeWalk
import PyProof.Rows.SeqGen
import PyProof.CompUse
import KE.KUnpack
import PyProof.Draws
import PyProof.Rows.RuleB_bool
import PyProof.WalkInts
import PyProof.SeqI3
import KE.KRevSl
import KE.BitLaws
import PyProof.Rows.SumAny
import OpenK.KTop
import PyProof.Rows.FStr
import PyProof.SliceStr2
import KE.KEqDict
import PySem.Challenge.RW_trialdeal_k15_texts_of_outcomes
set_option Elab.async false
set_option linter.all false
set_option maxRecDepth 100000
namespace L2
open PySem PySem.Spec PyProof.Rows
inductive Key where
  | inl (i : Int) | inr (x : Str) | non
  deriving DecidableEq
def keyIs : Key → Value → Bool
  | .inl k, v => Value.isInt k v
  | .inr x, v => Value.isStrOf x v
  | .non, v => v == .none
def keyH (w : World) : Key → Int
  | .inl k => hashInt k
  | .inr x => hashStr w x
  | .non => 0xFCA86420
theorem pyHash_none {prog : Program} {w : World} {A : Around} {E : Value → Shared → Prop} {s : Shared} {Q : Int → Shared → Prop} (h : Q 0xFCA86420 { s with toks := s.toks + 1 }) : wpAny (model prog w) A (pyHash .none) Q E s := by
  unfold pyHash
  have hT : s.TypeIs .none "NoneType" := rfl
  have hv : [Value.none].any Value.onHeap = false := rfl
  refine wpAny_bind ?_
  rw [cRoomFor, if_neg (by rw [hv]; exact Bool.false_ne_true)]; refine wpAny_pure ?_
  refine wpAny_bind (wpAny_specialOf hT PySem.F.slot_NoneType_hash.lookup ?_)
  show wpAny _ _ (if (some (Value.builtin "NoneType.__hash__") == some Value.none) = true then _ else _) Q E s
  rw [if_neg (by rw [beq_builtin_none]; exact Bool.false_ne_true)]
  refine wpAny_bind (wpAny_specialOf hT PySem.F.slot_NoneType_hash.lookup ?_)
  show wpAny _ _ (callSpecialIfBoundUnlessNone? .none "__hash__" _ >>= _) Q E s
  refine wpAny_bind (wpAny_callSpecialIfBoundUnlessNone?_slot hT PySem.F.slot_NoneType_hash
    (wpAny_call_entry PySem.F.slot_NoneType_hash hT PySem.F.entry_NoneType_hash
      (show wpAny _ _ (do ret (← mkInt 0xFCA86420)) _ _ s from wpAny_ret_mkInt ?_) (PySem.F.args_NoneType_hash_1 _)))
  show wpAny _ _ (if (decide (-(2 : Int) ^ 63 ≤ 0xFCA86420) && decide ((0xFCA86420 : Int) < 2 ^ 63)) = true then _ else _) Q E _
  rw [if_pos (by decide)]
  exact wpAny_pure h
theorem keyIs_shape : ∀ {k : Key} {v : Value}, keyIs k v = true → (∃ i t, k = Key.inl i ∧ v = Value.int i t) ∨ (∃ x t, k = Key.inr x ∧ v = Value.str x t) ∨ (k = Key.non ∧ v = Value.none)
  | .inl i, v, h => by
    obtain ⟨t, e⟩ := Value.isInt_shape (k := i) (v := v) h
    exact .inl ⟨i, t, rfl, e⟩
  | .inr x, v, h => by
    obtain ⟨t, e⟩ := Value.isStrOf_shape (x := x) (v := v) h
    exact .inr (.inl ⟨x, t, rfl, e⟩)
  | .non, v, h => .inr (.inr ⟨rfl, eq_of_beq h⟩)
theorem key_ll (a b : Int) : decide (Key.inl a = Key.inl b) = (a == b) := by
  by_cases e : a = b
  · subst e; simp
  · rw [decide_eq_false (fun q => e (Key.inl.inj q))]
    exact (beq_eq_false_iff_ne.mpr e).symm
theorem key_rr (a b : Str) : decide (Key.inr a = Key.inr b) = decide (a = b) := by
  by_cases e : a = b
  · subst e; simp
  · rw [decide_eq_false (fun q => e (Key.inr.inj q)), decide_eq_false e]
theorem key_lr (a : Int) (b : Str) : decide (Key.inl a = Key.inr b) = false := decide_eq_false (fun q => nomatch q)
theorem key_rl (a : Str) (b : Int) : decide (Key.inr a = Key.inl b) = false := decide_eq_false (fun q => nomatch q)
theorem key_ln (a : Int) : decide (Key.inl a = Key.non) = false := decide_eq_false (fun q => nomatch q)
theorem key_nl (a : Int) : decide (Key.non = Key.inl a) = false := decide_eq_false (fun q => nomatch q)
theorem key_rn (a : Str) : decide (Key.inr a = Key.non) = false := decide_eq_false (fun q => nomatch q)
theorem key_nr (a : Str) : decide (Key.non = Key.inr a) = false := decide_eq_false (fun q => nomatch q)
def mixKind (prog : Program) (w : World) : PySem.KeyKind prog w Key where
  is := keyIs
  hash := keyH w
  inj := fun v a b ha hb => by
    rcases keyIs_shape ha with ⟨i, t, rfl, rfl⟩ | ⟨x, t, rfl, rfl⟩ | ⟨rfl, rfl⟩
    · rcases keyIs_shape hb with ⟨j, u, rfl, e⟩ | ⟨y, u, rfl, e⟩ | ⟨rfl, e⟩
      · injection e with e1 _; rw [e1]
      · exact nomatch e
      · exact nomatch e
    · rcases keyIs_shape hb with ⟨j, u, rfl, e⟩ | ⟨y, u, rfl, e⟩ | ⟨rfl, e⟩
      · exact nomatch e
      · injection e with e1 _; rw [e1]
      · exact nomatch e
    · rcases keyIs_shape hb with ⟨j, u, rfl, e⟩ | ⟨y, u, rfl, e⟩ | ⟨rfl, e⟩
      · exact nomatch e
      · exact nomatch e
      · rfl
  byValue := fun k v h => by
    rcases keyIs_shape h with ⟨i, t, rfl, rfl⟩ | ⟨x, t, rfl, rfl⟩ | ⟨rfl, rfl⟩ <;> rfl
  pyHash := fun hv h => by
    rcases keyIs_shape hv with ⟨i, t, rfl, rfl⟩ | ⟨x, t, rfl, rfl⟩ | ⟨rfl, rfl⟩
    · exact wpAny_pyHash_int h
    · exact wpAny_pyHash_str h
    · exact pyHash_none h
  eqBool := fun hu hv h => by
    rcases keyIs_shape hu with ⟨i, t, rfl, rfl⟩ | ⟨x, t, rfl, rfl⟩ | ⟨rfl, rfl⟩
    · rcases keyIs_shape hv with ⟨j, u, rfl, rfl⟩ | ⟨y, u, rfl, rfl⟩ | ⟨rfl, rfl⟩
      · rw [key_ll] at h; exact wpAny_eqBool_int h
      · rw [key_lr] at h; exact SeqAt.EqAt.int_str i t y u _ _ _ _ h
      · rw [key_ln] at h; exact SeqAt.EqAt.int_none i t _ _ _ _ h
    · rcases keyIs_shape hv with ⟨j, u, rfl, rfl⟩ | ⟨y, u, rfl, rfl⟩ | ⟨rfl, rfl⟩
      · rw [key_rl] at h; exact SeqAt.EqAt.str_int x t j u _ _ _ _ h
      · rw [key_rr] at h; exact wpAny_eqBool_str h
      · rw [key_rn] at h; exact SeqAt.EqAt.str_none x t _ _ _ _ h
    · rcases keyIs_shape hv with ⟨j, u, rfl, rfl⟩ | ⟨y, u, rfl, rfl⟩ | ⟨rfl, rfl⟩
      · rw [key_nl] at h; exact SeqAt.EqAt.none_int j u _ _ _ _ h
      · rw [key_nr] at h; exact SeqAt.EqAt.none_str y u _ _ _ _ h
      · exact SeqAt.EqAt.same _ _ _ _ _ (by simpa using h)
  «strs» := fun k x t v h => by
    rcases keyIs_shape h with ⟨i, u, rfl, e⟩ | ⟨y, u, rfl, e⟩ | ⟨rfl, e⟩
    · exact nomatch e
    · injection e with e1 _
      subst e1
      cases v <;> rfl
    · exact nomatch e
theorem mixKind_is (prog : Program) (w : World) (k : Key) (v : Value) : (mixKind prog w).is k v = keyIs k v := rfl
end L2
namespace L2
open PySem PySem.Spec PyProof.Rows
inductive V where
  | non | bl (b : Bool) | int (i : Int) | str (x : Str) | byt (b : Array UInt8) | flt (b : UInt64) | ref (a : Addr) | ty (n : String)
  deriving DecidableEq
def RelV : V → Value → Prop
  | .non, u => u = Value.none
  | .bl b, u => u = Value.bool b
  | .int i, u => ∃ t, u = Value.int i t
  | .str x, u => ∃ t, u = Value.str x t
  | .byt b, u => ∃ t, u = Value.bytes b t
  | .flt b, u => ∃ t, u = Value.float b t
  | .ref a, u => u = Value.ref a
  | .ty n, u => u = Value.type n
abbrev Vals : List V → List Value → Prop := Paired RelV
theorem Vals.length {xs : List V} {us : List Value} (r : Vals xs us) : xs.length = us.length := Paired.length r
theorem Vals.get : ∀ {xs : List V} {us : List Value} {i : Nat} {x : V}, Vals xs us → xs[i]? = some x → ∃ u, us[i]? = some u ∧ RelV x u
  | _, _, _, _, .nil, e => by simp at e
  | _, _, 0, _, .cons r _, e => by simp at e; subst e; exact ⟨_, rfl, r⟩
  | _, _, i + 1, x, .cons _ t, e => by
    obtain ⟨u, h1, h2⟩ := Vals.get (i := i) (x := x) t (by simpa using e)
    exact ⟨u, by simpa using h1, h2⟩
theorem Vals.set {x : V} {u : Value} (r : RelV x u) : ∀ {xs : List V} {us : List Value} (i : Nat), Vals xs us → Vals (xs.set i x) (us.set i u)
  | _, _, _, .nil => .nil
  | _, _, 0, .cons _ t => .cons r t
  | _, _, i + 1, .cons q t => .cons q (Vals.set r i t)
theorem Vals.append : ∀ {xs ys : List V} {us ws : List Value}, Vals xs us → Vals ys ws → Vals (xs ++ ys) (us ++ ws)
  | _, _, _, _, .nil, s => s
  | _, _, _, _, .cons r t, s => .cons r (Vals.append t s)
theorem Vals.take : ∀ {xs : List V} {us : List Value} (n : Nat), Vals xs us → Vals (xs.take n) (us.take n)
  | _, _, 0, _ => .nil
  | _, _, _ + 1, .nil => .nil
  | _, _, n + 1, .cons r t => .cons r (Vals.take n t)
theorem Vals.drop : ∀ {xs : List V} {us : List Value} (n : Nat), Vals xs us → Vals (xs.drop n) (us.drop n)
  | _, _, 0, r => r
  | _, _, _ + 1, .nil => .nil
  | _, _, n + 1, .cons _ t => Vals.drop n t
def RelO : Option V → Option Value → Prop
  | some v, some u => RelV v u
  | none, none => True
  | _, _ => False
def KV {κ : Type} : List (κ × V) → List (κ × Value) → Prop := Paired fun (p : κ × V) (q : κ × Value) => p.1 = q.1 ∧ RelV p.2 q.2
def kV : Key → V
  | .inl i => .int i
  | .inr x => .str x
  | .non => .non
inductive HO where
  | lst (xs : List V)
  | tup (xs : List V)
  | dK (kvs : List (Key × V)) | dT (kvs : List (List Key × V))
  | set (S : Int → Bool) (n : Nat)
  | ins (C dx : Addr) (fs : List (Str × V))
  | own (x : Addr)
  | xd (fs : List (Str × V))
  | met (f x : Addr)
  | rng (lo hi : Int)
  | frz (o : Obj) (u : HO)
  | tbl (ps : Array Value)
  | ext (φ : Heap → Prop)
abbrev Hp := Addr → Option HO
def upd (H : Hp) (a : Addr) (o : HO) : Hp := fun b => if b = a then some o else H b
theorem upd_same {H : Hp} {a : Addr} {o : HO} : upd H a o a = some o := by unfold upd; rw [if_pos rfl]
theorem upd_ne {H : Hp} {a b : Addr} {o : HO} (h : b ≠ a) : upd H a o b = H b := by unfold upd; rw [if_neg h]
theorem upd_upd {H : Hp} {a : Addr} {o u : HO} : upd (upd H a o) a u = upd H a u := by
  funext b; unfold upd; split <;> rfl
theorem ne_of_none {H : Hp} {a b : Addr} {o : HO} (h : H a = some o) (h' : H b = none) : a ≠ b := by
  intro e; subst e; rw [h] at h'; cases h'
section
variable (P : Program) (w : World)
def ObjOk (H : Hp) (h : Heap) (a : Addr) : HO → Prop
  | .lst xs => xs.length ≤ sizeLine ∧ ∃ (its : List Value) (n : Nat), Vals xs its ∧ h.get? a = some { cls := .type "list", data := .seq its.toArray n }
  | .tup xs => xs.length ≤ sizeLine ∧ ∃ its : List Value, Vals xs its ∧ IsTup h a its.toArray
  | .dK kvs => kvs.length ≤ sizeLine ∧ (a == sysModules) = false ∧ ∃ vs, KV kvs vs ∧ h.DictOf (mixKind P w) a vs
  | .dT kvs => kvs.length ≤ sizeLine ∧ (a == sysModules) = false ∧ ∃ xs : List (List Key × Addr × Value),
      Paired (fun (p : List Key × V) (q : List Key × Addr × Value) => p.1 = q.1 ∧ H q.2.1 = some (.tup (p.1.map kV)) ∧ RelV p.2 q.2.2) kvs xs ∧
      ∃ o es ep, h.get? a = some o ∧ o.ExactDict ∧ o.data = .dict es ep ∧ es.toList = xs.map (entryOfKey (tupleKind (mixKind P w))) ∧ (xs.map (·.1)).Nodup
  | .set S n => h.SetOf (intKind P w) a S n
  | .ins C dx fs => H dx = some (.own a) ∧ fs.length ≤ 1000 ∧ dx ≠ a ∧ h.get? a = some (PySem.W.instObj C dx) ∧
      ∃ mA, h.Ns1 dx mA ∧ (∀ f, RelO (fs.lookup f) (mA f)) ∧ PySem.Within mA (fs.map (·.1))
  | .own _ => ∃ o, h.get? a = some o
  | .xd fs => ∃ mA, h.Ns1 a mA ∧ ∀ f, RelO (fs.lookup f) (mA f)
  | .rng lo hi => ∃ t u v, h.get? a = some { cls := .type "range", data := .fields #[.int lo t, .int hi u, .int 1 v] }
  | .frz o u => h.get? a = some o ∧ ObjOk H h a u
  | .tbl ps => h.get? a = some { cls := .none, data := .fields ps }
  | .met f x => h.get? a = some (PySem.W.methodObj (.ref f) (.ref x))
  | .ext φ => φ h ∧ (∃ o, h.get? a = some o) ∧ ∀ h1 h2 : Heap, φ h1 → (∀ o, h1.get? a = some o → h2.get? a = some o) → φ h2
def HOk (H : Hp) (h : Heap) : Prop := ∀ a o, H a = some o → ObjOk P w H h a o
end
section
variable {P : Program} {w : World} {H H' : Hp} {h h' : Heap} {a : Addr} {o : HO}
theorem ObjOk.lt (x : ObjOk P w H h a o) : a < h.objs.size := by
  cases o with
  | lst xs => obtain ⟨_, _, _, _, e⟩ := x; exact Heap.lt_size e
  | tup xs => obtain ⟨_, _, _, p⟩ := x; exact p.lt
  | dK kvs => obtain ⟨_, _, _, _, o, _, _, e, _⟩ := x; exact Heap.lt_size e
  | dT kvs => obtain ⟨_, _, _, _, o, _, _, e, _⟩ := x; exact Heap.lt_size e
  | set S n => obtain ⟨o, _, _, _, e, _⟩ := x; exact Heap.lt_size e
  | ins C dx fs => obtain ⟨_, _, _, e, _⟩ := x; exact Heap.lt_size e
  | own y => obtain ⟨_, e⟩ := x; exact Heap.lt_size e
  | xd fs => obtain ⟨_, ⟨_, _, _, e, _⟩, _⟩ := x; exact Heap.lt_size e
  | rng lo hi => obtain ⟨_, _, _, e⟩ := x; exact Heap.lt_size e
  | frz ob u => obtain ⟨e, _⟩ := x; exact Heap.lt_size e
  | tbl ps => exact Heap.lt_size (show h.get? a = some _ from x)
  | met f y => exact Heap.lt_size (show h.get? a = some _ from x)
  | ext φ => obtain ⟨_, ⟨_, e⟩, _⟩ := x; exact Heap.lt_size e
theorem Paired.mapP {α β : Type} {F G : α → β → Prop} : ∀ {l₁ : List α} {l₂ : List β}, Paired F l₁ l₂ → (∀ a b, F a b → G a b) → Paired G l₁ l₂
  | _, _, .nil, _ => .nil
  | _, _, .cons r t, f => .cons (f _ _ r) (Paired.mapP t f)
theorem ObjOk.stay (x : ObjOk P w H h a o) (k : ∀ b u, (b = a ∨ H b = some (.own a)) → h.get? b = some u → h'.get? b = some u)
    (ho : ∀ b, H b = some (.own a) → H' b = some (.own a)) (ht : ∀ b xs, H b = some (.tup xs) → H' b = some (.tup xs)) : ObjOk P w H' h' a o := by
  induction o with
  | lst xs => obtain ⟨z, its, n, r, e⟩ := x; exact ⟨z, its, n, r, k _ _ (.inl rfl) e⟩
  | tup xs => obtain ⟨z, its, r, ob, e, c⟩ := x; exact ⟨z, its, r, ob, k _ _ (.inl rfl) e, c⟩
  | dK kvs => obtain ⟨z, y, vs, r, ob, es, ep, e, c⟩ := x; exact ⟨z, y, vs, r, ob, es, ep, k _ _ (.inl rfl) e, c⟩
  | dT kvs =>
    obtain ⟨z, y, xs, r, ob, es, ep, e, c⟩ := x
    exact ⟨z, y, xs, Paired.mapP r fun p q z => ⟨z.1, ht _ _ z.2.1, z.2.2⟩, ob, es, ep, k _ _ (.inl rfl) e, c⟩
  | set S n => obtain ⟨ob, es, ep, t, e, c⟩ := x; exact ⟨ob, es, ep, t, k _ _ (.inl rfl) e, c⟩
  | ins C dx fs =>
    obtain ⟨d, z, ne, e, mA, ⟨od, es, ep, e2, c⟩, r⟩ := x
    exact ⟨ho _ d, z, ne, k _ _ (.inl rfl) e, mA, ⟨od, es, ep, k _ _ (.inr d) e2, c⟩, r⟩
  | own y => obtain ⟨ob, e⟩ := x; exact ⟨ob, k _ _ (.inl rfl) e⟩
  | xd fs => obtain ⟨mA, ⟨od, es, ep, e, c⟩, r⟩ := x; exact ⟨mA, ⟨od, es, ep, k _ _ (.inl rfl) e, c⟩, r⟩
  | rng lo hi => obtain ⟨t, u, v, e⟩ := x; exact ⟨t, u, v, k _ _ (.inl rfl) e⟩
  | frz ob u ih => obtain ⟨e, q⟩ := x; exact ⟨k _ _ (.inl rfl) e, ih q⟩
  | tbl ps =>
    have e : h.get? a = some { cls := .none, data := .fields ps } := x
    show h'.get? a = some { cls := .none, data := .fields ps }
    exact k a _ (.inl rfl) e
  | met f y =>
    have e : h.get? a = some (PySem.W.methodObj (.ref f) (.ref y)) := x
    show h'.get? a = some (PySem.W.methodObj (.ref f) (.ref y))
    exact k a _ (.inl rfl) e
  | ext φ => obtain ⟨p, ⟨o, e⟩, st⟩ := x; exact ⟨st _ _ p fun o q => k _ _ (.inl rfl) q, ⟨o, k _ _ (.inl rfl) e⟩, st⟩
theorem HOk.lt (x : HOk P w H h) (e : H a = some o) : a < h.objs.size := (x a o e).lt
theorem HOk.fresh (x : HOk P w H h) (e : h.objs.size ≤ a) : H a = none := by
  cases q : H a with
  | none => rfl
  | some u => exact absurd (Nat.lt_of_lt_of_le (x.lt q) e) (Nat.lt_irrefl _)
theorem HOk.kept (x : HOk P w H h) (k : ∀ b u, h.get? b = some u → h'.get? b = some u) : HOk P w H h' := fun a o e =>
  (x a o e).stay (fun b u _ q => k b u q) (fun _ q => q) fun _ _ q => q
theorem HOk.laid (x : HOk P w H h) (k : ∀ b u, h.get? b = some u → h'.get? b = some u) (hp : h.objs.size ≤ a) (new : ObjOk P w (upd H a o) h' a o) : HOk P w (upd H a o) h' := fun b u e => by
  have hn := x.fresh hp
  by_cases hb : b = a
  · subst hb; rw [upd_same] at e; cases e; exact new
  · rw [upd_ne hb] at e
    exact (x b u e).stay (fun c v _ q => k c v q) (fun c q => by rw [upd_ne (ne_of_none q hn)]; exact q) fun c xs q => by rw [upd_ne (ne_of_none q hn)]; exact q
end
def Rd (H : Hp) (a : Addr) (u : HO) : Prop := H a = some u ∨ ∃ o, H a = some (.frz o u)
theorem Rd.ok {P : Program} {w : World} {H : Hp} {h : Heap} {a : Addr} {u : HO} (r : Rd H a u) (x : HOk P w H h) : ObjOk P w H h a u := by
  rcases r with r | ⟨o, r⟩
  · exact x a u r
  · obtain ⟨_, q⟩ := x a _ r
    exact q
def Mut : Option HO → Prop
  | some (.lst _) => True
  | some (.dK _) => True
  | some (.dT _) => True
  | some (.set _ _) => True
  | some (.ins _ _ _) => True
  | some (.ext _) => True
  | _ => False
section
variable {P : Program} {w : World} {H : Hp} {h h' : Heap} {x e : Addr} {o' : HO}
theorem HOk.write (ok : HOk P w H h) (mu : Mut (H x)) (he : e = x ∨ H e = some (.own x)) (k : ∀ b u, b ≠ e → h.get? b = some u → h'.get? b = some u) (heo : ∃ u, h'.get? e = some u)
    (new : ObjOk P w (upd H x o') h' x o') : HOk P w (upd H x o') h' := fun b u q => by
  have nown : ∀ c y, H c = some (.own y) → c ≠ x := fun c y r z => by subst z; rw [r] at mu; exact mu
  have ntup : ∀ c xs, H c = some (.tup xs) → c ≠ x := fun c xs r z => by subst z; rw [r] at mu; exact mu
  by_cases hb : b = x
  · subst hb; rw [upd_same] at q; cases q; exact new
  · rw [upd_ne hb] at q
    by_cases hbe : b = e
    · have q' : H b = some (.own x) := by
        rcases he with z | z
        · exact absurd (hbe.trans z) hb
        · rw [hbe]; exact z
      rw [q] at q'; cases q'
      obtain ⟨v, hv⟩ := heo
      exact ⟨v, by rw [hbe]; exact hv⟩
    · refine (ok b u q).stay (fun c v hc r => k c v ?_ r) (fun c r => by rw [upd_ne (nown c b r)]; exact r) fun c xs r => by rw [upd_ne (ntup c xs r)]; exact r
      rcases hc with rfl | hc
      · exact hbe
      · rintro rfl
        rcases he with z | z
        · exact nown c b hc z
        · rw [hc] at z; cases z; exact hb rfl
end
structure Un (fs ex : List Addr) (H H' : Hp) (h h' : Heap) : Prop where
  keep : ∀ b o, h.get? b = some o → H b = none → b ∉ fs → b ∉ ex → h'.get? b = some o
  slot : ∀ b o, h.get? b = some o → H b = none → b ∈ fs → b ∉ ex → ∃ sl, h'.get? b = some { o with slots := sl }
  free : ∀ b o, h.get? b = some o → H b = none → b ∉ ex → H' b = none
  there : ∀ b o, h.get? b = some o → b ∉ ex → ∃ o', h'.get? b = some o'
  tups : ∀ b xs, H b = some (.tup xs) → H' b = some (.tup xs)
  frzs : ∀ b o u, H b = some (.frz o u) → H' b = some (.frz o u)
  tbls : ∀ b ps, H b = some (.tbl ps) → ∃ more, H' b = some (.tbl (ps ++ more))
  sys : H sysModules = none → H' sysModules = none
section
variable {fs fs' ex ex' : List Addr} {H H1 H2 : Hp} {h h1 h2 h' : Heap} {a x e : Addr} {o : HO}
theorem Un.any (u : Un fs ex H H1 h h1) {b : Addr} {ob : Obj} (q : h.get? b = some ob) (n : H b = none) (hx : b ∉ ex) : ∃ sl, h1.get? b = some { ob with slots := sl } := by
  by_cases hb : b ∈ fs
  · exact u.slot b ob q n hb hx
  · exact ⟨ob.slots, u.keep b ob q n hb hx⟩
theorem Un.kept (k : ∀ b u, h.get? b = some u → h'.get? b = some u) : Un fs ex H H h h' :=
  ⟨fun b ob q _ _ _ => k b ob q, fun b ob q _ _ _ => ⟨ob.slots, k b ob q⟩, fun _ _ _ n _ => n, fun b ob q _ => ⟨ob, k b ob q⟩, fun _ _ q => q, fun _ _ _ q => q, fun _ ps q => ⟨#[], by rw [q]; simp⟩, fun q => q⟩
theorem Un.refl : Un fs ex H H h h := Un.kept fun _ _ q => q
theorem Un.laid (k : ∀ b u, h.get? b = some u → h'.get? b = some u) (hp : h.objs.size ≤ a) (hn : H a = none) (hz : sysModules < h.objs.size) : Un fs ex H (upd H a o) h h' where
  sys := fun q => by rw [upd_ne (Nat.ne_of_lt (Nat.lt_of_lt_of_le hz hp))]; exact q
  keep := fun b u q _ _ _ => k b u q
  slot := fun b u q _ _ _ => ⟨u.slots, k b u q⟩
  free := fun b u q n _ => by rw [upd_ne (Nat.ne_of_lt (Nat.lt_of_lt_of_le (Heap.lt_size q) hp))]; exact n
  there := fun b u q _ => ⟨u, k b u q⟩
  tups := fun b xs q => by rw [upd_ne (ne_of_none q hn)]; exact q
  frzs := fun b u xs q => by rw [upd_ne (ne_of_none q hn)]; exact q
  tbls := fun b ps q => ⟨#[], by rw [upd_ne (ne_of_none q hn), q]; simp⟩
theorem Un.write (mu : Mut (H x)) (he : e = x ∨ H e = some (.own x)) (k : ∀ b u, b ≠ e → h.get? b = some u → h'.get? b = some u) (heo : ∃ u, h'.get? e = some u) : Un fs ex H (upd H x o) h h' := by
  have hx : ∀ b, H b = none → b ≠ x := fun b n z => by subst z; rw [n] at mu; exact mu
  have hb : ∀ b, H b = none → b ≠ e := fun b n z => by
    subst z
    rcases he with r | r
    · exact hx b n r
    · rw [n] at r; cases r
  have hm : ∀ b u, H b = some u → ¬ Mut (some u) → b ≠ x := fun b u q nm z => by subst z; rw [q] at mu; exact nm mu
  refine ⟨fun b u q n _ _ => k b u (hb b n) q, fun b u q n _ _ => ⟨u.slots, k b u (hb b n) q⟩, fun b u q n _ => by rw [upd_ne (hx b n)]; exact n, fun b u q _ => ?_,
    fun b xs q => by rw [upd_ne (hm b _ q fun z => z)]; exact q, fun b u xs q => by rw [upd_ne (hm b _ q fun z => z)]; exact q, fun b ps q => ⟨#[], by rw [upd_ne (hm b _ q fun z => z), q]; simp⟩, fun q => by rw [upd_ne (hx _ q)]; exact q⟩
  by_cases hbe : b = e
  · subst hbe; exact heo
  · exact ⟨u, k b u hbe q⟩
end
def trk (h : Heap) (H : Hp) : List Addr := (List.range h.objs.size).filter fun a => (H a).isSome
def hidT (h : Heap) (H : Hp) : Heap := PySem.W.hideAll h (trk h H)
theorem hidT_size (h : Heap) (H : Hp) : (hidT h H).objs.size = h.objs.size := PySem.W.hideAll_size _ _
theorem hidT_get {h : Heap} {H : Hp} {b : Addr} {o : Obj} (e : h.get? b = some o) (n : H b = none) : (hidT h H).get? b = some o :=
  PySem.W.hideAll_get _ e fun hm => by
    have q : (H b).isSome = true := (List.mem_filter.mp hm).2
    rw [n] at q; simp at q
theorem of_hidT {h : Heap} {H : Hp} {b : Addr} {o : Obj} (e : (hidT h H).get? b = some o) : h.get? b = some o ∧ H b = none := by
  have e' : h.get? b = some o := PySem.W.of_hideAll (trk h H) e
  refine ⟨e', ?_⟩
  cases q : H b with
  | none => rfl
  | some x =>
    have hm : b ∈ trk h H := List.mem_filter.mpr ⟨List.mem_range.mpr (Heap.lt_size e'), by simp [q]⟩
    have z : (hidT h H).get? b = none := PySem.W.hideAll_none (trk h H) hm
    rw [z] at e; cases e
def allNews (g h : Heap) (L : Addr) : List (Addr × Obj) := (List.range h.objs.size).filterMap fun a => if a = L ∨ (g.get? a).isSome = true then none else (h.get? a).map fun o => (a, o)
def rest (g h : Heap) (L d : Addr) : List (Addr × Obj) := (allNews g h L).filter fun p => decide (p.1 ≠ d)
end L2
namespace L2
open PySem PySem.Spec PyProof.Rows
structure Mod (K : PySem.W.Frag) (mg : Str → Option Value) (base : Heap) : Prop where
  kin : K.In base
  glob : base.Ns mainGlobals mg
  blt : ∃ mb, base.Ns builtinsNs mb ∧ ∀ x : Str, x ≠ "__name__" → mb x = bootBuiltins x
  nolimit : base.NoLimit
structure Cx where
  prog : Program
  w : World
  K : PySem.W.Frag
  mg : Str → Option Value
  base : Heap
  A : Around
  N : List Str
  s₀ : Shared
  H₀ : Hp
  env : Env
  outer : List Env
  stack : List Env
  ex : List Addr
  fn : Str → Bool
  calm : Bool
  pn : List (Addr × Obj)
  xe : Value → Shared → Prop
def frs (l : List Env) : List Addr := l.filterMap (·.frame)
abbrev Cx.fs (X : Cx) : List Addr := frs X.outer
def Vis (sc : Scope) (x : Str) : Prop := sc.names.lookup x = some .local ∨ sc.names.lookup x = some .cell ∨ sc.names.lookup x = some .free
def Loc (sc : Scope) (x : Str) : Prop := sc.names.lookup x = some .local ∨ sc.names.lookup x = some .cell
def Look (env : Env) (h : Heap) (m : Str → Option Value) (x : Str) (u : Value) : Prop :=
  (env.kindOf x = some .local ∧ m x = some u) ∨ ((env.kindOf x = some .cell ∨ env.kindOf x = some .free) ∧ ∃ c, env.cells.lookup x = some c ∧ h.IsCell c (some u))
structure Cx.Ok (X : Cx) : Prop where
  mod : Mod X.K X.mg X.base
  kind : X.env.scope.kind = .function
  glob : X.env.globals = mainGlobals
  blt : X.env.builtins = builtinsNs
  above : X.s₀.heap.objs.size ≤ X.env.locals
  inj : ∀ x y c, X.env.cells.lookup x = some c → X.env.cells.lookup y = some c → x = y
  has : ∀ x, (X.env.kindOf x = some .cell ∨ X.env.kindOf x = some .free) → ∃ c, X.env.cells.lookup x = some c
  cab : ∀ x c, X.fn x = true → X.env.cells.lookup x = some c → X.s₀.heap.objs.size ≤ c
  hd : X.calm = true → X.A.handled = none
  frames : X.A.frames = some X.stack
  stk : X.stack = X.outer ∨ (X.stack = X.env :: X.outer ∧ X.env.frame = some X.env.locals)
  exf : ∀ b ∈ X.ex, b ≠ X.env.locals ∧ ∀ x c, X.env.cells.lookup x = some c → c ≠ b
  bs : ∀ b o, X.base.get? b = some o → X.s₀.heap.get? b = some o ∧ X.H₀ b = none
  bsz : X.base.objs.size ≤ X.s₀.heap.objs.size
  noex : ∀ b o, X.base.get? b = some o → b ∉ X.ex
  exfs : ∀ b ∈ X.ex, b ∉ X.fs
  funs : X.s₀.heap.FunFrames X.base X.outer
  frf : ∀ b ∈ X.fs, X.H₀ b = none
structure Inv (X : Cx) (pins : List (Addr × Obj)) (σ : List (Option V)) (H : Hp) (s : Shared) : Prop where
  ok : X.Ok
  os : s.os = X.s₀.os
  bare : AllBare s.gens
  base : Un X.fs X.ex X.H₀ H X.s₀.heap s.heap
  loc : ∃ m, s.heap.Ns X.env.locals m ∧ ∀ (i : Nat) (x : Str) (v : V), X.N[i]? = some x → σ[i]? = some (some v) → Vis X.env.scope x → ∃ u, RelV v u ∧ Look X.env s.heap m x u
  cell : ∀ x c, X.env.cells.lookup x = some c → ∃ v, s.heap.IsCell c v
  free : H X.env.locals = none
  freeC : ∀ x c, X.env.cells.lookup x = some c → H c = none
  pin : ∀ p ∈ X.pn ++ pins, s.heap.get? p.1 = some p.2 ∧ H p.1 = none ∧ p.1 ≠ X.env.locals ∧ p.1 ∉ X.fs ∧ ∀ v, p.2.data ≠ .cell v
  hok : HOk X.prog X.w H s.heap
  len : σ.length = X.N.length
section
variable {X : Cx} {pins : List (Addr × Obj)} {σ : List (Option V)} {H H' : Hp} {s : Shared} {h' : Heap}
theorem Cx.Ok.nofr (ok : X.Ok) {b : Addr} {o : Obj} (e : X.base.get? b = some o) : b ∉ X.fs := fun hb => by
  have := (ok.funs.mem hb).1
  rw [e] at this; cases this
theorem Inv.bs (I : Inv X pins σ H s) : ∀ b o, X.base.get? b = some o → s.heap.get? b = some o ∧ H b = none := fun b o e =>
  ⟨I.base.keep b o (I.ok.bs b o e).1 (I.ok.bs b o e).2 (I.ok.nofr e) (I.ok.noex b o e), I.base.free b o (I.ok.bs b o e).1 (I.ok.bs b o e).2 (I.ok.noex b o e)⟩
theorem Inv.bk (I : Inv X pins σ H s) : ∀ b o, X.base.get? b = some o → s.heap.get? b = some o := fun b o e => (I.bs b o e).1
theorem Inv.mod (I : Inv X pins σ H s) : Mod X.K X.mg X.base := I.ok.mod
theorem Inv.kIn (I : Inv X pins σ H s) : X.K.In s.heap := I.ok.mod.kin.keeps I.bk
theorem Inv.lt (I : Inv X pins σ H s) : X.env.locals < s.heap.objs.size := let ⟨_, hn, _⟩ := I.loc; hn.lt
theorem Inv.sz (I : Inv X pins σ H s) : X.s₀.heap.objs.size ≤ s.heap.objs.size := Nat.le_trans I.ok.above (Nat.le_of_lt I.lt)
theorem Inv.nofs (I : Inv X pins σ H s) {a : Addr} (h : s.heap.objs.size ≤ a) : a ∉ X.fs := fun hb => by
  obtain ⟨_, o, ho, _⟩ := I.ok.funs.mem hb
  exact absurd (Nat.lt_of_lt_of_le (Heap.lt_size ho) (Nat.le_trans I.sz h)) (Nat.lt_irrefl _)
theorem Inv.cne (I : Inv X pins σ H s) : ∀ x c, X.env.cells.lookup x = some c → c ≠ X.env.locals := fun x c e z => by
  obtain ⟨v, o, ho, hd⟩ := I.cell x c e
  obtain ⟨m, ⟨o', es, ep, ho', hd', _⟩, _⟩ := I.loc
  rw [z, ho'] at ho; cases ho; rw [hd'] at hd; cases hd
theorem Inv.funs (I : Inv X pins σ H s) : s.heap.FunFrames X.base X.outer := by
  have all : ∀ (l : List Env), (∀ b ∈ frs l, b ∈ X.fs) → X.s₀.heap.FunFrames X.base l → s.heap.FunFrames X.base l := by
    intro l
    induction l with
    | nil => intro _ _; trivial
    | cons env r ih =>
      intro hs hl
      obtain ⟨hk, ⟨L, o, hf, hn, ho, hd⟩, hr⟩ := hl
      have hL : L ∈ X.fs := hs L (by unfold frs; rw [List.filterMap_cons, hf]; exact List.mem_cons_self)
      obtain ⟨sl, e⟩ := I.base.slot L o ho (I.ok.frf L hL) hL fun z => I.ok.exfs L z hL
      exact ⟨hk, ⟨L, _, hf, hn, e, hd⟩, ih (fun b hb => hs b (by unfold frs; rw [List.filterMap_cons, hf]; exact List.mem_cons_of_mem _ hb)) hr⟩
  exact all X.outer (fun _ hb => hb) I.ok.funs
theorem Inv.stack (I : Inv X pins σ H s) : s.heap.FunFrames X.base X.stack := by
  rcases I.ok.stk with e | ⟨e, hf⟩
  · rw [e]; exact I.funs
  · rw [e]
    obtain ⟨m, hn, _⟩ := I.loc
    refine .cons (by rw [I.ok.kind]; decide) hf hn ?_ I.funs
    exact Heap.get?_none_of_le (Nat.le_trans I.ok.bsz I.ok.above)
theorem Inv.stkSub (I : Inv X pins σ H s) : ∀ b ∈ frs X.stack, b ∈ X.env.locals :: X.fs := fun b hb => by
  rcases I.ok.stk with e | ⟨e, hf⟩
  · rw [e] at hb; exact List.mem_cons_of_mem _ hb
  · rw [e] at hb
    unfold frs at hb
    rw [List.filterMap_cons, hf] at hb
    exact hb
theorem Inv.stkFree (I : Inv X pins σ H s) : ∀ b ∈ frs X.stack, H b = none := fun b hb => by
  rcases List.mem_cons.mp (I.stkSub b hb) with e | hb
  · rw [e]; exact I.free
  · obtain ⟨_, o, ho, _⟩ := I.ok.funs.mem hb
    exact I.base.free b o ho (I.ok.frf b hb) fun z => I.ok.exfs b z hb
theorem Inv.step {g' : Array GenState} {t' : Nat} {d' : Drawn} {ch : List Addr} (I : Inv X pins σ H s)
    (hch : ∀ b ∈ ch, (b ∈ X.ex ∨ X.s₀.heap.objs.size ≤ b) ∧ b ≠ X.env.locals ∧ (∀ x c, X.env.cells.lookup x = some c → c ≠ b) ∧ ∀ p ∈ X.pn ++ pins, p.1 ≠ b)
    (keep : ∀ b o, b ≠ X.env.locals → b ∉ X.fs → b ∉ ch → s.heap.get? b = some o → H b = none → h'.get? b = some o)
    (slot : ∀ b o, b ≠ X.env.locals → b ∈ X.fs → b ∉ ch → s.heap.get? b = some o → H b = none → ∃ sl, h'.get? b = some { o with slots := sl }) (free : ∀ b o, b ∉ ch → s.heap.get? b = some o → H b = none → H' b = none)
    (there : ∀ b o, b ∉ ch → s.heap.get? b = some o → ∃ o', h'.get? b = some o')
    (tups : ∀ b xs, H b = some (.tup xs) → H' b = some (.tup xs)) (frzs : ∀ b o u, H b = some (.frz o u) → H' b = some (.frz o u)) (tbls : ∀ b ps, H b = some (.tbl ps) → ∃ more, H' b = some (.tbl (ps ++ more))) (sys : H sysModules = none → H' sysModules = none)
    (ns : ∀ m, s.heap.Ns X.env.locals m → h'.Ns X.env.locals m) (hok : HOk X.prog X.w H' h') (hg : AllBare g') :
    Inv X pins σ H' { s with heap := h', gens := g', drawn := d', toks := t' } := by
  have neL : ∀ b o, X.s₀.heap.get? b = some o → b ≠ X.env.locals := fun b o e => Nat.ne_of_lt (Nat.lt_of_lt_of_le (Heap.lt_size e) I.ok.above)
  have neC : ∀ b o, X.s₀.heap.get? b = some o → b ∉ X.ex → b ∉ ch := fun b o e hx hb => by
    rcases (hch b hb).1 with z | z
    · exact hx z
    · exact absurd (Nat.lt_of_lt_of_le (Heap.lt_size e) z) (Nat.lt_irrefl _)
  have cellK : ∀ x c, X.env.cells.lookup x = some c → ∀ v, s.heap.IsCell c v → h'.IsCell c v := fun x c e v ⟨o, ho, hd⟩ => by
    have nch : c ∉ ch := fun z => (hch c z).2.2.1 x c e rfl
    by_cases hc : c ∈ X.fs
    · obtain ⟨sl, q⟩ := slot c o (I.cne x c e) hc nch ho (I.freeC x c e)
      exact ⟨_, q, hd⟩
    · exact ⟨o, keep c o (I.cne x c e) hc nch ho (I.freeC x c e), hd⟩
  refine ⟨I.ok, I.os, hg, ⟨fun b o e n hb hx => ?_, fun b o e n hb hx => ?_, fun b o e n hx => ?_, fun b o e hx => ?_, fun b xs e => tups b xs (I.base.tups b xs e), fun b o xs e => frzs b o xs (I.base.frzs b o xs e), fun b ps e => ?_, fun q => sys (I.base.sys q)⟩, ?_, fun x c e => ?_, ?_, fun x c e => ?_, fun p hp => ?_, hok, I.len⟩
  · exact keep b o (neL b o e) hb (neC b o e hx) (I.base.keep b o e n hb hx) (I.base.free b o e n hx)
  · obtain ⟨sl, e1⟩ := I.base.slot b o e n hb hx
    obtain ⟨sl', e2⟩ := slot b _ (neL b o e) hb (neC b o e hx) e1 (I.base.free b o e n hx)
    exact ⟨sl', e2⟩
  · obtain ⟨o', e1⟩ := I.base.there b o e hx
    exact free b o' (neC b o e hx) e1 (I.base.free b o e n hx)
  · obtain ⟨o', e1⟩ := I.base.there b o e hx
    exact there b o' (neC b o e hx) e1
  · obtain ⟨m1, e1⟩ := I.base.tbls b ps e
    obtain ⟨m2, e2⟩ := tbls b _ e1
    exact ⟨m1 ++ m2, by rw [e2, Array.append_assoc]⟩
  · obtain ⟨m, hn, hl⟩ := I.loc
    refine ⟨m, ns m hn, fun i x v e1 e2 e3 => ?_⟩
    obtain ⟨u, r, l⟩ := hl i x v e1 e2 e3
    refine ⟨u, r, ?_⟩
    rcases l with l | ⟨k, c, e, z⟩
    · exact .inl l
    · exact .inr ⟨k, c, e, cellK x c e _ z⟩
  · obtain ⟨v, z⟩ := I.cell x c e
    exact ⟨v, cellK x c e v z⟩
  · obtain ⟨m, ⟨o, _, _, ho, _⟩, _⟩ := I.loc
    exact free _ o (fun z => (hch _ z).2.1 rfl) ho I.free
  · obtain ⟨v, o, ho, hd⟩ := I.cell x c e
    exact free c o (fun z => (hch c z).2.2.1 x c e rfl) ho (I.freeC x c e)
  · obtain ⟨e, n, ne, nf, d⟩ := I.pin p hp
    have nch : p.1 ∉ ch := fun z => (hch p.1 z).2.2.2 p hp rfl
    exact ⟨keep p.1 p.2 ne nf nch e n, free p.1 p.2 nch e n, ne, nf, d⟩
theorem Inv.un {t' : Nat} (I : Inv X pins σ H s) (u : Un X.fs [] H H' s.heap h') (hok : HOk X.prog X.w H' h') : Inv X pins σ H' { s with heap := h', toks := t' } := by
  obtain ⟨m, ⟨o, es, ep, ho, r⟩, _⟩ := id I.loc
  obtain ⟨sl, hL⟩ := u.any ho I.free (by simp)
  exact I.step (g' := s.gens) (d' := s.drawn) (ch := []) (fun _ z => nomatch z) (fun b o _ hb _ e n => u.keep b o e n hb (by simp)) (fun b o _ hb _ e n => u.slot b o e n hb (by simp)) (fun b o _ e n => u.free b o e n (by simp)) (fun b o _ e => u.there b o e (by simp)) u.tups u.frzs u.tbls u.sys (fun m' hm => by
    obtain ⟨o', es', ep', ho', r'⟩ := hm
    rw [ho] at ho'; cases ho'
    exact ⟨_, es', ep', hL, r'⟩) hok I.bare
theorem Inv.call {g' : Array GenState} {t' : Nat} {d' : Drawn} {ch : List Addr} (I : Inv X pins σ H s) (u : Un (frs X.stack) ch H H' s.heap h') (hok : HOk X.prog X.w H' h') (hg : AllBare g')
    (hch : ∀ b ∈ ch, (b ∈ X.ex ∨ X.s₀.heap.objs.size ≤ b) ∧ b ≠ X.env.locals ∧ (∀ x c, X.env.cells.lookup x = some c → c ≠ b) ∧ ∀ p ∈ X.pn ++ pins, p.1 ≠ b) :
    Inv X pins σ H' { s with heap := h', gens := g', drawn := d', toks := t' } := by
  obtain ⟨m, ⟨o, es, ep, ho, r⟩, _⟩ := id I.loc
  obtain ⟨sl, hL⟩ := u.any ho I.free fun z => (hch _ z).2.1 rfl
  exact I.step (ch := ch) hch (fun b o hL hb hc e n => u.keep b o e n (fun z => (List.mem_cons.mp (I.stkSub b z)).elim hL hb) hc) (fun b o _ _ hc e n => u.any e n hc) (fun b o hc e n => u.free b o e n hc) (fun b o hc e => u.there b o e hc) u.tups u.frzs u.tbls u.sys (fun m' hm => by
    obtain ⟨o', es', ep', ho', r'⟩ := hm
    rw [ho] at ho'; cases ho'
    exact ⟨_, es', ep', hL, r'⟩) hok hg
theorem Inv.turned {t' : Nat} {it : Addr} (I : Inv X pins σ H s) (k : ∀ b o, b ≠ it → s.heap.get? b = some o → h'.get? b = some o) (hn : H it = none) (hL : it ≠ X.env.locals)
    (h1 : it ∈ X.ex ∨ X.s₀.heap.objs.size ≤ it) (h2 : ∀ x c, X.env.cells.lookup x = some c → c ≠ it) (h3 : ∀ p ∈ X.pn ++ pins, p.1 ≠ it) : Inv X pins σ H { s with heap := h', toks := t' } := by
  have nit : ∀ b u, H b = some u → b ≠ it := fun b u e z => by rw [z, hn] at e; cases e
  refine I.step (g' := s.gens) (d' := s.drawn) (ch := [it]) (fun b hb => ?_) (fun b o _ _ hc e _ => k b o (fun z => hc (by simp [z])) e) (fun b o _ _ hc e _ => ⟨o.slots, k b o (fun z => hc (by simp [z])) e⟩) (fun _ _ _ _ n => n)
    (fun b o hc e => ⟨o, k b o (fun z => hc (by simp [z])) e⟩) (fun _ _ e => e) (fun _ _ _ e => e) (fun b ps e => ⟨#[], by rw [e]; simp⟩) (fun q => q) (fun m hm => ?_) (fun b u e => ?_) I.bare
  · have e : b = it := by simpa using hb
    subst e
    exact ⟨h1, hL, h2, h3⟩
  · obtain ⟨o, es, ep, ho, r⟩ := hm
    exact ⟨o, es, ep, k _ o (Ne.symm hL) ho, r⟩
  · refine (I.hok b u e).stay (fun c v hc q => k c v ?_ q) (fun _ q => q) fun _ _ q => q
    rcases hc with z | z
    · rw [z]; exact nit b u e
    · exact nit c _ z
theorem Inv.tok (I : Inv X pins σ H s) (t : Nat) : Inv X pins σ H { s with toks := t } := I.un (h' := s.heap) (t' := t) Un.refl I.hok
theorem Inv.kept {t' : Nat} (I : Inv X pins σ H s) (k : ∀ b u, s.heap.get? b = some u → h'.get? b = some u) : Inv X pins σ H { s with heap := h', toks := t' } := I.un (Un.kept k) (I.hok.kept k)
theorem Inv.laid {a : Addr} {o : HO} {t' : Nat} (I : Inv X pins σ H s) (k : ∀ b u, s.heap.get? b = some u → h'.get? b = some u) (hp : s.heap.objs.size ≤ a) (new : ObjOk X.prog X.w (upd H a o) h' a o) :
    Inv X pins σ (upd H a o) { s with heap := h', toks := t' } := I.un (Un.laid k hp (I.hok.fresh hp) (Nat.lt_trans (by decide : sysModules < mainGlobals) (I.mod.glob.keeps I.bk).lt)) (I.hok.laid k hp new)
theorem Inv.write {x e : Addr} {o : HO} {t' : Nat} (I : Inv X pins σ H s) (mu : Mut (H x)) (he : e = x ∨ H e = some (.own x)) (k : ∀ b u, b ≠ e → s.heap.get? b = some u → h'.get? b = some u) (heo : ∃ u, h'.get? e = some u)
    (new : ObjOk X.prog X.w (upd H x o) h' x o) : Inv X pins σ (upd H x o) { s with heap := h', toks := t' } := I.un (Un.write mu he k heo) (I.hok.write mu he k heo new)
theorem Inv.pins_of {pins' : List (Addr × Obj)} (I : Inv X pins σ H s) (h : ∀ p ∈ pins', s.heap.get? p.1 = some p.2 ∧ H p.1 = none ∧ p.1 ≠ X.env.locals ∧ p.1 ∉ X.fs ∧ ∀ v, p.2.data ≠ .cell v) : Inv X pins' σ H s :=
  ⟨I.ok, I.os, I.bare, I.base, I.loc, I.cell, I.free, I.freeC, fun p hp => (List.mem_append.mp hp).elim (fun z => I.pin p (List.mem_append_left _ z)) (h p), I.hok, I.len⟩
theorem nodup_ix {N : List Str} (hN : N.Nodup) {i j : Nat} {x : Str} (a : N[i]? = some x) (b : N[j]? = some x) : i = j := by
  obtain ⟨h1, e1⟩ := List.getElem?_eq_some_iff.mp a
  obtain ⟨h2, e2⟩ := List.getElem?_eq_some_iff.mp b
  exact (List.getElem_inj hN).mp (e1.trans e2.symm)
theorem store_ok2 {M : Model} {A : Around} {E : Value → Shared → Prop} {i : Nat} {x : Str} {v : V} {u : Value} {Q : Unit → Shared → Prop} (I : Inv X pins σ H s) (hN : X.N.Nodup) (hi : X.N[i]? = some x) (hx : Loc X.env.scope x) (r : RelV v u)
    (h : ∀ s', Inv X pins (σ.set i (some v)) H s' → (∃ a, Heap.SameBut a s.heap s'.heap ∧ (a = X.env.locals ∨ X.env.cells.lookup x = some a)) → Q () s') (hf : X.fn x = true ∨ X.env.scope.names.lookup x = some .local := by first | exact .inl rfl | exact .inr rfl | assumption) : wpAny M A (storeName X.env x u) Q E s := by
  obtain ⟨m, hn, hl⟩ := id I.loc
  have hcls : (X.env.scope.kind == .class || (X.env.scope.kind == .module && X.env.locals != X.env.globals)) = false := by rw [I.ok.kind]; rfl
  have hiσ : i < σ.length := by rw [I.len]; exact (List.getElem?_eq_some_iff.mp hi).1
  have cne := I.cne
  have tracked : ∀ {a : Addr} {h' : Heap}, (∃ o, s.heap.get? a = some o ∧ H a = none) → Heap.SameBut a s.heap h' → HOk X.prog X.w H h' := fun {a h'} ha hs b ob e => by
    obtain ⟨_, _, hfree⟩ := ha
    refine (I.hok b ob e).stay (fun c w' hc q => (hs.2 c ?_).trans q) (fun _ q => q) fun _ _ q => q
    rintro rfl
    rcases hc with rfl | hc
    · rw [hfree] at e; cases e
    · rw [hfree] at hc; cases hc
  rcases hx with hk | hk
  · refine wpAny_storeName_local hk hn (fun h' hn' hs => ?_) hcls
    obtain ⟨oL, _, _, hoL, _⟩ := id hn
    refine h _ ⟨I.ok, I.os, I.bare, ⟨fun b o e n hb hx => ?_, fun b o e n hb hx => ?_, I.base.free, fun b o e hx => ?_, I.base.tups, I.base.frzs, I.base.tbls, I.base.sys⟩, ⟨_, hn', fun j y v' e1 e2 e3 => ?_⟩, fun y c e => ?_, I.free, I.freeC, fun p hp => ?_, tracked ⟨oL, hoL, I.free⟩ hs, by simpa using I.len⟩ ⟨_, hs, .inl rfl⟩
    · exact (hs.2 b (Nat.ne_of_lt (Nat.lt_of_lt_of_le (Heap.lt_size e) I.ok.above))).trans (I.base.keep b o e n hb hx)
    · obtain ⟨sl, e1⟩ := I.base.slot b o e n hb hx
      exact ⟨sl, (hs.2 b (Nat.ne_of_lt (Nat.lt_of_lt_of_le (Heap.lt_size e) I.ok.above))).trans e1⟩
    · obtain ⟨o', e1⟩ := I.base.there b o e hx
      exact ⟨o', (hs.2 b (Nat.ne_of_lt (Nat.lt_of_lt_of_le (Heap.lt_size e) I.ok.above))).trans e1⟩
    · by_cases hj : j = i
      · subst hj
        rw [hi] at e1; cases e1
        rw [List.getElem?_set_self hiσ] at e2
        cases e2
        exact ⟨u, r, .inl ⟨hk, by simp⟩⟩
      · rw [List.getElem?_set_ne (Ne.symm hj)] at e2
        obtain ⟨u', r', q⟩ := hl j y v' e1 e2 e3
        refine ⟨u', r', ?_⟩
        rcases q with ⟨k, e⟩ | ⟨k, c, e, z⟩
        · refine .inl ⟨k, ?_⟩
          have : y ≠ x := fun e => hj (nodup_ix hN e1 (e ▸ hi))
          simp [this, e]
        · exact .inr ⟨k, c, e, z.sameBut hs (cne y c e)⟩
    · obtain ⟨w', z⟩ := I.cell y c e
      exact ⟨w', z.sameBut hs (cne y c e)⟩
    · obtain ⟨e, n, ne, nf, d⟩ := I.pin p hp
      exact ⟨(hs.2 p.1 ne).trans e, n, ne, nf, d⟩
  · have hfn : X.fn x = true := by
      rcases hf with z | z
      · exact z
      · rw [z] at hk; cases hk
    obtain ⟨c, hc⟩ := I.ok.has x (.inl hk)
    obtain ⟨w', z⟩ := I.cell x c hc
    refine wpAny_storeName_cell I.ok.kind hk hc z (fun h' hc' hs => ?_)
    obtain ⟨oc, hoc, hocd⟩ := id z
    refine h { s with heap := h' } ⟨I.ok, I.os, I.bare, ⟨fun b o e n hb hx => ?_, fun b o e n hb hx => ?_, I.base.free, fun b o e hx => ?_, I.base.tups, I.base.frzs, I.base.tbls, I.base.sys⟩, ⟨m, hn.sameBut hs (Ne.symm (cne x c hc)), fun j y v' e1 e2 e3 => ?_⟩, fun y c' e => ?_, I.free, I.freeC, fun p hp => ?_, tracked ⟨oc, hoc, I.freeC x c hc⟩ hs, by simpa using I.len⟩ ⟨c, hs, .inr hc⟩
    · exact (hs.2 b (Nat.ne_of_lt (Nat.lt_of_lt_of_le (Heap.lt_size e) (I.ok.cab x c hfn hc)))).trans (I.base.keep b o e n hb hx)
    · obtain ⟨sl, e1⟩ := I.base.slot b o e n hb hx
      exact ⟨sl, (hs.2 b (Nat.ne_of_lt (Nat.lt_of_lt_of_le (Heap.lt_size e) (I.ok.cab x c hfn hc)))).trans e1⟩
    · obtain ⟨o', e1⟩ := I.base.there b o e hx
      exact ⟨o', (hs.2 b (Nat.ne_of_lt (Nat.lt_of_lt_of_le (Heap.lt_size e) (I.ok.cab x c hfn hc)))).trans e1⟩
    · by_cases hj : j = i
      · subst hj
        rw [hi] at e1; cases e1
        rw [List.getElem?_set_self hiσ] at e2
        cases e2
        exact ⟨u, r, .inr ⟨.inl hk, c, hc, hc'⟩⟩
      · rw [List.getElem?_set_ne (Ne.symm hj)] at e2
        obtain ⟨u', r', q⟩ := hl j y v' e1 e2 e3
        refine ⟨u', r', ?_⟩
        rcases q with q | ⟨k, c', e, z'⟩
        · exact .inl q
        · refine .inr ⟨k, c', e, z'.sameBut hs ?_⟩
          rintro rfl
          exact hj (nodup_ix hN e1 (I.ok.inj _ _ _ e hc ▸ hi))
    · by_cases hcc : c' = c
      · subst hcc; exact ⟨_, hc'⟩
      · obtain ⟨w2, z2⟩ := I.cell y c' e
        exact ⟨w2, z2.sameBut hs hcc⟩
    · obtain ⟨e, n, ne, nf, d⟩ := I.pin p hp
      refine ⟨(hs.2 p.1 ?_).trans e, n, ne, nf, d⟩
      intro q
      rw [q, hoc] at e
      have q' : oc = p.2 := Option.some.inj e
      exact d w' (by rw [← q']; exact hocd)
theorem store_ok {M : Model} {A : Around} {E : Value → Shared → Prop} {i : Nat} {x : Str} {v : V} {u : Value} {Q : Unit → Shared → Prop} (I : Inv X pins σ H s) (hN : X.N.Nodup) (hi : X.N[i]? = some x) (hx : Loc X.env.scope x) (r : RelV v u)
    (h : ∀ s', Inv X pins (σ.set i (some v)) H s' → Q () s') (hf : X.fn x = true ∨ X.env.scope.names.lookup x = some .local := by first | exact .inl rfl | exact .inr rfl | assumption) : wpAny M A (storeName X.env x u) Q E s :=
  store_ok2 I hN hi hx r (fun s' I' _ => h s' I') hf
theorem Inv.call' {s' : Shared} {ch : List Addr} (I : Inv X pins σ H s) (ho : s'.os = s.os) (u : Un (frs X.stack) ch H H' s.heap s'.heap) (hok : HOk X.prog X.w H' s'.heap) (hg : AllBare s'.gens)
    (hch : ∀ b ∈ ch, (b ∈ X.ex ∨ X.s₀.heap.objs.size ≤ b) ∧ b ≠ X.env.locals ∧ (∀ x c, X.env.cells.lookup x = some c → c ≠ b) ∧ ∀ p ∈ X.pn ++ pins, p.1 ≠ b) : Inv X pins σ H' s' := by
  obtain ⟨h', g', d', t', o'⟩ := s'
  have e : o' = s.os := ho
  subst e
  exact I.call (g' := g') (t' := t') (d' := d') u hok hg hch
end
abbrev XK := Value → Option Addr → Hp → Prop
abbrev St := List (Option V)
abbrev VK := V → Hp → Prop
abbrev TE := St → Hp → VK → Prop
abbrev TT := St → Hp → (Bool → Hp → Prop) → Prop
abbrev TA := St → Hp → (List V → Hp → Prop) → Prop
structure Ends where
  nx : St → Hp → Prop
  rt : VK
  bk : St → Hp → Prop := fun _ _ => False
  ct : St → Hp → Prop := fun _ _ => False
abbrev TS := Ends → St → Hp → Prop
def EP (X : Cx) (pins : List (Addr × Obj)) (σ : St) (Q : VK) (u : Value) (s' : Shared) : Prop := ∃ v H', Inv X pins σ H' s' ∧ RelV v u ∧ Q v H'
def TP (X : Cx) (pins : List (Addr × Obj)) (σ : St) (Q : Bool → Hp → Prop) (b : Bool) (s' : Shared) : Prop := ∃ H', Inv X pins σ H' s' ∧ Q b H'
def AP (X : Cx) (pins : List (Addr × Obj)) (σ : St) (Q : List V → Hp → Prop) (us : List Value) (s' : Shared) : Prop := ∃ vs H', Inv X pins σ H' s' ∧ Vals vs us ∧ Q vs H'
def SP (X : Cx) (pins : List (Addr × Obj)) (D : Ends) (f : Flow) (s' : Shared) : Prop :=
  match f with
  | .next => ∃ σ' H', Inv X pins σ' H' s' ∧ D.nx σ' H'
  | .brk => ∃ σ' H', Inv X pins σ' H' s' ∧ D.bk σ' H'
  | .cont => ∃ σ' H', Inv X pins σ' H' s' ∧ D.ct σ' H'
  | .ret u => ∃ v σ' H', Inv X pins σ' H' s' ∧ RelV v u ∧ D.rt v H'
def PE (X : Cx) (e : Expr) (t : TE) : Prop :=
  ∀ (pins : List (Addr × Obj)) (s : Shared) (σ : St) (H : Hp) (Q : VK), Inv X pins σ H s → t σ H Q → wpAny (model X.prog X.w) X.A (eval e X.env) (EP X pins σ Q) X.xe s
def PT (X : Cx) (e : Expr) (t : TT) : Prop :=
  ∀ (pins : List (Addr × Obj)) (s : Shared) (σ : St) (H : Hp) (Q : Bool → Hp → Prop), Inv X pins σ H s → t σ H Q → wpAny (model X.prog X.w) X.A (isTrue e X.env (eval e X.env)) (TP X pins σ Q) X.xe s
def PW (X : Cx) (e : Expr) (t : TT) : Prop :=
  ∀ (whole : Sem Value) (pins : List (Addr × Obj)) (s : Shared) (σ : St) (H : Hp) (Q : Bool → Hp → Prop), Inv X pins σ H s → t σ H Q → wpAny (model X.prog X.w) X.A (isTrue e X.env whole) (TP X pins σ Q) X.xe s
theorem PW.pt {X : Cx} {e : Expr} {t : TT} (h : PW X e t) : PT X e t := h _
def PA (X : Cx) (es : List Expr) (t : TA) : Prop :=
  ∀ (pos : Pos) (pins : List (Addr × Obj)) (s : Shared) (σ : St) (H : Hp) (Q : List V → Hp → Prop), Inv X pins σ H s → t σ H Q → wpAny (model X.prog X.w) X.A (spliced (backTo pos (starEach es X.env))) (AP X pins σ Q) X.xe s
def PS (X : Cx) (st : Stmt) (t : TS) : Prop :=
  ∀ (pins : List (Addr × Obj)) (s : Shared) (σ : St) (H : Hp) (D : Ends), Inv X pins σ H s → t D σ H → wpAny (model X.prog X.w) X.A (exec st X.env) (SP X pins D) X.xe s
def PSs (X : Cx) (st : List Stmt) (t : TS) : Prop :=
  ∀ (pins : List (Addr × Obj)) (s : Shared) (σ : St) (H : Hp) (D : Ends), Inv X pins σ H s → t D σ H → wpAny (model X.prog X.w) X.A (execs st X.env) (SP X pins D) X.xe s
theorem thn {α : Type} {t : Sem α} {Q Q' : α → Shared → Prop} {M : Model} {A : Around} {E : Value → Shared → Prop} {s : Shared} (h : wpAny M A t Q E s) (hQ : ∀ a s, Q a s → Q' a s) : wpAny M A t Q' E s := wpAny_mono h hQ fun _ _ x => x
end L2
namespace L2
open PySem PySem.Spec PyProof.Rows
section
variable {X : Cx}
theorem bin {a b : Expr} {ta tb : TE} (ha : PE X a ta) (hb : PE X b tb) {pins : List (Addr × Obj)} {s : Shared} {σ : St} {H : Hp} {R : V → V → Hp → Prop} (I : Inv X pins σ H s) (h : ta σ H fun x H1 => tb σ H1 fun y H2 => R x y H2)
    {α : Type} {Q : α → Shared → Prop} {f : Value → Value → Sem α}
    (hf : ∀ v u s2 x y H2, Inv X pins σ H2 s2 → RelV x v → RelV y u → R x y H2 → wpAny (model X.prog X.w) X.A (f v u) Q X.xe s2) :
    wpAny (model X.prog X.w) X.A (eval a X.env) (fun v s₁ => wpAny (model X.prog X.w) X.A (eval b X.env) (fun u s₂ => wpAny (model X.prog X.w) X.A (f v u) Q X.xe s₂) X.xe s₁) X.xe s := by
  refine thn (ha pins s σ H _ I h) fun v s1 ⟨x, H1, I1, r1, q1⟩ => ?_
  refine thn (hb pins s1 σ H1 _ I1 q1) fun u s2 ⟨y, H2, I2, r2, q2⟩ => ?_
  exact hf v u s2 x y H2 I2 r1 r2 q2
def tVar (i : Nat) : TE := fun σ H Q => ∃ v, σ[i]? = some (some v) ∧ Q v H
def tC (v : V) : TE := fun _ H Q => Q v H
theorem pe_var {i : Nat} {x : Str} {pos : Pos} (hN : X.N[i]? = some x) (hv : Vis X.env.scope x) (hd : (x == ("__debug__" : Str)) = false := by decide) (hcd : (x == ("__classdict__" : Str)) = false := by decide) : PE X (.Name x pos) (tVar i) := by
  intro pins s σ H Q I h
  obtain ⟨v, e, h⟩ := h
  obtain ⟨m, hn, hl⟩ := I.loc
  obtain ⟨u, r, l⟩ := hl i x v hN e hv
  have fin : EP X pins σ Q u s := ⟨v, H, I, r, h⟩
  rcases l with ⟨hk, hm⟩ | ⟨hk, c, hc, hcell⟩
  · exact wpAny_Name (wpAny_loadName_local I.ok.kind hk hn hm fin) hd
  · rcases hk with hk | hk
    · exact wpAny_Name (wpAny_loadName_cell I.ok.kind hk hc hcell fin) hd
    · exact wpAny_Name (wpAny_loadName_free I.ok.kind hk hc hcell fin hcd) hd
theorem pe_int {i j pos} : PE X (.Constant (.int i) j pos) (tC (.int i)) := fun _ _ _ H _ I h => wpAny_Constant_int ⟨.int i, H, I.tok _, ⟨_, rfl⟩, h⟩
theorem pe_bl {b j pos} : PE X (.Constant (.bool b) j pos) (tC (.bl b)) := fun _ _ _ H _ I h => Constant_bool ⟨.bl b, H, I, rfl, h⟩
theorem pe_non {j pos} : PE X (.Constant .none j pos) (tC .non) := fun _ _ _ H _ I h => Constant_none ⟨.non, H, I, rfl, h⟩
theorem pe_str {x j pos} : PE X (.Constant (.str x) j pos) (tC (.str x)) := fun _ _ _ H _ I h => Calls.Constant_str ⟨.str x, H, I.tok _, ⟨_, rfl⟩, h⟩
def Gl (X : Cx) (x : Str) : Prop := X.env.kindOf x = some .globalImplicit
theorem ld_glob {E : Value → Shared → Prop} {pins : List (Addr × Obj)} {s : Shared} {σ : St} {H : Hp} {x : Str} {u : Value} {pos : Pos} {Q : Value → Shared → Prop} (I : Inv X pins σ H s) (hg : Gl X x) (hm : X.mg x = some u) (h : Q u s)
    (hd : (x == ("__debug__" : Str)) = false := by decide) : wpAny (model X.prog X.w) X.A (eval (.Name x pos) X.env) Q E s :=
  Calls.Name_function_global I.ok.kind hg (Calls.loadGlobal_global (by rw [I.ok.glob]; exact I.mod.glob.keeps I.bk) hm h) hd
theorem ld_blt {E : Value → Shared → Prop} {pins : List (Addr × Obj)} {s : Shared} {σ : St} {H : Hp} {x : Str} {u : Value} {pos : Pos} {Q : Value → Shared → Prop} (I : Inv X pins σ H s) (hg : Gl X x) (hm : X.mg x = none) (hv : bootBuiltins x = some u) (h : Q u s)
    (hn : x ≠ "__name__" := by decide) (hd : (x == ("__debug__" : Str)) = false := by decide) : wpAny (model X.prog X.w) X.A (eval (.Name x pos) X.env) Q E s := by
  obtain ⟨mb, h1, h2⟩ := I.mod.blt
  exact Calls.Name_function_global I.ok.kind hg (Calls.loadGlobal_builtin (by rw [I.ok.glob]; exact I.mod.glob.keeps I.bk) hm (by rw [I.ok.blt]; exact h1.keeps I.bk) ((h2 x hn).trans hv) h) hd
theorem pe_glob {x : Str} {v : V} {u : Value} {pos : Pos} (hg : Gl X x) (hm : X.mg x = some u) (r : RelV v u) (hd : (x == ("__debug__" : Str)) = false := by decide) : PE X (.Name x pos) (tC v) :=
  fun _ _ _ H _ I h => ld_glob I hg hm ⟨v, H, I, r, h⟩ hd
theorem pe_bltn {x : Str} {v : V} {u : Value} {pos : Pos} (hg : Gl X x) (hm : X.mg x = none) (hv : bootBuiltins x = some u) (r : RelV v u) (hn : x ≠ "__name__" := by decide) (hd : (x == ("__debug__" : Str)) = false := by decide) : PE X (.Name x pos) (tC v) :=
  fun _ _ _ H _ I h => ld_blt I hg hm hv ⟨v, H, I, r, h⟩ hn hd
variable {a b : Expr} {ta tb : TE} {pos : Pos}
def PC (X : Cx) (op : CmpOp) (a b : Expr) (t : TE) : Prop :=
  ∀ (pins : List (Addr × Obj)) (s : Shared) (σ : St) (H : Hp) (Q : VK), Inv X pins σ H s → t σ H Q →
    wpAny (model X.prog X.w) X.A (eval a X.env) (fun v s₁ => wpAny (model X.prog X.w) X.A (eval b X.env) (fun u s₂ => wpAny (model X.prog X.w) X.A (compareOp op v u) (EP X pins σ Q) X.xe s₂) X.xe s₁) X.xe s
theorem nobehind (b : Expr) {op : CmpOp} (h : op ≠ .In) (h2 : op ≠ .NotIn) : behindInMarks op b = false := by
  have e1 : (op == CmpOp.In) = false := by cases op <;> first | rfl | exact absurd rfl h
  have e2 : (op == CmpOp.NotIn) = false := by cases op <;> first | rfl | exact absurd rfl h2
  cases b <;> simp [behindInMarks, e1, e2]
def tIsN (ta : TE) : TE := fun σ H Q => ta σ H fun x H1 => Q (.bl (decide (x = .non))) H1
theorem RelV.none_iff {x : V} {v : Value} (r : RelV x v) : (v == Value.none) = decide (x = .non) := by
  cases x with
  | non => cases r; rfl
  | bl _ => cases r; rfl
  | int _ => obtain ⟨t, rfl⟩ := r; rfl
  | str _ => obtain ⟨t, rfl⟩ := r; rfl
  | byt _ => obtain ⟨t, rfl⟩ := r; rfl
  | flt _ => obtain ⟨t, rfl⟩ := r; rfl
  | ref _ => cases r; rfl
  | ty _ => cases r; rfl
theorem pc_isN {j pos'} (ha : PE X a ta) : PC X .Is a (.Constant .none j pos') (tIsN ta) := by
  intro pins s σ H Q I h
  refine thn (ha pins s σ H _ I h) fun v s1 ⟨x, H1, I1, r1, q1⟩ => ?_
  exact Constant_none (is_none_gen ⟨.bl _, H1, I1, by rw [r1.none_iff]; rfl, q1⟩)
def tB (t : TE) : TT := fun σ H Q => t σ H fun x H1 => ∃ c, x = .bl c ∧ Q c H1
theorem pt_cmp {op : CmpOp} {t : TE} (h : PC X op a b t) (h1 : behindInMarks op b = false := by first | exact nobehind _ (by decide) (by decide) | rfl) : PT X (.Compare a [op] [b] pos) (tB t) := by
  intro pins s σ H Q I hw
  refine wpAny_isTrue_Compare1 (thn (h pins s σ H _ I hw) fun v s1 h1 => thn h1 fun u s2 h2 => thn h2 fun c s3 ⟨x, H1, I1, r1, q1⟩ => ?_) h1
  obtain ⟨d, rfl, q⟩ := q1
  cases r1
  exact wpAny_truthy_bool ⟨H1, I1, q⟩
theorem pt_val {e : Expr} {t : TE} (h : PE X e t) (he : ∀ whole, isTrue e X.env whole = (do let v ← whole; standAt e.pos; holding [v] (truthy v)) := by intro _; rfl) : PT X e (tB t) := by
  intro pins s σ H Q I hw
  refine isTrue_plain (thn (h pins s σ H _ I hw) fun v s1 ⟨x, H1, I1, r1, q1⟩ => ?_) (he _)
  obtain ⟨d, rfl, q⟩ := q1
  cases r1
  exact wpAny_truthy_bool ⟨H1, I1, q⟩
variable {tA tB' : TT} {rest : List Expr}
def tAnd (t u : TT) : TT := fun σ H Q => t σ H fun c H1 => if c = true then u σ H1 Q else Q false H1
def tOr (t u : TT) : TT := fun σ H Q => t σ H fun c H1 => if c = true then Q true H1 else u σ H1 Q
def tNot (t : TT) : TT := fun σ H Q => t σ H fun c H1 => Q (!c) H1
theorem pw_and1 (ha : PT X a tA) : PW X (.BoolOp .And [a] pos) tA := by
  intro wh pins s σ H Q I h
  refine isTrue_and (thn (ha pins s σ H Q I h) fun c s1 e => ?_)
  cases c with
  | true => exact isTrue_and_nil e
  | false => exact e
theorem pw_or1 (ha : PT X a tA) : PW X (.BoolOp .Or [a] pos) tA := by
  intro wh pins s σ H Q I h
  refine isTrue_or (thn (ha pins s σ H Q I h) fun c s1 e => ?_)
  cases c with
  | false => exact isTrue_or_nil e
  | true => exact e
theorem pw_and (ha : PT X a tA) (hb : PW X (.BoolOp .And (b :: rest) pos) tB') : PW X (.BoolOp .And (a :: b :: rest) pos) (tAnd tA tB') := by
  intro wh pins s σ H Q I h
  refine isTrue_and (thn (ha pins s σ H _ I h) fun c s1 ⟨H1, I1, q1⟩ => ?_)
  cases c with
  | true => exact hb wh pins s1 σ H1 Q I1 q1
  | false => exact ⟨H1, I1, q1⟩
theorem pw_or (ha : PT X a tA) (hb : PW X (.BoolOp .Or (b :: rest) pos) tB') : PW X (.BoolOp .Or (a :: b :: rest) pos) (tOr tA tB') := by
  intro wh pins s σ H Q I h
  refine isTrue_or (thn (ha pins s σ H _ I h) fun c s1 ⟨H1, I1, q1⟩ => ?_)
  cases c with
  | true => exact ⟨H1, I1, q1⟩
  | false => exact hb wh pins s1 σ H1 Q I1 q1
theorem pt_not (ha : PT X a tA) : PT X (.UnaryOp .Not a pos) (tNot tA) := by
  intro pins s σ H Q I h
  exact isTrue_not (ha pins s σ H (fun c H1 => Q (!c) H1) I h)
def tAndV (ta tb : TE) : TE := fun σ H Q => ta σ H fun x H1 => ∃ c, x = .bl c ∧ if c = true then tb σ H1 Q else Q (.bl false) H1
def tOrV (ta tb : TE) : TE := fun σ H Q => ta σ H fun x H1 => ∃ c, x = .bl c ∧ if c = true then Q (.bl true) H1 else tb σ H1 Q
def tNotV (ta : TE) : TE := fun σ H Q => ta σ H fun x H1 => ∃ c, x = .bl c ∧ Q (.bl (!c)) H1
theorem pe_one {op} {t : TE} (h : PE X a t) : PE X (.BoolOp op [a] pos) t := fun pins s σ H Q I hw => BoolOp_one (h pins s σ H Q I hw)
theorem pe_and (ha : PE X a ta) (hb : PE X (.BoolOp .And (b :: rest) pos) tb) : PE X (.BoolOp .And (a :: b :: rest) pos) (tAndV ta tb) := by
  intro pins s σ H Q I h
  refine BoolOp_and (thn (ha pins s σ H _ I h) fun v s1 ⟨x, H1, I1, r1, q1⟩ => ?_)
  obtain ⟨c, rfl, q1⟩ := q1
  cases r1
  refine wpAny_truthy_bool ?_
  cases c with
  | true => exact hb pins s1 σ H1 Q I1 q1
  | false => exact ⟨.bl false, H1, I1, rfl, q1⟩
theorem pe_or (ha : PE X a ta) (hb : PE X (.BoolOp .Or (b :: rest) pos) tb) : PE X (.BoolOp .Or (a :: b :: rest) pos) (tOrV ta tb) := by
  intro pins s σ H Q I h
  refine BoolOp_or (thn (ha pins s σ H _ I h) fun v s1 ⟨x, H1, I1, r1, q1⟩ => ?_)
  obtain ⟨c, rfl, q1⟩ := q1
  cases r1
  refine wpAny_truthy_bool ?_
  cases c with
  | false => exact hb pins s1 σ H1 Q I1 q1
  | true => exact ⟨.bl true, H1, I1, rfl, q1⟩
theorem pe_not (ha : PE X a ta) : PE X (.UnaryOp .Not a pos) (tNotV ta) := by
  intro pins s σ H Q I h
  refine UnaryOp_ (thn (ha pins s σ H _ I h) fun v s1 ⟨x, H1, I1, r1, q1⟩ => ?_)
  obtain ⟨c, rfl, q1⟩ := q1
  cases r1
  exact not_of (wpAny_truthy_bool ⟨.bl (!c), H1, I1, rfl, q1⟩)
def tIf (t : TT) (ta tb : TE) : TE := fun σ H Q => t σ H fun c H1 => if c = true then ta σ H1 Q else tb σ H1 Q
theorem pe_ifExp {c : Expr} (hc : PT X c tA) (ha : PE X a ta) (hb : PE X b tb) : PE X (.IfExp c a b pos) (tIf tA ta tb) := by
  intro pins s σ H Q I h
  refine wpAny_IfExp (thn (hc pins s σ H _ I h) fun d s1 ⟨H1, I1, q1⟩ => ?_)
  cases d with
  | true => exact ha pins s1 σ H1 Q I1 q1
  | false => exact hb pins s1 σ H1 Q I1 q1
end
end L2
namespace L2
open PySem PySem.Spec PyProof.Rows
def SqL (K : PySem.W.Frag) (H : Hp) (a : Addr) (xs : List V) : Prop :=
  Rd H a (.lst xs) ∨
    ∃ (o : Obj) (its : Array Value) (n : Nat), K.lookup a = some o ∧ o.cls = .type "list" ∧ o.dict = none ∧ o.data = .seq its n ∧ its.size ≤ sizeLine ∧ Vals xs its.toList
def SqT (K : PySem.W.Frag) (H : Hp) (a : Addr) (xs : List V) : Prop :=
  Rd H a (.tup xs) ∨
    ∃ (o : Obj) (its : Array Value) (n : Nat), K.lookup a = some o ∧ o.cls = .type "tuple" ∧ o.data = .seq its n ∧ its.size ≤ sizeLine ∧ Vals xs its.toList
def absV : Value → Option V
  | .none => some .non
  | .bool b => some (.bl b)
  | .int i _ => some (.int i)
  | .str x _ => some (.str x)
  | .bytes b _ => some (.byt b)
  | .float b _ => some (.flt b)
  | .ref a => some (.ref a)
  | .type n => some (.ty n)
  | _ => none
theorem RelV.abs {x : V} {u : Value} (r : RelV x u) : absV u = some x := by
  cases x with
  | non => cases r; rfl
  | bl _ => cases r; rfl
  | int _ => obtain ⟨t, rfl⟩ := r; rfl
  | str _ => obtain ⟨t, rfl⟩ := r; rfl
  | byt _ => obtain ⟨t, rfl⟩ := r; rfl
  | flt _ => obtain ⟨t, rfl⟩ := r; rfl
  | ref _ => cases r; rfl
  | ty _ => cases r; rfl
theorem RelV.inj {x y : V} {u : Value} (r : RelV x u) (q : RelV y u) : x = y := Option.some.inj (r.abs.symm.trans q.abs)
theorem Vals.inj : ∀ {xs ys : List V} {us : List Value}, Vals xs us → Vals ys us → xs = ys
  | _, _, _, .nil, .nil => rfl
  | _, _, _, .cons r t, .cons r' t' => by rw [r.inj r', Vals.inj t t']
section
variable {X : Cx} {pins : List (Addr × Obj)} {σ : St} {H : Hp} {s : Shared} {a : Addr} {xs ys : List V}
theorem SqL.of {K : PySem.W.Frag} (h : H a = some (.lst xs)) : SqL K H a xs := .inl (.inl h)
theorem SqT.of {K : PySem.W.Frag} (h : H a = some (.tup xs)) : SqT K H a xs := .inl (.inl h)
theorem Inv.list (I : Inv X pins σ H s) (h : SqL X.K H a xs) : ∃ its : List Value, Vals xs its ∧ PlainL s.heap a its.toArray ∧ xs.length ≤ sizeLine := by
  rcases h with h | ⟨o, its, n, hk, hc, hd, hs, hz, r⟩
  · obtain ⟨z, its, n, r, e⟩ := h.ok I.hok
    exact ⟨its, r, ⟨_, n, e, rfl, rfl, rfl⟩, z⟩
  · refine ⟨its.toList, r, ⟨o, n, I.kIn a o hk, hc, hd, by simpa using hs⟩, ?_⟩
    have e := r.length
    simp only [Array.length_toList] at e
    omega
theorem Inv.tuple (I : Inv X pins σ H s) (h : SqT X.K H a xs) : ∃ its : List Value, Vals xs its ∧ IsTup s.heap a its.toArray ∧ xs.length ≤ sizeLine := by
  rcases h with h | ⟨o, its, n, hk, hc, hs, hz, r⟩
  · obtain ⟨z, its, r, p⟩ := h.ok I.hok
    exact ⟨its, r, p, z⟩
  · refine ⟨its.toList, r, ⟨o, I.kIn a o hk, hc, n, by simpa using hs⟩, ?_⟩
    have e := r.length
    simp only [Array.length_toList] at e
    omega
theorem Inv.list_inj (I : Inv X pins σ H s) (h : SqL X.K H a xs) (h' : SqL X.K H a ys) : xs = ys := by
  obtain ⟨its, r, ⟨o, n, e, _, _, d⟩, _⟩ := I.list h
  obtain ⟨its', r', ⟨o', n', e', _, _, d'⟩, _⟩ := I.list h'
  rw [e] at e'; cases e'
  rw [d] at d'
  injection d' with d1 _
  have : its = its' := by simpa using congrArg Array.toList d1
  subst this
  exact r.inj r'
end
abbrev Cx.wish (X : Cx) (E : Value → Shared → Prop) : Cx := { X with xe := E }
abbrev Cx.nox (X : Cx) : Cx := X.wish fun _ _ => False
theorem Cx.Ok.wish {X : Cx} (ok : X.Ok) (E : Value → Shared → Prop) : (X.wish E).Ok :=
  ⟨ok.mod, ok.kind, ok.glob, ok.blt, ok.above, ok.inj, ok.has, ok.cab, ok.hd, ok.frames, ok.stk, ok.exf, ok.bs, ok.bsz, ok.noex, ok.exfs, ok.funs, ok.frf⟩
theorem Cx.Ok.unwish {X : Cx} {E : Value → Shared → Prop} (ok : (X.wish E).Ok) : X.Ok :=
  ⟨ok.mod, ok.kind, ok.glob, ok.blt, ok.above, ok.inj, ok.has, ok.cab, ok.hd, ok.frames, ok.stk, ok.exf, ok.bs, ok.bsz, ok.noex, ok.exfs, ok.funs, ok.frf⟩
section
variable {X : Cx} {pins : List (Addr × Obj)} {σ : St} {H : Hp} {s : Shared} {E : Value → Shared → Prop}
theorem Inv.wish (I : Inv X pins σ H s) (E : Value → Shared → Prop) : Inv (X.wish E) pins σ H s := ⟨I.ok.wish E, I.os, I.bare, I.base, I.loc, I.cell, I.free, I.freeC, I.pin, I.hok, I.len⟩
theorem Inv.unwish (I : Inv (X.wish E) pins σ H s) : Inv X pins σ H s := ⟨I.ok.unwish, I.os, I.bare, I.base, I.loc, I.cell, I.free, I.freeC, I.pin, I.hok, I.len⟩
theorem SP.unwish {D : Ends} {f : Flow} {s' : Shared} (h : SP (X.wish E) pins D f s') : SP X pins D f s' := by
  cases f with
  | next => obtain ⟨σ', H', I, q⟩ := h; exact ⟨σ', H', I.unwish, q⟩
  | brk => obtain ⟨σ', H', I, q⟩ := h; exact ⟨σ', H', I.unwish, q⟩
  | cont => obtain ⟨σ', H', I, q⟩ := h; exact ⟨σ', H', I.unwish, q⟩
  | ret u => obtain ⟨v, σ', H', I, r, q⟩ := h; exact ⟨v, σ', H', I.unwish, r, q⟩
theorem PSs.nox {st : List Stmt} {t : TS} (h : PSs X.nox st t) : PSs X st t := fun pins s σ H D I hw =>
  wpAny_mono (h pins s σ H D (I.wish _) hw) (fun _ _ q => q.unwish) fun _ _ z => False.elim z
end
section
variable {X : Cx} {st : Stmt} {rest : List Stmt} {t u : TS} {e : Expr} {te : TE} {pos : Pos}
def tNext : TS := fun D σ H => D.nx σ H
def tSeq (t u : TS) : TS := fun D σ H => t { D with nx := u D } σ H
theorem pss_nil : PSs X [] tNext := fun _ _ σ H _ I h => wpAny_execs_nil ⟨σ, H, I, h⟩
theorem pss_cons (h1 : PS X st t) (h2 : PSs X rest u) : PSs X (st :: rest) (tSeq t u) := by
  intro pins s σ H D I h
  refine wpAny_execs_cons (thn (h1 pins s σ H { D with nx := u D } I h) fun f s1 q => ?_)
  cases f with
  | next =>
    obtain ⟨σ', H', I', q⟩ := q
    exact h2 pins s1 σ' H' D I' q
  | ret v => exact q
  | brk => exact q
  | cont => exact q
theorem pss_one (h1 : PS X st t) : PSs X [st] t := by
  intro pins s σ H D I h
  refine wpAny_execs_cons (thn (h1 pins s σ H D I h) fun f s1 q => ?_)
  cases f with
  | next => exact wpAny_execs_nil q
  | ret v => exact q
  | brk => exact q
  | cont => exact q
theorem Inv.quiet {pins : List (Addr × Obj)} {σ : St} {H : Hp} {s : Shared} (I : Inv X pins σ H s) : interactive X.env = false := by simp [interactive, I.ok.kind]
def tDrop (te : TE) : TS := fun D σ H => te σ H fun _ H1 => D.nx σ H1
theorem ps_expr (he : PE X e te) (hs : swapsWith e none pos.line X.env = pure false := by rfl) : PS X (.Expr e pos) (tDrop te) := by
  intro pins s σ H D I h
  exact wpAny_Expr_any (thn (he pins s σ H _ I h) fun v s1 ⟨x, H1, I1, r1, q1⟩ => ⟨σ, H1, I1, q1⟩) I.quiet hs
def tRet (te : TE) : TS := fun D σ H => te σ H D.rt
theorem ps_ret (he : PE X e te) : PS X (.Return (some e) pos) (tRet te) := by
  intro pins s σ H D I h
  exact wpAny_Return_some (thn (he pins s σ H _ I h) fun v s1 ⟨x, H1, I1, r1, q1⟩ => ⟨x, σ, H1, I1, r1, q1⟩)
def tIfS (c : TT) (t u : TS) : TS := fun D σ H => c σ H fun b H1 => if b = true then t D σ H1 else u D σ H1
theorem ps_if {c : Expr} {a b : List Stmt} {tc : TT} (hc : PT X c tc) (ha : PSs X a t) (hb : PSs X b u) : PS X (.If c a b pos) (tIfS tc t u) := by
  intro pins s σ H D I h
  refine wpAny_If (thn (hc pins s σ H _ I h) fun d s1 ⟨H1, I1, q1⟩ => ?_)
  cases d with
  | true => exact ha pins s1 σ H1 D I1 q1
  | false => exact hb pins s1 σ H1 D I1 q1
def tNever : TS := fun _ _ _ => False
theorem ps_never : PS X st tNever := fun _ _ _ _ _ _ h => h.elim
end
abbrev TG := V → St → Hp → (St → Hp → Prop) → Prop
abbrev TGs := List V → St → Hp → (St → Hp → Prop) → Prop
def PG (X : Cx) (target : Expr) (t : TG) : Prop :=
  ∀ (pins : List (Addr × Obj)) (s : Shared) (σ : St) (H : Hp) (v : V) (u : Value) (Q : St → Hp → Prop), Inv X pins σ H s → RelV v u → t v σ H Q →
    wpAny (model X.prog X.w) X.A (assign target X.env u) (fun _ s' => ∃ σ' H', Inv X pins σ' H' s' ∧ Q σ' H') X.xe s
def PGs (X : Cx) (ts : List Expr) (t : TGs) : Prop :=
  ∀ (pins : List (Addr × Obj)) (s : Shared) (σ : St) (H : Hp) (vs : List V) (us : List Value) (Q : St → Hp → Prop), Inv X pins σ H s → Vals vs us → t vs σ H Q →
    wpAny (model X.prog X.w) X.A (assignInOrder ((assignEach ts X.env).map (·.2)) us) (fun _ s' => ∃ σ' H', Inv X pins σ' H' s' ∧ Q σ' H') X.xe s
abbrev TSet := V → V → V → Hp → (Hp → Prop) → Prop
def PSet (X : Cx) (t : TSet) : Prop :=
  ∀ (pins : List (Addr × Obj)) (s : Shared) (σ : St) (H : Hp) (o i v : V) (ov iv u : Value) (Q : Hp → Prop), Inv X pins σ H s → RelV o ov → RelV i iv → RelV v u → t o i v H Q →
    wpAny (model X.prog X.w) X.A (setItem ov iv u) (fun _ s' => ∃ H', Inv X pins σ H' s' ∧ Q H') X.xe s
abbrev TIp := V → V → Hp → VK → Prop
def PIp (X : Cx) (op : Operator) (t : TIp) : Prop :=
  ∀ (pins : List (Addr × Obj)) (s : Shared) (σ : St) (H : Hp) (x y : V) (v u : Value) (Q : VK), Inv X pins σ H s → RelV x v → RelV y u → t x y H Q →
    wpAny (model X.prog X.w) X.A (inplaceOp op v u) (EP X pins σ Q) X.xe s
section
variable {X : Cx} {pos : Pos}
def gName (i : Nat) : TG := fun v σ H Q => Q (σ.set i (some v)) H
theorem pg_name {i : Nat} {x : Str} (hN : X.N.Nodup) (hi : X.N[i]? = some x) (hx : Loc X.env.scope x) (hf : X.fn x = true ∨ X.env.scope.names.lookup x = some .local := by first | exact .inl rfl | exact .inr rfl | assumption) : PG X (.Name x pos) (gName i) := by
  intro pins s σ H v u Q I r h
  exact wpAny_assign_Name (store_ok I hN hi hx r (fun s' I' => ⟨_, H, I', h⟩) hf)
def gNil : TGs := fun vs σ H Q => vs = [] ∧ Q σ H
def gCons (t : TG) (u : TGs) : TGs := fun vs σ H Q => ∃ v r, vs = v :: r ∧ t v σ H fun σ' H' => u r σ' H' Q
theorem pgs_nil : PGs X [] gNil := by
  intro pins s σ H vs us Q I r h
  obtain ⟨e, h⟩ := h
  subst e
  cases r
  exact assignInOrder_nil ⟨σ, H, I, h⟩
theorem pgs_cons {e : Expr} {es : List Expr} {t : TG} {u : TGs} (h1 : PG X e t) (h2 : PGs X es u)
    (hs : (assignEach (e :: es) X.env).map (·.2) = assign e X.env :: (assignEach es X.env).map (·.2) := by rfl) : PGs X (e :: es) (gCons t u) := by
  intro pins s σ H vs us Q I r h
  obtain ⟨v, vr, e1, h⟩ := h
  subst e1
  cases r with
  | cons r rr =>
    rw [hs]
    refine assignInOrder_cons (thn (h1 pins s σ H _ _ _ I r h) fun _ s1 ⟨σ1, H1, I1, q1⟩ => ?_)
    exact h2 pins s1 σ1 H1 _ _ Q I1 rr q1
def gTup (K : PySem.W.Frag) (n : Nat) (t : TGs) : TG := fun v σ H Q => ∃ a xs, v = .ref a ∧ SqT K H a xs ∧ xs.length = n ∧ t xs σ H Q
theorem pg_tup {es : List Expr} {k : Nat} {t : TGs} {n : Nat} (hc : X.calm = true) (h : PGs X es t)
    (hn : (assignEach es X.env).length = n := by rfl) (hst : (assignEach es X.env).findIdx? (·.1) = none := by rfl) : PG X (.Tuple es k pos) (gTup X.K n t) := by
  intro pins s σ H v u Q I r hw
  obtain ⟨a, xs, e1, hq, hl, hw⟩ := hw
  subst e1
  cases r
  obtain ⟨its, rv, ht, hz⟩ := I.tuple hq
  refine assign_Tuple_tuple (I.ok.hd hc) ht (by simp [hn, ← hl, rv.length]) hst fun h' hx => ?_
  have I1 : Inv X pins σ H { s with heap := h' } := I.kept (t' := s.toks) fun b o e => hx b o (Nat.ne_of_lt (Heap.lt_size e)) e
  exact h pins _ σ H xs _ Q I1 (by simpa using rv) hw
def gSub (to ti : TE) (t : TSet) : TG := fun v σ H Q => to σ H fun o H1 => ti σ H1 fun i H2 => t o i v H2 fun H3 => Q σ H3
theorem pg_sub {o i : Expr} {to ti : TE} {t : TSet} (ho : PE X o to) (hi : PE X i ti) (hs : PSet X t)
    (ha : ∀ v, assign (.Subscript o i pos) X.env v = (do
      let ov ← holding [v] (eval o X.env)
      let iv ← holding [v, ov] (eval i X.env)
      standAt pos
      holding [v, ov, iv] (setItem ov iv v)
      release [v, ov, iv] []) := by intro _; rfl) : PG X (.Subscript o i pos) (gSub to ti t) := by
  intro pins s σ H v u Q I r h
  rw [ha]
  refine wpAny_bind (wpAny_holding (thn (ho pins s σ H _ I h) fun ov s1 ⟨x, H1, I1, r1, q1⟩ => ?_))
  refine wpAny_bind (wpAny_holding (thn (hi pins s1 σ H1 _ I1 q1) fun iv s2 ⟨y, H2, I2, r2, q2⟩ => ?_))
  refine wpAny_bind (wpAny_standAt (wpAny_bind (wpAny_holding (thn (hs pins s2 σ H2 x y v ov iv u _ I2 r1 r2 r q2) fun _ s3 ⟨H3, I3, q3⟩ => ?_))))
  exact wpAny_release ⟨σ, H3, I3, q3⟩
def tAsg (te : TE) (g : TG) : TS := fun D σ H => te σ H fun x H1 => g x σ H1 D.nx
theorem ps_asg {tg e : Expr} {te : TE} {g : TG} (he : PE X e te) (hg : PG X tg g) (hs : swapsWithSole [tg] e pos.line X.env = pure false := by rfl) (hw : swappedStores [tg] e X.env = pure none := by rfl)
    (h1 : (assignEach [tg] X.env).map (·.2) = [assign tg X.env] := by rfl) : PS X (.Assign [tg] e pos) (tAsg te g) := by
  intro pins s σ H D I h
  refine wpAny_Assign_stores (thn (he pins s σ H _ I h) fun v s1 ⟨x, H1, I1, r1, q1⟩ => ?_) hs hw
  rw [h1]
  exact thn (hg pins s1 σ H1 x v _ I1 r1 q1) fun _ s2 q => q
theorem ps_set {i : Nat} {x : Str} {e : Expr} {te : TE} {pos' : Pos} (hN : X.N.Nodup) (hi : X.N[i]? = some x) (hx : Loc X.env.scope x) (he : PE X e te) (hs : swapsWith e (some (.Name x pos')) pos.line X.env = pure false := by rfl) (hf : X.fn x = true ∨ X.env.scope.names.lookup x = some .local := by first | exact .inl rfl | exact .inr rfl | assumption) :
    PS X (.Assign [.Name x pos'] e pos) (tAsg te (gName i)) := by
  intro pins s σ H D I h
  refine wpAny_Assign_Name (thn (he pins s σ H _ I h) fun v s1 ⟨y, H1, I1, r1, q1⟩ => ?_) hs
  exact store_ok I1 hN hi hx r1 (fun s2 I2 => ⟨_, H1, I2, q1⟩) hf
def tAugS (to ti te : TE) (tget : V → V → Hp → VK → Prop) (tip : TIp) (tset : TSet) : TS := fun D σ H => to σ H fun o H1 => ti σ H1 fun i H2 => tget o i H2 fun x H3 => te σ H3 fun y H4 => tip x y H4 fun z H5 => tset o i z H5 fun H6 => D.nx σ H6
def PGet (X : Cx) (t : V → V → Hp → VK → Prop) : Prop :=
  ∀ (pins : List (Addr × Obj)) (s : Shared) (σ : St) (H : Hp) (o i : V) (ov iv : Value) (Q : VK), Inv X pins σ H s → RelV o ov → RelV i iv → t o i H Q →
    wpAny (model X.prog X.w) X.A (getItem ov iv) (EP X pins σ Q) X.xe s
theorem ps_augS {o i e : Expr} {to ti te : TE} {tget : V → V → Hp → VK → Prop} {tip : TIp} {tset : TSet} {op : Operator} {tpos : Pos} (ho : PE X o to) (hi : PE X i ti) (hg : PGet X tget) (he : PE X e te) (hp : PIp X op tip) (hs : PSet X tset)
    (ha : ∀ ov iv new, augStore i ov iv new = (do holding [new, ov, iv] (setItem ov iv new); release [new, ov, iv] []; pure .next) := by intros; rfl) : PS X (.AugAssign (.Subscript o i tpos) op e pos) (tAugS to ti te tget tip tset) := by
  intro pins s σ H D I h
  refine wpAny_AugAssign_SubscriptAny (thn (ho pins s σ H _ I h) fun ov s1 ⟨x1, H1, I1, r1, q1⟩ => ?_) ha
  refine thn (hi pins s1 σ H1 _ I1 q1) fun iv s2 ⟨x2, H2, I2, r2, q2⟩ => ?_
  refine thn (hg pins s2 σ H2 x1 x2 ov iv _ I2 r1 r2 q2) fun old s3 ⟨x3, H3, I3, r3, q3⟩ => ?_
  refine thn (he pins s3 σ H3 _ I3 q3) fun v s4 ⟨x4, H4, I4, r4, q4⟩ => ?_
  refine thn (hp pins s4 σ H4 x3 x4 old v _ I4 r3 r4 q4) fun new s5 ⟨x5, H5, I5, r5, q5⟩ => ?_
  exact thn (hs pins s5 σ H5 x1 x2 x5 ov iv new _ I5 r1 r2 r5 q5) fun _ s6 ⟨H6, I6, q6⟩ => ⟨σ, H6, I6, q6⟩
def ipI (f : Int → Int → Int) : TIp := fun x y H Q => ∃ i j, x = .int i ∧ y = .int j ∧ Q (.int (f i j)) H
theorem ip_add : PIp X .Add (ipI fun i j => i + j) := by
  intro pins s σ H x y v u Q I r1 r2 h
  obtain ⟨i, j, e1, e2, q⟩ := h
  subst e1; subst e2
  obtain ⟨t, rfl⟩ := r1
  obtain ⟨t', rfl⟩ := r2
  exact iadd_int ⟨.int _, H, I.tok _, ⟨_, rfl⟩, q⟩
end
section
variable {X : Cx} {pos : Pos}
end
structure It where
  go : Nat → Hp → Prop
  yld : Nat → Hp → V → Hp → Prop
  stop : Nat → Hp → Prop
def FpOk (X : Cx) (pins : List (Addr × Obj)) (H : Hp) (b : Addr) : Prop :=
  H b = none ∧ b ≠ X.env.locals ∧ b ∉ X.fs ∧ (b ∈ X.ex ∨ X.s₀.heap.objs.size ≤ b) ∧ (∀ x c, X.env.cells.lookup x = some c → c ≠ b) ∧ ∀ p ∈ X.pn ++ pins, p.1 ≠ b
theorem Inv.fpOk {X : Cx} {pins : List (Addr × Obj)} {σ : St} {H H' : Hp} {s : Shared} {b : Addr} (I : Inv X pins σ H s) (hb : s.heap.objs.size ≤ b) (hn : H' b = none) : FpOk X pins H' b := by
  refine ⟨hn, Nat.ne_of_gt (Nat.lt_of_lt_of_le I.lt hb), I.nofs hb, .inr (Nat.le_trans I.sz hb), fun x c e z => ?_, fun p hp z => ?_⟩
  · obtain ⟨v, q⟩ := I.cell x c e
    exact absurd (Nat.lt_of_lt_of_le q.lt (by rw [z]; exact hb)) (Nat.lt_irrefl _)
  · exact absurd (Nat.lt_of_lt_of_le (Heap.lt_size (I.pin p hp).1) (by rw [z]; exact hb)) (Nat.lt_irrefl _)
structure Turn (P : Program) (w : World) (K : PySem.W.Frag) (tg : Expr) (J : It) (fp : List Addr) (it : Addr) (tn : Nat → Heap → Prop) : Prop where
  mem : it ∈ fp
  obj : ∀ i h, tn i h → ∀ b ∈ fp, ∃ o, h.get? b = some o ∧ ∀ v, o.data ≠ .cell v
  keep : ∀ i h h', tn i h → (∀ b ∈ fp, ∀ o, h.get? b = some o → h'.get? b = some o) → tn i h'
  item : ∀ (X : Cx), X.prog = P → X.w = w → X.K = K → X.calm = true → ∀ (i : Nat) (pins : List (Addr × Obj)) (s : Shared) (σ : St) (H : Hp) (E : Value → Shared → Prop), Inv X pins σ H s → (∀ b ∈ fp, FpOk X pins H b) → tn i s.heap → J.go i H →
    wpAny (model P w) X.A (pyNext (.ref it)) (fun r s1 => ∃ u, r = some u ∧
      wpAny (model P w) X.A (letOwnedTupleGo tg (.ref it) u) (fun _ s2 => ∃ x H', Inv X pins σ H' s2 ∧ RelV x u ∧ J.yld i H x H' ∧ tn (i + 1) s2.heap ∧ ∀ b ∈ fp, H' b = none) E s1) E s
  done : ∀ (X : Cx), X.prog = P → X.w = w → X.K = K → X.calm = true → ∀ (i : Nat) (pins : List (Addr × Obj)) (s : Shared) (σ : St) (H : Hp) (E : Value → Shared → Prop), Inv X pins σ H s → (∀ b ∈ fp, FpOk X pins H b) → tn i s.heap → J.stop i H →
    wpAny (model P w) X.A (pyNext (.ref it)) (fun r s1 => r = none ∧ Inv X pins σ H s1) E s
  self : ∀ (A : Around) (i : Nat) (s : Shared) (Q : Value → Shared → Prop) (E : Value → Shared → Prop), tn i s.heap → Q (.ref it) s → wpAny (model P w) A (pyIter (.ref it)) Q E s
abbrev TI := St → Hp → (It → Hp → Prop) → Prop
def PIE (X : Cx) (pins : List (Addr × Obj)) (σ : St) (tg : Expr) (R : It → Hp → Prop) (itv : Value) (s2 : Shared) : Prop :=
  ∃ (it : Addr) (fp : List Addr) (tn : Nat → Heap → Prop) (J : It) (H' : Hp), itv = .ref it ∧ Inv X pins σ H' s2 ∧ Turn X.prog X.w X.K tg J fp it tn ∧ tn 0 s2.heap ∧ (∀ b ∈ fp, FpOk X pins H' b) ∧ R J H'
def PI (X : Cx) (tg iter : Expr) (wi : TI) : Prop :=
  ∀ (pins : List (Addr × Obj)) (s : Shared) (σ : St) (H : Hp) (R : It → Hp → Prop), Inv X pins σ H s → wi σ H R →
    wpAny (model X.prog X.w) X.A (eval iter X.env) (fun v s1 => wpAny (model X.prog X.w) X.A (pyIter v) (PIE X pins σ tg R) X.xe s1) X.xe s
theorem go_of {M : Model} {A : Around} {E : Value → Shared → Prop} {s : Shared} {tg : Expr} {it : Addr} {u : Value} {o : Obj} {n : String} {vs : Array Value} {Q : Unit → Shared → Prop} (ho : s.heap.get? it = some o) (hc : o.cls = .type n) (hd : o.data = .fields vs)
    (hn : ["enumerate", "zip", "dict_itemiterator", "dict_reverseitemiterator", "odict_iterator", "itertools.zip_longest", "itertools.pairwise"].contains n = false) (hQ : Q () s) : wpAny M A (letOwnedTupleGo tg (.ref it) u) Q E s := by
  unfold letOwnedTupleGo
  cases tg <;> first
    | exact wpAny_pure hQ
    | (cases u <;> first
        | exact wpAny_pure hQ
        | (refine wpAny_bind (wpAny_load ho ?_)
           rw [hc, hd]
           show wpAny M A (if (["enumerate", "zip", "dict_itemiterator", "dict_reverseitemiterator", "odict_iterator", "itertools.zip_longest", "itertools.pairwise"].contains n && vs[0]? == some (rawInt _)) = true then _ else _) Q E s
           rw [if_neg (by intro h; rw [hn, Bool.false_and] at h; cases h)]
           exact wpAny_pure hQ))
def Itl (K : PySem.W.Frag) (a : Addr) : It :=
  ⟨fun i H => ∃ xs x, SqL K H a xs ∧ xs[i]? = some x, fun i H x H' => H' = H ∧ ∀ xs, SqL K H a xs → xs[i]? = some x, fun i H => ∃ xs, SqL K H a xs ∧ xs.length ≤ i⟩
def Itr (lo : Int) (n : Nat) : It := ⟨fun i _ => i < n, fun i H x H' => H' = H ∧ x = .int (lo + i), fun i _ => n ≤ i⟩
theorem turn_list {P : Program} {w : World} {K : PySem.W.Frag} {tg : Expr} (a it : Addr) : Turn P w K tg (Itl K a) [it] it (fun i h => h.IsListIter it a i) where
  mem := by simp
  obj := fun i h st b hb => by
    have e : b = it := by simpa using hb
    subst e
    obtain ⟨o, e, c, d⟩ := st
    exact ⟨o, e, fun v z => by rw [d] at z; cases z⟩
  keep := fun i h h' st k => st.at fun o e => k it (by simp) o e
  item := by
    intro X hP hw hK hc i pins s σ H E I hf st hg
    subst hP hw hK
    obtain ⟨xs, x, hq, hx⟩ := hg
    obtain ⟨its, rv, p, hz⟩ := I.list hq
    obtain ⟨u, hu, ru⟩ := rv.get hx
    obtain ⟨f0, f1, f2, f3, f4, f5⟩ := hf it (by simp)
    refine wpAny_pyNext_list_item st p.isList (x := u) (by simpa using hu) fun h' st' sb => ?_
    have I1 : Inv X pins σ H { s with heap := h' } := I.turned (t' := s.toks) (fun b o hb e => (sb.2 b hb).trans e) f0 f1 f3 f4 f5
    obtain ⟨o, e, c, d⟩ := id st'
    exact ⟨u, rfl, go_of (s := { s with heap := h' }) e c d (by decide) ⟨x, H, I1, ru, ⟨rfl, fun ys hy => by rw [I.list_inj hy hq]; exact hx⟩, st', fun b hb => (hf b hb).1⟩⟩
  done := by
    intro X hP hw hK hc i pins s σ H E I hf st hg
    subst hP hw hK
    obtain ⟨xs, hq, hx⟩ := hg
    obtain ⟨its, rv, p, hz⟩ := I.list hq
    obtain ⟨f0, f1, f2, f3, f4, f5⟩ := hf it (by simp)
    have hl := rv.length
    exact wpAny_pyNext_list_end (I.ok.hd hc) st p.isList (by simp; omega) fun h' eb => ⟨rfl, I.turned (t' := s.toks) (fun b o hb e => eb b o hb e) f0 f1 f3 f4 f5⟩
  self := fun _ _ _ _ _ st h => wpAny_pyIter_listiter st h
theorem turn_range {P : Program} {w : World} {K : PySem.W.Frag} {tg : Expr} (it : Addr) (lo : Int) (n : Nat) : Turn P w K tg (Itr lo n) [it] it (fun i h => IsRangeIter h it (lo + (i : Nat) * 1) ((n : Int) - (i : Nat)) 1) where
  mem := by simp
  obj := fun i h st b hb => by
    have e : b = it := by simpa using hb
    subst e
    exact ⟨_, st, fun v z => by
      have z' : Data.fields _ = Data.cell v := z
      cases z'⟩
  keep := fun i h h' st k => k it (by simp) _ st
  item := by
    intro X hP hw hK hc i pins s σ H E I hf st hg
    subst hP hw hK
    obtain ⟨f0, f1, f2, f3, f4, f5⟩ := hf it (by simp)
    have W := Walks.range (prog := X.prog) (w := X.w) (I.ok.hd hc) it lo 1 n
    refine W.item i s _ _ hg st fun v h' tk hv st' kk => ?_
    obtain ⟨t, rfl⟩ := hv
    have I1 : Inv X pins σ H { s with heap := h', toks := tk } := I.turned (fun b o hb e => kk b o (by simpa using hb) e) f0 f1 f3 f4 f5
    refine ⟨_, rfl, go_of (s := { s with heap := h', toks := tk }) (n := "range_iterator") st' rfl rfl (by decide) ⟨.int (lo + i), H, I1, ⟨t, ?_⟩, ⟨rfl, rfl⟩, st', fun b hb => (hf b hb).1⟩⟩
    rw [Int.mul_one]
  done := by
    intro X hP hw hK hc i pins s σ H E I hf st hg
    subst hP hw hK
    obtain ⟨f0, f1, f2, f3, f4, f5⟩ := hf it (by simp)
    exact wpAny_pyNext_range_end (I.ok.hd hc) st (by have : n ≤ i := hg; omega) fun h' eb => ⟨rfl, I.turned (t' := s.toks) (fun b o hb e => eb b o hb e) f0 f1 f3 f4 f5⟩
  self := fun _ _ _ _ _ st h => wpAny_pyIter_rangeiter st h
end L2
namespace L2
open PySem PySem.Spec PyProof.Rows
section
variable {X : Cx} {tg : Expr}
def iList (K : PySem.W.Frag) (tl : TE) : TI := fun σ H R => tl σ H fun x H1 => ∃ a, x = .ref a ∧ (∃ xs, SqL K H1 a xs) ∧ R (Itl K a) H1
theorem pi_list {l : Expr} {tl : TE} (hl : PE X l tl) : PI X tg l (iList X.K tl) := by
  intro pins s σ H R I h
  refine thn (hl pins s σ H _ I h) fun v s1 ⟨x, H1, I1, r1, q1⟩ => ?_
  obtain ⟨a, e, ⟨xs, hq⟩, q⟩ := q1
  subst e
  cases r1
  obtain ⟨its, rv, p, hz⟩ := I1.list hq
  refine wpAny_pyIter_list p.isList ?_
  refine ⟨s1.heap.objs.size, [s1.heap.objs.size], _, _, H1, rfl, I1.kept (t' := s1.toks) fun b o e => Heap.get?_push_of_some _ e, turn_list a _, ⟨_, Heap.get?_push_size _ rfl, rfl, rfl⟩, fun b hb => ?_, q⟩
  have e : b = s1.heap.objs.size := by simpa using hb
  subst e
  exact I1.fpOk (Nat.le_refl _) (I1.hok.fresh (Nat.le_refl _))
theorem range_it {pins : List (Addr × Obj)} {σ : St} {H : Hp} {s : Shared} {R : It → Hp → Prop} {E : Value → Shared → Prop} {lo hi : Int} {t u v : Tok} {tk : Nat} (I : Inv X pins σ H s) (h1 : -(2 ^ 62) ≤ lo) (h2 : lo < 2 ^ 62) (h3 : -(2 ^ 62) ≤ hi) (h4 : hi < 2 ^ 62)
    (q : R (Itr lo (hi - lo).toNat) H) : wpAny (model X.prog X.w) X.A (pyIter (.ref s.heap.objs.size)) (PIE X pins σ tg R) E { s with heap := s.heap.push { cls := .type "range", data := .fields #[.int lo t, .int hi u, .int 1 v] }, toks := tk } := by
  refine wpAny_pyIter_range (IsRange.new ..) (small_one h1 h2 h3 h4) ?_
  have I1 : Inv X pins σ H { s with heap := s.heap.push { cls := .type "range", data := .fields #[.int lo t, .int hi u, .int 1 v] }, toks := tk } := I.kept fun b o e => Heap.get?_push_of_some _ e
  refine ⟨(s.heap.push { cls := .type "range", data := .fields #[.int lo t, .int hi u, .int 1 v] }).objs.size, [(s.heap.push { cls := .type "range", data := .fields #[.int lo t, .int hi u, .int 1 v] }).objs.size], _, _, H, rfl,
    I1.kept (t' := tk) fun b o e => Heap.get?_push_of_some _ e, turn_range _ lo (hi - lo).toNat, ?_, fun b hb => ?_, q⟩
  · have e1 : lo + ((0 : Nat) : Int) * 1 = lo := by simp
    have e2 : (((hi - lo).toNat : Nat) : Int) - ((0 : Nat) : Int) = Builtin.Range.rangeSize lo hi 1 := by rw [rangeSize_one]; split <;> omega
    show IsRangeIter _ _ (lo + ((0 : Nat) : Int) * 1) ((((hi - lo).toNat : Nat) : Int) - ((0 : Nat) : Int)) 1
    rw [e1, e2]
    exact Heap.get?_push_size _ rfl
  · have e : b = (s.heap.push { cls := .type "range", data := .fields #[.int lo t, .int hi u, .int 1 v] }).objs.size := by simpa using hb
    subst e
    exact I1.fpOk (Nat.le_refl _) (I1.hok.fresh (Nat.le_refl _))
def iRng1 (ta : TA) : TI := fun σ H R => ta σ H fun vs H1 => ∃ j : Int, vs = [.int j] ∧ -(2 ^ 62) ≤ j ∧ j < 2 ^ 62 ∧ R (Itr 0 j.toNat) H1
theorem pi_range1 {a : Expr} {ta : TA} {p pos : Pos} (hg : Gl X "range") (hm : X.mg "range" = none) (ha : PA X [a] ta) (hs : starEach [a] X.env = [(false, eval a X.env)] := by rfl) : PI X tg (.Call (.Name "range" p) [a] [] pos) (iRng1 ta) := by
  intro pins s σ H R I h
  refine Call_ (ld_blt I hg hm boot_range (PyProof.Rows.callWith_type1 (thn (ha pos pins s σ H _ I h) fun us s1 ⟨vs, H1, I1, r1, q1⟩ => ?_) hs rfl))
  obtain ⟨j, e, q1, q2, q⟩ := q1
  subst e
  cases r1 with
  | cons r rr =>
    cases rr
    obtain ⟨t, rfl⟩ := r
    exact call_range_1 (range_it I1 (by omega) (by omega) q1 q2 (by simpa using q))
def tFor (wi : TI) (g : TG) (tb : TS) : TS := fun D σ H => wi σ H fun J H1 => ∃ W : Nat → Nat → St → Hp → Prop, (∃ m, W 0 m σ H1) ∧ ∀ i m σ H, W i m σ H →
  (J.stop i H ∧ D.nx σ H) ∨ (J.go i H ∧ ∃ N : St → Hp → Prop, (∀ σ' H', N σ' H' → ∃ m', m' < m ∧ W (i + 1) m' σ' H') ∧ ∀ x H', J.yld i H x H' → g x σ H' fun σ2 H2 => tb { D with nx := N, ct := N, bk := D.nx } σ2 H2)
def pinsAt (fp : List Addr) (h : Heap) : List (Addr × Obj) := fp.filterMap fun b => (h.get? b).map fun o => (b, o)
theorem mem_pinsAt {fp : List Addr} {h : Heap} {b : Addr} {o : Obj} (hb : b ∈ fp) (e : h.get? b = some o) : (b, o) ∈ pinsAt fp h := List.mem_filterMap.mpr ⟨b, hb, by rw [e]; rfl⟩
theorem of_pinsAt {fp : List Addr} {h : Heap} {p : Addr × Obj} (hp : p ∈ pinsAt fp h) : p.1 ∈ fp ∧ h.get? p.1 = some p.2 := by
  obtain ⟨b, hb, e⟩ := List.mem_filterMap.mp hp
  cases q : h.get? b with
  | none => rw [q] at e; cases e
  | some o =>
    rw [q] at e
    have e' : (b, o) = p := Option.some.inj e
    subst e'
    exact ⟨hb, q⟩
theorem Inv.pinned {pins : List (Addr × Obj)} {σ : St} {H : Hp} {s : Shared} {fp : List Addr} (I : Inv X pins σ H s) (hf : ∀ b ∈ fp, FpOk X pins H b) (ho : ∀ b ∈ fp, ∃ o, s.heap.get? b = some o ∧ ∀ v, o.data ≠ .cell v) : Inv X (pins ++ pinsAt fp s.heap) σ H s :=
  I.pins_of fun p hp => (List.mem_append.mp hp).elim (fun z => I.pin p (List.mem_append_right _ z)) fun z => by
    obtain ⟨hb, e⟩ := of_pinsAt z
    obtain ⟨f0, f1, f2, _⟩ := hf p.1 hb
    obtain ⟨o, e', d⟩ := ho p.1 hb
    rw [e] at e'; cases e'
    exact ⟨e, f0, f1, f2, d⟩
theorem Inv.unpinned {pins pl : List (Addr × Obj)} {σ : St} {H : Hp} {s : Shared} (I : Inv X (pins ++ pl) σ H s) : Inv X pins σ H s := I.pins_of fun p hp => I.pin p (List.mem_append_right _ (List.mem_append_left _ hp))
theorem ps_for {iter : Expr} {body : List Stmt} {wi : TI} {g : TG} {tb : TS} {pos : Pos} (hp : PassesOwn (model X.prog X.w) X.A X.env X.xe) (hc : X.calm = true) (hi : PI X tg iter wi) (hg : PG X tg g) (hb : PSs X body tb)
    (hs : ∀ x, foldedSetIterable iter X.env x = pure x := by intro _; rfl) : PS X (.For tg iter body [] pos) (tFor wi g tb) := by
  intro pins s σ H D I h
  refine wpAny_For (thn (hi pins s σ H _ I h) fun v s1 h1 => thn h1 fun itv s2 h2 => ?_) hs
  obtain ⟨it, fp, tn, J, H2, e, I2, T, st2, f2, W, ⟨m0, w0⟩, turn⟩ := h2
  subst e
  have stat : ∀ {H' : Hp}, (∀ b ∈ fp, H' b = none) → ∀ b ∈ fp, FpOk X pins H' b := fun hn b hb => ⟨hn b hb, (f2 b hb).2⟩
  refine codeAny_forLoop_any (fun n s' => ∃ i σ' H', Inv X pins σ' H' s' ∧ tn i s'.heap ∧ (∀ b ∈ fp, H' b = none) ∧ W i n σ' H') ?_ m0 ⟨0, σ, H2, I2, st2, fun b hb => (f2 b hb).1, w0⟩
  rintro n s3 ⟨i, σ3, H3, I3, st3, fr3, w3⟩
  rcases turn i n σ3 H3 w3 with ⟨stop, qn⟩ | ⟨go, N, hN, step⟩
  · refine wpAny_passesOwn hp (thn (T.done X rfl rfl rfl hc i pins s3 σ3 H3 X.xe I3 (stat fr3) st3 stop) fun r s4 ⟨hr, I4⟩ => ?_)
    subst hr
    exact wpAny_execs_nil ⟨σ3, H3, I4, qn⟩
  · refine wpAny_passesOwn hp (thn (T.item X rfl rfl rfl hc i pins s3 σ3 H3 X.xe I3 (stat fr3) st3 go) fun r s4 ⟨u, hr, h4⟩ => ?_)
    subst hr
    refine wpAny_passesOwn hp (thn h4 fun _ s5 ⟨x, H5, I5, r5, y5, st5, fr5⟩ => ?_)
    have I5' := I5.pinned (stat fr5) (T.obj _ _ st5)
    refine wpAny_passesOwn hp (thn (hg _ s5 σ3 H5 x u _ I5' r5 (step x H5 y5)) fun _ s6 ⟨σ6, H6, I6, q6⟩ => ?_)
    refine wpAny_passesOwn hp (thn (hb _ s6 σ6 H6 _ I6 q6) fun f s7 q7 => ?_)
    have again : ∀ {σ7 : St} {H7 : Hp}, Inv X (pins ++ pinsAt fp s5.heap) σ7 H7 s7 → N σ7 H7 → ∃ m, m < n ∧ ∃ i σ' H', Inv X pins σ' H' s7 ∧ tn i s7.heap ∧ (∀ b ∈ fp, H' b = none) ∧ W i m σ' H' := fun {σ7 H7} I7 n7 => by
      obtain ⟨m', hm, w7⟩ := hN σ7 H7 n7
      refine ⟨m', hm, i + 1, σ7, H7, I7.unpinned, T.keep _ _ _ st5 fun b hb o e => (I7.pin (b, o) (List.mem_append_right _ (List.mem_append_right _ (mem_pinsAt hb e)))).1, fun b hb => ?_, w7⟩
      obtain ⟨o, e, d⟩ := T.obj _ _ st5 b hb
      exact (I7.pin (b, o) (List.mem_append_right _ (List.mem_append_right _ (mem_pinsAt hb e)))).2.1
    cases f with
    | next => obtain ⟨σ7, H7, I7, n7⟩ := q7; exact again I7 n7
    | cont => obtain ⟨σ7, H7, I7, n7⟩ := q7; exact again I7 n7
    | brk => obtain ⟨σ7, H7, I7, q7⟩ := q7; exact ⟨σ7, H7, I7.unpinned, q7⟩
    | ret v => obtain ⟨x7, σ7, H7, I7, r7, q7⟩ := q7; exact ⟨x7, σ7, H7, I7.unpinned, r7, q7⟩
end
theorem for_list {K : PySem.W.Frag} {a : Addr} {xs : List V} {g : TG} {tb : TS} {D : Ends} {σ : St} {H : Hp} (Pv : Nat → St → Hp → Prop) (h0 : Pv 0 σ H) (hl : ∀ i σ H, i ≤ xs.length → Pv i σ H → SqL K H a xs)
    (hs : ∀ i x σ H, xs[i]? = some x → Pv i σ H → g x σ H fun σ2 H2 => tb { D with nx := Pv (i + 1), ct := Pv (i + 1), bk := D.nx } σ2 H2) (hd : ∀ σ H, Pv xs.length σ H → D.nx σ H) :
    ∃ W : Nat → Nat → St → Hp → Prop, (∃ m, W 0 m σ H) ∧ ∀ i m σ H, W i m σ H →
      ((Itl K a).stop i H ∧ D.nx σ H) ∨ ((Itl K a).go i H ∧ ∃ N : St → Hp → Prop, (∀ σ' H', N σ' H' → ∃ m', m' < m ∧ W (i + 1) m' σ' H') ∧ ∀ x H', (Itl K a).yld i H x H' → g x σ H' fun σ2 H2 => tb { D with nx := N, ct := N, bk := D.nx } σ2 H2) := by
  refine ⟨fun i m σ H => m = xs.length - i ∧ i ≤ xs.length ∧ Pv i σ H, ⟨xs.length, by simp, Nat.zero_le _, h0⟩, ?_⟩
  rintro i m σ H ⟨rfl, hi, p⟩
  have q := hl i σ H hi p
  by_cases hlt : i < xs.length
  · refine .inr ⟨⟨xs, xs[i], q, by simp [hlt]⟩, Pv (i + 1), fun σ' H' p' => ⟨xs.length - (i + 1), by omega, rfl, hlt, p'⟩, fun x H' y => ?_⟩
    obtain ⟨e, y⟩ := y
    subst e
    exact hs i x σ _ (y xs q) p
  · have e : i = xs.length := by omega
    subst e
    exact .inl ⟨⟨xs, q, Nat.le_refl _⟩, hd σ H p⟩
theorem for_range {lo : Int} {n : Nat} {g : TG} {tb : TS} {D : Ends} {σ : St} {H : Hp} (Pv : Nat → St → Hp → Prop) (h0 : Pv 0 σ H)
    (hs : ∀ i σ H, i < n → Pv i σ H → g (.int (lo + i)) σ H fun σ2 H2 => tb { D with nx := Pv (i + 1), ct := Pv (i + 1), bk := D.nx } σ2 H2) (hd : ∀ σ H, Pv n σ H → D.nx σ H) :
    ∃ W : Nat → Nat → St → Hp → Prop, (∃ m, W 0 m σ H) ∧ ∀ i m σ H, W i m σ H →
      ((Itr lo n).stop i H ∧ D.nx σ H) ∨ ((Itr lo n).go i H ∧ ∃ N : St → Hp → Prop, (∀ σ' H', N σ' H' → ∃ m', m' < m ∧ W (i + 1) m' σ' H') ∧ ∀ x H', (Itr lo n).yld i H x H' → g x σ H' fun σ2 H2 => tb { D with nx := N, ct := N, bk := D.nx } σ2 H2) := by
  refine ⟨fun i m σ H => m = n - i ∧ i ≤ n ∧ Pv i σ H, ⟨n, by simp, Nat.zero_le _, h0⟩, ?_⟩
  rintro i m σ H ⟨rfl, hi, p⟩
  by_cases hlt : i < n
  · refine .inr ⟨hlt, Pv (i + 1), fun σ' H' p' => ⟨n - (i + 1), by omega, rfl, hlt, p'⟩, fun x H' y => ?_⟩
    obtain ⟨e, y⟩ := y
    subst e y
    exact hs i σ _ hlt p
  · have e : i = n := by omega
    subst e
    exact .inl ⟨Nat.le_refl _, hd σ H p⟩
end L2
namespace L2
open PySem PySem.Spec PyProof.Rows
abbrev R2 := V → V → Hp → VK → Prop
def OpR (X : Cx) (f : Value → Value → Sem Value) (r : R2) : Prop :=
  ∀ (pins : List (Addr × Obj)) (s : Shared) (σ : St) (H : Hp) (x y : V) (v u : Value) (Q : VK), Inv X pins σ H s → RelV x v → RelV y u → r x y H Q →
    wpAny (model X.prog X.w) X.A (f v u) (EP X pins σ Q) X.xe s
def UnR (X : Cx) (f : Value → Sem Value) (r : V → Hp → VK → Prop) : Prop :=
  ∀ (pins : List (Addr × Obj)) (s : Shared) (σ : St) (H : Hp) (x : V) (v : Value) (Q : VK), Inv X pins σ H s → RelV x v → r x H Q →
    wpAny (model X.prog X.w) X.A (f v) (EP X pins σ Q) X.xe s
def CallR (X : Cx) (f : Value) (r : List V → Hp → VK → Prop) : Prop :=
  ∀ (pins : List (Addr × Obj)) (s : Shared) (σ : St) (H : Hp) (xs : List V) (us : List Value) (Q : VK), Inv X pins σ H s → Vals xs us → r xs H Q →
    wpAny (model X.prog X.w) X.A (call f us) (EP X pins σ Q) X.xe s
def tOp (r : R2) (ta tb : TE) : TE := fun σ H Q => ta σ H fun x H1 => tb σ H1 fun y H2 => r x y H2 Q
def tUn (r : V → Hp → VK → Prop) (ta : TE) : TE := fun σ H Q => ta σ H fun x H1 => r x H1 Q
def rI (C : Int → Int → Prop) (g : Int → Int → V) : R2 := fun x y H Q => ∃ i j, x = .int i ∧ y = .int j ∧ C i j ∧ Q (g i j) H
def rI0 (g : Int → Int → V) : R2 := fun x y H Q => ∃ i j, x = .int i ∧ y = .int j ∧ Q (g i j) H
def rU (g : Int → V) : V → Hp → VK → Prop := fun x H Q => ∃ i, x = .int i ∧ Q (g i) H
section
variable {X : Cx} {a b c : Expr} {ta tb tc : TE} {pos : Pos}
theorem binT (ha : PE X a ta) (hb : PE X b tb) {pins : List (Addr × Obj)} {s : Shared} {σ : St} {H : Hp} {R : V → V → Hp → Prop} (I : Inv X pins σ H s)
    (h : ta σ H fun x H1 => tb σ H1 fun y H2 => R x y H2) {Q : Value → Shared → Prop} {f : Value → Value → Sem Value}
    (hf : ∀ v u s2 x y H2, Inv X pins σ H2 s2 → RelV x v → RelV y u → R x y H2 → wpAny (model X.prog X.w) X.A (f v u) Q X.xe s2) :
    wpAny (model X.prog X.w) X.A (eval a X.env) (fun v s₁ => wpAny (model X.prog X.w) X.A (eval b X.env) (fun u s₂ => wpAny (model X.prog X.w) X.A (f v u) Q X.xe s₂) X.xe s₁) X.xe s := by
  refine thn (ha pins s σ H _ I h) fun v s1 ⟨x, H1, I1, r1, q1⟩ => ?_
  refine thn (hb pins s1 σ H1 _ I1 q1) fun u s2 ⟨y, H2, I2, r2, q2⟩ => ?_
  exact hf v u s2 x y H2 I2 r1 r2 q2
theorem pe_op {op : Operator} {r : R2} (ho : OpR X (binaryOp op) r) (ha : PE X a ta) (hb : PE X b tb) : PE X (.BinOp a op b pos) (tOp r ta tb) := by
  intro pins s σ H Q I h
  exact wpAny_BinOp (binT ha hb I h fun v u s2 x y H2 I2 rx ry q => ho pins s2 σ H2 x y v u Q I2 rx ry q)
theorem pe_un {op : UnaryOp} {r : V → Hp → VK → Prop} (ho : UnR X (unaryOp op) r) (ha : PE X a ta) : PE X (.UnaryOp op a pos) (tUn r ta) := by
  intro pins s σ H Q I h
  exact UnaryOp_ (thn (ha pins s σ H _ I h) fun v s1 ⟨x, H1, I1, r1, q1⟩ => ho pins s1 σ H1 x v Q I1 r1 q1)
theorem opI {f : Value → Value → Sem Value} {C : Int → Int → Prop} {g : Int → Int → Int}
    (rule : ∀ (i j : Int) (t u : Tok) (s : Shared) (Q : Value → Shared → Prop) (E : Value → Shared → Prop), C i j → Q (.int (g i j) s.toks) { s with toks := s.toks + 1 } → wpAny (model X.prog X.w) X.A (f (.int i t) (.int j u)) Q E s) :
    OpR X f (rI C fun i j => .int (g i j)) := by
  intro pins s σ H x y v u Q I rx ry h
  obtain ⟨i, j, rfl, rfl, hc, q⟩ := h
  obtain ⟨t, rfl⟩ := rx
  obtain ⟨t', rfl⟩ := ry
  exact rule i j t t' s _ _ hc ⟨.int (g i j), H, I.tok _, ⟨_, rfl⟩, q⟩
theorem opI0 {f : Value → Value → Sem Value} {g : Int → Int → Int}
    (rule : ∀ (i j : Int) (t u : Tok) (s : Shared) (Q : Value → Shared → Prop) (E : Value → Shared → Prop), Q (.int (g i j) s.toks) { s with toks := s.toks + 1 } → wpAny (model X.prog X.w) X.A (f (.int i t) (.int j u)) Q E s) :
    OpR X f (rI0 fun i j => .int (g i j)) := by
  intro pins s σ H x y v u Q I rx ry h
  obtain ⟨i, j, rfl, rfl, q⟩ := h
  obtain ⟨t, rfl⟩ := rx
  obtain ⟨t', rfl⟩ := ry
  exact rule i j t t' s _ _ ⟨.int (g i j), H, I.tok _, ⟨_, rfl⟩, q⟩
theorem opB0 {f : Value → Value → Sem Value} {g : Int → Int → Bool}
    (rule : ∀ (i j : Int) (t u : Tok) (s : Shared) (Q : Value → Shared → Prop) (E : Value → Shared → Prop), Q (.bool (g i j)) s → wpAny (model X.prog X.w) X.A (f (.int i t) (.int j u)) Q E s) :
    OpR X f (rI0 fun i j => .bl (g i j)) := by
  intro pins s σ H x y v u Q I rx ry h
  obtain ⟨i, j, rfl, rfl, q⟩ := h
  obtain ⟨t, rfl⟩ := rx
  obtain ⟨t', rfl⟩ := ry
  exact rule i j t t' s _ _ ⟨.bl (g i j), H, I, rfl, q⟩
def CDiv (i j : Int) : Prop := 0 < j ∧ j < 1073741824
def CPow (i j : Int) : Prop := 0 ≤ j ∧ j ≤ 1000000 ∧ i.natAbs < 2 ^ 64
def CMul (i j : Int) : Prop := (-(2 ^ 64) < i ∧ i < 2 ^ 64) ∨ (-(2 ^ 64) < j ∧ j < 2 ^ 64)
theorem CMul.ok {i j : Int} (h : CMul i j) : IntMulOk i j := by
  rcases h with ⟨h1, h2⟩ | ⟨h1, h2⟩
  · exact .of_left (intBits_le_64 h1 h2)
  · exact .of_right (intBits_le_64 h1 h2)
theorem op_add : OpR X (binaryOp .Add) (rI0 fun i j => .int (i + j)) := opI0 fun _ _ _ _ _ _ _ q => add_int q
theorem op_sub : OpR X (binaryOp .Sub) (rI0 fun i j => .int (i - j)) := opI0 fun _ _ _ _ _ _ _ q => sub_int q
theorem op_mul : OpR X (binaryOp .Mult) (rI CMul fun i j => .int (i * j)) := opI fun _ _ _ _ _ _ _ hc q => mul_int q hc.ok
theorem op_fdiv : OpR X (binaryOp .FloorDiv) (rI CDiv fun i j => .int (i / j)) := opI fun i j _ _ _ _ _ hc q => by
  have h1 : (0 : Int) < j := hc.1
  have h2 : j < 1073741824 := hc.2
  exact floordiv_int (by omega) (by rw [Int.fdiv_eq_ediv_of_nonneg i (by omega)]; exact q) (.inl (PyProof.noPylong_small (by omega)))
theorem op_mod : OpR X (binaryOp .Mod) (rI (fun _ j => 0 < j) fun i j => .int (i % j)) := opI fun i j _ _ _ _ _ hc q => by
  have h1 : (0 : Int) < j := hc
  exact mod_int' (by omega) (by rw [Int.fmod_eq_emod_of_nonneg i (by omega)]; exact q)
theorem op_pow : OpR X (binaryOp .Pow) (rI CPow fun i j => .int (i ^ j.toNat)) := opI fun _ _ _ _ _ _ _ hc q => pow_int_small hc.1 hc.2.1 hc.2.2 q
theorem unI {f : Value → Sem Value} {g : Int → Int}
    (rule : ∀ (i : Int) (t : Tok) (s : Shared) (Q : Value → Shared → Prop) (E : Value → Shared → Prop), Q (.int (g i) s.toks) { s with toks := s.toks + 1 } → wpAny (model X.prog X.w) X.A (f (.int i t)) Q E s) :
    UnR X f (rU fun i => .int (g i)) := by
  intro pins s σ H x v Q I rx h
  obtain ⟨i, rfl, q⟩ := h
  obtain ⟨t, rfl⟩ := rx
  exact rule i t s _ _ ⟨.int (g i), H, I.tok _, ⟨_, rfl⟩, q⟩
theorem un_neg : UnR X (unaryOp .USub) (rU fun i => .int (-i)) := unI fun _ _ _ _ _ q => neg_int q
end
def scal : V → V → Bool
  | .non, .non => true | .non, .int _ => true | .int _, .non => true | .non, .bl _ => true | .bl _, .non => true | .non, .str _ => true | .str _, .non => true
  | .int _, .int _ => true | .bl _, .bl _ => true | .str _, .str _ => true | .byt _, .byt _ => true
  | .int _, .str _ => true | .str _, .int _ => true | .bl _, .str _ => true | .str _, .bl _ => true
  | _, _ => false
def rEq : R2 := fun x y H Q => scal x y = true ∧ Q (.bl (decide (x = y))) H
def rNe : R2 := fun x y H Q => scal x y = true ∧ Q (.bl (!decide (x = y))) H
theorem dec_int {i j : Int} : decide (V.int i = V.int j) = (i == j) := by
  rw [Bool.eq_iff_iff]
  simp
theorem dec_bl {i j : Bool} : decide (V.bl i = V.bl j) = (i == j) := by
  rw [Bool.eq_iff_iff]
  simp
theorem dec_str {i j : Str} : decide (V.str i = V.str j) = (i == j) := by
  rw [Bool.eq_iff_iff]
  simp
theorem dec_byt {i j : Array UInt8} : decide (V.byt i = V.byt j) = (i.toList == j.toList) := by
  rw [Bool.eq_iff_iff]
  cases i
  cases j
  simp
section
variable {X : Cx} {a b c : Expr} {ta tb tc : TE} {pos : Pos}
theorem fin_bl {pins : List (Addr × Obj)} {σ : St} {H : Hp} {s : Shared} {Q : VK} {k k' : Bool} (I : Inv X pins σ H s) (q : Q (.bl k) H) (e : k = k') : EP X pins σ Q (.bool k') s := by
  subst e
  exact ⟨.bl k, H, I, rfl, q⟩
theorem op_eq : OpR X (compareOp .Eq) rEq := by
  intro pins s σ H x y v u Q I rx ry h
  obtain ⟨hs, q⟩ := h
  cases x with
  | non =>
    cases rx
    cases y with
    | non => cases ry; exact PySem.EqNone.eq_none_none (fin_bl I q (by simp))
    | bl j => cases ry; exact PySem.EqNone.eq_none_bool (fin_bl I q (by simp))
    | int j => obtain ⟨t', rfl⟩ := ry; exact PySem.EqNone.eq_none_int (fin_bl I q (by simp))
    | str j => obtain ⟨t', rfl⟩ := ry; exact PySem.EqNone.eq_none_str (fin_bl I q (by simp))
    | _ => exact absurd (show false = true from hs) Bool.false_ne_true
  | bl i =>
    cases rx
    cases y with
    | non => cases ry; exact PySem.EqNone.eq_bool_none (fin_bl I q (by simp))
    | bl j => cases ry; exact eq_bool (fin_bl I q dec_bl)
    | str j => obtain ⟨t', rfl⟩ := ry; exact PySem.EqMixed.eq_bool_str (fin_bl I q (by simp))
    | _ => exact absurd (show false = true from hs) Bool.false_ne_true
  | int i =>
    obtain ⟨t, rfl⟩ := rx
    cases y with
    | non => cases ry; exact PySem.EqNone.eq_int_none (fin_bl I q (by simp))
    | int j => obtain ⟨t', rfl⟩ := ry; exact eq_int (fin_bl I q dec_int)
    | str j => obtain ⟨t', rfl⟩ := ry; exact PySem.EqMixed.eq_int_str (fin_bl I q (by simp))
    | _ => exact absurd (show false = true from hs) Bool.false_ne_true
  | str i =>
    obtain ⟨t, rfl⟩ := rx
    cases y with
    | non => cases ry; exact PySem.EqNone.eq_str_none (fin_bl I q (by simp))
    | bl j => cases ry; exact PySem.EqMixed.eq_str_bool (fin_bl I q (by simp))
    | int j => obtain ⟨t', rfl⟩ := ry; exact PySem.EqMixed.eq_str_int (fin_bl I q (by simp))
    | str j => obtain ⟨t', rfl⟩ := ry; exact eq_str (fin_bl I q dec_str)
    | _ => exact absurd (show false = true from hs) Bool.false_ne_true
  | byt i =>
    obtain ⟨t, rfl⟩ := rx
    cases y with
    | byt j => obtain ⟨t', rfl⟩ := ry; exact PySem.W.eq_bytes (fin_bl I q dec_byt)
    | _ => exact absurd (show false = true from hs) Bool.false_ne_true
  | _ => cases y <;> exact absurd (show false = true from hs) Bool.false_ne_true
theorem op_ne : OpR X (compareOp .NotEq) rNe := by
  intro pins s σ H x y v u Q I rx ry h
  obtain ⟨hs, q⟩ := h
  cases x with
  | non =>
    cases rx
    cases y with
    | non => cases ry; exact PySem.EqNone.ne_none_none (fin_bl I q (by simp))
    | bl j => cases ry; exact PySem.EqNone.ne_none_bool (fin_bl I q (by simp))
    | int j => obtain ⟨t', rfl⟩ := ry; exact PySem.EqNone.ne_none_int (fin_bl I q (by simp))
    | str j => obtain ⟨t', rfl⟩ := ry; exact PySem.EqNone.ne_none_str (fin_bl I q (by simp))
    | _ => exact absurd (show false = true from hs) Bool.false_ne_true
  | bl i =>
    cases rx
    cases y with
    | non => cases ry; exact PySem.EqNone.ne_bool_none (fin_bl I q (by simp))
    | bl j => cases ry; exact ne_bool (fin_bl I q (congrArg not dec_bl))
    | str j => obtain ⟨t', rfl⟩ := ry; exact PySem.EqMixed.ne_bool_str (fin_bl I q (by simp))
    | _ => exact absurd (show false = true from hs) Bool.false_ne_true
  | int i =>
    obtain ⟨t, rfl⟩ := rx
    cases y with
    | non => cases ry; exact PySem.EqNone.ne_int_none (fin_bl I q (by simp))
    | int j => obtain ⟨t', rfl⟩ := ry; exact ne_int (fin_bl I q (congrArg not dec_int))
    | str j => obtain ⟨t', rfl⟩ := ry; exact PySem.EqMixed.ne_int_str (fin_bl I q (by simp))
    | _ => exact absurd (show false = true from hs) Bool.false_ne_true
  | str i =>
    obtain ⟨t, rfl⟩ := rx
    cases y with
    | non => cases ry; exact PySem.EqNone.ne_str_none (fin_bl I q (by simp))
    | bl j => cases ry; exact PySem.EqMixed.ne_str_bool (fin_bl I q (by simp))
    | int j => obtain ⟨t', rfl⟩ := ry; exact PySem.EqMixed.ne_str_int (fin_bl I q (by simp))
    | str j => obtain ⟨t', rfl⟩ := ry; exact ne_str (fin_bl I q (congrArg not dec_str))
    | _ => exact absurd (show false = true from hs) Bool.false_ne_true
  | byt i =>
    obtain ⟨t, rfl⟩ := rx
    cases y with
    | byt j => obtain ⟨t', rfl⟩ := ry; exact PySem.W.ne_bytes (fin_bl I q (congrArg not dec_byt))
    | _ => exact absurd (show false = true from hs) Bool.false_ne_true
  | _ => cases y <;> exact absurd (show false = true from hs) Bool.false_ne_true
theorem op_lt : OpR X (compareOp .Lt) (rI0 fun i j => .bl (decide (i < j))) := opB0 fun _ _ _ _ _ _ _ q => lt_int q
theorem op_le : OpR X (compareOp .LtE) (rI0 fun i j => .bl (decide (i ≤ j))) := opB0 fun _ _ _ _ _ _ _ q => le_int q
theorem op_gt : OpR X (compareOp .Gt) (rI0 fun i j => .bl (decide (j < i))) := opB0 fun _ _ _ _ _ _ _ q => gt_int q
theorem op_ge : OpR X (compareOp .GtE) (rI0 fun i j => .bl (decide (j ≤ i))) := opB0 fun _ _ _ _ _ _ _ q => ge_int q
theorem op_notin_str : OpR X (compareOp .NotIn) (fun x y H Q => ∃ i j, x = .str i ∧ y = .str j ∧ Q (.bl (!(!(Builtin.Str.occurrences j i 0 j.length 1).isEmpty))) H) := by
  intro pins s σ H x y v u Q I rx ry h
  obtain ⟨i, j, rfl, rfl, q⟩ := h
  obtain ⟨t, rfl⟩ := rx
  obtain ⟨t', rfl⟩ := ry
  exact notIn_str (fin_bl I q rfl)
theorem nomark (b : Expr) {op : CmpOp} (h : op ≠ .In := by decide) (h2 : op ≠ .NotIn := by decide) : behindInMarks op b = false := by
  have e1 : (op == CmpOp.In) = false := by cases op <;> first | rfl | exact absurd rfl h
  have e2 : (op == CmpOp.NotIn) = false := by cases op <;> first | rfl | exact absurd rfl h2
  cases b <;> simp [behindInMarks, e1, e2]
theorem pe_cmpR {op : CmpOp} {r : R2} (ho : OpR X (compareOp op) r) (ha : PE X a ta) (hb : PE X b tb) (hm : behindInMarks op b = false) : PE X (.Compare a [op] [b] pos) (tOp r ta tb) := by
  intro pins s σ H Q I h
  exact wpAny_Compare1 (binT ha hb I h fun v u s2 x y H2 I2 rx ry q => ho pins s2 σ H2 x y v u Q I2 rx ry q) hm
def tTest (t : TE) : TT := fun σ H Q => t σ H fun x H' => ∃ k, x = .bl k ∧ Q k H'
theorem pt_cmpR {op : CmpOp} {r : R2} (ho : OpR X (compareOp op) r) (ha : PE X a ta) (hb : PE X b tb) (hm : behindInMarks op b = false) : PT X (.Compare a [op] [b] pos) (tTest (tOp r ta tb)) := by
  intro pins s σ H Q I h
  refine wpAny_isTrue_Compare1 (thn (ha pins s σ H _ I h) fun v s1 ⟨x, H1, I1, r1, q1⟩ => thn (hb pins s1 σ H1 _ I1 q1) fun u s2 ⟨y, H2, I2, r2, q2⟩ =>
    thn (ho pins s2 σ H2 x y v u _ I2 r1 r2 q2) fun c s3 ⟨z, H3, I3, r3, k, e, q3⟩ => ?_) hm
  subst e
  cases r3
  exact wpAny_truthy_bool ⟨H3, I3, q3⟩
def tChain (r r' : R2) (ta tb tc : TE) : TE := fun σ H Q => ta σ H fun x H1 => tb σ H1 fun y H2 => r x y H2 fun z H3 => ∃ k, z = .bl k ∧
  (if k = true then tc σ H3 fun w' H4 => r' y w' H4 Q else Q (.bl false) H3)
theorem pt_chain {op op' : CmpOp} {r r' : R2} (ho : OpR X (compareOp op) r) (ho' : OpR X (compareOp op') r') (ha : PE X a ta) (hb : PE X b tb) (hc : PE X c tc)
    (hm : lastMarks [op, op'] [b, c] = false := by with_unfolding_all rfl) : PT X (.Compare a [op, op'] [b, c] pos) (tTest (tChain r r' ta tb tc)) := by
  intro pins s σ H Q I h
  refine isTrue_chain (thn (ha pins s σ H _ I h) fun v s1 ⟨x, H1, I1, r1, q1⟩ => test_link (thn (hb pins s1 σ H1 _ I1 q1) fun u s2 ⟨y, H2, I2, r2, q2⟩ =>
    thn (ho pins s2 σ H2 x y v u _ I2 r1 r2 q2) fun d s3 ⟨z, H3, I3, r3, k, e, q3⟩ => ?_)) hm
  subst e
  cases r3
  refine wpAny_truthy_bool ?_
  cases k with
  | false =>
    obtain ⟨k', e', q'⟩ := q3
    cases e'
    exact ite_ff ⟨H3, I3, q'⟩
  | true =>
    refine ite_tt (test_last (thn (hc pins s3 σ H3 _ I3 q3) fun w' s4 ⟨z', H4, I4, r4, q4⟩ => thn (ho' pins s4 σ H4 y z' u w' _ I4 r2 r4 q4) fun d' s5 ⟨z2, H5, I5, r5, k2, e2, q5⟩ => ?_))
    subst e2
    cases r5
    exact wpAny_truthy_bool ⟨H5, I5, q5⟩
theorem line63 : (sizeLine : Nat) < 2 ^ 63 := by rw [sizeLine_eq]; decide
theorem op_add_str : OpR X (binaryOp .Add) (fun x y H Q => ∃ i j, x = .str i ∧ y = .str j ∧ i.length + j.length ≤ sizeLine ∧ Q (.str (i ++ j)) H) := by
  intro pins s σ H x y v u Q I rx ry h
  obtain ⟨i, j, rfl, rfl, hz, q⟩ := h
  obtain ⟨t, rfl⟩ := rx
  obtain ⟨t', rfl⟩ := ry
  exact add_str (fun t' tk => ⟨.str (i ++ j), H, I.tok _, ⟨_, rfl⟩, q⟩) hz
theorem vals1 {x : V} {us : List Value} (r : Vals [x] us) : ∃ u, us = [u] ∧ RelV x u := by
  cases r with
  | cons r1 r2 => cases r2; exact ⟨_, rfl, r1⟩
theorem vals2 {x y : V} {us : List Value} (r : Vals [x, y] us) : ∃ u w', us = [u, w'] ∧ RelV x u ∧ RelV y w' := by
  cases r with
  | cons r1 r2 =>
    cases r2 with
    | cons r3 r4 => cases r4; exact ⟨_, _, rfl, r1, r3⟩
theorem call_max2 (hc : X.calm = true) : CallR X (.builtin "max") (fun xs H Q => ∃ i j, xs = [.int i, .int j] ∧ Q (.int (if j > i then j else i)) H) := by
  intro pins s σ H xs us Q I r h
  obtain ⟨i, j, rfl, q⟩ := h
  obtain ⟨u, w', rfl, ⟨t, rfl⟩, ⟨t', rfl⟩⟩ := vals2 r
  refine max_two_ints (I.ok.hd hc) fun h' tk k => ⟨_, H, I.kept k, ?_, q⟩
  by_cases hj : j > i
  · rw [if_pos hj, if_pos hj]; exact ⟨_, rfl⟩
  · rw [if_neg hj, if_neg hj]; exact ⟨_, rfl⟩
theorem call_min2 (hc : X.calm = true) : CallR X (.builtin "min") (fun xs H Q => ∃ i j, xs = [.int i, .int j] ∧ Q (.int (if j < i then j else i)) H) := by
  intro pins s σ H xs us Q I r h
  obtain ⟨i, j, rfl, q⟩ := h
  obtain ⟨u, w', rfl, ⟨t, rfl⟩, ⟨t', rfl⟩⟩ := vals2 r
  refine min_two_ints (I.ok.hd hc) fun h' tk k => ⟨_, H, I.kept k, ?_, q⟩
  by_cases hj : j < i
  · rw [if_pos hj, if_pos hj]; exact ⟨_, rfl⟩
  · rw [if_neg hj, if_neg hj]; exact ⟨_, rfl⟩
theorem call_int1 : CallR X (.type "int") (fun xs H Q => (∃ i, xs = [.int i] ∧ Q (.int i) H) ∨ ∃ k, xs = [.bl k] ∧ Q (.int (if k then 1 else 0)) H) := by
  intro pins s σ H xs us Q I r h
  rcases h with ⟨i, rfl, q⟩ | ⟨k, rfl, q⟩
  · obtain ⟨u, rfl, t, rfl⟩ := vals1 r
    exact call_int_int ⟨.int i, H, I, ⟨_, rfl⟩, q⟩
  · obtain ⟨u, rfl, r1⟩ := vals1 r
    cases r1
    exact call_int_bool ⟨.int (if k then 1 else 0), H, I.tok _, ⟨_, rfl⟩, q⟩
theorem call_str_int : CallR X (.type "str") (fun xs H Q => ∃ i, xs = [.int i] ∧ i.natAbs.log2 < 1920 ∧ Q (.str (toString i)) H) := by
  intro pins s σ H xs us Q I r h
  obtain ⟨i, rfl, hz, q⟩ := h
  obtain ⟨u, rfl, t, rfl⟩ := vals1 r
  exact PySem.P.str_of_int hz ⟨.str _, H, I.tok _, ⟨_, rfl⟩, q⟩
end
end L2
namespace L2
open PySem PySem.Spec PyProof.Rows
structure ObjM (h : Heap) (x dx C : Addr) (mA : Str → Option Value) : Prop where
  obj : h.get? x = some (PySem.W.instObj C dx)
  ns : h.Ns1 dx mA
  ne : dx ≠ x
theorem lookIn_ns {h : Heap} {dx : Addr} {mA : Str → Option Value} (n : h.Ns1 dx mA) : ∃ od, h.get? dx = some od ∧ ∀ name, PySem.W.lookIn name od = some (mA name) := by
  obtain ⟨o, es, ep, ho, hd, hk, _, hm⟩ := n
  refine ⟨o, ho, fun name => ?_⟩
  have e := hm name
  unfold nsFind findBy at e
  rw [← Array.find?_toList] at e
  unfold PySem.W.lookIn
  rw [hd]
  dsimp only
  split
  · rename_i y q
    rw [q] at e
    exact congrArg some e
  · rename_i q
    rw [q] at e
    have a : es.toList.any (·.refKey) = false := by
      rw [List.any_eq_false]
      intro y hy
      obtain ⟨z, t, hkey⟩ := hk y (Array.mem_toList_iff.mp hy)
      simp [DictEntry.refKey, hkey]
    have a' : ¬ es.toList.any (·.refKey) = true := by rw [a]; exact Bool.false_ne_true
    rw [if_neg a']
    exact congrArg some e
theorem ObjM.look {h : Heap} {x dx C : Addr} {mA : Str → Option Value} (I : ObjM h x dx C mA) : ∃ od, PySem.W.InstAt h x (PySem.W.instObj C dx) C (some od) ∧ ∀ name, PySem.W.lookIn name od = some (mA name) :=
  let ⟨od, ho, hl⟩ := lookIn_ns I.ns
  ⟨od, ⟨I.obj, rfl, rfl, ho⟩, hl⟩
section
variable {prog : Program} {w : World} {A : Around} {E : Value → Shared → Prop} {s : Shared} {K : PySem.W.Frag} {x dx C f : Addr} {mA : Str → Option Value} {name : Str} {v : Value}
theorem set_map {ns : List Str} {Q : Unit → Shared → Prop} (X : K.In s.heap) (I : ObjM s.heap x dx C mA)
    (hs : PySem.W.findIn K (.ref C) "__setattr__" = some (some (.builtin "object.__setattr__"))) (hp : PySem.W.plainOver K C = true) (ht : PySem.W.takerIn K C name = some none) (hh : PySem.W.hasDictIn K C = true)
    (hw : PySem.Within mA ns) (hsz : ns.length ≤ sizeLine)
    (h : ∀ h', ObjM h' x dx C (fun y => if y = name then some v else mA y) → Heap.SameBut dx s.heap h' → Q () { s with heap := h', toks := s.toks + 2 }) :
    wpAny (model prog w) A (setAttr (.ref x) name v) Q E s := by
  obtain ⟨od, J, hl⟩ := I.look
  refine PySem.W.set_plain X J hs (PySem.W.osa_open (s := { s with toks := s.toks + 1 }) (r := none) X J hp ht fun b => ?_)
  obtain ⟨cd, hc, hd'⟩ := PySem.W.any_some hh
  have hx : s.heap.get? x = some ⟨.ref C, some dx, .plain, #[]⟩ := I.obj
  refine wpAny_bind (wpAny_pure (wpAny_bind (wpAny_bind (wpAny_loadPart hx (wpAny_bind (PySem.W.Looks.here (s := { s with toks := s.toks + 1 }) (PySem.W.looks_clsIn X hc) ?_))))))
  rw [hd']
  refine wpAny_pure (a := some dx) (wpAny_bind (wpAny_pure (wpAny_bind ?_)))
  refine wpAny_nsSet1 (s := { s with toks := s.toks + 1 }) I.ns fun h' hn2 hs2 => ?_
  obtain ⟨oD, esD, epD, hoD, hdD, hcD⟩ := hn2.count (PySem.Within.cons name v hw)
  refine wpAny_bind (wpAny_lookBehind hoD (by rw [hdD]; exact pastItsLine_dict (Nat.le_trans hcD (by rw [List.length_cons]; omega))) ?_)
  exact wpAny_pure (h _ ⟨(hs2.2 _ (Ne.symm I.ne)).trans I.obj, hn2, I.ne⟩ hs2)
theorem make_map {R : Result → Shared → Prop} {vs : List Value} {kw : List (Str × Value)} (X : K.In s.heap) (hm : PySem.W.makesIn K C = true)
    (hi : PySem.W.findIn K (.ref C) "__init__" = some (some (.ref f))) (hf : PySem.W.typeIn K (.ref f) = some (.type "function"))
    (h : codeAny (model prog w) (A.under (.builtin "type.__call__" ⟨.ref C :: vs, kw⟩)) (.call (.ref f) ⟨.ref (s.heap.objs.size + 1) :: vs, kw⟩) (PySem.W.InitBack (s.heap.objs.size + 1) R)
      { s with heap := (s.heap.push PySem.W.emptyDict).push (PySem.W.instObj C s.heap.objs.size) }) :
    codeAny (model prog w) A (.call (.ref C) ⟨vs, kw⟩) R s := by
  obtain ⟨hh, g, d, t, os⟩ := s
  exact PySem.W.make_core (PySem.W.makes_of X hm) (PySem.W.looks_findIn X hi) (fun self => PySem.W.bind_fn X self hf) (.inl rfl) h
end
def putF (f : Str) (v : V) : List (Str × V) → List (Str × V)
  | [] => [(f, v)]
  | (g, x) :: r => if g = f then (g, v) :: r else (g, x) :: putF f v r
theorem lookup_putF (f g : Str) (v : V) : ∀ fs : List (Str × V), (putF f v fs).lookup g = if g = f then some v else fs.lookup g
  | [] => by
    show List.lookup g [(f, v)] = _
    by_cases h : g = f
    · have hb : (g == f) = true := beq_iff_eq.mpr h
      simp only [List.lookup, hb, if_pos h]
    · have hb : (g == f) = false := beq_eq_false_iff_ne.mpr h
      simp only [List.lookup, hb, if_neg h]
  | (k, x) :: r => by
    have ih := lookup_putF f g v r
    rw [show putF f v ((k, x) :: r) = (if k = f then (k, v) :: r else (k, x) :: putF f v r) from rfl]
    by_cases hk : k = f
    · rw [if_pos hk]
      by_cases h : g = k
      · have hb : (g == k) = true := beq_iff_eq.mpr h
        simp only [List.lookup, hb, if_pos (h.trans hk)]
      · have hb : (g == k) = false := beq_eq_false_iff_ne.mpr h
        simp only [List.lookup, hb, if_neg (fun e : g = f => h (e.trans hk.symm))]
    · rw [if_neg hk]
      by_cases h : g = k
      · have hb : (g == k) = true := beq_iff_eq.mpr h
        simp only [List.lookup, hb, if_neg (fun e : g = f => hk (h.symm.trans e))]
      · have hb : (g == k) = false := beq_eq_false_iff_ne.mpr h
        simp only [List.lookup, hb]
        exact ih
theorem keys_putF (f : Str) (v : V) : ∀ fs : List (Str × V), f ∈ (putF f v fs).map (·.1) ∧ ∀ g, g ∈ fs.map (·.1) → g ∈ (putF f v fs).map (·.1)
  | [] => ⟨by simp [putF], fun g h => by simp at h⟩
  | (k, x) :: r => by
    obtain ⟨i1, i2⟩ := keys_putF f v r
    rw [show putF f v ((k, x) :: r) = (if k = f then (k, v) :: r else (k, x) :: putF f v r) from rfl]
    by_cases hk : k = f
    · rw [if_pos hk]
      subst hk
      exact ⟨by simp, fun g h => by simpa using h⟩
    · rw [if_neg hk]
      refine ⟨?_, fun g h => ?_⟩
      · rw [List.map_cons]
        exact List.mem_cons_of_mem _ i1
      · rw [List.map_cons] at h ⊢
        rcases List.mem_cons.mp h with e | e
        · exact List.mem_cons.mpr (.inl e)
        · exact List.mem_cons_of_mem _ (i2 g e)
theorem length_putF (f : Str) (v : V) : ∀ fs : List (Str × V), (putF f v fs).length ≤ fs.length + 1
  | [] => by simp [putF]
  | (k, x) :: r => by
    have ih := length_putF f v r
    rw [show putF f v ((k, x) :: r) = (if k = f then (k, v) :: r else (k, x) :: putF f v r) from rfl]
    by_cases hk : k = f
    · rw [if_pos hk, List.length_cons, List.length_cons]; omega
    · rw [if_neg hk, List.length_cons, List.length_cons]; omega
theorem RelO.some_of {v : V} {o : Option Value} (r : RelO (some v) o) : ∃ u, o = some u ∧ RelV v u := by
  cases o with
  | none => exact (show False from r).elim
  | some u => exact ⟨u, rfl, r⟩
theorem handed_of {v : V} {u : Value} (r : RelV v u) : PySem.W.handedIn u = true := by
  cases v with
  | non => cases (show u = Value.none from r); rfl
  | bl b => cases (show u = Value.bool b from r); rfl
  | int i => obtain ⟨t, e⟩ := (show ∃ t, u = Value.int i t from r); cases e; rfl
  | str x => obtain ⟨t, e⟩ := (show ∃ t, u = Value.str x t from r); cases e; rfl
  | byt b => obtain ⟨t, e⟩ := (show ∃ t, u = Value.bytes b t from r); cases e; rfl
  | flt b => obtain ⟨t, e⟩ := (show ∃ t, u = Value.float b t from r); cases e; rfl
  | ref a => cases (show u = Value.ref a from r); rfl
  | ty n => cases (show u = Value.type n from r); rfl
section
variable {P : Program} {w : World} {H H' : Hp} {h h' : Heap} {a C dx : Addr} {fs fs' : List (Str × V)}
theorem ins_get (hok : HOk P w H h) (e : H a = some (.ins C dx fs)) : ∃ mA, ObjM h a dx C mA ∧ (∀ f, RelO (fs.lookup f) (mA f)) ∧ PySem.Within mA (fs.map (·.1)) ∧ fs.length ≤ 1000 ∧ H dx = some (.own a) := by
  obtain ⟨d, z, ne, ob, mA, n, r, q⟩ := (show ObjOk P w H h a (.ins C dx fs) from hok a _ e)
  exact ⟨mA, ⟨ob, n, ne⟩, r, q, z, d⟩
end
structure Cls (K : PySem.W.Frag) (C : Addr) : Prop where
  pg : PySem.W.plainGet K C Str.empty = true
  hd : PySem.W.hasDictIn K C = true
  po : PySem.W.plainOver K C = true
  sa : PySem.W.findIn K (.ref C) "__setattr__" = some (some (.builtin "object.__setattr__"))
theorem Cls.get {K : PySem.W.Frag} {C : Addr} (c : Cls K C) (f : Str) : PySem.W.plainGet K C f = true := c.pg
def NoAttr (K : PySem.W.Frag) (C : Addr) (f : Str) : Prop := PySem.W.findIn K (.ref C) f = some none
theorem NoAttr.taker {K : PySem.W.Frag} {C : Addr} {f : Str} (n : NoAttr K C f) : PySem.W.takerIn K C f = some none := by
  unfold PySem.W.takerIn
  rw [show PySem.W.findIn K (.ref C) f = some none from n]
  rfl
section
variable {X : Cx} {pins : List (Addr × Obj)} {σ : St} {H : Hp} {s : Shared} {a C dx : Addr} {fs : List (Str × V)} {f : Str} {v : V} {A : Around} {E : Value → Shared → Prop}
theorem setattr_ok {y : V} {u : Value} {Q : Unit → Shared → Prop} (I : Inv X pins σ H s) (e : H a = some (.ins C dx fs)) (c : Cls X.K C) (n : NoAttr X.K C f) (hl : fs.length < 1000) (ry : RelV y u)
    (h : ∀ s', Inv X pins σ (upd H a (.ins C dx (putF f y fs))) s' → Q () s') : wpAny (model X.prog X.w) A (setAttr (.ref a) f u) Q E s := by
  obtain ⟨mA, O, r, wi, _, ho⟩ := ins_get I.hok e
  have hz : (fs.map (·.1)).length ≤ sizeLine := by rw [List.length_map, sizeLine_eq]; omega
  refine set_map I.kIn O c.sa c.po n.taker c.hd wi hz fun h' O' sb => h _ ?_
  have hd : ∃ o, h'.get? dx = some o := let ⟨o, _, _, e', _⟩ := O'.ns; ⟨o, e'⟩
  refine I.write (x := a) (e := dx) (by rw [e]; exact True.intro) (.inr ho) (fun b q hb z => (sb.2 b hb).trans z) hd ?_
  refine ⟨by rw [upd_ne O.ne]; exact ho, ?_, O.ne, O'.obj, _, O'.ns, fun g => ?_, fun g hg => ?_⟩
  · have := length_putF f y fs; omega
  · show RelO ((putF f y fs).lookup g) (if g = f then some u else mA g)
    rw [lookup_putF]
    by_cases q : g = f
    · rw [if_pos q, if_pos q]; exact ry
    · rw [if_neg q, if_neg q]; exact r g
  · by_cases q : g = f
    · rw [q]; exact (keys_putF f y fs).1
    · refine (keys_putF f y fs).2 g (wi g fun z => hg ?_)
      show (if g = f then some u else mA g) = none
      rw [if_neg q]; exact z
theorem Inv.made (I : Inv X pins σ H s) : Inv X pins σ (upd (upd H s.heap.objs.size (.own (s.heap.objs.size + 1))) (s.heap.objs.size + 1) (.ins C s.heap.objs.size []))
    { s with heap := (s.heap.push PySem.W.emptyDict).push (PySem.W.instObj C s.heap.objs.size) } := by
  have e1 : (s.heap.push PySem.W.emptyDict).get? s.heap.objs.size = some PySem.W.emptyDict := Heap.get?_push_size s.heap rfl
  have e2 : ((s.heap.push PySem.W.emptyDict).push (PySem.W.instObj C s.heap.objs.size)).get? (s.heap.objs.size + 1) = some (PySem.W.instObj C s.heap.objs.size) := by
    have := Heap.get?_push_size (s.heap.push PySem.W.emptyDict) (o := PySem.W.instObj C s.heap.objs.size) rfl
    rwa [Heap.size_push] at this
  have e3 : (s.heap.push PySem.W.emptyDict).Ns s.heap.objs.size (fun _ => none) := ⟨PySem.W.emptyDict, #[], _, e1, rfl, (fun e he => absurd he (by simp)), fun _ => rfl⟩
  have I1 := I.laid (a := s.heap.objs.size) (o := .own (s.heap.objs.size + 1)) (h' := s.heap.push PySem.W.emptyDict) (t' := s.toks) (fun b u q => Heap.get?_push_of_some _ q) (Nat.le_refl _) ⟨_, e1⟩
  refine I1.laid (a := s.heap.objs.size + 1) (o := .ins C s.heap.objs.size []) (t' := s.toks) (fun b u q => Heap.get?_push_of_some _ q) (Nat.le_of_eq (Heap.size_push _ _)) ?_
  have ne : s.heap.objs.size ≠ s.heap.objs.size + 1 := Nat.ne_of_lt (Nat.lt_succ_self _)
  refine ⟨by rw [upd_ne ne, upd_same], Nat.zero_le _, ne, e2, fun _ => none, (Heap.Ns1.of_empty e3).at fun o q => Heap.get?_push_of_some _ q, fun _ => True.intro, fun y hy => absurd rfl hy⟩
theorem attr_of {prog : Program} {w : World} {env : Env} {e : Expr} {f : Str} {pos : Pos} {s : Shared} {Q : Value → Shared → Prop} (hb : attributeBase e f env (eval e env) = eval e env)
    (h : wpAny (model prog w) A (eval e env) (fun o s₁ => wpAny (model prog w) A (getAttr o f true) Q E s₁) E s) : wpAny (model prog w) A (eval (.Attribute e f pos) env) Q E s :=
  Attribute_any_ h (by rw [arm_eval_Attribute, hb])
end
def sFld (K : PySem.W.Frag) (ta tv : TE) (f : Str) : TS := fun D σ H => tv σ H fun y H1 => ta σ H1 fun x H2 => ∃ a C dx fs, x = .ref a ∧ H2 a = some (.ins C dx fs) ∧ Cls K C ∧ NoAttr K C f ∧ fs.length < 1000 ∧
  D.nx σ (upd H2 a (.ins C dx (putF f y fs)))
section
variable {X : Cx} {o e value : Expr} {f : Str} {pos pos' tpos : Pos} {ta tv : TE}
theorem ps_fld (ha : PE X o ta) (hv : PE X value tv) (hs : swapsWith value (some (.Attribute o f pos')) pos.line X.env = pure false) : PS X (.Assign [.Attribute o f pos'] value pos) (sFld X.K ta tv f) := by
  intro pins s σ H D I h
  refine plainObj_wpAny_Assign_Attribute (thn (hv pins s σ H _ I h) fun u s1 ⟨y, H1, I1, ry, q⟩ => thn (ha pins s1 σ H1 _ I1 q) fun ov s2 ⟨x, H2, I2, rx, a, C, dx, fs, ex, ea, c, n, l, q2⟩ => ?_) hs
  subst ex
  obtain rfl : ov = Value.ref a := rx
  exact setattr_ok I2 ea c n l ry fun s3 I3 => ⟨σ, _, I3, q2⟩
end
section
variable {X : Cx} {pins : List (Addr × Obj)} {σ : St} {H : Hp} {s : Shared} {A : Around} {E : Value → Shared → Prop} {Q : Value → Shared → Prop} {c : Value} {b : Bool}
inductive TyOf (K : PySem.W.Frag) (H : Hp) : V → Value → Prop where
  | non : TyOf K H .non (.type "NoneType")
  | bl (x : Bool) : TyOf K H (.bl x) (.type "bool")
  | int (i : Int) : TyOf K H (.int i) (.type "int")
  | str (x : Str) : TyOf K H (.str x) (.type "str")
  | flt (x : UInt64) : TyOf K H (.flt x) (.type "float")
  | lst {a : Addr} {xs : List V} (e : H a = some (.lst xs)) : TyOf K H (.ref a) (.type "list")
  | frz {a : Addr} {o : Obj} {xs : List V} (e : H a = some (.frz o (.lst xs))) : TyOf K H (.ref a) (.type "list")
  | tup {a : Addr} {xs : List V} (e : H a = some (.tup xs)) : TyOf K H (.ref a) (.type "tuple")
  | dK {a : Addr} {kvs : List (Key × V)} (e : H a = some (.dK kvs)) : TyOf K H (.ref a) (.type "dict")
  | dT {a : Addr} {kvs : List (List Key × V)} (e : H a = some (.dT kvs)) : TyOf K H (.ref a) (.type "dict")
  | ins {a C dx : Addr} {fs : List (Str × V)} (e : H a = some (.ins C dx fs)) (cl : Cls K C) (ha : PySem.W.findIn K (.ref C) "__class__" = some (some (.builtin "object.__class__")))
      (hn : PySem.W.specialIn K (.builtin "object.__class__") "__get__" = some (some (.builtin "getset_descriptor.__get__"))) (htk : PySem.W.takesIn K (.builtin "object.__class__") = some true)
      (hm : PySem.W.mroIn K C (.type "object") = some true) : TyOf K H (.ref a) (.ref C)
theorem isinst_ok {x : V} {u t : Value} (I : Inv X pins σ H s) (rx : RelV x u) (ty : TyOf X.K H x t) (e : PySem.W.kitOne X.K t c = some b) (h : ∀ tk, Q (.bool b) { s with toks := tk }) :
    wpAny (model X.prog X.w) A (call (.builtin "isinstance") [u, c]) Q E s := by
  cases ty with
  | non => cases (show u = Value.none from rx); exact PySem.W.kia_one PySem.W.kitx_none I.kIn True.intro e (fun z => nomatch z) h
  | bl y => cases (show u = Value.bool y from rx); exact PySem.W.kia_one PySem.W.kitx_bool I.kIn True.intro e (fun z => nomatch z) h
  | int i => obtain ⟨t, q⟩ := (show ∃ t, u = Value.int i t from rx); cases q; exact PySem.W.kia_one PySem.W.kitx_int I.kIn True.intro e (fun z => nomatch z) h
  | str y => obtain ⟨t, q⟩ := (show ∃ t, u = Value.str y t from rx); cases q; exact PySem.W.kia_one PySem.W.kitx_str I.kIn True.intro e (fun z => nomatch z) h
  | flt y => obtain ⟨t, q⟩ := (show ∃ t, u = Value.float y t from rx); cases q; exact PySem.W.kia_one PySem.W.kitx_float I.kIn True.intro e (fun z => nomatch z) h
  | @lst a xs ea =>
    cases (show u = Value.ref a from rx)
    obtain ⟨_, _, n, _, h1⟩ := (show ObjOk X.prog X.w H s.heap a (.lst xs) from I.hok a _ ea)
    exact PySem.W.kia_one PySem.W.kitx_list I.kIn ⟨_, h1, rfl⟩ e (fun z => nomatch z) h
  | @frz a ob xs ea =>
    cases (show u = Value.ref a from rx)
    obtain ⟨_, _, _, n, _, h1⟩ := (show ObjOk X.prog X.w H s.heap a (.frz ob (.lst xs)) from I.hok a _ ea)
    exact PySem.W.kia_one PySem.W.kitx_list I.kIn ⟨_, h1, rfl⟩ e (fun z => nomatch z) h
  | @tup a xs ea =>
    cases (show u = Value.ref a from rx)
    obtain ⟨_, _, _, p⟩ := (show ObjOk X.prog X.w H s.heap a (.tup xs) from I.hok a _ ea)
    obtain ⟨o, h1, h2, _⟩ := p
    exact PySem.W.kia_one PySem.W.kitx_tuple I.kIn ⟨o, h1, h2⟩ e (fun z => nomatch z) h
  | @dK a kvs ea =>
    cases (show u = Value.ref a from rx)
    obtain ⟨_, _, vs, _, p⟩ := (show ObjOk X.prog X.w H s.heap a (.dK kvs) from I.hok a _ ea)
    obtain ⟨o, es, ep, h1, h2, _⟩ := p
    exact PySem.W.kia_one PySem.W.kitx_dict I.kIn ⟨o, h1, h2.1⟩ e (fun z => nomatch z) h
  | @dT a kvs ea =>
    cases (show u = Value.ref a from rx)
    obtain ⟨_, _, xs, _, o, es, ep, h1, h2, _⟩ := (show ObjOk X.prog X.w H s.heap a (.dT kvs) from I.hok a _ ea)
    exact PySem.W.kia_one PySem.W.kitx_dict I.kIn ⟨o, h1, h2.1⟩ e (fun z => nomatch z) h
  | @ins a C dx fs ea cl ha hn htk hm =>
    cases (show u = Value.ref a from rx)
    obtain ⟨mA, O, _⟩ := ins_get I.hok ea
    obtain ⟨od, J, _⟩ := O.look
    exact PySem.W.kia_one (PySem.W.kitx_own (cl.get _) cl.hd ha hn htk hm) I.kIn J e (fun z => nomatch z) h
end
end L2
namespace L2
open PySem PySem.Spec PyProof.Rows
structure Room (k : Nat) (A : Around) : Prop where
  hd : A.handled = none
  dp : A.depth + 3 * k + 5 < recursionLimit
  un : A.units + 16 * k + 200 < cLine
  gd : A.guards = some []
theorem Room.mono {j k : Nat} {A : Around} (r : Room k A) (h : j ≤ k) : Room j A := ⟨r.hd, by have := r.dp; omega, by have := r.un; omega, r.gd⟩
theorem Room.deeper {k : Nat} {A : Around} (r : Room (k + 1) A) (env : Env) : Room k (A.deeper env) :=
  ⟨r.hd, by have := r.dp; show A.depth + 1 + 3 * k + 5 < _; omega, by have := r.un; show A.units + 3 + 16 * k + 200 < _; omega, r.gd⟩
theorem make_depth {A : Around} {C : Addr} {us : List Value} {kw : List (Str × Value)} : (A.under (.builtin "type.__call__" ⟨.ref C :: us, kw⟩)).depth = A.depth + 1 := by
  first | rfl | simp [Around.under, Code.weight, Code.isCreation, Code.isGuard, Code.isCaller, Code.frames, Code.isFrame, guardIds]
theorem make_units {A : Around} {C : Addr} {us : List Value} {kw : List (Str × Value)} : (A.under (.builtin "type.__call__" ⟨.ref C :: us, kw⟩)).units = A.units + 1 := by
  first | rfl | simp [Around.under, Code.cUnits, Code.frames, Code.isFrame]
theorem Room.make {k : Nat} {A : Around} (r : Room (k + 1) A) (C : Addr) (us : List Value) (kw : List (Str × Value)) : Room k (A.under (.builtin "type.__call__" ⟨.ref C :: us, kw⟩)) :=
  ⟨r.hd, by have := r.dp; rw [make_depth]; omega, by have := r.un; rw [make_units]; omega, by have h := r.gd; first | (simp only [Around.under]; rw [h]; rfl) | simp [Around.under, h, pushGuards, Code.guards, Code.isGuard, guardIds]⟩
theorem Room.depth {k : Nat} {A : Around} (r : Room k A) : A.depth < recursionLimit := by have := r.dp; omega
theorem Room.units {k : Nat} {A : Around} (r : Room k A) : A.units + 64 < cLine := by have := r.un; omega
theorem Room.units0 {k : Nat} {A : Around} (r : Room k A) : A.units < cLine := by have := r.un; omega
def tNil : TA := fun _ H Q => Q [] H
def tCons (ta : TE) (tr : TA) : TA := fun σ H Q => ta σ H fun x H1 => tr σ H1 fun xs H2 => Q (x :: xs) H2
section
variable {X : Cx} {e : Expr} {es : List Expr} {te : TE} {t : TA} {pos : Pos}
theorem pa_nil : PA X [] tNil := fun _ _ _ _ H Q I h => Calls.spliced_nil ⟨[], H, I, .nil, h⟩
theorem pa_cons (ha : PE X e te) (hr : PA X es t) (hs : starEach (e :: es) X.env = (false, eval e X.env) :: starEach es X.env := by rfl) : PA X (e :: es) (tCons te t) := by
  intro pos pins s σ H Q I h
  rw [hs]
  show wpAny _ _ (spliced ((false, eval e X.env) :: backTo pos (starEach es X.env))) _ _ s
  refine Calls.spliced_cons (thn (ha pins s σ H _ I h) fun u s1 ⟨x, H1, I1, r1, q1⟩ => ?_)
  exact thn (hr pos pins s1 σ H1 _ I1 q1) fun us s2 ⟨xs, H2, I2, r2, q2⟩ => ⟨x :: xs, H2, I2, .cons r1 r2, q2⟩
def tTup (t : TA) : TE := fun σ H Q => t σ H fun xs H1 => xs.length ≤ sizeLine ∧ ∀ p, H1 p = none → Q (.ref p) (upd H1 p (.tup xs))
def tLst (t : TA) : TE := fun σ H Q => t σ H fun xs H1 => xs.length ≤ sizeLine ∧ ∀ p, H1 p = none → Q (.ref p) (upd H1 p (.lst xs))
theorem pe_tup {x1} (h : PA X es t) : PE X (.Tuple es x1 pos) (tTup t) := by
  intro pins s σ H Q I hq
  refine wpAny_Tuple_spliced (thn (h pos pins s σ H _ I hq) fun us s1 ⟨xs, H1, I1, r, z, q⟩ => ⟨by rw [← r.length]; exact z, ?_⟩)
  have hf : H1 s1.heap.objs.size = none := I1.hok.fresh (Nat.le_refl _)
  refine ⟨.ref s1.heap.objs.size, upd H1 s1.heap.objs.size (.tup xs), I1.laid (t' := s1.toks) (fun b u e => Heap.get?_push_of_some _ e) (Nat.le_refl _) ?_, rfl, q _ hf⟩
  exact ⟨z, us, r, ⟨_, Heap.get?_push_size _ rfl, rfl, _, rfl⟩⟩
theorem pe_lst (h : PA X es t) : PE X (.List es pos) (tLst t) := by
  intro pins s σ H Q I hq
  refine wpAny_List_spliced (thn (h pos pins s σ H _ I hq) fun us s1 ⟨xs, H1, I1, r, z, q⟩ => ⟨by rw [← r.length]; exact z, ?_⟩)
  have hf : H1 s1.heap.objs.size = none := I1.hok.fresh (Nat.le_refl _)
  refine ⟨.ref s1.heap.objs.size, upd H1 s1.heap.objs.size (.lst xs), I1.laid (t' := s1.toks) (fun b u e => Heap.get?_push_of_some _ e) (Nat.le_refl _) ?_, rfl, q _ hf⟩
  exact ⟨z, us, 0, r, Heap.get?_push_size _ rfl⟩
end
abbrev Sp := List V → Hp → VK → XK → Prop
abbrev CXT := List Env → Hp → Shared → XK → Value → Shared → Prop
structure Env0 (P : Program) (w : World) (K : PySem.W.Frag) (mg : Str → Option Value) (base : Heap) (A : Around) (outer : List Env) (s : Shared) (H : Hp) : Prop where
  frames : A.frames = some outer
  mod : Mod K mg base
  bs : ∀ b o, base.get? b = some o → s.heap.get? b = some o ∧ H b = none
  bsz : base.objs.size ≤ s.heap.objs.size
  funs : s.heap.FunFrames base outer
  frf : ∀ b ∈ frs outer, H b = none
  hok : HOk P w H s.heap
  bare : AllBare s.gens
def CE (outer : List Env) (P : Program) (w : World) (H : Hp) (s : Shared) (Q : VK) (u : Value) (s' : Shared) : Prop :=
  ∃ v H', s'.os = s.os ∧ AllBare s'.gens ∧ Un (frs outer) [] H H' s.heap s'.heap ∧ HOk P w H' s'.heap ∧ RelV v u ∧ Q v H'
def CR (CX : CXT) (outer : List Env) (P : Program) (w : World) (H : Hp) (s : Shared) (Q : VK) (E : XK) (r : Result) (s' : Shared) : Prop :=
  match r with
  | .ok (.ret u) => CE outer P w H s Q u s'
  | .ok _ => False
  | .error e => CX outer H s E e s'
structure FnOk (P : Program) (w : World) (K : PySem.W.Frag) (mg : Str → Option Value) (base : Heap) (CX : CXT) (k : Nat) (f : Addr) (fd : FuncData) (ps : List Str) (sp : Sp) : Prop where
  len : ∀ vs H Q E, sp vs H Q E → vs.length = ps.length
  run : ∀ (A : Around) (outer : List Env) (s : Shared) (H : Hp) (args : Args) (us : List Value) (vs : List V) (Q : VK) (E : XK), Room k A → Env0 P w K mg base A outer s H → BindsTo s fd args (ps.zip us) → Vals vs us → sp vs H Q E →
    codeAny (model P w) A (.call (.ref f) args) (CR CX outer P w H s Q E) s
theorem Env0.make {P : Program} {w : World} {K : PySem.W.Frag} {mg : Str → Option Value} {base : Heap} {A : Around} {outer : List Env} {s : Shared} {H : Hp} (e : Env0 P w K mg base A outer s H) (C : Addr) (us : List Value) (kw : List (Str × Value)) :
    Env0 P w K mg base (A.under (.builtin "type.__call__" ⟨.ref C :: us, kw⟩)) outer s H := ⟨by first | exact e.frames | (simpa [Around.under, Code.envs, Code.isFrame, pushEnvs] using e.frames), e.mod, e.bs, e.bsz, e.funs, e.frf, e.hok, e.bare⟩
section
variable {X : Cx} {pins : List (Addr × Obj)} {σ : St} {H : Hp} {s s' : Shared}
theorem Inv.env0 (I : Inv X pins σ H s) : Env0 X.prog X.w X.K X.mg X.base X.A X.stack s H :=
  ⟨I.ok.frames, I.ok.mod, I.bs, Nat.le_trans I.ok.bsz I.sz, I.stack, I.stkFree, I.hok, I.bare⟩
theorem Inv.after {Q : VK} {u : Value} (I : Inv X pins σ H s) (h : CE X.stack X.prog X.w H s Q u s') : EP X pins σ Q u s' := by
  obtain ⟨v, H', os, bare, un, hok, r, q⟩ := h
  obtain ⟨hh, g, d, t, os'⟩ := s'
  obtain rfl : os' = s.os := os
  exact ⟨v, H', I.call (h' := hh) (g' := g) (d' := d) (t' := t) (ch := []) un hok bare (fun b z => absurd z (by simp)), r, q⟩
end
def tCall (sp : Sp) (dvs : List V) (E : XK) (t : TA) : TE := fun σ H Q => t σ H fun vs H1 => sp (vs ++ dvs) H1 Q E
def tMake (C : Addr) (sp : Sp) (dvs : List V) (E : XK) (t : TA) : TE := fun σ H Q => t σ H fun vs H1 => ∀ x dx, H1 x = none → H1 dx = none → dx ≠ x →
  sp (.ref x :: (vs ++ dvs)) (upd (upd H1 dx (.own x)) x (.ins C dx [])) (fun v H2 => v = .non ∧ Q (.ref x) H2) E
def Binds (K : PySem.W.Frag) (fd : FuncData) (ps : List Str) (ds : List Value) : Prop :=
  ∀ (s : Shared) (us : List Value), K.In s.heap → (us ++ ds).length = ps.length → BindsTo s fd ⟨us, []⟩ (ps.zip (us ++ ds))
theorem Binds.all {K : PySem.W.Frag} {fd : FuncData} {ps : List Str} (h : ∀ us : List Value, us.length = ps.length → bindArgs fd ⟨us, []⟩ = pure (ps.zip us)) : Binds K fd ps [] := fun s us _ hl => by
  rw [List.append_nil] at hl ⊢
  exact .of_eq (h us hl)
def Passes (CX : CXT) (X : Cx) (E : XK) : Prop := ∀ (pins : List (Addr × Obj)) (σ : St) (H : Hp) (s : Shared) (e : Value) (s' : Shared), Inv X pins σ H s → CX X.stack H s E e s' → X.xe e s'
section
variable {X : Cx} {CX : CXT} {k : Nat} {f C : Addr} {fd : FuncData} {ps : List Str} {sp : Sp} {dvs : List V} {ds : List Value} {E : XK} {x m : Str} {p pos apos : Pos} {e o : Expr} {es : List Expr} {ta : TE} {t : TA}
theorem run_fn {pins : List (Addr × Obj)} {σ : St} {H : Hp} {s : Shared} {Q : VK} {us : List Value} {vs : List V} (F : FnOk X.prog X.w X.K X.mg X.base CX k f fd ps sp) (hr : Room k X.A) (hb : Binds X.K fd ps ds) (hd : Vals dvs ds) (hx : Passes CX X E)
    (I : Inv X pins σ H s) (r : Vals vs us) (h : sp (vs ++ dvs) H Q E) : wpAny (model X.prog X.w) X.A (call (.ref f) us) (EP X pins σ Q) X.xe s := by
  have r2 : Vals (vs ++ dvs) (us ++ ds) := r.append hd
  have hl : (us ++ ds).length = ps.length := by rw [← r2.length]; exact F.len _ _ _ _ h
  refine wpAny_call (codeAny_mono (F.run X.A X.stack s H ⟨us, []⟩ (us ++ ds) (vs ++ dvs) Q E hr I.env0 (hb s us I.kIn hl) r2 h) fun r s' hq => ?_)
  cases r with
  | error e => exact hx pins σ H s e s' I hq
  | ok fl =>
    cases fl with
    | ret u => exact I.after hq
    | next => exact False.elim hq
    | brk => exact False.elim hq
    | cont => exact False.elim hq
theorem pe_call (F : FnOk X.prog X.w X.K X.mg X.base CX k f fd ps sp) (hr : Room k X.A) (hg : Gl X x) (hm : X.mg x = some (.ref f)) (hk : PySem.W.keepIn X.K (.ref f) = true) (hb : Binds X.K fd ps ds) (hd : Vals dvs ds) (hx : Passes CX X E)
    (ha : PA X (e :: es) t) (hdb : (x == ("__debug__" : Str)) = false := by decide) (he : starEach (e :: es) X.env = (false, eval e X.env) :: starEach es X.env := by rfl) (hpl : (backTo pos (starEach es X.env)).any (·.1) = false := by rfl) :
    PE X (.Call (.Name x p) (e :: es) [] pos) (tCall sp dvs E t) := by
  intro pins s σ H Q I h
  refine wpAny_Call_Name_kw (ld_glob I hg hm ?_ hdb)
  refine PySem.W.callWith_K (h₀ := X.base) I.ok.mod.kin hk (thn (ha pos pins s σ H _ I h) fun us s1 ⟨vs, H1, I1, r, q⟩ => ⟨I1.kIn, ?_⟩) he hpl
  exact run_fn F hr hb hd hx I1 r q
structure Mk (K : PySem.W.Frag) (C f : Addr) : Prop where
  makes : PySem.W.makesIn K C = true
  init : PySem.W.findIn K (.ref C) "__init__" = some (some (.ref f))
  fn : PySem.W.isFn K (.ref f) = true
  kp : PySem.W.keepIn K (.ref C) = true
theorem run_make {pins : List (Addr × Obj)} {σ : St} {H : Hp} {s : Shared} {Q : VK} {us : List Value} {vs : List V} (M : Mk X.K C f) (F : FnOk X.prog X.w X.K X.mg X.base CX k f fd ps sp) (hr : Room (k + 1) X.A) (hb : Binds X.K fd ps ds) (hd : Vals dvs ds)
    (hx : Passes CX X E) (I : Inv X pins σ H s) (r : Vals vs us)
    (h : ∀ x dx, H x = none → H dx = none → dx ≠ x → sp (.ref x :: (vs ++ dvs)) (upd (upd H dx (.own x)) x (.ins C dx [])) (fun v H2 => v = .non ∧ Q (.ref x) H2) E) :
    wpAny (model X.prog X.w) X.A (call (.ref C) us) (EP X pins σ Q) X.xe s := by
  have hq := h (s.heap.objs.size + 1) s.heap.objs.size (I.hok.fresh (Nat.le_succ _)) (I.hok.fresh (Nat.le_refl _)) (Nat.ne_of_lt (Nat.lt_succ_self _))
  have I2 := Inv.made (C := C) I
  have r2 : Vals (V.ref (s.heap.objs.size + 1) :: (vs ++ dvs)) (Value.ref (s.heap.objs.size + 1) :: (us ++ ds)) := .cons rfl (r.append hd)
  have hl : (Value.ref (s.heap.objs.size + 1) :: us ++ ds).length = ps.length := by
    have e := r2.length
    rw [F.len _ _ _ _ hq] at e
    exact e.symm
  refine wpAny_call (make_map (f := f) I.kIn M.makes M.init (beq_iff_eq.mp M.fn) (codeAny_mono (F.run _ X.stack _ _ ⟨Value.ref (s.heap.objs.size + 1) :: us, []⟩ (Value.ref (s.heap.objs.size + 1) :: (us ++ ds)) _ _ E (hr.make C us [])
    (I2.env0.make C us []) (hb _ (Value.ref (s.heap.objs.size + 1) :: us) I2.kIn hl) r2 hq) fun r s' hq' => ?_))
  cases r with
  | error e => exact hx pins σ _ _ e s' I2 hq'
  | ok fl =>
    cases fl with
    | ret u =>
      obtain ⟨v, H', I3, rv, ev, q3⟩ := I2.after hq'
      subst ev
      exact ⟨rv, ⟨V.ref (s.heap.objs.size + 1), H', I3, rfl, q3⟩⟩
    | next => exact False.elim hq'
    | brk => exact False.elim hq'
    | cont => exact False.elim hq'
theorem pe_make (M : Mk X.K C f) (F : FnOk X.prog X.w X.K X.mg X.base CX k f fd ps sp) (hr : Room (k + 1) X.A) (hg : Gl X x) (hm : X.mg x = some (.ref C)) (hb : Binds X.K fd ps ds) (hd : Vals dvs ds) (hx : Passes CX X E)
    (ha : PA X (e :: es) t) (hdb : (x == ("__debug__" : Str)) = false := by decide) (he : starEach (e :: es) X.env = (false, eval e X.env) :: starEach es X.env := by rfl) (hpl : (backTo pos (starEach es X.env)).any (·.1) = false := by rfl) :
    PE X (.Call (.Name x p) (e :: es) [] pos) (tMake C sp dvs E t) := by
  intro pins s σ H Q I h
  refine wpAny_Call_Name_kw (ld_glob I hg hm ?_ hdb)
  refine PySem.W.callWith_K (h₀ := X.base) I.ok.mod.kin M.kp (thn (ha pos pins s σ H _ I h) fun us s1 ⟨vs, H1, I1, r, q⟩ => ⟨I1.kIn, ?_⟩) he hpl
  exact run_make M F hr hb hd hx I1 r q
theorem pe_make0 (M : Mk X.K C f) (F : FnOk X.prog X.w X.K X.mg X.base CX k f fd ps sp) (hr : Room (k + 1) X.A) (hg : Gl X x) (hm : X.mg x = some (.ref C)) (hb : Binds X.K fd ps ds) (hd : Vals dvs ds) (hx : Passes CX X E)
    (hdb : (x == ("__debug__" : Str)) = false := by decide) : PE X (.Call (.Name x p) [] [] pos) (tMake C sp dvs E tNil) := by
  intro pins s σ H Q I h
  refine wpAny_Call_Name_kw (ld_glob I hg hm ?_ hdb)
  exact PySem.W.callWith_K0 I.kIn M.kp (run_make (us := []) M F hr hb hd hx I .nil h)
end
section
variable {X : Cx} {CX : CXT} {k : Nat} {f C : Addr} {fd : FuncData} {ps ks : List Str} {sp : Sp} {E : XK} {x m : Str} {p pos apos kpos : Pos} {e o : Expr} {es : List Expr} {kws : List Keyword} {te ta : TE} {t tk : TA} {nm : Option Str}
variable {g : List Value → List Value → List Value} {gV : List V → List V → List V}
end
structure FnScope (N P : List Str) (sc : Scope) : Prop where
  kind : sc.kind = .function
  co : sc.isCoroutine = false
  gen : sc.isGenerator = false
  nd : N.Nodup
  pre : N.take P.length = P
  par : ∀ x ∈ P, sc.names.lookup x = some .local ∨ sc.names.lookup x = some .cell
  nofree : ∀ y ∈ sc.names, y.2 ≠ .free
theorem bindL_out {kindOf : Str → Option NameKind} {x : Str} : ∀ {binds : List (Str × Value)} {m : Str → Option Value}, (∀ v, (x, v) ∉ binds) → bindL kindOf binds m x = m x
  | [], _, _ => rfl
  | (n, v) :: r, m, h => by
    unfold bindL
    rw [bindL_out fun w hw => h w (List.mem_cons_of_mem _ hw)]
    split
    · have : x ≠ n := by rintro rfl; exact h v List.mem_cons_self
      simp [this]
    · rfl
theorem bindC_out {kindOf : Str → Option NameKind} {x : Str} : ∀ {binds : List (Str × Value)} {m : Str → Option Value}, (∀ v, (x, v) ∉ binds) → bindC kindOf binds m x = m x
  | [], _, _ => rfl
  | (n, v) :: r, m, h => by
    unfold bindC
    rw [bindC_out fun w hw => h w (List.mem_cons_of_mem _ hw)]
    split
    · rfl
    · have : x ≠ n := by rintro rfl; exact h v List.mem_cons_self
      simp [this]
theorem bindL_get {kindOf : Str → Option NameKind} {x : Str} {v : Value} : ∀ {P : List Str} {vs : List Value} {i : Nat} {m : Str → Option Value}, P.Nodup → P[i]? = some x → vs[i]? = some v → kindOf x = some .local →
    bindL kindOf (P.zip vs) m x = some v
  | [], _, _, _, _, h, _, _ => by simp at h
  | _ :: _, [], _, _, _, _, h, _ => by simp at h
  | p :: P, w :: vs, 0, m, nd, h1, h2, hk => by
    simp at h1 h2; subst h1; subst h2
    show bindL kindOf ((p, w) :: P.zip vs) m p = _
    unfold bindL
    rw [bindL_out fun v hv => (List.nodup_cons.mp nd).1 (List.of_mem_zip hv).1, if_pos hk]
    simp
  | p :: P, w :: vs, i + 1, m, nd, h1, h2, hk => by
    show bindL kindOf ((p, w) :: P.zip vs) m x = _
    unfold bindL
    exact bindL_get (i := i) (List.nodup_cons.mp nd).2 (by simpa using h1) (by simpa using h2) hk
theorem bindC_get {kindOf : Str → Option NameKind} {x : Str} {v : Value} : ∀ {P : List Str} {vs : List Value} {i : Nat} {m : Str → Option Value}, P.Nodup → P[i]? = some x → vs[i]? = some v → kindOf x ≠ some .local →
    bindC kindOf (P.zip vs) m x = some v
  | [], _, _, _, _, h, _, _ => by simp at h
  | _ :: _, [], _, _, _, _, h, _ => by simp at h
  | p :: P, w :: vs, 0, m, nd, h1, h2, hk => by
    simp at h1 h2; subst h1; subst h2
    show bindC kindOf ((p, w) :: P.zip vs) m p = _
    unfold bindC
    rw [bindC_out fun v hv => (List.nodup_cons.mp nd).1 (List.of_mem_zip hv).1, if_neg hk]
    simp
  | p :: P, w :: vs, i + 1, m, nd, h1, h2, hk => by
    show bindC kindOf ((p, w) :: P.zip vs) m x = _
    unfold bindC
    exact bindC_get (i := i) (List.nodup_cons.mp nd).2 (by simpa using h1) (by simpa using h2) hk
def start (N : List Str) (vs : List V) : St := vs.map some ++ List.replicate (N.length - vs.length) none
def cxOf (CX : CXT) (P : Program) (w : World) (K : PySem.W.Frag) (mg : Str → Option Value) (base : Heap) (N : List Str) (qual : Str) (scope : Scope) (f : Addr) (cd : Value) (A : Around) (outer : List Env) (s : Shared) (H : Hp) (E : XK) : Cx where
  prog := P
  w := w
  K := K
  mg := mg
  base := base
  A := A.deeper (envOfC qual scope s.heap.objs.size f cd)
  N := N
  s₀ := s
  H₀ := H
  env := envOfC qual scope s.heap.objs.size f cd
  outer := outer
  stack := envOfC qual scope s.heap.objs.size f cd :: outer
  ex := []
  calm := true
  fn := fun _ => true
  pn := []
  xe := fun e s' => wpAny (model P w) (A.deeper (envOfC qual scope s.heap.objs.size f cd)) (leaving (envOfC qual scope s.heap.objs.size f cd) e) (fun _ s'' => CX outer H s E e s'') (fun e' s'' => CX outer H s E e' s'') s'
theorem cell_has {sc : Scope} {n : Nat} {x : Str} (h : sc.names.lookup x = some .cell) : ∃ c, (cellsFrom n sc.names []).lookup x = some c := by
  have q := PySem.W.cellsFrom_some sc.names n [] (.inl h)
  exact Option.isSome_iff_exists.mp q
theorem inv_start {CX : CXT} {P : Program} {w : World} {K : PySem.W.Frag} {mg : Str → Option Value} {base : Heap} {N ps : List Str} {qual : Str} {scope : Scope} {f : Addr} {cd : Value} {A : Around} {outer : List Env} {s s1 : Shared} {H : Hp} {E : XK} {us : List Value} {vs : List V}
    (S : FnScope N ps scope) (hd : A.handled = none) (e0 : Env0 P w K mg base A outer s H) (hl : vs.length = ps.length) (r : Vals vs us)
    (x : InCallC s s.heap.objs.size (bindL (envOfC qual scope s.heap.objs.size f cd).kindOf (ps.zip us) fun _ => none) (cellsFrom (s.heap.objs.size + 1) scope.names []) (bindC (envOfC qual scope s.heap.objs.size f cd).kindOf (ps.zip us) fun _ => none) s1) :
    Inv (cxOf CX P w K mg base N qual scope f cd A outer s H E) [] (start N vs) H s1 := by
  have hpl : ps.length ≤ N.length := by have := congrArg List.length S.pre; rw [List.length_take] at this; omega
  obtain ⟨h1, tk, rfl, hk⟩ := x.done
  have noA : ∀ b : Addr, b ∉ (cxOf CX P w K mg base N qual scope f cd A outer s H E).ex := fun b z => absurd (show b ∈ ([] : List Addr) from z) (by simp)
  refine ⟨⟨e0.mod, S.kind, rfl, rfl, Nat.le_refl _, fun y z c h1 h2 => ?_, fun y hy => ?_, fun y c _ h => ?_, fun _ => hd, Around.frames_deeper e0.frames, .inr ⟨rfl, rfl⟩, fun b z => absurd z (noA b), e0.bs, e0.bsz, fun b _ _ => noA b, fun b z => absurd z (noA b), e0.funs, e0.frf⟩,
    rfl, e0.bare, Un.kept hk, ⟨_, x.toInCall.ns, fun i y v h1 h2 h3 => ?_⟩, fun y c h => ⟨_, x.cell y c h⟩, e0.hok.fresh (Nat.le_refl _), fun y c h => ?_, fun p hp => absurd (show p ∈ ([] : List (Addr × Obj)) from hp) (by simp), e0.hok.kept hk, ?_⟩
  · exact name_of_addr x.apart (PySem.mem_of_lookup h1) (PySem.mem_of_lookup h2)
  · have hy : scope.names.lookup y = some .cell ∨ scope.names.lookup y = some .free := hy
    rcases hy with hy | hy
    · exact cell_has hy
    · exact absurd rfl (S.nofree _ (PySem.mem_of_lookup hy))
  · exact Nat.le_of_lt (x.above y c (PySem.mem_of_lookup h))
  · have hi : i < vs.length := by
      unfold start at h2
      by_cases hi : i < vs.length
      · exact hi
      · rw [List.getElem?_append_right (by simpa using hi)] at h2
        rw [List.getElem?_replicate] at h2
        split at h2 <;> cases h2
    have ha : vs[i]? = some v := by
      unfold start at h2
      rw [List.getElem?_append_left (by simpa using hi), List.getElem?_map] at h2
      cases e : vs[i]? with
      | none => rw [e] at h2; cases h2
      | some a => rw [e] at h2; cases h2; rfl
    obtain ⟨u, hu, rv⟩ := r.get ha
    have hp : ps[i]? = some y := by
      rw [← S.pre, List.getElem?_take_of_lt (by omega)]; exact h1
    have ndP : ps.Nodup := by rw [← S.pre]; exact S.nd.sublist (List.take_sublist _ _)
    refine ⟨u, rv, ?_⟩
    rcases S.par y (List.mem_of_getElem? hp) with k | k
    · exact .inl ⟨k, bindL_get ndP hp hu k⟩
    · obtain ⟨c, e⟩ := cell_has (n := s.heap.objs.size + 1) k
      refine .inr ⟨.inl k, c, e, ?_⟩
      have q := x.cell y c e
      rw [bindC_get ndP hp hu (by show scope.names.lookup y ≠ _; rw [k]; decide)] at q
      exact q
  · exact e0.hok.fresh (Nat.le_of_lt (x.above y c (PySem.mem_of_lookup h)))
  · unfold start
    show _ = N.length
    rw [List.length_append, List.length_map, List.length_replicate]
    omega
theorem fn_of {CX : CXT} {P : Program} {w : World} {K : PySem.W.Frag} {mg : Str → Option Value} {base : Heap} {k : Nat} {f : Addr} {name qual : Str} {params : Arguments} {body : List Stmt} {scope : Scope} {dV kV doc pm cdv ct oc : Value} {an od : Option Addr}
    {osl : Array (Option Value)} {N ps : List Str} {sp : Sp} (lk : K.lookup f = some ⟨oc, od, .func (PySem.W.fnOf name qual params body scope dV kV doc pm an cdv ct), osl⟩) (hcd : PySem.W.codeIn K cdv qual = true) (S : FnScope N ps scope)
    (len : ∀ vs H Q E, sp vs H Q E → vs.length = ps.length)
    (hbody : ∀ (A : Around) (outer : List Env) (s : Shared) (H : Hp) (vs : List V) (Q : VK) (E : XK), Room k (A.deeper (envOfC qual scope s.heap.objs.size f cdv)) → sp vs H Q E →
      ∃ t, PSs (cxOf CX P w K mg base N qual scope f cdv A outer s H E) body t ∧ t { nx := fun _ H' => Q .non H', rt := Q } (start N vs) H) :
    FnOk P w K mg base CX (k + 1) f (PySem.W.fnOf name qual params body scope dV kV doc pm an cdv ct) ps sp := by
  refine ⟨len, fun A outer s H args us vs Q E hr e0 hb r hsp => ?_⟩
  have hl := len _ _ _ _ hsp
  have KX : K.In s.heap := e0.mod.kin.keeps fun b o e => (e0.bs b o e).1
  have lim : s.heap.NoLimit := e0.mod.nolimit.keeps fun b o e => (e0.bs b o e).1
  have hkind : ∀ y ∈ ps.zip us, scope.names.lookup y.1 = some .local ∨ (scope.names.lookup y.1 = some .cell ∧ ((cellsFrom (s.heap.objs.size + 1) scope.names []).lookup y.1).isSome = true) := fun ⟨n, v⟩ hy => by
    rcases S.par n (List.of_mem_zip hy).1 with q | q
    · exact .inl q
    · exact .inr ⟨q, PySem.W.cellsFrom_some _ _ _ (.inl q)⟩
  refine codeAny_call_function hr.depth (KX _ _ lk) rfl S.co S.gen rfl (PySem.W.codeRec_of KX hcd) (hb _ _ _ _ ?_)
  refine wpAny_newFunctionEnv_cells S.kind hkind fun env he s1 x => ?_
  subst he
  refine ⟨lim.keeps x.toInCall.keep, codeAny_func ?_⟩
  obtain ⟨t, ht, hq⟩ := hbody A outer s H vs Q E (hr.deeper _) hsp
  have I : Inv (cxOf CX P w K mg base N qual scope f cdv A outer s H E) [] (start N vs) H s1 := inv_start S hr.hd e0 hl r x
  refine wpAny_mono (ht [] s1 (start N vs) H _ I hq) (fun fl s' hs => ?_) fun e s' hs => hs
  have fin : ∀ {σ' : St} {H' : Hp} {v : V} {u : Value}, Inv (cxOf CX P w K mg base N qual scope f cdv A outer s H E) [] σ' H' s' → RelV v u → Q v H' → CE outer P w H s Q u s' :=
    fun {σ' H' v u} J rv q => ⟨v, H', J.os, J.bare, J.base, J.hok, rv, q⟩
  cases fl with
  | ret u =>
    obtain ⟨v, σ', H', J, rv, q⟩ := hs
    exact fin J rv q
  | next =>
    obtain ⟨σ', H', J, q⟩ := hs
    exact fin (v := V.non) (u := Value.none) J rfl q
  | brk =>
    obtain ⟨_, _, _, q⟩ := hs
    exact False.elim q
  | cont =>
    obtain ⟨_, _, _, q⟩ := hs
    exact False.elim q
end L2
namespace L2
open PySem PySem.Spec PyProof.Rows
section
variable {X : Cx} {x : Str} {p pos : Pos} {e : Expr} {es : List Expr} {t : TA} {id T : String} {r : List V → Hp → VK → Prop}
def tCB (r : List V → Hp → VK → Prop) (t : TA) : TE := fun σ H Q => t σ H fun vs H1 => r vs H1 Q
theorem pe_callB (hc : CallR X (.builtin id) r) (hg : Gl X x) (hm : X.mg x = none) (hv : bootBuiltins x = some (.builtin id)) (ha : PA X (e :: es) t) (hn : x ≠ "__name__" := by decide) (hdb : (x == ("__debug__" : Str)) = false := by decide)
    (he : starEach (e :: es) X.env = (false, eval e X.env) :: starEach es X.env := by rfl) (hpl : (backTo pos (starEach es X.env)).any (·.1) = false := by rfl) : PE X (.Call (.Name x p) (e :: es) [] pos) (tCB r t) := by
  intro pins s σ H Q I h
  refine wpAny_Call_Name_kw (ld_blt I hg hm hv ?_ hn hdb)
  exact PyProof.Rows.callWith_builtin1 (thn (ha pos pins s σ H _ I h) fun us s1 ⟨vs, H1, I1, r1, q1⟩ => hc pins s1 σ H1 vs us Q I1 r1 q1) he hpl
theorem pe_callTy (hc : CallR X (.type T) r) (hg : Gl X x) (hm : X.mg x = none) (hv : bootBuiltins x = some (.type T)) (ha : PA X (e :: es) t) (hn : x ≠ "__name__" := by decide) (hdb : (x == ("__debug__" : Str)) = false := by decide)
    (he : starEach (e :: es) X.env = (false, eval e X.env) :: starEach es X.env := by rfl) (hpl : (backTo pos (starEach es X.env)).any (·.1) = false := by rfl) : PE X (.Call (.Name x p) (e :: es) [] pos) (tCB r t) := by
  intro pins s σ H Q I h
  refine wpAny_Call_Name_kw (ld_blt I hg hm hv ?_ hn hdb)
  exact PyProof.Rows.callWith_type1 (thn (ha pos pins s σ H _ I h) fun us s1 ⟨vs, H1, I1, r1, q1⟩ => hc pins s1 σ H1 vs us Q I1 r1 q1) he hpl
end
end L2
namespace HT
open PySem PyProof.Rows
section
open PySem.SeqAt
open PySem.AutoSeq1 (wpAny_loadPart')
open PySem.MeetsSeq PySem.MeetsSeq2 PySem.MeetsSeq3
end
section
variable {prog : Program} {w : World} {A : Around} {E : Value → Shared → Prop} {s : Shared}
def sIx (n d : Nat) : Option Int → Nat
  | none => d
  | some v => if v < 0 then (v + (n : Int)).toNat else min v.toNat n
theorem sIx_none (n d : Nat) : sIx n d none = d := rfl
theorem sIx_nat (n d k : Nat) : sIx n d (some (k : Int)) = min k n := by
  show (if (k : Int) < 0 then ((k : Int) + (n : Int)).toNat else min (k : Int).toNat n) = min k n
  rw [if_neg (by omega), Int.toNat_natCast]
end
end HT
namespace L2
open PySem PySem.Spec PyProof.Rows
abbrev TO := St → Hp → (Option Int → Hp → Prop) → Prop
def PO (X : Cx) (e : Option Expr) (t : TO) : Prop :=
  ∀ (pins : List (Addr × Obj)) (s : Shared) (σ : St) (H : Hp) (Q : Option Int → Hp → Prop), Inv X pins σ H s → t σ H Q →
    wpAny (model X.prog X.w) X.A (evalPart e X.env) (fun u s' => ∃ o H', Inv X pins σ H' s' ∧ IsPart u o ∧ Q o H') X.xe s
def tNoPart : TO := fun _ H Q => Q none H
def tPart (t : TE) : TO := fun σ H Q => t σ H fun x H1 => ∃ i, x = .int i ∧ Q (some i) H1
section
variable {X : Cx} {e : Expr} {te : TE} {lo hi : Option Expr} {tl th : TO} {pos p2 : Pos}
theorem po_none : PO X none tNoPart := by
  intro pins s σ H Q I h
  rw [evalPart_none]
  exact wpAny_pure ⟨none, H, I, .none, h⟩
theorem po_some (h : PE X e te) : PO X (some e) (tPart te) := by
  intro pins s σ H Q I hw
  rw [evalPart_some]
  refine thn (h pins s σ H _ I hw) fun u s1 ⟨x, H1, I1, r1, q1⟩ => ?_
  obtain ⟨i, rfl, q⟩ := q1
  obtain ⟨t, rfl⟩ := r1
  exact ⟨some i, H1, I1, .int i t, q⟩
def SlR (X : Cx) (r : V → Option Int → Option Int → Hp → VK → Prop) : Prop :=
  ∀ (pins : List (Addr × Obj)) (s : Shared) (σ : St) (H : Hp) (x : V) (v vl vu : Value) (lo hi : Option Int) (sl : Addr) (Q : VK), Inv X pins σ H s → RelV x v → s.heap.IsSliceOf sl vl vu .none → IsPart vl lo → IsPart vu hi → r x lo hi H Q →
    ∃ T id, typeLookup (.type T) "__getitem__" = pure (some (.builtin id)) ∧ s.TypeIs v T ∧ wpAny (model X.prog X.w) X.A (getItem v (.ref sl)) (EP X pins σ Q) X.xe s
def tSl (r : V → Option Int → Option Int → Hp → VK → Prop) (te : TE) (tl th : TO) : TE := fun σ H Q => te σ H fun x H1 => tl σ H1 fun l H2 => th σ H2 fun u H3 => r x l u H3 Q
theorem pe_slice {r : V → Option Int → Option Int → Hp → VK → Prop} (hr : SlR X r) (he : PE X e te) (hl : PO X lo tl) (hu : PO X hi th) : PE X (.Subscript e (.Slice lo hi none p2) pos) (tSl r te tl th) := by
  intro pins s σ H Q I h
  refine Subscript_ (thn (he pins s σ H _ I h) fun v s1 ⟨x, H1, I1, r1, q1⟩ => ?_)
  refine wpAny_Slice (thn (hl pins s1 σ H1 _ I1 q1) fun vl s2 ⟨l, H2, I2, pl, q2⟩ => thn (hu pins s2 σ H2 _ I2 q2) fun vu s3 ⟨u, H3, I3, pu, q3⟩ => ?_)
  rw [evalPart_none]
  refine wpAny_pure ?_
  have I4 : Inv X pins σ H3 { s3 with heap := s3.heap.push { cls := .type "slice", data := .fields #[vl, vu, .none] } } := I3.kept (t' := s3.toks) fun b ob q => Heap.get?_push_of_some _ q
  obtain ⟨T, id, hT, ht, hg⟩ := hr pins { s3 with heap := s3.heap.push { cls := .type "slice", data := .fields #[vl, vu, .none] } } σ H3 x v vl vu l u s3.heap.objs.size Q I4 r1 (Heap.IsSliceOf.new ..) pl pu q3
  show wpAny (model X.prog X.w) X.A (subscriptTail e (.Slice lo hi none p2) v (.ref s3.heap.objs.size)) (EP X pins σ Q) X.xe { s3 with heap := s3.heap.push { cls := .type "slice", data := .fields #[vl, vu, .none] } }
  exact tail_any (ops := [.ref s3.heap.objs.size, v]) ht hT hg (by with_unfolding_all rfl)
def cutV (xs : List V) (lo hi : Option Int) : List V := (xs.drop (HT.sIx xs.length 0 lo)).take (HT.sIx xs.length xs.length hi - HT.sIx xs.length 0 lo)
theorem cutV_length (xs : List V) (lo hi : Option Int) : (cutV xs lo hi).length ≤ xs.length := by
  unfold cutV
  rw [List.length_take, List.length_drop]
  omega
end
end L2
namespace L2
open PySem PySem.Spec PyProof.Rows
def ixN (n : Nat) (i : Int) : Option Nat := if 0 ≤ i then (if i < n then some i.toNat else none) else if -(n : Int) ≤ i then some (i + n).toNat else none
def atI {α : Type} (xs : List α) (i : Int) : Option α := (ixN xs.length i).bind fun j => xs[j]?
theorem ixN_seq {n : Nat} {i : Int} {j : Nat} (h : ixN n i = some j) : seqIndex? i n = some j ∧ j < n ∧ -(n : Int) ≤ i ∧ i < n := by
  unfold ixN at h
  by_cases h0 : 0 ≤ i
  · rw [if_pos h0] at h
    by_cases h1 : i < n
    · rw [if_pos h1] at h
      have e : i.toNat = j := Option.some.inj h
      exact ⟨by rw [seqIndex_of h0 h1, e], by omega, by omega, h1⟩
    · rw [if_neg h1] at h; cases h
  · rw [if_neg h0] at h
    by_cases h1 : -(n : Int) ≤ i
    · rw [if_pos h1] at h
      have e : (i + n).toNat = j := Option.some.inj h
      exact ⟨by rw [seqIndex_neg (by omega) h1, e], by omega, h1, by omega⟩
    · rw [if_neg h1] at h; cases h
theorem atI_get {α : Type} {xs : List α} {i : Int} {v : α} (h : atI xs i = some v) : ∃ j, seqIndex? i xs.length = some j ∧ xs[j]? = some v ∧ j < xs.length ∧ -(xs.length : Int) ≤ i ∧ i < xs.length := by
  unfold atI at h
  cases e : ixN xs.length i with
  | none => rw [e] at h; cases h
  | some j =>
    rw [e] at h
    obtain ⟨h1, h2, h3, h4⟩ := ixN_seq e
    exact ⟨j, h1, h, h2, h3, h4⟩
theorem atI_nat {α : Type} {xs : List α} {j : Nat} {v : α} (h : xs[j]? = some v) : atI xs (j : Int) = some v := by
  have hj : j < xs.length := (List.getElem?_eq_some_iff.mp h).1
  have e : ixN xs.length (j : Int) = some j := by
    unfold ixN
    rw [if_pos (by omega), if_pos (by omega)]; simp
  unfold atI; rw [e]; exact h
def PlainIx (b : Expr) : Prop := ∀ o i, subscripted b false o i = operate [o, i] (getItem o i)
def IxR (X : Cx) (r : R2) : Prop :=
  ∀ (value slice : Expr) (pins : List (Addr × Obj)) (s : Shared) (σ : St) (H : Hp) (x y : V) (v u : Value) (Q : VK), Inv X pins σ H s → RelV x v → RelV y u → r x y H Q →
    subscripted slice false v u = operate [v, u] (getItem v u) → wpAny (model X.prog X.w) X.A (subscriptTail value slice v u) (EP X pins σ Q) X.xe s
def MtR (X : Cx) (id : String) (r : V → List V → Hp → VK → Prop) : Prop :=
  ∀ (pins : List (Addr × Obj)) (s : Shared) (σ : St) (H : Hp) (x : V) (xs : List V) (v : Value) (us : List Value) (Q : VK), Inv X pins σ H s → RelV x v → Vals xs us → r x xs H Q →
    wpAny (model X.prog X.w) X.A (call (.builtin id) (v :: us)) (EP X pins σ Q) X.xe s
section
variable {X : Cx} {a b : Expr} {ta tb : TE} {pos : Pos}
theorem pe_ix {r : R2} (hr : IxR X r) (ha : PE X a ta) (hb : PE X b tb) (hs : PlainIx b) : PE X (.Subscript a b pos) (tOp r ta tb) := by
  intro pins s σ H Q I h
  exact Subscript_ (binT ha hb I h fun v u s2 x y H2 I2 rx ry q => hr a b pins s2 σ H2 x y v u Q I2 rx ry q (hs _ _))
def rIxL (K : PySem.W.Frag) : R2 := fun x y H Q => ∃ p xs i v, x = .ref p ∧ y = .int i ∧ SqL K H p xs ∧ atI xs i = some v ∧ Q v H
def rIxT (K : PySem.W.Frag) : R2 := fun x y H Q => ∃ p xs i v, x = .ref p ∧ y = .int i ∧ SqT K H p xs ∧ atI xs i = some v ∧ Q v H
def rIxS : R2 := fun x y H Q => ∃ z i c, x = .str z ∧ y = .int i ∧ z.length ≤ sizeLine ∧ atI z.cps.toList i = some c ∧ Q (.str ⟨#[c]⟩) H
theorem ix_list : IxR X (rIxL X.K) := by
  intro value slice pins s σ H x y v u Q I rx ry h hs
  obtain ⟨p, xs, i, z, rfl, rfl, hq, he, q⟩ := h
  cases rx
  obtain ⟨t, rfl⟩ := ry
  obtain ⟨its, r, pl, hz⟩ := I.list hq
  obtain ⟨j, h1, h2, h3, h4, h5⟩ := atI_get he
  obtain ⟨w, ew, rw'⟩ := r.get h2
  have hl := r.length
  have hn := line63
  have fin : EP X pins σ Q w s := ⟨z, H, I, rw', q⟩
  by_cases h0 : 0 ≤ i
  · have hj : i.toNat = j := by
      rw [seqIndex_of h0 h5] at h1
      exact Option.some.inj h1
    exact item_listR pl.isList h0 (by omega) (by rw [hj]; simpa using ew) fin hs
  · have hj : (i + (its.toArray.size : Int)).toNat = j := by
      rw [seqIndex_neg (by omega) h4] at h1
      rw [List.size_toArray, ← hl]
      exact Option.some.inj h1
    exact subscriptTail_builtinR (x := w) pl.isList.typeIs slot_list_getitem.lookup
      (wpAny_getItem_list_neg (Q := fun r s' => r = w ∧ EP X pins σ Q r s') pl.isList (by omega) (by rw [List.size_toArray] <;> omega) (by omega) (by rw [hj]; simpa using ew) ⟨rfl, fin⟩) hs
theorem ix_tup : IxR X (rIxT X.K) := by
  intro value slice pins s σ H x y v u Q I rx ry h hs
  obtain ⟨p, xs, i, z, rfl, rfl, hq, he, q⟩ := h
  cases rx
  obtain ⟨t, rfl⟩ := ry
  obtain ⟨its, r, pl, hz⟩ := I.tuple hq
  obtain ⟨j, h1, h2, h3, h4, h5⟩ := atI_get he
  obtain ⟨w, ew, rw'⟩ := r.get h2
  have hl := r.length
  have hn := line63
  have fin : EP X pins σ Q w s := ⟨z, H, I, rw', q⟩
  exact subscriptTail_builtinR (x := w) pl.typeIs slot_tuple_getitem.lookup
    (getItem_tuple (j := j) (Q := fun r s' => r = w ∧ EP X pins σ Q r s') pl (by omega) (by omega) (by rw [List.size_toArray, ← hl]; exact h1) (by simpa using ew) ⟨rfl, fin⟩) hs
theorem ix_str : IxR X rIxS := by
  intro value slice pins s σ H x y v u Q I rx ry h hs
  obtain ⟨z, i, c, rfl, rfl, hz, he, q⟩ := h
  obtain ⟨t, rfl⟩ := rx
  obtain ⟨t', rfl⟩ := ry
  obtain ⟨j, h1, h2, h3, h4, h5⟩ := atI_get he
  have hl : z.cps.toList.length = z.length := by simp [Str.length]
  rw [hl] at h1 h4 h5
  have hn := line63
  exact tail_any (typeIs_str s z t) slot_str_getitem.lookup (getItem_str (c := c) (by
    have e1 : decide (i < -(2 ^ 63 : Int)) = false := decide_eq_false (by omega)
    have e2 : decide (i ≥ 2 ^ 63) = false := decide_eq_false (by omega)
    rw [e1, e2, Bool.or_false]) (by rw [h1]; simpa using h2) ⟨.str ⟨#[c]⟩, H, I.tok _, ⟨_, rfl⟩, q⟩) hs
theorem mapSeq_set (its : List Value) (n j : Nat) (u : Value) : Obj.mapSeq (·.setIfInBounds j u) { cls := .type "list", data := .seq its.toArray n } = { cls := .type "list", data := .seq (its.set j u).toArray n } := by
  simp [Obj.mapSeq]
theorem Inv.lst {pins : List (Addr × Obj)} {σ : St} {H : Hp} {s : Shared} {p : Addr} {xs : List V} (I : Inv X pins σ H s) (h : H p = some (.lst xs)) :
    ∃ (its : List Value) (n : Nat), Vals xs its ∧ s.heap.get? p = some { cls := .type "list", data := .seq its.toArray n } ∧ xs.length ≤ sizeLine := by
  obtain ⟨z, its, n, r, e⟩ := I.hok p _ h
  exact ⟨its, n, r, e, z⟩
theorem Inv.lstUpd {pins : List (Addr × Obj)} {σ : St} {H : Hp} {s : Shared} {p : Addr} {xs ys : List V} {its its' : List Value} {n n' : Nat} {f : Obj → Obj} (I : Inv X pins σ H s) (h : H p = some (.lst xs))
    (ho : s.heap.get? p = some { cls := .type "list", data := .seq its.toArray n }) (hf : f { cls := .type "list", data := .seq its.toArray n } = { cls := .type "list", data := .seq its'.toArray n' }) (r : Vals ys its') (hz : ys.length ≤ sizeLine) (t : Nat) :
    Inv X pins σ (upd H p (.lst ys)) { s with heap := s.heap.update p f, toks := t } := by
  have e : (s.heap.update p f).get? p = some { cls := .type "list", data := .seq its'.toArray n' } := by
    rw [Heap.get?_update_self f ho (by rw [hf] <;> rfl), hf]
  refine I.write (x := p) (e := p) (by rw [h]; trivial) (.inl rfl) (fun b u hb q => (Heap.get?_update_other _ _ (Ne.symm hb)).trans q) ⟨_, e⟩ ?_
  exact ⟨hz, its', n', r, e⟩
def rSetL : V → V → V → Hp → (Hp → Prop) → Prop := fun o i v H Q => ∃ p xs k j, o = .ref p ∧ i = .int k ∧ H p = some (.lst xs) ∧ ixN xs.length k = some j ∧ Q (upd H p (.lst (xs.set j v)))
theorem set_list : PSet X rSetL := by
  intro pins s σ H o i v ov iv u Q I ro ri rv h
  obtain ⟨p, xs, k, j, rfl, rfl, hp, hj, q⟩ := h
  cases ro
  obtain ⟨t, rfl⟩ := ri
  obtain ⟨its, n, r, ho, hz⟩ := I.lst hp
  obtain ⟨h1, h2, h3, h4⟩ := ixN_seq hj
  have hl := r.length
  have hn := line63
  have I' : Inv X pins σ (upd H p (.lst (xs.set j v))) { s with heap := s.heap.update p (Obj.mapSeq (·.setIfInBounds j u)) } :=
    I.lstUpd hp ho (mapSeq_set its n j u) (r.set rv j) (by rw [List.length_set]; exact hz) s.toks
  by_cases h0 : 0 ≤ k
  · have hk : k.toNat = j := by
      rw [seqIndex_of h0 h4] at h1
      exact Option.some.inj h1
    exact PySem.W.ki_setAt ho h0 (by omega) (by rw [List.size_toArray, ← hl]; exact h4) (by rw [hk]; exact ⟨_, I', q⟩)
  · have hk : (k + (its.toArray.size : Int)).toNat = j := by
      rw [seqIndex_neg (by omega) h3] at h1
      rw [List.size_toArray, ← hl]
      exact Option.some.inj h1
    exact PySem.W.ki_setBack ho (by omega) (by rw [List.size_toArray, ← hl]; exact h3) (by omega) (by rw [hk]; exact ⟨_, I', q⟩)
theorem slice_bounds (lo hi : Option Int) (n : Nat) : (sliceBounds lo hi none n).1 = ((HT.sIx n 0 lo : Nat) : Int) ∧ (sliceBounds lo hi none n).2.1 = ((HT.sIx n n hi : Nat) : Int) ∧ (sliceBounds lo hi none n).2.2 = 1 := by
  refine ⟨?_, ?_, rfl⟩
  · cases lo with
    | none => simp [sliceBounds, HT.sIx]
    | some i =>
      simp only [sliceBounds, HT.sIx, Option.getD_none, show (1 : Int) > 0 by decide, if_true]
      by_cases h : i < 0
      · simp only [h, if_true] <;> omega
      · simp only [h, if_false] <;> omega
  · cases hi with
    | none => simp [sliceBounds, HT.sIx]
    | some i =>
      simp only [sliceBounds, HT.sIx, Option.getD_none, show (1 : Int) > 0 by decide, if_true]
      by_cases h : i < 0
      · simp only [h, if_true] <;> omega
      · simp only [h, if_false] <;> omega
theorem slicePick_cut (its : List Value) (lo hi : Option Int) : slicePick its.toArray lo hi none = ((its.drop (HT.sIx its.length 0 lo)).take (HT.sIx its.length its.length hi - HT.sIx its.length 0 lo)).toArray := by
  obtain ⟨h1, h2, h3⟩ := slice_bounds lo hi its.toArray.size
  unfold slicePick
  rw [h1, h2, h3]
  simp only [sliceRange_one, pick_run, List.size_toArray] <;> rfl
def rSlL (K : PySem.W.Frag) : V → Option Int → Option Int → Hp → VK → Prop := fun x lo hi H Q => ∃ a xs, x = .ref a ∧ SqL K H a xs ∧ ∀ p, H p = none → Q (.ref p) (upd H p (.lst (cutV xs lo hi)))
theorem sl_list : SlR X (rSlL X.K) := by
  intro pins s σ H x v vl vu lo hi sl Q I rx hs pl pu h
  obtain ⟨a, xs, rfl, hx, q⟩ := h
  cases rx
  obtain ⟨its, r, ht, hz⟩ := I.list hx
  have hlen := r.length
  refine ⟨"list", _, slot_list_getitem.lookup, ht.isList.typeIs, ?_⟩
  refine wpAny_getItem_list_slice ht.isList hs pl pu .none (by simp) ?_ (by rw [List.size_toArray] <;> omega)
  rw [slicePick_cut, ← hlen]
  refine ⟨.ref s.heap.objs.size, _, I.laid (t' := s.toks) (o := .lst (cutV xs lo hi)) (fun b ob q => Heap.get?_push_of_some _ q) (Nat.le_refl _) ?_, rfl, q _ (I.hok.fresh (Nat.le_refl _))⟩
  exact ⟨Nat.le_trans (cutV_length xs lo hi) hz, _, 0, (r.drop (HT.sIx xs.length 0 lo)).take (HT.sIx xs.length xs.length hi - HT.sIx xs.length 0 lo), Heap.get?_push_size _ rfl⟩
def flatV : V → Bool
  | .non => true
  | .bl _ => true
  | .int _ => true
  | .str _ => true
  | _ => false
def eqV : V → V → Bool
  | .non, .non => true
  | .bl a, .bl b => a == b
  | .bl a, .int b => (if a then 1 else 0) == b
  | .int a, .bl b => a == (if b then 1 else 0)
  | .int a, .int b => a == b
  | .str a, .str b => a == b
  | _, _ => false
theorem eqAt_V {A : Around} {s : Shared} {y x : V} {u v : Value} (ry : RelV y u) (rx : RelV x v) (fy : flatV y = true) (fx : flatV x = true) : SeqAt.EqAt A s u v (eqV y x) := by
  cases y with
  | non =>
    cases ry
    cases x with
    | non => cases rx; exact SeqAt.EqAt.same _
    | bl b => cases rx; exact SeqAt.EqAt.none_bool b
    | int b => obtain ⟨t, rfl⟩ := rx; exact SeqAt.EqAt.none_int b t
    | str b => obtain ⟨t, rfl⟩ := rx; exact SeqAt.EqAt.none_str b t
    | _ => exact absurd (show false = true from fx) Bool.false_ne_true
  | bl a =>
    cases ry
    cases x with
    | non => cases rx; exact SeqAt.EqAt.bool_none a
    | bl b => cases rx; exact SeqAt.EqAt.bool_bool a b
    | int b => obtain ⟨t, rfl⟩ := rx; exact SeqAt.EqAt.bool_int a b t
    | str b => obtain ⟨t, rfl⟩ := rx; exact SeqAt.EqAt.bool_str a b t
    | _ => exact absurd (show false = true from fx) Bool.false_ne_true
  | int a =>
    obtain ⟨t', rfl⟩ := ry
    cases x with
    | non => cases rx; exact SeqAt.EqAt.int_none a t'
    | bl b => cases rx; exact SeqAt.EqAt.int_bool a t' b
    | int b => obtain ⟨t, rfl⟩ := rx; exact SeqAt.EqAt.int_int a t' b t
    | str b => obtain ⟨t, rfl⟩ := rx; exact SeqAt.EqAt.int_str a t' b t
    | _ => exact absurd (show false = true from fx) Bool.false_ne_true
  | str a =>
    obtain ⟨t', rfl⟩ := ry
    cases x with
    | non => cases rx; exact SeqAt.EqAt.str_none a t'
    | bl b => cases rx; exact SeqAt.EqAt.str_bool a t' b
    | int b => obtain ⟨t, rfl⟩ := rx; exact SeqAt.EqAt.str_int a t' b t
    | str b => obtain ⟨t, rfl⟩ := rx; exact SeqAt.EqAt.str_str a t' b t
    | _ => exact absurd (show false = true from fx) Bool.false_ne_true
  | _ => exact absurd (show false = true from fy) Bool.false_ne_true
theorem call_len_seq : CallR X (.builtin "len") (fun xs H Q => ∃ p ys, xs = [.ref p] ∧ (SqL X.K H p ys ∨ SqT X.K H p ys) ∧ Q (.int ys.length) H) := by
  intro pins s σ H xs us Q I r h
  obtain ⟨p, ys, rfl, hq, q⟩ := h
  obtain ⟨u, rfl, rx⟩ := vals1 r
  cases rx
  have hn := line63
  rcases hq with hq | hq
  · obtain ⟨its, r', pl, hz⟩ := I.list hq
    have hlen := r'.length
    exact Calls.call_len_list pl.isList (by simp only [List.size_toArray] <;> omega) ⟨.int ys.length, H, I.tok _, ⟨s.toks + 1, by rw [List.size_toArray, hlen]⟩, q⟩
  · obtain ⟨its, r', pl, hz⟩ := I.tuple hq
    have hlen := r'.length
    exact len_tuple pl (by simp only [List.size_toArray] <;> omega) ⟨.int ys.length, H, I.tok _, ⟨s.toks + 1, by rw [List.size_toArray, hlen]⟩, q⟩
theorem call_len_str : CallR X (.builtin "len") (fun xs H Q => ∃ z, xs = [.str z] ∧ z.length ≤ sizeLine ∧ Q (.int z.length) H) := by
  intro pins s σ H xs us Q I r h
  obtain ⟨z, rfl, hz, q⟩ := h
  obtain ⟨u, rfl, t, rfl⟩ := vals1 r
  have hn := line63
  exact len_str (by omega) ⟨.int z.length, H, I.tok _, ⟨_, rfl⟩, q⟩
theorem call_list_of : CallR X (.type "list") (fun xs H Q => ∃ p ys, xs = [.ref p] ∧ (SqL X.K H p ys ∨ SqT X.K H p ys) ∧ ∀ l, H l = none → Q (.ref l) (upd H l (.lst ys))) := by
  intro pins s σ H xs us Q I r h
  obtain ⟨p, ys, rfl, hq, q⟩ := h
  obtain ⟨u, rfl, rx⟩ := vals1 r
  cases rx
  have fin : ∀ (its : List Value), Vals ys its → ys.length ≤ sizeLine → ∀ (h' : Heap) (c' : Nat), (∀ b o', s.heap.get? b = some o' → h'.get? b = some o') →
      h'.get? s.heap.objs.size = some { cls := .type "list", dict := none, data := .seq its.toArray c', slots := #[] } → EP X pins σ Q (.ref s.heap.objs.size) { s with heap := h' } := fun its r' hz h' c' kp e =>
    ⟨.ref s.heap.objs.size, _, I.laid (t' := s.toks) kp (Nat.le_refl _) (show ObjOk X.prog X.w _ h' _ (.lst ys) from ⟨hz, its, c', r', e⟩), rfl, q _ (I.hok.fresh (Nat.le_refl _))⟩
  rcases hq with hq | hq
  · obtain ⟨its, r', pl, hz⟩ := I.list hq
    have hlen := r'.length
    obtain ⟨o, ho, hc, n, hd⟩ := pl.isList
    exact call_list_seq p (.inl rfl) ho hc hd (fun h' c' kp e => fin its r' hz h' c' kp e) (by simp only [List.size_toArray] <;> omega)
  · obtain ⟨its, r', pl, hz⟩ := I.tuple hq
    have hlen := r'.length
    obtain ⟨o, ho, hc, n, hd⟩ := pl
    exact call_list_seq p (.inr rfl) ho hc hd (fun h' c' kp e => fin its r' hz h' c' kp e) (by simp only [List.size_toArray] <;> omega)
theorem call_tuple_of : CallR X (.type "tuple") (fun xs H Q => ∃ p ys, xs = [.ref p] ∧ ((SqL X.K H p ys ∧ ∀ l, H l = none → Q (.ref l) (upd H l (.tup ys))) ∨ (SqT X.K H p ys ∧ Q (.ref p) H))) := by
  intro pins s σ H xs us Q I r h
  obtain ⟨p, ys, rfl, h⟩ := h
  obtain ⟨u, rfl, rx⟩ := vals1 r
  cases rx
  rcases h with ⟨hq, q⟩ | ⟨hq, q⟩
  · obtain ⟨its, r', pl, hz⟩ := I.list hq
    have hlen := r'.length
    refine call_tuple_list pl.isList (fun h' kp => ?_) (by simp only [List.size_toArray] <;> omega)
    have I1 : Inv X pins σ H { s with heap := h' } := I.kept (t' := s.toks) kp
    have I2 : Inv X pins σ (upd H h'.objs.size (.tup ys)) { s with heap := h'.push { cls := .type "tuple", data := .seq its.toArray } } :=
      I1.laid (t' := s.toks) (fun b o e => Heap.get?_push_of_some _ e) (Nat.le_refl _) (show ObjOk X.prog X.w _ _ _ (.tup ys) from ⟨hz, its, r', IsTup.new _ _⟩)
    exact ⟨.ref h'.objs.size, _, I2, rfl, q _ (I1.hok.fresh (Nat.le_refl _))⟩
  · obtain ⟨its, r', pl, hz⟩ := I.tuple hq
    exact call_tuple_same pl ⟨.ref p, H, I, rfl, q⟩
def tyV (K : PySem.W.Frag) (T : String) (x : V) (H : Hp) : Prop := match x with
  | .str _ => T = "str"
  | .int _ => T = "int"
  | .ref p => (T = "list" ∧ ∃ xs, SqL K H p xs) ∨ (T = "tuple" ∧ ∃ o, K.lookup p = some o ∧ o.cls = .type "tuple" ∧ o.dict = none) ∨
      (T = "dict" ∧ ((∃ kvs, H p = some (.dK kvs)) ∨ ∃ kvs, H p = some (.dT kvs))) ∨ (T = "set" ∧ ∃ S n, H p = some (.set S n))
  | _ => False
theorem tyV_is {pins : List (Addr × Obj)} {σ : St} {H : Hp} {s : Shared} {T : String} {x : V} {v : Value} (I : Inv X pins σ H s) (r : RelV x v) (ty : tyV X.K T x H) :
    s.TypeIs v T ∧ ∀ a, v = .ref a → ∃ ob, s.heap.get? a = some ob ∧ ob.dict = none := by
  cases x with
  | str z =>
    obtain ⟨t, rfl⟩ := r
    cases (show T = "str" from ty)
    exact ⟨typeIs_str s z t, fun _ e => nomatch e⟩
  | int i =>
    obtain ⟨t, rfl⟩ := r
    cases (show T = "int" from ty)
    exact ⟨typeIs_int s i t, fun _ e => nomatch e⟩
  | ref p =>
    cases r
    rcases ty with ⟨rfl, xs, hq⟩ | ⟨rfl, o, hk, hc, hd⟩ | ⟨rfl, hk⟩ | ⟨rfl, S, n, hk⟩
    · obtain ⟨its, _, pl, _⟩ := I.list hq
      refine ⟨pl.isList.typeIs, fun a e => ?_⟩
      cases e
      obtain ⟨o, n, e, c, hd, _⟩ := pl
      exact ⟨o, e, hd⟩
    · refine ⟨⟨o, I.kIn p o hk, hc⟩, fun a e => ?_⟩
      cases e
      exact ⟨o, I.kIn _ o hk, hd⟩
    · have z : ∃ o, s.heap.get? p = some o ∧ o.ExactDict := by
        rcases hk with ⟨kvs, hk⟩ | ⟨kvs, hk⟩
        · obtain ⟨_, _, _, _, o, _, _, e, ex, _⟩ := I.hok p _ hk
          exact ⟨o, e, ex⟩
        · obtain ⟨_, _, _, _, o, _, _, e, ex, _⟩ := I.hok p _ hk
          exact ⟨o, e, ex⟩
      obtain ⟨o, e, ex⟩ := z
      refine ⟨⟨o, e, ex.1⟩, fun a e2 => ?_⟩
      cases e2
      exact ⟨o, e, ex.2.1⟩
    · obtain ⟨o, _, _, _, e, ex, _⟩ := I.hok p _ hk
      refine ⟨⟨o, e, ex.1⟩, fun a e2 => ?_⟩
      cases e2
      exact ⟨o, e, ex.2.1⟩
  | _ => exact False.elim ty
def tBM (K : PySem.W.Frag) (T : String) (r : V → List V → Hp → VK → Prop) (to : TE) (t : TA) : TE := fun σ H Q => to σ H fun x H1 => tyV K T x H1 ∧ t σ H1 fun xs H2 => r x xs H2 Q
variable {o e : Expr} {es : List Expr} {to : TE} {t : TA} {name : Str} {apos cpos : Pos} {T id : String} {r : V → List V → Hp → VK → Prop}
theorem pe_bm (pa : PlainAttrs T) (slot : Slot T name id) (hty : typeOf (.builtin id) = pure (.type "method_descriptor")) (hm : MtR X id r) (ho : PE X o to) (ha : PA X (e :: es) t)
    (hbase : attributeBase o name X.env (eval o X.env) = eval o X.env := by rfl)
    (hfew : ((backTo cpos (starEach (e :: es) X.env)).all (fun x => !x.1) && (backToKw cpos (keywordEach [] X.env)).all (fun x => x.1.isSome)
      && decide ((e :: es).length + ([] : List Keyword).length + (if ([] : List Keyword).isEmpty then 0 else 1) < 30)) = true := by rfl)
    (hline : (apos.endLine == cpos.line) = true := by rfl) (hs : starEach (e :: es) X.env = (false, eval e X.env) :: starEach es X.env := by rfl) (hplain : (backTo cpos (starEach es X.env)).any (·.1) = false := by rfl) :
    PE X (.Call (.Attribute o name apos) (e :: es) [] cpos) (tBM X.K T r to t) := by
  intro pins s σ H Q I h
  refine wpAny_Call_method_late hbase hfew hline rfl (thn (ho pins s σ H _ I h) fun v s1 ⟨x, H1, I1, r1, ty, q1⟩ => ?_)
  obtain ⟨h1, h2⟩ := tyV_is I1 r1 ty
  refine ⟨T, id, pa, slot, hty, h1, h2, ?_⟩
  have hA := ha cpos pins s1 σ H1 _ I1 q1
  rw [hs] at hA ⊢
  refine Calls.callWith_builtin (by show (false || (backTo cpos (starEach es X.env)).any (·.1)) = false; rw [hplain] <;> rfl) (Calls.evalArgs_plain ?_)
  exact thn hA fun us s2 ⟨vs, H2, I2, r2, q2⟩ => hm pins s2 σ H2 x vs v us Q I2 r1 r2 q2
end
end L2
namespace L2
open PySem PySem.Spec PyProof.Rows
def MtM (X : Cx) (id : String) (r : V → List V → Hp → VK → Prop) : Prop :=
  ∀ (pins : List (Addr × Obj)) (s : Shared) (σ : St) (H : Hp) (x : V) (xs : List V) (v : Value) (us : List Value) (Q : VK), Inv X pins σ H s → RelV x v → Vals xs us → r x xs H Q →
    wpAny (model X.prog X.w) X.A (call (.builtin id) (v :: us)) (EP X pins σ Q) X.xe s
theorem Vals.one : ∀ {x : V} {us : List Value}, Vals [x] us → ∃ u, us = [u] ∧ RelV x u
  | _, _, .cons r .nil => ⟨_, rfl, r⟩
section
variable {X : Cx} {pins : List (Addr × Obj)} {σ : St} {H : Hp} {s : Shared} {l b : Addr} {xs ys zs : List V}
theorem Inv.lset {its its' : List Value} {n : Nat} {f : Array Value → Array Value} {t' : Nat} (I : Inv X pins σ H s) (hH : H l = some (.lst xs))
    (e : s.heap.get? l = some { cls := .type "list", data := .seq its.toArray n }) (hf : f its.toArray = its'.toArray) (hv : Vals ys its') (hz : ys.length ≤ sizeLine) :
    Inv X pins σ (upd H l (.lst ys)) { s with heap := s.heap.update l (Obj.mapSeq f), toks := t' } := by
  have q := PySem.IsL.update e f
  rw [hf] at q
  refine I.write (x := l) (e := l) (by rw [hH]; exact trivial) (.inl rfl) (fun b' u hb hu => (Heap.get?_update_other s.heap (Obj.mapSeq f) (Ne.symm hb)).trans hu) ⟨_, q⟩ ?_
  exact ⟨hz, its', _, hv, q⟩
theorem Inv.lnew {its : List Value} {t' : Nat} (I : Inv X pins σ H s) (hv : Vals ys its) (hz : ys.length ≤ sizeLine) :
    Inv X pins σ (upd H s.heap.objs.size (.lst ys)) { s with heap := s.heap.push { cls := .type "list", data := .seq its.toArray }, toks := t' } :=
  I.laid (fun _ _ q => Heap.get?_push_of_some _ q) (Nat.le_refl _) ⟨hz, its, 0, hv, Heap.get?_push_size _ rfl⟩
theorem Inv.fresh (I : Inv X pins σ H s) : H s.heap.objs.size = none := I.hok.fresh (Nat.le_refl _)
theorem Inv.lstM (I : Inv X pins σ H s) (hH : H l = some (.lst xs)) : xs.length ≤ sizeLine ∧ ∃ (its : List Value) (n : Nat), Vals xs its ∧ xs.length = its.length ∧ s.heap.get? l = some { cls := .type "list", data := .seq its.toArray n } := by
  obtain ⟨z, its, n, r, e⟩ := I.hok l _ hH
  exact ⟨z, its, n, r, r.length, e⟩
end
section
variable {X : Cx}
def rAppend : V → List V → Hp → VK → Prop := fun x vs H Q => ∃ l xs y, x = .ref l ∧ vs = [y] ∧ H l = some (.lst xs) ∧ xs.length < sizeLine ∧ Q .non (upd H l (.lst (xs ++ [y])))
theorem mt_append : MtM X "list.append" rAppend := by
  intro pins s σ H x vs v us Q I rx rv h
  obtain ⟨l, xs, y, rfl, rfl, hH, hz, q⟩ := h
  cases rx
  obtain ⟨u, rfl, ru⟩ := rv.one
  obtain ⟨z, its, n, r, hl, e⟩ := I.lstM hH
  refine call_meets F.slot_list_append ⟨_, e, rfl⟩ F.entry_list_append (F.args_list_append_2 _ _) (PySem.list_append l its.toArray n u (by rw [List.size_toArray]; omega)) ⟨e, ?_⟩
  refine ⟨.non, _, I.lset (its' := its ++ [u]) hH e (by simp) (r.append (.cons ru .nil)) ?_, rfl, q⟩
  rw [List.length_append, List.length_singleton]
  omega
def rCat : R2 := fun x y H Q => ∃ l b xs zs, x = .ref l ∧ y = .ref b ∧ H l = some (.lst xs) ∧ H b = some (.lst zs) ∧ xs.length + zs.length ≤ sizeLine ∧ ∀ p, H p = none → Q (.ref p) (upd H p (.lst (xs ++ zs)))
theorem op_cat : OpR X (binaryOp .Add) rCat := by
  intro pins s σ H x y v u Q I rx ry h
  obtain ⟨l, b, xs, zs, rfl, rfl, hH, hB, hz, q⟩ := h
  cases rx
  cases ry
  obtain ⟨z, its, n, r, hl, e⟩ := I.lstM hH
  obtain ⟨z2, its2, n2, r2, hl2, e2⟩ := I.lstM hB
  refine PySem.P.add_list e e2 ?_ (by rw [List.size_toArray, List.size_toArray]; omega)
  have ea : its.toArray ++ its2.toArray = (its ++ its2).toArray := by simp
  rw [ea]
  exact ⟨.ref _, _, I.lnew (t' := s.toks) (r.append r2) (by rw [List.length_append]; omega), rfl, q _ I.fresh⟩
end
section
variable {prog : Program} {w : World} {A : Around} {E : Value → Shared → Prop} {s : Shared}
end
section
variable {X : Cx}
end
end L2
namespace L2
open PySem PySem.Spec PyProof.Rows
section
variable {κ : Type} [DecidableEq κ]
end
section
variable {P : Program} {w : World} {H : Hp} {h : Heap} {a : Addr}
end
section
variable {X : Cx} {pins : List (Addr × Obj)} {σ : St} {H : Hp} {s : Shared} {a : Addr} {y v : V} {u r : Value} {o : Option V} {A : Around} {E : Value → Shared → Prop}
theorem Inv.big (I : Inv X pins σ H s) : sysModules < s.heap.objs.size := by
  have h : mainGlobals < s.heap.objs.size := (I.mod.glob.keeps I.bk).lt
  exact Nat.lt_trans (by decide) h
end
section
variable {X : Cx} {pins : List (Addr × Obj)} {σ : St} {H : Hp} {s : Shared} {a : Addr} {kvs : List (Key × V)} {k : Key} {u : Value} {A : Around} {E : Value → Shared → Prop}
end
section
variable {X : Cx} {o i e value : Expr} {pos pos' tpos : Pos} {td ty tv : TE}
end
theorem dk_empty {P : Program} {w : World} {H : Hp} (h : Heap) (hb : sysModules < h.objs.size) : ObjOk P w H (h.push { cls := .type "dict", data := .dict #[] }) h.objs.size (.dK []) :=
  ⟨Nat.zero_le _, beq_eq_false_iff_ne.mpr (Ne.symm (Nat.ne_of_lt hb)), [], .nil, Heap.DictOf.new h⟩
def tDNewK : TE := fun _ H Q => ∀ p, H p = none → Q (.ref p) (upd H p (.dK []))
section
variable {X : Cx} {pos : Pos}
theorem pe_dnewK : PE X (.Dict [] [] pos) tDNewK := fun pins s σ H Q I h =>
  wpAny_Dict_empty ⟨.ref s.heap.objs.size, _, I.laid (a := s.heap.objs.size) (o := .dK []) (t' := s.toks) (fun _ _ q => Heap.get?_push_of_some _ q) (Nat.le_refl _) (dk_empty s.heap I.big), rfl, h _ (I.hok.fresh (Nat.le_refl _))⟩
end
section
variable {X : Cx} {pins : List (Addr × Obj)} {σ : St} {H : Hp} {s : Shared} {a : Addr} {y d : V} {u r : Value} {o : Option V} {A : Around} {E : Value → Shared → Prop}
end
section
variable {X : Cx} {o e f : Expr} {apos cpos : Pos} {td ty tx : TE}
end
section
variable {X : Cx} {pins : List (Addr × Obj)} {σ : St} {H : Hp} {s : Shared} {a : Addr} {kvs : List (Key × V)} {A : Around} {E : Value → Shared → Prop}
end
section
variable {X : Cx} {pins : List (Addr × Obj)} {σ : St} {H : Hp} {s : Shared} {a : Addr} {y : V} {u : Value} {A : Around} {E : Value → Shared → Prop}
end
end L2
namespace Att
open PySem PySem.W PySem.Calls PyProof.Rows
theorem ints_of_wellAll {P : Params} {h : Heap} : ∀ (ns : List Int) (vs : List Value), WellAll P h vs (ns.map WData.int) → IntsAre vs ns := by
  intro ns
  induction ns with
  | nil =>
    intro vs w
    rw [List.map_nil] at w
    cases w
    exact .nil
  | cons n ns ih =>
    intro vs w
    rw [List.map_cons] at w
    cases w with
    | cons a b =>
      cases a
      exact .cons _ _ (ih _ b)
theorem script_of {l : OpenLaw} {n : Nat} (hn : l.most = some n) {P : Params} {h : Heap} {args : List WData} {vals : List Value}
    (hpre : l.row.toRowW.claim.pre args = true) (hwl : WellAll P h vals args) :
    ∃ a vs ns, vals = [Value.ref a] ∧ args = [WData.list (ns.map WData.int)] ∧ h.get? a = some { cls := .type "list", data := .seq vs.toArray } ∧ IntsAre vs ns ∧ ns.length ≤ n := by
  have hsh : WShape.hasAll [] args [.list .int] = true := (pre_splitW hpre).1
  have hc : l.pre.holds [] { args := args } = true := (pre_splitW hpre).2
  obtain ⟨d, r, rfl, h1, h2⟩ := hasAllW_cons hsh
  obtain rfl := hasAllW_nil h2
  obtain ⟨xs, rfl, h3⟩ := hasW_list h1
  obtain ⟨ns, rfl⟩ := items_int h3
  have hlen : ns.length ≤ n := by
    unfold OpenLaw.pre at hc
    have h4 : (WTm.not (.lt (.lit (.int (n : Int))) (.len (.arg 0)))).holds [] { args := [.list (ns.map .int)] } = true := by
      have h4 := (holds_andW hc).1
      rw [hn] at h4
      exact h4
    have h5 := condW_of h4 (w_not (w_lt w_lit (w_len_list (w_arg rfl))))
    rw [List.length_map] at h5
    refine Nat.le_of_not_lt fun q => ?_
    have q' : (n : Int) < ((ns.length : Nat) : Int) := by omega
    first
      | (rw [decide_eq_true q'] at h5; exact absurd h5 (by decide))
      | (simp at h5; omega)
  cases hwl with
  | cons w1 w2 =>
    cases w2
    cases w1 with
    | list ho hall => exact ⟨_, _, ns, rfl, rfl, ho, ints_of_wellAll ns _ hall, hlen⟩
theorem post_true (l : OpenLaw) (args : List WData) : l.row.toRowW.claim.post args (.bool true) args = true :=
  postW_of (r := l.row.toRowW) (X := (true == true))
    (show WShape.has [] (.bool true) .bool = true by first | rfl | decide | simp [WShape.has, WShape.arms, WShape.armsAll])
    (show (WTm.eq .res (.lit (.bool true))).value [] { args := args, res := some (.bool true), after := args } = some (.bool (true == true)) from w_eq_bool (w_res rfl) w_lit) rfl
section
variable {prog : Program} {w : World} {A : Around} {E : Value → Shared → Prop} {s : Shared} {K : Frag}
end
end Att
namespace L2
open PySem PySem.Spec PyProof.Rows
theorem vals_ints : ∀ {vs : List Value} {ns : List Int}, IntsAre vs ns → Vals (ns.map V.int) vs
  | _, _, .nil => .nil
  | _, _, .cons n t h => .cons ⟨t, rfl⟩ (vals_ints h)
def Only (H : Hp) : Prop := ∀ b, H b = none ∨ ∃ o xs, H b = some (.frz o (.lst xs))
end L2
namespace L2
open PySem PySem.Spec PyProof.Rows
end L2
namespace L2
open PySem PySem.Spec PyProof.Rows
def inClass (s : Stmt) (j : Nat) : Stmt := match s with
  | .ClassDef _ _ _ body _ _ _ _ _ _ _ => body.getD j (.Pass ⟨0, 0, 0, 0⟩)
  | _ => .Pass ⟨0, 0, 0, 0⟩
def defArgs (s : Stmt) : Arguments := match s with
  | .FunctionDef _ a _ _ _ _ _ _ _ _ => a
  | _ => { posonlyargs := [], args := [], vararg := none, kwonlyargs := [], kw_defaults := [], kwarg := none, defaults := [] }
def defBody (s : Stmt) : List Stmt := match s with
  | .FunctionDef _ _ b _ _ _ _ _ _ _ => b
  | _ => []
def defScope (s : Stmt) : Scope := match s with
  | .FunctionDef _ _ _ _ _ _ sc _ _ _ => sc
  | _ => { kind := .function, names := [], isGenerator := false, isCoroutine := false }
abbrev CX0 : CXT := fun _ _ _ _ _ _ => False
abbrev E0 : XK := fun _ _ _ => False
theorem pass0 {X : Cx} : Passes CX0 X E0 := fun _ _ _ _ _ _ _ h => h.elim
structure Fun (K : PySem.W.Frag) (x qual : Str) (st : Stmt) (f : Addr) (fd : FuncData) : Prop where
  ex : ∃ (oc : Value) (od : Option Addr) (kV doc pm : Value) (an : Option Addr) (cdv ct : Value) (osl : Array (Option Value)),
    fd = PySem.W.fnOf x qual (defArgs st) (defBody st) (defScope st) .none kV doc pm an cdv ct ∧ K.lookup f = some ⟨oc, od, .func fd, osl⟩ ∧ PySem.W.codeIn K cdv qual = true
  kp : PySem.W.keepIn K (.ref f) = true
section
variable {P : Program} {w : World} {K : PySem.W.Frag} {mg : Str → Option Value} {base : Heap}
theorem Fun.ok {x qual : Str} {st : Stmt} {f : Addr} {fd : FuncData} {N ps : List Str} {k : Nat} {sp : Sp} (F : Fun K x qual st f fd) (S : FnScope N ps (defScope st)) (len : ∀ vs H Q E, sp vs H Q E → vs.length = ps.length)
    (hbody : ∀ (cdv : Value) (A : Around) (outer : List Env) (s : Shared) (H : Hp) (vs : List V) (Q : VK) (E : XK), Room k (A.deeper (envOfC qual (defScope st) s.heap.objs.size f cdv)) → sp vs H Q E →
      ∃ t, PSs (cxOf CX0 P w K mg base N qual (defScope st) f cdv A outer s H E).nox (defBody st) t ∧ t { nx := fun _ H' => Q .non H', rt := Q } (start N vs) H) : FnOk P w K mg base CX0 (k + 1) f fd ps sp := by
  obtain ⟨oc, od, kV, doc, pm, an, cdv, ct, osl, rfl, lk, hcd⟩ := F.ex
  refine fn_of lk hcd S len fun A outer s H vs Q E hr hsp => ?_
  obtain ⟨t, h, q⟩ := hbody cdv A outer s H vs Q E hr hsp
  exact ⟨t, h.nox, q⟩
theorem Fun.binds {x qual : Str} {st : Stmt} {f : Addr} {fd : FuncData} {ps : List Str} (F : Fun K x qual st f fd)
    (h : ∀ (kV doc pm : Value) (an : Option Addr) (cdv ct : Value) (us : List Value), us.length = ps.length → bindArgs (PySem.W.fnOf x qual (defArgs st) (defBody st) (defScope st) .none kV doc pm an cdv ct) ⟨us, []⟩ = pure (ps.zip us)) : Binds K fd ps [] := by
  obtain ⟨oc, od, kV, doc, pm, an, cdv, ct, osl, rfl, lk, hcd⟩ := F.ex
  exact .all (h kV doc pm an cdv ct)
theorem fun_mk {x qual : Str} {st : Stmt} {f : Addr} {oc : Value} {od an : Option Addr} {osl : Array (Option Value)} {kV doc pm cdv ct : Value} (l : K.lookup f = some ⟨oc, od, .func (PySem.W.fnOf x qual (defArgs st) (defBody st) (defScope st) .none kV doc pm an cdv ct), osl⟩)
    (c : PySem.W.codeIn K cdv qual = true) (k : PySem.W.keepIn K (.ref f) = true) : Fun K x qual st f (PySem.W.fnOf x qual (defArgs st) (defBody st) (defScope st) .none kV doc pm an cdv ct) := ⟨⟨oc, od, kV, doc, pm, an, cdv, ct, osl, rfl, l, c⟩, k⟩
end
section
variable {X : Cx}
theorem pv (i : Nat) {x : Str} {pos : Pos} (hN : X.N[i]? = some x := by rfl) (hv : Vis X.env.scope x := by first | exact Or.inl rfl | exact Or.inr (Or.inl rfl) | exact Or.inr (Or.inr rfl)) (hd : (x == ("__debug__" : Str)) = false := by decide)
    (hcd : (x == ("__classdict__" : Str)) = false := by decide) : PE X (.Name x pos) (tVar i) := pe_var hN hv hd hcd
end
theorem ite2 {c A B : Prop} [Decidable c] (h1 : c → A) (h2 : ¬ c → B) : if c then A else B := by
  by_cases h : c
  · rw [if_pos h]
    exact h1 h
  · rw [if_neg h]
    exact h2 h
section
variable {X : Cx}
end
section
variable {κ : Type} [DecidableEq κ]
end
end L2
set_option Elab.async false
set_option linter.all false
set_option maxRecDepth 100000
set_option maxHeartbeats 4000000
namespace Att
open PySem PySem.W PySem.Calls PyProof.Rows
theorem script_low {R : WRecords} {cl : Str → Option Addr} {h : Heap} {a : Addr} {ds : List WData} {as : List Addr} (r : ReadsAllW R cl h [.ref a] [.list ds] as) : a ∈ as := by
  cases r with
  | cons r1 r2 =>
    cases r1 with
    | list => simp
theorem attach_callS {l : OpenLaw} {n : Nat} {q : Program} {loose : List Str} {XP : (Str → Option Value) → Heap → Prop} {YP : World → Heap → Prop} {d : DefRec}
    (hn : l.most = some n) (hdf : d.params.defaults = [])
    (call : ∀ (w : World) (s₀ s₁ : Shared) (mg mb : Str → Option Value) (fa : Addr) (o : Obj) (pm cd doc : Value) (a : Addr) (vs : List Value) (ns : List Int),
      Ground q loose [] XP w s₀ mg mb s₁.heap → YP w s₁.heap →
      s₁.heap.get? fa = some o → o.data = .func (docDef d.name d.params d.body d.scope pm cd doc) → s₁.heap.CodeRec cd d.name → mg d.name = some (.ref fa) →
      s₁.heap.get? a = some { cls := .type "list", data := .seq vs.toArray } → IntsAre vs ns → ns.length ≤ n → s₁.gens = #[] → a ≠ sysModules →
      codeAny (model l.prog w) callerA (.call (.ref fa) ⟨[.ref a], []⟩) (fun r s' => r = .ok (.ret (.bool true)) ∧ OldK s₁.heap s'.heap ∧ s'.os = s₁.os ∧ AllBare s'.gens) s₁) :
    WalkO q loose XP YP l.row.toRowW d [] (fun f vs => PySem.call f vs) := by
  intro w s₀ s₁ mg mb G Y fa o pm cd doc dV kV ho hd hcd hD hmg hg args vals as hpre hlay hrd hwl hlo
  obtain rfl : dV = .none := Dflts.none hD hdf
  obtain rfl : kV = .none := Dflts.noKw hD
  obtain ⟨a, vs, ns, rfl, rfl, hobj, hints, hlen⟩ := script_of hn hpre hwl
  have low : a ≠ sysModules := beq_eq_false_iff_ne.mp (hlo a (script_low hrd))
  refine enter_call (codeAny_mono (call w s₀ s₁ mg mb fa o pm cd doc a vs ns G Y ho (fd_plain hd) hcd hmg hobj hints hlen hg low) fun r s' hq => ?_)
  obtain ⟨rfl, h2, h3, h4⟩ := hq
  exact ⟨.inl ⟨.bool true, .bool true, [], rfl, fun _ => rfl, .bool true, post_true l _, fun _ => ⟨List.Pairwise.nil, fun _ hm => (nomatch hm)⟩⟩, h2, h3, h4⟩
end Att
namespace L2
open PySem PySem.Spec PyProof.Rows
theorem law_callS {P : Program} {w : World} {K : PySem.W.Frag} {mg mb : Str → Option Value} {CX : CXT} {k : Nat} {fa a : Addr} {fd : FuncData} {x : Str} {sp : Sp} {s₁ : Shared} {vs : List Value} {ns : List Int}
    (KX : K.In s₁.heap) (hns : s₁.heap.Ns mainGlobals mg) (hb : s₁.heap.Ns builtinsNs mb) (hbb : ∀ x : Str, x ≠ "__name__" → mb x = bootBuiltins x) (hlim : s₁.heap.NoLimit) (hg : s₁.gens = #[])
    (ha : s₁.heap.get? a = some { cls := .type "list", data := .seq vs.toArray }) (hi : IntsAre vs ns) (hl : ns.length ≤ sizeLine) (hr : Room k callerA) (low : a ≠ sysModules)
    (F : ∀ base : Heap, K.In base → base.Ns mainGlobals mg → FnOk P w K mg base CX k fa fd [x] sp) (hbind : ∀ (s : Shared) (u : Value), BindsTo s fd ⟨[u], []⟩ [(x, u)])
    (hsp : ∀ H : Hp, Only H → SqL K H a (ns.map V.int) → H sysModules = none → sp [.ref a] H (fun v _ => v = .bl true) fun _ _ _ => False)
    (hCX : ∀ H e s', CX [] H s₁ (fun _ _ _ => False) e s' → False) :
    codeAny (model P w) callerA (.call (.ref fa) ⟨[.ref a], []⟩) (fun r s' => r = .ok (.ret (.bool true)) ∧ OldK s₁.heap s'.heap ∧ s'.os = s₁.os ∧ AllBare s'.gens) s₁ := by
  have rv := vals_ints hi
  have lenV := hi.length
  have core : ∀ H : Hp, Only H → SqL K H a (ns.map V.int) → HOk P w H s₁.heap → (∀ b, H b ≠ none → b = a) → (H a ≠ none → K.lookup a = none) →
      codeAny (model P w) callerA (.call (.ref fa) ⟨[.ref a], []⟩) (fun r s' => r = .ok (.ret (.bool true)) ∧ OldK s₁.heap s'.heap ∧ s'.os = s₁.os ∧ AllBare s'.gens) s₁ := by
    intro H hO hS hok hA hK
    have hz : H sysModules = none := by
      cases q : H sysModules with
      | none => rfl
      | some u => exact absurd (hA _ (by rw [q]; simp)).symm low
    have base_of : ∀ {b : Addr} {o : Obj}, s₁.heap.get? b = some o → H b = none → (hidT s₁.heap H).get? b = some o := fun e n => hidT_get e n
    have noA : ∀ {b : Addr} {o : Obj} {es : Array DictEntry} {ep : Nat}, s₁.heap.get? b = some o → o.data = .dict es ep → H b = none := fun {b o es ep} e d => by
      cases q : H b with
      | none => rfl
      | some u =>
        have e' : b = a := hA b (by rw [q]; simp)
        subst e'
        rw [ha] at e; cases e
        have d' : Data.seq vs.toArray _ = Data.dict es ep := d
        cases d'
    have nsK : ∀ {b : Addr} {m : Str → Option Value}, s₁.heap.Ns b m → (hidT s₁.heap H).Ns b m := fun {b m} ⟨o, es, ep, e, d, r⟩ => ⟨o, es, ep, base_of e (noA e d), d, r⟩
    have hKb : K.In (hidT s₁.heap H) := fun b o e => base_of (KX b o e) (by
      cases q : H b with
      | none => rfl
      | some u =>
        have e' : b = a := hA b (by rw [q]; simp)
        subst e'
        rw [hK (by rw [q]; simp)] at e; cases e)
    have hM : Mod K mg (hidT s₁.heap H) := ⟨hKb, nsK hns, ⟨mb, nsK hb, hbb⟩, let ⟨mc, h1, h2⟩ := hlim; ⟨mc, nsK h1, h2⟩⟩
    have e0 : Env0 P w K mg (hidT s₁.heap H) callerA [] s₁ H := ⟨rfl, hM, fun b o e => of_hidT e, Nat.le_of_eq (hidT_size _ _), trivial, fun b hb => absurd (show b ∈ ([] : List Addr) from hb) (by simp), hok, .of_eq hg⟩
    refine codeAny_mono ((F _ hKb (nsK hns)).run callerA [] s₁ H ⟨[.ref a], []⟩ [.ref a] [.ref a] _ _ hr e0 (hbind s₁ (.ref a)) (.cons rfl .nil) (hsp H hO hS hz)) fun r s' h => ?_
    cases r with
    | error e => exact (hCX H e s' h).elim
    | ok fl =>
      cases fl with
      | next => exact False.elim h
      | brk => exact False.elim h
      | cont => exact False.elim h
      | ret u =>
        obtain ⟨v, H', os, bare, un, hok', r', q⟩ := h
        have q' : v = .bl true := q
        subst q'
        obtain rfl : u = Value.bool true := r'
        refine ⟨rfl, OldK.of_keep fun b o e => ?_, os, bare⟩
        cases q : H b with
        | none => exact un.keep b o e q (by intro z; exact absurd (show b ∈ ([] : List Addr) from z) (by simp)) (by simp)
        | some u =>
          rcases hO b with z | ⟨ob, xs, z⟩
          · rw [q] at z; cases z
          · have z2 := un.frzs b ob _ z
            obtain ⟨e1, _⟩ := hok b _ z
            obtain ⟨e2, _⟩ := hok' b _ z2
            rw [e] at e1; cases e1
            exact e2
  cases hk : K.lookup a with
  | some o =>
    have e := KX a o hk
    rw [ha] at e
    cases e
    refine core (fun _ => none) (fun _ => .inl rfl) (.inr ⟨_, vs.toArray, _, hk, rfl, rfl, rfl, by rw [List.size_toArray, lenV]; exact hl, by simpa using rv⟩) (fun b u z => by have z' : (none : Option HO) = some u := z; cases z') (fun b z => absurd rfl z) fun z => absurd rfl z
  | none =>
    refine core (fun b => if b = a then some (.frz { cls := .type "list", data := .seq vs.toArray } (.lst (ns.map V.int))) else none) (fun b => ?_) (.inl (.inr ⟨{ cls := .type "list", data := .seq vs.toArray }, if_pos rfl⟩)) (fun b u z => ?_) (fun b z => ?_) fun _ => hk
    · by_cases hb : b = a
      · exact .inr ⟨_, _, if_pos hb⟩
      · exact .inl (if_neg hb)
    · by_cases hb : b = a
      · have z' := (if_pos hb).symm.trans z
        cases z'
        subst hb
        exact ⟨ha, by rw [List.length_map]; exact hl, vs, _, rv, ha⟩
      · have z' := (if_neg hb).symm.trans z
        cases z'
    · by_cases hb : b = a
      · exact hb
      · exact absurd (if_neg hb) z
theorem walk_ofS {l : PySem.W.OpenLaw} {n k : Nat} {q : Program} {loose : List Str} {XP : (Str → Option Value) → Heap → Prop} {YP : World → Heap → Prop} {d : DefRec} {K : Params → PySem.W.Frag} {CX : World → CXT} {sp : World → Sp} {x : Str}
    (hn : l.most = some n) (hn2 : n ≤ sizeLine) (hdf : d.params.defaults = []) (hr : Room k callerA)
    (hY : ∀ (w : World) (h : Heap), YP w h → (K w.params).In h)
    (F : ∀ (w : World) (mg : Str → Option Value) (fa : Addr) (h : Heap), (K w.params).In h → h.Ns mainGlobals mg → mg d.name = some (.ref fa) →
      ∃ fd : FuncData, (∀ (s : Shared) (u : Value), BindsTo s fd ⟨[u], []⟩ [(x, u)]) ∧
        ∀ base : Heap, (K w.params).In base → base.Ns mainGlobals mg → FnOk l.prog w (K w.params) mg base (CX w) k fa fd [x] (sp w))
    (hsp : ∀ (w : World) (H : Hp) (a : Addr) (ns : List Int), ns.length ≤ n → Only H → SqL (K w.params) H a (ns.map V.int) → H sysModules = none → sp w [.ref a] H (fun v _ => v = .bl true) fun _ _ _ => False)
    (hCX : ∀ (w : World) (H : Hp) (s : Shared) (e : Value) (s' : Shared), CX w [] H s (fun _ _ _ => False) e s' → False) :
    PySem.W.WalkO q loose XP YP l.row.toRowW d [] (fun f vs => PySem.call f vs) := by
  refine Att.attach_callS hn hdf fun w s₀ s₁ mg mb fa o pm cd doc a vs ns G Y ho hd hcd hmg hobj hints hlen hg low => ?_
  have KX := hY w _ Y
  obtain ⟨fd, hb, hF⟩ := F w mg fa _ KX G.T.g hmg
  exact law_callS KX G.T.g G.T.b G.T.builtins G.T.nolimit hg hobj hints (Nat.le_trans hlen hn2) hr low hF hb (fun H hO hS hz => hsp w H a ns hlen hO hS hz) fun H e s' => hCX w H s₁ e s'
end L2
set_option Elab.async false
set_option linter.all false
set_option maxRecDepth 100000
set_option maxHeartbeats 4000000
namespace My
open PySem L2
def top (i : Nat) : Stmt := PySem.Challenge.pw_trialdeal_k15_texts_of_outcomes.main.body.getD i (.Pass ⟨0, 0, 0, 0⟩)
end My
set_option Elab.async false
set_option linter.all false
set_option maxRecDepth 100000
set_option maxHeartbeats 4000000
namespace My
open PySem
section
variable {prog : Program} {w : World} {A : Around} {h : Heap} {g : Array GenState} {d : Drawn} {tk : Nat} {os : OsState} {C N e t0 : Addr}
variable {nm q : Str} {bs bm bmB : List Value} {hdct ab : Bool} {sn : List Str} {sub : List Value} {col : Option Bool} {dd : Option Addr}
variable {k0 k1 k2 k3 k5 : Option Value} {B newId initId : String}
abbrev excAt (C t : Addr) : Obj := { cls := .ref C, data := .fields #[.ref t, .none, .none, .none, .bool false, .none] }
theorem viCall {R : Result → Shared → Prop} {v : Value} (F : ExcBaseFacts B newId initId bmB) (T : OwnTail h bmB bm)
    (hC : h.get? C = some (excClassObj nm q C N bs bm hdct sn sub ab col dd k0 k1 k2 k3 k5 newId)) (he : h.get? e = some (excAt C t0))
    (hR : ∀ h', h'.get? e = some (excAt C h.objs.size) → (∀ b o, b ≠ e → h.get? b = some o → h'.get? b = some o) → R (.ok (.ret .none)) ⟨h', g, d, tk, os⟩) :
    codeAny (model prog w) A (.call (.builtin initId) ⟨[.ref e, v], []⟩) R ⟨h, g, d, tk, os⟩ := by
  refine codeAny_call_builtin F.init.plain F.initEntry (wpAny_check_init_subT F T hC he rfl ?_)
  wp_walk
  refine hR _ ?_ fun b o hb eb => ?_
  · exact Heap.get?_update_self _ (Heap.get?_push_of_some _ he) rfl
  · exact (Heap.get?_update_ne _ _ _ _ hb).trans (Heap.get?_push_of_some _ eb)
end
end My
set_option Elab.async false
set_option linter.all false
set_option maxRecDepth 100000
set_option maxHeartbeats 4000000
namespace My
open PySem PySem.W Builtin Builtin.ObjectAttr
section
variable {prog : Program} {w : World} {A : Around} {s : Shared} {K : Frag} {C x : Addr}
theorem osaPass {R : Result → Shared → Prop} {ox : Obj} {od : Option Obj} {name : Str} {tk : Tok} {v : Value} {cd : ClassData} (X : K.In s.heap) (I : InstAt s.heap x ox C od)
    (hc : clsIn K C = some cd) (hp : refuseLoop (.ref x) "__setattr__" cd.mro = pure ()) (hm0 : mroIn K C (.type "object") = some true) (ht : takerIn K C name = some none)
    (h : ∀ b, wpAny (model prog w) A.in1 (storeInOwnDict (.ref x) (.ref C) (.str name tk) name v b)
      (fun fin s' => match fin with | .done f => R (.ok f) s' | .again c' => c'.quiet = true ∧ codeAny (model prog w) A c' R s') (fun e s' => R (.error e) s') s) :
    codeAny (model prog w) A (.call (.builtin "object.__setattr__") ⟨[.ref x, .str name tk, v], []⟩) R s := by
  have SF := PySem.F.store_object
  have sub : Looks (model prog w) s.heap (isInstance (.ref x) (.type "object")) true := I.type.andThen (looks_mroIn X hm0)
  refine codeAny_call_builtin SF.slot.plain SF.entry (@check_slot (model prog w) _ _ s "object.__setattr__" "object" "__setattr__" (.ref x) [.str name tk, v] [] _ SF.kind SF.split sub (SF.args _ _ _) ?_)
  obtain ⟨attr, ha, hr⟩ := Option.bind_eq_some_iff.mp ht
  have hm : Looks (model prog w) s.heap (mroOf (.ref C)) cd.mro := (looks_clsIn X hc).andThen .now
  have L3 : Looks (model prog w) s.heap (storeTaker? attr) none := by
    cases attr with
    | none => exact .now
    | some a =>
      obtain ⟨b, hb, e⟩ := Option.map_eq_some_iff.mp hr
      refine (looks_takesIn X hb).andThen ?_
      cases b
      · exact .now
      · cases e
  rw [osa_eq, refuse_eq]
  refine wpAny_bind (wpAny_bind (I.type.here (wpAny_bind (hm.here ?_))))
  rw [hp]
  refine wpAny_pure (wpAny_bind (I.type.here (wpAny_bind ((looks_findIn X ha).here (wpAny_bind (L3.here ?_))))))
  exact h _
end
end My
set_option Elab.async false
set_option linter.all false
set_option maxRecDepth 100000
set_option maxHeartbeats 4000000
namespace My
open PySem PySem.W Builtin Builtin.ObjectAttr
section
variable {prog : Program} {w : World} {A : Around} {E : Value → Shared → Prop} {s : Shared} {K : Frag} {C x : Addr}
theorem setExc {fs : Array Value} {sl : Array (Option Value)} {name : Str} {v : Value} {cd : ClassData} {Q : Unit → Shared → Prop} (X : K.In s.heap) (hx : s.heap.get? x = some ⟨.ref C, none, .fields fs, sl⟩)
    (hs : findIn K (.ref C) "__setattr__" = some (some (.builtin "object.__setattr__"))) (hc : clsIn K C = some cd) (hd : cd.hasDict = true)
    (hp : refuseLoop (.ref x) "__setattr__" cd.mro = pure ()) (hm0 : mroIn K C (.type "object") = some true) (ht : takerIn K C name = some none)
    (h : ∀ h' tk, h'.get? x = some ⟨.ref C, some s.heap.objs.size, .fields fs, sl⟩ → h'.Ns1 s.heap.objs.size (fun y => if y = name then some v else none) →
      (∀ b o, b ≠ x → s.heap.get? b = some o → h'.get? b = some o) → Q () { s with heap := h', toks := tk }) : wpAny (model prog w) A (setAttr (.ref x) name v) Q E s := by
  have J : InstAt s.heap x ⟨.ref C, none, .fields fs, sl⟩ C none := ⟨hx, rfl, rfl, True.intro⟩
  refine set_plain X J hs (osaPass (s := { s with toks := s.toks + 1 }) X J hc hp hm0 ht fun b => ?_)
  refine wpAny_bind (wpAny_pure (wpAny_bind (wpAny_bind (wpAny_loadPart hx (wpAny_bind (Looks.here (s := { s with toks := s.toks + 1 }) (looks_clsIn X hc) ?_))))))
  rw [hd]
  have hx1 : (s.heap.push { cls := .type "dict", data := .dict #[] }).get? x = some ⟨.ref C, none, .fields fs, sl⟩ := Heap.get?_push_of_some _ hx
  have hxs : x ≠ s.heap.objs.size := Nat.ne_of_lt (Heap.lt_size hx)
  refine wpAny_bind (wpAny_alloc' ?_)
  refine wpAny_bind (wpAny_update' hx1 ?_)
  refine wpAny_pure ?_
  generalize eU : ((s.heap.push { cls := .type "dict", data := .dict #[] }).update x fun o => { cls := o.cls, dict := some s.heap.objs.size, data := o.data, slots := o.slots } : Heap) = hU
  have gd : hU.get? s.heap.objs.size = some { cls := .type "dict", data := .dict #[] } := by
    rw [← eU]
    exact (Heap.get?_update_ne _ _ _ _ hxs.symm).trans (Heap.get?_push_at rfl rfl)
  have gx : hU.get? x = some ⟨.ref C, some s.heap.objs.size, .fields fs, sl⟩ := by
    rw [← eU]
    exact Heap.get?_update_self _ hx1 rfl
  have nd : hU.Ns s.heap.objs.size (fun _ => none) := ⟨_, #[], _, gd, rfl, fun e he => absurd he (by simp), fun _ => rfl⟩
  show wpAny _ _ (storeInDict s.heap.objs.size (.str name _) name v) _ _ _
  unfold storeInDict newKeyGuard
  refine wpAny_bind (wpAny_pure (wpAny_bind (wpAny_nsSet1 (Heap.Ns1.of_empty nd) fun h' hn' hsb => ?_)))
  obtain ⟨oD, esD, epD, hoD, hdD, hcD⟩ := hn'.count (Within.cons name v Within.nil)
  refine wpAny_bind (wpAny_lookBehind hoD (by
    rw [hdD]
    exact pastItsLine_dict (Nat.le_trans hcD (by rw [List.length_cons, List.length_nil, sizeLine_eq]; omega))) ?_)
  refine wpAny_pure ?_
  refine h h' _ ((hsb.2 x hxs).trans gx) hn' fun b o hb e => ?_
  refine (hsb.2 b (Nat.ne_of_lt (Heap.lt_size e))).trans ?_
  rw [← eU]
  exact (Heap.get?_update_ne _ _ _ _ hb).trans (Heap.get?_push_of_some _ e)
end
end My
set_option Elab.async false
set_option linter.all false
set_option maxRecDepth 100000
set_option maxHeartbeats 4000000
namespace My
open PySem PySem.W Builtin Builtin.ObjectAttr
section
variable {prog : Program} {w : World} {A : Around} {E : Value → Shared → Prop} {s : Shared} {K : Frag} {C x dx : Addr}
abbrev bga : String := "BaseException.__getattribute__"
theorem bgaCall {R : Result → Shared → Prop} {ox : Obj} {od : Option Obj} {name : Str} {tk : Tok} {v : Value} (X : K.In s.heap) (I : InstAt s.heap x ox C od)
    (hm0 : mroIn K C (.type "BaseException") = some true) (hf : findObj K C od name = some (.value v)) (h : R (.ok (.ret v)) s) :
    codeAny (model prog w) A (.call (.builtin bga) ⟨[.ref x, .str name tk], []⟩) R s := by
  have sub : Looks (model prog w) s.heap (isInstance (.ref x) (.type "BaseException")) true := I.type.andThen (looks_mroIn X hm0)
  have L1 := looks_find (M := model prog w) X I hf
  refine codeAny_call_builtin PySem.F.excAttr_ValueError.ga.plain PySem.F.entry_bexc_ga (@check_slot (model prog w) _ _ s bga "BaseException" "__getattribute__" (.ref x) [.str name tk] [] _ (by decide +kernel) (by decide +kernel) sub (PySem.F.args_bexc_ga _ _) ?_)
  refine wpAny_bind (wpAny_pure (wpAny_bind (wpAny_pure (wpAny_bind (I.type.here (wpAny_bind (L1.here ?_)))))))
  exact wpAny_pure h
theorem getExc {expr : Bool} {ox : Obj} {od : Option Obj} {name : Str} {v : Value} {Q : Value → Shared → Prop} (X : K.In s.heap) (I : InstAt s.heap x ox C od)
    (hga : findIn K (.ref C) "__getattribute__" = some (some (.builtin bga))) (hk : findIn K (.ref C) "__getattr__" = some none)
    (hm0 : mroIn K C (.type "BaseException") = some true) (hf : findObj K C od name = some (.value v)) (hv' : handedIn v = true) (h : Q v { s with toks := s.toks + 1 }) :
    wpAny (model prog w) A (getAttr (.ref x) name expr) Q E s := by
  have L0 := I.type (M := model prog w)
  have L1 := looks_findIn (M := model prog w) X hga
  have L2 := looks_findIn (M := model prog w) X hk
  have f3 := PySem.F.excAttr_ValueError.ga.bind (.ref x)
  unfold getAttr getAttrBy
  refine wpAny_bind (wpAny_mkText (wpAny_holding (wpAny_bind (Looks.here (s := { s with toks := s.toks + 1 }) L0 (wpAny_bind (Looks.here (s := { s with toks := s.toks + 1 }) L1 ?_))))))
  have hx1 : (onTheHeap (Value.ref C) && Value.builtin bga == Value.builtin "object.__getattribute__") = false := by
    rw [show (Value.builtin bga == Value.builtin "object.__getattribute__") = false from by decide +kernel]
    rfl
  show wpAny _ _ (if (onTheHeap (Value.ref C) && Value.builtin bga == Value.builtin "object.__getattribute__") = true then _ else _) _ _ _
  rw [if_neg (by rw [hx1]; decide)]
  unfold getAttrByItsOwn
  refine wpAny_bind ?_
  show wpAny _ _ (typeLookup (.ref C) "__getattr__") _ _ _
  refine Looks.here (s := { s with toks := s.toks + 1 }) L2 ?_
  have hx0 : (expr && onTheHeap (Value.builtin bga)) = false := by cases expr <;> rfl
  refine wpAny_bind (wpAny_attempt (wpAny_holding ?_))
  unfold callGetattribute
  rw [if_neg (by rw [hx0]; decide)]
  unfold boundAndCalled
  rw [f3]
  refine wpAny_bind (wpAny_pure ?_)
  refine wpAny_call (bgaCall (s := { s with toks := s.toks + 1 }) X I hm0 hf ?_)
  show wpAny _ _ (handedOut v) _ _ _
  rw [handedOut_of hv']
  exact wpAny_pure h
end
end My
set_option Elab.async false
set_option linter.all false
set_option maxRecDepth 100000
set_option maxHeartbeats 4000000
namespace My
open PySem PySem.W
section
variable {prog : Program} {w : World} {A : Around} {E : Value → Shared → Prop} {h : Heap} {g : Array GenState}
variable {d : Drawn} {t : Nat} {os : OsState} {nm q : Str} {C N : Addr} {bs bm bmB : List Value} {hdct ab : Bool}
variable {sn : List Str} {sub : List Value} {col : Option Bool} {dd : Option Addr}
variable {k0 k1 k2 k3 k5 : Option Value} {B newId initId : String} {K : Frag}
abbrev tupO (vs : List Value) : Obj := { cls := .type "tuple", data := .seq vs.toArray }
theorem tcallK (X : K.In h) (F : ExcBaseFacts B newId initId bmB) (T : OwnTail h bmB bm) {rest : List Value}
    {fI : Addr} {Q : Fin → Shared → Prop}
    (hC : h.get? C = some (excClassObj nm q C N bs bm hdct sn sub ab col dd k0 k1 k2 k3 k5 newId))
    (hi : findIn K (.ref C) "__init__" = some (some (.ref fI))) (hfI : typeIn K (.ref fI) = some (.type "function"))
    (hq : wpAny (model prog w) A (call (.ref fI) (.ref (h.objs.size + 1) :: rest))
      (fun r s' => r = .none ∧ Q (.done (.ret (.ref (h.objs.size + 1)))) s') E ⟨(h.push (tupO rest)).push (excAt C h.objs.size), g, d, t, os⟩)
    (hrest : rest.length ≤ sizeLine) :
    wpAny (model prog w) A (Builtin.«type.__call__» ⟨.ref C :: rest, []⟩) Q E ⟨h, g, d, t, os⟩ := by
  repeat (first
    | with_reducible refine wpAny_loadPart_at hC ?_
    | with_reducible refine wpAny_madeBy_exc hC ?_
    | wp_step)
  refine codeAny_call_builtin_code (Code.quiet_builtin _ F.quiet) (wpAny_check_new_subT F T hC ?_)
  refine codeAny_exc_new_subT F T hC ?_ hrest
  show wpAny _ _ _ _ _ _
  have up : ∀ b o, h.get? b = some o → ((h.push (tupO rest)).push (excAt C h.objs.size)).get? b = some o :=
    fun b o e => Heap.get?_push_of_some _ (Heap.get?_push_of_some _ e)
  have hC1 := up _ _ hC
  have X1 : K.In ((h.push (tupO rest)).push (excAt C h.objs.size)) := X.keeps up
  have hg1 : ((h.push (tupO rest)).push (excAt C h.objs.size)).get? (h.objs.size + 1) = some (excAt C h.objs.size) := by heap_get
  have hcC : (Value.ref C :: bm).contains (.ref C) = true := by simp
  unfold isInstance
  repeat (first
    | with_reducible refine wpAny_loadPart_at hg1 ?_
    | (with_reducible refine wpAny_isSubtype_exc hC1 ?_; rw [hcC])
    | wp_step)
  show wpAny _ _ (typeLookup (.ref C) _) _ _ _
  refine Looks.here (s := ⟨(h.push (tupO rest)).push (excAt C h.objs.size), g, d, t, os⟩) (looks_findIn X1 hi) ?_
  refine wpAny_holding (wpAny_bind ?_)
  unfold bindSpecial
  refine wpAny_bind (Looks.here (s := ⟨(h.push (tupO rest)).push (excAt C h.objs.size), g, d, t, os⟩) (looks_typeIn X1 hfI) ?_)
  rw [if_pos (by decide)]
  refine wpAny_pure (wpAny_bind (wpAny_mono hq (fun r s' hr => ?_) fun _ _ x => x))
  obtain ⟨rfl, hQ⟩ := hr
  wp_walk
  exact hQ
theorem callK (X : K.In h) (F : ExcBaseFacts B newId initId bmB) (T : OwnTail h bmB bm) {rest : List Value}
    {fI : Addr} {Q : Value → Shared → Prop}
    (hC : h.get? C = some (excClassObj nm q C N bs bm hdct sn sub ab col dd k0 k1 k2 k3 k5 newId))
    (hi : findIn K (.ref C) "__init__" = some (some (.ref fI))) (hfI : typeIn K (.ref fI) = some (.type "function"))
    (hq : wpAny (model prog w) (A.under (.builtin "type.__call__" ⟨.ref C :: rest, []⟩))
      (call (.ref fI) (.ref (h.objs.size + 1) :: rest)) (fun r s' => r = .none ∧ Q (.ref (h.objs.size + 1)) s') E ⟨(h.push (tupO rest)).push (excAt C h.objs.size), g, d, t, os⟩)
    (hrest : rest.length ≤ sizeLine) : wpAny (model prog w) A (call (.ref C) rest) Q E ⟨h, g, d, t, os⟩ := by
  have f1 := tc_lookup
  have f2 := tc_bind (.ref C)
  have hT : Shared.TypeIs ⟨h, g, d, t, os⟩ (.ref C) "type" := ⟨_, hC, rfl⟩
  refine wpAny_call (codeAny_of_tree ?_)
  show wpAny _ _ (callAny (.ref C) _) _ _ _
  repeat (any_goals (first
    | assumption
    | with_reducible refine wpAny_loadPart_at hC ?_
    | wp_step))
  refine ⟨rfl, ?_⟩
  refine codeAny_call_builtin_at (Code.quiet_builtin _ (by decide +kernel)) entry_typeCall (wpAny_check_type_call_sub hC ?_)
  exact tcallK X F T hC hi hfI hq hrest
end
section
variable {prog : Program} {w : World} {A : Around} {E : Value → Shared → Prop} {s : Shared} {K : Frag} {x C : Addr} {ox : Obj} {od : Option Obj}
theorem findData {a g : Value} {name : Str} (hc : (clsIn K C).isSome = true) (ha : findIn K (.ref C) name = some (some a)) (hg : specialIn K a "__get__" = some (some g)) (ht : takesIn K a = some true) : findObj K C od name = some (.bind g a) := by
  obtain ⟨cd, hc⟩ := Option.isSome_iff_exists.mp hc
  unfold findObj
  rw [hc, Option.bind_some, ha, Option.bind_some]
  simp [hg, ht]
theorem bgaBind {R : Result → Shared → Prop} {name : Str} {tk : Tok} {a g : Value} (X : K.In s.heap) (I : InstAt s.heap x ox C od)
    (hm0 : mroIn K C (.type "BaseException") = some true) (hf : findObj K C od name = some (.bind g a))
    (h : wpAny (model prog w) A.in1 (call g [a, .ref x, .ref C]) (fun v s' => R (.ok (.ret v)) s') (fun e s' => R (.error e) s') s) :
    codeAny (model prog w) A (.call (.builtin bga) ⟨[.ref x, .str name tk], []⟩) R s := by
  have sub : Looks (model prog w) s.heap (isInstance (.ref x) (.type "BaseException")) true := I.type.andThen (looks_mroIn X hm0)
  have L1 := looks_find (M := model prog w) X I hf
  refine codeAny_call_builtin PySem.F.excAttr_ValueError.ga.plain PySem.F.entry_bexc_ga (@check_slot (model prog w) _ _ s bga "BaseException" "__getattribute__" (.ref x) [.str name tk] [] _ (by decide +kernel) (by decide +kernel) sub (PySem.F.args_bexc_ga _ _) ?_)
  refine wpAny_bind (wpAny_pure (wpAny_bind (wpAny_pure (wpAny_bind (I.type.here (wpAny_bind (L1.here ?_)))))))
  show wpAny _ _ (holding [a] (call g [a, .ref x, .ref C]) >>= ret) _ _ _
  exact wpAny_bind (wpAny_holding (wpAny_mono h (fun v s' z => wpAny_pure z) fun _ _ z => z))
structure ErrI (K : Frag) (C : Addr) : Prop where
  cls : (clsIn K C).isSome = true
  ga : findIn K (.ref C) "__getattribute__" = some (some (.builtin bga))
  hk : findIn K (.ref C) "__getattr__" = some none
  mb : mroIn K C (.type "BaseException") = some true
  mo : mroIn K C (.type "object") = some true
  ca : findIn K (.ref C) "__class__" = some (some (.builtin "object.__class__"))
theorem errClass {Q : Option Value → Shared → Prop} (T : ErrI K C) (hn : specialIn K (.builtin "object.__class__") "__get__" = some (some (.builtin "getset_descriptor.__get__"))) (htk : takesIn K (.builtin "object.__class__") = some true)
    (X : K.In s.heap) (I : InstAt s.heap x ox C od) (h : Q (some (.ref C)) { s with toks := s.toks + 1 }) : wpAny (model prog w) A (getAttr? (.ref x) "__class__") Q E s := by
  have hf : findObj K C od "__class__" = some (.bind (.builtin "getset_descriptor.__get__") (.builtin "object.__class__")) := findData T.cls T.ca hn htk
  have L0 := I.type (M := model prog w)
  have L1 := looks_findIn (M := model prog w) X T.ga
  have L2 := looks_findIn (M := model prog w) X T.hk
  have f3 := PySem.F.excAttr_ValueError.ga.bind (.ref x)
  unfold getAttr? getAttrBy? getAttrBy
  refine wpAny_bind (wpAny_mkText (wpAny_bind (wpAny_attempt (wpAny_holding (wpAny_bind (Looks.here (s := { s with toks := s.toks + 1 }) L0 (wpAny_bind (Looks.here (s := { s with toks := s.toks + 1 }) L1 ?_))))))))
  have hx1 : (onTheHeap (Value.ref C) && Value.builtin bga == Value.builtin "object.__getattribute__") = false := by
    rw [show (Value.builtin bga == Value.builtin "object.__getattribute__") = false from by decide +kernel]
    rfl
  show wpAny _ _ (if (onTheHeap (Value.ref C) && Value.builtin bga == Value.builtin "object.__getattribute__") = true then _ else _) _ _ _
  rw [if_neg (by rw [hx1]; decide)]
  unfold getAttrByItsOwn
  refine wpAny_bind ?_
  show wpAny _ _ (typeLookup (.ref C) "__getattr__") _ _ _
  refine Looks.here (s := { s with toks := s.toks + 1 }) L2 ?_
  refine wpAny_bind (wpAny_attempt (wpAny_holding ?_))
  unfold callGetattribute
  rw [if_neg (by decide)]
  unfold boundAndCalled
  rw [f3]
  refine wpAny_bind (wpAny_pure ?_)
  refine wpAny_call (bgaBind (s := { s with toks := s.toks + 1 }) X I T.mb hf ?_)
  refine wpAny_call (class_get (s := { s with toks := s.toks + 1 }) (ox := ox) (od := od) X I T.mo ?_)
  show wpAny _ _ (handedOut (.ref C)) _ _ _
  rw [handedOut_of rfl]
  exact wpAny_pure (wpAny_pure h)
theorem kitErr (T : ErrI K C) (hn : specialIn K (.builtin "object.__class__") "__get__" = some (some (.builtin "getset_descriptor.__get__"))) (htk : takesIn K (.builtin "object.__class__") = some true) :
    KitX K (.ref x) (.ref C) (fun h => ∃ ox od, InstAt h x ox C od) where
  ty := fun _ _ _ ⟨_, _, I⟩ => I.type
  it := fun _ _ X _ => by
    obtain ⟨cdD, hcD⟩ := Option.isSome_iff_exists.mp T.cls
    unfold clsIn at hcD
    split at hcD
    · rename_i c' d' cd' sl' ho
      intro A' Q' E' s' k q
      unfold isType loadHead
      exact wpAny_bind (wpAny_loadPart (k _ _ (X _ _ ho)) (wpAny_pure q))
    · cases hcD
  ne := fun h tp dd its n sl X htp => by
    obtain ⟨cdD, hcD⟩ := Option.isSome_iff_exists.mp T.cls
    refine Bool.eq_false_iff.mpr fun q => ?_
    have e : C = tp := Value.ref.inj (beq_iff_eq.mp q)
    subst e
    unfold clsIn at hcD
    split at hcD
    · rename_i c' d' cd' sl' ho
      have z := (X _ _ ho).symm.trans htp
      cases z
    · cases hcD
  ca := fun X ⟨_, _, I⟩ k => errClass T hn htk X I k
end
end My
set_option Elab.async false
set_option linter.all false
set_option maxRecDepth 100000
set_option maxHeartbeats 4000000
namespace My
open PySem PySem.W L2
abbrev bmV : List Value := [.type "ValueError", .type "Exception", .type "BaseException", .type "object"]
abbrev errAt (C : Addr) (d : Option Addr) (t : Addr) : Obj := { cls := .ref C, dict := d, data := .fields #[.ref t, .none, .none, .none, .bool false, .none] }
def ErrO (x C : Addr) (d : Option Addr) : HO := .ext fun h => ∃ t, h.get? x = some (errAt C d t)
theorem errO_ok {P : Program} {w : World} {H : Hp} {h : Heap} {x C : Addr} {d : Option Addr} {t : Addr} (e : h.get? x = some (errAt C d t)) : ObjOk P w H h x (ErrO x C d) :=
  ⟨⟨t, e⟩, ⟨_, e⟩, fun _ _ ⟨t', e'⟩ k => ⟨t', k _ e'⟩⟩
theorem errO_at {P : Program} {w : World} {H : Hp} {h : Heap} {x C : Addr} {d : Option Addr} (ok : HOk P w H h) (e : H x = some (ErrO x C d)) : ∃ t, h.get? x = some (errAt C d t) := (ok x _ e).1
theorem upd_id {H : Hp} {a : Addr} {o : HO} (h : H a = some o) : upd H a o = H := by
  funext b
  unfold upd
  split
  · rename_i e; rw [e, h]
  · rfl
structure BaseC (K : Frag) (D : Addr) : Prop where
  cls : ∃ nm q N bs sn sub ab col dd k0 k1 k2 k3 k5, K.lookup D = some (excClassObj nm q D N bs bmV true sn sub ab col dd k0 k1 k2 k3 k5 "ValueError.__new__") ∧
     ∃ o es ep, K.lookup N = some o ∧ o.data = .dict es ep ∧ StrKeys es ∧ nsFind es "__init__" = none
  ga : specialIn K (.ref D) "__getattribute__" = some (some (.builtin "type.__getattribute__"))
  reads : readsIn K D (.type "type") = true
  ini : findCls K (.ref D) (.type "type") "__init__" = some (.val (.builtin "ValueError.__init__"))
  fi : findIn K (.ref D) "__init__" = some (some (.builtin "ValueError.__init__"))
  kp : keepIn K (.ref D) = true
  it : ErrI K D
theorem BaseC.tail {K : Frag} {D : Addr} (B : BaseC K D) {h : Heap} (X : K.In h) : OwnTail h bmV (.ref D :: bmV) := by
  obtain ⟨nm, q, N, bs, sn, sub, ab, col, dd, k0, k1, k2, k3, k5, l, o, es, ep, lN, hd, hs, hn⟩ := B.cls
  exact .own (X _ _ l) ⟨o, es, ep, X _ _ lN, hd, hs, fun _ => rfl⟩ hn .base
structure ErrC (K : Frag) (D : Addr) (nm : Str) (C f : Addr) : Prop where
  cls : ∃ q N bs sn sub ab col dd k0 k1 k2 k3 k5, K.lookup C = some (excClassObj nm q C N bs (.ref D :: bmV) true sn sub ab col dd k0 k1 k2 k3 k5 "ValueError.__new__")
  init : findIn K (.ref C) "__init__" = some (some (.ref f))
  fn : typeIn K (.ref f) = some (.type "function")
  kp : keepIn K (.ref C) = true
  sa : findIn K (.ref C) "__setattr__" = some (some (.builtin "object.__setattr__"))
  it : ErrI K C
theorem ErrC.clsIn {K : Frag} {D C f : Addr} {nm : Str} (T : ErrC K D nm C f) : ∃ cd, PySem.W.clsIn K C = some cd ∧ cd.hasDict = true ∧ cd.mro = .ref C :: .ref D :: bmV := by
  obtain ⟨q, N, bs, sn, sub, ab, col, dd, k0, k1, k2, k3, k5, l⟩ := T.cls
  unfold PySem.W.clsIn
  rw [l]
  exact ⟨_, rfl, rfl, rfl⟩
theorem ErrC.refuse {K : Frag} {D C f : Addr} {nm : Str} (T : ErrC K D nm C f) (x : Addr) : ∃ cd, PySem.W.clsIn K C = some cd ∧ cd.hasDict = true ∧ refuseLoop (.ref x) "__setattr__" cd.mro = pure () := by
  obtain ⟨cd, h1, h2, h3⟩ := T.clsIn
  refine ⟨cd, h1, h2, ?_⟩
  rw [h3, refuseLoop_ref, refuseLoop_ref]
  exact PySem.F.store_ValueError.passes _
section
variable {X : Cx} {pins : List (Addr × Obj)} {σ : St} {H : Hp} {s : Shared}
def spErr (C : Addr) (fld : Str) : Sp := fun vs H Q _ => ∃ x v, vs = [.ref x, v] ∧ H x = some (ErrO x C none) ∧ ∀ dx, H dx = none → dx ≠ x → Q .non (upd (upd H dx (.xd [(fld, v)])) x (ErrO x C (some dx)))
def tErr (C : Addr) (fld : Str) (te : TE) : TE := fun σ H Q => te σ H fun v H1 => ∀ x dx, H1 x = none → H1 dx = none → dx ≠ x → Q (.ref x) (upd (upd H1 dx (.xd [(fld, v)])) x (ErrO x C (some dx)))
theorem upd3 {H : Hp} {x dx : Addr} {a b c : HO} (n : dx ≠ x) : upd (upd (upd H x a) dx b) x c = upd (upd H dx b) x c := by
  funext z
  unfold upd
  by_cases h1 : z = x
  · rw [if_pos h1, if_pos h1]
  · rw [if_neg h1, if_neg h1]
    by_cases h2 : z = dx
    · rw [if_pos h2, if_neg h1]
    · rw [if_neg h2, if_neg h1]
theorem make_err {D C f : Addr} {nm fld : Str} {k : Nat} {fd : FuncData} {ps : List Str} {u : Value} {v : V} {Q : VK} (B : BaseC X.K D) (T : ErrC X.K D nm C f) (F : FnOk X.prog X.w X.K X.mg X.base CX0 k f fd ps (spErr C fld)) (hr : Room (k + 1) X.A) (hb : Binds X.K fd ps [])
    (I : Inv X pins σ H s) (r : RelV v u) (h : ∀ x dx, H x = none → H dx = none → dx ≠ x → Q (.ref x) (upd (upd H dx (.xd [(fld, v)])) x (ErrO x C (some dx)))) :
    wpAny (model X.prog X.w) X.A (call (.ref C) [u]) (EP X pins σ Q) X.xe s := by
  obtain ⟨hp, g, dr, tk, os⟩ := s
  obtain ⟨q, N, bs, sn, sub, ab, col, dd, k0, k1, k2, k3, k5, l⟩ := T.cls
  refine callK (C := C) I.kIn PySem.F.excBase_ValueError (B.tail I.kIn) (I.kIn _ _ l) T.init T.fn ?_ (by rw [List.length_cons, List.length_nil, sizeLine_eq]; omega)
  have f0 : H hp.objs.size = none := I.fresh
  have I1 : Inv X pins σ H ⟨hp.push (tupO [u]), g, dr, tk, os⟩ := I.kept (h' := hp.push (tupO [u])) (t' := tk) fun b o e => Heap.get?_push_of_some _ e
  have sz : (hp.push (tupO [u])).objs.size = hp.objs.size + 1 := Heap.size_push _ _
  have fx : H (hp.objs.size + 1) = none := by rw [← sz]; exact I1.fresh
  have I2 : Inv X pins σ (upd H (hp.objs.size + 1) (ErrO (hp.objs.size + 1) C none)) ⟨(hp.push (tupO [u])).push (excAt C hp.objs.size), g, dr, tk, os⟩ :=
    I1.laid (h' := (hp.push (tupO [u])).push (excAt C hp.objs.size)) (t' := tk) (a := hp.objs.size + 1) (fun b o e => Heap.get?_push_of_some _ e) (Nat.le_of_eq sz)
      (errO_ok (t := hp.objs.size) (Heap.get?_push_at sz.symm rfl))
  generalize (⟨(hp.push (tupO [u])).push (excAt C hp.objs.size), g, dr, tk, os⟩ : Shared) = s2 at I2 ⊢
  generalize hp.objs.size + 1 = x at fx I2 ⊢
  have r2 : Vals [V.ref x, v] [Value.ref x, u] := .cons rfl (.cons r .nil)
  have hsp : spErr C fld [V.ref x, v] (upd H x (ErrO x C none)) (fun y H2 => y = .non ∧ Q (.ref x) H2) E0 :=
    ⟨x, v, rfl, upd_same, fun dx hd nd => ⟨rfl, by
      rw [upd3 nd]
      rw [upd_ne nd] at hd
      exact h x dx fx hd nd⟩⟩
  have hl : ([Value.ref x, u] ++ [] : List Value).length = ps.length := by
    rw [List.append_nil, ← r2.length]
    exact F.len _ _ _ _ hsp
  have hbd := hb s2 [Value.ref x, u] I2.kIn hl
  rw [List.append_nil] at hbd
  refine wpAny_call (codeAny_mono (F.run _ X.stack s2 _ ⟨[Value.ref x, u], []⟩ [Value.ref x, u] _ _ E0 (hr.make C [u] []) (I2.env0.make C [u] []) hbd r2 hsp) fun r s' hq' => ?_)
  cases r with
  | error e => exact False.elim hq'
  | ok fl =>
    cases fl with
    | ret u' =>
      obtain ⟨y, H', I3, ry, ey, q3⟩ := I2.after hq'
      subst ey
      exact ⟨ry, V.ref x, H', I3, rfl, q3⟩
    | next => exact False.elim hq'
    | brk => exact False.elim hq'
    | cont => exact False.elim hq'
end
end My
set_option Elab.async false
set_option linter.all false
set_option maxRecDepth 100000
set_option maxHeartbeats 1000000
namespace My
open PySem PySem.W L2
def Head (h : Heap) (e : Addr) (vs : Array Value) : Prop := vs[1]? = some .none ∨ ∃ T oT ts, vs[1]? = some (.ref T) ∧ T ≠ e ∧ h.get? T = some oT ∧ oT.data = .fields ts ∧ ts[3]? = some .none
structure LeftX (fr : List Addr) (e T : Addr) (oe : Obj) (h h' : Heap) (r : Value) : Prop where
  keep : ∀ b o, b ≠ e → b ∉ fr → h.get? b = some o → h'.get? b = some o
  slot : ∀ b o, b ≠ e → h.get? b = some o → ∃ sl, h'.get? b = some { o with slots := sl }
  new : h.objs.size ≤ T
  exc : h'.get? e = some (oe.mapFields (fun x => x.setIfInBounds 1 (.ref T)))
  trc : ∃ oT ts, h'.get? T = some oT ∧ oT.data = .fields ts ∧ ts[3]? = some r ∧ T ≠ e
theorem set_same {vs : Array Value} {i : Nat} {v : Value} (h : vs[i]? = some v) : vs.setIfInBounds i v = vs := by
  obtain ⟨hi, e⟩ := Array.getElem?_eq_some_iff.mp h
  apply Array.ext
  · simp
  · intro j h1 h2
    simp only [Array.size_setIfInBounds] at h1
    rw [Array.getElem_setIfInBounds h1]
    split
    · rename_i z; subst z; exact e.symm
    · rfl
theorem mapF {o : Obj} {vs : Array Value} (hd : o.data = .fields vs) (f : Array Value → Array Value) : o.mapFields f = { o with data := .fields (f vs) } := by
  obtain ⟨c, d, dt, sl⟩ := o
  have e : dt = .fields vs := hd
  subst e
  rfl
theorem wp_newFields {M : Model} {A : Around} {E : Value → Shared → Prop} {s : Shared} {c : String} {vs : List Value} {Q : Value → Shared → Prop} (hl : vs.length ≤ sizeLine + 2)
    (q : Q (.ref s.heap.objs.size) { s with heap := s.heap.push { cls := .type c, data := .fields vs.toArray } }) : wpAny M A (newFields c vs) Q E s := by
  unfold newFields newObj
  refine wpAny_ite_false (decide_eq_false (by rw [List.size_toArray]; omega)) ?_
  unfold newObjAsIs
  exact wpAny_bind (wpAny_alloc (wpAny_pure q))
theorem place_len {pl : List Value} (h : IsPlace pl) : pl.length ≤ 6 := by
  rcases h with rfl | ⟨a, b, c, d, c9, b10, _, rfl⟩
  · decide
  · exact Nat.le_refl _
section
variable {M : Model} {A : Around} {E : Value → Shared → Prop} {s : Shared} {base : Heap} {env : Env} {outer : List Env} {L e : Addr} {oe : Obj} {vs : Array Value} {Q : Unit → Shared → Prop}
theorem note_jp {head : Value} {hn : Bool} (hA : A.frames = some (env :: outer)) (hF : s.heap.FunFrames base (env :: outer)) (hL : env.frame = some L) (he : s.heap.get? e = some oe) (hd : oe.data = .fields vs) (h1 : 1 < vs.size)
    (q : ∀ h' T, LeftX (frs (env :: outer)) e T oe s.heap h' (rawInt ↑L) → Q () { s with heap := h' }) :
    wpAny M A (do
      let a ← frameOf env
      let pl ← entryPlaceOf L hn
      let b ← EntryCells.newEntry head a .none (rawInt ↑L) .none pl
      setField (.ref e) 1 b) Q E s := by
  have nfr : e ∉ frs (env :: outer) := fun z => by
    obtain ⟨_, o, ho, hn⟩ := hF.mem z
    rw [he] at ho; cases ho
    exact hn vs hd
  refine wpAny_bind (wpAny_frameOf_fun hA hF hL fun h1' so => ?_)
  refine wpAny_bind (wpAny_entryPlaceOf fun pl hpl => ?_)
  refine wpAny_bind ?_
  unfold EntryCells.newEntry
  refine wp_newFields ?_ ?_
  · have := place_len hpl
    have b : 100 ≤ sizeLine := by decide
    rw [List.length_append]
    split
    · rw [List.length_replicate]; show 5 + 6 ≤ _; omega
    · show 5 + pl.length ≤ _; omega
  have e1 : h1'.get? e = some oe := by rw [so.2.1 e nfr]; exact he
  have lt := Heap.lt_size e1
  generalize hob : ({ cls := .type "traceback", data := .fields ([head, Value.ref L, .none, rawInt ↑L, .none] ++ if pl.isEmpty = true then List.replicate 6 Value.none else pl).toArray } : Obj) = ob
  have e2 : (h1'.push ob).get? e = some oe := Heap.get?_push_of_some _ e1
  refine wpAny_setField e2 hd h1 ?_
  refine q _ h1'.objs.size ⟨fun b o nb nf hb => ?_, fun b o nb hb => ?_, Nat.le_of_eq so.1.symm, ?_, ?_⟩
  · rw [Heap.get?_update_ne _ _ _ _ nb]
    exact Heap.get?_push_of_some _ (by rw [so.2.1 b nf]; exact hb)
  · obtain ⟨sl, z⟩ := so.2.2 b o hb
    exact ⟨sl, by rw [Heap.get?_update_ne _ _ _ _ nb]; exact Heap.get?_push_of_some _ z⟩
  · exact Heap.get?_update_self _ e2 (by rw [mapF hd]; rfl)
  · have nT : h1'.objs.size ≠ e := Ne.symm (Nat.ne_of_lt lt)
    refine ⟨ob, _, ?_, by rw [← hob], ?_, nT⟩
    · rw [Heap.get?_update_ne _ _ _ _ nT]
      exact Heap.get?_push_at rfl (by rw [← hob]; rfl)
    · rfl
theorem note_exact (hA : A.frames = some (env :: outer)) (hF : s.heap.FunFrames base (env :: outer)) (hL : env.frame = some L) (he : s.heap.get? e = some oe) (hd : oe.data = .fields vs) (hv : Head s.heap e vs)
    (q : ∀ h' T, LeftX (frs (env :: outer)) e T oe s.heap h' (rawInt ↑L) → Q () { s with heap := h' }) : wpAny M A (noteFrame (.ref e) env) Q E s := by
  unfold noteFrame
  rw [hL]
  rcases hv with hv | ⟨T, oT, ts, hv, nT, hT, hTd, h3⟩
  · have h1 : 1 < vs.size := (Array.getElem?_eq_some_iff.mp hv).1
    refine wpAny_bind (wpAny_field he hd hv ?_)
    refine wpAny_ite_false rfl ?_
    exact note_jp hA hF hL he hd h1 q
  · have h1 : 1 < vs.size := (Array.getElem?_eq_some_iff.mp hv).1
    have h3' : 3 < ts.size := (Array.getElem?_eq_some_iff.mp h3).1
    refine wpAny_bind (wpAny_field he hd hv ?_)
    refine wpAny_ite_true rfl ?_
    refine wpAny_bind (wpAny_field hT hTd h3 ?_)
    refine wpAny_ite_false rfl ?_
    refine wpAny_bind (wpAny_setField hT hTd h3' ?_)
    have g : ∀ b, (s.heap.update T (Obj.mapFields fun x => x.setIfInBounds 3 Value.none)).get? b = s.heap.get? b := fun b => by
      by_cases z : b = T
      · subst z
        rw [Heap.get?_update_self _ hT (by rw [mapF hTd]; rfl), hT, mapF hTd, set_same h3, ← hTd]
      · exact Heap.get?_update_ne _ _ _ _ z
    have sz : (s.heap.update T (Obj.mapFields fun x => x.setIfInBounds 3 Value.none)).objs.size = s.heap.objs.size := Heap.size_update _ _ _
    generalize s.heap.update T (Obj.mapFields fun x => x.setIfInBounds 3 Value.none) = h0 at g sz
    have hF0 : h0.FunFrames base (env :: outer) := Heap.FunFrames.of_keeps (fun b o hb _ => ⟨o, by rw [g]; exact hb, rfl⟩) hF
    refine note_jp (s := { s with heap := h0 }) hA hF0 hL (by show h0.get? e = _; rw [g]; exact he) hd h1 fun h' T' x => ?_
    exact q h' T' ⟨fun b o nb nf hb => x.keep b o nb nf (by show h0.get? b = _; rw [g]; exact hb), fun b o nb hb => x.slot b o nb (by show h0.get? b = _; rw [g]; exact hb), by rw [← sz]; exact x.new, x.exc, x.trc⟩
theorem LeftX.flight {fr : List Addr} {T : Addr} {h h' : Heap} {r : Value} (x : LeftX fr e T oe h h' r) (hd : oe.data = .fields vs) (h1 : 1 < vs.size) (s' : Shared) (es : s'.heap = h')
    (q : ∀ h2, LeftX fr e T oe h h2 .none → Q () { s' with heap := h2 }) : wpAny M A (setFlight (.ref e) none) Q E s' := by
  subst es
  obtain ⟨oT, ts, hT, hTd, h3, nT⟩ := x.trc
  have h3' : 3 < ts.size := (Array.getElem?_eq_some_iff.mp h3).1
  have e1 : (oe.mapFields (fun x => x.setIfInBounds 1 (.ref T))).data = .fields (vs.setIfInBounds 1 (.ref T)) := Obj.data_mapFields hd _
  have e2 : (vs.setIfInBounds 1 (Value.ref T))[1]? = some (.ref T) := by simp [h1]
  refine wpAny_setFlight_none x.exc e1 e2 hT hTd h3' (q _ ⟨fun b o nb nf hb => ?_, fun b o nb hb => ?_, x.new, ?_, ?_⟩)
  · have z := x.keep b o nb nf hb
    rw [Heap.get?_update_ne _ _ _ _ (fun w => ?_)]
    · exact z
    · rw [w] at hb
      exact absurd (Nat.lt_of_lt_of_le (Heap.lt_size hb) x.new) (Nat.lt_irrefl _)
  · obtain ⟨sl, z⟩ := x.slot b o nb hb
    refine ⟨sl, ?_⟩
    rw [Heap.get?_update_ne _ _ _ _ (fun w => ?_)]
    · exact z
    · rw [w] at hb
      exact absurd (Nat.lt_of_lt_of_le (Heap.lt_size hb) x.new) (Nat.lt_irrefl _)
  · rw [Heap.get?_update_ne _ _ _ _ nT.symm]
    exact x.exc
  · refine ⟨_, _, Heap.get?_update_self _ hT (by rw [mapF hTd]; rfl), Obj.data_mapFields hTd _, ?_, nT⟩
    simp [h3']
theorem leave_exact (hA : A.frames = some (env :: outer)) (hF : s.heap.FunFrames base (env :: outer)) (hL : env.frame = some L) (he : s.heap.get? e = some oe) (hd : oe.data = .fields vs) (hv : Head s.heap e vs)
    (q : ∀ h' T, LeftX (frs (env :: outer)) e T oe s.heap h' .none → Q () { s with heap := h' }) : wpAny M A (leaving env (.ref e)) Q E s := by
  have h1 : 1 < vs.size := by
    rcases hv with hv | ⟨T, oT, ts, hv, _⟩
    · exact (Array.getElem?_eq_some_iff.mp hv).1
    · exact (Array.getElem?_eq_some_iff.mp hv).1
  unfold leaving
  exact wpAny_bind (note_exact hA hF hL he hd hv fun h' T x => x.flight hd h1 _ rfl fun h2 x2 => q h2 T x2)
end
end My
set_option Elab.async false
set_option linter.all false
set_option maxRecDepth 100000
set_option maxHeartbeats 4000000
namespace My
open PySem PySem.W L2
def one (P : V → Hp → Prop) (vs : List V) (H : Hp) : Prop := match vs with
  | [v] => P v H
  | _ => False
theorem one_of {P : V → Hp → Prop} {vs : List V} {H : Hp} (h : one P vs H) : ∃ v, vs = [v] ∧ P v H := by
  cases vs with
  | nil => exact h.elim
  | cons v r =>
    cases r with
    | nil => exact ⟨v, rfl, h⟩
    | cons _ _ => exact h.elim
def two (P : V → V → Hp → Prop) (vs : List V) (H : Hp) : Prop := match vs with
  | [v, u] => P v u H
  | _ => False
theorem two_of {P : V → V → Hp → Prop} {vs : List V} {H : Hp} (h : two P vs H) : ∃ v u, vs = [v, u] ∧ P v u H := by
  match vs, h with
  | [v, u], h => exact ⟨v, u, rfl, h⟩
section
variable {X : Cx} {pins : List (Addr × Obj)} {σ : St} {H : Hp} {s : Shared}
theorem pe_err {D C f : Addr} {nm fld x : Str} {k : Nat} {fd : FuncData} {ps : List Str} {e : Expr} {te : TE} {p pos : Pos} (B : BaseC X.K D) (T : ErrC X.K D nm C f) (F : FnOk X.prog X.w X.K X.mg X.base CX0 k f fd ps (spErr C fld)) (hr : Room (k + 1) X.A) (hb : Binds X.K fd ps [])
    (hg : Gl X x) (hm : X.mg x = some (.ref C)) (ha : PE X e te) (hdb : (x == ("__debug__" : Str)) = false := by decide) (he : starEach [e] X.env = (false, eval e X.env) :: starEach [] X.env := by rfl) (hpl : (backTo pos (starEach [] X.env)).any (·.1) = false := by rfl) :
    PE X (.Call (.Name x p) [e] [] pos) (tErr C fld te) := by
  intro pins s σ H Q I h
  refine wpAny_Call_Name_kw (ld_glob I hg hm ?_ hdb)
  have pa : PA X [e] (tCons te tNil) := pa_cons ha pa_nil he
  have h' : tCons te tNil σ H (one fun v H1 => ∀ x dx, H1 x = none → H1 dx = none → dx ≠ x → Q (.ref x) (upd (upd H1 dx (.xd [(fld, v)])) x (ErrO x C (some dx)))) := h
  refine PySem.W.callWith_K (h₀ := X.base) I.ok.mod.kin T.kp (thn (pa pos pins s σ H _ I h') fun us s1 ⟨vs, H1, I1, r, q⟩ => ⟨I1.kIn, ?_⟩) he hpl
  obtain ⟨v, rfl, q⟩ := one_of q
  obtain ⟨u, rfl, ru⟩ := vals1 r
  exact make_err B T F hr hb I1 ru q
def tBI (ts tt : TE) (C : Addr) : TE := fun σ H Q => ts σ H fun x H1 => tt σ H1 fun v H2 => ∃ a, x = .ref a ∧ H2 a = some (ErrO a C none) ∧ Q .non H2
theorem pe_baseInit {D C f : Addr} {nm x : Str} {o e : Expr} {ts tt : TE} {p apos pos : Pos} {pl : Sem Bool} (B : BaseC X.K D) (T : ErrC X.K D nm C f) (hg : Gl X x) (hm : X.mg x = some (.ref D)) (hs : PE X o ts) (ht : PE X e tt) (hdb : (x == ("__debug__" : Str)) = false := by decide)
    (hst : starEach [o, e] X.env = (false, eval o X.env) :: starEach [e] X.env := by rfl) (hst2 : starEach [e] X.env = (false, eval e X.env) :: starEach [] X.env := by rfl) (hpl : (backTo pos (starEach [e] X.env)).any (·.1) = false := by rfl)
    (htr : eval (.Call (.Attribute (.Name x p) "__init__" apos) [o, e] [] pos) X.env = (do
      let ov ← eval (.Name x p) X.env
      standAt apos.atName
      let (f, first) ← holding [ov] (getMethod ov "__init__" pl)
      callWith pos f first (backTo pos (starEach [o, e] X.env)) (backToKw pos (keywordEach [] X.env))) := by rfl) :
    PE X (.Call (.Attribute (.Name x p) "__init__" apos) [o, e] [] pos) (tBI ts tt C) := by
  intro pins s σ H Q I h
  refine PySem.W.methodCall_KW (pl := pl) (ld_glob I hg hm ?_ hdb) htr
  refine method_cls I.kIn B.ga (cls_value I.kIn B.reads B.ini rfl ?_)
  have I0 : Inv X pins σ H { s with toks := s.toks + 1 } := I.tok _
  have pa : PA X [o, e] (tCons ts (tCons tt tNil)) := pa_cons hs (pa_cons ht pa_nil hst2) hst
  have h' : tCons ts (tCons tt tNil) σ H (two fun x v H2 => ∃ a, x = .ref a ∧ H2 a = some (ErrO a C none) ∧ Q .non H2) := h
  refine PyProof.Rows.callWith_builtin1 (thn (pa pos pins _ σ H _ I0 h') fun us s1 ⟨vs, H1, I1, r, q⟩ => ?_) hst hpl
  obtain ⟨_, v, rfl, a, rfl, ha, q⟩ := two_of q
  obtain ⟨u, u', rfl, ru, ru'⟩ := vals2 r
  cases (show u = Value.ref a from ru)
  obtain ⟨t0, hx⟩ := errO_at I1.hok ha
  obtain ⟨q', N, bs, sn, sub, ab, col, dd, k0, k1, k2, k3, k5, l⟩ := T.cls
  obtain ⟨hp, g, dr, tk, os⟩ := s1
  refine wpAny_call (viCall (C := C) PySem.F.excBase_ValueError (B.tail I1.kIn) (I1.kIn _ _ l) hx fun h' hx' hk => ?_)
  have I2 : Inv X pins σ (upd H1 a (ErrO a C none)) ⟨h', g, dr, tk, os⟩ := I1.write (h' := h') (t' := tk) (x := a) (e := a) (by rw [ha]; exact True.intro) (.inl rfl) (fun b o hb e => hk b o hb e) ⟨_, hx'⟩ (errO_ok hx')
  rw [upd_id ha] at I2
  exact ⟨.non, H1, I2, rfl, q⟩
def sErr (K : Frag) (C : Addr) (ta tv : TE) (f : Str) : TS := fun D σ H => tv σ H fun y H1 => ta σ H1 fun x H2 => ∃ a, x = .ref a ∧ H2 a = some (ErrO a C none) ∧ takerIn K C f = some none ∧ ∀ dx, H2 dx = none → dx ≠ a → D.nx σ (upd (upd H2 dx (.xd [(f, y)])) a (ErrO a C (some dx)))
theorem ps_err {D C fI : Addr} {nm f : Str} {o value : Expr} {ta tv : TE} {pos pos' : Pos} (T : ErrC X.K D nm C fI) (ha : PE X o ta) (hv : PE X value tv) (hs : swapsWith value (some (.Attribute o f pos')) pos.line X.env = pure false) :
    PS X (.Assign [.Attribute o f pos'] value pos) (sErr X.K C ta tv f) := by
  intro pins s σ H D' I h
  refine plainObj_wpAny_Assign_Attribute (thn (hv pins s σ H _ I h) fun u s1 ⟨y, H1, I1, ry, q⟩ => thn (ha pins s1 σ H1 _ I1 q) fun ov s2 ⟨x, H2, I2, rx, a, ex, ea, tk, q2⟩ => ?_) hs
  subst ex
  obtain rfl : ov = Value.ref a := rx
  obtain ⟨t0, hx⟩ := errO_at I2.hok ea
  obtain ⟨cd, hc, hd, hp⟩ := T.refuse a
  refine setExc I2.kIn hx T.sa hc hd hp T.it.mo tk fun h' tk' hx' hn' hk => ?_
  have fr : H2 s2.heap.objs.size = none := I2.fresh
  have nz : s2.heap.objs.size ≠ a := fun z => by rw [← z, fr] at ea; cases ea
  obtain ⟨oD, es, ep, hoD, rD⟩ := id hn'
  have nf : oD.isFreed = false := Obj.isFreed_of_dict rD.1
  have I3 : Inv X pins σ (upd H2 s2.heap.objs.size (.xd [(f, y)])) { s2 with heap := s2.heap.push oD, toks := s2.toks } := by
    refine I2.laid (h' := s2.heap.push oD) (t' := s2.toks) (a := s2.heap.objs.size) (fun b o e => Heap.get?_push_of_some _ e) (Nat.le_refl _) ⟨_, ⟨oD, es, ep, Heap.get?_push_at rfl nf, rD⟩, fun g => ?_⟩
    by_cases e : g = f
    · subst e
      rw [if_pos rfl, List.lookup_cons_self]
      exact ry
    · rw [if_neg e, List.lookup_cons, beq_eq_false_iff_ne.mpr e]
      exact True.intro
  have ea3 : upd H2 s2.heap.objs.size (.xd [(f, y)]) a = some (ErrO a C none) := by rw [upd_ne nz.symm]; exact ea
  have I4 : Inv X pins σ (upd (upd H2 s2.heap.objs.size (.xd [(f, y)])) a (ErrO a C (some s2.heap.objs.size))) { s2 with heap := h', toks := tk' } := by
    refine I3.write (h' := h') (t' := tk') (x := a) (e := a) (by rw [ea3]; exact True.intro) (.inl rfl) (fun b o hb e => ?_) ⟨_, hx'⟩ (errO_ok (t := t0) hx')
    by_cases z : b = s2.heap.objs.size
    · subst z
      have e' : (s2.heap.push oD).get? s2.heap.objs.size = some o := e
      rw [Heap.get?_push_at rfl nf] at e'
      cases e'
      exact hoD
    · have e' : (s2.heap.push oD).get? b = some o := e
      exact hk b o hb (by rw [← Heap.get?_push_ne _ _ oD z]; exact e')
  exact ⟨σ, _, I4, q2 _ fr nz⟩
end
end My
set_option Elab.async false
set_option linter.all false
set_option maxRecDepth 100000
set_option maxHeartbeats 4000000
namespace My
open PySem PySem.W L2
section
variable {prog : Program} {w : World} {A : Around} {E : Value → Shared → Prop} {h : Heap} {g : Array GenState}
variable {d : Drawn} {t : Nat} {os : OsState} {nm q : Str} {C N : Addr} {bs bm bmB : List Value} {hdct ab : Bool}
variable {sn : List Str} {sub : List Value} {col : Option Bool} {dd : Option Addr}
variable {k0 k1 k2 k3 k5 : Option Value} {B newId initId : String} {K : Frag}
end
section
variable {X : Cx} {pins : List (Addr × Obj)} {σ : St} {H : Hp} {s : Shared}
theorem err_inst {P : Program} {w : World} {H : Hp} {h : Heap} {a C dx : Addr} {fs : List (Str × V)} (ok : HOk P w H h) (ea : H a = some (ErrO a C (some dx))) (ed : H dx = some (.xd fs)) :
    ∃ (ox od : Obj), InstAt h a ox C (some od) ∧ ∃ mA : Str → Option Value, (∀ f, RelO (fs.lookup f) (mA f)) ∧ ∀ name, lookIn name od = some (mA name) := by
  obtain ⟨t, hx⟩ := errO_at ok ea
  obtain ⟨mA, hn, hr⟩ := (show ObjOk P w H h dx (.xd fs) from ok dx _ ed)
  obtain ⟨od, hod, hl⟩ := lookIn_ns hn
  exact ⟨_, od, ⟨hx, rfl, rfl, hod⟩, mA, hr, hl⟩
structure IsT (K : Frag) : Prop where
  gt : specialIn K (.builtin "object.__class__") "__get__" = some (some (.builtin "getset_descriptor.__get__"))
  tk : takesIn K (.builtin "object.__class__") = some true
def ErrAt (H : Hp) (a C : Addr) : Prop := H a = some (ErrO a C none) ∨ ∃ dx fs, H a = some (ErrO a C (some dx)) ∧ H dx = some (.xd fs)
theorem ErrAt.inst {P : Program} {w : World} {H : Hp} {h : Heap} {a C : Addr} (E : ErrAt H a C) (ok : HOk P w H h) : ∃ ox od, InstAt h a ox C od := by
  rcases E with e | ⟨dx, fs, ea, ed⟩
  · obtain ⟨t, hx⟩ := errO_at ok e
    exact ⟨_, none, ⟨hx, rfl, rfl, True.intro⟩⟩
  · obtain ⟨ox, od, J, _⟩ := err_inst ok ea ed
    exact ⟨ox, some od, J⟩
end
end My
set_option Elab.async false
set_option linter.all false
set_option maxRecDepth 100000
set_option maxHeartbeats 1000000
namespace My
open PySem PySem.W L2
open PyProof.Rows (AllBare)
abbrev errW (C : Addr) (d : Option Addr) (t : Addr) (v : Value) : Obj := { cls := .ref C, dict := d, data := .fields #[.ref t, v, .none, .none, .bool false, .none] }
def ErrT (x C : Addr) (d : Option Addr) : HO := .ext fun h => ∃ t v, h.get? x = some (errW C d t v)
theorem errT_ok {P : Program} {w : World} {H : Hp} {h : Heap} {x C : Addr} {d : Option Addr} {t : Addr} {v : Value} (e : h.get? x = some (errW C d t v)) : ObjOk P w H h x (ErrT x C d) :=
  ⟨⟨t, v, e⟩, ⟨_, e⟩, fun _ _ ⟨t', v', e'⟩ k => ⟨t', v', k _ e'⟩⟩
theorem errT_at {P : Program} {w : World} {H : Hp} {h : Heap} {x C : Addr} {d : Option Addr} (ok : HOk P w H h) (e : H x = some (ErrT x C d)) : ∃ t v, h.get? x = some (errW C d t v) := (ok x _ e).1
def Fly (n : Nat) (H : Hp) (h : Heap) (x C : Addr) (d : Option Addr) : Prop := ∃ t T oT ts, h.get? x = some (errW C d t (.ref T)) ∧ T ≠ x ∧ n ≤ T ∧ H T = none ∧ h.get? T = some oT ∧ oT.data = .fields ts ∧ ts[3]? = some Value.none
def CXE (P : Program) (w : World) : CXT := fun outer H s E e s' => ∃ x C dx fs H', e = .ref x ∧ s'.os = s.os ∧ AllBare s'.gens ∧ Un (frs outer) [] H H' s.heap s'.heap ∧ HOk P w H' s'.heap ∧ H' x = some (ErrT x C (some dx)) ∧ H' dx = some (.xd fs) ∧ Fly s.heap.objs.size H' s'.heap x C (some dx) ∧ E (.ref C) (some x) H'
section
variable {X : Cx} {pins : List (Addr × Obj)} {σ : St} {H : Hp} {s : Shared}
theorem Inv.left {x C : Addr} {d : Option Addr} {t T : Addr} {v r : Value} {h' : Heap} {o : HO} (I : Inv X pins σ H s) (hS : X.stack = X.env :: X.outer) (hx : H x = some o) (ho : (∃ φ, o = .ext φ)) (he : s.heap.get? x = some (errW C d t v))
    (l : LeftX (frs (X.env :: X.outer)) x T (errW C d t v) s.heap h' r) : Inv X pins σ (upd H x (ErrT x C d)) { s with heap := h' } := by
  obtain ⟨φ, rfl⟩ := ho
  have nx : ∀ b u, H b = some u → (∀ φ, u ≠ .ext φ) → b ≠ x := fun b u e n z => by
    subst z
    rw [hx] at e
    exact n φ (Option.some.inj e).symm
  have fr0 : ∀ b ∈ frs (X.env :: X.outer), H b = none := fun b hb => I.stkFree b (by rw [hS]; exact hb)
  have nfr : ∀ b u, H b = some u → b ∉ frs (X.env :: X.outer) := fun b u e z => by rw [fr0 b z] at e; cases e
  have exc : h'.get? x = some (errW C d t (.ref T)) := l.exc
  have sub : ∀ b, b ∈ frs (X.env :: X.outer) → b = X.env.locals ∨ b ∈ X.fs := fun b hb => List.mem_cons.mp (I.stkSub b (by rw [hS]; exact hb))
  refine I.step (g' := s.gens) (d' := s.drawn) (t' := s.toks) (ch := []) (fun _ z => nomatch z) (fun b o hL hf _ e n => ?_) (fun b o hL hf _ e n => ?_) (fun b o _ e n => ?_) (fun b o _ e => ?_) (fun b xs e => ?_) (fun b o u e => ?_) (fun b ps e => ⟨#[], ?_⟩) (fun e => ?_) (fun m hm => ?_) (fun b u e => ?_) I.bare
  · refine l.keep b o (fun z => by rw [z, hx] at n; cases n) (fun z => ?_) e
    rcases sub b z with q | q
    · exact hL q
    · exact hf q
  · exact l.slot b o (fun z => by rw [z, hx] at n; cases n) e
  · rw [upd_ne (fun z => by rw [z, hx] at n; cases n)]; exact n
  · by_cases z : b = x
    · subst z; exact ⟨_, exc⟩
    · obtain ⟨sl, q⟩ := l.slot b o z e
      exact ⟨_, q⟩
  · rw [upd_ne (nx b _ e fun _ => by intro z; cases z)]; exact e
  · rw [upd_ne (nx b _ e fun _ => by intro z; cases z)]; exact e
  · rw [upd_ne (nx b _ e fun _ => by intro z; cases z), e]; simp
  · rw [upd_ne (fun z => by rw [z, hx] at e; cases e)]; exact e
  · obtain ⟨o, es, ep, ho, r⟩ := hm
    obtain ⟨sl, q⟩ := l.slot _ o (fun z => by have := I.free; rw [z, hx] at this; cases this) ho
    exact ⟨_, es, ep, q, r⟩
  · by_cases z : b = x
    · subst z
      rw [upd_same] at e
      cases e
      exact errT_ok exc
    · rw [upd_ne z] at e
      refine (I.hok b u e).stay (fun c o' hc q => ?_) (fun c q => ?_) fun c xs q => ?_
      · rcases hc with rfl | hc
        · exact l.keep c o' z (nfr c u e) q
        · exact l.keep c o' (nx c _ hc fun _ => by intro w; cases w) (nfr c _ hc) q
      · rw [upd_ne (nx c _ q fun _ => by intro w; cases w)]; exact q
      · rw [upd_ne (nx c _ q fun _ => by intro w; cases w)]; exact q
end
section
variable {P : Program} {w : World} {K : Frag} {mg : Str → Option Value} {base : Heap} {N : List Str} {qual : Str} {scope : Scope} {f : Addr} {cd : Value} {A : Around} {outer : List Env} {s0 : Shared} {H0 : Hp} {E : XK} {pins : List (Addr × Obj)} {σ : St} {H : Hp} {s : Shared}
theorem xe_of {x C dx : Addr} {t : Addr} {v : Value} {o : HO} {fs : List (Str × V)} (I : Inv (cxOf (CXE P w) P w K mg base N qual scope f cd A outer s0 H0 E) pins σ H s) (hx : H x = some o) (ho : (∃ φ, o = .ext φ)) (hdx : H dx = some (.xd fs)) (he : s.heap.get? x = some (errW C (some dx) t v))
    (hv : Head s.heap x #[.ref t, v, .none, .none, .bool false, .none]) (q : E (.ref C) (some x) (upd H x (ErrT x C (some dx)))) : (cxOf (CXE P w) P w K mg base N qual scope f cd A outer s0 H0 E).xe (.ref x) s := by
  have hA := I.ok.frames
  refine leave_exact hA I.stack rfl he rfl hv fun h' T l => ?_
  have J := Inv.left I rfl hx ho he l
  have nT : H T = none := I.hok.fresh l.new
  obtain ⟨oT, ts, h1, h2, h3, h4⟩ := l.trc
  have nd : dx ≠ x := fun z => by
    obtain ⟨φ, rfl⟩ := ho
    rw [z, hx] at hdx; cases hdx
  refine ⟨x, C, dx, fs, _, rfl, J.os, J.bare, J.base, J.hok, upd_same, by rw [upd_ne nd]; exact hdx, ⟨t, T, oT, ts, l.exc, h4, Nat.le_trans I.sz l.new, ?_, h1, h2, h3⟩, q⟩
  rw [upd_ne h4]; exact nT
theorem passE : Passes (CXE P w) (cxOf (CXE P w) P w K mg base N qual scope f cd A outer s0 H0 E) E := by
  intro pins σ H s e s' I h
  obtain ⟨x, C, dx, fs, H', rfl, os, bare, un, hok, hx, hdx, ⟨t, T, oT, ts, h1, h2, _, h4, h5, h6, h7⟩, q⟩ := h
  have J := I.call' os un hok bare (fun b z => absurd z (by simp))
  refine xe_of J hx ⟨_, rfl⟩ hdx h1 (.inr ⟨T, oT, ts, rfl, h2, h5, h6, h7⟩) ?_
  rw [upd_id hx]
  exact q
end
end My
set_option Elab.async false
set_option linter.all false
set_option maxRecDepth 100000
set_option maxHeartbeats 1000000
namespace My
open PySem PySem.W L2
open PyProof.Rows (AllBare)
section
variable {prog : Program} {w : World} {A : Around} {E : Value → Shared → Prop} {s : Shared} {env : Env} {x : Sem Value} {Q : Flow → Shared → Prop} {K : Frag} {C : Addr}
theorem wp_raise (T : ErrI K C) (ht : typeIn K (.ref C) = some (.type "type")) (hA : A.handled = none)
    (hx : wpAny (model prog w) A x (fun v s1 => ∃ e t d od, v = .ref e ∧ InstAt s1.heap e (errAt C d t) C od ∧ K.In s1.heap ∧ E (.ref e) s1) E s) : wpAny (model prog w) A (raiseStmt env (some x) none) Q E s := by
  unfold raiseStmt
  refine wpAny_bind (wpAny_mono hx (fun v s1 h => ?_) (fun _ _ z => z))
  obtain ⟨e, t, d, od, rfl, I, KX, q⟩ := h
  obtain ⟨hp, g, dr, tk, os⟩ := s1
  have noC : ∀ c : ClassData, (errAt C d t).data ≠ Data.cls c := fun c z => by cases z
  refine wpAny_bind (wpAny_pure ?_)
  refine wpAny_bind ?_
  show wpAny _ _ (excFromValue (.ref e) _) _ _ _
  unfold excFromValue
  refine wpAny_bind ?_
  unfold isExcClass
  refine wpAny_bind (ks_wpAny_isType_inst I.at_ noC ?_)
  refine wpAny_ite_false rfl (wpAny_pure ?_)
  refine wpAny_ite_false rfl ?_
  refine wpAny_bind ?_
  have sub : Looks (model prog w) hp (isInstance (.ref e) (.type "BaseException")) true := I.type.andThen (looks_mroIn KX T.mb)
  refine Looks.here (s := ⟨hp, g, dr, tk, os⟩) sub ?_
  refine wpAny_ite_true rfl (wpAny_pure ?_)
  refine wpAny_bind (ks_wpAny_isType_inst I.at_ noC ?_)
  refine wpAny_ite_false rfl ?_
  refine wpAny_bind ?_
  unfold raisedInstance
  refine wpAny_bind (Looks.here (s := ⟨hp, g, dr, tk, os⟩) I.type ?_)
  refine wpAny_bind (Looks.here (s := ⟨hp, g, dr, tk, os⟩) (looks_typeIn KX ht) ?_)
  refine wpAny_ite_true rfl (wpAny_pure ?_)
  refine wpAny_bind ?_
  unfold setFlight
  refine wpAny_bind (wpAny_field I.at_ rfl rfl ?_)
  refine wpAny_ite_false rfl (wpAny_pure ?_)
  exact wpAny_raiseNew_none hA q
end
theorem ErrC.type {K : Frag} {D : Addr} {nm : Str} {C f : Addr} (T : ErrC K D nm C f) : typeIn K (.ref C) = some (.type "type") := by
  obtain ⟨q, N, bs, sn, sub, ab, col, dd, k0, k1, k2, k3, k5, l⟩ := T.cls
  show (K.lookup C).map (fun o => o.cls) = _
  rw [l]
  rfl
def qR (E : XK) (C : Addr) : VK := fun y H' => ∃ x dx fs, y = .ref x ∧ H' x = some (ErrO x C (some dx)) ∧ H' dx = some (.xd fs) ∧ E (.ref C) (some x) (upd H' x (ErrT x C (some dx)))
def tRaise (E : XK) (C : Addr) (fld : Str) (te : TE) : TS := fun _ σ H => tErr C fld te σ H (qR E C)
theorem upd_upd {H : Hp} {x : Addr} {a b : HO} : upd (upd H x a) x b = upd H x b := by
  funext z
  unfold upd
  by_cases h : z = x
  · rw [if_pos h, if_pos h]
  · rw [if_neg h, if_neg h, if_neg h]
section
variable {P : Program} {w : World} {K : Frag} {mg : Str → Option Value} {base : Heap} {N : List Str} {qual : Str} {scope : Scope} {f : Addr} {cd : Value} {A : Around} {outer : List Env} {s0 : Shared} {H0 : Hp} {E : XK}
abbrev cxE (P : Program) (w : World) (K : Frag) (mg : Str → Option Value) (base : Heap) (N : List Str) (qual : Str) (scope : Scope) (f : Addr) (cd : Value) (A : Around) (outer : List Env) (s0 : Shared) (H0 : Hp) (E : XK) : Cx := cxOf (CXE P w) P w K mg base N qual scope f cd A outer s0 H0 E
theorem ps_raise {D C fI : Addr} {nm fld x : Str} {k : Nat} {fd : FuncData} {ps : List Str} {e : Expr} {te : TE} {p pos pos' : Pos} (B : BaseC K D) (T : ErrC K D nm C fI) (F : FnOk P w K mg base CX0 k fI fd ps (spErr C fld)) (hr : Room (k + 1) (cxE P w K mg base N qual scope f cd A outer s0 H0 E).A) (hb : Binds K fd ps [])
    (hg : Gl (cxE P w K mg base N qual scope f cd A outer s0 H0 E) x) (hm : mg x = some (.ref C)) (ha : PE (cxE P w K mg base N qual scope f cd A outer s0 H0 E) e te)
    (hdb : (x == ("__debug__" : Str)) = false := by decide) (he : starEach [e] (cxE P w K mg base N qual scope f cd A outer s0 H0 E).env = (false, eval e (cxE P w K mg base N qual scope f cd A outer s0 H0 E).env) :: starEach [] (cxE P w K mg base N qual scope f cd A outer s0 H0 E).env := by rfl) (hpl : (backTo pos (starEach [] (cxE P w K mg base N qual scope f cd A outer s0 H0 E).env)).any (·.1) = false := by rfl) :
    PS (cxE P w K mg base N qual scope f cd A outer s0 H0 E) (.Raise (some (.Call (.Name x p) [e] [] pos)) none pos') (tRaise E C fld te) := by
  intro pins s σ H D' I h
  have pe := pe_err (X := cxE P w K mg base N qual scope f cd A outer s0 H0 E) (p := p) (pos := pos) B T F hr hb hg hm ha hdb he hpl
  have hd : (cxE P w K mg base N qual scope f cd A outer s0 H0 E).A.handled = none := I.ok.hd rfl
  rw [arm_exec_Raise]
  refine wpAny_bind (wpAny_standAt ?_)
  refine wp_raise T.it T.type hd ?_
  refine wpAny_bind (thn (pe pins s σ H (qR E C) I h) fun u s1 h1 => ?_)
  obtain ⟨y, H1, I1, ry, x, dx, fs, rfl, e1, e2, q⟩ := h1
  refine wpAny_bind (wpAny_standAt (wpAny_pure ?_))
  obtain ⟨t, ht⟩ := errO_at I1.hok e1
  obtain ⟨ox, od, J, _⟩ := err_inst I1.hok e1 e2
  have eo : ox = errAt C (some dx) t := Option.some.inj (J.at_.symm.trans ht)
  subst eo
  exact ⟨x, t, some dx, some od, ry, J, I1.kIn, xe_of I1 e1 ⟨_, rfl⟩ e2 ht (.inl rfl) q⟩
theorem qR_of {C x dx : Addr} {fld : Str} {v : V} {H1 : Hp} (nd : dx ≠ x) (q : E (.ref C) (some x) (upd (upd H1 dx (.xd [(fld, v)])) x (ErrT x C (some dx)))) : qR E C (.ref x) (upd (upd H1 dx (.xd [(fld, v)])) x (ErrO x C (some dx))) :=
  ⟨x, dx, _, rfl, upd_same, by rw [upd_ne nd, upd_same], by rw [upd_upd]; exact q⟩
theorem okE {x qual : Str} {st : Stmt} {f : Addr} {fd : FuncData} {N ps : List Str} {k : Nat} {sp : Sp} (F : Fun K x qual st f fd) (S : FnScope N ps (defScope st)) (len : ∀ vs H Q E, sp vs H Q E → vs.length = ps.length)
    (hbody : ∀ (cdv : Value) (A : Around) (outer : List Env) (s : Shared) (H : Hp) (vs : List V) (Q : VK) (E : XK), Room k (A.deeper (PyProof.Rows.envOfC qual (defScope st) s.heap.objs.size f cdv)) → sp vs H Q E →
      ∃ t, PSs (cxE P w K mg base N qual (defScope st) f cdv A outer s H E) (defBody st) t ∧ t { nx := fun _ H' => Q .non H', rt := Q } (start N vs) H) : FnOk P w K mg base (CXE P w) (k + 1) f fd ps sp := by
  obtain ⟨oc, od, kV, doc, pm, an, cdv, ct, osl, rfl, lk, hcd⟩ := F.ex
  refine fn_of lk hcd S len fun A outer s H vs Q E hr hsp => ?_
  obtain ⟨t, h, q⟩ := hbody cdv A outer s H vs Q E hr hsp
  exact ⟨t, h, q⟩
theorem ps_never {X : Cx} {st : Stmt} : PS X st (fun _ _ _ => False) := fun _ _ _ _ _ _ h => h.elim
end
end My
set_option Elab.async false
set_option linter.all false
set_option maxRecDepth 100000
set_option maxHeartbeats 1000000
namespace My
open PySem PySem.W L2
open PyProof.Rows (AllBare)
def PX (X : Cx) (σ : St) (e : Expr) (t : TE) : Prop := ∀ (pins : List (Addr × Obj)) (s : Shared) (H : Hp) (Q : VK), Inv X pins σ H s → t σ H Q → wpAny (model X.prog X.w) X.A (eval e X.env) (EP X pins σ Q) X.xe s
def PXA (X : Cx) (σ : St) (es : List Expr) (t : TA) : Prop := ∀ (pos : Pos) (pins : List (Addr × Obj)) (s : Shared) (H : Hp) (Q : List V → Hp → Prop), Inv X pins σ H s → t σ H Q → wpAny (model X.prog X.w) X.A (spliced (backTo pos (starEach es X.env))) (AP X pins σ Q) X.xe s
section
variable {X : Cx} {σ : St} {e : Expr} {es : List Expr} {te : TE} {t : TA} {pos : Pos}
theorem px_of (h : PE X e te) : PX X σ e te := fun pins s H Q I q => h pins s σ H Q I q
theorem pxa_of (h : PA X es t) : PXA X σ es t := fun pos pins s H Q I q => h pos pins s σ H Q I q
theorem pxa_cons (ha : PX X σ e te) (hr : PXA X σ es t) (hs : starEach (e :: es) X.env = (false, eval e X.env) :: starEach es X.env := by rfl) : PXA X σ (e :: es) (tCons te t) := by
  intro pos pins s H Q I h
  rw [hs]
  show wpAny _ _ (spliced ((false, eval e X.env) :: backTo pos (starEach es X.env))) _ _ s
  refine Calls.spliced_cons (thn (ha pins s H _ I h) fun u s1 ⟨x, H1, I1, r1, q1⟩ => ?_)
  exact thn (hr pos pins s1 H1 _ I1 q1) fun us s2 ⟨xs, H2, I2, r2, q2⟩ => ⟨x :: xs, H2, I2, .cons r1 r2, q2⟩
theorem px_tup {x1} (h : PXA X σ es t) : PX X σ (.Tuple es x1 pos) (tTup t) := by
  intro pins s H Q I hq
  refine wpAny_Tuple_spliced (thn (h pos pins s H _ I hq) fun us s1 ⟨xs, H1, I1, r, z, q⟩ => ⟨by rw [← r.length]; exact z, ?_⟩)
  have hf : H1 s1.heap.objs.size = none := I1.hok.fresh (Nat.le_refl _)
  refine ⟨.ref s1.heap.objs.size, upd H1 s1.heap.objs.size (.tup xs), I1.laid (t' := s1.toks) (fun b u e => Heap.get?_push_of_some _ e) (Nat.le_refl _) ?_, rfl, q _ hf⟩
  exact ⟨z, us, r, ⟨_, Heap.get?_push_size _ rfl, rfl, _, rfl⟩⟩
def PassX (CX : CXT) (X : Cx) (σ : St) (E : XK) : Prop := ∀ (pins : List (Addr × Obj)) (H : Hp) (s : Shared) (e : Value) (s' : Shared), Inv X pins σ H s → CX X.stack H s E e s' → X.xe e s'
variable {CX : CXT} {k : Nat} {f C : Addr} {fd : FuncData} {ps : List Str} {sp : Sp} {dvs : List V} {ds : List Value} {E : XK} {x : Str} {p : Pos}
theorem run_fnX {pins : List (Addr × Obj)} {H : Hp} {s : Shared} {Q : VK} {us : List Value} {vs : List V} (F : FnOk X.prog X.w X.K X.mg X.base CX k f fd ps sp) (hr : Room k X.A) (hb : Binds X.K fd ps ds) (hd : Vals dvs ds) (hx : PassX CX X σ E)
    (I : Inv X pins σ H s) (r : Vals vs us) (h : sp (vs ++ dvs) H Q E) : wpAny (model X.prog X.w) X.A (call (.ref f) us) (EP X pins σ Q) X.xe s := by
  have r2 : Vals (vs ++ dvs) (us ++ ds) := r.append hd
  have hl : (us ++ ds).length = ps.length := by rw [← r2.length]; exact F.len _ _ _ _ h
  refine wpAny_call (codeAny_mono (F.run X.A X.stack s H ⟨us, []⟩ (us ++ ds) (vs ++ dvs) Q E hr I.env0 (hb s us I.kIn hl) r2 h) fun r s' hq => ?_)
  cases r with
  | error e => exact hx pins H s e s' I hq
  | ok fl =>
    cases fl with
    | ret u => exact I.after hq
    | next => exact False.elim hq
    | brk => exact False.elim hq
    | cont => exact False.elim hq
theorem px_call (F : FnOk X.prog X.w X.K X.mg X.base CX k f fd ps sp) (hr : Room k X.A) (hg : Gl X x) (hm : X.mg x = some (.ref f)) (hk : PySem.W.keepIn X.K (.ref f) = true) (hb : Binds X.K fd ps ds) (hd : Vals dvs ds) (hx : PassX CX X σ E)
    (ha : PXA X σ (e :: es) t) (hdb : (x == ("__debug__" : Str)) = false := by decide) (he : starEach (e :: es) X.env = (false, eval e X.env) :: starEach es X.env := by rfl) (hpl : (backTo pos (starEach es X.env)).any (·.1) = false := by rfl) :
    PX X σ (.Call (.Name x p) (e :: es) [] pos) (tCall sp dvs E t) := by
  intro pins s H Q I h
  refine wpAny_Call_Name_kw (ld_glob I hg hm ?_ hdb)
  refine PySem.W.callWith_K (h₀ := X.base) I.ok.mod.kin hk (thn (ha pos pins s H _ I h) fun us s1 ⟨vs, H1, I1, r, q⟩ => ⟨I1.kIn, ?_⟩) he hpl
  exact run_fnX F hr hb hd hx I1 r q
end
section
variable {prog : Program} {w : World} {A : Around} {E : Value → Shared → Prop} {s : Shared} {K : Frag} {C D e : Addr} {Q : Bool → Shared → Prop} {ox : Obj} {od : Option Obj} {b : Bool}
theorem wp_matches (KX : K.In s.heap) (hD : ∃ cd, clsIn K D = some cd) (hT : typeIn K (.ref D) = some (.type "type")) (hB : mroIn K D (.type "BaseException") = some true) (I : InstAt s.heap e ox C od) (hC : mroIn K C (.ref D) = some b) (q : Q b s) : wpAny (model prog w) A (excMatches (.ref e) (.ref D)) Q E s := by
  unfold excMatches
  have L1 : Looks (model prog w) s.heap (isInstance (.ref D) (.type "tuple")) false := (looks_typeIn KX hT).andThen (Looks.of_pure rfl)
  refine wpAny_bind (Looks.here L1 ?_)
  refine wpAny_ite_false rfl ?_
  refine wpAny_bind (wpAny_pure ?_)
  refine wpAny_bind ?_
  obtain ⟨cd, hc⟩ := hD
  obtain ⟨hp, g, dr, tk, os⟩ := s
  obtain ⟨oD, hoD, hdD⟩ : ∃ oD, K.lookup D = some oD ∧ oD.data = .cls cd := by
    unfold clsIn at hc
    split at hc
    · rename_i h
      exact ⟨_, h, by cases hc; rfl⟩
    · cases hc
  rw [List.forIn_cons]
  refine wpAny_bind (wpAny_bind ?_)
  unfold isExcClass
  refine wpAny_bind (ks_wpAny_isType_cls (KX _ _ hoD) hdD ?_)
  refine wpAny_ite_true rfl ?_
  refine Looks.here (s := ⟨hp, g, dr, tk, os⟩) (looks_mroIn KX hB) ?_
  refine wpAny_ite_false rfl (wpAny_pure ?_)
  show wpAny _ _ (forIn ([] : List Value) PUnit.unit _) _ _ _
  rw [List.forIn_nil]
  refine wpAny_pure ?_
  refine wpAny_bind (Looks.here (s := ⟨hp, g, dr, tk, os⟩) I.type ?_)
  refine wpAny_bind ?_
  rw [List.forIn_cons]
  refine wpAny_bind (wpAny_bind (Looks.here (s := ⟨hp, g, dr, tk, os⟩) (looks_mroIn KX hC) ?_))
  cases b with
  | true =>
    refine wpAny_ite_true rfl (wpAny_pure ?_)
    exact wpAny_pure (wpAny_pure q)
  | false =>
    refine wpAny_ite_false rfl (wpAny_pure ?_)
    show wpAny _ _ (forIn ([] : List Value) _ _) _ _ _
    rw [List.forIn_nil]
    exact wpAny_pure (wpAny_pure q)
end
end My
set_option Elab.async false
set_option linter.all false
set_option maxRecDepth 100000
set_option maxHeartbeats 1000000
namespace My
open PySem PySem.W L2
open PyProof.Rows (AllBare)
def PXS (X : Cx) (σ : St) (st : Stmt) (t : TS) : Prop := ∀ (pins : List (Addr × Obj)) (s : Shared) (H : Hp) (D : Ends), Inv X pins σ H s → t D σ H → wpAny (model X.prog X.w) X.A (exec st X.env) (SP X pins D) X.xe s
section
variable {X : Cx} {σ : St} {e : Expr} {te : TE} {pos : Pos}
theorem pxs_set {i : Nat} {x : Str} {pos' : Pos} (hN : X.N.Nodup) (hi : X.N[i]? = some x) (hx : Loc X.env.scope x) (he : PX X σ e te) (hs : swapsWith e (some (.Name x pos')) pos.line X.env = pure false := by rfl) (hf : X.fn x = true ∨ X.env.scope.names.lookup x = some .local := by first | exact .inl rfl | exact .inr rfl | assumption) :
    PXS X σ (.Assign [.Name x pos'] e pos) (tAsg te (gName i)) := by
  intro pins s H D I h
  refine wpAny_Assign_Name (thn (he pins s H _ I h) fun v s1 ⟨y, H1, I1, r1, q1⟩ => ?_) hs
  exact store_ok I1 hN hi hx r1 (fun s2 I2 => ⟨_, H1, I2, q1⟩) hf
end
abbrev tryCx (X : Cx) (pn : List (Addr × Obj)) (xe : Value → Shared → Prop) : Cx := { X with pn := pn, xe := xe }
abbrev exCx (X : Cx) (x : Addr) : Cx := { X with A := X.A.mark (some (.ref x)), calm := false, xe := fun _ _ => False }
section
variable {X : Cx} {pins pins' pn : List (Addr × Obj)} {σ : St} {H : Hp} {s : Shared} {xe : Value → Shared → Prop} {x : Addr}
theorem Ok.toTry (ok : X.Ok) : (tryCx X pn xe).Ok := ⟨ok.mod, ok.kind, ok.glob, ok.blt, ok.above, ok.inj, ok.has, ok.cab, ok.hd, ok.frames, ok.stk, ok.exf, ok.bs, ok.bsz, ok.noex, ok.exfs, ok.funs, ok.frf⟩
theorem Ok.ofTry (ok : (tryCx X pn xe).Ok) : X.Ok := ⟨ok.mod, ok.kind, ok.glob, ok.blt, ok.above, ok.inj, ok.has, ok.cab, ok.hd, ok.frames, ok.stk, ok.exf, ok.bs, ok.bsz, ok.noex, ok.exfs, ok.funs, ok.frf⟩
theorem Inv.toTry (I : Inv X pins σ H s) : Inv (tryCx X (X.pn ++ pins) xe) [] σ H s :=
  ⟨Ok.toTry I.ok, I.os, I.bare, I.base, I.loc, I.cell, I.free, I.freeC, fun p hp => I.pin p (by rw [List.append_nil] at hp; exact hp), I.hok, I.len⟩
theorem Inv.ofTry (I : Inv (tryCx X (X.pn ++ pins) xe) pins' σ H s) : Inv X pins σ H s :=
  ⟨Ok.ofTry I.ok, I.os, I.bare, I.base, I.loc, I.cell, I.free, I.freeC, fun p hp => I.pin p (List.mem_append_left _ hp), I.hok, I.len⟩
theorem Inv.toEx (I : Inv X pins σ H s) : Inv (exCx X x) pins σ H s :=
  ⟨⟨I.ok.mod, I.ok.kind, I.ok.glob, I.ok.blt, I.ok.above, I.ok.inj, I.ok.has, I.ok.cab, fun z => Bool.noConfusion z, I.ok.frames, I.ok.stk, I.ok.exf, I.ok.bs, I.ok.bsz, I.ok.noex, I.ok.exfs, I.ok.funs, I.ok.frf⟩, I.os, I.bare, I.base, I.loc, I.cell, I.free, I.freeC, I.pin, I.hok, I.len⟩
theorem Inv.ofEx (ok : X.Ok) (I : Inv (exCx X x) pins σ H s) : Inv X pins σ H s := ⟨ok, I.os, I.bare, I.base, I.loc, I.cell, I.free, I.freeC, I.pin, I.hok, I.len⟩
theorem SP.ofEx {D : Ends} {f : Flow} (ok : X.Ok) (h : SP (exCx X x) pins D f s) : SP X pins D f s := by
  cases f with
  | next => obtain ⟨σ', H', I, q⟩ := h; exact ⟨σ', H', Inv.ofEx ok I, q⟩
  | brk => obtain ⟨σ', H', I, q⟩ := h; exact ⟨σ', H', Inv.ofEx ok I, q⟩
  | cont => obtain ⟨σ', H', I, q⟩ := h; exact ⟨σ', H', Inv.ofEx ok I, q⟩
  | ret u => obtain ⟨v, σ', H', I, r, q⟩ := h; exact ⟨v, σ', H', Inv.ofEx ok I, r, q⟩
theorem SP.ofTry {D : Ends} {f : Flow} (h : SP (tryCx X (X.pn ++ pins) xe) pins' D f s) : SP X pins D f s := by
  cases f with
  | next => obtain ⟨σ', H', I, q⟩ := h; exact ⟨σ', H', Inv.ofTry I, q⟩
  | brk => obtain ⟨σ', H', I, q⟩ := h; exact ⟨σ', H', Inv.ofTry I, q⟩
  | cont => obtain ⟨σ', H', I, q⟩ := h; exact ⟨σ', H', Inv.ofTry I, q⟩
  | ret u => obtain ⟨v, σ', H', I, r, q⟩ := h; exact ⟨v, σ', H', Inv.ofTry I, r, q⟩
theorem unbind_ok {M : Model} {A : Around} {E : Value → Shared → Prop} {i : Nat} {n : Str} {v : V} {Q : Unit → Shared → Prop} (I : Inv X pins σ H s) (hN : X.N.Nodup) (hi : X.N[i]? = some n) (hk : X.env.scope.names.lookup n = some .local) (hv : σ[i]? = some (some v))
    (h : ∀ s', Inv X pins (σ.set i none) H s' → Q () s') : wpAny M A (unbindName X.env n) Q E s := by
  obtain ⟨m, hn, hl⟩ := id I.loc
  have hcls : (X.env.scope.kind == .class || (X.env.scope.kind == .module && X.env.locals != X.env.globals)) = false := by rw [I.ok.kind]; rfl
  have hiσ : i < σ.length := by rw [I.len]; exact (List.getElem?_eq_some_iff.mp hi).1
  obtain ⟨u, _, lk⟩ := hl i n v hi hv (.inl hk)
  have mu : m n = some u := by
    rcases lk with ⟨_, z⟩ | ⟨z, _⟩
    · exact z
    · have k' : X.env.kindOf n = some .local := hk
      rcases z with z | z <;> (rw [k'] at z; cases z)
  have cne := I.cne
  refine wpAny_unbindName_local hk hn mu hcls fun h' u' hn' hs => ?_
  obtain ⟨oL, _, _, hoL, _⟩ := id hn
  have tracked : HOk X.prog X.w H h' := fun b ob e => by
    refine (I.hok b ob e).stay (fun c w' hc q => (hs.2 c ?_).trans q) (fun _ q => q) fun _ _ q => q
    rintro rfl
    rcases hc with rfl | hc
    · rw [I.free] at e; cases e
    · rw [I.free] at hc; cases hc
  refine h _ ⟨I.ok, I.os, I.bare, ⟨fun b o e n hb hx => ?_, fun b o e n hb hx => ?_, I.base.free, fun b o e hx => ?_, I.base.tups, I.base.frzs, I.base.tbls, I.base.sys⟩, ⟨_, hn', fun j y v' e1 e2 e3 => ?_⟩, fun y c e => ?_, I.free, I.freeC, fun p hp => ?_, tracked, by simpa using I.len⟩
  · exact (hs.2 b (Nat.ne_of_lt (Nat.lt_of_lt_of_le (Heap.lt_size e) I.ok.above))).trans (I.base.keep b o e n hb hx)
  · obtain ⟨sl, e1⟩ := I.base.slot b o e n hb hx
    exact ⟨sl, (hs.2 b (Nat.ne_of_lt (Nat.lt_of_lt_of_le (Heap.lt_size e) I.ok.above))).trans e1⟩
  · obtain ⟨o', e1⟩ := I.base.there b o e hx
    exact ⟨o', (hs.2 b (Nat.ne_of_lt (Nat.lt_of_lt_of_le (Heap.lt_size e) I.ok.above))).trans e1⟩
  · by_cases hj : j = i
    · subst hj
      rw [List.getElem?_set_self hiσ] at e2
      cases e2
    · rw [List.getElem?_set_ne (Ne.symm hj)] at e2
      obtain ⟨u2, r', q⟩ := hl j y v' e1 e2 e3
      refine ⟨u2, r', ?_⟩
      rcases q with ⟨k, e⟩ | ⟨k, c, e, z⟩
      · refine .inl ⟨k, ?_⟩
        have : y ≠ n := fun e => hj (nodup_ix hN e1 (e ▸ hi))
        simp [this, e]
      · exact .inr ⟨k, c, e, z.sameBut hs (cne y c e)⟩
  · obtain ⟨w', z⟩ := I.cell y c e
    exact ⟨w', z.sameBut hs (cne y c e)⟩
  · obtain ⟨e, n, ne, nf, d⟩ := I.pin p hp
    exact ⟨(hs.2 p.1 ne).trans e, n, ne, nf, d⟩
end
structure Catch (K : Frag) (D : Addr) : Prop where
  cls : ∃ cd, clsIn K D = some cd
  ty : typeIn K (.ref D) = some (.type "type")
  mb : mroIn K D (.type "BaseException") = some true
def unEnds (D : Ends) (i : Nat) : Ends := ⟨fun σ H => D.nx (σ.set i none) H, D.rt, fun σ H => D.bk (σ.set i none) H, fun σ H => D.ct (σ.set i none) H⟩
end My
set_option Elab.async false
set_option linter.all false
set_option maxRecDepth 100000
set_option maxHeartbeats 1000000
namespace My
open PySem PySem.W L2
open PyProof.Rows (AllBare)
section
variable {X : Cx} {pins : List (Addr × Obj)} {σ : St} {H : Hp} {s : Shared}
theorem name_goes {i : Nat} {n : Str} {pos : Pos} {E : Value → Shared → Prop} {D : Ends} {f : Flow} (ok : X.Ok) (hN : X.N.Nodup) (hi : X.N[i]? = some n) (hk : X.env.scope.names.lookup n = some .local) (h : SP X pins (unEnds D i) f s) :
    wpAny (model X.prog X.w) X.A (do
      bindName X.env n .none
      unbindBehindTheSuite X.env n pos) (fun _ s' => SP X pins D f s') E s := by
  have go : ∀ {σ' : St} {H' : Hp}, Inv X pins σ' H' s → (∀ s', Inv X pins (σ'.set i none) H' s' → SP X pins D f s') → wpAny (model X.prog X.w) X.A (do
      bindName X.env n .none
      unbindBehindTheSuite X.env n pos) (fun _ s' => SP X pins D f s') E s := fun {σ' H'} I q => by
    have hiσ : i < σ'.length := by rw [I.len]; exact (List.getElem?_eq_some_iff.mp hi).1
    refine wpAny_bind (wpAny_bindName (store_ok I hN hi (.inl hk) (v := V.non) (u := Value.none) rfl (fun s1 I1 => ?_) (.inr hk)))
    unfold unbindBehindTheSuite
    refine wpAny_onRaise (unbind_ok (v := V.non) I1 hN hi hk (List.getElem?_set_self hiσ) fun s2 I2 => ?_)
    rw [List.set_set] at I2
    exact q s2 I2
  cases f with
  | next => obtain ⟨σ', H', I, q⟩ := h; exact go I fun s' I' => ⟨_, H', I', q⟩
  | brk => obtain ⟨σ', H', I, q⟩ := h; exact go I fun s' I' => ⟨_, H', I', q⟩
  | cont => obtain ⟨σ', H', I, q⟩ := h; exact go I fun s' I' => ⟨_, H', I', q⟩
  | ret u => obtain ⟨v, σ', H', I, r, q⟩ := h; exact go I fun s' I' => ⟨v, _, H', I', r, q⟩
end
section
variable {X : Cx} {pins : List (Addr × Obj)} {σ : St} {H : Hp} {s : Shared}
theorem errT_inst {P : Program} {w : World} {H : Hp} {h : Heap} {a C dx : Addr} {fs : List (Str × V)} (ok : HOk P w H h) (ea : H a = some (ErrT a C (some dx))) (ed : H dx = some (.xd fs)) :
    ∃ (ox od : Obj), InstAt h a ox C (some od) ∧ ∃ mA : Str → Option Value, (∀ f, RelO (fs.lookup f) (mA f)) ∧ ∀ name, lookIn name od = some (mA name) := by
  obtain ⟨t, v, hx⟩ := errT_at ok ea
  obtain ⟨mA, hn, hr⟩ := (show ObjOk P w H h dx (.xd fs) from ok dx _ ed)
  obtain ⟨od, hod, hl⟩ := lookIn_ns hn
  exact ⟨_, od, ⟨hx, rfl, rfl, hod⟩, mA, hr, hl⟩
def tErrFT (K : Frag) (ta : TE) (f : Str) : TE := fun σ H Q => ta σ H fun x H1 => ∃ a C dx fs v, x = .ref a ∧ H1 a = some (ErrT a C (some dx)) ∧ H1 dx = some (.xd fs) ∧ fs.lookup f = some v ∧ ErrI K C ∧ hasDictIn K C = true ∧ findIn K (.ref C) f = some none ∧ Q v H1
theorem pe_errFT {e : Expr} {ta : TE} {f : Str} {pos : Pos} (he : PE X e ta) (hb : attributeBase e f X.env (eval e X.env) = eval e X.env) : PE X (.Attribute e f pos) (tErrFT X.K ta f) := by
  intro pins s σ H Q I h
  refine attr_of hb (thn (he pins s σ H _ I h) fun u s1 ⟨x, H1, I1, rx, a, C, dx, fs, v, ex, ea, ed, l, T, hd, nf, q⟩ => ?_)
  subst ex
  obtain rfl : u = Value.ref a := rx
  obtain ⟨ox, od, J, mA, hr, hl⟩ := errT_inst I1.hok ea ed
  obtain ⟨u, eu, ru⟩ := RelO.some_of (l ▸ hr f)
  exact getExc I1.kIn J T.ga T.hk T.mb (findObj_own hd nf rfl (by rw [hl, eu])) (handed_of ru) ⟨v, H1, I1.tok _, ru, q⟩
end
end My
set_option Elab.async false
set_option linter.all false
set_option maxRecDepth 100000
set_option maxHeartbeats 1000000
namespace My
open PySem PySem.W L2
open PyProof.Rows (AllBare)
structure Caught (X : Cx) (pins : List (Addr × Obj)) (σ : St) (H : Hp) (s : Shared) (x C : Addr) : Prop where
  inv : Inv X pins σ H s
  err : ∃ dx fs, H x = some (ErrT x C (some dx)) ∧ H dx = some (.xd fs)
  fl : ∃ dx t T oT ts, s.heap.get? x = some (errW C dx t (.ref T)) ∧ s.heap.get? T = some oT ∧ oT.data = .fields ts ∧ ts[3]? = some Value.none
abbrev TH := Addr → Addr → TS
def PHs (X : Cx) (hs : List ExceptHandler) (th : TH) : Prop := ∀ (pins : List (Addr × Obj)) (s : Shared) (σ : St) (H : Hp) (D : Ends) (x C : Addr), Caught X pins σ H s x C → th x C D σ H → wpAny (model X.prog X.w) X.A (handleBy (.ref x) X.env hs) (SP X pins D) X.xe s
def hNil : TH := fun _ _ _ _ _ => False
def hAs (K : Frag) (B : Addr) (i : Nat) (th : TS) (rest : TH) : TH := fun x C D σ H => ∃ b, mroIn K C (.ref B) = some b ∧ if b = true then th (unEnds D i) (σ.set i (some (.ref x))) H else rest x C D σ H
def hNo (K : Frag) (B : Addr) (th : TS) (rest : TH) : TH := fun x C D σ H => ∃ b, mroIn K C (.ref B) = some b ∧ if b = true then th D σ H else rest x C D σ H
section
variable {X : Cx} {hs : List ExceptHandler} {rest : TH}
theorem phs_nil : PHs X [] hNil := fun _ _ _ _ _ _ _ _ h => False.elim h
theorem phs_as {th : TS} {B : Addr} {n cn : Str} {i : Nat} {b₀ : Stmt} {suite : List Stmt} {pc ph : Pos} (hN : X.N.Nodup) (hi : X.N[i]? = some n) (hk : X.env.scope.names.lookup n = some .local) (cB : Catch X.K B) (hg : Gl X cn) (hm : X.mg cn = some (.ref B))
    (hh : ∀ x, PSs (exCx X x) (b₀ :: suite) th) (hr : PHs X hs rest) (hdb : (cn == ("__debug__" : Str)) = false := by decide) : PHs X (.ExceptHandler (some (.Name cn pc)) (some n) (b₀ :: suite) ph :: hs) (hAs X.K B i th rest) := by
  intro pins s σ H D x C G h
  obtain ⟨b, hm', q⟩ := h
  obtain ⟨J2, ⟨dx, fs, hx, hdx⟩, dx', t, T', oT', ts', ex2, f1, f2, f3⟩ := id G
  refine wpAny_handleBy_cons ?_ (by intro z; cases z)
  refine codeAny_handlers_test ?_
  refine ld_glob (X := exCx X x) (Inv.toEx J2) hg hm ?_ hdb
  obtain ⟨ox, odd, JI⟩ : ∃ ox od, InstAt s.heap x ox C od := by
    obtain ⟨ox, od, J, _⟩ := errT_inst J2.hok hx hdx
    exact ⟨ox, some od, J⟩
  refine wp_matches J2.kIn cB.cls cB.ty cB.mb JI hm' ?_
  cases b with
  | false =>
    rw [if_neg (by decide)] at q
    exact hr pins s σ H D x C G q
  | true =>
    rw [if_pos rfl] at q
    show codeAny _ _ _ _ _
    refine codeAny_handlers_suite_as ?_
    have h3 : 3 < ts'.size := (Array.getElem?_eq_some_iff.mp f3).1
    refine wpAny_setFlight_none ex2 rfl rfl f1 f2 h3 ?_
    have J3 : Inv X pins σ H { s with heap := s.heap.update T' (Obj.mapFields fun x => x.setIfInBounds 3 Value.none) } := by
      refine J2.kept (t' := s.toks) fun b u hb => ?_
      by_cases z : b = T'
      · subst z
        have e : oT' = u := Option.some.inj (f1.symm.trans hb)
        subst e
        rw [Heap.get?_update_self _ f1 (by rw [mapF f2]; rfl), mapF f2, set_same f3, ← f2]
      · rw [Heap.get?_update_ne _ _ _ _ z]; exact hb
    generalize ({ s with heap := s.heap.update T' (Obj.mapFields fun x => x.setIfInBounds 3 Value.none) } : Shared) = s3 at J3
    refine store_ok (X := exCx X x) (Inv.toEx J3) hN hi (.inl hk) (v := V.ref x) (u := Value.ref x) rfl (fun s4 I4 => ?_) (.inr hk)
    refine wpAny_mono (hh x pins s4 _ H (unEnds D i) I4 q) (fun f s5 q5 => ?_) (fun _ _ z => False.elim z)
    exact name_goes J3.ok hN hi hk (SP.ofEx J3.ok q5)
theorem phs_no {th : TS} {B : Addr} {cn : Str} {b₀ : Stmt} {suite : List Stmt} {pc ph : Pos} (cB : Catch X.K B) (hg : Gl X cn) (hm : X.mg cn = some (.ref B))
    (hh : ∀ x, PSs (exCx X x) (b₀ :: suite) th) (hr : PHs X hs rest) (hdb : (cn == ("__debug__" : Str)) = false := by decide) : PHs X (.ExceptHandler (some (.Name cn pc)) none (b₀ :: suite) ph :: hs) (hNo X.K B th rest) := by
  intro pins s σ H D x C G h
  obtain ⟨b, hm', q⟩ := h
  obtain ⟨J2, ⟨dx, fs, hx, hdx⟩, dx', t, T', oT', ts', ex2, f1, f2, f3⟩ := id G
  refine wpAny_handleBy_cons ?_ (by intro z; cases z)
  refine codeAny_handlers_test ?_
  refine ld_glob (X := exCx X x) (Inv.toEx J2) hg hm ?_ hdb
  obtain ⟨ox, odd, JI⟩ : ∃ ox od, InstAt s.heap x ox C od := by
    obtain ⟨ox, od, J, _⟩ := errT_inst J2.hok hx hdx
    exact ⟨ox, some od, J⟩
  refine wp_matches J2.kIn cB.cls cB.ty cB.mb JI hm' ?_
  cases b with
  | false =>
    rw [if_neg (by decide)] at q
    exact hr pins s σ H D x C G q
  | true =>
    rw [if_pos rfl] at q
    show codeAny _ _ _ _ _
    refine codeAny_handlers_suite ?_
    have h3 : 3 < ts'.size := (Array.getElem?_eq_some_iff.mp f3).1
    refine wpAny_setFlight_none ex2 rfl rfl f1 f2 h3 ?_
    have J3 : Inv X pins σ H { s with heap := s.heap.update T' (Obj.mapFields fun x => x.setIfInBounds 3 Value.none) } := by
      refine J2.kept (t' := s.toks) fun b u hb => ?_
      by_cases z : b = T'
      · subst z
        have e : oT' = u := Option.some.inj (f1.symm.trans hb)
        subst e
        rw [Heap.get?_update_self _ f1 (by rw [mapF f2]; rfl), mapF f2, set_same f3, ← f2]
      · rw [Heap.get?_update_ne _ _ _ _ z]; exact hb
    generalize ({ s with heap := s.heap.update T' (Obj.mapFields fun x => x.setIfInBounds 3 Value.none) } : Shared) = s3 at J3
    refine wpAny_mono (hh x pins s3 _ H D (Inv.toEx J3) q) (fun f s5 q5 => ?_) (fun _ _ z => False.elim z)
    exact SP.ofEx J3.ok q5
end
def eTryN (th : TH) (D : Ends) (σ : St) : XK := fun c o H' => ∃ x C, c = .ref C ∧ o = some x ∧ th x C D σ H'
def tTryN (tb : XK → TS) (th : TH) : TS := fun D σ H => tb (eTryN th D σ) D σ H
theorem ps_tryN {X : Cx} {st : Stmt} {tb : XK → TS} {th : TH} {h₀ : ExceptHandler} {hs : List ExceptHandler} {pos : Pos} (hS : X.stack = X.env :: X.outer) (hL : X.env.frame = some X.env.locals)
    (hb : ∀ (σ : St) (E : XK) (pn : List (Addr × Obj)) (xe : Value → Shared → Prop), PassX (CXE X.prog X.w) (tryCx X pn xe) σ E → PXS (tryCx X pn xe) σ st (tb E)) (hh : PHs X (h₀ :: hs) th) : PS X (.Try [st] (h₀ :: hs) [] [] pos) (tTryN tb th) := by
  intro pins s σ H D I h
  refine wpAny_Try_except ?_
  have px := hb σ (eTryN th D σ) (X.pn ++ pins) (fun e s₁ => wpAny (model X.prog X.w) X.A (noteFrame e X.env) (fun _ s₂ => wpAny (model X.prog X.w) X.A (setFlight e none) (fun _ s₃ => wpAny (model X.prog X.w) X.A (handleBy e X.env (h₀ :: hs)) (SP X pins D) X.xe s₃) X.xe s₂) X.xe s₁) ?_
  · refine wpAny_execs_cons (thn (px [] s H D (Inv.toTry I) h) fun f s1 q => ?_)
    cases f with
    | next => exact wpAny_execs_nil (wpAny_execs_nil (SP.ofTry (f := .next) q))
    | ret v => exact SP.ofTry (f := .ret v) q
    | brk => exact SP.ofTry (f := .brk) q
    | cont => exact SP.ofTry (f := .cont) q
  intro pins' H1 s1 ev s' I1 h1
  obtain ⟨x, C, dx, fs, H', rfl, os, bare, un, hok, hx, hdx, ⟨t, T, oT, ts, e1, e2, _, e4, e5, e6, e7⟩, x', C', ec, eo, q⟩ := h1
  cases ec
  cases eo
  have J : Inv X pins σ H' s' := Inv.ofTry (I1.call' os un hok bare (fun b z => absurd z (by simp)))
  have hA : X.A.frames = some (X.env :: X.outer) := by rw [← hS]; exact J.ok.frames
  have hF : s'.heap.FunFrames X.base (X.env :: X.outer) := by rw [← hS]; exact J.stack
  refine note_exact hA hF hL e1 rfl (.inr ⟨T, oT, ts, rfl, e2, e5, e6, e7⟩) fun h' T' l => ?_
  refine l.flight rfl (by show 1 < 6; decide) _ rfl fun h2 l2 => ?_
  have J2 := Inv.left J hS hx ⟨_, rfl⟩ e1 l2
  rw [upd_id hx] at J2
  have ex2 : h2.get? x = some (errW C (some dx) t (.ref T')) := l2.exc
  obtain ⟨oT', ts', f1, f2, f3, f4⟩ := l2.trc
  exact hh pins _ σ H' D x C ⟨J2, ⟨dx, fs, hx, hdx⟩, some dx, t, T', oT', ts', ex2, f1, f2, f3⟩ q
section
variable {X : Cx} {σ : St} {e : Expr} {te : TE} {pos : Pos}
end
end My
set_option Elab.async false
set_option linter.all false
set_option maxRecDepth 100000
set_option maxHeartbeats 4000000
namespace My
open PySem L2
section
variable {X : Cx}
end
end My
set_option Elab.async false
set_option linter.all false
set_option maxRecDepth 100000
set_option maxHeartbeats 1000000
namespace My
open PySem L2
section
variable {X : Cx}
theorem eqV_refl {v : V} (h : flatV v = true) : eqV v v = true := by
  cases v with
  | non => rfl
  | bl b => cases b <;> rfl
  | int i => exact beq_self_eq_true i
  | str s => exact beq_self_eq_true s
  | _ => cases h
end
end My
set_option Elab.async false
set_option linter.all false
set_option maxRecDepth 100000
set_option maxHeartbeats 1000000
namespace My
open PySem L2
section
variable {X : Cx}
def Flats (x y : V) : Prop := flatV x = true ∧ flatV y = true ∧ eqV x y = true
def Alike (K : PySem.W.Frag) (H : Hp) : Nat → V → V → Prop
  | 0, x, y => (∃ a, x = .ref a ∧ y = .ref a) ∨ Flats x y
  | n + 1, x, y => ((∃ a, x = .ref a ∧ y = .ref a) ∨ Flats x y) ∨
    ∃ p q xs ys, x = .ref p ∧ y = .ref q ∧ ((SqT K H p xs ∧ SqT K H q ys) ∨ (SqL K H p xs ∧ SqL K H q ys)) ∧ xs.length = ys.length ∧ ∀ (i : Nat) x y, xs[i]? = some x → ys[i]? = some y → Alike K H n x y
theorem flats_of {A : Around} {s : Shared} {x y : V} {u v : Value} (ru : RelV x u) (rv : RelV y v) (h : Flats x y) : SeqAt.EqAt A s u v true := by
  have f := eqAt_V (A := A) (s := s) ru rv h.1 h.2.1
  rw [h.2.2] at f
  exact f
theorem same_or {A : Around} {s : Shared} {x y : V} {u v : Value} (ru : RelV x u) (rv : RelV y v) (h : (∃ a, x = .ref a ∧ y = .ref a) ∨ Flats x y) : SeqAt.EqAt A s u v true := by
  rcases h with ⟨a, rfl, rfl⟩ | h
  · cases (show u = Value.ref a from ru)
    cases (show v = Value.ref a from rv)
    exact SeqAt.EqAt.same _
  · exact flats_of ru rv h
theorem items_eq {A : Around} {s : Shared} {xs ys : List V} {its jts : List Value} (r1 : Vals xs its) (r2 : Vals ys jts) (h : ∀ (i : Nat) x y u v, xs[i]? = some x → ys[i]? = some y → RelV x u → RelV y v → SeqAt.EqAt A s u v true) :
    ∀ j (h1 : j < its.toArray.size) (h2 : j < jts.toArray.size), SeqAt.EqAt A s its.toArray[j] jts.toArray[j] true := by
  intro j h1 h2
  have h1' : j < its.length := by simpa using h1
  have h2' : j < jts.length := by simpa using h2
  have k1 : j < xs.length := by rw [r1.length]; exact h1'
  have k2 : j < ys.length := by rw [r2.length]; exact h2'
  obtain ⟨u1, e1, q1⟩ := r1.get (List.getElem?_eq_getElem k1)
  obtain ⟨u2, e2, q2⟩ := r2.get (List.getElem?_eq_getElem k2)
  have a1 : its.toArray[j] = u1 := by
    have := List.getElem?_eq_getElem h1'
    rw [e1] at this
    simpa using (Option.some.inj this).symm
  have a2 : jts.toArray[j] = u2 := by
    have := List.getElem?_eq_getElem h2'
    rw [e2] at this
    simpa using (Option.some.inj this).symm
  rw [a1, a2]
  exact h j _ _ _ _ (List.getElem?_eq_getElem k1) (List.getElem?_eq_getElem k2) q1 q2
theorem in1_units {A : Around} : A.in1.units = A.units + 1 := rfl
theorem rows_rc {pins : List (Addr × Obj)} {σ : St} {H : Hp} {s : Shared} {A : Around} {p q : Addr} {xs ys : List V} (I : Inv X pins σ H s) (hu : A.units < cLine) (h : (SqT X.K H p xs ∧ SqT X.K H q ys) ∨ (SqL X.K H p xs ∧ SqL X.K H q ys)) (len : xs.length = ys.length)
    (he : ∀ (i : Nat) x y u v, xs[i]? = some x → ys[i]? = some y → RelV x u → RelV y v → SeqAt.EqAt A.in1 s u v true) : SeqAt.RcAt A s (.ref p) (.ref q) true ∧ SeqAt.RcNeAt A s (.ref p) (.ref q) false := by
  rcases h with ⟨hp, hq⟩ | ⟨hp, hq⟩
  · obtain ⟨its, r1, t1, _⟩ := I.tuple hp
    obtain ⟨jts, r2, t2, _⟩ := I.tuple hq
    have l1 := r1.length
    have l2 := r2.length
    have e := items_eq r1 r2 he
    have z : ((List.range (min its.toArray.size jts.toArray.size)).all (fun _ => true) && its.toArray.size == jts.toArray.size) = true := by
      simp; omega
    have a := SeqAt.RcAt.tuples (e := fun _ => true) t1 t2 hu e
    have b := SeqAt.RcNeAt.tuples (e := fun _ => true) t1 t2 hu e
    rw [z] at a b
    exact ⟨a, b⟩
  · obtain ⟨its, r1, t1, _⟩ := I.list hp
    obtain ⟨jts, r2, t2, _⟩ := I.list hq
    have l1 := r1.length
    have l2 := r2.length
    have e := items_eq r1 r2 he
    have z : ((List.range its.toArray.size).all (fun _ => true)) = true := by simp
    have sz : its.toArray.size = jts.toArray.size := by simp; omega
    have a := SeqAt.RcAt.lists (e := fun _ => true) t1.isList t2.isList sz hu e
    have b := SeqAt.RcNeAt.lists (e := fun _ => true) t1.isList t2.isList sz hu e
    rw [z] at a b
    exact ⟨a, b⟩
theorem alike_eq {pins : List (Addr × Obj)} {σ : St} {H : Hp} {s : Shared} (I : Inv X pins σ H s) : ∀ (n : Nat) {A : Around} {x y : V} {u v : Value}, A.units + n < cLine → Alike X.K H n x y → RelV x u → RelV y v → SeqAt.EqAt A s u v true
  | 0, A, x, y, u, v, hu, h, ru, rv => same_or ru rv h
  | n + 1, A, x, y, u, v, hu, h, ru, rv => by
    rcases h with h | ⟨p, q, xs, ys, rfl, rfl, hs, len, all⟩
    · exact same_or ru rv h
    · cases (show u = Value.ref p from ru)
      cases (show v = Value.ref q from rv)
      by_cases e : p = q
      · subst e
        exact SeqAt.EqAt.same _
      · exact .of_refs e (rows_rc I (by omega) hs len fun i x y u v hx hy ru rv => alike_eq I n (by rw [in1_units]; omega) (all i x y hx hy) ru rv).1
def rAlike (K : PySem.W.Frag) (n : Nat) (b : Bool) : R2 := fun x y H Q => ∃ p q xs ys, x = .ref p ∧ y = .ref q ∧ ((SqT K H p xs ∧ SqT K H q ys) ∨ (SqL K H p xs ∧ SqL K H q ys)) ∧ xs.length = ys.length ∧ (∀ (i : Nat) x y, xs[i]? = some x → ys[i]? = some y → Alike K H n x y) ∧ Q (.bl b) H
theorem op_neA {n : Nat} (hu : X.A.units + (n + 1) < cLine) : OpR X (compareOp .NotEq) (rAlike X.K n false) := by
  intro pins s σ H x y v u Q I rx ry h
  obtain ⟨p, q, xs, ys, rfl, rfl, hs, len, all, k⟩ := h
  cases rx
  cases ry
  exact (rows_rc I (A := X.A) (by omega) hs len fun i x y u v hx hy ru rv => alike_eq I n (by rw [in1_units]; omega) (all i x y hx hy) ru rv).2 X.prog X.w X.xe _ ⟨.bl false, H, I, rfl, k⟩
end
end My
set_option Elab.async false
set_option linter.all false
set_option maxRecDepth 100000
set_option maxHeartbeats 1000000
namespace My
open PySem PySem.W L2
open PyProof.Rows (Call_ boot_enumerate)
section
variable {X : Cx} {pins : List (Addr × Obj)} {σ : St} {H : Hp} {s : Shared} {h' : Heap}
theorem turned2 {t' : Nat} {i1 i2 : Addr} (I : Inv X pins σ H s) (k : ∀ b o, b ≠ i1 → b ≠ i2 → s.heap.get? b = some o → h'.get? b = some o) (F1 : FpOk X pins H i1) (F2 : FpOk X pins H i2) : Inv X pins σ H { s with heap := h', toks := t' } := by
  obtain ⟨n1, L1, _, a1, b1, c1⟩ := F1
  obtain ⟨n2, L2, _, a2, b2, c2⟩ := F2
  have ni1 : ∀ b u, H b = some u → b ≠ i1 := fun b u e z => by rw [z, n1] at e; cases e
  have ni2 : ∀ b u, H b = some u → b ≠ i2 := fun b u e z => by rw [z, n2] at e; cases e
  refine I.step (g' := s.gens) (d' := s.drawn) (ch := [i1, i2]) (fun b hb => ?_) (fun b o _ _ hc e _ => k b o (fun z => hc (by simp [z])) (fun z => hc (by simp [z])) e) (fun b o _ _ hc e _ => ⟨o.slots, k b o (fun z => hc (by simp [z])) (fun z => hc (by simp [z])) e⟩) (fun _ _ _ _ n => n)
    (fun b o hc e => ⟨o, k b o (fun z => hc (by simp [z])) (fun z => hc (by simp [z])) e⟩) (fun _ _ e => e) (fun _ _ _ e => e) (fun b ps e => ⟨#[], by rw [e]; simp⟩) (fun q => q) (fun m hm => ?_) (fun b u e => ?_) I.bare
  · have e : b = i1 ∨ b = i2 := by simpa using hb
    rcases e with rfl | rfl
    · exact ⟨a1, L1, b1, c1⟩
    · exact ⟨a2, L2, b2, c2⟩
  · obtain ⟨o, es, ep, ho, r⟩ := hm
    exact ⟨o, es, ep, k _ o (Ne.symm L1) (Ne.symm L2) ho, r⟩
  · refine (I.hok b u e).stay (fun c v hc q => k c v ?_ ?_ q) (fun _ q => q) fun _ _ q => q
    · rcases hc with z | z
      · rw [z]; exact ni1 b u e
      · exact ni1 c _ z
    · rcases hc with z | z
      · rw [z]; exact ni2 b u e
      · exact ni2 c _ z
end
theorem nofree {o : Obj} {vs : Array Value} (d : o.data = .fields vs) : o.isFreed = false := by
  obtain ⟨c, dd, dt, sl⟩ := o
  cases d
  rfl
def Ite (K : Frag) (a : Addr) : It :=
  ⟨fun i H => ∃ xs x, SqL K H a xs ∧ xs[i]? = some x, fun i H x H' => ∃ p y, x = .ref p ∧ H p = none ∧ H' = upd H p (.tup [.int i, y]) ∧ ∀ xs, SqL K H a xs → xs[i]? = some y, fun i H => ∃ xs, SqL K H a xs ∧ xs.length ≤ i⟩
theorem turn_enum {P : Program} {w : World} {K : Frag} {elts : List Expr} {x1} {pos : Pos} (a e it : Addr) (ne : e ≠ it) : Turn P w K (.Tuple elts x1 pos) (Ite K a) [e, it] e (fun i h => (∃ old, IsEnum h e it i old) ∧ h.IsListIter it a i) where
  mem := by simp
  obj := fun i h st b hb => by
    obtain ⟨⟨old, h1⟩, o, h2, c, d⟩ := st
    have e : b = e ∨ b = it := by simpa using hb
    rcases e with rfl | rfl
    · exact ⟨_, h1, fun v z => by cases z⟩
    · exact ⟨o, h2, fun v z => by rw [d] at z; cases z⟩
  keep := fun i h h' st k => ⟨⟨_, k e (by simp) _ st.1.choose_spec⟩, st.2.at fun o z => k it (by simp) o z⟩
  item := by
    intro X hP hw hK hc i pins s σ H E I hf st hg
    subst hP hw hK
    obtain ⟨xs, x, hq, hx⟩ := hg
    obtain ⟨its, rv, p, hz⟩ := I.list hq
    obtain ⟨u, hu, ru⟩ := rv.get hx
    obtain ⟨⟨old, he⟩, hi⟩ := st
    have Fe := hf e (by simp)
    have Fi := hf it (by simp)
    refine wpAny_pyNext_enum_item he hi p.isList (x := u) (by simpa using hu) ne fun h1 eo hi1 ht hs1 kk => ?_
    refine ⟨_, rfl, wpAny_letOwnedTupleGo_enum (s := { s with heap := h1, toks := s.toks + 1 }) eo fun h2 he2 sb => ?_⟩
    have sb' : Heap.SameBut e h1 h2 := sb
    have ne2 : s.heap.objs.size ≠ e := Nat.ne_of_gt (Heap.lt_size he)
    have ht2 : h2.get? s.heap.objs.size = some { cls := .type "tuple", data := .seq #[.int i s.toks, u] } := (sb'.2 _ ne2).trans ht
    obtain ⟨oi, hoi, ci, di⟩ := hi
    obtain ⟨oi1, hoi1, ci1, di1⟩ := id hi1
    have hoi2 : h2.get? it = some oi1 := (sb'.2 _ (Ne.symm ne)).trans hoi1
    let hA : Heap := (s.heap.update e fun _ => { cls := .type "enumerate", dict := none, data := .fields #[.none, .bool false, .ref it, rawInt ((i : Int) + 1), .none, u], slots := #[] }).update it fun _ => oi1
    have IA : Inv X pins σ H { s with heap := hA, toks := s.toks } := turned2 I (fun b o z1 z2 q => by
      show hA.get? b = some o
      rw [Heap.get?_update_ne _ _ _ _ z2, Heap.get?_update_ne _ _ _ _ z1]
      exact q) Fe Fi
    have szA : hA.objs.size = s.heap.objs.size := by
      show ((s.heap.update e _).update it _).objs.size = _
      rw [Heap.size_update, Heap.size_update]
    refine ⟨.ref s.heap.objs.size, upd H s.heap.objs.size (.tup [.int i, x]), ?_, rfl, ⟨_, x, rfl, I.hok.fresh (Nat.le_refl _), rfl, fun ys hy => by rw [I.list_inj hy hq]; exact hx⟩, ⟨⟨u, he2⟩, oi1, hoi2, ci1, di1⟩, fun b hb => ?_⟩
    · refine IA.laid (t' := s.toks + 1) (fun b v q => ?_) (Nat.le_of_eq szA) ?_
      · have q' : hA.get? b = some v := q
        by_cases z2 : b = it
        · subst z2
          have hg : (s.heap.update e fun _ => { cls := .type "enumerate", dict := none, data := .fields #[.none, .bool false, .ref b, rawInt ((i : Int) + 1), .none, u], slots := #[] }).get? b = some oi := by
            rw [Heap.get?_update_ne _ _ _ _ (Ne.symm ne)]; exact hoi
          rw [Heap.get?_update_self _ hg (nofree di1)] at q'
          cases q'
          exact hoi2
        · rw [Heap.get?_update_ne _ _ _ _ z2] at q'
          by_cases z1 : b = e
          · subst z1
            rw [Heap.get?_update_self _ he rfl] at q'
            cases q'
            exact he2
          · rw [Heap.get?_update_ne _ _ _ _ z1] at q'
            exact (sb'.2 b z1).trans (kk b v z1 z2 q')
      · exact ⟨by show 2 ≤ sizeLine; decide, [.int i s.toks, u], .cons ⟨_, rfl⟩ (.cons ru .nil), ⟨_, ht2, rfl, _, rfl⟩⟩
    · have nb : b ≠ s.heap.objs.size := by
        have e' : b = e ∨ b = it := by simpa using hb
        rcases e' with rfl | rfl
        · exact Nat.ne_of_lt (Heap.lt_size he)
        · exact Nat.ne_of_lt (Heap.lt_size hoi)
      rw [upd_ne nb]
      exact (hf b hb).1
  done := by
    intro X hP hw hK hc i pins s σ H E I hf st hg
    subst hP hw hK
    obtain ⟨xs, hq, hx⟩ := hg
    obtain ⟨its, rv, p, hz⟩ := I.list hq
    obtain ⟨⟨old, he⟩, hi⟩ := st
    obtain ⟨f0, f1, f2, f3, f4, f5⟩ := hf it (by simp)
    have hl := rv.length
    exact wpAny_pyNext_enum_end (I.ok.hd hc) he hi p.isList (by simp; omega) fun h' eb => ⟨rfl, I.turned (t' := s.toks) (fun b o hb e => eb b o hb e) f0 f1 f3 f4 f5⟩
  self := fun _ _ _ _ _ st h => wpAny_pyIter_enum st.1.choose_spec h
section
variable {X : Cx}
def iEnum (K : Frag) (ta : TA) : TI := fun σ H R => ta σ H fun vs H1 => ∃ a, vs = [.ref a] ∧ (∃ xs, SqL K H1 a xs) ∧ R (Ite K a) H1
theorem pi_enum {elts : List Expr} {x1} {pt : Pos} {a : Expr} {ta : TA} {p pos : Pos} (hg : Gl X "enumerate") (hm : X.mg "enumerate" = none) (ha : PA X [a] ta) (hs : starEach [a] X.env = [(false, eval a X.env)] := by rfl) : PI X (.Tuple elts x1 pt) (.Call (.Name "enumerate" p) [a] [] pos) (iEnum X.K ta) := by
  intro pins s σ H R I h
  refine Call_ (ld_blt I hg hm boot_enumerate (PyProof.Rows.callWith_type1 (thn (ha pos pins s σ H _ I h) fun us s1 ⟨vs, H1, I1, r1, q1⟩ => ?_) hs rfl))
  obtain ⟨l, rfl, ⟨xs, hq⟩, q⟩ := q1
  cases r1 with
  | cons r rr =>
    cases rr
    cases r
    obtain ⟨its, rv, p', hz⟩ := I1.list hq
    refine call_enumerate_list p'.isList fun h' he hi hsz kk => ?_
    refine wpAny_pyIter_enum he ?_
    refine ⟨s1.heap.objs.size + 1, [s1.heap.objs.size + 1, s1.heap.objs.size], _, _, H1, rfl, I1.kept (t' := s1.toks) kk, turn_enum l _ _ (Nat.succ_ne_self _), ⟨⟨_, he⟩, hi⟩, fun b hb => ?_, q⟩
    have e : b = s1.heap.objs.size + 1 ∨ b = s1.heap.objs.size := by simpa using hb
    have le : s1.heap.objs.size ≤ b := by
      rcases e with rfl | rfl
      · exact Nat.le_succ _
      · exact Nat.le_refl _
    exact I1.fpOk le (I1.hok.fresh le)
end
theorem for_enum {K : Frag} {a : Addr} {xs : List V} {g : TG} {tb : TS} {D : Ends} {σ : St} {H : Hp} (Pv : Nat → St → Hp → Prop) (h0 : Pv 0 σ H) (hl : ∀ i σ H, i ≤ xs.length → Pv i σ H → SqL K H a xs)
    (hs : ∀ i x σ H p, xs[i]? = some x → Pv i σ H → H p = none → g (.ref p) σ (upd H p (.tup [.int i, x])) fun σ2 H2 => tb { D with nx := Pv (i + 1), ct := Pv (i + 1), bk := D.nx } σ2 H2) (hd : ∀ σ H, Pv xs.length σ H → D.nx σ H) :
    ∃ W : Nat → Nat → St → Hp → Prop, (∃ m, W 0 m σ H) ∧ ∀ i m σ H, W i m σ H →
      ((Ite K a).stop i H ∧ D.nx σ H) ∨ ((Ite K a).go i H ∧ ∃ N : St → Hp → Prop, (∀ σ' H', N σ' H' → ∃ m', m' < m ∧ W (i + 1) m' σ' H') ∧ ∀ x H', (Ite K a).yld i H x H' → g x σ H' fun σ2 H2 => tb { D with nx := N, ct := N, bk := D.nx } σ2 H2) := by
  refine ⟨fun i m σ H => m = xs.length - i ∧ i ≤ xs.length ∧ Pv i σ H, ⟨xs.length, by simp, Nat.zero_le _, h0⟩, ?_⟩
  rintro i m σ H ⟨rfl, hi, p⟩
  have q := hl i σ H hi p
  by_cases hlt : i < xs.length
  · refine .inr ⟨⟨xs, xs[i], q, List.getElem?_eq_getElem hlt⟩, Pv (i + 1), fun σ' H' n => ⟨xs.length - (i + 1), by omega, rfl, hlt, n⟩, ?_⟩
    rintro x H' ⟨p', y, rfl, hp, rfl, hy⟩
    exact hs i y σ H p' (hy xs q) p hp
  · have e : i = xs.length := by omega
    subst e
    exact .inl ⟨⟨xs, q, Nat.le_refl _⟩, hd σ H p⟩
end My
set_option Elab.async false
set_option linter.all false
set_option maxRecDepth 100000
set_option maxHeartbeats 4000000
namespace My
open PySem L2
section
variable {prog : Program} {w : World} {A : Around} {R : Result → Shared → Prop} {s : Shared}
theorem compLoopT {elt target iter : Expr} {scope : Scope} {pos : Pos} {it acc : Value} {env : Env} (J : Nat → Shared → Prop)
    (turn : ∀ n s, J n s → wpAny (model prog w) A (pyNext it) (fun r s₁ => match r with
      | none => R (.ok .next) s₁
      | some v => wpAny (model prog w) A (letOwnedTupleGo target it v) (fun _ s₂ => wpAny (model prog w) A (assign target env v) (fun _ s₃ => wpAny (model prog w) A (eval elt env)
          (fun x s₄ => wpAny (model prog w) A (call (.builtin "list.append") [acc, x]) (fun _ s₅ => ∃ m, m < n ∧ J m s₅) (fun _ _ => False) s₄) (fun _ _ => False) s₃) (fun _ _ => False) s₂) (fun _ _ => False) s₁) (fun _ _ => False) s)
    (n : Nat) (h : J n s) : codeAny (model prog w) A (.compLoop (.ListComp elt [⟨target, iter, [], 0⟩] scope pos) 0 it acc env) R s := by
  refine codeAny_loop rfl J (fun n s hJ => ?_) n h
  show wpAny _ _ (Sem.onRaise (compTurn (.ListComp elt [⟨target, iter, [], 0⟩] scope pos) 0 it acc env) (fun x => do noteFrame x env; theTreesLotGoes x)) _ _ s
  refine wpAny_noted ?_
  rw [compTurn_list1]
  refine wpAny_bind (wpAny_standAt (wpAny_bind (wpAny_mono (turn n s hJ) (fun r s₁ h₁ => ?_) fun _ _ z => z.elim)))
  cases r with
  | none => exact wpAny_pure h₁
  | some v =>
    refine wpAny_bind (wpAny_mono h₁ (fun _ s₂ h₂ => ?_) fun _ _ z => z.elim)
    refine wpAny_bind (wpAny_mono h₂ (fun _ s₃ h₃ => ?_) fun _ _ z => z.elim)
    refine wpAny_bind (wpAny_bind (wpAny_mono h₃ (fun x s₄ h₄ => ?_) fun _ _ z => z.elim))
    refine wpAny_bind (wpAny_mono h₄ (fun _ s₅ h₅ => wpAny_pure (wpAny_pure ⟨rfl, h₅⟩)) fun _ _ z => z.elim)
end
def compCx (X : Cx) (sc : Scope) (cl : List (Str × Addr)) (N : List Str) (s : Shared) (H : Hp) (C : Addr) (fp : List Addr) : Cx where
  prog := X.prog
  w := X.w
  K := X.K
  mg := X.mg
  base := X.base
  A := X.A
  N := N
  s₀ := s
  H₀ := H
  env := compEnvC sc cl C X.env
  outer := X.stack
  stack := X.stack
  ex := fp
  fn := fun _ => false
  calm := X.calm
  pn := []
  xe := fun _ _ => False
def capS (js : List Nat) (σ : St) : St := js.map fun j => (σ[j]?).join
section
variable {X : Cx} {pins : List (Addr × Obj)} {σ : St} {H : Hp} {s : Shared} {sc : Scope} {cl : List (Str × Addr)} {x : Str} {zs : List Str} {js : List Nat} {C : Addr} {fp : List Addr}
end
section
variable {X : Cx} {sc : Scope} {cl : List (Str × Addr)} {x : Str} {zs : List Str} {js : List Nat} {elt iter : Expr} {px pos : Pos} {wi : TI} {te : TE}
end
end My
set_option Elab.async false
set_option linter.all false
set_option maxRecDepth 100000
set_option maxHeartbeats 1000000
namespace My
open PySem PySem.W L2
section
variable {K : Frag} {te : TE} {cap : St} {D : Addr} {H1 : Hp} {Q : Hp → Prop}
end
end My
set_option Elab.async false
set_option linter.all false
set_option maxRecDepth 100000
set_option maxHeartbeats 4000000
namespace My
open PySem L2 PySem.Calls PyProof.Rows
open PySem.Builtin.Str (occurrences partsBetween strSub)
section
variable {X : Cx}
theorem mt_starts : MtR X "str.startswith" (fun x xs H Q => ∃ a b, x = .str a ∧ xs = [.str b] ∧ Q (.bl (Txt.startswith a b)) H) := by
  intro pins s σ H x xs v us Q I rx rs h
  obtain ⟨a, b, rfl, rfl, q⟩ := h
  obtain ⟨t, rfl⟩ := rx
  obtain ⟨u, rfl, t', rfl⟩ := vals1 rs
  exact call_gives F.slot_str_startswith (typeIs_str _ _ _) F.entry_str_startswith (F.args_str_startswith_2 _ _) (gives_str_startswith a b t t') ⟨.bl _, H, I, rfl, q⟩
theorem mt_ends : MtR X "str.endswith" (fun x xs H Q => ∃ a b, x = .str a ∧ xs = [.str b] ∧ Q (.bl (Txt.endswith a b)) H) := by
  intro pins s σ H x xs v us Q I rx rs h
  obtain ⟨a, b, rfl, rfl, q⟩ := h
  obtain ⟨t, rfl⟩ := rx
  obtain ⟨u, rfl, t', rfl⟩ := vals1 rs
  exact call_gives F.slot_str_endswith (typeIs_str _ _ _) F.entry_str_endswith (F.args_str_endswith_2 _ _) (gives_str_endswith a b t t') ⟨.bl _, H, I, rfl, q⟩
theorem mt_find : MtR X "str.find" (fun x xs H Q => ∃ a b, x = .str a ∧ xs = [.str b] ∧ Q (.int (Txt.find a b)) H) := by
  intro pins s σ H x xs v us Q I rx rs h
  obtain ⟨a, b, rfl, rfl, q⟩ := h
  obtain ⟨t, rfl⟩ := rx
  obtain ⟨u, rfl, t', rfl⟩ := vals1 rs
  exact call_gives F.slot_str_find (typeIs_str _ _ _) F.entry_str_find (F.args_str_find_2 _ _) (gives_str_find a b t t') ⟨.int _, H, I.tok _, ⟨_, rfl⟩, q⟩
def rSplit : V → List V → Hp → VK → Prop := fun x xs H Q => ∃ a b, x = .str a ∧ xs = [.str b] ∧ (b.length == 0) = false ∧ a.length ≤ sizeLine ∧
  (partsBetween a (occurrences a b 0 a.length (a.length + 1)) b.length).length ≤ sizeLine ∧ ∀ p, H p = none → Q (.ref p) (upd H p (.lst ((Txt.split a b).map V.str)))
theorem vals_strs : ∀ (l : List (Str × Tok)), Vals (l.map fun z => V.str z.1) (strValues l)
  | [] => .nil
  | z :: l => .cons (⟨z.2, rfl⟩ : RelV (.str z.1) _) (vals_strs l)
theorem mt_split : MtR X "str.split" rSplit := by
  intro pins s σ H x xs v us Q I rx rs h
  obtain ⟨a, b, rfl, rfl, hb, ha, hn, q⟩ := h
  obtain ⟨t, rfl⟩ := rx
  obtain ⟨u, rfl, t', rfl⟩ := vals1 rs
  have q' := q s.heap.objs.size (I.hok.fresh (Nat.le_refl _))
  have one : ∀ (l : List (Str × Tok)) (k : Nat), Txt.split a b = l.map (·.1) → l.length ≤ sizeLine → EP X pins σ Q (.ref s.heap.objs.size) { s with heap := s.heap.push { cls := .type "list", data := .seq (strValues l).toArray }, toks := k } := by
    intro l k e hl
    rw [e, List.map_map] at q'
    exact ⟨.ref _, _, I.laid (t' := k) (fun b o e => Heap.get?_push_of_some _ e) (Nat.le_refl _) (show ObjOk X.prog X.w _ _ _ (.lst _) from ⟨by rw [List.length_map]; exact hl, _, _, vals_strs l, Heap.get?_push_size _ rfl⟩), rfl, q'⟩
  cases h1 : (decide (a.length < b.length) || decide (Builtin.Str.strKind a < Builtin.Str.strKind b))
  · cases hf : (occurrences a b 0 a.length (a.length + 1)).isEmpty
    · refine call_meets F.slot_str_split (typeIs_str _ _ _) F.entry_str_split (F.args_str_split_2 _ _) (meets_str_split_sep a b t t' h1 hb hf ha hn) ?_
      have z : Txt.split a b = (numbered s.toks (partsBetween a (occurrences a b 0 a.length (a.length + 1)) b.length)).map (·.1) := by
        rw [numbered_texts]; unfold Txt.split; rw [if_neg (by rw [h1]; decide), if_neg (by rw [hf]; decide)]
      have y := one _ (s.toks + (partsBetween a (occurrences a b 0 a.length (a.length + 1)) b.length).length) z (by rw [← List.length_map (f := (·.1)), numbered_texts]; exact hn)
      rw [← strsFrom_eq] at y
      exact y
    · refine call_meets F.slot_str_split (typeIs_str _ _ _) F.entry_str_split (F.args_str_split_2 _ _) (meets_str_split_not_found a b t t' h1 hb hf) ?_
      exact one [(a, t)] s.toks (by unfold Txt.split; rw [if_neg (by rw [h1]; decide), if_pos hf]; rfl) (by show 1 ≤ sizeLine; decide)
  · refine call_meets F.slot_str_split (typeIs_str _ _ _) F.entry_str_split (F.args_str_split_2 _ _) (meets_str_split_cannot_occur a b t t' h1) ?_
    exact one [(a, t)] s.toks (by unfold Txt.split; rw [if_pos h1]; rfl) (by show 1 ≤ sizeLine; decide)
def Its (z : Str) : It := ⟨fun i _ => i < z.cps.size, fun i H x H' => H' = H ∧ ∃ c, z.cps[i]? = some c ∧ x = .str ⟨#[c]⟩, fun i _ => z.cps.size ≤ i⟩
section
variable {P : Program} {w : World} {K : PySem.W.Frag} {tg : Expr}
theorem itObj {h : Heap} {it : Addr} {ty : String} {z : Str} {t : Tok} {i : Nat} (st : h.IsStrIter it ty z t i) : ∀ b ∈ [it], ∃ o, h.get? b = some o ∧ ∀ v, o.data ≠ .cell v := by
  intro b hb
  obtain ⟨o, e, _, d⟩ := st
  cases List.mem_singleton.mp hb
  exact ⟨o, e, fun v y => by rw [d] at y; cases y⟩
theorem turn_signsA (z : Str) (t : Tok) (it : Addr) : Turn P w K tg (Its z) [it] it (fun i h => h.IsStrIter it "str_ascii_iterator" z t i) where
  mem := List.mem_singleton.mpr rfl
  obj := fun _ _ st => itObj st
  keep := fun _ _ _ ⟨o, e, r⟩ k => ⟨o, k it (List.mem_singleton.mpr rfl) o e, r⟩
  item := by
    intro X hP hw hK hc i pins s σ H E I hf st hg
    subst hP hw hK
    have hg' : i < z.cps.size := hg
    obtain ⟨f0, f1, f2, f3, f4, f5⟩ := hf it (List.mem_singleton.mpr rfl)
    have hx : z.cps[i]? = some z.cps[i] := Array.getElem?_eq_getElem hg'
    refine wpAny_pyNext_ascii_item st hx fun h' st' sb => ?_
    have I1 : Inv X pins σ H { s with heap := h', toks := s.toks + 1 } := I.turned (t' := s.toks + 1) (fun b o hb e => (sb.2 b hb).trans e) f0 f1 f3 f4 f5
    obtain ⟨o, e, c, d⟩ := id st'
    exact ⟨_, rfl, go_of (s := { s with heap := h', toks := s.toks + 1 }) e c d (by decide) ⟨.str _, H, I1, ⟨_, rfl⟩, ⟨rfl, _, hx, rfl⟩, st', fun b hb => (hf b hb).1⟩⟩
  done := by
    intro X hP hw hK hc i pins s σ H E I hf st hg
    subst hP hw hK
    have hg' : z.cps.size ≤ i := hg
    obtain ⟨f0, f1, f2, f3, f4, f5⟩ := hf it (List.mem_singleton.mpr rfl)
    exact wpAny_pyNext_ascii_end (I.ok.hd hc) st (Array.getElem?_eq_none hg') fun h' eb => ⟨rfl, I.turned (t' := s.toks) (fun b o hb e => eb b o hb e) f0 f1 f3 f4 f5⟩
  self := fun _ _ _ _ _ st h => wpAny_pyIter_striter_ascii st h
theorem turn_signsW (z : Str) (t : Tok) (it : Addr) : Turn P w K tg (Its z) [it] it (fun i h => h.IsStrIter it "str_iterator" z t i) where
  mem := List.mem_singleton.mpr rfl
  obj := fun _ _ st => itObj st
  keep := fun _ _ _ ⟨o, e, r⟩ k => ⟨o, k it (List.mem_singleton.mpr rfl) o e, r⟩
  item := by
    intro X hP hw hK hc i pins s σ H E I hf st hg
    subst hP hw hK
    have hg' : i < z.cps.size := hg
    obtain ⟨f0, f1, f2, f3, f4, f5⟩ := hf it (List.mem_singleton.mpr rfl)
    have hx : z.cps[i]? = some z.cps[i] := Array.getElem?_eq_getElem hg'
    refine wpAny_pyNext_wide_item st hx fun h' st' sb => ?_
    have I1 : Inv X pins σ H { s with heap := h', toks := s.toks + 1 } := I.turned (t' := s.toks + 1) (fun b o hb e => (sb.2 b hb).trans e) f0 f1 f3 f4 f5
    obtain ⟨o, e, c, d⟩ := id st'
    exact ⟨_, rfl, go_of (s := { s with heap := h', toks := s.toks + 1 }) e c d (by decide) ⟨.str _, H, I1, ⟨_, rfl⟩, ⟨rfl, _, hx, rfl⟩, st', fun b hb => (hf b hb).1⟩⟩
  done := by
    intro X hP hw hK hc i pins s σ H E I hf st hg
    subst hP hw hK
    have hg' : z.cps.size ≤ i := hg
    obtain ⟨f0, f1, f2, f3, f4, f5⟩ := hf it (List.mem_singleton.mpr rfl)
    exact wpAny_pyNext_wide_end (I.ok.hd hc) st (Array.getElem?_eq_none hg') fun h' eb => ⟨rfl, I.turned (t' := s.toks) (fun b o hb e => eb b o hb e) f0 f1 f3 f4 f5⟩
  self := fun _ _ _ _ _ st h => wpAny_pyIter_striter_wide st h
end
def iStr (tl : TE) : TI := fun σ H R => tl σ H fun x H1 => ∃ z, x = .str z ∧ R (Its z) H1
theorem pi_str {tg l : Expr} {tl : TE} (hl : PE X l tl) : PI X tg l (iStr tl) := by
  intro pins s σ H R I h
  refine thn (hl pins s σ H _ I h) fun v s1 ⟨x, H1, I1, r1, q1⟩ => ?_
  obtain ⟨z, e, q⟩ := q1
  subst e
  obtain ⟨t, rfl⟩ := r1
  have fr : ∀ b ∈ [s1.heap.objs.size], FpOk X pins H1 b := fun b hb => by
    cases List.mem_singleton.mp hb
    exact I1.fpOk (Nat.le_refl _) (I1.hok.fresh (Nat.le_refl _))
  cases ha : z.cps.all (· < 128)
  · exact wpAny_pyIter_wide ha ⟨_, [s1.heap.objs.size], _, _, H1, rfl, I1.kept (t' := s1.toks) fun b o e => Heap.get?_push_of_some _ e, turn_signsW z t _, ⟨_, Heap.get?_push_size _ rfl, rfl, rfl⟩, fr, q⟩
  · exact wpAny_pyIter_ascii ha ⟨_, [s1.heap.objs.size], _, _, H1, rfl, I1.kept (t' := s1.toks) fun b o e => Heap.get?_push_of_some _ e, turn_signsA z t _, ⟨_, Heap.get?_push_size _ rfl, rfl, rfl⟩, fr, q⟩
end
end My
set_option Elab.async false
set_option linter.all false
set_option maxRecDepth 100000
set_option maxHeartbeats 4000000
namespace My
open PySem L2
section
variable {prog : Program} {w : World} {A : Around} {R : Result → Shared → Prop} {s : Shared}
theorem compLoopT1 {elt target iter c : Expr} {scope : Scope} {pos : Pos} {it acc : Value} {env : Env} (J : Nat → Shared → Prop)
    (turn : ∀ n s, J n s → wpAny (model prog w) A (pyNext it) (fun r s₁ => match r with
      | none => R (.ok .next) s₁
      | some v => wpAny (model prog w) A (letOwnedTupleGo target it v) (fun _ s₂ => wpAny (model prog w) A (assign target env v) (fun _ s₃ => wpAny (model prog w) A (isTrue c env (eval c env)) (fun k s₀ =>
          (k = false → ∃ m, m < n ∧ J m s₀) ∧ (k = true → wpAny (model prog w) A (eval elt env)
          (fun x s₄ => wpAny (model prog w) A (call (.builtin "list.append") [acc, x]) (fun _ s₅ => ∃ m, m < n ∧ J m s₅) (fun _ _ => False) s₄) (fun _ _ => False) s₀)) (fun _ _ => False) s₃) (fun _ _ => False) s₂) (fun _ _ => False) s₁) (fun _ _ => False) s)
    (n : Nat) (h : J n s) : codeAny (model prog w) A (.compLoop (.ListComp elt [⟨target, iter, [c], 0⟩] scope pos) 0 it acc env) R s := by
  refine codeAny_loop rfl J (fun n s hJ => ?_) n h
  show wpAny _ _ (Sem.onRaise (compTurn (.ListComp elt [⟨target, iter, [c], 0⟩] scope pos) 0 it acc env) (fun x => do noteFrame x env; theTreesLotGoes x)) _ _ s
  refine wpAny_noted ?_
  rw [compTurn_list]
  refine wpAny_bind (wpAny_standAt (wpAny_bind (wpAny_mono (turn n s hJ) (fun r s₁ h₁ => ?_) fun _ _ z => z.elim)))
  cases r with
  | none => exact wpAny_pure h₁
  | some v =>
    refine wpAny_bind (wpAny_mono h₁ (fun _ s₂ h₂ => ?_) fun _ _ z => z.elim)
    refine wpAny_bind (wpAny_mono h₂ (fun _ s₃ h₃ => ?_) fun _ _ z => z.elim)
    refine wpAny_bind (wpAny_tests_one (wpAny_mono h₃ (fun k s₀ h₀ => ?_) fun _ _ z => z.elim))
    cases k with
    | false => exact wpAny_pure ⟨rfl, h₀.1 rfl⟩
    | true =>
      refine wpAny_bind (wpAny_bind (wpAny_mono (h₀.2 rfl) (fun x s₄ h₄ => ?_) fun _ _ z => z.elim))
      refine wpAny_bind (wpAny_mono h₄ (fun _ s₅ h₅ => wpAny_pure (wpAny_pure ⟨rfl, h₅⟩)) fun _ _ z => z.elim)
end
section
variable {X : Cx} {sc : Scope} {cl : List (Str × Addr)} {x : Str} {zs : List Str} {js : List Nat} {elt iter c : Expr} {px pos : Pos} {wi : TI} {te : TE} {tt : TT}
end
end My
set_option Elab.async false
set_option linter.all false
set_option maxRecDepth 100000
set_option maxHeartbeats 4000000
namespace My
open PySem L2
structure CompG (X : Cx) (sc : Scope) (cl : List (Str × Addr)) (ts zs : List Str) (js : List Nat) : Prop where
  clos : closureFor sc X.env = pure cl
  kind : sc.kind = .function
  noCell : ∀ y ∈ sc.names, y.2 ≠ .cell
  names : ∀ y ∈ sc.names, y.2 = .local → sc.names.lookup y.1 = some .local
  var : ∀ x ∈ ts, sc.names.lookup x = some .local
  sub : ∀ z c, cl.lookup z = some c → X.env.cells.lookup z = some c
  has : ∀ z, ((relabel sc X.env).names.lookup z = some .cell ∨ (relabel sc X.env).names.lookup z = some .free) → ∃ c, cl.lookup z = some c
  nd : (ts ++ zs).Nodup
  cap : ∀ (k : Nat) (z : Str), zs[k]? = some z → ∃ j : Nat, js[k]? = some j ∧ X.N[j]? = some z ∧ Vis X.env.scope z ∧ X.env.kindOf z ≠ some .local ∧
    ((relabel sc X.env).names.lookup z = some .cell ∨ (relabel sc X.env).names.lookup z = some .free)
  len : js.length = zs.length
def tLCG (wi : TI) (k : Nat) (js : List Nat) (g : TG) (te : TE) : TE := fun σ H Q => wi σ H fun J H1 => ∀ D, H1 D = none → ∃ W : Nat → Nat → List V → Hp → Prop, (∃ m, W 0 m [] (upd H1 D (.lst []))) ∧
  ∀ i m ys H2, W i m ys H2 → H2 D = some (.lst ys) ∧ ((J.stop i H2 ∧ Q (.ref D) H2) ∨ (J.go i H2 ∧ ys.length < sizeLine ∧
    ∀ x H3, J.yld i H2 x H3 → ∀ os : St, os.length = k → g x (os ++ capS js σ) H3 fun σ2 H0 => (∃ os' : St, os'.length = k ∧ σ2 = os' ++ capS js σ) ∧ te σ2 H0 fun y H4 => H4 D = some (.lst ys) ∧ ∃ m', m' < m ∧ W (i + 1) m' (ys ++ [y]) (upd H4 D (.lst (ys ++ [y])))))
def tLCGif (wi : TI) (k : Nat) (js : List Nat) (g : TG) (tt : TT) (te : TE) : TE := fun σ H Q => wi σ H fun J H1 => ∀ D, H1 D = none → ∃ W : Nat → Nat → List V → Hp → Prop, (∃ m, W 0 m [] (upd H1 D (.lst []))) ∧
  ∀ i m ys H2, W i m ys H2 → H2 D = some (.lst ys) ∧ ((J.stop i H2 ∧ Q (.ref D) H2) ∨ (J.go i H2 ∧ ys.length < sizeLine ∧
    ∀ x H3, J.yld i H2 x H3 → ∀ os : St, os.length = k → g x (os ++ capS js σ) H3 fun σ2 H0 => (∃ os' : St, os'.length = k ∧ σ2 = os' ++ capS js σ) ∧ tt σ2 H0 fun b H5 => (b = false → ∃ m', m' < m ∧ W (i + 1) m' ys H5) ∧
      (b = true → te σ2 H5 fun y H4 => H4 D = some (.lst ys) ∧ ∃ m', m' < m ∧ W (i + 1) m' (ys ++ [y]) (upd H4 D (.lst (ys ++ [y]))))))
section
variable {X : Cx} {pins : List (Addr × Obj)} {σ : St} {H : Hp} {s : Shared} {sc : Scope} {cl : List (Str × Addr)} {ts zs : List Str} {js : List Nat} {C : Addr} {fp : List Addr}
theorem compG_ok (I : Inv X pins σ H s) (S : CompG X sc cl ts zs js) (hf : ∀ b ∈ fp, FpOk X pins H b ∧ b < s.heap.objs.size) (hC : s.heap.objs.size ≤ C) : (compCx X sc cl (ts ++ zs) s H C fp).Ok := by
  refine ⟨I.ok.mod, S.kind, I.ok.glob, I.ok.blt, hC, fun y z c h1 h2 => I.ok.inj y z c (S.sub _ _ h1) (S.sub _ _ h2), fun z h => S.has z h, (fun _ _ h => nomatch h), I.ok.hd, I.ok.frames, .inl rfl, fun b hb => ?_, I.bs, ?_, fun b o e hb => ?_, fun b hb hs => ?_, I.stack, I.stkFree⟩
  · obtain ⟨⟨_, h1, _, _, h4, _⟩, h6⟩ := hf b hb
    exact ⟨fun e => absurd h6 (Nat.not_lt.mpr (by rw [show b = C from e]; exact hC)), fun z c e => h4 z c (S.sub _ _ e)⟩
  · exact Nat.le_trans I.ok.bsz I.sz
  · obtain ⟨⟨_, _, _, h3, _⟩, _⟩ := hf b hb
    rcases h3 with h | h
    · exact I.ok.noex b o e h
    · exact absurd (Heap.lt_size e) (Nat.not_lt.mpr (Nat.le_trans I.ok.bsz h))
  · obtain ⟨⟨_, h1, h2, _⟩, _⟩ := hf b hb
    rcases List.mem_cons.mp (I.stkSub b hs) with e | e
    · exact h1 e
    · exact h2 e
theorem compG_start {s1 : Shared} (I : Inv X pins σ H s) (S : CompG X sc cl ts zs js) (hf : ∀ b ∈ fp, FpOk X pins H b ∧ b < s.heap.objs.size) (hC : s.heap.objs.size ≤ C) (ho : s1.os = s.os) (hg : s1.gens = s.gens)
    (hk : ∀ b o, s.heap.get? b = some o → s1.heap.get? b = some o) {m : Str → Option Value} (hn : s1.heap.Ns C m) : Inv (compCx X sc cl (ts ++ zs) s H C fp) [] (List.replicate ts.length none ++ capS js σ) H s1 := by
  refine ⟨compG_ok I S hf hC, ho, by rw [hg]; exact I.bare, Un.kept hk, ⟨m, hn, fun i y v h1 h2 h3 => ?_⟩, fun z c e => ?_, I.hok.fresh hC, fun z c e => I.freeC z c (S.sub _ _ e), fun p hp => absurd (show p ∈ ([] : List (Addr × Obj)) from hp) (by simp), I.hok.kept hk, ?_⟩
  · rcases Nat.lt_or_ge i ts.length with lt | ge
    · rw [List.getElem?_append_left (by rw [List.length_replicate]; exact lt), List.getElem?_replicate, if_pos lt] at h2
      cases h2
    · have h1' : zs[i - ts.length]? = some y := by
        have h1'' : (ts ++ zs)[i]? = some y := h1
        rw [List.getElem?_append_right ge] at h1''
        exact h1''
      obtain ⟨j, hj, hN, hv, nl, k'⟩ := S.cap _ y h1'
      have h2' : (capS js σ)[i - ts.length]? = some (some v) := by
        rw [List.getElem?_append_right (by rw [List.length_replicate]; exact ge), List.length_replicate] at h2
        exact h2
      have h5 : σ[j]? = some (some v) := by
        unfold capS at h2'
        rw [List.getElem?_map, hj] at h2'
        have h6 : (σ[j]?).join = some v := Option.some.inj h2'
        cases e : σ[j]? with
        | none => rw [e] at h6; cases h6
        | some o => rw [e] at h6; exact congrArg some h6
      obtain ⟨m0, hn0, hl⟩ := I.loc
      obtain ⟨u, ru, lk⟩ := hl j y v hN h5 hv
      refine ⟨u, ru, ?_⟩
      rcases lk with ⟨k1, _⟩ | ⟨_, c, ec, hc⟩
      · exact absurd k1 nl
      · obtain ⟨c', ec'⟩ := S.has y k'
        have e2 := S.sub _ _ ec'
        rw [ec] at e2
        cases e2
        exact .inr ⟨k', c, ec', hc.keeps hk⟩
  · obtain ⟨v, hv⟩ := I.cell z c (S.sub _ _ e)
    exact ⟨v, hv.keeps hk⟩
  · show (List.replicate ts.length none ++ capS js σ : St).length = (ts ++ zs).length
    unfold capS
    rw [List.length_append, List.length_append, List.length_map, List.length_replicate, S.len]
theorem compG_end {s1 : Shared} {σ' : St} {H' : Hp} {h' : Heap} (I : Inv X pins σ H s) (hf : ∀ b ∈ fp, FpOk X pins H b ∧ b < s.heap.objs.size) (hC : s.heap.objs.size ≤ C) (J : Inv (compCx X sc cl (ts ++ zs) s H C fp) [] σ' H' s1)
    (hs : Heap.SameBut C s1.heap h') : Inv X pins σ H' { s1 with heap := h' } := by
  have old : ∀ b o, s1.heap.get? b = some o → b ≠ C → h'.get? b = some o := fun b o e n => (hs.2 b n).trans e
  have lt : ∀ {b o}, s.heap.get? b = some o → b ≠ C := fun {b o} e z => by
    have q := Heap.lt_size e
    rw [z] at q
    exact absurd q (Nat.not_lt.mpr hC)
  have B := J.base
  refine I.call' (s' := { s1 with heap := h' }) (ch := fp) J.os ⟨fun b o e n hb hx => old b o (B.keep b o e n hb hx) (lt e), fun b o e n hb hx => ?_, B.free, fun b o e hx => ?_, B.tups, B.frzs, B.tbls, B.sys⟩ (fun b o e => ?_) J.bare fun b hb => ?_
  · obtain ⟨sl, q⟩ := B.slot b o e n hb hx
    exact ⟨sl, old _ _ q (lt e)⟩
  · obtain ⟨o', q⟩ := B.there b o e hx
    exact ⟨o', old _ _ q (lt e)⟩
  · have nC : ∀ c u, H' c = some u → c ≠ C := fun c u q z => by
      have f : H' C = none := J.free
      rw [z, f] at q; cases q
    refine (J.hok b o e).stay (fun c v hc q => old c v q ?_) (fun _ q => q) fun _ _ q => q
    rcases hc with rfl | hc
    · exact nC _ _ e
    · exact nC _ _ hc
  · obtain ⟨⟨_, h1, _, h3, h4, h5⟩, _⟩ := hf b hb
    exact ⟨h3, h1, h4, h5⟩
end
section
variable {X : Cx} {sc : Scope} {cl : List (Str × Addr)} {ts zs : List Str} {js : List Nat} {elt iter : Expr} {pos : Pos} {tg : Expr} {g : TG} {wi : TI} {te : TE}
theorem pe_lcG (hc : X.calm = true) (S : CompG X sc cl ts zs js) (hi : PI X tg iter wi) (hg : ∀ s H C fp, PG (compCx X sc cl (ts ++ zs) s H C fp) tg g) (he : ∀ s H C fp, PE (compCx X sc cl (ts ++ zs) s H C fp) elt te)
    (hs : ∀ v, foldedSetIterable iter X.env v = pure v := by intro _; rfl) : PE X (.ListComp elt [⟨tg, iter, [], 0⟩] sc pos) (tLCG wi ts.length js g te) := by
  intro pins s σ H Q I h
  rw [eval_ListComp]
  refine wpAny_comprehension_free (use := none) rfl hs S.clos S.kind S.names (thn (hi pins s σ H _ I h) fun v s1 h1 => thn h1 fun itv s2 h2 => ?_)
  obtain ⟨it, fp, tn, J, H2, e, I2, T, st2, f2, body⟩ := h2
  subst e
  have fr2 : H2 s2.heap.objs.size = none := I2.fresh
  obtain ⟨W, ⟨m0, w0⟩, turn⟩ := body _ fr2
  refine wpAny_newObj_type ?_
  have I3 : Inv X pins σ (upd H2 s2.heap.objs.size (.lst [])) { s2 with heap := s2.heap.push { cls := .type "list", data := .seq ([] : List Value).toArray } } := I2.lnew (t' := s2.toks) (ys := []) (its := []) .nil (Nat.zero_le _)
  refine wpAny_newFunctionEnv S.noCell (by intro y hy; simp at hy) (fun h₁ hn hsb => ?_) S.kind
  generalize hs3 : ({ s2 with heap := s2.heap.push { cls := .type "list", data := .seq ([] : List Value).toArray } } : Shared) = s3 at I3 hn hsb ⊢
  have fpl : ∀ b ∈ fp, FpOk X pins (upd H2 s2.heap.objs.size (.lst [])) b ∧ b < s3.heap.objs.size := fun b hb => by
    obtain ⟨o, ho, _⟩ := T.obj _ _ st2 b hb
    have hl := Heap.lt_size ho
    have hne : b ≠ s2.heap.objs.size := Nat.ne_of_lt hl
    obtain ⟨z1, z2⟩ := f2 b hb
    refine ⟨⟨by rw [upd_ne hne]; exact z1, z2⟩, ?_⟩
    rw [← hs3]
    show b < (s2.heap.push _).objs.size
    rw [Heap.size_push]
    exact Nat.lt_succ_of_lt hl
  have old : ∀ b o, s3.heap.get? b = some o → h₁.get? b = some o := fun b o e => hsb.extBut b o (Nat.ne_of_lt (Heap.lt_size e)) (Heap.get?_push_of_some _ e)
  have loop : ∀ sS : Shared, sS.heap = h₁ → sS.os = s3.os → sS.gens = s3.gens → codeAny (model X.prog X.w) X.A (.compLoop (.ListComp elt [⟨tg, iter, [], 0⟩] sc pos) 0 (.ref it) (.ref s2.heap.objs.size) (compEnvC sc cl s3.heap.objs.size X.env))
      (compPost (model X.prog X.w) X.A X.xe none (EP X pins σ Q) (.ref s2.heap.objs.size) s3.heap.objs.size) sS := by
    intro sS eh eo eg
    subst eh
    have J0 : Inv (compCx X sc cl (ts ++ zs) s3 (upd H2 s2.heap.objs.size (.lst [])) s3.heap.objs.size fp) [] (List.replicate ts.length none ++ capS js σ) (upd H2 s2.heap.objs.size (.lst [])) sS := compG_start I3 S fpl (Nat.le_refl _) eo eg old hn
    generalize hX : compCx X sc cl (ts ++ zs) s3 (upd H2 s2.heap.objs.size (.lst [])) s3.heap.objs.size fp = X' at J0
    have stat : ∀ {H' : Hp}, (∀ b ∈ fp, H' b = none) → ∀ b ∈ fp, FpOk X' [] H' b := fun {H'} hn b hb => by
      subst hX
      obtain ⟨⟨_, z1, z2, z3, z4, z5⟩, z6⟩ := fpl b hb
      refine ⟨hn b hb, Nat.ne_of_lt z6, fun q => ?_, .inl hb, fun y c e => z4 y c (S.sub _ _ e), fun p hp => absurd (show p ∈ ([] : List (Addr × Obj)) from hp) (by simp)⟩
      rcases List.mem_cons.mp (I3.stkSub b q) with e | e
      · exact z1 e
      · exact z2 e
    have st3 : tn 0 sS.heap := T.keep _ _ _ st2 fun b hb o e => old b o (by rw [← hs3]; exact Heap.get?_push_of_some _ e)
    refine compLoopT (fun n s' => ∃ i ys os H', os.length = ts.length ∧ Inv X' [] (os ++ capS js σ) H' s' ∧ tn i s'.heap ∧ (∀ b ∈ fp, H' b = none) ∧ W i n ys H') ?_ m0 ⟨0, [], _, _, List.length_replicate, J0, st3, fun b hb => (fpl b hb).1.1, w0⟩
    rintro n s' ⟨i, ys, os, H', los, Iv, st, fr, w⟩
    obtain ⟨hD, alt⟩ := turn i n ys H' w
    have eP : X'.prog = X.prog := by subst hX; rfl
    have eW : X'.w = X.w := by subst hX; rfl
    have eK : X'.K = X.K := by subst hX; rfl
    have eC : X'.calm = true := by subst hX; exact hc
    have eA : X'.A = X.A := by subst hX; rfl
    have eE : X'.env = compEnvC sc cl s3.heap.objs.size X.env := by subst hX; rfl
    have eX : X'.xe = fun _ _ => False := by subst hX; rfl
    rcases alt with ⟨stop, q⟩ | ⟨go, hlen, step⟩
    · have d := T.done X' eP eW eK eC i [] s' _ H' (fun _ _ => False) Iv (stat fr) st stop
      rw [eA] at d
      refine thn d fun r s4 ⟨hr, I4⟩ => ?_
      subst hr
      obtain ⟨m, hm, _⟩ := id I4.loc
      rw [eE] at hm
      subst hX
      exact ⟨m, hm, fun h' hs' => ⟨.ref s2.heap.objs.size, H', compG_end I3 fpl (Nat.le_refl _) I4 hs', rfl, q⟩⟩
    · have d := T.item X' eP eW eK eC i [] s' _ H' (fun _ _ => False) Iv (stat fr) st go
      rw [eA] at d
      refine thn d fun r s4 ⟨u, hr, h4⟩ => ?_
      subst hr
      refine thn h4 fun _ s5 ⟨y, H5, I5, r5, y5, st5, fr5⟩ => ?_
      have I5' := I5.pinned (stat fr5) (T.obj _ _ st5)
      have hg' : PG X' tg g := by subst hX; exact hg _ _ _ _
      have g6 := hg' _ s5 _ H5 y u _ I5' r5 (step y H5 y5 os los)
      rw [eP, eW, eA, eE, eX] at g6
      refine thn g6 fun _ s6 ⟨σ6, H6, I6, ⟨os', los', e6⟩, st6⟩ => ?_
      subst e6
      have he' : PE X' elt te := by subst hX; exact he _ _ _ _
      have g7 := he' _ s6 _ H6 _ I6 st6
      rw [eP, eW, eA, eE, eX] at g7
      refine thn g7 fun uv s7 ⟨v7, H7, I7, r7, hD7, m', hm', w7⟩ => ?_
      have g8 := (mt_append (X := X')) _ s7 _ H7 (.ref s2.heap.objs.size) [v7] (.ref s2.heap.objs.size) [uv] (fun _ H8 => H8 = upd H7 s2.heap.objs.size (.lst (ys ++ [v7]))) I7 rfl (.cons r7 .nil) ⟨_, ys, v7, rfl, rfl, hD7, hlen, rfl⟩
      rw [eP, eW, eA, eX] at g8
      refine thn g8 fun _ s8 ⟨_, H8, I8, _, e8⟩ => ?_
      subst e8
      refine ⟨m', hm', i + 1, ys ++ [v7], os', _, los', I8.unpinned, T.keep _ _ _ st5 fun b hb o e => (I8.pin (b, o) (List.mem_append_right _ (List.mem_append_right _ (mem_pinsAt hb e)))).1, fun b hb => ?_, w7⟩
      obtain ⟨o', e', _⟩ := T.obj _ _ st5 b hb
      exact (I8.pin (b, o') (List.mem_append_right _ (List.mem_append_right _ (mem_pinsAt hb e')))).2.1
  have st1 : tn 0 h₁ := T.keep _ _ _ st2 fun b hb o e => old b o (by rw [← hs3]; exact Heap.get?_push_of_some _ e)
  exact codeAny_compStart_list (loop _ rfl rfl rfl) (T.self _ 0 _ _ _ st1 (loop _ rfl rfl rfl))
end
section
variable {X : Cx} {sc : Scope} {cl : List (Str × Addr)} {ts zs : List Str} {js : List Nat} {elt iter c : Expr} {pos : Pos} {tg : Expr} {g : TG} {wi : TI} {te : TE} {tt : TT}
theorem pe_lcGI (hc : X.calm = true) (S : CompG X sc cl ts zs js) (hi : PI X tg iter wi) (hg : ∀ s H C fp, PG (compCx X sc cl (ts ++ zs) s H C fp) tg g) (ht : ∀ s H C fp, PT (compCx X sc cl (ts ++ zs) s H C fp) c tt) (he : ∀ s H C fp, PE (compCx X sc cl (ts ++ zs) s H C fp) elt te)
    (hs : ∀ v, foldedSetIterable iter X.env v = pure v := by intro _; rfl) : PE X (.ListComp elt [⟨tg, iter, [c], 0⟩] sc pos) (tLCGif wi ts.length js g tt te) := by
  intro pins s σ H Q I h
  rw [eval_ListComp]
  refine wpAny_comprehension_free (use := none) rfl hs S.clos S.kind S.names (thn (hi pins s σ H _ I h) fun v s1 h1 => thn h1 fun itv s2 h2 => ?_)
  obtain ⟨it, fp, tn, J, H2, e, I2, T, st2, f2, body⟩ := h2
  subst e
  have fr2 : H2 s2.heap.objs.size = none := I2.fresh
  obtain ⟨W, ⟨m0, w0⟩, turn⟩ := body _ fr2
  refine wpAny_newObj_type ?_
  have I3 : Inv X pins σ (upd H2 s2.heap.objs.size (.lst [])) { s2 with heap := s2.heap.push { cls := .type "list", data := .seq ([] : List Value).toArray } } := I2.lnew (t' := s2.toks) (ys := []) (its := []) .nil (Nat.zero_le _)
  refine wpAny_newFunctionEnv S.noCell (by intro y hy; simp at hy) (fun h₁ hn hsb => ?_) S.kind
  generalize hs3 : ({ s2 with heap := s2.heap.push { cls := .type "list", data := .seq ([] : List Value).toArray } } : Shared) = s3 at I3 hn hsb ⊢
  have fpl : ∀ b ∈ fp, FpOk X pins (upd H2 s2.heap.objs.size (.lst [])) b ∧ b < s3.heap.objs.size := fun b hb => by
    obtain ⟨o, ho, _⟩ := T.obj _ _ st2 b hb
    have hl := Heap.lt_size ho
    have hne : b ≠ s2.heap.objs.size := Nat.ne_of_lt hl
    obtain ⟨z1, z2⟩ := f2 b hb
    refine ⟨⟨by rw [upd_ne hne]; exact z1, z2⟩, ?_⟩
    rw [← hs3]
    show b < (s2.heap.push _).objs.size
    rw [Heap.size_push]
    exact Nat.lt_succ_of_lt hl
  have old : ∀ b o, s3.heap.get? b = some o → h₁.get? b = some o := fun b o e => hsb.extBut b o (Nat.ne_of_lt (Heap.lt_size e)) (Heap.get?_push_of_some _ e)
  have loop : ∀ sS : Shared, sS.heap = h₁ → sS.os = s3.os → sS.gens = s3.gens → codeAny (model X.prog X.w) X.A (.compLoop (.ListComp elt [⟨tg, iter, [c], 0⟩] sc pos) 0 (.ref it) (.ref s2.heap.objs.size) (compEnvC sc cl s3.heap.objs.size X.env))
      (compPost (model X.prog X.w) X.A X.xe none (EP X pins σ Q) (.ref s2.heap.objs.size) s3.heap.objs.size) sS := by
    intro sS eh eo eg
    subst eh
    have J0 : Inv (compCx X sc cl (ts ++ zs) s3 (upd H2 s2.heap.objs.size (.lst [])) s3.heap.objs.size fp) [] (List.replicate ts.length none ++ capS js σ) (upd H2 s2.heap.objs.size (.lst [])) sS := compG_start I3 S fpl (Nat.le_refl _) eo eg old hn
    generalize hX : compCx X sc cl (ts ++ zs) s3 (upd H2 s2.heap.objs.size (.lst [])) s3.heap.objs.size fp = X' at J0
    have stat : ∀ {H' : Hp}, (∀ b ∈ fp, H' b = none) → ∀ b ∈ fp, FpOk X' [] H' b := fun {H'} hn b hb => by
      subst hX
      obtain ⟨⟨_, z1, z2, z3, z4, z5⟩, z6⟩ := fpl b hb
      refine ⟨hn b hb, Nat.ne_of_lt z6, fun q => ?_, .inl hb, fun y c e => z4 y c (S.sub _ _ e), fun p hp => absurd (show p ∈ ([] : List (Addr × Obj)) from hp) (by simp)⟩
      rcases List.mem_cons.mp (I3.stkSub b q) with e | e
      · exact z1 e
      · exact z2 e
    have st3 : tn 0 sS.heap := T.keep _ _ _ st2 fun b hb o e => old b o (by rw [← hs3]; exact Heap.get?_push_of_some _ e)
    refine compLoopT1 (fun n s' => ∃ i ys os H', os.length = ts.length ∧ Inv X' [] (os ++ capS js σ) H' s' ∧ tn i s'.heap ∧ (∀ b ∈ fp, H' b = none) ∧ W i n ys H') ?_ m0 ⟨0, [], _, _, List.length_replicate, J0, st3, fun b hb => (fpl b hb).1.1, w0⟩
    rintro n s' ⟨i, ys, os, H', los, Iv, st, fr, w⟩
    obtain ⟨hD, alt⟩ := turn i n ys H' w
    have eP : X'.prog = X.prog := by subst hX; rfl
    have eW : X'.w = X.w := by subst hX; rfl
    have eK : X'.K = X.K := by subst hX; rfl
    have eC : X'.calm = true := by subst hX; exact hc
    have eA : X'.A = X.A := by subst hX; rfl
    have eE : X'.env = compEnvC sc cl s3.heap.objs.size X.env := by subst hX; rfl
    have eX : X'.xe = fun _ _ => False := by subst hX; rfl
    rcases alt with ⟨stop, q⟩ | ⟨go, hlen, step⟩
    · have d := T.done X' eP eW eK eC i [] s' _ H' (fun _ _ => False) Iv (stat fr) st stop
      rw [eA] at d
      refine thn d fun r s4 ⟨hr, I4⟩ => ?_
      subst hr
      obtain ⟨m, hm, _⟩ := id I4.loc
      rw [eE] at hm
      subst hX
      exact ⟨m, hm, fun h' hs' => ⟨.ref s2.heap.objs.size, H', compG_end I3 fpl (Nat.le_refl _) I4 hs', rfl, q⟩⟩
    · have d := T.item X' eP eW eK eC i [] s' _ H' (fun _ _ => False) Iv (stat fr) st go
      rw [eA] at d
      refine thn d fun r s4 ⟨u, hr, h4⟩ => ?_
      subst hr
      refine thn h4 fun _ s5 ⟨y, H5, I5, r5, y5, st5, fr5⟩ => ?_
      have I5' := I5.pinned (stat fr5) (T.obj _ _ st5)
      have hg' : PG X' tg g := by subst hX; exact hg _ _ _ _
      have g6 := hg' _ s5 _ H5 y u _ I5' r5 (step y H5 y5 os los)
      rw [eP, eW, eA, eE, eX] at g6
      refine thn g6 fun _ s6 ⟨σ6, H6, I6, ⟨os', los', e6⟩, st6⟩ => ?_
      subst e6
      have ht' : PT X' c tt := by subst hX; exact ht _ _ _ _
      have g0 := ht' _ s6 _ H6 _ I6 st6
      rw [eP, eW, eA, eE, eX] at g0
      refine thn g0 fun k sk ⟨Hk, Ik, qk⟩ => ?_
      cases k with
      | false =>
        obtain ⟨m', hm', w7⟩ := qk.1 rfl
        refine ⟨fun _ => ?_, fun z => nomatch z⟩
        refine ⟨m', hm', i + 1, ys, os', _, los', Ik.unpinned, T.keep _ _ _ st5 fun b hb o e => (Ik.pin (b, o) (List.mem_append_right _ (List.mem_append_right _ (mem_pinsAt hb e)))).1, fun b hb => ?_, w7⟩
        obtain ⟨o', e', _⟩ := T.obj _ _ st5 b hb
        exact (Ik.pin (b, o') (List.mem_append_right _ (List.mem_append_right _ (mem_pinsAt hb e')))).2.1
      | true =>
      refine ⟨fun z => (nomatch z), fun _ => ?_⟩
      have he' : PE X' elt te := by subst hX; exact he _ _ _ _
      have g7 := he' _ sk _ Hk _ Ik (qk.2 rfl)
      rw [eP, eW, eA, eE, eX] at g7
      refine thn g7 fun uv s7 ⟨v7, H7, I7, r7, hD7, m', hm', w7⟩ => ?_
      have g8 := (mt_append (X := X')) _ s7 _ H7 (.ref s2.heap.objs.size) [v7] (.ref s2.heap.objs.size) [uv] (fun _ H8 => H8 = upd H7 s2.heap.objs.size (.lst (ys ++ [v7]))) I7 rfl (.cons r7 .nil) ⟨_, ys, v7, rfl, rfl, hD7, hlen, rfl⟩
      rw [eP, eW, eA, eX] at g8
      refine thn g8 fun _ s8 ⟨_, H8, I8, _, e8⟩ => ?_
      subst e8
      refine ⟨m', hm', i + 1, ys ++ [v7], os', _, los', I8.unpinned, T.keep _ _ _ st5 fun b hb o e => (I8.pin (b, o) (List.mem_append_right _ (List.mem_append_right _ (mem_pinsAt hb e)))).1, fun b hb => ?_, w7⟩
      obtain ⟨o', e', _⟩ := T.obj _ _ st5 b hb
      exact (I8.pin (b, o') (List.mem_append_right _ (List.mem_append_right _ (mem_pinsAt hb e')))).2.1
  have st1 : tn 0 h₁ := T.keep _ _ _ st2 fun b hb o e => old b o (by rw [← hs3]; exact Heap.get?_push_of_some _ e)
  exact codeAny_compStart_list (loop _ rfl rfl rfl) (T.self _ 0 _ _ _ st1 (loop _ rfl rfl rfl))
end
end My
set_option Elab.async false
set_option linter.all false
set_option maxRecDepth 100000
set_option maxHeartbeats 1000000
namespace My
open PySem PySem.W L2
structure ClsFn (K : Frag) (D : Addr) (m : Str) (f : Addr) : Prop where
  ga : specialIn K (.ref D) "__getattribute__" = some (some (.builtin "type.__getattribute__"))
  reads : readsIn K D (.type "type") = true
  at_ : findCls K (.ref D) (.type "type") m = some (.val (.ref f))
  kp : keepIn K (.ref f) = true
section
variable {X : Cx} {CX : CXT} {k : Nat} {f D : Addr} {fd : FuncData} {ps : List Str} {sp : Sp} {E : XK} {x m : Str} {p pos apos : Pos} {e : Expr} {es : List Expr} {t : TA} {dvs : List V} {ds : List Value}
theorem pe_clsCall {pl : Sem Bool} (C : ClsFn X.K D m f) (F : FnOk X.prog X.w X.K X.mg X.base CX k f fd ps sp) (hr : Room k X.A) (hg : Gl X x) (hm : X.mg x = some (.ref D)) (hb : Binds X.K fd ps ds) (hd : Vals dvs ds) (hx : Passes CX X E) (ha : PA X (e :: es) t)
    (hdb : (x == ("__debug__" : Str)) = false := by decide) (hst : starEach (e :: es) X.env = (false, eval e X.env) :: starEach es X.env := by rfl) (hpl : (backTo pos (starEach es X.env)).any (·.1) = false := by rfl)
    (htr : eval (.Call (.Attribute (.Name x p) m apos) (e :: es) [] pos) X.env = (do
      let ov ← eval (.Name x p) X.env
      standAt apos.atName
      let (f, first) ← holding [ov] (getMethod ov m pl)
      callWith pos f first (backTo pos (starEach (e :: es) X.env)) (backToKw pos (keywordEach [] X.env))) := by rfl) :
    PE X (.Call (.Attribute (.Name x p) m apos) (e :: es) [] pos) (tCall sp dvs E t) := by
  intro pins s σ H Q I h
  refine PySem.W.methodCall_KW (pl := pl) (ld_glob I hg hm ?_ hdb) htr
  refine method_cls I.kIn C.ga (cls_value I.kIn C.reads C.at_ rfl ?_)
  have I0 : Inv X pins σ H { s with toks := s.toks + 1 } := I.tok _
  refine PySem.W.callWith_K (h₀ := X.base) I.ok.mod.kin C.kp (thn (ha pos pins _ σ H _ I0 h) fun us s1 ⟨vs, H1, I1, r, q⟩ => ⟨I1.kIn, ?_⟩) hst hpl
  exact run_fn F hr hb hd hx I1 r q
end
end My
set_option Elab.async false
set_option linter.all false
set_option maxRecDepth 100000
set_option maxHeartbeats 4000000
namespace My
open PySem L2
open PySem.Builtin.Str (occurrences partsBetween strSub)
def fig (c : Nat) : Bool := decide (48 ≤ c) && decide (c ≤ 57)
def figs (L : List Nat) : Bool := !L.isEmpty && !(L.head? == some 48 && L != [48]) && L.all fig
abbrev cs (z : Str) : List Nat := z.cps.toList
theorem fig_iff {c : Nat} : fig c = true ↔ 48 ≤ c ∧ c ≤ 57 := by simp [fig]
theorem figs_all {L : List Nat} (h : figs L = true) : L.all fig = true := by
  unfold figs at h
  simp only [Bool.and_eq_true] at h
  exact h.2
abbrev val (L : List Nat) : Nat := NumText.digitsVal L
theorem str_ext {a b : Str} (h : cs a = cs b) : a = b := by
  cases a; cases b
  exact congrArg Str.mk (Array.toList_inj.mp h)
theorem cs_mk (L : List Nat) : cs ⟨L.toArray⟩ = L := rfl
theorem cs_app (a b : Str) : cs (a ++ b) = cs a ++ cs b := by
  show (a.cps ++ b.cps).toList = _
  exact Array.toList_append
def okS (a b : List Nat) : Bool := figs a && figs b && decide (2 ≤ val b) && decide (1 ≤ val a) && decide (val a < val b) && decide (Nat.gcd (val a) (val b) = 1)
def rd (z : Str) : Option (Nat × Nat) :=
  if z = "0" then some (0, 1) else if z = "1" then some (1, 1) else
    match Txt.split z ⟨#[47]⟩ with
    | [a, b] => if okS (cs a) (cs b) = true then some (val (cs a), val (cs b)) else none
    | _ => none
abbrev tx (n : Nat) : Str := Str.ofString (toString ((n : Nat) : Int))
end My
set_option Elab.async false
set_option linter.all false
set_option maxRecDepth 100000
set_option maxHeartbeats 1000000
namespace My
open PySem PySem.W L2
theorem itT {A B : Prop} (h : A) : if true = true then A else B := by rw [if_pos rfl]; exact h
theorem itF {A B : Prop} (h : B) : if false = true then A else B := by rw [if_neg (by decide)]; exact h
def Ext (H H' : Hp) : Prop := ∀ b o, H b = some o → H' b = some o
theorem Ext.refl (H : Hp) : Ext H H := fun _ _ h => h
theorem Ext.trans {H H1 H2 : Hp} (a : Ext H H1) (b : Ext H1 H2) : Ext H H2 := fun x o h => b x o (a x o h)
theorem Ext.new {H : Hp} {p : Addr} {o : HO} (h : H p = none) : Ext H (upd H p o) := fun b u e => by rw [upd_ne (ne_of_none e h)]; exact e
theorem SqT.ext {K : Frag} {H H' : Hp} {p : Addr} {xs : List V} (h : SqT K H p xs) (e : Ext H H') : SqT K H' p xs := by
  rcases h with h | h
  · left
    rcases h with h | ⟨o, h⟩
    · exact .inl (e _ _ h)
    · exact .inr ⟨o, e _ _ h⟩
  · exact .inr h
theorem SqL.ext {K : Frag} {H H' : Hp} {s : Addr} {xs : List V} (h : SqL K H s xs) (x : Ext H H') : SqL K H' s xs := by
  rcases h with h | h
  · rcases h with h | ⟨o, h⟩
    · exact .inl (.inl (x _ _ h))
    · exact .inl (.inr ⟨o, x _ _ h⟩)
  · exact .inr h
theorem pe_ty {X : Cx} {x : Str} {n : String} {pos : Pos} (hg : Gl X x) (hm : X.mg x = none) (hv : bootBuiltins x = some (.type n)) (hn : x ≠ "__name__" := by decide +kernel) (hd : (x == ("__debug__" : Str)) = false := by decide) : PE X (.Name x pos) (tC (.ty n)) :=
  pe_bltn hg hm hv (show RelV (.ty n) (.type n) from rfl) hn hd
def Kd (K : Frag) (H : Hp) (x : V) (t : Value) : Prop := TyOf K H x t ∨ (∃ p xs, x = .ref p ∧ SqT K H p xs ∧ t = .type "tuple") ∨ (∃ a C, x = .ref a ∧ ErrAt H a C ∧ ErrI K C ∧ t = .ref C)
def rIsK (K : Frag) : List V → Hp → VK → Prop := fun vs H Q => ∃ x n t b, vs = [x, .ty n] ∧ Kd K H x t ∧ kitOne K t (.type n) = some b ∧ Q (.bl b) H
theorem call_isK {X : Cx} (N : IsT X.K) : CallR X (.builtin "isinstance") (rIsK X.K) := by
  intro pins s σ H xs us Q I r h
  obtain ⟨x, n, t, b, rfl, kd, e, q⟩ := h
  obtain ⟨u, u', rfl, ru, ru'⟩ := vals2 r
  cases (show u' = Value.type n from ru')
  rcases kd with ty | ⟨p, ys, rfl, hq, rfl⟩ | ⟨a, C, rfl, ea, T, rfl⟩
  · exact isinst_ok I ru ty e fun tk => ⟨.bl b, H, I.tok _, rfl, q⟩
  · cases (show u = Value.ref p from ru)
    obtain ⟨its, _, ⟨o, h1, h2, _⟩, _⟩ := I.tuple hq
    exact kia_one kitx_tuple I.kIn ⟨o, h1, h2⟩ e (fun z => nomatch z) fun tk => ⟨.bl b, H, I.tok _, rfl, q⟩
  · cases (show u = Value.ref a from ru)
    exact kia_one (kitErr T N.gt N.tk) I.kIn (ea.inst I.hok) e (fun z => nomatch z) fun tk => ⟨.bl b, H, I.tok _, rfl, q⟩
theorem ErrAt.ext {H H' : Hp} {a C : Addr} (e : ErrAt H a C) (x : Ext H H') : ErrAt H' a C := by
  rcases e with e | ⟨dx, fs, e1, e2⟩
  · exact .inl (x _ _ e)
  · exact .inr ⟨dx, fs, x _ _ e1, x _ _ e2⟩
theorem TyOf.ext {K : Frag} {H H' : Hp} {x : V} {t : Value} (h : TyOf K H x t) (e : Ext H H') : TyOf K H' x t := by
  cases h with
  | non => exact .non
  | bl b => exact .bl b
  | int i => exact .int i
  | str z => exact .str z
  | flt z => exact .flt z
  | lst q => exact .lst (e _ _ q)
  | frz q => exact .frz (e _ _ q)
  | tup q => exact .tup (e _ _ q)
  | dK q => exact .dK (e _ _ q)
  | dT q => exact .dT (e _ _ q)
  | ins q cl ha hn htk hm => exact .ins (e _ _ q) cl ha hn htk hm
theorem Kd.ext {K : Frag} {H H' : Hp} {x : V} {t : Value} (h : Kd K H x t) (e : Ext H H') : Kd K H' x t := by
  rcases h with ty | ⟨p, ys, rfl, hq, rfl⟩ | ⟨a, C, rfl, ea, T, rfl⟩
  · exact .inl (My.TyOf.ext ty e)
  · exact .inr (.inl ⟨p, ys, rfl, My.SqT.ext hq e, rfl⟩)
  · exact .inr (.inr ⟨a, C, rfl, ea.ext e, T, rfl⟩)
def NoInt (K : Frag) (H : Hp) (x : V) : Prop := (∀ i, x ≠ .int i) ∧ ∃ t b1 b2, Kd K H x t ∧ kitOne K t (.type "int") = some b1 ∧ kitOne K t (.type "bool") = some b2 ∧ (b1 && !b2) = false
def Th (K : Frag) (H : Hp) (x : V) : Prop := (∃ i, x = .int i) ∨ NoInt K H x
def numB : V → Bool
  | .int _ => true
  | _ => false
def inB (lo hi : Int) : V → Bool
  | .int i => decide (lo ≤ i) && decide (i ≤ hi)
  | _ => false
theorem numB_no {x : V} (h : ∀ i, x ≠ .int i) : numB x = false := by
  cases x with
  | int i => exact absurd rfl (h i)
  | _ => rfl
theorem inB_no {lo hi : Int} {x : V} (h : ∀ i, x ≠ .int i) : inB lo hi x = false := by
  cases x with
  | int i => exact absurd rfl (h i)
  | _ => rfl
section
variable {P : Program} {w : World} {K : Frag} {mg : Str → Option Value} {base : Heap}
theorem k_ii : kitOne K (.type "int") (.type "int") = some true := rfl
theorem k_ib : kitOne K (.type "int") (.type "bool") = some false := rfl
end
end My
set_option Elab.async false
set_option linter.all false
set_option maxRecDepth 100000
set_option maxHeartbeats 4000000
set_option exponentiation.threshold 5000
namespace My
open PySem PySem.W L2
def keyD : Key → PyData
  | .inl i => .int i
  | .inr x => .str x
  | .non => .none
mutual
inductive Rds (G : Hp) : V → PyData → Prop
  | non : Rds G .non .none
  | bl (b : Bool) : Rds G (.bl b) (.bool b)
  | int (i : Int) : Rds G (.int i) (.int i)
  | str (x : Str) : Rds G (.str x) (.str x)
  | lst {a : Addr} {xs : List V} {ds : List PyData} : G a = some (.lst xs) → RdsAll G xs ds → Rds G (.ref a) (.list ds)
  | tup {a : Addr} {xs : List V} {ds : List PyData} : G a = some (.tup xs) → RdsAll G xs ds → Rds G (.ref a) (.tuple ds)
  | dic0 {a : Addr} : G a = some (.dK []) → Rds G (.ref a) (.dict [])
  | dic {a : Addr} {k : Key} {v : V} {d : PyData} : G a = some (.dK [(k, v)]) → Rds G v d → Rds G (.ref a) (.dict [(keyD k, d)])
inductive RdsAll (G : Hp) : List V → List PyData → Prop
  | nil : RdsAll G [] []
  | cons {v : V} {vs : List V} {d : PyData} {ds : List PyData} : Rds G v d → RdsAll G vs ds → RdsAll G (v :: vs) (d :: ds)
end
mutual
theorem Rds.mono {G G' : Hp} (s : Ext G G') : ∀ {v : V} {d : PyData}, Rds G v d → Rds G' v d
  | _, _, .non => .non
  | _, _, .bl b => .bl b
  | _, _, .int i => .int i
  | _, _, .str x => .str x
  | _, _, .lst e r => .lst (s _ _ e) (RdsAll.mono s r)
  | _, _, .tup e r => .tup (s _ _ e) (RdsAll.mono s r)
  | _, _, .dic0 e => .dic0 (s _ _ e)
  | _, _, .dic e r => .dic (s _ _ e) (Rds.mono s r)
theorem RdsAll.mono {G G' : Hp} (s : Ext G G') : ∀ {vs : List V} {ds : List PyData}, RdsAll G vs ds → RdsAll G' vs ds
  | _, _, .nil => .nil
  | _, _, .cons r t => .cons (Rds.mono s r) (RdsAll.mono s t)
end
theorem RdsAll.length {G : Hp} : ∀ {vs : List V} {ds : List PyData}, RdsAll G vs ds → vs.length = ds.length
  | _, _, .nil => rfl
  | _, _, .cons _ t => by rw [List.length_cons, List.length_cons, t.length]
theorem RdsAll.append {G : Hp} : ∀ {vs ws : List V} {ds es : List PyData}, RdsAll G vs ds → RdsAll G ws es → RdsAll G (vs ++ ws) (ds ++ es)
  | _, _, _, _, .nil, s => s
  | _, _, _, _, .cons r t, s => .cons r (t.append s)
section
variable {P : Program} {w : World} {H : Hp} {h : Heap}
theorem key_reads {k : Key} {u : Value} (r : (mixKind P w).is k u = true) : Reads h u (keyD k) [] := by
  rw [mixKind_is] at r
  rcases keyIs_shape r with ⟨i, t, rfl, rfl⟩ | ⟨x, t, rfl, rfl⟩ | ⟨rfl, rfl⟩
  · exact .int i t
  · exact .str x t
  · exact .none
theorem pairs0 {es : List DictEntry} (ps : Pairs (mixKind P w) es ([] : List (Key × Value))) : es = [] := by
  cases ps
  rfl
theorem pairs1 {es : List DictEntry} {k : Key} {u : Value} (ps : Pairs (mixKind P w) es [(k, u)]) : ∃ e, es = [e] ∧ (mixKind P w).is k e.key = true ∧ e.val = u := by
  cases ps with
  | cons h1 h2 h3 =>
    cases h3
    exact ⟨_, rfl, h1, h2⟩
mutual
theorem reads_of (ok : HOk P w H h) (z : H sysModules = none) : ∀ {v : V} {d : PyData} {u : Value}, Rds H v d → RelV v u → ∃ as, Reads h u d as ∧ sysModules ∉ as
  | _, _, _, .non, r => by cases r; exact ⟨[], .none, by simp⟩
  | _, _, _, .bl b, r => by cases r; exact ⟨[], .bool b, by simp⟩
  | _, _, _, .int i, r => by obtain ⟨t, rfl⟩ := r; exact ⟨[], .int i t, by simp⟩
  | _, _, _, .str x, r => by obtain ⟨t, rfl⟩ := r; exact ⟨[], .str x t, by simp⟩
  | _, _, _, .lst (a := a) e t, r => by
    cases r
    obtain ⟨_, its, n, rv, ho⟩ := (show ObjOk P w H h _ (.lst _) from ok _ _ e)
    obtain ⟨as, ra, na⟩ := readsAll_of ok z t rv
    refine ⟨a :: as, .list ho rfl rfl (by simpa using ra), ?_⟩
    intro m
    rcases List.mem_cons.mp m with m | m
    · rw [← m, z] at e; cases e
    · exact na m
  | _, _, _, .tup (a := a) e t, r => by
    cases r
    obtain ⟨_, its, rv, o, ho, hc, n, hd⟩ := (show ObjOk P w H h _ (.tup _) from ok _ _ e)
    obtain ⟨as, ra, na⟩ := readsAll_of ok z t rv
    exact ⟨as, .tuple ho hc hd (by simpa using ra), na⟩
  | _, _, _, .dic0 (a := a) e, r => by
    cases r
    obtain ⟨_, hs, vs, kv, o, es, ep, ho, hx, hd, hks, hps, hnd⟩ := (show ObjOk P w H h _ (.dK _) from ok _ _ e)
    cases kv
    have ee : es.toList = [] := pairs0 hps
    refine ⟨a :: [] ++ [], .dict (kvs := []) ho hx.1 hd (by rw [ee]; exact .nil) (by rw [ee]; exact .nil), ?_⟩
    intro m
    have m' : sysModules = a := by simpa using m
    rw [← m', z] at e; cases e
  | _, _, _, .dic (a := a) (k := k) e t, r => by
    cases r
    obtain ⟨_, hs, vs, kv, o, es, ep, ho, hx, hd, hks, hps, hnd⟩ := (show ObjOk P w H h _ (.dK _) from ok _ _ e)
    cases kv with
    | cons q q' =>
      cases q'
      obtain ⟨hq1, hq2⟩ := q
      obtain ⟨e0, ee, ek, ev⟩ := pairs1 hps
      rw [← ev] at hq2
      rw [← hq1] at ek
      obtain ⟨as, ra, na⟩ := reads_of ok z t hq2
      have rk : ReadsAll h [e0.key] [keyD k] ([] ++ []) := .cons (key_reads ek) .nil
      have rv : ReadsAll h [e0.val] [_] (as ++ []) := .cons ra .nil
      refine ⟨a :: ([] ++ []) ++ (as ++ []), .dict (kvs := [(keyD k, _)]) ho hx.1 hd (by rw [ee]; exact rk) (by rw [ee]; exact rv), ?_⟩
      intro m
      rw [List.append_nil, List.append_nil] at m
      rcases List.mem_cons.mp m with m | m
      · rw [← m, z] at e; cases e
      · exact na (by simpa using m)
theorem readsAll_of (ok : HOk P w H h) (z : H sysModules = none) : ∀ {vs : List V} {ds : List PyData} {us : List Value}, RdsAll H vs ds → Vals vs us → ∃ as, ReadsAll h us ds as ∧ sysModules ∉ as
  | _, _, _, .nil, r => by cases r; exact ⟨[], .nil, by simp⟩
  | _, _, _, .cons r t, rv => by
    cases rv with
    | cons q qs =>
      obtain ⟨as, ra, na⟩ := reads_of ok z r q
      obtain ⟨bs, rb, nb⟩ := readsAll_of ok z t qs
      refine ⟨as ++ bs, .cons ra rb, fun m => ?_⟩
      rcases List.mem_append.mp m with m | m
      · exact na m
      · exact nb m
end
end
structure Show (d : PyData) : Prop where
  sh : d.showable = true
  dp : d.depth ≤ 10
  sz : d.shown.length ≤ sizeLine
section
variable {X : Cx}
def rRepr : List V → Hp → VK → Prop := fun vs H Q => ∃ v d, vs = [v] ∧ Rds H v d ∧ Show d ∧ Q (.str d.shown) H
theorem call_repr (hz : X.H₀ sysModules = none) (hg : X.A.guards = some []) (hu : X.A.units + 64 < cLine) : CallR X (.builtin "repr") rRepr := by
  intro pins s σ H xs us Q I r h
  obtain ⟨v, d, rfl, rd, sw, q⟩ := h
  have z : H sysModules = none := I.base.sys hz
  obtain ⟨u, rfl, ru⟩ := vals1 r
  have big : ∀ a, u = Value.ref a → wpAny (model X.prog X.w) X.A (call (.builtin "repr") [u]) (EP X pins σ Q) X.xe s := fun a e => by
    obtain ⟨as, rr, na⟩ := reads_of I.hok z rd ru
    subst e
    have hd := sw.dp
    exact repr_of_reads' (h₀ := s.heap) rr sw.sh (fun _ => na) hg (by omega) (fun _ _ e => e) (fun h' u tk hk => ⟨.str d.shown, H, I.kept (h' := h') (t' := tk) hk, ⟨u, rfl⟩, q⟩) sw.sz
  cases rd with
  | non => cases ru; exact PySem.P.repr_of_none ⟨.str _, H, I.tok _, ⟨_, rfl⟩, q⟩
  | bl b => cases ru; cases b <;> exact PySem.P.repr_of_bool ⟨.str _, H, I.tok _, ⟨_, rfl⟩, q⟩
  | int i =>
    obtain ⟨t, rfl⟩ := ru
    exact PySem.P.repr_of_int (by have h := sw.sh; simpa only [PyData.showable, decide_eq_true_eq] using h) ⟨.str _, H, I.tok _, ⟨_, rfl⟩, q⟩
  | str x =>
    obtain ⟨t, rfl⟩ := ru
    exact PySem.P.repr_of_str ⟨.str _, H, I.tok _, ⟨_, rfl⟩, q⟩ sw.sz
  | lst e t => exact big _ ru
  | tup e t => exact big _ ru
  | dic0 e => exact big _ ru
  | dic e t => exact big _ ru
end
def kindD : PyData → String
  | .none => "NoneType"
  | .bool _ => "bool"
  | .int _ => "int"
  | .str _ => "str"
  | .list _ => "list"
  | .tuple _ => "tuple"
  | _ => "dict"
def tupB : PyData → Bool
  | .tuple _ => true
  | _ => false
def booB : PyData → Bool
  | .bool _ => true
  | _ => false
def inD (lo hi : Int) : PyData → Bool
  | .int i => decide (lo ≤ i) && decide (i ≤ hi)
  | _ => false
section
variable {K : Frag} {H : Hp} {v : V} {d : PyData}
theorem Rds.ty (r : Rds H v d) : TyOf K H v (.type (kindD d)) := by
  cases r with
  | non => exact .non
  | bl b => exact .bl b
  | int i => exact .int i
  | str x => exact .str x
  | lst e _ => exact .lst e
  | tup e _ => exact .tup e
  | dic0 e => exact .dK e
  | dic e _ => exact .dK e
theorem Rds.kd (r : Rds H v d) : Kd K H v (.type (kindD d)) := .inl r.ty
theorem Rds.isT (r : Rds H v d) : kitOne K (.type (kindD d)) (.type "tuple") = some (tupB d) := by cases r <;> rfl
theorem Rds.isB (r : Rds H v d) : kitOne K (.type (kindD d)) (.type "bool") = some (booB d) := by cases r <;> rfl
theorem Rds.th (r : Rds H v d) : Th K H v := by
  cases r with
  | int i => exact .inl ⟨i, rfl⟩
  | non => exact .inr ⟨fun i z => (by cases z), _, _, _, .inl .non, rfl, rfl, rfl⟩
  | bl b => exact .inr ⟨fun i z => (by cases z), _, _, _, .inl (.bl b), rfl, rfl, rfl⟩
  | str x => exact .inr ⟨fun i z => (by cases z), _, _, _, .inl (.str x), rfl, rfl, rfl⟩
  | lst e _ => exact .inr ⟨fun i z => (by cases z), _, _, _, .inl (.lst e), rfl, rfl, rfl⟩
  | tup e _ => exact .inr ⟨fun i z => (by cases z), _, _, _, .inl (.tup e), rfl, rfl, rfl⟩
  | dic0 e => exact .inr ⟨fun i z => (by cases z), _, _, _, .inl (.dK e), rfl, rfl, rfl⟩
  | dic e _ => exact .inr ⟨fun i z => (by cases z), _, _, _, .inl (.dK e), rfl, rfl, rfl⟩
theorem Rds.inB (r : Rds H v d) (lo hi : Int) : My.inB lo hi v = inD lo hi d := by cases r <;> rfl
theorem rds_tup (r : Rds H v (.tuple ds)) : ∃ a xs, v = .ref a ∧ H a = some (.tup xs) ∧ RdsAll H xs ds := by
  cases r with
  | tup e t => exact ⟨_, _, rfl, e, t⟩
theorem RdsAll.get {xs : List V} {ds : List PyData} (r : RdsAll H xs ds) : ∀ {i : Nat} {x : V}, xs[i]? = some x → ∃ d, ds[i]? = some d ∧ Rds H x d := by
  induction xs generalizing ds with
  | nil => intro i x h; simp at h
  | cons y ys ih =>
    cases r with
    | cons q t =>
      intro i x h
      cases i with
      | zero => cases h; exact ⟨_, rfl, q⟩
      | succ i => exact ih t h
end
end My
set_option Elab.async false
set_option linter.all false
set_option maxRecDepth 100000
set_option maxHeartbeats 1000000
namespace My
open PySem L2
structure Bx (p : Prop) : Prop where
  h : p
section
variable {X : Cx} {e a b : Expr} {es : List Expr} {te ta tb : TE} {t : TA} {pos : Pos} {st : Stmt} {rest : List Stmt} {ts u v : TS}
theorem bx_lst (h : Bx (PA X es t)) : Bx (PE X (.List es pos) (tLst t)) := ⟨pe_lst h.h⟩
theorem bx_ix {r : R2} (hr : IxR X r) (ha : Bx (PE X a ta)) (hb : Bx (PE X b tb)) (hs : PlainIx b) : Bx (PE X (.Subscript a b pos) (tOp r ta tb)) := ⟨pe_ix hr ha.h hb.h hs⟩
theorem bxs_nil : Bx (PSs X [] tNext) := ⟨pss_nil⟩
theorem bxs_one (h : Bx (PS X st ts)) : Bx (PSs X [st] ts) := ⟨pss_one h.h⟩
theorem bxs_cons (h : Bx (PS X st ts)) (k : Bx (PSs X rest u)) : Bx (PSs X (st :: rest) (tSeq ts u)) := ⟨pss_cons h.h k.h⟩
theorem bx_if {c : Expr} {x y : List Stmt} {tc : TT} (hc : Bx (PT X c tc)) (hx : Bx (PSs X x u)) (hy : Bx (PSs X y v)) : Bx (PS X (.If c x y pos) (tIfS tc u v)) := ⟨ps_if hc.h hx.h hy.h⟩
theorem bx_set {i : Nat} {x : Str} {pos' : Pos} (hN : X.N.Nodup) (hi : X.N[i]? = some x) (hx : Loc X.env.scope x) (he : Bx (PE X e te)) (hs : swapsWith e (some (.Name x pos')) pos.line X.env = pure false := by rfl) (hf : X.fn x = true ∨ X.env.scope.names.lookup x = some .local := by first | exact .inl rfl | exact .inr rfl | assumption) :
    Bx (PS X (.Assign [.Name x pos'] e pos) (tAsg te (gName i))) := ⟨ps_set hN hi hx he.h hs hf⟩
end
end My
set_option Elab.async false
set_option linter.all false
set_option maxRecDepth 100000
set_option maxHeartbeats 1000000
namespace My
open PySem PySem.W L2
open AutoSeq1 (wpAny_loadPart')
section
variable {prog : Program} {w : World} {A : Around} {E : Value → Shared → Prop} {s : Shared} {r : Addr} {a b c : Int} {t u v : Tok} {n : Nat}
theorem collect_range {Q : List Value → Shared → Prop} (hh : A.handled = none) (hr : IsRange s.heap r a b c t u v) (hsmall : Builtin.Range.small a b c = true) (hn : Builtin.Range.rangeSize a b c = n) (hlen : n ≤ 2 ^ 24)
    (hQ : ∀ h' tk acc, (∀ b o, s.heap.get? b = some o → h'.get? b = some o) → ItemsOf (fun i v => ∃ t, v = .int (a + i * c) t) acc n → Q acc.toList { s with heap := h', toks := tk }) :
    wpAny (model prog w) A (collect (.ref r)) Q E s := by
  unfold collect
  refine wpAny_bind (wpAny_runValue (codeAny_builtin F.entry_proto_collect ?_))
  rw [Around.under_plainId F.plain_proto_collect _]
  show wpAny _ A.in1 (newList [] >>= fun l => again (.builtin "list.__iadd__" ⟨[l, .ref r], []⟩)) _ _ s
  refine wpAny_bind (wpAny_newObj_type ?_)
  refine wpAny_pure ⟨plainId_quiet F.plain_list_iadd _, codeAny_builtin F.entry_list_iadd ?_⟩
  rw [Around.under_plainId F.plain_list_iadd _]
  show wpAny _ A.in1 (Builtin.List.listExtendWith (.ref s.heap.objs.size) (.ref r) (.ref s.heap.objs.size)) _ _ _
  have hS : (s.heap.push { cls := .type "list", data := .seq ([] : List Value).toArray }).get? s.heap.objs.size = some { cls := .type "list", data := .seq #[] 0 } := Heap.get?_push_size _ rfl
  refine wpAny_mono (wpAny_extend_range (A := A) (R := fun x s' => ∃ h' tk acc c', x = .ok (.ret (.ref s.heap.objs.size)) ∧ s' = { s with heap := h', toks := tk } ∧ (∀ b o, s.heap.get? b = some o → h'.get? b = some o) ∧ h'.get? s.heap.objs.size = some { cls := .type "list", dict := none, data := .seq acc c', slots := #[] } ∧ ItemsOf (fun i v => ∃ t, v = .int (a + i * c) t) acc n)
    (s := { s with heap := s.heap.push { cls := .type "list", data := .seq ([] : List Value).toArray } }) hh (Heap.get?_push_of_some _ hr) hsmall hn hlen s.heap.objs.size (.ref s.heap.objs.size) 0 hS (fun h' tk acc c' hk hS' hacc => ⟨h', tk, acc, c', rfl, rfl, fun b o e => hk b o (Nat.ne_of_lt (Heap.lt_size e)) (Heap.get?_push_of_some _ e), hS', hacc⟩)) (fun fin s' h => ?_) (fun e s' h => ?_)
  · have fin' : ∀ s'', (∃ h' tk acc c', s'' = { s with heap := h', toks := tk } ∧ (∀ b o, s.heap.get? b = some o → h'.get? b = some o) ∧ h'.get? s.heap.objs.size = some { cls := .type "list", dict := none, data := .seq acc c', slots := #[] } ∧ ItemsOf (fun i v => ∃ t, v = .int (a + i * c) t) acc n) → wpAny (model prog w) A (match Value.ref s.heap.objs.size with
      | Value.ref a => do
        match (← load a).data with
          | Data.seq xs _ => pure xs.toList
          | _ => unsupported "internal:collect"
      | _ => unsupported "internal:collect") Q E s'' := fun s'' hx => by
      obtain ⟨h', tk, acc, c', rfl, hk, hS', hacc⟩ := hx
      show wpAny _ A (load s.heap.objs.size >>= _) _ _ _
      refine wpAny_bind (wpAny_load hS' ?_)
      exact wpAny_pure (hQ h' tk acc hk hacc)
    cases fin with
    | done f =>
      obtain ⟨h', tk, acc, c', e, h⟩ := h
      cases e
      exact fin' _ ⟨h', tk, acc, c', h⟩
    | again c' => exact ⟨h.1, codeAny_mono h.2 fun x s'' hr => by obtain ⟨h', tk, acc, c', rfl, hr⟩ := hr; exact fin' _ ⟨h', tk, acc, c', hr⟩⟩
  · obtain ⟨_, _, _, _, e, _⟩ := h
    cases e
end
theorem meets_tuple_new_range (r : Addr) (a b c : Int) (t u v : Tok) (n : Nat) (hsmall : Builtin.Range.small a b c = true) (hn : Builtin.Range.rangeSize a b c = n) (hlen : n ≤ 2 ^ 24) :
    Meets (Builtin.«tuple.__new__» ⟨[.type "tuple", .ref r], []⟩)
      (fun A R s => A.handled = none ∧ IsRange s.heap r a b c t u v ∧ ∀ (h' : Heap) (tk : Nat) (acc : Array Value), (∀ b o', s.heap.get? b = some o' → h'.get? b = some o') → ItemsOf (fun i v => ∃ t, v = .int (a + i * c) t) acc n → R (.ok (.ret (.ref h'.objs.size))) { s with heap := h'.push { cls := .type "tuple", data := .seq acc }, toks := tk }) :=
  .of_wp fun prog w A R s h => by
    obtain ⟨hh, hr, h⟩ := h
    have hsub := sub_tuple_self
    have hinit := init_tuple_lookup
    have hmh := madeHere_tuple
    have hT : s.TypeIs (.ref r) "range" := ⟨_, hr, rfl⟩
    have hh1 : A.in1.handled = none := hh
    wp_walk using wpAny_typeOf hT, collect_range hh1 hr hsmall hn hlen
    intro h' tk acc hk hacc
    show wpAny _ _ (Builtin.Tuple.tupleExact acc.toList.toArray >>= fun v => ret v) _ _ _
    unfold Builtin.Tuple.tupleExact
    refine wpAny_bind (wpAny_newObj_type ?_ (show acc.toList.toArray.size ≤ sizeLine by simp only [Array.toArray_toList]; rw [hacc.1, sizeLine_eq]; omega))
    refine wpAny_pure ⟨_, rfl, ?_⟩
    have e : acc.toList.toArray = acc := by simp
    rw [e]
    exact h h' tk acc hk hacc
theorem call_tuple_range {prog : Program} {w : World} {A : Around} {E : Value → Shared → Prop} {s : Shared} {r : Addr} {a b c : Int} {t u v : Tok} {n : Nat} {Q : Value → Shared → Prop} (hh : A.handled = none) (hr : IsRange s.heap r a b c t u v) (hsmall : Builtin.Range.small a b c = true) (hn : Builtin.Range.rangeSize a b c = n) (hlen : n ≤ 2 ^ 24)
    (h : ∀ (h' : Heap) (tk : Nat) (acc : Array Value), (∀ b o', s.heap.get? b = some o' → h'.get? b = some o') → ItemsOf (fun i v => ∃ t, v = .int (a + i * c) t) acc n → Q (.ref h'.objs.size) { s with heap := h'.push { cls := .type "tuple", data := .seq acc }, toks := tk }) :
    wpAny (model prog w) A (call (.type "tuple") [.ref r]) Q E s :=
  callType_new F.called_tuple (by decide) (F.typeCall_tuple_1 _) (F.newCall_tuple_1 _) (fun obj => F.args_object_init_2 obj _) F.entry_tuple_new
    (meets_tuple_new_range r a b c t u v n hsmall hn hlen) ⟨hh, hr, fun h' tk acc hk hacc => ⟨⟨_, Heap.get?_push_size _ rfl, rfl⟩, h h' tk acc hk hacc⟩⟩
def upL (lo : Int) (n : Nat) : List V := (List.range n).map fun i => V.int (lo + (i : Nat))
theorem upL_length (lo : Int) (n : Nat) : (upL lo n).length = n := by unfold upL; simp
theorem upL_vals {lo : Int} {n : Nat} {acc : Array Value} (h : ItemsOf (fun i v => ∃ t, v = Value.int (lo + i * 1) t) acc n) : Vals (upL lo n) acc.toList := by
  have gen : ∀ (xs : List V) (us : List Value), xs.length = us.length → (∀ (i : Nat) x u, xs[i]? = some x → us[i]? = some u → RelV x u) → Vals xs us := by
    intro xs
    induction xs with
    | nil => intro us l _; cases us with | nil => exact .nil | cons _ _ => cases l
    | cons x xs ih =>
      intro us l g
      cases us with
      | nil => cases l
      | cons u us => exact .cons (g 0 x u rfl rfl) (ih us (by simpa using l) fun i x' u' h1 h2 => g (i + 1) x' u' h1 h2)
  refine gen _ _ (by rw [upL_length]; simp [h.1]) fun i x u hx hu => ?_
  unfold upL at hx
  rw [List.getElem?_map] at hx
  obtain ⟨j, hj, rfl⟩ := Option.map_eq_some_iff.mp hx
  have ej : i = j := by
    have := List.getElem?_eq_some_iff.mp hj
    simpa using this.2
  subst ej
  obtain ⟨t, e⟩ := h.2 i u (by simpa using hu)
  refine ⟨t, ?_⟩
  rw [e, Int.mul_one]
section
variable {X : Cx}
def rRng1 : List V → Hp → VK → Prop := fun vs H Q => ∃ j : Int, vs = [.int j] ∧ ∀ r, H r = none → Q (.ref r) (upd H r (.rng 0 j))
theorem call_rng1 : CallR X (.type "range") rRng1 := by
  intro pins s σ H xs us Q I r h
  obtain ⟨j, rfl, q⟩ := h
  obtain ⟨u, rfl, t, rfl⟩ := vals1 r
  refine call_range_1 ⟨.ref s.heap.objs.size, _, I.laid (t' := s.toks + 1 + 1) (o := .rng 0 j) (fun b o e => Heap.get?_push_of_some _ e) (Nat.le_refl _) ?_, rfl, q _ (I.hok.fresh (Nat.le_refl _))⟩
  exact ⟨_, _, _, Heap.get?_push_size _ rfl⟩
def rTupR : List V → Hp → VK → Prop := fun vs H Q => ∃ (p : Addr) (lo hi : Int), vs = [.ref p] ∧ H p = some (.rng lo hi) ∧ (-(2 ^ 62) ≤ lo ∧ lo < 2 ^ 62 ∧ -(2 ^ 62) ≤ hi ∧ hi < 2 ^ 62) ∧ (hi - lo).toNat ≤ 2 ^ 24 ∧ ∀ l, H l = none → Q (.ref l) (upd H l (.tup (upL lo (hi - lo).toNat)))
theorem call_tupR (hc : X.calm = true) : CallR X (.type "tuple") rTupR := by
  intro pins s σ H xs us Q I r h
  obtain ⟨p, lo, hi, rfl, hp, ⟨b1, b2, b3, b4⟩, hl, q⟩ := h
  obtain ⟨u, rfl, rx⟩ := vals1 r
  cases (show u = Value.ref p from rx)
  obtain ⟨t, u, v, e⟩ := (show ObjOk X.prog X.w H s.heap p (.rng lo hi) from I.hok p _ hp)
  have en : Builtin.Range.rangeSize lo hi 1 = (((hi - lo).toNat : Nat) : Int) := by rw [rangeSize_one]; split <;> omega
  refine call_tuple_range (I.ok.hd hc) e (small_one b1 b2 b3 b4) en hl fun h' tk acc kp hacc => ?_
  have I1 : Inv X pins σ H { s with heap := h' } := I.kept (t' := s.toks) kp
  have ha : acc.toList.toArray = acc := by simp
  have I2 : Inv X pins σ (upd H h'.objs.size (.tup (upL lo (hi - lo).toNat))) { s with heap := h'.push { cls := .type "tuple", data := .seq acc }, toks := tk } :=
    I1.laid (t' := tk) (fun b o e => Heap.get?_push_of_some _ e) (Nat.le_refl _) (show ObjOk X.prog X.w _ _ _ (.tup _) from ⟨by rw [upL_length, sizeLine_eq]; omega, acc.toList, upL_vals hacc, by rw [ha]; exact PyProof.Rows.IsTup.new _ _⟩)
  exact ⟨.ref h'.objs.size, _, I2, rfl, q _ (I1.hok.fresh (Nat.le_refl _))⟩
end
end My
set_option Elab.async false
set_option linter.all false
set_option maxRecDepth 100000
set_option maxHeartbeats 1000000
namespace My
open PySem L2
section
variable {X : Cx}
end
section
variable {X : Cx} {σ : St}
end
end My
set_option Elab.async false
set_option linter.all false
set_option maxRecDepth 100000
set_option maxHeartbeats 1000000
namespace My
open PySem PySem.W L2
section
variable {K : Frag} {te : TE} {tt : TT} {g : TG} {k : Nat} {cap : St} {D : Addr} {H1 : Hp} {Q : Hp → Prop} {a : Addr} {xs : List V}
theorem lcG_list (Pv : Nat → List V → Hp → Prop) (hz : xs.length < sizeLine) (h0 : Pv 0 [] (upd H1 D (.lst [])))
    (hl : ∀ i ys H, Pv i ys H → SqL K H a xs)
    (hs : ∀ i x ys H, xs[i]? = some x → ys.length = i → H D = some (.lst ys) → Pv i ys H → ∀ os : St, os.length = k → ∀ R : VK, (∀ y H4, H4 D = some (.lst ys) → Pv (i + 1) (ys ++ [y]) (upd H4 D (.lst (ys ++ [y]))) → R y H4) → g x (os ++ cap) H fun σ2 H0 => (∃ os' : St, os'.length = k ∧ σ2 = os' ++ cap) ∧ te σ2 H0 R)
    (hd : ∀ ys H, ys.length = xs.length → H D = some (.lst ys) → Pv xs.length ys H → Q H) :
    ∃ W : Nat → Nat → List V → Hp → Prop, (∃ m, W 0 m [] (upd H1 D (.lst []))) ∧
      ∀ i m ys H2, W i m ys H2 → H2 D = some (.lst ys) ∧ (((Itl K a).stop i H2 ∧ Q H2) ∨ ((Itl K a).go i H2 ∧ ys.length < sizeLine ∧
        ∀ x H3, (Itl K a).yld i H2 x H3 → ∀ os : St, os.length = k → g x (os ++ cap) H3 fun σ2 H0 => (∃ os' : St, os'.length = k ∧ σ2 = os' ++ cap) ∧ te σ2 H0 fun y H4 => H4 D = some (.lst ys) ∧ ∃ m', m' < m ∧ W (i + 1) m' (ys ++ [y]) (upd H4 D (.lst (ys ++ [y]))))) := by
  refine ⟨fun i m ys H => m = xs.length - i ∧ i ≤ xs.length ∧ ys.length = i ∧ H D = some (.lst ys) ∧ Pv i ys H, ⟨xs.length, by simp, Nat.zero_le _, rfl, upd_same, h0⟩, ?_⟩
  rintro i m ys H ⟨rfl, hi, hy, hD, p⟩
  refine ⟨hD, ?_⟩
  have q := hl i ys H p
  by_cases hlt : i < xs.length
  · refine .inr ⟨⟨xs, xs[i], q, by simp [hlt]⟩, by omega, fun x H' y => ?_⟩
    obtain ⟨e, y⟩ := y
    subst e
    exact fun os los => hs i x ys _ (y xs q) hy hD p os los _ fun z H4 hD4 p4 => ⟨hD4, xs.length - (i + 1), by omega, rfl, hlt, by rw [List.length_append, hy]; rfl, upd_same, p4⟩
  · have e : i = xs.length := by omega
    subst e
    exact .inl ⟨⟨xs, q, Nat.le_refl _⟩, hd ys H hy hD p⟩
end
end My
set_option Elab.async false
set_option linter.all false
set_option maxRecDepth 100000
set_option maxHeartbeats 4000000
namespace My
open PySem L2
section
variable {X : Cx} {sc : Scope} {cl : List (Str × Addr)} {ts zs : List Str} {js : List Nat} {elt iter c : Expr} {pos : Pos} {tg : Expr} {g : TG} {wi : TI} {te : TE} {tt : TT}
theorem ps_lcG {y : Str} {py spos : Pos} {iy : Nat} (hc : X.calm = true) (S : CompG X sc cl ts zs js) (hi : PI X tg iter wi) (hg : ∀ s H C fp, PG (compCx X sc cl (ts ++ zs) s H C fp) tg g) (he : ∀ s H C fp, PE (compCx X sc cl (ts ++ zs) s H C fp) elt te)
    (hN : X.N.Nodup) (hiy : X.N[iy]? = some y) (hy : Loc X.env.scope y) (hsw : swapsWith (.ListComp elt [⟨tg, iter, [], 0⟩] sc pos) (some (.Name y py)) spos.line X.env = pure true)
    (hf : X.fn y = true ∨ X.env.scope.names.lookup y = some .local := by first | exact .inl rfl | exact .inr rfl | assumption)
    (hs : ∀ v, foldedSetIterable iter X.env v = pure v := by intro _; rfl) : PS X (.Assign [.Name y py] (.ListComp elt [⟨tg, iter, [], 0⟩] sc pos) spos) (tAsg (tLCG wi ts.length js g te) (gName iy)) := by
  intro pins s σ H De I h
  rw [exec_Assign_Name_used _ _ _ _ hsw]
  refine wpAny_bind (wpAny_standAt (wpAny_bind ?_))
  show wpAny _ _ (do let _ ← comprehension (.ListComp elt [⟨tg, iter, [], 0⟩] sc pos) sc X.env _ (newList []) false (eval iter X.env) (some (assign (.Name y py) X.env))) _ _ s
  refine wpAny_bind (wpAny_mono (wpAny_comprehension_free (use := some (assign (.Name y py) X.env)) (Q := fun _ s' => SP X pins De .next s') rfl hs S.clos S.kind S.names ?_) (fun _ s' hq => wpAny_pure (wpAny_pure hq)) fun _ _ e => e)
  refine (thn (hi pins s σ H _ I h) fun v s1 h1 => thn h1 fun itv s2 h2 => ?_)
  obtain ⟨it, fp, tn, J, H2, e, I2, T, st2, f2, body⟩ := h2
  subst e
  have fr2 : H2 s2.heap.objs.size = none := I2.fresh
  obtain ⟨W, ⟨m0, w0⟩, turn⟩ := body _ fr2
  refine wpAny_newObj_type ?_
  have I3 : Inv X pins σ (upd H2 s2.heap.objs.size (.lst [])) { s2 with heap := s2.heap.push { cls := .type "list", data := .seq ([] : List Value).toArray } } := I2.lnew (t' := s2.toks) (ys := []) (its := []) .nil (Nat.zero_le _)
  refine wpAny_newFunctionEnv S.noCell (by intro y hy; simp at hy) (fun h₁ hn hsb => ?_) S.kind
  generalize hs3 : ({ s2 with heap := s2.heap.push { cls := .type "list", data := .seq ([] : List Value).toArray } } : Shared) = s3 at I3 hn hsb ⊢
  have fpl : ∀ b ∈ fp, FpOk X pins (upd H2 s2.heap.objs.size (.lst [])) b ∧ b < s3.heap.objs.size := fun b hb => by
    obtain ⟨o, ho, _⟩ := T.obj _ _ st2 b hb
    have hl := Heap.lt_size ho
    have hne : b ≠ s2.heap.objs.size := Nat.ne_of_lt hl
    obtain ⟨z1, z2⟩ := f2 b hb
    refine ⟨⟨by rw [upd_ne hne]; exact z1, z2⟩, ?_⟩
    rw [← hs3]
    show b < (s2.heap.push _).objs.size
    rw [Heap.size_push]
    exact Nat.lt_succ_of_lt hl
  have old : ∀ b o, s3.heap.get? b = some o → h₁.get? b = some o := fun b o e => hsb.extBut b o (Nat.ne_of_lt (Heap.lt_size e)) (Heap.get?_push_of_some _ e)
  have loop : ∀ sS : Shared, sS.heap = h₁ → sS.os = s3.os → sS.gens = s3.gens → codeAny (model X.prog X.w) X.A (.compLoop (.ListComp elt [⟨tg, iter, [], 0⟩] sc pos) 0 (.ref it) (.ref s2.heap.objs.size) (compEnvC sc cl s3.heap.objs.size X.env))
      (compPost (model X.prog X.w) X.A X.xe (some (assign (.Name y py) X.env)) (fun _ s' => SP X pins De .next s') (.ref s2.heap.objs.size) s3.heap.objs.size) sS := by
    intro sS eh eo eg
    subst eh
    have J0 : Inv (compCx X sc cl (ts ++ zs) s3 (upd H2 s2.heap.objs.size (.lst [])) s3.heap.objs.size fp) [] (List.replicate ts.length none ++ capS js σ) (upd H2 s2.heap.objs.size (.lst [])) sS := compG_start I3 S fpl (Nat.le_refl _) eo eg old hn
    generalize hX : compCx X sc cl (ts ++ zs) s3 (upd H2 s2.heap.objs.size (.lst [])) s3.heap.objs.size fp = X' at J0
    have stat : ∀ {H' : Hp}, (∀ b ∈ fp, H' b = none) → ∀ b ∈ fp, FpOk X' [] H' b := fun {H'} hn b hb => by
      subst hX
      obtain ⟨⟨_, z1, z2, z3, z4, z5⟩, z6⟩ := fpl b hb
      refine ⟨hn b hb, Nat.ne_of_lt z6, fun q => ?_, .inl hb, fun y c e => z4 y c (S.sub _ _ e), fun p hp => absurd (show p ∈ ([] : List (Addr × Obj)) from hp) (by simp)⟩
      rcases List.mem_cons.mp (I3.stkSub b q) with e | e
      · exact z1 e
      · exact z2 e
    have st3 : tn 0 sS.heap := T.keep _ _ _ st2 fun b hb o e => old b o (by rw [← hs3]; exact Heap.get?_push_of_some _ e)
    refine compLoopT (fun n s' => ∃ i ys os H', os.length = ts.length ∧ Inv X' [] (os ++ capS js σ) H' s' ∧ tn i s'.heap ∧ (∀ b ∈ fp, H' b = none) ∧ W i n ys H') ?_ m0 ⟨0, [], _, _, List.length_replicate, J0, st3, fun b hb => (fpl b hb).1.1, w0⟩
    rintro n s' ⟨i, ys, os, H', los, Iv, st, fr, w⟩
    obtain ⟨hD, alt⟩ := turn i n ys H' w
    have eP : X'.prog = X.prog := by subst hX; rfl
    have eW : X'.w = X.w := by subst hX; rfl
    have eK : X'.K = X.K := by subst hX; rfl
    have eC : X'.calm = true := by subst hX; exact hc
    have eA : X'.A = X.A := by subst hX; rfl
    have eE : X'.env = compEnvC sc cl s3.heap.objs.size X.env := by subst hX; rfl
    have eX : X'.xe = fun _ _ => False := by subst hX; rfl
    rcases alt with ⟨stop, q⟩ | ⟨go, hlen, step⟩
    · have d := T.done X' eP eW eK eC i [] s' _ H' (fun _ _ => False) Iv (stat fr) st stop
      rw [eA] at d
      refine thn d fun r s4 ⟨hr, I4⟩ => ?_
      subst hr
      obtain ⟨m, hm, _⟩ := id I4.loc
      have fC : H' s3.heap.objs.size = none := by
        have z := I4.free
        rw [eE] at z
        exact z
      rw [eE] at hm
      subst hX
      have I5 : Inv X pins σ H' s4 := compG_end (h' := s4.heap) I3 fpl (Nat.le_refl _) I4 ⟨rfl, fun _ _ => rfl⟩
      show wpAny _ _ (assign (.Name y py) X.env (.ref s2.heap.objs.size)) _ _ s4
      have nC : ∀ b, b < s3.heap.objs.size → b ≠ s3.heap.objs.size := fun b hb => Nat.ne_of_lt hb
      have nL : X.env.locals ≠ s3.heap.objs.size := nC _ I3.lt
      have cl3 : ∀ z c, X.env.cells.lookup z = some c → c ≠ s3.heap.objs.size := fun z c e => by
        obtain ⟨v, o, ho, _⟩ := I3.cell z c e
        exact nC _ (Heap.lt_size ho)
      refine wpAny_assign_Name (store_ok2 I5 hN hiy hy (v := .ref s2.heap.objs.size) rfl (fun s5 I6 hb => ?_) hf)
      obtain ⟨a5, sb5, ha5⟩ := hb
      have na5 : s3.heap.objs.size ≠ a5 := by
        rcases ha5 with e | e
        · rw [e]; exact nL.symm
        · exact (cl3 _ _ e).symm
      refine ⟨m, hm.sameBut sb5 na5, fun h' hs' => ?_⟩
      have I7 : Inv X pins (σ.set iy (some (.ref s2.heap.objs.size))) H' { s5 with heap := h', toks := s5.toks } :=
        I6.turned (h' := h') (t' := s5.toks) (it := s3.heap.objs.size) (fun b o hb e => (hs'.2 b hb).trans e) fC nL.symm (.inr I3.sz) cl3 fun p hp => by
          obtain ⟨e1, _⟩ := I3.pin p hp
          exact nC _ (Heap.lt_size e1)
      exact ⟨_, H', I7, q⟩
    · have d := T.item X' eP eW eK eC i [] s' _ H' (fun _ _ => False) Iv (stat fr) st go
      rw [eA] at d
      refine thn d fun r s4 ⟨u, hr, h4⟩ => ?_
      subst hr
      refine thn h4 fun _ s5 ⟨y, H5, I5, r5, y5, st5, fr5⟩ => ?_
      have I5' := I5.pinned (stat fr5) (T.obj _ _ st5)
      have hg' : PG X' tg g := by subst hX; exact hg _ _ _ _
      have g6 := hg' _ s5 _ H5 y u _ I5' r5 (step y H5 y5 os los)
      rw [eP, eW, eA, eE, eX] at g6
      refine thn g6 fun _ s6 ⟨σ6, H6, I6, ⟨os', los', e6⟩, st6⟩ => ?_
      subst e6
      have he' : PE X' elt te := by subst hX; exact he _ _ _ _
      have g7 := he' _ s6 _ H6 _ I6 st6
      rw [eP, eW, eA, eE, eX] at g7
      refine thn g7 fun uv s7 ⟨v7, H7, I7, r7, hD7, m', hm', w7⟩ => ?_
      have g8 := (mt_append (X := X')) _ s7 _ H7 (.ref s2.heap.objs.size) [v7] (.ref s2.heap.objs.size) [uv] (fun _ H8 => H8 = upd H7 s2.heap.objs.size (.lst (ys ++ [v7]))) I7 rfl (.cons r7 .nil) ⟨_, ys, v7, rfl, rfl, hD7, hlen, rfl⟩
      rw [eP, eW, eA, eX] at g8
      refine thn g8 fun _ s8 ⟨_, H8, I8, _, e8⟩ => ?_
      subst e8
      refine ⟨m', hm', i + 1, ys ++ [v7], os', _, los', I8.unpinned, T.keep _ _ _ st5 fun b hb o e => (I8.pin (b, o) (List.mem_append_right _ (List.mem_append_right _ (mem_pinsAt hb e)))).1, fun b hb => ?_, w7⟩
      obtain ⟨o', e', _⟩ := T.obj _ _ st5 b hb
      exact (I8.pin (b, o') (List.mem_append_right _ (List.mem_append_right _ (mem_pinsAt hb e')))).2.1
  have st1 : tn 0 h₁ := T.keep _ _ _ st2 fun b hb o e => old b o (by rw [← hs3]; exact Heap.get?_push_of_some _ e)
  exact codeAny_compStart_list (loop _ rfl rfl rfl) (T.self _ 0 _ _ _ st1 (loop _ rfl rfl rfl))
end
section
variable {X : Cx} {sc : Scope} {cl : List (Str × Addr)} {ts zs : List Str} {js : List Nat} {elt iter c : Expr} {pos : Pos} {tg : Expr} {g : TG} {wi : TI} {te : TE} {tt : TT}
theorem ps_lcGI {y : Str} {py spos : Pos} {iy : Nat} (hc : X.calm = true) (S : CompG X sc cl ts zs js) (hi : PI X tg iter wi) (hg : ∀ s H C fp, PG (compCx X sc cl (ts ++ zs) s H C fp) tg g) (ht : ∀ s H C fp, PT (compCx X sc cl (ts ++ zs) s H C fp) c tt) (he : ∀ s H C fp, PE (compCx X sc cl (ts ++ zs) s H C fp) elt te)
    (hN : X.N.Nodup) (hiy : X.N[iy]? = some y) (hy : Loc X.env.scope y) (hsw : swapsWith (.ListComp elt [⟨tg, iter, [c], 0⟩] sc pos) (some (.Name y py)) spos.line X.env = pure true)
    (hf : X.fn y = true ∨ X.env.scope.names.lookup y = some .local := by first | exact .inl rfl | exact .inr rfl | assumption)
    (hs : ∀ v, foldedSetIterable iter X.env v = pure v := by intro _; rfl) : PS X (.Assign [.Name y py] (.ListComp elt [⟨tg, iter, [c], 0⟩] sc pos) spos) (tAsg (tLCGif wi ts.length js g tt te) (gName iy)) := by
  intro pins s σ H De I h
  rw [exec_Assign_Name_used _ _ _ _ hsw]
  refine wpAny_bind (wpAny_standAt (wpAny_bind ?_))
  show wpAny _ _ (do let _ ← comprehension (.ListComp elt [⟨tg, iter, [c], 0⟩] sc pos) sc X.env _ (newList []) false (eval iter X.env) (some (assign (.Name y py) X.env))) _ _ s
  refine wpAny_bind (wpAny_mono (wpAny_comprehension_free (use := some (assign (.Name y py) X.env)) (Q := fun _ s' => SP X pins De .next s') rfl hs S.clos S.kind S.names ?_) (fun _ s' hq => wpAny_pure (wpAny_pure hq)) fun _ _ e => e)
  refine (thn (hi pins s σ H _ I h) fun v s1 h1 => thn h1 fun itv s2 h2 => ?_)
  obtain ⟨it, fp, tn, J, H2, e, I2, T, st2, f2, body⟩ := h2
  subst e
  have fr2 : H2 s2.heap.objs.size = none := I2.fresh
  obtain ⟨W, ⟨m0, w0⟩, turn⟩ := body _ fr2
  refine wpAny_newObj_type ?_
  have I3 : Inv X pins σ (upd H2 s2.heap.objs.size (.lst [])) { s2 with heap := s2.heap.push { cls := .type "list", data := .seq ([] : List Value).toArray } } := I2.lnew (t' := s2.toks) (ys := []) (its := []) .nil (Nat.zero_le _)
  refine wpAny_newFunctionEnv S.noCell (by intro y hy; simp at hy) (fun h₁ hn hsb => ?_) S.kind
  generalize hs3 : ({ s2 with heap := s2.heap.push { cls := .type "list", data := .seq ([] : List Value).toArray } } : Shared) = s3 at I3 hn hsb ⊢
  have fpl : ∀ b ∈ fp, FpOk X pins (upd H2 s2.heap.objs.size (.lst [])) b ∧ b < s3.heap.objs.size := fun b hb => by
    obtain ⟨o, ho, _⟩ := T.obj _ _ st2 b hb
    have hl := Heap.lt_size ho
    have hne : b ≠ s2.heap.objs.size := Nat.ne_of_lt hl
    obtain ⟨z1, z2⟩ := f2 b hb
    refine ⟨⟨by rw [upd_ne hne]; exact z1, z2⟩, ?_⟩
    rw [← hs3]
    show b < (s2.heap.push _).objs.size
    rw [Heap.size_push]
    exact Nat.lt_succ_of_lt hl
  have old : ∀ b o, s3.heap.get? b = some o → h₁.get? b = some o := fun b o e => hsb.extBut b o (Nat.ne_of_lt (Heap.lt_size e)) (Heap.get?_push_of_some _ e)
  have loop : ∀ sS : Shared, sS.heap = h₁ → sS.os = s3.os → sS.gens = s3.gens → codeAny (model X.prog X.w) X.A (.compLoop (.ListComp elt [⟨tg, iter, [c], 0⟩] sc pos) 0 (.ref it) (.ref s2.heap.objs.size) (compEnvC sc cl s3.heap.objs.size X.env))
      (compPost (model X.prog X.w) X.A X.xe (some (assign (.Name y py) X.env)) (fun _ s' => SP X pins De .next s') (.ref s2.heap.objs.size) s3.heap.objs.size) sS := by
    intro sS eh eo eg
    subst eh
    have J0 : Inv (compCx X sc cl (ts ++ zs) s3 (upd H2 s2.heap.objs.size (.lst [])) s3.heap.objs.size fp) [] (List.replicate ts.length none ++ capS js σ) (upd H2 s2.heap.objs.size (.lst [])) sS := compG_start I3 S fpl (Nat.le_refl _) eo eg old hn
    generalize hX : compCx X sc cl (ts ++ zs) s3 (upd H2 s2.heap.objs.size (.lst [])) s3.heap.objs.size fp = X' at J0
    have stat : ∀ {H' : Hp}, (∀ b ∈ fp, H' b = none) → ∀ b ∈ fp, FpOk X' [] H' b := fun {H'} hn b hb => by
      subst hX
      obtain ⟨⟨_, z1, z2, z3, z4, z5⟩, z6⟩ := fpl b hb
      refine ⟨hn b hb, Nat.ne_of_lt z6, fun q => ?_, .inl hb, fun y c e => z4 y c (S.sub _ _ e), fun p hp => absurd (show p ∈ ([] : List (Addr × Obj)) from hp) (by simp)⟩
      rcases List.mem_cons.mp (I3.stkSub b q) with e | e
      · exact z1 e
      · exact z2 e
    have st3 : tn 0 sS.heap := T.keep _ _ _ st2 fun b hb o e => old b o (by rw [← hs3]; exact Heap.get?_push_of_some _ e)
    refine compLoopT1 (fun n s' => ∃ i ys os H', os.length = ts.length ∧ Inv X' [] (os ++ capS js σ) H' s' ∧ tn i s'.heap ∧ (∀ b ∈ fp, H' b = none) ∧ W i n ys H') ?_ m0 ⟨0, [], _, _, List.length_replicate, J0, st3, fun b hb => (fpl b hb).1.1, w0⟩
    rintro n s' ⟨i, ys, os, H', los, Iv, st, fr, w⟩
    obtain ⟨hD, alt⟩ := turn i n ys H' w
    have eP : X'.prog = X.prog := by subst hX; rfl
    have eW : X'.w = X.w := by subst hX; rfl
    have eK : X'.K = X.K := by subst hX; rfl
    have eC : X'.calm = true := by subst hX; exact hc
    have eA : X'.A = X.A := by subst hX; rfl
    have eE : X'.env = compEnvC sc cl s3.heap.objs.size X.env := by subst hX; rfl
    have eX : X'.xe = fun _ _ => False := by subst hX; rfl
    rcases alt with ⟨stop, q⟩ | ⟨go, hlen, step⟩
    · have d := T.done X' eP eW eK eC i [] s' _ H' (fun _ _ => False) Iv (stat fr) st stop
      rw [eA] at d
      refine thn d fun r s4 ⟨hr, I4⟩ => ?_
      subst hr
      obtain ⟨m, hm, _⟩ := id I4.loc
      have fC : H' s3.heap.objs.size = none := by
        have z := I4.free
        rw [eE] at z
        exact z
      rw [eE] at hm
      subst hX
      have I5 : Inv X pins σ H' s4 := compG_end (h' := s4.heap) I3 fpl (Nat.le_refl _) I4 ⟨rfl, fun _ _ => rfl⟩
      show wpAny _ _ (assign (.Name y py) X.env (.ref s2.heap.objs.size)) _ _ s4
      have nC : ∀ b, b < s3.heap.objs.size → b ≠ s3.heap.objs.size := fun b hb => Nat.ne_of_lt hb
      have nL : X.env.locals ≠ s3.heap.objs.size := nC _ I3.lt
      have cl3 : ∀ z c, X.env.cells.lookup z = some c → c ≠ s3.heap.objs.size := fun z c e => by
        obtain ⟨v, o, ho, _⟩ := I3.cell z c e
        exact nC _ (Heap.lt_size ho)
      refine wpAny_assign_Name (store_ok2 I5 hN hiy hy (v := .ref s2.heap.objs.size) rfl (fun s5 I6 hb => ?_) hf)
      obtain ⟨a5, sb5, ha5⟩ := hb
      have na5 : s3.heap.objs.size ≠ a5 := by
        rcases ha5 with e | e
        · rw [e]; exact nL.symm
        · exact (cl3 _ _ e).symm
      refine ⟨m, hm.sameBut sb5 na5, fun h' hs' => ?_⟩
      have I7 : Inv X pins (σ.set iy (some (.ref s2.heap.objs.size))) H' { s5 with heap := h', toks := s5.toks } :=
        I6.turned (h' := h') (t' := s5.toks) (it := s3.heap.objs.size) (fun b o hb e => (hs'.2 b hb).trans e) fC nL.symm (.inr I3.sz) cl3 fun p hp => by
          obtain ⟨e1, _⟩ := I3.pin p hp
          exact nC _ (Heap.lt_size e1)
      exact ⟨_, H', I7, q⟩
    · have d := T.item X' eP eW eK eC i [] s' _ H' (fun _ _ => False) Iv (stat fr) st go
      rw [eA] at d
      refine thn d fun r s4 ⟨u, hr, h4⟩ => ?_
      subst hr
      refine thn h4 fun _ s5 ⟨y, H5, I5, r5, y5, st5, fr5⟩ => ?_
      have I5' := I5.pinned (stat fr5) (T.obj _ _ st5)
      have hg' : PG X' tg g := by subst hX; exact hg _ _ _ _
      have g6 := hg' _ s5 _ H5 y u _ I5' r5 (step y H5 y5 os los)
      rw [eP, eW, eA, eE, eX] at g6
      refine thn g6 fun _ s6 ⟨σ6, H6, I6, ⟨os', los', e6⟩, st6⟩ => ?_
      subst e6
      have ht' : PT X' c tt := by subst hX; exact ht _ _ _ _
      have g0 := ht' _ s6 _ H6 _ I6 st6
      rw [eP, eW, eA, eE, eX] at g0
      refine thn g0 fun k sk ⟨Hk, Ik, qk⟩ => ?_
      cases k with
      | false =>
        obtain ⟨m', hm', w7⟩ := qk.1 rfl
        refine ⟨fun _ => ?_, fun z => nomatch z⟩
        refine ⟨m', hm', i + 1, ys, os', _, los', Ik.unpinned, T.keep _ _ _ st5 fun b hb o e => (Ik.pin (b, o) (List.mem_append_right _ (List.mem_append_right _ (mem_pinsAt hb e)))).1, fun b hb => ?_, w7⟩
        obtain ⟨o', e', _⟩ := T.obj _ _ st5 b hb
        exact (Ik.pin (b, o') (List.mem_append_right _ (List.mem_append_right _ (mem_pinsAt hb e')))).2.1
      | true =>
      refine ⟨fun z => (nomatch z), fun _ => ?_⟩
      have he' : PE X' elt te := by subst hX; exact he _ _ _ _
      have g7 := he' _ sk _ Hk _ Ik (qk.2 rfl)
      rw [eP, eW, eA, eE, eX] at g7
      refine thn g7 fun uv s7 ⟨v7, H7, I7, r7, hD7, m', hm', w7⟩ => ?_
      have g8 := (mt_append (X := X')) _ s7 _ H7 (.ref s2.heap.objs.size) [v7] (.ref s2.heap.objs.size) [uv] (fun _ H8 => H8 = upd H7 s2.heap.objs.size (.lst (ys ++ [v7]))) I7 rfl (.cons r7 .nil) ⟨_, ys, v7, rfl, rfl, hD7, hlen, rfl⟩
      rw [eP, eW, eA, eX] at g8
      refine thn g8 fun _ s8 ⟨_, H8, I8, _, e8⟩ => ?_
      subst e8
      refine ⟨m', hm', i + 1, ys ++ [v7], os', _, los', I8.unpinned, T.keep _ _ _ st5 fun b hb o e => (I8.pin (b, o) (List.mem_append_right _ (List.mem_append_right _ (mem_pinsAt hb e)))).1, fun b hb => ?_, w7⟩
      obtain ⟨o', e', _⟩ := T.obj _ _ st5 b hb
      exact (I8.pin (b, o') (List.mem_append_right _ (List.mem_append_right _ (mem_pinsAt hb e')))).2.1
  have st1 : tn 0 h₁ := T.keep _ _ _ st2 fun b hb o e => old b o (by rw [← hs3]; exact Heap.get?_push_of_some _ e)
  exact codeAny_compStart_list (loop _ rfl rfl rfl) (T.self _ 0 _ _ _ st1 (loop _ rfl rfl rfl))
end
end My
set_option Elab.async false
set_option linter.all false
set_option maxRecDepth 100000
set_option maxHeartbeats 1000000
namespace My
open PySem PySem.W L2
section
variable {X : Cx} {pos : Pos}
end
section
variable {K : Frag} {te : TE} {g : TG} {k : Nat} {cap : St} {D : Addr} {H1 : Hp} {Q : Hp → Prop}
end
end My
set_option Elab.async false
set_option linter.all false
set_option maxRecDepth 100000
set_option maxHeartbeats 1000000
namespace My
open PySem PySem.W L2
section
variable {X : Cx}
end
end My
set_option Elab.async false
set_option linter.all false
set_option maxRecDepth 100000
set_option maxHeartbeats 1000000
namespace My
open PySem PySem.W L2
open Sem (wp)
open AutoSeq1 (wpAny_loadPart')
open PyProof.Rows (Call_ boot_enumerate)
section
variable {prog : Program} {w : World} {A : Around} {E : Value → Shared → Prop} {s : Shared}
end
section
variable {X : Cx}
end
end My
set_option Elab.async false
set_option linter.all false
set_option maxRecDepth 100000
set_option maxHeartbeats 1000000
namespace My
open PySem PySem.W L2 PyProof.Rows
section
variable {X : Cx} {e : Expr} {te : TE} {pos p1 p2 p3 : Pos}
end
end My
set_option Elab.async false
set_option linter.all false
set_option maxRecDepth 100000
set_option maxHeartbeats 1000000
namespace My
open PySem PySem.W L2
structure OneF (K : Frag) (mg : Str → Option Value) (D : Addr) (nm fld : Str) (C f : Addr) (fd : FuncData) : Prop where
  cls : ErrC K D nm C f
  mgC : mg nm = some (.ref C)
  ok : ∀ (P : Program) (w : World) (base : Heap), FnOk P w K mg base CX0 1 f fd ["self", fld] (spErr C fld)
  bi : Binds K fd ["self", fld] []
structure Df (P : Program) (w : World) (K : Frag) (mg : Str → Option Value) (base : Heap) (cx : CXT) (k : Nat) (nm : Str) (ps : List Str) (sp : Sp) (g : Addr) (gd : FuncData) : Prop where
  G : FnOk P w K mg base cx k g gd ps sp
  b : Binds K gd ps []
  kp : keepIn K (.ref g) = true
  m : mg nm = some (.ref g)
theorem passN {P : Program} {w : World} {X : Cx} : Passes (CXE P w) X E0 := fun _ _ _ _ _ _ _ h => by
  obtain ⟨_, _, _, _, _, _, _, _, _, _, _, _, _, h⟩ := h
  exact h.elim
def ErrF (C : Addr) (fld : Str) (x : V) (H : Hp) (E : XK) : Prop := ∀ e dx, H e = none → H dx = none → dx ≠ e → E (.ref C) (some e) (upd (upd H dx (.xd [(fld, x)])) e (ErrT e C (some dx)))
def NoK (K : Frag) (H : Hp) (v : V) (n : String) : Prop := ∃ t, Kd K H v t ∧ kitOne K t (.type n) = some false
theorem NoK.ext {K : Frag} {H H' : Hp} {v : V} {n : String} (h : NoK K H v n) (x : Ext H H') : NoK K H' v n := by
  obtain ⟨t, k, e⟩ := h
  exact ⟨t, k.ext x, e⟩
def FirstB (bs : List Bool) (i : Nat) : Prop := (∀ j b, j < i → bs[j]? = some b → b = true) ∧ bs[i]? = some false
section
variable {P : Program} {w : World} {K : Frag} {mg : Str → Option Value} {base : Heap}
end
theorem ext_upd {H0 H : Hp} {l : Addr} (o : HO) (x : Ext H0 H) (h : H0 l = none) : Ext H0 (upd H l o) := fun b u e => by
  rw [upd_ne (fun z => by rw [z, h] at e; cases e)]
  exact x b u e
theorem take_all {α : Type} {xs : List α} {i : Nat} {x : α} (h : xs[i]? = some x) : xs.take (i + 1) = xs.take i ++ [x] := by
  rw [List.take_succ, h]
  rfl
def Kept (H H' : Hp) (p : Addr) : Prop := ∀ b o, H b = some o → b ≠ p → H' b = some o
theorem Kept.refl (H : Hp) (p : Addr) : Kept H H p := fun _ _ h _ => h
theorem Kept.trans {H H1 H2 : Hp} {p : Addr} (x : Kept H H1 p) (y : Kept H1 H2 p) : Kept H H2 p := fun b o h n => y b o (x b o h n) n
theorem Ext.kept {H H' : Hp} (x : Ext H H') (p : Addr) : Kept H H' p := fun b o h _ => x b o h
def wo (H : Hp) (p : Addr) : Hp := fun b => if b = p then none else H b
theorem wo_ext (H : Hp) (p : Addr) : Ext (wo H p) H := fun b o e => by
  unfold wo at e
  split at e
  · cases e
  · exact e
theorem wo_at {H : Hp} {p b : Addr} {o : HO} (n : b ≠ p) (e : H b = some o) : wo H p b = some o := by unfold wo; rw [if_neg n]; exact e
theorem wo_kept {H H' : Hp} {p : Addr} (k : Kept H H' p) : Ext (wo H p) (wo H' p) := fun b o e => by
  unfold wo at e
  split at e
  · cases e
  · rename_i n
    exact wo_at n (k b o e n)
structure BoxAt (H : Hp) (p : Addr) : Prop where
  ex : ∃ a b c : Int, H p = some (.lst [.int a, .int b, .int c]) ∧ 0 ≤ a ∧ 0 ≤ b ∧ 0 ≤ c ∧ c < 2147483647
theorem BoxAt.ext {H H' : Hp} {p : Addr} (h : BoxAt H p) (x : Ext H H') : BoxAt H' p := by
  obtain ⟨a, b, c, e, r⟩ := h.ex
  exact ⟨a, b, c, x _ _ e, r⟩
theorem BoxAt.ne {H : Hp} {p q : Addr} (h : BoxAt H p) (e : H q = none) : q ≠ p := fun z => by
  obtain ⟨a, b, c, f, _⟩ := h.ex
  rw [z, f] at e
  cases e
section
variable {X : Cx} {CX : CXT} {k : Nat} {f : Addr} {fd : FuncData} {ps : List Str} {sp : Sp} {E : XK} {x : Str} {p pos : Pos} {e : Expr} {es : List Expr} {t : TA} {σ : St}
end
structure Fi (k n : Nat) (d : PyData) : Prop where
  sh : d.showable = true
  dp : d.depth ≤ k
  lv : d.leavesShort 64 = true
  bk : d.bulk ≤ n
theorem Fi.show {k n : Nat} {d : PyData} (f : Fi k n d) (hk : k ≤ 10) (hn : n ≤ 200000) : Show d := by
  refine ⟨f.sh, Nat.le_trans f.dp hk, ?_⟩
  have e := PyData.shown_le_bulk 64 (by decide) d f.lv
  have e2 : (64 + 2) * d.bulk ≤ 66 * 200000 := Nat.mul_le_mul_left _ (Nat.le_trans f.bk hn)
  rw [sizeLine_eq]
  omega
theorem fi_int {i : Int} (h : i.natAbs < 10 ^ 30) : Fi 0 2 (.int i) := by
  refine ⟨?_, by simp [PyData.depth], ?_, by simp [PyData.bulk]⟩
  · simp only [PyData.showable, decide_eq_true_eq]
    by_cases z : i.natAbs = 0
    · rw [z]; decide
    · exact (Nat.log2_lt z).mpr (Nat.lt_trans h (by decide +kernel))
  · have e := int_text_length_le10 (k := 30) (by decide) h
    simp only [PyData.leavesShort, PyData.shown]
    refine decide_eq_true (show (Str.ofString (toString i)).length ≤ 64 from ?_)
    rw [ofString_length]
    omega
theorem fi_none : Fi 0 2 .none := ⟨rfl, by simp [PyData.depth], rfl, by simp [PyData.bulk]⟩
theorem fi_bool {b : Bool} : Fi 0 2 (.bool b) := by cases b <;> exact ⟨rfl, by simp [PyData.depth], rfl, by simp [PyData.bulk]⟩
theorem fi_small {i : Int} (h1 : -1000000000 ≤ i) (h2 : i ≤ 1000000000) : Fi 0 2 (.int i) := fi_int (Nat.lt_of_le_of_lt (show i.natAbs ≤ 1000000000 by omega) (by decide))
theorem show_bool {b : Bool} : Show (.bool b) := fi_bool.show (by decide) (by decide)
section
variable {X : Cx} {σ : St} {e : Expr} {es : List Expr} {t : TA} {p pos : Pos} {x : Str} {r : List V → Hp → VK → Prop}
end
structure FldOk (K : Frag) (C : Addr) (fld : Str) : Prop where
  it : ErrI K C
  hd : hasDictIn K C = true
  nf : findIn K (.ref C) fld = some none
section
variable {K : Frag} {H : Hp} {D : Ends} {σ : St} {p : Addr}
theorem rd_op {r : R2} {ta tb : TE} {Q : VK} (h : ta σ H fun x H1 => tb σ H1 fun y H2 => r x y H2 Q) : tOp r ta tb σ H Q := h
theorem BoxAt.up {l : Addr} {o : HO} (b : BoxAt H p) (n : l ≠ p) : BoxAt (upd H l o) p := by
  obtain ⟨x, y, z, hp, r⟩ := b
  exact ⟨x, y, z, by rw [upd_ne n.symm]; exact hp, r⟩
theorem rd_set {te : TE} {i : Nat} {u : TS} (h : te σ H fun v H1 => u D (σ.set i (some v)) H1) : tSeq (tAsg te (gName i)) u D σ H := h
end
section
variable {G G' : Hp} {xs ys : List V} {n m : Nat}
end
def wt (H : Hp) (p t : Addr) : Hp := wo (wo H p) t
theorem wt_ext (H : Hp) (p t : Addr) : Ext (wt H p t) H := (wo_ext _ t).trans (wo_ext H p)
theorem wt_at {H : Hp} {p t b : Addr} {o : HO} (n : b ≠ p) (m : b ≠ t) (e : H b = some o) : wt H p t b = some o := wo_at m (wo_at n e)
theorem wt_kept {H H' : Hp} {p t : Addr} (k : Kept H H' p) : Ext (wt H p t) (wt H' p t) := wo_kept ((wo_kept k).kept t)
theorem wt_ex {H H' : Hp} (x : Ext H H') (p t : Addr) : Ext (wt H p t) (wt H' p t) := wt_kept (x.kept p)
theorem fi_dic0 : Fi 1 3 (.dict []) := ⟨by simp [PyData.showable, PyData.showableKv], by simp [PyData.depth, PyData.depthKv], by simp [PyData.leavesShort, PyData.leavesShortKv], by simp [PyData.bulk, PyData.bulkKv]⟩
theorem wo_ne {H : Hp} {p a : Addr} {o : HO} (h : wo H p a = some o) : a ≠ p := fun e => by
  unfold wo at h
  rw [if_pos e] at h
  cases h
theorem wo_ex {H H' : Hp} (x : Ext H H') (p : Addr) : Ext (wo H p) (wo H' p) := wo_kept (x.kept p)
structure GE (p : Addr) (k m : Nat) (te : TE) : Prop where
  h : ∀ (σ : St) (H : Hp) (Q : VK), BoxAt H p → (∀ v H', Ext H H' → (∃ d, Rds (wo H' p) v d ∧ Fi k m d) → Q v H') → te σ H Q
structure GA (p : Addr) (k m n : Nat) (t : TA) : Prop where
  h : ∀ (σ : St) (H : Hp) (Q : List V → Hp → Prop), BoxAt H p → (∀ vs H', Ext H H' → (∃ ds, RdsAll (wo H' p) vs ds ∧ ds.length = n ∧ ∀ d ∈ ds, Fi k m d) → Q vs H') → t σ H Q
section
variable {p : Addr} {k m k' m' n : Nat} {te ta tb : TE} {t : TA}
theorem ge_leaf {v : V} {d : PyData} (r : ∀ G, Rds G v d) (f : Fi k m d) : GE p k m (tC v) := ⟨fun σ H Q bx q => q v H (Ext.refl _) ⟨d, r _, f⟩⟩
theorem ge_int {i : Int} (h1 : -1000000000 ≤ i) (h2 : i ≤ 1000000000) : GE p 0 2 (tC (.int i)) := ge_leaf (fun _ => .int _) (fi_small h1 h2)
end
theorem err_at {C : Addr} {fld : Str} {v : V} {H1 : Hp} {E' : XK} (h : ∀ e dx H', Ext H1 H' → H' e = some (ErrT e C (some dx)) → H' dx = some (.xd [(fld, v)]) → E' (.ref C) (some e) H') : ErrF C fld v H1 E' := fun e dx he hdx ne => by
  have x2 := Ext.new (o := .xd [(fld, v)]) hdx
  have he2 : upd H1 dx (.xd [(fld, v)]) e = none := by rw [upd_ne ne.symm]; exact he
  have x3 := Ext.new (o := ErrT e C (some dx)) he2
  exact h e dx _ (x2.trans x3) upd_same (x3 _ _ upd_same)
section
variable {X : Cx}
def rNeNil (K : Frag) : R2 := fun x y H Q => ∃ p q xs, x = .ref p ∧ y = .ref q ∧ SqL K H p xs ∧ SqL K H q [] ∧ Q (.bl (!xs.isEmpty)) H
theorem op_neNil (hu : X.A.units < cLine) : OpR X (compareOp .NotEq) (rNeNil X.K) := by
  intro pins s σ H x y v u Q I rx ry h
  obtain ⟨p, q, xs, rfl, rfl, hp, hq, k⟩ := h
  cases rx
  cases ry
  obtain ⟨its, r1, t1, _⟩ := I.list hp
  obtain ⟨jts, r2, t2, _⟩ := I.list hq
  have l1 := r1.length
  have l2 := r2.length
  have e2 : jts = [] := List.length_eq_zero_iff.mp l2.symm
  subst e2
  cases xs with
  | nil =>
    have e1 : its = [] := List.length_eq_zero_iff.mp l1.symm
    subst e1
    exact SeqAt.RcNeAt.lists (e := fun _ => true) t1.isList t2.isList rfl hu (fun j h _ => absurd h (Nat.not_lt_zero _)) X.prog X.w X.xe _ ⟨.bl false, H, I, rfl, k⟩
  | cons x xs =>
    exact SeqAt.RcNeAt.lists_lengths t1.isList t2.isList (by simp [← l1]) hu X.prog X.w X.xe _ ⟨.bl true, H, I, rfl, k⟩
end
section
variable {G : Hp → Hp} {σ : St} {H0 : Hp} {k m k' m' n : Nat} {te ta tb : TE} {t : TA}
end
section
variable {H : Hp}
end
section
variable {K : Frag} {H : Hp}
def tLstN (K : Frag) (t : TA) : TE := fun σ H Q => t σ H fun xs H1 => xs.length ≤ sizeLine ∧ ∀ p, H1 p = none → K.lookup p = none → Q (.ref p) (upd H1 p (.lst xs))
theorem pe_lstN {X : Cx} {es : List Expr} {t : TA} {pos : Pos} (h : PA X es t) : PE X (.List es pos) (tLstN X.K t) := by
  intro pins s σ H Q I hq
  refine wpAny_List_spliced (thn (h pos pins s σ H _ I hq) fun us s1 ⟨xs, H1, I1, r, z, q⟩ => ⟨by rw [← r.length]; exact z, ?_⟩)
  have hf : H1 s1.heap.objs.size = none := I1.hok.fresh (Nat.le_refl _)
  have hk : X.K.lookup s1.heap.objs.size = none := by
    cases e : X.K.lookup s1.heap.objs.size with
    | none => rfl
    | some o => exact absurd (Heap.lt_size (I1.kIn _ _ e)) (Nat.lt_irrefl _)
  refine ⟨.ref s1.heap.objs.size, upd H1 s1.heap.objs.size (.lst xs), I1.laid (t' := s1.toks) (fun b u e => Heap.get?_push_of_some _ e) (Nat.le_refl _) ?_, rfl, q _ hf hk⟩
  exact ⟨z, us, 0, r, Heap.get?_push_size _ rfl⟩
theorem SqL.neN {a p : Addr} {xs : List V} (h : SqL K H a xs) (hp : H p = none) (hk : K.lookup p = none) : a ≠ p := fun e => by
  subst e
  rcases h with (h | ⟨o, h⟩) | ⟨o, its, n, h, _⟩
  · rw [hp] at h; cases h
  · rw [hp] at h; cases h
  · rw [hk] at h; cases h
end
theorem wt_up {H : Hp} {p t : Addr} {o : HO} : Ext (wt H p t) (wt (upd H t o) p t) := fun c u h => by
  have h1 := wt_ext H p t _ _ h
  have n2 := wo_ne h
  have n1 := wo_ne (wo_ext _ t _ _ h)
  exact wt_at n1 n2 (by rw [upd_ne n2]; exact h1)
section
variable {H : Hp} {De : Ends}
theorem rd_seq {σ : St} {t u : TS} (h : t { De with nx := u De } σ H) : tSeq t u De σ H := h
theorem rd_ifOr {σ : St} {a b : TT} {t u : TS} (h : a σ H fun c H1 => if c = true then (if true = true then t De σ H1 else u De σ H1) else b σ H1 fun c' H2 => if c' = true then t De σ H2 else u De σ H2) : tIfS (tOr a b) t u De σ H := h
end
def rGetL (K : Frag) : V → V → Hp → VK → Prop := fun o i H Q => ∃ (p : Addr) (xs : List V) (k : Nat) (v : V), o = .ref p ∧ i = .int (k : Nat) ∧ SqL K H p xs ∧ xs[k]? = some v ∧ Q v H
theorem get_list {X : Cx} : PGet X (rGetL X.K) := by
  intro pins s σ H o i ov iv Q I ro ri h
  obtain ⟨p, xs, k, v, rfl, rfl, hq, hv, q⟩ := h
  cases (show ov = Value.ref p from ro)
  obtain ⟨t, rfl⟩ := ri
  obtain ⟨its, r, pl, hz⟩ := I.list hq
  obtain ⟨u, hu, ru⟩ := r.get hv
  exact wpAny_getItem_list pl.isList (x := u) (by omega) (by have := (List.getElem?_eq_some_iff.mp hu).1; have := r.length; have := line63; simp; omega) (by simpa using hu) ⟨v, H, I, ru, q⟩
theorem SqL.kp {K : Frag} {H H' : Hp} {a p : Addr} {xs : List V} (h : SqL K H a xs) (k : Kept H H' p) (n : a ≠ p) : SqL K H' a xs := by
  rcases h with (h | ⟨o, h⟩) | h
  · exact .inl (.inl (k _ _ h n))
  · exact .inl (.inr ⟨o, k _ _ h n⟩)
  · exact .inr h
end My
set_option Elab.async false
set_option linter.all false
set_option maxRecDepth 100000
set_option maxHeartbeats 1000000
namespace My
open PySem PySem.W L2
section
variable {X : Cx}
end
section
variable {X : Cx}
end
mutual
def eqD : PyData → PyData → Bool
  | .list xs, .list ys => eqDs xs ys
  | .tuple xs, .tuple ys => eqDs xs ys
  | .none, .none => true
  | .bool a, .bool b => a == b
  | .bool a, .int j => (if a then (1 : Int) else 0) == j
  | .int i, .bool b => i == (if b then (1 : Int) else 0)
  | .int i, .int j => i == j
  | .str x, .str y => x == y
  | _, _ => false
def eqDs : List PyData → List PyData → Bool
  | [], [] => true
  | x :: xs, y :: ys => eqD x y && eqDs xs ys
  | _, _ => false
end
mutual
def plainD : PyData → Bool
  | .list xs => plainDs xs
  | .tuple xs => plainDs xs
  | .dict _ => false
  | _ => true
def plainDs : List PyData → Bool
  | [] => true
  | x :: xs => plainD x && plainDs xs
end
mutual
theorem eqD_refl : ∀ {d : PyData}, plainD d = true → eqD d d = true
  | .none, _ => by simp [eqD]
  | .bool b, _ => by simp [eqD]
  | .int i, _ => by simp [eqD]
  | .str x, _ => by simp [eqD]
  | .list xs, h => by simp only [eqD]; exact eqDs_refl (by simpa only [plainD] using h)
  | .tuple xs, h => by simp only [eqD]; exact eqDs_refl (by simpa only [plainD] using h)
  | .dict _, h => by simp [plainD] at h
theorem eqDs_refl : ∀ {ds : List PyData}, plainDs ds = true → eqDs ds ds = true
  | [], _ => by simp [eqDs]
  | d :: ds, h => by
    simp only [plainDs, Bool.and_eq_true] at h
    simp only [eqDs, eqD_refl h.1, eqDs_refl h.2, Bool.and_self]
end
mutual
theorem Rds.det {G : Hp} : ∀ {v : V} {d e : PyData}, Rds G v d → Rds G v e → d = e
  | _, _, _, .non, r => by cases r; rfl
  | _, _, _, .bl b, r => by cases r; rfl
  | _, _, _, .int i, r => by cases r; rfl
  | _, _, _, .str x, r => by cases r; rfl
  | _, _, _, .lst h t, r => by
    cases r with
    | lst h' t' => rw [h] at h'; cases h'; rw [RdsAll.det t t']
    | tup h' _ => rw [h] at h'; cases h'
    | dic0 h' => rw [h] at h'; cases h'
    | dic h' _ => rw [h] at h'; cases h'
  | _, _, _, .tup h t, r => by
    cases r with
    | lst h' _ => rw [h] at h'; cases h'
    | tup h' t' => rw [h] at h'; cases h'; rw [RdsAll.det t t']
    | dic0 h' => rw [h] at h'; cases h'
    | dic h' _ => rw [h] at h'; cases h'
  | _, _, _, .dic0 h, r => by
    cases r with
    | lst h' _ => rw [h] at h'; cases h'
    | tup h' _ => rw [h] at h'; cases h'
    | dic0 h' => rfl
    | dic h' _ => rw [h] at h'; cases h'
  | _, _, _, .dic h t, r => by
    cases r with
    | lst h' _ => rw [h] at h'; cases h'
    | tup h' _ => rw [h] at h'; cases h'
    | dic0 h' => rw [h] at h'; cases h'
    | dic h' t' => rw [h] at h'; cases h'; rw [Rds.det t t']
theorem RdsAll.det {G : Hp} : ∀ {vs : List V} {ds es : List PyData}, RdsAll G vs ds → RdsAll G vs es → ds = es
  | _, _, _, .nil, r => by cases r; rfl
  | _, _, _, .cons h t, r => by
    cases r with
    | cons h' t' => rw [Rds.det h h', RdsAll.det t t']
end
theorem eqDs_all : ∀ (xs ys : List PyData), ((List.range (min xs.length ys.length)).all (fun j => eqD (xs.getD j .none) (ys.getD j .none)) && xs.length == ys.length) = eqDs xs ys
  | [], [] => by simp [eqDs]
  | [], y :: ys => by simp [eqDs]
  | x :: xs, [] => by simp [eqDs]
  | x :: xs, y :: ys => by
    have ih := eqDs_all xs ys
    simp only [eqDs]
    rw [← ih, List.length_cons, List.length_cons, Nat.succ_min_succ, List.range_succ_eq_map, List.all_cons, List.all_map, Bool.and_assoc]
    congr 1
    rw [show (xs.length + 1 == ys.length + 1) = (xs.length == ys.length) from by simp]
    rfl
section
variable {X : Cx}
structure Rc2 (A : Around) (s : Shared) (u v : Value) (b : Bool) : Prop where
  eq : SeqAt.RcAt A s u v b
  ne : SeqAt.RcNeAt A s u v (!b)
structure Rc3 (A : Around) (s : Shared) (u v : Value) (b : Bool) : Prop where
  eq : SeqAt.RcAt A s u v b
  ne : SeqAt.RcNeAt A s u v (!b)
  at_ : SeqAt.EqAt A s u v b
theorem tups_rc {A : Around} {s : Shared} {p q : Addr} {its jts : List Value} (hu : A.units < cLine) (t1 : s.heap.IsTuple p its.toArray) (t2 : s.heap.IsTuple q jts.toArray) (e : Nat → Bool) (he : ∀ j (h1 : j < its.length) (h2 : j < jts.length), SeqAt.EqAt A.in1 s its[j] jts[j] (e j)) :
    Rc2 A s (.ref p) (.ref q) ((List.range (min its.length jts.length)).all e && its.length == jts.length) := by
  have h' : ∀ j (h1 : j < its.toArray.size) (h2 : j < jts.toArray.size), SeqAt.EqAt A.in1 s its.toArray[j] jts.toArray[j] (e j) := fun j h1 h2 => by
    simpa using he j (by simpa using h1) (by simpa using h2)
  have a := SeqAt.RcAt.tuples (e := e) t1 t2 hu h'
  have b := SeqAt.RcNeAt.tuples (e := e) t1 t2 hu h'
  rw [List.size_toArray, List.size_toArray] at a b
  exact ⟨a, b⟩
theorem lsts_rc {A : Around} {s : Shared} {p q : Addr} {its jts : List Value} (hu : A.units < cLine) (t1 : s.heap.IsList p its.toArray) (t2 : s.heap.IsList q jts.toArray) (e : Nat → Bool) (he : ∀ j (h1 : j < its.length) (h2 : j < jts.length), SeqAt.EqAt A.in1 s its[j] jts[j] (e j)) :
    Rc2 A s (.ref p) (.ref q) ((List.range (min its.length jts.length)).all e && its.length == jts.length) := by
  have h' : ∀ j (h1 : j < its.toArray.size) (h2 : j < jts.toArray.size), SeqAt.EqAt A.in1 s its.toArray[j] jts.toArray[j] (e j) := fun j h1 h2 => by
    simpa using he j (by simpa using h1) (by simpa using h2)
  by_cases sz : its.length = jts.length
  · have a := SeqAt.RcAt.lists (e := e) t1 t2 (by simpa using sz) hu h'
    have b := SeqAt.RcNeAt.lists (e := e) t1 t2 (by simpa using sz) hu h'
    rw [List.size_toArray] at a b
    have z : ((List.range (min its.length jts.length)).all e && its.length == jts.length) = (List.range its.length).all e := by
      rw [sz, Nat.min_self]
      simp
    rw [z]
    exact ⟨a, b⟩
  · have z : ((List.range (min its.length jts.length)).all e && its.length == jts.length) = false := by
      rw [show (its.length == jts.length) = false from by simpa using sz]
      simp
    rw [z]
    exact ⟨SeqAt.RcAt.lists_lengths t1 t2 (by simpa using sz) hu, SeqAt.RcNeAt.lists_lengths t1 t2 (by simpa using sz) hu⟩
mutual
theorem eqD_rc {pins : List (Addr × Obj)} {σ : St} {H : Hp} {s : Shared} (I : Inv X pins σ H s) : ∀ {x : V} {d : PyData}, Rds H x d → ∀ {A : Around} {y : V} {e : PyData} {u v : Value}, Rds H y e → plainD d = true → plainD e = true → A.units + d.depth < cLine → RelV x u → RelV y v → Rc3 A s u v (eqD d e)
  | _, _, .non, A, y, e, u, v, ry, pd, pe, hu, ru, rv => by
    have h0 : A.units < cLine := by omega
    cases ru
    cases ry with
    | non => cases rv; simp only [eqD]; exact ⟨.none_none, .none_none, .same _⟩
    | bl b => cases rv; simp only [eqD]; exact ⟨.none_bool _, .none_bool _, .none_bool _⟩
    | int j => obtain ⟨t, rfl⟩ := rv; simp only [eqD]; exact ⟨.none_int _ _, .none_int _ _, .none_int _ _⟩
    | str z => obtain ⟨t, rfl⟩ := rv; simp only [eqD]; exact ⟨.none_str _ _, .none_str _ _, .none_str _ _⟩
    | lst h _ => cases rv; obtain ⟨its, _, t, _⟩ := I.list (SqL.of (K := X.K) h); simp only [eqD]; exact ⟨.none_list t.isList h0, .none_list t.isList h0, .none_list t.isList h0⟩
    | tup h _ => cases rv; obtain ⟨its, _, t, _⟩ := I.tuple (SqT.of (K := X.K) h); simp only [eqD]; exact ⟨.none_tuple t h0, .none_tuple t h0, .none_tuple t h0⟩
    | dic0 _ => simp [plainD] at pe
    | dic _ _ => simp [plainD] at pe
  | _, _, .bl a, A, y, e, u, v, ry, pd, pe, hu, ru, rv => by
    have h0 : A.units < cLine := by omega
    cases ru
    cases ry with
    | non => cases rv; simp only [eqD]; exact ⟨.bool_none _, .bool_none _, .bool_none _⟩
    | bl b => cases rv; simp only [eqD]; exact ⟨.bool_bool _ _, .bool_bool _ _, .bool_bool _ _⟩
    | int j => obtain ⟨t, rfl⟩ := rv; simp only [eqD]; exact ⟨.bool_int _ _ _, .bool_int _ _ _, .bool_int _ _ _⟩
    | str z => obtain ⟨t, rfl⟩ := rv; simp only [eqD]; exact ⟨.bool_str _ _ _, .bool_str _ _ _, .bool_str _ _ _⟩
    | lst h _ => cases rv; obtain ⟨its, _, t, _⟩ := I.list (SqL.of (K := X.K) h); simp only [eqD]; exact ⟨.bool_list _ t.isList h0, .bool_list _ t.isList h0, .bool_list _ t.isList h0⟩
    | tup h _ => cases rv; obtain ⟨its, _, t, _⟩ := I.tuple (SqT.of (K := X.K) h); simp only [eqD]; exact ⟨.bool_tuple _ t h0, .bool_tuple _ t h0, .bool_tuple _ t h0⟩
    | dic0 _ => simp [plainD] at pe
    | dic _ _ => simp [plainD] at pe
  | _, _, .int i, A, y, e, u, v, ry, pd, pe, hu, ru, rv => by
    have h0 : A.units < cLine := by omega
    obtain ⟨tu, rfl⟩ := ru
    cases ry with
    | non => cases rv; simp only [eqD]; exact ⟨.int_none _ _, .int_none _ _, .int_none _ _⟩
    | bl b => cases rv; simp only [eqD]; exact ⟨.int_bool _ _ _, .int_bool _ _ _, .int_bool _ _ _⟩
    | int j => obtain ⟨t, rfl⟩ := rv; simp only [eqD]; exact ⟨.int_int _ _ _ _, .int_int _ _ _ _, .int_int _ _ _ _⟩
    | str z => obtain ⟨t, rfl⟩ := rv; simp only [eqD]; exact ⟨.int_str _ _ _ _, .int_str _ _ _ _, .int_str _ _ _ _⟩
    | lst h _ => cases rv; obtain ⟨its, _, t, _⟩ := I.list (SqL.of (K := X.K) h); simp only [eqD]; exact ⟨.int_list _ _ t.isList h0, .int_list _ _ t.isList h0, .int_list _ _ t.isList h0⟩
    | tup h _ => cases rv; obtain ⟨its, _, t, _⟩ := I.tuple (SqT.of (K := X.K) h); simp only [eqD]; exact ⟨.int_tuple _ _ t h0, .int_tuple _ _ t h0, .int_tuple _ _ t h0⟩
    | dic0 _ => simp [plainD] at pe
    | dic _ _ => simp [plainD] at pe
  | _, _, .str x, A, y, e, u, v, ry, pd, pe, hu, ru, rv => by
    have h0 : A.units < cLine := by omega
    obtain ⟨tu, rfl⟩ := ru
    cases ry with
    | non => cases rv; simp only [eqD]; exact ⟨.str_none _ _, .str_none _ _, .str_none _ _⟩
    | bl b => cases rv; simp only [eqD]; exact ⟨.str_bool _ _ _, .str_bool _ _ _, .str_bool _ _ _⟩
    | int j => obtain ⟨t, rfl⟩ := rv; simp only [eqD]; exact ⟨.str_int _ _ _ _, .str_int _ _ _ _, .str_int _ _ _ _⟩
    | str z => obtain ⟨t, rfl⟩ := rv; simp only [eqD]; exact ⟨.str_str _ _ _ _, .str_str _ _ _ _, .str_str _ _ _ _⟩
    | lst h _ => cases rv; obtain ⟨its, _, t, _⟩ := I.list (SqL.of (K := X.K) h); simp only [eqD]; exact ⟨.str_list _ _ t.isList h0, .str_list _ _ t.isList h0, .str_list _ _ t.isList h0⟩
    | tup h _ => cases rv; obtain ⟨its, _, t, _⟩ := I.tuple (SqT.of (K := X.K) h); simp only [eqD]; exact ⟨.str_tuple _ _ t h0, .str_tuple _ _ t h0, .str_tuple _ _ t h0⟩
    | dic0 _ => simp [plainD] at pe
    | dic _ _ => simp [plainD] at pe
  | _, _, .lst (a := a') (xs := xs) (ds := ds) h rs, A, y, e, u, v, ry, pd, pe, hu, ru, rv => by
    have h0 : A.units < cLine := by omega
    cases ru
    obtain ⟨its, r1, t1, _⟩ := I.list (SqL.of (K := X.K) h)
    cases ry with
    | non => cases rv; simp only [eqD]; exact ⟨.list_none t1.isList h0, .list_none t1.isList h0, .list_none t1.isList h0⟩
    | bl b => cases rv; simp only [eqD]; exact ⟨.list_bool _ t1.isList h0, .list_bool _ t1.isList h0, .list_bool _ t1.isList h0⟩
    | int j => obtain ⟨t, rfl⟩ := rv; simp only [eqD]; exact ⟨.list_int _ _ t1.isList h0, .list_int _ _ t1.isList h0, .list_int _ _ t1.isList h0⟩
    | str z => obtain ⟨t, rfl⟩ := rv; simp only [eqD]; exact ⟨.list_str _ _ t1.isList h0, .list_str _ _ t1.isList h0, .list_str _ _ t1.isList h0⟩
    | @lst b' ys es h' ts =>
      cases rv
      obtain ⟨jts, r2, t2, _⟩ := I.list (SqL.of (K := X.K) h')
      have pds : plainDs ds = true := by simpa only [plainD] using pd
      have pes : plainDs es = true := by simpa only [plainD] using pe
      have dd : A.in1.units + PyData.depthAll ds < cLine := by rw [in1_units]; simp only [PyData.depth] at hu; omega
      have k := lsts_rc h0 t1.isList t2.isList (fun j => eqD (ds.getD j .none) (es.getD j .none)) (fun j h1 h2 => eqDs_at I rs ts pds pes dd r1 r2 h1 h2)
      rw [← r1.length, ← r2.length, rs.length, ts.length, eqDs_all] at k
      simp only [eqD]
      refine ⟨k.eq, k.ne, ?_⟩
      by_cases e : a' = b'
      · subst e
        rw [h] at h'
        cases h'
        have := RdsAll.det rs ts
        subst this
        rw [eqDs_refl pds]
        exact SeqAt.EqAt.same _
      · exact .of_refs e k.eq
    | tup h' _ => cases rv; obtain ⟨jts, _, t, _⟩ := I.tuple (SqT.of (K := X.K) h'); simp only [eqD]; exact ⟨.list_tuple t1.isList t h0, .list_tuple t1.isList t h0, .list_tuple t1.isList t h0⟩
    | dic0 _ => simp [plainD] at pe
    | dic _ _ => simp [plainD] at pe
  | _, _, .tup (a := a') (xs := xs) (ds := ds) h rs, A, y, e, u, v, ry, pd, pe, hu, ru, rv => by
    have h0 : A.units < cLine := by omega
    cases ru
    obtain ⟨its, r1, t1, _⟩ := I.tuple (SqT.of (K := X.K) h)
    cases ry with
    | non => cases rv; simp only [eqD]; exact ⟨.tuple_none t1 h0, .tuple_none t1 h0, .tuple_none t1 h0⟩
    | bl b => cases rv; simp only [eqD]; exact ⟨.tuple_bool _ t1 h0, .tuple_bool _ t1 h0, .tuple_bool _ t1 h0⟩
    | int j => obtain ⟨t, rfl⟩ := rv; simp only [eqD]; exact ⟨.tuple_int _ _ t1 h0, .tuple_int _ _ t1 h0, .tuple_int _ _ t1 h0⟩
    | str z => obtain ⟨t, rfl⟩ := rv; simp only [eqD]; exact ⟨.tuple_str _ _ t1 h0, .tuple_str _ _ t1 h0, .tuple_str _ _ t1 h0⟩
    | @tup b' ys es h' ts =>
      cases rv
      obtain ⟨jts, r2, t2, _⟩ := I.tuple (SqT.of (K := X.K) h')
      have pds : plainDs ds = true := by simpa only [plainD] using pd
      have pes : plainDs es = true := by simpa only [plainD] using pe
      have dd : A.in1.units + PyData.depthAll ds < cLine := by rw [in1_units]; simp only [PyData.depth] at hu; omega
      have k := tups_rc h0 t1 t2 (fun j => eqD (ds.getD j .none) (es.getD j .none)) (fun j h1 h2 => eqDs_at I rs ts pds pes dd r1 r2 h1 h2)
      rw [← r1.length, ← r2.length, rs.length, ts.length, eqDs_all] at k
      simp only [eqD]
      refine ⟨k.eq, k.ne, ?_⟩
      by_cases e : a' = b'
      · subst e
        rw [h] at h'
        cases h'
        have := RdsAll.det rs ts
        subst this
        rw [eqDs_refl pds]
        exact SeqAt.EqAt.same _
      · exact .of_refs e k.eq
    | lst h' _ => cases rv; obtain ⟨jts, _, t, _⟩ := I.list (SqL.of (K := X.K) h'); simp only [eqD]; exact ⟨.tuple_list t1 t.isList h0, .tuple_list t1 t.isList h0, .tuple_list t1 t.isList h0⟩
    | dic0 _ => simp [plainD] at pe
    | dic _ _ => simp [plainD] at pe
  | _, _, .dic0 _, _, _, _, _, _, _, pd, _, _, _, _ => by simp [plainD] at pd
  | _, _, .dic _ _, _, _, _, _, _, _, pd, _, _, _, _ => by simp [plainD] at pd
theorem eqDs_at {pins : List (Addr × Obj)} {σ : St} {H : Hp} {s : Shared} (I : Inv X pins σ H s) : ∀ {xs : List V} {ds : List PyData}, RdsAll H xs ds → ∀ {A : Around} {ys : List V} {es : List PyData} {its jts : List Value}, RdsAll H ys es → plainDs ds = true → plainDs es = true → A.units + PyData.depthAll ds < cLine → Vals xs its → Vals ys jts →
    ∀ {j : Nat} (h1 : j < its.length) (h2 : j < jts.length), SeqAt.EqAt A s its[j] jts[j] (eqD (ds.getD j .none) (es.getD j .none))
  | _, _, .nil, A, ys, es, its, jts, ts, pd, pe, hu, r1, r2, j, h1, h2 => by cases r1; exact absurd h1 (Nat.not_lt_zero _)
  | _, _, .cons (v := x) (d := d) r rs, A, ys, es, its, jts, ts, pd, pe, hu, r1, r2, j, h1, h2 => by
    cases ts with
    | nil => cases r2; exact absurd h2 (Nat.not_lt_zero _)
    | cons r' ts =>
      cases r1 with
      | cons q1 r1 =>
        cases r2 with
        | cons q2 r2 =>
          simp only [plainDs, Bool.and_eq_true] at pd pe
          simp only [PyData.depthAll] at hu
          cases j with
          | zero =>
            exact (eqD_rc I r (A := A) r' pd.1 pe.1 (by omega) q1 q2).at_
          | succ j => exact eqDs_at I rs (A := A) ts pd.2 pe.2 (by omega) r1 r2 (by simpa using h1) (by simpa using h2)
end
def rEqD (g : Bool → Bool) : R2 := fun x y H Q => ∃ d e, Rds H x d ∧ Rds H y e ∧ plainD d = true ∧ plainD e = true ∧ d.depth ≤ 20 ∧ Q (.bl (g (eqD d e))) H
theorem op_neD (hu : X.A.units + 64 < cLine) : OpR X (compareOp .NotEq) (rEqD not) := by
  intro pins s σ H x y v u Q I rx ry h
  obtain ⟨d, e, r1, r2, p1, p2, dd, k⟩ := h
  exact (eqD_rc I r1 r2 p1 p2 (by omega) rx ry).ne X.prog X.w X.xe _ ⟨.bl _, H, I, rfl, k⟩
end
end My
set_option Elab.async false
set_option linter.all false
set_option maxRecDepth 100000
set_option maxHeartbeats 1000000
set_option exponentiation.threshold 10000
namespace My
open PySem PySem.W L2
section
variable {P : Program} {w : World} {K : Frag} {mg : Str → Option Value} {base : Heap}
abbrev sIsNum : Stmt := top 11
def spIsNum (K : Frag) : Sp := fun vs H Q _ => ∃ x, vs = [x] ∧ Th K H x ∧ Q (.bl (numB x)) H
theorem scIN : FnScope ["thing"] ["thing"] (defScope sIsNum) := ⟨rfl, rfl, rfl, by decide +kernel, rfl, by decide +kernel, by decide +kernel⟩
theorem ok_isnum {f : Addr} {fd : FuncData} (N : IsT K) (F : Fun K "is_number" "is_number" sIsNum f fd) (mi : mg "isinstance" = none) (m1 : mg "int" = none) (m2 : mg "bool" = none) : FnOk P w K mg base CX0 1 f fd ["thing"] (spIsNum K) := by
  refine F.ok scIN (fun vs H Q E h => ?_) (fun cdv A outer s H vs Q E hr h => ?_)
  · obtain ⟨c, rfl, _⟩ := h
    rfl
  obtain ⟨x, rfl, th, q⟩ := h
  refine ⟨_, pss_one (ps_ret (pe_and (pe_callB (call_isK N) rfl mi PyProof.Rows.boot_isinstance (pa_cons (pv 0) (pa_cons (pe_ty rfl m1 PyProof.Rows.boot_int) pa_nil)))
    (pe_one (pe_not (pe_callB (call_isK N) rfl mi PyProof.Rows.boot_isinstance (pa_cons (pv 0) (pa_cons (pe_ty rfl m2 PyProof.Rows.boot_bool) pa_nil))))))), ?_⟩
  rcases th with ⟨i, rfl⟩ | ⟨n, t, b1, b2, kd, k1, k2, z⟩
  · exact ⟨_, rfl, _, _, _, _, rfl, .inl (.int i), k_ii, _, rfl, ⟨_, rfl, _, _, _, _, rfl, .inl (.int i), k_ib, _, rfl, q⟩⟩
  · rw [numB_no n] at q
    refine ⟨_, rfl, _, _, _, _, rfl, kd, k1, _, rfl, ?_⟩
    cases b1 with
    | false => exact itF q
    | true =>
      refine itT ⟨_, rfl, _, _, _, _, rfl, kd, k2, _, rfl, ?_⟩
      have e : (!b2) = false := z
      rw [e]
      exact q
abbrev sIsWh : Stmt := top 12
def spIsWh (K : Frag) : Sp := fun vs H Q _ => ∃ x lo hi, vs = [x, .int lo, .int hi] ∧ Th K H x ∧ Q (.bl (inB lo hi x)) H
theorem scIW : FnScope ["thing", "low", "high"] ["thing", "low", "high"] (defScope sIsWh) := ⟨rfl, rfl, rfl, by decide +kernel, rfl, by decide +kernel, by decide +kernel⟩
theorem ok_iswh {f g : Addr} {fd gd : FuncData} (F : Fun K "is_whole" "is_whole" sIsWh f fd) (G : FnOk P w K mg base CX0 1 g gd ["thing"] (spIsNum K)) (bG : Binds K gd ["thing"] []) (kG : keepIn K (.ref g) = true) (mG : mg "is_number" = some (.ref g)) :
    FnOk P w K mg base CX0 2 f fd ["thing", "low", "high"] (spIsWh K) := by
  refine F.ok scIW (fun vs H Q E h => ?_) (fun cdv A outer s H vs Q E hr h => ?_)
  · obtain ⟨c, lo, hi, rfl, _⟩ := h
    rfl
  obtain ⟨x, lo, hi, rfl, th, q⟩ := h
  refine ⟨_, pss_one (ps_ret (pe_and (pe_call G hr rfl mG kG bG .nil pass0 (pa_cons (pv 0) pa_nil)) (pe_and (pe_cmpR op_le (pv 1) (pv 0) (nomark _)) (pe_one (pe_cmpR op_le (pv 0) (pv 2) (nomark _)))))), ?_⟩
  refine ⟨_, rfl, x, rfl, th, _, rfl, ?_⟩
  rcases th with ⟨i, rfl⟩ | ⟨n, _⟩
  · refine itT ⟨_, rfl, _, rfl, _, _, rfl, rfl, _, rfl, ?_⟩
    refine ite2 (fun c => ?_) (fun c => ?_)
    · refine ⟨_, rfl, _, rfl, _, _, rfl, rfl, ?_⟩
      have q' : Q (.bl (decide (lo ≤ i) && decide (i ≤ hi))) H := q
      rw [decide_eq_true (of_decide_eq_true c), Bool.true_and] at q'
      exact q'
    · have q' : Q (.bl (decide (lo ≤ i) && decide (i ≤ hi))) H := q
      rw [decide_eq_false (fun z => c (decide_eq_true z)), Bool.false_and] at q'
      exact q'
  · rw [numB_no n]
    rw [inB_no n] at q
    exact itF q
end
end My
set_option Elab.async false
set_option linter.all false
set_option maxRecDepth 100000
set_option maxHeartbeats 1000000
set_option exponentiation.threshold 10000
namespace My
open PySem PySem.W L2
def outD : PyData → Bool
  | .tuple [a, b] => inD (-99) 99 a && booB b
  | _ => false
def Ot (K : Frag) (H : Hp) (v : V) (b : Bool) : Prop := (∃ d, Rds H v d ∧ b = outD d) ∨ (NoK K H v "tuple" ∧ b = false)
theorem Ot.ext {K : Frag} {H H' : Hp} {v : V} {b : Bool} (h : Ot K H v b) (x : Ext H H') : Ot K H' v b := by
  rcases h with ⟨d, r, e⟩ | ⟨n, e⟩
  · exact .inl ⟨d, r.mono x, e⟩
  · exact .inr ⟨n.ext x, e⟩
def OtAll (K : Frag) (H : Hp) (xs : List V) (bs : List Bool) : Prop := xs.length = bs.length ∧ ∀ (i : Nat) x, xs[i]? = some x → ∃ b, bs[i]? = some b ∧ Ot K H x b
section
variable {P : Program} {w : World} {K : Frag} {mg : Str → Option Value} {base : Heap}
abbrev sIO : Stmt := top 19
def spIO (K : Frag) : Sp := fun vs H Q _ => ∃ v b, vs = [v] ∧ Ot K H v b ∧ Q (.bl b) H
theorem scIO : FnScope ["thing", "number", "sure"] ["thing"] (defScope sIO) := ⟨rfl, rfl, rfl, by decide +kernel, rfl, by decide +kernel, by decide +kernel⟩
theorem ok_io {f a1 : Addr} {fd d1 : FuncData} {t1 t2 : Tok} (N : IsT K) (F : Fun K "is_outcome" "is_outcome" sIO f fd) (A1 : Df P w K mg base CX0 2 "is_whole" ["thing", "low", "high"] (spIsWh K) a1 d1) (mL : mg "LEAST_NUMBER" = some (.int (-99) t1)) (mM : mg "MOST_NUMBER" = some (.int 99 t2))
    (mi : mg "isinstance" = none) (mt : mg "tuple" = none) (ml : mg "len" = none) (mb : mg "bool" = none) : FnOk P w K mg base CX0 3 f fd ["thing"] (spIO K) := by
  refine F.ok scIO (fun vs H Q E h => ?_) (fun cdv A outer s H vs Q E hr h => ?_)
  · obtain ⟨v, b, rfl, _⟩ := h
    rfl
  obtain ⟨v, b, rfl, ot, q⟩ := h
  have nd := scIO.nd
  refine ⟨_, pss_cons (ps_if (PW.pt (pw_or (pt_not (pt_val (pe_callB (call_isK N) rfl mi PyProof.Rows.boot_isinstance (pa_cons (pv 0) (pa_cons (pe_ty rfl mt PyProof.Rows.boot_tuple) pa_nil))))) (pw_or1 (pt_cmpR op_ne (pe_callB call_len_seq rfl ml PySem.boot_len (pa_cons (pv 0) pa_nil)) pe_int (nomark _))))) (pss_one (ps_ret pe_bl)) pss_nil)
    (pss_cons (ps_asg (pv 0) (pg_tup rfl (pgs_cons (pg_name (i := 1) nd rfl (Or.inl rfl)) (pgs_cons (pg_name (i := 2) nd rfl (Or.inl rfl)) pgs_nil))))
    (pss_one (ps_ret (pe_and (pe_call A1.G hr rfl A1.m A1.kp A1.b .nil pass0 (pa_cons (pv 1) (pa_cons (pe_glob (v := .int (-99)) rfl mL ⟨_, rfl⟩) (pa_cons (pe_glob (v := .int 99) rfl mM ⟨_, rfl⟩) pa_nil)))) (pe_one (pe_callB (call_isK N) rfl mi PyProof.Rows.boot_isinstance (pa_cons (pv 2) (pa_cons (pe_ty rfl mb PyProof.Rows.boot_bool) pa_nil)))))))), ?_⟩
  rcases ot with ⟨d, rd, rfl⟩ | ⟨⟨t, kd, kt⟩, rfl⟩
  rotate_left
  · exact ⟨_, rfl, _, _, _, _, rfl, kd, kt, _, rfl, itT (itT q)⟩
  refine ⟨_, rfl, _, _, _, _, rfl, rd.kd, rd.isT, _, rfl, ?_⟩
  cases e : tupB d with
  | false =>
    refine itT (itT ?_)
    have z : outD d = false := by cases d <;> first | rfl | cases e
    rw [z] at q
    exact q
  | true =>
    obtain ⟨ds, rfl⟩ : ∃ ds, d = .tuple ds := by cases d <;> first | exact ⟨_, rfl⟩ | cases e
    obtain ⟨a, xs, rfl, ha, rs⟩ := rds_tup rd
    refine itF ⟨_, rfl, a, _, rfl, .inr (SqT.of ha), rfl, _, rfl, ?_⟩
    have len := rs.length
    by_cases l2 : xs.length = 2
    · obtain ⟨u, v, rfl⟩ : ∃ u v, xs = [u, v] := by
        match xs, l2 with
        | [u, v], _ => exact ⟨u, v, rfl⟩
      cases rs with
      | cons r1 rs =>
        cases rs with
        | cons r2 rs =>
          cases rs
          refine itF ⟨_, rfl, a, _, rfl, SqT.of ha, rfl, _, _, rfl, _, _, rfl, rfl, ?_⟩
          refine ⟨_, rfl, u, -99, 99, rfl, r1.th, _, rfl, ?_⟩
          rw [r1.inB]
          rename_i d1 d2
          have qq : Q (.bl (inD (-99) 99 d1 && booB d2)) H := q
          cases e1 : inD (-99) 99 d1 with
          | false =>
            rw [e1] at qq
            exact itF qq
          | true =>
            rw [e1] at qq
            exact itT ⟨_, rfl, _, _, _, _, rfl, r2.kd, r2.isB, qq⟩
    · have e1 : (!decide (V.int (xs.length : Nat) = V.int 2)) = true := by
        rw [decide_eq_false]
        · rfl
        · intro h
          injection h with h
          omega
      rw [e1]
      refine itT ?_
      have z : outD (.tuple ds) = false := by
        match ds, len, l2 with
        | [], _, _ => rfl
        | [_], _, _ => rfl
        | [_, _], l, n => exact absurd l n
        | _ :: _ :: _ :: _, _, _ => rfl
      rw [z] at q
      exact q
abbrev sNO : Stmt := top 20
def spNO (K : Frag) (C : Addr) : Sp := fun vs H Q E => ∃ (v : V) (b : Bool) (i : Nat), vs = [v, .int (i : Nat)] ∧ Ot K H v b ∧ (b = true → Q .non H) ∧ (b = false → ErrF C "place" (.int (i : Nat)) H E)
theorem scNO : FnScope ["thing", "place"] ["thing", "place"] (defScope sNO) := ⟨rfl, rfl, rfl, by decide +kernel, rfl, by decide +kernel, by decide +kernel⟩
theorem ok_no {f D C fC a1 : Addr} {fd fdC d1 : FuncData} (F : Fun K "need_outcome" "need_outcome" sNO f fd) (B : BaseC K D) (T : OneF K mg D "NoOutcome" "place" C fC fdC) (A1 : Df P w K mg base CX0 3 "is_outcome" ["thing"] (spIO K) a1 d1) : FnOk P w K mg base (CXE P w) 4 f fd ["thing", "place"] (spNO K C) := by
  refine okE F scNO (fun vs H Q E h => ?_) (fun cdv A outer s H vs Q E hr h => ?_)
  · obtain ⟨v, d, n, rfl, _⟩ := h
    rfl
  obtain ⟨v, d, i, rfl, rd, q1, q2⟩ := h
  have hr2 := hr.mono (show 2 ≤ 3 by decide)
  refine ⟨_, pss_one (ps_if (pt_not (pt_val (pe_call A1.G hr rfl A1.m A1.kp A1.b .nil pass0 (pa_cons (pv 0) pa_nil)))) (pss_one (ps_raise B T.cls (T.ok P w base) hr2 T.bi rfl T.mgC (pv 1))) pss_nil), ?_⟩
  refine ⟨_, rfl, v, d, rfl, rd, _, rfl, ?_⟩
  cases e : d with
  | false => exact itT ⟨_, rfl, fun e' dx h1 h2 nd => qR_of nd (q2 e e' dx h1 h2 nd)⟩
  | true => exact itF (q1 e)
abbrev sNOs : Stmt := top 21
def spNOs (K : Frag) (CF CO : Addr) : Sp := fun vs H Q E => ∃ (v : V), vs = [v] ∧ ((NoK K H v "list" ∧ ErrF CF "found" v H E) ∨ ∃ a xs bs, v = .ref a ∧ H a = some (.lst xs) ∧ OtAll K H xs bs ∧ (bs.all id = true → ∀ H', Ext H H' → Q .non H') ∧ ∀ i, FirstB bs i → ∀ H', Ext H H' → ErrF CO "place" (.int (i : Nat)) H' E)
theorem scNOs : FnScope ["thing", "place", "outcome"] ["thing"] (defScope sNOs) := ⟨rfl, rfl, rfl, by decide +kernel, rfl, by decide +kernel, by decide +kernel⟩
theorem ok_nos {f D CF fC CO a1 : Addr} {fd fdC d1 : FuncData} (N : IsT K) (F : Fun K "need_outcomes" "need_outcomes" sNOs f fd) (B : BaseC K D) (T : OneF K mg D "NoFolk" "found" CF fC fdC) (A1 : Df P w K mg base (CXE P w) 4 "need_outcome" ["thing", "place"] (spNO K CO) a1 d1)
    (mi : mg "isinstance" = none) (ml : mg "list" = none) (me : mg "enumerate" = none) : FnOk P w K mg base (CXE P w) 5 f fd ["thing"] (spNOs K CF CO) := by
  refine okE F scNOs (fun vs H Q E h => ?_) (fun cdv A outer s H vs Q E hr h => ?_)
  · obtain ⟨v, rfl, _⟩ := h
    rfl
  obtain ⟨v, rfl, h⟩ := h
  have nd := scNOs.nd
  have hr2 := hr.mono (show 2 ≤ 4 by decide)
  refine ⟨_, pss_cons (ps_if (pt_not (pt_val (pe_callB (call_isK N) rfl mi PyProof.Rows.boot_isinstance (pa_cons (pv 0) (pa_cons (pe_ty rfl ml PyProof.Rows.boot_list) pa_nil))))) (pss_one (ps_raise B T.cls (T.ok P w base) hr2 T.bi rfl T.mgC (pv 0))) pss_nil)
    (pss_one (ps_for PassesOwn.leaving rfl (pi_enum rfl me (pa_cons (pv 0) pa_nil)) (pg_tup rfl (pgs_cons (pg_name (i := 1) nd rfl (Or.inl rfl)) (pgs_cons (pg_name (i := 2) nd rfl (Or.inl rfl)) pgs_nil)))
      (pss_one (ps_expr (pe_call A1.G hr rfl A1.m A1.kp A1.b .nil passE (pa_cons (pv 2) (pa_cons (pv 1) pa_nil))))))), ?_⟩
  rcases h with ⟨⟨t, kd, kt⟩, q1⟩ | ⟨a, xs, bs, rfl, ha, ⟨ln, ot⟩, qn, qe⟩
  · exact ⟨_, rfl, _, _, _, _, rfl, kd, kt, _, rfl, itT ⟨_, rfl, fun e' dx h1 h2 nd => qR_of nd (q1 e' dx h1 h2 nd)⟩⟩
  refine ⟨_, rfl, _, _, _, _, rfl, .inl (.lst ha), rfl, _, rfl, itF ?_⟩
  refine ⟨_, rfl, a, rfl, ⟨_, SqL.of ha⟩, for_enum (xs := xs) (fun i σ H' => Ext H H' ∧ (∀ (j : Nat) b, j < i → bs[j]? = some b → b = true) ∧ ∃ o1 o2, σ = [some (.ref a), o1, o2]) ⟨Ext.refl _, fun j d h => absurd h (Nat.not_lt_zero _), _, _, rfl⟩ ?_ ?_ ?_⟩
  · rintro i σ H' _ ⟨x', _⟩
    exact SqL.of (x' _ _ ha)
  · rintro i v σ H' k ev ⟨x', good, o1, o2, rfl⟩ hk
    have xk := Ext.new (o := .tup [.int (i : Nat), v]) hk
    obtain ⟨d, ed, rv⟩ := ot i v ev
    refine ⟨k, _, rfl, SqT.of upd_same, rfl, _, _, rfl, _, _, rfl, rfl, ?_⟩
    refine ⟨_, rfl, _, rfl, v, d, i, rfl, rv.ext (x'.trans xk), fun o => ?_, fun o => ?_⟩
    · refine ⟨x'.trans xk, fun j d' hj hd => ?_, _, _, rfl⟩
      rcases Nat.lt_or_ge j i with lt | ge
      · exact good j d' lt hd
      · have e0 : j = i := by omega
        subst e0
        rw [ed] at hd
        cases hd
        exact o
    · exact qe i ⟨good, by rw [ed, o]⟩ _ (x'.trans xk)
  · rintro σ H' ⟨x', good, o1, o2, rfl⟩
    refine qn ?_ H' x'
    rw [List.all_eq_true]
    intro d hd
    obtain ⟨j, hj, e⟩ := List.getElem_of_mem hd
    exact good j d (by rw [ln]; exact hj) (by rw [List.getElem?_eq_getElem hj, e])
end
end My
set_option Elab.async false
set_option linter.all false
set_option maxRecDepth 100000
set_option maxHeartbeats 1000000
namespace My
open PySem PySem.W L2
section
variable {X : Cx} {CX : CXT} {k : Nat} {S : Addr → Prop} {ps : List Str} {sp : Addr → Sp} {E : XK} {x m : Str} {p pos apos : Pos} {e o : Expr} {es : List Expr} {ta : TE} {t : TA} {σ : St}
end
end My
set_option Elab.async false
set_option linter.all false
set_option maxRecDepth 100000
set_option maxHeartbeats 1000000
namespace My
open PySem PySem.W L2
section
variable {X : Cx}
end
section
variable {X : Cx} {CX : CXT} {k : Nat} {W : Nat → Addr} {S : Nat → Prop} {ps : List Str} {sp : Nat → Sp} {E : XK} {x : Str} {p pos : Pos} {e : Expr} {es : List Expr} {ta : TE} {t : TA} {σ : St}
end
theorem strs_of : ∀ {ts : List Str} {its : List Value}, Vals (ts.map V.str) its → ∃ l : List (Str × Tok), its = strValues l ∧ l.map (·.1) = ts
  | [], _, h => by cases h; exact ⟨[], rfl, rfl⟩
  | z :: ts, _, h => by
    cases h with
    | cons r t =>
      obtain ⟨k, rfl⟩ := r
      obtain ⟨l, rfl, e⟩ := strs_of t
      exact ⟨(z, k) :: l, rfl, by rw [List.map_cons, e]⟩
def rJoin (K : Frag) : V → List V → Hp → VK → Prop := fun x xs H Q => ∃ z l ts, x = .str z ∧ xs = [.ref l] ∧ SqL K H l (ts.map V.str) ∧ JoinOk z ts = true ∧ Q (.str (Txt.join z ts)) H
theorem mt_join {X : Cx} : MtR X "str.join" (rJoin X.K) := by
  intro pins s σ H x xs v us Q I rx rs h
  obtain ⟨z, l, ts, rfl, rfl, hl, ok, q⟩ := h
  obtain ⟨t, rfl⟩ := rx
  obtain ⟨u, rfl, ru⟩ := vals1 rs
  cases (show u = Value.ref l from ru)
  obtain ⟨its, r, pl, _⟩ := I.list hl
  obtain ⟨ps, rfl, e⟩ := strs_of r
  exact SC.join pl.isList e ok fun t' k => ⟨.str _, H, I.tok _, ⟨_, rfl⟩, q⟩
def tFieldN (te : TE) : TE := fun σ H Q => te σ H fun x H1 => ∃ i, x = .int i ∧ i.natAbs.log2 < 1920 ∧ Q (.str (toString i)) H1
abbrev TJ := Str → St → Hp → (Str → Hp → Prop) → Prop
def PJ (X : Cx) (es : List Expr) (tj : TJ) : Prop := ∀ (acc : Str) (pins : List (Addr × Obj)) (s : Shared) (σ : St) (H : Hp) (Q : Str → Hp → Prop), Inv X pins σ H s → tj acc σ H Q →
  Joins (model X.prog X.w) X.A X.xe (evalEach es X.env) acc (fun out s1 => out.length ≤ sizeLine ∧ ∃ H1, Inv X pins σ H1 s1 ∧ Q out H1) s
def jNil : TJ := fun acc σ H Q => acc.length ≤ sizeLine ∧ Q acc H
def jCons (te : TE) (tj : TJ) : TJ := fun acc σ H Q => te σ H fun x H1 => ∃ y, x = .str y ∧ (acc ++ y).length ≤ sizeLine ∧ tj (acc ++ y) σ H1 Q
def tJoinN (tj : TJ) : TE := fun σ H Q => tj Str.empty σ H fun z H1 => Q (.str z) H1
theorem joins_mono {M : Model} {A : Around} {E : Value → Shared → Prop} {Q R : Str → Shared → Prop} (h : ∀ z s, Q z s → R z s) : ∀ (l : List (Sem Value)) (acc : Str) (s : Shared), Joins M A E l acc Q s → Joins M A E l acc R s
  | [], _, _, q => h _ _ q
  | _ :: l, _, _, q => wpAny_mono q (fun v s1 ⟨y, t, e, z, r⟩ => ⟨y, t, e, z, joins_mono h l _ _ r⟩) fun _ _ e => e
section
variable {X : Cx} {e a b : Expr} {es : List Expr} {te : TE} {tj : TJ} {pos : Pos}
theorem pe_fieldN (he : PE X e te) : PE X (.FormattedValue e (-1) none pos) (tFieldN te) := by
  intro pins s σ H Q I h
  refine wpAny_FormattedValue_plain (thn (he pins s σ H _ I h) fun v s1 ⟨x, H1, I1, r1, i, e1, hz, q⟩ => ?_)
  subst e1
  obtain ⟨t, rfl⟩ := r1
  exact PyProof.Rows.formatField_int_small hz ⟨.str _, H1, I1.tok _, ⟨_, rfl⟩, q⟩
theorem pj_nil : PJ X [] jNil := fun acc pins s σ H Q I ⟨z, q⟩ => ⟨z, H, I, q⟩
theorem pj_cons (he : PE X e te) (hr : PJ X es tj) : PJ X (e :: es) (jCons te tj) := by
  intro acc pins s σ H Q I h
  refine thn (he pins s σ H _ I h) fun v s1 ⟨x, H1, I1, r1, y, e1, hz, q⟩ => ?_
  subst e1
  obtain ⟨t, rfl⟩ := r1
  exact ⟨y, t, rfl, hz, hr (acc ++ y) pins s1 σ H1 Q I1 q⟩
theorem pe_joinN (h : PJ X (a :: b :: es) tj) : PE X (.JoinedStr (a :: b :: es) pos) (tJoinN tj) := by
  intro pins s σ H Q I hw
  exact wpAny_JoinedStr (joins_mono (fun z s1 ⟨hz, H1, I1, q⟩ => ⟨hz, .str z, H1, I1.tok _, ⟨_, rfl⟩, q⟩) _ _ _ (h Str.empty pins s σ H _ I hw))
end
theorem cs_join1 (c : Nat) (p q : Str) (r : List Str) : cs (Str.join ⟨#[c]⟩ (p :: q :: r)) = cs p ++ c :: cs (Str.join ⟨#[c]⟩ (q :: r)) := by
  have e : Str.join ⟨#[c]⟩ (p :: q :: r) = p ++ ⟨#[c]⟩ ++ Str.join ⟨#[c]⟩ (q :: r) := rfl
  rw [e, cs_app, cs_app]
  show cs p ++ [c] ++ _ = _
  simp
theorem cut_first {c : Nat} : ∀ {A B R S : List Nat}, c ∉ A → c ∉ B → A ++ c :: R = B ++ c :: S → A = B ∧ R = S
  | [], [], _, _, _, _, h => by cases h; exact ⟨rfl, rfl⟩
  | [], b :: B, _, _, _, hb, h => by
    injection h with h1 h2
    exact absurd (by rw [h1]; exact List.mem_cons_self ..) hb
  | a :: A, [], _, _, ha, _, h => by
    injection h with h1 h2
    exact absurd (by rw [h1]; exact List.mem_cons_self ..) ha
  | a :: A, b :: B, _, _, ha, hb, h => by
    injection h with h1 h2
    subst h1
    obtain ⟨e1, e2⟩ := cut_first (fun z => ha (List.mem_cons_of_mem _ z)) (fun z => hb (List.mem_cons_of_mem _ z)) h2
    exact ⟨by rw [e1], e2⟩
theorem join_inj (c : Nat) : ∀ {ps qs : List Str}, ps ≠ [] → qs ≠ [] → (∀ p ∈ ps, c ∉ cs p) → (∀ q ∈ qs, c ∉ cs q) → Str.join ⟨#[c]⟩ ps = Str.join ⟨#[c]⟩ qs → ps = qs
  | [], _, h, _, _, _, _ => absurd rfl h
  | _ :: _, [], _, h, _, _, _ => absurd rfl h
  | [p], [q], _, _, _, _, e => by
    have e' : p = q := e
    rw [e']
  | [p], q :: q' :: qs, _, _, hp, _, e => by
    have e' : cs p = _ := congrArg cs (show p = Str.join ⟨#[c]⟩ (q :: q' :: qs) from e)
    rw [cs_join1] at e'
    exact absurd (by rw [e']; simp) (hp p (List.mem_cons_self ..))
  | p :: p' :: ps, [q], _, _, _, hq, e => by
    have e' : _ = cs q := congrArg cs (show Str.join ⟨#[c]⟩ (p :: p' :: ps) = q from e)
    rw [cs_join1] at e'
    exact absurd (by rw [← e']; simp) (hq q (List.mem_cons_self ..))
  | p :: p' :: ps, q :: q' :: qs, _, _, hp, hq, e => by
    have e' := congrArg cs e
    rw [cs_join1, cs_join1] at e'
    obtain ⟨e1, e2⟩ := cut_first (hp p (List.mem_cons_self ..)) (hq q (List.mem_cons_self ..)) e'
    have ih := join_inj c (ps := p' :: ps) (qs := q' :: qs) (by simp) (by simp) (fun x hx => hp x (List.mem_cons_of_mem _ hx)) (fun x hx => hq x (List.mem_cons_of_mem _ hx)) (str_ext e2)
    rw [str_ext e1, ih]
theorem split_join {c : Nat} {ps : List Str} (h : ps ≠ []) (hp : ∀ p ∈ ps, c ∉ cs p) : Txt.split (Str.join ⟨#[c]⟩ ps) ⟨#[c]⟩ = ps := by
  have n := PyProof.Rows.split_pos (Str.join ⟨#[c]⟩ ps) ⟨#[c]⟩
  refine join_inj c (fun e => ?_) h (StrLaws.split_free _ c) hp (StrLaws.join_split _ _)
  rw [e] at n
  exact absurd n (by decide)
theorem parts_len (x y : Str) (h : x.length + 2 ≤ sizeLine) : (Builtin.Str.partsBetween x (Builtin.Str.occurrences x y 0 x.length (x.length + 1)) y.length).length ≤ sizeLine := by
  have e1 := StrLaws.occ_length_le x y 0 x.length (x.length + 1)
  rw [length_partsBetween]; omega
end My
set_option Elab.async false
set_option linter.all false
set_option maxRecDepth 100000
set_option maxHeartbeats 1000000
namespace My
open PySem PySem.W L2
abbrev FIG : Str := "0123456789"
theorem fig_at : ∀ i, i < 10 → (cs FIG)[i]? = some (48 + i) := by decide +kernel
theorem fig_find (c : Nat) : Txt.find FIG ⟨#[c]⟩ = if fig c = true then ((c - 48 : Nat) : Int) else -1 := by
  rcases PyProof.Rows.find_whole FIG ⟨#[c]⟩ with ⟨e, hn⟩ | ⟨i, e, hi, _⟩
  · rw [e, if_neg]
    intro hc
    have h := fig_iff.mp hc
    have a := fig_at (c - 48) (by omega)
    rw [show 48 + (c - 48) = c from by omega] at a
    exact hn (c - 48) ((StrLaws.subAt_one FIG c (c - 48)).mpr a)
  · have g : (cs FIG)[i]? = some c := (StrLaws.subAt_one FIG c i).mp hi
    have l : i < 10 := by
      have := (List.getElem?_eq_some_iff.mp g).1
      exact this
    rw [fig_at i l] at g
    have ec : 48 + i = c := Option.some.inj g
    rw [e, if_pos (fig_iff.mpr (by omega))]
    omega
theorem for_signs {z : Str} {g : TG} {tb : TS} {D : Ends} {σ : St} {H : Hp} (Pv : Nat → St → Hp → Prop) (h0 : Pv 0 σ H)
    (hs : ∀ i c σ H, (cs z)[i]? = some c → Pv i σ H → g (.str ⟨#[c]⟩) σ H fun σ2 H2 => tb { D with nx := Pv (i + 1), ct := Pv (i + 1), bk := D.nx } σ2 H2) (hd : ∀ σ H, Pv (cs z).length σ H → D.nx σ H) :
    ∃ W : Nat → Nat → St → Hp → Prop, (∃ m, W 0 m σ H) ∧ ∀ i m σ H, W i m σ H →
      ((Its z).stop i H ∧ D.nx σ H) ∨ ((Its z).go i H ∧ ∃ N : St → Hp → Prop, (∀ σ' H', N σ' H' → ∃ m', m' < m ∧ W (i + 1) m' σ' H') ∧ ∀ x H', (Its z).yld i H x H' → g x σ H' fun σ2 H2 => tb { D with nx := N, ct := N, bk := D.nx } σ2 H2) := by
  have hl : (cs z).length = z.cps.size := Array.length_toList
  refine ⟨fun i m σ H => m = (cs z).length - i ∧ i ≤ (cs z).length ∧ Pv i σ H, ⟨(cs z).length, by simp, Nat.zero_le _, h0⟩, ?_⟩
  rintro i m σ H ⟨rfl, hi, p⟩
  by_cases l : i < (cs z).length
  · refine .inr ⟨(by show i < z.cps.size; omega), Pv (i + 1), fun σ' H' p' => ⟨(cs z).length - (i + 1), by omega, rfl, l, p'⟩, fun x H' y => ?_⟩
    obtain ⟨rfl, c, hc, rfl⟩ := y
    exact hs i c σ _ (by rw [← hc]; exact Array.getElem?_toList) p
  · have e : i = (cs z).length := by omega
    subst e
    exact .inl ⟨(by show z.cps.size ≤ _; omega), hd σ H p⟩
theorem starts0 (z : Str) : Txt.startswith z "0" = ((cs z).head? == some 48) := by
  have h := StrLaws.subAt_one z 48 0
  have e : ("0" : Str) = ⟨#[48]⟩ := by decide +kernel
  rw [e, Bool.eq_iff_iff]
  unfold Txt.startswith
  rw [Bool.and_eq_true, decide_eq_true_iff, beq_iff_eq, List.head?_eq_getElem?]
  exact h
theorem isZero (z : Str) : decide (V.str z = V.str "0") = (cs z == [48]) := by
  rw [Bool.eq_iff_iff, decide_eq_true_iff, beq_iff_eq]
  constructor
  · intro h
    injection h with h
    rw [h]
    decide +kernel
  · intro h
    exact congrArg V.str (str_ext (h.trans (by decide +kernel)))
theorem isNil (z : Str) : decide (V.str z = V.str "") = (cs z).isEmpty := by
  rw [Bool.eq_iff_iff, decide_eq_true_iff, List.isEmpty_iff]
  constructor
  · intro h
    injection h with h
    rw [h]
    decide +kernel
  · intro h
    exact congrArg V.str (str_ext (h.trans (by decide +kernel)))
theorem take_val (L : List Nat) (i : Nat) (c : Nat) (h : L[i]? = some c) : val (L.take (i + 1)) = val (L.take i) * 10 + (c - 48) := by
  have e : L.take (i + 1) = L.take i ++ [c] := by
    rw [List.take_succ, h]
    rfl
  rw [e]
  exact NumText.digitsVal_snoc _ _
def oV : Option Nat → V
  | some n => .int n
  | none => .non
def oD : Option Nat → PyData
  | some n => .int n
  | none => .none
def oN (L : List Nat) : Option Nat := if figs L = true then some (val L) else none
end My
set_option Elab.async false
set_option linter.all false
set_option maxRecDepth 100000
set_option maxHeartbeats 4000000
namespace My
open PySem L2
def rSlS : V → Option Int → Option Int → Hp → VK → Prop := fun x lo hi H Q => ∃ z, x = .str z ∧ z.length ≤ sizeLine ∧ Q (.str (Txt.slice z lo hi)) H
theorem sl_str {X : Cx} : SlR X rSlS := by
  intro pins s σ H x v vl vu lo hi sl Q I rx hs pl pu h
  obtain ⟨z, rfl, hz, q⟩ := h
  obtain ⟨t, rfl⟩ := rx
  have done : ∀ t' k, EP X pins σ Q (.str (Txt.slice z lo hi) t') { s with toks := k } := fun t' k => ⟨.str _, H, I.tok _, ⟨_, rfl⟩, q⟩
  have fit : (Txt.slice z lo hi).length ≤ sizeLine := Nat.le_trans (Txt.slice_le z _ _) hz
  refine ⟨"str", _, PySem.F.slot_str_getitem.lookup, typeIs_str _ _ _, ?_⟩
  cases pl with
  | none =>
    cases pu with
    | none => exact wpAny_getItem_str_slice (l := none) (u := none) (st := none) hs rfl (post_val_or_str ⟨fit, done⟩)
    | int j tj => exact wpAny_getItem_str_slice (l := none) (u := some (j, tj)) (st := none) hs rfl (post_val_or_str ⟨fit, done⟩)
  | int i ti =>
    cases pu with
    | none => exact wpAny_getItem_str_slice (l := some (i, ti)) (u := none) (st := none) hs rfl (post_val_or_str ⟨fit, done⟩)
    | int j tj => exact wpAny_getItem_str_slice (l := some (i, ti)) (u := some (j, tj)) (st := none) hs rfl (post_val_or_str ⟨fit, done⟩)
end My
set_option Elab.async false
set_option linter.all false
set_option maxRecDepth 100000
set_option maxHeartbeats 1000000
namespace My
open PySem PySem.W L2
def clp (n : Nat) (v : Option Int) (d : Nat) : Nat := match v with
  | none => d
  | some i => (max 0 (min (if i < 0 then i + n else i) n)).toNat
theorem cut_map {α : Type} (xs : List α) : ∀ (m s : Nat), s + m ≤ xs.length → ((List.range m).map fun k => s + k).filterMap (fun i => xs[i]?) = (xs.drop s).take m
  | 0, s, _ => by simp
  | m + 1, s, h => by
    have ih := cut_map xs m s (by omega)
    have e := List.getElem?_eq_getElem (show s + m < xs.length by omega)
    rw [List.range_succ, List.map_append, List.filterMap_append, ih, take_all (xs := xs.drop s) (show (xs.drop s)[m]? = some (xs[s + m]'(by omega)) by rw [List.getElem?_drop]; exact e)]
    simp only [List.map_cons, List.map_nil, List.filterMap_cons, e, List.filterMap_nil]
theorem rng_of (s e : Nat) : sliceRange (s : Int) (e : Int) 1 = (List.range (e - s)).map fun k => s + k := by
  unfold sliceRange
  simp only [show (1 : Int) > 0 by decide, if_true, Int.one_mul, Int.add_sub_cancel, Int.ediv_one]
  have e1 : (if (s : Int) < (e : Int) then (e : Int) - (s : Int) else 0).toNat = e - s := by split <;> omega
  rw [e1]
  refine List.map_congr_left fun k _ => ?_
  omega
theorem sl_ix (l u : Option Int) (n : Nat) : Builtin.Str.strSliceIndices l u 1 n = (List.range (clp n u n - clp n l 0)).map fun k => clp n l 0 + k := by
  rw [← rng_of]
  have c : ∀ i : Int, ((max 0 (min (if i < 0 then i + (n : Int) else i) (n : Int))).toNat : Int) = max 0 (min (if i < 0 then i + (n : Int) else i) (n : Int)) := fun i => Int.toNat_of_nonneg (by omega)
  cases l with
  | none =>
    cases u with
    | none => rfl
    | some j => show sliceRange 0 (max 0 (min (if j < 0 then j + (n : Int) else j) (n : Int))) 1 = sliceRange 0 ((max 0 (min (if j < 0 then j + (n : Int) else j) (n : Int))).toNat : Int) 1; rw [c]
  | some i =>
    cases u with
    | none => show sliceRange (max 0 (min (if i < 0 then i + (n : Int) else i) (n : Int))) n 1 = sliceRange ((max 0 (min (if i < 0 then i + (n : Int) else i) (n : Int))).toNat : Int) n 1; rw [c]
    | some j => show sliceRange (max 0 (min (if i < 0 then i + (n : Int) else i) (n : Int))) (max 0 (min (if j < 0 then j + (n : Int) else j) (n : Int))) 1 = sliceRange ((max 0 (min (if i < 0 then i + (n : Int) else i) (n : Int))).toNat : Int) ((max 0 (min (if j < 0 then j + (n : Int) else j) (n : Int))).toNat : Int) 1; rw [c, c]
theorem clp_le {n : Nat} {v : Option Int} {d : Nat} (h : d ≤ n) : clp n v d ≤ n := by
  unfold clp
  cases v with
  | none => exact h
  | some i => show (max 0 (min (if i < 0 then i + (n : Int) else i) (n : Int))).toNat ≤ n; omega
theorem cs_slice (x : Str) (l u : Option Int) : cs (Txt.slice x l u) = ((cs x).drop (clp (cs x).length l 0)).take (clp (cs x).length u (cs x).length - clp (cs x).length l 0) := by
  have hn : x.length = (cs x).length := by show x.cps.size = x.cps.toList.length; simp
  have c1 := clp_le (n := (cs x).length) (v := l) (d := 0) (Nat.zero_le _)
  have c2 := clp_le (n := (cs x).length) (v := u) (d := (cs x).length) (Nat.le_refl _)
  unfold Txt.slice
  rw [hn, sl_ix]
  generalize clp (cs x).length l 0 = s at c1 ⊢
  generalize clp (cs x).length u (cs x).length = e at c2 ⊢
  split
  · rename_i h
    have h' : e - s = (cs x).length := by simpa using h
    have s0 : s = 0 := by omega
    subst s0
    rw [h', List.drop_zero, List.take_length]
  · show cs ⟨((List.map (fun k => s + k) (List.range (e - s))).filterMap (fun i => x.cps[i]?)).toArray⟩ = _
    rw [cs_mk]
    by_cases le : s ≤ e
    · have := cut_map (cs x) (e - s) s (by omega)
      rw [← this]
      congr 1
      funext i
      simp
    · have z : e - s = 0 := by omega
      rw [z]; simp
theorem clp_nat (n i d : Nat) : clp n (some (i : Nat)) d = min i n := by
  show (max 0 (min (if ((i : Nat) : Int) < 0 then ((i : Nat) : Int) + n else ((i : Nat) : Int)) n)).toNat = min i n
  rw [if_neg (by omega)]
  omega
theorem clp_one (n d : Nat) : clp n (some (-1)) d = n - 1 := by
  show (max 0 (min (if (-1 : Int) < 0 then (-1 : Int) + n else -1) n)).toNat = n - 1
  rw [if_pos (by decide)]
  omega
theorem cs_from (x : Str) (i : Nat) : cs (Txt.slice x (some (i : Nat)) none) = (cs x).drop i := by
  rw [cs_slice, clp_nat]
  show List.take ((cs x).length - _) _ = _
  by_cases h : i ≤ (cs x).length
  · rw [Nat.min_eq_left h, List.take_of_length_le (by rw [List.length_drop]; omega)]
  · rw [Nat.min_eq_right (by omega), Nat.sub_self, List.take_zero, List.drop_of_length_le (by omega)]
theorem cs_upto (x : Str) (i : Nat) : cs (Txt.slice x none (some (i : Nat))) = (cs x).take i := by
  rw [cs_slice, clp_nat]
  show List.take (_ - 0) (List.drop 0 (cs x)) = _
  rw [Nat.sub_zero, List.drop_zero]
  by_cases h : i ≤ (cs x).length
  · rw [Nat.min_eq_left h]
  · rw [Nat.min_eq_right (by omega), List.take_length, List.take_of_length_le (by omega)]
theorem cs_but (x : Str) : cs (Txt.slice x none (some (-1))) = (cs x).dropLast := by
  rw [cs_slice, clp_one]
  show List.take (_ - 0) (List.drop 0 (cs x)) = _
  rw [Nat.sub_zero, List.drop_zero, List.dropLast_eq_take]
theorem cs_last (x : Str) : cs (Txt.slice x (some (-1)) none) = (cs x).drop ((cs x).length - 1) := by
  rw [cs_slice, clp_one]
  show List.take ((cs x).length - _) _ = _
  rw [List.take_of_length_le (by rw [List.length_drop]; omega)]
theorem starts1 (z : Str) (c : Nat) : Txt.startswith z ⟨#[c]⟩ = ((cs z).head? == some c) := by
  have h := StrLaws.subAt_one z c 0
  rw [Bool.eq_iff_iff]
  unfold Txt.startswith
  rw [Bool.and_eq_true, decide_eq_true_iff, beq_iff_eq, List.head?_eq_getElem?]
  exact h
theorem ends1 (z : Str) (c : Nat) : Txt.endswith z ⟨#[c]⟩ = ((cs z).getLast? == some c) := by
  have h := StrLaws.subAt_one z c (z.length - 1)
  have hn : z.length = (cs z).length := by show z.cps.size = z.cps.toList.length; simp
  rw [Bool.eq_iff_iff]
  unfold Txt.endswith
  rw [Bool.and_eq_true, decide_eq_true_iff, beq_iff_eq, List.getLast?_eq_getElem?, ← hn]
  constructor
  · rintro ⟨h1, h2⟩
    refine h.mp ⟨?_, h2⟩
    have h1' : 0 + 1 ≤ z.length := h1
    show z.length - 1 + 1 ≤ z.length
    omega
  · intro h1
    obtain ⟨h2, h3⟩ := h.mpr h1
    refine ⟨?_, h3⟩
    have h2' : z.length - 1 + 1 ≤ z.length := h2
    show 0 + 1 ≤ z.length
    omega
theorem len_cs (z : Str) : z.length = (cs z).length := by show z.cps.size = z.cps.toList.length; simp
theorem isTxt (z y : Str) : decide (V.str z = V.str y) = (cs z == cs y) := by
  rw [Bool.eq_iff_iff, decide_eq_true_iff, beq_iff_eq]
  exact ⟨fun h => by injection h with h; rw [h], fun h => congrArg V.str (str_ext h)⟩
end My
set_option Elab.async false
set_option linter.all false
set_option maxRecDepth 100000
set_option maxHeartbeats 1000000
namespace My
open PySem PySem.W L2
end My
set_option Elab.async false
set_option linter.all false
set_option maxRecDepth 100000
set_option maxHeartbeats 1000000
set_option exponentiation.threshold 10000
namespace My
open PySem PySem.W L2
section
variable {P : Program} {w : World} {K : Frag} {mg : Str → Option Value} {base : Heap}
abbrev sCount : Stmt := top 13
def spCnt : Sp := fun vs H Q _ => ∃ z, vs = [.str z] ∧ Q (oV (oN (cs z))) H
theorem scCt : FnScope ["text", "number", "sign", "worth"] ["text"] (defScope sCount) := ⟨rfl, rfl, rfl, by decide +kernel, rfl, by decide +kernel, by decide +kernel⟩
theorem ok_count {f : Addr} {fd : FuncData} {tF : Tok} (F : Fun K "count_in" "count_in" sCount f fd) (mF : mg "FIGURES" = some (.str FIG tF)) : FnOk P w K mg base CX0 1 f fd ["text"] spCnt := by
  refine F.ok scCt (fun vs H Q E h => ?_) (fun cdv A outer s H vs Q E hr h => ?_)
  · obtain ⟨c, rfl, _⟩ := h
    rfl
  obtain ⟨z, rfl, q⟩ := h
  have q1 : figs (cs z) = true → Q (.int (val (cs z))) H := fun e => by
    have e2 : oN (cs z) = some (val (cs z)) := by unfold oN; rw [e]; rfl
    rw [e2] at q; exact q
  have q0 : figs (cs z) = false → Q .non H := fun e => by
    have e2 : oN (cs z) = none := by unfold oN; rw [e]; rfl
    rw [e2] at q; exact q
  have nd := scCt.nd
  refine ⟨_, pss_cons (ps_if (PW.pt (pw_or (pt_cmpR op_eq (pv 0) pe_str (nomark _)) (pw_or1 (PW.pt (pw_and (pt_val (pe_bm PySem.F.plainAttrs_str PySem.F.slot_str_startswith PySem.F.type_str_startswith mt_starts (pv 0) (pa_cons pe_str pa_nil))) (pw_and1 (pt_cmpR op_ne (pv 0) pe_str (nomark _)))))))) (pss_one (ps_ret pe_non)) pss_nil)
    (pss_cons (ps_set (i := 1) nd rfl (Or.inl rfl) pe_int)
    (pss_cons (ps_for PassesOwn.never rfl (pi_str (pv 0)) (pg_name (i := 2) nd rfl (Or.inl rfl))
      (pss_cons (ps_set (i := 3) nd rfl (Or.inl rfl) (pe_bm PySem.F.plainAttrs_str PySem.F.slot_str_find PySem.F.type_str_find mt_find (pe_glob (v := .str FIG) rfl mF ⟨_, rfl⟩) (pa_cons (pv 2) pa_nil)))
      (pss_cons (ps_if (pt_cmpR op_lt (pv 3) pe_int (nomark _)) (pss_one (ps_ret pe_non)) pss_nil)
      (pss_one (ps_set (i := 1) nd rfl (Or.inl rfl) (pe_op op_add (pe_op op_mul (pv 1) pe_int) (pv 3)))))))
    (pss_one (ps_ret (pv 1))))), ?_⟩
  have loop : ∀ (hb : figs (cs z) = (cs z).all fig), tSeq (tFor (iStr (tVar 0)) (gName 2) (tSeq (tAsg (tBM K "str" (fun x xs H Q => ∃ a b, x = .str a ∧ xs = [.str b] ∧ Q (.int (Txt.find a b)) H) (tC (.str FIG)) (tCons (tVar 2) tNil)) (gName 3))
      (tSeq (tIfS (tTest (tOp (rI0 fun i j => .bl (decide (i < j))) (tVar 3) (tC (.int 0)))) (tRet (tC .non)) tNext) (tAsg (tOp (rI0 fun i j => .int (i + j)) (tOp (rI CMul fun i j => .int (i * j)) (tVar 1) (tC (.int 10))) (tVar 3)) (gName 1)))))
      (tRet (tVar 1)) { nx := fun _ H' => Q .non H', rt := Q } [some (.str z), some (.int 0), none, none] H := by
    intro hb
    refine ⟨_, rfl, z, rfl, for_signs (fun i σ H' => H' = H ∧ (∃ b c, σ = [some (.str z), some (.int (val ((cs z).take i))), b, c]) ∧ ((cs z).take i).all fig = true) ⟨rfl, ⟨none, none, rfl⟩, rfl⟩ ?_ ?_⟩
    · rintro i c σ H' hc ⟨rfl, ⟨b, d, rfl⟩, ha⟩
      refine ⟨(rfl : ("str" : String) = "str"), _, rfl, _, _, rfl, rfl, ?_⟩
      refine ⟨_, rfl, _, _, rfl, rfl, _, rfl, ?_⟩
      rw [fig_find]
      cases hf : fig c with
      | false =>
        refine ite2 (fun _ => ?_) (fun n => absurd (by rw [if_neg (by decide)]; decide) n)
        refine q0 ?_
        rw [hb]
        cases e : (cs z).all fig with
        | false => rfl
        | true =>
          have := List.all_eq_true.mp e c (List.mem_of_getElem? hc)
          rw [hf] at this
          cases this
      | true =>
        have h48 := fig_iff.mp hf
        refine ite2 (fun n => ?_) (fun _ => ?_)
        · exfalso
          have n' : ((c - 48 : Nat) : Int) < 0 := of_decide_eq_true n
          omega
        · refine ⟨_, rfl, _, _, rfl, rfl, .inr ⟨by decide, by decide⟩, _, rfl, _, _, rfl, rfl, ?_⟩
          refine ⟨rfl, ⟨some (.str ⟨#[c]⟩), some (.int ((c - 48 : Nat) : Int)), ?_⟩, ?_⟩
          · rw [if_pos rfl]
            show [some (V.str z), some (V.int (((val ((cs z).take i) : Nat) : Int) * 10 + ((c - 48 : Nat) : Int))), some (.str ⟨#[c]⟩), some (.int ((c - 48 : Nat) : Int))] = _
            rw [take_val (cs z) i c hc]
            simp only [Int.natCast_add, Int.natCast_mul]
            rfl
          · rw [List.take_succ, hc, List.all_append, ha]
            simp [hf]
    · rintro σ H' ⟨rfl, ⟨b, d, rfl⟩, ha⟩
      refine ⟨_, rfl, ?_⟩
      rw [List.take_length] at ha ⊢
      exact q1 (by rw [hb]; exact ha)
  refine ⟨_, rfl, rfl, _, rfl, ?_⟩
  rw [isNil]
  cases hn : (cs z).isEmpty with
  | true =>
    refine itT (itT (q0 ?_))
    rw [List.isEmpty_iff] at hn
    rw [hn]
    rfl
  | false =>
    refine itF ⟨_, rfl, (rfl : ("str" : String) = "str"), _, _, rfl, rfl, _, rfl, ?_⟩
    rw [starts0]
    cases hh : (cs z).head? == some 48 with
    | false =>
      refine itF (itF (loop ?_))
      unfold figs
      rw [hn, hh]
      simp
    | true =>
      refine itT ⟨_, rfl, rfl, _, rfl, ?_⟩
      rw [isZero]
      cases h0 : cs z == [48] with
      | false =>
        refine itT (q0 ?_)
        unfold figs
        rw [hn, hh]
        simp only [bne, h0]
        rfl
      | true =>
        refine itF (loop ?_)
        unfold figs
        rw [hn, hh]
        simp only [bne, h0]
        rfl
end
end My
set_option Elab.async false
set_option linter.all false
set_option maxRecDepth 100000
set_option maxHeartbeats 1000000
set_option exponentiation.threshold 10000
namespace My
open PySem PySem.W L2
theorem itFe {A B : Prop} {c : Bool} (e : c = false) (h : B) : if c = true then A else B := by subst e; exact itF h
theorem itTe {A B : Prop} {c : Bool} (e : c = true) (h : A) : if c = true then A else B := by subst e; exact itT h
def oVI : Option Int → V
  | none => .non
  | some n => .int n
def negN : Option Nat → Option Int
  | some (v + 1) => some (-((v + 1 : Nat) : Int))
  | _ => none
def natI : Option Nat → Option Int
  | some v => some (v : Nat)
  | none => none
def numI (L : List Nat) : Option Int := if (L.head? == some 45) = true then negN (oN L.tail) else natI (oN L)
def bndI : Option Int → Option Int
  | some n => if -99 ≤ n ∧ n ≤ 99 then some n else none
  | none => none
def whoI (L : List Nat) : Option Int := bndI (numI L)
def outI (L : List Nat) : Option Int × Bool := if (L.getLast? == some 43) = true then (whoI L.dropLast, false) else (whoI L, true)
theorem minusT : ((("-" : String) : Str)) = ⟨#[45]⟩ := by decide +kernel
theorem plusT : ((("+" : String) : Str)) = ⟨#[43]⟩ := by decide +kernel
theorem oV_nat (o : Option Nat) : oV o = oVI (natI o) := by cases o <;> rfl
section
variable {P : Program} {w : World} {K : Frag} {mg : Str → Option Value} {base : Heap} {f a1 a2 : Addr} {fd d1 d2 : FuncData}
abbrev sNI : Stmt := top 14
def spNI : Sp := fun vs H Q _ => ∃ z : Str, vs = [.str z] ∧ z.length ≤ sizeLine ∧ Q (oVI (numI (cs z))) H
theorem scNI : FnScope ["text", "number"] ["text"] (defScope sNI) := ⟨rfl, rfl, rfl, by decide +kernel, rfl, by decide +kernel, by decide +kernel⟩
theorem ok_ni (F : Fun K "number_in" "number_in" sNI f fd) (A1 : Df P w K mg base CX0 1 "count_in" ["text"] spCnt a1 d1) : FnOk P w K mg base CX0 2 f fd ["text"] spNI := by
  refine F.ok scNI (fun vs H Q E h => ?_) (fun cdv A outer s H vs Q E hr h => ?_)
  · obtain ⟨_, rfl, _⟩ := h
    rfl
  obtain ⟨z, rfl, hz, q⟩ := h
  have nd := scNI.nd
  refine ⟨_, pss_cons (ps_if (pt_not (pt_val (pe_bm PySem.F.plainAttrs_str PySem.F.slot_str_startswith PySem.F.type_str_startswith mt_starts (pv 0) (pa_cons pe_str pa_nil)))) (pss_one (ps_ret (pe_call A1.G hr rfl A1.m A1.kp A1.b .nil pass0 (pa_cons (pv 0) pa_nil)))) pss_nil)
    (pss_cons (ps_set (i := 1) nd rfl (Or.inl rfl) (pe_call A1.G hr rfl A1.m A1.kp A1.b .nil pass0 (pa_cons (pe_slice sl_str (pv 0) (po_some pe_int) po_none) pa_nil)))
    (pss_cons (ps_if (PW.pt (pw_or (pt_cmp (pc_isN (pv 1))) (pw_or1 (pt_cmpR op_eq (pv 1) pe_int (nomark _))))) (pss_one (ps_ret pe_non)) pss_nil)
    (pss_one (ps_ret (pe_un un_neg (pv 1)))))), ?_⟩
  refine ⟨_, rfl, (rfl : ("str" : String) = "str"), _, _, rfl, rfl, _, rfl, ?_⟩
  have e1 : Txt.startswith z (("-" : String) : Str) = ((cs z).head? == some 45) := by rw [minusT, starts1]
  rw [e1]
  unfold numI at q
  cases h : (cs z).head? == some 45 with
  | false =>
    rw [h, if_neg (by decide), ← oV_nat] at q
    exact itT ⟨_, rfl, z, rfl, q⟩
  | true =>
    rw [h, if_pos rfl] at q
    refine itF ⟨_, rfl, 1, rfl, z, rfl, hz, _, rfl, ?_⟩
    have e2 : cs (Txt.slice z (some 1) none) = (cs z).tail := by
      have := cs_from z 1
      rw [List.drop_one] at this
      exact this
    rw [e2]
    cases ho : oN (cs z).tail with
    | none =>
      rw [ho] at q
      exact ⟨_, rfl, _, rfl, itT (itT q)⟩
    | some v =>
      rw [ho] at q
      refine ⟨_, rfl, _, rfl, itF ⟨_, rfl, rfl, _, rfl, ?_⟩⟩
      cases v with
      | zero => exact itT q
      | succ v =>
        refine itFe ?_ ⟨_, rfl, _, rfl, q⟩
        exact decide_eq_false fun z => by injection z with z; omega
abbrev sWI : Stmt := top 15
def spWI : Sp := fun vs H Q _ => ∃ z : Str, vs = [.str z, .int (-99), .int 99] ∧ z.length ≤ sizeLine ∧ Q (oVI (whoI (cs z))) H
theorem scWI : FnScope ["thing", "low", "high", "number"] ["thing", "low", "high"] (defScope sWI) := ⟨rfl, rfl, rfl, by decide +kernel, rfl, by decide +kernel, by decide +kernel⟩
theorem ok_wi (N : IsT K) (F : Fun K "whole_in" "whole_in" sWI f fd) (A1 : Df P w K mg base CX0 2 "number_in" ["text"] spNI a1 d1) (A2 : Df P w K mg base CX0 2 "is_whole" ["thing", "low", "high"] (spIsWh K) a2 d2) (mi : mg "isinstance" = none) (ms : mg "str" = none) : FnOk P w K mg base CX0 3 f fd ["thing", "low", "high"] spWI := by
  refine F.ok scWI (fun vs H Q E h => ?_) (fun cdv A outer s H vs Q E hr h => ?_)
  · obtain ⟨_, rfl, _⟩ := h
    rfl
  obtain ⟨z, rfl, hz, q⟩ := h
  have nd := scWI.nd
  refine ⟨_, pss_cons (ps_if (pt_not (pt_val (pe_callB (call_isK N) rfl mi PyProof.Rows.boot_isinstance (pa_cons (pv 0) (pa_cons (pe_ty rfl ms PyProof.Rows.boot_str) pa_nil))))) (pss_one (ps_ret pe_non)) pss_nil)
    (pss_cons (ps_set (i := 3) nd rfl (Or.inl rfl) (pe_call A1.G hr rfl A1.m A1.kp A1.b .nil pass0 (pa_cons (pv 0) pa_nil)))
    (pss_one (ps_ret (pe_ifExp (pt_val (pe_call A2.G hr rfl A2.m A2.kp A2.b .nil pass0 (pa_cons (pv 3) (pa_cons (pv 1) (pa_cons (pv 2) pa_nil))))) (pv 3) pe_non)))), ?_⟩
  refine ⟨_, rfl, _, _, _, _, rfl, .inl (.str z), rfl, _, rfl, itF ⟨_, rfl, z, rfl, hz, ?_⟩⟩
  unfold whoI at q
  cases h : numI (cs z) with
  | none =>
    rw [h] at q
    refine ⟨_, rfl, _, rfl, _, rfl, _, _, _, rfl, Rds.th (d := .none) .non, _, rfl, ?_⟩
    exact itFe rfl q
  | some n =>
    rw [h] at q
    refine ⟨_, rfl, _, rfl, _, rfl, _, _, _, rfl, .inl ⟨n, rfl⟩, _, rfl, ?_⟩
    have qq : Q (oVI (if -99 ≤ n ∧ n ≤ 99 then some n else none)) H := q
    by_cases c : -99 ≤ n ∧ n ≤ 99
    · rw [if_pos c] at qq
      exact itTe (by show (decide ((-99 : Int) ≤ n) && decide (n ≤ 99)) = true; rw [decide_eq_true c.1, decide_eq_true c.2]; rfl) ⟨_, rfl, qq⟩
    · rw [if_neg c] at qq
      exact itFe (by show (decide ((-99 : Int) ≤ n) && decide (n ≤ 99)) = false; rw [← Bool.not_eq_true, Bool.and_eq_true, decide_eq_true_iff, decide_eq_true_iff]; exact c) qq
abbrev sOI : Stmt := top 25
def spOI : Sp := fun vs H Q _ => ∃ z : Str, vs = [.str z] ∧ z.length ≤ sizeLine ∧ ∀ p, H p = none → Q (.ref p) (upd H p (.tup [oVI (outI (cs z)).1, .bl (outI (cs z)).2]))
theorem scOI : FnScope ["word", "sure", "figures"] ["word"] (defScope sOI) := ⟨rfl, rfl, rfl, by decide +kernel, rfl, by decide +kernel, by decide +kernel⟩
theorem ok_oi {tL tM : Tok} (F : Fun K "outcome_in" "outcome_in" sOI f fd) (A1 : Df P w K mg base CX0 3 "whole_in" ["thing", "low", "high"] spWI a1 d1) (mL : mg "LEAST_NUMBER" = some (.int (-99) tL)) (mM : mg "MOST_NUMBER" = some (.int 99 tM)) : FnOk P w K mg base CX0 4 f fd ["word"] spOI := by
  refine F.ok scOI (fun vs H Q E h => ?_) (fun cdv A outer s H vs Q E hr h => ?_)
  · obtain ⟨_, rfl, _⟩ := h
    rfl
  obtain ⟨z, rfl, hz, q⟩ := h
  have nd := scOI.nd
  refine ⟨_, pss_cons (ps_set (i := 1) nd rfl (Or.inl rfl) (pe_not (pe_bm PySem.F.plainAttrs_str PySem.F.slot_str_endswith PySem.F.type_str_endswith mt_ends (pv 0) (pa_cons pe_str pa_nil))))
    (pss_cons (ps_set (i := 2) nd rfl (Or.inl rfl) (pe_ifExp (pt_val (pv 1)) (pv 0) (pe_slice sl_str (pv 0) po_none (po_some (pe_un un_neg pe_int)))))
    (pss_one (ps_ret (pe_tup (pa_cons (pe_call A1.G hr rfl A1.m A1.kp A1.b .nil pass0 (pa_cons (pv 2) (pa_cons (pe_glob (v := .int (-99)) rfl mL ⟨_, rfl⟩) (pa_cons (pe_glob (v := .int 99) rfl mM ⟨_, rfl⟩) pa_nil)))) (pa_cons (pv 1) pa_nil)))))), ?_⟩
  have e1 : Txt.endswith z (("+" : String) : Str) = ((cs z).getLast? == some 43) := by rw [plusT, ends1]
  refine ⟨_, rfl, (rfl : ("str" : String) = "str"), _, _, rfl, rfl, ?_⟩
  rw [e1]
  unfold outI at q
  cases h : (cs z).getLast? == some 43 with
  | true =>
    rw [h] at q
    refine ⟨_, rfl, ⟨_, rfl, _, rfl, itF ⟨_, rfl, 1, rfl, _, rfl, z, rfl, hz, ?_⟩⟩⟩
    refine ⟨_, rfl, Txt.slice z none (some (-1)), rfl, Nat.le_trans (Txt.slice_le z _ _) hz, _, rfl, by show 2 ≤ sizeLine; decide, fun p hp => ?_⟩
    rw [cs_but]
    exact q p hp
  | false =>
    rw [h] at q
    refine ⟨_, rfl, ⟨_, rfl, _, rfl, itT ⟨_, rfl, ?_⟩⟩⟩
    exact ⟨_, rfl, z, rfl, hz, _, rfl, by show 2 ≤ sizeLine; decide, fun p hp => q p hp⟩
end
end My
set_option Elab.async false
set_option linter.all false
set_option maxRecDepth 100000
set_option maxHeartbeats 1000000
set_option exponentiation.threshold 10000
namespace My
open PySem PySem.W L2
abbrev txI (i : Int) : Str := Str.ofString (toString i)
def oD2 (o : Int × Bool) : PyData := .tuple [.int o.1, .bool o.2]
def OsOk (os : List (Int × Bool)) : Prop := ∀ o ∈ os, -99 ≤ o.1 ∧ o.1 ≤ 99
def wordT (o : Int × Bool) : Str := txI o.1 ++ (if o.2 = true then (("" : String) : Str) else (("+" : String) : Str))
theorem bl32 : ((" " : String) : Str) = ⟨#[32]⟩ := by decide +kernel
def txtO (os : List (Int × Bool)) : Str := Str.join ⟨#[32]⟩ (os.map wordT)
theorem tx_all : ∀ i : Nat, i < 199 → (Str.ofString (toString ((i : Int) - 99))).length ≤ 3 := by decide +kernel
theorem txI_len {i : Int} (h0 : -99 ≤ i) (h1 : i ≤ 99) : (txI i).length ≤ 3 := by
  have := tx_all (i + 99).toNat (by omega)
  rwa [show (((i + 99).toNat : Int) - 99) = i by omega] at this
theorem word_len {o : Int × Bool} (h0 : -99 ≤ o.1) (h1 : o.1 ≤ 99) : (wordT o).length ≤ 4 := by
  have a := txI_len h0 h1
  unfold wordT
  have e : ∀ x y : Str, (x ++ y).length = x.length + y.length := strLen_append
  rw [e]
  split
  · have : (("" : String) : Str).length = 0 := by decide +kernel
    omega
  · have : (("+" : String) : Str).length = 1 := by decide +kernel
    omega
theorem txt_join {os : List (Int × Bool)} (ok : OsOk os) (l : os.length ≤ 2000) : JoinOk (" " : String) (os.map wordT) = true ∧ Txt.join (" " : String) (os.map wordT) = txtO os := by
  refine ⟨?_, ?_⟩
  · unfold JoinOk
    rw [Bool.not_eq_true']
    refine StrLaws.joinFits (B := 4) (fun y hy => ?_) ?_
    · obtain ⟨r, hr, rfl⟩ := List.mem_map.mp hy
      exact word_len (ok r hr).1 (ok r hr).2
    · rw [List.length_map, bl32]
      show os.length * 4 + os.length * 1 ≤ 16777216
      omega
  · rw [bl32]
    exact StrLaws.glued_eq_join _ _
theorem pe_join1 {X : Cx} {v : Expr} {te : TE} {pos : Pos} (h : PE X v te) : PE X (.JoinedStr [v] pos) te := fun pins s σ H Q I q => wpAny_JoinedStr_one (h pins s σ H Q I q)
section
variable {P : Program} {w : World} {K : Frag} {mg : Str → Option Value} {base : Heap} {f a1 a2 : Addr} {fd d1 d2 : FuncData}
abbrev sOT : Stmt := top 23
def spOT : Sp := fun vs H Q _ => ∃ v o, vs = [v] ∧ Rds H v (oD2 o) ∧ -99 ≤ o.1 ∧ o.1 ≤ 99 ∧ Q (.str (wordT o)) H
theorem scOT : FnScope ["outcome", "number", "sure"] ["outcome"] (defScope sOT) := ⟨rfl, rfl, rfl, by decide +kernel, rfl, by decide +kernel, by decide +kernel⟩
theorem oc_two {H : Hp} {v : V} {o : Int × Bool} (h : Rds H v (oD2 o)) : ∃ a, v = .ref a ∧ H a = some (.tup [.int o.1, .bl o.2]) := by
  cases h with
  | tup ha rs =>
    cases rs with
    | cons r1 rs =>
      cases rs with
      | cons r2 rs =>
        cases rs
        cases r1
        cases r2
        exact ⟨_, rfl, ha⟩
theorem log_small {i : Int} (h0 : -99 ≤ i) (h1 : i ≤ 99) : i.natAbs.log2 < 1920 := by
  have : i.natAbs < 2 ^ 7 := by omega
  have h := Nat.log2_lt (n := i.natAbs) (k := 7)
  by_cases z : i.natAbs = 0
  · rw [z]; decide
  · exact Nat.lt_trans ((h z).mpr this) (by decide)
theorem ok_ot (F : Fun K "outcome_text" "outcome_text" sOT f fd) : FnOk P w K mg base CX0 1 f fd ["outcome"] spOT := by
  refine F.ok scOT (fun vs H Q E h => ?_) (fun cdv A outer s H vs Q E hr h => ?_)
  · obtain ⟨_, _, rfl, _⟩ := h
    rfl
  obtain ⟨v, o, rfl, rd, h0, h1, q⟩ := h
  have nd := scOT.nd
  refine ⟨_, pss_cons (ps_asg (pv 0) (pg_tup rfl (pgs_cons (pg_name (i := 1) nd rfl (Or.inl rfl)) (pgs_cons (pg_name (i := 2) nd rfl (Or.inl rfl)) pgs_nil))))
    (pss_one (ps_ret (pe_ifExp (pt_val (pv 2)) (pe_join1 (pe_fieldN (pv 1))) (pe_joinN (pj_cons (pe_fieldN (pv 1)) (pj_cons pe_str pj_nil)))))), ?_⟩
  obtain ⟨a, rfl, ha⟩ := oc_two rd
  have lg := log_small h0 h1
  have tl := txI_len h0 h1
  have zl : 100 ≤ sizeLine := by decide
  refine ⟨_, rfl, a, _, rfl, SqT.of ha, rfl, _, _, rfl, _, _, rfl, rfl, _, rfl, _, rfl, ?_⟩
  unfold wordT at q
  cases hs : o.2 with
  | true =>
    rw [hs, if_pos rfl] at q
    refine itT ⟨_, rfl, _, rfl, lg, ?_⟩
    have e : txI o.1 ++ (("" : String) : Str) = txI o.1 := str_ext (by rw [cs_app, show cs (("" : String) : Str) = [] by decide +kernel, List.append_nil])
    rw [e] at q
    exact q
  | false =>
    rw [hs, if_neg (by decide)] at q
    have e0 : Str.empty ++ txI o.1 = txI o.1 := str_ext (by rw [cs_app]; rfl)
    have l1 : (Str.empty ++ txI o.1).length ≤ sizeLine := by rw [e0]; omega
    refine itF ⟨_, rfl, _, rfl, lg, _, rfl, l1, _, rfl, ?_, ?_, ?_⟩
    · show (Str.empty ++ txI o.1 ++ (("+" : String) : Str)).length ≤ sizeLine
      rw [e0, strLen_append]
      have : (("+" : String) : Str).length = 1 := by decide +kernel
      omega
    · show (Str.empty ++ txI o.1 ++ (("+" : String) : Str)).length ≤ sizeLine
      rw [e0, strLen_append]
      have : (("+" : String) : Str).length = 1 := by decide +kernel
      omega
    · show Q (.str (Str.empty ++ txI o.1 ++ (("+" : String) : Str))) H
      rw [e0]
      exact q
abbrev sOsT : Stmt := top 24
theorem scOsT : FnScope ["outcomes"] ["outcomes"] (defScope sOsT) := ⟨rfl, rfl, rfl, by decide +kernel, rfl, by decide +kernel, by decide +kernel⟩
def spOsT (K : Frag) (CF CO : Addr) : Sp := fun vs H Q E => ∃ v, vs = [v] ∧ ((NoK K H v "list" ∧ ErrF CF "found" v H E) ∨ (∃ a xs bs i, v = .ref a ∧ H a = some (.lst xs) ∧ OtAll K H xs bs ∧ FirstB bs i ∧ ∀ H', Ext H H' → ErrF CO "place" (.int (i : Nat)) H' E) ∨
  ∃ a xs os, v = .ref a ∧ H a = some (.lst xs) ∧ RdsAll H xs (os.map oD2) ∧ OsOk os ∧ os.length ≤ 2000 ∧ ∀ H', Ext H H' → Q (.str (txtO os)) H')
theorem out_true {o : Int × Bool} (h0 : -99 ≤ o.1) (h1 : o.1 ≤ 99) : outD (oD2 o) = true := by
  show (inD (-99) 99 (.int o.1) && true) = true
  show ((decide ((-99 : Int) ≤ o.1) && decide (o.1 ≤ 99)) && true) = true
  rw [decide_eq_true h0, decide_eq_true h1]
  rfl
theorem otAll_of {H : Hp} {xs : List V} {os : List (Int × Bool)} (r : RdsAll H xs (os.map oD2)) (ok : OsOk os) : OtAll K H xs (os.map fun _ => true) := by
  have l := r.length
  rw [List.length_map] at l
  refine ⟨by rw [l, List.length_map], fun i x hx => ?_⟩
  obtain ⟨d, ed, rd⟩ := r.get hx
  rw [List.getElem?_map] at ed
  obtain ⟨o, eo, rfl⟩ := Option.map_eq_some_iff.mp ed
  have hm := ok o (List.mem_of_getElem? eo)
  exact ⟨true, by rw [List.getElem?_map, eo]; rfl, .inl ⟨_, rd, (out_true hm.1 hm.2).symm⟩⟩
theorem first_no {os : List (Int × Bool)} {i : Nat} (h : FirstB (os.map fun _ => true) i) : False := by
  have e := h.2
  rw [List.getElem?_map] at e
  cases z : os[i]? with
  | none => rw [z] at e; cases e
  | some o => rw [z] at e; cases e
abbrev scOsC : Scope := { kind := .function, names := [(".0", .local), ("outcome", .local), ("outcome_text", .globalImplicit)], isGenerator := false, isCoroutine := false }
theorem compOs {X : Cx} : CompG X scOsC [] ["outcome"] [] [] := by
  refine ⟨rfl, rfl, by decide +kernel, by decide +kernel, by decide +kernel, (fun z c h => nomatch h), (fun z h => ?_), by decide +kernel, (fun k z h => by simp at h), rfl⟩
  exfalso
  have h' : List.lookup z [((".0" : Str), NameKind.local), (("outcome" : Str), NameKind.local), (("outcome_text" : Str), NameKind.globalImplicit)] = some .cell ∨ List.lookup z [((".0" : Str), NameKind.local), (("outcome" : Str), NameKind.local), (("outcome_text" : Str), NameKind.globalImplicit)] = some .free := h
  simp only [List.lookup_cons, List.lookup_nil] at h'
  repeat' (split at h')
  all_goals simp at h'
theorem ndOs : ((["outcome"] : List Str) ++ ([] : List Str)).Nodup := by decide +kernel
theorem ok_ost {CF CO : Addr} (F : Fun K "outcomes_text" "outcomes_text" sOsT f fd) (A1 : Df P w K mg base (CXE P w) 5 "need_outcomes" ["thing"] (spNOs K CF CO) a1 d1) (A2 : Df P w K mg base CX0 1 "outcome_text" ["outcome"] spOT a2 d2) : FnOk P w K mg base (CXE P w) 6 f fd ["outcomes"] (spOsT K CF CO) := by
  refine okE F scOsT (fun vs H Q E h => ?_) (fun cdv A outer s H vs Q E hr h => ?_)
  · obtain ⟨_, rfl, _⟩ := h
    rfl
  obtain ⟨v, rfl, h⟩ := h
  have hr1 := hr.mono (show 1 ≤ 5 by decide)
  refine ⟨_, pss_cons (ps_expr (pe_call A1.G hr rfl A1.m A1.kp A1.b .nil passE (pa_cons (pv 0) pa_nil)))
    (pss_one (ps_ret (pe_bm PySem.F.plainAttrs_str PySem.F.slot_str_join PySem.F.type_str_join mt_join pe_str (pa_cons (pe_lcG (te := tCall spOT [] E0 (tCons (tVar 0) tNil)) (g := gName 0) rfl compOs (pi_list (pv 0)) (fun s H C fp => by exact pg_name (i := 0) ndOs rfl (.inl rfl)) (fun s H C fp => by exact pe_call A2.G hr1 rfl A2.m A2.kp A2.b .nil pass0 (pa_cons (pv 0) pa_nil))) pa_nil)))), ?_⟩
  rcases h with ⟨nk, q⟩ | ⟨a, xs, bs, i, rfl, ha, ot, fb, q⟩ | ⟨a, xs, os, rfl, ha, ra, ok, l2, q⟩
  · exact ⟨_, rfl, v, rfl, .inl ⟨nk, q⟩⟩
  · refine ⟨_, rfl, .ref a, rfl, .inr ⟨a, xs, bs, rfl, ha, ot, fun al => ?_, fun j fj H' x' => ?_⟩⟩
    · exfalso
      have := List.all_eq_true.mp al false (List.mem_of_getElem? fb.2)
      cases this
    · have e : j = i := by
        rcases Nat.lt_trichotomy j i with h | h | h
        · have := fb.1 j false h fj.2; cases this
        · exact h
        · have := fj.1 i false h fb.2; cases this
      rw [e]
      exact q H' x'
  · refine ⟨_, rfl, .ref a, rfl, .inr ⟨a, xs, _, rfl, ha, otAll_of ra ok, fun _ H1 x1 => ?_, fun j fj => (first_no fj).elim⟩⟩
    have lx := ra.length
    rw [List.length_map] at lx
    obtain ⟨j1, j2⟩ := txt_join ok l2
    refine ⟨(rfl : ("str" : String) = "str"), _, rfl, a, rfl, ⟨_, SqL.of (x1 _ _ ha)⟩, fun D hD => ?_⟩
    refine lcG_list (a := a) (xs := xs) (fun i ys H' => Ext H1 H' ∧ ys = ((os.take i).map wordT).map V.str) (by rw [sizeLine_eq]; omega) ⟨Ext.new hD, rfl⟩ (fun i ys H' pv => SqL.of (pv.1 _ _ (x1 _ _ ha))) ?_ ?_
    · rintro i x ys H' ex ly hDD ⟨x', ey⟩ oss los R k
      obtain ⟨o0, rfl⟩ : ∃ o0, oss = [o0] := by
        match oss, los with
        | [o0], _ => exact ⟨o0, rfl⟩
      obtain ⟨d, ed, rd⟩ := ra.get ex
      rw [List.getElem?_map] at ed
      obtain ⟨o, eo, rfl⟩ := Option.map_eq_some_iff.mp ed
      have hm := ok o (List.mem_of_getElem? eo)
      refine ⟨⟨[some x], rfl, rfl⟩, _, rfl, x, o, rfl, rd.mono (x1.trans x'), hm.1, hm.2, k _ H' hDD ⟨ext_upd _ x' hD, ?_⟩⟩
      rw [take_all eo, List.map_append, List.map_append, ← ey]
      rfl
    · rintro ys H' ly hDD ⟨x', ey⟩
      rw [lx, List.take_length] at ey
      rw [ey] at hDD
      refine ⟨_, D, os.map wordT, rfl, rfl, SqL.of hDD, j1, ?_⟩
      rw [j2]
      exact q H' (x1.trans x')
end
end My
set_option Elab.async false
set_option linter.all false
set_option maxRecDepth 100000
set_option maxHeartbeats 1000000
set_option exponentiation.threshold 10000
namespace My
open PySem PySem.W L2
def okO (r : Option Int × Bool) : Bool := r.1.isSome
def getO (r : Option Int × Bool) : Int × Bool := (r.1.getD 0, r.2)
def rowsO (z : Str) : List (Option Int × Bool) := if (cs z).isEmpty = true then [] else (Txt.split z ⟨#[32]⟩).map fun w => outI (cs w)
theorem join_mem (c : Nat) : ∀ {ps : List Str}, ∀ w ∈ ps, (cs w).length ≤ (cs (Str.join ⟨#[c]⟩ ps)).length
  | [], w, h => by cases h
  | [p], w, h => by
    rw [List.mem_singleton.mp h]
    exact Nat.le_refl _
  | p :: q :: r, w, h => by
    rw [cs_join1, List.length_append, List.length_cons]
    rcases List.mem_cons.mp h with rfl | h
    · omega
    · have := join_mem c (ps := q :: r) w h
      omega
theorem join_many (c : Nat) : ∀ (ps : List Str), ps.length ≤ (cs (Str.join ⟨#[c]⟩ ps)).length + 1
  | [] => Nat.zero_le _
  | [p] => by simp
  | p :: q :: r => by
    rw [cs_join1, List.length_append, List.length_cons]
    have := join_many c (q :: r)
    simp only [List.length_cons] at this ⊢
    omega
theorem split_mem {z : Str} {w : Str} (h : w ∈ Txt.split z ⟨#[32]⟩) : (cs w).length ≤ (cs z).length := by
  have e := StrLaws.join_split z ⟨#[32]⟩
  have := join_mem 32 w h
  rwa [e] at this
theorem split_many (z : Str) : (Txt.split z ⟨#[32]⟩).length ≤ (cs z).length + 1 := by
  have e := StrLaws.join_split z ⟨#[32]⟩
  have := join_many 32 (Txt.split z ⟨#[32]⟩)
  rwa [e] at this
theorem rows_many (z : Str) : (rowsO z).length ≤ (cs z).length + 1 := by
  unfold rowsO
  split
  · exact Nat.zero_le _
  · rw [List.length_map]; exact split_many z
theorem who_bnd {L : List Nat} {n : Int} (h : whoI L = some n) : -99 ≤ n ∧ n ≤ 99 := by
  unfold whoI at h
  cases e : numI L with
  | none => rw [e] at h; cases h
  | some m =>
    rw [e] at h
    have h' : (if -99 ≤ m ∧ m ≤ 99 then some m else none) = some n := h
    by_cases c : -99 ≤ m ∧ m ≤ 99
    · rw [if_pos c] at h'; cases h'; exact c
    · rw [if_neg c] at h'; cases h'
theorem out_bnd {L : List Nat} {n : Int} (h : (outI L).1 = some n) : -99 ≤ n ∧ n ≤ 99 := by
  unfold outI at h
  split at h
  · exact who_bnd h
  · exact who_bnd h
theorem rows_bnd {z : Str} {r : Option Int × Bool} (hr : r ∈ rowsO z) {n : Int} (h : r.1 = some n) : -99 ≤ n ∧ n ≤ 99 := by
  unfold rowsO at hr
  split at hr
  · cases hr
  · obtain ⟨w, _, rfl⟩ := List.mem_map.mp hr
    exact out_bnd h
theorem woD_same {H : Hp} {p : Addr} {o : HO} : wo (upd H p o) p = wo H p := by
  funext b
  unfold wo
  by_cases e : b = p
  · rw [if_pos e, if_pos e]
  · rw [if_neg e, if_neg e, upd_ne e]
theorem Ext.back {H H' : Hp} {l : Addr} (x : Ext H H') (h : H' l = none) : H l = none := by
  cases e : H l with
  | none => rfl
  | some o => rw [x _ _ e] at h; cases h
section
variable {P : Program} {w : World} {K : Frag} {mg : Str → Option Value} {base : Heap} {f a1 a2 : Addr} {fd d1 d2 : FuncData}
abbrev sOsI : Stmt := top 26
abbrev NOsI : List Str := ["text", "outcomes", "place", "outcome"]
theorem scOsI : FnScope NOsI ["text"] (defScope sOsI) := ⟨rfl, rfl, rfl, by decide +kernel, rfl, by decide +kernel, by decide +kernel⟩
def spOsI (K : Frag) (CT CO : Addr) : Sp := fun vs H Q E => ∃ v, vs = [v] ∧ ((NoK K H v "str" ∧ ErrF CT "found" v H E) ∨ ∃ z : Str, v = .str z ∧ z.length ≤ 10000 ∧
  (∀ i, FirstB ((rowsO z).map okO) i → ∀ H', Ext H H' → ErrF CO "place" (.int (i : Nat)) H' E) ∧
  (((rowsO z).map okO).all id = true → ∀ l xs H', Ext H H' → H l = none → H' l = some (.lst xs) → RdsAll H' xs (((rowsO z).map getO).map oD2) → Q (.ref l) H'))
abbrev scOiC : Scope := { kind := .function, names := [(".0", .local), ("word", .local), ("outcome_in", .globalImplicit)], isGenerator := false, isCoroutine := false }
theorem compOi {X : Cx} : CompG X scOiC [] ["word"] [] [] := by
  refine ⟨rfl, rfl, by decide +kernel, by decide +kernel, by decide +kernel, (fun z c h => nomatch h), (fun z h => ?_), by decide +kernel, (fun k z h => by simp at h), rfl⟩
  exfalso
  have h' : List.lookup z [((".0" : Str), NameKind.local), (("word" : Str), NameKind.local), (("outcome_in" : Str), NameKind.globalImplicit)] = some .cell ∨ List.lookup z [((".0" : Str), NameKind.local), (("word" : Str), NameKind.local), (("outcome_in" : Str), NameKind.globalImplicit)] = some .free := h
  simp only [List.lookup_cons, List.lookup_nil] at h'
  repeat' (split at h')
  all_goals simp at h'
theorem ndOi : ((["word"] : List Str) ++ ([] : List Str)).Nodup := by decide +kernel
def oDO (r : Option Int × Bool) : PyData := .tuple [match r.1 with | none => .none | some n => .int n, .bool r.2]
theorem oVI_rd (H : Hp) (o : Option Int) : Rds H (oVI o) (match o with | none => .none | some n => .int n) := by
  cases o with
  | none => exact .non
  | some n => exact .int n
theorem oDO_ot {H : Hp} {v : V} {r : Option Int × Bool} (b : ∀ n, r.1 = some n → -99 ≤ n ∧ n ≤ 99) (h : Rds H v (oDO r)) : Ot K H v (okO r) := by
  refine .inl ⟨_, h, ?_⟩
  obtain ⟨o, s⟩ := r
  cases o with
  | none => rfl
  | some n =>
    have := b n rfl
    exact (out_true (o := (n, s)) this.1 this.2).symm
theorem oDO_get {r : Option Int × Bool} (h : okO r = true) : oDO r = oD2 (getO r) := by
  obtain ⟨o, s⟩ := r
  cases o with
  | none => cases h
  | some n => rfl
theorem ok_osi {D CT fC CO : Addr} {fdC : FuncData} (N : IsT K) (F : Fun K "outcomes_in" "outcomes_in" sOsI f fd) (B : BaseC K D) (T : OneF K mg D "NoText" "found" CT fC fdC) (A1 : Df P w K mg base (CXE P w) 4 "need_outcome" ["thing", "place"] (spNO K CO) a1 d1) (A2 : Df P w K mg base CX0 4 "outcome_in" ["word"] spOI a2 d2)
    (mi : mg "isinstance" = none) (ms : mg "str" = none) (me : mg "enumerate" = none) : FnOk P w K mg base (CXE P w) 5 f fd ["text"] (spOsI K CT CO) := by
  refine okE F scOsI (fun vs H Q E h => ?_) (fun cdv A outer s H vs Q E hr h => ?_)
  · obtain ⟨v, rfl, _⟩ := h
    rfl
  obtain ⟨v, rfl, h⟩ := h
  have nd := scOsI.nd
  have hr2 := hr.mono (show 2 ≤ 4 by decide)
  refine ⟨_, pss_cons (ps_if (pt_not (pt_val (pe_callB (call_isK N) rfl mi PyProof.Rows.boot_isinstance (pa_cons (pv 0) (pa_cons (pe_ty rfl ms PyProof.Rows.boot_str) pa_nil))))) (pss_one (ps_raise B T.cls (T.ok P w base) hr2 T.bi rfl T.mgC (pv 0))) pss_nil)
    (pss_cons (ps_if (pt_cmpR op_eq (pv 0) pe_str (nomark _)) (pss_one (ps_ret (pe_lst pa_nil))) pss_nil)
    (pss_cons (ps_lcG (iy := 1) (te := tCall spOI [] E0 (tCons (tVar 0) tNil)) (g := gName 0) rfl compOi (pi_list (pe_bm PySem.F.plainAttrs_str PySem.F.slot_str_split PySem.F.type_str_split mt_split (pv 0) (pa_cons pe_str pa_nil))) (fun s H C fp => by exact pg_name (i := 0) ndOi rfl (.inl rfl)) (fun s H C fp => by exact pe_call A2.G hr rfl A2.m A2.kp A2.b .nil pass0 (pa_cons (pv 0) pa_nil)) nd rfl (Or.inl rfl) rfl)
    (pss_cons (ps_for PassesOwn.leaving rfl (pi_enum rfl me (pa_cons (pv 1) pa_nil)) (pg_tup rfl (pgs_cons (pg_name (i := 2) nd rfl (Or.inl rfl)) (pgs_cons (pg_name (i := 3) nd rfl (Or.inl rfl)) pgs_nil)))
      (pss_one (ps_expr (pe_call A1.G hr rfl A1.m A1.kp A1.b .nil passE (pa_cons (pv 3) (pa_cons (pv 2) pa_nil))))))
    (pss_one (ps_ret (pv 1)))))), ?_⟩
  rcases h with ⟨⟨t, kd, kt⟩, q1⟩ | ⟨z, rfl, hz, qe, qn⟩
  · exact ⟨_, rfl, _, _, _, _, rfl, kd, kt, _, rfl, itT ⟨_, rfl, fun e' dx h1 h2 nd => qR_of nd (q1 e' dx h1 h2 nd)⟩⟩
  refine ⟨_, rfl, _, _, _, _, rfl, .inl (.str z), rfl, _, rfl, itF ⟨_, rfl, rfl, _, rfl, ?_⟩⟩
  rw [isNil]
  cases hn : (cs z).isEmpty with
  | true =>
    have er : rowsO z = [] := by unfold rowsO; rw [hn]; rfl
    rw [er] at qn
    refine itT ⟨by show 0 ≤ sizeLine; decide, fun l hl => qn rfl l [] _ (Ext.new hl) hl upd_same .nil⟩
  | false =>
    have er : rowsO z = (Txt.split z ⟨#[32]⟩).map fun w => outI (cs w) := by unfold rowsO; rw [hn]; rfl
    have many := split_many z
    have hzl := len_cs z
    have zs : z.length + 2 ≤ sizeLine := by rw [sizeLine_eq]; omega
    refine itF ⟨_, rfl, (rfl : ("str" : String) = "str"), z, ⟨#[32]⟩, rfl, by rw [bl32], rfl, by omega, parts_len _ _ zs, fun l1 hl1 => ?_⟩
    have x1 := Ext.new (o := .lst ((Txt.split z ⟨#[32]⟩).map V.str)) hl1
    have g1 : upd H l1 (.lst ((Txt.split z ⟨#[32]⟩).map V.str)) l1 = some (.lst ((Txt.split z ⟨#[32]⟩).map V.str)) := upd_same
    generalize upd H l1 (.lst ((Txt.split z ⟨#[32]⟩).map V.str)) = H1 at x1 g1 ⊢
    have bn : ∀ r ∈ rowsO z, ∀ n, r.1 = some n → -99 ≤ n ∧ n ≤ 99 := fun r hr n e => rows_bnd hr e
    rw [er] at qe qn bn
    have ml : ∀ w ∈ Txt.split z ⟨#[32]⟩, w.length ≤ sizeLine := fun w hw => by
      have a := split_mem hw
      rw [len_cs w, sizeLine_eq]
      omega
    generalize Txt.split z ⟨#[32]⟩ = ws at g1 qe qn bn many ml ⊢
    refine ⟨l1, rfl, ⟨_, SqL.of g1⟩, fun D hD => ?_⟩
    refine lcG_list (a := l1) (xs := ws.map V.str) (fun i ys H' => Ext H1 H' ∧ RdsAll (wo H' D) ys (((ws.take i).map fun w => outI (cs w)).map oDO)) (by rw [List.length_map, sizeLine_eq]; omega) ⟨Ext.new hD, .nil⟩ (fun i ys H' pv => SqL.of (pv.1 _ _ g1)) ?_ ?_
    · rintro i x ys H' ex ly hDD ⟨x', ra⟩ oss los R k
      obtain ⟨o0, rfl⟩ : ∃ o0, oss = [o0] := by
        match oss, los with
        | [o0], _ => exact ⟨o0, rfl⟩
      rw [List.getElem?_map] at ex
      obtain ⟨wd, ew, rfl⟩ := Option.map_eq_some_iff.mp ex
      refine ⟨⟨[some (.str wd)], rfl, rfl⟩, _, rfl, wd, rfl, ml wd (List.mem_of_getElem? ew), fun p hp => ?_⟩
      have x2 := Ext.new (o := .tup [oVI (outI (cs wd)).1, .bl (outI (cs wd)).2]) hp
      have g2 : upd H' p (.tup [oVI (outI (cs wd)).1, .bl (outI (cs wd)).2]) p = some (.tup [oVI (outI (cs wd)).1, .bl (outI (cs wd)).2]) := upd_same
      have np : p ≠ D := fun e => by rw [e, hDD] at hp; cases hp
      generalize upd H' p (.tup [oVI (outI (cs wd)).1, .bl (outI (cs wd)).2]) = H2 at x2 g2 ⊢
      refine k _ H2 (x2 _ _ hDD) ⟨ext_upd _ (x'.trans x2) hD, ?_⟩
      rw [woD_same, take_all ew, List.map_append, List.map_append]
      refine RdsAll.append (ra.mono (wo_ex x2 D)) (.cons ?_ .nil)
      exact .tup (wo_at np g2) (.cons (oVI_rd _ _) (.cons (.bl _) .nil))
    · rintro ys H' ly hDD ⟨x', ra⟩
      rw [List.length_map, List.take_length] at ra
      have x0 := x1.trans x'
      have lr := ra.length
      rw [List.length_map, List.length_map] at lr
      have raH := ra.mono (wo_ext H' D)
      refine ⟨_, rfl, D, rfl, ⟨_, SqL.of hDD⟩, for_enum (xs := ys) (fun i σ H2 => Ext H' H2 ∧ (∀ (j : Nat) b, j < i → ((ws.map fun w => outI (cs w)).map okO)[j]? = some b → b = true) ∧ ∃ o2 o3, σ = [some (.str z), some (.ref D), o2, o3]) ⟨Ext.refl _, fun j d h => absurd h (Nat.not_lt_zero _), _, _, rfl⟩ ?_ ?_ ?_⟩
      · rintro i σ H2 _ ⟨x2, _⟩
        exact SqL.of (x2 _ _ hDD)
      · rintro i v σ H2 k ev ⟨x2, good, o1, o2, rfl⟩ hk
        have xk := Ext.new (o := .tup [.int (i : Nat), v]) hk
        obtain ⟨dd, ed, rv⟩ := raH.get ev
        rw [List.getElem?_map] at ed
        obtain ⟨r, er', rfl⟩ := Option.map_eq_some_iff.mp ed
        refine ⟨k, _, rfl, SqT.of upd_same, rfl, _, _, rfl, _, _, rfl, rfl, ?_⟩
        refine ⟨_, rfl, _, rfl, v, okO r, i, rfl, oDO_ot (bn r (List.mem_of_getElem? er')) (rv.mono (x2.trans xk)), fun o => ?_, fun o => ?_⟩
        · refine ⟨x2.trans xk, fun j d' hj hd => ?_, _, _, rfl⟩
          rcases Nat.lt_or_ge j i with lt | ge
          · exact good j d' lt hd
          · have e0 : j = i := by omega
            subst e0
            rw [List.getElem?_map, er'] at hd
            cases hd
            exact o
        · exact qe i ⟨good, by rw [List.getElem?_map, er', Option.map_some, o]⟩ _ (x0.trans (x2.trans xk))
      · rintro σ H2 ⟨x2, good, o1, o2, rfl⟩
        have al : ((ws.map fun w => outI (cs w)).map okO).all id = true := by
          rw [List.all_eq_true]
          intro d hd
          obtain ⟨j, hj, e⟩ := List.getElem_of_mem hd
          exact good j d (by rw [List.length_map, List.length_map] at hj; omega) (by rw [List.getElem?_eq_getElem hj, e])
        refine ⟨_, rfl, qn al D ys H2 (x0.trans x2) (x1.back hD) (x2 _ _ hDD) ?_⟩
        have e : ((ws.map fun w => outI (cs w)).map getO).map oD2 = (ws.map fun w => outI (cs w)).map oDO := by
          rw [List.map_map]
          refine List.map_congr_left fun r hr => ?_
          have h1 := List.all_eq_true.mp al (okO r) (List.mem_map.mpr ⟨r, hr, rfl⟩)
          exact (oDO_get h1).symm
        rw [e]
        exact raH.mono x2
end
end My
set_option Elab.async false
set_option linter.all false
set_option maxRecDepth 100000
set_option maxHeartbeats 1000000
namespace My
open PySem PySem.W L2
section
variable {K : Frag} {te : TE} {tt : TT} {g : TG} {k : Nat} {cap : St} {D : Addr} {H1 : Hp} {Q : Hp → Prop} {a : Addr} {xs : List V}
end
theorem keptUpd {H : Hp} {p : Addr} (o : HO) : Kept H (upd H p o) p := fun b u h n => by rw [upd_ne n]; exact h
def dataO : HO → Bool
  | .lst _ => true
  | .tup _ => true
  | .dK _ => true
  | _ => false
mutual
theorem Rds.keep {G G' : Hp} (s : ∀ b o, G b = some o → dataO o = true → G' b = some o) : ∀ {v : V} {d : PyData}, Rds G v d → Rds G' v d
  | _, _, .non => .non
  | _, _, .bl b => .bl b
  | _, _, .int i => .int i
  | _, _, .str x => .str x
  | _, _, .lst e r => .lst (s _ _ e rfl) (RdsAll.keep s r)
  | _, _, .tup e r => .tup (s _ _ e rfl) (RdsAll.keep s r)
  | _, _, .dic0 e => .dic0 (s _ _ e rfl)
  | _, _, .dic e r => .dic (s _ _ e rfl) (Rds.keep s r)
theorem RdsAll.keep {G G' : Hp} (s : ∀ b o, G b = some o → dataO o = true → G' b = some o) : ∀ {vs : List V} {ds : List PyData}, RdsAll G vs ds → RdsAll G' vs ds
  | _, _, .nil => .nil
  | _, _, .cons r t => .cons (Rds.keep s r) (RdsAll.keep s t)
end
section
variable {C : Nat → Addr} {H H' : Hp}
end
section
variable {K : Frag} {C : Nat → Addr} {CR : Addr} {H : Hp}
end
end My
set_option Elab.async false
set_option linter.all false
set_option maxRecDepth 100000
set_option maxHeartbeats 1000000
namespace My
open PySem PySem.W L2
section
variable {X : Cx}
end
section
variable {X : Cx} {pins : List (Addr × Obj)} {σ : St} {H : Hp} {s : Shared} {A : Around} {Q : Value → Shared → Prop} {E : Value → Shared → Prop} {b : Bool} {tp : Addr} {dd : Option Addr} {its : List Value} {n : Nat} {sl : Array (Option Value)}
end
section
variable {X : Cx}
end
end My
set_option Elab.async false
set_option linter.all false
set_option maxRecDepth 100000
set_option maxHeartbeats 1000000
namespace My
open PySem PySem.W L2
def KpT (H H' : Hp) : Prop := ∀ b o, H b = some o → (∀ xs, o ≠ .lst xs) → H' b = some o
mutual
def noLst : PyData → Bool
  | .list _ => false
  | .dict _ => false
  | .tuple xs => noLsts xs
  | _ => true
def noLsts : List PyData → Bool
  | [] => true
  | x :: xs => noLst x && noLsts xs
end
mutual
theorem Rds.keepT {G G' : Hp} (s : KpT G G') : ∀ {v : V} {d : PyData}, noLst d = true → Rds G v d → Rds G' v d
  | _, _, _, .non => .non
  | _, _, _, .bl b => .bl b
  | _, _, _, .int i => .int i
  | _, _, _, .str x => .str x
  | _, _, h, .lst e r => by simp [noLst] at h
  | _, _, h, .tup e r => .tup (s _ _ e (fun _ z => by cases z)) (RdsAll.keepT s (by simpa only [noLst] using h) r)
  | _, _, h, .dic0 e => by simp [noLst] at h
  | _, _, h, .dic e r => by simp [noLst] at h
theorem RdsAll.keepT {G G' : Hp} (s : KpT G G') : ∀ {vs : List V} {ds : List PyData}, noLsts ds = true → RdsAll G vs ds → RdsAll G' vs ds
  | _, _, _, .nil => .nil
  | _, _, h, .cons r t => by
    simp only [noLsts, Bool.and_eq_true] at h
    exact .cons (Rds.keepT s h.1 r) (RdsAll.keepT s h.2 t)
end
section
variable {C : Nat → Addr} {H H' : Hp}
end
end My
set_option Elab.async false
set_option linter.all false
set_option maxRecDepth 100000
set_option maxHeartbeats 1000000
namespace My
open PySem PySem.W L2
def pick (xs : List V) (bs : List Bool) : List V := ((xs.zip bs).filter (·.2)).map (·.1)
theorem pick_succ {xs : List V} {bs : List Bool} {i : Nat} {x : V} {b : Bool} (l : bs.length = xs.length) (hx : xs[i]? = some x) (hb : bs[i]? = some b) : pick (xs.take (i + 1)) (bs.take (i + 1)) = pick (xs.take i) (bs.take i) ++ (if b then [x] else []) := by
  unfold pick
  rw [take_all hx, take_all hb, List.zip_append (by rw [List.length_take, List.length_take, l]), List.filter_append, List.map_append]
  cases b <;> rfl
theorem pick_len (xs : List V) (bs : List Bool) : (pick xs bs).length ≤ xs.length := by
  unfold pick
  rw [List.length_map]
  refine Nat.le_trans (List.length_filter_le _ _) ?_
  rw [List.length_zip]
  exact Nat.min_le_left _ _
theorem lcJ {J : It} {tt : TT} {cap : St} {D : Addr} {H1 : Hp} {Q : Hp → Prop} {xs : List V} (bs : List Bool) (lb : bs.length = xs.length) (hz : xs.length < sizeLine) (hD : H1 D = none) (go : ∀ i H, Ext H1 H → i < xs.length → J.go i H) (st : ∀ H, Ext H1 H → J.stop xs.length H) (yl : ∀ i H x H', Ext H1 H → J.yld i H x H' → H' = H ∧ xs[i]? = some x)
    (hs : ∀ (i : Nat) x b H, xs[i]? = some x → bs[i]? = some b → Ext H1 H → ∀ R : Bool → Hp → Prop, (∀ H', Ext H H' → R b H') → tt (some x :: cap) H R) (hd : ∀ H, Ext H1 H → H D = some (.lst (pick xs bs)) → Q H) :
    ∃ W : Nat → Nat → List V → Hp → Prop, (∃ m, W 0 m [] (upd H1 D (.lst []))) ∧
      ∀ i m ys H2, W i m ys H2 → H2 D = some (.lst ys) ∧ ((J.stop i H2 ∧ Q H2) ∨ (J.go i H2 ∧ ys.length < sizeLine ∧
        ∀ x H3, J.yld i H2 x H3 → ∀ os : St, os.length = 1 → gName 0 x (os ++ cap) H3 fun σ2 H0 => (∃ os' : St, os'.length = 1 ∧ σ2 = os' ++ cap) ∧ tt σ2 H0 fun b H5 => (b = false → ∃ m', m' < m ∧ W (i + 1) m' ys H5) ∧
          (b = true → tVar 0 σ2 H5 fun y H4 => H4 D = some (.lst ys) ∧ ∃ m', m' < m ∧ W (i + 1) m' (ys ++ [y]) (upd H4 D (.lst (ys ++ [y])))))) := by
  refine ⟨fun i m ys H => m = xs.length - i ∧ i ≤ xs.length ∧ H D = some (.lst ys) ∧ ys = pick (xs.take i) (bs.take i) ∧ Ext H1 H, ⟨xs.length, by simp, Nat.zero_le _, upd_same, rfl, Ext.new hD⟩, ?_⟩
  rintro i m ys H ⟨rfl, hi, hD', rfl, x1⟩
  refine ⟨hD', ?_⟩
  by_cases hlt : i < xs.length
  · refine .inr ⟨go i H x1 hlt, ?_, fun x H' hyl os los => ?_⟩
    · have := pick_len (xs.take i) (bs.take i)
      rw [List.length_take] at this
      omega
    obtain ⟨rfl, hx⟩ := yl i H x H' x1 hyl
    obtain ⟨o0, rfl⟩ : ∃ o0, os = [o0] := by
      match os, los with
      | [o0], _ => exact ⟨o0, rfl⟩
    have hb := List.getElem?_eq_getElem (show i < bs.length by omega)
    have ps := pick_succ lb hx hb
    refine ⟨⟨[some x], rfl, rfl⟩, hs i x _ H' hx hb x1 _ fun H5 x5 => ⟨fun e => ?_, fun e => ?_⟩⟩
    · refine ⟨xs.length - (i + 1), by omega, rfl, hlt, x5 _ _ hD', ?_, x1.trans x5⟩
      rw [ps, e]; simp
    · refine ⟨x, rfl, x5 _ _ hD', xs.length - (i + 1), by omega, rfl, hlt, upd_same, ?_, ext_upd _ (x1.trans x5) hD⟩
      rw [ps, e]; simp
  · have e : i = xs.length := by omega
    subst e
    refine .inl ⟨st H x1, hd H x1 ?_⟩
    rw [List.take_length, ← lb, List.take_length] at hD'
    exact hD'
section
variable {X : Cx}
end
end My
set_option Elab.async false
set_option linter.all false
set_option maxRecDepth 100000
set_option maxHeartbeats 1000000
set_option exponentiation.threshold 10000
namespace My
open PySem PySem.W L2
def figL (L : List Nat) : List Nat := if (L.head? == some 45) = true then L.tail else L
def badF (F : List Nat) : Bool := !(decide (1 ≤ F.length) && decide (F.length ≤ 2)) || !(F.all fig)
def lawN (L : List Nat) : Option Int := if badF (figL L) = true then none else if ((figL L).head? == some 48 && L != [48]) = true then none else some (if (L.head? == some 45) = true then -((val (figL L) : Nat) : Int) else ((val (figL L) : Nat) : Int))
theorem fold_ge (R : List Nat) : ∀ a, a ≤ R.foldl (fun acc c => acc * 10 + (c - 48)) a := by
  induction R with
  | nil => intro a; exact Nat.le_refl _
  | cons c R ih =>
    intro a
    have := ih (a * 10 + (c - 48))
    rw [List.foldl_cons]
    omega
theorem val_three {a b c : Nat} {R : List Nat} (h : 49 ≤ a) : 100 ≤ val (a :: b :: c :: R) := by
  show 100 ≤ List.foldl (fun acc c => acc * 10 + (c - 48)) 0 (a :: b :: c :: R)
  rw [List.foldl_cons, List.foldl_cons, List.foldl_cons]
  refine Nat.le_trans ?_ (fold_ge R _)
  omega
theorem val_one (a : Nat) : val [a] = a - 48 := by show 0 * 10 + (a - 48) = _; omega
theorem val_two (a b : Nat) : val [a, b] = (a - 48) * 10 + (b - 48) := by show (0 * 10 + (a - 48)) * 10 + (b - 48) = _; omega
theorem figs_cases (F : List Nat) : (figs F = true ∧ badF F = false ∧ val F ≤ 99 ∧ (F.head? = some 48 → F = [48]) ∧ (F ≠ [48] → 1 ≤ val F)) ∨ (figs F = true ∧ badF F = true ∧ 100 ≤ val F) ∨ (figs F = false ∧ (badF F = true ∨ (F.head? = some 48 ∧ F ≠ [48]))) := by
  match F with
  | [] => right; right; exact ⟨rfl, .inl rfl⟩
  | [a] =>
    cases h : fig a with
    | false => right; right; exact ⟨by simp [figs, h], .inl (by simp [badF, h])⟩
    | true =>
      left
      have h' := fig_iff.mp h
      refine ⟨by simp [figs, h]; omega, by simp [badF, h], by rw [val_one]; omega, fun e => ?_, fun n => ?_⟩
      · simpa using e
      · rw [val_one]
        have : a ≠ 48 := fun e => n (by rw [e])
        omega
  | [a, b] =>
    cases h : fig a with
    | false => right; right; exact ⟨by simp [figs, h], .inl (by simp [badF, h])⟩
    | true =>
      cases h2 : fig b with
      | false => right; right; exact ⟨by simp [figs, h2], .inl (by simp [badF, h2])⟩
      | true =>
        have h' := fig_iff.mp h
        have h2' := fig_iff.mp h2
        by_cases e : a = 48
        · right; right
          exact ⟨by simp [figs, e], .inr ⟨by simp [e], by simp⟩⟩
        · left
          refine ⟨by simp [figs, h, h2, e], by simp [badF, h, h2], by rw [val_two]; omega, fun z => ?_, fun _ => by rw [val_two]; omega⟩
          exact absurd (by simpa using z) e
  | a :: b :: c :: R =>
    have bad : badF (a :: b :: c :: R) = true := by
      unfold badF
      have : decide ((a :: b :: c :: R).length ≤ 2) = false := by simp
      rw [this]; simp
    cases h : figs (a :: b :: c :: R) with
    | false => right; right; exact ⟨rfl, .inl bad⟩
    | true =>
      right; left
      refine ⟨rfl, bad, val_three ?_⟩
      have al := figs_all h
      have fa : fig a = true := by
        rw [List.all_cons, Bool.and_eq_true] at al
        exact al.1
      have h' := fig_iff.mp fa
      by_cases e : a = 48
      · exfalso
        rw [e] at h
        simp [figs] at h
      · omega
theorem lawN_eq (L : List Nat) : lawN L = whoI L := by
  unfold lawN whoI numI figL
  by_cases hd : (L.head? == some 45) = true
  · rw [if_pos hd, if_pos hd, if_pos hd]
    have n48 : (L != [48]) = true := by
      rw [bne_iff_ne]
      intro e
      rw [e] at hd
      exact absurd hd (by decide)
    rw [n48, Bool.and_true]
    generalize L.tail = F
    rcases figs_cases F with ⟨h1, h2, h3, h4, h5⟩ | ⟨h1, h2, h3⟩ | ⟨h1, h2⟩
    · have eo : oN F = some (val F) := by unfold oN; rw [h1]; rfl
      rw [h2, if_neg (by decide), eo]
      by_cases z : F = [48]
      · subst z; rfl
      · have v1 := h5 z
        have nh : ¬ ((F.head? == some 48) = true) := fun e => z (h4 (beq_iff_eq.mp e))
        rw [if_neg nh]
        obtain ⟨m, em⟩ : ∃ m, val F = m + 1 := ⟨val F - 1, by omega⟩
        rw [em] at h3 ⊢
        show _ = (if -99 ≤ -((m + 1 : Nat) : Int) ∧ -((m + 1 : Nat) : Int) ≤ 99 then some (-((m + 1 : Nat) : Int)) else none)
        rw [if_pos ⟨by omega, by omega⟩]
    · have eo : oN F = some (val F) := by unfold oN; rw [h1]; rfl
      rw [h2, if_pos rfl, eo]
      obtain ⟨m, em⟩ : ∃ m, val F = m + 1 := ⟨val F - 1, by omega⟩
      rw [em] at h3 ⊢
      show _ = (if -99 ≤ -((m + 1 : Nat) : Int) ∧ -((m + 1 : Nat) : Int) ≤ 99 then some (-((m + 1 : Nat) : Int)) else none)
      rw [if_neg (by omega)]
    · have eo : oN F = none := by unfold oN; rw [h1]; rfl
      rw [eo]
      show _ = none
      rcases h2 with h2 | ⟨h2, _⟩
      · rw [h2, if_pos rfl]
      · rw [h2]
        split
        · rfl
        · rw [if_pos (by simp)]
  · rw [if_neg hd, if_neg hd, if_neg hd]
    rcases figs_cases L with ⟨h1, h2, h3, h4, h5⟩ | ⟨h1, h2, h3⟩ | ⟨h1, h2⟩
    · have eo : oN L = some (val L) := by unfold oN; rw [h1]; rfl
      rw [h2, if_neg (by decide), eo]
      have nh : ¬ ((L.head? == some 48 && L != [48]) = true) := fun e => by
        rw [Bool.and_eq_true, beq_iff_eq, bne_iff_ne] at e
        exact e.2 (h4 e.1)
      rw [if_neg nh]
      show _ = (if -99 ≤ ((val L : Nat) : Int) ∧ ((val L : Nat) : Int) ≤ 99 then some ((val L : Nat) : Int) else none)
      rw [if_pos ⟨by omega, by omega⟩]
    · have eo : oN L = some (val L) := by unfold oN; rw [h1]; rfl
      rw [h2, if_pos rfl, eo]
      show _ = (if -99 ≤ ((val L : Nat) : Int) ∧ ((val L : Nat) : Int) ≤ 99 then some ((val L : Nat) : Int) else none)
      rw [if_neg (by omega)]
    · have eo : oN L = none := by unfold oN; rw [h1]; rfl
      rw [eo]
      show _ = none
      rcases h2 with h2 | ⟨h2, h3⟩
      · rw [h2, if_pos rfl]
      · split
        · rfl
        · rw [if_pos (by rw [Bool.and_eq_true, beq_iff_eq, bne_iff_ne]; exact ⟨h2, h3⟩)]
theorem fig_occ (c : Nat) : (fig c = true → ∃ rest, Builtin.Str.occurrences FIG ⟨#[c]⟩ 0 FIG.length 1 = (c - 48) :: rest) ∧ (fig c = false → Builtin.Str.occurrences FIG ⟨#[c]⟩ 0 FIG.length 1 = []) := by
  have h := fig_find c
  unfold Txt.find at h
  cases e : Builtin.Str.occurrences FIG ⟨#[c]⟩ 0 FIG.length 1 with
  | nil =>
    rw [e] at h
    have h' : (-1 : Int) = if fig c = true then ((c - 48 : Nat) : Int) else -1 := h
    refine ⟨fun z => ?_, fun _ => rfl⟩
    rw [if_pos z] at h'
    omega
  | cons i r =>
    rw [e] at h
    have h' : ((i : Nat) : Int) = if fig c = true then ((c - 48 : Nat) : Int) else -1 := h
    refine ⟨fun z => ?_, fun z => ?_⟩
    · rw [if_pos z] at h'
      have : i = c - 48 := by omega
      rw [this]
      exact ⟨r, rfl⟩
    · rw [if_neg (by rw [z]; decide)] at h'
      omega
def rIdxF : V → List V → Hp → VK → Prop := fun x xs H Q => ∃ c, x = .str FIG ∧ xs = [.str ⟨#[c]⟩] ∧ fig c = true ∧ Q (.int ((c - 48 : Nat) : Int)) H
theorem mt_idxF {X : Cx} : MtR X "str.index" rIdxF := by
  intro pins s σ H x xs v us Q I rx rs h
  obtain ⟨c, rfl, rfl, hc, q⟩ := h
  obtain ⟨t, rfl⟩ := rx
  obtain ⟨u, rfl, t', rfl⟩ := vals1 rs
  obtain ⟨rest, ho⟩ := (fig_occ c).1 hc
  exact call_gives PySem.F.slot_str_index (typeIs_str _ _ _) PySem.F.entry_str_index (PySem.F.args_str_index_2 _ _) (gives_str_index FIG ⟨#[c]⟩ t t' (c - 48) rest ho) ⟨.int _, H, I.tok _, ⟨_, rfl⟩, q⟩
end My
set_option Elab.async false
set_option linter.all false
set_option maxRecDepth 100000
set_option maxHeartbeats 1000000
set_option exponentiation.threshold 10000
namespace My
open PySem PySem.W L2
section
variable {P : Program} {w : World} {K : Frag} {mg : Str → Option Value} {base : Heap} {f a1 a2 : Addr} {fd d1 d2 : FuncData}
abbrev sLN : Stmt := top 45
abbrev NLN : List Str := ["_law_word", "_law_figures", "_law_number_here", "_law_sign"]
theorem scLN : FnScope NLN ["_law_word"] (defScope sLN) := ⟨rfl, rfl, rfl, by decide +kernel, rfl, by decide +kernel, by decide +kernel⟩
def spLN : Sp := fun vs H Q _ => ∃ z : Str, vs = [.str z] ∧ z.length ≤ 10000 ∧ ∀ H', Ext H H' → Q (oVI (whoI (cs z))) H'
abbrev scLNC : Scope := { kind := .function, names := [(".0", .local), ("_law_sign", .local)], isGenerator := false, isCoroutine := false }
theorem compLN {X : Cx} : CompG X scLNC [] ["_law_sign"] [] [] := by
  refine ⟨rfl, rfl, by decide +kernel, by decide +kernel, by decide +kernel, (fun z c h => nomatch h), (fun z h => ?_), by decide +kernel, (fun k z h => by simp at h), rfl⟩
  exfalso
  have h' : List.lookup z [((".0" : Str), NameKind.local), (("_law_sign" : Str), NameKind.local)] = some .cell ∨ List.lookup z [((".0" : Str), NameKind.local), (("_law_sign" : Str), NameKind.local)] = some .free := h
  simp only [List.lookup_cons, List.lookup_nil] at h'
  repeat' (split at h')
  all_goals simp at h'
theorem ndLN : ((["_law_sign"] : List Str) ++ ([] : List Str)).Nodup := by decide +kernel
def rNotS : R2 := fun x y H Q => ∃ i j, x = .str i ∧ y = .str j ∧ Q (.bl (!(!(Builtin.Str.occurrences j i 0 j.length 1).isEmpty))) H
def tHd1 : TE := tSl rSlS (tVar 0) tNoPart (tPart (tC (.int 1)))
def tMin : TT := tB (tOp rEq tHd1 (tC (.str "-")))
def tNotF : TT := tB (tOp rNotS (tVar 0) (tC (.str FIG)))
def tLcF : TE := tLCGif (iStr (tVar 1)) 1 [] (gName 0) tNotF (tVar 0)
def rLenS : List V → Hp → VK → Prop := fun xs H Q => ∃ z, xs = [.str z] ∧ z.length ≤ sizeLine ∧ Q (.int z.length) H
def rInt1 : List V → Hp → VK → Prop := fun xs H Q => (∃ i, xs = [.int i] ∧ Q (.int i) H) ∨ ∃ k, xs = [.bl k] ∧ Q (.int (if k then 1 else 0)) H
def tLn12 : TE := tChain (rI0 fun i j => .bl (decide (i ≤ j))) (rI0 fun i j => .bl (decide (i ≤ j))) (tC (.int 1)) (tCB rLenS (tCons (tVar 1) tNil)) (tC (.int 2))
def tN0 : TS := tAsg (tVar 0) (gName 1)
def tN1 : TS := tIfS tMin (tAsg (tSl rSlS (tVar 0) (tPart (tC (.int 1))) tNoPart) (gName 1)) tNext
def tN2 (K : Frag) : TS := tIfS (tOr (tNot (tB tLn12)) (tB (tOp (rNeNil K) tLcF (tLst tNil)))) (tRet (tC .non)) tNext
def tN3 : TS := tIfS (tAnd (tB (tOp rEq (tOp rIxS (tVar 1) (tC (.int 0))) (tC (.str "0")))) (tB (tOp rNe (tVar 0) (tC (.str "0"))))) (tRet (tC .non)) tNext
def tN4 : TS := tAsg (tC (.int 0)) (gName 2)
def tN5 (K : Frag) : TS := tFor (iStr (tVar 1)) (gName 3) (tAsg (tOp (rI0 fun i j => .int (i + j)) (tOp (rI CMul fun i j => .int (i * j)) (tC (.int 10)) (tVar 2)) (tBM K "str" rIdxF (tC (.str FIG)) (tCons (tVar 3) tNil))) (gName 2))
def tN6 (K : Frag) : TS := tRet (tOp (rIxL K) (tLst (tCons (tVar 2) (tCons (tOp (rI0 fun i j => .int (i - j)) (tC (.int 0)) (tVar 2)) tNil))) (tCB rInt1 (tCons (tOp rEq tHd1 (tC (.str "-"))) tNil)))
def tLN (K : Frag) : TS := tSeq tN0 (tSeq tN1 (tSeq (tN2 K) (tSeq tN3 (tSeq tN4 (tSeq (tN5 K) (tN6 K))))))
section
variable {cdv : Value} {A : Around} {outer : List Env} {s : Shared} {H : Hp} {E : XK}
theorem ln_der (ml : mg "len" = none) (mi : mg "int" = none) (hr : Room 0 (A.deeper (PyProof.Rows.envOfC "_law_number" (defScope sLN) s.heap.objs.size f cdv))) : Bx (PSs (cxOf CX0 P w K mg base NLN "_law_number" (defScope sLN) f cdv A outer s H E).nox (defBody sLN) (tLN K)) := by
  have nd := scLN.nd
  have hu : (A.deeper (PyProof.Rows.envOfC "_law_number" (defScope sLN) s.heap.objs.size f cdv)).units < cLine := hr.units0
  exact bxs_cons ⟨ps_set (i := 1) nd rfl (Or.inl rfl) (pv 0)⟩
    (bxs_cons ⟨ps_if (pt_cmpR op_eq (pe_slice sl_str (pv 0) po_none (po_some pe_int)) pe_str (nomark _)) (pss_one (ps_set (i := 1) nd rfl (Or.inl rfl) (pe_slice sl_str (pv 0) (po_some pe_int) po_none))) pss_nil⟩
    (bxs_cons ⟨ps_if (PW.pt (pw_or (pt_not (pt_chain op_le op_le pe_int (pe_callB call_len_str rfl ml PySem.boot_len (pa_cons (pv 1) pa_nil)) pe_int)) (pw_or1 (pt_cmpR (op_neNil hu) (pe_lcGI (te := tVar 0) (tt := tNotF) (g := gName 0) rfl compLN (pi_str (pv 1)) (fun s H C fp => by exact pg_name (i := 0) ndLN rfl (.inl rfl)) (fun s H C fp => by exact pt_cmpR op_notin_str (pv 0) pe_str rfl) (fun s H C fp => by exact pv 0)) (pe_lst pa_nil) (nomark _))))) (pss_one (ps_ret pe_non)) pss_nil⟩
    (bxs_cons ⟨ps_if (PW.pt (pw_and (pt_cmpR op_eq (pe_ix ix_str (pv 1) pe_int (fun _ _ => rfl)) pe_str (nomark _)) (pw_and1 (pt_cmpR op_ne (pv 0) pe_str (nomark _))))) (pss_one (ps_ret pe_non)) pss_nil⟩
    (bxs_cons ⟨ps_set (i := 2) nd rfl (Or.inl rfl) pe_int⟩
    (bxs_cons ⟨ps_for PassesOwn.never rfl (pi_str (pv 1)) (pg_name (i := 3) nd rfl (Or.inl rfl)) (pss_one (ps_set (i := 2) nd rfl (Or.inl rfl) (pe_op op_add (pe_op op_mul pe_int (pv 2)) (pe_bm PySem.F.plainAttrs_str PySem.F.slot_str_index PySem.F.type_str_index mt_idxF pe_str (pa_cons (pv 3) pa_nil)))))⟩
    (bxs_one ⟨ps_ret (pe_ix ix_list (pe_lst (pa_cons (pv 2) (pa_cons (pe_op op_sub pe_int (pv 2)) pa_nil))) (pe_callTy call_int1 rfl mi PyProof.Rows.boot_int (pa_cons (pe_cmpR op_eq (pe_slice sl_str (pv 0) po_none (po_some pe_int)) pe_str (nomark _)) pa_nil)) (fun _ _ => rfl))⟩))))))
end
theorem one_upto (z : Str) : decide (V.str (Txt.slice z none (some 1)) = V.str (("-" : String) : Str)) = ((cs z).head? == some 45) := by
  rw [isTxt, minusT]
  have e := cs_upto z 1
  rw [show cs (Txt.slice z none (some 1)) = (cs z).take 1 from e]
  cases cs z with
  | nil => rfl
  | cons c R =>
    show ([c] == [45]) = ((some c) == some 45)
    rw [Bool.eq_iff_iff, beq_iff_eq, beq_iff_eq]
    simp
theorem pick_nil (F : List Nat) : (pick (F.map fun c => V.str ⟨#[c]⟩) (F.map fun c => !fig c)).isEmpty = F.all fig := by
  induction F with
  | nil => rfl
  | cons c R ih =>
    cases h : fig c with
    | true =>
      rw [List.all_cons, h, Bool.true_and, ← ih]
      simp [pick, h]
    | false =>
      rw [List.all_cons, h, Bool.false_and]
      simp [pick, h]
theorem ok_lnm (F : Fun K "_law_number" "_law_number" sLN f fd) (ml : mg "len" = none) (mi : mg "int" = none) : FnOk P w K mg base CX0 1 f fd ["_law_word"] spLN := by
  refine F.ok scLN (fun vs H Q E h => ?_) (fun cdv A outer s H vs Q E hr h => ?_)
  · obtain ⟨_, rfl, _⟩ := h
    rfl
  obtain ⟨z, rfl, hz, q⟩ := h
  obtain ⟨der⟩ := ln_der ml mi hr (f := f) (cdv := cdv) (A := A) (outer := outer) (s := s) (H := H) (E := E)
  refine ⟨_, der, ?_⟩
  rw [← lawN_eq] at q
  have zs : z.length ≤ sizeLine := by rw [sizeLine_eq]; omega
  have rest : ∀ y : Str, cs y = figL (cs z) → tSeq (tN2 K) (tSeq tN3 (tSeq tN4 (tSeq (tN5 K) (tN6 K)))) ⟨fun _ H' => Q .non H', Q, fun _ _ => False, fun _ _ => False⟩ [some (.str z), some (.str y), none, none] H := fun y ey => by
    have yl : (cs y).length ≤ (cs z).length := by
      rw [ey]; unfold figL
      split
      · rw [List.length_tail]; omega
      · exact Nat.le_refl _
    have ylen := len_cs y
    have zlen := len_cs z
    have ys : y.length ≤ sizeLine := by omega
    unfold lawN at q
    rw [← ey] at q
    have qnone : badF (cs y) = true → ∀ H', Ext H H' → Q .non H' := fun e H' x' => by
      have := q H' x'
      rw [e, if_pos rfl] at this
      exact this
    refine ⟨_, rfl, y, rfl, ys, _, _, rfl, rfl, _, rfl, ?_⟩
    by_cases c1 : 1 ≤ (cs y).length
    rotate_left
    · refine itFe (decide_eq_false (by omega)) ⟨_, rfl, itT (itT (qnone ?_ H (Ext.refl _)))⟩
      unfold badF
      rw [decide_eq_false c1]
      rfl
    refine itTe (decide_eq_true (by omega)) ⟨_, _, rfl, rfl, _, rfl, ?_⟩
    by_cases c2 : (cs y).length ≤ 2
    rotate_left
    · rw [show decide (((y.length : Nat) : Int) ≤ 2) = false from decide_eq_false (by omega)]
      refine itT (itT (qnone ?_ H (Ext.refl _)))
      unfold badF
      rw [decide_eq_false c2]
      simp
    rw [show decide (((y.length : Nat) : Int) ≤ 2) = true from decide_eq_true (by omega)]
    refine itF ⟨_, rfl, y, rfl, fun D hD => ?_⟩
    have sz : y.cps.size = (cs y).length := by show y.cps.size = y.cps.toList.length; simp
    refine lcJ (xs := (cs y).map fun c => V.str ⟨#[c]⟩) ((cs y).map fun c => !fig c) (by rw [List.length_map, List.length_map]) (by rw [List.length_map, sizeLine_eq]; omega) hD (fun i H' x' hi => by show i < y.cps.size; rw [List.length_map] at hi; omega) (fun H' x' => by show y.cps.size ≤ _; rw [List.length_map]; omega) (fun i H' x H2 x' hy => ?_) (fun i x b H' ex eb x' R r => ?_) (fun H' x' hD' => ?_)
    · obtain ⟨e1, c, hc, e2⟩ := hy
      refine ⟨e1, ?_⟩
      rw [List.getElem?_map, show (cs y)[i]? = some c by rw [← hc]; exact Array.getElem?_toList, e2]
      rfl
    · rw [List.getElem?_map] at ex eb
      obtain ⟨c, ec, rfl⟩ := Option.map_eq_some_iff.mp ex
      rw [ec] at eb
      cases eb
      refine ⟨_, rfl, ⟨#[c]⟩, FIG, rfl, rfl, _, rfl, ?_⟩
      have e : (!(!(Builtin.Str.occurrences FIG ⟨#[c]⟩ 0 FIG.length 1).isEmpty)) = !fig c := by
        cases h : fig c with
        | true => obtain ⟨rr, e⟩ := (fig_occ c).1 h; rw [e]; rfl
        | false => rw [(fig_occ c).2 h]; rfl
      rw [e]
      exact r H' (Ext.refl _)
    have pn := pick_nil (cs y)
    generalize pick ((cs y).map fun c => V.str ⟨#[c]⟩) ((cs y).map fun c => !fig c) = pk at pn hD'
    refine ⟨by show 0 ≤ sizeLine; decide, fun le hle => ⟨D, le, pk, rfl, rfl, SqL.of (Ext.new hle _ _ hD'), SqL.of upd_same, _, rfl, ?_⟩⟩
    have x2 := Ext.new (o := .lst []) hle
    generalize upd H' le (.lst []) = H2 at x2 ⊢
    have x02 : Ext H H2 := x'.trans x2
    rw [pn]
    cases af : (cs y).all fig with
    | false =>
      refine itT (qnone ?_ H2 x02)
      unfold badF
      rw [af]
      simp
    | true =>
      have nb : badF (cs y) = false := by
        unfold badF
        rw [af, decide_eq_true c1, decide_eq_true c2]
        rfl
      rw [nb, if_neg (by decide)] at q
      obtain ⟨c0, R, eF⟩ : ∃ c0 R, cs y = c0 :: R := by
        cases h : cs y with
        | nil => rw [h] at c1; exact absurd c1 (by decide)
        | cons c0 R => exact ⟨c0, R, rfl⟩
      have go : (((cs y).head? == some 48 && cs z != [48]) = false) → tSeq tN4 (tSeq (tN5 K) (tN6 K)) ⟨fun _ H' => Q .non H', Q, fun _ _ => False, fun _ _ => False⟩ [some (.str z), some (.str y), none, none] H2 := fun e0 => by
        rw [e0, if_neg (by decide)] at q
        refine ⟨_, rfl, y, rfl, for_signs (fun i σ H' => H' = H2 ∧ ∃ o3, σ = [some (.str z), some (.str y), some (.int ((val ((cs y).take i) : Nat) : Int)), o3]) ⟨rfl, _, rfl⟩ ?_ ?_⟩
        · rintro i c σ H' hc ⟨rfl, o3, rfl⟩
          have fc := List.all_eq_true.mp af c (List.mem_of_getElem? hc)
          refine ⟨_, rfl, _, _, rfl, rfl, .inl ⟨by decide, by decide⟩, (rfl : ("str" : String) = "str"), _, rfl, c, rfl, rfl, fc, _, _, rfl, rfl, rfl, some (.str ⟨#[c]⟩), ?_⟩
          show [some (V.str z), some (V.str y), some (V.int (10 * ((val ((cs y).take i) : Nat) : Int) + ((c - 48 : Nat) : Int))), some (.str ⟨#[c]⟩)] = _
          rw [take_val (cs y) i c hc]
          simp only [Int.natCast_add, Int.natCast_mul, Int.mul_comm]
          rfl
        · rintro σ H' ⟨rfl, o3, rfl⟩
          rw [List.take_length]
          refine ⟨_, rfl, _, rfl, _, _, rfl, rfl, by show 2 ≤ sizeLine; decide, fun l hl => ?_⟩
          have x3 := Ext.new (o := .lst [.int ((val (cs y) : Nat) : Int), .int (0 - ((val (cs y) : Nat) : Int))]) hl
          have g3 : upd H' l (.lst [.int ((val (cs y) : Nat) : Int), .int (0 - ((val (cs y) : Nat) : Int))]) l = some (.lst [.int ((val (cs y) : Nat) : Int), .int (0 - ((val (cs y) : Nat) : Int))]) := upd_same
          show tCB rInt1 (tCons (tOp rEq tHd1 (tC (.str "-"))) tNil) [some (.str z), some (.str y), some (.int ((val (cs y) : Nat) : Int)), o3] (upd H' l (.lst [.int ((val (cs y) : Nat) : Int), .int (0 - ((val (cs y) : Nat) : Int))])) _
          generalize upd H' l (.lst [.int ((val (cs y) : Nat) : Int), .int (0 - ((val (cs y) : Nat) : Int))]) = H3 at x3 g3 ⊢
          refine ⟨_, rfl, 1, rfl, z, rfl, zs, rfl, .inr ⟨_, rfl, ?_⟩⟩
          rw [one_upto]
          have qq := q H3 (x02.trans x3)
          cases hm : (cs z).head? == some 45 with
          | true =>
            rw [hm, if_pos rfl] at qq
            refine ⟨l, _, 1, _, rfl, rfl, SqL.of g3, atI_nat (j := 1) rfl, ?_⟩
            rw [Int.zero_sub]
            exact qq
          | false =>
            rw [hm, if_neg (by decide)] at qq
            exact ⟨l, _, 0, _, rfl, rfl, SqL.of g3, atI_nat (j := 0) rfl, qq⟩
      refine itF ⟨_, rfl, y, 0, c0, rfl, rfl, ys, atI_nat (xs := cs y) (j := 0) (by rw [eF]; rfl), rfl, _, rfl, ?_⟩
      have e48 : decide (V.str ⟨#[c0]⟩ = V.str (("0" : String) : Str)) = ((cs y).head? == some 48) := by
        rw [isTxt, eF]
        show ([c0] == [48]) = ((some c0) == some 48)
        rw [Bool.eq_iff_iff, beq_iff_eq, beq_iff_eq]
        simp
      rw [e48]
      cases h8 : (cs y).head? == some 48 with
      | false =>
        rw [h8] at go
        exact itF (itF (go rfl))
      | true =>
        refine itT ⟨_, rfl, rfl, _, rfl, ?_⟩
        have ez : (!decide (V.str z = V.str (("0" : String) : Str))) = (cs z != [48]) := by rw [isZero]; rfl
        rw [ez]
        cases hz0 : cs z != [48] with
        | true =>
          refine itT ?_
          have := q H2 x02
          rw [h8, hz0, Bool.true_and, if_pos rfl] at this
          exact this
        | false =>
          rw [h8, hz0] at go
          exact itF (go rfl)
  refine ⟨_, rfl, ?_⟩
  show tSeq tN1 _ _ [some (.str z), some (.str z), none, none] H
  refine ⟨_, rfl, 1, rfl, z, rfl, zs, rfl, _, rfl, ?_⟩
  rw [one_upto]
  cases h : (cs z).head? == some 45 with
  | true =>
    refine itT ⟨_, rfl, 1, rfl, z, rfl, zs, ?_⟩
    refine rest _ ?_
    unfold figL
    rw [h, if_pos rfl]
    have := cs_from z 1
    rw [List.drop_one] at this
    exact this
  | false =>
    refine itF (rest z ?_)
    unfold figL
    rw [h, if_neg (by decide)]
end
end My
set_option Elab.async false
set_option linter.all false
set_option maxRecDepth 100000
set_option maxHeartbeats 1000000
set_option exponentiation.threshold 10000
namespace My
open PySem PySem.W L2
def fIdx : List Bool → Nat → Option Nat
  | [], _ => none
  | false :: _, i => some i
  | true :: bs, i => fIdx bs (i + 1)
theorem fIdx_no : ∀ {bs : List Bool} {i : Nat}, bs.all id = true → fIdx bs i = none
  | [], _, _ => rfl
  | false :: _, _, h => by cases h
  | true :: bs, i, h => fIdx_no (bs := bs) (by simpa using h)
theorem fIdx_at : ∀ {bs : List Bool} {i k : Nat}, FirstB bs i → fIdx bs k = some (k + i)
  | [], i, k, h => by have := h.2; simp at this
  | false :: bs, 0, k, h => rfl
  | false :: bs, i + 1, k, h => by have := h.1 0 false (by omega) rfl; cases this
  | true :: bs, 0, k, h => by have := h.2; simp at this
  | true :: bs, i + 1, k, h => by
    have h' : FirstB bs i := ⟨fun j b hj hb => h.1 (j + 1) b (by omega) hb, h.2⟩
    show fIdx bs (k + 1) = _
    rw [fIdx_at h']
    congr 1
    omega
def resD (rs : List (Option Int × Bool)) : PyData := match fIdx (rs.map okO) 0 with
  | some i => .tuple [.str "outcome", .int (i : Nat)]
  | none => .tuple [.str "told", .list ((rs.map getO).map oD2)]
theorem res_all {rs : List (Option Int × Bool)} (h : (rs.map okO).all id = true) : resD rs = .tuple [.str "told", .list ((rs.map getO).map oD2)] := by
  unfold resD; rw [fIdx_no h]
theorem res_at {rs : List (Option Int × Bool)} {i : Nat} (h : FirstB (rs.map okO) i) : resD rs = .tuple [.str "outcome", .int (i : Nat)] := by
  unfold resD; rw [fIdx_at h, Nat.zero_add]
section
variable {P : Program} {w : World} {K : Frag} {mg : Str → Option Value} {base : Heap} {f a1 a2 : Addr} {fd d1 d2 : FuncData}
abbrev sRd : Stmt := top 46
abbrev NRd : List Str := ["_law_text_here", "_law_found", "_law_place", "_law_word", "_law_sure", "_law_number_here"]
theorem scRd : FnScope NRd ["_law_text_here"] (defScope sRd) := ⟨rfl, rfl, rfl, by decide +kernel, rfl, by decide +kernel, by decide +kernel⟩
def spRd : Sp := fun vs H Q _ => ∃ z : Str, vs = [.str z] ∧ z.length ≤ 10000 ∧ ∀ p H', Ext H H' → Rds H' (.ref p) (resD (rowsO z)) → Q (.ref p) H'
def tLst2 : TE := tLst (tCons (tSl rSlS (tVar 3) tNoPart (tPart (tUn (rU fun i => .int (-i)) (tC (.int 1))))) (tCons (tVar 3) tNil))
def tD0 : TS := tIfS (tB (tOp rEq (tVar 0) (tC (.str "")))) (tRet (tTup (tCons (tC (.str "told")) (tCons (tLst tNil) tNil)))) tNext
def tD1' : TS := tAsg (tLst tNil) (gName 1)
def tDa : TS := tAsg (tOp rNe (tSl rSlS (tVar 3) (tPart (tUn (rU fun i => .int (-i)) (tC (.int 1)))) tNoPart) (tC (.str "+"))) (gName 4)
def tDb (K : Frag) : TS := tAsg (tCall spLN [] E0 (tCons (tOp (rIxL K) tLst2 (tCB rInt1 (tCons (tVar 4) tNil))) tNil)) (gName 5)
def tDc : TS := tIfS (tB (tIsN (tVar 5))) (tRet (tTup (tCons (tC (.str "outcome")) (tCons (tVar 2) tNil)))) tNext
def tDd (K : Frag) : TS := tDrop (tBM K "list" rAppend (tVar 1) (tCons (tTup (tCons (tVar 5) (tCons (tVar 4) tNil))) tNil))
def tD2 (K : Frag) : TS := tFor (iEnum K (tCons (tBM K "str" rSplit (tVar 0) (tCons (tC (.str " ")) tNil)) tNil)) (gTup K 2 (gCons (gName 2) (gCons (gName 3) gNil))) (tSeq tDa (tSeq (tDb K) (tSeq tDc (tDd K))))
def tD3 : TS := tRet (tTup (tCons (tC (.str "told")) (tCons (tVar 1) tNil)))
def tRdA (K : Frag) : TS := tSeq tD0 (tSeq tD1' (tSeq (tD2 K) tD3))
section
variable {cdv : Value} {A : Around} {outer : List Env} {s : Shared} {H : Hp} {E : XK}
theorem rdA_der (A1 : Df P w K mg base CX0 1 "_law_number" ["_law_word"] spLN a1 d1) (me : mg "enumerate" = none) (mi : mg "int" = none) (hr : Room 1 (A.deeper (PyProof.Rows.envOfC "_law_read" (defScope sRd) s.heap.objs.size f cdv))) : Bx (PSs (cxOf CX0 P w K mg base NRd "_law_read" (defScope sRd) f cdv A outer s H E).nox (defBody sRd) (tRdA K)) := by
  have nd := scRd.nd
  exact bxs_cons ⟨ps_if (pt_cmpR op_eq (pv 0) pe_str (nomark _)) (pss_one (ps_ret (pe_tup (pa_cons pe_str (pa_cons (pe_lst pa_nil) pa_nil))))) pss_nil⟩
    (bxs_cons ⟨ps_set (i := 1) nd rfl (Or.inl rfl) (pe_lst pa_nil)⟩
    (bxs_cons ⟨ps_for PassesOwn.never rfl (pi_enum rfl me (pa_cons (pe_bm PySem.F.plainAttrs_str PySem.F.slot_str_split PySem.F.type_str_split mt_split (pv 0) (pa_cons pe_str pa_nil)) pa_nil)) (pg_tup rfl (pgs_cons (pg_name (i := 2) nd rfl (Or.inl rfl)) (pgs_cons (pg_name (i := 3) nd rfl (Or.inl rfl)) pgs_nil)))
      (pss_cons (ps_set (i := 4) nd rfl (Or.inl rfl) (pe_cmpR op_ne (pe_slice sl_str (pv 3) (po_some (pe_un un_neg pe_int)) po_none) pe_str (nomark _)))
      (pss_cons (ps_set (i := 5) nd rfl (Or.inl rfl) (pe_call A1.G hr rfl A1.m A1.kp A1.b .nil pass0 (pa_cons (pe_ix ix_list (pe_lst (pa_cons (pe_slice sl_str (pv 3) po_none (po_some (pe_un un_neg pe_int))) (pa_cons (pv 3) pa_nil))) (pe_callTy call_int1 rfl mi PyProof.Rows.boot_int (pa_cons (pv 4) pa_nil)) (fun _ _ => rfl)) pa_nil)))
      (pss_cons (ps_if (pt_cmp (pc_isN (pv 5))) (pss_one (ps_ret (pe_tup (pa_cons pe_str (pa_cons (pv 2) pa_nil))))) pss_nil)
      (pss_one (ps_expr (pe_bm PySem.F.plainAttrs_list PySem.F.slot_list_append PySem.F.type_list_append mt_append (pv 1) (pa_cons (pe_tup (pa_cons (pv 5) (pa_cons (pv 4) pa_nil))) pa_nil)))))))⟩
    (bxs_one ⟨ps_ret (pe_tup (pa_cons pe_str (pa_cons (pv 1) pa_nil)))⟩)))
end
theorem last_plus (z : Str) : (!decide (V.str (Txt.slice z (some (-1)) none) = V.str (("+" : String) : Str))) = !((cs z).getLast? == some 43) := by
  rw [isTxt, plusT, cs_last]
  congr 1
  show ((cs z).drop ((cs z).length - 1) == [43]) = _
  rcases List.eq_nil_or_concat (cs z) with h | ⟨L, c, h⟩
  · rw [h]; rfl
  · rw [h]
    simp only [List.concat_eq_append, List.length_append, List.length_cons, List.length_nil, Nat.zero_add, Nat.add_sub_cancel, List.drop_left, List.getLast?_append, List.getLast?_singleton, Option.some_or]
    rw [Bool.eq_iff_iff, beq_iff_eq, beq_iff_eq]
    simp
theorem rd_word {De : Ends} {H3 : Hp} {z wd y : Str} {fl : Addr} {i : Nat} {b : Bool} {o5 : Option V} {ys : List V} (ey : whoI (cs y) = (outI (cs wd)).1) (yl : y.length ≤ 10000) (gf : H3 fl = some (.lst ys)) (ly : ys.length ≤ 20000)
    (ht : ∀ R : VK, (∀ H4, Ext H3 H4 → R (.str y) H4) → tOp (rIxL K) tLst2 (tCB rInt1 (tCons (tVar 4) tNil)) [some (.str z), some (.ref fl), some (.int (i : Nat)), some (.str wd), some (.bl b), o5] H3 R)
    (k1 : (outI (cs wd)).1 = none → ∀ p H', Ext H3 H' → H' p = some (.tup [.str "outcome", .int (i : Nat)]) → De.rt (.ref p) H')
    (k2 : ∀ n, (outI (cs wd)).1 = some n → ∀ H5 p, Ext H3 H5 → H5 p = some (.tup [.int n, .bl b]) → p ≠ fl → De.nx [some (.str z), some (.ref fl), some (.int (i : Nat)), some (.str wd), some (.bl b), some (.int n)] (upd H5 fl (.lst (ys ++ [.ref p])))) :
    tSeq (tDb K) (tSeq tDc (tDd K)) De [some (.str z), some (.ref fl), some (.int (i : Nat)), some (.str wd), some (.bl b), o5] H3 := by
  refine rd_set (te := tCall spLN [] E0 (tCons (tOp (rIxL K) tLst2 (tCB rInt1 (tCons (tVar 4) tNil))) tNil)) (i := 5) (ht _ fun H4 x4 => ⟨y, rfl, yl, fun H5 x5 => ?_⟩)
  rw [ey]
  have x35 := x4.trans x5
  cases ho : (outI (cs wd)).1 with
  | none =>
    refine ⟨_, rfl, _, rfl, itT ⟨_, rfl, by show 2 ≤ sizeLine; decide, fun p hp => k1 ho p _ (x35.trans (Ext.new hp)) upd_same⟩⟩
  | some n =>
    refine ⟨_, rfl, _, rfl, itF ⟨_, rfl, .inl ⟨rfl, _, SqL.of (x35 _ _ gf)⟩, _, rfl, _, rfl, by show 2 ≤ sizeLine; decide, fun p hp => ?_⟩⟩
    have x6 := Ext.new (o := .tup [.int n, .bl b]) hp
    have np : p ≠ fl := fun e => by rw [e, x35 _ _ gf] at hp; cases hp
    exact ⟨fl, ys, .ref p, rfl, rfl, x6 _ _ (x35 _ _ gf), by rw [sizeLine_eq]; omega, k2 n ho _ p (x35.trans x6) upd_same np⟩
theorem ok_rdA (F : Fun K "_law_read" "_law_read" sRd f fd) (A1 : Df P w K mg base CX0 1 "_law_number" ["_law_word"] spLN a1 d1) (me : mg "enumerate" = none) (mi : mg "int" = none) : FnOk P w K mg base CX0 2 f fd ["_law_text_here"] spRd := by
  refine F.ok scRd (fun vs H Q E h => ?_) (fun cdv A outer s H vs Q E hr h => ?_)
  · obtain ⟨_, rfl, _⟩ := h
    rfl
  obtain ⟨z, rfl, hz, q⟩ := h
  obtain ⟨der⟩ := rdA_der A1 me mi hr (f := f) (cdv := cdv) (A := A) (outer := outer) (s := s) (H := H) (E := E)
  refine ⟨_, der, ?_⟩
  refine ⟨_, rfl, rfl, _, rfl, ?_⟩
  rw [isNil]
  cases hn : (cs z).isEmpty with
  | true =>
    have er : rowsO z = [] := by unfold rowsO; rw [hn]; rfl
    rw [er] at q
    refine itT ⟨by show 0 ≤ sizeLine; decide, fun l hl => ⟨by show 2 ≤ sizeLine; decide, fun p hp => q p _ ((Ext.new hl).trans (Ext.new hp)) (.tup upd_same (.cons (.str _) (.cons (.lst (Ext.new hp _ _ upd_same) .nil) .nil)))⟩⟩
  | false =>
    have er : rowsO z = (Txt.split z ⟨#[32]⟩).map fun w => outI (cs w) := by unfold rowsO; rw [hn]; rfl
    have many := split_many z
    have hzl := len_cs z
    have zs : z.length + 2 ≤ sizeLine := by rw [sizeLine_eq]; omega
    rw [er] at q
    have ml : ∀ w ∈ Txt.split z ⟨#[32]⟩, w.length ≤ 10000 := fun w hw => by
      have a := split_mem hw
      rw [len_cs w]
      omega
    refine itF (rd_set (te := tLst tNil) (i := 1) (D := ⟨_, Q, _, _⟩) ⟨by show 0 ≤ sizeLine; decide, fun fl hfl => ?_⟩)
    have x0 := Ext.new (o := .lst []) hfl
    have g0 : upd H fl (.lst []) fl = some (.lst []) := upd_same
    show tSeq (tD2 K) tD3 _ [some (.str z), some (.ref fl), none, none, none, none] (upd H fl (.lst []))
    generalize upd H fl (.lst []) = H0 at x0 g0 ⊢
    refine ⟨_, rfl, (rfl : ("str" : String) = "str"), z, ⟨#[32]⟩, rfl, by rw [bl32], rfl, by omega, parts_len _ _ zs, fun l1 hl1 => ?_⟩
    have x1 := Ext.new (o := .lst ((Txt.split z ⟨#[32]⟩).map V.str)) hl1
    have g1 : upd H0 l1 (.lst ((Txt.split z ⟨#[32]⟩).map V.str)) l1 = some (.lst ((Txt.split z ⟨#[32]⟩).map V.str)) := upd_same
    have nl : l1 ≠ fl := fun e => by rw [e, g0] at hl1; cases hl1
    have gf := x1 _ _ g0
    generalize upd H0 l1 (.lst ((Txt.split z ⟨#[32]⟩).map V.str)) = H1 at x1 g1 gf ⊢
    generalize Txt.split z ⟨#[32]⟩ = ws at g1 q many ml ⊢
    have x01 := x0.trans x1
    refine ⟨l1, rfl, ⟨_, SqL.of g1⟩, for_enum (xs := ws.map V.str) (fun i σ H2 => Ext H H2 ∧ H2 l1 = some (.lst (ws.map V.str)) ∧ (∀ (j : Nat) b, j < i → ((ws.map fun w => outI (cs w)).map okO)[j]? = some b → b = true) ∧ ∃ ys o2 o3 o4 o5, σ = [some (.str z), some (.ref fl), o2, o3, o4, o5] ∧ H2 fl = some (.lst ys) ∧ ys.length = i ∧ RdsAll (wo H2 fl) ys ((((ws.take i).map fun w => outI (cs w)).map getO).map oD2)) ⟨x01, g1, fun j d h => absurd h (Nat.not_lt_zero _), [], _, _, _, _, rfl, gf, rfl, .nil⟩ ?_ ?_ ?_⟩
    · rintro i σ H2 _ ⟨_, h, _⟩
      exact SqL.of h
    · rintro i v σ H2 k ev ⟨x2, gl2, good, ys, o2, o3, o4, o5, rfl, gf2, ly, ra⟩ hk
      have xk := Ext.new (o := .tup [.int (i : Nat), v]) hk
      have gk : upd H2 k (.tup [.int (i : Nat), v]) k = some (.tup [.int (i : Nat), v]) := upd_same
      rw [List.getElem?_map] at ev
      obtain ⟨wd, ew, rfl⟩ := Option.map_eq_some_iff.mp ev
      have wl := ml wd (List.mem_of_getElem? ew)
      have ws' : wd.length ≤ sizeLine := by rw [sizeLine_eq]; omega
      refine ⟨k, _, rfl, SqT.of upd_same, rfl, _, _, rfl, _, _, rfl, rfl, ?_⟩
      generalize upd H2 k (.tup [.int (i : Nat), .str wd]) = H3 at xk gk ⊢
      refine rd_set (te := tOp rNe (tSl rSlS (tVar 3) (tPart (tUn (rU fun i => .int (-i)) (tC (.int 1)))) tNoPart) (tC (.str "+"))) (i := 4) (D := ⟨_, Q, _, _⟩) ⟨_, rfl, 1, rfl, _, rfl, wd, rfl, ws', rfl, ?_⟩
      rw [last_plus]
      have lw : i < ws.length := (List.getElem?_eq_some_iff.mp ew).1
      have x03 := x2.trans xk
      have fin : ∀ (De : Ends), (∀ v H, Q v H → De.rt v H) → (∀ σ H2, (Ext H H2 ∧ H2 l1 = some (.lst (ws.map V.str)) ∧ (∀ (j : Nat) b, j < i + 1 → ((ws.map fun w => outI (cs w)).map okO)[j]? = some b → b = true) ∧ ∃ ys o2 o3 o4 o5, σ = [some (.str z), some (.ref fl), o2, o3, o4, o5] ∧ H2 fl = some (.lst ys) ∧ ys.length = i + 1 ∧ RdsAll (wo H2 fl) ys ((((ws.take (i + 1)).map fun w => outI (cs w)).map getO).map oD2)) → De.nx σ H2) → ∀ (y : Str) (b : Bool), whoI (cs y) = (outI (cs wd)).1 → y.length ≤ 10000 → b = (outI (cs wd)).2 → (∀ R : VK, (∀ H4, Ext H3 H4 → R (.str y) H4) → tOp (rIxL K) tLst2 (tCB rInt1 (tCons (tVar 4) tNil)) [some (.str z), some (.ref fl), some (.int (i : Nat)), some (.str wd), some (.bl b), o5] H3 R) → tSeq (tDb K) (tSeq tDc (tDd K)) De [some (.str z), some (.ref fl), some (.int (i : Nat)), some (.str wd), some (.bl b), o5] H3 := fun De kr kn y b ey yl eb ht => by
        refine rd_word (z := z) (wd := wd) (y := y) (b := b) (ys := ys) ey yl (xk _ _ gf2) (by omega) ht (fun ho p H' x' gp => ?_) (fun n ho H5 p x5 gp np => ?_)
        · refine kr _ _ (q p H' (x03.trans x') ?_)
          rw [res_at (i := i) ⟨good, by rw [List.getElem?_map, List.getElem?_map, ew]; show some (okO (outI (cs wd))) = _; unfold okO; rw [ho]; rfl⟩]
          exact .tup gp (.cons (.str _) (.cons (.int _) .nil))
        · refine kn _ _ ⟨ext_upd _ (x03.trans x5) hfl, ?_, ?_, ys ++ [.ref p], _, _, _, _, rfl, upd_same, by rw [List.length_append, ly]; rfl, ?_⟩
          · rw [upd_ne nl]; exact x5 _ _ (xk _ _ gl2)
          · intro j b' hj hb
            rcases Nat.lt_or_ge j i with lt | ge
            · exact good j b' lt hb
            · have e0 : j = i := by omega
              subst e0
              rw [List.getElem?_map, List.getElem?_map, ew] at hb
              cases hb
              show okO (outI (cs wd)) = true
              unfold okO
              rw [ho]; rfl
          · rw [woD_same, take_all ew, List.map_append, List.map_append, List.map_append]
            refine RdsAll.append ((ra.mono (wo_ex xk fl)).mono (wo_ex x5 fl)) (.cons ?_ .nil)
            have e : oD2 (getO (outI (cs wd))) = .tuple [.int n, .bool b] := by
              unfold getO oD2
              rw [ho, eb]; rfl
            show Rds _ _ (oD2 (getO (outI (cs wd))))
            rw [e]
            exact .tup (wo_at np gp) (.cons (.int _) (.cons (.bl _) .nil))
      cases hp : (cs wd).getLast? == some 43 with
      | true =>
        have eo : outI (cs wd) = (whoI (cs wd).dropLast, false) := by unfold outI; rw [hp]; rfl
        refine fin _ (fun _ _ h => h) (fun _ _ h => h) (Txt.slice wd none (some (-1))) false (by rw [cs_but, eo]) (Nat.le_trans (Txt.slice_le wd _ _) wl) (by rw [eo]) fun R r => ?_
        refine rd_op ⟨_, rfl, 1, rfl, _, rfl, wd, rfl, ws', _, rfl, by show 2 ≤ sizeLine; decide, fun l hl => ?_⟩
        refine ⟨_, rfl, .inr ⟨_, rfl, l, _, 0, _, rfl, rfl, SqL.of upd_same, atI_nat (j := 0) rfl, r _ (Ext.new hl)⟩⟩
      | false =>
        have eo : outI (cs wd) = (whoI (cs wd), true) := by unfold outI; rw [hp]; rfl
        refine fin _ (fun _ _ h => h) (fun _ _ h => h) wd true (by rw [eo]) wl (by rw [eo]) fun R r => ?_
        refine rd_op ⟨_, rfl, 1, rfl, _, rfl, wd, rfl, ws', _, rfl, by show 2 ≤ sizeLine; decide, fun l hl => ?_⟩
        refine ⟨_, rfl, .inr ⟨_, rfl, l, _, 1, _, rfl, rfl, SqL.of upd_same, atI_nat (j := 1) rfl, r _ (Ext.new hl)⟩⟩
    · rintro σ H2 ⟨x2, gl2, good, ys, o2, o3, o4, o5, rfl, gf2, ly, ra⟩
      rw [List.length_map] at good ra
      rw [List.take_length] at ra
      have al : ((ws.map fun w => outI (cs w)).map okO).all id = true := by
        rw [List.all_eq_true]
        intro d hd
        obtain ⟨j, hj, e⟩ := List.getElem_of_mem hd
        exact good j d (by rw [List.length_map, List.length_map] at hj; exact hj) (by rw [List.getElem?_eq_getElem hj, e])
      refine ⟨_, rfl, by show 2 ≤ sizeLine; decide, fun p hp => q p _ (x2.trans (Ext.new hp)) ?_⟩
      rw [res_all al]
      exact .tup upd_same (.cons (.str _) (.cons (.lst (Ext.new hp _ _ gf2) ((ra.mono (wo_ext H2 fl)).mono (Ext.new hp))) .nil))
end
end My
set_option Elab.async false
set_option linter.all false
set_option maxRecDepth 100000
set_option maxHeartbeats 1000000
set_option exponentiation.threshold 10000
namespace My
open PySem PySem.W L2
structure KitU (K : Frag) (mg : Str → Option Value) (D CO CF CT : Addr) : Prop where
  T : IsT K
  cO : Catch K CO
  cF : Catch K CF
  cT : Catch K CT
  cD : Catch K D
  fO : FldOk K CO "place"
  fF : FldOk K CF "found"
  fT : FldOk K CT "found"
  oo : mroIn K CO (.ref CO) = some true
  ff : mroIn K CF (.ref CF) = some true
  tt : mroIn K CT (.ref CT) = some true
  t_o : mroIn K CT (.ref CO) = some false
  o_f : mroIn K CO (.ref CF) = some false
  mD : mg "DealError" = some (.ref D)
  mO : mg "NoOutcome" = some (.ref CO)
  mF : mg "NoFolk" = some (.ref CF)
  mT : mg "NoText" = some (.ref CT)
section
variable {P : Program} {w : World} {K : Frag} {mg : Str → Option Value} {base : Heap} {D CO CF CT f a1 : Addr} {fd d1 : FuncData}
def Pr (H : Hp) (z : Str) (v : V) (Q : VK) : Prop := ∀ l H', Ext H H' → H' l = some (.tup [.str z, v]) → Q (.ref l) H'
def thW (K : Frag) (z fld : Str) : TS := tAsg (tTup (tCons (tC (.str z)) (tCons (tErrFT K (tVar 2) fld) tNil))) (gName 1)
def thO : TS := tAsg (tTup (tCons (tC (.str "other")) (tCons (tC .non) tNil))) (gName 1)
abbrev sTd : Stmt := top 47
abbrev NTd : List Str := ["_law_text_here", "_law_told_here", "e"]
theorem scTd : FnScope NTd ["_law_text_here"] (defScope sTd) := ⟨rfl, rfl, rfl, by decide +kernel, rfl, by decide +kernel, by decide +kernel⟩
def spTd (K : Frag) : Sp := fun vs H Q _ => ∃ v, vs = [v] ∧ ((NoK K H v "str" ∧ Pr H "text" v Q) ∨ ∃ z : Str, v = .str z ∧ z.length ≤ 10000 ∧ ∀ p H', Ext H H' → Rds H' (.ref p) (resD (rowsO z)) → Q (.ref p) H')
def hTd (K : Frag) (D CO CT : Addr) : TH := hAs K CO 2 (thW K "outcome" "place") (hAs K CT 2 (thW K "text" "found") (hNo K D thO hNil))
def tbTd (K : Frag) (CT CO : Addr) (E : XK) : TS := tAsg (tTup (tCons (tC (.str "told")) (tCons (tCall (spOsI K CT CO) [] E (tCons (tVar 0) tNil)) tNil))) (gName 1)
variable {cdv : Value} {A : Around} {outer : List Env} {s : Shared} {H : Hp} {E : XK}
theorem td_der (Z : KitU K mg D CO CF CT) (A1 : Df P w K mg base (CXE P w) 5 "outcomes_in" ["text"] (spOsI K CT CO) a1 d1) (hr : Room 5 (A.deeper (PyProof.Rows.envOfC "_law_told" (defScope sTd) s.heap.objs.size f cdv))) :
    Bx (PSs (cxOf CX0 P w K mg base NTd "_law_told" (defScope sTd) f cdv A outer s H E).nox (defBody sTd) (tSeq (tAsg (tC .non) (gName 1)) (tSeq (tTryN (tbTd K CT CO) (hTd K D CO CT)) (tRet (tVar 1))))) := by
  have nd := scTd.nd
  exact bxs_cons (bx_set (i := 1) nd rfl (Or.inl rfl) ⟨pe_non⟩) (bxs_cons ⟨ps_tryN (tb := tbTd K CT CO) (th := hTd K D CO CT) rfl rfl
      (fun σ E' pn xe hp => pxs_set (i := 1) nd rfl (Or.inl rfl) (px_tup (pxa_cons (px_of pe_str) (pxa_cons (px_call (E := E') A1.G hr rfl A1.m A1.kp A1.b .nil hp (pxa_of (pa_cons (pv 0) pa_nil))) (pxa_of pa_nil)))))
      (phs_as (i := 2) nd rfl rfl Z.cO rfl Z.mO (fun x => pss_one (ps_set (i := 1) nd rfl (Or.inl rfl) (pe_tup (pa_cons pe_str (pa_cons (pe_errFT (pv 2) rfl) pa_nil)))))
        (phs_as (i := 2) nd rfl rfl Z.cT rfl Z.mT (fun x => pss_one (ps_set (i := 1) nd rfl (Or.inl rfl) (pe_tup (pa_cons pe_str (pa_cons (pe_errFT (pv 2) rfl) pa_nil)))))
        (phs_no Z.cD rfl Z.mD (fun x => pss_one (ps_set (i := 1) nd rfl (Or.inl rfl) (pe_tup (pa_cons pe_str (pa_cons pe_non pa_nil))))) phs_nil)))⟩ (bxs_one ⟨ps_ret (pv 1)⟩))
theorem ok_td (F : Fun K "_law_told" "_law_told" sTd f fd) (Z : KitU K mg D CO CF CT) (A1 : Df P w K mg base (CXE P w) 5 "outcomes_in" ["text"] (spOsI K CT CO) a1 d1) : FnOk P w K mg base CX0 6 f fd ["_law_text_here"] (spTd K) := by
  refine F.ok scTd (fun vs H Q E h => ?_) (fun cdv A outer s H vs Q E hr h => ?_)
  · obtain ⟨_, rfl, _⟩ := h
    rfl
  obtain ⟨v, rfl, h⟩ := h
  obtain ⟨der⟩ := td_der Z A1 hr (f := f) (cdv := cdv) (A := A) (outer := outer) (s := s) (H := H) (E := E) (P := P) (w := w) (base := base)
  refine ⟨_, der, ?_⟩
  refine ⟨_, rfl, v, rfl, ?_⟩
  rcases h with ⟨nk, q⟩ | ⟨z, rfl, hz, q⟩
  · refine .inl ⟨nk, err_at fun e dx H1 x1 fe fd => ⟨e, CT, rfl, rfl, false, Z.t_o, itF ⟨true, Z.tt, itT ⟨_, rfl, e, CT, dx, _, _, rfl, fe, fd, rfl, Z.fT.it, Z.fT.hd, Z.fT.nf, by show 2 ≤ sizeLine; decide, fun l3 hl3 => ?_⟩⟩⟩⟩
    exact ⟨_, rfl, q l3 _ (x1.trans (Ext.new hl3)) upd_same⟩
  · refine .inr ⟨z, rfl, hz, fun i fi H' x' => err_at fun e dx H1 x1 fe fd => ⟨e, CO, rfl, rfl, true, Z.oo, itT ⟨_, rfl, e, CO, dx, _, _, rfl, fe, fd, rfl, Z.fO.it, Z.fO.hd, Z.fO.nf, by show 2 ≤ sizeLine; decide, fun l3 hl3 => ?_⟩⟩, fun al l xs H' x' _ hl ra => ⟨by show 2 ≤ sizeLine; decide, fun p hp => ⟨_, rfl, ?_⟩⟩⟩
    · refine ⟨_, rfl, q l3 _ ((x'.trans x1).trans (Ext.new hl3)) ?_⟩
      rw [res_at fi]
      exact .tup upd_same (.cons (.str _) (.cons (.int _) .nil))
    · refine q p _ (x'.trans (Ext.new hp)) ?_
      rw [res_all al]
      exact .tup upd_same (.cons (.str _) (.cons (.lst (Ext.new hp _ _ hl) (ra.mono (Ext.new hp))) .nil))
abbrev sWr : Stmt := top 48
abbrev NWr : List Str := ["_law_outcomes_here", "_law_told_here", "e"]
theorem scWr : FnScope NWr ["_law_outcomes_here"] (defScope sWr) := ⟨rfl, rfl, rfl, by decide +kernel, rfl, by decide +kernel, by decide +kernel⟩
def spWr (K : Frag) : Sp := fun vs H Q _ => ∃ v, vs = [v] ∧ ((NoK K H v "list" ∧ Pr H "folk" v Q) ∨ (∃ a xs bs i, v = .ref a ∧ H a = some (.lst xs) ∧ OtAll K H xs bs ∧ FirstB bs i ∧ Pr H "outcome" (.int (i : Nat)) Q) ∨
  ∃ a xs os, v = .ref a ∧ H a = some (.lst xs) ∧ RdsAll H xs (os.map oD2) ∧ OsOk os ∧ os.length ≤ 2000 ∧ Pr H "told" (.str (txtO os)) Q)
def hWr (K : Frag) (D CF CO : Addr) : TH := hAs K CF 2 (thW K "folk" "found") (hAs K CO 2 (thW K "outcome" "place") (hNo K D thO hNil))
def tbWr (K : Frag) (CF CO : Addr) (E : XK) : TS := tAsg (tTup (tCons (tC (.str "told")) (tCons (tCall (spOsT K CF CO) [] E (tCons (tVar 0) tNil)) tNil))) (gName 1)
theorem wr_der (Z : KitU K mg D CO CF CT) (A1 : Df P w K mg base (CXE P w) 6 "outcomes_text" ["outcomes"] (spOsT K CF CO) a1 d1) (hr : Room 6 (A.deeper (PyProof.Rows.envOfC "_law_written" (defScope sWr) s.heap.objs.size f cdv))) :
    Bx (PSs (cxOf CX0 P w K mg base NWr "_law_written" (defScope sWr) f cdv A outer s H E).nox (defBody sWr) (tSeq (tAsg (tC .non) (gName 1)) (tSeq (tTryN (tbWr K CF CO) (hWr K D CF CO)) (tRet (tVar 1))))) := by
  have nd := scWr.nd
  exact bxs_cons (bx_set (i := 1) nd rfl (Or.inl rfl) ⟨pe_non⟩) (bxs_cons ⟨ps_tryN (tb := tbWr K CF CO) (th := hWr K D CF CO) rfl rfl
      (fun σ E' pn xe hp => pxs_set (i := 1) nd rfl (Or.inl rfl) (px_tup (pxa_cons (px_of pe_str) (pxa_cons (px_call (E := E') A1.G hr rfl A1.m A1.kp A1.b .nil hp (pxa_of (pa_cons (pv 0) pa_nil))) (pxa_of pa_nil)))))
      (phs_as (i := 2) nd rfl rfl Z.cF rfl Z.mF (fun x => pss_one (ps_set (i := 1) nd rfl (Or.inl rfl) (pe_tup (pa_cons pe_str (pa_cons (pe_errFT (pv 2) rfl) pa_nil)))))
        (phs_as (i := 2) nd rfl rfl Z.cO rfl Z.mO (fun x => pss_one (ps_set (i := 1) nd rfl (Or.inl rfl) (pe_tup (pa_cons pe_str (pa_cons (pe_errFT (pv 2) rfl) pa_nil)))))
        (phs_no Z.cD rfl Z.mD (fun x => pss_one (ps_set (i := 1) nd rfl (Or.inl rfl) (pe_tup (pa_cons pe_str (pa_cons pe_non pa_nil))))) phs_nil)))⟩ (bxs_one ⟨ps_ret (pv 1)⟩))
theorem ok_wr (F : Fun K "_law_written" "_law_written" sWr f fd) (Z : KitU K mg D CO CF CT) (A1 : Df P w K mg base (CXE P w) 6 "outcomes_text" ["outcomes"] (spOsT K CF CO) a1 d1) : FnOk P w K mg base CX0 7 f fd ["_law_outcomes_here"] (spWr K) := by
  refine F.ok scWr (fun vs H Q E h => ?_) (fun cdv A outer s H vs Q E hr h => ?_)
  · obtain ⟨_, rfl, _⟩ := h
    rfl
  obtain ⟨v, rfl, h⟩ := h
  obtain ⟨der⟩ := wr_der Z A1 hr (f := f) (cdv := cdv) (A := A) (outer := outer) (s := s) (H := H) (E := E) (P := P) (w := w) (base := base)
  refine ⟨_, der, ?_⟩
  refine ⟨_, rfl, v, rfl, ?_⟩
  rcases h with ⟨nk, q⟩ | ⟨a, xs, bs, i, rfl, ha, ot, fb, q⟩ | ⟨a, xs, os, rfl, ha, ra, ok, ln, q⟩
  · refine .inl ⟨nk, err_at fun e dx H1 x1 fe fd => ⟨e, CF, rfl, rfl, true, Z.ff, itT ⟨_, rfl, e, CF, dx, _, _, rfl, fe, fd, rfl, Z.fF.it, Z.fF.hd, Z.fF.nf, by show 2 ≤ sizeLine; decide, fun l3 hl3 => ?_⟩⟩⟩
    exact ⟨_, rfl, q l3 _ (x1.trans (Ext.new hl3)) upd_same⟩
  · refine .inr (.inl ⟨a, xs, bs, i, rfl, ha, ot, fb, fun H' x' => err_at fun e dx H1 x1 fe fd => ⟨e, CO, rfl, rfl, false, Z.o_f, itF ⟨true, Z.oo, itT ⟨_, rfl, e, CO, dx, _, _, rfl, fe, fd, rfl, Z.fO.it, Z.fO.hd, Z.fO.nf, by show 2 ≤ sizeLine; decide, fun l3 hl3 => ?_⟩⟩⟩⟩)
    exact ⟨_, rfl, q l3 _ ((x'.trans x1).trans (Ext.new hl3)) upd_same⟩
  · refine .inr (.inr ⟨a, xs, os, rfl, ha, ra, ok, ln, fun H' x' => ⟨by show 2 ≤ sizeLine; decide, fun p hp => ⟨_, rfl, ?_⟩⟩⟩)
    exact q p _ (x'.trans (Ext.new hp)) upd_same
end
end My
set_option Elab.async false
set_option linter.all false
set_option maxRecDepth 100000
set_option maxHeartbeats 1000000
set_option exponentiation.threshold 10000
namespace My
open PySem PySem.W L2
section
variable {P : Program} {w : World} {K : Frag} {mg : Str → Option Value} {base : Heap}
abbrev sTake : Stmt := top 42
abbrev stTk (i : Nat) : Stmt := (defBody sTake).getD i (.Pass ⟨0, 0, 0, 0⟩)
def spTake (K : Frag) : Sp := fun vs H Q _ => ∃ (s : Addr) (ns : List Int) (p : Addr) (m : Int), vs = [.ref s, .ref p, .int m] ∧ SqL K H s (ns.map V.int) ∧ ns.length ≤ 63 ∧ s ≠ p ∧ BoxAt H p ∧ 0 < m ∧ m < 1073741824 ∧ ∀ (r : Int) (H' : Hp), 0 ≤ r → r < m → BoxAt H' p → Kept H H' p → (∀ b, H b = none → H' b = none) → Q (.int r) H'
abbrev NTk : List Str := ["_law_script", "_law_pen", "_law_many", "_law_cell", "_law_found", "_law_number_here"]
theorem scT : FnScope NTk ["_law_script", "_law_pen", "_law_many"] (defScope sTake) := ⟨rfl, rfl, rfl, by decide +kernel, rfl, by decide +kernel, by decide +kernel⟩
theorem noneUpd {H : Hp} {p : Addr} {o u : HO} (h : H p = some u) : ∀ b, H b = none → upd H p o b = none := fun b hb => by
  rw [upd_ne (fun e => by subst e; rw [h] at hb; cases hb)]; exact hb
def tPx (K : Frag) (i : Int) : TE := tOp (rIxL K) (tVar 1) (tC (.int i))
def tSetP (i : Int) (te : TE) : TS := tAsg te (gSub (tVar 1) (tC (.int i)) rSetL)
def tMin2 (K : Frag) : TE := tCB (fun xs H Q => ∃ i j, xs = [.int i, .int j] ∧ Q (.int (if j < i then j else i)) H) (tCons (tCB (fun xs H Q => ∃ p ys, xs = [.ref p] ∧ (SqL K H p ys ∨ SqT K H p ys) ∧ Q (.int ys.length) H) (tCons (tVar 0) tNil)) (tCons (tC (.int 63)) tNil))
def tIn (K : Frag) : TS := tSeq (tAsg (tOp (rIxL K) (tVar 0) (tPx K 0)) (gName 3)) (tSeq (tAugS (tVar 1) (tC (.int 0)) (tC (.int 1)) (rGetL K) (ipI fun i j => i + j) rSetL)
  (tSeq (tSetP 2 (tOp (rI (fun _ j => 0 < j) fun i j => .int (i % j)) (tOp (rI0 fun i j => .int (i + j)) (tOp (rI0 fun i j => .int (i + j)) (tOp (rI CMul fun i j => .int (i * j)) (tPx K 2) (tC (.int 48271))) (tOp (rI (fun _ j => 0 < j) fun i j => .int (i % j)) (tVar 3) (tC (.int 2147483629)))) (tPx K 0)) (tC (.int 2147483647))))
  (tIfS (tB (tOp (rI0 fun i j => .bl (decide (j ≤ i))) (tVar 3) (tOp (rI CPow fun i j => .int (i ^ j.toNat)) (tC (.int 10)) (tC (.int 18))))) (tSetP 1 (tVar 3)) tNext)))
def tTk0 (K : Frag) : TS := tIfS (tAnd (tB (tOp rEq (tPx K 1) (tC (.int 0)))) (tB (tOp (rI0 fun i j => .bl (decide (i < j))) (tPx K 0) (tMin2 K)))) (tIn K) tNext
def tTk1 (K : Frag) : TS := tIfS (tB (tOp (rI0 fun i j => .bl (decide (i > j))) (tPx K 1) (tC (.int 0)))) (tSeq (tAsg (tOp (rI (fun _ j => 0 < j) fun i j => .int (i % j)) (tPx K 1) (tVar 2)) (gName 4)) (tSeq (tSetP 1 (tOp (rI CDiv fun i j => .int (i / j)) (tPx K 1) (tVar 2))) (tRet (tVar 4)))) tNext
def tTk2 (K : Frag) : TS := tSetP 2 (tOp (rI (fun _ j => 0 < j) fun i j => .int (i % j)) (tOp (rI0 fun i j => .int (i + j)) (tOp (rI CMul fun i j => .int (i * j)) (tPx K 2) (tC (.int 69621))) (tC (.int 1013904223))) (tC (.int 2147483647)))
def tTk3 (K : Frag) : TS := tAsg (tOp (rI (fun _ j => 0 < j) fun i j => .int (i % j)) (tOp (rI CMul fun i j => .int (i * j)) (tPx K 2) (tPx K 2)) (tC (.int 2147483629))) (gName 5)
def tTk4 (K : Frag) : TS := tRet (tOp (rI (fun _ j => 0 < j) fun i j => .int (i % j)) (tOp (rI CDiv fun i j => .int (i / j)) (tOp (rI (fun _ j => 0 < j) fun i j => .int (i % j)) (tOp (rI CMul fun i j => .int (i * j)) (tOp (rI0 fun i j => .int (i + j)) (tVar 5) (tOp (rI CDiv fun i j => .int (i / j)) (tPx K 2) (tC (.int 16)))) (tOp (rI0 fun i j => .int (i + j)) (tVar 5) (tC (.int 3)))) (tC (.int 2147483587))) (tC (.int 7))) (tVar 2))
def tTake (K : Frag) : TS := tSeq (tTk0 K) (tSeq (tTk1 K) (tSeq (tTk2 K) (tSeq (tTk3 K) (tTk4 K))))
variable {f : Addr} {cdv : Value} {A : Around} {outer : List Env} {s : Shared} {H : Hp} {E : XK}
theorem tk_0 (ml : mg "len" = none) (mm : mg "min" = none) : Bx (PS (cxOf CX0 P w K mg base NTk "_law_take" (defScope sTake) f cdv A outer s H E).nox (stTk 0) (tTk0 K)) := by
  have nd := scT.nd
  exact bx_if ⟨PW.pt (pw_and (pt_cmpR op_eq (pe_ix ix_list (pv 1) pe_int (fun _ _ => rfl)) pe_int (nomark _)) (pw_and1 (pt_cmpR op_lt (pe_ix ix_list (pv 1) pe_int (fun _ _ => rfl)) (pe_callB (call_min2 rfl) rfl mm PyProof.Rows.boot_min (pa_cons (pe_callB call_len_seq rfl ml PySem.boot_len (pa_cons (pv 0) pa_nil)) (pa_cons pe_int pa_nil))) (nomark _))))⟩
    (bxs_cons (bx_set (i := 3) nd rfl (Or.inl rfl) ⟨pe_ix ix_list (pv 0) (pe_ix ix_list (pv 1) pe_int (fun _ _ => rfl)) (fun _ _ => rfl)⟩) (bxs_cons ⟨ps_augS (pv 1) pe_int get_list pe_int ip_add set_list⟩
    (bxs_cons ⟨ps_asg (pe_op op_mod (pe_op op_add (pe_op op_add (pe_op op_mul (pe_ix ix_list (pv 1) pe_int (fun _ _ => rfl)) pe_int) (pe_op op_mod (pv 3) pe_int)) (pe_ix ix_list (pv 1) pe_int (fun _ _ => rfl))) pe_int) (pg_sub (pv 1) pe_int set_list)⟩
    (bxs_one ⟨ps_if (pt_cmpR op_ge (pv 3) (pe_op op_pow pe_int pe_int) (nomark _)) (pss_one (ps_asg (pv 3) (pg_sub (pv 1) pe_int set_list))) pss_nil⟩)))) bxs_nil
theorem tk_1 : Bx (PS (cxOf CX0 P w K mg base NTk "_law_take" (defScope sTake) f cdv A outer s H E).nox (stTk 1) (tTk1 K)) := by
  have nd := scT.nd
  exact bx_if ⟨pt_cmpR op_gt (pe_ix ix_list (pv 1) pe_int (fun _ _ => rfl)) pe_int (nomark _)⟩ (bxs_cons (bx_set (i := 4) nd rfl (Or.inl rfl) ⟨pe_op op_mod (pe_ix ix_list (pv 1) pe_int (fun _ _ => rfl)) (pv 2)⟩)
    (bxs_cons ⟨ps_asg (pe_op op_fdiv (pe_ix ix_list (pv 1) pe_int (fun _ _ => rfl)) (pv 2)) (pg_sub (pv 1) pe_int set_list)⟩ (bxs_one ⟨ps_ret (pv 4)⟩))) bxs_nil
theorem tk_2 : Bx (PS (cxOf CX0 P w K mg base NTk "_law_take" (defScope sTake) f cdv A outer s H E).nox (stTk 2) (tTk2 K)) :=
  ⟨ps_asg (pe_op op_mod (pe_op op_add (pe_op op_mul (pe_ix ix_list (pv 1) pe_int (fun _ _ => rfl)) pe_int) pe_int) pe_int) (pg_sub (pv 1) pe_int set_list)⟩
theorem tk_3 : Bx (PS (cxOf CX0 P w K mg base NTk "_law_take" (defScope sTake) f cdv A outer s H E).nox (stTk 3) (tTk3 K)) :=
  bx_set (i := 5) scT.nd rfl (Or.inl rfl) ⟨pe_op op_mod (pe_op op_mul (pe_ix ix_list (pv 1) pe_int (fun _ _ => rfl)) (pe_ix ix_list (pv 1) pe_int (fun _ _ => rfl))) pe_int⟩
theorem tk_4 : Bx (PS (cxOf CX0 P w K mg base NTk "_law_take" (defScope sTake) f cdv A outer s H E).nox (stTk 4) (tTk4 K)) :=
  ⟨ps_ret (pe_op op_mod (pe_op op_fdiv (pe_op op_mod (pe_op op_mul (pe_op op_add (pv 5) (pe_op op_fdiv (pe_ix ix_list (pv 1) pe_int (fun _ _ => rfl)) pe_int)) (pe_op op_add (pv 5) pe_int)) pe_int) pe_int) (pv 2))⟩
theorem tk_der (ml : mg "len" = none) (mm : mg "min" = none) : Bx (PSs (cxOf CX0 P w K mg base NTk "_law_take" (defScope sTake) f cdv A outer s H E).nox (defBody sTake) (tTake K)) :=
  bxs_cons (tk_0 ml mm) (bxs_cons tk_1 (bxs_cons tk_2 (bxs_cons tk_3 (bxs_one tk_4))))
end
end My
set_option Elab.async false
set_option linter.all false
set_option maxRecDepth 100000
set_option maxHeartbeats 1000000
set_option exponentiation.threshold 10000
namespace My
open PySem PySem.W L2
section
variable {P : Program} {w : World} {K : Frag} {mg : Str → Option Value} {base : Heap} {H : Hp} {D : Ends}
theorem rd_px {Q : VK} {σ : St} {p : Addr} {xs : List V} {v : V} (k : Nat) (h1 : σ[1]? = some (some (.ref p))) (hp : H p = some (.lst xs)) (hv : xs[k]? = some v) (q : Q v H) : tPx K (k : Nat) σ H Q := ⟨_, h1, p, _, _, _, rfl, rfl, SqL.of hp, atI_nat hv, q⟩
theorem cm31 {c : Int} (h0 : 0 ≤ c) (h1 : c < 2147483647) (y : Int) : CMul c y := .inl ⟨Int.lt_of_lt_of_le (by decide) h0, Int.lt_trans h1 (by decide)⟩
theorem rd_setP {σ : St} {p : Addr} {xs : List V} {te : TE} {v : V} (k : Nat) (h1 : σ[1]? = some (some (.ref p))) (hp : H p = some (.lst xs)) (hk : k < xs.length) (ht : ∀ R : VK, R v H → te σ H R) (nx : D.nx σ (upd H p (.lst (xs.set k v)))) : tSetP (k : Nat) te D σ H := by
  refine ht _ ⟨_, h1, p, xs, _, k, rfl, rfl, hp, ?_, nx⟩
  unfold ixN
  rw [if_pos (by omega), if_pos (by omega), Int.toNat_natCast]
theorem rd_tk0 {sA p : Addr} {ns : List Int} {o2 o3 o4 o5 : Option V} (hs : SqL K H sA (ns.map V.int)) (l63 : ns.length ≤ 63) (bx : BoxAt H p) (nx : ∀ o3 H', BoxAt H' p → Kept H H' p → (∀ b, H b = none → H' b = none) → D.nx [some (.ref sA), some (.ref p), o2, o3, o4, o5] H') :
    tTk0 K D [some (.ref sA), some (.ref p), o2, o3, o4, o5] H := by
  obtain ⟨a, b, c, hp, a0, b0, c0, c1⟩ := id bx.ex
  refine rd_px 1 rfl hp rfl ⟨rfl, _, rfl, ?_⟩
  by_cases eb : b = 0
  rotate_left
  · rw [decide_eq_false (fun z => eb (V.int.inj z))]
    exact itF (itF (nx _ H bx (Kept.refl _ _) fun _ h => h))
  rw [decide_eq_true (by rw [eb])]
  refine itT (rd_px 0 rfl hp rfl ⟨_, rfl, sA, _, rfl, .inl hs, _, _, rfl, _, _, rfl, rfl, _, rfl, ?_⟩)
  refine ite2 (fun cc => ?_) (fun cc => nx _ H bx (Kept.refl _ _) fun _ h => h)
  have cl : a < ns.length := by
    have := of_decide_eq_true cc
    rw [List.length_map] at this
    split at this <;> omega
  have ha : a.toNat < ns.length := by omega
  have ea : a = ((a.toNat : Nat) : Int) := by omega
  have at1 : atI (ns.map V.int) a = some (.int ns[a.toNat]) := by
    have e := atI_nat (xs := ns.map V.int) (j := a.toNat) (v := .int ns[a.toNat]) (by rw [List.getElem?_map, List.getElem?_eq_getElem ha]; rfl)
    rwa [← ea] at e
  refine ⟨_, rfl, rd_px 0 rfl hp rfl ⟨sA, _, _, _, rfl, rfl, hs, at1, ?_⟩⟩
  generalize ns[a.toNat] = cell
  refine ⟨_, rfl, p, _, 0, _, rfl, rfl, SqL.of hp, rfl, a, 1, rfl, rfl, p, _, _, 0, rfl, rfl, hp, rfl, ?_⟩
  have f1 : upd H p (.lst [.int (a + 1), .int b, .int c]) p = some (.lst [.int (a + 1), .int b, .int c]) := upd_same
  show tSeq _ _ D _ (upd H p (.lst [.int (a + 1), .int b, .int c]))
  refine rd_setP (σ := [some (.ref sA), some (.ref p), o2, some (.int cell), o4, o5]) (te := tOp (rI (fun _ j => 0 < j) fun i j => .int (i % j)) (tOp (rI0 fun i j => .int (i + j)) (tOp (rI0 fun i j => .int (i + j)) (tOp (rI CMul fun i j => .int (i * j)) (tPx K 2) (tC (.int 48271))) (tOp (rI (fun _ j => 0 < j) fun i j => .int (i % j)) (tVar 3) (tC (.int 2147483629)))) (tPx K 0)) (tC (.int 2147483647))) (v := .int ((c * 48271 + cell % 2147483629 + (a + 1)) % 2147483647)) 2 rfl f1 (by show 2 < 3; decide) (fun R r => rd_px 2 rfl f1 rfl ⟨_, _, rfl, rfl, cm31 c0 c1 _, _, rfl, _, _, rfl, rfl, (by show (0 : Int) < 2147483629; decide), _, _, rfl, rfl, rd_px 0 rfl f1 rfl ⟨_, _, rfl, rfl, _, _, rfl, rfl, (by show (0 : Int) < 2147483647; decide), r⟩⟩) ?_
  rw [upd_upd]
  have m0 : 0 ≤ (c * 48271 + cell % 2147483629 + (a + 1)) % 2147483647 := Int.emod_nonneg _ (by decide)
  have m1 : (c * 48271 + cell % 2147483629 + (a + 1)) % 2147483647 < 2147483647 := Int.emod_lt_of_pos _ (by decide)
  generalize (c * 48271 + cell % 2147483629 + (a + 1)) % 2147483647 = c' at m0 m1 ⊢
  rw [show ([V.int (a + 1), V.int b, V.int c].set 2 (V.int c')) = [V.int (a + 1), V.int b, V.int c'] from rfl]
  have f2 : upd H p (.lst [.int (a + 1), .int b, .int c']) p = some (.lst [.int (a + 1), .int b, .int c']) := upd_same
  refine ⟨_, rfl, 10, 18, rfl, rfl, ⟨by decide, by decide, by decide⟩, _, _, rfl, rfl, _, rfl, ?_⟩
  refine ite2 (fun c2 => ?_) (fun c2 => ?_)
  · have big : (10 : Int) ^ (18 : Int).toNat ≤ cell := of_decide_eq_true c2
    have big0 : (0 : Int) ≤ (10 : Int) ^ (18 : Int).toNat := by decide
    refine rd_setP (v := .int cell) 1 rfl f2 (by show 1 < 3; decide) (fun R r => ⟨_, rfl, r⟩) ?_
    rw [upd_upd]
    exact nx _ _ ⟨_, _, _, upd_same, by omega, by omega, m0, m1⟩ (keptUpd _) (noneUpd hp)
  · exact nx _ _ ⟨_, _, _, f2, by omega, b0, m0, m1⟩ (keptUpd _) (noneUpd hp)
theorem ok_take {f : Addr} {fd : FuncData} (F : Fun K "_law_take" "_law_take" sTake f fd) (ml : mg "len" = none) (mm : mg "min" = none) : FnOk P w K mg base CX0 1 f fd ["_law_script", "_law_pen", "_law_many"] (spTake K) := by
  refine F.ok scT (fun vs H Q E h => ?_) (fun cdv A outer s H vs Q E hr h => ?_)
  · obtain ⟨_, _, _, _, rfl, _⟩ := h
    rfl
  obtain ⟨sA, ns, p, m, rfl, hs, l63, ne, bx0, m0, m1, q0⟩ := h
  obtain ⟨der⟩ := tk_der ml mm (f := f) (cdv := cdv) (A := A) (outer := outer) (s := s) (H := H) (E := E) (P := P) (w := w) (base := base)
  refine ⟨_, der, ?_⟩
  refine rd_tk0 (D := ⟨_, Q, _, _⟩) hs l63 bx0 fun o3 H1 bx k1 n1 => ?_
  have q : ∀ (r : Int) (H' : Hp), 0 ≤ r → r < m → BoxAt H' p → Kept H1 H' p → (∀ b, H1 b = none → H' b = none) → Q (.int r) H' := fun r H' a b c d e => q0 r H' a b c (k1.trans d) fun b h => e b (n1 b h)
  obtain ⟨a, b, c, hp, a0, b0, c0, c1⟩ := id bx.ex
  refine rd_px 1 rfl hp rfl ⟨_, _, rfl, rfl, _, rfl, ?_⟩
  refine ite2 (fun cc => ?_) (fun cc => ?_)
  · have b1 : 0 < b := of_decide_eq_true cc
    refine rd_set (te := tOp (rI (fun _ j => 0 < j) fun i j => .int (i % j)) (tPx K 1) (tVar 2)) (i := 4) (D := ⟨_, Q, _, _⟩) (rd_px 1 rfl hp rfl ⟨_, rfl, _, _, rfl, rfl, m0, ?_⟩)
    refine rd_setP (D := ⟨_, Q, _, _⟩) (v := .int (b / m)) 1 rfl hp (by show 1 < 3; decide) (fun R r => rd_px 1 rfl hp rfl ⟨_, rfl, _, _, rfl, rfl, ⟨m0, m1⟩, r⟩) ?_
    exact ⟨_, rfl, q _ _ (Int.emod_nonneg _ (by omega)) (Int.emod_lt_of_pos _ m0) ⟨_, _, _, upd_same, a0, Int.ediv_nonneg b0 (by omega), c0, c1⟩ (keptUpd _) (noneUpd hp)⟩
  · refine rd_setP (σ := [some (.ref sA), some (.ref p), some (.int m), o3, none, none]) (te := tOp (rI (fun _ j => 0 < j) fun i j => .int (i % j)) (tOp (rI0 fun i j => .int (i + j)) (tOp (rI CMul fun i j => .int (i * j)) (tPx K 2) (tC (.int 69621))) (tC (.int 1013904223))) (tC (.int 2147483647))) (D := ⟨_, Q, _, _⟩) (v := .int ((c * 69621 + 1013904223) % 2147483647)) 2 rfl hp (by show 2 < 3; decide) (fun R r => rd_px 2 rfl hp rfl ⟨_, _, rfl, rfl, cm31 c0 c1 _, _, _, rfl, rfl, _, _, rfl, rfl, (by show (0 : Int) < 2147483647; decide), r⟩) ?_
    have e0 : 0 ≤ (c * 69621 + 1013904223) % 2147483647 := Int.emod_nonneg _ (by decide)
    have e1 : (c * 69621 + 1013904223) % 2147483647 < 2147483647 := Int.emod_lt_of_pos _ (by decide)
    generalize (c * 69621 + 1013904223) % 2147483647 = c' at e0 e1 ⊢
    have f2 : upd H1 p (.lst [.int a, .int b, .int c']) p = some (.lst [.int a, .int b, .int c']) := upd_same
    have bx2 : BoxAt (upd H1 p (.lst [.int a, .int b, .int c'])) p := ⟨_, _, _, f2, a0, b0, e0, e1⟩
    have q2 := fun r h0 h1 => q r (upd H1 p (.lst [.int a, .int b, .int c'])) h0 h1 bx2 (keptUpd _) (noneUpd hp)
    show tSeq _ _ _ _ (upd H1 p (.lst [.int a, .int b, .int c']))
    generalize upd H1 p (.lst [.int a, .int b, .int c']) = H2 at f2 bx2 q2 ⊢
    refine rd_set (te := tOp (rI (fun _ j => 0 < j) fun i j => .int (i % j)) (tOp (rI CMul fun i j => .int (i * j)) (tPx K 2) (tPx K 2)) (tC (.int 2147483629))) (i := 5) (D := ⟨_, Q, _, _⟩) (rd_px 2 rfl f2 rfl (rd_px 2 rfl f2 rfl ⟨_, _, rfl, rfl, cm31 e0 e1 _, _, _, rfl, rfl, (by show (0 : Int) < 2147483629; decide), ?_⟩))
    have n0 : 0 ≤ c' * c' % 2147483629 := Int.emod_nonneg _ (by decide)
    have n1 : c' * c' % 2147483629 < 2147483629 := Int.emod_lt_of_pos _ (by decide)
    show tTk4 K _ [some (.ref sA), some (.ref p), some (.int m), o3, none, some (.int (c' * c' % 2147483629))] H2
    generalize c' * c' % 2147483629 = n at n0 n1 ⊢
    have g0 : 0 ≤ c' / 16 := Int.ediv_nonneg e0 (by decide)
    have g1 : c' / 16 < 2147483647 := Int.lt_of_le_of_lt (Int.ediv_le_self _ e0) e1
    have cm : CMul (n + c' / 16) (n + 3) := .inl ⟨by omega, by omega⟩
    refine ⟨_, rfl, rd_px 2 rfl f2 rfl ⟨_, _, rfl, rfl, ⟨(by show (0 : Int) < 16; decide), (by show (16 : Int) < 1073741824; decide)⟩, _, _, rfl, rfl, _, rfl, _, _, rfl, rfl, _, _, rfl, rfl, cm, _, _, rfl, rfl, (by show (0 : Int) < 2147483587; decide), _, _, rfl, rfl, ⟨(by show (0 : Int) < 7; decide), (by show (7 : Int) < 1073741824; decide)⟩, _, rfl, _, _, rfl, rfl, m0, ?_⟩⟩
    exact q2 _ (Int.emod_nonneg _ (by omega)) (Int.emod_lt_of_pos _ m0)
end
end My
set_option Elab.async false
set_option linter.all false
set_option maxRecDepth 100000
set_option maxHeartbeats 1000000
set_option exponentiation.threshold 10000
namespace My
open PySem PySem.W L2
structure Sc (K : Frag) (H : Hp) (s p : Addr) (ns : List Int) : Prop where
  sq : SqL K H s (ns.map V.int)
  l63 : ns.length ≤ 63
  ne : s ≠ p
  bx : BoxAt H p
theorem Sc.kept {K : Frag} {H H' : Hp} {s p : Addr} {ns : List Int} (c : Sc K H s p ns) (k : Kept H H' p) (b : BoxAt H' p) : Sc K H' s p ns := ⟨My.SqL.kp c.sq k c.ne, c.l63, c.ne, b⟩
theorem Sc.ext {K : Frag} {H H' : Hp} {s p : Addr} {ns : List Int} (c : Sc K H s p ns) (x : Ext H H') : Sc K H' s p ns := c.kept (x.kept p) (c.bx.ext x)
def tTk (K : Frag) (te : TE) : TE := tCall (spTake K) [] E0 (tCons (tVar 0) (tCons (tVar 1) (tCons te tNil)))
theorem rd_take {K : Frag} {H : Hp} {σ : St} {s p : Addr} {ns : List Int} {te : TE} {m : Int} {Q : VK} (c : Sc K H s p ns) (h0 : σ[0]? = some (some (.ref s))) (h1 : σ[1]? = some (some (.ref p))) (hm : ∀ R : VK, R (.int m) H → te σ H R) (m0 : 0 < m) (m1 : m < 1073741824) (q : ∀ r H', 0 ≤ r → r < m → Sc K H' s p ns → Kept H H' p → Q (.int r) H') : tTk K te σ H Q :=
  ⟨_, h0, _, h1, hm _ ⟨s, ns, p, m, rfl, c.sq, c.l63, c.ne, c.bx, m0, m1, fun r H' a b d e _ => q r H' a b (c.kept e d) e⟩⟩
end My
set_option Elab.async false
set_option linter.all false
set_option maxRecDepth 100000
set_option maxHeartbeats 1000000
set_option exponentiation.threshold 10000
namespace My
open PySem PySem.W L2
section
variable {P : Program} {w : World} {K : Frag} {mg : Str → Option Value} {base : Heap} {f a1 : Addr} {fd d1 : FuncData}
abbrev sLT : Stmt := top 44
theorem scLT : FnScope ["_law_outcomes_here"] ["_law_outcomes_here"] (defScope sLT) := ⟨rfl, rfl, rfl, by decide +kernel, rfl, by decide +kernel, by decide +kernel⟩
def spLT : Sp := fun vs H Q _ => ∃ a xs os, vs = [.ref a] ∧ H a = some (.lst xs) ∧ RdsAll H xs (os.map oD2) ∧ OsOk os ∧ os.length ≤ 2000 ∧ ∀ H', Ext H H' → Q (.str (txtO os)) H'
abbrev scLTC : Scope := { kind := .function, names := [(".0", .local), ("_law_number_here", .local), ("_law_sure", .local), ("str", .globalImplicit), ("int", .globalImplicit)], isGenerator := false, isCoroutine := false }
theorem compLT {X : Cx} : CompG X scLTC [] ["_law_number_here", "_law_sure"] [] [] := by
  refine ⟨rfl, rfl, by decide +kernel, by decide +kernel, by decide +kernel, (fun z c h => nomatch h), (fun z h => ?_), by decide +kernel, (fun k z h => by simp at h), rfl⟩
  exfalso
  have h' : List.lookup z [((".0" : Str), NameKind.local), (("_law_number_here" : Str), NameKind.local), (("_law_sure" : Str), NameKind.local), (("str" : Str), NameKind.globalImplicit), (("int" : Str), NameKind.globalImplicit)] = some .cell ∨ List.lookup z [((".0" : Str), NameKind.local), (("_law_number_here" : Str), NameKind.local), (("_law_sure" : Str), NameKind.local), (("str" : Str), NameKind.globalImplicit), (("int" : Str), NameKind.globalImplicit)] = some .free := h
  simp only [List.lookup_cons, List.lookup_nil] at h'
  repeat' (split at h')
  all_goals simp at h'
theorem ndLT : ((["_law_number_here", "_law_sure"] : List Str) ++ ([] : List Str)).Nodup := by decide +kernel
def rStrI : List V → Hp → VK → Prop := fun xs H Q => ∃ i, xs = [.int i] ∧ i.natAbs.log2 < 1920 ∧ Q (.str (toString i)) H
def rAddS : R2 := fun x y H Q => ∃ i j, x = .str i ∧ y = .str j ∧ i.length + j.length ≤ sizeLine ∧ Q (.str (i ++ j)) H
def tPl : TE := tLst (tCons (tC (.str "+")) (tCons (tC (.str "")) tNil))
def tWd (K : Frag) : TE := tOp rAddS (tCB rStrI (tCons (tVar 0) tNil)) (tOp (rIxL K) tPl (tCB rInt1 (tCons (tVar 1) tNil)))
theorem ok_lt (F : Fun K "_law_text" "_law_text" sLT f fd) (ms : mg "str" = none) (mi : mg "int" = none) : FnOk P w K mg base CX0 1 f fd ["_law_outcomes_here"] spLT := by
  refine F.ok scLT (fun vs H Q E h => ?_) (fun cdv A outer s H vs Q E hr h => ?_)
  · obtain ⟨_, _, _, rfl, _⟩ := h
    rfl
  obtain ⟨a, xs, os, rfl, ha, ra, ok, l2, q⟩ := h
  refine ⟨_, pss_one (ps_ret (pe_bm PySem.F.plainAttrs_str PySem.F.slot_str_join PySem.F.type_str_join mt_join pe_str (pa_cons (pe_lcG (te := tWd K) (g := gTup K 2 (gCons (gName 0) (gCons (gName 1) gNil))) rfl compLT (pi_list (pv 0)) (fun s H C fp => by exact pg_tup rfl (pgs_cons (pg_name (i := 0) ndLT rfl (.inl rfl)) (pgs_cons (pg_name (i := 1) ndLT rfl (.inl rfl)) pgs_nil)))
    (fun s H C fp => by exact pe_op op_add_str (pe_callTy call_str_int rfl ms PyProof.Rows.boot_str (pa_cons (pv 0) pa_nil)) (pe_ix ix_list (pe_lst (pa_cons pe_str (pa_cons pe_str pa_nil))) (pe_callTy call_int1 rfl mi PyProof.Rows.boot_int (pa_cons (pv 1) pa_nil)) (fun _ _ => rfl)))) pa_nil))), ?_⟩
  have lx := ra.length
  rw [List.length_map] at lx
  obtain ⟨j1, j2⟩ := txt_join ok l2
  refine ⟨(rfl : ("str" : String) = "str"), _, rfl, a, rfl, ⟨_, SqL.of ha⟩, fun D hD => ?_⟩
  refine lcG_list (a := a) (xs := xs) (fun i ys H' => Ext H H' ∧ ys = ((os.take i).map wordT).map V.str) (by rw [sizeLine_eq]; omega) ⟨Ext.new hD, rfl⟩ (fun i ys H' pv => SqL.of (pv.1 _ _ ha)) ?_ ?_
  · rintro i x ys H' ex ly hDD ⟨x', ey⟩ oss los R k
    obtain ⟨o0, o1, rfl⟩ : ∃ o0 o1, oss = [o0, o1] := by
      match oss, los with
      | [o0, o1], _ => exact ⟨o0, o1, rfl⟩
    obtain ⟨d, ed, rd⟩ := ra.get ex
    rw [List.getElem?_map] at ed
    obtain ⟨o, eo, rfl⟩ := Option.map_eq_some_iff.mp ed
    have hm := ok o (List.mem_of_getElem? eo)
    obtain ⟨p, rfl, hp⟩ := oc_two (rd.mono x')
    have tl := txI_len hm.1 hm.2
    have wl := word_len hm.1 hm.2
    refine ⟨p, _, rfl, SqT.of hp, rfl, _, _, rfl, _, _, rfl, rfl, ⟨[some (.int o.1), some (.bl o.2)], rfl, rfl⟩, ?_⟩
    refine rd_op ⟨_, rfl, _, rfl, log_small hm.1 hm.2, ?_⟩
    refine rd_op ⟨by show 2 ≤ sizeLine; decide, fun l hl => ?_⟩
    have x2 := Ext.new (o := .lst [.str "+", .str ""]) hl
    have g2 : upd H' l (.lst [.str "+", .str ""]) l = some (.lst [.str "+", .str ""]) := upd_same
    show tCB rInt1 (tCons (tVar 1) tNil) _ (upd H' l (.lst [.str "+", .str ""])) _
    generalize upd H' l (.lst [.str "+", .str ""]) = H2 at x2 g2 ⊢
    have fin : ∀ y : Str, txI o.1 ++ y = wordT o → rAddS (.str (txI o.1)) (.str y) H2 R := fun y e => by
      refine ⟨_, _, rfl, rfl, ?_, ?_⟩
      · have e2 := strLen_append (txI o.1) y
        rw [e] at e2
        rw [← e2, sizeLine_eq]; omega
      · rw [e]
        refine k _ H2 (x2 _ _ hDD) ⟨ext_upd _ (x'.trans x2) hD, ?_⟩
        rw [take_all eo, List.map_append, List.map_append, ← ey]
        rfl
    refine ⟨_, rfl, .inr ⟨_, rfl, ?_⟩⟩
    cases hs : o.2 with
    | true => exact ⟨l, _, 1, _, rfl, rfl, SqL.of g2, atI_nat (j := 1) rfl, fin _ (by unfold wordT; rw [hs]; rfl)⟩
    | false => exact ⟨l, _, 0, _, rfl, rfl, SqL.of g2, atI_nat (j := 0) rfl, fin _ (by unfold wordT; rw [hs]; rfl)⟩
  · rintro ys H' ly hDD ⟨x', ey⟩
    rw [lx, List.take_length] at ey
    rw [ey] at hDD
    refine ⟨_, D, os.map wordT, rfl, rfl, SqL.of hDD, j1, ?_⟩
    rw [j2]
    exact q H' x'
abbrev sLO : Stmt := top 43
abbrev NLO : List Str := ["_law_script", "_law_pen", "_law_folk", "_law_sure", "_law_wide", "_law_found", "_law_k", "_law_number_here"]
theorem scLO : FnScope NLO ["_law_script", "_law_pen", "_law_folk", "_law_sure"] (defScope sLO) := ⟨rfl, rfl, rfl, by decide +kernel, rfl, by decide +kernel, by decide +kernel⟩
def spLO (K : Frag) : Sp := fun vs H Q _ => ∃ (s p : Addr) (ns : List Int) (n : Nat), vs = [.ref s, .ref p, .int (n : Nat), .bl false] ∧ Sc K H s p ns ∧ n ≤ 1200 ∧ ∀ l xs os H', Sc K H' s p ns → Ext (wo H p) (wo H' p) → l ≠ p → H' l = some (.lst xs) → RdsAll (wo H' p) xs (os.map oD2) → OsOk os → os.length = n → Q (.ref l) H'
def tW0 (K : Frag) : TS := tAsg (tOp (rIxL K) (tLst (tCons (tC (.int 2)) (tCons (tC (.int 5)) (tCons (tC (.int 19)) (tCons (tC (.int 199)) tNil))))) (tTk K (tC (.int 4)))) (gName 4)
def tW1 : TS := tAsg (tLst tNil) (gName 5)
def tWa (K : Frag) : TS := tAsg (tOp (rI0 fun i j => .int (i - j)) (tTk K (tVar 4)) (tOp (rI CDiv fun i j => .int (i / j)) (tVar 4) (tC (.int 2)))) (gName 7)
def tWb (K : Frag) : TS := tDrop (tBM K "list" rAppend (tVar 5) (tCons (tTup (tCons (tVar 7) (tCons (tOrV (tVar 3) (tOp (rI0 fun i j => .bl (decide (i > j))) (tTk K (tC (.int 3))) (tC (.int 0)))) tNil))) tNil))
def tW2 (K : Frag) : TS := tFor (iRng1 (tCons (tVar 2) tNil)) (gName 6) (tSeq (tWa K) (tWb K))
def tLO (K : Frag) : TS := tSeq (tW0 K) (tSeq tW1 (tSeq (tW2 K) (tRet (tVar 5))))
section
variable {cdv : Value} {A : Around} {outer : List Env} {s : Shared} {H : Hp} {E : XK}
theorem lo_der (A1 : Df P w K mg base CX0 1 "_law_take" ["_law_script", "_law_pen", "_law_many"] (spTake K) a1 d1) (mr : mg "range" = none) (hr : Room 1 (A.deeper (PyProof.Rows.envOfC "_law_outcomes" (defScope sLO) s.heap.objs.size f cdv))) : Bx (PSs (cxOf CX0 P w K mg base NLO "_law_outcomes" (defScope sLO) f cdv A outer s H E).nox (defBody sLO) (tLO K)) := by
  have nd := scLO.nd
  exact bxs_cons ⟨ps_set (i := 4) nd rfl (Or.inl rfl) (pe_ix ix_list (pe_lst (pa_cons pe_int (pa_cons pe_int (pa_cons pe_int (pa_cons pe_int pa_nil))))) (pe_call A1.G hr rfl A1.m A1.kp A1.b .nil pass0 (pa_cons (pv 0) (pa_cons (pv 1) (pa_cons pe_int pa_nil)))) (fun _ _ => rfl))⟩
    (bxs_cons ⟨ps_set (i := 5) nd rfl (Or.inl rfl) (pe_lst pa_nil)⟩
    (bxs_cons ⟨ps_for PassesOwn.never rfl (pi_range1 rfl mr (pa_cons (pv 2) pa_nil)) (pg_name (i := 6) nd rfl (Or.inl rfl))
      (pss_cons (ps_set (i := 7) nd rfl (Or.inl rfl) (pe_op op_sub (pe_call A1.G hr rfl A1.m A1.kp A1.b .nil pass0 (pa_cons (pv 0) (pa_cons (pv 1) (pa_cons (pv 4) pa_nil)))) (pe_op op_fdiv (pv 4) pe_int)))
      (pss_one (ps_expr (pe_bm PySem.F.plainAttrs_list PySem.F.slot_list_append PySem.F.type_list_append mt_append (pv 5) (pa_cons (pe_tup (pa_cons (pv 7) (pa_cons (pe_or (pv 3) (pe_one (pe_cmpR op_gt (pe_call A1.G hr rfl A1.m A1.kp A1.b .nil pass0 (pa_cons (pv 0) (pa_cons (pv 1) (pa_cons pe_int pa_nil)))) pe_int (nomark _)))) pa_nil))) pa_nil)))))⟩
    (bxs_one ⟨ps_ret (pv 5)⟩)))
end
theorem Sc.wo' {K : Frag} {H H' : Hp} {s p : Addr} {ns : List Int} (c : Sc K H s p ns) (x : Ext (wo H p) (wo H' p)) (b : BoxAt H' p) : Sc K H' s p ns := by
  refine ⟨?_, c.l63, c.ne, b⟩
  rcases c.sq with (h | ⟨o, h⟩) | h
  · exact .inl (.inl (wo_ext _ _ _ _ (x _ _ (wo_at c.ne h))))
  · exact .inl (.inr ⟨o, wo_ext _ _ _ _ (x _ _ (wo_at c.ne h))⟩)
  · exact .inr h
theorem ok_lo (F : Fun K "_law_outcomes" "_law_outcomes" sLO f fd) (A1 : Df P w K mg base CX0 1 "_law_take" ["_law_script", "_law_pen", "_law_many"] (spTake K) a1 d1) (mr : mg "range" = none) : FnOk P w K mg base CX0 2 f fd ["_law_script", "_law_pen", "_law_folk", "_law_sure"] (spLO K) := by
  refine F.ok scLO (fun vs H Q E h => ?_) (fun cdv A outer s H vs Q E hr h => ?_)
  · obtain ⟨_, _, _, _, rfl, _⟩ := h
    rfl
  obtain ⟨sA, p, ns, n, rfl, sc, hn, q⟩ := h
  obtain ⟨der⟩ := lo_der A1 mr hr (f := f) (cdv := cdv) (A := A) (outer := outer) (s := s) (H := H) (E := E)
  refine ⟨_, der, ?_⟩
  refine rd_set (te := tOp (rIxL K) (tLst (tCons (tC (.int 2)) (tCons (tC (.int 5)) (tCons (tC (.int 19)) (tCons (tC (.int 199)) tNil))))) (tTk K (tC (.int 4)))) (i := 4) (D := ⟨_, Q, _, _⟩) (rd_op ⟨by show 4 ≤ sizeLine; decide, fun l0 h0 => ?_⟩)
  have x0 := Ext.new (o := .lst [V.int 2, .int 5, .int 19, .int 199]) h0
  have g0 : upd H l0 (.lst [V.int 2, .int 5, .int 19, .int 199]) l0 = some (.lst [V.int 2, .int 5, .int 19, .int 199]) := upd_same
  show tTk K (tC (.int 4)) _ (upd H l0 (.lst [V.int 2, .int 5, .int 19, .int 199])) _
  generalize upd H l0 (.lst [V.int 2, .int 5, .int 19, .int 199]) = H0 at x0 g0 ⊢
  have pn0 : l0 ≠ p := fun e => by
    obtain ⟨_, _, _, hp, _⟩ := sc.bx.ex
    rw [e, hp] at h0; cases h0
  refine rd_take (sc.ext x0) rfl rfl (fun R r => r) (by decide) (by decide) fun r H1 r0 r4 sc1 k1 => ?_
  have g1 := k1 _ _ g0 pn0
  obtain ⟨wd, ew, w1, w2⟩ : ∃ wd : Int, ([V.int 2, .int 5, .int 19, .int 199] : List V)[r.toNat]? = some (.int wd) ∧ 2 ≤ wd ∧ wd ≤ 199 := by
    obtain ⟨m, rfl⟩ : ∃ m : Nat, r = (m : Int) := ⟨r.toNat, by omega⟩
    have hm : m < 4 := by omega
    rw [Int.toNat_natCast]
    match m, hm with
    | 0, _ => exact ⟨2, rfl, by decide, by decide⟩
    | 1, _ => exact ⟨5, rfl, by decide, by decide⟩
    | 2, _ => exact ⟨19, rfl, by decide, by decide⟩
    | 3, _ => exact ⟨199, rfl, by decide, by decide⟩
  have er : r = (r.toNat : Int) := by omega
  refine ⟨l0, _, r, .int wd, rfl, rfl, SqL.of g1, by rw [er]; exact atI_nat ew, ?_⟩
  have xa : Ext (wo H p) (wo H1 p) := (wo_ex x0 p).trans (wo_kept k1)
  refine rd_set (te := tLst tNil) (i := 5) (D := ⟨_, Q, _, _⟩) ⟨by show 0 ≤ sizeLine; decide, fun fl hfl => ?_⟩
  have x2 := Ext.new (o := .lst []) hfl
  have g2 : upd H1 fl (.lst []) fl = some (.lst []) := upd_same
  have nf : fl ≠ p := fun e => by
    obtain ⟨_, _, _, hp, _⟩ := sc1.bx.ex
    rw [e, hp] at hfl; cases hfl
  have wofl : wo H p fl = none := by
    cases e : wo H p fl with
    | none => rfl
    | some o => have := wo_ext _ _ _ _ (xa _ _ e); rw [hfl] at this; cases this
  show tSeq (tW2 K) (tRet (tVar 5)) _ [some (.ref sA), some (.ref p), some (.int (n : Nat)), some (.bl false), some (.int wd), some (.ref fl), none, none] (upd H1 fl (.lst []))
  have sc2 := sc1.ext x2
  generalize upd H1 fl (.lst []) = H2 at x2 g2 sc2 ⊢
  have xb := xa.trans (wo_ex x2 p)
  refine ⟨_, rfl, (n : Int), rfl, by omega, by omega, ?_⟩
  rw [Int.toNat_natCast]
  refine for_range (lo := 0) (n := n) (fun i σ H' => ∃ ys os o6 o7, σ = [some (.ref sA), some (.ref p), some (.int (n : Nat)), some (.bl false), some (.int wd), some (.ref fl), o6, o7] ∧ Sc K H' sA p ns ∧ Ext (wo H p) (wo H' p) ∧ H' fl = some (.lst ys) ∧ RdsAll (wt H' p fl) ys (os.map oD2) ∧ OsOk os ∧ os.length = i ∧ ys.length = i) ⟨[], [], _, _, rfl, sc2, xb, g2, .nil, (fun o ho => nomatch ho), rfl, rfl⟩ ?_ ?_
  · rintro i σ H' hi ⟨ys, os, o6, o7, rfl, sc', xt, gf, ra, ok, lo, ly⟩
    show tSeq (tWa K) (tWb K) _ [some (.ref sA), some (.ref p), some (.int (n : Nat)), some (.bl false), some (.int wd), some (.ref fl), some (.int (0 + (i : Int))), o7] H'
    refine rd_set (te := tOp (rI0 fun i j => .int (i - j)) (tTk K (tVar 4)) (tOp (rI CDiv fun i j => .int (i / j)) (tVar 4) (tC (.int 2)))) (i := 7) (D := ⟨_, Q, _, _⟩) (rd_op (rd_take sc' rfl rfl (fun R r => ⟨_, rfl, r⟩) (by omega) (by omega) fun r H3 r0 rw' sc3 k3 => ⟨_, rfl, _, _, rfl, rfl, ⟨by decide, by decide⟩, _, _, rfl, rfl, ?_⟩))
    have gf3 := k3 _ _ gf nf
    refine ⟨_, rfl, .inl ⟨rfl, _, SqL.of gf3⟩, _, rfl, _, rfl, _, rfl, itF ?_⟩
    refine rd_take sc3 rfl rfl (fun R r => r) (by decide) (by decide) fun t H4 t0 t3 sc4 k4 => ⟨_, _, rfl, rfl, by show 2 ≤ sizeLine; decide, fun k hk => ?_⟩
    have gf4 := k4 _ _ gf3 nf
    have x5 := Ext.new (o := .tup [.int (r - wd / 2), .bl (decide (t > 0))]) hk
    have g5 : upd H4 k (.tup [.int (r - wd / 2), .bl (decide (t > 0))]) k = some (.tup [.int (r - wd / 2), .bl (decide (t > 0))]) := upd_same
    have nk1 : k ≠ fl := fun e => by rw [e, gf4] at hk; cases hk
    have nk2 : k ≠ p := fun e => by
      obtain ⟨_, _, _, hp, _⟩ := sc4.bx.ex
      rw [e, hp] at hk; cases hk
    have sc5 := sc4.ext x5
    generalize upd H4 k (.tup [.int (r - wd / 2), .bl (decide (t > 0))]) = H5 at x5 g5 sc5 ⊢
    have gf5 := x5 _ _ gf4
    have b : -99 ≤ r - wd / 2 ∧ r - wd / 2 ≤ 99 := by omega
    have xw : Ext (wt H' p fl) (wt H5 p fl) := ((wt_kept k3).trans (wt_kept k4)).trans (wt_ex x5 p fl)
    have xw0 : Ext (wo H' p) (wo H5 p) := ((wo_kept k3).trans (wo_kept k4)).trans (wo_ex x5 p)
    have xf : Ext (wo H p) (wo (upd H5 fl (.lst (ys ++ [.ref k]))) p) := fun b o e => by
      have n1 : b ≠ fl := fun z => by rw [z, wofl] at e; cases e
      have e2 := (xt.trans xw0) _ _ e
      exact wo_at (wo_ne e) (by rw [upd_ne n1]; exact wo_ext _ _ _ _ e2)
    refine ⟨fl, ys, .ref k, rfl, rfl, gf5, by rw [sizeLine_eq]; omega, ys ++ [.ref k], os ++ [(r - wd / 2, decide (t > 0))], _, _, rfl, ?_, ?_, upd_same, ?_, ?_, by rw [List.length_append, lo]; rfl, by rw [List.length_append, ly]; rfl⟩
    · exact sc.wo' xf (sc5.bx.up nf)
    · exact xf
    · rw [List.map_append]
      exact ((ra.mono xw).append (.cons (.tup (wt_at nk2 nk1 g5) (.cons (.int _) (.cons (.bl _) .nil))) .nil)).mono wt_up
    · intro o ho
      rcases List.mem_append.mp ho with h | h
      · exact ok o h
      · rw [List.mem_singleton.mp h]; exact b
  · rintro σ H' ⟨ys, os, o6, o7, rfl, sc', xt, gf, ra, ok, lo, ly⟩
    exact ⟨_, rfl, q fl ys os H' sc' xt nf gf (ra.mono (wo_ext (wo H' p) fl)) ok lo⟩
end
end My
set_option Elab.async false
set_option linter.all false
set_option maxRecDepth 100000
set_option maxHeartbeats 1000000
namespace My
open PySem PySem.W L2
section
variable {X : Cx} {op : Operator} {r : R2} {a b : Expr} {ta tb : TE} {pos p : Pos} {CX : CXT} {k : Nat} {f : Addr} {fd : FuncData} {ps : List Str} {sp : Sp} {E : XK} {x : Str} {e : Expr} {es : List Expr} {t : TA} {tg iter l : Expr} {body : List Stmt} {wi : TI} {g : TG} {tb' : TS} {tl : TE}
theorem bx_forL (hp : PassesOwn (model X.prog X.w) X.A X.env X.xe) (hc : X.calm = true) (hi : Bx (PI X tg iter wi)) (hg : PG X tg g) (hb : Bx (PSs X body tb')) (hs : ∀ x, foldedSetIterable iter X.env x = pure x := by intro _; rfl) : Bx (PS X (.For tg iter body [] pos) (tFor wi g tb')) := ⟨ps_for hp hc hi.h hg hb.h hs⟩
end
end My
set_option Elab.async false
set_option linter.all false
set_option maxRecDepth 100000
set_option maxHeartbeats 1000000
set_option exponentiation.threshold 10000
namespace My
open PySem PySem.W L2
def isStr : Expr → Bool
  | .Constant (.str _) _ _ => true
  | _ => false
def strOf : Expr → Str
  | .Constant (.str z) _ _ => z
  | _ => Str.empty
def tOf : List Expr → TA
  | [] => tNil
  | e :: es => tCons (tC (.str (strOf e))) (tOf es)
theorem pa_strs {X : Cx} : ∀ es : List Expr, es.all isStr = true → PA X es (tOf es)
  | [], _ => pa_nil
  | .Constant (.str z) k pos :: es, h => pa_cons pe_str (pa_strs es h)
theorem rd_strs : ∀ (es : List Expr) (σ : St) (H : Hp) (Q : List V → Hp → Prop), Q (es.map fun e => V.str (strOf e)) H → tOf es σ H Q
  | [], _, _, _, q => q
  | e :: es, σ, H, Q, q => rd_strs es σ H (fun xs H2 => Q (V.str (strOf e) :: xs) H2) q
theorem ps_strs {X : Cx} {es : List Expr} {x : Str} {i : Nat} {p1 p2 p3 : Pos} (hN : X.N.Nodup) (hi : X.N[i]? = some x) (hx : Loc X.env.scope x) (h : es.all isStr = true) (hf : X.fn x = true ∨ X.env.scope.names.lookup x = some .local) : PS X (.Assign [.Name x p1] (.List es p2) p3) (tAsg (tLst (tOf es)) (gName i)) := ps_set hN hi hx (pe_lst (pa_strs es h)) rfl hf
theorem bx_strs {X : Cx} {body rest : List Stmt} {es : List Expr} {x : Str} {i : Nat} {p1 p2 p3 : Pos} {t : TS} (hb : body = .Assign [.Name x p1] (.List es p2) p3 :: rest) (hN : X.N.Nodup) (hi : X.N[i]? = some x) (hx : Loc X.env.scope x) (h : es.all isStr = true) (hf : X.fn x = true ∨ X.env.scope.names.lookup x = some .local)
    (hr : Bx (PSs X rest t)) : Bx (PSs X body (tSeq (tAsg (tLst (tOf es)) (gName i)) t)) := by
  subst hb
  exact ⟨pss_cons (ps_strs hN hi hx h hf) hr.h⟩
section
variable {P : Program} {w : World} {K : Frag} {mg : Str → Option Value} {base : Heap} {f a1 : Addr} {fd d1 : FuncData}
abbrev sSt : Stmt := top 49
abbrev NSt : List Str := ["_law_script", "_law_pen", "_law_text_here", "_law_found", "_law_signs", "_law_every", "_law_lap", "_law_at", "_law_sign", "_law_way", "_law_words"]
theorem scSt : FnScope NSt ["_law_script", "_law_pen", "_law_text_here"] (defScope sSt) := ⟨rfl, rfl, rfl, by decide +kernel, rfl, by decide +kernel, by decide +kernel⟩
def spSt (K : Frag) : Sp := fun vs H Q _ => ∃ (s p : Addr) (ns : List Int) (z : Str), vs = [.ref s, .ref p, .str z] ∧ Sc K H s p ns ∧ z.length ≤ 9000 ∧ ∀ (y : Str) (H' : Hp), y.length ≤ z.length + 15 → Sc K H' s p ns → Ext (wo H p) (wo H' p) → Q (.str y) H'
def forB : List Stmt := match (defBody sSt).drop 4 with
  | .For _ _ b _ _ :: _ => b
  | _ => []
def ifB : List Stmt := match forB.drop 6 with
  | .If _ b _ _ :: _ => b
  | _ => []
def lastE : List Expr := match ifB with
  | .Assign _ (.List es _) _ :: _ => es
  | _ => []
theorem ok15 : lastE.all isStr = true := by decide +kernel
theorem len15 : (lastE.map strOf).length = 15 := by decide +kernel
theorem few15 : ∀ y ∈ lastE.map strOf, y.length ≤ 4 := by decide +kernel
def strAt (i : Nat) : Str := match (defBody sSt).drop i with
  | .Assign _ (.Constant (.str z) _ _) _ :: _ => z
  | _ => Str.empty
def SGN : Str := strAt 1
def EV1 : Str := strAt 2
def EV2 : Str := match (defBody sSt).drop 3 with
  | .Assign _ (.BinOp _ _ (.Constant (.str z) _ _) _) _ :: _ => z
  | _ => Str.empty
theorem lnSg : SGN.length = 15 := by decide +kernel
theorem lnEv : EV1.length + EV2.length = 95 := by decide +kernel
theorem strAp (a b : Str) : (a ++ b).length = a.length + b.length := strLen_append a b
def tUp3 : TE := tSl rSlS (tVar 3) tNoPart (tPart (tVar 7))
def tDn3 : TE := tSl rSlS (tVar 3) (tPart (tVar 7)) tNoPart
def tDn4 : TE := tSl rSlS (tVar 3) (tPart (tOp (rI0 fun i j => .int (i + j)) (tVar 7) (tC (.int 1)))) tNoPart
def tSw (k : Int) : TT := tB (tOp rEq (tVar 9) (tC (.int k)))
def tS0 : TS := tAsg (tVar 2) (gName 3)
def tS1 : TS := tAsg (tC (.str SGN)) (gName 4)
def tS2 : TS := tAsg (tC (.str EV1)) (gName 5)
def tS3 : TS := tAsg (tOp rAddS (tVar 5) (tC (.str EV2))) (gName 5)
def tF0 (K : Frag) : TS := tAsg (tTk K (tOp (rI0 fun i j => .int (i + j)) (tCB rLenS (tCons (tVar 3) tNil)) (tC (.int 1)))) (gName 7)
def tF1 (K : Frag) : TS := tAsg (tOp (rIxL K) (tLst (tCons (tOp rIxS (tVar 4) (tTk K (tC (.int 15)))) (tCons (tOp rIxS (tVar 5) (tTk K (tC (.int 95)))) tNil))) (tTk K (tC (.int 2)))) (gName 8)
def tF2 (K : Frag) : TS := tAsg (tTk K (tC (.int 4))) (gName 9)
def tF3 : TS := tIfS (tSw 0) (tAsg (tOp rAddS (tOp rAddS tUp3 (tVar 8)) tDn3) (gName 3)) tNext
def tF4 : TS := tIfS (tSw 1) (tAsg (tOp rAddS tUp3 tDn4) (gName 3)) tNext
def tF5 : TS := tIfS (tSw 2) (tAsg (tOp rAddS (tOp rAddS tUp3 (tVar 8)) tDn4) (gName 3)) tNext
def tF6b (K : Frag) : TS := tAsg (tOp rAddS (tOp rAddS (tVar 3) (tOp (rIxL K) (tLst (tCons (tC (.str " ")) (tCons (tC (.str "")) tNil))) (tTk K (tC (.int 2))))) (tOp (rIxL K) (tVar 10) (tTk K (tC (.int 15))))) (gName 3)
def tF6a : TS := tAsg (tLst (tOf lastE)) (gName 10)
def tF6 (K : Frag) : TS := tIfS (tSw 3) (tSeq tF6a (tF6b K)) tNext
def tFB (K : Frag) : TS := tSeq (tF0 K) (tSeq (tF1 K) (tSeq (tF2 K) (tSeq tF3 (tSeq tF4 (tSeq tF5 (tF6 K))))))
def tS4 (K : Frag) : TS := tFor (iRng1 (tCons (tOp (rI0 fun i j => .int (i + j)) (tC (.int 1)) (tTk K (tC (.int 3)))) tNil)) (gName 6) (tFB K)
def tSt (K : Frag) : TS := tSeq tS0 (tSeq tS1 (tSeq tS2 (tSeq tS3 (tSeq (tS4 K) (tRet (tVar 3))))))
section
variable {cdv : Value} {A : Around} {outer : List Env} {s : Shared} {H : Hp} {E : XK}
theorem st_w (A1 : Df P w K mg base CX0 1 "_law_take" ["_law_script", "_law_pen", "_law_many"] (spTake K) a1 d1) (hr : Room 1 (A.deeper (PyProof.Rows.envOfC "_law_spoilt" (defScope sSt) s.heap.objs.size f cdv))) : Bx (PSs (cxOf CX0 P w K mg base NSt "_law_spoilt" (defScope sSt) f cdv A outer s H E).nox ifB (tSeq tF6a (tF6b K))) :=
  bx_strs (i := 10) rfl scSt.nd rfl (Or.inl rfl) ok15 (Or.inl rfl) ⟨pss_one (ps_set (i := 3) scSt.nd rfl (Or.inl rfl) (pe_op op_add_str (pe_op op_add_str (pv 3) (pe_ix ix_list (pe_lst (pa_cons pe_str (pa_cons pe_str pa_nil))) (pe_call A1.G hr rfl A1.m A1.kp A1.b .nil pass0 (pa_cons (pv 0) (pa_cons (pv 1) (pa_cons pe_int pa_nil)))) (fun _ _ => rfl)))
    (pe_ix ix_list (pv 10) (pe_call A1.G hr rfl A1.m A1.kp A1.b .nil pass0 (pa_cons (pv 0) (pa_cons (pv 1) (pa_cons pe_int pa_nil)))) (fun _ _ => rfl))))⟩
theorem st_der (A1 : Df P w K mg base CX0 1 "_law_take" ["_law_script", "_law_pen", "_law_many"] (spTake K) a1 d1) (mr : mg "range" = none) (ml : mg "len" = none) (hr : Room 1 (A.deeper (PyProof.Rows.envOfC "_law_spoilt" (defScope sSt) s.heap.objs.size f cdv))) : Bx (PSs (cxOf CX0 P w K mg base NSt "_law_spoilt" (defScope sSt) f cdv A outer s H E).nox (defBody sSt) (tSt K)) := by
  have nd := scSt.nd
  have hw := st_w A1 hr (f := f) (cdv := cdv) (A := A) (outer := outer) (s := s) (H := H) (E := E)
  exact bxs_cons ⟨ps_set (i := 3) nd rfl (Or.inl rfl) (pv 2)⟩
    (bxs_cons ⟨ps_set (i := 4) nd rfl (Or.inl rfl) pe_str⟩
    (bxs_cons ⟨ps_set (i := 5) nd rfl (Or.inl rfl) pe_str⟩
    (bxs_cons ⟨ps_set (i := 5) nd rfl (Or.inl rfl) (pe_op op_add_str (pv 5) pe_str)⟩
    (bxs_cons (bx_forL PassesOwn.never rfl ⟨pi_range1 rfl mr (pa_cons (pe_op op_add pe_int (pe_call A1.G hr rfl A1.m A1.kp A1.b .nil pass0 (pa_cons (pv 0) (pa_cons (pv 1) (pa_cons pe_int pa_nil))))) pa_nil)⟩ (pg_name (i := 6) nd rfl (Or.inl rfl))
      (bxs_cons ⟨ps_set (i := 7) nd rfl (Or.inl rfl) (pe_call A1.G hr rfl A1.m A1.kp A1.b .nil pass0 (pa_cons (pv 0) (pa_cons (pv 1) (pa_cons (pe_op op_add (pe_callB call_len_str rfl ml PySem.boot_len (pa_cons (pv 3) pa_nil)) pe_int) pa_nil))))⟩
      (bxs_cons ⟨ps_set (i := 8) nd rfl (Or.inl rfl) (pe_ix ix_list (pe_lst (pa_cons (pe_ix ix_str (pv 4) (pe_call A1.G hr rfl A1.m A1.kp A1.b .nil pass0 (pa_cons (pv 0) (pa_cons (pv 1) (pa_cons pe_int pa_nil)))) (fun _ _ => rfl)) (pa_cons (pe_ix ix_str (pv 5) (pe_call A1.G hr rfl A1.m A1.kp A1.b .nil pass0 (pa_cons (pv 0) (pa_cons (pv 1) (pa_cons pe_int pa_nil)))) (fun _ _ => rfl)) pa_nil))) (pe_call A1.G hr rfl A1.m A1.kp A1.b .nil pass0 (pa_cons (pv 0) (pa_cons (pv 1) (pa_cons pe_int pa_nil)))) (fun _ _ => rfl))⟩
      (bxs_cons ⟨ps_set (i := 9) nd rfl (Or.inl rfl) (pe_call A1.G hr rfl A1.m A1.kp A1.b .nil pass0 (pa_cons (pv 0) (pa_cons (pv 1) (pa_cons pe_int pa_nil))))⟩
      (bxs_cons ⟨ps_if (pt_cmpR op_eq (pv 9) pe_int (nomark _)) (pss_one (ps_set (i := 3) nd rfl (Or.inl rfl) (pe_op op_add_str (pe_op op_add_str (pe_slice sl_str (pv 3) po_none (po_some (pv 7))) (pv 8)) (pe_slice sl_str (pv 3) (po_some (pv 7)) po_none)))) pss_nil⟩
      (bxs_cons ⟨ps_if (pt_cmpR op_eq (pv 9) pe_int (nomark _)) (pss_one (ps_set (i := 3) nd rfl (Or.inl rfl) (pe_op op_add_str (pe_slice sl_str (pv 3) po_none (po_some (pv 7))) (pe_slice sl_str (pv 3) (po_some (pe_op op_add (pv 7) pe_int)) po_none)))) pss_nil⟩
      (bxs_cons ⟨ps_if (pt_cmpR op_eq (pv 9) pe_int (nomark _)) (pss_one (ps_set (i := 3) nd rfl (Or.inl rfl) (pe_op op_add_str (pe_op op_add_str (pe_slice sl_str (pv 3) po_none (po_some (pv 7))) (pv 8)) (pe_slice sl_str (pv 3) (po_some (pe_op op_add (pv 7) pe_int)) po_none)))) pss_nil⟩
      (bxs_one (bx_if ⟨pt_cmpR op_eq (pv 9) pe_int (nomark _)⟩ hw bxs_nil)))))))))
    (bxs_one ⟨ps_ret (pv 3)⟩)))))
end
theorem rd_swT {k : Int} {t rest : TS} {De : Ends} {σ : St} {H : Hp} (hs : σ[9]? = some (some (.int k))) (h : tSeq t rest De σ H) : tSeq (tIfS (tSw k) t tNext) rest De σ H := ⟨_, hs, rfl, _, rfl, by rw [decide_eq_true rfl]; exact itT h⟩
theorem rd_swF {k j : Int} {t rest : TS} {De : Ends} {σ : St} {H : Hp} (n : j ≠ k) (hs : σ[9]? = some (some (.int j))) (h : rest De σ H) : tSeq (tIfS (tSw k) t tNext) rest De σ H := ⟨_, hs, rfl, _, rfl, by rw [decide_eq_false (fun e => n (V.int.inj e))]; exact itF h⟩
theorem rd_swL {k j : Int} {t : TS} {De : Ends} {σ : St} {H : Hp} (n : j ≠ k) (hs : σ[9]? = some (some (.int j))) (h : De.nx σ H) : tIfS (tSw k) t tNext De σ H := ⟨_, hs, rfl, _, rfl, by rw [decide_eq_false (fun e => n (V.int.inj e))]; exact itF h⟩
theorem rd_swE {k : Int} {t : TS} {De : Ends} {σ : St} {H : Hp} (hs : σ[9]? = some (some (.int k))) (h : t De σ H) : tIfS (tSw k) t tNext De σ H := ⟨_, hs, rfl, _, rfl, by rw [decide_eq_true rfl]; exact itT h⟩
theorem rd_setN {te : TE} {i : Nat} {De : Ends} {σ : St} {H : Hp} (h : te σ H fun v H1 => De.nx (σ.set i (some v)) H1) : tAsg te (gName i) De σ H := h
section
variable {σ : St} {H : Hp} {Q : VK} {z : Str} {i : Nat}
theorem len_up (z : Str) (i : Nat) : (Txt.slice z none (some (i : Nat))).length = min i z.length := by
  rw [len_cs, cs_upto, List.length_take, len_cs]
theorem len_dn (z : Str) (i : Nat) : (Txt.slice z (some (i : Nat)) none).length = z.length - i := by
  rw [len_cs, cs_from, List.length_drop, len_cs]
theorem rd_up3 (h3 : σ[3]? = some (some (.str z))) (h7 : σ[7]? = some (some (.int (i : Nat)))) (l : z.length ≤ 10000) (q : Q (.str (Txt.slice z none (some (i : Nat)))) H) : tUp3 σ H Q := ⟨_, h3, _, h7, _, rfl, _, rfl, by rw [sizeLine_eq]; omega, q⟩
theorem rd_dn3 (h3 : σ[3]? = some (some (.str z))) (h7 : σ[7]? = some (some (.int (i : Nat)))) (l : z.length ≤ 10000) (q : Q (.str (Txt.slice z (some (i : Nat)) none)) H) : tDn3 σ H Q := ⟨_, h3, _, h7, _, rfl, _, rfl, by rw [sizeLine_eq]; omega, q⟩
theorem rd_dn4 (h3 : σ[3]? = some (some (.str z))) (h7 : σ[7]? = some (some (.int (i : Nat)))) (l : z.length ≤ 10000) (q : Q (.str (Txt.slice z (some ((i + 1 : Nat) : Int)) none)) H) : tDn4 σ H Q := ⟨_, h3, _, h7, _, _, rfl, rfl, _, rfl, _, rfl, by rw [sizeLine_eq]; omega, q⟩
end
end
end My
set_option Elab.async false
set_option linter.all false
set_option maxRecDepth 100000
set_option maxHeartbeats 1000000
set_option exponentiation.threshold 10000
namespace My
open PySem PySem.W L2
section
variable {P : Program} {w : World} {K : Frag} {mg : Str → Option Value} {base : Heap} {f a1 : Addr} {fd d1 : FuncData} {H H0 : Hp} {De : Ends} {sA p : Addr} {ns : List Int} {Q : VK}
def stS (sA p : Addr) (t z g e : Str) (o6 o7 o8 o9 o10 : Option V) : St := [some (.ref sA), some (.ref p), some (.str t), some (.str z), some (.str g), some (.str e), o6, o7, o8, o9, o10]
theorem st_ways {t z g e y : Str} {i : Nat} {wy : Int} {o6 o10 : Option V} (sc : Sc K H sA p ns) (hz : z.length ≤ 9990) (hi : i ≤ z.length) (hy : y.length = 1) (w0 : 0 ≤ wy) (w4 : wy < 4)
    (k : ∀ (z' : Str) (o10' : Option V) H', z'.length ≤ z.length + 5 → Sc K H' sA p ns → Ext (wo H p) (wo H' p) → De.nx (stS sA p t z' g e o6 (some (.int (i : Nat))) (some (.str y)) (some (.int wy)) o10') H') :
    tSeq tF3 (tSeq tF4 (tSeq tF5 (tF6 K))) De (stS sA p t z g e o6 (some (.int (i : Nat))) (some (.str y)) (some (.int wy)) o10) H := by
  have l1 := len_up z i
  have l2 := len_dn z i
  have l3 := len_dn z (i + 1)
  have l4 := strAp (Txt.slice z none (some (i : Nat))) y
  have sz := sizeLine_eq
  obtain rfl | rfl | rfl | rfl : wy = 0 ∨ wy = 1 ∨ wy = 2 ∨ wy = 3 := by omega
  · refine rd_swT rfl (rd_set (i := 3) ?_)
    refine rd_op (rd_op (rd_up3 (z := z) (i := i) rfl rfl (by omega) ?_))
    refine ⟨_, rfl, _, _, rfl, rfl, by omega, ?_⟩
    refine rd_dn3 (z := z) (i := i) rfl rfl (by omega) ⟨_, _, rfl, rfl, by omega, ?_⟩
    refine rd_swF (j := 0) (by decide) rfl (rd_swF (j := 0) (by decide) rfl (rd_swL (j := 0) (by decide) rfl ?_))
    exact k _ _ H (by rw [strAp]; omega) sc (Ext.refl _)
  · refine rd_swF (j := 1) (by decide) rfl (rd_swT rfl (rd_set (i := 3) ?_))
    refine rd_op (rd_up3 (z := z) (i := i) rfl rfl (by omega) ?_)
    refine rd_dn4 (z := z) (i := i) rfl rfl (by omega) ⟨_, _, rfl, rfl, by omega, ?_⟩
    refine rd_swF (j := 1) (by decide) rfl (rd_swL (j := 1) (by decide) rfl ?_)
    exact k _ _ H (by rw [strAp]; omega) sc (Ext.refl _)
  · refine rd_swF (j := 2) (by decide) rfl (rd_swF (j := 2) (by decide) rfl (rd_swT rfl (rd_set (i := 3) ?_)))
    refine rd_op (rd_op (rd_up3 (z := z) (i := i) rfl rfl (by omega) ?_))
    refine ⟨_, rfl, _, _, rfl, rfl, by omega, ?_⟩
    refine rd_dn4 (z := z) (i := i) rfl rfl (by omega) ⟨_, _, rfl, rfl, by omega, ?_⟩
    refine rd_swL (j := 2) (by decide) rfl ?_
    exact k _ _ H (by rw [strAp]; omega) sc (Ext.refl _)
  · refine rd_swF (j := 3) (by decide) rfl (rd_swF (j := 3) (by decide) rfl (rd_swF (j := 3) (by decide) rfl (rd_swE rfl ?_)))
    refine rd_set (te := tLst (tOf lastE)) (i := 10) (rd_strs lastE _ _ _ ⟨by have := len15; rw [List.length_map] at this ⊢; omega, fun l0 h0 => ?_⟩)
    have x0 := Ext.new (o := .lst (lastE.map fun e => V.str (strOf e))) h0
    have g0 : upd H l0 (.lst (lastE.map fun e => V.str (strOf e))) l0 = some (.lst (lastE.map fun e => V.str (strOf e))) := upd_same
    have n0 : l0 ≠ p := sc.bx.ne h0
    have sc0 := sc.ext x0
    generalize upd H l0 (.lst (lastE.map fun e => V.str (strOf e))) = H1 at x0 g0 sc0 ⊢
    refine rd_setN (te := tOp rAddS (tOp rAddS (tVar 3) (tOp (rIxL K) (tLst (tCons (tC (.str " ")) (tCons (tC (.str "")) tNil))) (tTk K (tC (.int 2))))) (tOp (rIxL K) (tVar 10) (tTk K (tC (.int 15))))) (i := 3) (rd_op (rd_op ⟨_, rfl, rd_op ⟨by show 2 ≤ sizeLine; decide, fun l1 h1 => ?_⟩⟩))
    have x1 := Ext.new (o := .lst [.str " ", .str ""]) h1
    have g1 : upd H1 l1 (.lst [.str " ", .str ""]) l1 = some (.lst [.str " ", .str ""]) := upd_same
    have n1 : l1 ≠ p := sc0.bx.ne h1
    have sc1 := sc0.ext x1
    show tTk K (tC (.int 2)) _ (upd H1 l1 (.lst [.str " ", .str ""])) _
    generalize upd H1 l1 (.lst [.str " ", .str ""]) = H2 at x1 g1 sc1 ⊢
    refine rd_take sc1 rfl rfl (fun R r => r) (by decide) (by decide) fun r H3 r0 r2 sc3 k3 => ?_
    obtain ⟨b, eb, lb⟩ : ∃ b : Str, ([V.str " ", .str ""] : List V)[r.toNat]? = some (.str b) ∧ b.length ≤ 1 := by
      obtain rfl | rfl : r = 0 ∨ r = 1 := by omega
      · exact ⟨_, rfl, by decide +kernel⟩
      · exact ⟨_, rfl, by decide +kernel⟩
    have er : r = (r.toNat : Int) := by omega
    refine ⟨l1, _, r, .str b, rfl, rfl, SqL.of (k3 _ _ g1 n1), by rw [er]; exact atI_nat eb, ?_⟩
    refine ⟨_, _, rfl, rfl, by omega, rd_op ⟨_, rfl, ?_⟩⟩
    refine rd_take sc3 rfl rfl (fun R r => r) (by decide) (by decide) fun q H4 q0 q2 sc4 k4 => ?_
    have lq : q.toNat < (lastE.map fun e => V.str (strOf e)).length := by have := len15; rw [List.length_map] at this ⊢; omega
    have eq : q = (q.toNat : Int) := by omega
    obtain ⟨u, eu, lu⟩ : ∃ u : Str, (lastE.map fun e => V.str (strOf e))[q.toNat]? = some (.str u) ∧ u.length ≤ 4 := by
      have lq' : q.toNat < (lastE.map strOf).length := by rw [len15]; omega
      refine ⟨(lastE.map strOf)[q.toNat], ?_, few15 _ (List.getElem_mem lq')⟩
      rw [List.getElem?_eq_getElem lq]
      simp
    refine ⟨l0, _, q, .str u, rfl, rfl, SqL.of (k4 _ _ (k3 _ _ (x1 _ _ g0) n0) n0), by rw [eq]; exact atI_nat eu, ?_⟩
    refine ⟨_, _, rfl, rfl, by rw [strAp]; omega, ?_⟩
    exact k _ _ H4 (by rw [strAp, strAp]; omega) sc4 ((((wo_ex x0 p).trans (wo_ex x1 p)).trans (wo_kept k3)).trans (wo_kept k4))
theorem ixS {z : Str} {r : Int} {n : Nat} (r0 : 0 ≤ r) (rn : r < n) (ln : n ≤ z.length) : ∃ c, atI z.cps.toList r = some c := by
  have er : r = (r.toNat : Int) := by omega
  have h : r.toNat < z.cps.toList.length := by
    have : z.length = z.cps.toList.length := len_cs z
    omega
  rw [er]
  exact ⟨_, atI_nat (List.getElem?_eq_getElem h)⟩
theorem st_lap {t z g e : Str} {o6 o7 o8 o9 o10 : Option V} (sc : Sc K H sA p ns) (hz : z.length ≤ 9990) (hg : 15 ≤ g.length) (hg' : g.length ≤ 1000) (he : 95 ≤ e.length) (he' : e.length ≤ 1000)
    (k : ∀ (z' : Str) (o7' o8' o9' o10' : Option V) H', z'.length ≤ z.length + 5 → Sc K H' sA p ns → Ext (wo H p) (wo H' p) → De.nx (stS sA p t z' g e o6 o7' o8' o9' o10') H') :
    tFB K De (stS sA p t z g e o6 o7 o8 o9 o10) H := by
  have sz := sizeLine_eq
  refine rd_set (te := tTk K (tOp (rI0 fun i j => .int (i + j)) (tCB rLenS (tCons (tVar 3) tNil)) (tC (.int 1)))) (i := 7) ?_
  refine rd_take (m := (z.length : Int) + 1) sc rfl rfl (fun R r => ⟨_, rfl, _, rfl, by omega, _, _, rfl, rfl, r⟩) (by omega) (by omega) fun at' H1 a0 a1 sc1 k1 => ?_
  obtain ⟨i, rfl⟩ : ∃ i : Nat, at' = (i : Int) := ⟨at'.toNat, by omega⟩
  refine rd_set (te := tOp (rIxL K) (tLst (tCons (tOp rIxS (tVar 4) (tTk K (tC (.int 15)))) (tCons (tOp rIxS (tVar 5) (tTk K (tC (.int 95)))) tNil))) (tTk K (tC (.int 2)))) (i := 8) (rd_op ?_)
  show tOp rIxS (tVar 4) (tTk K (tC (.int 15))) _ _ _
  refine rd_op ⟨_, rfl, rd_take sc1 rfl rfl (fun R r => r) (by decide) (by decide) fun r2 H2 b0 b1 sc2 k2 => ?_⟩
  obtain ⟨c, ec⟩ := ixS (n := 15) b0 b1 hg
  refine ⟨_, _, c, rfl, rfl, by omega, ec, ?_⟩
  show tOp rIxS (tVar 5) (tTk K (tC (.int 95))) _ _ _
  refine rd_op ⟨_, rfl, rd_take sc2 rfl rfl (fun R r => r) (by decide) (by decide) fun r3 H3 c0 c1 sc3 k3 => ?_⟩
  obtain ⟨d, ed⟩ := ixS (n := 95) c0 c1 he
  refine ⟨_, _, d, rfl, rfl, by omega, ed, by show 2 ≤ sizeLine; decide, fun l h => ?_⟩
  have x4 := Ext.new (o := .lst [.str ⟨#[c]⟩, .str ⟨#[d]⟩]) h
  have g4 : upd H3 l (.lst [.str ⟨#[c]⟩, .str ⟨#[d]⟩]) l = some (.lst [.str ⟨#[c]⟩, .str ⟨#[d]⟩]) := upd_same
  have n4 : l ≠ p := sc3.bx.ne h
  have sc4 := sc3.ext x4
  show tTk K (tC (.int 2)) _ (upd H3 l (.lst [.str ⟨#[c]⟩, .str ⟨#[d]⟩])) _
  generalize upd H3 l (.lst [.str ⟨#[c]⟩, .str ⟨#[d]⟩]) = H4 at x4 g4 sc4 ⊢
  refine rd_take sc4 rfl rfl (fun R r => r) (by decide) (by decide) fun r H5 r0 r2 sc5 k5 => ?_
  obtain ⟨b, eb, lb⟩ : ∃ b : Str, ([V.str ⟨#[c]⟩, .str ⟨#[d]⟩] : List V)[r.toNat]? = some (.str b) ∧ b.length = 1 := by
    obtain rfl | rfl : r = 0 ∨ r = 1 := by omega
    · exact ⟨_, rfl, rfl⟩
    · exact ⟨_, rfl, rfl⟩
  have er : r = (r.toNat : Int) := by omega
  refine ⟨l, _, r, .str b, rfl, rfl, SqL.of (k5 _ _ g4 n4), by rw [er]; exact atI_nat eb, ?_⟩
  refine rd_set (te := tTk K (tC (.int 4))) (i := 9) (rd_take sc5 rfl rfl (fun R r => r) (by decide) (by decide) fun wy H6 w0 w1 sc6 k6 => ?_)
  have x : Ext (wo H p) (wo H6 p) := (((((wo_kept k1).trans (wo_kept k2)).trans (wo_kept k3)).trans (wo_ex x4 p)).trans (wo_kept k5)).trans (wo_kept k6)
  exact st_ways sc6 hz (by omega) lb w0 w1 fun z' o10' H' lz sc' x' => k z' _ _ _ o10' H' lz sc' (x.trans x')
theorem ok_st (F : Fun K "_law_spoilt" "_law_spoilt" sSt f fd) (A1 : Df P w K mg base CX0 1 "_law_take" ["_law_script", "_law_pen", "_law_many"] (spTake K) a1 d1) (mr : mg "range" = none) (ml : mg "len" = none) : FnOk P w K mg base CX0 2 f fd ["_law_script", "_law_pen", "_law_text_here"] (spSt K) := by
  refine F.ok scSt (fun vs H Q E h => ?_) (fun cdv A outer s H vs Q E hr h => ?_)
  · obtain ⟨_, _, _, _, rfl, _⟩ := h
    rfl
  obtain ⟨sA, p, ns, z, rfl, sc, hz, q⟩ := h
  obtain ⟨der⟩ := st_der A1 mr ml hr (f := f) (cdv := cdv) (A := A) (outer := outer) (s := s) (H := H) (E := E)
  refine ⟨_, der, ?_⟩
  refine rd_set (te := tVar 2) (i := 3) (D := ⟨_, Q, _, _⟩) ⟨_, rfl, ?_⟩
  refine rd_set (te := tC (.str SGN)) (i := 4) (D := ⟨_, Q, _, _⟩) ?_
  refine rd_set (te := tC (.str EV1)) (i := 5) (D := ⟨_, Q, _, _⟩) ?_
  have le := lnEv
  have sz := sizeLine_eq
  refine rd_set (te := tOp rAddS (tVar 5) (tC (.str EV2))) (i := 5) (D := ⟨_, Q, _, _⟩) (rd_op ⟨_, rfl, _, _, rfl, rfl, by omega, ?_⟩)
  have le2 : (EV1 ++ EV2).length = 95 := by rw [strAp]; exact le
  show tSeq (tS4 K) (tRet (tVar 3)) _ (stS sA p z z SGN (EV1 ++ EV2) none none none none none) H
  generalize EV1 ++ EV2 = ev at le2 ⊢
  refine rd_op (rd_take sc rfl rfl (fun R r => r) (by decide) (by decide) fun r H1 r0 r3 sc1 k1 => ⟨_, _, rfl, rfl, 1 + r, rfl, by omega, by omega, ?_⟩)
  obtain ⟨n, hn⟩ : ∃ n : Nat, 1 + r = (n : Int) := ⟨(1 + r).toNat, by omega⟩
  rw [hn, Int.toNat_natCast]
  refine for_range (lo := 0) (n := n) (fun i σ H' => ∃ z' o6 o7 o8 o9 o10, σ = stS sA p z z' SGN ev o6 o7 o8 o9 o10 ∧ Sc K H' sA p ns ∧ Ext (wo H p) (wo H' p) ∧ z'.length ≤ z.length + 5 * i) ⟨z, _, _, _, _, _, rfl, sc1, wo_kept k1, by omega⟩ ?_ ?_
  · rintro i σ H' hi ⟨z', o6, o7, o8, o9, o10, rfl, sc', xt, lz⟩
    show tFB K _ (stS sA p z z' SGN ev (some (.int (0 + (i : Int)))) o7 o8 o9 o10) H'
    refine st_lap sc' (by omega) (by rw [lnSg]; decide) (by rw [lnSg]; decide) (by omega) (by omega) fun z2 _ _ _ _ H2 l2 sc2 x2 => ?_
    exact ⟨z2, _, _, _, _, _, rfl, sc2, xt.trans x2, by omega⟩
  · rintro σ H' ⟨z', o6, o7, o8, o9, o10, rfl, sc', xt, lz⟩
    exact ⟨_, rfl, q z' H' (by omega) sc' xt⟩
end
end My
set_option Elab.async false
set_option linter.all false
set_option maxRecDepth 100000
set_option maxHeartbeats 1000000
namespace My
open PySem PySem.W L2
section
variable {K : Frag} {te : TE} {tt : TT} {cap : St} {D : Addr} {H1 : Hp} {Q : Hp → Prop} {a : Addr} {xs : List V}
theorem lcI_lst (p : V → Bool) (hz : xs.length < sizeLine) (h1 : H1 a = some (.lst xs)) (hD : H1 D = none)
    (hs : ∀ (i : Nat) x H, xs[i]? = some x → Ext H1 H → ∀ R : Bool → Hp → Prop, R (p x) H → tt (some x :: cap) H R)
    (hd : ∀ H, Ext H1 H → H D = some (.lst (xs.filter p)) → Q H) :
    ∃ W : Nat → Nat → List V → Hp → Prop, (∃ m, W 0 m [] (upd H1 D (.lst []))) ∧
      ∀ i m ys H2, W i m ys H2 → H2 D = some (.lst ys) ∧ (((Itl K a).stop i H2 ∧ Q H2) ∨ ((Itl K a).go i H2 ∧ ys.length < sizeLine ∧
        ∀ x H3, (Itl K a).yld i H2 x H3 → tt (some x :: cap) H3 fun b H0 => (b = false → ∃ m', m' < m ∧ W (i + 1) m' ys H0) ∧
          (b = true → tVar 0 (some x :: cap) H0 fun y H4 => H4 D = some (.lst ys) ∧ ∃ m', m' < m ∧ W (i + 1) m' (ys ++ [y]) (upd H4 D (.lst (ys ++ [y])))))) := by
  refine ⟨fun i m ys H => m = xs.length - i ∧ i ≤ xs.length ∧ ys.length ≤ i ∧ H D = some (.lst ys) ∧ Ext H1 H ∧ ys = (xs.take i).filter p, ⟨xs.length, by simp, Nat.zero_le _, Nat.le_refl _, upd_same, Ext.new hD, rfl⟩, ?_⟩
  rintro i m ys H ⟨rfl, hi, hy, hD', x', ey⟩
  refine ⟨hD', ?_⟩
  have q : SqL K H a xs := SqL.of (x' _ _ h1)
  by_cases hlt : i < xs.length
  · refine .inr ⟨⟨xs, xs[i], q, by simp [hlt]⟩, by omega, fun x H' y => ?_⟩
    obtain ⟨e, y⟩ := y
    subst e
    have ex := y xs q
    have et : (xs.take (i + 1)).filter p = (xs.take i).filter p ++ (if p x then [x] else []) := by
      rw [take_all ex, List.filter_append, List.filter_cons, List.filter_nil]
    refine hs i x _ ex x' _ ⟨fun b => ⟨xs.length - (i + 1), by omega, rfl, hlt, by omega, hD', x', ?_⟩, fun b => ⟨x, rfl, hD', xs.length - (i + 1), by omega, rfl, hlt, by rw [List.length_append]; show ys.length + 1 ≤ i + 1; omega, upd_same, ext_upd _ x' hD, ?_⟩⟩
    · rw [et, b, ey]; simp
    · rw [et, b, ey]; simp
  · have e : i = xs.length := by omega
    subst e
    rw [List.take_length] at ey
    subst ey
    exact .inl ⟨⟨xs, q, Nat.le_refl _⟩, hd H x' hD'⟩
theorem lcGI_lst (p : V → Bool) (hz : xs.length < sizeLine) (h1 : H1 a = some (.lst xs)) (hD : H1 D = none)
    (hs : ∀ (i : Nat) x H, xs[i]? = some x → Ext H1 H → ∀ R : Bool → Hp → Prop, R (p x) H → tt (some x :: cap) H R)
    (hd : ∀ H, Ext H1 H → H D = some (.lst (xs.filter p)) → Q H) :
    ∃ W : Nat → Nat → List V → Hp → Prop, (∃ m, W 0 m [] (upd H1 D (.lst []))) ∧
      ∀ i m ys H2, W i m ys H2 → H2 D = some (.lst ys) ∧ (((Itl K a).stop i H2 ∧ Q H2) ∨ ((Itl K a).go i H2 ∧ ys.length < sizeLine ∧
        ∀ x H3, (Itl K a).yld i H2 x H3 → ∀ os : St, os.length = 1 → gName 0 x (os ++ cap) H3 fun σ2 H0 => (∃ os' : St, os'.length = 1 ∧ σ2 = os' ++ cap) ∧ tt σ2 H0 fun b H5 => (b = false → ∃ m', m' < m ∧ W (i + 1) m' ys H5) ∧
          (b = true → tVar 0 σ2 H5 fun y H4 => H4 D = some (.lst ys) ∧ ∃ m', m' < m ∧ W (i + 1) m' (ys ++ [y]) (upd H4 D (.lst (ys ++ [y])))))) := by
  obtain ⟨W, w0, turn⟩ := lcI_lst (K := K) (tt := tt) (cap := cap) (D := D) (H1 := H1) (Q := Q) p hz h1 hD hs hd
  refine ⟨W, w0, fun i m ys H2 w => ?_⟩
  obtain ⟨hD2, alt⟩ := turn i m ys H2 w
  refine ⟨hD2, ?_⟩
  rcases alt with a | ⟨go, hl, st⟩
  · exact .inl a
  · refine .inr ⟨go, hl, fun x H3 y os los => ?_⟩
    obtain ⟨o, rfl⟩ : ∃ o, os = [o] := by
      match os, los with
      | [o], _ => exact ⟨o, rfl⟩
    exact ⟨⟨[some x], rfl, rfl⟩, st x H3 y⟩
end
end My
set_option Elab.async false
set_option linter.all false
set_option maxRecDepth 100000
set_option maxHeartbeats 1000000
set_option exponentiation.threshold 10000
namespace My
open PySem PySem.W L2
theorem told_two {H : Hp} {v : V} {z : Str} {os : List (Int × Bool)} (h : Rds H v (.tuple [.str z, .list (os.map oD2)])) : ∃ p l xs, v = .ref p ∧ H p = some (.tup [.str z, .ref l]) ∧ H l = some (.lst xs) ∧ RdsAll H xs (os.map oD2) := by
  cases h with
  | tup ha rs =>
    cases rs with
    | cons r1 rs =>
      cases r1
      cases rs with
      | cons r2 rs =>
        cases rs
        cases r2 with
        | lst hl rx => exact ⟨_, _, _, rfl, ha, hl, rx⟩
theorem wd_two {H : Hp} {v : V} {z : Str} {i : Int} (h : Rds H v (.tuple [.str z, .int i])) : ∃ p, v = .ref p ∧ H p = some (.tup [.str z, .int i]) := by
  cases h with
  | tup ha rs =>
    cases rs with
    | cons r1 rs =>
      cases r1
      cases rs with
      | cons r2 rs =>
        cases rs
        cases r2
        exact ⟨_, rfl, ha⟩
theorem plainO : ∀ os : List (Int × Bool), plainDs (os.map oD2) = true
  | [] => rfl
  | o :: os => by
    show (plainD (oD2 o) && plainDs (os.map oD2)) = true
    rw [plainO os]; rfl
theorem depO : ∀ os : List (Int × Bool), PyData.depthAll (os.map oD2) ≤ 2
  | [] => by show PyData.depthAll [] ≤ 2; simp [PyData.depthAll]
  | o :: os => by
    have := depO os
    show PyData.depthAll (oD2 o :: os.map oD2) ≤ 2
    simp only [PyData.depthAll, oD2, PyData.depth]
    omega
theorem res_two (rs : List (Option Int × Bool)) : (∃ i : Nat, resD rs = .tuple [.str "outcome", .int (i : Nat)]) ∨ (∃ os : List (Int × Bool), os.length = rs.length ∧ resD rs = .tuple [.str "told", .list (os.map oD2)]) := by
  unfold resD
  split
  · exact .inl ⟨_, rfl⟩
  · exact .inr ⟨rs.map getO, by simp, rfl⟩
theorem resP (rs : List (Option Int × Bool)) : plainD (resD rs) = true ∧ (resD rs).depth ≤ 20 := by
  rcases res_two rs with ⟨i, e⟩ | ⟨os, _, e⟩
  · rw [e]
    exact ⟨rfl, by simp [PyData.depth, PyData.depthAll]⟩
  · rw [e]
    refine ⟨?_, ?_⟩
    · show (true && (plainDs (os.map oD2) && true)) = true
      rw [plainO]; rfl
    · have := depO os
      simp only [PyData.depth, PyData.depthAll]
      omega
section
variable {P : Program} {w : World} {K : Frag} {mg : Str → Option Value} {base : Heap} {f a1 : Addr} {fd d1 : FuncData}
abbrev sPl : Stmt := top 50
abbrev NPl : List Str := ["_law_found", "_law_due", "_law_good"]
theorem scPl : FnScope NPl ["_law_found", "_law_due"] (defScope sPl) := ⟨rfl, rfl, rfl, by decide +kernel, rfl, by decide +kernel, by decide +kernel⟩
def spPl : Sp := fun vs H Q _ => ∃ x y rs, vs = [x, y] ∧ Rds H x (resD rs) ∧ Rds H y (resD rs) ∧ rs.length ≤ 20000 ∧ ∀ H', Ext H H' → Q (.bl true) H'
abbrev scPlC : Scope := { kind := .function, names := [(".0", .local), ("_law_row", .local), ("isinstance", .globalImplicit), ("bool", .globalImplicit)], isGenerator := false, isCoroutine := false }
theorem compPl {X : Cx} : CompG X scPlC [] ["_law_row"] [] [] := by
  refine ⟨rfl, rfl, by decide +kernel, by decide +kernel, by decide +kernel, (fun z c h => nomatch h), (fun z h => ?_), by decide +kernel, (fun k z h => by simp at h), rfl⟩
  exfalso
  have h' : List.lookup z [((".0" : Str), NameKind.local), (("_law_row" : Str), NameKind.local), (("isinstance" : Str), NameKind.globalImplicit), (("bool" : Str), NameKind.globalImplicit)] = some .cell ∨ List.lookup z [((".0" : Str), NameKind.local), (("_law_row" : Str), NameKind.local), (("isinstance" : Str), NameKind.globalImplicit), (("bool" : Str), NameKind.globalImplicit)] = some .free := h
  simp only [List.lookup_cons, List.lookup_nil] at h'
  repeat' (split at h')
  all_goals simp at h'
theorem ndPl : ((["_law_row"] : List Str) ++ ([] : List Str)).Nodup := by decide +kernel
def tIsB (K : Frag) (te : TE) : TE := tCB (rIsK K) (tCons te (tCons (tC (.ty "bool")) tNil))
def tPlT (K : Frag) : TT := tAnd (tNot (tB (tIsB K (tOp (rIxT K) (tVar 0) (tC (.int 0)))))) (tB (tIsB K (tOp (rIxT K) (tVar 0) (tC (.int 1)))))
def tFd (K : Frag) (i : Int) : TE := tOp (rIxT K) (tVar 0) (tC (.int i))
def rLnQ (K : Frag) : List V → Hp → VK → Prop := fun xs H Q => ∃ p ys, xs = [.ref p] ∧ (SqL K H p ys ∨ SqT K H p ys) ∧ Q (.int ys.length) H
def tP1 : TS := tIfS (tB (tOp (rEqD not) (tVar 0) (tVar 1))) (tRet (tC (.bl false))) tNext
def tP2 (K : Frag) : TS := tIfS (tB (tOp rNe (tFd K 0) (tC (.str "told")))) (tRet (tNotV (tIsB K (tFd K 1)))) tNext
def tP3 (K : Frag) : TS := tAsg (tLCGif (iList K (tFd K 1)) 1 [] (gName 0) (tPlT K) (tVar 0)) (gName 2)
def tP4 (K : Frag) : TS := tRet (tAndV (tCB (rIsK K) (tCons (tFd K 1) (tCons (tC (.ty "list")) tNil))) (tOp rEq (tCB (rLnQ K) (tCons (tVar 2) tNil)) (tCB (rLnQ K) (tCons (tFd K 1) tNil))))
def tPl0 (K : Frag) : TS := tSeq tP1 (tSeq (tP2 K) (tSeq (tP3 K) (tP4 K)))
section
variable {cdv : Value} {A : Around} {outer : List Env} {s : Shared} {H : Hp} {E : XK}
theorem pl_der (N : IsT K) (mi : mg "isinstance" = none) (mb : mg "bool" = none) (ml : mg "list" = none) (mn : mg "len" = none) (hr : Room 1 (A.deeper (PyProof.Rows.envOfC "_law_plain" (defScope sPl) s.heap.objs.size f cdv))) : Bx (PSs (cxOf CX0 P w K mg base NPl "_law_plain" (defScope sPl) f cdv A outer s H E).nox (defBody sPl) (tPl0 K)) := by
  have nd := scPl.nd
  have hu : (A.deeper (PyProof.Rows.envOfC "_law_plain" (defScope sPl) s.heap.objs.size f cdv)).units + 64 < cLine := hr.units
  exact bxs_cons ⟨ps_if (pt_cmpR (op_neD hu) (pv 0) (pv 1) (nomark _)) (pss_one (ps_ret pe_bl)) pss_nil⟩
    (bxs_cons ⟨ps_if (pt_cmpR op_ne (pe_ix ix_tup (pv 0) pe_int (fun _ _ => rfl)) pe_str (nomark _)) (pss_one (ps_ret (pe_not (pe_callB (call_isK N) rfl mi PyProof.Rows.boot_isinstance (pa_cons (pe_ix ix_tup (pv 0) pe_int (fun _ _ => rfl)) (pa_cons (pe_ty rfl mb PyProof.Rows.boot_bool) pa_nil)))))) pss_nil⟩
    (bxs_cons ⟨ps_lcGI (iy := 2) (te := tVar 0) (tt := tPlT K) (g := gName 0) rfl compPl (pi_list (pe_ix ix_tup (pv 0) pe_int (fun _ _ => rfl))) (fun s H C fp => by exact pg_name (i := 0) ndPl rfl (.inl rfl))
      (fun s H C fp => by exact PW.pt (pw_and (pt_not (pt_val (pe_callB (call_isK N) rfl mi PyProof.Rows.boot_isinstance (pa_cons (pe_ix ix_tup (pv 0) pe_int (fun _ _ => rfl)) (pa_cons (pe_ty rfl mb PyProof.Rows.boot_bool) pa_nil))))) (pw_and1 (pt_val (pe_callB (call_isK N) rfl mi PyProof.Rows.boot_isinstance (pa_cons (pe_ix ix_tup (pv 0) pe_int (fun _ _ => rfl)) (pa_cons (pe_ty rfl mb PyProof.Rows.boot_bool) pa_nil)))))))
      (fun s H C fp => by exact pv 0) nd rfl (Or.inl rfl) rfl⟩
    (bxs_one ⟨ps_ret (pe_and (pe_callB (call_isK N) rfl mi PyProof.Rows.boot_isinstance (pa_cons (pe_ix ix_tup (pv 0) pe_int (fun _ _ => rfl)) (pa_cons (pe_ty rfl ml PyProof.Rows.boot_list) pa_nil))) (pe_one (pe_cmpR op_eq (pe_callB call_len_seq rfl mn PySem.boot_len (pa_cons (pv 2) pa_nil)) (pe_callB call_len_seq rfl mn PySem.boot_len (pa_cons (pe_ix ix_tup (pv 0) pe_int (fun _ _ => rfl)) pa_nil)) (nomark _))))⟩)))
end
theorem ok_pl (N : IsT K) (F : Fun K "_law_plain" "_law_plain" sPl f fd) (mi : mg "isinstance" = none) (mb : mg "bool" = none) (ml : mg "list" = none) (mn : mg "len" = none) : FnOk P w K mg base CX0 2 f fd ["_law_found", "_law_due"] spPl := by
  refine F.ok scPl (fun vs H Q E h => ?_) (fun cdv A outer s H vs Q E hr h => ?_)
  · obtain ⟨_, _, _, rfl, _⟩ := h
    rfl
  obtain ⟨x, y, rs, rfl, r1, r2, lr, q⟩ := h
  obtain ⟨der⟩ := pl_der N mi mb ml mn hr (f := f) (cdv := cdv) (A := A) (outer := outer) (s := s) (H := H) (E := E)
  refine ⟨_, der, ?_⟩
  obtain ⟨pp, dd⟩ := resP rs
  have sz := sizeLine_eq
  refine ⟨_, rfl, _, rfl, _, _, r1, r2, pp, pp, dd, _, rfl, ?_⟩
  rw [eqD_refl pp]
  refine itF ?_
  show tSeq (tP2 K) (tSeq (tP3 K) (tP4 K)) _ [some x, some y, none] H
  rcases res_two rs with ⟨i, e⟩ | ⟨os, lo, e⟩
  · rw [e] at r1
    obtain ⟨p, rfl, hp⟩ := wd_two r1
    refine ⟨_, rfl, p, _, _, _, rfl, rfl, SqT.of hp, atI_nat (j := 0) rfl, rfl, _, rfl, ?_⟩
    rw [show (!decide (V.str "outcome" = V.str "told")) = true from by decide +kernel]
    refine itT ⟨_, rfl, p, _, _, _, rfl, rfl, SqT.of hp, atI_nat (j := 1) rfl, _, _, _, _, rfl, .inl (.int _), k_ib, _, rfl, q H (Ext.refl _)⟩
  · rw [e] at r1
    obtain ⟨p, l, xs, rfl, hp, hl, rx⟩ := told_two r1
    have lx := rx.length
    rw [List.length_map] at lx
    refine ⟨_, rfl, p, _, _, _, rfl, rfl, SqT.of hp, atI_nat (j := 0) rfl, rfl, _, rfl, ?_⟩
    rw [show (!decide (V.str "told" = V.str "told")) = false from by decide +kernel]
    refine itF ⟨_, rfl, p, _, _, _, rfl, rfl, SqT.of hp, atI_nat (j := 1) rfl, l, rfl, ⟨_, SqL.of hl⟩, fun D hD => ?_⟩
    refine lcGI_lst (K := K) (tt := tPlT K) (cap := []) (a := l) (xs := xs) (fun _ => true) (by omega) hl hD ?_ ?_
    · intro i v H' ev x' R r
      obtain ⟨d, ed, rd⟩ := rx.get ev
      rw [List.getElem?_map] at ed
      obtain ⟨o, eo, rfl⟩ := Option.map_eq_some_iff.mp ed
      obtain ⟨a, rfl, ha⟩ := oc_two (rd.mono x')
      refine ⟨_, rfl, a, _, _, _, rfl, rfl, SqT.of ha, atI_nat (j := 0) rfl, _, _, _, _, rfl, .inl (.int _), k_ib, _, rfl, itT ⟨_, rfl, a, _, _, _, rfl, rfl, SqT.of ha, atI_nat (j := 1) rfl, _, _, _, _, rfl, .inl (.bl _), rfl, _, rfl, r⟩⟩
    · intro H' x' hg
      rw [List.filter_eq_self.mpr (fun _ _ => rfl)] at hg
      refine ⟨_, rfl, p, _, _, _, rfl, rfl, SqT.of (x' _ _ hp), atI_nat (j := 1) rfl, _, _, _, _, rfl, .inl (.lst (x' _ _ hl)), rfl, _, rfl, itT ?_⟩
      refine ⟨_, rfl, D, xs, rfl, .inl (SqL.of hg), _, rfl, p, _, _, _, rfl, rfl, SqT.of (x' _ _ hp), atI_nat (j := 1) rfl, l, xs, rfl, .inl (SqL.of (x' _ _ hl)), rfl, ?_⟩
      rw [decide_eq_true rfl]
      exact q H' x'
end
end My
set_option Elab.async false
set_option linter.all false
set_option maxRecDepth 100000
set_option maxHeartbeats 1000000
set_option exponentiation.threshold 10000
namespace My
open PySem PySem.W L2
def wordK (i : Nat) (b : Bool) : Bool := decide (outI (cs (wordT ((i : Int) - 99, b))) = (some ((i : Int) - 99), b)) && (!(cs (wordT ((i : Int) - 99, b))).contains 32) && (!(cs (wordT ((i : Int) - 99, b))).isEmpty)
theorem word_all : ∀ i : Nat, i < 199 → ∀ b : Bool, wordK i b = true := by decide +kernel
theorem word_rt {o : Int × Bool} (h0 : -99 ≤ o.1) (h1 : o.1 ≤ 99) : outI (cs (wordT o)) = (some o.1, o.2) ∧ 32 ∉ cs (wordT o) ∧ cs (wordT o) ≠ [] := by
  obtain ⟨i, b⟩ := o
  have e : i = ((i + 99).toNat : Int) - 99 := by have : -99 ≤ i := h0; omega
  have k := word_all (i + 99).toNat (by have : i ≤ 99 := h1; omega) b
  unfold wordK at k
  rw [← e] at k
  simp only [Bool.and_eq_true, decide_eq_true_eq, Bool.not_eq_true'] at k
  refine ⟨k.1.1, ?_, ?_⟩
  · intro hm
    have := k.1.2
    rw [List.contains_iff_mem.mpr hm] at this
    cases this
  · intro hn
    have := k.2
    rw [hn] at this
    cases this
theorem rows_txt {os : List (Int × Bool)} (ok : OsOk os) : rowsO (txtO os) = os.map fun o => (some o.1, o.2) := by
  unfold rowsO
  cases os with
  | nil => rfl
  | cons o os =>
    have hm := ok o (List.mem_cons_self ..)
    have ne : (cs (txtO (o :: os))).isEmpty = false := by
      have h := join_mem 32 (ps := (o :: os).map wordT) (wordT o) (List.mem_map_of_mem (List.mem_cons_self ..))
      have h2 := (word_rt hm.1 hm.2).2.2
      have h3 : 0 < (cs (wordT o)).length := List.length_pos_iff.mpr h2
      have h4 : 0 < (cs (txtO (o :: os))).length := Nat.lt_of_lt_of_le h3 h
      cases e : cs (txtO (o :: os)) with
      | nil => rw [e] at h4; exact absurd h4 (by decide)
      | cons _ _ => rfl
    rw [if_neg (by rw [ne]; decide)]
    unfold txtO
    rw [split_join (by simp) (fun p hp => by
      obtain ⟨o', ho, rfl⟩ := List.mem_map.mp hp
      exact (word_rt (ok o' ho).1 (ok o' ho).2).2.1), List.map_map]
    exact List.map_congr_left fun o' ho => (word_rt (ok o' ho).1 (ok o' ho).2).1
theorem res_txt {os : List (Int × Bool)} (ok : OsOk os) : resD (rowsO (txtO os)) = .tuple [.str "told", .list (os.map oD2)] := by
  rw [rows_txt ok, res_all, List.map_map]
  · rw [List.map_map]
    rfl
  · rw [List.map_map, List.all_map, List.all_eq_true]
    intro o _
    rfl
theorem txt_len : ∀ {os : List (Int × Bool)}, OsOk os → (txtO os).length ≤ 5 * os.length := by
  intro os ok
  unfold txtO
  rw [len_cs]
  induction os with
  | nil => exact Nat.zero_le _
  | cons o os ih =>
    have hm := ok o (List.mem_cons_self ..)
    have wl := word_len hm.1 hm.2
    rw [len_cs] at wl
    have ih' := ih (fun o' ho => ok o' (List.mem_cons_of_mem _ ho))
    cases os with
    | nil =>
      show (cs (Str.join ⟨#[32]⟩ [wordT o])).length ≤ 5 * 1
      have e : Str.join ⟨#[32]⟩ [wordT o] = wordT o := rfl
      rw [e]
      omega
    | cons o2 os =>
      have e : Str.join ⟨#[32]⟩ ((o :: o2 :: os).map wordT) = wordT o ++ ⟨#[32]⟩ ++ Str.join ⟨#[32]⟩ ((o2 :: os).map wordT) := rfl
      rw [e, ← len_cs, strAp, strAp, len_cs, len_cs (Str.join _ _)]
      show (cs (wordT o)).length + 1 + _ ≤ _
      simp only [List.length_cons] at ih' ⊢
      omega
end My
set_option Elab.async false
set_option linter.all false
set_option maxRecDepth 100000
set_option maxHeartbeats 1000000
set_option exponentiation.threshold 10000
namespace My
open PySem PySem.W L2
theorem putF_new {f : Str} {v : V} : ∀ {fs : List (Str × V)}, (fs.all fun z => !decide (z.1 = f)) = true → putF f v fs = fs ++ [(f, v)]
  | [], _ => rfl
  | (g, x) :: r, h => by
    rw [List.all_cons, Bool.and_eq_true] at h
    have ne : ¬ g = f := by simpa using h.1
    show (if g = f then (g, v) :: r else (g, x) :: putF f v r) = _
    rw [if_neg ne, putF_new h.2]
    rfl
section
variable {P : Program} {w : World} {K : Frag} {mg : Str → Option Value} {base : Heap}
abbrev sMeI : Stmt := inClass (top 39) 0
abbrev sSuI : Stmt := inClass (top 40) 0
abbrev sRuI : Stmt := inClass (top 35) 0
abbrev sSpI : Stmt := inClass (top 36) 0
def MI (K : Frag) (C : Addr) : Prop := Cls K C ∧ NoAttr K C "mark"
def spMeI (K : Frag) : Sp := fun vs H Q _ => ∃ x v C dx, vs = [.ref x, v] ∧ H x = some (.ins C dx []) ∧ MI K C ∧ Q .non (upd H x (.ins C dx [("mark", v)]))
theorem scMeI : FnScope ["self", "mark"] ["self", "mark"] (defScope sMeI) := ⟨rfl, rfl, rfl, by decide +kernel, rfl, by decide +kernel, by decide +kernel⟩
theorem ok_mei {f : Addr} {fd : FuncData} (F : Fun K "__init__" "Measure.__init__" sMeI f fd) : FnOk P w K mg base CX0 1 f fd ["self", "mark"] (spMeI K) := by
  refine F.ok scMeI (fun vs H Q E h => ?_) (fun cdv A outer s H vs Q E hr h => ?_)
  · obtain ⟨x, v, C, dx, rfl, _⟩ := h
    rfl
  obtain ⟨x, v, C, dx, rfl, hx, c, q⟩ := h
  refine ⟨_, pss_one (ps_fld (pv 0) (pv 1) rfl), ?_⟩
  exact ⟨_, rfl, _, rfl, x, C, dx, [], rfl, hx, c.1, c.2, by decide, q⟩
def Md (K : Frag) (H : Hp) (x : Addr) (C dx : Addr) (Q : VK) : Prop := ∀ fs H', Kept H H' x → H' x = some (.ins C dx fs) → Q .non H'
def spSuI (K : Frag) : Sp := fun vs H Q _ => ∃ x C dx, vs = [.ref x] ∧ H x = some (.ins C dx []) ∧ MI K C ∧ Md K H x C dx Q
theorem scSuI : FnScope ["self"] ["self"] (defScope sSuI) := ⟨rfl, rfl, rfl, by decide +kernel, rfl, by decide +kernel, by decide +kernel⟩
theorem ok_sui {f S g : Addr} {fd gd : FuncData} (F : Fun K "__init__" "Sum.__init__" sSuI f fd) (C : ClsFn K S "__init__" g) (G : FnOk P w K mg base CX0 1 g gd ["self", "mark"] (spMeI K)) (bG : Binds K gd ["self", "mark"] []) (mS : mg "Measure" = some (.ref S)) : FnOk P w K mg base CX0 2 f fd ["self"] (spSuI K) := by
  refine F.ok scSuI (fun vs H Q E h => ?_) (fun cdv A outer s H vs Q E hr h => ?_)
  · obtain ⟨x, C, dx, rfl, _⟩ := h
    rfl
  obtain ⟨x, C', dx, rfl, hx, c, q⟩ := h
  refine ⟨_, pss_one (ps_expr (pe_clsCall C G hr rfl mS bG .nil pass0 (pa_cons (pv 0) (pa_cons (pe_tup (pa_cons pe_str pa_nil)) pa_nil)))), ?_⟩
  refine ⟨_, rfl, by show 1 ≤ sizeLine; decide, fun t ht => ?_⟩
  have x1 := Ext.new (o := .tup [.str "sum"]) ht
  refine ⟨x, _, C', dx, rfl, x1 _ _ hx, c, q _ _ ?_ upd_same⟩
  exact (x1.kept x).trans (keptUpd _)
def spRuI (K : Frag) : Sp := fun vs H Q _ => ∃ x v1 v2 v3 v4 C dx, vs = [.ref x, v1, v2, v3, v4] ∧ H x = some (.ins C dx []) ∧ (Cls K C ∧ NoAttr K C "size" ∧ NoAttr K C "first_state" ∧ NoAttr K C "mark" ∧ NoAttr K C "parts") ∧ Q .non (upd H x (.ins C dx [("size", v1), ("first_state", v2), ("mark", v3), ("parts", v4)]))
theorem scRuI : FnScope ["self", "size", "first_state", "mark", "parts"] ["self", "size", "first_state", "mark", "parts"] (defScope sRuI) := ⟨rfl, rfl, rfl, by decide +kernel, rfl, by decide +kernel, by decide +kernel⟩
theorem ok_rui {f : Addr} {fd : FuncData} (F : Fun K "__init__" "Rule.__init__" sRuI f fd) : FnOk P w K mg base CX0 1 f fd ["self", "size", "first_state", "mark", "parts"] (spRuI K) := by
  refine F.ok scRuI (fun vs H Q E h => ?_) (fun cdv A outer s H vs Q E hr h => ?_)
  · obtain ⟨x, v1, v2, v3, v4, C, dx, rfl, _⟩ := h
    rfl
  obtain ⟨x, v1, v2, v3, v4, C, dx, rfl, hx, ⟨c, n1, n2, n3, n4⟩, q⟩ := h
  refine ⟨_, pss_cons (ps_fld (pv 0) (pv 1) rfl) (pss_cons (ps_fld (pv 0) (pv 2) rfl) (pss_cons (ps_fld (pv 0) (pv 3) rfl) (pss_one (ps_fld (pv 0) (pv 4) rfl)))), ?_⟩
  have e1 : putF "size" v1 [] = [(("size" : Str), v1)] := rfl
  have e2 : putF "first_state" v2 [(("size" : Str), v1)] = [(("size" : Str), v1), (("first_state" : Str), v2)] := putF_new rfl
  have e3 : putF "mark" v3 [(("size" : Str), v1), (("first_state" : Str), v2)] = [(("size" : Str), v1), (("first_state" : Str), v2), (("mark" : Str), v3)] := putF_new rfl
  have e4 : putF "parts" v4 [(("size" : Str), v1), (("first_state" : Str), v2), (("mark" : Str), v3)] = [(("size" : Str), v1), (("first_state" : Str), v2), (("mark" : Str), v3), (("parts" : Str), v4)] := putF_new rfl
  refine ⟨_, rfl, _, rfl, x, C, dx, [], rfl, hx, c, n1, by decide, ?_⟩
  rw [e1]
  refine ⟨_, rfl, _, rfl, x, C, dx, _, rfl, upd_same, c, n2, by show 1 < 1000; decide, ?_⟩
  rw [upd_upd, e2]
  refine ⟨_, rfl, _, rfl, x, C, dx, _, rfl, upd_same, c, n3, by show 2 < 1000; decide, ?_⟩
  rw [upd_upd, e3]
  refine ⟨_, rfl, _, rfl, x, C, dx, _, rfl, upd_same, c, n4, by show 3 < 1000; decide, ?_⟩
  rw [upd_upd, e4]
  exact q
abbrev sNN : Stmt := top 33
def spNN : Sp := fun vs H Q _ => ∃ i lo hi : Int, vs = [.int i, .int lo, .int hi] ∧ lo ≤ i ∧ i ≤ hi ∧ Q .non H
theorem scNN : FnScope ["thing", "low", "high"] ["thing", "low", "high"] (defScope sNN) := ⟨rfl, rfl, rfl, by decide +kernel, rfl, by decide +kernel, by decide +kernel⟩
theorem ok_nn {f a1 : Addr} {fd d1 : FuncData} (F : Fun K "need_number" "need_number" sNN f fd) (A1 : Df P w K mg base CX0 2 "is_whole" ["thing", "low", "high"] (spIsWh K) a1 d1) : FnOk P w K mg base CX0 3 f fd ["thing", "low", "high"] spNN := by
  refine F.ok scNN (fun vs H Q E h => ?_) (fun cdv A outer s H vs Q E hr h => ?_)
  · obtain ⟨_, _, _, rfl, _⟩ := h
    rfl
  obtain ⟨i, lo, hi, rfl, h1, h2, q⟩ := h
  refine ⟨_, pss_one (ps_if (pt_not (pt_val (pe_call A1.G hr rfl A1.m A1.kp A1.b .nil pass0 (pa_cons (pv 0) (pa_cons (pv 1) (pa_cons (pv 2) pa_nil)))))) (pss_one ps_never) pss_nil), ?_⟩
  refine ⟨_, rfl, _, rfl, _, rfl, _, lo, hi, rfl, .inl ⟨i, rfl⟩, true, ?_, itF q⟩
  show V.bl (decide (lo ≤ i) && decide (i ≤ hi)) = V.bl true
  rw [decide_eq_true h1, decide_eq_true h2]
  rfl
abbrev sOP : Stmt := top 34
def spOP : Sp := fun vs H Q _ => ∃ i : Int, vs = [.int i] ∧ 0 ≤ i ∧ i ≤ 20 ∧ ∀ l H', Ext H H' → Q (.ref l) H'
theorem scOP : FnScope ["folk"] ["folk"] (defScope sOP) := ⟨rfl, rfl, rfl, by decide +kernel, rfl, by decide +kernel, by decide +kernel⟩
theorem ok_op {f : Addr} {fd : FuncData} (F : Fun K "one_part" "one_part" sOP f fd) (mt : mg "tuple" = none) (mr : mg "range" = none) : FnOk P w K mg base CX0 1 f fd ["folk"] spOP := by
  refine F.ok scOP (fun vs H Q E h => ?_) (fun cdv A outer s H vs Q E hr h => ?_)
  · obtain ⟨_, rfl, _⟩ := h
    rfl
  obtain ⟨i, rfl, h1, h2, q⟩ := h
  refine ⟨_, pss_one (ps_ret (pe_tup (pa_cons (pe_callTy (call_tupR rfl) rfl mt PyProof.Rows.boot_tuple (pa_cons (pe_callTy call_rng1 rfl mr PyProof.Rows.boot_range (pa_cons (pv 0) pa_nil)) pa_nil)) pa_nil))), ?_⟩
  refine ⟨_, rfl, i, rfl, fun r hr => ⟨r, 0, i, rfl, upd_same, ⟨by omega, by omega, by omega, by omega⟩, by omega, fun l hl => ⟨by show 1 ≤ sizeLine; decide, fun m hm => ?_⟩⟩⟩
  exact q m _ (((Ext.new hr).trans (Ext.new hl)).trans (Ext.new hm))
def spSpI (K : Frag) : Sp := fun vs H Q _ => ∃ (x : Addr) (i j : Int) (C dx : Addr), vs = [.ref x, .int i, .int j] ∧ 1 ≤ i ∧ i ≤ 20 ∧ 0 ≤ j ∧ j ≤ i ∧ H x = some (.ins C dx []) ∧ (Cls K C ∧ NoAttr K C "size" ∧ NoAttr K C "first_state" ∧ NoAttr K C "mark" ∧ NoAttr K C "parts") ∧ Md K H x C dx Q
theorem scSpI : FnScope ["self", "folk", "ones"] ["self", "folk", "ones"] (defScope sSpI) := ⟨rfl, rfl, rfl, by decide +kernel, rfl, by decide +kernel, by decide +kernel⟩
theorem ok_spi {f S g a1 a2 : Addr} {fd gd d1 d2 : FuncData} {t : Tok} (F : Fun K "__init__" "Split.__init__" sSpI f fd) (C : ClsFn K S "__init__" g) (G : FnOk P w K mg base CX0 1 g gd ["self", "size", "first_state", "mark", "parts"] (spRuI K)) (bG : Binds K gd ["self", "size", "first_state", "mark", "parts"] []) (mS : mg "Rule" = some (.ref S))
    (A1 : Df P w K mg base CX0 3 "need_number" ["thing", "low", "high"] spNN a1 d1) (A2 : Df P w K mg base CX0 1 "one_part" ["folk"] spOP a2 d2) (mF : mg "MOST_FOLK" = some (.int 20 t)) : FnOk P w K mg base CX0 4 f fd ["self", "folk", "ones"] (spSpI K) := by
  refine F.ok scSpI (fun vs H Q E h => ?_) (fun cdv A outer s H vs Q E hr h => ?_)
  · obtain ⟨x, i, j, C, dx, rfl, _⟩ := h
    rfl
  obtain ⟨x, i, j, C', dx, rfl, i1, i2, j1, j2, hx, c, q⟩ := h
  have hr1 : Room 1 _ := hr.mono (by decide)
  refine ⟨_, pss_cons (ps_expr (pe_call A1.G hr rfl A1.m A1.kp A1.b .nil pass0 (pa_cons (pv 1) (pa_cons pe_int (pa_cons (pe_glob (v := .int 20) rfl mF ⟨_, rfl⟩) pa_nil))))) (pss_cons (ps_expr (pe_call A1.G hr rfl A1.m A1.kp A1.b .nil pass0 (pa_cons (pv 2) (pa_cons pe_int (pa_cons (pv 1) pa_nil)))))
    (pss_one (ps_expr (pe_clsCall C G hr1 rfl mS bG .nil pass0 (pa_cons (pv 0) (pa_cons (pv 1) (pa_cons (pv 2) (pa_cons (pe_tup (pa_cons pe_str (pa_cons (pv 1) (pa_cons (pv 2) pa_nil)))) (pa_cons (pe_call A2.G hr1 rfl A2.m A2.kp A2.b .nil pass0 (pa_cons (pv 1) pa_nil)) pa_nil))))))))), ?_⟩
  refine ⟨_, rfl, i, 1, 20, rfl, i1, i2, ?_⟩
  refine ⟨_, rfl, _, rfl, j, 0, i, rfl, j1, j2, ?_⟩
  refine ⟨_, rfl, _, rfl, _, rfl, _, rfl, _, rfl, by show 3 ≤ sizeLine; decide, fun t ht => ⟨_, rfl, i, rfl, by omega, i2, fun l H2 x2 => ?_⟩⟩
  have x1 := (Ext.new ht).trans x2
  exact ⟨x, _, _, _, _, C', dx, rfl, x1 _ _ hx, c, q _ _ ((x1.kept x).trans (keptUpd _)) upd_same⟩
end
end My
set_option Elab.async false
set_option linter.all false
set_option maxRecDepth 100000
set_option maxHeartbeats 1000000
set_option exponentiation.threshold 10000
namespace My
open PySem PySem.W L2
section
variable {P : Program} {w : World} {K : Frag} {mg : Str → Option Value} {base : Heap}
abbrev sLaw : Stmt := top 51
abbrev stLw (i : Nat) : Stmt := (defBody sLaw).getD i (.Pass ⟨0, 0, 0, 0⟩)
def forBody : Stmt → List Stmt
  | .For _ _ b _ _ => b
  | _ => []
abbrev stB (i : Nat) : Stmt := (forBody (stLw 1)).getD i (.Pass ⟨0, 0, 0, 0⟩)
abbrev NLw : List Str := ["_law_script", "_law_pen", "_law_k", "_law_folk", "_law_outcomes_here", "_law_text_here", "_law_some", "_law_one", "_law_odd", "_law_found", "_law_at", "_law_wrong"]
theorem scLw : FnScope NLw ["_law_script"] (defScope sLaw) := ⟨rfl, rfl, rfl, by decide +kernel, rfl, by decide +kernel, by decide +kernel⟩
structure Dl (P : Program) (w : World) (K : Frag) (mg : Str → Option Value) (base : Heap) (D CU CP CT CO fU fP fT a1 a2 a3 a4 a5 a6 a7 a8 a9 : Addr) (dU dP dT d1 d2 d3 d4 d5 d6 d7 d8 d9 : FuncData) : Prop where
  tk : Df P w K mg base CX0 1 "_law_take" ["_law_script", "_law_pen", "_law_many"] (spTake K) a1 d1
  lo : Df P w K mg base CX0 2 "_law_outcomes" ["_law_script", "_law_pen", "_law_folk", "_law_sure"] (spLO K) a2 d2
  lt : Df P w K mg base CX0 1 "_law_text" ["_law_outcomes_here"] spLT a3 d3
  rd : Df P w K mg base CX0 2 "_law_read" ["_law_text_here"] spRd a4 d4
  td : Df P w K mg base CX0 6 "_law_told" ["_law_text_here"] (spTd K) a5 d5
  wr : Df P w K mg base CX0 7 "_law_written" ["_law_outcomes_here"] (spWr K) a6 d6
  st : Df P w K mg base CX0 2 "_law_spoilt" ["_law_script", "_law_pen", "_law_text_here"] (spSt K) a7 d7
  pl : Df P w K mg base CX0 2 "_law_plain" ["_law_found", "_law_due"] spPl a8 d8
  oi : Df P w K mg base (CXE P w) 5 "outcomes_in" ["text"] (spOsI K CT CO) a9 d9
  mkU : Mk K CU fU
  gU : FnOk P w K mg base CX0 2 fU dU ["self"] (spSuI K)
  bU : Binds K dU ["self"] []
  mU : mg "Sum" = some (.ref CU)
  mkP : Mk K CP fP
  gP : FnOk P w K mg base CX0 4 fP dP ["self", "folk", "ones"] (spSpI K)
  bP : Binds K dP ["self", "folk", "ones"] []
  mP : mg "Split" = some (.ref CP)
  B : BaseC K D
  eT : OneF K mg D "NoText" "found" CT fT dT
  mr : mg "range" = none
  mx : mg "max" = none
  mm : mg "min" = none
  ml : mg "len" = none
  mt : mg "tuple" = none
  mi : mg "list" = none
  mp : mg "repr" = none
variable {f : Addr} {cdv : Value} {A : Around} {outer : List Env} {s : Shared} {H : Hp} {E : XK}
variable {D CU CP CT CO fU fP fT a1 a2 a3 a4 a5 a6 a7 a8 a9 : Addr} {dU dP dT d1 d2 d3 d4 d5 d6 d7 d8 d9 : FuncData}
def rListOf (K : Frag) : List V → Hp → VK → Prop := fun xs H Q => ∃ p ys, xs = [.ref p] ∧ (SqL K H p ys ∨ SqT K H p ys) ∧ ∀ l, H l = none → Q (.ref l) (upd H l (.lst ys))
def rTupOf (K : Frag) : List V → Hp → VK → Prop := fun xs H Q => ∃ p ys, xs = [.ref p] ∧ ((SqL K H p ys ∧ ∀ l, H l = none → Q (.ref l) (upd H l (.tup ys))) ∨ (SqT K H p ys ∧ Q (.ref p) H))
def tRF : TS := tRet (tC (.bl false))
def tWd2 (z : Str) (te : TE) : TE := tTup (tCons (tC (.str z)) (tCons te tNil))
def tWr (K : Frag) (te : TE) : TE := tCall (spWr K) [] E0 (tCons te tNil)
def tTd (K : Frag) (te : TE) : TE := tCall (spTd K) [] E0 (tCons te tNil)
def tNeD (ta tb : TE) : TT := tB (tOp (rEqD not) ta tb)
def tA0 (K : Frag) : TS := tAsg (tTk K (tOp (rIxL K) (tLst (tCons (tC (.int 13)) (tCons (tC (.int 13)) (tCons (tC (.int 13)) (tCons (tC (.int 21)) tNil))))) (tTk K (tC (.int 4))))) (gName 3)
def tA1 (K : Frag) : TS := tIfS (tAnd (tB (tOp rEq (tVar 2) (tC (.int 0)))) (tB (tOp rEq (tTk K (tC (.int 8))) (tC (.int 0))))) (tAsg (tOp (rI0 fun i j => .int (i - j)) (tC (.int 1099)) (tTk K (tC (.int 3)))) (gName 3)) tNext
def tA2 (K : Frag) : TS := tAsg (tCall (spLO K) [] E0 (tCons (tVar 0) (tCons (tVar 1) (tCons (tVar 3) (tCons (tC (.bl false)) tNil))))) (gName 4)
def tA3 : TS := tAsg (tCall spLT [] E0 (tCons (tVar 4) tNil)) (gName 5)
def tA4 (K : Frag) : TS := tIfS (tNeD (tWr K (tCB (rListOf K) (tCons (tVar 4) tNil))) (tWd2 "told" (tVar 5))) tRF tNext
def tLe4 (i : Nat) : TT := tB (tOp (rI0 fun i j => .bl (decide (i ≤ j))) (tCB rLenS (tCons (tVar i) tNil)) (tC (.int 4000)))
def tPlB (ta tb : TE) : TT := tNot (tB (tCall spPl [] E0 (tCons ta (tCons tb tNil))))
def tA5a (K : Frag) : TS := tIfS (tPlB (tTd K (tVar 5)) (tWd2 "told" (tVar 4))) tRF tNext
def tA5b (K : Frag) (CT CO : Addr) : TS := tDrop (tBM K "list" rAppend (tCall (spOsI K CT CO) [] E0 (tCons (tVar 5) tNil)) (tCons (tC (.int 7)) tNil))
def tA5 (K : Frag) (CT CO : Addr) : TS := tIfS (tLe4 5) (tSeq (tA5a K) (tA5b K CT CO)) tNext
def tSt' (K : Frag) (te : TE) : TE := tCall (spSt K) [] E0 (tCons (tVar 0) (tCons (tVar 1) (tCons te tNil)))
def tA6 (K : Frag) : TS := tAsg (tLst (tCons (tVar 5) (tCons (tSt' K (tVar 5)) (tCons (tSt' K (tVar 5)) (tCons (tSt' K (tC (.str ""))) tNil))))) (gName 6)
def tA7b (K : Frag) : TS := tIfS (tAnd (tLe4 7) (tPlB (tTd K (tVar 7)) (tCall spRd [] E0 (tCons (tVar 7) tNil)))) tRF tNext
def tA7 (K : Frag) : TS := tFor (iList K (tVar 6)) (gName 7) (tA7b K)
def tOdd6 : TA := tCons (tC .non) (tCons (tC (.int 7)) (tCons (tC (.bl true)) (tCons (tLst tNil) (tCons (tTup (tCons (tC (.str "7")) tNil)) (tCons tDNewK tNil)))))
def tA8 (K : Frag) : TS := tAsg (tOp (rIxL K) (tLst tOdd6) (tTk K (tC (.int 6)))) (gName 8)
def tA9 (K : Frag) : TS := tAsg (tTd K (tVar 8)) (gName 9)
def tRp (te : TE) : TE := tCB rRepr (tCons te tNil)
def tIx9 (K : Frag) (i : Int) : TE := tOp (rIxT K) (tVar 9) (tC (.int i))
def tA10 (K : Frag) : TS := tIfS (tOr (tB (tOp rNe (tIx9 K 0) (tC (.str "text")))) (tB (tOp rNe (tRp (tIx9 K 1)) (tRp (tVar 8))))) tRF tNext
def tMk3 (K : Frag) (CU CP CT : Addr) : TA := tCons (tMake CU (spSuI K) [] E0 tNil) (tCons (tMake CP (spSpI K) [] E0 (tCons (tC (.int 2)) (tCons (tC (.int 1)) tNil))) (tCons (tErr CT "found" (tC (.str "7"))) tNil))
def tA11 (K : Frag) (CU CP CT : Addr) : TS := tAsg (tOp (rIxL K) (tLst (tMk3 K CU CP CT)) (tTk K (tC (.int 3)))) (gName 8)
def tNeA (K : Frag) (ta tb : TE) : TT := tB (tOp (rAlike K 0 false) ta tb)
def tA12 (K : Frag) : TS := tIfS (tOr (tNeA K (tTd K (tVar 8)) (tWd2 "text" (tVar 8))) (tNeA K (tWr K (tVar 8)) (tWd2 "folk" (tVar 8)))) tRF tNext
def tA13 (K : Frag) : TS := tIfS (tNeD (tWr K (tLst (tCons (tTup (tCons (tC (.int 7)) (tCons (tC (.bl true)) tNil))) (tCons (tVar 8) tNil)))) (tWd2 "outcome" (tC (.int 1)))) tRF tNext
def tA14 (K : Frag) : TS := tAsg (tTk K (tOp (rI0 fun i j => .int (i + j)) (tVar 3) (tC (.int 1)))) (gName 10)
def tT2 (a b : V) : TE := tTup (tCons (tC a) (tCons (tC b) tNil))
def tOdd5 : TA := tCons (tT2 (.int 100) (.bl true)) (tCons (tT2 (.int 7) (.int 1)) (tCons (tC .non) (tCons (tLst (tCons (tC (.int 7)) (tCons (tC (.bl true)) tNil))) (tCons (tT2 (.bl true) (.bl true)) tNil))))
def tA15 (K : Frag) : TS := tAsg (tOp (rIxL K) (tLst tOdd5) (tTk K (tC (.int 5)))) (gName 11)
def tCut (K : Frag) : TE := tOp rCat (tOp rCat (tSl (rSlL K) (tVar 4) tNoPart (tPart (tVar 10))) (tLst (tCons (tVar 11) tNil))) (tSl (rSlL K) (tVar 4) (tPart (tVar 10)) tNoPart)
def tA16 (K : Frag) : TS := tIfS (tNeD (tWr K (tCut K)) (tWd2 "outcome" (tVar 10))) tRF tNext
def tTup4 (K : Frag) : TE := tCB (rTupOf K) (tCons (tVar 4) tNil)
def tA17 (K : Frag) : TS := tIfS (tOr (tNeD (tWr K (tTup4 K)) (tWd2 "folk" (tTup4 K))) (tNeD (tWr K (tC .non)) (tWd2 "folk" (tC .non)))) tRF tNext
def tBody (K : Frag) (CU CP CT CO : Addr) : TS := tSeq (tA0 K) (tSeq (tA1 K) (tSeq (tA2 K) (tSeq tA3 (tSeq (tA4 K) (tSeq (tA5 K CT CO) (tSeq (tA6 K) (tSeq (tA7 K) (tSeq (tA8 K) (tSeq (tA9 K) (tSeq (tA10 K) (tSeq (tA11 K CU CP CT) (tSeq (tA12 K) (tSeq (tA13 K) (tSeq (tA14 K) (tSeq (tA15 K) (tSeq (tA16 K) (tA17 K)))))))))))))))))
section
variable (L : Dl P w K mg base D CU CP CT CO fU fP fT a1 a2 a3 a4 a5 a6 a7 a8 a9 dU dP dT d1 d2 d3 d4 d5 d6 d7 d8 d9) (hz : H sysModules = none) (hr : Room 7 (A.deeper (PyProof.Rows.envOfC "law" (defScope sLaw) s.heap.objs.size f cdv)))
include L hr
theorem b_0 : Bx (PS (cxOf CX0 P w K mg base NLw "law" (defScope sLaw) f cdv A outer s H E).nox (stB 0) (tA0 K)) := by
  have hr1 : Room 1 _ := hr.mono (by decide)
  exact ⟨ps_set (i := 3) scLw.nd rfl (Or.inl rfl) (pe_call L.tk.G hr1 rfl L.tk.m L.tk.kp L.tk.b .nil pass0 (pa_cons (pv 0) (pa_cons (pv 1) (pa_cons (pe_ix ix_list (pe_lst (pa_cons pe_int (pa_cons pe_int (pa_cons pe_int (pa_cons pe_int pa_nil))))) (pe_call L.tk.G hr1 rfl L.tk.m L.tk.kp L.tk.b .nil pass0 (pa_cons (pv 0) (pa_cons (pv 1) (pa_cons pe_int pa_nil)))) (fun _ _ => rfl)) pa_nil))))⟩
theorem b_1 : Bx (PS (cxOf CX0 P w K mg base NLw "law" (defScope sLaw) f cdv A outer s H E).nox (stB 1) (tA1 K)) := by
  have hr1 : Room 1 _ := hr.mono (by decide)
  exact ⟨ps_if (PW.pt (pw_and (pt_cmpR op_eq (pv 2) pe_int (nomark _)) (pw_and1 (pt_cmpR op_eq (pe_call L.tk.G hr1 rfl L.tk.m L.tk.kp L.tk.b .nil pass0 (pa_cons (pv 0) (pa_cons (pv 1) (pa_cons pe_int pa_nil)))) pe_int (nomark _)))))
    (pss_one (ps_set (i := 3) scLw.nd rfl (Or.inl rfl) (pe_op op_sub pe_int (pe_call L.tk.G hr1 rfl L.tk.m L.tk.kp L.tk.b .nil pass0 (pa_cons (pv 0) (pa_cons (pv 1) (pa_cons pe_int pa_nil))))))) pss_nil⟩
theorem b_2 : Bx (PS (cxOf CX0 P w K mg base NLw "law" (defScope sLaw) f cdv A outer s H E).nox (stB 2) (tA2 K)) := by
  have hr2 : Room 2 _ := hr.mono (by decide)
  exact ⟨ps_set (i := 4) scLw.nd rfl (Or.inl rfl) (pe_call L.lo.G hr2 rfl L.lo.m L.lo.kp L.lo.b .nil pass0 (pa_cons (pv 0) (pa_cons (pv 1) (pa_cons (pv 3) (pa_cons pe_bl pa_nil)))))⟩
theorem b_3 : Bx (PS (cxOf CX0 P w K mg base NLw "law" (defScope sLaw) f cdv A outer s H E).nox (stB 3) tA3) := by
  have hr1 : Room 1 _ := hr.mono (by decide)
  exact ⟨ps_set (i := 5) scLw.nd rfl (Or.inl rfl) (pe_call L.lt.G hr1 rfl L.lt.m L.lt.kp L.lt.b .nil pass0 (pa_cons (pv 4) pa_nil))⟩
theorem b_4 : Bx (PS (cxOf CX0 P w K mg base NLw "law" (defScope sLaw) f cdv A outer s H E).nox (stB 4) (tA4 K)) := by
  have hu := hr.units
  exact ⟨ps_if (pt_cmpR (op_neD hu) (pe_call L.wr.G hr rfl L.wr.m L.wr.kp L.wr.b .nil pass0 (pa_cons (pe_callTy call_list_of rfl L.mi PyProof.Rows.boot_list (pa_cons (pv 4) pa_nil)) pa_nil)) (pe_tup (pa_cons pe_str (pa_cons (pv 5) pa_nil))) (nomark _)) (pss_one (ps_ret pe_bl)) pss_nil⟩
theorem b_5 : Bx (PS (cxOf CX0 P w K mg base NLw "law" (defScope sLaw) f cdv A outer s H E).nox (stB 5) (tA5 K CT CO)) := by
  have hr2 : Room 2 _ := hr.mono (by decide)
  have hr5 : Room 5 _ := hr.mono (by decide)
  have hr6 : Room 6 _ := hr.mono (by decide)
  exact ⟨ps_if (pt_cmpR op_le (pe_callB call_len_str rfl L.ml PySem.boot_len (pa_cons (pv 5) pa_nil)) pe_int (nomark _))
    (pss_cons (ps_if (pt_not (pt_val (pe_call L.pl.G hr2 rfl L.pl.m L.pl.kp L.pl.b .nil pass0 (pa_cons (pe_call L.td.G hr6 rfl L.td.m L.td.kp L.td.b .nil pass0 (pa_cons (pv 5) pa_nil)) (pa_cons (pe_tup (pa_cons pe_str (pa_cons (pv 4) pa_nil))) pa_nil))))) (pss_one (ps_ret pe_bl)) pss_nil)
    (pss_one (ps_expr (pe_bm PySem.F.plainAttrs_list PySem.F.slot_list_append PySem.F.type_list_append mt_append (pe_call L.oi.G hr5 rfl L.oi.m L.oi.kp L.oi.b .nil passN (pa_cons (pv 5) pa_nil)) (pa_cons pe_int pa_nil))))) pss_nil⟩
theorem b_6 : Bx (PS (cxOf CX0 P w K mg base NLw "law" (defScope sLaw) f cdv A outer s H E).nox (stB 6) (tA6 K)) := by
  have hr2 : Room 2 _ := hr.mono (by decide)
  exact bx_set (i := 6) scLw.nd rfl (Or.inl rfl) (bx_lst ⟨pa_cons (pv 5) (pa_cons (pe_call L.st.G hr2 rfl L.st.m L.st.kp L.st.b .nil pass0 (pa_cons (pv 0) (pa_cons (pv 1) (pa_cons (pv 5) pa_nil)))) (pa_cons (pe_call L.st.G hr2 rfl L.st.m L.st.kp L.st.b .nil pass0 (pa_cons (pv 0) (pa_cons (pv 1) (pa_cons (pv 5) pa_nil)))) (pa_cons (pe_call L.st.G hr2 rfl L.st.m L.st.kp L.st.b .nil pass0 (pa_cons (pv 0) (pa_cons (pv 1) (pa_cons pe_str pa_nil)))) pa_nil)))⟩)
theorem b_7 : Bx (PS (cxOf CX0 P w K mg base NLw "law" (defScope sLaw) f cdv A outer s H E).nox (stB 7) (tA7 K)) := by
  have hr2 : Room 2 _ := hr.mono (by decide)
  have hr6 : Room 6 _ := hr.mono (by decide)
  exact ⟨ps_for PassesOwn.never rfl (pi_list (pv 6)) (pg_name (i := 7) scLw.nd rfl (Or.inl rfl)) (pss_one (ps_if (PW.pt (pw_and (pt_cmpR op_le (pe_callB call_len_str rfl L.ml PySem.boot_len (pa_cons (pv 7) pa_nil)) pe_int (nomark _))
    (pw_and1 (pt_not (pt_val (pe_call L.pl.G hr2 rfl L.pl.m L.pl.kp L.pl.b .nil pass0 (pa_cons (pe_call L.td.G hr6 rfl L.td.m L.td.kp L.td.b .nil pass0 (pa_cons (pv 7) pa_nil)) (pa_cons (pe_call L.rd.G hr2 rfl L.rd.m L.rd.kp L.rd.b .nil pass0 (pa_cons (pv 7) pa_nil)) pa_nil))))))))
    (pss_one (ps_ret pe_bl)) pss_nil))⟩
theorem b_8 : Bx (PS (cxOf CX0 P w K mg base NLw "law" (defScope sLaw) f cdv A outer s H E).nox (stB 8) (tA8 K)) := by
  have hr1 : Room 1 _ := hr.mono (by decide)
  exact bx_set (i := 8) scLw.nd rfl (Or.inl rfl) (bx_ix ix_list (bx_lst ⟨pa_cons pe_non (pa_cons pe_int (pa_cons pe_bl (pa_cons (pe_lst pa_nil) (pa_cons (pe_tup (pa_cons pe_str pa_nil)) (pa_cons pe_dnewK pa_nil)))))⟩) ⟨pe_call L.tk.G hr1 rfl L.tk.m L.tk.kp L.tk.b .nil pass0 (pa_cons (pv 0) (pa_cons (pv 1) (pa_cons pe_int pa_nil)))⟩ (fun _ _ => rfl))
theorem b_9 : Bx (PS (cxOf CX0 P w K mg base NLw "law" (defScope sLaw) f cdv A outer s H E).nox (stB 9) (tA9 K)) := by
  have hr6 : Room 6 _ := hr.mono (by decide)
  exact ⟨ps_set (i := 9) scLw.nd rfl (Or.inl rfl) (pe_call L.td.G hr6 rfl L.td.m L.td.kp L.td.b .nil pass0 (pa_cons (pv 8) pa_nil))⟩
theorem b_11 : Bx (PS (cxOf CX0 P w K mg base NLw "law" (defScope sLaw) f cdv A outer s H E).nox (stB 11) (tA11 K CU CP CT)) := by
  have hr1 : Room 1 _ := hr.mono (by decide)
  have hr2 : Room 2 _ := hr.mono (by decide)
  have hr3 : Room 3 _ := hr.mono (by decide)
  have hr5 : Room 5 _ := hr.mono (by decide)
  exact bx_set (i := 8) scLw.nd rfl (Or.inl rfl) (bx_ix ix_list (bx_lst ⟨pa_cons (pe_make0 L.mkU L.gU hr3 rfl L.mU L.bU .nil pass0) (pa_cons (pe_make L.mkP L.gP hr5 rfl L.mP L.bP .nil pass0 (pa_cons pe_int (pa_cons pe_int pa_nil))) (pa_cons (pe_err L.B L.eT.cls (L.eT.ok P w base) hr2 L.eT.bi rfl L.eT.mgC pe_str) pa_nil))⟩)
    ⟨pe_call L.tk.G hr1 rfl L.tk.m L.tk.kp L.tk.b .nil pass0 (pa_cons (pv 0) (pa_cons (pv 1) (pa_cons pe_int pa_nil)))⟩ (fun _ _ => rfl))
theorem b_12 : Bx (PS (cxOf CX0 P w K mg base NLw "law" (defScope sLaw) f cdv A outer s H E).nox (stB 12) (tA12 K)) := by
  have hr6 : Room 6 _ := hr.mono (by decide)
  have hu : (A.deeper (PyProof.Rows.envOfC "law" (defScope sLaw) s.heap.objs.size f cdv)).units + (0 + 1) < cLine := by have := hr.un; omega
  exact ⟨ps_if (PW.pt (pw_or (pt_cmpR (op_neA hu) (pe_call L.td.G hr6 rfl L.td.m L.td.kp L.td.b .nil pass0 (pa_cons (pv 8) pa_nil)) (pe_tup (pa_cons pe_str (pa_cons (pv 8) pa_nil))) (nomark _))
    (pw_or1 (pt_cmpR (op_neA hu) (pe_call L.wr.G hr rfl L.wr.m L.wr.kp L.wr.b .nil pass0 (pa_cons (pv 8) pa_nil)) (pe_tup (pa_cons pe_str (pa_cons (pv 8) pa_nil))) (nomark _))))) (pss_one (ps_ret pe_bl)) pss_nil⟩
theorem b_13 : Bx (PS (cxOf CX0 P w K mg base NLw "law" (defScope sLaw) f cdv A outer s H E).nox (stB 13) (tA13 K)) := by
  have hu := hr.units
  exact ⟨ps_if (pt_cmpR (op_neD hu) (pe_call L.wr.G hr rfl L.wr.m L.wr.kp L.wr.b .nil pass0 (pa_cons (pe_lst (pa_cons (pe_tup (pa_cons pe_int (pa_cons pe_bl pa_nil))) (pa_cons (pv 8) pa_nil))) pa_nil)) (pe_tup (pa_cons pe_str (pa_cons pe_int pa_nil))) (nomark _)) (pss_one (ps_ret pe_bl)) pss_nil⟩
theorem b_14 : Bx (PS (cxOf CX0 P w K mg base NLw "law" (defScope sLaw) f cdv A outer s H E).nox (stB 14) (tA14 K)) := by
  have hr1 : Room 1 _ := hr.mono (by decide)
  exact ⟨ps_set (i := 10) scLw.nd rfl (Or.inl rfl) (pe_call L.tk.G hr1 rfl L.tk.m L.tk.kp L.tk.b .nil pass0 (pa_cons (pv 0) (pa_cons (pv 1) (pa_cons (pe_op op_add (pv 3) pe_int) pa_nil))))⟩
theorem b_15 : Bx (PS (cxOf CX0 P w K mg base NLw "law" (defScope sLaw) f cdv A outer s H E).nox (stB 15) (tA15 K)) := by
  have hr1 : Room 1 _ := hr.mono (by decide)
  exact bx_set (i := 11) scLw.nd rfl (Or.inl rfl) (bx_ix ix_list (bx_lst ⟨pa_cons (pe_tup (pa_cons pe_int (pa_cons pe_bl pa_nil))) (pa_cons (pe_tup (pa_cons pe_int (pa_cons pe_int pa_nil))) (pa_cons pe_non (pa_cons (pe_lst (pa_cons pe_int (pa_cons pe_bl pa_nil))) (pa_cons (pe_tup (pa_cons pe_bl (pa_cons pe_bl pa_nil))) pa_nil))))⟩) ⟨pe_call L.tk.G hr1 rfl L.tk.m L.tk.kp L.tk.b .nil pass0 (pa_cons (pv 0) (pa_cons (pv 1) (pa_cons pe_int pa_nil)))⟩ (fun _ _ => rfl))
theorem b_16 : Bx (PS (cxOf CX0 P w K mg base NLw "law" (defScope sLaw) f cdv A outer s H E).nox (stB 16) (tA16 K)) := by
  have hu := hr.units
  exact ⟨ps_if (pt_cmpR (op_neD hu) (pe_call L.wr.G hr rfl L.wr.m L.wr.kp L.wr.b .nil pass0 (pa_cons (pe_op op_cat (pe_op op_cat (pe_slice sl_list (pv 4) po_none (po_some (pv 10))) (pe_lst (pa_cons (pv 11) pa_nil))) (pe_slice sl_list (pv 4) (po_some (pv 10)) po_none)) pa_nil)) (pe_tup (pa_cons pe_str (pa_cons (pv 10) pa_nil))) (nomark _)) (pss_one (ps_ret pe_bl)) pss_nil⟩
theorem b_17 : Bx (PS (cxOf CX0 P w K mg base NLw "law" (defScope sLaw) f cdv A outer s H E).nox (stB 17) (tA17 K)) := by
  have hu := hr.units
  exact ⟨ps_if (PW.pt (pw_or (pt_cmpR (op_neD hu) (pe_call L.wr.G hr rfl L.wr.m L.wr.kp L.wr.b .nil pass0 (pa_cons (pe_callTy call_tuple_of rfl L.mt PyProof.Rows.boot_tuple (pa_cons (pv 4) pa_nil)) pa_nil)) (pe_tup (pa_cons pe_str (pa_cons (pe_callTy call_tuple_of rfl L.mt PyProof.Rows.boot_tuple (pa_cons (pv 4) pa_nil)) pa_nil))) (nomark _))
    (pw_or1 (pt_cmpR (op_neD hu) (pe_call L.wr.G hr rfl L.wr.m L.wr.kp L.wr.b .nil pass0 (pa_cons pe_non pa_nil)) (pe_tup (pa_cons pe_str (pa_cons pe_non pa_nil))) (nomark _))))) (pss_one (ps_ret pe_bl)) pss_nil⟩
include hz
theorem b_10 : Bx (PS (cxOf CX0 P w K mg base NLw "law" (defScope sLaw) f cdv A outer s H E).nox (stB 10) (tA10 K)) := by
  exact ⟨ps_if (PW.pt (pw_or (pt_cmpR op_ne (pe_ix ix_tup (pv 9) pe_int (fun _ _ => rfl)) pe_str (nomark _)) (pw_or1 (pt_cmpR op_ne (pe_callB (call_repr hz hr.gd hr.units) rfl L.mp PyProof.Rows.boot_repr (pa_cons (pe_ix ix_tup (pv 9) pe_int (fun _ _ => rfl)) pa_nil)) (pe_callB (call_repr hz hr.gd hr.units) rfl L.mp PyProof.Rows.boot_repr (pa_cons (pv 8) pa_nil)) (nomark _))))) (pss_one (ps_ret pe_bl)) pss_nil⟩
theorem body_der : Bx (PSs (cxOf CX0 P w K mg base NLw "law" (defScope sLaw) f cdv A outer s H E).nox (forBody (stLw 1)) (tBody K CU CP CT CO)) := bxs_cons (b_0 L hr) (bxs_cons (b_1 L hr) (bxs_cons (b_2 L hr) (bxs_cons (b_3 L hr) (bxs_cons (b_4 L hr) (bxs_cons (b_5 L hr) (bxs_cons (b_6 L hr) (bxs_cons (b_7 L hr) (bxs_cons (b_8 L hr) (bxs_cons (b_9 L hr) (bxs_cons (b_10 L hz hr) (bxs_cons (b_11 L hr) (bxs_cons (b_12 L hr) (bxs_cons (b_13 L hr) (bxs_cons (b_14 L hr) (bxs_cons (b_15 L hr) (bxs_cons (b_16 L hr) (bxs_one (b_17 L hr))))))))))))))))))
end
def rMin2 : List V → Hp → VK → Prop := fun xs H Q => ∃ i j, xs = [.int i, .int j] ∧ Q (.int (if j < i then j else i)) H
def rMax2 : List V → Hp → VK → Prop := fun xs H Q => ∃ i j, xs = [.int i, .int j] ∧ Q (.int (if j > i then j else i)) H
def tTurns (K : Frag) : TE := tCB rMax2 (tCons (tC (.int 3)) (tCons (tCB rMin2 (tCons (tC (.int 8)) (tCons (tCB (rLnQ K) (tCons (tVar 0) tNil)) tNil))) tNil))
def tL1 (K : Frag) (CU CP CT CO : Addr) : TS := tFor (iRng1 (tCons (tTurns K) tNil)) (gName 2) (tBody K CU CP CT CO)
def tPen (K : Frag) : TS := tAsg (tLstN K (tCons (tC (.int 0)) (tCons (tC (.int 0)) (tCons (tC (.int 7)) tNil)))) (gName 1)
def tLaw (K : Frag) (CU CP CT CO : Addr) : TS := tSeq (tPen K) (tSeq (tL1 K CU CP CT CO) (tRet (tC (.bl true))))
section
variable (L : Dl P w K mg base D CU CP CT CO fU fP fT a1 a2 a3 a4 a5 a6 a7 a8 a9 dU dP dT d1 d2 d3 d4 d5 d6 d7 d8 d9) (hz : H sysModules = none) (hr : Room 7 (A.deeper (PyProof.Rows.envOfC "law" (defScope sLaw) s.heap.objs.size f cdv)))
include L hr hz
theorem l_1 : Bx (PS (cxOf CX0 P w K mg base NLw "law" (defScope sLaw) f cdv A outer s H E).nox (stLw 1) (tL1 K CU CP CT CO)) := by
  have nd := scLw.nd
  exact ⟨ps_for PassesOwn.never rfl (pi_range1 rfl L.mr (pa_cons (pe_callB (call_max2 rfl) rfl L.mx PyProof.Rows.boot_max (pa_cons pe_int (pa_cons (pe_callB (call_min2 rfl) rfl L.mm PyProof.Rows.boot_min (pa_cons pe_int (pa_cons (pe_callB call_len_seq rfl L.ml PySem.boot_len (pa_cons (pv 0) pa_nil)) pa_nil))) pa_nil))) pa_nil)) (pg_name (i := 2) nd rfl (Or.inl rfl)) (body_der L hz hr).h⟩
theorem law_der : Bx (PSs (cxOf CX0 P w K mg base NLw "law" (defScope sLaw) f cdv A outer s H E).nox (defBody sLaw) (tLaw K CU CP CT CO)) := by
  have nd := scLw.nd
  exact bxs_cons (bx_set (i := 1) nd rfl (Or.inl rfl) ⟨pe_lstN (pa_cons pe_int (pa_cons pe_int (pa_cons pe_int pa_nil)))⟩) (bxs_cons (l_1 L hz hr) (bxs_one ⟨ps_ret pe_bl⟩))
end
end
end My
set_option Elab.async false
set_option linter.all false
set_option maxRecDepth 100000
set_option maxHeartbeats 1000000
set_option exponentiation.threshold 10000
namespace My
open PySem PySem.W L2
def stL (s p : Addr) (kk : Int) (o3 o4 o5 o6 o7 o8 o9 o10 o11 : Option V) : St := [some (.ref s), some (.ref p), some (.int kk), o3, o4, o5, o6, o7, o8, o9, o10, o11]
structure Out (G : Hp) (l : Addr) (xs : List V) (os : List (Int × Bool)) : Prop where
  hl : G l = some (.lst xs)
  rx : RdsAll G xs (os.map oD2)
  ok : OsOk os
  ln : os.length ≤ 1200
theorem Out.mono {G G' : Hp} {l : Addr} {xs : List V} {os : List (Int × Bool)} (h : Out G l xs os) (x : Ext G G') : Out G' l xs os := ⟨x _ _ h.hl, h.rx.mono x, h.ok, h.ln⟩
theorem Out.len {G : Hp} {l : Addr} {xs : List V} {os : List (Int × Bool)} (h : Out G l xs os) : xs.length = os.length := by
  have := h.rx.length
  rwa [List.length_map] at this
section
variable {K : Frag} {H : Hp} {De : Ends} {s p : Addr} {ns : List Int} {kk : Int} {o3 o4 o5 o6 o7 o8 o9 o10 o11 : Option V} {rest : TS} {σ : St} {Q : VK}
theorem take_of {m : Int} {E : XK} (c : Sc K H s p ns) (m0 : 0 < m) (m1 : m < 1073741824) (q : ∀ r H', 0 ≤ r → r < m → Sc K H' s p ns → Kept H H' p → Q (.int r) H') : spTake K [.ref s, .ref p, .int m] H Q E := ⟨s, ns, p, m, rfl, c.sq, c.l63, c.ne, c.bx, m0, m1, fun r H' a b d e _ => q r H' a b (c.kept e d) e⟩
theorem rd_tk {te : TE} (h0 : σ[0]? = some (some (.ref s))) (h1 : σ[1]? = some (some (.ref p))) (h : te σ H fun x H1 => spTake K [.ref s, .ref p, x] H1 Q E0) : tTk K te σ H Q := ⟨_, h0, _, h1, h⟩
theorem pick_of {xs : List V} {r : Int} {v : V} (r0 : 0 ≤ r) (h : xs[r.toNat]? = some v) : atI xs r = some v := by
  have er : r = (r.toNat : Int) := by omega
  rw [er]; exact atI_nat h
theorem rd_p1 (c : Sc K H s p ns) (nx : ∀ l xs os H', Sc K H' s p ns → Out (wo H' p) l xs os → rest De (stL s p kk (some (.int (os.length : Nat))) (some (.ref l)) (some (.str (txtO os))) o6 o7 o8 o9 o10 o11) H') :
    tSeq (tA0 K) (tSeq (tA1 K) (tSeq (tA2 K) (tSeq tA3 rest))) De (stL s p kk o3 o4 o5 o6 o7 o8 o9 o10 o11) H := by
  have fin : ∀ (n : Nat) (H' : Hp), n ≤ 1200 → Sc K H' s p ns → tSeq (tA2 K) (tSeq tA3 rest) De (stL s p kk (some (.int (n : Nat))) o4 o5 o6 o7 o8 o9 o10 o11) H' := fun n H' hn c' => by
    refine rd_set (te := tCall (spLO K) [] E0 (tCons (tVar 0) (tCons (tVar 1) (tCons (tVar 3) (tCons (tC (.bl false)) tNil))))) (i := 4) ⟨_, rfl, _, rfl, _, rfl, s, p, ns, n, rfl, c', hn, fun l xs os H2 c2 x2 nl hl rx ok lo => ?_⟩
    refine rd_set (te := tCall spLT [] E0 (tCons (tVar 4) tNil)) (i := 5) ⟨_, rfl, l, xs, os, rfl, hl, rx.mono (wo_ext H2 p), ok, by omega, fun H3 x3 => ?_⟩
    subst lo
    exact nx l xs os H3 (c2.ext x3) ⟨wo_ex x3 p _ _ (wo_at nl hl), rx.mono (wo_ex x3 p), ok, hn⟩
  refine rd_set (te := tTk K (tOp (rIxL K) (tLst (tCons (tC (.int 13)) (tCons (tC (.int 13)) (tCons (tC (.int 13)) (tCons (tC (.int 21)) tNil))))) (tTk K (tC (.int 4))))) (i := 3) (rd_tk rfl rfl (rd_op ⟨by show 4 ≤ sizeLine; decide, fun l0 h0 => ?_⟩))
  have x0 := Ext.new (o := .lst [V.int 13, .int 13, .int 13, .int 21]) h0
  have g0 : upd H l0 (.lst [V.int 13, .int 13, .int 13, .int 21]) l0 = some (.lst [V.int 13, .int 13, .int 13, .int 21]) := upd_same
  have n0 := c.bx.ne h0
  have c0 := c.ext x0
  show tTk K (tC (.int 4)) _ (upd H l0 (.lst [V.int 13, .int 13, .int 13, .int 21])) _
  generalize upd H l0 (.lst [V.int 13, .int 13, .int 13, .int 21]) = H0 at x0 g0 c0 ⊢
  refine rd_take c0 rfl rfl (fun R r => r) (by decide) (by decide) fun r H1 r0 r4 c1 k1 => ?_
  obtain ⟨m, em, m1, m2⟩ : ∃ m : Int, ([V.int 13, .int 13, .int 13, .int 21] : List V)[r.toNat]? = some (.int m) ∧ 13 ≤ m ∧ m ≤ 21 := by
    obtain rfl | rfl | rfl | rfl : r = 0 ∨ r = 1 ∨ r = 2 ∨ r = 3 := by omega
    · exact ⟨13, rfl, by decide, by decide⟩
    · exact ⟨13, rfl, by decide, by decide⟩
    · exact ⟨13, rfl, by decide, by decide⟩
    · exact ⟨21, rfl, by decide, by decide⟩
  refine ⟨l0, _, r, .int m, rfl, rfl, SqL.of (k1 _ _ g0 n0), pick_of r0 em, take_of c1 (by omega) (by omega) fun n H2 n0 nm c2 k2 => ?_⟩
  show tSeq (tA1 K) (tSeq (tA2 K) (tSeq tA3 rest)) De (stL s p kk (some (.int n)) o4 o5 o6 o7 o8 o9 o10 o11) H2
  obtain ⟨n, rfl⟩ : ∃ j : Nat, n = (j : Int) := ⟨n.toNat, by omega⟩
  refine ⟨_, rfl, rfl, _, rfl, ?_⟩
  generalize decide (V.int kk = V.int 0) = b
  cases b with
  | false => exact itF (itF (fin n H2 (by omega) c2))
  | true =>
    refine itT (rd_take c2 rfl rfl (fun R r => r) (by decide) (by decide) fun r H3 r0 r8 c3 k3 => ⟨rfl, _, rfl, ?_⟩)
    generalize decide (V.int r = V.int 0) = b
    cases b with
    | false => exact itF (fin n H3 (by omega) c3)
    | true =>
      refine itT (rd_setN (te := tOp (rI0 fun i j => .int (i - j)) (tC (.int 1099)) (tTk K (tC (.int 3)))) (i := 3) (rd_op (rd_take c3 rfl rfl (fun R r => r) (by decide) (by decide) fun t H4 t0 t3 c4 k4 => ⟨_, _, rfl, rfl, ?_⟩)))
      obtain ⟨j, hj⟩ : ∃ j : Nat, 1099 - t = (j : Int) := ⟨(1099 - t).toNat, by omega⟩
      have z := fin j H4 (by omega) c4
      rw [← hj] at z
      exact z
end
end My
set_option Elab.async false
set_option linter.all false
set_option maxRecDepth 100000
set_option maxHeartbeats 1000000
set_option exponentiation.threshold 10000
namespace My
open PySem PySem.W L2
section
variable {K : Frag} {H : Hp} {De : Ends} {s p : Addr} {ns : List Int} {kk : Int} {o3 o4 o5 o6 o7 o8 o9 o10 o11 : Option V} {rest : TS} {σ : St} {CT CO : Addr} {l : Addr} {xs : List V} {os : List (Int × Bool)}
theorem rd_tb {te : TE} {Q : Bool → Hp → Prop} (h : te σ H fun x H1 => ∃ c, x = .bl c ∧ Q c H1) : tB te σ H Q := h
theorem rd_if1 {a : TT} {t u : TS} (h : a σ H fun c H1 => if c = true then t De σ H1 else u De σ H1) : tIfS a t u De σ H := h
theorem rd_wd2 {z : Str} {v : V} {te : TE} {R : VK} (ht : ∀ R : VK, R v H → te σ H R) (q : ∀ m H', Ext H H' → H' m = some (.tup [.str z, v]) → R (.ref m) H') : tWd2 z te σ H R :=
  ht _ ⟨by show 2 ≤ sizeLine; decide, fun m hm => q m _ (Ext.new hm) upd_same⟩
theorem neD_two {a b : Addr} {z : Str} {v1 v2 : V} {d : PyData} {Q : Bool → Hp → Prop} (h1 : H a = some (.tup [.str z, v1])) (h2 : H b = some (.tup [.str z, v2])) (r1 : Rds H v1 d) (r2 : Rds H v2 d) (pd : plainD d = true) (dd : d.depth ≤ 10) (q : Q false H) : rEqD not (.ref a) (.ref b) H fun x H1 => ∃ c, x = .bl c ∧ Q c H1 := by
  have pp : plainD (.tuple [.str z, d]) = true := by
    show (true && (plainD d && true)) = true
    rw [pd]; rfl
  refine ⟨.tuple [.str z, d], .tuple [.str z, d], .tup h1 (.cons (.str _) (.cons r1 .nil)), .tup h2 (.cons (.str _) (.cons r2 .nil)), pp, pp, ?_, false, ?_, q⟩
  · simp only [PyData.depth, PyData.depthAll]
    omega
  · rw [eqD_refl pp]; rfl
theorem ok_all (ok : OsOk os) : ((rowsO (txtO os)).map okO).all id = true := by
  rw [rows_txt ok, List.map_map, List.all_map, List.all_eq_true]
  intro o _
  rfl
theorem first_not {bs : List Bool} {i : Nat} (h : bs.all id = true) (f : FirstB bs i) : False := by
  have h2 := List.all_eq_true.mp h _ (List.mem_of_getElem? f.2)
  cases h2
theorem rd_p2 (c : Sc K H s p ns) (ou : Out (wo H p) l xs os) (nx : ∀ H', Sc K H' s p ns → Ext (wo H p) (wo H' p) → rest De (stL s p kk o3 (some (.ref l)) (some (.str (txtO os))) o6 o7 o8 o9 o10 o11) H') :
    tSeq (tA4 K) (tSeq (tA5 K CT CO) rest) De (stL s p kk o3 (some (.ref l)) (some (.str (txtO os))) o6 o7 o8 o9 o10 o11) H := by
  have tl := txt_len ou.ok
  have ln := ou.ln
  have sz := sizeLine_eq
  have o0 := ou.mono (wo_ext H p)
  refine rd_seq (rd_if1 (rd_tb (rd_op ⟨_, rfl, l, xs, rfl, .inl (SqL.of o0.hl), fun l2 h2 => ?_⟩)))
  have x2 := Ext.new (o := .lst xs) h2
  refine ⟨_, rfl, .inr (.inr ⟨l2, xs, os, rfl, upd_same, o0.rx.mono x2, ou.ok, by omega, fun m H3 x3 hm => ?_⟩)⟩
  refine rd_wd2 (v := .str (txtO os)) (fun R r => ⟨_, rfl, r⟩) fun m2 H4 x4 hm2 => neD_two (x4 _ _ hm) hm2 (.str _) (.str _) rfl (by simp [PyData.depth]) (itF ?_)
  have x24 := (x2.trans x3).trans x4
  have c4 := c.ext x24
  have ou4 := ou.mono (wo_ex x24 p)
  have o4' := ou4.mono (wo_ext H4 p)
  show tSeq (tA5 K CT CO) rest De (stL s p kk o3 (some (.ref l)) (some (.str (txtO os))) o6 o7 o8 o9 o10 o11) H4
  refine rd_seq (rd_if1 (rd_tb (rd_op ⟨_, rfl, _, rfl, by omega, _, _, rfl, rfl, _, rfl, ?_⟩)))
  generalize decide ((((txtO os).length : Nat) : Int) ≤ 4000) = b
  cases b with
  | false => exact itF (nx H4 c4 (wo_ex x24 p))
  | true =>
    refine itT (rd_seq ?_)
    refine ⟨_, rfl, .str (txtO os), rfl, .inr ⟨txtO os, rfl, by omega, fun m3 H5 x5 r5 => ?_⟩⟩
    refine rd_wd2 (v := .ref l) (fun R r => ⟨_, rfl, r⟩) fun m4 H6 x6 hm4 => ?_
    have x46 := x5.trans x6
    have rr : Rds H6 (.ref m4) (resD (rowsO (txtO os))) := by
      rw [res_txt ou.ok]
      exact .tup hm4 (.cons (.str _) (.cons (.lst (x46 _ _ o4'.hl) (o4'.rx.mono x46)) .nil))
    have lr := rows_many (txtO os)
    rw [← len_cs] at lr
    refine ⟨_, _, rowsO (txtO os), rfl, r5.mono x6, rr, by omega, fun H7 x7 => ⟨true, rfl, itF ?_⟩⟩
    have x47 := x46.trans x7
    refine ⟨_, rfl, .str (txtO os), rfl, .inr ⟨txtO os, rfl, by omega, (fun i fi => (first_not (ok_all ou.ok) fi).elim), fun _ l' ys H8 x8 nl hl' ry => ?_⟩⟩
    have ly := ry.length
    rw [List.length_map, List.length_map] at ly
    refine ⟨.inl ⟨rfl, _, SqL.of hl'⟩, l', ys, _, rfl, rfl, hl', by omega, ?_⟩
    have x78 : Ext H7 (upd H8 l' (.lst (ys ++ [.int 7]))) := ext_upd _ x8 nl
    exact nx _ (c4.ext (x47.trans x78)) (wo_ex (x24.trans (x47.trans x78)) p)
theorem rd_p3 (c : Sc K H s p ns) (ou : Out (wo H p) l xs os) (nx : ∀ o6 o7 H', Sc K H' s p ns → Ext (wo H p) (wo H' p) → rest De (stL s p kk o3 (some (.ref l)) (some (.str (txtO os))) o6 o7 o8 o9 o10 o11) H') :
    tSeq (tA6 K) (tSeq (tA7 K) rest) De (stL s p kk o3 (some (.ref l)) (some (.str (txtO os))) o6 o7 o8 o9 o10 o11) H := by
  have tl := txt_len ou.ok
  have ln := ou.ln
  have sz := sizeLine_eq
  refine rd_set (te := tLst (tCons (tVar 5) (tCons (tSt' K (tVar 5)) (tCons (tSt' K (tVar 5)) (tCons (tSt' K (tC (.str ""))) tNil))))) (i := 6) ⟨_, rfl, _, rfl, _, rfl, _, rfl, s, p, ns, txtO os, rfl, c, by omega, fun y1 H1 l1 c1 x1 => ⟨_, rfl, _, rfl, _, rfl, s, p, ns, txtO os, rfl, c1, by omega, fun y2 H2 l2 c2 x2 => ⟨_, rfl, _, rfl, s, p, ns, "", rfl, c2, by decide +kernel, fun y3 H3 l3 c3 x3 => ⟨by show 4 ≤ sizeLine; decide, fun m hm => ?_⟩⟩⟩⟩
  have l3' : y3.length ≤ 15 := by
    have : (("" : String) : Str).length = 0 := by decide +kernel
    omega
  have x4 := Ext.new (o := .lst [V.str (txtO os), .str y1, .str y2, .str y3]) hm
  have g4 : upd H3 m (.lst [V.str (txtO os), .str y1, .str y2, .str y3]) m = some (.lst [V.str (txtO os), .str y1, .str y2, .str y3]) := upd_same
  have c4 := c3.ext x4
  have xw : Ext (wo H p) (wo (upd H3 m (.lst [V.str (txtO os), .str y1, .str y2, .str y3])) p) := ((x1.trans x2).trans x3).trans (wo_ex x4 p)
  show tSeq (tA7 K) rest De (stL s p kk o3 (some (.ref l)) (some (.str (txtO os))) (some (.ref m)) o7 o8 o9 o10 o11) (upd H3 m (.lst [V.str (txtO os), .str y1, .str y2, .str y3]))
  generalize upd H3 m (.lst [V.str (txtO os), .str y1, .str y2, .str y3]) = H4 at x4 g4 c4 xw ⊢
  refine ⟨_, rfl, m, rfl, ⟨_, SqL.of g4⟩, for_list (xs := [V.str (txtO os), .str y1, .str y2, .str y3]) (fun i σ H' => Ext H4 H' ∧ ∃ o7, σ = stL s p kk o3 (some (.ref l)) (some (.str (txtO os))) (some (.ref m)) o7 o8 o9 o10 o11) ⟨Ext.refl _, _, rfl⟩ ?_ ?_ ?_⟩
  · rintro i σ H' _ ⟨x', _⟩
    exact SqL.of (x' _ _ g4)
  · rintro i v σ H' ev ⟨x', o7, rfl⟩
    obtain ⟨y, rfl, ly⟩ : ∃ y : Str, v = .str y ∧ y.length ≤ 8000 := by
      match i, ev with
      | 0, ev => cases ev; exact ⟨_, rfl, by omega⟩
      | 1, ev => cases ev; exact ⟨_, rfl, by omega⟩
      | 2, ev => cases ev; exact ⟨_, rfl, by omega⟩
      | 3, ev => cases ev; exact ⟨_, rfl, by omega⟩
    show tA7b K _ (stL s p kk o3 (some (.ref l)) (some (.str (txtO os))) (some (.ref m)) (some (.str y)) o8 o9 o10 o11) H'
    refine ⟨_, rfl, y, rfl, by omega, _, _, rfl, rfl, _, rfl, ?_⟩
    generalize decide (((y.length : Nat) : Int) ≤ 4000) = b
    cases b with
    | false => exact itF (itF ⟨x', _, rfl⟩)
    | true =>
      refine itT ⟨_, rfl, .str y, rfl, .inr ⟨y, rfl, by omega, fun m3 H5 x5 r5 => ⟨_, rfl, y, rfl, by omega, fun m4 H6 x6 r6 => ?_⟩⟩⟩
      have lr := rows_many y
      rw [← len_cs] at lr
      exact ⟨_, _, rowsO y, rfl, r5.mono x6, r6, by omega, fun H7 x7 => ⟨true, rfl, itF ⟨((x'.trans x5).trans x6).trans x7, _, rfl⟩⟩⟩
  · rintro σ H' ⟨x', o7, rfl⟩
    exact nx _ _ H' (c4.ext x') (xw.trans (wo_ex x' p))
end
end My
set_option Elab.async false
set_option linter.all false
set_option maxRecDepth 100000
set_option maxHeartbeats 1000000
set_option exponentiation.threshold 10000
namespace My
open PySem PySem.W L2
def Od (K : Frag) (G : Hp) (v : V) : Prop := ∃ d, Rds G v d ∧ Show d ∧ NoK K G v "str"
theorem Od.mono {K : Frag} {G G' : Hp} {v : V} (h : Od K G v) (x : Ext G G') : Od K G' v := by
  obtain ⟨d, r, sh, n⟩ := h
  exact ⟨d, r.mono x, sh, n.ext x⟩
theorem sh7 : Show (.tuple [.str "7"]) := ⟨rfl, by simp [PyData.depth, PyData.depthAll], by decide +kernel⟩
theorem shN : Show .none := fi_none.show (by decide) (by decide)
theorem shI : Show (.int 7) := (fi_small (by decide) (by decide)).show (by decide) (by decide)
theorem shL : Show (.list []) := ⟨rfl, by simp [PyData.depth, PyData.depthAll], by decide +kernel⟩
theorem shD : Show (.dict []) := fi_dic0.show (by decide) (by decide)
section
variable {K : Frag} {H : Hp} {De : Ends} {s p : Addr} {ns : List Int} {kk : Int} {o3 o4 o5 o6 o7 o8 o9 o10 o11 : Option V} {rest : TS} {σ : St} {CT CO : Addr} {l : Addr} {xs : List V} {os : List (Int × Bool)}
theorem rd_odd6 {Q : List V → Hp → Prop} (bx : BoxAt H p) (q : ∀ vs H', Ext H H' → vs.length = 6 → (∀ (i : Nat) v, vs[i]? = some v → Od K (wo H' p) v) → Q vs H') : tOdd6 σ H Q := by
  refine ⟨by show 0 ≤ sizeLine; decide, fun a ha => ?_⟩
  have x1 := Ext.new (o := .lst []) ha
  have b1 := bx.ext x1
  have g1 : wo (upd H a (.lst [])) p a = some (.lst []) := wo_at (bx.ne ha) upd_same
  show tCons (tTup (tCons (tC (.str "7")) tNil)) (tCons tDNewK tNil) σ (upd H a (.lst [])) _
  generalize upd H a (.lst []) = H1 at x1 b1 g1 ⊢
  refine ⟨by show 1 ≤ sizeLine; decide, fun b hb => ?_⟩
  have x2 := Ext.new (o := .tup [.str "7"]) hb
  have b2 := b1.ext x2
  have g2 : wo (upd H1 b (.tup [.str "7"])) p b = some (.tup [.str "7"]) := wo_at (b1.ne hb) upd_same
  show tCons tDNewK tNil σ (upd H1 b (.tup [.str "7"])) _
  generalize upd H1 b (.tup [.str "7"]) = H2 at x2 b2 g2 ⊢
  intro d hd
  have x3 := Ext.new (o := .dK []) hd
  have g3 : wo (upd H2 d (.dK [])) p d = some (.dK []) := wo_at (b2.ne hd) upd_same
  refine q [.non, .int 7, .bl true, .ref a, .ref b, .ref d] _ ((x1.trans x2).trans x3) rfl fun i v hv => ?_
  have g1' := wo_ex (x2.trans x3) p _ _ g1
  have g2' := wo_ex x3 p _ _ g2
  match i, hv with
  | 0, hv => cases hv; exact ⟨_, .non, shN, _, .inl .non, rfl⟩
  | 1, hv => cases hv; exact ⟨_, .int 7, shI, _, .inl (.int 7), rfl⟩
  | 2, hv => cases hv; exact ⟨_, .bl true, show_bool, _, .inl (.bl true), rfl⟩
  | 3, hv => cases hv; exact ⟨_, .lst g1' .nil, shL, _, .inl (.lst g1'), rfl⟩
  | 4, hv => cases hv; exact ⟨_, .tup g2' (.cons (.str _) .nil), sh7, _, .inl (.tup g2'), rfl⟩
  | 5, hv => cases hv; exact ⟨_, .dic0 g3, shD, _, .inl (.dK g3), rfl⟩
theorem pick_any {xs : List V} {r : Int} {n : Nat} (h : xs.length = n) (r0 : 0 ≤ r) (rn : r < n) : ∃ v, xs[r.toNat]? = some v := ⟨xs[r.toNat]'(by omega), List.getElem?_eq_getElem (by omega)⟩
theorem rd_p4 (c : Sc K H s p ns) (nx : ∀ o8 o9 H', Sc K H' s p ns → Ext (wo H p) (wo H' p) → rest De (stL s p kk o3 o4 o5 o6 o7 o8 o9 o10 o11) H') :
    tSeq (tA8 K) (tSeq (tA9 K) (tSeq (tA10 K) rest)) De (stL s p kk o3 o4 o5 o6 o7 o8 o9 o10 o11) H := by
  refine rd_set (te := tOp (rIxL K) (tLst tOdd6) (tTk K (tC (.int 6)))) (i := 8) (rd_op (rd_odd6 (K := K) c.bx fun vs H1 x1 lv od => ⟨by rw [lv]; decide, fun m hm => ?_⟩))
  have c1 := c.ext x1
  have x2 := Ext.new (o := .lst vs) hm
  have g2 : upd H1 m (.lst vs) m = some (.lst vs) := upd_same
  have c2 := c1.ext x2
  have nm := c1.bx.ne hm
  show tTk K (tC (.int 6)) _ (upd H1 m (.lst vs)) _
  generalize upd H1 m (.lst vs) = H2 at x2 g2 c2 ⊢
  refine rd_take c2 rfl rfl (fun R r => r) (by decide) (by decide) fun r H3 r0 r6 c3 k3 => ?_
  obtain ⟨v, ev⟩ := pick_any lv r0 r6
  refine ⟨m, vs, r, v, rfl, rfl, SqL.of (k3 _ _ g2 nm), pick_of r0 ev, ?_⟩
  have od3 := (((od _ _ ev).mono (wo_ex x2 p)).mono (wo_kept k3)).mono (wo_ext H3 p)
  have xw : Ext (wo H p) (wo H3 p) := ((wo_ex x1 p).trans (wo_ex x2 p)).trans (wo_kept k3)
  obtain ⟨d, rd, sh, nk⟩ := od3
  refine rd_set (te := tTd K (tVar 8)) (i := 9) ⟨_, rfl, v, rfl, .inl ⟨nk, fun t H4 x4 ht => ?_⟩⟩
  show tSeq (tA10 K) rest De (stL s p kk o3 o4 o5 o6 o7 (some v) (some (.ref t)) o10 o11) H4
  have rd4 := rd.mono x4
  refine rd_seq (rd_ifOr (rd_tb (rd_op ⟨_, rfl, t, _, _, _, rfl, rfl, SqT.of ht, atI_nat (j := 0) rfl, rfl, false, by rw [decide_eq_true rfl]; rfl, itF ?_⟩)))
  refine rd_tb (rd_op ⟨_, rfl, t, _, _, _, rfl, rfl, SqT.of ht, atI_nat (j := 1) rfl, v, d, rfl, rd4, sh, _, rfl, v, d, rfl, rd4, sh, rfl, false, by rw [decide_eq_true rfl]; rfl, itF ?_⟩)
  exact nx _ _ H4 (c3.ext x4) (xw.trans (wo_ex x4 p))
end
end My
set_option Elab.async false
set_option linter.all false
set_option maxRecDepth 100000
set_option maxHeartbeats 1000000
set_option exponentiation.threshold 10000
namespace My
open PySem PySem.W L2
structure KI (K : Frag) (C : Addr) : Prop where
  cls : Cls K C
  ha : PySem.W.findIn K (.ref C) "__class__" = some (some (.builtin "object.__class__"))
  hn : PySem.W.specialIn K (.builtin "object.__class__") "__get__" = some (some (.builtin "getset_descriptor.__get__"))
  htk : PySem.W.takesIn K (.builtin "object.__class__") = some true
  hm : PySem.W.mroIn K C (.type "object") = some true
  kt : kitOne K (.ref C) (.type "tuple") = some false
  kl : kitOne K (.ref C) (.type "list") = some false
  ks : kitOne K (.ref C) (.type "str") = some false
def Odd (K : Frag) (H : Hp) (v : V) : Prop := ∃ a t, v = .ref a ∧ Kd K H v t ∧ kitOne K t (.type "tuple") = some false ∧ kitOne K t (.type "list") = some false ∧ kitOne K t (.type "str") = some false
theorem Odd.ext {K : Frag} {H H' : Hp} {v : V} (h : Odd K H v) (x : Ext H H') : Odd K H' v := by
  obtain ⟨a, t, e, k, z⟩ := h
  exact ⟨a, t, e, k.ext x, z⟩
theorem Odd.tu {K : Frag} {H : Hp} {v : V} (h : Odd K H v) : NoK K H v "tuple" := by
  obtain ⟨a, t, e, k, z, _⟩ := h
  exact ⟨t, k, z⟩
theorem Odd.li {K : Frag} {H : Hp} {v : V} (h : Odd K H v) : NoK K H v "list" := by
  obtain ⟨a, t, e, k, _, z, _⟩ := h
  exact ⟨t, k, z⟩
theorem Odd.st {K : Frag} {H : Hp} {v : V} (h : Odd K H v) : NoK K H v "str" := by
  obtain ⟨a, t, e, k, _, _, z⟩ := h
  exact ⟨t, k, z⟩
theorem mk_ext {H H1 : Hp} {x dx : Addr} {u v : HO} (hx : H x = none) (hd : H dx = none) (k : Kept (upd (upd H dx u) x v) H1 x) : Ext H H1 := fun b o h => by
  have n1 : b ≠ x := fun e => by rw [e, hx] at h; cases h
  have n2 : b ≠ dx := fun e => by rw [e, hd] at h; cases h
  exact k b o (by rw [upd_ne n1, upd_ne n2]; exact h) n1
section
variable {K : Frag} {H : Hp} {De : Ends} {s p : Addr} {ns : List Int} {kk : Int} {o3 o4 o5 o6 o7 o8 o9 o10 o11 : Option V} {rest : TS} {σ : St} {CU CP CT CO : Addr} {l : Addr} {xs : List V} {os : List (Int × Bool)}
theorem rd_mk3 {Q : List V → Hp → Prop} (kU : KI K CU) (kP : KI K CP) (nU : NoAttr K CU "mark") (nP : NoAttr K CP "size" ∧ NoAttr K CP "first_state" ∧ NoAttr K CP "mark" ∧ NoAttr K CP "parts") (eT : ErrI K CT) (tT : kitOne K (.ref CT) (.type "tuple") = some false) (lT : kitOne K (.ref CT) (.type "list") = some false) (sT : kitOne K (.ref CT) (.type "str") = some false)
    (bx : BoxAt H p) (q : ∀ v1 v2 v3 H', Ext H H' → Odd K (wo H' p) v1 → Odd K (wo H' p) v2 → Odd K (wo H' p) v3 → Q [v1, v2, v3] H') : tMk3 K CU CP CT σ H Q := by
  intro x dx hx hd ne
  refine ⟨x, CU, dx, rfl, upd_same, ⟨kU.cls, nU⟩, fun fs H1 k1 h1 => ⟨rfl, ?_⟩⟩
  have x1 := mk_ext hx hd k1
  have o1 : Odd K (wo H1 p) (.ref x) := ⟨x, _, rfl, .inl (.ins (wo_at (bx.ne hx) h1) kU.cls kU.ha kU.hn kU.htk kU.hm), kU.kt, kU.kl, kU.ks⟩
  intro y dy hy hdy ne2
  refine ⟨y, 2, 1, CP, dy, rfl, by decide, by decide, by decide, by decide, upd_same, ⟨kP.cls, nP⟩, fun fs H2 k2 h2 => ⟨rfl, ?_⟩⟩
  have x2 := mk_ext hy hdy k2
  have bx1 := bx.ext x1
  have o2 : Odd K (wo H2 p) (.ref y) := ⟨y, _, rfl, .inl (.ins (wo_at (bx1.ne hy) h2) kP.cls kP.ha kP.hn kP.htk kP.hm), kP.kt, kP.kl, kP.ks⟩
  intro e de he hde ne3
  have bx2 := bx1.ext x2
  have xd := Ext.new (o := .xd [("found", .str "7")]) hde
  have he2 : upd H2 de (.xd [("found", .str "7")]) e = none := by rw [upd_ne ne3.symm]; exact he
  have xe := Ext.new (o := ErrO e CT (some de)) he2
  have x3 := xd.trans xe
  have o3 : Odd K (wo (upd (upd H2 de (.xd [("found", .str "7")])) e (ErrO e CT (some de))) p) (.ref e) := ⟨e, _, rfl, .inr (.inr ⟨e, CT, rfl, .inr ⟨de, _, wo_at (bx2.ne he) upd_same, wo_at (bx2.ne hde) (xe _ _ upd_same)⟩, eT, rfl⟩), tT, lT, sT⟩
  exact q _ _ _ _ ((x1.trans x2).trans x3) ((o1.ext (wo_ex x2 p)).ext (wo_ex x3 p)) (o2.ext (wo_ex x3 p)) o3
theorem neA_two {a l n : Addr} {z : Str} {Q : Bool → Hp → Prop} (hl : H l = some (.tup [.str z, .ref a])) (hn : H n = some (.tup [.str z, .ref a])) (q : Q false H) : rAlike K 0 false (.ref l) (.ref n) H fun x H1 => ∃ c, x = .bl c ∧ Q c H1 := by
  refine ⟨l, n, _, _, rfl, rfl, .inl ⟨SqT.of hl, SqT.of hn⟩, rfl, fun i x y hx hy => ?_, false, rfl, q⟩
  match i, hx, hy with
  | 0, hx, hy => cases hx; cases hy; exact .inr ⟨rfl, rfl, eqV_refl rfl⟩
  | 1, hx, hy => cases hx; cases hy; exact .inl ⟨a, rfl, rfl⟩
theorem rd_p5 (kU : KI K CU) (kP : KI K CP) (nU : NoAttr K CU "mark") (nP : NoAttr K CP "size" ∧ NoAttr K CP "first_state" ∧ NoAttr K CP "mark" ∧ NoAttr K CP "parts") (eT : ErrI K CT) (tT : kitOne K (.ref CT) (.type "tuple") = some false) (lT : kitOne K (.ref CT) (.type "list") = some false) (sT : kitOne K (.ref CT) (.type "str") = some false)
    (c : Sc K H s p ns) (nx : ∀ o8 H', Sc K H' s p ns → Ext (wo H p) (wo H' p) → rest De (stL s p kk o3 o4 o5 o6 o7 o8 o9 o10 o11) H') :
    tSeq (tA11 K CU CP CT) (tSeq (tA12 K) (tSeq (tA13 K) rest)) De (stL s p kk o3 o4 o5 o6 o7 o8 o9 o10 o11) H := by
  refine rd_set (te := tOp (rIxL K) (tLst (tMk3 K CU CP CT)) (tTk K (tC (.int 3)))) (i := 8) (rd_op (rd_mk3 kU kP nU nP eT tT lT sT c.bx fun v1 v2 v3 H1 x1 w1 w2 w3 => ⟨by show 3 ≤ sizeLine; decide, fun m hm => ?_⟩))
  have x2 := Ext.new (o := .lst [v1, v2, v3]) hm
  have f2 : upd H1 m (.lst [v1, v2, v3]) m = some (.lst [v1, v2, v3]) := upd_same
  have y1 := w1.ext (wo_ex x2 p)
  have y2 := w2.ext (wo_ex x2 p)
  have y3 := w3.ext (wo_ex x2 p)
  have nm := (c.bx.ext x1).ne hm
  have c2 := c.ext (x1.trans x2)
  show tTk K (tC (.int 3)) _ (upd H1 m (.lst [v1, v2, v3])) _
  generalize upd H1 m (.lst [v1, v2, v3]) = H2 at x2 f2 y1 y2 y3 c2 ⊢
  refine rd_take c2 rfl rfl (fun R r => r) (by decide) (by decide) fun r H3 r0 rm c3 k3 => ?_
  obtain ⟨v, ev, ov⟩ : ∃ v, [v1, v2, v3][r.toNat]? = some v ∧ Odd K (wo H2 p) v := by
    have : r = 0 ∨ r = 1 ∨ r = 2 := by omega
    rcases this with rfl | rfl | rfl
    · exact ⟨v1, rfl, y1⟩
    · exact ⟨v2, rfl, y2⟩
    · exact ⟨v3, rfl, y3⟩
  refine ⟨m, _, _, _, rfl, rfl, SqL.of (k3 _ _ f2 nm), pick_of r0 ev, ?_⟩
  have od : Odd K H3 v := (ov.ext (wo_kept k3)).ext (wo_ext H3 p)
  have xw : Ext (wo H p) (wo H3 p) := ((wo_ex x1 p).trans (wo_ex x2 p)).trans (wo_kept k3)
  obtain ⟨a, _, rfl, _⟩ := id od
  clear ov ev y1 y2 y3 f2 w1 w2 w3
  show tSeq (tA12 K) (tSeq (tA13 K) rest) De (stL s p kk o3 o4 o5 o6 o7 (some (.ref a)) o9 o10 o11) H3
  refine rd_seq (rd_ifOr (rd_tb (rd_op ⟨_, rfl, .ref a, rfl, .inl ⟨od.st, fun l4 H4 x4 h4 => ?_⟩⟩)))
  refine rd_wd2 (v := .ref a) (fun R r => ⟨_, rfl, r⟩) fun n5 H5 x5 h5 => neA_two (x5 _ _ h4) h5 (itF ?_)
  have od5 := od.ext (x4.trans x5)
  refine rd_tb (rd_op ⟨_, rfl, .ref a, rfl, .inl ⟨od5.li, fun l6 H6 x6 h6 => ?_⟩⟩)
  refine rd_wd2 (v := .ref a) (fun R r => ⟨_, rfl, r⟩) fun n7 H7 x7 h7 => neA_two (x7 _ _ h6) h7 (itF ?_)
  have od7 := od5.ext (x6.trans x7)
  have x37 := (x4.trans x5).trans (x6.trans x7)
  show tSeq (tA13 K) rest De (stL s p kk o3 o4 o5 o6 o7 (some (.ref a)) o9 o10 o11) H7
  refine rd_seq (rd_if1 (rd_tb (rd_op ⟨by show 2 ≤ sizeLine; decide, fun t ht => ⟨_, rfl, by show 2 ≤ sizeLine; decide, fun k hk => ?_⟩⟩)))
  have x8 := Ext.new (o := .tup [.int 7, .bl true]) ht
  have g8 : upd H7 t (.tup [.int 7, .bl true]) t = some (.tup [.int 7, .bl true]) := upd_same
  have x9 := Ext.new (o := .lst [.ref t, .ref a]) hk
  have od9 := (od7.ext x8).ext x9
  refine ⟨_, rfl, .inr (.inl ⟨k, _, [true, false], 1, rfl, upd_same, ⟨rfl, fun i x hx => ?_⟩, ⟨fun j b hj hb => ?_, rfl⟩, fun l10 H10 x10 h10 => ?_⟩)⟩
  · match i, hx with
    | 0, hx => cases hx; exact ⟨true, rfl, .inl ⟨_, .tup (x9 _ _ g8) (.cons (.int _) (.cons (.bl _) .nil)), rfl⟩⟩
    | 1, hx => cases hx; exact ⟨false, rfl, .inr ⟨od9.tu, rfl⟩⟩
  · have : j = 0 := by omega
    subst this
    cases hb
    rfl
  refine rd_wd2 (v := .int 1) (fun R r => r) fun n11 H11 x11 h11 => neD_two (x11 _ _ h10) h11 (.int _) (.int _) rfl (by simp [PyData.depth]) (itF ?_)
  have x311 := x37.trans ((x8.trans x9).trans (x10.trans x11))
  exact nx _ H11 (c3.ext x311) (xw.trans (wo_ex x311 p))
end
end My
set_option Elab.async false
set_option linter.all false
set_option maxRecDepth 100000
set_option maxHeartbeats 1000000
set_option exponentiation.threshold 10000
namespace My
open PySem PySem.W L2
theorem cut_fro (xs : List V) (k : Nat) : cutV xs (some (k : Int)) none = xs.drop k := by
  unfold cutV
  rw [HT.sIx_nat, HT.sIx_none]
  rcases Nat.lt_or_ge k xs.length with h | h
  · rw [Nat.min_eq_left (by omega), List.take_of_length_le (by rw [List.length_drop]; exact Nat.le_refl _)]
  · rw [Nat.min_eq_right h, List.drop_eq_nil_of_le h, List.drop_eq_nil_of_le (Nat.le_refl _), List.take_nil]
theorem cut_upt (xs : List V) (k : Nat) : cutV xs none (some (k : Int)) = xs.take k := by
  unfold cutV
  rw [HT.sIx_nat, HT.sIx_none]
  simp
section
variable {K : Frag} {H : Hp} {De : Ends} {s p : Addr} {ns : List Int} {kk : Int} {o3 o4 o5 o6 o7 o8 o9 o10 o11 : Option V} {rest : TS} {σ : St} {CU CP CT CO : Addr} {l : Addr} {xs : List V} {os : List (Int × Bool)}
def Bd (G : Hp) (v : V) : Prop := ∃ d, Rds G v d ∧ outD d = false
theorem Bd.mono {G G' : Hp} {v : V} (h : Bd G v) (x : Ext G G') : Bd G' v := by
  obtain ⟨d, r, e⟩ := h
  exact ⟨d, r.mono x, e⟩
theorem rd_odd5 {Q : List V → Hp → Prop} (bx : BoxAt H p) (q : ∀ vs H', Ext H H' → vs.length = 5 → (∀ (i : Nat) v, vs[i]? = some v → Bd (wo H' p) v) → Q vs H') : tOdd5 σ H Q := by
  refine ⟨by show 2 ≤ sizeLine; decide, fun a ha => ?_⟩
  have x1 := Ext.new (o := .tup [.int 100, .bl true]) ha
  have b1 := bx.ext x1
  have g1 : wo (upd H a (.tup [.int 100, .bl true])) p a = some (.tup [.int 100, .bl true]) := wo_at (bx.ne ha) upd_same
  show tCons (tT2 (.int 7) (.int 1)) (tCons (tC .non) (tCons (tLst (tCons (tC (.int 7)) (tCons (tC (.bl true)) tNil))) (tCons (tT2 (.bl true) (.bl true)) tNil))) σ (upd H a (.tup [.int 100, .bl true])) _
  generalize upd H a (.tup [.int 100, .bl true]) = H1 at x1 b1 g1 ⊢
  refine ⟨by show 2 ≤ sizeLine; decide, fun b hb => ?_⟩
  have x2 := Ext.new (o := .tup [.int 7, .int 1]) hb
  have b2 := b1.ext x2
  have g2 : wo (upd H1 b (.tup [.int 7, .int 1])) p b = some (.tup [.int 7, .int 1]) := wo_at (b1.ne hb) upd_same
  show tCons (tC .non) (tCons (tLst (tCons (tC (.int 7)) (tCons (tC (.bl true)) tNil))) (tCons (tT2 (.bl true) (.bl true)) tNil)) σ (upd H1 b (.tup [.int 7, .int 1])) _
  generalize upd H1 b (.tup [.int 7, .int 1]) = H2 at x2 b2 g2 ⊢
  refine ⟨by show 2 ≤ sizeLine; decide, fun d hd => ?_⟩
  have x3 := Ext.new (o := .lst [.int 7, .bl true]) hd
  have b3 := b2.ext x3
  have g3 : wo (upd H2 d (.lst [.int 7, .bl true])) p d = some (.lst [.int 7, .bl true]) := wo_at (b2.ne hd) upd_same
  show tCons (tT2 (.bl true) (.bl true)) tNil σ (upd H2 d (.lst [.int 7, .bl true])) _
  generalize upd H2 d (.lst [.int 7, .bl true]) = H3 at x3 b3 g3 ⊢
  refine ⟨by show 2 ≤ sizeLine; decide, fun e he => ?_⟩
  have x4 := Ext.new (o := .tup [.bl true, .bl true]) he
  have g4 : wo (upd H3 e (.tup [.bl true, .bl true])) p e = some (.tup [.bl true, .bl true]) := wo_at (b3.ne he) upd_same
  refine q [.ref a, .ref b, .non, .ref d, .ref e] _ (((x1.trans x2).trans x3).trans x4) rfl fun i v hv => ?_
  have g1' := wo_ex ((x2.trans x3).trans x4) p _ _ g1
  have g2' := wo_ex (x3.trans x4) p _ _ g2
  have g3' := wo_ex x4 p _ _ g3
  match i, hv with
  | 0, hv => cases hv; exact ⟨_, .tup g1' (.cons (.int _) (.cons (.bl _) .nil)), by decide +kernel⟩
  | 1, hv => cases hv; exact ⟨_, .tup g2' (.cons (.int _) (.cons (.int _) .nil)), by decide +kernel⟩
  | 2, hv => cases hv; exact ⟨_, .non, rfl⟩
  | 3, hv => cases hv; exact ⟨_, .lst g3' (.cons (.int _) (.cons (.bl _) .nil)), rfl⟩
  | 4, hv => cases hv; exact ⟨_, .tup g4 (.cons (.bl _) (.cons (.bl _) .nil)), by decide +kernel⟩
theorem ot_mid {H : Hp} {v : V} {i : Nat} (o : Out H l xs os) (b : Bd H v) (hi : i ≤ os.length) : OtAll K H (xs.take i ++ [v] ++ xs.drop i) (List.replicate i true ++ [false] ++ List.replicate (os.length - i) true) ∧ FirstB (List.replicate i true ++ [false] ++ List.replicate (os.length - i) true) i := by
  have lx := o.len
  have ot : ∀ {j : Nat} {x : V}, xs[j]? = some x → Ot K H x true := fun {j x} hx => by
    obtain ⟨d, ed, rd⟩ := o.rx.get hx
    rw [List.getElem?_map] at ed
    obtain ⟨q, eq, rfl⟩ := Option.map_eq_some_iff.mp ed
    have hm := o.ok q (List.mem_of_getElem? eq)
    exact .inl ⟨_, rd, (out_true hm.1 hm.2).symm⟩
  have lt : (xs.take i).length = i := by rw [List.length_take]; omega
  refine ⟨⟨?_, fun j x hx => ?_⟩, fun j b hj hb => ?_, ?_⟩
  · simp only [List.length_append, List.length_replicate, List.length_take, List.length_drop, List.length_cons, List.length_nil]
    omega
  · rw [List.append_assoc] at hx ⊢
    rcases Nat.lt_trichotomy j i with a | a | a
    · rw [List.getElem?_append_left (by omega), List.getElem?_take, if_pos a] at hx
      refine ⟨true, ?_, ot hx⟩
      rw [List.getElem?_append_left (by simpa using a)]
      rw [List.getElem?_replicate, if_pos a]
    · subst a
      rw [List.getElem?_append_right (by omega), lt, Nat.sub_self] at hx
      cases hx
      obtain ⟨d, rd, e⟩ := b
      refine ⟨false, ?_, .inl ⟨d, rd, e.symm⟩⟩
      rw [List.getElem?_append_right (by simp), List.length_replicate, Nat.sub_self]
      rfl
    · rw [List.getElem?_append_right (by omega), lt] at hx
      obtain ⟨t, ht⟩ : ∃ t, j - i = t + 1 := ⟨j - i - 1, by omega⟩
      rw [ht] at hx
      have hx2 : (xs.drop i)[t]? = some x := hx
      rw [List.getElem?_drop] at hx2
      refine ⟨true, ?_, ot hx2⟩
      rw [List.getElem?_append_right (by rw [List.length_replicate]; omega), List.length_replicate, ht]
      show (List.replicate (os.length - i) true)[t]? = some true
      have := (List.getElem?_eq_some_iff.mp hx2).1
      rw [List.getElem?_replicate, if_pos (by omega)]
  · rw [List.append_assoc, List.getElem?_append_left (by simpa using hj), List.getElem?_replicate, if_pos hj] at hb
    cases hb
    rfl
  · rw [List.append_assoc, List.getElem?_append_right (by simp), List.length_replicate, Nat.sub_self]
    rfl
theorem rd_p6 (c : Sc K H s p ns) (ou : Out (wo H p) l xs os) (nx : ∀ o10 o11 H', Sc K H' s p ns → De.nx (stL s p kk (some (.int (os.length : Nat))) (some (.ref l)) o5 o6 o7 o8 o9 o10 o11) H') :
    tSeq (tA14 K) (tSeq (tA15 K) (tSeq (tA16 K) (tA17 K))) De (stL s p kk (some (.int (os.length : Nat))) (some (.ref l)) o5 o6 o7 o8 o9 o10 o11) H := by
  have ln := ou.ln
  have lx := ou.len
  have sz := sizeLine_eq
  refine rd_set (te := tTk K (tOp (rI0 fun i j => .int (i + j)) (tVar 3) (tC (.int 1)))) (i := 10) (rd_take (m := (os.length : Int) + 1) c rfl rfl (fun R r => ⟨_, rfl, _, _, rfl, rfl, r⟩) (by omega) (by omega) fun at' H1 a0 a1 c1 k1 => ?_)
  obtain ⟨i, rfl⟩ : ∃ i : Nat, at' = (i : Int) := ⟨at'.toNat, by omega⟩
  have hi : i ≤ os.length := by omega
  refine rd_set (te := tOp (rIxL K) (tLst tOdd5) (tTk K (tC (.int 5)))) (i := 11) (rd_op (rd_odd5 c1.bx fun vs H2 x2 lv od => ⟨by rw [lv]; decide, fun m hm => ?_⟩))
  have c2 := c1.ext x2
  have x3 := Ext.new (o := .lst vs) hm
  have g3 : upd H2 m (.lst vs) m = some (.lst vs) := upd_same
  have c3 := c2.ext x3
  have nm := c2.bx.ne hm
  show tTk K (tC (.int 5)) _ (upd H2 m (.lst vs)) _
  generalize upd H2 m (.lst vs) = H3 at x3 g3 c3 ⊢
  refine rd_take c3 rfl rfl (fun R r => r) (by decide) (by decide) fun r H4 r0 r5 c4 k4 => ?_
  obtain ⟨v, ev⟩ := pick_any lv r0 r5
  refine ⟨m, vs, r, v, rfl, rfl, SqL.of (k4 _ _ g3 nm), pick_of r0 ev, ?_⟩
  have bd := (((od _ _ ev).mono (wo_ex x3 p)).mono (wo_kept k4)).mono (wo_ext H4 p)
  have ou4 := ou.mono ((((wo_kept k1).trans (wo_ex x2 p)).trans (wo_ex x3 p)).trans (wo_kept k4))
  have o4' := ou4.mono (wo_ext H4 p)
  show tSeq (tA16 K) (tA17 K) De (stL s p kk (some (.int (os.length : Nat))) (some (.ref l)) o5 o6 o7 o8 o9 (some (.int (i : Nat))) (some v)) H4
  refine rd_seq (rd_if1 (rd_tb (rd_op (rd_op (rd_op ⟨_, rfl, _, rfl, _, rfl, l, xs, rfl, SqL.of o4'.hl, fun q1 e1 => ?_⟩)))))
  have y1 := Ext.new (o := .lst (cutV xs none (some (i : Int)))) e1
  have g1 : upd H4 q1 (.lst (cutV xs none (some (i : Int)))) q1 = some (.lst (xs.take i)) := by rw [cut_upt]; exact upd_same
  generalize upd H4 q1 (.lst (cutV xs none (some (i : Int)))) = H5 at y1 g1 ⊢
  refine ⟨_, rfl, by show 1 ≤ sizeLine; decide, fun q2 e2 => ?_⟩
  have y2 := Ext.new (o := .lst [v]) e2
  have g2 : upd H5 q2 (.lst [v]) q2 = some (.lst [v]) := upd_same
  generalize upd H5 q2 (.lst [v]) = H6 at y2 g2 ⊢
  refine ⟨q1, q2, xs.take i, [v], rfl, rfl, y2 _ _ g1, g2, by rw [List.length_take]; show min i xs.length + 1 ≤ sizeLine; omega, fun q3 e3 => ?_⟩
  have y3 := Ext.new (o := .lst (xs.take i ++ [v])) e3
  have g3 : upd H6 q3 (.lst (xs.take i ++ [v])) q3 = some (.lst (xs.take i ++ [v])) := upd_same
  generalize upd H6 q3 (.lst (xs.take i ++ [v])) = H7 at y3 g3 ⊢
  have o7' := o4'.mono ((y1.trans y2).trans y3)
  refine ⟨_, rfl, _, rfl, _, rfl, l, xs, rfl, SqL.of o7'.hl, fun q4 e4 => ?_⟩
  have y4 := Ext.new (o := .lst (cutV xs (some (i : Int)) none)) e4
  have g4 : upd H7 q4 (.lst (cutV xs (some (i : Int)) none)) q4 = some (.lst (xs.drop i)) := by rw [cut_fro]; exact upd_same
  generalize upd H7 q4 (.lst (cutV xs (some (i : Int)) none)) = H8 at y4 g4 ⊢
  refine ⟨q3, q4, xs.take i ++ [v], xs.drop i, rfl, rfl, y4 _ _ g3, g4, by rw [List.length_append, List.length_take, List.length_drop]; show min i xs.length + 1 + _ ≤ sizeLine; omega, fun q5 e5 => ?_⟩
  have y5 := Ext.new (o := .lst (xs.take i ++ [v] ++ xs.drop i)) e5
  have g5 : upd H8 q5 (.lst (xs.take i ++ [v] ++ xs.drop i)) q5 = some (.lst (xs.take i ++ [v] ++ xs.drop i)) := upd_same
  generalize upd H8 q5 (.lst (xs.take i ++ [v] ++ xs.drop i)) = H9 at y5 g5 ⊢
  have y15 := (((y1.trans y2).trans y3).trans y4).trans y5
  obtain ⟨ot, fb⟩ := ot_mid (K := K) (o4'.mono y15) (bd.mono y15) hi
  refine ⟨_, rfl, .inr (.inl ⟨q5, _, _, i, rfl, g5, ot, fb, fun t6 H10 y6 h6 => ?_⟩)⟩
  refine rd_wd2 (v := .int (i : Nat)) (fun R r => ⟨_, rfl, r⟩) fun t7 H11 y7 h7 => neD_two (y7 _ _ h6) h7 (.int _) (.int _) rfl (by simp [PyData.depth]) (itF ?_)
  have y17 := (y15.trans y6).trans y7
  have o11' := o4'.mono y17
  have c11 := c4.ext y17
  show tA17 K De (stL s p kk (some (.int (os.length : Nat))) (some (.ref l)) o5 o6 o7 o8 o9 (some (.int (i : Nat))) (some v)) H11
  refine rd_ifOr (rd_tb (rd_op ⟨_, rfl, l, xs, rfl, .inl ⟨SqL.of o11'.hl, fun t1 e1 => ?_⟩⟩))
  have z1 := Ext.new (o := .tup xs) e1
  have f1 : upd H11 t1 (.tup xs) t1 = some (.tup xs) := upd_same
  generalize upd H11 t1 (.tup xs) = H12 at z1 f1 ⊢
  refine ⟨_, rfl, .inl ⟨⟨_, .inl (.tup f1), rfl⟩, fun u2 H13 z2 h2 => ?_⟩⟩
  refine ⟨_, rfl, l, xs, rfl, .inl ⟨SqL.of (z2 _ _ (z1 _ _ o11'.hl)), fun t3 e3 => ?_⟩⟩
  have z3 := Ext.new (o := .tup xs) e3
  have f3 : upd H13 t3 (.tup xs) t3 = some (.tup xs) := upd_same
  show 2 ≤ sizeLine ∧ _
  refine ⟨by decide, fun u4 e4 => ?_⟩
  have z4 := Ext.new (o := .tup [.str "folk", .ref t3]) e4
  have f4 : upd (upd H13 t3 (.tup xs)) u4 (.tup [.str "folk", .ref t3]) u4 = some (.tup [.str "folk", .ref t3]) := upd_same
  have z14 := ((z1.trans z2).trans z3).trans z4
  have rx := o11'.rx.mono z14
  refine neD_two (d := .tuple (os.map oD2)) (z4 _ _ (z3 _ _ h2)) f4 (.tup (z4 _ _ (z3 _ _ (z2 _ _ f1))) rx) (.tup (z4 _ _ f3) rx) (plainO os) (by have := depO os; simp only [PyData.depth]; omega) (itF ?_)
  refine rd_tb (rd_op ⟨_, rfl, .inl ⟨⟨_, .inl .non, rfl⟩, fun u5 H15 z5 h5 => ?_⟩⟩)
  refine rd_wd2 (v := .non) (fun R r => r) fun u6 H16 z6 h6 => neD_two (z6 _ _ h5) h6 .non .non rfl (by simp [PyData.depth]) (itF ?_)
  exact nx _ _ H16 (c11.ext ((z14.trans z5).trans z6))
theorem rd_body (kU : KI K CU) (kP : KI K CP) (nU : NoAttr K CU "mark") (nP : NoAttr K CP "size" ∧ NoAttr K CP "first_state" ∧ NoAttr K CP "mark" ∧ NoAttr K CP "parts") (eT : ErrI K CT) (tT : kitOne K (.ref CT) (.type "tuple") = some false) (lT : kitOne K (.ref CT) (.type "list") = some false) (sT : kitOne K (.ref CT) (.type "str") = some false)
    (c : Sc K H s p ns) (nx : ∀ o3 o4 o5 o6 o7 o8 o9 o10 o11 H', Sc K H' s p ns → De.nx (stL s p kk o3 o4 o5 o6 o7 o8 o9 o10 o11) H') : tBody K CU CP CT CO De (stL s p kk o3 o4 o5 o6 o7 o8 o9 o10 o11) H :=
  rd_p1 c fun l xs os H1 c1 u1 => rd_p2 c1 u1 fun H2 c2 x2 => rd_p3 c2 (u1.mono x2) fun o6 o7 H3 c3 x3 => rd_p4 c3 fun o8 o9 H4 c4 x4 => rd_p5 kU kP nU nP eT tT lT sT c4 fun o8 H5 c5 x5 => rd_p6 c5 ((((u1.mono x2).mono x3).mono x4).mono x5) fun o10 o11 H6 c6 => nx _ _ _ _ _ _ _ _ _ H6 c6
def spLaw (K : Frag) : Sp := fun vs H Q _ => ∃ (a : Addr) (ns : List Int), vs = [.ref a] ∧ SqL K H a (ns.map V.int) ∧ ns.length ≤ 63 ∧ H sysModules = none ∧ ∀ H', Q (.bl true) H'
variable {P : Program} {w : World} {mg : Str → Option Value} {base : Heap}
variable {D fU fP fT a1 a2 a3 a4 a5 a6 a7 a8 a9 : Addr} {dU dP dT d1 d2 d3 d4 d5 d6 d7 d8 d9 : FuncData}
theorem ok_law {f : Addr} {fd : FuncData} (F : Fun K "law" "law" sLaw f fd) (L : Dl P w K mg base D CU CP CT CO fU fP fT a1 a2 a3 a4 a5 a6 a7 a8 a9 dU dP dT d1 d2 d3 d4 d5 d6 d7 d8 d9)
    (kU : KI K CU) (kP : KI K CP) (nU : NoAttr K CU "mark") (nP : NoAttr K CP "size" ∧ NoAttr K CP "first_state" ∧ NoAttr K CP "mark" ∧ NoAttr K CP "parts") (eT : ErrI K CT) (tT : kitOne K (.ref CT) (.type "tuple") = some false) (lT : kitOne K (.ref CT) (.type "list") = some false) (sT : kitOne K (.ref CT) (.type "str") = some false) : FnOk P w K mg base CX0 8 f fd ["_law_script"] (spLaw K) := by
  refine F.ok scLw (fun vs H Q E h => ?_) (fun cdv A outer s H vs Q E hr h => ?_)
  · obtain ⟨a, ns, rfl, _⟩ := h
    rfl
  obtain ⟨a, ns, rfl, ha, l63, hz, q⟩ := h
  obtain ⟨der⟩ := law_der L hz hr (f := f) (cdv := cdv) (A := A) (outer := outer) (s := s) (H := H) (E := E) (P := P) (w := w) (base := base)
  refine ⟨_, der, ?_⟩
  refine rd_set (te := tLstN K (tCons (tC (.int 0)) (tCons (tC (.int 0)) (tCons (tC (.int 7)) tNil)))) (i := 1) (D := ⟨_, Q, _, _⟩) ⟨by show 3 ≤ sizeLine; decide, fun p hp hk => ?_⟩
  have np := SqL.neN ha hp hk
  have c : Sc K (upd H p (.lst [.int 0, .int 0, .int 7])) a p ns := ⟨My.SqL.ext ha (Ext.new hp), l63, np, ⟨0, 0, 7, upd_same, by decide, by decide, by decide, by decide⟩⟩
  show tSeq (tL1 K CU CP CT CO) _ _ [some (.ref a), some (.ref p), none, none, none, none, none, none, none, none, none, none] (upd H p (.lst [.int 0, .int 0, .int 7]))
  generalize upd H p (.lst [.int 0, .int 0, .int 7]) = H1 at c ⊢
  have hn : ∃ n : Nat, n ≤ 8 ∧ (if (if (((ns.map V.int).length : Nat) : Int) < 8 then (((ns.map V.int).length : Nat) : Int) else 8) > 3 then (if (((ns.map V.int).length : Nat) : Int) < 8 then (((ns.map V.int).length : Nat) : Int) else 8) else 3) = (n : Int) := by
    refine ⟨(if (if (((ns.map V.int).length : Nat) : Int) < 8 then (((ns.map V.int).length : Nat) : Int) else 8) > 3 then (if (((ns.map V.int).length : Nat) : Int) < 8 then (((ns.map V.int).length : Nat) : Int) else 8) else 3).toNat, ?_, ?_⟩ <;> (repeat' split) <;> omega
  obtain ⟨n, n10, en⟩ := hn
  refine ⟨_, rfl, a, _, rfl, .inl c.sq, _, _, rfl, _, _, rfl, _, rfl, ?_⟩
  rw [en]
  refine ⟨by omega, by omega, ?_⟩
  rw [Int.toNat_natCast]
  refine for_range (n := n) (fun i σ H' => Sc K H' a p ns ∧ ∃ o2 o3 o4 o5 o6 o7 o8 o9 o10 o11, σ = [some (.ref a), some (.ref p), o2, o3, o4, o5, o6, o7, o8, o9, o10, o11]) ⟨c, _, _, _, _, _, _, _, _, _, _, rfl⟩ ?_ ?_
  · rintro i σ H' hi ⟨c', o2, o3, o4, o5, o6, o7, o8, o9, o10, o11, rfl⟩
    exact rd_body (De := ⟨_, Q, _, _⟩) (kk := 0 + (i : Int)) kU kP nU nP eT tT lT sT c' fun _ _ _ _ _ _ _ _ _ H2 c2 => ⟨c2, _, _, _, _, _, _, _, _, _, _, rfl⟩
  · rintro σ H' ⟨c', o2, o3, o4, o5, o6, o7, o8, o9, o10, o11, rfl⟩
    exact q H'
end
end My
set_option Elab.async false
set_option linter.all false
set_option maxRecDepth 100000
set_option maxHeartbeats 4000000
set_option exponentiation.threshold 10000
namespace My
open PySem PySem.W L2
theorem mroC {K : Frag} {D C f : Addr} {nm : Str} (T : ErrC K D nm C f) (b : Value) : mroIn K C b = some ((Value.ref C :: .ref D :: bmV).contains b) := by
  obtain ⟨cd, h1, _, h3⟩ := T.clsIn
  unfold mroIn
  rw [h1, Option.bind_some, h3]
  rfl
theorem kit_ty {K : Frag} {D C f : Addr} {nm : Str} (T : ErrC K D nm C f) {n : String} {b : Bool} (hm : kitMeta n = true) (hb : bmV.contains (.type n) = b) : kitOne K (.ref C) (.type n) = some b := by
  unfold kitOne
  rw [if_neg (by intro e; cases beq_iff_eq.mp e)]
  show (if kitMeta n = true then subIn K (.ref C) (.type n) else none) = _
  rw [if_pos hm]
  show mroIn K C _ = _
  rw [mroC T, List.contains_cons, List.contains_cons, hb]
  rfl
theorem neD_of {K : Frag} {D C f : Addr} {nm : Str} (T : ErrC K D nm C f) (B : BaseC K D) : C ≠ D := by
  intro e
  obtain ⟨q, N, bs, sn, sub, ab, col, dd, k0, k1, k2, k3, k5, l⟩ := T.cls
  obtain ⟨nm', q', N', bs', sn', sub', ab', col', dd', k0', k1', k2', k3', k5', l', _⟩ := B.cls
  rw [e, l'] at l
  have z := Option.some.inj l
  injection z with _ _ z _
  injection z with z
  injection z with _ _ z
  cases z
theorem ne_names {K : Frag} {D C f C' f' : Addr} {nm nm' : Str} (T : ErrC K D nm C f) (T' : ErrC K D nm' C' f') (h : nm ≠ nm') : C' ≠ C := by
  intro e
  obtain ⟨q, N, bs, sn, sub, ab, col, dd, k0, k1, k2, k3, k5, l⟩ := T.cls
  obtain ⟨q', N', bs', sn', sub', ab', col', dd', k0', k1', k2', k3', k5', l'⟩ := T'.cls
  rw [e, l] at l'
  have z := Option.some.inj l'
  injection z with _ _ z _
  injection z with z
  injection z with z
  exact h z
theorem baseType {K : Frag} {D : Addr} (B : BaseC K D) : typeIn K (.ref D) = some (.type "type") := by
  obtain ⟨nm', q', N', bs', sn', sub', ab', col', dd', k0', k1', k2', k3', k5', l', _⟩ := B.cls
  show (List.lookup D K).map (·.cls) = _
  rw [l']
  rfl
theorem baseCls {K : Frag} {D : Addr} (B : BaseC K D) : ∃ cd, clsIn K D = some cd := by
  obtain ⟨nm', q', N', bs', sn', sub', ab', col', dd', k0', k1', k2', k3', k5', l', _⟩ := B.cls
  unfold clsIn
  rw [l']
  exact ⟨_, rfl⟩
abbrev sIni5 : Stmt := inClass (top 5) 0
theorem scIni5 : FnScope ["self", "found"] ["self", "found"] (defScope sIni5) := ⟨rfl, rfl, rfl, by decide +kernel, rfl, by decide +kernel, by decide +kernel⟩
theorem one5 {K : Frag} {mg : Str → Option Value} {D C f : Addr} {fd : FuncData} (B : BaseC K D) (T : ErrC K D "NoText" C f) (mD : mg "DealError" = some (.ref D)) (mC : mg "NoText" = some (.ref C)) (F : Fun K "__init__" "NoText.__init__" sIni5 f fd) (tk : takerIn K C "found" = some none) : OneF K mg D "NoText" "found" C f fd := by
  refine ⟨T, mC, fun P w base => ?_, F.binds fun _ _ _ _ _ _ us hl => match us, hl with | [_, _], _ => rfl⟩
  refine F.ok scIni5 (fun vs H Q E h => ?_) (fun cdv A outer s H vs Q E hr h => ?_)
  · obtain ⟨x, v, rfl, _⟩ := h
    rfl
  obtain ⟨x, v, rfl, hx, q⟩ := h
  refine ⟨_, pss_cons (ps_expr (pe_baseInit B T rfl mD (pv 0) pe_str)) (pss_one (ps_err T (pv 0) (pv 1) rfl)), ?_⟩
  exact ⟨_, rfl, x, rfl, hx, _, rfl, _, rfl, x, rfl, hx, tk, q⟩
abbrev sIni6 : Stmt := inClass (top 6) 0
theorem scIni6 : FnScope ["self", "found"] ["self", "found"] (defScope sIni6) := ⟨rfl, rfl, rfl, by decide +kernel, rfl, by decide +kernel, by decide +kernel⟩
theorem one6 {K : Frag} {mg : Str → Option Value} {D C f : Addr} {fd : FuncData} (B : BaseC K D) (T : ErrC K D "NoFolk" C f) (mD : mg "DealError" = some (.ref D)) (mC : mg "NoFolk" = some (.ref C)) (F : Fun K "__init__" "NoFolk.__init__" sIni6 f fd) (tk : takerIn K C "found" = some none) : OneF K mg D "NoFolk" "found" C f fd := by
  refine ⟨T, mC, fun P w base => ?_, F.binds fun _ _ _ _ _ _ us hl => match us, hl with | [_, _], _ => rfl⟩
  refine F.ok scIni6 (fun vs H Q E h => ?_) (fun cdv A outer s H vs Q E hr h => ?_)
  · obtain ⟨x, v, rfl, _⟩ := h
    rfl
  obtain ⟨x, v, rfl, hx, q⟩ := h
  refine ⟨_, pss_cons (ps_expr (pe_baseInit B T rfl mD (pv 0) pe_str)) (pss_one (ps_err T (pv 0) (pv 1) rfl)), ?_⟩
  exact ⟨_, rfl, x, rfl, hx, _, rfl, _, rfl, x, rfl, hx, tk, q⟩
abbrev sIni7 : Stmt := inClass (top 7) 0
theorem scIni7 : FnScope ["self", "place"] ["self", "place"] (defScope sIni7) := ⟨rfl, rfl, rfl, by decide +kernel, rfl, by decide +kernel, by decide +kernel⟩
theorem one7 {K : Frag} {mg : Str → Option Value} {D C f : Addr} {fd : FuncData} (B : BaseC K D) (T : ErrC K D "NoOutcome" C f) (mD : mg "DealError" = some (.ref D)) (mC : mg "NoOutcome" = some (.ref C)) (F : Fun K "__init__" "NoOutcome.__init__" sIni7 f fd) (tk : takerIn K C "place" = some none) : OneF K mg D "NoOutcome" "place" C f fd := by
  refine ⟨T, mC, fun P w base => ?_, F.binds fun _ _ _ _ _ _ us hl => match us, hl with | [_, _], _ => rfl⟩
  refine F.ok scIni7 (fun vs H Q E h => ?_) (fun cdv A outer s H vs Q E hr h => ?_)
  · obtain ⟨x, v, rfl, _⟩ := h
    rfl
  obtain ⟨x, v, rfl, hx, q⟩ := h
  refine ⟨_, pss_cons (ps_expr (pe_baseInit B T rfl mD (pv 0) pe_str)) (pss_one (ps_err T (pv 0) (pv 1) rfl)), ?_⟩
  exact ⟨_, rfl, x, rfl, hx, _, rfl, _, rfl, x, rfl, hx, tk, q⟩
theorem fld_of {K : Frag} {D C f : Addr} {nm fld : Str} (T : ErrC K D nm C f) (nf : findIn K (.ref C) fld = some none) : FldOk K C fld := by
  obtain ⟨cd, h1, h2, h3⟩ := T.clsIn
  refine ⟨T.it, ?_, nf⟩
  unfold hasDictIn
  rw [h1]
  exact h2
theorem cat_of {K : Frag} {D C f : Addr} {nm : Str} (T : ErrC K D nm C f) : Catch K C := by
  obtain ⟨cd, h1, h2, h3⟩ := T.clsIn
  exact ⟨⟨cd, h1⟩, T.type, T.it.mb⟩
theorem cat_base {K : Frag} {D : Addr} (B : BaseC K D) : Catch K D := ⟨baseCls B, baseType B, B.it.mb⟩
theorem mro_self {K : Frag} {D C f : Addr} {nm : Str} (T : ErrC K D nm C f) : mroIn K C (.ref C) = some true := by
  rw [mroC T, List.contains_cons, beq_self_eq_true]
  rfl
theorem mro_no {K : Frag} {D C f C' f' : Addr} {nm nm' : Str} (B : BaseC K D) (T : ErrC K D nm C f) (T' : ErrC K D nm' C' f') (h : nm ≠ nm') : mroIn K C (.ref C') = some false := by
  have ne := ne_names T T' h
  have nd := neD_of T' B
  rw [mroC T, List.contains_cons, List.contains_cons]
  have n1 : (Value.ref C' == Value.ref C) = false := beq_eq_false_iff_ne.mpr fun z => ne (Value.ref.inj z)
  have n2 : (Value.ref C' == Value.ref D) = false := beq_eq_false_iff_ne.mpr fun z => nd (Value.ref.inj z)
  rw [n1, n2]
  rfl
theorem kit_tyM {K : Frag} {C : Addr} {n : String} {b : Bool} (hm : kitMeta n = true) (h : mroIn K C (.type n) = some b) : kitOne K (.ref C) (.type n) = some b := by
  unfold kitOne
  rw [if_neg (by intro e; cases beq_iff_eq.mp e)]
  show (if kitMeta n = true then subIn K (.ref C) (.type n) else none) = _
  rw [if_pos hm]
  exact h
structure Dm (K : Frag) (nm qual : Str) (st : Stmt) (ps : List Str) (f : Addr) (fd : FuncData) : Prop where
  fn : Fun K nm qual st f fd
  bi : Binds K fd ps []
  kp : keepIn K (.ref f) = true
  isf : isFn K (.ref f) = true
end My
set_option Elab.async false
set_option linter.all false
set_option maxRecDepth 100000
set_option maxHeartbeats 4000000
set_option exponentiation.threshold 10000
namespace My
open PySem PySem.W L2
def keyStr : Value → Bool
  | .str _ _ => true
  | _ => false
theorem strKeys_of {es : Array DictEntry} (h : (es.toList.all fun e => keyStr e.key) = true) : StrKeys es := fun e he => by
  have z := List.all_eq_true.mp h e (by simpa using he)
  cases k : e.key with
  | str n t => exact ⟨n, t, rfl⟩
  | _ => rw [k] at z; cases z
theorem mro_of {K : Frag} {C : Addr} {cd : ClassData} {b : Value} (h : clsIn K C = some cd) (hb : cd.mro.isEmpty = false) (hc : cd.mro.contains b = true) : mroIn K C b = some true := by
  unfold mroIn
  rw [h, Option.bind_some, hb, hc]
  rfl
theorem base_mk {K : Frag} {D N : Addr} {nm q : Str} {bs : List Value} {sn : List Str} {sub : List Value} {ab : Bool} {col : Option Bool} {dd : Option Addr} {k0 k1 k2 k3 k5 : Option Value}
    {cN : Value} {dN : Option Addr} {es : Array DictEntry} {ep : Nat} {sN : Array (Option Value)}
    (lD : K.lookup D = some (excClassObj nm q D N bs bmV true sn sub ab col dd k0 k1 k2 k3 k5 "ValueError.__new__"))
    (lN : K.lookup N = some ⟨cN, dN, .dict es ep, sN⟩) (sk : StrKeys es) (ni : nsFind es "__init__" = none)
    (ga : specialIn K (.ref D) "__getattribute__" = some (some (.builtin "type.__getattribute__"))) (rd : readsIn K D (.type "type") = true)
    (ini : findCls K (.ref D) (.type "type") "__init__" = some (.val (.builtin "ValueError.__init__"))) (fi : findIn K (.ref D) "__init__" = some (some (.builtin "ValueError.__init__"))) (kp : keepIn K (.ref D) = true)
    (gb : findIn K (.ref D) "__getattribute__" = some (some (.builtin bga))) (hk : findIn K (.ref D) "__getattr__" = some none) (ca : findIn K (.ref D) "__class__" = some (some (.builtin "object.__class__"))) : BaseC K D := by
  have hc : clsIn K D = some { name := nm, bases := bs, mro := .ref D :: bmV, ns := N, qualname := q, hasDict := true, slotNames := sn, subclasses := sub, abstract := ab, collection := col, hasDel := false } := by
    unfold clsIn
    rw [lD]
  refine ⟨⟨nm, q, N, bs, sn, sub, ab, col, dd, k0, k1, k2, k3, k5, lD, _, es, ep, lN, rfl, sk, ni⟩, ga, rd, ini, fi, kp, ⟨by rw [hc]; rfl, gb, hk, mro_of hc rfl ?_, mro_of hc rfl ?_, ca⟩⟩
  · show (Value.ref D :: bmV).contains (.type "BaseException") = true
    rw [List.contains_cons]
    rfl
  · show (Value.ref D :: bmV).contains (.type "object") = true
    rw [List.contains_cons]
    rfl
theorem err_mk {K : Frag} {D C N f : Addr} (nm : Str)
    {q : Str} {bs : List Value} {sn : List Str} {sub : List Value} {ab : Bool} {col : Option Bool} {dd : Option Addr} {k0 k1 k2 k3 k5 : Option Value}
    (lC : K.lookup C = some (excClassObj nm q C N bs (.ref D :: bmV) true sn sub ab col dd k0 k1 k2 k3 k5 "ValueError.__new__"))
    (ini : findIn K (.ref C) "__init__" = some (some (.ref f))) (fn : typeIn K (.ref f) = some (.type "function")) (kp : keepIn K (.ref C) = true)
    (sa : findIn K (.ref C) "__setattr__" = some (some (.builtin "object.__setattr__"))) (ga : findIn K (.ref C) "__getattribute__" = some (some (.builtin bga))) (hk : findIn K (.ref C) "__getattr__" = some none)
    (ca : findIn K (.ref C) "__class__" = some (some (.builtin "object.__class__"))) : ErrC K D nm C f := by
  have hc : clsIn K C = some { name := nm, bases := bs, mro := .ref C :: .ref D :: bmV, ns := N, qualname := q, hasDict := true, slotNames := sn, subclasses := sub, abstract := ab, collection := col, hasDel := false } := by
    unfold clsIn
    rw [lC]
  refine ⟨⟨q, N, bs, sn, sub, ab, col, dd, k0, k1, k2, k3, k5, lC⟩, ini, fn, kp, sa, ⟨by rw [hc]; rfl, ga, hk, mro_of hc rfl ?_, mro_of hc rfl ?_, ca⟩⟩
  · show (Value.ref C :: .ref D :: bmV).contains (.type "BaseException") = true
    rw [List.contains_cons, List.contains_cons]
    rfl
  · show (Value.ref C :: .ref D :: bmV).contains (.type "object") = true
    rw [List.contains_cons, List.contains_cons]
    rfl
structure Dn (K : Frag) (mg : Str → Option Value) (nm : Str) (st : Stmt) (ps : List Str) (f : Addr) (fd : FuncData) : Prop where
  fn : Fun K nm nm st f fd
  bi : Binds K fd ps []
  kp : keepIn K (.ref f) = true
  mg : mg nm = some (.ref f)
section
variable {P : Program} {w : World} {K : Frag} {mg : Str → Option Value} {base : Heap}
theorem Dn.df {nm : Str} {st : Stmt} {ps : List Str} {f : Addr} {fd : FuncData} (d : Dn K mg nm st ps f fd) {cx : CXT} {k : Nat} {sp : Sp} (h : FnOk P w K mg base cx k f fd ps sp) : Df P w K mg base cx k nm ps sp f fd := ⟨h, d.bi, d.kp, d.mg⟩
end
abbrev BP (nm qn : Str) (st : Stmt) (ps : List Str) : Prop := ∀ (kV doc pm : Value) (an : Option Addr) (cdv ct : Value) (us : List Value), us.length = ps.length → bindArgs (PySem.W.fnOf nm qn (defArgs st) (defBody st) (defScope st) .none kV doc pm an cdv ct) ⟨us, []⟩ = pure (ps.zip us)
theorem dn_of {nm : Str} {st : Stmt} {ps : List Str} (hb : BP nm nm st ps) {K : Frag} {h : Heap} {mg : Str → Option Value} {g : Addr} {oc kV dc pm cd ct : Value} {od an : Option Addr} {sl : Array (Option Value)} (X : K.In h) (G : h.Ns mainGlobals mg)
    (a : nsIn K mainGlobals nm = some (some (.ref g))) (l : K.lookup g = some ⟨oc, od, .func (fnOf nm nm (defArgs st) (defBody st) (defScope st) .none kV dc pm an cd ct), sl⟩) (c : codeIn K cd nm = true) (k : keepIn K (.ref g) = true) :
    Dn K mg nm st ps g (fnOf nm nm (defArgs st) (defBody st) (defScope st) .none kV dc pm an cd ct) := by
  have F := fun_mk (st := st) l c k
  exact ⟨F, F.binds hb, k, mg_of X G a⟩
theorem dm_of {nm qn : Str} {st : Stmt} {ps : List Str} (hb : BP nm qn st ps) {K : Frag} {g : Addr} {oc kV dc pm cd ct : Value} {od an : Option Addr} {sl : Array (Option Value)}
    (l : K.lookup g = some ⟨oc, od, .func (fnOf nm qn (defArgs st) (defBody st) (defScope st) .none kV dc pm an cd ct), sl⟩) (c : codeIn K cd qn = true) (k : keepIn K (.ref g) = true) (f : isFn K (.ref g) = true) :
    Dm K nm qn st ps g (fnOf nm qn (defArgs st) (defBody st) (defScope st) .none kV dc pm an cd ct) := by
  have F := fun_mk (st := st) l c k
  exact ⟨F, F.binds hb, k, f⟩
theorem bp0 : BP "is_number" "is_number" sIsNum ["thing"] := fun _ _ _ _ _ _ us hl => match us, hl with | [_], _ => rfl
theorem bp1 : BP "is_whole" "is_whole" sIsWh ["thing", "low", "high"] := fun _ _ _ _ _ _ us hl => match us, hl with | [_, _, _], _ => rfl
theorem bp2 : BP "is_outcome" "is_outcome" sIO ["thing"] := fun _ _ _ _ _ _ us hl => match us, hl with | [_], _ => rfl
theorem bp3 : BP "need_outcome" "need_outcome" sNO ["thing", "place"] := fun _ _ _ _ _ _ us hl => match us, hl with | [_, _], _ => rfl
theorem bp4 : BP "need_outcomes" "need_outcomes" sNOs ["thing"] := fun _ _ _ _ _ _ us hl => match us, hl with | [_], _ => rfl
theorem bp5 : BP "need_number" "need_number" sNN ["thing", "low", "high"] := fun _ _ _ _ _ _ us hl => match us, hl with | [_, _, _], _ => rfl
theorem bp6 : BP "one_part" "one_part" sOP ["folk"] := fun _ _ _ _ _ _ us hl => match us, hl with | [_], _ => rfl
theorem bp7 : BP "count_in" "count_in" sCount ["text"] := fun _ _ _ _ _ _ us hl => match us, hl with | [_], _ => rfl
theorem bp8 : BP "number_in" "number_in" sNI ["text"] := fun _ _ _ _ _ _ us hl => match us, hl with | [_], _ => rfl
theorem bp9 : BP "whole_in" "whole_in" sWI ["thing", "low", "high"] := fun _ _ _ _ _ _ us hl => match us, hl with | [_, _, _], _ => rfl
theorem bp10 : BP "outcome_in" "outcome_in" sOI ["word"] := fun _ _ _ _ _ _ us hl => match us, hl with | [_], _ => rfl
theorem bp11 : BP "outcome_text" "outcome_text" sOT ["outcome"] := fun _ _ _ _ _ _ us hl => match us, hl with | [_], _ => rfl
theorem bp12 : BP "outcomes_text" "outcomes_text" sOsT ["outcomes"] := fun _ _ _ _ _ _ us hl => match us, hl with | [_], _ => rfl
theorem bp13 : BP "outcomes_in" "outcomes_in" sOsI ["text"] := fun _ _ _ _ _ _ us hl => match us, hl with | [_], _ => rfl
theorem bp14 : BP "_law_take" "_law_take" sTake ["_law_script", "_law_pen", "_law_many"] := fun _ _ _ _ _ _ us hl => match us, hl with | [_, _, _], _ => rfl
theorem bp15 : BP "_law_outcomes" "_law_outcomes" sLO ["_law_script", "_law_pen", "_law_folk", "_law_sure"] := fun _ _ _ _ _ _ us hl => match us, hl with | [_, _, _, _], _ => rfl
theorem bp16 : BP "_law_text" "_law_text" sLT ["_law_outcomes_here"] := fun _ _ _ _ _ _ us hl => match us, hl with | [_], _ => rfl
theorem bp17 : BP "_law_number" "_law_number" sLN ["_law_word"] := fun _ _ _ _ _ _ us hl => match us, hl with | [_], _ => rfl
theorem bp18 : BP "_law_read" "_law_read" sRd ["_law_text_here"] := fun _ _ _ _ _ _ us hl => match us, hl with | [_], _ => rfl
theorem bp19 : BP "_law_told" "_law_told" sTd ["_law_text_here"] := fun _ _ _ _ _ _ us hl => match us, hl with | [_], _ => rfl
theorem bp20 : BP "_law_written" "_law_written" sWr ["_law_outcomes_here"] := fun _ _ _ _ _ _ us hl => match us, hl with | [_], _ => rfl
theorem bp21 : BP "_law_spoilt" "_law_spoilt" sSt ["_law_script", "_law_pen", "_law_text_here"] := fun _ _ _ _ _ _ us hl => match us, hl with | [_, _, _], _ => rfl
theorem bp22 : BP "_law_plain" "_law_plain" sPl ["_law_found", "_law_due"] := fun _ _ _ _ _ _ us hl => match us, hl with | [_, _], _ => rfl
theorem bp23 : BP "law" "law" sLaw ["_law_script"] := fun _ _ _ _ _ _ us hl => match us, hl with | [_], _ => rfl
theorem bm0 : BP "__init__" "Measure.__init__" sMeI ["self", "mark"] := fun _ _ _ _ _ _ us hl => match us, hl with | [_, _], _ => rfl
theorem bm1 : BP "__init__" "Sum.__init__" sSuI ["self"] := fun _ _ _ _ _ _ us hl => match us, hl with | [_], _ => rfl
theorem bm2 : BP "__init__" "Rule.__init__" sRuI ["self", "size", "first_state", "mark", "parts"] := fun _ _ _ _ _ _ us hl => match us, hl with | [_, _, _, _, _], _ => rfl
theorem bm3 : BP "__init__" "Split.__init__" sSpI ["self", "folk", "ones"] := fun _ _ _ _ _ _ us hl => match us, hl with | [_, _, _], _ => rfl
theorem all_mk {l : OpenLaw} {w : World} {K : Frag} {h : Heap} {mg : Str → Option Value} {fa D CE5 fE5 CE6 fE6 CE7 fE7 g0 g1 g2 g3 g4 g5 g6 g7 g8 g9 g10 g11 g12 g13 g14 g15 g16 g17 g18 g19 g20 g21 g22 g23 m0 m1 m2 m3 M R U S : Addr} {d0 d1 d2 d3 d4 d5 d6 d7 d8 d9 d10 d11 d12 d13 d14 d15 d16 d17 d18 d19 d20 d21 d22 d23 x0 x1 x2 x3 : FuncData} (X : K.In h) (G : h.Ns mainGlobals mg) (hfa : mg "law" = some (.ref fa))
    {oc5 kV5 dc5 pm5 cd5 ct5 oc6 kV6 dc6 pm6 cd6 ct6 oc7 kV7 dc7 pm7 cd7 ct7 : Value} {od5 an5 od6 an6 od7 an7 : Option Addr} {sl5 sl6 sl7 : Array (Option Value)}
    {t_LEAST_NUMBER t_MOST_NUMBER t_MOST_FOLK : Tok}
    {tF : Tok}
    (B : BaseC K D) (eE5 : ErrC K D "NoText" CE5 fE5) (eE6 : ErrC K D "NoFolk" CE6 fE6) (eE7 : ErrC K D "NoOutcome" CE7 fE7)
    (aD : nsIn K mainGlobals "DealError" = some (some (.ref D)))
    (a5 : nsIn K mainGlobals "NoText" = some (some (.ref CE5)))
    (a6 : nsIn K mainGlobals "NoFolk" = some (some (.ref CE6)))
    (a7 : nsIn K mainGlobals "NoOutcome" = some (some (.ref CE7)))
    (lf5 : K.lookup fE5 = some ⟨oc5, od5, .func (fnOf "__init__" "NoText.__init__" (defArgs sIni5) (defBody sIni5) (defScope sIni5) .none kV5 dc5 pm5 an5 cd5 ct5), sl5⟩)
    (cf5 : codeIn K cd5 "NoText.__init__" = true)
    (kf5 : keepIn K (.ref fE5) = true)
    (tk5 : takerIn K CE5 "found" = some none)
    (nf5 : findIn K (.ref CE5) "found" = some none)
    (lf6 : K.lookup fE6 = some ⟨oc6, od6, .func (fnOf "__init__" "NoFolk.__init__" (defArgs sIni6) (defBody sIni6) (defScope sIni6) .none kV6 dc6 pm6 an6 cd6 ct6), sl6⟩)
    (cf6 : codeIn K cd6 "NoFolk.__init__" = true)
    (kf6 : keepIn K (.ref fE6) = true)
    (tk6 : takerIn K CE6 "found" = some none)
    (nf6 : findIn K (.ref CE6) "found" = some none)
    (lf7 : K.lookup fE7 = some ⟨oc7, od7, .func (fnOf "__init__" "NoOutcome.__init__" (defArgs sIni7) (defBody sIni7) (defScope sIni7) .none kV7 dc7 pm7 an7 cd7 ct7), sl7⟩)
    (cf7 : codeIn K cd7 "NoOutcome.__init__" = true)
    (kf7 : keepIn K (.ref fE7) = true)
    (tk7 : takerIn K CE7 "place" = some none)
    (nf7 : findIn K (.ref CE7) "place" = some none)
    (ns_M : nsIn K mainGlobals "Measure" = some (some (.ref M)))
    (sga_M : specialIn K (.ref M) "__getattribute__" = some (some (.builtin "type.__getattribute__")))
    (srd_M : readsIn K M (.type "type") = true)
    (sat_M_init : findCls K (.ref M) (.type "type") "__init__" = some (.val (.ref m0)))
    (ns_R : nsIn K mainGlobals "Rule" = some (some (.ref R)))
    (sga_R : specialIn K (.ref R) "__getattribute__" = some (some (.builtin "type.__getattribute__")))
    (srd_R : readsIn K R (.type "type") = true)
    (sat_R_init : findCls K (.ref R) (.type "type") "__init__" = some (.val (.ref m2)))
    (nc_U : nsIn K mainGlobals "Sum" = some (some (.ref U)))
    (pg_U : plainGet K U Str.empty = true)
    (hd_U : hasDictIn K U = true)
    (po_U : plainOver K U = true)
    (sa_U : findIn K (.ref U) "__setattr__" = some (some (.builtin "object.__setattr__")))
    (mks_U : makesIn K U = true)
    (kp_U : keepIn K (.ref U) = true)
    (ca_U : findIn K (.ref U) "__class__" = some (some (.builtin "object.__class__")))
    (hm_U : mroIn K U (.type "object") = some true)
    (icl_U : isClsIn K U = true)
    (tyl_U : typeIn K (.ref U) = some (.type "type"))
    (no_U_mark : findIn K (.ref U) "mark" = some none)
    (fi_U_init : findIn K (.ref U) "__init__" = some (some (.ref m1)))
    (mr_U_tuple : mroIn K U (.type "tuple") = some false)
    (mr_U_list : mroIn K U (.type "list") = some false)
    (mr_U_str : mroIn K U (.type "str") = some false)
    (nc_S : nsIn K mainGlobals "Split" = some (some (.ref S)))
    (pg_S : plainGet K S Str.empty = true)
    (hd_S : hasDictIn K S = true)
    (po_S : plainOver K S = true)
    (sa_S : findIn K (.ref S) "__setattr__" = some (some (.builtin "object.__setattr__")))
    (mks_S : makesIn K S = true)
    (kp_S : keepIn K (.ref S) = true)
    (ca_S : findIn K (.ref S) "__class__" = some (some (.builtin "object.__class__")))
    (hm_S : mroIn K S (.type "object") = some true)
    (icl_S : isClsIn K S = true)
    (tyl_S : typeIn K (.ref S) = some (.type "type"))
    (no_S_size : findIn K (.ref S) "size" = some none)
    (no_S_first_state : findIn K (.ref S) "first_state" = some none)
    (no_S_mark : findIn K (.ref S) "mark" = some none)
    (no_S_parts : findIn K (.ref S) "parts" = some none)
    (fi_S_init : findIn K (.ref S) "__init__" = some (some (.ref m3)))
    (mr_S_tuple : mroIn K S (.type "tuple") = some false)
    (mr_S_list : mroIn K S (.type "list") = some false)
    (mr_S_str : mroIn K S (.type "str") = some false)
    (i_LEAST_NUMBER : nsIn K mainGlobals "LEAST_NUMBER" = some (some (.int (-99) t_LEAST_NUMBER)))
    (i_MOST_NUMBER : nsIn K mainGlobals "MOST_NUMBER" = some (some (.int (99) t_MOST_NUMBER)))
    (i_MOST_FOLK : nsIn K mainGlobals "MOST_FOLK" = some (some (.int (20) t_MOST_FOLK)))
    (gt : specialIn K (.builtin "object.__class__") "__get__" = some (some (.builtin "getset_descriptor.__get__")))
    (tkT : takesIn K (.builtin "object.__class__") = some true)
    (aF : nsIn K mainGlobals "FIGURES" = some (some (.str FIG tF)))
    (z_isinstance : nsIn K mainGlobals "isinstance" = some none)
    (z_int : nsIn K mainGlobals "int" = some none)
    (z_bool : nsIn K mainGlobals "bool" = some none)
    (z_len : nsIn K mainGlobals "len" = some none)
    (z_range : nsIn K mainGlobals "range" = some none)
    (z_tuple : nsIn K mainGlobals "tuple" = some none)
    (z_list : nsIn K mainGlobals "list" = some none)
    (z_enumerate : nsIn K mainGlobals "enumerate" = some none)
    (z_repr : nsIn K mainGlobals "repr" = some none)
    (z_max : nsIn K mainGlobals "max" = some none)
    (z_min : nsIn K mainGlobals "min" = some none)
    (z_str : nsIn K mainGlobals "str" = some none)
    (e0 : Dn K mg "is_number" sIsNum ["thing"] g0 d0)
    (e1 : Dn K mg "is_whole" sIsWh ["thing", "low", "high"] g1 d1)
    (e2 : Dn K mg "is_outcome" sIO ["thing"] g2 d2)
    (e3 : Dn K mg "need_outcome" sNO ["thing", "place"] g3 d3)
    (e4 : Dn K mg "need_outcomes" sNOs ["thing"] g4 d4)
    (e5 : Dn K mg "need_number" sNN ["thing", "low", "high"] g5 d5)
    (e6 : Dn K mg "one_part" sOP ["folk"] g6 d6)
    (e7 : Dn K mg "count_in" sCount ["text"] g7 d7)
    (e8 : Dn K mg "number_in" sNI ["text"] g8 d8)
    (e9 : Dn K mg "whole_in" sWI ["thing", "low", "high"] g9 d9)
    (e10 : Dn K mg "outcome_in" sOI ["word"] g10 d10)
    (e11 : Dn K mg "outcome_text" sOT ["outcome"] g11 d11)
    (e12 : Dn K mg "outcomes_text" sOsT ["outcomes"] g12 d12)
    (e13 : Dn K mg "outcomes_in" sOsI ["text"] g13 d13)
    (e14 : Dn K mg "_law_take" sTake ["_law_script", "_law_pen", "_law_many"] g14 d14)
    (e15 : Dn K mg "_law_outcomes" sLO ["_law_script", "_law_pen", "_law_folk", "_law_sure"] g15 d15)
    (e16 : Dn K mg "_law_text" sLT ["_law_outcomes_here"] g16 d16)
    (e17 : Dn K mg "_law_number" sLN ["_law_word"] g17 d17)
    (e18 : Dn K mg "_law_read" sRd ["_law_text_here"] g18 d18)
    (e19 : Dn K mg "_law_told" sTd ["_law_text_here"] g19 d19)
    (e20 : Dn K mg "_law_written" sWr ["_law_outcomes_here"] g20 d20)
    (e21 : Dn K mg "_law_spoilt" sSt ["_law_script", "_law_pen", "_law_text_here"] g21 d21)
    (e22 : Dn K mg "_law_plain" sPl ["_law_found", "_law_due"] g22 d22)
    (e23 : Dn K mg "law" sLaw ["_law_script"] g23 d23)
    (y0 : Dm K "__init__" "Measure.__init__" sMeI ["self", "mark"] m0 x0)
    (y1 : Dm K "__init__" "Sum.__init__" sSuI ["self"] m1 x1)
    (y2 : Dm K "__init__" "Rule.__init__" sRuI ["self", "size", "first_state", "mark", "parts"] m2 x2)
    (y3 : Dm K "__init__" "Split.__init__" sSpI ["self", "folk", "ones"] m3 x3)
    (hb : ∀ (s : Shared) (v : Value), BindsTo s d23 ⟨[v], []⟩ [("_law_script", v)])
    : ∃ fd : FuncData, (∀ (s : Shared) (v : Value), BindsTo s fd ⟨[v], []⟩ [("_law_script", v)]) ∧ ∀ base : Heap, K.In base → base.Ns mainGlobals mg → FnOk l.prog w K mg base CX0 8 fa fd ["_law_script"] (spLaw K) := by
  have e := hfa.symm.trans e23.mg
  cases e
  refine ⟨_, hb, fun base _ _ => ?_⟩
  have m_isinstance := mg_none_of X G z_isinstance
  have m_int := mg_none_of X G z_int
  have m_bool := mg_none_of X G z_bool
  have m_len := mg_none_of X G z_len
  have m_range := mg_none_of X G z_range
  have m_tuple := mg_none_of X G z_tuple
  have m_list := mg_none_of X G z_list
  have m_enumerate := mg_none_of X G z_enumerate
  have m_repr := mg_none_of X G z_repr
  have m_max := mg_none_of X G z_max
  have m_min := mg_none_of X G z_min
  have m_str := mg_none_of X G z_str
  have T : IsT K := ⟨gt, tkT⟩
  have mD := mg_of X G aD
  have o5 := one5 B eE5 mD (mg_of X G a5) (fun_mk (st := sIni5) lf5 cf5 kf5) tk5
  have o6 := one6 B eE6 mD (mg_of X G a6) (fun_mk (st := sIni6) lf6 cf6 kf6) tk6
  have o7 := one7 B eE7 mD (mg_of X G a7) (fun_mk (st := sIni7) lf7 cf7 kf7) tk7
  have n_LEAST_NUMBER := mg_of X G i_LEAST_NUMBER
  have n_MOST_NUMBER := mg_of X G i_MOST_NUMBER
  have n_MOST_FOLK := mg_of X G i_MOST_FOLK
  have mB_M := mg_of X G ns_M
  have CF_M_init : ClsFn K M "__init__" m0 := ⟨sga_M, srd_M, sat_M_init, y0.kp⟩
  have mB_R := mg_of X G ns_R
  have CF_R_init : ClsFn K R "__init__" m2 := ⟨sga_R, srd_R, sat_R_init, y2.kp⟩
  have mC_U := mg_of X G nc_U
  have cls_U : Cls K U := ⟨pg_U, hd_U, po_U, sa_U⟩
  have mk_U : Mk K U m1 := ⟨mks_U, fi_U_init, y1.isf, kp_U⟩
  have mC_S := mg_of X G nc_S
  have cls_S : Cls K S := ⟨pg_S, hd_S, po_S, sa_S⟩
  have mk_S : Mk K S m3 := ⟨mks_S, fi_S_init, y3.isf, kp_S⟩
  have GN_ := ok_isnum (P := l.prog) (w := w) (mg := mg) (base := base) T e0.fn m_isinstance m_int m_bool
  have GN := (e0.df GN_)
  have GW_ := ok_iswh e1.fn GN_ e0.bi e0.kp e0.mg
  have GW := (e1.df GW_)
  have GI_ := ok_io T e2.fn GW n_LEAST_NUMBER n_MOST_NUMBER m_isinstance m_tuple m_len m_bool
  have GI := (e2.df GI_)
  have GA_ := ok_no e3.fn B o7 GI
  have GA := (e3.df GA_)
  have GS_ := ok_nos T e4.fn B o6 GA m_isinstance m_list m_enumerate
  have GS := (e4.df GS_)
  have GM_ := ok_nn e5.fn GW
  have GM := (e5.df GM_)
  have GP_ := ok_op (P := l.prog) (w := w) (mg := mg) (base := base) e6.fn m_tuple m_range
  have GP := (e6.df GP_)
  have Gc_ := ok_count (P := l.prog) (w := w) (mg := mg) (base := base) e7.fn (mg_of X G aF)
  have Gc := (e7.df Gc_)
  have Gn_ := ok_ni e8.fn Gc
  have Gn := (e8.df Gn_)
  have Gw_ := ok_wi T e9.fn Gn GW m_isinstance m_str
  have Gw := (e9.df Gw_)
  have Go_ := ok_oi e10.fn Gw n_LEAST_NUMBER n_MOST_NUMBER
  have Go := (e10.df Go_)
  have Gt_ := ok_ot (P := l.prog) (w := w) (mg := mg) (base := base) e11.fn
  have Gt := (e11.df Gt_)
  have Gs_ := ok_ost e12.fn GS Gt
  have Gs := (e12.df Gs_)
  have Gi_ := ok_osi T e13.fn B o5 GA Go m_isinstance m_str m_enumerate
  have Gi := (e13.df Gi_)
  have Lt_ := ok_take (P := l.prog) (w := w) (mg := mg) (base := base) e14.fn m_len m_min
  have Lt := (e14.df Lt_)
  have Lo_ := ok_lo e15.fn Lt m_range
  have Lo := (e15.df Lo_)
  have Lx_ := ok_lt (P := l.prog) (w := w) (mg := mg) (base := base) e16.fn m_str m_int
  have Lx := (e16.df Lx_)
  have Ln_ := ok_lnm (P := l.prog) (w := w) (mg := mg) (base := base) e17.fn m_len m_int
  have Ln := (e17.df Ln_)
  have Lr_ := ok_rdA e18.fn Ln m_enumerate m_int
  have Lr := (e18.df Lr_)
  have Z : KitU K mg D CE7 CE6 CE5 := ⟨T, cat_of eE7, cat_of eE6, cat_of eE5, cat_base B, fld_of eE7 nf7, fld_of eE6 nf6, fld_of eE5 nf5, mro_self eE7, mro_self eE6, mro_self eE5, mro_no B eE5 eE7 (by decide +kernel), mro_no B eE7 eE6 (by decide +kernel), mD, mg_of X G a7, mg_of X G a6, mg_of X G a5⟩
  have La_ := ok_td e19.fn Z Gi
  have La := (e19.df La_)
  have Lw_ := ok_wr e20.fn Z Gs
  have Lw := (e20.df Lw_)
  have Lp_ := ok_st e21.fn Lt m_range m_len
  have Lp := (e21.df Lp_)
  have Ll_ := ok_pl (P := l.prog) (w := w) (mg := mg) (base := base) T e22.fn m_isinstance m_bool m_list m_len
  have Ll := (e22.df Ll_)
  have I0 := ok_mei (P := l.prog) (w := w) (mg := mg) (base := base) y0.fn
  have I1 := ok_sui y1.fn CF_M_init I0 y0.bi mB_M
  have I2 := ok_rui (P := l.prog) (w := w) (mg := mg) (base := base) y2.fn
  have I3 := ok_spi y3.fn CF_R_init I2 y2.bi mB_R GM GP n_MOST_FOLK
  have Q : Dl l.prog w K mg base D U S CE5 CE7 m1 m3 fE5 _ _ _ _ _ _ _ _ _ x1 x3 _ _ _ _ _ _ _ _ _ _ := ⟨Lt, Lo, Lx, Lr, La, Lw, Lp, Ll, Gi, mk_U, I1, y1.bi, mC_U, mk_S, I3, y3.bi, mC_S, B, o5, m_range, m_max, m_min, m_len, m_tuple, m_list, m_repr⟩
  have kU : KI K U := ⟨cls_U, ca_U, gt, tkT, hm_U, kit_tyM (by decide +kernel) mr_U_tuple, kit_tyM (by decide +kernel) mr_U_list, kit_tyM (by decide +kernel) mr_U_str⟩
  have kS : KI K S := ⟨cls_S, ca_S, gt, tkT, hm_S, kit_tyM (by decide +kernel) mr_S_tuple, kit_tyM (by decide +kernel) mr_S_list, kit_tyM (by decide +kernel) mr_S_str⟩
  exact ok_law e23.fn Q kU kS no_U_mark ⟨no_S_size, no_S_first_state, no_S_mark, no_S_parts⟩ eE5.it (kit_ty eE5 (by decide +kernel) (by decide +kernel)) (kit_ty eE5 (by decide +kernel) (by decide +kernel)) (kit_ty eE5 (by decide +kernel) (by decide +kernel))
theorem walk {l : OpenLaw} {q : Program} {loose : List Str} {XP : (Str → Option Value) → Heap → Prop} {YP : World → Heap → Prop} {d : DefRec} {K : Params → Frag} (hn : l.most = some 63) (hdf : d.params.defaults = [])
    (hY : ∀ (w : World) (h : Heap), YP w h → (K w.params).In h)
    (F : ∀ (w : World) (mg : Str → Option Value) (fa : Addr) (h : Heap), (K w.params).In h → h.Ns mainGlobals mg → mg d.name = some (.ref fa) →
      ∃ fd : FuncData, (∀ (s : Shared) (u : Value), BindsTo s fd ⟨[u], []⟩ [("_law_script", u)]) ∧ ∀ base : Heap, (K w.params).In base → base.Ns mainGlobals mg → FnOk l.prog w (K w.params) mg base CX0 8 fa fd ["_law_script"] (spLaw (K w.params))) :
    WalkO q loose XP YP l.row.toRowW d [] (fun f vs => PySem.call f vs) :=
  L2.walk_ofS (n := 63) (k := 8) (x := "_law_script") (CX := fun _ => CX0) (sp := fun w => spLaw (K w.params)) hn (by decide) hdf ⟨rfl, by decide, by decide, rfl⟩ hY F (fun _ _ a ns hl _ hS hz => ⟨a, ns, rfl, hS, hl, hz, fun _ => rfl⟩) fun _ _ _ _ _ z => z
end My
open PySem PySem.W PyProof.Rows
set_option Elab.async false
def PySem.W.Fast.tw17972956510888758130 : Unit := ()
def PySem.W.Fast.tw7572154115759324958 : Unit := ()
def PySem.W.Fast.tw13923484587021918290 : Unit := ()
def PySem.W.Fast.tw3224953592059292442 : Unit := ()
def PySem.W.Fast.tw6457494570905396215 : Unit := ()
def PySem.W.Fast.tw15031769820153129058 : Unit := ()
def PySem.W.Fast.tw1466841525908168652 : Unit := ()
def PySem.W.Fast.tw10605977252418293936 : Unit := ()
def PySem.W.Fast.tw17667962846710133024 : Unit := ()
def PySem.W.Fast.tw7273606276400281901 : Unit := ()
def PySem.W.Fast.tw10340242621153349815 : Unit := ()
def PySem.W.Fast.tw13767496189926418466 : Unit := ()
def PySem.W.Fast.tw14486415553654253466 : Unit := ()
set_option maxRecDepth 100000 in
set_option maxHeartbeats 0 in
theorem PySem.Challenge.cw_trialdeal_k15_texts_of_outcomes_holds : PySem.Challenge.rw_trialdeal_k15_texts_of_outcomes.Holds := by
  w_on; o_law; k_head; (case hw => w_witness2)
  k_fill
  refine My.walk (l := PySem.Challenge.rw_trialdeal_k15_texts_of_outcomes) rfl rfl (fun w h Y => PySem.W.kIn_of Y) ?F
  case F =>
    intro w mg fa h KX G hmg
    refine' My.all_mk KX G hmg (My.base_mk ?my_lD ?my_lN ?my_sk ?my_ni ?my_gaD ?my_rdD ?my_inD ?my_fiD ?my_kpD ?my_gbD ?my_hkD ?my_caD)
      (My.err_mk "NoText" ?my_l5 ?my_i5 ?my_t5 ?my_k5 ?my_s5 ?my_g5 ?my_h5 ?my_c5)
      (My.err_mk "NoFolk" ?my_l6 ?my_i6 ?my_t6 ?my_k6 ?my_s6 ?my_g6 ?my_h6 ?my_c6)
      (My.err_mk "NoOutcome" ?my_l7 ?my_i7 ?my_t7 ?my_k7 ?my_s7 ?my_g7 ?my_h7 ?my_c7)
      ?f_aD ?f_a5 ?f_a6 ?f_a7 ?f_lf5 ?f_cf5 ?f_kf5 ?f_tk5 ?f_nf5 ?f_lf6 ?f_cf6 ?f_kf6 ?f_tk6 ?f_nf6 ?f_lf7 ?f_cf7 ?f_kf7 ?f_tk7 ?f_nf7 ?f_ns_M ?f_sga_M ?f_srd_M ?f_sat_M_init ?f_ns_R ?f_sga_R ?f_srd_R ?f_sat_R_init ?f_nc_U ?f_pg_U ?f_hd_U ?f_po_U ?f_sa_U ?f_mks_U ?f_kp_U ?f_ca_U ?f_hm_U ?f_icl_U ?f_tyl_U ?f_no_U_mark ?f_fi_U_init ?f_mr_U_tuple ?f_mr_U_list ?f_mr_U_str ?f_nc_S ?f_pg_S ?f_hd_S ?f_po_S ?f_sa_S ?f_mks_S ?f_kp_S ?f_ca_S ?f_hm_S ?f_icl_S ?f_tyl_S ?f_no_S_size ?f_no_S_first_state ?f_no_S_mark ?f_no_S_parts ?f_fi_S_init ?f_mr_S_tuple ?f_mr_S_list ?f_mr_S_str ?f_i_LEAST_NUMBER ?f_i_MOST_NUMBER ?f_i_MOST_FOLK ?f_gt ?f_tkT ?f_aF ?f_z_isinstance ?f_z_int ?f_z_bool ?f_z_len ?f_z_range ?f_z_tuple ?f_z_list ?f_z_enumerate ?f_z_repr ?f_z_max ?f_z_min ?f_z_str
      (My.dn_of My.bp0 KX G ?my_A0 ?my_L0 ?my_C0 ?my_K0)
      (My.dn_of My.bp1 KX G ?my_A1 ?my_L1 ?my_C1 ?my_K1)
      (My.dn_of My.bp2 KX G ?my_A2 ?my_L2 ?my_C2 ?my_K2)
      (My.dn_of My.bp3 KX G ?my_A3 ?my_L3 ?my_C3 ?my_K3)
      (My.dn_of My.bp4 KX G ?my_A4 ?my_L4 ?my_C4 ?my_K4)
      (My.dn_of My.bp5 KX G ?my_A5 ?my_L5 ?my_C5 ?my_K5)
      (My.dn_of My.bp6 KX G ?my_A6 ?my_L6 ?my_C6 ?my_K6)
      (My.dn_of My.bp7 KX G ?my_A7 ?my_L7 ?my_C7 ?my_K7)
      (My.dn_of My.bp8 KX G ?my_A8 ?my_L8 ?my_C8 ?my_K8)
      (My.dn_of My.bp9 KX G ?my_A9 ?my_L9 ?my_C9 ?my_K9)
      (My.dn_of My.bp10 KX G ?my_A10 ?my_L10 ?my_C10 ?my_K10)
      (My.dn_of My.bp11 KX G ?my_A11 ?my_L11 ?my_C11 ?my_K11)
      (My.dn_of My.bp12 KX G ?my_A12 ?my_L12 ?my_C12 ?my_K12)
      (My.dn_of My.bp13 KX G ?my_A13 ?my_L13 ?my_C13 ?my_K13)
      (My.dn_of My.bp14 KX G ?my_A14 ?my_L14 ?my_C14 ?my_K14)
      (My.dn_of My.bp15 KX G ?my_A15 ?my_L15 ?my_C15 ?my_K15)
      (My.dn_of My.bp16 KX G ?my_A16 ?my_L16 ?my_C16 ?my_K16)
      (My.dn_of My.bp17 KX G ?my_A17 ?my_L17 ?my_C17 ?my_K17)
      (My.dn_of My.bp18 KX G ?my_A18 ?my_L18 ?my_C18 ?my_K18)
      (My.dn_of My.bp19 KX G ?my_A19 ?my_L19 ?my_C19 ?my_K19)
      (My.dn_of My.bp20 KX G ?my_A20 ?my_L20 ?my_C20 ?my_K20)
      (My.dn_of My.bp21 KX G ?my_A21 ?my_L21 ?my_C21 ?my_K21)
      (My.dn_of My.bp22 KX G ?my_A22 ?my_L22 ?my_C22 ?my_K22)
      (My.dn_of My.bp23 KX G ?my_A23 ?my_L23 ?my_C23 ?my_K23)
      (My.dm_of My.bm0 ?my_ML0 ?my_MC0 ?my_MK0 ?my_MF0)
      (My.dm_of My.bm1 ?my_ML1 ?my_MC1 ?my_MK1 ?my_MF1)
      (My.dm_of My.bm2 ?my_ML2 ?my_MC2 ?my_MK2 ?my_MF2)
      (My.dm_of My.bm3 ?my_ML3 ?my_MC3 ?my_MK3 ?my_MF3)
      (fun s v => .of_eq rfl)
    (case f_aD => k_is); (case f_a5 => k_is); (case f_a6 => k_is); (case f_a7 => k_is); (case my_lD => k_is); (case my_lN => k_is)
    (case my_sk => exact My.strKeys_of rfl)
    (case my_ni => first | rfl | decide +kernel)
    (case my_gaD => k_is); (case my_rdD => k_is); (case my_inD => k_is); (case my_fiD => k_is); (case my_kpD => k_is); (case my_gbD => k_is); (case my_hkD => k_is); (case my_caD => k_is)
    (case my_l5 => k_is); (case my_i5 => k_is); (case my_t5 => k_is); (case my_k5 => k_is); (case my_s5 => k_is); (case my_g5 => k_is); (case my_h5 => k_is); (case my_c5 => k_is)
    (case my_l6 => k_is); (case my_i6 => k_is); (case my_t6 => k_is); (case my_k6 => k_is); (case my_s6 => k_is); (case my_g6 => k_is); (case my_h6 => k_is); (case my_c6 => k_is)
    (case my_l7 => k_is); (case my_i7 => k_is); (case my_t7 => k_is); (case my_k7 => k_is); (case my_s7 => k_is); (case my_g7 => k_is); (case my_h7 => k_is); (case my_c7 => k_is)
    (case f_ns_M => k_is); (case f_ns_R => k_is); (case f_nc_U => k_is); (case f_nc_S => k_is)
    (case f_sat_M_init => k_is); (case f_sat_R_init => k_is); (case f_fi_U_init => k_is); (case f_fi_S_init => k_is)
    (case f_lf5 => k_is); (case f_cf5 => k_is); (case f_kf5 => k_is); (case f_tk5 => k_is); (case f_nf5 => k_is); (case f_lf6 => k_is); (case f_cf6 => k_is); (case f_kf6 => k_is)
    (case f_tk6 => k_is); (case f_nf6 => k_is); (case f_lf7 => k_is); (case f_cf7 => k_is); (case f_kf7 => k_is); (case f_tk7 => k_is); (case f_nf7 => k_is); (case f_sga_M => k_is)
    (case f_srd_M => k_is); (case f_sga_R => k_is); (case f_srd_R => k_is); (case f_pg_U => k_is); (case f_hd_U => k_is); (case f_po_U => k_is); (case f_sa_U => k_is); (case f_mks_U => k_is)
    (case f_kp_U => k_is); (case f_ca_U => k_is); (case f_hm_U => k_is); (case f_icl_U => k_is); (case f_tyl_U => k_is); (case f_no_U_mark => k_is); (case f_mr_U_tuple => k_is); (case f_mr_U_list => k_is)
    (case f_mr_U_str => k_is); (case f_pg_S => k_is); (case f_hd_S => k_is); (case f_po_S => k_is); (case f_sa_S => k_is); (case f_mks_S => k_is); (case f_kp_S => k_is); (case f_ca_S => k_is)
    (case f_hm_S => k_is); (case f_icl_S => k_is); (case f_tyl_S => k_is); (case f_no_S_size => k_is); (case f_no_S_first_state => k_is); (case f_no_S_mark => k_is); (case f_no_S_parts => k_is); (case f_mr_S_tuple => k_is)
    (case f_mr_S_list => k_is); (case f_mr_S_str => k_is); (case f_i_LEAST_NUMBER => k_is); (case f_i_MOST_NUMBER => k_is); (case f_i_MOST_FOLK => k_is); (case f_gt => k_is); (case f_tkT => k_is); (case f_aF => k_is)
    (case f_z_isinstance => k_is); (case f_z_int => k_is); (case f_z_bool => k_is); (case f_z_len => k_is); (case f_z_range => k_is); (case f_z_tuple => k_is); (case f_z_list => k_is); (case f_z_enumerate => k_is)
    (case f_z_repr => k_is); (case f_z_max => k_is); (case f_z_min => k_is); (case f_z_str => k_is)
    (case my_A0 => k_is); (case my_L0 => k_is); (case my_C0 => k_is); (case my_K0 => k_is)
    (case my_A1 => k_is); (case my_L1 => k_is); (case my_C1 => k_is); (case my_K1 => k_is)
    (case my_A2 => k_is); (case my_L2 => k_is); (case my_C2 => k_is); (case my_K2 => k_is)
    (case my_A3 => k_is); (case my_L3 => k_is); (case my_C3 => k_is); (case my_K3 => k_is)
    (case my_A4 => k_is); (case my_L4 => k_is); (case my_C4 => k_is); (case my_K4 => k_is)
    (case my_A5 => k_is); (case my_L5 => k_is); (case my_C5 => k_is); (case my_K5 => k_is)
    (case my_A6 => k_is); (case my_L6 => k_is); (case my_C6 => k_is); (case my_K6 => k_is)
    (case my_A7 => k_is); (case my_L7 => k_is); (case my_C7 => k_is); (case my_K7 => k_is)
    (case my_A8 => k_is); (case my_L8 => k_is); (case my_C8 => k_is); (case my_K8 => k_is)
    (case my_A9 => k_is); (case my_L9 => k_is); (case my_C9 => k_is); (case my_K9 => k_is)
    (case my_A10 => k_is); (case my_L10 => k_is); (case my_C10 => k_is); (case my_K10 => k_is)
    (case my_A11 => k_is); (case my_L11 => k_is); (case my_C11 => k_is); (case my_K11 => k_is)
    (case my_A12 => k_is); (case my_L12 => k_is); (case my_C12 => k_is); (case my_K12 => k_is)
    (case my_A13 => k_is); (case my_L13 => k_is); (case my_C13 => k_is); (case my_K13 => k_is)
    (case my_A14 => k_is); (case my_L14 => k_is); (case my_C14 => k_is); (case my_K14 => k_is)
    (case my_A15 => k_is); (case my_L15 => k_is); (case my_C15 => k_is); (case my_K15 => k_is)
    (case my_A16 => k_is); (case my_L16 => k_is); (case my_C16 => k_is); (case my_K16 => k_is)
    (case my_A17 => k_is); (case my_L17 => k_is); (case my_C17 => k_is); (case my_K17 => k_is)
    (case my_A18 => k_is); (case my_L18 => k_is); (case my_C18 => k_is); (case my_K18 => k_is)
    (case my_A19 => k_is); (case my_L19 => k_is); (case my_C19 => k_is); (case my_K19 => k_is)
    (case my_A20 => k_is); (case my_L20 => k_is); (case my_C20 => k_is); (case my_K20 => k_is)
    (case my_A21 => k_is); (case my_L21 => k_is); (case my_C21 => k_is); (case my_K21 => k_is)
    (case my_A22 => k_is); (case my_L22 => k_is); (case my_C22 => k_is); (case my_K22 => k_is)
    (case my_A23 => k_is); (case my_L23 => k_is); (case my_C23 => k_is); (case my_K23 => k_is)
    (case my_ML0 => k_is); (case my_MC0 => k_is); (case my_MK0 => k_is); (case my_MF0 => k_is)
    (case my_ML1 => k_is); (case my_MC1 => k_is); (case my_MK1 => k_is); (case my_MF1 => k_is)
    (case my_ML2 => k_is); (case my_MC2 => k_is); (case my_MK2 => k_is); (case my_MF2 => k_is)
    (case my_ML3 => k_is); (case my_MC3 => k_is); (case my_MK3 => k_is); (case my_MF3 => k_is)
